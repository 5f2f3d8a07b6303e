import PyProof.Rows.All
import Wide.All
import OpenK.AllK
import Wide.FinOn
import Lean
import PyProof.EqAt
import PyProof.EqKinds
import PyProof.TupleCall
import KE.KItemsList
import KE.KMinBuiltin
import KE.KRevIter
import KE.KTryMore
import PyProof.ExcArgs
import PyProof.ExcAttrAll.ValueError
import PyProof.NsDelKeeps
import PyProof.InstStoreFacts
import PySem.Challenge.RW_tautline_k31_whole_pulled_tight
set_option bootstrap.genMatcherCode false
set_option compiler.extract_closed false
set_option genSizeOfSpec false
set_option Elab.async false
set_option linter.all false
set_option maxRecDepth 100000
namespace L2
open PySem PySem.Spec PyProof.Rows
noncomputable abbrev Key:=Sum Int Str
noncomputable def zmV:Key→Value→Bool
 | .inl k,v=>Value.isInt k v
 | .inr x,v=>Value.isStrOf x v
noncomputable def keyH (w:World):Key→Int
 | .inl k=>hashInt k
 | .inr x=>hashStr w x
theorem yo:∀ {k:Key} {v:Value},zmV k v=true→(∃ i t,k=Sum.inl i∧v=Value.int i t)∨(∃ x t,k=Sum.inr x∧v=Value.str x t)
 | .inl i,v,h=>by
   obtain ⟨t,e⟩:=Value.isInt_shape (k:=i) (v:=v) h
   exact .inl ⟨i,t,rfl,e⟩
 | .inr x,v,h=>by
   obtain ⟨t,e⟩:=Value.isStrOf_shape (x:=x) (v:=v) h
   exact .inr ⟨x,t,rfl,e⟩
theorem zmU (a b:Int):decide ((Sum.inl a:Key)=Sum.inl b)=(a == b):=by
 by_cases e:a=b
 ·subst e; simp
 ·have h:¬ (Sum.inl a:Key)=Sum.inl b:=fun q=>e (Sum.inl.inj q)
  rw [decide_eq_false h]
  exact (beq_eq_false_iff_ne.mpr e).symm
theorem zmR (a b:Str):decide ((Sum.inr a:Key)=Sum.inr b)=decide (a=b):=by
 by_cases e:a=b
 ·subst e; simp
 ·have h:¬ (Sum.inr a:Key)=Sum.inr b:=fun q=>e (Sum.inr.inj q)
  rw [decide_eq_false h,decide_eq_false e]
theorem zmT (a:Int) (b:Str):decide ((Sum.inl a:Key)=Sum.inr b)=false:=decide_eq_false (fun q=>nomatch q)
theorem zmS (a:Str) (b:Int):decide ((Sum.inr a:Key)=Sum.inl b)=false:=decide_eq_false (fun q=>nomatch q)
noncomputable def zeh (prog:Program) (w:World):PySem.KeyKind prog w Key where
 is:=zmV
 hash:=keyH w
 inj:=fun v a b ha hb=>by
  rcases yo ha with ⟨i,t,rfl,rfl⟩ | ⟨x,t,rfl,rfl⟩
  ·rcases yo hb with ⟨j,u,rfl,e⟩ | ⟨y,u,rfl,e⟩
   ·injection e with e1 _; rw [e1]
   ·exact nomatch e
  ·rcases yo hb with ⟨j,u,rfl,e⟩ | ⟨y,u,rfl,e⟩
   ·exact nomatch e
   ·injection e with e1 _; rw [e1]
 byValue:=fun k v h=>by
  rcases yo h with ⟨i,t,rfl,rfl⟩ | ⟨x,t,rfl,rfl⟩ <;> rfl
 pyHash:=fun hv h=>by
  rcases yo hv with ⟨i,t,rfl,rfl⟩ | ⟨x,t,rfl,rfl⟩
  ·exact wpAny_pyHash_int h
  ·exact wpAny_pyHash_str h
 eqBool:=fun hu hv h=>by
  rcases yo hu with ⟨i,t,rfl,rfl⟩ | ⟨x,t,rfl,rfl⟩
  ·rcases yo hv with ⟨j,u,rfl,rfl⟩ | ⟨y,u,rfl,rfl⟩
   ·rw [zmU] at h; exact wpAny_eqBool_int h
   ·rw [zmT] at h; exact SeqAt.EqAt.int_str i t y u _ _ _ _ h
  ·rcases yo hv with ⟨j,u,rfl,rfl⟩ | ⟨y,u,rfl,rfl⟩
   ·rw [zmS] at h; exact SeqAt.EqAt.str_int x t j u _ _ _ _ h
   ·rw [zmR] at h; exact wpAny_eqBool_str h
 «strs» := fun k x t v h=>by
  rcases yo h with ⟨i,u,rfl,e⟩ | ⟨y,u,rfl,e⟩
  ·exact nomatch e
  ·injection e with e1 _
   subst e1
   cases v <;> rfl
end L2
namespace L2
open PySem PySem.Spec PyProof.Rows
inductive V where
 | non | bl (b:Bool) | int (i:Int) | str (x:Str) | byt (b:Array UInt8) | flt (b:UInt64) | ref (a:Addr) | ty (n:String)
 deriving DecidableEq
noncomputable def RelV:V→Value→Prop
 | .non,u=>u=Value.none
 | .bl b,u=>u=Value.bool b
 | .int i,u=>∃ t,u=Value.int i t
 | .str x,u=>∃ t,u=Value.str x t
 | .byt b,u=>∃ t,u=Value.bytes b t
 | .flt b,u=>∃ t,u=Value.float b t
 | .ref a,u=>u=Value.ref a
 | .ty n,u=>u=Value.type n
noncomputable abbrev Vals:List V→List Value→Prop:=Paired RelV
theorem Vals.length {xs:List V} {us:List Value} (r:Vals xs us):xs.length=us.length:=Paired.length r
theorem Vals.get:∀ {xs:List V} {us:List Value} {i:Nat} {x:V},Vals xs us→xs[i]?=some x→∃ u,us[i]?=some u∧RelV x u
 | _,_,_,_,.nil,e=>by simp at e
 | _,_,0,_,.cons r _,e=>by simp at e; subst e; exact ⟨_,rfl,r⟩
 | _,_,i+1,x,.cons _ t,e=>by
   obtain ⟨u,h1,h2⟩:=Vals.get (i:=i) (x:=x) t (by simpa using e)
   exact ⟨u,by simpa using h1,h2⟩
theorem Vals.set {x:V} {u:Value} (r:RelV x u):∀ {xs:List V} {us:List Value} (i:Nat),Vals xs us→Vals (xs.set i x) (us.set i u)
 | _,_,_,.nil=>.nil
 | _,_,0,.cons _ t=>.cons r t
 | _,_,i+1,.cons q t=>.cons q (Vals.set r i t)
theorem Vals.append:∀ {xs ys:List V} {us ws:List Value},Vals xs us→Vals ys ws→Vals (xs++ys) (us++ws)
 | _,_,_,_,.nil,s=>s
 | _,_,_,_,.cons r t,s=>.cons r (Vals.append t s)
theorem Vals.take:∀ {xs:List V} {us:List Value} (n:Nat),Vals xs us→Vals (xs.take n) (us.take n)
 | _,_,0,_=>.nil
 | _,_,_+1,.nil=>.nil
 | _,_,n+1,.cons r t=>.cons r (Vals.take n t)
theorem Vals.drop:∀ {xs:List V} {us:List Value} (n:Nat),Vals xs us→Vals (xs.drop n) (us.drop n)
 | _,_,0,r=>r
 | _,_,_+1,.nil=>.nil
 | _,_,n+1,.cons _ t=>Vals.drop n t
noncomputable def RelO:Option V→Option Value→Prop
 | some v,some u=>RelV v u
 | none,none=>True
 | _,_=>False
noncomputable def KV {κ:Type}:List (κ×V)→List (κ×Value)→Prop:=Paired fun (p:κ×V) (q:κ×Value)=>p.1=q.1∧RelV p.2 q.2
noncomputable def kV:Key→V
 | .inl i=>.int i
 | .inr x=>.str x
inductive HO where
 | lst (xs:List V)
 | tup (xs:List V)
 | dK (kvs:List (Key×V)) | dT (kvs:List (List Key×V))
 | set (S:Int→Bool) (n:Nat)
 | ins (C dx:Addr) (fs:List (Str×V))
 | own (x:Addr)
 | xd (fs:List (Str×V))
 | met (f x:Addr)
 | rng (lo hi:Int)
 | frz (o:Obj) (u:HO)
 | tbl (ps:Array Value)
 | ext (φ:Heap→Prop)
noncomputable abbrev Hp:=Addr→Option HO
noncomputable def upd (H:Hp) (a:Addr) (o:HO):Hp:=fun b=>if b=a then some o else H b
theorem yc {H:Hp} {a:Addr} {o:HO}:upd H a o a=some o:=by unfold upd; rw [if_pos rfl]
theorem zN {H:Hp} {a b:Addr} {o:HO} (h:b≠a):upd H a o b=H b:=by unfold upd; rw [if_neg h]
theorem zI {H:Hp} {a b:Addr} {o:HO} (h:H a=some o) (h':H b=none):a≠b:=by
 intro e; subst e; rw [h] at h'; cases h'
section
variable (P:Program) (w:World)
noncomputable def x4 (H:Hp) (h:Heap) (a:Addr):HO→Prop
 | .lst xs=>xs.length≤sizeLine∧∃ (its:List Value) (n:Nat),Vals xs its∧h.get? a=some { cls:=.type "list",data:=.seq its.toArray n }
 | .tup xs=>xs.length≤sizeLine∧∃ its:List Value,Vals xs its∧IsTup h a its.toArray
 | .dK kvs=>kvs.length≤sizeLine∧(a == sysModules)=false∧∃ vs,KV kvs vs∧h.DictOf (zeh P w) a vs
 | .dT kvs=>kvs.length≤sizeLine∧(a == sysModules)=false∧∃ xs:List (List Key×Addr×Value),
  Paired (fun (p:List Key×V) (q:List Key×Addr×Value)=>p.1=q.1∧H q.2.1=some (.tup (p.1.map kV))∧RelV p.2 q.2.2) kvs xs ∧
  ∃ o es ep,h.get? a=some o∧o.ExactDict∧o.data=.dict es ep∧es.toList=xs.map (entryOfKey (tupleKind (zeh P w)))∧(xs.map (·.1)).Nodup
 | .set S n=>h.SetOf (intKind P w) a S n
 | .ins C dx fs=>H dx=some (.own a)∧fs.length≤1000∧dx≠a∧h.get? a=some (PySem.W.instObj C dx) ∧
  ∃ mA,h.Ns1 dx mA∧(∀ f,RelO (fs.lookup f) (mA f))∧PySem.Within mA (fs.map (·.1))
 | .own _=>∃ o,h.get? a=some o
 | .xd fs=>∃ mA,h.Ns1 a mA∧∀ f,RelO (fs.lookup f) (mA f)
 | .rng lo hi=>∃ t u v,h.get? a=some { cls:=.type "range",data:=.fields #[.int lo t,.int hi u,.int 1 v] }
 | .frz o u=>h.get? a=some o∧x4 H h a u
 | .tbl ps=>h.get? a=some { cls:=.none,data:=.fields ps }
 | .met f x=>h.get? a=some (PySem.W.methodObj (.ref f) (.ref x))
 | .ext φ=>φ h∧(∃ o,h.get? a=some o)∧∀ h1 h2:Heap,φ h1→(∀ o,h1.get? a=some o→h2.get? a=some o)→φ h2
noncomputable def HOk (H:Hp) (h:Heap):Prop:=∀ a o,H a=some o→x4 P w H h a o
end
section
variable {P:Program} {w:World} {H H':Hp} {h h':Heap} {a:Addr} {o:HO}
theorem x4.lt (x:x4 P w H h a o):a<h.objs.size:=by
 cases o with
 | lst xs=>obtain ⟨_,_,_,_,e⟩:=x; exact Heap.lt_size e
 | tup xs=>obtain ⟨_,_,_,p⟩:=x; exact p.lt
 | dK kvs=>obtain ⟨_,_,_,_,o,_,_,e,_⟩:=x; exact Heap.lt_size e
 | dT kvs=>obtain ⟨_,_,_,_,o,_,_,e,_⟩:=x; exact Heap.lt_size e
 | set S n=>obtain ⟨o,_,_,_,e,_⟩:=x; exact Heap.lt_size e
 | ins C dx fs=>obtain ⟨_,_,_,e,_⟩:=x; exact Heap.lt_size e
 | own y=>obtain ⟨_,e⟩:=x; exact Heap.lt_size e
 | xd fs=>obtain ⟨_,⟨_,_,_,e,_⟩,_⟩:=x; exact Heap.lt_size e
 | rng lo hi=>obtain ⟨_,_,_,e⟩:=x; exact Heap.lt_size e
 | frz ob u=>obtain ⟨e,_⟩:=x; exact Heap.lt_size e
 | tbl ps=>exact Heap.lt_size (show h.get? a=some _ from x)
 | met f y=>exact Heap.lt_size (show h.get? a=some _ from x)
 | ext φ=>obtain ⟨_,⟨_,e⟩,_⟩:=x; exact Heap.lt_size e
theorem Paired.mapP {α β:Type} {F G:α→β→Prop}:∀ {l₁:List α} {l₂:List β},Paired F l₁ l₂→(∀ a b,F a b→G a b)→Paired G l₁ l₂
 | _,_,.nil,_=>.nil
 | _,_,.cons r t,f=>.cons (f _ _ r) (Paired.mapP t f)
theorem x4.stay (x:x4 P w H h a o) (k:∀ b u,(b=a∨H b=some (.own a))→h.get? b=some u→h'.get? b=some u)
 (ho:∀ b,H b=some (.own a)→H' b=some (.own a)) (ht:∀ b xs,H b=some (.tup xs)→H' b=some (.tup xs)):x4 P w H' h' a o:=by
 induction o with
 | lst xs=>obtain ⟨z,its,n,r,e⟩:=x; exact ⟨z,its,n,r,k _ _ (.inl rfl) e⟩
 | tup xs=>obtain ⟨z,its,r,ob,e,c⟩:=x; exact ⟨z,its,r,ob,k _ _ (.inl rfl) e,c⟩
 | dK kvs=>obtain ⟨z,y,vs,r,ob,es,ep,e,c⟩:=x; exact ⟨z,y,vs,r,ob,es,ep,k _ _ (.inl rfl) e,c⟩
 | dT kvs =>
   obtain ⟨z,y,xs,r,ob,es,ep,e,c⟩:=x
   exact ⟨z,y,xs,Paired.mapP r fun p q z=>⟨z.1,ht _ _ z.2.1,z.2.2⟩,ob,es,ep,k _ _ (.inl rfl) e,c⟩
 | set S n=>obtain ⟨ob,es,ep,t,e,c⟩:=x; exact ⟨ob,es,ep,t,k _ _ (.inl rfl) e,c⟩
 | ins C dx fs =>
   obtain ⟨d,z,ne,e,mA,⟨od,es,ep,e2,c⟩,r⟩:=x
   exact ⟨ho _ d,z,ne,k _ _ (.inl rfl) e,mA,⟨od,es,ep,k _ _ (.inr d) e2,c⟩,r⟩
 | own y=>obtain ⟨ob,e⟩:=x; exact ⟨ob,k _ _ (.inl rfl) e⟩
 | xd fs=>obtain ⟨mA,⟨od,es,ep,e,c⟩,r⟩:=x; exact ⟨mA,⟨od,es,ep,k _ _ (.inl rfl) e,c⟩,r⟩
 | rng lo hi=>obtain ⟨t,u,v,e⟩:=x; exact ⟨t,u,v,k _ _ (.inl rfl) e⟩
 | frz ob u ih=>obtain ⟨e,q⟩:=x; exact ⟨k _ _ (.inl rfl) e,ih q⟩
 | tbl ps =>
   have e:h.get? a=some { cls:=.none,data:=.fields ps }:=x
   show h'.get? a=some { cls:=.none,data:=.fields ps }
   exact k a _ (.inl rfl) e
 | met f y =>
   have e:h.get? a=some (PySem.W.methodObj (.ref f) (.ref y)):=x
   show h'.get? a=some (PySem.W.methodObj (.ref f) (.ref y))
   exact k a _ (.inl rfl) e
 | ext φ=>obtain ⟨p,⟨o,e⟩,st⟩:=x; exact ⟨st _ _ p fun o q=>k _ _ (.inl rfl) q,⟨o,k _ _ (.inl rfl) e⟩,st⟩
theorem HOk.lt (x:HOk P w H h) (e:H a=some o):a<h.objs.size:=(x a o e).lt
theorem HOk.fresh (x:HOk P w H h) (e:h.objs.size≤a):H a=none:=by
 cases q:H a with
 | none=>rfl
 | some u=>exact absurd (Nat.lt_of_lt_of_le (x.lt q) e) (Nat.lt_irrefl _)
theorem HOk.kept (x:HOk P w H h) (k:∀ b u,h.get? b=some u→h'.get? b=some u):HOk P w H h':=fun a o e =>
 (x a o e).stay (fun b u _ q=>k b u q) (fun _ q=>q) fun _ _ q=>q
theorem HOk.laid (x:HOk P w H h) (k:∀ b u,h.get? b=some u→h'.get? b=some u) (hp:h.objs.size≤a) (new:x4 P w (upd H a o) h' a o):HOk P w (upd H a o) h':=fun b u e=>by
 have hn:=x.fresh hp
 by_cases hb:b=a
 ·subst hb; rw [yc] at e; cases e; exact new
 ·rw [zN hb] at e
  exact (x b u e).stay (fun c v _ q=>k c v q) (fun c q=>by rw [zN (zI q hn)]; exact q) fun c xs q=>by rw [zN (zI q hn)]; exact q
end
noncomputable def Rd (H:Hp) (a:Addr) (u:HO):Prop:=H a=some u∨∃ o,H a=some (.frz o u)
theorem Rd.ok {P:Program} {w:World} {H:Hp} {h:Heap} {a:Addr} {u:HO} (r:Rd H a u) (x:HOk P w H h):x4 P w H h a u:=by
 rcases r with r | ⟨o,r⟩
 ·exact x a u r
 ·obtain ⟨_,q⟩:=x a _ r
  exact q
noncomputable def Mut:Option HO→Prop
 | some (.lst _)=>True
 | some (.dK _)=>True
 | some (.dT _)=>True
 | some (.set _ _)=>True
 | some (.ins _ _ _)=>True
 | some (.ext _)=>True
 | _=>False
section
variable {P:Program} {w:World} {H:Hp} {h h':Heap} {x e:Addr} {o':HO}
theorem HOk.write (ok:HOk P w H h) (mu:Mut (H x)) (he:e=x∨H e=some (.own x)) (k:∀ b u,b≠e→h.get? b=some u→h'.get? b=some u) (heo:∃ u,h'.get? e=some u)
 (new:x4 P w (upd H x o') h' x o'):HOk P w (upd H x o') h':=fun b u q=>by
 have nown:∀ c y,H c=some (.own y)→c≠x:=fun c y r z=>by subst z; rw [r] at mu; exact mu
 have ntup:∀ c xs,H c=some (.tup xs)→c≠x:=fun c xs r z=>by subst z; rw [r] at mu; exact mu
 by_cases hb:b=x
 ·subst hb; rw [yc] at q; cases q; exact new
 ·rw [zN hb] at q
  by_cases hbe:b=e
  ·have q':H b=some (.own x):=by
    rcases he with z | z
    ·exact absurd (hbe.trans z) hb
    ·rw [hbe]; exact z
   rw [q] at q'; cases q'
   obtain ⟨v,hv⟩:=heo
   exact ⟨v,by rw [hbe]; exact hv⟩
  ·refine (ok b u q).stay (fun c v hc r=>k c v ?_ r) (fun c r=>by rw [zN (nown c b r)]; exact r) fun c xs r=>by rw [zN (ntup c xs r)]; exact r
   rcases hc with rfl | hc
   ·exact hbe
   ·rintro rfl
    rcases he with z | z
    ·exact nown c b hc z
    ·rw [hc] at z; cases z; exact hb rfl
end
structure Un (fs ex:List Addr) (H H':Hp) (h h':Heap):Prop where
 keep:∀ b o,h.get? b=some o→H b=none→b∉fs→b∉ex→h'.get? b=some o
 slot:∀ b o,h.get? b=some o→H b=none→b∈fs→b∉ex→∃ sl,h'.get? b=some { o with slots:=sl }
 free:∀ b o,h.get? b=some o→H b=none→b∉ex→H' b=none
 there:∀ b o,h.get? b=some o→b∉ex→∃ o',h'.get? b=some o'
 tups:∀ b xs,H b=some (.tup xs)→H' b=some (.tup xs)
 frzs:∀ b o u,H b=some (.frz o u)→H' b=some (.frz o u)
 tbls:∀ b ps,H b=some (.tbl ps)→∃ more,H' b=some (.tbl (ps++more))
section
variable {fs fs' ex ex':List Addr} {H H1 H2:Hp} {h h1 h2 h':Heap} {a x e:Addr} {o:HO}
theorem Un.any (u:Un fs ex H H1 h h1) {b:Addr} {ob:Obj} (q:h.get? b=some ob) (n:H b=none) (hx:b∉ex):∃ sl,h1.get? b=some { ob with slots:=sl }:=by
 by_cases hb:b∈fs
 ·exact u.slot b ob q n hb hx
 ·exact ⟨ob.slots,u.keep b ob q n hb hx⟩
theorem Un.kept (k:∀ b u,h.get? b=some u→h'.get? b=some u):Un fs ex H H h h' :=
 ⟨fun b ob q _ _ _=>k b ob q,fun b ob q _ _ _=>⟨ob.slots,k b ob q⟩,fun _ _ _ n _=>n,fun b ob q _=>⟨ob,k b ob q⟩,fun _ _ q=>q,fun _ _ _ q=>q,fun _ ps q=>⟨#[],by rw [q]; simp⟩⟩
theorem Un.refl:Un fs ex H H h h:=Un.kept fun _ _ q=>q
theorem Un.laid (k:∀ b u,h.get? b=some u→h'.get? b=some u) (hp:h.objs.size≤a) (hn:H a=none):Un fs ex H (upd H a o) h h' where
 keep:=fun b u q _ _ _=>k b u q
 slot:=fun b u q _ _ _=>⟨u.slots,k b u q⟩
 free:=fun b u q n _=>by rw [zN (Nat.ne_of_lt (Nat.lt_of_lt_of_le (Heap.lt_size q) hp))]; exact n
 there:=fun b u q _=>⟨u,k b u q⟩
 tups:=fun b xs q=>by rw [zN (zI q hn)]; exact q
 frzs:=fun b u xs q=>by rw [zN (zI q hn)]; exact q
 tbls:=fun b ps q=>⟨#[],by rw [zN (zI q hn),q]; simp⟩
theorem Un.write (mu:Mut (H x)) (he:e=x∨H e=some (.own x)) (k:∀ b u,b≠e→h.get? b=some u→h'.get? b=some u) (heo:∃ u,h'.get? e=some u):Un fs ex H (upd H x o) h h':=by
 have hx:∀ b,H b=none→b≠x:=fun b n z=>by subst z; rw [n] at mu; exact mu
 have hb:∀ b,H b=none→b≠e:=fun b n z=>by
  subst z
  rcases he with r | r
  ·exact hx b n r
  ·rw [n] at r; cases r
 have hm:∀ b u,H b=some u→¬ Mut (some u)→b≠x:=fun b u q nm z=>by subst z; rw [q] at mu; exact nm mu
 refine ⟨fun b u q n _ _=>k b u (hb b n) q,fun b u q n _ _=>⟨u.slots,k b u (hb b n) q⟩,fun b u q n _=>by rw [zN (hx b n)]; exact n,fun b u q _ => ?_,
  fun b xs q=>by rw [zN (hm b _ q fun z=>z)]; exact q,fun b u xs q=>by rw [zN (hm b _ q fun z=>z)]; exact q,fun b ps q=>⟨#[],by rw [zN (hm b _ q fun z=>z),q]; simp⟩⟩
 by_cases hbe:b=e
 ·subst hbe; exact heo
 ·exact ⟨u,k b u hbe q⟩
end
noncomputable def trk (h:Heap) (H:Hp):List Addr:=(List.range h.objs.size).filter fun a=>(H a).isSome
noncomputable def hidT (h:Heap) (H:Hp):Heap:=PySem.W.hideAll h (trk h H)
theorem zhR (h:Heap) (H:Hp):(hidT h H).objs.size=h.objs.size:=PySem.W.hideAll_size _ _
theorem zjm {h:Heap} {H:Hp} {b:Addr} {o:Obj} (e:h.get? b=some o) (n:H b=none):(hidT h H).get? b=some o :=
 PySem.W.hideAll_get _ e fun hm=>by
  have q:(H b).isSome=true:=(List.mem_filter.mp hm).2
  rw [n] at q; simp at q
theorem zk5 {h:Heap} {H:Hp} {b:Addr} {o:Obj} (e:(hidT h H).get? b=some o):h.get? b=some o∧H b=none:=by
 have e':h.get? b=some o:=PySem.W.of_hideAll (trk h H) e
 refine ⟨e',?_⟩
 cases q:H b with
 | none=>rfl
 | some x =>
   have hm:b∈trk h H:=List.mem_filter.mpr ⟨List.mem_range.mpr (Heap.lt_size e'),by simp [q]⟩
   have z:(hidT h H).get? b=none:=PySem.W.hideAll_none (trk h H) hm
   rw [z] at e; cases e
noncomputable def zlO (g h:Heap) (L:Addr):List (Addr×Obj):=(List.range h.objs.size).filterMap fun a=>if a=L∨(g.get? a).isSome=true then none else (h.get? a).map fun o=>(a,o)
noncomputable def rest (g h:Heap) (L d:Addr):List (Addr×Obj):=(zlO g h L).filter fun p=>decide (p.1≠d)
end L2
namespace L2
open PySem PySem.Spec PyProof.Rows
structure Mod (K:PySem.W.Frag) (mg:Str→Option Value) (base:Heap):Prop where
 kin:K.In base
 glob:base.Ns mainGlobals mg
 blt:∃ mb,base.Ns builtinsNs mb∧∀ x:Str,x ≠ "__name__" → mb x=bootBuiltins x
 nolimit:base.NoLimit
structure Cx where
 prog:Program
 w:World
 K:PySem.W.Frag
 mg:Str→Option Value
 base:Heap
 A:Around
 N:List Str
 s₀:Shared
 H₀:Hp
 env:Env
 outer:List Env
 stack:List Env
 ex:List Addr
 fn:Str→Bool
 calm:Bool
 pn:List (Addr×Obj)
 xe:Value→Shared→Prop
noncomputable def frs (l:List Env):List Addr:=l.filterMap (·.frame)
noncomputable abbrev Cx.fs (X:Cx):List Addr:=frs X.outer
noncomputable def Vis (sc:Scope) (x:Str):Prop:=sc.names.lookup x=some .local∨sc.names.lookup x=some .cell∨sc.names.lookup x=some .free
noncomputable def Loc (sc:Scope) (x:Str):Prop:=sc.names.lookup x=some .local∨sc.names.lookup x=some .cell
noncomputable def Look (env:Env) (h:Heap) (m:Str→Option Value) (x:Str) (u:Value):Prop :=
 (env.kindOf x=some .local∧m x=some u)∨((env.kindOf x=some .cell∨env.kindOf x=some .free)∧∃ c,env.cells.lookup x=some c∧h.IsCell c (some u))
structure Cx.Ok (X:Cx):Prop where
 mod:Mod X.K X.mg X.base
 kind:X.env.scope.kind=.function
 glob:X.env.globals=mainGlobals
 blt:X.env.builtins=builtinsNs
 above:X.s₀.heap.objs.size≤X.env.locals
 inj:∀ x y c,X.env.cells.lookup x=some c→X.env.cells.lookup y=some c→x=y
 has:∀ x,(X.env.kindOf x=some .cell∨X.env.kindOf x=some .free)→∃ c,X.env.cells.lookup x=some c
 cab:∀ x c,X.fn x=true→X.env.cells.lookup x=some c→X.s₀.heap.objs.size≤c
 hd:X.calm=true→X.A.handled=none
 frames:X.A.frames=some X.stack
 stk:X.stack=X.outer∨(X.stack=X.env::X.outer∧X.env.frame=some X.env.locals)
 exf:∀ b∈X.ex,b≠X.env.locals∧∀ x c,X.env.cells.lookup x=some c→c≠b
 bs:∀ b o,X.base.get? b=some o→X.s₀.heap.get? b=some o∧X.H₀ b=none
 bsz:X.base.objs.size≤X.s₀.heap.objs.size
 noex:∀ b o,X.base.get? b=some o→b∉X.ex
 exfs:∀ b∈X.ex,b∉X.fs
 funs:X.s₀.heap.FunFrames X.base X.outer
 frf:∀ b∈X.fs,X.H₀ b=none
structure Inv (X:Cx) (pins:List (Addr×Obj)) (σ:List (Option V)) (H:Hp) (s:Shared):Prop where
 ok:X.Ok
 os:s.os=X.s₀.os
 bare:AllBare s.gens
 base:Un X.fs X.ex X.H₀ H X.s₀.heap s.heap
 loc:∃ m,s.heap.Ns X.env.locals m∧∀ (i:Nat) (x:Str) (v:V),X.N[i]?=some x→σ[i]?=some (some v)→Vis X.env.scope x→∃ u,RelV v u∧Look X.env s.heap m x u
 cell:∀ x c,X.env.cells.lookup x=some c→∃ v,s.heap.IsCell c v
 free:H X.env.locals=none
 freeC:∀ x c,X.env.cells.lookup x=some c→H c=none
 pin:∀ p∈X.pn++pins,s.heap.get? p.1=some p.2∧H p.1=none∧p.1≠X.env.locals∧p.1∉X.fs∧∀ v,p.2.data≠.cell v
 hok:HOk X.prog X.w H s.heap
 len:σ.length=X.N.length
section
variable {X:Cx} {pins:List (Addr×Obj)} {σ:List (Option V)} {H H':Hp} {s:Shared} {h':Heap}
theorem Cx.Ok.nofr (ok:X.Ok) {b:Addr} {o:Obj} (e:X.base.get? b=some o):b∉X.fs:=fun hb=>by
 have:=(ok.funs.mem hb).1
 rw [e] at this; cases this
theorem Inv.bs (I:Inv X pins σ H s):∀ b o,X.base.get? b=some o→s.heap.get? b=some o∧H b=none:=fun b o e =>
 ⟨I.base.keep b o (I.ok.bs b o e).1 (I.ok.bs b o e).2 (I.ok.nofr e) (I.ok.noex b o e),I.base.free b o (I.ok.bs b o e).1 (I.ok.bs b o e).2 (I.ok.noex b o e)⟩
theorem Inv.bk (I:Inv X pins σ H s):∀ b o,X.base.get? b=some o→s.heap.get? b=some o:=fun b o e=>(I.bs b o e).1
theorem Inv.mod (I:Inv X pins σ H s):Mod X.K X.mg X.base:=I.ok.mod
theorem Inv.kIn (I:Inv X pins σ H s):X.K.In s.heap:=I.ok.mod.kin.keeps I.bk
theorem Inv.lt (I:Inv X pins σ H s):X.env.locals<s.heap.objs.size:=let ⟨_,hn,_⟩:=I.loc; hn.lt
theorem Inv.sz (I:Inv X pins σ H s):X.s₀.heap.objs.size≤s.heap.objs.size:=Nat.le_trans I.ok.above (Nat.le_of_lt I.lt)
theorem Inv.nofs (I:Inv X pins σ H s) {a:Addr} (h:s.heap.objs.size≤a):a∉X.fs:=fun hb=>by
 obtain ⟨_,o,ho,_⟩:=I.ok.funs.mem hb
 exact absurd (Nat.lt_of_lt_of_le (Heap.lt_size ho) (Nat.le_trans I.sz h)) (Nat.lt_irrefl _)
theorem Inv.cne (I:Inv X pins σ H s):∀ x c,X.env.cells.lookup x=some c→c≠X.env.locals:=fun x c e z=>by
 obtain ⟨v,o,ho,hd⟩:=I.cell x c e
 obtain ⟨m,⟨o',es,ep,ho',hd',_⟩,_⟩:=I.loc
 rw [z,ho'] at ho; cases ho; rw [hd'] at hd; cases hd
theorem Inv.funs (I:Inv X pins σ H s):s.heap.FunFrames X.base X.outer:=by
 have all:∀ (l:List Env),(∀ b∈frs l,b∈X.fs)→X.s₀.heap.FunFrames X.base l→s.heap.FunFrames X.base l:=by
  intro l
  induction l with
  | nil=>intro _ _; trivial
  | cons env r ih =>
    intro hs hl
    obtain ⟨hk,⟨L,o,hf,hn,ho,hd⟩,hr⟩:=hl
    have hL:L∈X.fs:=hs L (by unfold frs; rw [List.filterMap_cons,hf]; exact List.mem_cons_self)
    obtain ⟨sl,e⟩:=I.base.slot L o ho (I.ok.frf L hL) hL fun z=>I.ok.exfs L z hL
    exact ⟨hk,⟨L,_,hf,hn,e,hd⟩,ih (fun b hb=>hs b (by unfold frs; rw [List.filterMap_cons,hf]; exact List.mem_cons_of_mem _ hb)) hr⟩
 exact all X.outer (fun _ hb=>hb) I.ok.funs
theorem Inv.stack (I:Inv X pins σ H s):s.heap.FunFrames X.base X.stack:=by
 rcases I.ok.stk with e | ⟨e,hf⟩
 ·rw [e]; exact I.funs
 ·rw [e]
  obtain ⟨m,hn,_⟩:=I.loc
  refine .cons (by rw [I.ok.kind]; decide) hf hn ?_ I.funs
  exact Heap.get?_none_of_le (Nat.le_trans I.ok.bsz I.ok.above)
theorem Inv.stkSub (I:Inv X pins σ H s):∀ b∈frs X.stack,b∈X.env.locals::X.fs:=fun b hb=>by
 rcases I.ok.stk with e | ⟨e,hf⟩
 ·rw [e] at hb; exact List.mem_cons_of_mem _ hb
 ·rw [e] at hb
  unfold frs at hb
  rw [List.filterMap_cons,hf] at hb
  exact hb
theorem Inv.stkFree (I:Inv X pins σ H s):∀ b∈frs X.stack,H b=none:=fun b hb=>by
 rcases List.mem_cons.mp (I.stkSub b hb) with e | hb
 ·rw [e]; exact I.free
 ·obtain ⟨_,o,ho,_⟩:=I.ok.funs.mem hb
  exact I.base.free b o ho (I.ok.frf b hb) fun z=>I.ok.exfs b z hb
theorem Inv.step {g':Array GenState} {t':Nat} {d':Drawn} {ch:List Addr} (I:Inv X pins σ H s)
 (hch:∀ b∈ch,(b∈X.ex∨X.s₀.heap.objs.size≤b)∧b≠X.env.locals∧(∀ x c,X.env.cells.lookup x=some c→c≠b)∧∀ p∈X.pn++pins,p.1≠b)
 (keep:∀ b o,b≠X.env.locals→b∉X.fs→b∉ch→s.heap.get? b=some o→H b=none→h'.get? b=some o)
 (slot:∀ b o,b≠X.env.locals→b∈X.fs→b∉ch→s.heap.get? b=some o→H b=none→∃ sl,h'.get? b=some { o with slots:=sl }) (free:∀ b o,b∉ch→s.heap.get? b=some o→H b=none→H' b=none)
 (there:∀ b o,b∉ch→s.heap.get? b=some o→∃ o',h'.get? b=some o')
 (tups:∀ b xs,H b=some (.tup xs)→H' b=some (.tup xs)) (frzs:∀ b o u,H b=some (.frz o u)→H' b=some (.frz o u)) (tbls:∀ b ps,H b=some (.tbl ps)→∃ more,H' b=some (.tbl (ps++more)))
 (ns:∀ m,s.heap.Ns X.env.locals m→h'.Ns X.env.locals m) (hok:HOk X.prog X.w H' h') (hg:AllBare g') :
 Inv X pins σ H' { s with heap:=h',gens:=g',drawn:=d',toks:=t' }:=by
 have neL:∀ b o,X.s₀.heap.get? b=some o→b≠X.env.locals:=fun b o e=>Nat.ne_of_lt (Nat.lt_of_lt_of_le (Heap.lt_size e) I.ok.above)
 have neC:∀ b o,X.s₀.heap.get? b=some o→b∉X.ex→b∉ch:=fun b o e hx hb=>by
  rcases (hch b hb).1 with z | z
  ·exact hx z
  ·exact absurd (Nat.lt_of_lt_of_le (Heap.lt_size e) z) (Nat.lt_irrefl _)
 have cellK:∀ x c,X.env.cells.lookup x=some c→∀ v,s.heap.IsCell c v→h'.IsCell c v:=fun x c e v ⟨o,ho,hd⟩=>by
  have nch:c∉ch:=fun z=>(hch c z).2.2.1 x c e rfl
  by_cases hc:c∈X.fs
  ·obtain ⟨sl,q⟩:=slot c o (I.cne x c e) hc nch ho (I.freeC x c e)
   exact ⟨_,q,hd⟩
  ·exact ⟨o,keep c o (I.cne x c e) hc nch ho (I.freeC x c e),hd⟩
 refine ⟨I.ok,I.os,hg,⟨fun b o e n hb hx => ?_,fun b o e n hb hx => ?_,fun b o e n hx => ?_,fun b o e hx => ?_,fun b xs e=>tups b xs (I.base.tups b xs e),fun b o xs e=>frzs b o xs (I.base.frzs b o xs e),fun b ps e => ?_⟩,?_,fun x c e => ?_,?_,fun x c e => ?_,fun p hp => ?_,hok,I.len⟩
 ·exact keep b o (neL b o e) hb (neC b o e hx) (I.base.keep b o e n hb hx) (I.base.free b o e n hx)
 ·obtain ⟨sl,e1⟩:=I.base.slot b o e n hb hx
  obtain ⟨sl',e2⟩:=slot b _ (neL b o e) hb (neC b o e hx) e1 (I.base.free b o e n hx)
  exact ⟨sl',e2⟩
 ·obtain ⟨o',e1⟩:=I.base.there b o e hx
  exact free b o' (neC b o e hx) e1 (I.base.free b o e n hx)
 ·obtain ⟨o',e1⟩:=I.base.there b o e hx
  exact there b o' (neC b o e hx) e1
 ·obtain ⟨m1,e1⟩:=I.base.tbls b ps e
  obtain ⟨m2,e2⟩:=tbls b _ e1
  exact ⟨m1++m2,by rw [e2,Array.append_assoc]⟩
 ·obtain ⟨m,hn,hl⟩:=I.loc
  refine ⟨m,ns m hn,fun i x v e1 e2 e3 => ?_⟩
  obtain ⟨u,r,l⟩:=hl i x v e1 e2 e3
  refine ⟨u,r,?_⟩
  rcases l with l | ⟨k,c,e,z⟩
  ·exact .inl l
  ·exact .inr ⟨k,c,e,cellK x c e _ z⟩
 ·obtain ⟨v,z⟩:=I.cell x c e
  exact ⟨v,cellK x c e v z⟩
 ·obtain ⟨m,⟨o,_,_,ho,_⟩,_⟩:=I.loc
  exact free _ o (fun z=>(hch _ z).2.1 rfl) ho I.free
 ·obtain ⟨v,o,ho,hd⟩:=I.cell x c e
  exact free c o (fun z=>(hch c z).2.2.1 x c e rfl) ho (I.freeC x c e)
 ·obtain ⟨e,n,ne,nf,d⟩:=I.pin p hp
  have nch:p.1∉ch:=fun z=>(hch p.1 z).2.2.2 p hp rfl
  exact ⟨keep p.1 p.2 ne nf nch e n,free p.1 p.2 nch e n,ne,nf,d⟩
theorem Inv.un {t':Nat} (I:Inv X pins σ H s) (u:Un X.fs [] H H' s.heap h') (hok:HOk X.prog X.w H' h'):Inv X pins σ H' { s with heap:=h',toks:=t' }:=by
 obtain ⟨m,⟨o,es,ep,ho,r⟩,_⟩:=id I.loc
 obtain ⟨sl,hL⟩:=u.any ho I.free (by simp)
 exact I.step (g':=s.gens) (d':=s.drawn) (ch:=[]) (fun _ z=>nomatch z) (fun b o _ hb _ e n=>u.keep b o e n hb (by simp)) (fun b o _ hb _ e n=>u.slot b o e n hb (by simp)) (fun b o _ e n=>u.free b o e n (by simp)) (fun b o _ e=>u.there b o e (by simp)) u.tups u.frzs u.tbls (fun m' hm=>by
  obtain ⟨o',es',ep',ho',r'⟩:=hm
  rw [ho] at ho'; cases ho'
  exact ⟨_,es',ep',hL,r'⟩) hok I.bare
theorem Inv.call {g':Array GenState} {t':Nat} {d':Drawn} {ch:List Addr} (I:Inv X pins σ H s) (u:Un (frs X.stack) ch H H' s.heap h') (hok:HOk X.prog X.w H' h') (hg:AllBare g')
 (hch:∀ b∈ch,(b∈X.ex∨X.s₀.heap.objs.size≤b)∧b≠X.env.locals∧(∀ x c,X.env.cells.lookup x=some c→c≠b)∧∀ p∈X.pn++pins,p.1≠b) :
 Inv X pins σ H' { s with heap:=h',gens:=g',drawn:=d',toks:=t' }:=by
 obtain ⟨m,⟨o,es,ep,ho,r⟩,_⟩:=id I.loc
 obtain ⟨sl,hL⟩:=u.any ho I.free fun z=>(hch _ z).2.1 rfl
 exact I.step (ch:=ch) hch (fun b o hL hb hc e n=>u.keep b o e n (fun z=>(List.mem_cons.mp (I.stkSub b z)).elim hL hb) hc) (fun b o _ _ hc e n=>u.any e n hc) (fun b o hc e n=>u.free b o e n hc) (fun b o hc e=>u.there b o e hc) u.tups u.frzs u.tbls (fun m' hm=>by
  obtain ⟨o',es',ep',ho',r'⟩:=hm
  rw [ho] at ho'; cases ho'
  exact ⟨_,es',ep',hL,r'⟩) hok hg
theorem Inv.turned {t':Nat} {it:Addr} (I:Inv X pins σ H s) (k:∀ b o,b≠it→s.heap.get? b=some o→h'.get? b=some o) (hn:H it=none) (hL:it≠X.env.locals)
 (h1:it∈X.ex∨X.s₀.heap.objs.size≤it) (h2:∀ x c,X.env.cells.lookup x=some c→c≠it) (h3:∀ p∈X.pn++pins,p.1≠it):Inv X pins σ H { s with heap:=h',toks:=t' }:=by
 have nit:∀ b u,H b=some u→b≠it:=fun b u e z=>by rw [z,hn] at e; cases e
 refine I.step (g':=s.gens) (d':=s.drawn) (ch:=[it]) (fun b hb => ?_) (fun b o _ _ hc e _=>k b o (fun z=>hc (by simp [z])) e) (fun b o _ _ hc e _=>⟨o.slots,k b o (fun z=>hc (by simp [z])) e⟩) (fun _ _ _ _ n=>n)
  (fun b o hc e=>⟨o,k b o (fun z=>hc (by simp [z])) e⟩) (fun _ _ e=>e) (fun _ _ _ e=>e) (fun b ps e=>⟨#[],by rw [e]; simp⟩) (fun m hm => ?_) (fun b u e => ?_) I.bare
 ·have e:b=it:=by simpa using hb
  subst e
  exact ⟨h1,hL,h2,h3⟩
 ·obtain ⟨o,es,ep,ho,r⟩:=hm
  exact ⟨o,es,ep,k _ o (Ne.symm hL) ho,r⟩
 ·refine (I.hok b u e).stay (fun c v hc q=>k c v ?_ q) (fun _ q=>q) fun _ _ q=>q
  rcases hc with z | z
  ·rw [z]; exact nit b u e
  ·exact nit c _ z
theorem Inv.tok (I:Inv X pins σ H s) (t:Nat):Inv X pins σ H { s with toks:=t }:=I.un (h':=s.heap) (t':=t) Un.refl I.hok
theorem Inv.kept {t':Nat} (I:Inv X pins σ H s) (k:∀ b u,s.heap.get? b=some u→h'.get? b=some u):Inv X pins σ H { s with heap:=h',toks:=t' }:=I.un (Un.kept k) (I.hok.kept k)
theorem Inv.laid {a:Addr} {o:HO} {t':Nat} (I:Inv X pins σ H s) (k:∀ b u,s.heap.get? b=some u→h'.get? b=some u) (hp:s.heap.objs.size≤a) (new:x4 X.prog X.w (upd H a o) h' a o) :
 Inv X pins σ (upd H a o) { s with heap:=h',toks:=t' }:=I.un (Un.laid k hp (I.hok.fresh hp)) (I.hok.laid k hp new)
theorem Inv.write {x e:Addr} {o:HO} {t':Nat} (I:Inv X pins σ H s) (mu:Mut (H x)) (he:e=x∨H e=some (.own x)) (k:∀ b u,b≠e→s.heap.get? b=some u→h'.get? b=some u) (heo:∃ u,h'.get? e=some u)
 (new:x4 X.prog X.w (upd H x o) h' x o):Inv X pins σ (upd H x o) { s with heap:=h',toks:=t' }:=I.un (Un.write mu he k heo) (I.hok.write mu he k heo new)
theorem Inv.pins_of {pins':List (Addr×Obj)} (I:Inv X pins σ H s) (h:∀ p∈pins',s.heap.get? p.1=some p.2∧H p.1=none∧p.1≠X.env.locals∧p.1∉X.fs∧∀ v,p.2.data≠.cell v):Inv X pins' σ H s :=
 ⟨I.ok,I.os,I.bare,I.base,I.loc,I.cell,I.free,I.freeC,fun p hp=>(List.mem_append.mp hp).elim (fun z=>I.pin p (List.mem_append_left _ z)) (h p),I.hok,I.len⟩
theorem zfz {N:List Str} (hN:N.Nodup) {i j:Nat} {x:Str} (a:N[i]?=some x) (b:N[j]?=some x):i=j:=by
 obtain ⟨h1,e1⟩:=List.getElem?_eq_some_iff.mp a
 obtain ⟨h2,e2⟩:=List.getElem?_eq_some_iff.mp b
 exact (List.getElem_inj hN).mp (e1.trans e2.symm)
theorem zcZ {M:Model} {A:Around} {E:Value→Shared→Prop} {i:Nat} {x:Str} {v:V} {u:Value} {Q:Unit→Shared→Prop} (I:Inv X pins σ H s) (hN:X.N.Nodup) (hi:X.N[i]?=some x) (hx:Loc X.env.scope x) (r:RelV v u)
 (h:∀ s',Inv X pins (σ.set i (some v)) H s'→(∃ a,Heap.SameBut a s.heap s'.heap∧(a=X.env.locals∨X.env.cells.lookup x=some a))→Q () s') (hf:X.fn x=true∨X.env.scope.names.lookup x=some .local:=by first | exact .inl rfl | exact .inr rfl | assumption):wpAny M A (storeName X.env x u) Q E s:=by
 obtain ⟨m,hn,hl⟩:=id I.loc
 have hcls:(X.env.scope.kind == .class || (X.env.scope.kind == .module&&X.env.locals != X.env.globals))=false:=by rw [I.ok.kind]; rfl
 have hiσ:i < σ.length:=by rw [I.len]; exact (List.getElem?_eq_some_iff.mp hi).1
 have cne:=I.cne
 have tracked:∀ {a:Addr} {h':Heap},(∃ o,s.heap.get? a=some o∧H a=none)→Heap.SameBut a s.heap h'→HOk X.prog X.w H h':=fun {a h'} ha hs b ob e=>by
  obtain ⟨_,_,hfree⟩:=ha
  refine (I.hok b ob e).stay (fun c w' hc q=>(hs.2 c ?_).trans q) (fun _ q=>q) fun _ _ q=>q
  rintro rfl
  rcases hc with rfl | hc
  ·rw [hfree] at e; cases e
  ·rw [hfree] at hc; cases hc
 rcases hx with hk | hk
 ·refine wpAny_storeName_local hk hn (fun h' hn' hs => ?_) hcls
  obtain ⟨oL,_,_,hoL,_⟩:=id hn
  refine h _ ⟨I.ok,I.os,I.bare,⟨fun b o e n hb hx => ?_,fun b o e n hb hx => ?_,I.base.free,fun b o e hx => ?_,I.base.tups,I.base.frzs,I.base.tbls⟩,⟨_,hn',fun j y v' e1 e2 e3 => ?_⟩,fun y c e => ?_,I.free,I.freeC,fun p hp => ?_,tracked ⟨oL,hoL,I.free⟩ hs,by simpa using I.len⟩ ⟨_,hs,.inl rfl⟩
  ·exact (hs.2 b (Nat.ne_of_lt (Nat.lt_of_lt_of_le (Heap.lt_size e) I.ok.above))).trans (I.base.keep b o e n hb hx)
  ·obtain ⟨sl,e1⟩:=I.base.slot b o e n hb hx
   exact ⟨sl,(hs.2 b (Nat.ne_of_lt (Nat.lt_of_lt_of_le (Heap.lt_size e) I.ok.above))).trans e1⟩
  ·obtain ⟨o',e1⟩:=I.base.there b o e hx
   exact ⟨o',(hs.2 b (Nat.ne_of_lt (Nat.lt_of_lt_of_le (Heap.lt_size e) I.ok.above))).trans e1⟩
  ·by_cases hj:j=i
   ·subst hj
    rw [hi] at e1; cases e1
    rw [List.getElem?_set_self hiσ] at e2
    cases e2
    exact ⟨u,r,.inl ⟨hk,by simp⟩⟩
   ·rw [List.getElem?_set_ne (Ne.symm hj)] at e2
    obtain ⟨u',r',q⟩:=hl j y v' e1 e2 e3
    refine ⟨u',r',?_⟩
    rcases q with ⟨k,e⟩ | ⟨k,c,e,z⟩
    ·refine .inl ⟨k,?_⟩
     have:y≠x:=fun e=>hj (zfz hN e1 (e ▸ hi))
     simp [this,e]
    ·exact .inr ⟨k,c,e,z.sameBut hs (cne y c e)⟩
  ·obtain ⟨w',z⟩:=I.cell y c e
   exact ⟨w',z.sameBut hs (cne y c e)⟩
  ·obtain ⟨e,n,ne,nf,d⟩:=I.pin p hp
   exact ⟨(hs.2 p.1 ne).trans e,n,ne,nf,d⟩
 ·have hfn:X.fn x=true:=by
   rcases hf with z | z
   ·exact z
   ·rw [z] at hk; cases hk
  obtain ⟨c,hc⟩:=I.ok.has x (.inl hk)
  obtain ⟨w',z⟩:=I.cell x c hc
  refine wpAny_storeName_cell I.ok.kind hk hc z (fun h' hc' hs => ?_)
  obtain ⟨oc,hoc,hocd⟩:=id z
  refine h { s with heap:=h' } ⟨I.ok,I.os,I.bare,⟨fun b o e n hb hx => ?_,fun b o e n hb hx => ?_,I.base.free,fun b o e hx => ?_,I.base.tups,I.base.frzs,I.base.tbls⟩,⟨m,hn.sameBut hs (Ne.symm (cne x c hc)),fun j y v' e1 e2 e3 => ?_⟩,fun y c' e => ?_,I.free,I.freeC,fun p hp => ?_,tracked ⟨oc,hoc,I.freeC x c hc⟩ hs,by simpa using I.len⟩ ⟨c,hs,.inr hc⟩
  ·exact (hs.2 b (Nat.ne_of_lt (Nat.lt_of_lt_of_le (Heap.lt_size e) (I.ok.cab x c hfn hc)))).trans (I.base.keep b o e n hb hx)
  ·obtain ⟨sl,e1⟩:=I.base.slot b o e n hb hx
   exact ⟨sl,(hs.2 b (Nat.ne_of_lt (Nat.lt_of_lt_of_le (Heap.lt_size e) (I.ok.cab x c hfn hc)))).trans e1⟩
  ·obtain ⟨o',e1⟩:=I.base.there b o e hx
   exact ⟨o',(hs.2 b (Nat.ne_of_lt (Nat.lt_of_lt_of_le (Heap.lt_size e) (I.ok.cab x c hfn hc)))).trans e1⟩
  ·by_cases hj:j=i
   ·subst hj
    rw [hi] at e1; cases e1
    rw [List.getElem?_set_self hiσ] at e2
    cases e2
    exact ⟨u,r,.inr ⟨.inl hk,c,hc,hc'⟩⟩
   ·rw [List.getElem?_set_ne (Ne.symm hj)] at e2
    obtain ⟨u',r',q⟩:=hl j y v' e1 e2 e3
    refine ⟨u',r',?_⟩
    rcases q with q | ⟨k,c',e,z'⟩
    ·exact .inl q
    ·refine .inr ⟨k,c',e,z'.sameBut hs ?_⟩
     rintro rfl
     exact hj (zfz hN e1 (I.ok.inj _ _ _ e hc ▸ hi))
  ·by_cases hcc:c'=c
   ·subst hcc; exact ⟨_,hc'⟩
   ·obtain ⟨w2,z2⟩:=I.cell y c' e
    exact ⟨w2,z2.sameBut hs hcc⟩
  ·obtain ⟨e,n,ne,nf,d⟩:=I.pin p hp
   refine ⟨(hs.2 p.1 ?_).trans e,n,ne,nf,d⟩
   intro q
   rw [q,hoc] at e
   have q':oc=p.2:=Option.some.inj e
   exact d w' (by rw [←q']; exact hocd)
theorem ze4 {M:Model} {A:Around} {E:Value→Shared→Prop} {i:Nat} {x:Str} {v:V} {u:Value} {Q:Unit→Shared→Prop} (I:Inv X pins σ H s) (hN:X.N.Nodup) (hi:X.N[i]?=some x) (hx:Loc X.env.scope x) (r:RelV v u)
 (h:∀ s',Inv X pins (σ.set i (some v)) H s'→Q () s') (hf:X.fn x=true∨X.env.scope.names.lookup x=some .local:=by first | exact .inl rfl | exact .inr rfl | assumption):wpAny M A (storeName X.env x u) Q E s :=
 zcZ I hN hi hx r (fun s' I' _=>h s' I') hf
theorem Inv.call' {s':Shared} {ch:List Addr} (I:Inv X pins σ H s) (ho:s'.os=s.os) (u:Un (frs X.stack) ch H H' s.heap s'.heap) (hok:HOk X.prog X.w H' s'.heap) (hg:AllBare s'.gens)
 (hch:∀ b∈ch,(b∈X.ex∨X.s₀.heap.objs.size≤b)∧b≠X.env.locals∧(∀ x c,X.env.cells.lookup x=some c→c≠b)∧∀ p∈X.pn++pins,p.1≠b):Inv X pins σ H' s':=by
 obtain ⟨h',g',d',t',o'⟩:=s'
 have e:o'=s.os:=ho
 subst e
 exact I.call (g':=g') (t':=t') (d':=d') u hok hg hch
end
noncomputable abbrev XK:=Value→Option Addr→Hp→Prop
noncomputable abbrev St:=List (Option V)
noncomputable abbrev VK:=V→Hp→Prop
noncomputable abbrev TE:=St→Hp→VK→Prop
noncomputable abbrev TT:=St→Hp→(Bool→Hp→Prop)→Prop
noncomputable abbrev TA:=St→Hp→(List V→Hp→Prop)→Prop
structure Ends where
 nx:St→Hp→Prop
 rt:VK
 bk:St→Hp→Prop:=fun _ _=>False
 ct:St→Hp→Prop:=fun _ _=>False
noncomputable abbrev TS:=Ends→St→Hp→Prop
noncomputable def EP (X:Cx) (pins:List (Addr×Obj)) (σ:St) (Q:VK) (u:Value) (s':Shared):Prop:=∃ v H',Inv X pins σ H' s'∧RelV v u∧Q v H'
noncomputable def TP (X:Cx) (pins:List (Addr×Obj)) (σ:St) (Q:Bool→Hp→Prop) (b:Bool) (s':Shared):Prop:=∃ H',Inv X pins σ H' s'∧Q b H'
noncomputable def AP (X:Cx) (pins:List (Addr×Obj)) (σ:St) (Q:List V→Hp→Prop) (us:List Value) (s':Shared):Prop:=∃ vs H',Inv X pins σ H' s'∧Vals vs us∧Q vs H'
noncomputable def SP (X:Cx) (pins:List (Addr×Obj)) (D:Ends) (f:Flow) (s':Shared):Prop :=
 match f with
 | .next=>∃ σ' H',Inv X pins σ' H' s'∧D.nx σ' H'
 | .brk=>∃ σ' H',Inv X pins σ' H' s'∧D.bk σ' H'
 | .cont=>∃ σ' H',Inv X pins σ' H' s'∧D.ct σ' H'
 | .ret u=>∃ v σ' H',Inv X pins σ' H' s'∧RelV v u∧D.rt v H'
noncomputable def PE (X:Cx) (e:Expr) (t:TE):Prop :=
 ∀ (pins:List (Addr×Obj)) (s:Shared) (σ:St) (H:Hp) (Q:VK),Inv X pins σ H s→t σ H Q→wpAny (model X.prog X.w) X.A (eval e X.env) (EP X pins σ Q) X.xe s
noncomputable def PT (X:Cx) (e:Expr) (t:TT):Prop :=
 ∀ (pins:List (Addr×Obj)) (s:Shared) (σ:St) (H:Hp) (Q:Bool→Hp→Prop),Inv X pins σ H s→t σ H Q→wpAny (model X.prog X.w) X.A (isTrue e X.env (eval e X.env)) (TP X pins σ Q) X.xe s
noncomputable def PW (X:Cx) (e:Expr) (t:TT):Prop :=
 ∀ (whole:Sem Value) (pins:List (Addr×Obj)) (s:Shared) (σ:St) (H:Hp) (Q:Bool→Hp→Prop),Inv X pins σ H s→t σ H Q→wpAny (model X.prog X.w) X.A (isTrue e X.env whole) (TP X pins σ Q) X.xe s
theorem PW.pt {X:Cx} {e:Expr} {t:TT} (h:PW X e t):PT X e t:=h _
noncomputable def PA (X:Cx) (es:List Expr) (t:TA):Prop :=
 ∀ (pos:Pos) (pins:List (Addr×Obj)) (s:Shared) (σ:St) (H:Hp) (Q:List V→Hp→Prop),Inv X pins σ H s→t σ H Q→wpAny (model X.prog X.w) X.A (spliced (backTo pos (starEach es X.env))) (AP X pins σ Q) X.xe s
noncomputable def PS (X:Cx) (st:Stmt) (t:TS):Prop :=
 ∀ (pins:List (Addr×Obj)) (s:Shared) (σ:St) (H:Hp) (D:Ends),Inv X pins σ H s→t D σ H→wpAny (model X.prog X.w) X.A (exec st X.env) (SP X pins D) X.xe s
noncomputable def PSs (X:Cx) (st:List Stmt) (t:TS):Prop :=
 ∀ (pins:List (Addr×Obj)) (s:Shared) (σ:St) (H:Hp) (D:Ends),Inv X pins σ H s→t D σ H→wpAny (model X.prog X.w) X.A (execs st X.env) (SP X pins D) X.xe s
theorem thn {α:Type} {t:Sem α} {Q Q':α→Shared→Prop} {M:Model} {A:Around} {E:Value→Shared→Prop} {s:Shared} (h:wpAny M A t Q E s) (hQ:∀ a s,Q a s→Q' a s):wpAny M A t Q' E s:=wpAny_mono h hQ fun _ _ x=>x
end L2
namespace L2
open PySem PySem.Spec PyProof.Rows
section
variable {X:Cx}
theorem bin {a b:Expr} {ta tb:TE} (ha:PE X a ta) (hb:PE X b tb) {pins:List (Addr×Obj)} {s:Shared} {σ:St} {H:Hp} {R:V→V→Hp→Prop} (I:Inv X pins σ H s) (h:ta σ H fun x H1=>tb σ H1 fun y H2=>R x y H2)
 {α:Type} {Q:α→Shared→Prop} {f:Value→Value→Sem α}
 (hf:∀ v u s2 x y H2,Inv X pins σ H2 s2→RelV x v→RelV y u→R x y H2→wpAny (model X.prog X.w) X.A (f v u) Q X.xe s2) :
 wpAny (model X.prog X.w) X.A (eval a X.env) (fun v s₁=>wpAny (model X.prog X.w) X.A (eval b X.env) (fun u s₂=>wpAny (model X.prog X.w) X.A (f v u) Q X.xe s₂) X.xe s₁) X.xe s:=by
 refine thn (ha pins s σ H _ I h) fun v s1 ⟨x,H1,I1,r1,q1⟩ => ?_
 refine thn (hb pins s1 σ H1 _ I1 q1) fun u s2 ⟨y,H2,I2,r2,q2⟩ => ?_
 exact hf v u s2 x y H2 I2 r1 r2 q2
noncomputable def tVar (i:Nat):TE:=fun σ H Q=>∃ v,σ[i]?=some (some v)∧Q v H
noncomputable def tC (v:V):TE:=fun _ H Q=>Q v H
theorem zmo {i:Nat} {x:Str} {pos:Pos} (hN:X.N[i]?=some x) (hv:Vis X.env.scope x) (hd:(x == ("__debug__" : Str))=false:=by decide) (hcd:(x == ("__classdict__" : Str))=false:=by decide):PE X (.Name x pos) (tVar i):=by
 intro pins s σ H Q I h
 obtain ⟨v,e,h⟩:=h
 obtain ⟨m,hn,hl⟩:=I.loc
 obtain ⟨u,r,l⟩:=hl i x v hN e hv
 have fin:EP X pins σ Q u s:=⟨v,H,I,r,h⟩
 rcases l with ⟨hk,hm⟩ | ⟨hk,c,hc,hcell⟩
 ·exact wpAny_Name (wpAny_loadName_local I.ok.kind hk hn hm fin) hd
 ·rcases hk with hk | hk
  ·exact wpAny_Name (wpAny_loadName_cell I.ok.kind hk hc hcell fin) hd
  ·exact wpAny_Name (wpAny_loadName_free I.ok.kind hk hc hcell fin hcd) hd
theorem zmu {i j pos}:PE X (.Constant (.int i) j pos) (tC (.int i)):=fun _ _ _ H _ I h=>wpAny_Constant_int ⟨.int i,H,I.tok _,⟨_,rfl⟩,h⟩
theorem pe_bl {b j pos}:PE X (.Constant (.bool b) j pos) (tC (.bl b)):=fun _ _ _ H _ I h=>Constant_bool ⟨.bl b,H,I,rfl,h⟩
theorem zms {j pos}:PE X (.Constant .none j pos) (tC .non):=fun _ _ _ H _ I h=>Constant_none ⟨.non,H,I,rfl,h⟩
noncomputable def Gl (X:Cx) (x:Str):Prop:=X.env.kindOf x=some .globalImplicit
theorem zlh {E:Value→Shared→Prop} {pins:List (Addr×Obj)} {s:Shared} {σ:St} {H:Hp} {x:Str} {u:Value} {pos:Pos} {Q:Value→Shared→Prop} (I:Inv X pins σ H s) (hg:Gl X x) (hm:X.mg x=some u) (h:Q u s)
 (hd:(x == ("__debug__" : Str))=false:=by decide):wpAny (model X.prog X.w) X.A (eval (.Name x pos) X.env) Q E s :=
 Calls.Name_function_global I.ok.kind hg (Calls.loadGlobal_global (by rw [I.ok.glob]; exact I.mod.glob.keeps I.bk) hm h) hd
theorem tV {E:Value→Shared→Prop} {pins:List (Addr×Obj)} {s:Shared} {σ:St} {H:Hp} {x:Str} {u:Value} {pos:Pos} {Q:Value→Shared→Prop} (I:Inv X pins σ H s) (hg:Gl X x) (hm:X.mg x=none) (hv:bootBuiltins x=some u) (h:Q u s)
 (hn:x ≠ "__name__" := by decide) (hd:(x == ("__debug__" : Str))=false:=by decide):wpAny (model X.prog X.w) X.A (eval (.Name x pos) X.env) Q E s:=by
 obtain ⟨mb,h1,h2⟩:=I.mod.blt
 exact Calls.Name_function_global I.ok.kind hg (Calls.loadGlobal_builtin (by rw [I.ok.glob]; exact I.mod.glob.keeps I.bk) hm (by rw [I.ok.blt]; exact h1.keeps I.bk) ((h2 x hn).trans hv) h) hd
theorem zkZ {x:Str} {v:V} {u:Value} {pos:Pos} (hg:Gl X x) (hm:X.mg x=none) (hv:bootBuiltins x=some u) (r:RelV v u) (hn:x ≠ "__name__" := by decide) (hd:(x == ("__debug__" : Str))=false:=by decide):PE X (.Name x pos) (tC v) :=
 fun _ _ _ H _ I h=>tV I hg hm hv ⟨v,H,I,r,h⟩ hn hd
variable {a b:Expr} {ta tb:TE} {pos:Pos}
variable {tA tB':TT} {rest:List Expr}
noncomputable def tAnd (t u:TT):TT:=fun σ H Q=>t σ H fun c H1=>if c=true then u σ H1 Q else Q false H1
noncomputable def tOr (t u:TT):TT:=fun σ H Q=>t σ H fun c H1=>if c=true then Q true H1 else u σ H1 Q
noncomputable def tNot (t:TT):TT:=fun σ H Q=>t σ H fun c H1=>Q (!c) H1
theorem zkJ (ha:PT X a tA):PW X (.BoolOp .And [a] pos) tA:=by
 intro wh pins s σ H Q I h
 refine isTrue_and (thn (ha pins s σ H Q I h) fun c s1 e => ?_)
 cases c with
 | true=>exact isTrue_and_nil e
 | false=>exact e
theorem zme (ha:PT X a tA):PW X (.BoolOp .Or [a] pos) tA:=by
 intro wh pins s σ H Q I h
 refine isTrue_or (thn (ha pins s σ H Q I h) fun c s1 e => ?_)
 cases c with
 | false=>exact isTrue_or_nil e
 | true=>exact e
theorem zmf (ha:PT X a tA) (hb:PW X (.BoolOp .And (b::rest) pos) tB'):PW X (.BoolOp .And (a::b::rest) pos) (tAnd tA tB'):=by
 intro wh pins s σ H Q I h
 refine isTrue_and (thn (ha pins s σ H _ I h) fun c s1 ⟨H1,I1,q1⟩ => ?_)
 cases c with
 | true=>exact hb wh pins s1 σ H1 Q I1 q1
 | false=>exact ⟨H1,I1,q1⟩
theorem pw_or (ha:PT X a tA) (hb:PW X (.BoolOp .Or (b::rest) pos) tB'):PW X (.BoolOp .Or (a::b::rest) pos) (tOr tA tB'):=by
 intro wh pins s σ H Q I h
 refine isTrue_or (thn (ha pins s σ H _ I h) fun c s1 ⟨H1,I1,q1⟩ => ?_)
 cases c with
 | true=>exact ⟨H1,I1,q1⟩
 | false=>exact hb wh pins s1 σ H1 Q I1 q1
theorem zmh (ha:PT X a tA):PT X (.UnaryOp .Not a pos) (tNot tA):=by
 intro pins s σ H Q I h
 exact isTrue_not (ha pins s σ H (fun c H1=>Q (!c) H1) I h)
noncomputable def tAndV (ta tb:TE):TE:=fun σ H Q=>ta σ H fun x H1=>∃ c,x=.bl c∧if c=true then tb σ H1 Q else Q (.bl false) H1
noncomputable def tOrV (ta tb:TE):TE:=fun σ H Q=>ta σ H fun x H1=>∃ c,x=.bl c∧if c=true then Q (.bl true) H1 else tb σ H1 Q
noncomputable def tNotV (ta:TE):TE:=fun σ H Q=>ta σ H fun x H1=>∃ c,x=.bl c∧Q (.bl (!c)) H1
theorem zmq {op} {t:TE} (h:PE X a t):PE X (.BoolOp op [a] pos) t:=fun pins s σ H Q I hw=>BoolOp_one (h pins s σ H Q I hw)
theorem zmv (ha:PE X a ta) (hb:PE X (.BoolOp .And (b::rest) pos) tb):PE X (.BoolOp .And (a::b::rest) pos) (tAndV ta tb):=by
 intro pins s σ H Q I h
 refine BoolOp_and (thn (ha pins s σ H _ I h) fun v s1 ⟨x,H1,I1,r1,q1⟩ => ?_)
 obtain ⟨c,rfl,q1⟩:=q1
 cases r1
 refine wpAny_truthy_bool ?_
 cases c with
 | true=>exact hb pins s1 σ H1 Q I1 q1
 | false=>exact ⟨.bl false,H1,I1,rfl,q1⟩
theorem pe_or (ha:PE X a ta) (hb:PE X (.BoolOp .Or (b::rest) pos) tb):PE X (.BoolOp .Or (a::b::rest) pos) (tOrV ta tb):=by
 intro pins s σ H Q I h
 refine BoolOp_or (thn (ha pins s σ H _ I h) fun v s1 ⟨x,H1,I1,r1,q1⟩ => ?_)
 obtain ⟨c,rfl,q1⟩:=q1
 cases r1
 refine wpAny_truthy_bool ?_
 cases c with
 | false=>exact hb pins s1 σ H1 Q I1 q1
 | true=>exact ⟨.bl true,H1,I1,rfl,q1⟩
theorem zmr (ha:PE X a ta):PE X (.UnaryOp .Not a pos) (tNotV ta):=by
 intro pins s σ H Q I h
 refine UnaryOp_ (thn (ha pins s σ H _ I h) fun v s1 ⟨x,H1,I1,r1,q1⟩ => ?_)
 obtain ⟨c,rfl,q1⟩:=q1
 cases r1
 exact not_of (wpAny_truthy_bool ⟨.bl (!c),H1,I1,rfl,q1⟩)
noncomputable def tIf (t:TT) (ta tb:TE):TE:=fun σ H Q=>t σ H fun c H1=>if c=true then ta σ H1 Q else tb σ H1 Q
theorem zi0 {c:Expr} (hc:PT X c tA) (ha:PE X a ta) (hb:PE X b tb):PE X (.IfExp c a b pos) (tIf tA ta tb):=by
 intro pins s σ H Q I h
 refine wpAny_IfExp (thn (hc pins s σ H _ I h) fun d s1 ⟨H1,I1,q1⟩ => ?_)
 cases d with
 | true=>exact ha pins s1 σ H1 Q I1 q1
 | false=>exact hb pins s1 σ H1 Q I1 q1
end
end L2
namespace L2
open PySem PySem.Spec PyProof.Rows
noncomputable def SqL (K:PySem.W.Frag) (H:Hp) (a:Addr) (xs:List V):Prop :=
 Rd H a (.lst xs) ∨
  ∃ (o:Obj) (its:Array Value) (n:Nat),K.lookup a=some o∧o.cls=.type "list" ∧ o.dict=none∧o.data=.seq its n∧its.size≤sizeLine∧Vals xs its.toList
noncomputable def SqT (K:PySem.W.Frag) (H:Hp) (a:Addr) (xs:List V):Prop :=
 Rd H a (.tup xs) ∨
  ∃ (o:Obj) (its:Array Value) (n:Nat),K.lookup a=some o∧o.cls=.type "tuple" ∧ o.data=.seq its n∧its.size≤sizeLine∧Vals xs its.toList
noncomputable def absV:Value→Option V
 | .none=>some .non
 | .bool b=>some (.bl b)
 | .int i _=>some (.int i)
 | .str x _=>some (.str x)
 | .bytes b _=>some (.byt b)
 | .float b _=>some (.flt b)
 | .ref a=>some (.ref a)
 | .type n=>some (.ty n)
 | _=>none
theorem RelV.abs {x:V} {u:Value} (r:RelV x u):absV u=some x:=by
 cases x with
 | non=>cases r; rfl
 | bl _=>cases r; rfl
 | int _=>obtain ⟨t,rfl⟩:=r; rfl
 | str _=>obtain ⟨t,rfl⟩:=r; rfl
 | byt _=>obtain ⟨t,rfl⟩:=r; rfl
 | flt _=>obtain ⟨t,rfl⟩:=r; rfl
 | ref _=>cases r; rfl
 | ty _=>cases r; rfl
theorem RelV.inj {x y:V} {u:Value} (r:RelV x u) (q:RelV y u):x=y:=Option.some.inj (r.abs.symm.trans q.abs)
theorem Vals.inj:∀ {xs ys:List V} {us:List Value},Vals xs us→Vals ys us→xs=ys
 | _,_,_,.nil,.nil=>rfl
 | _,_,_,.cons r t,.cons r' t'=>by rw [r.inj r',Vals.inj t t']
section
variable {X:Cx} {pins:List (Addr×Obj)} {σ:St} {H:Hp} {s:Shared} {a:Addr} {xs ys:List V}
theorem SqL.of {K:PySem.W.Frag} (h:H a=some (.lst xs)):SqL K H a xs:=.inl (.inl h)
theorem SqT.of {K:PySem.W.Frag} (h:H a=some (.tup xs)):SqT K H a xs:=.inl (.inl h)
theorem Inv.list (I:Inv X pins σ H s) (h:SqL X.K H a xs):∃ its:List Value,Vals xs its∧PlainL s.heap a its.toArray∧xs.length≤sizeLine:=by
 rcases h with h | ⟨o,its,n,hk,hc,hd,hs,hz,r⟩
 ·obtain ⟨z,its,n,r,e⟩:=h.ok I.hok
  exact ⟨its,r,⟨_,n,e,rfl,rfl,rfl⟩,z⟩
 ·refine ⟨its.toList,r,⟨o,n,I.kIn a o hk,hc,hd,by simpa using hs⟩,?_⟩
  have e:=r.length
  simp only [Array.length_toList] at e
  lia
theorem Inv.tuple (I:Inv X pins σ H s) (h:SqT X.K H a xs):∃ its:List Value,Vals xs its∧IsTup s.heap a its.toArray∧xs.length≤sizeLine:=by
 rcases h with h | ⟨o,its,n,hk,hc,hs,hz,r⟩
 ·obtain ⟨z,its,r,p⟩:=h.ok I.hok
  exact ⟨its,r,p,z⟩
 ·refine ⟨its.toList,r,⟨o,I.kIn a o hk,hc,n,by simpa using hs⟩,?_⟩
  have e:=r.length
  simp only [Array.length_toList] at e
  lia
theorem Inv.list_inj (I:Inv X pins σ H s) (h:SqL X.K H a xs) (h':SqL X.K H a ys):xs=ys:=by
 obtain ⟨its,r,⟨o,n,e,_,_,d⟩,_⟩:=I.list h
 obtain ⟨its',r',⟨o',n',e',_,_,d'⟩,_⟩:=I.list h'
 rw [e] at e'; cases e'
 rw [d] at d'
 injection d' with d1 _
 have:its=its':=by simpa using congrArg Array.toList d1
 subst this
 exact r.inj r'
end
noncomputable abbrev Cx.wish (X:Cx) (E:Value→Shared→Prop):Cx:={ X with xe:=E }
noncomputable abbrev Cx.nox (X:Cx):Cx:=X.wish fun _ _=>False
theorem Cx.Ok.wish {X:Cx} (ok:X.Ok) (E:Value→Shared→Prop):(X.wish E).Ok :=
 ⟨ok.mod,ok.kind,ok.glob,ok.blt,ok.above,ok.inj,ok.has,ok.cab,ok.hd,ok.frames,ok.stk,ok.exf,ok.bs,ok.bsz,ok.noex,ok.exfs,ok.funs,ok.frf⟩
theorem Cx.Ok.unwish {X:Cx} {E:Value→Shared→Prop} (ok:(X.wish E).Ok):X.Ok :=
 ⟨ok.mod,ok.kind,ok.glob,ok.blt,ok.above,ok.inj,ok.has,ok.cab,ok.hd,ok.frames,ok.stk,ok.exf,ok.bs,ok.bsz,ok.noex,ok.exfs,ok.funs,ok.frf⟩
section
variable {X:Cx} {pins:List (Addr×Obj)} {σ:St} {H:Hp} {s:Shared} {E:Value→Shared→Prop}
theorem Inv.wish (I:Inv X pins σ H s) (E:Value→Shared→Prop):Inv (X.wish E) pins σ H s:=⟨I.ok.wish E,I.os,I.bare,I.base,I.loc,I.cell,I.free,I.freeC,I.pin,I.hok,I.len⟩
theorem Inv.unwish (I:Inv (X.wish E) pins σ H s):Inv X pins σ H s:=⟨I.ok.unwish,I.os,I.bare,I.base,I.loc,I.cell,I.free,I.freeC,I.pin,I.hok,I.len⟩
theorem SP.unwish {D:Ends} {f:Flow} {s':Shared} (h:SP (X.wish E) pins D f s'):SP X pins D f s':=by
 cases f with
 | next=>obtain ⟨σ',H',I,q⟩:=h; exact ⟨σ',H',I.unwish,q⟩
 | brk=>obtain ⟨σ',H',I,q⟩:=h; exact ⟨σ',H',I.unwish,q⟩
 | cont=>obtain ⟨σ',H',I,q⟩:=h; exact ⟨σ',H',I.unwish,q⟩
 | ret u=>obtain ⟨v,σ',H',I,r,q⟩:=h; exact ⟨v,σ',H',I.unwish,r,q⟩
theorem PSs.nox {st:List Stmt} {t:TS} (h:PSs X.nox st t):PSs X st t:=fun pins s σ H D I hw =>
 wpAny_mono (h pins s σ H D (I.wish _) hw) (fun _ _ q=>q.unwish) fun _ _ z=>False.elim z
end
section
variable {X:Cx} {st:Stmt} {rest:List Stmt} {t u:TS} {e:Expr} {te:TE} {pos:Pos}
noncomputable def tNext:TS:=fun D σ H=>D.nx σ H
noncomputable def tSeq (t u:TS):TS:=fun D σ H=>t { D with nx:=u D } σ H
theorem zkN:PSs X [] tNext:=fun _ _ σ H _ I h=>wpAny_execs_nil ⟨σ,H,I,h⟩
theorem ziV (h1:PS X st t) (h2:PSs X rest u):PSs X (st::rest) (tSeq t u):=by
 intro pins s σ H D I h
 refine wpAny_execs_cons (thn (h1 pins s σ H { D with nx:=u D } I h) fun f s1 q => ?_)
 cases f with
 | next =>
   obtain ⟨σ',H',I',q⟩:=q
   exact h2 pins s1 σ' H' D I' q
 | ret v=>exact q
 | brk=>exact q
 | cont=>exact q
theorem zkM (h1:PS X st t):PSs X [st] t:=by
 intro pins s σ H D I h
 refine wpAny_execs_cons (thn (h1 pins s σ H D I h) fun f s1 q => ?_)
 cases f with
 | next=>exact wpAny_execs_nil q
 | ret v=>exact q
 | brk=>exact q
 | cont=>exact q
theorem Inv.quiet {pins:List (Addr×Obj)} {σ:St} {H:Hp} {s:Shared} (I:Inv X pins σ H s):interactive X.env=false:=by simp [interactive,I.ok.kind]
noncomputable def zl1 (te:TE):TS:=fun D σ H=>te σ H fun _ H1=>D.nx σ H1
theorem zca (he:PE X e te) (hs:swapsWith e none pos.line X.env=pure false:=by rfl):PS X (.Expr e pos) (zl1 te):=by
 intro pins s σ H D I h
 exact wpAny_Expr_any (thn (he pins s σ H _ I h) fun v s1 ⟨x,H1,I1,r1,q1⟩=>⟨σ,H1,I1,q1⟩) I.quiet hs
noncomputable def tRet (te:TE):TS:=fun D σ H=>te σ H D.rt
theorem zmj (he:PE X e te):PS X (.Return (some e) pos) (tRet te):=by
 intro pins s σ H D I h
 exact wpAny_Return_some (thn (he pins s σ H _ I h) fun v s1 ⟨x,H1,I1,r1,q1⟩=>⟨x,σ,H1,I1,r1,q1⟩)
noncomputable def tIfS (c:TT) (t u:TS):TS:=fun D σ H=>c σ H fun b H1=>if b=true then t D σ H1 else u D σ H1
theorem ps_if {c:Expr} {a b:List Stmt} {tc:TT} (hc:PT X c tc) (ha:PSs X a t) (hb:PSs X b u):PS X (.If c a b pos) (tIfS tc t u):=by
 intro pins s σ H D I h
 refine wpAny_If (thn (hc pins s σ H _ I h) fun d s1 ⟨H1,I1,q1⟩ => ?_)
 cases d with
 | true=>exact ha pins s1 σ H1 D I1 q1
 | false=>exact hb pins s1 σ H1 D I1 q1
end
noncomputable abbrev TG:=V→St→Hp→(St→Hp→Prop)→Prop
noncomputable abbrev TGs:=List V→St→Hp→(St→Hp→Prop)→Prop
noncomputable def PG (X:Cx) (target:Expr) (t:TG):Prop :=
 ∀ (pins:List (Addr×Obj)) (s:Shared) (σ:St) (H:Hp) (v:V) (u:Value) (Q:St→Hp→Prop),Inv X pins σ H s→RelV v u→t v σ H Q →
   wpAny (model X.prog X.w) X.A (assign target X.env u) (fun _ s'=>∃ σ' H',Inv X pins σ' H' s'∧Q σ' H') X.xe s
noncomputable def PGs (X:Cx) (ts:List Expr) (t:TGs):Prop :=
 ∀ (pins:List (Addr×Obj)) (s:Shared) (σ:St) (H:Hp) (vs:List V) (us:List Value) (Q:St→Hp→Prop),Inv X pins σ H s→Vals vs us→t vs σ H Q →
   wpAny (model X.prog X.w) X.A (assignInOrder ((assignEach ts X.env).map (·.2)) us) (fun _ s'=>∃ σ' H',Inv X pins σ' H' s'∧Q σ' H') X.xe s
noncomputable abbrev TSet:=V→V→V→Hp→(Hp→Prop)→Prop
noncomputable def PSet (X:Cx) (t:TSet):Prop :=
 ∀ (pins:List (Addr×Obj)) (s:Shared) (σ:St) (H:Hp) (o i v:V) (ov iv u:Value) (Q:Hp→Prop),Inv X pins σ H s→RelV o ov→RelV i iv→RelV v u→t o i v H Q →
   wpAny (model X.prog X.w) X.A (setItem ov iv u) (fun _ s'=>∃ H',Inv X pins σ H' s'∧Q H') X.xe s
section
variable {X:Cx} {pos:Pos}
noncomputable def zm2 (i:Nat):TG:=fun v σ H Q=>Q (σ.set i (some v)) H
theorem zhd {i:Nat} {x:Str} (hN:X.N.Nodup) (hi:X.N[i]?=some x) (hx:Loc X.env.scope x) (hf:X.fn x=true∨X.env.scope.names.lookup x=some .local:=by first | exact .inl rfl | exact .inr rfl | assumption):PG X (.Name x pos) (zm2 i):=by
 intro pins s σ H v u Q I r h
 exact wpAny_assign_Name (ze4 I hN hi hx r (fun s' I'=>⟨_,H,I',h⟩) hf)
noncomputable def gNil:TGs:=fun vs σ H Q=>vs=[]∧Q σ H
noncomputable def gCons (t:TG) (u:TGs):TGs:=fun vs σ H Q=>∃ v r,vs=v::r∧t v σ H fun σ' H'=>u r σ' H' Q
theorem zkU:PGs X [] gNil:=by
 intro pins s σ H vs us Q I r h
 obtain ⟨e,h⟩:=h
 subst e
 cases r
 exact assignInOrder_nil ⟨σ,H,I,h⟩
theorem ziY {e:Expr} {es:List Expr} {t:TG} {u:TGs} (h1:PG X e t) (h2:PGs X es u)
 (hs:(assignEach (e::es) X.env).map (·.2)=assign e X.env::(assignEach es X.env).map (·.2):=by rfl):PGs X (e::es) (gCons t u):=by
 intro pins s σ H vs us Q I r h
 obtain ⟨v,vr,e1,h⟩:=h
 subst e1
 cases r with
 | cons r rr =>
   rw [hs]
   refine assignInOrder_cons (thn (h1 pins s σ H _ _ _ I r h) fun _ s1 ⟨σ1,H1,I1,q1⟩ => ?_)
   exact h2 pins s1 σ1 H1 _ _ Q I1 rr q1
noncomputable def gTup (K:PySem.W.Frag) (n:Nat) (t:TGs):TG:=fun v σ H Q=>∃ a xs,v=.ref a∧SqT K H a xs∧xs.length=n∧t xs σ H Q
theorem zmm {es:List Expr} {k:Nat} {t:TGs} {n:Nat} (hc:X.calm=true) (h:PGs X es t)
 (hn:(assignEach es X.env).length=n:=by rfl) (hst:(assignEach es X.env).findIdx? (·.1)=none:=by rfl):PG X (.Tuple es k pos) (gTup X.K n t):=by
 intro pins s σ H v u Q I r hw
 obtain ⟨a,xs,e1,hq,hl,hw⟩:=hw
 subst e1
 cases r
 obtain ⟨its,rv,ht,hz⟩:=I.tuple hq
 refine assign_Tuple_tuple (I.ok.hd hc) ht (by simp [hn,←hl,rv.length]) hst fun h' hx => ?_
 have I1:Inv X pins σ H { s with heap:=h' }:=I.kept (t':=s.toks) fun b o e=>hx b o (Nat.ne_of_lt (Heap.lt_size e)) e
 exact h pins _ σ H xs _ Q I1 (by simpa using rv) hw
noncomputable def gSub (to ti:TE) (t:TSet):TG:=fun v σ H Q=>to σ H fun o H1=>ti σ H1 fun i H2=>t o i v H2 fun H3=>Q σ H3
theorem zmn {o i:Expr} {to ti:TE} {t:TSet} (ho:PE X o to) (hi:PE X i ti) (hs:PSet X t)
 (ha:∀ v,assign (.Subscript o i pos) X.env v=(do
  let ov ← holding [v] (eval o X.env)
  let iv ← holding [v,ov] (eval i X.env)
  standAt pos
  holding [v,ov,iv] (setItem ov iv v)
  release [v,ov,iv] []):=by intro _; rfl):PG X (.Subscript o i pos) (gSub to ti t):=by
 intro pins s σ H v u Q I r h
 rw [ha]
 refine wpAny_bind (wpAny_holding (thn (ho pins s σ H _ I h) fun ov s1 ⟨x,H1,I1,r1,q1⟩ => ?_))
 refine wpAny_bind (wpAny_holding (thn (hi pins s1 σ H1 _ I1 q1) fun iv s2 ⟨y,H2,I2,r2,q2⟩ => ?_))
 refine wpAny_bind (wpAny_standAt (wpAny_bind (wpAny_holding (thn (hs pins s2 σ H2 x y v ov iv u _ I2 r1 r2 r q2) fun _ s3 ⟨H3,I3,q3⟩ => ?_))))
 exact wpAny_release ⟨σ,H3,I3,q3⟩
noncomputable def tAsg (te:TE) (g:TG):TS:=fun D σ H=>te σ H fun x H1=>g x σ H1 D.nx
theorem zj1 {tg e:Expr} {te:TE} {g:TG} (he:PE X e te) (hg:PG X tg g) (hs:swapsWithSole [tg] e pos.line X.env=pure false:=by rfl) (hw:swappedStores [tg] e X.env=pure none:=by rfl)
 (h1:(assignEach [tg] X.env).map (·.2)=[assign tg X.env]:=by rfl):PS X (.Assign [tg] e pos) (tAsg te g):=by
 intro pins s σ H D I h
 refine wpAny_Assign_stores (thn (he pins s σ H _ I h) fun v s1 ⟨x,H1,I1,r1,q1⟩ => ?_) hs hw
 rw [h1]
 exact thn (hg pins s1 σ H1 x v _ I1 r1 q1) fun _ s2 q=>q
theorem zmi {i:Nat} {x:Str} {e:Expr} {te:TE} {pos':Pos} (hN:X.N.Nodup) (hi:X.N[i]?=some x) (hx:Loc X.env.scope x) (he:PE X e te) (hs:swapsWith e (some (.Name x pos')) pos.line X.env=pure false:=by rfl) (hf:X.fn x=true∨X.env.scope.names.lookup x=some .local:=by first | exact .inl rfl | exact .inr rfl | assumption) :
 PS X (.Assign [.Name x pos'] e pos) (tAsg te (zm2 i)):=by
 intro pins s σ H D I h
 refine wpAny_Assign_Name (thn (he pins s σ H _ I h) fun v s1 ⟨y,H1,I1,r1,q1⟩ => ?_) hs
 exact ze4 I1 hN hi hx r1 (fun s2 I2=>⟨_,H1,I2,q1⟩) hf
end
section
variable {X:Cx} {pos:Pos}
noncomputable def zlZ (c:TT) (tb:TS):TS:=fun D σ H=>∃ W:Nat→St→Hp→Prop,(∃ m,W m σ H)∧∀ m σ H,W m σ H →
 c σ H fun b H1=>if b=true then ∃ N:St→Hp→Prop,(∀ σ' H',N σ' H'→∃ m',m' < m∧W m' σ' H')∧tb { D with nx:=N,ct:=N,bk:=D.nx } σ H1 else D.nx σ H1
theorem ziW {c:Expr} {body:List Stmt} {tc:TT} {tb:TS} (hp:PassesOwn (model X.prog X.w) X.A X.env X.xe) (hc:PT X c tc) (hb:PSs X body tb):PS X (.While c body [] pos) (zlZ tc tb):=by
 intro pins s σ H D I h
 obtain ⟨W,⟨m0,w0⟩,turn⟩:=h
 refine wpAny_While (codeAny_whileLoop (fun n s'=>∃ σ' H',Inv X pins σ' H' s'∧W n σ' H') ?_ m0 ⟨σ,H,I,w0⟩)
 rintro n s1 ⟨σ1,H1,I1,w1⟩
 refine wpAny_passesOwn hp (thn (hc pins s1 σ1 H1 _ I1 (turn n σ1 H1 w1)) fun b s2 ⟨H2,I2,q2⟩ => ?_)
 cases b with
 | true =>
   obtain ⟨N,hN,q2⟩:=q2
   rw [if_pos rfl]
   refine wpAny_passesOwn hp (thn (hb pins s2 σ1 H2 _ I2 q2) fun f s3 q3 => ?_)
   cases f with
   | next =>
     obtain ⟨σ3,H3,I3,n3⟩:=q3
     obtain ⟨m',hm,w3⟩:=hN σ3 H3 n3
     exact ⟨m',hm,σ3,H3,I3,w3⟩
   | cont =>
     obtain ⟨σ3,H3,I3,n3⟩:=q3
     obtain ⟨m',hm,w3⟩:=hN σ3 H3 n3
     exact ⟨m',hm,σ3,H3,I3,w3⟩
   | brk=>exact q3
   | ret v=>exact q3
 | false =>
   rw [if_neg Bool.false_ne_true]
   exact wpAny_execs_nil ⟨σ1,H2,I2,q2⟩
end
structure It where
 go:Nat→Hp→Prop
 yld:Nat→Hp→V→Hp→Prop
 stop:Nat→Hp→Prop
noncomputable def FpOk (X:Cx) (pins:List (Addr×Obj)) (H:Hp) (b:Addr):Prop :=
 H b=none∧b≠X.env.locals∧b∉X.fs∧(b∈X.ex∨X.s₀.heap.objs.size≤b)∧(∀ x c,X.env.cells.lookup x=some c→c≠b)∧∀ p∈X.pn++pins,p.1≠b
theorem Inv.fpOk {X:Cx} {pins:List (Addr×Obj)} {σ:St} {H H':Hp} {s:Shared} {b:Addr} (I:Inv X pins σ H s) (hb:s.heap.objs.size≤b) (hn:H' b=none):FpOk X pins H' b:=by
 refine ⟨hn,Nat.ne_of_gt (Nat.lt_of_lt_of_le I.lt hb),I.nofs hb,.inr (Nat.le_trans I.sz hb),fun x c e z => ?_,fun p hp z => ?_⟩
 ·obtain ⟨v,q⟩:=I.cell x c e
  exact absurd (Nat.lt_of_lt_of_le q.lt (by rw [z]; exact hb)) (Nat.lt_irrefl _)
 ·exact absurd (Nat.lt_of_lt_of_le (Heap.lt_size (I.pin p hp).1) (by rw [z]; exact hb)) (Nat.lt_irrefl _)
structure Turn (P:Program) (w:World) (K:PySem.W.Frag) (tg:Expr) (J:It) (fp:List Addr) (it:Addr) (tn:Nat→Heap→Prop):Prop where
 mem:it∈fp
 obj:∀ i h,tn i h→∀ b∈fp,∃ o,h.get? b=some o∧∀ v,o.data≠.cell v
 keep:∀ i h h',tn i h→(∀ b∈fp,∀ o,h.get? b=some o→h'.get? b=some o)→tn i h'
 item:∀ (X:Cx),X.prog=P→X.w=w→X.K=K→X.calm=true→∀ (i:Nat) (pins:List (Addr×Obj)) (s:Shared) (σ:St) (H:Hp) (E:Value→Shared→Prop),Inv X pins σ H s→(∀ b∈fp,FpOk X pins H b)→tn i s.heap→J.go i H →
  wpAny (model P w) X.A (pyNext (.ref it)) (fun r s1=>∃ u,r=some u ∧
   wpAny (model P w) X.A (letOwnedTupleGo tg (.ref it) u) (fun _ s2=>∃ x H',Inv X pins σ H' s2∧RelV x u∧J.yld i H x H'∧tn (i+1) s2.heap∧∀ b∈fp,H' b=none) E s1) E s
 done:∀ (X:Cx),X.prog=P→X.w=w→X.K=K→X.calm=true→∀ (i:Nat) (pins:List (Addr×Obj)) (s:Shared) (σ:St) (H:Hp) (E:Value→Shared→Prop),Inv X pins σ H s→(∀ b∈fp,FpOk X pins H b)→tn i s.heap→J.stop i H →
  wpAny (model P w) X.A (pyNext (.ref it)) (fun r s1=>r=none∧Inv X pins σ H s1) E s
 self:∀ (A:Around) (i:Nat) (s:Shared) (Q:Value→Shared→Prop) (E:Value→Shared→Prop),tn i s.heap→Q (.ref it) s→wpAny (model P w) A (pyIter (.ref it)) Q E s
noncomputable abbrev TI:=St→Hp→(It→Hp→Prop)→Prop
noncomputable def PIE (X:Cx) (pins:List (Addr×Obj)) (σ:St) (tg:Expr) (R:It→Hp→Prop) (itv:Value) (s2:Shared):Prop :=
 ∃ (it:Addr) (fp:List Addr) (tn:Nat→Heap→Prop) (J:It) (H':Hp),itv=.ref it∧Inv X pins σ H' s2∧Turn X.prog X.w X.K tg J fp it tn∧tn 0 s2.heap∧(∀ b∈fp,FpOk X pins H' b)∧R J H'
noncomputable def PI (X:Cx) (tg iter:Expr) (wi:TI):Prop :=
 ∀ (pins:List (Addr×Obj)) (s:Shared) (σ:St) (H:Hp) (R:It→Hp→Prop),Inv X pins σ H s→wi σ H R →
   wpAny (model X.prog X.w) X.A (eval iter X.env) (fun v s1=>wpAny (model X.prog X.w) X.A (pyIter v) (PIE X pins σ tg R) X.xe s1) X.xe s
theorem zlr {M:Model} {A:Around} {E:Value→Shared→Prop} {s:Shared} {tg:Expr} {it:Addr} {u:Value} {o:Obj} {n:String} {vs:Array Value} {Q:Unit→Shared→Prop} (ho:s.heap.get? it=some o) (hc:o.cls=.type n) (hd:o.data=.fields vs)
 (hn:["enumerate","zip","dict_itemiterator","dict_reverseitemiterator","odict_iterator","itertools.zip_longest","itertools.pairwise"].contains n=false) (hQ:Q () s):wpAny M A (letOwnedTupleGo tg (.ref it) u) Q E s:=by
 unfold letOwnedTupleGo
 cases tg <;> first
  | exact wpAny_pure hQ
  | (cases u <;> first
   | exact wpAny_pure hQ
   | (refine wpAny_bind (wpAny_load ho ?_)
      rw [hc,hd]
      show wpAny M A (if (["enumerate","zip","dict_itemiterator","dict_reverseitemiterator","odict_iterator","itertools.zip_longest","itertools.pairwise"].contains n&&vs[0]? == some (rawInt _))=true then _ else _) Q E s
      rw [if_neg (by intro h; rw [hn,Bool.false_and] at h; cases h)]
      exact wpAny_pure hQ))
noncomputable def Itl (K:PySem.W.Frag) (a:Addr):It :=
 ⟨fun i H=>∃ xs x,SqL K H a xs∧xs[i]?=some x,fun i H x H'=>H'=H∧∀ xs,SqL K H a xs→xs[i]?=some x,fun i H=>∃ xs,SqL K H a xs∧xs.length≤i⟩
noncomputable def Itr (lo:Int) (n:Nat):It:=⟨fun i _=>i<n,fun i H x H'=>H'=H∧x=.int (lo+i),fun i _=>n≤i⟩
theorem zgE {P:Program} {w:World} {K:PySem.W.Frag} {tg:Expr} (a it:Addr):Turn P w K tg (Itl K a) [it] it (fun i h=>h.IsListIter it a i) where
 mem:=by simp
 obj:=fun i h st b hb=>by
  have e:b=it:=by simpa using hb
  subst e
  obtain ⟨o,e,c,d⟩:=st
  exact ⟨o,e,fun v z=>by rw [d] at z; cases z⟩
 keep:=fun i h h' st k=>st.at fun o e=>k it (by simp) o e
 item:=by
  intro X hP hw hK hc i pins s σ H E I hf st hg
  subst hP hw hK
  obtain ⟨xs,x,hq,hx⟩:=hg
  obtain ⟨its,rv,p,hz⟩:=I.list hq
  obtain ⟨u,hu,ru⟩:=rv.get hx
  obtain ⟨f0,f1,f2,f3,f4,f5⟩:=hf it (by simp)
  refine wpAny_pyNext_list_item st p.isList (x:=u) (by simpa using hu) fun h' st' sb => ?_
  have I1:Inv X pins σ H { s with heap:=h' }:=I.turned (t':=s.toks) (fun b o hb e=>(sb.2 b hb).trans e) f0 f1 f3 f4 f5
  obtain ⟨o,e,c,d⟩:=id st'
  exact ⟨u,rfl,zlr (s:={ s with heap:=h' }) e c d (by decide) ⟨x,H,I1,ru,⟨rfl,fun ys hy=>by rw [I.list_inj hy hq]; exact hx⟩,st',fun b hb=>(hf b hb).1⟩⟩
 done:=by
  intro X hP hw hK hc i pins s σ H E I hf st hg
  subst hP hw hK
  obtain ⟨xs,hq,hx⟩:=hg
  obtain ⟨its,rv,p,hz⟩:=I.list hq
  obtain ⟨f0,f1,f2,f3,f4,f5⟩:=hf it (by simp)
  have hl:=rv.length
  exact wpAny_pyNext_list_end (I.ok.hd hc) st p.isList (by simp; lia) fun h' eb=>⟨rfl,I.turned (t':=s.toks) (fun b o hb e=>eb b o hb e) f0 f1 f3 f4 f5⟩
 self:=fun _ _ _ _ _ st h=>wpAny_pyIter_listiter st h
theorem zf4 {P:Program} {w:World} {K:PySem.W.Frag} {tg:Expr} (it:Addr) (lo:Int) (n:Nat):Turn P w K tg (Itr lo n) [it] it (fun i h=>IsRangeIter h it (lo+(i:Nat)*1) ((n:Int) - (i:Nat)) 1) where
 mem:=by simp
 obj:=fun i h st b hb=>by
  have e:b=it:=by simpa using hb
  subst e
  exact ⟨_,st,fun v z=>by
   have z':Data.fields _=Data.cell v:=z
   cases z'⟩
 keep:=fun i h h' st k=>k it (by simp) _ st
 item:=by
  intro X hP hw hK hc i pins s σ H E I hf st hg
  subst hP hw hK
  obtain ⟨f0,f1,f2,f3,f4,f5⟩:=hf it (by simp)
  have W:=Walks.range (prog:=X.prog) (w:=X.w) (I.ok.hd hc) it lo 1 n
  refine W.item i s _ _ hg st fun v h' tk hv st' kk => ?_
  obtain ⟨t,rfl⟩:=hv
  have I1:Inv X pins σ H { s with heap:=h',toks:=tk }:=I.turned (fun b o hb e=>kk b o (by simpa using hb) e) f0 f1 f3 f4 f5
  refine ⟨_,rfl,zlr (s:={ s with heap:=h',toks:=tk }) (n := "range_iterator") st' rfl rfl (by decide) ⟨.int (lo+i),H,I1,⟨t,?_⟩,⟨rfl,rfl⟩,st',fun b hb=>(hf b hb).1⟩⟩
  rw [Int.mul_one]
 done:=by
  intro X hP hw hK hc i pins s σ H E I hf st hg
  subst hP hw hK
  obtain ⟨f0,f1,f2,f3,f4,f5⟩:=hf it (by simp)
  exact wpAny_pyNext_range_end (I.ok.hd hc) st (by have:n≤i:=hg; lia) fun h' eb=>⟨rfl,I.turned (t':=s.toks) (fun b o hb e=>eb b o hb e) f0 f1 f3 f4 f5⟩
 self:=fun _ _ _ _ _ st h=>wpAny_pyIter_rangeiter st h
end L2
namespace L2
open PySem PySem.Spec PyProof.Rows
section
variable {X:Cx} {tg:Expr}
noncomputable def iList (K:PySem.W.Frag) (tl:TE):TI:=fun σ H R=>tl σ H fun x H1=>∃ a,x=.ref a∧(∃ xs,SqL K H1 a xs)∧R (Itl K a) H1
theorem zkT {l:Expr} {tl:TE} (hl:PE X l tl):PI X tg l (iList X.K tl):=by
 intro pins s σ H R I h
 refine thn (hl pins s σ H _ I h) fun v s1 ⟨x,H1,I1,r1,q1⟩ => ?_
 obtain ⟨a,e,⟨xs,hq⟩,q⟩:=q1
 subst e
 cases r1
 obtain ⟨its,rv,p,hz⟩:=I1.list hq
 refine wpAny_pyIter_list p.isList ?_
 refine ⟨s1.heap.objs.size,[s1.heap.objs.size],_,_,H1,rfl,I1.kept (t':=s1.toks) fun b o e=>Heap.get?_push_of_some _ e,zgE a _,⟨_,Heap.get?_push_size _ rfl,rfl,rfl⟩,fun b hb => ?_,q⟩
 have e:b=s1.heap.objs.size:=by simpa using hb
 subst e
 exact I1.fpOk (Nat.le_refl _) (I1.hok.fresh (Nat.le_refl _))
theorem zfr {pins:List (Addr×Obj)} {σ:St} {H:Hp} {s:Shared} {R:It→Hp→Prop} {E:Value→Shared→Prop} {lo hi:Int} {t u v:Tok} {tk:Nat} (I:Inv X pins σ H s) (h1 : -(2^62)≤lo) (h2:lo<2^62) (h3 : -(2^62)≤hi) (h4:hi<2^62)
 (q:R (Itr lo (hi - lo).toNat) H):wpAny (model X.prog X.w) X.A (pyIter (.ref s.heap.objs.size)) (PIE X pins σ tg R) E { s with heap:=s.heap.push { cls:=.type "range",data:=.fields #[.int lo t,.int hi u,.int 1 v] },toks:=tk }:=by
 refine wpAny_pyIter_range (IsRange.new ..) (small_one h1 h2 h3 h4) ?_
 have I1:Inv X pins σ H { s with heap:=s.heap.push { cls:=.type "range",data:=.fields #[.int lo t,.int hi u,.int 1 v] },toks:=tk }:=I.kept fun b o e=>Heap.get?_push_of_some _ e
 refine ⟨(s.heap.push { cls:=.type "range",data:=.fields #[.int lo t,.int hi u,.int 1 v] }).objs.size,[(s.heap.push { cls:=.type "range",data:=.fields #[.int lo t,.int hi u,.int 1 v] }).objs.size],_,_,H,rfl,
  I1.kept (t':=tk) fun b o e=>Heap.get?_push_of_some _ e,zf4 _ lo (hi - lo).toNat,?_,fun b hb => ?_,q⟩
 ·have e1:lo+((0:Nat):Int)*1=lo:=by simp
  have e2:(((hi - lo).toNat:Nat):Int) - ((0:Nat):Int)=Builtin.Range.rangeSize lo hi 1:=by rw [rangeSize_one]; split <;> lia
  show IsRangeIter _ _ (lo+((0:Nat):Int)*1) ((((hi - lo).toNat:Nat):Int) - ((0:Nat):Int)) 1
  rw [e1,e2]
  exact Heap.get?_push_size _ rfl
 ·have e:b=(s.heap.push { cls:=.type "range",data:=.fields #[.int lo t,.int hi u,.int 1 v] }).objs.size:=by simpa using hb
  subst e
  exact I1.fpOk (Nat.le_refl _) (I1.hok.fresh (Nat.le_refl _))
noncomputable def iRng1 (ta:TA):TI:=fun σ H R=>ta σ H fun vs H1=>∃ j:Int,vs=[.int j] ∧ -(2^62)≤j∧j<2^62∧R (Itr 0 j.toNat) H1
noncomputable def iRng2 (ta:TA):TI:=fun σ H R=>ta σ H fun vs H1=>∃ i j:Int,vs=[.int i,.int j]∧(-(2^62)≤i∧i<2^62 ∧ -(2^62)≤j∧j<2^62)∧R (Itr i (j - i).toNat) H1
theorem zhc {a:Expr} {ta:TA} {p pos:Pos} (hg:Gl X "range") (hm:X.mg "range" = none) (ha:PA X [a] ta) (hs:starEach [a] X.env=[(false,eval a X.env)]:=by rfl):PI X tg (.Call (.Name "range" p) [a] [] pos) (iRng1 ta):=by
 intro pins s σ H R I h
 refine Call_ (tV I hg hm boot_range (PyProof.Rows.callWith_type1 (thn (ha pos pins s σ H _ I h) fun us s1 ⟨vs,H1,I1,r1,q1⟩ => ?_) hs rfl))
 obtain ⟨j,e,q1,q2,q⟩:=q1
 subst e
 cases r1 with
 | cons r rr =>
   cases rr
   obtain ⟨t,rfl⟩:=r
   exact call_range_1 (zfr I1 (by lia) (by lia) q1 q2 (by simpa using q))
theorem zhb {a b:Expr} {ta:TA} {p pos:Pos} (hg:Gl X "range") (hm:X.mg "range" = none) (ha:PA X [a,b] ta) (hs:starEach [a,b] X.env=[(false,eval a X.env),(false,eval b X.env)]:=by rfl) (hs2:starEach [b] X.env=[(false,eval b X.env)]:=by rfl) :
 PI X tg (.Call (.Name "range" p) [a,b] [] pos) (iRng2 ta):=by
 intro pins s σ H R I h
 refine Call_ (tV I hg hm boot_range (PyProof.Rows.callWith_type1 (thn (ha pos pins s σ H _ I h) fun us s1 ⟨vs,H1,I1,r1,q1⟩ => ?_) (by rw [hs,hs2]) (by rw [hs2]; rfl)))
 obtain ⟨i,j,e,⟨q1,q2,q3,q4⟩,q⟩:=q1
 subst e
 cases r1 with
 | cons r rr =>
   cases rr with
   | cons r' rr =>
     cases rr
     obtain ⟨t,rfl⟩:=r
     obtain ⟨t',rfl⟩:=r'
     exact call_range_2 (zfr I1 q1 q2 q3 q4 q)
noncomputable def tFor (wi:TI) (g:TG) (tb:TS):TS:=fun D σ H=>wi σ H fun J H1=>∃ W:Nat→Nat→St→Hp→Prop,(∃ m,W 0 m σ H1)∧∀ i m σ H,W i m σ H →
 (J.stop i H∧D.nx σ H)∨(J.go i H∧∃ N:St→Hp→Prop,(∀ σ' H',N σ' H'→∃ m',m' < m∧W (i+1) m' σ' H')∧∀ x H',J.yld i H x H'→g x σ H' fun σ2 H2=>tb { D with nx:=N,ct:=N,bk:=D.nx } σ2 H2)
noncomputable def zc9 (fp:List Addr) (h:Heap):List (Addr×Obj):=fp.filterMap fun b=>(h.get? b).map fun o=>(b,o)
theorem vq {fp:List Addr} {h:Heap} {b:Addr} {o:Obj} (hb:b∈fp) (e:h.get? b=some o):(b,o)∈zc9 fp h:=List.mem_filterMap.mpr ⟨b,hb,by rw [e]; rfl⟩
theorem zhg {fp:List Addr} {h:Heap} {p:Addr×Obj} (hp:p∈zc9 fp h):p.1∈fp∧h.get? p.1=some p.2:=by
 obtain ⟨b,hb,e⟩:=List.mem_filterMap.mp hp
 cases q:h.get? b with
 | none=>rw [q] at e; cases e
 | some o =>
   rw [q] at e
   have e':(b,o)=p:=Option.some.inj e
   subst e'
   exact ⟨hb,q⟩
theorem Inv.pinned {pins:List (Addr×Obj)} {σ:St} {H:Hp} {s:Shared} {fp:List Addr} (I:Inv X pins σ H s) (hf:∀ b∈fp,FpOk X pins H b) (ho:∀ b∈fp,∃ o,s.heap.get? b=some o∧∀ v,o.data≠.cell v):Inv X (pins++zc9 fp s.heap) σ H s :=
 I.pins_of fun p hp=>(List.mem_append.mp hp).elim (fun z=>I.pin p (List.mem_append_right _ z)) fun z=>by
  obtain ⟨hb,e⟩:=zhg z
  obtain ⟨f0,f1,f2,_⟩:=hf p.1 hb
  obtain ⟨o,e',d⟩:=ho p.1 hb
  rw [e] at e'; cases e'
  exact ⟨e,f0,f1,f2,d⟩
theorem Inv.unpinned {pins pl:List (Addr×Obj)} {σ:St} {H:Hp} {s:Shared} (I:Inv X (pins++pl) σ H s):Inv X pins σ H s:=I.pins_of fun p hp=>I.pin p (List.mem_append_right _ (List.mem_append_left _ hp))
theorem zmk {iter:Expr} {body:List Stmt} {wi:TI} {g:TG} {tb:TS} {pos:Pos} (hp:PassesOwn (model X.prog X.w) X.A X.env X.xe) (hc:X.calm=true) (hi:PI X tg iter wi) (hg:PG X tg g) (hb:PSs X body tb)
 (hs:∀ x,foldedSetIterable iter X.env x=pure x:=by intro _; rfl):PS X (.For tg iter body [] pos) (tFor wi g tb):=by
 intro pins s σ H D I h
 refine wpAny_For (thn (hi pins s σ H _ I h) fun v s1 h1=>thn h1 fun itv s2 h2 => ?_) hs
 obtain ⟨it,fp,tn,J,H2,e,I2,T,st2,f2,W,⟨m0,w0⟩,turn⟩:=h2
 subst e
 have stat:∀ {H':Hp},(∀ b∈fp,H' b=none)→∀ b∈fp,FpOk X pins H' b:=fun hn b hb=>⟨hn b hb,(f2 b hb).2⟩
 refine codeAny_forLoop_any (fun n s'=>∃ i σ' H',Inv X pins σ' H' s'∧tn i s'.heap∧(∀ b∈fp,H' b=none)∧W i n σ' H') ?_ m0 ⟨0,σ,H2,I2,st2,fun b hb=>(f2 b hb).1,w0⟩
 rintro n s3 ⟨i,σ3,H3,I3,st3,fr3,w3⟩
 rcases turn i n σ3 H3 w3 with ⟨stop,qn⟩ | ⟨go,N,hN,step⟩
 ·refine wpAny_passesOwn hp (thn (T.done X rfl rfl rfl hc i pins s3 σ3 H3 X.xe I3 (stat fr3) st3 stop) fun r s4 ⟨hr,I4⟩ => ?_)
  subst hr
  exact wpAny_execs_nil ⟨σ3,H3,I4,qn⟩
 ·refine wpAny_passesOwn hp (thn (T.item X rfl rfl rfl hc i pins s3 σ3 H3 X.xe I3 (stat fr3) st3 go) fun r s4 ⟨u,hr,h4⟩ => ?_)
  subst hr
  refine wpAny_passesOwn hp (thn h4 fun _ s5 ⟨x,H5,I5,r5,y5,st5,fr5⟩ => ?_)
  have I5':=I5.pinned (stat fr5) (T.obj _ _ st5)
  refine wpAny_passesOwn hp (thn (hg _ s5 σ3 H5 x u _ I5' r5 (step x H5 y5)) fun _ s6 ⟨σ6,H6,I6,q6⟩ => ?_)
  refine wpAny_passesOwn hp (thn (hb _ s6 σ6 H6 _ I6 q6) fun f s7 q7 => ?_)
  have again:∀ {σ7:St} {H7:Hp},Inv X (pins++zc9 fp s5.heap) σ7 H7 s7→N σ7 H7→∃ m,m<n∧∃ i σ' H',Inv X pins σ' H' s7∧tn i s7.heap∧(∀ b∈fp,H' b=none)∧W i m σ' H':=fun {σ7 H7} I7 n7=>by
   obtain ⟨m',hm,w7⟩:=hN σ7 H7 n7
   refine ⟨m',hm,i+1,σ7,H7,I7.unpinned,T.keep _ _ _ st5 fun b hb o e=>(I7.pin (b,o) (List.mem_append_right _ (List.mem_append_right _ (vq hb e)))).1,fun b hb => ?_,w7⟩
   obtain ⟨o,e,d⟩:=T.obj _ _ st5 b hb
   exact (I7.pin (b,o) (List.mem_append_right _ (List.mem_append_right _ (vq hb e)))).2.1
  cases f with
  | next=>obtain ⟨σ7,H7,I7,n7⟩:=q7; exact again I7 n7
  | cont=>obtain ⟨σ7,H7,I7,n7⟩:=q7; exact again I7 n7
  | brk=>obtain ⟨σ7,H7,I7,q7⟩:=q7; exact ⟨σ7,H7,I7.unpinned,q7⟩
  | ret v=>obtain ⟨x7,σ7,H7,I7,r7,q7⟩:=q7; exact ⟨x7,σ7,H7,I7.unpinned,r7,q7⟩
end
end L2
namespace L2
open PySem PySem.Spec PyProof.Rows
noncomputable abbrev R2:=V→V→Hp→VK→Prop
noncomputable def OpR (X:Cx) (f:Value→Value→Sem Value) (r:R2):Prop :=
 ∀ (pins:List (Addr×Obj)) (s:Shared) (σ:St) (H:Hp) (x y:V) (v u:Value) (Q:VK),Inv X pins σ H s→RelV x v→RelV y u→r x y H Q →
   wpAny (model X.prog X.w) X.A (f v u) (EP X pins σ Q) X.xe s
noncomputable def UnR (X:Cx) (f:Value→Sem Value) (r:V→Hp→VK→Prop):Prop :=
 ∀ (pins:List (Addr×Obj)) (s:Shared) (σ:St) (H:Hp) (x:V) (v:Value) (Q:VK),Inv X pins σ H s→RelV x v→r x H Q →
   wpAny (model X.prog X.w) X.A (f v) (EP X pins σ Q) X.xe s
noncomputable def tJ (X:Cx) (f:Value) (r:List V→Hp→VK→Prop):Prop :=
 ∀ (pins:List (Addr×Obj)) (s:Shared) (σ:St) (H:Hp) (xs:List V) (us:List Value) (Q:VK),Inv X pins σ H s→Vals xs us→r xs H Q →
   wpAny (model X.prog X.w) X.A (call f us) (EP X pins σ Q) X.xe s
noncomputable def TruR (X:Cx) (r:V→Hp→(Bool→Hp→Prop)→Prop):Prop :=
 ∀ (pins:List (Addr×Obj)) (s:Shared) (σ:St) (H:Hp) (x:V) (v:Value) (Q:Bool→Hp→Prop),Inv X pins σ H s→RelV x v→r x H Q →
   wpAny (model X.prog X.w) X.A (truthy v) (TP X pins σ Q) X.xe s
noncomputable def tOp (r:R2) (ta tb:TE):TE:=fun σ H Q=>ta σ H fun x H1=>tb σ H1 fun y H2=>r x y H2 Q
noncomputable def tUn (r:V→Hp→VK→Prop) (ta:TE):TE:=fun σ H Q=>ta σ H fun x H1=>r x H1 Q
noncomputable def rI (C:Int→Int→Prop) (g:Int→Int→V):R2:=fun x y H Q=>∃ i j,x=.int i∧y=.int j∧C i j∧Q (g i j) H
noncomputable def rI0 (g:Int→Int→V):R2:=fun x y H Q=>∃ i j,x=.int i∧y=.int j∧Q (g i j) H
noncomputable def rU (g:Int→V):V→Hp→VK→Prop:=fun x H Q=>∃ i,x=.int i∧Q (g i) H
section
variable {X:Cx} {a b c:Expr} {ta tb tc:TE} {pos:Pos}
theorem binT (ha:PE X a ta) (hb:PE X b tb) {pins:List (Addr×Obj)} {s:Shared} {σ:St} {H:Hp} {R:V→V→Hp→Prop} (I:Inv X pins σ H s)
 (h:ta σ H fun x H1=>tb σ H1 fun y H2=>R x y H2) {Q:Value→Shared→Prop} {f:Value→Value→Sem Value}
 (hf:∀ v u s2 x y H2,Inv X pins σ H2 s2→RelV x v→RelV y u→R x y H2→wpAny (model X.prog X.w) X.A (f v u) Q X.xe s2) :
 wpAny (model X.prog X.w) X.A (eval a X.env) (fun v s₁=>wpAny (model X.prog X.w) X.A (eval b X.env) (fun u s₂=>wpAny (model X.prog X.w) X.A (f v u) Q X.xe s₂) X.xe s₁) X.xe s:=by
 refine thn (ha pins s σ H _ I h) fun v s1 ⟨x,H1,I1,r1,q1⟩ => ?_
 refine thn (hb pins s1 σ H1 _ I1 q1) fun u s2 ⟨y,H2,I2,r2,q2⟩ => ?_
 exact hf v u s2 x y H2 I2 r1 r2 q2
theorem pe_op {op:Operator} {r:R2} (ho:OpR X (binaryOp op) r) (ha:PE X a ta) (hb:PE X b tb):PE X (.BinOp a op b pos) (tOp r ta tb):=by
 intro pins s σ H Q I h
 exact wpAny_BinOp (binT ha hb I h fun v u s2 x y H2 I2 rx ry q=>ho pins s2 σ H2 x y v u Q I2 rx ry q)
theorem pe_un {op:UnaryOp} {r:V→Hp→VK→Prop} (ho:UnR X (unaryOp op) r) (ha:PE X a ta):PE X (.UnaryOp op a pos) (tUn r ta):=by
 intro pins s σ H Q I h
 exact UnaryOp_ (thn (ha pins s σ H _ I h) fun v s1 ⟨x,H1,I1,r1,q1⟩=>ho pins s1 σ H1 x v Q I1 r1 q1)
theorem opI {f:Value→Value→Sem Value} {C:Int→Int→Prop} {g:Int→Int→Int}
 (rule:∀ (i j:Int) (t u:Tok) (s:Shared) (Q:Value→Shared→Prop) (E:Value→Shared→Prop),C i j→Q (.int (g i j) s.toks) { s with toks:=s.toks+1 }→wpAny (model X.prog X.w) X.A (f (.int i t) (.int j u)) Q E s) :
 OpR X f (rI C fun i j=>.int (g i j)):=by
 intro pins s σ H x y v u Q I rx ry h
 obtain ⟨i,j,rfl,rfl,hc,q⟩:=h
 obtain ⟨t,rfl⟩:=rx
 obtain ⟨t',rfl⟩:=ry
 exact rule i j t t' s _ _ hc ⟨.int (g i j),H,I.tok _,⟨_,rfl⟩,q⟩
theorem opI0 {f:Value→Value→Sem Value} {g:Int→Int→Int}
 (rule:∀ (i j:Int) (t u:Tok) (s:Shared) (Q:Value→Shared→Prop) (E:Value→Shared→Prop),Q (.int (g i j) s.toks) { s with toks:=s.toks+1 }→wpAny (model X.prog X.w) X.A (f (.int i t) (.int j u)) Q E s) :
 OpR X f (rI0 fun i j=>.int (g i j)):=by
 intro pins s σ H x y v u Q I rx ry h
 obtain ⟨i,j,rfl,rfl,q⟩:=h
 obtain ⟨t,rfl⟩:=rx
 obtain ⟨t',rfl⟩:=ry
 exact rule i j t t' s _ _ ⟨.int (g i j),H,I.tok _,⟨_,rfl⟩,q⟩
theorem opB0 {f:Value→Value→Sem Value} {g:Int→Int→Bool}
 (rule:∀ (i j:Int) (t u:Tok) (s:Shared) (Q:Value→Shared→Prop) (E:Value→Shared→Prop),Q (.bool (g i j)) s→wpAny (model X.prog X.w) X.A (f (.int i t) (.int j u)) Q E s) :
 OpR X f (rI0 fun i j=>.bl (g i j)):=by
 intro pins s σ H x y v u Q I rx ry h
 obtain ⟨i,j,rfl,rfl,q⟩:=h
 obtain ⟨t,rfl⟩:=rx
 obtain ⟨t',rfl⟩:=ry
 exact rule i j t t' s _ _ ⟨.bl (g i j),H,I,rfl,q⟩
noncomputable def CPow (i j:Int):Prop:=0≤j∧j≤1000000∧i.natAbs<2^64
noncomputable def CMul (i j:Int):Prop:=(-(2^64)<i∧i<2^64)∨(-(2^64)<j∧j<2^64)
theorem CMul.ok {i j:Int} (h:CMul i j):IntMulOk i j:=by
 rcases h with ⟨h1,h2⟩ | ⟨h1,h2⟩
 ·exact .of_left (intBits_le_64 h1 h2)
 ·exact .of_right (intBits_le_64 h1 h2)
theorem zmE:OpR X (binaryOp .Add) (rI0 fun i j=>.int (i+j)):=opI0 fun _ _ _ _ _ _ _ q=>add_int q
theorem zmw:OpR X (binaryOp .Sub) (rI0 fun i j=>.int (i - j)):=opI0 fun _ _ _ _ _ _ _ q=>sub_int q
theorem zmz:OpR X (binaryOp .Mult) (rI CMul fun i j=>.int (i*j)):=opI fun _ _ _ _ _ _ _ hc q=>mul_int q hc.ok
theorem zmA:OpR X (binaryOp .Mod) (rI (fun _ j=>0<j) fun i j=>.int (i%j)):=opI fun i j _ _ _ _ _ hc q=>by
 have h1:(0:Int)<j:=hc
 exact mod_int' (by lia) (by rw [Int.fmod_eq_emod_of_nonneg i (by lia)]; exact q)
theorem zmx:OpR X (binaryOp .Pow) (rI CPow fun i j=>.int (i^j.toNat)):=opI fun _ _ _ _ _ _ _ hc q=>pow_int_small hc.1 hc.2.1 hc.2.2 q
theorem unI {f:Value→Sem Value} {g:Int→Int}
 (rule:∀ (i:Int) (t:Tok) (s:Shared) (Q:Value→Shared→Prop) (E:Value→Shared→Prop),Q (.int (g i) s.toks) { s with toks:=s.toks+1 }→wpAny (model X.prog X.w) X.A (f (.int i t)) Q E s) :
 UnR X f (rU fun i=>.int (g i)):=by
 intro pins s σ H x v Q I rx h
 obtain ⟨i,rfl,q⟩:=h
 obtain ⟨t,rfl⟩:=rx
 exact rule i t s _ _ ⟨.int (g i),H,I.tok _,⟨_,rfl⟩,q⟩
theorem zlW:UnR X (unaryOp .USub) (rU fun i=>.int (-i)):=unI fun _ _ _ _ _ q=>neg_int q
end
section
variable {X:Cx} {a b c:Expr} {ta tb tc:TE} {pos:Pos}
theorem zkf {pins:List (Addr×Obj)} {σ:St} {H:Hp} {s:Shared} {Q:VK} {k k':Bool} (I:Inv X pins σ H s) (q:Q (.bl k) H) (e:k=k'):EP X pins σ Q (.bool k') s:=by
 subst e
 exact ⟨.bl k,H,I,rfl,q⟩
theorem zk2:OpR X (compareOp .Lt) (rI0 fun i j=>.bl (decide (i<j))):=opB0 fun _ _ _ _ _ _ _ q=>lt_int q
theorem zmB:OpR X (compareOp .LtE) (rI0 fun i j=>.bl (decide (i≤j))):=opB0 fun _ _ _ _ _ _ _ q=>le_int q
theorem zmC:OpR X (compareOp .Gt) (rI0 fun i j=>.bl (decide (j<i))):=opB0 fun _ _ _ _ _ _ _ q=>gt_int q
theorem op_ge:OpR X (compareOp .GtE) (rI0 fun i j=>.bl (decide (j≤i))):=opB0 fun _ _ _ _ _ _ _ q=>ge_int q
theorem zj4:OpR X (compareOp .Is) (fun x y H Q=>y=.non∧Q (.bl (decide (x=.non))) H):=by
 intro pins s σ H x y v u Q I rx ry h
 obtain ⟨rfl,q⟩:=h
 cases ry
 refine is_none_gen (zkf I q ?_)
 cases x <;> first
  | (cases rx; rfl)
  | (obtain ⟨t,rfl⟩:=rx; rfl)
theorem zhf:OpR X (compareOp .IsNot) (fun x y H Q=>y=.non∧Q (.bl (!decide (x=.non))) H):=by
 intro pins s σ H x y v u Q I rx ry h
 obtain ⟨rfl,q⟩:=h
 cases ry
 refine isnot_none_gen (zkf I q ?_)
 cases x <;> first
  | (cases rx; rfl)
  | (obtain ⟨t,rfl⟩:=rx; rfl)
theorem OpR.or {f:Value→Value→Sem Value} {r r':R2} (h:OpR X f r) (h':OpR X f r'):OpR X f (fun x y H Q=>r x y H Q∨r' x y H Q):=by
 intro pins s σ H x y v u Q I rx ry q
 rcases q with q | q
 ·exact h pins s σ H x y v u Q I rx ry q
 ·exact h' pins s σ H x y v u Q I rx ry q
theorem wo (b:Expr) {op:CmpOp} (h:op≠.In:=by decide) (h2:op≠.NotIn:=by decide):behindInMarks op b=false:=by
 have e1:(op == CmpOp.In)=false:=by cases op <;> first | rfl | exact absurd rfl h
 have e2:(op == CmpOp.NotIn)=false:=by cases op <;> first | rfl | exact absurd rfl h2
 cases b <;> simp [behindInMarks,e1,e2]
theorem zkW {op:CmpOp} {r:R2} (ho:OpR X (compareOp op) r) (ha:PE X a ta) (hb:PE X b tb) (hm:behindInMarks op b=false):PE X (.Compare a [op] [b] pos) (tOp r ta tb):=by
 intro pins s σ H Q I h
 exact wpAny_Compare1 (binT ha hb I h fun v u s2 x y H2 I2 rx ry q=>ho pins s2 σ H2 x y v u Q I2 rx ry q) hm
noncomputable def zl0 (t:TE):TT:=fun σ H Q=>t σ H fun x H'=>∃ k,x=.bl k∧Q k H'
theorem zkL {op:CmpOp} {r:R2} (ho:OpR X (compareOp op) r) (ha:PE X a ta) (hb:PE X b tb) (hm:behindInMarks op b=false):PT X (.Compare a [op] [b] pos) (zl0 (tOp r ta tb)):=by
 intro pins s σ H Q I h
 refine wpAny_isTrue_Compare1 (thn (ha pins s σ H _ I h) fun v s1 ⟨x,H1,I1,r1,q1⟩=>thn (hb pins s1 σ H1 _ I1 q1) fun u s2 ⟨y,H2,I2,r2,q2⟩ =>
  thn (ho pins s2 σ H2 x y v u _ I2 r1 r2 q2) fun c s3 ⟨z,H3,I3,r3,k,e,q3⟩ => ?_) hm
 subst e
 cases r3
 exact wpAny_truthy_bool ⟨H3,I3,q3⟩
noncomputable def zjT (r r':R2) (ta tb tc:TE):TE:=fun σ H Q=>ta σ H fun x H1=>tb σ H1 fun y H2=>r x y H2 fun z H3=>∃ k,z=.bl k ∧
 (if k=true then tc σ H3 fun w' H4=>r' y w' H4 Q else Q (.bl false) H3)
theorem ziU {op op':CmpOp} {r r':R2} (ho:OpR X (compareOp op) r) (ho':OpR X (compareOp op') r') (ha:PE X a ta) (hb:PE X b tb) (hc:PE X c tc)
 (hm:lastMarks [op,op'] [b,c]=false:=by with_unfolding_all rfl):PT X (.Compare a [op,op'] [b,c] pos) (zl0 (zjT r r' ta tb tc)):=by
 intro pins s σ H Q I h
 refine isTrue_chain (thn (ha pins s σ H _ I h) fun v s1 ⟨x,H1,I1,r1,q1⟩=>test_link (thn (hb pins s1 σ H1 _ I1 q1) fun u s2 ⟨y,H2,I2,r2,q2⟩ =>
  thn (ho pins s2 σ H2 x y v u _ I2 r1 r2 q2) fun d s3 ⟨z,H3,I3,r3,k,e,q3⟩ => ?_)) hm
 subst e
 cases r3
 refine wpAny_truthy_bool ?_
 cases k with
 | false =>
   obtain ⟨k',e',q'⟩:=q3
   cases e'
   exact ite_ff ⟨H3,I3,q'⟩
 | true =>
   refine ite_tt (test_last (thn (hc pins s3 σ H3 _ I3 q3) fun w' s4 ⟨z',H4,I4,r4,q4⟩=>thn (ho' pins s4 σ H4 y z' u w' _ I4 r2 r4 q4) fun d' s5 ⟨z2,H5,I5,r5,k2,e2,q5⟩ => ?_))
   subst e2
   cases r5
   exact wpAny_truthy_bool ⟨H5,I5,q5⟩
noncomputable def TruV (K:PySem.W.Frag) (x:V) (H:Hp) (k:Bool):Prop :=
 match x with
 | .non=>k=false
 | .bl b=>k=b
 | .int i=>k=(i != 0)
 | .str y=>y.length≤sizeLine∧k=((y.length:Int) != 0)
 | .byt y=>y.size≤sizeLine∧k=((y.size:Int) != 0)
 | .ref p=>(∃ xs,SqL K H p xs∧k = !xs.isEmpty)∨(∃ xs,SqT K H p xs∧k = !xs.isEmpty)∨∃ kvs,H p=some (.dK kvs)∧k = !kvs.isEmpty
 | _=>False
theorem zgj {κ:Type} {kvs:List (κ×V)} {vs:List (κ×Value)} (r:KV kvs vs):(!vs.isEmpty) = !kvs.isEmpty:=by
 cases r <;> rfl
theorem zbB {xs:List V} {its:List Value} (r:Vals xs its):(!its.toArray.isEmpty) = !xs.isEmpty:=by
 cases r <;> simp
theorem zbA:(sizeLine:Nat)<2^63:=by rw [sizeLine_eq]; decide
theorem zlX:TruR X (fun x H Q=>∃ k,TruV X.K x H k∧Q k H):=by
 intro pins s σ H x v Q I rx h
 obtain ⟨k,e,q⟩:=h
 have hl:=zbA
 have hs:sizeLine=16777216:=sizeLine_eq
 cases x with
 | non =>
   cases rx
   have e':k=false:=e
   subst e'
   exact truthy_none ⟨H,I,q⟩
 | bl b =>
   cases rx
   have e':k=b:=e
   subst e'
   exact wpAny_truthy_bool ⟨H,I,q⟩
 | int i =>
   obtain ⟨t,rfl⟩:=rx
   have e':k=(i != 0):=e
   subst e'
   exact PySem.P.truthy_int ⟨H,I,q⟩
 | str y =>
   obtain ⟨t,rfl⟩:=rx
   obtain ⟨hy,e'⟩:y.length≤sizeLine∧k=((y.length:Int) != 0):=e
   subst e'
   exact PySem.P.truthy_str (by lia) ⟨H,I.tok _,q⟩
 | byt y =>
   obtain ⟨t,rfl⟩:=rx
   obtain ⟨hy,e'⟩:y.size≤sizeLine∧k=((y.size:Int) != 0):=e
   subst e'
   exact PySem.W.truthy_bytes (by lia) ⟨H,I.tok _,q⟩
 | ref p =>
   cases rx
   have e':(∃ xs,SqL X.K H p xs∧k = !xs.isEmpty)∨(∃ xs,SqT X.K H p xs∧k = !xs.isEmpty)∨∃ kvs,H p=some (.dK kvs)∧k = !kvs.isEmpty:=e
   rcases e' with ⟨xs,hx,e'⟩ | ⟨xs,hx,e'⟩ | ⟨kvs,hx,e'⟩
   ·subst e'
    obtain ⟨its,r,pl,hz⟩:=I.list hx
    have hlen:=r.length
    exact wpAny_truthy_list pl.isList (by simp only [List.size_toArray]; lia) ⟨H,I.tok _,by rw [zbB r]; exact q⟩
   ·subst e'
    obtain ⟨its,r,pl,hz⟩:=I.tuple hx
    have hlen:=r.length
    exact truthy_tuple pl (by simp only [List.size_toArray]; lia) ⟨H,I.tok _,by rw [zbB r]; exact q⟩
   ·subst e'
    obtain ⟨hz,hS,vs,r,m⟩:kvs.length≤sizeLine∧(p == sysModules)=false∧∃ vs,KV kvs vs∧s.heap.DictOf (zeh X.prog X.w) p vs:=I.hok p _ hx
    have hlen:kvs.length=vs.length:=Paired.length r
    exact wpAny_truthy_dict hS m (by lia) ⟨H,I.tok _,by rw [zgj r]; exact q⟩
 | _=>exact (show False from e).elim
theorem ziT (ha:PE X a ta) (he:∀ whole,isTrue a X.env whole=(do let v ← whole; standAt a.pos; holding [v] (truthy v))) :
 PT X a (fun σ H Q=>ta σ H fun x H'=>∃ k,TruV X.K x H' k∧Q k H'):=by
 intro pins s σ H Q I h
 exact isTrue_plain (thn (ha pins s σ H _ I h) fun v s1 ⟨x,H1,I1,r1,q1⟩=>zlX pins s1 σ H1 x v Q I1 r1 q1) (he _)
theorem zcU {x:V} {us:List Value} (r:Vals [x] us):∃ u,us=[u]∧RelV x u:=by
 cases r with
 | cons r1 r2=>cases r2; exact ⟨_,rfl,r1⟩
theorem zgx {x y:V} {us:List Value} (r:Vals [x,y] us):∃ u w',us=[u,w']∧RelV x u∧RelV y w':=by
 cases r with
 | cons r1 r2 =>
   cases r2 with
   | cons r3 r4=>cases r4; exact ⟨_,_,rfl,r1,r3⟩
theorem zdM (hc:X.calm=true):tJ X (.builtin "max") (fun xs H Q=>∃ i j,xs=[.int i,.int j]∧Q (.int (if j>i then j else i)) H):=by
 intro pins s σ H xs us Q I r h
 obtain ⟨i,j,rfl,q⟩:=h
 obtain ⟨u,w',rfl,⟨t,rfl⟩,⟨t',rfl⟩⟩:=zgx r
 refine max_two_ints (I.ok.hd hc) fun h' tk k=>⟨_,H,I.kept k,?_,q⟩
 by_cases hj:j>i
 ·rw [if_pos hj,if_pos hj]; exact ⟨_,rfl⟩
 ·rw [if_neg hj,if_neg hj]; exact ⟨_,rfl⟩
theorem uG (hc:X.calm=true):tJ X (.builtin "min") (fun xs H Q=>∃ i j,xs=[.int i,.int j]∧Q (.int (if j<i then j else i)) H):=by
 intro pins s σ H xs us Q I r h
 obtain ⟨i,j,rfl,q⟩:=h
 obtain ⟨u,w',rfl,⟨t,rfl⟩,⟨t',rfl⟩⟩:=zgx r
 refine min_two_ints (I.ok.hd hc) fun h' tk k=>⟨_,H,I.kept k,?_,q⟩
 by_cases hj:j<i
 ·rw [if_pos hj,if_pos hj]; exact ⟨_,rfl⟩
 ·rw [if_neg hj,if_neg hj]; exact ⟨_,rfl⟩
theorem zdO:tJ X (.type "int") (fun xs H Q=>(∃ i,xs=[.int i]∧Q (.int i) H)∨∃ k,xs=[.bl k]∧Q (.int (if k then 1 else 0)) H):=by
 intro pins s σ H xs us Q I r h
 rcases h with ⟨i,rfl,q⟩ | ⟨k,rfl,q⟩
 ·obtain ⟨u,rfl,t,rfl⟩:=zcU r
  exact call_int_int ⟨.int i,H,I,⟨_,rfl⟩,q⟩
 ·obtain ⟨u,rfl,r1⟩:=zcU r
  cases r1
  exact call_int_bool ⟨.int (if k then 1 else 0),H,I.tok _,⟨_,rfl⟩,q⟩
end
end L2
namespace L2
open PySem PySem.Spec PyProof.Rows
structure ObjM (h:Heap) (x dx C:Addr) (mA:Str→Option Value):Prop where
 obj:h.get? x=some (PySem.W.instObj C dx)
 ns:h.Ns1 dx mA
 ne:dx≠x
theorem zhB {h:Heap} {dx:Addr} {mA:Str→Option Value} (n:h.Ns1 dx mA):∃ od,h.get? dx=some od∧∀ name,PySem.W.lookIn name od=some (mA name):=by
 obtain ⟨o,es,ep,ho,hd,hk,_,hm⟩:=n
 refine ⟨o,ho,fun name => ?_⟩
 have e:=hm name
 unfold nsFind findBy at e
 rw [←Array.find?_toList] at e
 unfold PySem.W.lookIn
 rw [hd]
 dsimp only
 split
 ·rename_i y q
  rw [q] at e
  exact congrArg some e
 ·rename_i q
  rw [q] at e
  have a:es.toList.any (·.refKey)=false:=by
   rw [List.any_eq_false]
   intro y hy
   obtain ⟨z,t,hkey⟩:=hk y (Array.mem_toList_iff.mp hy)
   simp [DictEntry.refKey,hkey]
  have a':¬ es.toList.any (·.refKey)=true:=by rw [a]; exact Bool.false_ne_true
  rw [if_neg a']
  exact congrArg some e
theorem ObjM.look {h:Heap} {x dx C:Addr} {mA:Str→Option Value} (I:ObjM h x dx C mA):∃ od,PySem.W.InstAt h x (PySem.W.instObj C dx) C (some od)∧∀ name,PySem.W.lookIn name od=some (mA name) :=
 let ⟨od,ho,hl⟩:=zhB I.ns
 ⟨od,⟨I.obj,rfl,rfl,ho⟩,hl⟩
section
variable {prog:Program} {w:World} {A:Around} {E:Value→Shared→Prop} {s:Shared} {K:PySem.W.Frag} {x dx C f:Addr} {mA:Str→Option Value} {name:Str} {v:Value}
end
section
variable {P:Program} {w:World} {H H':Hp} {h h':Heap} {a C dx:Addr} {fs fs':List (Str×V)}
theorem zlp (hok:HOk P w H h) (e:H a=some (.ins C dx fs)):∃ mA,ObjM h a dx C mA∧(∀ f,RelO (fs.lookup f) (mA f))∧PySem.Within mA (fs.map (·.1))∧fs.length≤1000∧H dx=some (.own a):=by
 obtain ⟨d,z,ne,ob,mA,n,r,q⟩:=(show x4 P w H h a (.ins C dx fs) from hok a _ e)
 exact ⟨mA,⟨ob,n,ne⟩,r,q,z,d⟩
end
structure Cls (K:PySem.W.Frag) (C:Addr):Prop where
 pg:PySem.W.plainGet K C Str.empty=true
 hd:PySem.W.hasDictIn K C=true
 po:PySem.W.plainOver K C=true
 sa:PySem.W.findIn K (.ref C) "__setattr__" = some (some (.builtin "object.__setattr__"))
theorem Cls.get {K:PySem.W.Frag} {C:Addr} (c:Cls K C) (f:Str):PySem.W.plainGet K C f=true:=c.pg
section
variable {X:Cx} {pins:List (Addr×Obj)} {σ:St} {H:Hp} {s:Shared} {a C dx:Addr} {fs:List (Str×V)} {f:Str} {v:V} {A:Around} {E:Value→Shared→Prop}
end
section
variable {X:Cx} {o e value:Expr} {f:Str} {pos pos' tpos:Pos} {ta tv:TE}
end
section
variable {X:Cx} {pins:List (Addr×Obj)} {σ:St} {H:Hp} {s:Shared} {A:Around} {E:Value→Shared→Prop} {Q:Value→Shared→Prop} {c:Value} {b:Bool}
inductive TyOf (K:PySem.W.Frag) (H:Hp):V→Value→Prop where
 | non:TyOf K H .non (.type "NoneType")
 | bl (x:Bool):TyOf K H (.bl x) (.type "bool")
 | int (i:Int):TyOf K H (.int i) (.type "int")
 | str (x:Str):TyOf K H (.str x) (.type "str")
 | flt (x:UInt64):TyOf K H (.flt x) (.type "float")
 | lst {a:Addr} {xs:List V} (e:H a=some (.lst xs)):TyOf K H (.ref a) (.type "list")
 | frz {a:Addr} {o:Obj} {xs:List V} (e:H a=some (.frz o (.lst xs))):TyOf K H (.ref a) (.type "list")
 | tup {a:Addr} {xs:List V} (e:H a=some (.tup xs)):TyOf K H (.ref a) (.type "tuple")
 | dK {a:Addr} {kvs:List (Key×V)} (e:H a=some (.dK kvs)):TyOf K H (.ref a) (.type "dict")
 | dT {a:Addr} {kvs:List (List Key×V)} (e:H a=some (.dT kvs)):TyOf K H (.ref a) (.type "dict")
 | ins {a C dx:Addr} {fs:List (Str×V)} (e:H a=some (.ins C dx fs)) (cl:Cls K C) (ha:PySem.W.findIn K (.ref C) "__class__" = some (some (.builtin "object.__class__")))
  (hn:PySem.W.specialIn K (.builtin "object.__class__") "__get__" = some (some (.builtin "getset_descriptor.__get__"))) (htk:PySem.W.takesIn K (.builtin "object.__class__")=some true)
  (hm:PySem.W.mroIn K C (.type "object")=some true):TyOf K H (.ref a) (.ref C)
theorem zhJ {x:V} {u t:Value} (I:Inv X pins σ H s) (rx:RelV x u) (ty:TyOf X.K H x t) (e:PySem.W.kitOne X.K t c=some b) (h:∀ tk,Q (.bool b) { s with toks:=tk }) :
 wpAny (model X.prog X.w) A (call (.builtin "isinstance") [u,c]) Q E s:=by
 cases ty with
 | non=>cases (show u=Value.none from rx); exact PySem.W.kia_one PySem.W.kitx_none I.kIn True.intro e (fun z=>nomatch z) h
 | bl y=>cases (show u=Value.bool y from rx); exact PySem.W.kia_one PySem.W.kitx_bool I.kIn True.intro e (fun z=>nomatch z) h
 | int i=>obtain ⟨t,q⟩:=(show ∃ t,u=Value.int i t from rx); cases q; exact PySem.W.kia_one PySem.W.kitx_int I.kIn True.intro e (fun z=>nomatch z) h
 | str y=>obtain ⟨t,q⟩:=(show ∃ t,u=Value.str y t from rx); cases q; exact PySem.W.kia_one PySem.W.kitx_str I.kIn True.intro e (fun z=>nomatch z) h
 | flt y=>obtain ⟨t,q⟩:=(show ∃ t,u=Value.float y t from rx); cases q; exact PySem.W.kia_one PySem.W.kitx_float I.kIn True.intro e (fun z=>nomatch z) h
 | @lst a xs ea =>
   cases (show u=Value.ref a from rx)
   obtain ⟨_,_,n,_,h1⟩:=(show x4 X.prog X.w H s.heap a (.lst xs) from I.hok a _ ea)
   exact PySem.W.kia_one PySem.W.kitx_list I.kIn ⟨_,h1,rfl⟩ e (fun z=>nomatch z) h
 | @frz a ob xs ea =>
   cases (show u=Value.ref a from rx)
   obtain ⟨_,_,_,n,_,h1⟩:=(show x4 X.prog X.w H s.heap a (.frz ob (.lst xs)) from I.hok a _ ea)
   exact PySem.W.kia_one PySem.W.kitx_list I.kIn ⟨_,h1,rfl⟩ e (fun z=>nomatch z) h
 | @tup a xs ea =>
   cases (show u=Value.ref a from rx)
   obtain ⟨_,_,_,p⟩:=(show x4 X.prog X.w H s.heap a (.tup xs) from I.hok a _ ea)
   obtain ⟨o,h1,h2,_⟩:=p
   exact PySem.W.kia_one PySem.W.kitx_tuple I.kIn ⟨o,h1,h2⟩ e (fun z=>nomatch z) h
 | @dK a kvs ea =>
   cases (show u=Value.ref a from rx)
   obtain ⟨_,_,vs,_,p⟩:=(show x4 X.prog X.w H s.heap a (.dK kvs) from I.hok a _ ea)
   obtain ⟨o,es,ep,h1,h2,_⟩:=p
   exact PySem.W.kia_one PySem.W.kitx_dict I.kIn ⟨o,h1,h2.1⟩ e (fun z=>nomatch z) h
 | @dT a kvs ea =>
   cases (show u=Value.ref a from rx)
   obtain ⟨_,_,xs,_,o,es,ep,h1,h2,_⟩:=(show x4 X.prog X.w H s.heap a (.dT kvs) from I.hok a _ ea)
   exact PySem.W.kia_one PySem.W.kitx_dict I.kIn ⟨o,h1,h2.1⟩ e (fun z=>nomatch z) h
 | @ins a C dx fs ea cl ha hn htk hm =>
   cases (show u=Value.ref a from rx)
   obtain ⟨mA,O,_⟩:=zlp I.hok ea
   obtain ⟨od,J,_⟩:=O.look
   exact PySem.W.kia_one (PySem.W.kitx_own (cl.get _) cl.hd ha hn htk hm) I.kIn J e (fun z=>nomatch z) h
end
end L2
namespace L2
open PySem PySem.Spec PyProof.Rows
structure Room (k:Nat) (A:Around):Prop where
 hd:A.handled=none
 dp:A.depth+3*k+5<recursionLimit
 un:A.units+16*k+200<cLine
theorem Room.mono {j k:Nat} {A:Around} (r:Room k A) (h:j≤k):Room j A:=⟨r.hd,by have:=r.dp; lia,by have:=r.un; lia⟩
theorem Room.deeper {k:Nat} {A:Around} (r:Room (k+1) A) (env:Env):Room k (A.deeper env) :=
 ⟨r.hd,by have:=r.dp; show A.depth+1+3*k+5<_; lia,by have:=r.un; show A.units+3+16*k+200<_; lia⟩
theorem Room.depth {k:Nat} {A:Around} (r:Room k A):A.depth<recursionLimit:=by have:=r.dp; lia
theorem Room.units {k:Nat} {A:Around} (r:Room k A):A.units+64<cLine:=by have:=r.un; lia
noncomputable def tNil:TA:=fun _ H Q=>Q [] H
noncomputable def zl2 (ta:TE) (tr:TA):TA:=fun σ H Q=>ta σ H fun x H1=>tr σ H1 fun xs H2=>Q (x::xs) H2
section
variable {X:Cx} {e:Expr} {es:List Expr} {te:TE} {t:TA} {pos:Pos}
theorem wY:PA X [] tNil:=fun _ _ _ _ H Q I h=>Calls.spliced_nil ⟨[],H,I,.nil,h⟩
theorem yX (ha:PE X e te) (hr:PA X es t) (hs:starEach (e::es) X.env=(false,eval e X.env)::starEach es X.env:=by rfl):PA X (e::es) (zl2 te t):=by
 intro pos pins s σ H Q I h
 rw [hs]
 show wpAny _ _ (spliced ((false,eval e X.env)::backTo pos (starEach es X.env))) _ _ s
 refine Calls.spliced_cons (thn (ha pins s σ H _ I h) fun u s1 ⟨x,H1,I1,r1,q1⟩ => ?_)
 exact thn (hr pos pins s1 σ H1 _ I1 q1) fun us s2 ⟨xs,H2,I2,r2,q2⟩=>⟨x::xs,H2,I2,.cons r1 r2,q2⟩
noncomputable def tTup (t:TA):TE:=fun σ H Q=>t σ H fun xs H1=>xs.length≤sizeLine∧∀ p,H1 p=none→Q (.ref p) (upd H1 p (.tup xs))
noncomputable def tLst (t:TA):TE:=fun σ H Q=>t σ H fun xs H1=>xs.length≤sizeLine∧∀ p,H1 p=none→Q (.ref p) (upd H1 p (.lst xs))
theorem zmp {x1} (h:PA X es t):PE X (.Tuple es x1 pos) (tTup t):=by
 intro pins s σ H Q I hq
 refine wpAny_Tuple_spliced (thn (h pos pins s σ H _ I hq) fun us s1 ⟨xs,H1,I1,r,z,q⟩=>⟨by rw [←r.length]; exact z,?_⟩)
 have hf:H1 s1.heap.objs.size=none:=I1.hok.fresh (Nat.le_refl _)
 refine ⟨.ref s1.heap.objs.size,upd H1 s1.heap.objs.size (.tup xs),I1.laid (t':=s1.toks) (fun b u e=>Heap.get?_push_of_some _ e) (Nat.le_refl _) ?_,rfl,q _ hf⟩
 exact ⟨z,us,r,⟨_,Heap.get?_push_size _ rfl,rfl,_,rfl⟩⟩
theorem zmt (h:PA X es t):PE X (.List es pos) (tLst t):=by
 intro pins s σ H Q I hq
 refine wpAny_List_spliced (thn (h pos pins s σ H _ I hq) fun us s1 ⟨xs,H1,I1,r,z,q⟩=>⟨by rw [←r.length]; exact z,?_⟩)
 have hf:H1 s1.heap.objs.size=none:=I1.hok.fresh (Nat.le_refl _)
 refine ⟨.ref s1.heap.objs.size,upd H1 s1.heap.objs.size (.lst xs),I1.laid (t':=s1.toks) (fun b u e=>Heap.get?_push_of_some _ e) (Nat.le_refl _) ?_,rfl,q _ hf⟩
 exact ⟨z,us,0,r,Heap.get?_push_size _ rfl⟩
end
noncomputable abbrev Sp:=List V→Hp→VK→XK→Prop
noncomputable abbrev CXT:=List Env→Hp→Shared→XK→Value→Shared→Prop
structure Env0 (P:Program) (w:World) (K:PySem.W.Frag) (mg:Str→Option Value) (base:Heap) (A:Around) (outer:List Env) (s:Shared) (H:Hp):Prop where
 frames:A.frames=some outer
 mod:Mod K mg base
 bs:∀ b o,base.get? b=some o→s.heap.get? b=some o∧H b=none
 bsz:base.objs.size≤s.heap.objs.size
 funs:s.heap.FunFrames base outer
 frf:∀ b∈frs outer,H b=none
 hok:HOk P w H s.heap
 bare:AllBare s.gens
noncomputable def CE (outer:List Env) (P:Program) (w:World) (H:Hp) (s:Shared) (Q:VK) (u:Value) (s':Shared):Prop :=
 ∃ v H',s'.os=s.os∧AllBare s'.gens∧Un (frs outer) [] H H' s.heap s'.heap∧HOk P w H' s'.heap∧RelV v u∧Q v H'
noncomputable def CR (CX:CXT) (outer:List Env) (P:Program) (w:World) (H:Hp) (s:Shared) (Q:VK) (E:XK) (r:Result) (s':Shared):Prop :=
 match r with
 | .ok (.ret u)=>CE outer P w H s Q u s'
 | .ok _=>False
 | .error e=>CX outer H s E e s'
structure FnOk (P:Program) (w:World) (K:PySem.W.Frag) (mg:Str→Option Value) (base:Heap) (CX:CXT) (k:Nat) (f:Addr) (fd:FuncData) (ps:List Str) (sp:Sp):Prop where
 len:∀ vs H Q E,sp vs H Q E→vs.length=ps.length
 run:∀ (A:Around) (outer:List Env) (s:Shared) (H:Hp) (args:Args) (us:List Value) (vs:List V) (Q:VK) (E:XK),Room k A→Env0 P w K mg base A outer s H→BindsTo s fd args (ps.zip us)→Vals vs us→sp vs H Q E →
  codeAny (model P w) A (.call (.ref f) args) (CR CX outer P w H s Q E) s
theorem FnOk.mono {P:Program} {w:World} {K:PySem.W.Frag} {mg:Str→Option Value} {base:Heap} {CX:CXT} {j k:Nat} {f:Addr} {fd:FuncData} {ps:List Str} {sp:Sp} (F:FnOk P w K mg base CX j f fd ps sp) (h:j≤k) :
 FnOk P w K mg base CX k f fd ps sp:=⟨F.len,fun A outer s H args us vs Q E hr=>F.run A outer s H args us vs Q E (hr.mono h)⟩
theorem FnOk.imp {P:Program} {w:World} {K:PySem.W.Frag} {mg:Str→Option Value} {base:Heap} {CX:CXT} {k:Nat} {f:Addr} {fd:FuncData} {ps:List Str} {sp sp':Sp} (F:FnOk P w K mg base CX k f fd ps sp)
 (h:∀ vs H Q E,sp' vs H Q E→sp vs H Q E):FnOk P w K mg base CX k f fd ps sp' :=
 ⟨fun vs H Q E q=>F.len vs H Q E (h _ _ _ _ q),fun A outer s H args us vs Q E hr he hb hv hs=>F.run A outer s H args us vs Q E hr he hb hv (h _ _ _ _ hs)⟩
section
variable {X:Cx} {pins:List (Addr×Obj)} {σ:St} {H:Hp} {s s':Shared}
theorem Inv.env0 (I:Inv X pins σ H s):Env0 X.prog X.w X.K X.mg X.base X.A X.stack s H :=
 ⟨I.ok.frames,I.ok.mod,I.bs,Nat.le_trans I.ok.bsz I.sz,I.stack,I.stkFree,I.hok,I.bare⟩
theorem Inv.after {Q:VK} {u:Value} (I:Inv X pins σ H s) (h:CE X.stack X.prog X.w H s Q u s'):EP X pins σ Q u s':=by
 obtain ⟨v,H',os,bare,un,hok,r,q⟩:=h
 obtain ⟨hh,g,d,t,os'⟩:=s'
 obtain rfl:os'=s.os:=os
 exact ⟨v,H',I.call (h':=hh) (g':=g) (d':=d) (t':=t) (ch:=[]) un hok bare (fun b z=>absurd z (by simp)),r,q⟩
end
noncomputable def tCall (sp:Sp) (dvs:List V) (E:XK) (t:TA):TE:=fun σ H Q=>t σ H fun vs H1=>sp (vs++dvs) H1 Q E
noncomputable def Binds (K:PySem.W.Frag) (fd:FuncData) (ps:List Str) (ds:List Value):Prop :=
 ∀ (s:Shared) (us:List Value),K.In s.heap→(us++ds).length=ps.length→BindsTo s fd ⟨us,[]⟩ (ps.zip (us++ds))
theorem Binds.all {K:PySem.W.Frag} {fd:FuncData} {ps:List Str} (h:∀ us:List Value,us.length=ps.length→bindArgs fd ⟨us,[]⟩=pure (ps.zip us)):Binds K fd ps []:=fun s us _ hl=>by
 rw [List.append_nil] at hl ⊢
 exact .of_eq (h us hl)
noncomputable def ziw (CX:CXT) (X:Cx) (E:XK):Prop:=∀ (pins:List (Addr×Obj)) (σ:St) (H:Hp) (s:Shared) (e:Value) (s':Shared),Inv X pins σ H s→CX X.stack H s E e s'→X.xe e s'
section
variable {X:Cx} {CX:CXT} {k:Nat} {f C:Addr} {fd:FuncData} {ps:List Str} {sp:Sp} {dvs:List V} {ds:List Value} {E:XK} {x m:Str} {p pos apos:Pos} {e o:Expr} {es:List Expr} {ta:TE} {t:TA}
theorem zmb {pins:List (Addr×Obj)} {σ:St} {H:Hp} {s:Shared} {Q:VK} {us:List Value} {vs:List V} (F:FnOk X.prog X.w X.K X.mg X.base CX k f fd ps sp) (hr:Room k X.A) (hb:Binds X.K fd ps ds) (hd:Vals dvs ds) (hx:ziw CX X E)
 (I:Inv X pins σ H s) (r:Vals vs us) (h:sp (vs++dvs) H Q E):wpAny (model X.prog X.w) X.A (call (.ref f) us) (EP X pins σ Q) X.xe s:=by
 have r2:Vals (vs++dvs) (us++ds):=r.append hd
 have hl:(us++ds).length=ps.length:=by rw [←r2.length]; exact F.len _ _ _ _ h
 refine wpAny_call (codeAny_mono (F.run X.A X.stack s H ⟨us,[]⟩ (us++ds) (vs++dvs) Q E hr I.env0 (hb s us I.kIn hl) r2 h) fun r s' hq => ?_)
 cases r with
 | error e=>exact hx pins σ H s e s' I hq
 | ok fl =>
   cases fl with
   | ret u=>exact I.after hq
   | next=>exact False.elim hq
   | brk=>exact False.elim hq
   | cont=>exact False.elim hq
theorem zkX (F:FnOk X.prog X.w X.K X.mg X.base CX k f fd ps sp) (hr:Room k X.A) (hg:Gl X x) (hm:X.mg x=some (.ref f)) (hk:PySem.W.keepIn X.K (.ref f)=true) (hb:Binds X.K fd ps ds) (hd:Vals dvs ds) (hx:ziw CX X E)
 (ha:PA X (e::es) t) (hdb:(x == ("__debug__" : Str))=false:=by decide) (he:starEach (e::es) X.env=(false,eval e X.env)::starEach es X.env:=by rfl) (hpl:(backTo pos (starEach es X.env)).any (·.1)=false:=by rfl) :
 PE X (.Call (.Name x p) (e::es) [] pos) (tCall sp dvs E t):=by
 intro pins s σ H Q I h
 refine wpAny_Call_Name_kw (zlh I hg hm ?_ hdb)
 refine PySem.W.callWith_K (h₀:=X.base) I.ok.mod.kin hk (thn (ha pos pins s σ H _ I h) fun us s1 ⟨vs,H1,I1,r,q⟩=>⟨I1.kIn,?_⟩) he hpl
 exact zmb F hr hb hd hx I1 r q
end
section
variable {X:Cx} {CX:CXT} {k:Nat} {f C:Addr} {fd:FuncData} {ps ks:List Str} {sp:Sp} {E:XK} {x m:Str} {p pos apos kpos:Pos} {e o:Expr} {es:List Expr} {kws:List Keyword} {te ta:TE} {t tk:TA} {nm:Option Str}
variable {g:List Value→List Value→List Value} {gV:List V→List V→List V}
end
structure FnScope (N P:List Str) (sc:Scope):Prop where
 kind:sc.kind=.function
 co:sc.isCoroutine=false
 gen:sc.isGenerator=false
 nd:N.Nodup
 pre:N.take P.length=P
 par:∀ x∈P,sc.names.lookup x=some .local∨sc.names.lookup x=some .cell
 nofree:∀ y∈sc.names,y.2≠.free
theorem zdR {kindOf:Str→Option NameKind} {x:Str}:∀ {binds:List (Str×Value)} {m:Str→Option Value},(∀ v,(x,v)∉binds)→bindL kindOf binds m x=m x
 | [],_,_=>rfl
 | (n,v)::r,m,h=>by
   unfold bindL
   rw [zdR fun w hw=>h w (List.mem_cons_of_mem _ hw)]
   split
   ·have:x≠n:=by rintro rfl; exact h v List.mem_cons_self
    simp [this]
   ·rfl
theorem zdT {kindOf:Str→Option NameKind} {x:Str}:∀ {binds:List (Str×Value)} {m:Str→Option Value},(∀ v,(x,v)∉binds)→bindC kindOf binds m x=m x
 | [],_,_=>rfl
 | (n,v)::r,m,h=>by
   unfold bindC
   rw [zdT fun w hw=>h w (List.mem_cons_of_mem _ hw)]
   split
   ·rfl
   ·have:x≠n:=by rintro rfl; exact h v List.mem_cons_self
    simp [this]
theorem zdS {kindOf:Str→Option NameKind} {x:Str} {v:Value}:∀ {P:List Str} {vs:List Value} {i:Nat} {m:Str→Option Value},P.Nodup→P[i]?=some x→vs[i]?=some v→kindOf x=some .local →
 bindL kindOf (P.zip vs) m x=some v
 | [],_,_,_,_,h,_,_=>by simp at h
 | _::_,[],_,_,_,_,h,_=>by simp at h
 | p::P,w::vs,0,m,nd,h1,h2,hk=>by
   simp at h1 h2; subst h1; subst h2
   show bindL kindOf ((p,w)::P.zip vs) m p=_
   unfold bindL
   rw [zdR fun v hv=>(List.nodup_cons.mp nd).1 (List.of_mem_zip hv).1,if_pos hk]
   simp
 | p::P,w::vs,i+1,m,nd,h1,h2,hk=>by
   show bindL kindOf ((p,w)::P.zip vs) m x=_
   unfold bindL
   exact zdS (i:=i) (List.nodup_cons.mp nd).2 (by simpa using h1) (by simpa using h2) hk
theorem zdU {kindOf:Str→Option NameKind} {x:Str} {v:Value}:∀ {P:List Str} {vs:List Value} {i:Nat} {m:Str→Option Value},P.Nodup→P[i]?=some x→vs[i]?=some v→kindOf x≠some .local →
 bindC kindOf (P.zip vs) m x=some v
 | [],_,_,_,_,h,_,_=>by simp at h
 | _::_,[],_,_,_,_,h,_=>by simp at h
 | p::P,w::vs,0,m,nd,h1,h2,hk=>by
   simp at h1 h2; subst h1; subst h2
   show bindC kindOf ((p,w)::P.zip vs) m p=_
   unfold bindC
   rw [zdT fun v hv=>(List.nodup_cons.mp nd).1 (List.of_mem_zip hv).1,if_neg hk]
   simp
 | p::P,w::vs,i+1,m,nd,h1,h2,hk=>by
   show bindC kindOf ((p,w)::P.zip vs) m x=_
   unfold bindC
   exact zdU (i:=i) (List.nodup_cons.mp nd).2 (by simpa using h1) (by simpa using h2) hk
noncomputable def zao (N:List Str) (vs:List V):St:=vs.map some++List.replicate (N.length - vs.length) none
noncomputable def cxOf (CX:CXT) (P:Program) (w:World) (K:PySem.W.Frag) (mg:Str→Option Value) (base:Heap) (N:List Str) (qual:Str) (scope:Scope) (f:Addr) (cd:Value) (A:Around) (outer:List Env) (s:Shared) (H:Hp) (E:XK):Cx where
 prog:=P
 w:=w
 K:=K
 mg:=mg
 base:=base
 A:=A.deeper (envOfC qual scope s.heap.objs.size f cd)
 N:=N
 s₀:=s
 H₀:=H
 env:=envOfC qual scope s.heap.objs.size f cd
 outer:=outer
 stack:=envOfC qual scope s.heap.objs.size f cd::outer
 ex:=[]
 calm:=true
 fn:=fun _=>true
 pn:=[]
 xe:=fun e s'=>wpAny (model P w) (A.deeper (envOfC qual scope s.heap.objs.size f cd)) (leaving (envOfC qual scope s.heap.objs.size f cd) e) (fun _ s''=>CX outer H s E e s'') (fun e' s''=>CX outer H s E e' s'') s'
theorem zaj {sc:Scope} {n:Nat} {x:Str} (h:sc.names.lookup x=some .cell):∃ c,(cellsFrom n sc.names []).lookup x=some c:=by
 have q:=PySem.W.cellsFrom_some sc.names n [] (.inl h)
 exact Option.isSome_iff_exists.mp q
theorem zhL {CX:CXT} {P:Program} {w:World} {K:PySem.W.Frag} {mg:Str→Option Value} {base:Heap} {N ps:List Str} {qual:Str} {scope:Scope} {f:Addr} {cd:Value} {A:Around} {outer:List Env} {s s1:Shared} {H:Hp} {E:XK} {us:List Value} {vs:List V}
 (S:FnScope N ps scope) (hd:A.handled=none) (e0:Env0 P w K mg base A outer s H) (hl:vs.length=ps.length) (r:Vals vs us)
 (x:InCallC s s.heap.objs.size (bindL (envOfC qual scope s.heap.objs.size f cd).kindOf (ps.zip us) fun _=>none) (cellsFrom (s.heap.objs.size+1) scope.names []) (bindC (envOfC qual scope s.heap.objs.size f cd).kindOf (ps.zip us) fun _=>none) s1) :
 Inv (cxOf CX P w K mg base N qual scope f cd A outer s H E) [] (zao N vs) H s1:=by
 have hpl:ps.length≤N.length:=by have:=congrArg List.length S.pre; rw [List.length_take] at this; lia
 obtain ⟨h1,tk,rfl,hk⟩:=x.done
 have noA:∀ b:Addr,b∉(cxOf CX P w K mg base N qual scope f cd A outer s H E).ex:=fun b z=>absurd (show b∈([]:List Addr) from z) (by simp)
 refine ⟨⟨e0.mod,S.kind,rfl,rfl,Nat.le_refl _,fun y z c h1 h2 => ?_,fun y hy => ?_,fun y c _ h => ?_,fun _=>hd,Around.frames_deeper e0.frames,.inr ⟨rfl,rfl⟩,fun b z=>absurd z (noA b),e0.bs,e0.bsz,fun b _ _=>noA b,fun b z=>absurd z (noA b),e0.funs,e0.frf⟩,
  rfl,e0.bare,Un.kept hk,⟨_,x.toInCall.ns,fun i y v h1 h2 h3 => ?_⟩,fun y c h=>⟨_,x.cell y c h⟩,e0.hok.fresh (Nat.le_refl _),fun y c h => ?_,fun p hp=>absurd (show p∈([]:List (Addr×Obj)) from hp) (by simp),e0.hok.kept hk,?_⟩
 ·exact name_of_addr x.apart (PySem.mem_of_lookup h1) (PySem.mem_of_lookup h2)
 ·have hy:scope.names.lookup y=some .cell∨scope.names.lookup y=some .free:=hy
  rcases hy with hy | hy
  ·exact zaj hy
  ·exact absurd rfl (S.nofree _ (PySem.mem_of_lookup hy))
 ·exact Nat.le_of_lt (x.above y c (PySem.mem_of_lookup h))
 ·have hi:i<vs.length:=by
   unfold zao at h2
   by_cases hi:i<vs.length
   ·exact hi
   ·rw [List.getElem?_append_right (by simpa using hi)] at h2
    rw [List.getElem?_replicate] at h2
    split at h2 <;> cases h2
  have ha:vs[i]?=some v:=by
   unfold zao at h2
   rw [List.getElem?_append_left (by simpa using hi),List.getElem?_map] at h2
   cases e:vs[i]? with
   | none=>rw [e] at h2; cases h2
   | some a=>rw [e] at h2; cases h2; rfl
  obtain ⟨u,hu,rv⟩:=r.get ha
  have hp:ps[i]?=some y:=by
   rw [←S.pre,List.getElem?_take_of_lt (by lia)]; exact h1
  have ndP:ps.Nodup:=by rw [←S.pre]; exact S.nd.sublist (List.take_sublist _ _)
  refine ⟨u,rv,?_⟩
  rcases S.par y (List.mem_of_getElem? hp) with k | k
  ·exact .inl ⟨k,zdS ndP hp hu k⟩
  ·obtain ⟨c,e⟩:=zaj (n:=s.heap.objs.size+1) k
   refine .inr ⟨.inl k,c,e,?_⟩
   have q:=x.cell y c e
   rw [zdU ndP hp hu (by show scope.names.lookup y≠_; rw [k]; decide)] at q
   exact q
 ·exact e0.hok.fresh (Nat.le_of_lt (x.above y c (PySem.mem_of_lookup h)))
 ·unfold zao
  show _=N.length
  rw [List.length_append,List.length_map,List.length_replicate]
  lia
theorem fn_of {CX:CXT} {P:Program} {w:World} {K:PySem.W.Frag} {mg:Str→Option Value} {base:Heap} {k:Nat} {f:Addr} {name qual:Str} {params:Arguments} {body:List Stmt} {scope:Scope} {dV kV doc pm cdv ct oc:Value} {an od:Option Addr}
 {osl:Array (Option Value)} {N ps:List Str} {sp:Sp} (lk:K.lookup f=some ⟨oc,od,.func (PySem.W.fnOf name qual params body scope dV kV doc pm an cdv ct),osl⟩) (hcd:PySem.W.codeIn K cdv qual=true) (S:FnScope N ps scope)
 (len:∀ vs H Q E,sp vs H Q E→vs.length=ps.length)
 (hbody:∀ (A:Around) (outer:List Env) (s:Shared) (H:Hp) (vs:List V) (Q:VK) (E:XK),Room k (A.deeper (envOfC qual scope s.heap.objs.size f cdv))→sp vs H Q E →
  ∃ t,PSs (cxOf CX P w K mg base N qual scope f cdv A outer s H E) body t∧t { nx:=fun _ H'=>Q .non H',rt:=Q } (zao N vs) H) :
 FnOk P w K mg base CX (k+1) f (PySem.W.fnOf name qual params body scope dV kV doc pm an cdv ct) ps sp:=by
 refine ⟨len,fun A outer s H args us vs Q E hr e0 hb r hsp => ?_⟩
 have hl:=len _ _ _ _ hsp
 have KX:K.In s.heap:=e0.mod.kin.keeps fun b o e=>(e0.bs b o e).1
 have lim:s.heap.NoLimit:=e0.mod.nolimit.keeps fun b o e=>(e0.bs b o e).1
 have hkind:∀ y∈ps.zip us,scope.names.lookup y.1=some .local∨(scope.names.lookup y.1=some .cell∧((cellsFrom (s.heap.objs.size+1) scope.names []).lookup y.1).isSome=true):=fun ⟨n,v⟩ hy=>by
  rcases S.par n (List.of_mem_zip hy).1 with q | q
  ·exact .inl q
  ·exact .inr ⟨q,PySem.W.cellsFrom_some _ _ _ (.inl q)⟩
 refine codeAny_call_function hr.depth (KX _ _ lk) rfl S.co S.gen rfl (PySem.W.codeRec_of KX hcd) (hb _ _ _ _ ?_)
 refine wpAny_newFunctionEnv_cells S.kind hkind fun env he s1 x => ?_
 subst he
 refine ⟨lim.keeps x.toInCall.keep,codeAny_func ?_⟩
 obtain ⟨t,ht,hq⟩:=hbody A outer s H vs Q E (hr.deeper _) hsp
 have I:Inv (cxOf CX P w K mg base N qual scope f cdv A outer s H E) [] (zao N vs) H s1:=zhL S hr.hd e0 hl r x
 refine wpAny_mono (ht [] s1 (zao N vs) H _ I hq) (fun fl s' hs => ?_) fun e s' hs=>hs
 have fin:∀ {σ':St} {H':Hp} {v:V} {u:Value},Inv (cxOf CX P w K mg base N qual scope f cdv A outer s H E) [] σ' H' s'→RelV v u→Q v H'→CE outer P w H s Q u s' :=
  fun {σ' H' v u} J rv q=>⟨v,H',J.os,J.bare,J.base,J.hok,rv,q⟩
 cases fl with
 | ret u =>
   obtain ⟨v,σ',H',J,rv,q⟩:=hs
   exact fin J rv q
 | next =>
   obtain ⟨σ',H',J,q⟩:=hs
   exact fin (v:=V.non) (u:=Value.none) J rfl q
 | brk =>
   obtain ⟨_,_,_,q⟩:=hs
   exact False.elim q
 | cont =>
   obtain ⟨_,_,_,q⟩:=hs
   exact False.elim q
end L2
namespace L2
open PySem PySem.Spec PyProof.Rows
section
variable {X:Cx} {x:Str} {p pos:Pos} {e:Expr} {es:List Expr} {t:TA} {id T:String} {r:List V→Hp→VK→Prop}
noncomputable def tCB (r:List V→Hp→VK→Prop) (t:TA):TE:=fun σ H Q=>t σ H fun vs H1=>r vs H1 Q
theorem zcb (hc:tJ X (.builtin id) r) (hg:Gl X x) (hm:X.mg x=none) (hv:bootBuiltins x=some (.builtin id)) (ha:PA X (e::es) t) (hn:x ≠ "__name__" := by decide) (hdb:(x == ("__debug__" : Str))=false:=by decide)
 (he:starEach (e::es) X.env=(false,eval e X.env)::starEach es X.env:=by rfl) (hpl:(backTo pos (starEach es X.env)).any (·.1)=false:=by rfl):PE X (.Call (.Name x p) (e::es) [] pos) (tCB r t):=by
 intro pins s σ H Q I h
 refine wpAny_Call_Name_kw (tV I hg hm hv ?_ hn hdb)
 exact PyProof.Rows.callWith_builtin1 (thn (ha pos pins s σ H _ I h) fun us s1 ⟨vs,H1,I1,r1,q1⟩=>hc pins s1 σ H1 vs us Q I1 r1 q1) he hpl
theorem zda (hc:tJ X (.type T) r) (hg:Gl X x) (hm:X.mg x=none) (hv:bootBuiltins x=some (.type T)) (ha:PA X (e::es) t) (hn:x ≠ "__name__" := by decide) (hdb:(x == ("__debug__" : Str))=false:=by decide)
 (he:starEach (e::es) X.env=(false,eval e X.env)::starEach es X.env:=by rfl) (hpl:(backTo pos (starEach es X.env)).any (·.1)=false:=by rfl):PE X (.Call (.Name x p) (e::es) [] pos) (tCB r t):=by
 intro pins s σ H Q I h
 refine wpAny_Call_Name_kw (tV I hg hm hv ?_ hn hdb)
 exact PyProof.Rows.callWith_type1 (thn (ha pos pins s σ H _ I h) fun us s1 ⟨vs,H1,I1,r1,q1⟩=>hc pins s1 σ H1 vs us Q I1 r1 q1) he hpl
end
end L2
namespace HT
open PySem PyProof.Rows
section
open PySem.SeqAt
open PySem.AutoSeq1 (wpAny_loadPart')
open PySem.MeetsSeq PySem.MeetsSeq2 PySem.MeetsSeq3
end
section
variable {prog:Program} {w:World} {A:Around} {E:Value→Shared→Prop} {s:Shared}
theorem cat_tup {t b:Addr} {vs ws:List Value} {Q:Value→Shared→Prop} (ht:IsTup s.heap t vs.toArray) (hb:IsTup s.heap b ws.toArray) (hv:vs≠[])
 (h1:ws=[]→Q (.ref t) s) (h2:ws≠[]→Q (.ref s.heap.objs.size) { s with heap:=s.heap.push { cls:=.type "tuple",data:=.seq (vs++ws).toArray } })
 (hsz:vs.length+ws.length≤sizeLine):wpAny (model prog w) A (binaryOp .Add (.ref t) (.ref b)) Q E s:=by
 obtain ⟨⟨cls,dd,data,sl⟩,ho,hc,n,hd⟩:=id ht
 obtain ⟨⟨cls2,dd2,data2,sl2⟩,ho2,hc2,n2,hd2⟩:=id hb
 simp only at hc hd hc2 hd2
 subst hc hd hc2 hd2
 have e:vs.toArray++ws.toArray=(vs++ws).toArray:=by simp
 by_cases hw:ws=[]
 ·exact concat_meets ⟨_,ho,rfl⟩ ⟨_,ho2,rfl⟩ noFill_tuple_add seq_tuple_add PySem.F.slot_tuple_add PySem.F.entry_tuple_add (PySem.F.args_tuple_add_2 _ _)
   (tuple_addW1 t b vs.toArray ws.toArray n n2 dd dd2 sl sl2 (by simpa using hv) (by simp [hw])) ⟨ho,ho2,h1 hw⟩
 ·refine concat_meets ⟨_,ho,rfl⟩ ⟨_,ho2,rfl⟩ noFill_tuple_add seq_tuple_add PySem.F.slot_tuple_add PySem.F.entry_tuple_add (PySem.F.args_tuple_add_2 _ _)
   (tuple_addW2 t b vs.toArray ws.toArray n n2 dd dd2 sl sl2 (by simpa using hv) (by simpa using hw) (by rw [List.size_toArray,List.size_toArray]; exact hsz)) ⟨ho,ho2,?_⟩
  rw [e]
  exact h2 hw
noncomputable def sIx (n d:Nat):Option Int→Nat
 | none=>d
 | some v=>if v<0 then (v+(n:Int)).toNat else min v.toNat n
theorem zl9 (n d:Nat) (hd:d≤n) (o:Option Int):sIx n d o≤n:=by
 cases o with
 | none=>exact hd
 | some v =>
   show (if v<0 then (v+(n:Int)).toNat else min v.toNat n)≤n
   by_cases hv:v<0
   ·rw [if_pos hv]; lia
   ·rw [if_neg hv]; exact Nat.min_le_right _ _
theorem zid (v:Int) (n d:Nat):(if v<0 then max (v+(n:Int)) 0 else min v (n:Int))=((sIx n d (some v):Nat):Int):=by
 show (if v<0 then max (v+(n:Int)) 0 else min v (n:Int))=(((if v<0 then (v+(n:Int)).toNat else min v.toNat n):Nat):Int)
 by_cases hv:v<0
 ·simp only [if_pos hv]; lia
 ·simp only [if_neg hv]; lia
theorem zgs (lo hi:Option Int) (n:Nat):Builtin.Slice.sliceAdjust lo hi 1 (n:Int)=(((sIx n 0 lo:Nat):Int),((sIx n n hi:Nat):Int)):=by
 have h1:¬ ((1:Int)<0):=by lia
 unfold Builtin.Slice.sliceAdjust
 simp only [h1,if_false]
 refine Prod.ext ?_ ?_
 ·cases lo with
  | none=>rfl
  | some v=>exact zid v n 0
 ·cases hi with
  | none=>rfl
  | some v=>exact zid v n n
theorem zgc (i j:Nat):Builtin.Slice.slicePlaces (i:Int) (j:Int) 1=j - i:=by
 unfold Builtin.Slice.slicePlaces
 have h1:(1:Int)>0:=by lia
 simp only [h1,if_true,Int.ediv_one]
 split <;> lia
theorem zbm {v:Value} {o:Option Int} {Q:Option Int→Shared→Prop} (p:IsPart v o) (h:Q o s):wpAny (model prog w) A (Builtin.Slice.slicePartIndex v) Q E s:=by
 cases p with
 | none=>exact slicePart_none h
 | int i t=>exact slicePart_int h
theorem tZ {sl:Addr} {vl vu:Value} {lo hi:Option Int} {n:Nat} {Q:Int×Int×Nat→Shared→Prop} (hs:s.heap.IsSliceOf sl vl vu .none) (pl:IsPart vl lo) (pu:IsPart vu hi)
 (h:Q (((sIx n 0 lo:Nat):Int),1,sIx n n hi - sIx n 0 lo) s):wpAny (model prog w) A (Builtin.Slice.sliceApplied (.ref sl) (pure (n:Int))) Q E s:=by
 obtain ⟨os,hos,hcs,hds⟩:=id hs
 unfold Builtin.Slice.sliceApplied Builtin.Slice.sliceFields
 refine wpAny_bind (wpAny_bind (wpAny_field hos hds (x:=vl) rfl (wpAny_bind (wpAny_field hos hds (x:=vu) rfl (wpAny_bind (wpAny_field hos hds (x:=.none) rfl (wpAny_pure ?_)))))))
 refine wpAny_bind (slicePart_none ?_)
 show wpAny _ _ (if ((1:Int) == 0)=true then _ else _) _ _ s
 rw [if_neg (by decide)]
 refine wpAny_bind (zbm pl (wpAny_bind (zbm pu (wpAny_bind (wpAny_pure ?_)))))
 show wpAny _ _ (match Builtin.Slice.sliceAdjust lo hi 1 (n:Int) with | (lo,hi)=>pure (lo,(1:Int),Builtin.Slice.slicePlaces lo hi 1)) _ _ s
 rw [zgs lo hi n]
 show wpAny _ _ (pure (((sIx n 0 lo:Nat):Int),(1:Int),Builtin.Slice.slicePlaces ((sIx n 0 lo:Nat):Int) ((sIx n n hi:Nat):Int) 1)) _ _ s
 rw [zgc]
 exact wpAny_pure h
theorem ziX (xs:Array Value) (i k:Nat):((List.range k).filterMap fun (m:Nat)=>xs[((i:Int)+(m:Int)*1).toNat]?).toArray=((xs.toList.drop i).take k).toArray:=by
 have e:(fun (m:Nat)=>xs[((i:Int)+(m:Int)*1).toNat]?)=fun m=>xs[i+m]?:=by
  funext m
  have:((i:Int)+(m:Int)*1).toNat=i+m:=by lia
  rw [this]
 rw [e]
 have:=pick_run xs i k
 rw [List.filterMap_map] at this
 have e2:((fun x=>xs[x]?) ∘ fun x=>i+x)=fun m=>xs[i+m]?:=rfl
 rw [e2] at this
 rw [this]
theorem getItem_tuple_cut {t sl:Addr} {items:Array Value} {vl vu:Value} {lo hi:Option Int} {Q:Value→Shared→Prop} (ht:IsTup s.heap t items) (hs:s.heap.IsSliceOf sl vl vu .none) (pl:IsPart vl lo) (pu:IsPart vu hi)
 (hw:¬ (sIx items.size 0 lo=0∧sIx items.size items.size hi=items.size))
 (h:Q (.ref s.heap.objs.size) { s with heap:=s.heap.push { cls:=.type "tuple",data:=.seq ((items.toList.drop (sIx items.size 0 lo)).take (sIx items.size items.size hi - sIx items.size 0 lo)).toArray } })
 (hsz:items.size≤sizeLine):wpAny (model prog w) A (getItem (.ref t) (.ref sl)) Q E s:=by
 have htake:sizeOk (.seq ((items.toList.drop (sIx items.size 0 lo)).take (sIx items.size items.size hi - sIx items.size 0 lo)).toArray):=by
  show ((items.toList.drop (sIx items.size 0 lo)).take (sIx items.size items.size hi - sIx items.size 0 lo)).toArray.size≤sizeLine
  rw [List.size_toArray,List.length_take,List.length_drop,Array.length_toList]
  lia
 have hj:sIx items.size items.size hi≤items.size:=zl9 _ _ (Nat.le_refl _) hi
 obtain ⟨os,hos,hcs,hds⟩:=id hs
 have hTs:s.TypeIs (.ref sl) "slice" := ⟨os,hos,hcs⟩
 unfold getItem
 try with_reducible refine wpAny_holding ?_
 first | refine wpAny_bind (wpAny_pure ?_) | skip
 refine wpAny_bind (wpAny_sequenceKey ht.typeIs (by decide) ?_)
 refine wpAny_bind (wpAny_callSpecial?_slot (name:=Str.ofString "__getitem__") ht.typeIs PyProof.Rows.slot_tuple_getitem
  (wpAny_call_entry PyProof.Rows.slot_tuple_getitem ht.typeIs entry_tuple_getitem ?_ (args_tuple_getitem _ _)))
 show wpAny _ _ (Builtin.Tuple.tupleItemsOf (.ref t) >>= _) _ _ s
 refine wpAny_bind (tupleItemsOf_ ht ?_)
 refine wpAny_bind (wpAny_typeOf hTs ?_)
 rw [if_pos (by decide)]
 refine wpAny_bind (tZ hs pl pu ?_)
 have hno:¬ ((((sIx items.size 0 lo:Nat):Int) == 0&&(1:Int) == 1&&(sIx items.size items.size hi - sIx items.size 0 lo) == items.size)=true):=by
  intro q
  rw [Bool.and_eq_true,Bool.and_eq_true] at q
  have q1:((sIx items.size 0 lo:Nat):Int)=0:=eq_of_beq q.1.1
  have q2:sIx items.size items.size hi - sIx items.size 0 lo=items.size:=eq_of_beq q.2
  exact hw ⟨by lia,by lia⟩
 show wpAny _ _ (if (((sIx items.size 0 lo:Nat):Int) == 0&&(1:Int) == 1&&(sIx items.size items.size hi - sIx items.size 0 lo) == items.size)=true then _ else _) _ _ s
 rw [if_neg hno,ziX]
 first
  | exact wpAny_bind (m:=Builtin.Tuple.tupleExact _) (wpAny_newObj_type (wpAny_pure ⟨_,rfl,wpAny_pure h⟩) htake)
  | exact wpAny_bind (m:=Builtin.Tuple.tupleExact _) (wpAny_newObj_type (wpAny_bind (wpAny_pure (wpAny_pure ⟨_,rfl,wpAny_pure h⟩))) htake)
  | exact wpAny_bind (wpAny_bind (m:=Builtin.Tuple.tupleExact _) (wpAny_newObj_type (wpAny_pure (wpAny_pure ⟨_,rfl,wpAny_pure h⟩)) htake))
  | exact wpAny_bind (wpAny_bind (m:=Builtin.Tuple.tupleExact _) (wpAny_newObj_type (wpAny_pure ⟨_,rfl,wpAny_pure h⟩) htake))
end
end HT
namespace L2
open PySem PySem.Spec PyProof.Rows
noncomputable abbrev TO:=St→Hp→(Option Int→Hp→Prop)→Prop
noncomputable def PO (X:Cx) (e:Option Expr) (t:TO):Prop :=
 ∀ (pins:List (Addr×Obj)) (s:Shared) (σ:St) (H:Hp) (Q:Option Int→Hp→Prop),Inv X pins σ H s→t σ H Q →
   wpAny (model X.prog X.w) X.A (evalPart e X.env) (fun u s'=>∃ o H',Inv X pins σ H' s'∧IsPart u o∧Q o H') X.xe s
noncomputable def zkx:TO:=fun _ H Q=>Q none H
noncomputable def tPart (t:TE):TO:=fun σ H Q=>t σ H fun x H1=>∃ i,x=.int i∧Q (some i) H1
theorem zbD {ns:List Int}:∀ {us:List Value},Vals (ns.map V.int) us→IntsAre us ns:=by
 induction ns with
 | nil=>intro us r; rw [List.map_nil] at r; cases r; exact .nil
 | cons n ns ih =>
   intro us r
   rw [List.map_cons] at r
   cases r with
   | cons r1 r2 =>
     obtain ⟨t,e⟩:=r1
     subst e
     exact .cons n t (ih r2)
section
variable {X:Cx} {e:Expr} {te:TE} {lo hi:Option Expr} {tl th:TO} {pos p2:Pos}
theorem zkP:PO X none zkx:=by
 intro pins s σ H Q I h
 rw [evalPart_none]
 exact wpAny_pure ⟨none,H,I,.none,h⟩
theorem zkO (h:PE X e te):PO X (some e) (tPart te):=by
 intro pins s σ H Q I hw
 rw [evalPart_some]
 refine thn (h pins s σ H _ I hw) fun u s1 ⟨x,H1,I1,r1,q1⟩ => ?_
 obtain ⟨i,rfl,q⟩:=q1
 obtain ⟨t,rfl⟩:=r1
 exact ⟨some i,H1,I1,.int i t,q⟩
noncomputable def SlR (X:Cx) (r:V→Option Int→Option Int→Hp→VK→Prop):Prop :=
 ∀ (pins:List (Addr×Obj)) (s:Shared) (σ:St) (H:Hp) (x:V) (v vl vu:Value) (lo hi:Option Int) (sl:Addr) (Q:VK),Inv X pins σ H s→RelV x v→s.heap.IsSliceOf sl vl vu .none→IsPart vl lo→IsPart vu hi→r x lo hi H Q →
   ∃ T id,typeLookup (.type T) "__getitem__" = pure (some (.builtin id))∧s.TypeIs v T∧wpAny (model X.prog X.w) X.A (getItem v (.ref sl)) (EP X pins σ Q) X.xe s
theorem SlR.or {r r':V→Option Int→Option Int→Hp→VK→Prop} (h:SlR X r) (h':SlR X r'):SlR X (fun x lo hi H Q=>r x lo hi H Q∨r' x lo hi H Q):=by
 intro pins s σ H x v vl vu lo hi sl Q I rx hs pl pu q
 rcases q with q | q
 ·exact h pins s σ H x v vl vu lo hi sl Q I rx hs pl pu q
 ·exact h' pins s σ H x v vl vu lo hi sl Q I rx hs pl pu q
noncomputable def tSl (r:V→Option Int→Option Int→Hp→VK→Prop) (te:TE) (tl th:TO):TE:=fun σ H Q=>te σ H fun x H1=>tl σ H1 fun l H2=>th σ H2 fun u H3=>r x l u H3 Q
theorem zfu {r:V→Option Int→Option Int→Hp→VK→Prop} (hr:SlR X r) (he:PE X e te) (hl:PO X lo tl) (hu:PO X hi th):PE X (.Subscript e (.Slice lo hi none p2) pos) (tSl r te tl th):=by
 intro pins s σ H Q I h
 refine Subscript_ (thn (he pins s σ H _ I h) fun v s1 ⟨x,H1,I1,r1,q1⟩ => ?_)
 refine wpAny_Slice (thn (hl pins s1 σ H1 _ I1 q1) fun vl s2 ⟨l,H2,I2,pl,q2⟩=>thn (hu pins s2 σ H2 _ I2 q2) fun vu s3 ⟨u,H3,I3,pu,q3⟩ => ?_)
 rw [evalPart_none]
 refine wpAny_pure ?_
 have I4:Inv X pins σ H3 { s3 with heap:=s3.heap.push { cls:=.type "slice",data:=.fields #[vl,vu,.none] } }:=I3.kept (t':=s3.toks) fun b ob q=>Heap.get?_push_of_some _ q
 obtain ⟨T,id,hT,ht,hg⟩:=hr pins { s3 with heap:=s3.heap.push { cls:=.type "slice",data:=.fields #[vl,vu,.none] } } σ H3 x v vl vu l u s3.heap.objs.size Q I4 r1 (Heap.IsSliceOf.new ..) pl pu q3
 show wpAny (model X.prog X.w) X.A (subscriptTail e (.Slice lo hi none p2) v (.ref s3.heap.objs.size)) (EP X pins σ Q) X.xe { s3 with heap:=s3.heap.push { cls:=.type "slice",data:=.fields #[vl,vu,.none] } }
 exact tail_any (ops:=[.ref s3.heap.objs.size,v]) ht hT hg (by with_unfolding_all rfl)
noncomputable def cutV (xs:List V) (lo hi:Option Int):List V:=(xs.drop (HT.sIx xs.length 0 lo)).take (HT.sIx xs.length xs.length hi - HT.sIx xs.length 0 lo)
theorem za1 (xs:List V) (lo hi:Option Int):(cutV xs lo hi).length≤xs.length:=by
 unfold cutV
 rw [List.length_take,List.length_drop]
 lia
noncomputable def rSlT (K:PySem.W.Frag):V→Option Int→Option Int→Hp→VK→Prop:=fun x lo hi H Q=>∃ a xs,x=.ref a∧SqT K H a xs ∧
 ¬ (HT.sIx xs.length 0 lo=0∧HT.sIx xs.length xs.length hi=xs.length)∧∀ p,H p=none→Q (.ref p) (upd H p (.tup (cutV xs lo hi)))
theorem zl6:SlR X (rSlT X.K):=by
 intro pins s σ H x v vl vu lo hi sl Q I rx hs pl pu h
 obtain ⟨a,xs,rfl,hx,hw,q⟩:=h
 cases rx
 obtain ⟨its,r,ht,hz⟩:=I.tuple hx
 have hlen:its.toArray.size=xs.length:=by rw [List.size_toArray]; exact r.length.symm
 refine ⟨"tuple",_,PyProof.Rows.slot_tuple_getitem.lookup,ht.typeIs,?_⟩
 refine HT.getItem_tuple_cut ht hs pl pu (by rw [hlen]; exact hw) ?_ (by rw [hlen]; exact hz)
 rw [hlen]
 refine ⟨.ref s.heap.objs.size,_,I.laid (t':=s.toks) (o:=.tup (cutV xs lo hi)) (fun b ob q=>Heap.get?_push_of_some _ q) (Nat.le_refl _) ?_,rfl,q _ (I.hok.fresh (Nat.le_refl _))⟩
 exact ⟨Nat.le_trans (za1 xs lo hi) hz,_,(r.drop (HT.sIx xs.length 0 lo)).take (HT.sIx xs.length xs.length hi - HT.sIx xs.length 0 lo),IsTup.new _ _⟩
noncomputable def zmd (K:PySem.W.Frag):R2:=fun x y H Q=>∃ a b xs ys,x=.ref a∧y=.ref b∧SqT K H a xs∧SqT K H b ys∧xs≠[]∧xs.length+ys.length≤sizeLine ∧
 (ys=[]→Q (.ref a) H)∧(ys≠[]→∀ p,H p=none→Q (.ref p) (upd H p (.tup (xs++ys))))
theorem Vals.nil_iff {xs:List V} {us:List Value} (r:Vals xs us):us=[]↔xs=[]:=by
 cases r with
 | nil=>simp
 | cons _ _=>simp
theorem zk3:OpR X (binaryOp .Add) (zmd X.K):=by
 intro pins s σ H x y v u Q I rx ry h
 obtain ⟨a,b,xs,ys,rfl,rfl,ha,hb,hx,hz,q1,q2⟩:=h
 cases rx
 cases ry
 obtain ⟨its,r1,p1,_⟩:=I.tuple ha
 obtain ⟨its2,r2,p2,_⟩:=I.tuple hb
 refine HT.cat_tup p1 p2 (fun z=>hx (r1.nil_iff.mp z)) (fun z=>⟨.ref a,H,I,rfl,q1 (r2.nil_iff.mp z)⟩) (fun z => ?_) (by rw [←r1.length,←r2.length]; exact hz)
 refine ⟨.ref s.heap.objs.size,_,I.laid (t':=s.toks) (o:=.tup (xs++ys)) (fun b ob q=>Heap.get?_push_of_some _ q) (Nat.le_refl _) ?_,rfl,q2 (fun w=>z (r2.nil_iff.mpr w)) _ (I.hok.fresh (Nat.le_refl _))⟩
 exact ⟨by rw [List.length_append]; exact hz,_,r1.append r2,IsTup.new _ _⟩
end
end L2
namespace L2
open PySem PySem.Spec PyProof.Rows
noncomputable def ixN (n:Nat) (i:Int):Option Nat:=if 0≤i then (if i<n then some i.toNat else none) else if -(n:Int)≤i then some (i+n).toNat else none
noncomputable def atI {α:Type} (xs:List α) (i:Int):Option α:=(ixN xs.length i).bind fun j=>xs[j]?
theorem zhI {n:Nat} {i:Int} {j:Nat} (h:ixN n i=some j):seqIndex? i n=some j∧j<n ∧ -(n:Int)≤i∧i<n:=by
 unfold ixN at h
 by_cases h0:0≤i
 ·rw [if_pos h0] at h
  by_cases h1:i<n
  ·rw [if_pos h1] at h
   have e:i.toNat=j:=Option.some.inj h
   exact ⟨by rw [seqIndex_of h0 h1,e],by lia,by lia,h1⟩
  ·rw [if_neg h1] at h; cases h
 ·rw [if_neg h0] at h
  by_cases h1 : -(n:Int)≤i
  ·rw [if_pos h1] at h
   have e:(i+n).toNat=j:=Option.some.inj h
   exact ⟨by rw [seqIndex_neg (by lia) h1,e],by lia,h1,by lia⟩
  ·rw [if_neg h1] at h; cases h
theorem zeQ {α:Type} {xs:List α} {i:Int} {v:α} (h:atI xs i=some v):∃ j,seqIndex? i xs.length=some j∧xs[j]?=some v∧j<xs.length ∧ -(xs.length:Int)≤i∧i<xs.length:=by
 unfold atI at h
 cases e:ixN xs.length i with
 | none=>rw [e] at h; cases h
 | some j =>
   rw [e] at h
   obtain ⟨h1,h2,h3,h4⟩:=zhI e
   exact ⟨j,h1,h,h2,h3,h4⟩
noncomputable def zeV (b:Expr):Prop:=∀ o i,subscripted b false o i=operate [o,i] (getItem o i)
noncomputable def IxR (X:Cx) (r:R2):Prop :=
 ∀ (value slice:Expr) (pins:List (Addr×Obj)) (s:Shared) (σ:St) (H:Hp) (x y:V) (v u:Value) (Q:VK),Inv X pins σ H s→RelV x v→RelV y u→r x y H Q →
   subscripted slice false v u=operate [v,u] (getItem v u)→wpAny (model X.prog X.w) X.A (subscriptTail value slice v u) (EP X pins σ Q) X.xe s
noncomputable def MtR (X:Cx) (id:String) (r:V→List V→Hp→VK→Prop):Prop :=
 ∀ (pins:List (Addr×Obj)) (s:Shared) (σ:St) (H:Hp) (x:V) (xs:List V) (v:Value) (us:List Value) (Q:VK),Inv X pins σ H s→RelV x v→Vals xs us→r x xs H Q →
   wpAny (model X.prog X.w) X.A (call (.builtin id) (v::us)) (EP X pins σ Q) X.xe s
section
variable {X:Cx} {a b:Expr} {ta tb:TE} {pos:Pos}
theorem IxR.or {r r':R2} (h:IxR X r) (h':IxR X r'):IxR X (fun x y H Q=>r x y H Q∨r' x y H Q):=by
 intro value slice pins s σ H x y v u Q I rx ry q hs
 rcases q with q | q
 ·exact h value slice pins s σ H x y v u Q I rx ry q hs
 ·exact h' value slice pins s σ H x y v u Q I rx ry q hs
theorem pe_ix {r:R2} (hr:IxR X r) (ha:PE X a ta) (hb:PE X b tb) (hs:zeV b):PE X (.Subscript a b pos) (tOp r ta tb):=by
 intro pins s σ H Q I h
 exact Subscript_ (binT ha hb I h fun v u s2 x y H2 I2 rx ry q=>hr a b pins s2 σ H2 x y v u Q I2 rx ry q (hs _ _))
noncomputable def rIxL (K:PySem.W.Frag):R2:=fun x y H Q=>∃ p xs i v,x=.ref p∧y=.int i∧SqL K H p xs∧atI xs i=some v∧Q v H
noncomputable def rIxT (K:PySem.W.Frag):R2:=fun x y H Q=>∃ p xs i v,x=.ref p∧y=.int i∧SqT K H p xs∧atI xs i=some v∧Q v H
noncomputable def rIxS:R2:=fun x y H Q=>∃ z i c,x=.str z∧y=.int i∧z.length≤sizeLine∧atI z.cps.toList i=some c∧Q (.str ⟨#[c]⟩) H
theorem zll:IxR X (rIxL X.K):=by
 intro value slice pins s σ H x y v u Q I rx ry h hs
 obtain ⟨p,xs,i,z,rfl,rfl,hq,he,q⟩:=h
 cases rx
 obtain ⟨t,rfl⟩:=ry
 obtain ⟨its,r,pl,hz⟩:=I.list hq
 obtain ⟨j,h1,h2,h3,h4,h5⟩:=zeQ he
 obtain ⟨w,ew,rw'⟩:=r.get h2
 have hl:=r.length
 have hn:=zbA
 have fin:EP X pins σ Q w s:=⟨z,H,I,rw',q⟩
 by_cases h0:0≤i
 ·have hj:i.toNat=j:=by
   rw [seqIndex_of h0 h5] at h1
   exact Option.some.inj h1
  exact item_listR pl.isList h0 (by lia) (by rw [hj]; simpa using ew) fin hs
 ·have hj:(i+(its.toArray.size:Int)).toNat=j:=by
   rw [seqIndex_neg (by lia) h4] at h1
   rw [List.size_toArray,←hl]
   exact Option.some.inj h1
  exact subscriptTail_builtinR (x:=w) pl.isList.typeIs slot_list_getitem.lookup
   (wpAny_getItem_list_neg (Q:=fun r s'=>r=w∧EP X pins σ Q r s') pl.isList (by lia) (by rw [List.size_toArray] <;> lia) (by lia) (by rw [hj]; simpa using ew) ⟨rfl,fin⟩) hs
theorem zmX:IxR X (rIxT X.K):=by
 intro value slice pins s σ H x y v u Q I rx ry h hs
 obtain ⟨p,xs,i,z,rfl,rfl,hq,he,q⟩:=h
 cases rx
 obtain ⟨t,rfl⟩:=ry
 obtain ⟨its,r,pl,hz⟩:=I.tuple hq
 obtain ⟨j,h1,h2,h3,h4,h5⟩:=zeQ he
 obtain ⟨w,ew,rw'⟩:=r.get h2
 have hl:=r.length
 have hn:=zbA
 have fin:EP X pins σ Q w s:=⟨z,H,I,rw',q⟩
 exact subscriptTail_builtinR (x:=w) pl.typeIs slot_tuple_getitem.lookup
  (getItem_tuple (j:=j) (Q:=fun r s'=>r=w∧EP X pins σ Q r s') pl (by lia) (by lia) (by rw [List.size_toArray,←hl]; exact h1) (by simpa using ew) ⟨rfl,fin⟩) hs
theorem zmY:IxR X rIxS:=by
 intro value slice pins s σ H x y v u Q I rx ry h hs
 obtain ⟨z,i,c,rfl,rfl,hz,he,q⟩:=h
 obtain ⟨t,rfl⟩:=rx
 obtain ⟨t',rfl⟩:=ry
 obtain ⟨j,h1,h2,h3,h4,h5⟩:=zeQ he
 have hl:z.cps.toList.length=z.length:=by simp [Str.length]
 rw [hl] at h1 h4 h5
 have hn:=zbA
 exact tail_any (typeIs_str s z t) slot_str_getitem.lookup (getItem_str (c:=c) (by
  have e1:decide (i < -(2^63:Int))=false:=decide_eq_false (by lia)
  have e2:decide (i≥2^63)=false:=decide_eq_false (by lia)
  rw [e1,e2,Bool.or_false]) (by rw [h1]; simpa using h2) ⟨.str ⟨#[c]⟩,H,I.tok _,⟨_,rfl⟩,q⟩) hs
noncomputable def rIx (K:PySem.W.Frag):R2:=fun x y H Q=>rIxL K x y H Q∨rIxT K x y H Q∨rIxS x y H Q
theorem zmZ:IxR X (rIx X.K):=zll.or (zmX.or zmY)
theorem zgi (its:List Value) (n j:Nat) (u:Value):Obj.mapSeq (·.setIfInBounds j u) { cls:=.type "list",data:=.seq its.toArray n }={ cls:=.type "list",data:=.seq (its.set j u).toArray n }:=by
 simp [Obj.mapSeq]
theorem Inv.lst {pins:List (Addr×Obj)} {σ:St} {H:Hp} {s:Shared} {p:Addr} {xs:List V} (I:Inv X pins σ H s) (h:H p=some (.lst xs)) :
 ∃ (its:List Value) (n:Nat),Vals xs its∧s.heap.get? p=some { cls:=.type "list",data:=.seq its.toArray n }∧xs.length≤sizeLine:=by
 obtain ⟨z,its,n,r,e⟩:=I.hok p _ h
 exact ⟨its,n,r,e,z⟩
theorem Inv.lstUpd {pins:List (Addr×Obj)} {σ:St} {H:Hp} {s:Shared} {p:Addr} {xs ys:List V} {its its':List Value} {n n':Nat} {f:Obj→Obj} (I:Inv X pins σ H s) (h:H p=some (.lst xs))
 (ho:s.heap.get? p=some { cls:=.type "list",data:=.seq its.toArray n }) (hf:f { cls:=.type "list",data:=.seq its.toArray n }={ cls:=.type "list",data:=.seq its'.toArray n' }) (r:Vals ys its') (hz:ys.length≤sizeLine) (t:Nat) :
 Inv X pins σ (upd H p (.lst ys)) { s with heap:=s.heap.update p f,toks:=t }:=by
 have e:(s.heap.update p f).get? p=some { cls:=.type "list",data:=.seq its'.toArray n' }:=by
  rw [Heap.get?_update_self f ho (by rw [hf] <;> rfl),hf]
 refine I.write (x:=p) (e:=p) (by rw [h]; trivial) (.inl rfl) (fun b u hb q=>(Heap.get?_update_other _ _ (Ne.symm hb)).trans q) ⟨_,e⟩ ?_
 exact ⟨hz,its',n',r,e⟩
noncomputable def rSetL:V→V→V→Hp→(Hp→Prop)→Prop:=fun o i v H Q=>∃ p xs k j,o=.ref p∧i=.int k∧H p=some (.lst xs)∧ixN xs.length k=some j∧Q (upd H p (.lst (xs.set j v)))
theorem ziN:PSet X rSetL:=by
 intro pins s σ H o i v ov iv u Q I ro ri rv h
 obtain ⟨p,xs,k,j,rfl,rfl,hp,hj,q⟩:=h
 cases ro
 obtain ⟨t,rfl⟩:=ri
 obtain ⟨its,n,r,ho,hz⟩:=I.lst hp
 obtain ⟨h1,h2,h3,h4⟩:=zhI hj
 have hl:=r.length
 have hn:=zbA
 have I':Inv X pins σ (upd H p (.lst (xs.set j v))) { s with heap:=s.heap.update p (Obj.mapSeq (·.setIfInBounds j u)) } :=
  I.lstUpd hp ho (zgi its n j u) (r.set rv j) (by rw [List.length_set]; exact hz) s.toks
 by_cases h0:0≤k
 ·have hk:k.toNat=j:=by
   rw [seqIndex_of h0 h4] at h1
   exact Option.some.inj h1
  exact PySem.W.ki_setAt ho h0 (by lia) (by rw [List.size_toArray,←hl]; exact h4) (by rw [hk]; exact ⟨_,I',q⟩)
 ·have hk:(k+(its.toArray.size:Int)).toNat=j:=by
   rw [seqIndex_neg (by lia) h3] at h1
   rw [List.size_toArray,←hl]
   exact Option.some.inj h1
  exact PySem.W.ki_setBack ho (by lia) (by rw [List.size_toArray,←hl]; exact h3) (by lia) (by rw [hk]; exact ⟨_,I',q⟩)
theorem zc1 (lo hi:Option Int) (n:Nat):(sliceBounds lo hi none n).1=((HT.sIx n 0 lo:Nat):Int)∧(sliceBounds lo hi none n).2.1=((HT.sIx n n hi:Nat):Int)∧(sliceBounds lo hi none n).2.2=1:=by
 refine ⟨?_,?_,rfl⟩
 ·cases lo with
  | none=>simp [sliceBounds,HT.sIx]
  | some i =>
    simp only [sliceBounds,HT.sIx,Option.getD_none,show (1:Int)>0 by decide,if_true]
    by_cases h:i<0
    ·simp only [h,if_true] <;> lia
    ·simp only [h,if_false] <;> lia
 ·cases hi with
  | none=>simp [sliceBounds,HT.sIx]
  | some i =>
    simp only [sliceBounds,HT.sIx,Option.getD_none,show (1:Int)>0 by decide,if_true]
    by_cases h:i<0
    ·simp only [h,if_true] <;> lia
    ·simp only [h,if_false] <;> lia
theorem zb3 (its:List Value) (lo hi:Option Int):slicePick its.toArray lo hi none=((its.drop (HT.sIx its.length 0 lo)).take (HT.sIx its.length its.length hi - HT.sIx its.length 0 lo)).toArray:=by
 obtain ⟨h1,h2,h3⟩:=zc1 lo hi its.toArray.size
 unfold slicePick
 rw [h1,h2,h3]
 simp only [sliceRange_one,pick_run,List.size_toArray] <;> rfl
noncomputable def rSlL (K:PySem.W.Frag):V→Option Int→Option Int→Hp→VK→Prop:=fun x lo hi H Q=>∃ a xs,x=.ref a∧SqL K H a xs∧∀ p,H p=none→Q (.ref p) (upd H p (.lst (cutV xs lo hi)))
theorem zgL:SlR X (rSlL X.K):=by
 intro pins s σ H x v vl vu lo hi sl Q I rx hs pl pu h
 obtain ⟨a,xs,rfl,hx,q⟩:=h
 cases rx
 obtain ⟨its,r,ht,hz⟩:=I.list hx
 have hlen:=r.length
 refine ⟨"list",_,slot_list_getitem.lookup,ht.isList.typeIs,?_⟩
 refine wpAny_getItem_list_slice ht.isList hs pl pu .none (by simp) ?_ (by rw [List.size_toArray] <;> lia)
 rw [zb3,←hlen]
 refine ⟨.ref s.heap.objs.size,_,I.laid (t':=s.toks) (o:=.lst (cutV xs lo hi)) (fun b ob q=>Heap.get?_push_of_some _ q) (Nat.le_refl _) ?_,rfl,q _ (I.hok.fresh (Nat.le_refl _))⟩
 exact ⟨Nat.le_trans (za1 xs lo hi) hz,_,0,(r.drop (HT.sIx xs.length 0 lo)).take (HT.sIx xs.length xs.length hi - HT.sIx xs.length 0 lo),Heap.get?_push_size _ rfl⟩
theorem zK:tJ X (.builtin "len") (fun xs H Q=>∃ p ys,xs=[.ref p]∧(SqL X.K H p ys∨SqT X.K H p ys)∧Q (.int ys.length) H):=by
 intro pins s σ H xs us Q I r h
 obtain ⟨p,ys,rfl,hq,q⟩:=h
 obtain ⟨u,rfl,rx⟩:=zcU r
 cases rx
 have hn:=zbA
 rcases hq with hq | hq
 ·obtain ⟨its,r',pl,hz⟩:=I.list hq
  have hlen:=r'.length
  exact Calls.call_len_list pl.isList (by simp only [List.size_toArray] <;> lia) ⟨.int ys.length,H,I.tok _,⟨s.toks+1,by rw [List.size_toArray,hlen]⟩,q⟩
 ·obtain ⟨its,r',pl,hz⟩:=I.tuple hq
  have hlen:=r'.length
  exact len_tuple pl (by simp only [List.size_toArray] <;> lia) ⟨.int ys.length,H,I.tok _,⟨s.toks+1,by rw [List.size_toArray,hlen]⟩,q⟩
theorem zdN:tJ X (.type "list") (fun xs H Q=>∃ p ys,xs=[.ref p]∧(SqL X.K H p ys∨SqT X.K H p ys)∧∀ l,H l=none→Q (.ref l) (upd H l (.lst ys))):=by
 intro pins s σ H xs us Q I r h
 obtain ⟨p,ys,rfl,hq,q⟩:=h
 obtain ⟨u,rfl,rx⟩:=zcU r
 cases rx
 have fin:∀ (its:List Value),Vals ys its→ys.length≤sizeLine→∀ (h':Heap) (c':Nat),(∀ b o',s.heap.get? b=some o'→h'.get? b=some o') →
  h'.get? s.heap.objs.size=some { cls:=.type "list",dict:=none,data:=.seq its.toArray c',slots:=#[] }→EP X pins σ Q (.ref s.heap.objs.size) { s with heap:=h' }:=fun its r' hz h' c' kp e =>
  ⟨.ref s.heap.objs.size,_,I.laid (t':=s.toks) kp (Nat.le_refl _) (show x4 X.prog X.w _ h' _ (.lst ys) from ⟨hz,its,c',r',e⟩),rfl,q _ (I.hok.fresh (Nat.le_refl _))⟩
 rcases hq with hq | hq
 ·obtain ⟨its,r',pl,hz⟩:=I.list hq
  have hlen:=r'.length
  obtain ⟨o,ho,hc,n,hd⟩:=pl.isList
  exact call_list_seq p (.inl rfl) ho hc hd (fun h' c' kp e=>fin its r' hz h' c' kp e) (by simp only [List.size_toArray] <;> lia)
 ·obtain ⟨its,r',pl,hz⟩:=I.tuple hq
  have hlen:=r'.length
  obtain ⟨o,ho,hc,n,hd⟩:=pl
  exact call_list_seq p (.inr rfl) ho hc hd (fun h' c' kp e=>fin its r' hz h' c' kp e) (by simp only [List.size_toArray] <;> lia)
noncomputable def tyV (K:PySem.W.Frag) (T:String) (x:V) (H:Hp):Prop:=match x with
 | .str _=>T = "str"
 | .int _=>T = "int"
 | .ref p=>(T = "list" ∧ ∃ xs,SqL K H p xs)∨(T = "tuple" ∧ ∃ o,K.lookup p=some o∧o.cls=.type "tuple" ∧ o.dict=none) ∨
  (T = "dict" ∧ ((∃ kvs,H p=some (.dK kvs))∨∃ kvs,H p=some (.dT kvs)))∨(T = "set" ∧ ∃ S n,H p=some (.set S n))
 | _=>False
theorem zjQ {pins:List (Addr×Obj)} {σ:St} {H:Hp} {s:Shared} {T:String} {x:V} {v:Value} (I:Inv X pins σ H s) (r:RelV x v) (ty:tyV X.K T x H) :
 s.TypeIs v T∧∀ a,v=.ref a→∃ ob,s.heap.get? a=some ob∧ob.dict=none:=by
 cases x with
 | str z =>
   obtain ⟨t,rfl⟩:=r
   cases (show T = "str" from ty)
   exact ⟨typeIs_str s z t,fun _ e=>nomatch e⟩
 | int i =>
   obtain ⟨t,rfl⟩:=r
   cases (show T = "int" from ty)
   exact ⟨typeIs_int s i t,fun _ e=>nomatch e⟩
 | ref p =>
   cases r
   rcases ty with ⟨rfl,xs,hq⟩ | ⟨rfl,o,hk,hc,hd⟩ | ⟨rfl,hk⟩ | ⟨rfl,S,n,hk⟩
   ·obtain ⟨its,_,pl,_⟩:=I.list hq
    refine ⟨pl.isList.typeIs,fun a e => ?_⟩
    cases e
    obtain ⟨o,n,e,c,hd,_⟩:=pl
    exact ⟨o,e,hd⟩
   ·refine ⟨⟨o,I.kIn p o hk,hc⟩,fun a e => ?_⟩
    cases e
    exact ⟨o,I.kIn _ o hk,hd⟩
   ·have z:∃ o,s.heap.get? p=some o∧o.ExactDict:=by
     rcases hk with ⟨kvs,hk⟩ | ⟨kvs,hk⟩
     ·obtain ⟨_,_,_,_,o,_,_,e,ex,_⟩:=I.hok p _ hk
      exact ⟨o,e,ex⟩
     ·obtain ⟨_,_,_,_,o,_,_,e,ex,_⟩:=I.hok p _ hk
      exact ⟨o,e,ex⟩
    obtain ⟨o,e,ex⟩:=z
    refine ⟨⟨o,e,ex.1⟩,fun a e2 => ?_⟩
    cases e2
    exact ⟨o,e,ex.2.1⟩
   ·obtain ⟨o,_,_,_,e,ex,_⟩:=I.hok p _ hk
    refine ⟨⟨o,e,ex.1⟩,fun a e2 => ?_⟩
    cases e2
    exact ⟨o,e,ex.2.1⟩
 | _=>exact False.elim ty
noncomputable def tBM0 (K:PySem.W.Frag) (T:String) (r:V→List V→Hp→VK→Prop) (to:TE):TE:=fun σ H Q=>to σ H fun x H1=>tyV K T x H1∧r x [] H1 Q
noncomputable def tBM (K:PySem.W.Frag) (T:String) (r:V→List V→Hp→VK→Prop) (to:TE) (t:TA):TE:=fun σ H Q=>to σ H fun x H1=>tyV K T x H1∧t σ H1 fun xs H2=>r x xs H2 Q
variable {o e:Expr} {es:List Expr} {to:TE} {t:TA} {name:Str} {apos cpos:Pos} {T id:String} {r:V→List V→Hp→VK→Prop}
theorem zj2 (pa:PlainAttrs T) (slot:Slot T name id) (hty:typeOf (.builtin id)=pure (.type "method_descriptor")) (hm:MtR X id r) (ho:PE X o to)
 (hbase:attributeBase o name X.env (eval o X.env)=eval o X.env:=by rfl) (hline:(apos.endLine == cpos.line)=true:=by rfl):PE X (.Call (.Attribute o name apos) [] [] cpos) (tBM0 X.K T r to):=by
 intro pins s σ H Q I h
 refine wpAny_Call_method0_late hbase hline (thn (ho pins s σ H _ I h) fun v s1 ⟨x,H1,I1,r1,ty,q1⟩ => ?_)
 obtain ⟨h1,h2⟩:=zjQ I1 r1 ty
 exact ⟨T,id,pa,slot,hty,h1,h2,Calls.callWith_builtin rfl (PySem.evalArgs_none (hm pins s1 σ H1 x [] v [] Q I1 r1 .nil q1))⟩
theorem zkY (pa:PlainAttrs T) (slot:Slot T name id) (hty:typeOf (.builtin id)=pure (.type "method_descriptor")) (hm:MtR X id r) (ho:PE X o to) (ha:PA X (e::es) t)
 (hbase:attributeBase o name X.env (eval o X.env)=eval o X.env:=by rfl)
 (hfew:((backTo cpos (starEach (e::es) X.env)).all (fun x => !x.1)&&(backToKw cpos (keywordEach [] X.env)).all (fun x=>x.1.isSome)
  && decide ((e::es).length+([]:List Keyword).length+(if ([]:List Keyword).isEmpty then 0 else 1)<30))=true:=by rfl)
 (hline:(apos.endLine == cpos.line)=true:=by rfl) (hs:starEach (e::es) X.env=(false,eval e X.env)::starEach es X.env:=by rfl) (hplain:(backTo cpos (starEach es X.env)).any (·.1)=false:=by rfl) :
 PE X (.Call (.Attribute o name apos) (e::es) [] cpos) (tBM X.K T r to t):=by
 intro pins s σ H Q I h
 refine wpAny_Call_method_late hbase hfew hline rfl (thn (ho pins s σ H _ I h) fun v s1 ⟨x,H1,I1,r1,ty,q1⟩ => ?_)
 obtain ⟨h1,h2⟩:=zjQ I1 r1 ty
 refine ⟨T,id,pa,slot,hty,h1,h2,?_⟩
 have hA:=ha cpos pins s1 σ H1 _ I1 q1
 rw [hs] at hA ⊢
 refine Calls.callWith_builtin (by show (false || (backTo cpos (starEach es X.env)).any (·.1))=false; rw [hplain] <;> rfl) (Calls.evalArgs_plain ?_)
 exact thn hA fun us s2 ⟨vs,H2,I2,r2,q2⟩=>hm pins s2 σ H2 x vs v us Q I2 r1 r2 q2
end
end L2
namespace L2
open PySem PySem.Spec PyProof.Rows
noncomputable def MtM (X:Cx) (id:String) (r:V→List V→Hp→VK→Prop):Prop :=
 ∀ (pins:List (Addr×Obj)) (s:Shared) (σ:St) (H:Hp) (x:V) (xs:List V) (v:Value) (us:List Value) (Q:VK),Inv X pins σ H s→RelV x v→Vals xs us→r x xs H Q →
   wpAny (model X.prog X.w) X.A (call (.builtin id) (v::us)) (EP X pins σ Q) X.xe s
theorem Vals.one:∀ {x:V} {us:List Value},Vals [x] us→∃ u,us=[u]∧RelV x u
 | _,_,.cons r .nil=>⟨_,rfl,r⟩
theorem Vals.zero:∀ {us:List Value},Vals [] us→us=[]
 | _,.nil=>rfl
theorem Vals.dropLast {xs:List V} {us:List Value} (h:Vals xs us):Vals xs.dropLast us.dropLast:=by
 induction h with
 | nil=>exact .nil
 | cons r t ih =>
   cases t with
   | nil=>exact .nil
   | cons q t'=>exact .cons r ih
theorem zgl {α:Type} (l:List α):l.eraseIdx (l.length - 1)=l.dropLast:=by
 induction l with
 | nil=>rfl
 | cons a r ih =>
   cases r with
   | nil=>rfl
   | cons b r =>
     have e:(a::b::r).length - 1=((b::r).length - 1)+1:=by
      have h1:(a::b::r).length=r.length+2:=rfl
      have h2:(b::r).length=r.length+1:=rfl
      lia
     rw [e,List.eraseIdx_cons_succ,ih]
     all_goals rfl
section
variable {X:Cx} {pins:List (Addr×Obj)} {σ:St} {H:Hp} {s:Shared} {l b:Addr} {xs ys zs:List V}
theorem Inv.lset {its its':List Value} {n:Nat} {f:Array Value→Array Value} {t':Nat} (I:Inv X pins σ H s) (hH:H l=some (.lst xs))
 (e:s.heap.get? l=some { cls:=.type "list",data:=.seq its.toArray n }) (hf:f its.toArray=its'.toArray) (hv:Vals ys its') (hz:ys.length≤sizeLine) :
 Inv X pins σ (upd H l (.lst ys)) { s with heap:=s.heap.update l (Obj.mapSeq f),toks:=t' }:=by
 have q:=PySem.IsL.update e f
 rw [hf] at q
 refine I.write (x:=l) (e:=l) (by rw [hH]; exact trivial) (.inl rfl) (fun b' u hb hu=>(Heap.get?_update_other s.heap (Obj.mapSeq f) (Ne.symm hb)).trans hu) ⟨_,q⟩ ?_
 exact ⟨hz,its',_,hv,q⟩
theorem Inv.lnew {its:List Value} {t':Nat} (I:Inv X pins σ H s) (hv:Vals ys its) (hz:ys.length≤sizeLine) :
 Inv X pins σ (upd H s.heap.objs.size (.lst ys)) { s with heap:=s.heap.push { cls:=.type "list",data:=.seq its.toArray },toks:=t' } :=
 I.laid (fun _ _ q=>Heap.get?_push_of_some _ q) (Nat.le_refl _) ⟨hz,its,0,hv,Heap.get?_push_size _ rfl⟩
theorem Inv.fresh (I:Inv X pins σ H s):H s.heap.objs.size=none:=I.hok.fresh (Nat.le_refl _)
theorem Inv.lstM (I:Inv X pins σ H s) (hH:H l=some (.lst xs)):xs.length≤sizeLine∧∃ (its:List Value) (n:Nat),Vals xs its∧xs.length=its.length∧s.heap.get? l=some { cls:=.type "list",data:=.seq its.toArray n }:=by
 obtain ⟨z,its,n,r,e⟩:=I.hok l _ hH
 exact ⟨z,its,n,r,r.length,e⟩
theorem zi4 {n:Nat} (h:n≤sizeLine):Builtin.List.listTooLong n=false:=by
 unfold Builtin.List.listTooLong
 exact decide_eq_false (by lia)
end
section
variable {X:Cx}
noncomputable def zkI:V→List V→Hp→VK→Prop:=fun x vs H Q=>∃ l xs y,x=.ref l∧vs=[y]∧H l=some (.lst xs)∧xs.length<sizeLine∧Q .non (upd H l (.lst (xs++[y])))
theorem zaC:MtM X "list.append" zkI:=by
 intro pins s σ H x vs v us Q I rx rv h
 obtain ⟨l,xs,y,rfl,rfl,hH,hz,q⟩:=h
 cases rx
 obtain ⟨u,rfl,ru⟩:=rv.one
 obtain ⟨z,its,n,r,hl,e⟩:=I.lstM hH
 refine call_meets F.slot_list_append ⟨_,e,rfl⟩ F.entry_list_append (F.args_list_append_2 _ _) (PySem.list_append l its.toArray n u (by rw [List.size_toArray]; lia)) ⟨e,?_⟩
 refine ⟨.non,_,I.lset (its':=its++[u]) hH e (by simp) (r.append (.cons ru .nil)) ?_,rfl,q⟩
 rw [List.length_append,List.length_singleton]
 lia
noncomputable def zg3:V→List V→Hp→VK→Prop:=fun x vs H Q=>∃ l b xs zs,x=.ref l∧vs=[.ref b]∧H l=some (.lst xs)∧H b=some (.lst zs)∧xs.length+zs.length≤sizeLine∧Q .non (upd H l (.lst (xs++zs)))
theorem zhv:MtM X "list.extend" zg3:=by
 intro pins s σ H x vs v us Q I rx rv h
 obtain ⟨l,b,xs,zs,rfl,rfl,hH,hB,hz,q⟩:=h
 cases rx
 obtain ⟨u,rfl,ru⟩:=rv.one
 cases ru
 obtain ⟨z,its,n,r,hl,e⟩:=I.lstM hH
 obtain ⟨z2,its2,n2,r2,hl2,e2⟩:=I.lstM hB
 have hsz:its.toArray.size+its2.toArray.size≤sizeLine:=by rw [List.size_toArray,List.size_toArray]; lia
 have hlong:¬ (!its.toArray.isEmpty&&Builtin.List.listTooLong (its.toArray.size+its2.toArray.size))=true:=by
  rw [zi4 hsz,Bool.and_false]
  exact Bool.false_ne_true
 refine call_meets F.slot_list_extend ⟨_,e,rfl⟩ F.entry_list_extend (F.args_list_extend_2 _ _)
  (AutoSeq1.list_extend_list_list_0 l its.toArray n b its2.toArray n2 hlong (by rw [List.size_toArray]; lia) (by lia)) ⟨e,e2,?_⟩
 refine ⟨.non,_,I.lset (its':=its++its2) hH e (by simp) (r.append r2) ?_,rfl,q⟩
 rw [List.length_append]
 lia
noncomputable def rPop:V→List V→Hp→VK→Prop:=fun x vs H Q=>∃ l xs y,x=.ref l∧vs=[]∧H l=some (.lst xs)∧xs[xs.length - 1]?=some y∧Q y (upd H l (.lst xs.dropLast))
theorem zj7:MtM X "list.pop" rPop:=by
 intro pins s σ H x vs v us Q I rx rv h
 obtain ⟨l,xs,y,rfl,rfl,hH,hy,q⟩:=h
 cases rx
 have hus:=rv.zero
 subst hus
 obtain ⟨z,its,n,r,hl,e⟩:=I.lstM hH
 obtain ⟨u,hu,ru⟩:=r.get hy
 have hy':its.toArray[its.toArray.size - 1]?=some u:=by
  show its.toArray[its.length - 1]?=some u
  rw [←Array.getElem?_toList,←hl]
  exact hu
 refine call_meets F.slot_list_pop ⟨_,e,rfl⟩ F.entry_list_pop (F.args_list_pop_1 _) (MeetsSeq.list_pop_last l its.toArray n u hy' (by rw [List.size_toArray]; lia)) ⟨e,?_⟩
 refine ⟨y,_,I.lset (its':=its.dropLast) hH e ?_ r.dropLast ?_,ru,q⟩
 ·show its.toArray.eraseIdxIfInBounds (its.toArray.size - 1)=its.dropLast.toArray
  rw [List.size_toArray,List.eraseIdxIfInBounds_toArray,zgl]
 ·rw [List.length_dropLast]
  lia
noncomputable def rCat:R2:=fun x y H Q=>∃ l b xs zs,x=.ref l∧y=.ref b∧H l=some (.lst xs)∧H b=some (.lst zs)∧xs.length+zs.length≤sizeLine∧∀ p,H p=none→Q (.ref p) (upd H p (.lst (xs++zs)))
theorem zmD:OpR X (binaryOp .Add) rCat:=by
 intro pins s σ H x y v u Q I rx ry h
 obtain ⟨l,b,xs,zs,rfl,rfl,hH,hB,hz,q⟩:=h
 cases rx
 cases ry
 obtain ⟨z,its,n,r,hl,e⟩:=I.lstM hH
 obtain ⟨z2,its2,n2,r2,hl2,e2⟩:=I.lstM hB
 refine PySem.P.add_list e e2 ?_ (by rw [List.size_toArray,List.size_toArray]; lia)
 have ea:its.toArray++its2.toArray=(its++its2).toArray:=by simp
 rw [ea]
 exact ⟨.ref _,_,I.lnew (t':=s.toks) (r.append r2) (by rw [List.length_append]; lia),rfl,q _ I.fresh⟩
end
section
variable {prog:Program} {w:World} {A:Around} {E:Value→Shared→Prop} {s:Shared}
end
section
variable {X:Cx}
end
end L2
namespace Att
open PySem PySem.W PySem.Calls PyProof.Rows
theorem zaK {P:Params} {h:Heap}:∀ (ns:List Int) (vs:List Value),WellAll P h vs (ns.map WData.int)→IntsAre vs ns:=by
 intro ns
 induction ns with
 | nil =>
   intro vs w
   rw [List.map_nil] at w
   cases w
   exact .nil
 | cons n ns ih =>
   intro vs w
   rw [List.map_cons] at w
   cases w with
   | cons a b =>
     cases a
     exact .cons _ _ (ih _ b)
theorem zgO {l:OpenLaw} {n:Nat} (hn:l.most=some n) {P:Params} {h:Heap} {args:List WData} {vals:List Value}
 (hpre:l.row.toRowW.claim.pre args=true) (hwl:WellAll P h vals args) :
 ∃ a vs ns,vals=[Value.ref a]∧args=[WData.list (ns.map WData.int)]∧h.get? a=some { cls:=.type "list",data:=.seq vs.toArray }∧IntsAre vs ns∧ns.length≤n:=by
 have hsh:WShape.hasAll [] args [.list .int]=true:=(pre_splitW hpre).1
 have hc:l.pre.holds [] { args:=args }=true:=(pre_splitW hpre).2
 obtain ⟨d,r,rfl,h1,h2⟩:=hasAllW_cons hsh
 obtain rfl:=hasAllW_nil h2
 obtain ⟨xs,rfl,h3⟩:=hasW_list h1
 obtain ⟨ns,rfl⟩:=items_int h3
 have hlen:ns.length≤n:=by
  unfold OpenLaw.pre at hc
  have h4:(WTm.not (.lt (.lit (.int (n:Int))) (.len (.arg 0)))).holds [] { args:=[.list (ns.map .int)] }=true:=by
   have h4:=(holds_andW hc).1
   rw [hn] at h4
   exact h4
  have h5:=condW_of h4 (w_not (w_lt w_lit (w_len_list (w_arg rfl))))
  rw [List.length_map] at h5
  refine Nat.le_of_not_lt fun q => ?_
  have q':(n:Int)<((ns.length:Nat):Int):=by lia
  first
   | (rw [decide_eq_true q'] at h5; exact absurd h5 (by decide))
   | (simp at h5; lia)
 cases hwl with
 | cons w1 w2 =>
   cases w2
   cases w1 with
   | list ho hall=>exact ⟨_,_,ns,rfl,rfl,ho,zaK ns _ hall,hlen⟩
theorem zg7 (l:OpenLaw) (args:List WData):l.row.toRowW.claim.post args (.bool true) args=true :=
 postW_of (r:=l.row.toRowW) (X:=(true == true))
  (show WShape.has [] (.bool true) .bool=true by first | rfl | decide | simp [WShape.has,WShape.arms,WShape.armsAll])
  (show (WTm.eq .res (.lit (.bool true))).value [] { args:=args,res:=some (.bool true),after:=args }=some (.bool (true == true)) from w_eq_bool (w_res rfl) w_lit) rfl
theorem attach_call {l:OpenLaw} {n:Nat} {q:Program} {loose:List Str} {XP:(Str→Option Value)→Heap→Prop} {YP:World→Heap→Prop} {d:DefRec}
 (hn:l.most=some n) (hdf:d.params.defaults=[])
 (call:∀ (w:World) (s₀ s₁:Shared) (mg mb:Str→Option Value) (fa:Addr) (o:Obj) (pm cd doc:Value) (a:Addr) (vs:List Value) (ns:List Int),
  Ground q loose [] XP w s₀ mg mb s₁.heap→YP w s₁.heap →
  s₁.heap.get? fa=some o→o.data=.func (docDef d.name d.params d.body d.scope pm cd doc)→s₁.heap.CodeRec cd d.name→mg d.name=some (.ref fa) →
  s₁.heap.get? a=some { cls:=.type "list",data:=.seq vs.toArray }→IntsAre vs ns→ns.length≤n→s₁.gens=#[] →
  codeAny (model l.prog w) callerA (.call (.ref fa) ⟨[.ref a],[]⟩) (fun r s'=>r=.ok (.ret (.bool true))∧OldK s₁.heap s'.heap∧s'.os=s₁.os∧AllBare s'.gens) s₁) :
 WalkO q loose XP YP l.row.toRowW d [] (fun f vs=>PySem.call f vs):=by
 intro w s₀ s₁ mg mb G Y fa o pm cd doc dV kV ho hd hcd hD hmg hg args vals as hpre hlay hrd hwl hlo
 obtain rfl:dV=.none:=Dflts.none hD hdf
 obtain rfl:kV=.none:=Dflts.noKw hD
 obtain ⟨a,vs,ns,rfl,rfl,hobj,hints,hlen⟩:=zgO hn hpre hwl
 refine enter_call (codeAny_mono (call w s₀ s₁ mg mb fa o pm cd doc a vs ns G Y ho (fd_plain hd) hcd hmg hobj hints hlen hg) fun r s' hq => ?_)
 obtain ⟨rfl,h2,h3,h4⟩:=hq
 exact ⟨.inl ⟨.bool true,.bool true,[],rfl,fun _=>rfl,.bool true,zg7 l _,fun _=>⟨List.Pairwise.nil,fun _ hm=>(nomatch hm)⟩⟩,h2,h3,h4⟩
section
variable {prog:Program} {w:World} {A:Around} {E:Value→Shared→Prop} {s:Shared} {K:Frag}
end
end Att
namespace L2
open PySem PySem.Spec PyProof.Rows
theorem vY:∀ {vs:List Value} {ns:List Int},IntsAre vs ns→Vals (ns.map V.int) vs
 | _,_,.nil=>.nil
 | _,_,.cons n t h=>.cons ⟨t,rfl⟩ (vY h)
noncomputable def Only (H:Hp):Prop:=∀ b,H b=none∨∃ o xs,H b=some (.frz o (.lst xs))
theorem zjf {P:Program} {w:World} {K:PySem.W.Frag} {mg mb:Str→Option Value} {CX:CXT} {k:Nat} {fa a:Addr} {fd:FuncData} {x:Str} {sp:Sp} {s₁:Shared} {vs:List Value} {ns:List Int}
 (KX:K.In s₁.heap) (hns:s₁.heap.Ns mainGlobals mg) (hb:s₁.heap.Ns builtinsNs mb) (hbb:∀ x:Str,x ≠ "__name__" → mb x=bootBuiltins x) (hlim:s₁.heap.NoLimit) (hg:s₁.gens=#[])
 (ha:s₁.heap.get? a=some { cls:=.type "list",data:=.seq vs.toArray }) (hi:IntsAre vs ns) (hl:ns.length≤sizeLine) (hr:Room k callerA)
 (F:∀ base:Heap,K.In base→base.Ns mainGlobals mg→FnOk P w K mg base CX k fa fd [x] sp) (hbind:∀ (s:Shared) (u:Value),BindsTo s fd ⟨[u],[]⟩ [(x,u)])
 (hsp:∀ H:Hp,Only H→SqL K H a (ns.map V.int)→sp [.ref a] H (fun v _=>v=.bl true) fun _ _ _=>False)
 (hCX:∀ H e s',CX [] H s₁ (fun _ _ _=>False) e s'→False) :
 codeAny (model P w) callerA (.call (.ref fa) ⟨[.ref a],[]⟩) (fun r s'=>r=.ok (.ret (.bool true))∧OldK s₁.heap s'.heap∧s'.os=s₁.os∧AllBare s'.gens) s₁:=by
 have rv:=vY hi
 have lenV:=hi.length
 have core:∀ H:Hp,Only H→SqL K H a (ns.map V.int)→HOk P w H s₁.heap→(∀ b,H b≠none→b=a)→(H a≠none→K.lookup a=none) →
  codeAny (model P w) callerA (.call (.ref fa) ⟨[.ref a],[]⟩) (fun r s'=>r=.ok (.ret (.bool true))∧OldK s₁.heap s'.heap∧s'.os=s₁.os∧AllBare s'.gens) s₁:=by
  intro H hO hS hok hA hK
  have base_of:∀ {b:Addr} {o:Obj},s₁.heap.get? b=some o→H b=none→(hidT s₁.heap H).get? b=some o:=fun e n=>zjm e n
  have noA:∀ {b:Addr} {o:Obj} {es:Array DictEntry} {ep:Nat},s₁.heap.get? b=some o→o.data=.dict es ep→H b=none:=fun {b o es ep} e d=>by
   cases q:H b with
   | none=>rfl
   | some u =>
     have e':b=a:=hA b (by rw [q]; simp)
     subst e'
     rw [ha] at e; cases e
     have d':Data.seq vs.toArray _=Data.dict es ep:=d
     cases d'
  have nsK:∀ {b:Addr} {m:Str→Option Value},s₁.heap.Ns b m→(hidT s₁.heap H).Ns b m:=fun {b m} ⟨o,es,ep,e,d,r⟩=>⟨o,es,ep,base_of e (noA e d),d,r⟩
  have hKb:K.In (hidT s₁.heap H):=fun b o e=>base_of (KX b o e) (by
   cases q:H b with
   | none=>rfl
   | some u =>
     have e':b=a:=hA b (by rw [q]; simp)
     subst e'
     rw [hK (by rw [q]; simp)] at e; cases e)
  have hM:Mod K mg (hidT s₁.heap H):=⟨hKb,nsK hns,⟨mb,nsK hb,hbb⟩,let ⟨mc,h1,h2⟩:=hlim; ⟨mc,nsK h1,h2⟩⟩
  have e0:Env0 P w K mg (hidT s₁.heap H) callerA [] s₁ H:=⟨rfl,hM,fun b o e=>zk5 e,Nat.le_of_eq (zhR _ _),trivial,fun b hb=>absurd (show b∈([]:List Addr) from hb) (by simp),hok,.of_eq hg⟩
  refine codeAny_mono ((F _ hKb (nsK hns)).run callerA [] s₁ H ⟨[.ref a],[]⟩ [.ref a] [.ref a] _ _ hr e0 (hbind s₁ (.ref a)) (.cons rfl .nil) (hsp H hO hS)) fun r s' h => ?_
  cases r with
  | error e=>exact (hCX H e s' h).elim
  | ok fl =>
    cases fl with
    | next=>exact False.elim h
    | brk=>exact False.elim h
    | cont=>exact False.elim h
    | ret u =>
      obtain ⟨v,H',os,bare,un,hok',r',q⟩:=h
      have q':v=.bl true:=q
      subst q'
      obtain rfl:u=Value.bool true:=r'
      refine ⟨rfl,OldK.of_keep fun b o e => ?_,os,bare⟩
      cases q:H b with
      | none=>exact un.keep b o e q (by intro z; exact absurd (show b∈([]:List Addr) from z) (by simp)) (by simp)
      | some u =>
        rcases hO b with z | ⟨ob,xs,z⟩
        ·rw [q] at z; cases z
        ·have z2:=un.frzs b ob _ z
         obtain ⟨e1,_⟩:=hok b _ z
         obtain ⟨e2,_⟩:=hok' b _ z2
         rw [e] at e1; cases e1
         exact e2
 cases hk:K.lookup a with
 | some o =>
   have e:=KX a o hk
   rw [ha] at e
   cases e
   refine core (fun _=>none) (fun _=>.inl rfl) (.inr ⟨_,vs.toArray,_,hk,rfl,rfl,rfl,by rw [List.size_toArray,lenV]; exact hl,by simpa using rv⟩) (fun b u z=>by have z':(none:Option HO)=some u:=z; cases z') (fun b z=>absurd rfl z) fun z=>absurd rfl z
 | none =>
   refine core (fun b=>if b=a then some (.frz { cls:=.type "list",data:=.seq vs.toArray } (.lst (ns.map V.int))) else none) (fun b => ?_) (.inl (.inr ⟨{ cls:=.type "list",data:=.seq vs.toArray },if_pos rfl⟩)) (fun b u z => ?_) (fun b z => ?_) fun _=>hk
   ·by_cases hb:b=a
    ·exact .inr ⟨_,_,if_pos hb⟩
    ·exact .inl (if_neg hb)
   ·by_cases hb:b=a
    ·have z':=(if_pos hb).symm.trans z
     cases z'
     subst hb
     exact ⟨ha,by rw [List.length_map]; exact hl,vs,_,rv,ha⟩
    ·have z':=(if_neg hb).symm.trans z
     cases z'
   ·by_cases hb:b=a
    ·exact hb
    ·exact absurd (if_neg hb) z
end L2
namespace L2
open PySem PySem.Spec PyProof.Rows
theorem zbY {l:PySem.W.OpenLaw} {n k:Nat} {q:Program} {loose:List Str} {XP:(Str→Option Value)→Heap→Prop} {YP:World→Heap→Prop} {d:DefRec} {K:Params→PySem.W.Frag} {CX:World→CXT} {sp:World→Sp} {x:Str}
 (hn:l.most=some n) (hn2:n≤sizeLine) (hdf:d.params.defaults=[]) (hr:Room k callerA)
 (hY:∀ (w:World) (h:Heap),YP w h→(K w.params).In h)
 (F:∀ (w:World) (mg:Str→Option Value) (fa:Addr) (h:Heap),(K w.params).In h→h.Ns mainGlobals mg→mg d.name=some (.ref fa) →
  ∃ fd:FuncData,(∀ (s:Shared) (u:Value),BindsTo s fd ⟨[u],[]⟩ [(x,u)]) ∧
    ∀ base:Heap,(K w.params).In base→base.Ns mainGlobals mg→FnOk l.prog w (K w.params) mg base (CX w) k fa fd [x] (sp w))
 (hsp:∀ (w:World) (H:Hp) (a:Addr) (ns:List Int),ns.length≤n→Only H→SqL (K w.params) H a (ns.map V.int)→sp w [.ref a] H (fun v _=>v=.bl true) fun _ _ _=>False)
 (hCX:∀ (w:World) (H:Hp) (s:Shared) (e:Value) (s':Shared),CX w [] H s (fun _ _ _=>False) e s'→False) :
 PySem.W.WalkO q loose XP YP l.row.toRowW d [] (fun f vs=>PySem.call f vs):=by
 refine Att.attach_call hn hdf fun w s₀ s₁ mg mb fa o pm cd doc a vs ns G Y ho hd hcd hmg hobj hints hlen hg => ?_
 have KX:=hY w _ Y
 obtain ⟨fd,hb,hF⟩:=F w mg fa _ KX G.T.g hmg
 exact zjf KX G.T.g G.T.b G.T.builtins G.T.nolimit hg hobj hints (Nat.le_trans hlen hn2) hr hF hb (fun H hO hS=>hsp w H a ns hlen hO hS) fun H e s'=>hCX w H s₁ e s'
theorem ziG {l:PySem.W.OpenLaw} {n k:Nat} {q:Program} {loose:List Str} {XP:(Str→Option Value)→Heap→Prop} {YP:World→Heap→Prop} {d:DefRec} {K:Params→PySem.W.Frag} {CX:CXT} {sp:PySem.W.Frag→Sp} {x:Str}
 (hn:l.most=some n) (hn2:n≤sizeLine) (hdf:d.params.defaults=[]) (hr:Room k callerA)
 (hY:∀ (w:World) (h:Heap),YP w h→(K w.params).In h)
 (F:∀ (w:World) (mg:Str→Option Value) (fa:Addr) (h:Heap),(K w.params).In h→h.Ns mainGlobals mg→mg d.name=some (.ref fa) →
  ∃ fd:FuncData,(∀ (s:Shared) (u:Value),BindsTo s fd ⟨[u],[]⟩ [(x,u)]) ∧
    ∀ base:Heap,(K w.params).In base→base.Ns mainGlobals mg→FnOk l.prog w (K w.params) mg base CX k fa fd [x] (sp (K w.params)))
 (hsp:∀ (K:PySem.W.Frag) (H:Hp) (a:Addr) (ns:List Int),ns.length≤n→Only H→SqL K H a (ns.map V.int)→sp K [.ref a] H (fun v _=>v=.bl true) fun _ _ _=>False)
 (hCX:∀ (H:Hp) (s:Shared) (e:Value) (s':Shared),CX [] H s (fun _ _ _=>False) e s'→False) :
 PySem.W.WalkO q loose XP YP l.row.toRowW d [] (fun f vs=>PySem.call f vs) :=
 zbY (K:=K) (CX:=fun _=>CX) (sp:=fun w=>sp (K w.params)) hn hn2 hdf hr hY F (fun w H a ns h1 h2 h3=>hsp (K w.params) H a ns h1 h2 h3) fun _ H s e s'=>hCX H s e s'
end L2
namespace L2
open PySem PySem.Spec PyProof.Rows
noncomputable def defArgs (s:Stmt):Arguments:=match s with
 | .FunctionDef _ a _ _ _ _ _ _ _ _=>a
 | _=>{ posonlyargs:=[],args:=[],vararg:=none,kwonlyargs:=[],kw_defaults:=[],kwarg:=none,defaults:=[] }
noncomputable def defBody (s:Stmt):List Stmt:=match s with
 | .FunctionDef _ _ b _ _ _ _ _ _ _=>b
 | _=>[]
noncomputable def defScope (s:Stmt):Scope:=match s with
 | .FunctionDef _ _ _ _ _ _ sc _ _ _=>sc
 | _=>{ kind:=.function,names:=[],isGenerator:=false,isCoroutine:=false }
noncomputable abbrev CX0:CXT:=fun _ _ _ _ _ _=>False
noncomputable abbrev E0:XK:=fun _ _ _=>False
theorem pass0 {X:Cx}:ziw CX0 X E0:=fun _ _ _ _ _ _ _ h=>h.elim
structure Fun (K:PySem.W.Frag) (x qual:Str) (st:Stmt) (f:Addr) (fd:FuncData):Prop where
 ex:∃ (oc:Value) (od:Option Addr) (kV doc pm:Value) (an:Option Addr) (cdv ct:Value) (osl:Array (Option Value)),
  fd=PySem.W.fnOf x qual (defArgs st) (defBody st) (defScope st) .none kV doc pm an cdv ct∧K.lookup f=some ⟨oc,od,.func fd,osl⟩∧PySem.W.codeIn K cdv qual=true
 kp:PySem.W.keepIn K (.ref f)=true
section
variable {P:Program} {w:World} {K:PySem.W.Frag} {mg:Str→Option Value} {base:Heap}
theorem Fun.ok {x qual:Str} {st:Stmt} {f:Addr} {fd:FuncData} {N ps:List Str} {k:Nat} {sp:Sp} (F:Fun K x qual st f fd) (S:FnScope N ps (defScope st)) (len:∀ vs H Q E,sp vs H Q E→vs.length=ps.length)
 (hbody:∀ (cdv:Value) (A:Around) (outer:List Env) (s:Shared) (H:Hp) (vs:List V) (Q:VK) (E:XK),Room k (A.deeper (envOfC qual (defScope st) s.heap.objs.size f cdv))→sp vs H Q E →
  ∃ t,PSs (cxOf CX0 P w K mg base N qual (defScope st) f cdv A outer s H E).nox (defBody st) t∧t { nx:=fun _ H'=>Q .non H',rt:=Q } (zao N vs) H):FnOk P w K mg base CX0 (k+1) f fd ps sp:=by
 obtain ⟨oc,od,kV,doc,pm,an,cdv,ct,osl,rfl,lk,hcd⟩:=F.ex
 refine fn_of lk hcd S len fun A outer s H vs Q E hr hsp => ?_
 obtain ⟨t,h,q⟩:=hbody cdv A outer s H vs Q E hr hsp
 exact ⟨t,h.nox,q⟩
theorem Fun.binds {x qual:Str} {st:Stmt} {f:Addr} {fd:FuncData} {ps:List Str} (F:Fun K x qual st f fd)
 (h:∀ (kV doc pm:Value) (an:Option Addr) (cdv ct:Value) (us:List Value),us.length=ps.length→bindArgs (PySem.W.fnOf x qual (defArgs st) (defBody st) (defScope st) .none kV doc pm an cdv ct) ⟨us,[]⟩=pure (ps.zip us)):Binds K fd ps []:=by
 obtain ⟨oc,od,kV,doc,pm,an,cdv,ct,osl,rfl,lk,hcd⟩:=F.ex
 exact .all (h kV doc pm an cdv ct)
theorem z8 {x qual:Str} {st:Stmt} {f:Addr} {oc:Value} {od an:Option Addr} {osl:Array (Option Value)} {kV doc pm cdv ct:Value} (l:K.lookup f=some ⟨oc,od,.func (PySem.W.fnOf x qual (defArgs st) (defBody st) (defScope st) .none kV doc pm an cdv ct),osl⟩)
 (c:PySem.W.codeIn K cdv qual=true) (k:PySem.W.keepIn K (.ref f)=true):Fun K x qual st f (PySem.W.fnOf x qual (defArgs st) (defBody st) (defScope st) .none kV doc pm an cdv ct):=⟨⟨oc,od,kV,doc,pm,an,cdv,ct,osl,rfl,l,c⟩,k⟩
end
section
variable {X:Cx}
theorem pv (i:Nat) {x:Str} {pos:Pos} (hN:X.N[i]?=some x:=by rfl) (hv:Vis X.env.scope x:=by first | exact Or.inl rfl | exact Or.inr (Or.inl rfl) | exact Or.inr (Or.inr rfl)) (hd:(x == ("__debug__" : Str))=false:=by decide)
 (hcd:(x == ("__classdict__" : Str))=false:=by decide):PE X (.Name x pos) (tVar i):=zmo hN hv hd hcd
end
theorem iteF {A B:Prop} (h:B):if false=true then A else B:=by
 rw [if_neg Bool.false_ne_true]
 exact h
theorem iteT {A B:Prop} (h:A):if true=true then A else B:=by
 rw [if_pos rfl]
 exact h
noncomputable def Same (H H':Hp):Prop:=∀ b o,H b=some o→H' b=some o
theorem Same.refl (H:Hp):Same H H:=fun _ _ h=>h
theorem Same.trans {H H1 H2:Hp} (a:Same H H1) (b:Same H1 H2):Same H H2:=fun c o h=>b c o (a c o h)
theorem Same.free {H H':Hp} (e:Same H H') {l:Addr} (h:H' l=Option.none):H l=Option.none:=by
 cases q:H l with
 | none=>rfl
 | some o =>
   rw [e l o q] at h
   cases h
theorem Same.seq {K:PySem.W.Frag} {H H':Hp} {a:Addr} {xs:List V} (e:Same H H') (h:SqL K H a xs):SqL K H' a xs:=by
 rcases h with (h | ⟨o,h⟩) | h
 ·exact .inl (.inl (e _ _ h))
 ·exact .inl (.inr ⟨o,e _ _ h⟩)
 ·exact .inr h
end L2
set_option maxHeartbeats 4000000
namespace DL
open PySem PySem.Spec PyProof.Rows L2
noncomputable abbrev St:=L2.St
inductive D where
 | non
 | bl (b:Bool)
 | int (i:Int)
 | tup (ds:List D)
 | lst (ds:List D)
 | scr (ns:List Int)
 | exc (c:Str) (p:Option Int)
inductive Out (α:Type) where
 | bad
 | ok (a:α)
 | exc (c:Str) (p:Option Int)
noncomputable def Out.bind {α β:Type} (x:Out α) (f:α→Out β):Out β :=
 match x with
 | .bad=>.bad
 | .ok a=>f a
 | .exc c p=>.exc c p
@[simp] theorem zk {α β:Type} (a:α) (f:α→Out β):(Out.ok a).bind f=f a:=rfl
@[simp] theorem bind_bad {α β:Type} (f:α→Out β):(Out.bad:Out α).bind f=.bad:=rfl
@[simp] theorem bind_exc {α β:Type} (c:Str) (p:Option Int) (f:α→Out β):(Out.exc c p:Out α).bind f=.exc c p:=rfl
theorem zq {α β:Type} {x:Out α} {f:α→Out β} {b:β} (h:x.bind f=.ok b):∃ a,x=.ok a∧f a=.ok b:=by
 cases x with
 | bad=>cases h
 | ok a=>exact ⟨a,rfl,h⟩
 | exc c p=>cases h
inductive Val where
 | pers (d:D)
 | fresh (ds:List D)
 | brw (i:Nat) (ds:List D)
@[simp] noncomputable def Val.d:Val→D
  | .pers d=>d
  | .fresh ds=>.lst ds
  | .brw _ ds=>.lst ds
@[simp] noncomputable def Val.hold:Val→Out D
  | .pers d=>.ok d
  | .fresh ds=>.ok (.lst ds)
  | .brw _ _=>.bad
inductive Slot where
 | un
 | pers (d:D)
 | own (ds:List D)
noncomputable abbrev Ev:=List Slot
noncomputable abbrev FE:=Ev→Out Val
noncomputable abbrev FT:=Ev→Out Bool
inductive Res where
 | next (env:Ev)
 | ret (v:Val)
noncomputable abbrev FS:=Ev→Out Res
mutual
noncomputable def Rep (K:PySem.W.Frag) (G:Hp):D→V→Prop
 | .non,v=>v=.non
 | .bl b,v=>v=.bl b
 | .int i,v=>v=.int i
 | .tup ds,v=>∃ a vs,v=.ref a∧G a=some (.tup vs)∧RepL K G ds vs
 | .lst ds,v=>∃ a vs,v=.ref a∧G a=some (.lst vs)∧RepL K G ds vs
 | .scr ns,v=>∃ a,v=.ref a∧SqL K G a (ns.map V.int)
 | .exc _ _,_=>False
noncomputable def RepL (K:PySem.W.Frag) (G:Hp):List D→List V→Prop
 | [],vs=>vs=[]
 | d::ds,vs=>∃ v r,vs=v::r∧Rep K G d v∧RepL K G ds r
end
section
variable {K:PySem.W.Frag} {G G':Hp}
mutual
theorem Rep.mono (s:Same G G'):∀ {d:D} {v:V},Rep K G d v→Rep K G' d v
 | .non,_,h=>h
 | .bl _,_,h=>h
 | .int _,_,h=>h
 | .tup ds,v,h=>by
   obtain ⟨a,vs,e,g,r⟩:=h
   exact ⟨a,vs,e,s _ _ g,RepL.mono s r⟩
 | .lst ds,v,h=>by
   obtain ⟨a,vs,e,g,r⟩:=h
   exact ⟨a,vs,e,s _ _ g,RepL.mono s r⟩
 | .scr ns,v,h=>by
   obtain ⟨a,e,g⟩:=h
   exact ⟨a,e,s.seq g⟩
 | .exc _ _,_,h=>h
theorem RepL.mono (s:Same G G'):∀ {ds:List D} {vs:List V},RepL K G ds vs→RepL K G' ds vs
 | [],_,h=>h
 | d::ds,vs,h=>by
   obtain ⟨v,r,e,h1,h2⟩:=h
   exact ⟨v,r,e,Rep.mono s h1,RepL.mono s h2⟩
end
theorem RepL.nil:RepL K G [] []:=rfl
theorem RepL.cons {d:D} {v:V} {ds:List D} {vs:List V} (h:Rep K G d v) (r:RepL K G ds vs):RepL K G (d::ds) (v::vs):=⟨v,vs,rfl,h,r⟩
theorem RepL.length:∀ {ds:List D} {vs:List V},RepL K G ds vs→ds.length=vs.length
 | [],_,h=>by cases (show _=[] from h); rfl
 | d::ds,vs,h=>by
   obtain ⟨v,r,rfl,_,h2⟩:=h
   simp [RepL.length h2]
theorem RepL.get:∀ {ds:List D} {vs:List V} {i:Nat} {d:D},RepL K G ds vs→ds[i]?=some d→∃ v,vs[i]?=some v∧Rep K G d v
 | [],_,i,d,h,e=>by simp at e
 | d'::ds,vs,0,d,h,e=>by
   obtain ⟨v,r,rfl,h1,h2⟩:=h
   simp at e
   subst e
   exact ⟨v,rfl,h1⟩
 | d'::ds,vs,i+1,d,h,e=>by
   obtain ⟨v,r,rfl,h1,h2⟩:=h
   obtain ⟨u,h3,h4⟩:=RepL.get (i:=i) h2 (by simpa using e)
   exact ⟨u,by simpa using h3,h4⟩
theorem RepL.get':∀ {ds:List D} {vs:List V} {i:Nat} {v:V},RepL K G ds vs→vs[i]?=some v→∃ d,ds[i]?=some d∧Rep K G d v
 | [],_,i,d,h,e=>by cases (show _=[] from h); simp at e
 | d'::ds,vs,0,d,h,e=>by
   obtain ⟨v,r,rfl,h1,h2⟩:=h
   simp at e
   subst e
   exact ⟨d',rfl,h1⟩
 | d'::ds,vs,i+1,d,h,e=>by
   obtain ⟨v,r,rfl,h1,h2⟩:=h
   obtain ⟨u,h3,h4⟩:=RepL.get' (i:=i) h2 (by simpa using e)
   exact ⟨u,by simpa using h3,h4⟩
theorem RepL.append:∀ {ds es:List D} {vs us:List V},RepL K G ds vs→RepL K G es us→RepL K G (ds++es) (vs++us)
 | [],es,vs,us,h,h'=>by cases (show _=[] from h); exact h'
 | d::ds,es,vs,us,h,h'=>by
   obtain ⟨v,r,rfl,h1,h2⟩:=h
   exact ⟨v,r++us,rfl,h1,RepL.append h2 h'⟩
theorem RepL.take:∀ {ds:List D} {vs:List V} (n:Nat),RepL K G ds vs→RepL K G (ds.take n) (vs.take n)
 | ds,vs,0,h=>by simp only [List.take_zero]; exact rfl
 | [],vs,n+1,h=>by cases (show _=[] from h); exact rfl
 | d::ds,vs,n+1,h=>by
   obtain ⟨v,r,rfl,h1,h2⟩:=h
   exact ⟨v,r.take n,rfl,h1,RepL.take n h2⟩
theorem RepL.drop:∀ {ds:List D} {vs:List V} (n:Nat),RepL K G ds vs→RepL K G (ds.drop n) (vs.drop n)
 | ds,vs,0,h=>by simpa using h
 | [],vs,n+1,h=>by cases (show _=[] from h); exact rfl
 | d::ds,vs,n+1,h=>by
   obtain ⟨v,r,rfl,h1,h2⟩:=h
   exact RepL.drop n h2
theorem RepL.dropLast {ds:List D} {vs:List V} (h:RepL K G ds vs):RepL K G ds.dropLast vs.dropLast:=by
 rw [List.dropLast_eq_take,List.dropLast_eq_take,←h.length]
 exact h.take _
theorem RepL.set {d:D} {v:V} (hd:Rep K G d v):∀ {ds:List D} {vs:List V} (i:Nat),RepL K G ds vs→RepL K G (ds.set i d) (vs.set i v)
 | [],vs,i,h=>by cases (show _=[] from h); exact rfl
 | d'::ds,vs,0,h=>by
   obtain ⟨u,r,rfl,h1,h2⟩:=h
   exact ⟨v,r,rfl,hd,h2⟩
 | d'::ds,vs,i+1,h=>by
   obtain ⟨u,r,rfl,h1,h2⟩:=h
   exact ⟨u,r.set i v,rfl,h1,RepL.set hd i h2⟩
theorem RepL.ints:∀ (ns:List Int),RepL K G (ns.map D.int) (ns.map V.int)
 | []=>rfl
 | n::ns=>⟨.int n,ns.map V.int,rfl,rfl,RepL.ints ns⟩
theorem RepL.ints_of:∀ {ns:List Int} {vs:List V},RepL K G (ns.map D.int) vs→vs=ns.map V.int
 | [],_,h=>h
 | n::ns,vs,h=>by
   obtain ⟨v,r,rfl,h1,h2⟩:=h
   rw [RepL.ints_of h2]
   cases (show v=.int n from h1)
   rfl
end
structure Grow (G H G' H':Hp):Prop where
 g:Same G G'
 h:Same H H'
 n:∀ b,H b≠none→G b=none→G' b=none
theorem Grow.refl (G H:Hp):Grow G H G H:=⟨Same.refl _,Same.refl _,fun _ _ h=>h⟩
theorem Same.some_of {H H':Hp} (s:Same H H') {b:Addr} (h:H b≠none):H' b≠none:=by
 cases q:H b with
 | none=>exact absurd q h
 | some o=>rw [s b o q]; simp
theorem Grow.trans {G H G1 H1 G2 H2:Hp} (a:Grow G H G1 H1) (b:Grow G1 H1 G2 H2):Grow G H G2 H2 :=
 ⟨a.g.trans b.g,a.h.trans b.h,fun c h1 h2=>b.n c (Same.some_of a.h h1) (a.n c h1 h2)⟩
structure SlotOwn (K:PySem.W.Frag) (H₀:Hp) (σ:St) (G H:Hp) (i:Nat) (ds:List D) (a:Addr) (vs:List V):Prop where
 at_:σ[i]?=some (some (.ref a))
 hp:H a=some (.lst vs)
 gn:G a=none
 new:H₀ a=none
 rep:RepL K G ds vs
noncomputable def SlotOk (K:PySem.W.Frag) (H₀:Hp) (σ:St) (G H:Hp) (i:Nat):Slot→Prop
 | .un=>True
 | .pers d=>∃ v,σ[i]?=some (some v)∧Rep K G d v
 | .own ds=>∃ a vs,SlotOwn K H₀ σ G H i ds a vs
structure DI (K:PySem.W.Frag) (G₀ H₀:Hp) (env:Ev) (σ:St) (G H:Hp):Prop where
 le:Same G H
 gr:Grow G₀ H₀ G H
 len:env.length=σ.length
 slot:∀ (i:Nat) (s:Slot),env[i]?=some s→SlotOk K H₀ σ G H i s
 apart:∀ (i j:Nat) (ds es:List D) (a:Addr),i≠j→env[i]?=some (.own ds)→env[j]?=some (.own es)→σ[i]?=some (some (.ref a))→σ[j]?≠some (some (.ref a))
section
variable {K:PySem.W.Frag} {G₀ H₀ G H G' H':Hp} {env:Ev} {σ:St}
theorem DI.grow (I:DI K G₀ H₀ env σ G H) (g:Grow G H G' H') (l:Same G' H'):DI K G₀ H₀ env σ G' H' where
 le:=l
 gr:=I.gr.trans g
 len:=I.len
 slot:=fun i s e=>by
  have q:=I.slot i s e
  cases s with
  | un=>trivial
  | pers d=>obtain ⟨v,h1,h2⟩:=q; exact ⟨v,h1,h2.mono g.g⟩
  | own ds =>
    obtain ⟨a,vs,o⟩:=q
    exact ⟨a,vs,o.at_,g.h _ _ o.hp,g.n a (by rw [o.hp]; simp) o.gn,o.new,o.rep.mono g.g⟩
 apart:=I.apart
theorem DI.own (I:DI K G₀ H₀ env σ G H) {i:Nat} {ds:List D} (e:env[i]?=some (.own ds)):∃ a vs,SlotOwn K H₀ σ G H i ds a vs:=I.slot i _ e
theorem DI.pers (I:DI K G₀ H₀ env σ G H) {i:Nat} {d:D} (e:env[i]?=some (.pers d)):∃ v,σ[i]?=some (some v)∧Rep K G d v:=I.slot i _ e
end
noncomputable def vT (K:PySem.W.Frag) (H:Hp) (env:Ev) (σ:St) (G' H':Hp) (v:V):Val→Prop
 | .pers d=>Rep K G' d v
 | .fresh ds=>∃ a vs,v=.ref a∧H a=none∧H' a=some (.lst vs)∧G' a=none∧RepL K G' ds vs
 | .brw i ds=>∃ a,v=.ref a∧env[i]?=some (.own ds)∧σ[i]?=some (some (.ref a))
theorem vT.base {K:PySem.W.Frag} {H H1:Hp} {env:Ev} {σ:St} {G' H':Hp} {v:V} {val:Val} (s:Same H H1) (h:vT K H1 env σ G' H' v val):vT K H env σ G' H' v val:=by
 cases val with
 | pers d=>exact h
 | fresh ds =>
   obtain ⟨a,vs,e,h1,h2,h3,h4⟩:=h
   exact ⟨a,vs,e,s.free h1,h2,h3,h4⟩
 | brw i ds=>exact h
noncomputable def Opd (K:PySem.W.Frag) (env:Ev) (σ:St) (G:Hp) (v:V) (d:D):Prop :=
 Rep K G d v∨∃ (i:Nat) (ds:List D) (a:Addr),d=.lst ds∧v=.ref a∧env[i]?=some (.own ds)∧σ[i]?=some (some (.ref a))
theorem Opd.mono {K:PySem.W.Frag} {env:Ev} {σ:St} {G G':Hp} {v:V} {d:D} (h:Opd K env σ G v d) (s:Same G G'):Opd K env σ G' v d :=
 h.elim (fun x=>.inl (x.mono s)) .inr
section
variable {K:PySem.W.Frag} {G₀ H₀ G H G' H':Hp} {env:Ev} {σ:St} {v:V}
theorem Opd.lst {ds:List D} (I:DI K G₀ H₀ env σ G H) (h:Opd K env σ G v (.lst ds)):∃ a vs,v=.ref a∧H a=some (.lst vs)∧RepL K G ds vs:=by
 rcases h with h | ⟨i,es,a,e1,e2,e3,e4⟩
 ·obtain ⟨a,vs,e,g,r⟩:=h
  exact ⟨a,vs,e,I.le _ _ g,r⟩
 ·cases e1
  obtain ⟨b,vs,o⟩:=I.own e3
  have q:=o.at_
  rw [e4] at q
  cases q
  exact ⟨a,vs,e2,o.hp,o.rep⟩
theorem Opd.tup {ds:List D} (I:DI K G₀ H₀ env σ G H) (h:Opd K env σ G v (.tup ds)):∃ a vs,v=.ref a∧H a=some (.tup vs)∧RepL K G ds vs:=by
 rcases h with h | ⟨i,es,a,e1,e2,e3,e4⟩
 ·obtain ⟨a,vs,e,g,r⟩:=h
  exact ⟨a,vs,e,I.le _ _ g,r⟩
 ·cases e1
theorem Opd.int {i:Int} (h:Opd K env σ G v (.int i)):v=.int i:=by
 rcases h with h | ⟨_,_,_,e,_⟩
 ·exact h
 ·cases e
theorem Opd.bl {b:Bool} (h:Opd K env σ G v (.bl b)):v=.bl b:=by
 rcases h with h | ⟨_,_,_,e,_⟩
 ·exact h
 ·cases e
theorem Opd.non (h:Opd K env σ G v .non):v=.non:=by
 rcases h with h | ⟨_,_,_,e,_⟩
 ·exact h
 ·cases e
theorem Opd.scr {ns:List Int} (I:DI K G₀ H₀ env σ G H) (h:Opd K env σ G v (.scr ns)):∃ a,v=.ref a∧SqL K H a (ns.map V.int):=by
 rcases h with h | ⟨_,_,_,e,_⟩
 ·obtain ⟨a,e,q⟩:=h
  exact ⟨a,e,I.le.seq q⟩
 ·cases e
theorem opd {val:Val} (g:Grow G H G' H') (l:Same G' H') (h:vT K H env σ G' H' v val):∃ G'',Grow G H G'' H'∧Same G'' H'∧Opd K env σ G'' v val.d:=by
 cases val with
 | pers d=>exact ⟨G',g,l,.inl h⟩
 | brw i ds =>
   obtain ⟨a,e1,e2,e3⟩:=h
   exact ⟨G',g,l,.inr ⟨i,ds,a,rfl,e1,e2,e3⟩⟩
 | fresh ds =>
   obtain ⟨a,vs,e,h1,h2,h3,h4⟩:=h
   have s':Same G' (upd G' a (.lst vs)):=fun b o q=>by rw [zN (zI q h3)]; exact q
   refine ⟨upd G' a (.lst vs),⟨g.g.trans s',g.h,fun b q1 q2 => ?_⟩,fun b o q => ?_,.inl ⟨a,vs,e,yc,h4.mono s'⟩⟩
   ·have hb:b≠a:=fun z=>q1 (z ▸ h1)
    rw [zN hb]
    exact g.n b q1 q2
   ·by_cases hb:b=a
    ·subst hb; rw [yc] at q; cases q; exact h2
    ·rw [zN hb] at q; exact l b o q
theorem held {val:Val} {d:D} (g:Grow G H G' H') (l:Same G' H') (h:vT K H env σ G' H' v val) (e:val.hold=.ok d):∃ G'',Grow G H G'' H'∧Same G'' H'∧Rep K G'' d v:=by
 obtain ⟨G2,g2,l2,o⟩:=opd g l h
 cases val with
 | pers d'=>cases e; exact ⟨G',g,l,h⟩
 | brw i ds=>cases e
 | fresh ds =>
   cases e
   rcases o with o | ⟨i,es,a,e1,e2,e3,e4⟩
   ·exact ⟨G2,g2,l2,o⟩
   ·obtain ⟨a',vs,e,h1,h2,h3,h4⟩:=h
    have s':Same G' (upd G' a' (.lst vs)):=fun b o q=>by rw [zN (zI q h3)]; exact q
    refine ⟨upd G' a' (.lst vs),⟨g.g.trans s',g.h,fun b q1 q2 => ?_⟩,fun b o q => ?_,⟨a',vs,e,yc,h4.mono s'⟩⟩
    ·have hb:b≠a':=fun z=>q1 (z ▸ h1)
     rw [zN hb]
     exact g.n b q1 q2
    ·by_cases hb:b=a'
     ·subst hb; rw [yc] at q; cases q; exact h2
     ·rw [zN hb] at q; exact l b o q
theorem Grow.laidT {p:Addr} {o:HO} (l:Same G H) (hp:H p=none):Grow G H (upd G p o) (upd H p o)∧Same (upd G p o) (upd H p o):=by
 have gp:=l.free hp
 refine ⟨⟨fun b u q=>by rw [zN (zI q gp)]; exact q,fun b u q=>by rw [zN (zI q hp)]; exact q,fun b h1 h2 => ?_⟩,fun b u q => ?_⟩
 ·have hb:b≠p:=fun z=>h1 (z ▸ hp)
  rw [zN hb]; exact h2
 ·by_cases hb:b=p
  ·subst hb; rw [yc] at q ⊢; exact q
  ·rw [zN hb] at q ⊢; exact l b u q
theorem Grow.laidL {p:Addr} {o:HO} (l:Same G H) (hp:H p=none):Grow G H G (upd H p o)∧Same G (upd H p o) :=
 ⟨⟨Same.refl _,fun b u q=>by rw [zN (zI q hp)]; exact q,fun _ _ h=>h⟩,fun b u q=>by rw [zN (zI q (l.free hp))]; exact l b u q⟩
theorem x5 {p:Addr} {ds:List D} {vs:List V} {G1 H1:Hp} (l:Same G1 H1) (hp:H1 p=none) (r:RepL K G1 ds vs):vT K H1 env σ G1 (upd H1 p (.lst vs)) (.ref p) (.fresh ds) :=
 ⟨p,vs,rfl,hp,yc,l.free hp,r⟩
theorem zgy {p:Addr} {ds:List D} {vs:List V} {G1 H1:Hp} (l:Same G1 H1) (hp:H1 p=none) (r:RepL K G1 ds vs):vT K H1 env σ (upd G1 p (.tup vs)) (upd H1 p (.tup vs)) (.ref p) (.pers (.tup ds)):=by
 have gp:=l.free hp
 exact ⟨p,vs,rfl,yc,r.mono fun b u q=>by rw [zN (zI q gp)]; exact q⟩
end
section
variable (K:PySem.W.Frag) (G₀ H₀:Hp)
noncomputable def tE (f:FE):TE:=fun σ H Q=>∃ env G val,DI K G₀ H₀ env σ G H∧f env=.ok val ∧
 ∀ v G' H',Grow G H G' H'→Same G' H'→vT K H env σ G' H' v val→Q v H'
noncomputable def tT (f:FT):TT:=fun σ H Q=>∃ env G b,DI K G₀ H₀ env σ G H∧f env=.ok b∧∀ G' H',Grow G H G' H'→Same G' H'→Q b H'
noncomputable def zeZ (env:Ev) (σ:St) (G:Hp) (v:V):Val→Prop
 | .pers d=>Rep K G d v
 | .fresh _=>False
 | .brw i ds=>∃ a,v=.ref a∧env[i]?=some (.own ds)∧σ[i]?=some (some (.ref a))
noncomputable def zbc (env:Ev) (σ:St) (G:Hp):List V→List Val→Prop
 | [],vals=>vals=[]
 | v::vs,vals=>∃ x r,vals=x::r∧zeZ K env σ G v x∧zbc env σ G vs r
noncomputable def tA (f:Ev→Out (List Val)):TA:=fun σ H Q=>∃ env G vals,DI K G₀ H₀ env σ G H∧f env=.ok vals ∧
 ∀ vs G' H',Grow G H G' H'→Same G' H'→zbc K env σ G' vs vals→Q vs H'
noncomputable def tH (f:Ev→Out (List D)):TA:=fun σ H Q=>∃ env G ds,DI K G₀ H₀ env σ G H∧f env=.ok ds ∧
 ∀ vs G' H',Grow G H G' H'→Same G' H'→RepL K G' ds vs→Q vs H'
noncomputable def zbj (G:Hp) (D:Ends):Res→Prop
 | .next env'=>∀ σ' G' H',Same G G'→DI K G₀ H₀ env' σ' G' H'→D.nx σ' H'
 | .ret val=>∀ v G' H',Grow G₀ H₀ G' H'→Same G' H'→vT K H₀ [] [] G' H' v val→D.rt v H'
noncomputable def tS (f:FS):TS:=fun D σ H=>∃ env G r,DI K G₀ H₀ env σ G H∧f env=.ok r∧zbj K G₀ H₀ G D r
end
noncomputable def DE (X:Cx) (G₀ H₀:Hp) (e:Expr) (f:FE):Prop:=PE X e (tE X.K G₀ H₀ f)
noncomputable def DT (X:Cx) (G₀ H₀:Hp) (e:Expr) (f:FT):Prop:=PT X e (tT X.K G₀ H₀ f)
noncomputable def DW (X:Cx) (G₀ H₀:Hp) (e:Expr) (f:FT):Prop:=PW X e (tT X.K G₀ H₀ f)
noncomputable def DA (X:Cx) (G₀ H₀:Hp) (es:List Expr) (f:Ev→Out (List Val)):Prop:=PA X es (tA X.K G₀ H₀ f)
noncomputable def DH (X:Cx) (G₀ H₀:Hp) (es:List Expr) (f:Ev→Out (List D)):Prop:=PA X es (tH X.K G₀ H₀ f)
noncomputable def DS (X:Cx) (G₀ H₀:Hp) (st:Stmt) (f:FS):Prop:=PS X st (tS X.K G₀ H₀ f)
noncomputable def DSs (X:Cx) (G₀ H₀:Hp) (st:List Stmt) (f:FS):Prop:=PSs X st (tS X.K G₀ H₀ f)
theorem _root_.L2.PE.imp {X:Cx} {e:Expr} {t t':TE} (h:PE X e t) (i:∀ σ H Q,t' σ H Q→t σ H Q):PE X e t':=fun pins s σ H Q I q=>h pins s σ H Q I (i σ H Q q)
theorem _root_.L2.PT.imp {X:Cx} {e:Expr} {t t':TT} (h:PT X e t) (i:∀ σ H Q,t' σ H Q→t σ H Q):PT X e t':=fun pins s σ H Q I q=>h pins s σ H Q I (i σ H Q q)
theorem _root_.L2.PW.imp {X:Cx} {e:Expr} {t t':TT} (h:PW X e t) (i:∀ σ H Q,t' σ H Q→t σ H Q):PW X e t':=fun wh pins s σ H Q I q=>h wh pins s σ H Q I (i σ H Q q)
theorem _root_.L2.PA.imp {X:Cx} {e:List Expr} {t t':TA} (h:PA X e t) (i:∀ σ H Q,t' σ H Q→t σ H Q):PA X e t':=fun pos pins s σ H Q I q=>h pos pins s σ H Q I (i σ H Q q)
theorem _root_.L2.PS.imp {X:Cx} {e:Stmt} {t t':TS} (h:PS X e t) (i:∀ D σ H,t' D σ H→t D σ H):PS X e t':=fun pins s σ H D I q=>h pins s σ H D I (i D σ H q)
theorem _root_.L2.PSs.imp {X:Cx} {e:List Stmt} {t t':TS} (h:PSs X e t) (i:∀ D σ H,t' D σ H→t D σ H):PSs X e t':=fun pins s σ H D I q=>h pins s σ H D I (i D σ H q)
section
variable {K:PySem.W.Frag} {G₀ H₀ G H:Hp} {env:Ev} {σ:St}
theorem xL {f:FE} {x:Val} {P:V→Hp→Prop} (I:DI K G₀ H₀ env σ G H) (e:f env=.ok x)
 (k:∀ v G' H',Grow G H G' H'→Same G' H'→DI K G₀ H₀ env σ G' H'→Opd K env σ G' v x.d→P v H'):tE K G₀ H₀ f σ H P :=
 ⟨env,G,x,I,e,fun v G' H' g l h=>by
  obtain ⟨G2,g2,l2,o⟩:=opd g l h
  exact k v G2 H' g2 l2 (I.grow g2 l2) o⟩
theorem zjS {f g:FE} {x y:Val} {P:V→V→Hp→Prop} (I:DI K G₀ H₀ env σ G H) (e:f env=.ok x) (e':g env=.ok y)
 (k:∀ v u G' H',Grow G H G' H'→Same G' H'→DI K G₀ H₀ env σ G' H'→Opd K env σ G' v x.d→Opd K env σ G' u y.d→P v u H') :
 tE K G₀ H₀ f σ H fun v H1=>tE K G₀ H₀ g σ H1 fun u H2=>P v u H2 :=
 xL I e fun v G1 H1 g1 l1 I1 o1=>xL I1 e' fun u G2 H2 g2 l2 I2 o2=>k v u G2 H2 (g1.trans g2) l2 I2 (o1.mono g2.g) o2
end
@[simp] noncomputable def fVar (i:Nat):FE:=fun env=>match env[i]? with
  | some (.pers d)=>.ok (.pers d)
  | some (.own ds)=>.ok (.brw i ds)
  | _=>.bad
@[simp] noncomputable def fC (d:D):FE:=fun _=>.ok (.pers d)
section
variable {X:Cx} {G₀ H₀:Hp} {pos:Pos}
theorem zd {i:Nat} {x:Str} (h:PE X (.Name x pos) (tVar i)):DE X G₀ H₀ (.Name x pos) (fVar i):=h.imp fun σ H Q q=>by
 obtain ⟨env,G,val,I,e,k⟩:=q
 unfold fVar at e
 cases q:env[i]? with
 | none=>rw [q] at e; cases e
 | some s =>
   rw [q] at e
   cases s with
   | un=>cases e
   | pers d =>
     cases e
     obtain ⟨v,h1,h2⟩:=I.pers q
     exact ⟨v,h1,k v G H (Grow.refl _ _) I.le h2⟩
   | own ds =>
     cases e
     obtain ⟨a,vs,o⟩:=I.own q
     exact ⟨.ref a,o.at_,k _ G H (Grow.refl _ _) I.le ⟨a,rfl,q,o.at_⟩⟩
theorem de_c {e:Expr} {v:V} {d:D} (h:PE X e (tC v)) (r:∀ G,Rep X.K G d v):DE X G₀ H₀ e (fC d):=h.imp fun σ H Q q=>by
 obtain ⟨env,G,val,I,e,k⟩:=q
 cases e
 exact k v G H (Grow.refl _ _) I.le (r G)
theorem zh {i j}:DE X G₀ H₀ (.Constant (.int i) j pos) (fC (.int i)):=de_c zmu fun _=>rfl
theorem tq {b j}:DE X G₀ H₀ (.Constant (.bool b) j pos) (fC (.bl b)):=de_c pe_bl fun _=>rfl
theorem yL {j}:DE X G₀ H₀ (.Constant .none j pos) (fC .non):=de_c zms fun _=>rfl
end
@[simp] noncomputable def f2 (g:D→D→Out Val) (fa fb:FE):FE:=fun env=>(fa env).bind fun x=>(fb env).bind fun y=>g x.d y.d
@[simp] noncomputable def f1 (g:D→Out Val) (fa:FE):FE:=fun env=>(fa env).bind fun x=>g x.d
noncomputable def OpD (K:PySem.W.Frag) (r:R2) (g:D→D→Out Val):Prop :=
 ∀ (G₀ H₀:Hp) (env:Ev) (σ:St) (G H:Hp) (v u:V) (d1 d2:D) (val:Val) (Q:VK),DI K G₀ H₀ env σ G H→Opd K env σ G v d1→Opd K env σ G u d2→g d1 d2=.ok val →
   (∀ w G' H',Grow G H G' H'→Same G' H'→vT K H env σ G' H' w val→Q w H')→r v u H Q
noncomputable def UnD (K:PySem.W.Frag) (r:V→Hp→VK→Prop) (g:D→Out Val):Prop :=
 ∀ (G₀ H₀:Hp) (env:Ev) (σ:St) (G H:Hp) (v:V) (d1:D) (val:Val) (Q:VK),DI K G₀ H₀ env σ G H→Opd K env σ G v d1→g d1=.ok val →
   (∀ w G' H',Grow G H G' H'→Same G' H'→vT K H env σ G' H' w val→Q w H')→r v H Q
section
variable {X:Cx} {G₀ H₀:Hp} {pos:Pos} {a b:Expr} {fa fb:FE}
theorem imp2 {r:R2} {g:D→D→Out Val} (hd:OpD X.K r g) (σ:St) (H:Hp) (Q:VK) (q:tE X.K G₀ H₀ (f2 g fa fb) σ H Q):tOp r (tE X.K G₀ H₀ fa) (tE X.K G₀ H₀ fb) σ H Q:=by
 obtain ⟨env,G,val,I,e,k⟩:=q
 obtain ⟨x,e1,e⟩:=zq e
 obtain ⟨y,e2,e⟩:=zq e
 exact zjS I e1 e2 fun v u G' H' g1 l1 I1 o1 o2=>hd G₀ H₀ env σ G' H' v u _ _ val Q I1 o1 o2 e fun w G2 H2 g2 l2 h2=>k w G2 H2 (g1.trans g2) l2 (h2.base g1.h)
theorem imp1 {r:V→Hp→VK→Prop} {g:D→Out Val} (hd:UnD X.K r g) (σ:St) (H:Hp) (Q:VK) (q:tE X.K G₀ H₀ (f1 g fa) σ H Q):tUn r (tE X.K G₀ H₀ fa) σ H Q:=by
 obtain ⟨env,G,val,I,e,k⟩:=q
 obtain ⟨x,e1,e⟩:=zq e
 exact xL I e1 fun v G' H' g1 l1 I1 o1=>hd G₀ H₀ env σ G' H' v _ val Q I1 o1 e fun w G2 H2 g2 l2 h2=>k w G2 H2 (g1.trans g2) l2 (h2.base g1.h)
theorem zeH {op:Operator} {r:R2} {g:D→D→Out Val} (ho:OpR X (binaryOp op) r) (hd:OpD X.K r g) (ha:DE X G₀ H₀ a fa) (hb:DE X G₀ H₀ b fb):DE X G₀ H₀ (.BinOp a op b pos) (f2 g fa fb) :=
 (pe_op ho ha hb).imp (imp2 hd)
theorem de_un {op:UnaryOp} {r:V→Hp→VK→Prop} {g:D→Out Val} (ho:UnR X (unaryOp op) r) (hd:UnD X.K r g) (ha:DE X G₀ H₀ a fa):DE X G₀ H₀ (.UnaryOp op a pos) (f1 g fa) :=
 (pe_un ho ha).imp (imp1 hd)
theorem zdI {op:CmpOp} {r:R2} {g:D→D→Out Val} (ho:OpR X (compareOp op) r) (hd:OpD X.K r g) (ha:DE X G₀ H₀ a fa) (hb:DE X G₀ H₀ b fb) (hm:behindInMarks op b=false):DE X G₀ H₀ (.Compare a [op] [b] pos) (f2 g fa fb) :=
 (zkW ho ha hb hm).imp (imp2 hd)
theorem de_ix {r:R2} {g:D→D→Out Val} (hr:IxR X r) (hd:OpD X.K r g) (ha:DE X G₀ H₀ a fa) (hb:DE X G₀ H₀ b fb) (hs:zeV b):DE X G₀ H₀ (.Subscript a b pos) (f2 g fa fb) :=
 (pe_ix hr ha hb hs).imp (imp2 hd)
end
@[simp] noncomputable def gI (C:Int→Int→Bool) (g:Int→Int→Int):D→D→Out Val
  | .int i,.int j=>if C i j then .ok (.pers (.int (g i j))) else .bad
  | _,_=>.bad
@[simp] noncomputable def gIB (g:Int→Int→Bool):D→D→Out Val
  | .int i,.int j=>.ok (.pers (.bl (g i j)))
  | _,_=>.bad
section
variable {K:PySem.W.Frag}
theorem zfx {C:Int→Int→Bool} {C':Int→Int→Prop} {g:Int→Int→Int} (hC:∀ i j,C i j=true→C' i j):OpD K (rI C' fun i j=>.int (g i j)) (gI C g):=by
 intro G₀ H₀ env σ G H v u d1 d2 val Q I o1 o2 e k
 unfold gI at e
 split at e
 ·rename_i i j
  split at e
  ·rename_i hc
   cases e
   exact ⟨i,j,o1.int,o2.int,hC i j hc,k _ G H (Grow.refl _ _) I.le rfl⟩
  ·cases e
 ·cases e
theorem zk6 {g:Int→Int→Int}:OpD K (rI0 fun i j=>.int (g i j)) (gI (fun _ _=>true) g):=by
 intro G₀ H₀ env σ G H v u d1 d2 val Q I o1 o2 e k
 unfold gI at e
 split at e
 ·rename_i i j
  rw [if_pos rfl] at e
  cases e
  exact ⟨i,j,o1.int,o2.int,k _ G H (Grow.refl _ _) I.le rfl⟩
 ·cases e
theorem wZ {g:Int→Int→Bool}:OpD K (rI0 fun i j=>.bl (g i j)) (gIB g):=by
 intro G₀ H₀ env σ G H v u d1 d2 val Q I o1 o2 e k
 unfold gIB at e
 split at e
 ·rename_i i j
  cases e
  exact ⟨i,j,o1.int,o2.int,k _ G H (Grow.refl _ _) I.le rfl⟩
 ·cases e
end
noncomputable def zar (i:Int):Bool:=decide (-(2^64)<i)&&decide (i<2^64)
noncomputable def cMul (i j:Int):Bool:=zar i || zar j
noncomputable def cPow (i j:Int):Bool:=decide (0≤j)&&decide (j≤1000000)&&decide (i.natAbs<2^64)
@[simp] noncomputable def gSub:=gI (fun _ _=>true) (· - ·)
@[simp] noncomputable def gMul:=gI cMul (· * ·)
@[simp] noncomputable def gMod:=gI (fun _ j=>decide (0<j)) (· % ·)
@[simp] noncomputable def gPow:=gI cPow (fun i j=>i^j.toNat)
@[simp] noncomputable def gLt:=gIB fun i j=>decide (i<j)
@[simp] noncomputable def gLe:=gIB fun i j=>decide (i≤j)
@[simp] noncomputable def gGt:=gIB fun i j=>decide (j<i)
@[simp] noncomputable def gGe:=gIB fun i j=>decide (j≤i)
@[simp] noncomputable def gNeg:D→Out Val
  | .int i=>.ok (.pers (.int (-i)))
  | _=>.bad
section
variable {X:Cx} {G₀ H₀:Hp} {pos:Pos} {a b:Expr} {fa fb:FE}
theorem zP (ha:DE X G₀ H₀ a fa) (hb:DE X G₀ H₀ b fb):DE X G₀ H₀ (.BinOp a .Sub b pos) (f2 gSub fa fb):=zeH zmw zk6 ha hb
theorem ya (ha:DE X G₀ H₀ a fa) (hb:DE X G₀ H₀ b fb):DE X G₀ H₀ (.BinOp a .Mult b pos) (f2 gMul fa fb) :=
 zeH zmz (zfx fun i j h=>by
  simp only [cMul,zar,Bool.or_eq_true,Bool.and_eq_true,decide_eq_true_eq] at h
  exact h) ha hb
theorem yw (ha:DE X G₀ H₀ a fa) (hb:DE X G₀ H₀ b fb):DE X G₀ H₀ (.BinOp a .Mod b pos) (f2 gMod fa fb):=zeH zmA (zfx fun i j h=>of_decide_eq_true h) ha hb
theorem uE (ha:DE X G₀ H₀ a fa) (hb:DE X G₀ H₀ b fb):DE X G₀ H₀ (.BinOp a .Pow b pos) (f2 gPow fa fb) :=
 zeH zmx (zfx fun i j h=>by
  simp only [cPow,Bool.and_eq_true,decide_eq_true_eq] at h
  exact ⟨h.1.1,h.1.2,h.2⟩) ha hb
theorem znb (ha:DE X G₀ H₀ a fa) (hb:DE X G₀ H₀ b fb):DE X G₀ H₀ (.Compare a [.LtE] [b] pos) (f2 gLe fa fb):=zdI zmB wZ ha hb (wo _)
theorem zh8 (ha:DE X G₀ H₀ a fa) (hb:DE X G₀ H₀ b fb):DE X G₀ H₀ (.Compare a [.Gt] [b] pos) (f2 gGt fa fb):=zdI zmC wZ ha hb (wo _)
theorem xX (ha:DE X G₀ H₀ a fa):DE X G₀ H₀ (.UnaryOp .USub a pos) (f1 gNeg fa):=de_un zlW (by
 intro G₀ H₀ env σ G H v d1 val Q I o1 e k
 unfold gNeg at e
 split at e
 ·rename_i i
  cases e
  exact ⟨i,o1.int,k _ G H (Grow.refl _ _) I.le rfl⟩
 ·cases e) ha
end
end DL
namespace DL
open PySem PySem.Spec PyProof.Rows L2
noncomputable def cDiv (_ j:Int):Bool:=decide (0<j)&&decide (j<2^250)
theorem zi1 {X:Cx}:OpR X (binaryOp .FloorDiv) (rI (fun _ j=>0<j∧j<2^250) fun i j=>.int (i / j)):=opI fun i j t u s Q E hc q=>by
 have hne:j≠0:=by lia
 refine floordiv_int hne ?_ (.inl (PyProof.noPylong_of_log2 ?_))
 ·rw [Int.fdiv_eq_ediv_of_nonneg _ (by lia)]
  exact q
 ·have h1:j.natAbs<2^9000:=Nat.lt_of_lt_of_le (m:=2^250) (by have:=hc.2; lia) (Nat.pow_le_pow_right (by decide) (by decide))
  exact (Nat.log2_lt (by lia)).mpr h1
@[simp] noncomputable def gDiv:=gI cDiv (· / ·)
theorem zbQ {X:Cx} {G₀ H₀:Hp} {pos:Pos} {a b:Expr} {fa fb:FE} (ha:DE X G₀ H₀ a fa) (hb:DE X G₀ H₀ b fb):DE X G₀ H₀ (.BinOp a .FloorDiv b pos) (f2 gDiv fa fb) :=
 zeH zi1 (zfx fun i j h=>by
  simp only [cDiv,Bool.and_eq_true,decide_eq_true_eq] at h
  exact h) ha hb
mutual
noncomputable def toPy:D→PyData
 | .non=>.none
 | .bl b=>.bool b
 | .int i=>.int i
 | .tup ds=>.tuple (xK ds)
 | .lst ds=>.list (xK ds)
 | .scr ns=>.list (ns.map .int)
 | .exc _ _=>.none
noncomputable def xK:List D→List PyData
 | []=>[]
 | d::ds=>toPy d::xK ds
end
noncomputable def eqD (x y:D):Bool:=PyData.eqv (toPy x) (toPy y)
noncomputable def eqDL (xs ys:List D):Bool:=PyData.eqvAll (xK xs) (xK ys)
noncomputable def shal:Nat→D→Bool
 | 0,.tup _=>false
 | 0,.lst _=>false
 | 0,_=>true
 | n+1,.tup ds=>ds.all (shal n)
 | n+1,.lst ds=>ds.all (shal n)
 | _+1,_=>true
theorem zfD:∀ ns:List Int,PyData.canLayAll0 (ns.map .int)=true
 | []=>by simp [PyData.canLayAll0]
 | n::ns=>by simp only [List.map_cons,PyData.canLayAll0,PyData.canLay0,zfD ns,Bool.and_self]
mutual
theorem zaH:∀ d:D,(toPy d).canLay0=true
 | .non=>by simp only [toPy,PyData.canLay0]
 | .bl _=>by simp only [toPy,PyData.canLay0]
 | .int _=>by simp only [toPy,PyData.canLay0]
 | .tup ds=>by simp only [toPy,PyData.canLay0,zaI ds]
 | .lst ds=>by simp only [toPy,PyData.canLay0,zaI ds]
 | .scr ns=>by simp only [toPy,PyData.canLay0,zfD ns]
 | .exc _ _=>by simp only [toPy,PyData.canLay0]
theorem zaI:∀ ds:List D,PyData.canLayAll0 (xK ds)=true
 | []=>by simp only [xK,PyData.canLayAll0]
 | d::ds=>by simp only [xK,PyData.canLayAll0,zaH d,zaI ds,Bool.and_self]
end
theorem zbP:∀ ns:List Int,PyData.depthAll (ns.map .int)=0
 | []=>by simp [PyData.depthAll]
 | n::ns=>by simp [PyData.depthAll,PyData.depth,zbP ns]
theorem zaZ {n:Nat}:∀ ds:List D,(∀ d∈ds,(toPy d).depth≤n)→PyData.depthAll (xK ds)≤n
 | [],_=>by simp [xK,PyData.depthAll]
 | d::ds,h=>by
   simp only [xK,PyData.depthAll]
   exact Nat.max_le.mpr ⟨h d (by simp),zaZ ds fun x hx=>h x (by simp [hx])⟩
theorem vA:∀ (n:Nat) (d:D),shal n d=true→(toPy d).depth≤n+1
 | n,.non,_=>by simp [toPy,PyData.depth]
 | n,.bl _,_=>by simp [toPy,PyData.depth]
 | n,.int _,_=>by simp [toPy,PyData.depth]
 | n,.scr ns,_=>by simp [toPy,PyData.depth,zbP ns]
 | n,.exc _ _,_=>by simp [toPy,PyData.depth]
 | 0,.tup ds,h=>by simp [shal] at h
 | 0,.lst ds,h=>by simp [shal] at h
 | n+1,.tup ds,h=>by
   simp only [toPy,PyData.depth]
   have:=zaZ (n:=n+1) ds fun d hd=>vA n d (List.all_eq_true.mp (by simpa [shal] using h) d hd)
   lia
 | n+1,.lst ds,h=>by
   simp only [toPy,PyData.depth]
   have:=zaZ (n:=n+1) ds fun d hd=>vA n d (List.all_eq_true.mp (by simpa [shal] using h) d hd)
   lia
section
variable {X:Cx} {pins:List (Addr×Obj)} {σ:St} {G H:Hp} {s:Shared}
theorem zbs {h:Heap}:∀ {ns:List Int} {us:List Value},Vals (ns.map V.int) us→∃ as,ReadsAll h us (ns.map .int) as
 | [],us,r=>by cases r; exact ⟨[],.nil⟩
 | n::ns,us,r=>by
   cases r with
   | cons r1 r2 =>
     obtain ⟨t,rfl⟩:=r1
     obtain ⟨as,q⟩:=zbs r2
     exact ⟨_,.cons (.int n t) q⟩
mutual
theorem zfq (I:Inv X pins σ H s) (l:Same G H):∀ {d:D} {v:V} {u:Value},Rep X.K G d v→RelV v u→∃ as,Reads s.heap u (toPy d) as
 | .non,v,u,h,r=>by cases (show v=.non from h); cases (show u=.none from r); exact ⟨[],by simp only [toPy]; exact .none⟩
 | .bl b,v,u,h,r=>by cases (show v=.bl b from h); cases (show u=.bool b from r); exact ⟨[],by simp only [toPy]; exact .bool b⟩
 | .int i,v,u,h,r=>by
   cases (show v=.int i from h)
   obtain ⟨t,rfl⟩:=(show ∃ t,u=.int i t from r)
   exact ⟨[],by simp only [toPy]; exact .int i t⟩
 | .tup ds,v,u,h,r=>by
   obtain ⟨a,vs,rfl,g,q⟩:=h
   cases (show u=.ref a from r)
   obtain ⟨_,its,rv,ob,e,c,n,dd⟩:=I.hok a _ (l _ _ g)
   obtain ⟨as,z⟩:=uj I l q rv
   exact ⟨as,by simp only [toPy]; exact .tuple e c dd (by simpa using z)⟩
 | .lst ds,v,u,h,r=>by
   obtain ⟨a,vs,rfl,g,q⟩:=h
   cases (show u=.ref a from r)
   obtain ⟨_,its,n,rv,e⟩:=I.hok a _ (l _ _ g)
   obtain ⟨as,z⟩:=uj I l q rv
   exact ⟨a::as,by simp only [toPy]; exact .list e rfl rfl (by simpa using z)⟩
 | .scr ns,v,u,h,r=>by
   obtain ⟨a,rfl,q⟩:=h
   cases (show u=.ref a from r)
   obtain ⟨its,rv,⟨o,n,e,c,_,dd⟩,_⟩:=I.list (l.seq q)
   obtain ⟨as,z⟩:=zbs (h:=s.heap) rv
   exact ⟨a::as,by simp only [toPy]; exact .list e c dd (by simpa using z)⟩
 | .exc _ _,_,_,h,_=>h.elim
theorem uj (I:Inv X pins σ H s) (l:Same G H):∀ {ds:List D} {vs:List V} {us:List Value},RepL X.K G ds vs→Vals vs us→∃ as,ReadsAll s.heap us (xK ds) as
 | [],vs,us,h,r=>by
   cases (show vs=[] from h)
   cases r
   exact ⟨[],by simp only [xK]; exact .nil⟩
 | d::ds,vs,us,h,r=>by
   obtain ⟨v,vr,rfl,h1,h2⟩:=h
   cases r with
   | cons r1 r2 =>
     obtain ⟨as,q1⟩:=zfq I l h1 r1
     obtain ⟨bs,q2⟩:=uj I l h2 r2
     exact ⟨as++bs,by simp only [xK]; exact .cons q1 q2⟩
end
end
noncomputable def RdV (K:PySem.W.Frag) (H:Hp) (v:V) (d:D):Prop:=(∃ G,Same G H∧Rep K G d v)∨∃ a vs G ds,d=.lst ds∧v=.ref a∧H a=some (.lst vs)∧Same G H∧RepL K G ds vs
theorem Opd.rdv {K:PySem.W.Frag} {G₀ H₀ G H:Hp} {env:Ev} {σ:St} {v:V} {d:D} (I:DI K G₀ H₀ env σ G H) (h:Opd K env σ G v d):RdV K H v d:=by
 rcases h with h | ⟨i,ds,a,e1,e2,e3,e4⟩
 ·exact .inl ⟨G,I.le,h⟩
 ·subst e1
  obtain ⟨a',vs,e,h1,h2⟩:=Opd.lst I (.inr ⟨i,ds,a,rfl,e2,e3,e4⟩)
  exact .inr ⟨a',vs,G,ds,rfl,e,h1,I.le,h2⟩
theorem xw {X:Cx} {pins:List (Addr×Obj)} {σ:St} {H:Hp} {s:Shared} {v:V} {u:Value} {d:D} (I:Inv X pins σ H s) (h:RdV X.K H v d) (r:RelV v u):∃ as,Reads s.heap u (toPy d) as:=by
 rcases h with ⟨G,l,h⟩ | ⟨a,vs,G,ds,rfl,rfl,g,l,q⟩
 ·exact zfq I l h r
 ·cases (show u=.ref a from r)
  obtain ⟨_,its,n,rv,e⟩:=I.hok a _ g
  obtain ⟨as,z⟩:=uj I l q rv
  exact ⟨a::as,by simp only [toPy]; exact .list e rfl rfl (by simpa using z)⟩
noncomputable def rEqD (K:PySem.W.Frag) (neg:Bool):R2:=fun x y H Q=>∃ d1 d2,RdV K H x d1∧RdV K H y d2∧(shal 4 d1 || shal 4 d2)=true∧Q (.bl (if neg then !eqD d1 d2 else eqD d1 d2)) H
theorem zg0 {u:Nat} {d1 d2:D} (hu:u+20<cLine) (hs:(shal 4 d1 || shal 4 d2)=true):u+min (toPy d1).depth (toPy d2).depth<cLine:=by
 rw [Bool.or_eq_true] at hs
 rcases hs with h | h
 ·have:=vA 4 d1 h
  have:=Nat.min_le_left (toPy d1).depth (toPy d2).depth
  lia
 ·have:=vA 4 d2 h
  have:=Nat.min_le_right (toPy d1).depth (toPy d2).depth
  lia
theorem zj5 {X:Cx} (hu:X.A.units+20<cLine):OpR X (compareOp .Eq) (rEqD X.K false):=by
 intro pins s σ H x y v u Q I rx ry h
 obtain ⟨d1,d2,h1,h2,hs,q⟩:=h
 obtain ⟨as,ra⟩:=xw I h1 rx
 obtain ⟨bs,rb⟩:=xw I h2 ry
 exact SeqAt.compareEq_reads ra rb (zaH d1) (zaH d2) (zg0 hu hs) ⟨.bl _,H,I,rfl,q⟩
theorem zmy {X:Cx} (hu:X.A.units+20<cLine):OpR X (compareOp .NotEq) (rEqD X.K true):=by
 intro pins s σ H x y v u Q I rx ry h
 obtain ⟨d1,d2,h1,h2,hs,q⟩:=h
 obtain ⟨as,ra⟩:=xw I h1 rx
 obtain ⟨bs,rb⟩:=xw I h2 ry
 exact SeqAt.compareNe_reads ra rb (zaH d1) (zaH d2) (zg0 hu hs) ⟨.bl _,H,I,rfl,q⟩
@[simp] noncomputable def gEq:D→D→Out Val:=fun x y=>if (shal 4 x || shal 4 y)=true then .ok (.pers (.bl (eqD x y))) else .bad
@[simp] noncomputable def gNe:D→D→Out Val:=fun x y=>if (shal 4 x || shal 4 y)=true then .ok (.pers (.bl (!eqD x y))) else .bad
theorem zmI {K:PySem.W.Frag}:OpD K (rEqD K false) gEq:=by
 intro G₀ H₀ env σ G H v u d1 d2 val Q I o1 o2 e k
 unfold gEq at e
 split at e
 ·rename_i hs
  cases e
  exact ⟨d1,d2,o1.rdv I,o2.rdv I,hs,k _ G H (Grow.refl _ _) I.le rfl⟩
 ·cases e
theorem od_ne {K:PySem.W.Frag}:OpD K (rEqD K true) gNe:=by
 intro G₀ H₀ env σ G H v u d1 d2 val Q I o1 o2 e k
 unfold gNe at e
 split at e
 ·rename_i hs
  cases e
  exact ⟨d1,d2,o1.rdv I,o2.rdv I,hs,k _ G H (Grow.refl _ _) I.le rfl⟩
 ·cases e
noncomputable def rInD (K:PySem.W.Frag) (neg:Bool):R2:=fun x y H Q=>∃ d ds,RdV K H x d∧RdV K H y (.lst ds)∧shal 4 d=true∧Q (.bl (if neg then !ds.any (fun z=>eqD z d) else ds.any (fun z=>eqD z d))) H
theorem za6 (d:D):∀ ds:List D,(xK ds).any (fun y=>PyData.eqv y (toPy d))=ds.any (fun z=>eqD z d)
 | []=>by simp [xK]
 | x::ds=>by simp only [xK,List.any_cons,za6 d ds]; rfl
theorem op_inD {X:Cx} (hu:X.A.units+20<cLine):OpR X (compareOp .In) (rInD X.K false):=by
 intro pins s σ H x y v u Q I rx ry h
 obtain ⟨d,ds,h1,h2,hs,q⟩:=h
 obtain ⟨as,ra⟩:=xw I h1 rx
 obtain ⟨bs,rb⟩:=xw I h2 ry
 simp only [toPy] at rb
 refine SeqAt.in_list_reads rb ra (zaI ds) (zaH d) ?_ ⟨.bl _,H,I,rfl,?_⟩
 ·have:=vA 4 d hs
  have:=Nat.min_le_right (PyData.depthAll (xK ds)) (toPy d).depth
  lia
 ·rw [za6]; exact q
theorem zk1 {X:Cx} (hu:X.A.units+20<cLine):OpR X (compareOp .NotIn) (rInD X.K true):=by
 intro pins s σ H x y v u Q I rx ry h
 obtain ⟨d,ds,h1,h2,hs,q⟩:=h
 obtain ⟨as,ra⟩:=xw I h1 rx
 obtain ⟨bs,rb⟩:=xw I h2 ry
 simp only [toPy] at rb
 refine SeqAt.notIn_list_reads rb ra (zaI ds) (zaH d) ?_ ⟨.bl _,H,I,rfl,?_⟩
 ·have:=vA 4 d hs
  have:=Nat.min_le_right (PyData.depthAll (xK ds)) (toPy d).depth
  lia
 ·rw [za6]; exact q
@[simp] noncomputable def gIn:D→D→Out Val
  | x,.lst ds=>if shal 4 x=true then .ok (.pers (.bl (ds.any fun z=>eqD z x))) else .bad
  | _,_=>.bad
@[simp] noncomputable def gNin:D→D→Out Val
  | x,.lst ds=>if shal 4 x=true then .ok (.pers (.bl (!ds.any fun z=>eqD z x))) else .bad
  | _,_=>.bad
theorem zmH {K:PySem.W.Frag}:OpD K (rInD K true) gNin:=by
 intro G₀ H₀ env σ G H v u d1 d2 val Q I o1 o2 e k
 unfold gNin at e
 split at e
 ·split at e
  ·rename_i hs
   cases e
   exact ⟨_,_,o1.rdv I,o2.rdv I,hs,k _ G H (Grow.refl _ _) I.le rfl⟩
  ·cases e
 ·cases e
@[simp] noncomputable def gIsN:D→D→Out Val
  | .non,.non=>.ok (.pers (.bl true))
  | .int _,.non=>.ok (.pers (.bl false))
  | .bl _,.non=>.ok (.pers (.bl false))
  | .tup _,.non=>.ok (.pers (.bl false))
  | .lst _,.non=>.ok (.pers (.bl false))
  | _,_=>.bad
@[simp] noncomputable def xP:D→D→Out Val
  | .non,.non=>.ok (.pers (.bl false))
  | .int _,.non=>.ok (.pers (.bl true))
  | .bl _,.non=>.ok (.pers (.bl true))
  | .tup _,.non=>.ok (.pers (.bl true))
  | .lst _,.non=>.ok (.pers (.bl true))
  | _,_=>.bad
theorem zj6 {K:PySem.W.Frag}:OpD K (fun x y H Q=>y=.non∧Q (.bl (decide (x=.non))) H) gIsN:=by
 intro G₀ H₀ env σ G H v u d1 d2 val Q I o1 o2 e k
 unfold gIsN at e
 split at e
 ·cases e; refine ⟨o2.non,?_⟩; rw [o1.non]; exact k _ G H (Grow.refl _ _) I.le rfl
 ·cases e; refine ⟨o2.non,?_⟩; rw [o1.int]; exact k _ G H (Grow.refl _ _) I.le rfl
 ·cases e; refine ⟨o2.non,?_⟩; rw [o1.bl]; exact k _ G H (Grow.refl _ _) I.le rfl
 ·cases e; refine ⟨o2.non,?_⟩; obtain ⟨a,_,rfl,_⟩:=Opd.tup I o1; exact k _ G H (Grow.refl _ _) I.le rfl
 ·cases e; refine ⟨o2.non,?_⟩; obtain ⟨a,_,rfl,_⟩:=Opd.lst I o1; exact k _ G H (Grow.refl _ _) I.le rfl
 ·cases e
theorem zhj {K:PySem.W.Frag}:OpD K (fun x y H Q=>y=.non∧Q (.bl (!decide (x=.non))) H) xP:=by
 intro G₀ H₀ env σ G H v u d1 d2 val Q I o1 o2 e k
 unfold xP at e
 split at e
 ·cases e; refine ⟨o2.non,?_⟩; rw [o1.non]; exact k _ G H (Grow.refl _ _) I.le rfl
 ·cases e; refine ⟨o2.non,?_⟩; rw [o1.int]; exact k _ G H (Grow.refl _ _) I.le rfl
 ·cases e; refine ⟨o2.non,?_⟩; rw [o1.bl]; exact k _ G H (Grow.refl _ _) I.le rfl
 ·cases e; refine ⟨o2.non,?_⟩; obtain ⟨a,_,rfl,_⟩:=Opd.tup I o1; exact k _ G H (Grow.refl _ _) I.le rfl
 ·cases e; refine ⟨o2.non,?_⟩; obtain ⟨a,_,rfl,_⟩:=Opd.lst I o1; exact k _ G H (Grow.refl _ _) I.le rfl
 ·cases e
section
variable {X:Cx} {G₀ H₀:Hp} {pos:Pos} {a b:Expr} {fa fb:FE}
theorem zh9 (hu:X.A.units+20<cLine) (ha:DE X G₀ H₀ a fa) (hb:DE X G₀ H₀ b fb):DE X G₀ H₀ (.Compare a [.Eq] [b] pos) (f2 gEq fa fb):=zdI (zj5 hu) zmI ha hb (wo _)
theorem znc (ha:DE X G₀ H₀ a fa) (hb:DE X G₀ H₀ b fb):DE X G₀ H₀ (.Compare a [.Is] [b] pos) (f2 gIsN fa fb):=zdI zj4 zj6 ha hb (wo _)
theorem zh7 (ha:DE X G₀ H₀ a fa) (hb:DE X G₀ H₀ b fb):DE X G₀ H₀ (.Compare a [.IsNot] [b] pos) (f2 xP fa fb):=zdI zhf zhj ha hb (wo _)
end
@[simp] noncomputable def gAdd:D→D→Out Val
  | .int i,.int j=>.ok (.pers (.int (i+j)))
  | .lst xs,.lst ys=>if xs.length+ys.length≤100000 then .ok (.fresh (xs++ys)) else .bad
  | _,_=>.bad
theorem zaG {n:Nat} (h:n≤100000):n≤sizeLine:=by rw [sizeLine_eq]; lia
theorem zmJ {K:PySem.W.Frag}:OpD K (fun x y H Q=>rI0 (fun i j=>.int (i+j)) x y H Q∨rCat x y H Q) gAdd:=by
 intro G₀ H₀ env σ G H v u d1 d2 val Q I o1 o2 e k
 unfold gAdd at e
 split at e
 ·rename_i i j
  cases e
  exact .inl ⟨i,j,o1.int,o2.int,k _ G H (Grow.refl _ _) I.le rfl⟩
 ·rename_i xs ys
  split at e
  ·rename_i hz
   cases e
   obtain ⟨a,vs,e1,h1,r1⟩:=Opd.lst I o1
   obtain ⟨b,us,e2,h2,r2⟩:=Opd.lst I o2
   refine .inr ⟨a,b,vs,us,e1,e2,h1,h2,zaG (by rw [←r1.length,←r2.length]; exact hz),fun p hp => ?_⟩
   have g:=Grow.laidL (o:=.lst (vs++us)) I.le hp
   exact k _ G _ g.1 g.2 (x5 I.le hp (r1.append r2))
  ·cases e
 ·cases e
theorem yb {X:Cx} {G₀ H₀:Hp} {pos:Pos} {a b:Expr} {fa fb:FE} (ha:DE X G₀ H₀ a fa) (hb:DE X G₀ H₀ b fb):DE X G₀ H₀ (.BinOp a .Add b pos) (f2 gAdd fa fb):=zeH (zmE.or zmD) zmJ ha hb
@[simp] noncomputable def gIx:D→D→Out Val
  | .tup ds,.int i=>match atI ds i with | some d=>.ok (.pers d) | none=>.bad
  | .lst ds,.int i=>match atI ds i with | some d=>.ok (.pers d) | none=>.bad
  | .scr ns,.int i=>match atI ns i with | some n=>.ok (.pers (.int n)) | none=>.bad
  | _,_=>.bad
theorem zio {K:PySem.W.Frag} {G:Hp} {ds:List D} {vs:List V} {i:Int} {d:D} (r:RepL K G ds vs) (h:atI ds i=some d):∃ v,atI vs i=some v∧Rep K G d v:=by
 unfold atI at h ⊢
 rw [←r.length]
 cases q:ixN ds.length i with
 | none=>rw [q] at h; cases h
 | some j =>
   rw [q] at h
   obtain ⟨v,h1,h2⟩:=r.get (i:=j) (d:=d) h
   exact ⟨v,h1,h2⟩
theorem zlL {α β:Type} (f:α→β) (xs:List α) (i:Int):atI (xs.map f) i=(atI xs i).map f:=by
 unfold atI
 rw [List.length_map]
 cases ixN xs.length i with
 | none=>rfl
 | some j=>simp
theorem od_ix {K:PySem.W.Frag}:OpD K (fun x y H Q=>rIxL K x y H Q∨rIxT K x y H Q∨rIxS x y H Q) gIx:=by
 intro G₀ H₀ env σ G H v u d1 d2 val Q I o1 o2 e k
 unfold gIx at e
 split at e
 ·rename_i ds i
  split at e
  ·rename_i d hd
   cases e
   obtain ⟨a,vs,e1,h1,r1⟩:=Opd.tup I o1
   obtain ⟨w,hw,rw'⟩:=zio r1 hd
   exact .inr (.inl ⟨a,vs,i,w,e1,o2.int,SqT.of h1,hw,k w G H (Grow.refl _ _) I.le rw'⟩)
  ·cases e
 ·rename_i ds i
  split at e
  ·rename_i d hd
   cases e
   obtain ⟨a,vs,e1,h1,r1⟩:=Opd.lst I o1
   obtain ⟨w,hw,rw'⟩:=zio r1 hd
   exact .inl ⟨a,vs,i,w,e1,o2.int,SqL.of h1,hw,k w G H (Grow.refl _ _) I.le rw'⟩
  ·cases e
 ·rename_i ns i
  split at e
  ·rename_i n hn
   cases e
   obtain ⟨a,e1,h1⟩:=Opd.scr I o1
   exact .inl ⟨a,ns.map V.int,i,.int n,e1,o2.int,h1,by rw [zlL,hn]; rfl,k (.int n) G H (Grow.refl _ _) I.le rfl⟩
  ·cases e
 ·cases e
theorem zv {X:Cx} {G₀ H₀:Hp} {pos:Pos} {a b:Expr} {fa fb:FE} (ha:DE X G₀ H₀ a fa) (hb:DE X G₀ H₀ b fb) (hs:zeV b:=by intro _ _; rfl):DE X G₀ H₀ (.Subscript a b pos) (f2 gIx fa fb):=de_ix zmZ od_ix ha hb hs
noncomputable def cutD (xs:List D) (lo hi:Option Int):List D:=(xs.drop (HT.sIx xs.length 0 lo)).take (HT.sIx xs.length xs.length hi - HT.sIx xs.length 0 lo)
theorem zeI {K:PySem.W.Frag} {G:Hp} {ds:List D} {vs:List V} (lo hi:Option Int) (r:RepL K G ds vs):RepL K G (cutD ds lo hi) (cutV vs lo hi):=by
 unfold cutD cutV
 rw [r.length]
 exact (r.drop _).take _
noncomputable abbrev FO:=Ev→Out (Option Int)
@[simp] noncomputable def fNo:FO:=fun _=>.ok none
@[simp] noncomputable def fSo (f:FE):FO:=fun env=>(f env).bind fun v=>match v.d with
  | .int i=>.ok (some i)
  | _=>.bad
noncomputable def tO (K:PySem.W.Frag) (G₀ H₀:Hp) (f:FO):TO:=fun σ H Q=>∃ env G o,DI K G₀ H₀ env σ G H∧f env=.ok o∧∀ G' H',Grow G H G' H'→Same G' H'→Q o H'
noncomputable def DO (X:Cx) (G₀ H₀:Hp) (e:Option Expr) (f:FO):Prop:=PO X e (tO X.K G₀ H₀ f)
section
variable {X:Cx} {G₀ H₀:Hp} {pos p2:Pos} {a e:Expr} {lo hi:Option Expr} {fa f:FE} {fl fh:FO}
theorem vd:DO X G₀ H₀ none fNo:=fun pins s σ H Q I q=>zkP pins s σ H Q I (by
 obtain ⟨env,G,o,J,h,k⟩:=q
 cases h
 exact k G H (Grow.refl _ _) J.le)
theorem yM (h:DE X G₀ H₀ e f):DO X G₀ H₀ (some e) (fSo f):=fun pins s σ H Q I q=>zkO h pins s σ H Q I (by
 obtain ⟨env,G,o,J,h,k⟩:=q
 obtain ⟨x,e1,h⟩:=zq h
 refine xL J e1 fun v G' H' g l J' ov => ?_
 split at h
 ·rename_i i hi
  cases h
  rw [hi] at ov
  exact ⟨i,ov.int,k G' H' g l⟩
 ·cases h)
@[simp] noncomputable def gSl:D→Option Int→Option Int→Out Val
  | .lst ds,lo,hi=>.ok (.fresh (cutD ds lo hi))
  | .tup ds,lo,hi=>if HT.sIx ds.length 0 lo=0∧HT.sIx ds.length ds.length hi=ds.length then .bad else .ok (.pers (.tup (cutD ds lo hi)))
  | _,_,_=>.bad
@[simp] noncomputable def fSl (fa:FE) (fl fh:FO):FE:=fun env=>(fa env).bind fun x=>(fl env).bind fun l=>(fh env).bind fun h=>gSl x.d l h
theorem zbh (ha:DE X G₀ H₀ a fa) (hl:DO X G₀ H₀ lo fl) (hh:DO X G₀ H₀ hi fh):DE X G₀ H₀ (.Subscript a (.Slice lo hi none p2) pos) (fSl fa fl fh) :=
 (zfu (zgL.or zl6) ha hl hh).imp fun σ H Q q=>by
  obtain ⟨env,G,val,I,e,k⟩:=q
  obtain ⟨x,e1,e⟩:=zq e
  obtain ⟨l,e2,e⟩:=zq e
  obtain ⟨h,e3,e⟩:=zq e
  refine xL I e1 fun v G1 H1 g1 l1 I1 o1=>⟨env,G1,l,I1,e2,fun G2 H2 g2 l2=>⟨env,G2,h,I1.grow g2 l2,e3,fun G3 H3 g3 l3 => ?_⟩⟩
  have I3:=(I1.grow g2 l2).grow g3 l3
  have o3:=(o1.mono g2.g).mono g3.g
  have g03:=(g1.trans g2).trans g3
  generalize x.d=dx at e o3
  cases dx with
  | lst ds =>
    cases e
    obtain ⟨a',vs,ev,h1,r1⟩:=Opd.lst I3 o3
    refine .inl ⟨a',vs,ev,SqL.of h1,fun p hp => ?_⟩
    have g:=Grow.laidL (o:=.lst (cutV vs l h)) l3 hp
    exact k _ G3 _ (g03.trans g.1) g.2 ((x5 l3 hp (zeI l h r1)).base g03.h)
  | tup ds =>
    have e':(if HT.sIx ds.length 0 l=0∧HT.sIx ds.length ds.length h=ds.length then Out.bad else Out.ok (.pers (.tup (cutD ds l h))))=Out.ok val:=e
    split at e'
    ·cases e'
    ·rename_i hw
     cases e'
     obtain ⟨a',vs,ev,h1,r1⟩:=Opd.tup I3 o3
     refine .inr ⟨a',vs,ev,SqT.of h1,by rw [←r1.length]; exact hw,fun p hp => ?_⟩
     have g:=Grow.laidT (o:=.tup (cutV vs l h)) l3 hp
     exact k _ _ _ (g03.trans g.1) g.2 ((zgy l3 hp (zeI l h r1)).base g03.h)
  | non=>cases e
  | bl b=>cases e
  | int i=>cases e
  | scr ns=>cases e
  | exc c p=>cases e
end
@[simp] noncomputable def fNil:Ev→Out (List Val):=fun _=>.ok []
@[simp] noncomputable def frz:Val→Val
  | .fresh ds=>.pers (.lst ds)
  | v=>v
@[simp] noncomputable def zm (f:FE) (r:Ev→Out (List Val)):Ev→Out (List Val):=fun env=>(f env).bind fun x=>(r env).bind fun xs=>.ok (frz x::xs)
@[simp] noncomputable def hNil:Ev→Out (List D):=fun _=>.ok []
@[simp] noncomputable def zz (f:FE) (r:Ev→Out (List D)):Ev→Out (List D):=fun env=>(f env).bind fun x=>x.hold.bind fun d=>(r env).bind fun xs=>.ok (d::xs)
section
variable {K:PySem.W.Frag} {env:Ev} {σ:St} {G G':Hp}
theorem zeZ.mono {v:V} {x:Val} (h:zeZ K env σ G v x) (s:Same G G'):zeZ K env σ G' v x:=by
 cases x with
 | pers d=>exact Rep.mono s h
 | fresh ds=>exact h
 | brw i ds=>exact h
theorem zjM {val:Val} {v:V} {H H':Hp} (g:Grow G H G' H') (l:Same G' H') (h:vT K H env σ G' H' v val):∃ G'',Grow G H G'' H'∧Same G'' H'∧zeZ K env σ G'' v (frz val):=by
 cases val with
 | pers d=>exact ⟨G',g,l,h⟩
 | brw i ds=>exact ⟨G',g,l,h⟩
 | fresh ds=>exact held g l h rfl
theorem zeZ.opd {v:V} {x:Val} (h:zeZ K env σ G v x):Opd K env σ G v x.d:=by
 cases x with
 | pers d=>exact .inl h
 | fresh ds=>exact h.elim
 | brw i ds=>obtain ⟨a,e1,e2,e3⟩:=h; exact .inr ⟨i,ds,a,rfl,e1,e2,e3⟩
end
section
variable {X:Cx} {G₀ H₀:Hp} {pos:Pos} {e:Expr} {es:List Expr} {f:FE} {r:Ev→Out (List Val)} {rh:Ev→Out (List D)}
theorem zD:DA X G₀ H₀ [] fNil:=wY.imp fun σ H Q q=>by
 obtain ⟨env,G,vals,I,h,k⟩:=q
 cases h
 exact k [] G H (Grow.refl _ _) I.le rfl
theorem zn (he:DE X G₀ H₀ e f) (hr:DA X G₀ H₀ es r) (hs:starEach (e::es) X.env=(false,eval e X.env)::starEach es X.env:=by rfl):DA X G₀ H₀ (e::es) (zm f r) :=
 (yX he hr hs).imp fun σ H Q q=>by
  obtain ⟨env,G,vals,I,h,k⟩:=q
  obtain ⟨x,e1,h⟩:=zq h
  obtain ⟨xs,e2,h⟩:=zq h
  cases h
  refine ⟨env,G,x,I,e1,fun v G1 H1 g1 l1 o1 => ?_⟩
  obtain ⟨G2,g2,l2,a2⟩:=zjM g1 l1 o1
  exact ⟨env,G2,xs,I.grow g2 l2,e2,fun vs G3 H3 g3 l3 a3=>k (v::vs) G3 H3 (g2.trans g3) l3 ⟨_,_,rfl,a2.mono g3.g,a3⟩⟩
theorem zG:DH X G₀ H₀ [] hNil:=wY.imp fun σ H Q q=>by
 obtain ⟨env,G,vals,I,h,k⟩:=q
 cases h
 exact k [] G H (Grow.refl _ _) I.le rfl
theorem zw (he:DE X G₀ H₀ e f) (hr:DH X G₀ H₀ es rh) (hs:starEach (e::es) X.env=(false,eval e X.env)::starEach es X.env:=by rfl):DH X G₀ H₀ (e::es) (zz f rh) :=
 (yX he hr hs).imp fun σ H Q q=>by
  obtain ⟨env,G,vals,I,h,k⟩:=q
  obtain ⟨x,e1,h⟩:=zq h
  obtain ⟨d,ed,h⟩:=zq h
  obtain ⟨xs,e2,h⟩:=zq h
  cases h
  refine ⟨env,G,x,I,e1,fun v G1 H1 g1 l1 o1 => ?_⟩
  obtain ⟨G2,g2,l2,a2⟩:=held g1 l1 o1 ed
  exact ⟨env,G2,xs,I.grow g2 l2,e2,fun vs G3 H3 g3 l3 a3=>k (v::vs) G3 H3 (g2.trans g3) l3 (RepL.cons (a2.mono g3.g) a3)⟩
@[simp] noncomputable def fTup (r:Ev→Out (List D)):FE:=fun env=>(r env).bind fun ds=>if ds.length≤1000 then .ok (.pers (.tup ds)) else .bad
@[simp] noncomputable def fLst (r:Ev→Out (List D)):FE:=fun env=>(r env).bind fun ds=>if ds.length≤1000 then .ok (.fresh ds) else .bad
theorem zX {x1} (h:DH X G₀ H₀ es rh):DE X G₀ H₀ (.Tuple es x1 pos) (fTup rh):=(zmp h).imp fun σ H Q q=>by
 obtain ⟨env,G,val,I,e,k⟩:=q
 obtain ⟨ds,e1,e⟩:=zq e
 split at e
 ·rename_i hz
  cases e
  refine ⟨env,G,ds,I,e1,fun vs G1 H1 g1 l1 r1=>⟨zaG (by rw [←r1.length]; lia),fun p hp => ?_⟩⟩
  have g:=Grow.laidT (o:=.tup vs) l1 hp
  exact k _ _ _ (g1.trans g.1) g.2 ((zgy l1 hp r1).base g1.h)
 ·cases e
theorem ym (h:DH X G₀ H₀ es rh):DE X G₀ H₀ (.List es pos) (fLst rh):=(zmt h).imp fun σ H Q q=>by
 obtain ⟨env,G,val,I,e,k⟩:=q
 obtain ⟨ds,e1,e⟩:=zq e
 split at e
 ·rename_i hz
  cases e
  refine ⟨env,G,ds,I,e1,fun vs G1 H1 g1 l1 r1=>⟨zaG (by rw [←r1.length]; lia),fun p hp => ?_⟩⟩
  have g:=Grow.laidL (o:=.lst vs) l1 hp
  exact k _ _ _ (g1.trans g.1) g.2 ((x5 l1 hp r1).base g1.h)
 ·cases e
end
noncomputable def zcP (K:PySem.W.Frag) (r:List V→Hp→VK→Prop) (g:List D→Out Val):Prop :=
 ∀ (G₀ H₀:Hp) (env:Ev) (σ:St) (G H:Hp) (vs:List V) (xs:List Val) (val:Val) (Q:VK),DI K G₀ H₀ env σ G H→zbc K env σ G vs xs→g (xs.map Val.d)=.ok val →
   (∀ w G' H',Grow G H G' H'→Same G' H'→vT K H env σ G' H' w val→Q w H')→r vs H Q
@[simp] noncomputable def fB (g:List D→Out Val) (r:Ev→Out (List Val)):FE:=fun env=>(r env).bind fun xs=>g (xs.map Val.d)
section
variable {X:Cx} {G₀ H₀:Hp} {x:Str} {p pos:Pos} {e:Expr} {es:List Expr} {f:Ev→Out (List Val)} {id T:String} {r:List V→Hp→VK→Prop} {g:List D→Out Val}
theorem impB (hd:zcP X.K r g) (σ:St) (H:Hp) (Q:VK) (q:tE X.K G₀ H₀ (fB g f) σ H Q):tCB r (tA X.K G₀ H₀ f) σ H Q:=by
 obtain ⟨env,G,val,I,e,k⟩:=q
 obtain ⟨xs,e1,e⟩:=zq e
 exact ⟨env,G,xs,I,e1,fun vs G1 H1 g1 l1 a1=>hd G₀ H₀ env σ G1 H1 vs xs val Q (I.grow g1 l1) a1 e fun w G2 H2 g2 l2 h2=>k w G2 H2 (g1.trans g2) l2 (h2.base g1.h)⟩
theorem zS (hc:tJ X (.builtin id) r) (hd:zcP X.K r g) (hm:X.mg x=none) (hv:bootBuiltins x=some (.builtin id)) (ha:DA X G₀ H₀ (e::es) f) (hg:Gl X x:=by rfl) (hn:x ≠ "__name__" := by decide) (hdb:(x == ("__debug__" : Str))=false:=by decide)
 (he:starEach (e::es) X.env=(false,eval e X.env)::starEach es X.env:=by rfl) (hpl:(backTo pos (starEach es X.env)).any (·.1)=false:=by rfl):DE X G₀ H₀ (.Call (.Name x p) (e::es) [] pos) (fB g f) :=
 (zcb hc hg hm hv ha hn hdb he hpl).imp (impB hd)
theorem zcw (hc:tJ X (.type T) r) (hd:zcP X.K r g) (hm:X.mg x=none) (hv:bootBuiltins x=some (.type T)) (ha:DA X G₀ H₀ (e::es) f) (hg:Gl X x:=by rfl) (hn:x ≠ "__name__" := by decide) (hdb:(x == ("__debug__" : Str))=false:=by decide)
 (he:starEach (e::es) X.env=(false,eval e X.env)::starEach es X.env:=by rfl) (hpl:(backTo pos (starEach es X.env)).any (·.1)=false:=by rfl):DE X G₀ H₀ (.Call (.Name x p) (e::es) [] pos) (fB g f) :=
 (zda hc hg hm hv ha hn hdb he hpl).imp (impB hd)
end
theorem zbi {K:PySem.W.Frag} {env:Ev} {σ:St} {G:Hp} {vs:List V} {xs:List Val} {d:D} (h:zbc K env σ G vs xs) (e:xs.map Val.d=[d]):∃ v,vs=[v]∧Opd K env σ G v d:=by
 cases vs with
 | nil=>cases (show xs=[] from h); cases e
 | cons v vs =>
   obtain ⟨x,r,rfl,h1,h2⟩:=h
   simp only [List.map_cons,List.cons.injEq,List.map_eq_nil_iff] at e
   obtain ⟨rfl,rfl⟩:=e
   cases vs with
   | nil=>exact ⟨v,rfl,h1.opd⟩
   | cons v' vs=>obtain ⟨_,_,e,_⟩:=h2; cases e
theorem zlN {K:PySem.W.Frag} {env:Ev} {σ:St} {G:Hp} {vs:List V} {xs:List Val} {d d':D} (h:zbc K env σ G vs xs) (e:xs.map Val.d=[d,d']):∃ v v',vs=[v,v']∧Opd K env σ G v d∧Opd K env σ G v' d':=by
 cases vs with
 | nil=>cases (show xs=[] from h); cases e
 | cons v vs =>
   obtain ⟨x,r,rfl,h1,h2⟩:=h
   simp only [List.map_cons,List.cons.injEq] at e
   obtain ⟨rfl,e⟩:=e
   obtain ⟨v',rfl,o⟩:=zbi h2 e
   exact ⟨v,v',rfl,h1.opd,o⟩
@[simp] noncomputable def gLen:List D→Out Val
  | [.lst ds]=>.ok (.pers (.int ds.length))
  | [.tup ds]=>.ok (.pers (.int ds.length))
  | [.scr ns]=>.ok (.pers (.int ns.length))
  | _=>.bad
theorem xy {K:PySem.W.Frag}:zcP K (fun xs H Q=>∃ p ys,xs=[.ref p]∧(SqL K H p ys∨SqT K H p ys)∧Q (.int ys.length) H) gLen:=by
 intro G₀ H₀ env σ G H vs xs val Q I a e k
 unfold gLen at e
 split at e
 ·rename_i ds hx
  cases e
  obtain ⟨v,rfl,o⟩:=zbi a hx
  obtain ⟨p,us,rfl,h1,r1⟩:=Opd.lst I o
  refine ⟨p,us,rfl,.inl (SqL.of h1),?_⟩
  rw [←r1.length]
  exact k _ G H (Grow.refl _ _) I.le rfl
 ·rename_i ds hx
  cases e
  obtain ⟨v,rfl,o⟩:=zbi a hx
  obtain ⟨p,us,rfl,h1,r1⟩:=Opd.tup I o
  refine ⟨p,us,rfl,.inr (SqT.of h1),?_⟩
  rw [←r1.length]
  exact k _ G H (Grow.refl _ _) I.le rfl
 ·rename_i ns hx
  cases e
  obtain ⟨v,rfl,o⟩:=zbi a hx
  obtain ⟨p,rfl,h1⟩:=Opd.scr I o
  refine ⟨p,_,rfl,.inl h1,?_⟩
  rw [List.length_map]
  exact k _ G H (Grow.refl _ _) I.le rfl
 ·cases e
@[simp] noncomputable def uu:List D→Out Val
  | [.int i,.int j]=>.ok (.pers (.int (if j<i then j else i)))
  | _=>.bad
@[simp] noncomputable def zez:List D→Out Val
  | [.int i,.int j]=>.ok (.pers (.int (if j>i then j else i)))
  | _=>.bad
theorem zcA {K:PySem.W.Frag}:zcP K (fun xs H Q=>∃ i j,xs=[.int i,.int j]∧Q (.int (if j<i then j else i)) H) uu:=by
 intro G₀ H₀ env σ G H vs xs val Q I a e k
 unfold uu at e
 split at e
 ·rename_i i j hx
  cases e
  obtain ⟨v,v',rfl,o,o'⟩:=zlN a hx
  exact ⟨i,j,by rw [o.int,o'.int],k _ G H (Grow.refl _ _) I.le rfl⟩
 ·cases e
theorem zif {K:PySem.W.Frag}:zcP K (fun xs H Q=>∃ i j,xs=[.int i,.int j]∧Q (.int (if j>i then j else i)) H) zez:=by
 intro G₀ H₀ env σ G H vs xs val Q I a e k
 unfold zez at e
 split at e
 ·rename_i i j hx
  cases e
  obtain ⟨v,v',rfl,o,o'⟩:=zlN a hx
  exact ⟨i,j,by rw [o.int,o'.int],k _ G H (Grow.refl _ _) I.le rfl⟩
 ·cases e
@[simp] noncomputable def gInt:List D→Out Val
  | [.int i]=>.ok (.pers (.int i))
  | [.bl b]=>.ok (.pers (.int (if b then 1 else 0)))
  | _=>.bad
theorem zkl {K:PySem.W.Frag}:zcP K (fun xs H Q=>(∃ i,xs=[.int i]∧Q (.int i) H)∨∃ k,xs=[.bl k]∧Q (.int (if k then 1 else 0)) H) gInt:=by
 intro G₀ H₀ env σ G H vs xs val Q I a e k
 unfold gInt at e
 split at e
 ·rename_i i hx
  cases e
  obtain ⟨v,rfl,o⟩:=zbi a hx
  exact .inl ⟨i,by rw [o.int],k _ G H (Grow.refl _ _) I.le rfl⟩
 ·rename_i b hx
  cases e
  obtain ⟨v,rfl,o⟩:=zbi a hx
  exact .inr ⟨b,by rw [o.bl],k _ G H (Grow.refl _ _) I.le rfl⟩
 ·cases e
@[simp] noncomputable def zlt:List D→Out Val
  | [.lst ds]=>.ok (.fresh ds)
  | [.tup ds]=>.ok (.fresh ds)
  | _=>.bad
theorem zlD {K:PySem.W.Frag}:zcP K (fun xs H Q=>∃ p ys,xs=[.ref p]∧(SqL K H p ys∨SqT K H p ys)∧∀ l,H l=none→Q (.ref l) (upd H l (.lst ys))) zlt:=by
 intro G₀ H₀ env σ G H vs xs val Q I a e k
 unfold zlt at e
 split at e
 ·rename_i ds hx
  cases e
  obtain ⟨v,rfl,o⟩:=zbi a hx
  obtain ⟨p,us,rfl,h1,r1⟩:=Opd.lst I o
  refine ⟨p,us,rfl,.inl (SqL.of h1),fun l hl => ?_⟩
  have g:=Grow.laidL (o:=.lst us) I.le hl
  exact k _ G _ g.1 g.2 (x5 I.le hl r1)
 ·rename_i ds hx
  cases e
  obtain ⟨v,rfl,o⟩:=zbi a hx
  obtain ⟨p,us,rfl,h1,r1⟩:=Opd.tup I o
  refine ⟨p,us,rfl,.inr (SqT.of h1),fun l hl => ?_⟩
  have g:=Grow.laidL (o:=.lst us) I.le hl
  exact k _ G _ g.1 g.2 (x5 I.le hl r1)
 ·cases e
end DL
namespace DL
open PySem PySem.Spec PyProof.Rows L2
@[simp] noncomputable def trD:D→Out Bool
  | .non=>.ok false
  | .bl b=>.ok b
  | .int i=>.ok (i != 0)
  | .lst ds=>.ok (!ds.isEmpty)
  | .tup ds=>.ok (!ds.isEmpty)
  | _=>.bad
@[simp] noncomputable def fTr (f:FE):FT:=fun env=>(f env).bind fun x=>trD x.d
@[simp] noncomputable def fTrB (f:FE):FT:=fun env=>(f env).bind fun x=>match x.d with
  | .bl b=>.ok b
  | _=>.bad
@[simp] noncomputable def fAnd (f g:FT):FT:=fun env=>(f env).bind fun c=>if c=true then g env else .ok false
@[simp] noncomputable def fOr (f g:FT):FT:=fun env=>(f env).bind fun c=>if c=true then .ok true else g env
@[simp] noncomputable def fNot (f:FT):FT:=fun env=>(f env).bind fun c=>.ok (!c)
theorem zaJ {K:PySem.W.Frag} {G:Hp} {ds:List D} {vs:List V} (r:RepL K G ds vs):ds.isEmpty=vs.isEmpty:=by
 have:=r.length
 cases ds <;> cases vs <;> simp_all
section
variable {X:Cx} {G₀ H₀:Hp} {pos:Pos} {a b:Expr} {fa fb:FE} {ft fu:FT} {rest:List Expr}
theorem xC (ha:DE X G₀ H₀ a fa) (he:∀ whole,isTrue a X.env whole=(do let v ← whole; standAt a.pos; holding [v] (truthy v)):=by intro _; rfl):DT X G₀ H₀ a (fTr fa) :=
 (ziT ha he).imp fun σ H Q q=>by
  obtain ⟨env,G,c,I,e,k⟩:=q
  obtain ⟨x,e1,e⟩:=zq e
  refine xL I e1 fun v G' H' g l I' o=>⟨c,?_,k G' H' g l⟩
  unfold trD at e
  split at e
  ·rename_i hd; rw [hd] at o; cases e; rw [o.non]; exact rfl
  ·rename_i b hd; rw [hd] at o; cases e; rw [o.bl]; exact rfl
  ·rename_i i hd; rw [hd] at o; cases e; rw [o.int]; exact rfl
  ·rename_i ds hd; rw [hd] at o; cases e
   obtain ⟨p,vs,rfl,h1,r1⟩:=Opd.lst I' o
   exact .inl ⟨vs,SqL.of h1,by rw [zaJ r1]⟩
  ·rename_i ds hd; rw [hd] at o; cases e
   obtain ⟨p,vs,rfl,h1,r1⟩:=Opd.tup I' o
   exact .inr (.inl ⟨vs,SqT.of h1,by rw [zaJ r1]⟩)
  ·cases e
theorem zgJ {f:FE} {K:PySem.W.Frag} {σ:St} {H:Hp} {Q:Bool→Hp→Prop} (q:tT K G₀ H₀ (fTrB f) σ H Q):tE K G₀ H₀ f σ H fun x H'=>∃ k,x=.bl k∧Q k H':=by
 obtain ⟨env,G,c,I,e,k⟩:=q
 obtain ⟨x,e1,e⟩:=zq e
 refine xL I e1 fun v G' H' g l I' o => ?_
 split at e
 ·rename_i b hd
  cases e
  rw [hd] at o
  exact ⟨c,o.bl,k G' H' g l⟩
 ·cases e
theorem uC {op:CmpOp} {r:R2} {g:D→D→Out Val} (ho:OpR X (compareOp op) r) (hd:OpD X.K r g) (ha:DE X G₀ H₀ a fa) (hb:DE X G₀ H₀ b fb) (hm:behindInMarks op b=false):DT X G₀ H₀ (.Compare a [op] [b] pos) (fTrB (f2 g fa fb)) :=
 (zkL ho ha hb hm).imp fun σ H Q q=>imp2 hd σ H _ (zgJ q)
theorem zcu (ha:DE X G₀ H₀ a fa) (hb:DE X G₀ H₀ b fb):DT X G₀ H₀ (.Compare a [.Lt] [b] pos) (fTrB (f2 gLt fa fb)):=uC zk2 wZ ha hb (wo _)
theorem zm5 (ha:DE X G₀ H₀ a fa) (hb:DE X G₀ H₀ b fb):DT X G₀ H₀ (.Compare a [.LtE] [b] pos) (fTrB (f2 gLe fa fb)):=uC zmB wZ ha hb (wo _)
theorem zcv (ha:DE X G₀ H₀ a fa) (hb:DE X G₀ H₀ b fb):DT X G₀ H₀ (.Compare a [.Gt] [b] pos) (fTrB (f2 gGt fa fb)):=uC zmC wZ ha hb (wo _)
theorem zm6 (ha:DE X G₀ H₀ a fa) (hb:DE X G₀ H₀ b fb):DT X G₀ H₀ (.Compare a [.GtE] [b] pos) (fTrB (f2 gGe fa fb)):=uC op_ge wZ ha hb (wo _)
theorem wz (hu:X.A.units+20<cLine) (ha:DE X G₀ H₀ a fa) (hb:DE X G₀ H₀ b fb):DT X G₀ H₀ (.Compare a [.Eq] [b] pos) (fTrB (f2 gEq fa fb)):=uC (zj5 hu) zmI ha hb (wo _)
theorem tm (hu:X.A.units+20<cLine) (ha:DE X G₀ H₀ a fa) (hb:DE X G₀ H₀ b fb):DT X G₀ H₀ (.Compare a [.NotEq] [b] pos) (fTrB (f2 gNe fa fb)):=uC (zmy hu) od_ne ha hb (wo _)
theorem zkg (hu:X.A.units+20<cLine) (ha:DE X G₀ H₀ a fa) (hb:DE X G₀ H₀ b fb) (hm:behindInMarks .NotIn b=false:=by with_unfolding_all rfl):DT X G₀ H₀ (.Compare a [.NotIn] [b] pos) (fTrB (f2 gNin fa fb)):=uC (zk1 hu) zmH ha hb hm
theorem zh1 (ha:DE X G₀ H₀ a fa) (hb:DE X G₀ H₀ b fb):DT X G₀ H₀ (.Compare a [.Is] [b] pos) (fTrB (f2 gIsN fa fb)):=uC zj4 zj6 ha hb (wo _)
theorem vc (ha:DE X G₀ H₀ a fa) (hb:DE X G₀ H₀ b fb):DT X G₀ H₀ (.Compare a [.IsNot] [b] pos) (fTrB (f2 xP fa fb)):=uC zhf zhj ha hb (wo _)
theorem wH (ha:DT X G₀ H₀ a ft):DW X G₀ H₀ (.BoolOp .And [a] pos) ft:=zkJ ha
theorem wP (ha:DT X G₀ H₀ a ft):DW X G₀ H₀ (.BoolOp .Or [a] pos) ft:=zme ha
theorem uB (ha:DT X G₀ H₀ a ft) (hb:DW X G₀ H₀ (.BoolOp .And (b::rest) pos) fu):DW X G₀ H₀ (.BoolOp .And (a::b::rest) pos) (fAnd ft fu) :=
 (zmf ha hb).imp fun σ H Q q=>by
  obtain ⟨env,G,c,I,e,k⟩:=q
  obtain ⟨x,e1,e⟩:=zq e
  refine ⟨env,G,x,I,e1,fun G' H' g l => ?_⟩
  cases x with
  | true=>exact ⟨env,G',c,I.grow g l,e,fun G2 H2 g2 l2=>k G2 H2 (g.trans g2) l2⟩
  | false=>cases e; exact k G' H' g l
theorem vS (ha:DT X G₀ H₀ a ft) (hb:DW X G₀ H₀ (.BoolOp .Or (b::rest) pos) fu):DW X G₀ H₀ (.BoolOp .Or (a::b::rest) pos) (fOr ft fu) :=
 (pw_or ha hb).imp fun σ H Q q=>by
  obtain ⟨env,G,c,I,e,k⟩:=q
  obtain ⟨x,e1,e⟩:=zq e
  refine ⟨env,G,x,I,e1,fun G' H' g l => ?_⟩
  cases x with
  | true=>cases e; exact k G' H' g l
  | false=>exact ⟨env,G',c,I.grow g l,e,fun G2 H2 g2 l2=>k G2 H2 (g.trans g2) l2⟩
theorem dt_w (h:DW X G₀ H₀ a ft):DT X G₀ H₀ a ft:=PW.pt h
theorem vM (ha:DT X G₀ H₀ a ft):DT X G₀ H₀ (.UnaryOp .Not a pos) (fNot ft):=(zmh ha).imp fun σ H Q q=>by
 obtain ⟨env,G,c,I,e,k⟩:=q
 obtain ⟨x,e1,e⟩:=zq e
 cases e
 exact ⟨env,G,x,I,e1,fun G' H' g l=>k G' H' g l⟩
@[simp] noncomputable def zcs (f g:FE):FE:=fun env=>(f env).bind fun x=>match x.d with
  | .bl true=>g env
  | .bl false=>.ok (.pers (.bl false))
  | _=>.bad
@[simp] noncomputable def fOrV (f g:FE):FE:=fun env=>(f env).bind fun x=>match x.d with
  | .bl false=>g env
  | .bl true=>.ok (.pers (.bl true))
  | _=>.bad
@[simp] noncomputable def zm4 (f:FE):FE:=fun env=>(f env).bind fun x=>match x.d with
  | .bl c=>.ok (.pers (.bl (!c)))
  | _=>.bad
theorem za0 {op} (h:DE X G₀ H₀ a fa):DE X G₀ H₀ (.BoolOp op [a] pos) fa:=zmq h
theorem zdJ (ha:DE X G₀ H₀ a fa) (hb:DE X G₀ H₀ (.BoolOp .And (b::rest) pos) fb):DE X G₀ H₀ (.BoolOp .And (a::b::rest) pos) (zcs fa fb) :=
 (zmv ha hb).imp fun σ H Q q=>by
  obtain ⟨env,G,val,I,e,k⟩:=q
  obtain ⟨x,e1,e⟩:=zq e
  refine xL I e1 fun v G' H' g l I' o => ?_
  split at e
  ·rename_i hd; rw [hd] at o
   exact ⟨true,o.bl,iteT ⟨env,G',val,I',e,fun w G2 H2 g2 l2 h2=>k w G2 H2 (g.trans g2) l2 (h2.base g.h)⟩⟩
  ·rename_i hd; rw [hd] at o; cases e
   exact ⟨false,o.bl,iteF (k _ G' H' g l rfl)⟩
  ·cases e
theorem zlz (ha:DE X G₀ H₀ a fa) (hb:DE X G₀ H₀ (.BoolOp .Or (b::rest) pos) fb):DE X G₀ H₀ (.BoolOp .Or (a::b::rest) pos) (fOrV fa fb) :=
 (pe_or ha hb).imp fun σ H Q q=>by
  obtain ⟨env,G,val,I,e,k⟩:=q
  obtain ⟨x,e1,e⟩:=zq e
  refine xL I e1 fun v G' H' g l I' o => ?_
  split at e
  ·rename_i hd; rw [hd] at o
   exact ⟨false,o.bl,iteF ⟨env,G',val,I',e,fun w G2 H2 g2 l2 h2=>k w G2 H2 (g.trans g2) l2 (h2.base g.h)⟩⟩
  ·rename_i hd; rw [hd] at o; cases e
   exact ⟨true,o.bl,iteT (k _ G' H' g l rfl)⟩
  ·cases e
theorem zna (ha:DE X G₀ H₀ a fa):DE X G₀ H₀ (.UnaryOp .Not a pos) (zm4 fa) :=
 (zmr ha).imp fun σ H Q q=>by
  obtain ⟨env,G,val,I,e,k⟩:=q
  obtain ⟨x,e1,e⟩:=zq e
  refine xL I e1 fun v G' H' g l I' o => ?_
  split at e
  ·rename_i c hd; rw [hd] at o; cases e
   exact ⟨c,o.bl,k _ G' H' g l rfl⟩
  ·cases e
@[simp] noncomputable def fIf (ft:FT) (fa fb:FE):FE:=fun env=>(ft env).bind fun c=>if c=true then fa env else fb env
theorem de_if {c:Expr} (hc:DT X G₀ H₀ c ft) (ha:DE X G₀ H₀ a fa) (hb:DE X G₀ H₀ b fb):DE X G₀ H₀ (.IfExp c a b pos) (fIf ft fa fb) :=
 (zi0 hc ha hb).imp fun σ H Q q=>by
  obtain ⟨env,G,val,I,e,k⟩:=q
  obtain ⟨x,e1,e⟩:=zq e
  refine ⟨env,G,x,I,e1,fun G' H' g l => ?_⟩
  cases x with
  | true=>exact iteT ⟨env,G',val,I.grow g l,e,fun w G2 H2 g2 l2 h2=>k w G2 H2 (g.trans g2) l2 (h2.base g.h)⟩
  | false=>exact iteF ⟨env,G',val,I.grow g l,e,fun w G2 H2 g2 l2 h2=>k w G2 H2 (g.trans g2) l2 (h2.base g.h)⟩
@[simp] noncomputable def fCh (g g':D→D→Out Val) (fa fb fc:FE):FE:=fun env=>(fa env).bind fun x=>(fb env).bind fun y=>(g x.d y.d).bind fun z=>match z.d with
  | .bl true=>(fc env).bind fun w=>g' y.d w.d
  | .bl false=>.ok (.pers (.bl false))
  | _=>.bad
theorem zm0 {c:Expr} {fc:FE} {r r':R2} {g g':D→D→Out Val} (hd:OpD X.K r g) (hd':OpD X.K r' g') (σ:St) (H:Hp) (Q:VK) (q:tE X.K G₀ H₀ (fCh g g' fa fb fc) σ H Q) :
 zjT r r' (tE X.K G₀ H₀ fa) (tE X.K G₀ H₀ fb) (tE X.K G₀ H₀ fc) σ H Q:=by
 obtain ⟨env,G,val,I,e,k⟩:=q
 obtain ⟨x,e1,e⟩:=zq e
 obtain ⟨y,e2,e⟩:=zq e
 obtain ⟨z,e3,e⟩:=zq e
 refine zjS I e1 e2 fun v u G1 H1 g1 l1 I1 o1 o2=>hd G₀ H₀ env σ G1 H1 v u _ _ z _ I1 o1 o2 e3 fun w G2 H2 g2 l2 h2 => ?_
 obtain ⟨G3,g3,l3,o3⟩:=opd g2 l2 h2
 split at e
 ·rename_i hz
  rw [hz] at o3
  obtain ⟨w',e4,e⟩:=zq e
  refine ⟨true,o3.bl,iteT (xL (I1.grow g3 l3) e4 fun t G4 H4 g4 l4 I4 o4=>hd' G₀ H₀ env σ G4 H4 u t _ _ val Q I4 ((o2.mono g3.g).mono g4.g) o4 e fun s G5 H5 g5 l5 h5 => ?_)⟩
  have g04:=(g1.trans g3).trans g4
  exact k s G5 H5 (g04.trans g5) l5 (h5.base g04.h)
 ·rename_i hz
  rw [hz] at o3
  cases e
  exact ⟨false,o3.bl,iteF (k _ G3 H2 (g1.trans g3) l3 rfl)⟩
 ·cases e
theorem zh2 {c:Expr} {fc:FE} (ha:DE X G₀ H₀ a fa) (hb:DE X G₀ H₀ b fb) (hc:DE X G₀ H₀ c fc) (hm:lastMarks [.Lt,.Lt] [b,c]=false:=by with_unfolding_all rfl):DT X G₀ H₀ (.Compare a [.Lt,.Lt] [b,c] pos) (fTrB (fCh gLt gLt fa fb fc)) :=
 (ziU zk2 zk2 ha hb hc hm).imp fun σ H Q q=>zm0 (c:=c) wZ wZ σ H _ (zgJ q)
end
theorem yH {α:Type} {l:List α} {i:Nat} {x s:α} (h:(l.set i x)[i]?=some s):s=x∧i<l.length:=by
 rw [List.getElem?_set] at h
 simp at h
 exact ⟨h.2.symm,h.1⟩
section
variable {K:PySem.W.Frag} {G₀ H₀ G H:Hp} {env:Ev} {σ:St}
theorem DI.setP (I:DI K G₀ H₀ env σ G H) {d:D} {v:V} (i:Nat) (r:Rep K G d v):DI K G₀ H₀ (env.set i (.pers d)) (σ.set i (some v)) G H where
 le:=I.le
 gr:=I.gr
 len:=by simp [I.len]
 slot:=fun j s e=>by
  by_cases hj:i=j
  ·subst hj
   obtain ⟨rfl,hl⟩:=yH e
   exact ⟨v,by rw [List.getElem?_set]; simp [I.len ▸ hl],r⟩
  ·rw [List.getElem?_set_ne hj] at e
   have q:=I.slot j s e
   cases s with
   | un=>trivial
   | pers d'=>obtain ⟨u,h1,h2⟩:=q; exact ⟨u,by rw [List.getElem?_set_ne hj]; exact h1,h2⟩
   | own ds=>obtain ⟨a,vs,o⟩:=q; exact ⟨a,vs,by rw [List.getElem?_set_ne hj]; exact o.at_,o.hp,o.gn,o.new,o.rep⟩
 apart:=fun j k ds es a hjk e1 e2 s1 s2=>by
  have nj:i≠j:=fun z=>by subst z; cases (yH e1).1
  have nk:i≠k:=fun z=>by subst z; cases (yH e2).1
  rw [List.getElem?_set_ne nj] at e1 s1
  rw [List.getElem?_set_ne nk] at e2 s2
  exact I.apart j k ds es a hjk e1 e2 s1 s2
theorem DI.setO (I:DI K G₀ H₀ env σ G H) {ds:List D} {vs:List V} {a:Addr} (i:Nat) (ha:H a=some (.lst vs)) (hg:G a=none) (h0:H₀ a=none) (r:RepL K G ds vs)
 (ne:∀ (j:Nat) (es:List D),env[j]?=some (.own es)→σ[j]?≠some (some (.ref a))):DI K G₀ H₀ (env.set i (.own ds)) (σ.set i (some (.ref a))) G H where
 le:=I.le
 gr:=I.gr
 len:=by simp [I.len]
 slot:=fun j s e=>by
  by_cases hj:i=j
  ·subst hj
   obtain ⟨rfl,hl⟩:=yH e
   exact ⟨a,vs,by rw [List.getElem?_set]; simp [I.len ▸ hl],ha,hg,h0,r⟩
  ·rw [List.getElem?_set_ne hj] at e
   have q:=I.slot j s e
   cases s with
   | un=>trivial
   | pers d'=>obtain ⟨u,h1,h2⟩:=q; exact ⟨u,by rw [List.getElem?_set_ne hj]; exact h1,h2⟩
   | own ds=>obtain ⟨a,vs,o⟩:=q; exact ⟨a,vs,by rw [List.getElem?_set_ne hj]; exact o.at_,o.hp,o.gn,o.new,o.rep⟩
 apart:=fun j k ds' es b hjk e1 e2 s1 s2=>by
  by_cases hj:i=j
  ·subst hj
   have hl:=(yH e1).2
   rw [List.getElem?_set] at s1
   simp [I.len ▸ hl] at s1
   subst s1
   rw [List.getElem?_set_ne hjk] at e2 s2
   exact ne k es e2 s2
  ·by_cases hk:i=k
   ·subst hk
    have hl:=(yH e2).2
    rw [List.getElem?_set] at s2
    simp [I.len ▸ hl] at s2
    subst s2
    rw [List.getElem?_set_ne hj] at e1 s1
    exact ne j ds' e1 s1
   ·rw [List.getElem?_set_ne hj] at e1 s1
    rw [List.getElem?_set_ne hk] at e2 s2
    exact I.apart j k ds' es b hjk e1 e2 s1 s2
theorem DI.mut (I:DI K G₀ H₀ env σ G H) {i:Nat} {ds ds':List D} {a:Addr} {vs vs':List V} (e:env[i]?=some (.own ds)) (o:SlotOwn K H₀ σ G H i ds a vs) (r:RepL K G ds' vs') :
 DI K G₀ H₀ (env.set i (.own ds')) σ G (upd H a (.lst vs')) where
 le:=fun b u q=>by rw [zN (zI q o.gn)]; exact I.le b u q
 gr:=⟨I.gr.g,fun b u q=>by rw [zN (zI q o.new)]; exact I.gr.h b u q,I.gr.n⟩
 len:=by simp [I.len]
 slot:=fun j s e'=>by
  by_cases hj:i=j
  ·subst hj
   obtain ⟨rfl,hl⟩:=yH e'
   exact ⟨a,vs',o.at_,yc,o.gn,o.new,r⟩
  ·rw [List.getElem?_set_ne hj] at e'
   have q:=I.slot j s e'
   cases s with
   | un=>trivial
   | pers d'=>exact q
   | own es =>
     obtain ⟨b,us,p⟩:=q
     have hb:b≠a:=fun z=>by subst z; exact I.apart i j ds es b hj e e' o.at_ p.at_
     exact ⟨b,us,p.at_,by rw [zN hb]; exact p.hp,p.gn,p.new,p.rep⟩
 apart:=fun j k ds' es b hjk e1 e2 s1 s2=>by
  have h1:∃ ds1,env[j]?=some (.own ds1):=by
   by_cases hj:i=j
   ·subst hj; exact ⟨_,e⟩
   ·rw [List.getElem?_set_ne hj] at e1; exact ⟨_,e1⟩
  have h2:∃ ds1,env[k]?=some (.own ds1):=by
   by_cases hk:i=k
   ·subst hk; exact ⟨_,e⟩
   ·rw [List.getElem?_set_ne hk] at e2; exact ⟨_,e2⟩
  obtain ⟨x1,h1⟩:=h1
  obtain ⟨x2,h2⟩:=h2
  exact I.apart j k x1 x2 b hjk h1 h2 s1 s2
end
theorem zbj.mono {K:PySem.W.Frag} {G₀ H₀ G G':Hp} {D:Ends} {r:Res} (h:zbj K G₀ H₀ G D r) (s:Same G G'):zbj K G₀ H₀ G' D r:=by
 cases r with
 | next env=>exact fun σ' G2 H2 s2 I2=>h σ' G2 H2 (s.trans s2) I2
 | ret v=>exact h
@[simp] noncomputable def setS (i:Nat) (fz:Bool) (f:FE):FS:=fun env=>(f env).bind fun x=>match x with
  | .pers d=>.ok (.next (env.set i (.pers d)))
  | .fresh ds=>.ok (.next (env.set i (if fz then .pers (.lst ds) else .own ds)))
  | .brw _ _=>.bad
section
variable {K:PySem.W.Frag} {G₀ H₀:Hp}
theorem zc0 {i:Nat} {fz:Bool} {f:FE} {D:Ends} {σ:St} {H:Hp} (q:tS K G₀ H₀ (setS i fz f) D σ H):tE K G₀ H₀ f σ H fun x H1=>D.nx (σ.set i (some x)) H1:=by
 obtain ⟨env,G,r,I,e,k⟩:=q
 obtain ⟨x,e1,e⟩:=zq e
 refine ⟨env,G,x,I,e1,fun v G' H' g l h => ?_⟩
 have I':=I.grow g l
 cases x with
 | pers d =>
   cases e
   exact k _ G' H' g.g (I'.setP i h)
 | brw j ds=>cases e
 | fresh ds =>
   cases e
   cases fz with
   | true =>
     obtain ⟨G2,g2,l2,h2⟩:=held g l h rfl
     exact k _ G2 H' g2.g ((I.grow g2 l2).setP i h2)
   | false =>
     obtain ⟨a,vs,rfl,h1,h2,h3,h4⟩:=h
     refine k _ G' H' g.g (I'.setO i h2 h3 (I.gr.h.free h1) h4 fun j es e2 s2 => ?_)
     obtain ⟨b,us,o⟩:=I.own e2
     have z:=o.at_
     rw [s2] at z
     cases z
     have z:=o.hp
     rw [h1] at z
     cases z
end
section
variable {X:Cx} {G₀ H₀:Hp} {pos:Pos}
theorem zA {i:Nat} {x:Str} {e:Expr} {f:FE} {pos':Pos} (fz:Bool) (hN:X.N.Nodup) (he:DE X G₀ H₀ e f) (hi:X.N[i]?=some x:=by rfl) (hx:Loc X.env.scope x:=by first | exact Or.inl rfl | exact Or.inr rfl)
 (hs:swapsWith e (some (.Name x pos')) pos.line X.env=pure false:=by rfl) (hf:X.fn x=true∨X.env.scope.names.lookup x=some .local:=by first | exact .inl rfl | exact .inr rfl) :
 DS X G₀ H₀ (.Assign [.Name x pos'] e pos) (setS i fz f):=(zmi hN hi hx he hs hf).imp fun D σ H q=>zc0 q
end
noncomputable def tG (K:PySem.W.Frag) (G₀ H₀:Hp) (g:D→Ev→Out Ev):TG:=fun v σ H Q=>∃ env G d env',DI K G₀ H₀ env σ G H∧Rep K G d v∧g d env=.ok env'∧∀ σ',DI K G₀ H₀ env' σ' G H→Q σ' H
@[simp] noncomputable def setAll:List Nat→List D→Ev→Ev
  | i::is,d::ds,env=>setAll is ds (env.set i (.pers d))
  | _,_,env=>env
noncomputable def tGs (K:PySem.W.Frag) (G₀ H₀:Hp) (is:List Nat):TGs:=fun vs σ H Q=>∃ env G ds,DI K G₀ H₀ env σ G H∧RepL K G ds vs∧ds.length=is.length∧∀ σ',DI K G₀ H₀ (setAll is ds env) σ' G H→Q σ' H
noncomputable def DG (X:Cx) (G₀ H₀:Hp) (tg:Expr) (g:D→Ev→Out Ev):Prop:=PG X tg (tG X.K G₀ H₀ g)
noncomputable def DGs (X:Cx) (G₀ H₀:Hp) (ts:List Expr) (is:List Nat):Prop:=PGs X ts (tGs X.K G₀ H₀ is)
@[simp] noncomputable def gN (i:Nat):D→Ev→Out Ev:=fun d env=>.ok (env.set i (.pers d))
@[simp] noncomputable def gT (is:List Nat):D→Ev→Out Ev:=fun d env=>match d with
  | .tup ds=>if ds.length=is.length then .ok (setAll is ds env) else .bad
  | _=>.bad
section
variable {X:Cx} {G₀ H₀:Hp} {pos:Pos}
theorem z6 {i:Nat} {x:Str} (hN:X.N.Nodup) (hi:X.N[i]?=some x:=by rfl) (hx:Loc X.env.scope x:=by first | exact Or.inl rfl | exact Or.inr rfl) (hf:X.fn x=true∨X.env.scope.names.lookup x=some .local:=by first | exact .inl rfl | exact .inr rfl) :
 DG X G₀ H₀ (.Name x pos) (gN i):=fun pins s σ H v u Q I r q=>zhd hN hi hx hf pins s σ H v u Q I r (by
 obtain ⟨env,G,d,env',J,h,e,k⟩:=q
 cases e
 exact k _ (J.setP i h))
theorem xW:DGs X G₀ H₀ [] []:=fun pins s σ H vs us Q I r q=>zkU pins s σ H vs us Q I r (by
 obtain ⟨env,G,ds,J,h,e,k⟩:=q
 cases ds with
 | nil=>cases (show vs=[] from h); exact ⟨rfl,k σ J⟩
 | cons d ds=>cases e)
theorem zO {i:Nat} {x:Str} {es:List Expr} {is:List Nat} (hN:X.N.Nodup) (hr:DGs X G₀ H₀ es is) (hi:X.N[i]?=some x:=by rfl) (hx:Loc X.env.scope x:=by first | exact Or.inl rfl | exact Or.inr rfl) (hf:X.fn x=true∨X.env.scope.names.lookup x=some .local:=by first | exact .inl rfl | exact .inr rfl)
 (hs:(assignEach (.Name x pos::es) X.env).map (·.2)=assign (.Name x pos) X.env::(assignEach es X.env).map (·.2):=by rfl) :
 DGs X G₀ H₀ (.Name x pos::es) (i::is):=fun pins s σ H vs us Q I r q=>ziY (zhd hN hi hx hf) hr hs pins s σ H vs us Q I r (by
 obtain ⟨env,G,ds,J,h,e,k⟩:=q
 cases ds with
 | nil=>cases e
 | cons d ds =>
   obtain ⟨v,vr,rfl,h1,h2⟩:=h
   exact ⟨v,vr,rfl,env.set i (.pers d),G,ds,J.setP i h1,h2,by simpa using e,k⟩)
theorem ve {es:List Expr} {k:Nat} {is:List Nat} (hc:X.calm=true) (h:DGs X G₀ H₀ es is) (hn:(assignEach es X.env).length=is.length:=by rfl) (hst:(assignEach es X.env).findIdx? (·.1)=none:=by rfl) :
 DG X G₀ H₀ (.Tuple es k pos) (gT is):=fun pins s σ H v u Q I r q=>zmm hc h hn hst pins s σ H v u Q I r (by
 obtain ⟨env,G,d,env',J,h,e,k⟩:=q
 unfold gT at e
 split at e
 ·rename_i ds
  split at e
  ·rename_i hl
   cases e
   obtain ⟨a,vs,e1,h1,r1⟩:=h
   exact ⟨a,vs,e1,SqT.of (J.le _ _ h1),by rw [←r1.length]; exact hl,env,G,ds,J,r1,hl,k⟩
  ·cases e
 ·cases e)
@[simp] noncomputable def asgS (g:D→Ev→Out Ev) (f:FE):FS:=fun env=>(f env).bind fun x=>x.hold.bind fun d=>(g d env).bind fun env'=>.ok (.next env')
theorem zkh {tg e:Expr} {f:FE} {g:D→Ev→Out Ev} (he:DE X G₀ H₀ e f) (hg:DG X G₀ H₀ tg g) (hs:swapsWithSole [tg] e pos.line X.env=pure false:=by rfl) (hw:swappedStores [tg] e X.env=pure none:=by rfl)
 (h1:(assignEach [tg] X.env).map (·.2)=[assign tg X.env]:=by rfl):DS X G₀ H₀ (.Assign [tg] e pos) (asgS g f):=(zj1 he hg hs hw h1).imp fun D σ H q=>by
 obtain ⟨env,G,r,I,e,k⟩:=q
 obtain ⟨x,e1,e⟩:=zq e
 obtain ⟨d,e2,e⟩:=zq e
 obtain ⟨env',e3,e⟩:=zq e
 cases e
 refine ⟨env,G,x,I,e1,fun v G' H' g l h => ?_⟩
 obtain ⟨G2,g2,l2,h2⟩:=held g l h e2
 exact ⟨env,G2,d,env',I.grow g2 l2,h2,e3,fun σ' I'=>k σ' G2 H' g2.g I'⟩
end
@[simp] noncomputable def retS (f:FE):FS:=fun env=>(f env).bind fun x=>match x with
  | .brw _ ds=>.ok (.ret (.fresh ds))
  | x=>.ok (.ret x)
@[simp] noncomputable def nxtS:FS:=fun env=>.ok (.next env)
@[simp] noncomputable def ifS (ft:FT) (f g:FS):FS:=fun env=>(ft env).bind fun c=>if c=true then f env else g env
@[simp] noncomputable def seqS (f g:FS):FS:=fun env=>(f env).bind fun r=>match r with
  | .next env'=>g env'
  | .ret v=>.ok (.ret v)
section
variable {X:Cx} {G₀ H₀:Hp} {pos:Pos}
theorem zF {e:Expr} {f:FE} (he:DE X G₀ H₀ e f):DS X G₀ H₀ (.Return (some e) pos) (retS f):=(zmj he).imp fun D σ H q=>by
 obtain ⟨env,G,r,I,e,k⟩:=q
 obtain ⟨x,e1,e⟩:=zq e
 refine ⟨env,G,x,I,e1,fun v G' H' g l h => ?_⟩
 cases x with
 | pers d=>cases e; exact k v G' H' (I.gr.trans g) l h
 | fresh ds =>
   cases e
   obtain ⟨a,vs,rfl,h1,h2⟩:=h
   exact k _ G' H' (I.gr.trans g) l ⟨a,vs,rfl,I.gr.h.free h1,h2⟩
 | brw i ds =>
   cases e
   obtain ⟨a,rfl,e2,e3⟩:=h
   obtain ⟨b,vs,o⟩:=(I.grow g l).own e2
   have z:=o.at_
   rw [e3] at z
   cases z
   exact k _ G' H' (I.gr.trans g) l ⟨a,vs,rfl,o.new,o.hp,o.gn,o.rep⟩
theorem zW {c:Expr} {a b:List Stmt} {ft:FT} {f g:FS} (hc:DT X G₀ H₀ c ft) (ha:DSs X G₀ H₀ a f) (hb:DSs X G₀ H₀ b g):DS X G₀ H₀ (.If c a b pos) (ifS ft f g):=(ps_if hc ha hb).imp fun D σ H q=>by
 obtain ⟨env,G,r,I,e,k⟩:=q
 obtain ⟨x,e1,e⟩:=zq e
 refine ⟨env,G,x,I,e1,fun G' H' g l => ?_⟩
 cases x with
 | true=>exact iteT ⟨env,G',r,I.grow g l,e,k.mono g.g⟩
 | false=>exact iteF ⟨env,G',r,I.grow g l,e,k.mono g.g⟩
theorem zE:DSs X G₀ H₀ [] nxtS:=zkN.imp fun D σ H q=>by
 obtain ⟨env,G,r,I,e,k⟩:=q
 cases e
 exact k σ G H (Same.refl _) I
theorem zl {st:Stmt} {rest:List Stmt} {f g:FS} (h1:DS X G₀ H₀ st f) (h2:DSs X G₀ H₀ rest g):DSs X G₀ H₀ (st::rest) (seqS f g):=(ziV h1 h2).imp fun D σ H q=>by
 obtain ⟨env,G,r,I,e,k⟩:=q
 obtain ⟨x,e1,e⟩:=zq e
 refine ⟨env,G,x,I,e1,?_⟩
 cases x with
 | next env'=>exact fun σ' G' H' s I'=>⟨env',G',r,I',e,k.mono s⟩
 | ret v=>cases e; exact k
theorem zu {st:Stmt} {f:FS} (h1:DS X G₀ H₀ st f):DSs X G₀ H₀ [st] f:=zkM h1
end
@[simp] noncomputable def appS (i:Nat) (f:FE):FS:=fun env=>match env[i]? with
  | some (.own ds)=>if ds.length<100000 then (f env).bind fun x=>x.hold.bind fun d=>.ok (.next (env.set i (.own (ds++[d])))) else .bad
  | _=>.bad
@[simp] noncomputable def popS (i:Nat):FS:=fun env=>match env[i]? with
  | some (.own ds)=>if ds.length=0 then .bad else .ok (.next (env.set i (.own ds.dropLast)))
  | _=>.bad
@[simp] noncomputable def extS (i:Nat) (f:FE):FS:=fun env=>match env[i]? with
  | some (.own ds)=>(f env).bind fun x=>match x with
    | .pers (.lst es)=>if ds.length+es.length≤100000 then .ok (.next (env.set i (.own (ds++es)))) else .bad
    | .fresh es=>if ds.length+es.length≤100000 then .ok (.next (env.set i (.own (ds++es)))) else .bad
    | _=>.bad
  | _=>.bad
@[simp] noncomputable def putS (i:Nat) (fk f:FE):FS:=fun env=>match env[i]? with
  | some (.own ds)=>(f env).bind fun x=>x.hold.bind fun d=>(fk env).bind fun y=>match y.d with
    | .int k=>match ixN ds.length k with
      | some j=>.ok (.next (env.set i (.own (ds.set j d))))
      | none=>.bad
    | _=>.bad
  | _=>.bad
section
variable {X:Cx} {G₀ H₀:Hp} {pos p1 apos cpos:Pos} {i:Nat} {x:Str} {e:Expr} {f:FE}
theorem yt (hv:PE X (.Name x p1) (tVar i)) (he:DE X G₀ H₀ e f) (hfew:((backTo cpos (starEach [e] X.env)).all (fun x => !x.1)&&(backToKw cpos (keywordEach [] X.env)).all (fun x=>x.1.isSome)
 && decide ([e].length+([]:List Keyword).length+(if ([]:List Keyword).isEmpty then 0 else 1)<30))=true:=by rfl)
 (hline:(apos.endLine == cpos.line)=true:=by rfl) (hs:starEach [e] X.env=[(false,eval e X.env)]:=by rfl) :
 DS X G₀ H₀ (.Expr (.Call (.Attribute (.Name x p1) "append" apos) [e] [] cpos) pos) (appS i f) :=
 (zca (zkY PySem.F.plainAttrs_list PySem.F.slot_list_append PySem.F.type_list_append zaC hv (yX he wY hs) rfl hfew hline hs rfl) rfl).imp fun D σ H q=>by
  obtain ⟨env,G,r,I,e,k⟩:=q
  unfold appS at e
  split at e
  ·rename_i ds hd
   split at e
   ·rename_i hz
    obtain ⟨y,e1,e⟩:=zq e
    obtain ⟨d,e2,e⟩:=zq e
    cases e
    obtain ⟨a,vs,o⟩:=I.own hd
    refine ⟨.ref a,o.at_,.inl ⟨rfl,vs,SqL.of o.hp⟩,env,G,y,I,e1,fun v G' H' g l h => ?_⟩
    obtain ⟨G2,g2,l2,h2⟩:=held g l h e2
    have I2:=I.grow g2 l2
    obtain ⟨b,us,o2⟩:=I2.own hd
    have z:=o2.at_
    rw [o.at_] at z
    cases z
    exact ⟨a,us,v,rfl,rfl,o2.hp,by rw [←o2.rep.length,sizeLine_eq]; lia,k σ G2 _ g2.g (I2.mut hd o2 (o2.rep.append (RepL.cons h2 RepL.nil)))⟩
   ·cases e
  ·cases e
theorem zm8 (hv:PE X (.Name x p1) (tVar i)) (hline:(apos.endLine == cpos.line)=true:=by rfl) :
 DS X G₀ H₀ (.Expr (.Call (.Attribute (.Name x p1) "pop" apos) [] [] cpos) pos) (popS i) :=
 (zca (zj2 PySem.F.plainAttrs_list PySem.F.slot_list_pop PySem.F.type_list_pop zj7 hv rfl hline) rfl).imp fun D σ H q=>by
  obtain ⟨env,G,r,I,e,k⟩:=q
  unfold popS at e
  split at e
  ·rename_i ds hd
   split at e
   ·cases e
   ·rename_i hz
    cases e
    obtain ⟨a,vs,o⟩:=I.own hd
    have hl:=o.rep.length
    have hv2:vs[vs.length - 1]?=some (vs[vs.length - 1]'(by lia)):=List.getElem?_eq_getElem (by lia)
    exact ⟨.ref a,o.at_,.inl ⟨rfl,vs,SqL.of o.hp⟩,a,vs,_,rfl,rfl,o.hp,hv2,k σ G _ (Same.refl _) (I.mut hd o o.rep.dropLast)⟩
  ·cases e
theorem zdG (hv:PE X (.Name x p1) (tVar i)) (he:DE X G₀ H₀ e f) (hfew:((backTo cpos (starEach [e] X.env)).all (fun x => !x.1)&&(backToKw cpos (keywordEach [] X.env)).all (fun x=>x.1.isSome)
 && decide ([e].length+([]:List Keyword).length+(if ([]:List Keyword).isEmpty then 0 else 1)<30))=true:=by rfl)
 (hline:(apos.endLine == cpos.line)=true:=by rfl) (hs:starEach [e] X.env=[(false,eval e X.env)]:=by rfl) :
 DS X G₀ H₀ (.Expr (.Call (.Attribute (.Name x p1) "extend" apos) [e] [] cpos) pos) (extS i f) :=
 (zca (zkY PySem.F.plainAttrs_list PySem.F.slot_list_extend PySem.F.type_list_extend zhv hv (yX he wY hs) rfl hfew hline hs rfl) rfl).imp fun D σ H q=>by
  obtain ⟨env,G,r,I,e,k⟩:=q
  have main:∀ ds es y,env[i]?=some (.own ds)→f env=.ok y→y.hold=.ok (.lst es)→ds.length+es.length≤100000→r=.next (env.set i (.own (ds++es))) →
   zl1 (tBM X.K "list" zg3 (tVar i) (zl2 (tE X.K G₀ H₀ f) tNil)) D σ H:=by
   intro ds es y hd e1 e2 hz hr
   subst hr
   obtain ⟨a,vs,o⟩:=I.own hd
   refine ⟨.ref a,o.at_,.inl ⟨rfl,vs,SqL.of o.hp⟩,env,G,y,I,e1,fun v G' H' g l h => ?_⟩
   obtain ⟨G2,g2,l2,h2⟩:=held g l h e2
   have I2:=I.grow g2 l2
   obtain ⟨b,us,o2⟩:=I2.own hd
   have z:=o2.at_
   rw [o.at_] at z
   cases z
   obtain ⟨c,ws,rfl,h3,r3⟩:=h2
   exact ⟨a,c,us,ws,rfl,rfl,o2.hp,l2 _ _ h3,by rw [←o2.rep.length,←r3.length]; exact zaG hz,k σ G2 _ g2.g (I2.mut hd o2 (o2.rep.append r3))⟩
  unfold extS at e
  split at e
  ·rename_i ds hd
   obtain ⟨y,e1,e⟩:=zq e
   split at e
   ·rename_i es
    split at e
    ·rename_i hz
     exact main ds es _ hd e1 rfl hz (by cases e; rfl)
    ·cases e
   ·rename_i es
    split at e
    ·rename_i hz
     exact main ds es _ hd e1 rfl hz (by cases e; rfl)
    ·cases e
   ·cases e
  ·cases e
theorem zm7 {tpos:Pos} {ek:Expr} {fk:FE} (hv:PE X (.Name x p1) (tVar i)) (hk:DE X G₀ H₀ ek fk) (he:DE X G₀ H₀ e f)
 (ha:∀ v,assign (.Subscript (.Name x p1) ek tpos) X.env v=(do
  let ov ← holding [v] (eval (.Name x p1) X.env)
  let iv ← holding [v,ov] (eval ek X.env)
  standAt tpos
  holding [v,ov,iv] (setItem ov iv v)
  release [v,ov,iv] []):=by intro _; rfl)
 (hs:swapsWithSole [.Subscript (.Name x p1) ek tpos] e pos.line X.env=pure false:=by rfl) (hw:swappedStores [.Subscript (.Name x p1) ek tpos] e X.env=pure none:=by rfl)
 (h1:(assignEach [.Subscript (.Name x p1) ek tpos] X.env).map (·.2)=[assign (.Subscript (.Name x p1) ek tpos) X.env]:=by rfl) :
 DS X G₀ H₀ (.Assign [.Subscript (.Name x p1) ek tpos] e pos) (putS i fk f) :=
 (zj1 he (zmn hv hk ziN ha) hs hw h1).imp fun D σ H q=>by
  obtain ⟨env,G,r,I,e,k⟩:=q
  unfold putS at e
  split at e
  ·rename_i ds hd
   obtain ⟨y,e1,e⟩:=zq e
   obtain ⟨d,e2,e⟩:=zq e
   obtain ⟨z,e3,e⟩:=zq e
   split at e
   ·rename_i kk hkk
    split at e
    ·rename_i j hj
     cases e
     refine ⟨env,G,y,I,e1,fun v G' H' g l h => ?_⟩
     obtain ⟨G2,g2,l2,h2⟩:=held g l h e2
     have I2:=I.grow g2 l2
     obtain ⟨b,us,o2⟩:=I2.own hd
     refine ⟨.ref b,o2.at_,xL I2 e3 fun w G3 H3 g3 l3 I3 o3 => ?_⟩
     rw [hkk] at o3
     obtain ⟨c,ws,o4⟩:=I3.own hd
     have z:=o4.at_
     rw [o2.at_] at z
     cases z
     exact ⟨b,ws,kk,j,rfl,o3.int,o4.hp,by rw [←o4.rep.length]; exact hj,k σ G3 _ (g2.g.trans g3.g) (I3.mut hd o4 (o4.rep.set (h2.mono g3.g) j))⟩
    ·cases e
   ·cases e
  ·cases e
end
structure JOk (K:PySem.W.Frag) (J:It) (G:Hp) (ds:List D):Prop where
 go:∀ i G' H',Same G G'→Same G' H'→i<ds.length→J.go i H'
 stop:∀ i G' H',Same G G'→Same G' H'→ds.length≤i→J.stop i H'
 yld:∀ i G' H' x H1,Same G G'→Same G' H'→i<ds.length→J.yld i H' x H1→∃ d G1,ds[i]?=some d∧Grow G' H' G1 H1∧Same G1 H1∧Rep K G1 d x
noncomputable abbrev FI:=Ev→Out (List D)
noncomputable def tI (K:PySem.W.Frag) (G₀ H₀:Hp) (f:FI):TI:=fun σ H R=>∃ env G ds,DI K G₀ H₀ env σ G H∧f env=.ok ds∧∀ J G' H',Grow G H G' H'→Same G' H'→JOk K J G' ds→R J H'
noncomputable def DIt (X:Cx) (G₀ H₀:Hp) (tg iter:Expr) (f:FI):Prop:=PI X tg iter (tI X.K G₀ H₀ f)
theorem _root_.L2.PI.imp {X:Cx} {tg e:Expr} {t t':TI} (h:PI X tg e t) (i:∀ σ H Q,t' σ H Q→t σ H Q):PI X tg e t':=fun pins s σ H Q I q=>h pins s σ H Q I (i σ H Q q)
@[simp] noncomputable def fItL (f:FE):FI:=fun env=>(f env).bind fun x=>x.hold.bind fun d=>match d with
  | .lst ds=>.ok ds
  | .scr ns=>.ok (ns.map .int)
  | _=>.bad
noncomputable def rngD (lo:Int) (n:Nat):List D:=(List.range n).map fun (i:Nat)=>.int (lo+i)
@[simp] noncomputable def zcr (f:Ev→Out (List Val)):FI:=fun env=>(f env).bind fun xs=>match xs.map Val.d with
  | [.int j]=>if -1000000≤j∧j≤1000000 then .ok (rngD 0 j.toNat) else .bad
  | _=>.bad
@[simp] noncomputable def zcq (f:Ev→Out (List Val)):FI:=fun env=>(f env).bind fun xs=>match xs.map Val.d with
  | [.int i,.int j]=>if -1000000≤i∧i≤1000000 ∧ -1000000≤j∧j≤1000000 then .ok (rngD i (j - i).toNat) else .bad
  | _=>.bad
theorem zfI {K:PySem.W.Frag} {G:Hp} {a:Addr} {ds:List D} {vs:List V} (h:SqL K G a vs) (r:RepL K G ds vs):JOk K (Itl K a) G ds where
 go:=fun i G' H' s l hi=>⟨vs,vs[i]'(by rw [←r.length]; exact hi),l.seq (s.seq h),List.getElem?_eq_getElem _⟩
 stop:=fun i G' H' s l hi=>⟨vs,l.seq (s.seq h),by rw [←r.length]; exact hi⟩
 yld:=fun i G' H' x H1 s l hi y=>by
  obtain ⟨e,y⟩:=y
  subst e
  have hx:=y vs (l.seq (s.seq h))
  obtain ⟨d,h1,h2⟩:=r.get' hx
  exact ⟨d,G',h1,Grow.refl _ _,l,h2.mono s⟩
theorem zdq {K:PySem.W.Frag} {G:Hp} (lo:Int) (n:Nat):JOk K (Itr lo n) G (rngD lo n) where
 go := fun i G' H' s l hi => by have h : i < n := by simpa [rngD] using hi
                                exact h
 stop := fun i G' H' s l hi => by have h : n ≤ i := by simpa [rngD] using hi
                                  exact h
 yld:=fun i G' H' x H1 s l hi y=>by
  obtain ⟨e,y⟩:=y
  subst e
  have hi':i<n:=by simpa [rngD] using hi
  exact ⟨.int (lo+i),G',by simp [rngD,hi'],Grow.refl _ _,l,y⟩
section
variable {X:Cx} {G₀ H₀:Hp} {tg:Expr}
theorem yg {l:Expr} {f:FE} (h:DE X G₀ H₀ l f):DIt X G₀ H₀ tg l (fItL f):=(zkT h).imp fun σ H R q=>by
 obtain ⟨env,G,ds,I,e,k⟩:=q
 obtain ⟨x,e1,e⟩:=zq e
 obtain ⟨d,e2,e⟩:=zq e
 refine ⟨env,G,x,I,e1,fun v G' H' g l h => ?_⟩
 obtain ⟨G2,g2,l2,h2⟩:=held g l h e2
 split at e
 ·cases e
  obtain ⟨a,vs,rfl,h3,r3⟩:=h2
  exact ⟨a,rfl,⟨vs,SqL.of (l2 _ _ h3)⟩,k _ G2 H' g2 l2 (zfI (SqL.of h3) r3)⟩
 ·rename_i ns
  cases e
  obtain ⟨a,rfl,h3⟩:=h2
  exact ⟨a,rfl,⟨_,l2.seq h3⟩,k _ G2 H' g2 l2 (zfI h3 (RepL.ints ns))⟩
 ·cases e
theorem uD {a:Expr} {f:Ev→Out (List Val)} {p pos:Pos} (hm:X.mg "range" = none) (ha:DA X G₀ H₀ [a] f) (hg:Gl X "range" := by rfl) (hs:starEach [a] X.env=[(false,eval a X.env)]:=by rfl) :
 DIt X G₀ H₀ tg (.Call (.Name "range" p) [a] [] pos) (zcr f):=(zhc hg hm ha hs).imp fun σ H R q=>by
 obtain ⟨env,G,ds,I,e,k⟩:=q
 obtain ⟨xs,e1,e⟩:=zq e
 refine ⟨env,G,xs,I,e1,fun vs G' H' g l h => ?_⟩
 split at e
 ·rename_i j hj
  split at e
  ·rename_i hb
   cases e
   obtain ⟨v,rfl,o⟩:=zbi h hj
   exact ⟨j,by rw [o.int],by lia,by lia,k _ G' H' g l (zdq 0 _)⟩
  ·cases e
 ·cases e
theorem zaY {a b:Expr} {f:Ev→Out (List Val)} {p pos:Pos} (hm:X.mg "range" = none) (ha:DA X G₀ H₀ [a,b] f) (hg:Gl X "range" := by rfl) (hs:starEach [a,b] X.env=[(false,eval a X.env),(false,eval b X.env)]:=by rfl) (hs2:starEach [b] X.env=[(false,eval b X.env)]:=by rfl) :
 DIt X G₀ H₀ tg (.Call (.Name "range" p) [a,b] [] pos) (zcq f):=(zhb hg hm ha hs hs2).imp fun σ H R q=>by
 obtain ⟨env,G,ds,I,e,k⟩:=q
 obtain ⟨xs,e1,e⟩:=zq e
 refine ⟨env,G,xs,I,e1,fun vs G' H' g l h => ?_⟩
 split at e
 ·rename_i i j hj
  split at e
  ·rename_i hb
   cases e
   obtain ⟨v,v',rfl,o,o'⟩:=zlN h hj
   exact ⟨i,j,by rw [o.int,o'.int],by lia,k _ G' H' g l (zdq i _)⟩
  ·cases e
 ·cases e
end
noncomputable def forD (g:D→Ev→Out Ev) (fb:FS):List D→Ev→Out Res
 | [],env=>.ok (.next env)
 | d::ds,env=>(g d env).bind fun env1=>(fb env1).bind fun r=>match r with
   | .next env2=>forD g fb ds env2
   | .ret v=>.ok (.ret v)
@[simp] noncomputable def forS (fi:FI) (g:D→Ev→Out Ev) (fb:FS):FS:=fun env=>(fi env).bind fun ds=>forD g fb ds env
noncomputable def whlD (ft:FT) (fb:FS):Nat→Ev→Out Res
 | 0,_=>.bad
 | n+1,env=>(ft env).bind fun c=>if c=true then (fb env).bind fun r=>match r with
   | .next env2=>whlD ft fb n env2
   | .ret v=>.ok (.ret v)
   else .ok (.next env)
section
variable {X:Cx} {G₀ H₀:Hp} {tg:Expr} {pos:Pos}
theorem xV {iter:Expr} {body:List Stmt} {fi:FI} {g:D→Ev→Out Ev} {fb:FS} (hp:PassesOwn (model X.prog X.w) X.A X.env X.xe) (hi:DIt X G₀ H₀ tg iter fi) (hg:DG X G₀ H₀ tg g) (hb:DSs X G₀ H₀ body fb) (hc:X.calm=true:=by rfl)
 (hs:∀ x,foldedSetIterable iter X.env x=pure x:=by intro _; rfl):DS X G₀ H₀ (.For tg iter body [] pos) (forS fi g fb):=(zmk hp hc hi hg hb hs).imp fun D σ H q=>by
 obtain ⟨env,G,r,I,e,k⟩:=q
 obtain ⟨ds,e1,e⟩:=zq e
 refine ⟨env,G,ds,I,e1,fun J G1 H1 g1 l1 jok => ?_⟩
 refine ⟨fun i m σ H=>m=ds.length - i∧i≤ds.length∧∃ env' G',Same G1 G'∧DI X.K G₀ H₀ env' σ G' H∧forD g fb (ds.drop i) env'=.ok r,⟨ds.length,by simp,Nat.zero_le _,env,G1,Same.refl _,I.grow g1 l1,by simpa using e⟩,?_⟩
 rintro i m σ' H' ⟨rfl,hi',env',G',s',I',e'⟩
 by_cases hlt:i<ds.length
 ·have hd:ds.drop i=ds[i]::ds.drop (i+1):=List.drop_eq_getElem_cons hlt
  rw [hd] at e'
  obtain ⟨env1,e2,e'⟩:=zq e'
  obtain ⟨r1,e3,e'⟩:=zq e'
  refine .inr ⟨jok.go i G' H' s' I'.le hlt,fun σ2 H2=>∃ env2 G2,Same G1 G2∧DI X.K G₀ H₀ env2 σ2 G2 H2∧forD g fb (ds.drop (i+1)) env2=.ok r,fun σ2 H2 ⟨env2,G2,s2,I2,e2⟩=>⟨ds.length - (i+1),by lia,rfl,hlt,env2,G2,s2,I2,e2⟩,fun x H2 y => ?_⟩
  obtain ⟨d,G2,hd2,g2,l2,r2⟩:=jok.yld i G' H' x H2 s' I'.le hlt y
  have hde:d=ds[i]:=by rw [List.getElem?_eq_getElem hlt] at hd2; exact (Option.some.inj hd2).symm
  subst hde
  refine ⟨env',G2,_,env1,I'.grow g2 l2,r2,e2,fun σ2 I2=>⟨env1,G2,r1,I2,e3,?_⟩⟩
  cases r1 with
  | next env2=>exact fun σ3 G3 H3 s3 I3=>⟨env2,G3,(s'.trans g2.g).trans s3,I3,e'⟩
  | ret v=>cases e'; exact k
 ·have hi2:i=ds.length:=by lia
  subst hi2
  rw [List.drop_length] at e'
  cases e'
  exact .inl ⟨jok.stop _ G' H' s' I'.le (Nat.le_refl _),k σ' G' H' (g1.g.trans s') I'⟩
theorem zjs {c:Expr} {body:List Stmt} {ft:FT} {fb:FS} (n:Nat) (hp:PassesOwn (model X.prog X.w) X.A X.env X.xe) (hc:DT X G₀ H₀ c ft) (hb:DSs X G₀ H₀ body fb):DS X G₀ H₀ (.While c body [] pos) (whlD ft fb n) :=
 (ziW hp hc hb).imp fun D σ H q=>by
  obtain ⟨env,G,r,I,e,k⟩:=q
  refine ⟨fun m σ H=>∃ env' G',Same G G'∧DI X.K G₀ H₀ env' σ G' H∧whlD ft fb m env'=.ok r,⟨n,env,G,Same.refl _,I,e⟩,?_⟩
  rintro m σ' H' ⟨env',G',s',I',e'⟩
  cases m with
  | zero=>cases e'
  | succ m =>
    obtain ⟨c',e1,e'⟩:=zq e'
    refine ⟨env',G',c',I',e1,fun G2 H2 g2 l2 => ?_⟩
    cases c' with
    | true =>
      rw [if_pos rfl] at e' ⊢
      obtain ⟨r1,e2,e'⟩:=zq e'
      refine ⟨fun σ2 H2=>∃ env' G',Same G G'∧DI X.K G₀ H₀ env' σ2 G' H2∧whlD ft fb m env'=.ok r,fun σ3 H3 h3=>⟨m,Nat.lt_succ_self _,h3⟩,env',G2,r1,I'.grow g2 l2,e2,?_⟩
      cases r1 with
      | next env2=>exact fun σ3 G3 H3 s3 I3=>⟨env2,G3,(s'.trans g2.g).trans s3,I3,e'⟩
      | ret v=>cases e'; exact k
    | false =>
      rw [if_neg Bool.false_ne_true] at e' ⊢
      cases e'
      exact k σ' G2 H2 (s'.trans g2.g) (I'.grow g2 l2)
end
noncomputable def spD (K:PySem.W.Frag) (m:List D→Out Val) (n:Nat):Sp:=fun vs H Q _=>∃ G ds val,ds.length=n∧Same G H∧RepL K G ds vs∧m ds=.ok val ∧
 ∀ v G' H',Grow G H G' H'→Same G' H'→vT K H [] [] G' H' v val→Q v H'
@[simp] noncomputable def runD (n:Nat) (f:FS) (ds:List D):Out Val:=(f (ds.map Slot.pers++List.replicate (n - ds.length) .un)).bind fun r=>match r with
  | .ret v=>.ok v
  | .next _=>.ok (.pers .non)
theorem ziK {K:PySem.W.Frag} {G H:Hp} {ds:List D} {vs:List V} {N:List Str} (l:Same G H) (r:RepL K G ds vs) (hl:ds.length≤N.length) :
 DI K G H (ds.map Slot.pers++List.replicate (N.length - ds.length) .un) (L2.zao N vs) G H where
 le:=l
 gr:=Grow.refl _ _
 len:=by unfold L2.zao; simp [r.length]
 slot:=fun i s e=>by
  by_cases hi:i<ds.length
  ·rw [List.getElem?_append_left (by simpa using hi),List.getElem?_map,List.getElem?_eq_getElem hi] at e
   cases e
   obtain ⟨v,h1,h2⟩:=r.get (List.getElem?_eq_getElem hi)
   refine ⟨v,?_,h2⟩
   unfold L2.zao
   rw [List.getElem?_append_left (by simp [←r.length,hi]),List.getElem?_map,h1]
   rfl
  ·rw [List.getElem?_append_right (by simpa using hi),List.getElem?_replicate] at e
   split at e
   ·cases e; trivial
   ·cases e
 apart:=fun i j es fs a _ e _ _ _=>by
  by_cases hi:i<ds.length
  ·rw [List.getElem?_append_left (by simpa using hi),List.getElem?_map,List.getElem?_eq_getElem hi] at e
   cases e
  ·rw [List.getElem?_append_right (by simpa using hi),List.getElem?_replicate] at e
   split at e <;> cases e
theorem y0 {P:Program} {w:World} {K:PySem.W.Frag} {mg:Str→Option Value} {base:Heap} {x qual:Str} {st:Stmt} {f:Addr} {fd:FuncData} {N ps:List Str} {k:Nat} {fb:FS} (F:Fun K x qual st f fd) (S:FnScope N ps (defScope st))
 (hb:∀ (cdv:Value) (A:Around) (outer:List Env) (s:Shared) (G H:Hp) (E:XK),Room k (A.deeper (envOfC qual (defScope st) s.heap.objs.size f cdv)) →
  DSs (cxOf CX0 P w K mg base N qual (defScope st) f cdv A outer s H E).nox G H (defBody st) fb):FnOk P w K mg base CX0 (k+1) f fd ps (spD K (runD N.length fb) ps.length):=by
 have hpl:ps.length≤N.length:=by have:=congrArg List.length S.pre; rw [List.length_take] at this; lia
 refine F.ok S (fun vs H Q E h => ?_) fun cdv A outer s H vs Q E hr h => ?_
 ·obtain ⟨G,ds,val,hl,_,r,_⟩:=h
  rw [←r.length]; exact hl
 ·obtain ⟨G,ds,val,hl,l,r,hm,k'⟩:=h
  refine ⟨_,hb cdv A outer s G H E hr,?_⟩
  obtain ⟨r',e1,e2⟩:=zq hm
  refine ⟨_,G,r',ziK l r (by lia),e1,?_⟩
  cases r' with
  | next env=>cases e2; exact fun σ' G' H' s' I'=>k' _ G' H' I'.gr I'.le rfl
  | ret v=>cases e2; exact fun v' G' H' g' l' h'=>k' v' G' H' g' l' h'
mutual
noncomputable def zed:D→Bool
 | .tup ds=>zaz ds
 | .lst _=>false
 | .scr _=>false
 | .exc _ _=>false
 | _=>true
noncomputable def zaz:List D→Bool
 | []=>true
 | d::ds=>zed d&&zaz ds
end
@[simp] noncomputable def Val.calm:Val→Bool
  | .pers d=>zed d
  | .fresh ds=>zaz ds
  | .brw _ _=>false
@[simp] noncomputable def Val.isPers:Val→Bool
  | .pers _=>true
  | _=>false
@[simp] noncomputable def callG (m:List D→Out Val) (xs:List Val):Out Val:=(m (xs.map Val.d)).bind fun v=>if (xs.all Val.isPers || v.calm)=true then .ok v else .bad
@[simp] noncomputable def zM (m:List D→Out Val) (r:Ev→Out (List Val)):FE:=fun env=>(r env).bind fun xs=>callG m xs
theorem zis {K:PySem.W.Frag} {env:Ev} {σ:St} {G:Hp}:∀ {vs:List V} {xs:List Val},zbc K env σ G vs xs→xs.all Val.isPers=true→RepL K G (xs.map Val.d) vs
 | [],xs,h,_=>by cases (show xs=[] from h); rfl
 | v::vs,xs,h,hp=>by
   obtain ⟨x,r,rfl,h1,h2⟩:=h
   rw [List.all_cons,Bool.and_eq_true] at hp
   cases x with
   | pers d=>exact RepL.cons h1 (zis h2 hp.2)
   | fresh ds=>cases hp.1
   | brw i ds=>cases hp.1
noncomputable def vK (env:Ev) (σ:St) (b:Addr):Prop:=∃ (i:Nat) (ds:List D),env[i]?=some (.own ds)∧σ[i]?=some (some (.ref b))
open Classical in
noncomputable def lend (env:Ev) (σ:St) (G H:Hp):Hp:=fun b=>if vK env σ b then H b else G b
open Classical in
noncomputable def vJ (env:Ev) (σ:St) (G:Hp):Hp:=fun b=>if vK env σ b then none else G b
section
variable {K:PySem.W.Frag} {G₀ H₀ G H:Hp} {env:Ev} {σ:St}
theorem DI.lent (I:DI K G₀ H₀ env σ G H) {b:Addr} (h:vK env σ b):G b=none∧∃ vs,H b=some (.lst vs):=by
 obtain ⟨i,ds,e1,e2⟩:=h
 obtain ⟨a,vs,o⟩:=I.own e1
 have z:=o.at_
 rw [e2] at z
 cases z
 exact ⟨o.gn,vs,o.hp⟩
theorem zei (I:DI K G₀ H₀ env σ G H):Same G (lend env σ G H):=fun b o q=>by
 unfold lend
 by_cases h:vK env σ b
 ·rw [(I.lent h).1] at q; cases q
 ·rw [if_neg h]; exact q
theorem zlf (I:DI K G₀ H₀ env σ G H):Same (lend env σ G H) H:=fun b o q=>by
 unfold lend at q
 by_cases h:vK env σ b
 ·rw [if_pos h] at q; exact q
 ·rw [if_neg h] at q; exact I.le b o q
theorem zdo (I:DI K G₀ H₀ env σ G H):∀ {vs:List V} {xs:List Val},zbc K env σ G vs xs→RepL K (lend env σ G H) (xs.map Val.d) vs
 | [],xs,h=>by cases (show xs=[] from h); rfl
 | v::vs,xs,h=>by
   obtain ⟨x,r,rfl,h1,h2⟩:=h
   refine RepL.cons ?_ (zdo I h2)
   cases x with
   | pers d=>exact Rep.mono (zei I) h1
   | fresh ds=>exact h1.elim
   | brw i ds =>
     obtain ⟨a,rfl,e1,e2⟩:=h1
     obtain ⟨b,us,o⟩:=I.own e1
     have z:=o.at_
     rw [e2] at z
     cases z
     exact ⟨a,us,rfl,by unfold lend; rw [if_pos ⟨i,ds,e1,e2⟩]; exact o.hp,o.rep.mono (zei I)⟩
mutual
theorem zbk (I:DI K G₀ H₀ env σ G H) {G':Hp} (s:Same (lend env σ G H) G'):∀ {d:D} {v:V},zed d=true→Rep K G' d v→Rep K (vJ env σ G') d v
 | .non,_,_,h=>h
 | .bl _,_,_,h=>h
 | .int _,_,_,h=>h
 | .tup ds,v,n,h=>by
   obtain ⟨a,vs,e,g,r⟩:=h
   refine ⟨a,vs,e,?_,vP I s (by simpa [zed] using n) r⟩
   unfold vJ
   by_cases hl:vK env σ a
   ·obtain ⟨_,us,q⟩:=I.lent hl
    have z:lend env σ G H a=some (.lst us):=by unfold lend; rw [if_pos hl]; exact q
    rw [s _ _ z] at g
    cases g
   ·rw [if_neg hl]; exact g
 | .lst _,_,n,_=>by simp [zed] at n
 | .scr _,_,n,_=>by simp [zed] at n
 | .exc _ _,_,n,_=>by simp [zed] at n
theorem vP (I:DI K G₀ H₀ env σ G H) {G':Hp} (s:Same (lend env σ G H) G'):∀ {ds:List D} {vs:List V},zaz ds=true→RepL K G' ds vs→RepL K (vJ env σ G') ds vs
 | [],_,_,h=>h
 | d::ds,vs,n,h=>by
   obtain ⟨v,r,e,h1,h2⟩:=h
   simp only [zaz,Bool.and_eq_true] at n
   exact ⟨v,r,e,zbk I s n.1 h1,vP I s n.2 h2⟩
end
end
section
variable {X:Cx} {G₀ H₀:Hp} {k:Nat} {f:Addr} {fd:FuncData} {ps:List Str} {x:Str} {p pos:Pos} {e:Expr} {es:List Expr} {r:Ev→Out (List Val)} {m:List D→Out Val}
theorem zlA (F:FnOk X.prog X.w X.K X.mg X.base CX0 k f fd ps (spD X.K m ps.length)) (hr:Room k X.A) (hm:X.mg x=some (.ref f)) (hk:PySem.W.keepIn X.K (.ref f)=true) (hb:Binds X.K fd ps []) (ha:DA X G₀ H₀ (e::es) r)
 (hlen:∀ env xs,r env=.ok xs→xs.length=ps.length) (hg:Gl X x:=by rfl) (hdb:(x == ("__debug__" : Str))=false:=by decide) (he:starEach (e::es) X.env=(false,eval e X.env)::starEach es X.env:=by rfl) (hpl:(backTo pos (starEach es X.env)).any (·.1)=false:=by rfl) :
 DE X G₀ H₀ (.Call (.Name x p) (e::es) [] pos) (zM m r):=(zkX F hr hg hm hk hb .nil pass0 ha hdb he hpl).imp fun σ H Q q=>by
 obtain ⟨env,G,val,I,e,k'⟩:=q
 obtain ⟨xs,e1,e⟩:=zq e
 obtain ⟨v,e2,e⟩:=zq e
 split at e
 ·rename_i hc
  have ev:v=val:=by cases e; rfl
  subst ev
  refine ⟨env,G,xs,I,e1,fun vs G1 H1 g1 l1 a1 => ?_⟩
  show spD X.K m ps.length (vs++[]) H1 Q E0
  rw [List.append_nil]
  have I1:=I.grow g1 l1
  have hl:(xs.map Val.d).length=ps.length:=by rw [List.length_map]; exact hlen env xs e1
  by_cases hp:xs.all Val.isPers=true
  ·refine ⟨G1,_,v,hl,l1,zis a1 hp,e2,fun w G2 H2 g2 l2 h2=>k' w G2 H2 (g1.trans g2) l2 ?_⟩
   cases v with
   | pers d=>exact h2
   | fresh ds =>
     obtain ⟨a,us,rfl,h3,h4⟩:=h2
     exact ⟨a,us,rfl,g1.h.free h3,h4⟩
   | brw i ds=>obtain ⟨a,rfl,h3,_⟩:=h2; simp at h3
  ·have hcv:v.calm=true:=by simpa [hp] using hc
   refine ⟨lend env σ G1 H1,_,v,hl,zlf I1,zdo I1 a1,e2,fun w G2 H2 g2 l2 h2 => ?_⟩
   have gu:Grow G1 H1 (vJ env σ G2) H2:=by
    refine ⟨fun b o q => ?_,g2.h,fun b q1 q2 => ?_⟩
    ·unfold vJ
     by_cases hl:vK env σ b
     ·rw [(I1.lent hl).1] at q; cases q
     ·rw [if_neg hl]; exact g2.g b o (zei I1 b o q)
    ·unfold vJ
     by_cases hl:vK env σ b
     ·rw [if_pos hl]
     ·rw [if_neg hl]
      refine g2.n b q1 ?_
      unfold lend
      rw [if_neg hl]; exact q2
   have lu:Same (vJ env σ G2) H2:=fun b o q=>by
    unfold vJ at q
    by_cases hl:vK env σ b
    ·rw [if_pos hl] at q; cases q
    ·rw [if_neg hl] at q; exact l2 b o q
   refine k' w (vJ env σ G2) H2 (g1.trans gu) lu ?_
   cases v with
   | pers d=>exact zbk I1 g2.g hcv h2
   | fresh ds =>
     obtain ⟨a,us,rfl,h3,h4,h5,h6⟩:=h2
     refine ⟨a,us,rfl,g1.h.free h3,h4,?_,vP I1 g2.g hcv h6⟩
     unfold vJ
     by_cases hl:vK env σ a
     ·rw [if_pos hl]
     ·rw [if_neg hl]; exact h5
   | brw i ds=>cases hcv
 ·cases e
end
end DL
namespace DL
open PySem PySem.Spec PyProof.Rows L2
theorem yp:∀ (names:List (Str×NameKind)) (n:Nat) (acc:List (Str×Addr)),cellsFrom n names acc=cellsFrom n names []++acc
 | [],n,acc=>rfl
 | (x,k)::r,n,acc=>by
   unfold cellsFrom
   split
   ·rw [yp r (n+1) ((x,n)::acc),yp r (n+1) [(x,n)]]
    simp
   ·exact yp r n acc
theorem wI:∀ (names:List (Str×NameKind)) (n:Nat) (x:Str),(x,NameKind.cell)∉names→(cellsFrom n names []).lookup x=none
 | [],n,x,_=>rfl
 | (y,k)::r,n,x,h=>by
   have hr:(x,NameKind.cell)∉r:=fun z=>h (List.mem_cons_of_mem _ z)
   unfold cellsFrom
   split
   ·rename_i hk
    rw [yp,List.lookup_append,wI r (n+1) x hr]
    have hxy:(x == y)=false:=by
     rw [beq_eq_false_iff_ne]
     rintro rfl
     have:k=.cell:=by simpa using hk
     subst this
     exact h List.mem_cons_self
    simp [List.lookup_cons,hxy]
   ·exact wI r n x hr
noncomputable def xk (cells:List (Str×Addr)):List (Str×NameKind)→List (Str×Addr)→List (Str×Addr)
 | [],acc=>acc
 | (n,k)::r,acc=>if (k == .free)=true then xk cells r ((n,(cells.lookup n).getD 0)::acc) else xk cells r acc
theorem zbT {env:Env}:∀ (names:List (Str×NameKind)) (acc:List (Str×Addr)),(∀ n,(n,NameKind.free)∈names→∃ c,env.cells.lookup n=some c) →
 (forIn names acc fun x r=>if (x.2 == NameKind.free)=true then do let a ← cellOf env x.1; pure (ForInStep.yield ((x.1,a)::r)) else pure (ForInStep.yield r):Sem (List (Str×Addr)))=pure (xk env.cells names acc)
 | [],acc,_=>rfl
 | (n,k)::r,acc,h=>by
   have ih:=fun acc=>zbT (env:=env) r acc fun m hm=>h m (List.mem_cons_of_mem _ hm)
   rw [List.forIn_cons]
   unfold xk
   by_cases hk:(k == NameKind.free)=true
   ·have:k=.free:=by simpa using hk
    subst this
    obtain ⟨c,hc⟩:=h n List.mem_cons_self
    rw [if_pos hk,if_pos hk]
    unfold cellOf
    rw [hc]
    simp only [pure_bind,Option.getD_some]
    exact ih _
   ·rw [if_neg hk,if_neg hk]
    simp only [pure_bind]
    exact ih _
theorem uF {scope:Scope} {env:Env} (h:∀ n,(n,NameKind.free)∈scope.names→∃ c,env.cells.lookup n=some c):closureFor scope env=pure (xk env.cells scope.names []):=by
 have:=zbT (env:=env) scope.names [] h
 unfold closureFor
 simp only [bind_pure]
 exact this
theorem xG {cells:List (Str×Addr)}:∀ (names:List (Str×NameKind)) (acc:List (Str×Addr)) (x:Str) (c:Addr),(∀ n,(n,NameKind.free)∈names→∃ c,cells.lookup n=some c) →
 (xk cells names acc).lookup x=some c→cells.lookup x=some c∨acc.lookup x=some c
 | [],acc,x,c,_,h=>.inr h
 | (n,k)::r,acc,x,c,hn,h=>by
   have hr:∀ m,(m,NameKind.free)∈r→∃ c,cells.lookup m=some c:=fun m hm=>hn m (List.mem_cons_of_mem _ hm)
   unfold xk at h
   split at h
   ·rename_i hk
    have:k=.free:=by simpa using hk
    subst this
    rcases xG r _ x c hr h with q | q
    ·exact .inl q
    ·rw [List.lookup_cons] at q
     cases hx:x == n with
     | true =>
       rw [hx] at q
       obtain ⟨c',hc⟩:=hn n List.mem_cons_self
       rw [hc] at q
       cases q
       rw [beq_iff_eq.mp hx]
       exact .inl hc
     | false=>rw [hx] at q; exact .inr q
   ·exact xG r _ x c hr h
theorem vC {cells:List (Str×Addr)}:∀ (names:List (Str×NameKind)) (acc:List (Str×Addr)) (x:Str),((x,NameKind.free)∈names∨(acc.lookup x).isSome=true)→((xk cells names acc).lookup x).isSome=true
 | [],acc,x,h=>by
   rcases h with h | h
   ·simp at h
   ·exact h
 | (n,k)::r,acc,x,h=>by
   unfold xk
   split
   ·refine vC r _ x ?_
    rcases h with h | h
    ·rcases List.mem_cons.mp h with e | e
     ·cases e
      exact .inr (by simp [List.lookup_cons])
     ·exact .inl e
    ·refine .inr ?_
     rw [List.lookup_cons]
     cases x == n with
     | true=>rfl
     | false=>exact h
   ·rename_i hk
    refine vC r _ x ?_
    rcases h with h | h
    ·rcases List.mem_cons.mp h with e | e
     ·cases e
      exact absurd rfl hk
     ·exact .inl e
    ·exact .inr h
theorem wd {env:Env}:∀ (names:List (Str×NameKind)) (x:Str) (k:NameKind),
 (names.map fun (n,k)=>if (k == NameKind.free&&env.scope.kind == .function&&env.kindOf n == some .cell) then (n,NameKind.cell) else (n,k)).lookup x=some k →
  names.lookup x=some k∨(k=.cell∧names.lookup x=some .free)
 | [],x,k,h=>by simp at h
 | (n,j)::r,x,k,h=>by
   have ih:=wd (env:=env) r x k
   rw [List.map_cons] at h
   by_cases hc:(j == NameKind.free&&env.scope.kind == .function&&env.kindOf n == some .cell)=true
   ·simp only [hc,if_true] at h
    rw [List.lookup_cons] at h ⊢
    cases hx:x == n with
    | true =>
      rw [hx] at h
      cases h
      have:j=.free:=by simp at hc; exact hc.1.1
      exact .inr ⟨rfl,by rw [this]⟩
    | false=>rw [hx] at h; exact ih h
   ·simp only [hc,Bool.false_eq_true,if_false] at h
    rw [List.lookup_cons] at h ⊢
    cases hx:x == n with
    | true=>rw [hx] at h; exact .inl h
    | false=>rw [hx] at h; exact ih h
theorem tQ {env:Env}:∀ (names:List (Str×NameKind)) (x:Str),names.lookup x=some .free →
 ((names.map fun (n,k)=>if (k == NameKind.free&&env.scope.kind == .function&&env.kindOf n == some .cell) then (n,NameKind.cell) else (n,k)).lookup x=some .cell ∨
  (names.map fun (n,k)=>if (k == NameKind.free&&env.scope.kind == .function&&env.kindOf n == some .cell) then (n,NameKind.cell) else (n,k)).lookup x=some .free)
 | [],x,h=>by simp at h
 | (n,j)::r,x,h=>by
   have ih:=tQ (env:=env) r x
   rw [List.map_cons]
   rw [List.lookup_cons] at h
   by_cases hc:(j == NameKind.free&&env.scope.kind == .function&&env.kindOf n == some .cell)=true
   ·simp only [hc,if_true]
    rw [List.lookup_cons]
    cases hx:x == n with
    | true=>exact .inl rfl
    | false=>rw [hx] at h; exact ih h
   ·simp only [hc,Bool.false_eq_true,if_false]
    rw [List.lookup_cons]
    cases hx:x == n with
    | true=>rw [hx] at h; exact .inr h
    | false=>rw [hx] at h; exact ih h
theorem zf1 {M:Model} {A:Around} {E:Value→Shared→Prop} {s:Shared} {scope:Scope} {env:Env} {cl:List (Str×Addr)} {Q:Env→Shared→Prop}
 (h:Q { scope:=scope,locals:=s.heap.objs.size,globals:=env.globals,cells:=cellsFrom (s.heap.objs.size+1) scope.names cl,qual:=env.qual,func:=none,code:=env.code,frame:=env.frame,builtins:=env.builtins }
  { s with heap:=pushCells (s.heap.push { cls:=.type "dict",data:=.dict #[] }) scope.names }) :
 wpAny M A (newFunctionEnv scope env.globals cl [] env.qual none .none (some env)) Q E s:=by
 simp only [newFunctionEnv,Option.isSome_some,if_true]
 refine wpAny_bind (wpAny_alloc ?_)
 refine wpAny_bind (wpAny_layCells _ (fun name kind cells=>by cases hkc:kind == NameKind.cell <;> simp [hkc]) _ _ _ _ ?_)
 rw [show ({ s with heap:=s.heap.push { cls:=.type "dict",data:=.dict #[] } }:Shared).heap.objs.size=s.heap.objs.size+1 from Heap.size_push ..]
 exact wpAny_bind (wpAny_pure (wpAny_pure h))
noncomputable def xj (X:Cx) (N':List Str) (scope:Scope) (ex:List Addr) (s:Shared) (H:Hp):Cx :=
 { X with
   N:=N'
   s₀:=s
   H₀:=H
   env:=compEnvC scope (cellsFrom (s.heap.objs.size+1) scope.names (xk X.env.cells scope.names [])) s.heap.objs.size X.env
   outer:=X.stack
   stack:=X.stack
   ex:=ex
   fn:=fun x=>scope.names.lookup x == some .cell
   pn:=[]
   xe:=fun _ _=>False }
structure CompOk (X:Cx) (scope:Scope) (cap:List Nat) (own:List Str):Prop where
 kind:scope.kind=.function
 locals:∀ x∈scope.names,x.2=.local→scope.names.lookup x.1=some .local
 nd:(scope.names.map (·.1)).Nodup
 frees:(scope.names.all fun x=>x.2 != .free || (X.env.scope.names.lookup x.1 == some .cell || X.env.scope.names.lookup x.1 == some .free))=true
 caps:(cap.all fun i=>match X.N[i]? with | some x=>scope.names.lookup x == some .free | none=>false)=true
noncomputable def capN (X:Cx) (cap:List Nat) (own:List Str):List Str:=cap.map (fun i=>X.N.getD i "")++own
noncomputable def capS (cap:List Nat) (n:Nat) (σ:St):St:=cap.map (fun i=>σ.getD i none)++List.replicate n none
@[simp] noncomputable def capE (cap:List Nat) (n:Nat) (env:Ev):Ev:=cap.map (fun i=>match env[i]? with | some (.pers d)=>.pers d | _=>.un)++List.replicate n .un
noncomputable def NoOwn (env:Ev):Prop:=∀ (i:Nat) (ds:List D),env[i]?≠some (.own ds)
theorem zay (cap:List Nat) (n:Nat) (env:Ev):NoOwn (capE cap n env):=by
 intro i ds h
 unfold capE at h
 by_cases hi:i<cap.length
 ·rw [List.getElem?_append_left (by simpa using hi),List.getElem?_map,List.getElem?_eq_getElem hi] at h
  simp only [Option.map_some] at h
  split at h <;> cases h
 ·rw [List.getElem?_append_right (by simpa using hi),List.getElem?_replicate] at h
  split at h <;> cases h
theorem zne {K:PySem.W.Frag} {G₀ H₀ G H:Hp} {env:Ev} {σ:St} (I:DI K G₀ H₀ env σ G H) (cap:List Nat) (n:Nat):DI K G₀ H₀ (capE cap n env) (capS cap n σ) G H where
 le:=I.le
 gr:=I.gr
 len:=by simp [capE,capS]
 slot:=fun i s e=>by
  cases s with
  | un=>trivial
  | own ds=>exact absurd e (zay cap n env i ds)
  | pers d =>
    unfold capE at e
    by_cases hi:i<cap.length
    ·rw [List.getElem?_append_left (by simpa using hi),List.getElem?_map,List.getElem?_eq_getElem hi] at e
     simp only [Option.map_some] at e
     split at e
     ·rename_i d' hd
      cases e
      obtain ⟨v,h1,h2⟩:=I.pers hd
      refine ⟨v,?_,h2⟩
      unfold capS
      rw [List.getElem?_append_left (by simpa using hi),List.getElem?_map,List.getElem?_eq_getElem hi]
      simp [List.getD_eq_getElem?_getD,h1]
     ·cases e
    ·rw [List.getElem?_append_right (by simpa using hi),List.getElem?_replicate] at e
     split at e <;> cases e
 apart:=fun i j ds es a _ e _ _ _=>zay cap n env i ds e
section
variable {X:Cx} {pins:List (Addr×Obj)} {σ:St} {H:Hp} {s:Shared} {scope:Scope} {cap:List Nat} {own:List Str}
theorem CompOk.free (C:CompOk X scope cap own) {n:Str} (h:(n,NameKind.free)∈scope.names):X.env.kindOf n=some .cell∨X.env.kindOf n=some .free:=by
 have q:=List.all_eq_true.mp C.frees _ h
 simp at q
 exact q
theorem CompOk.cells (C:CompOk X scope cap own) (I:Inv X pins σ H s):∀ n,(n,NameKind.free)∈scope.names→∃ c,X.env.cells.lookup n=some c:=fun n h=>I.ok.has n (C.free h)
theorem zjw {fp:List Addr} (C:CompOk X scope cap own) (I:Inv X pins σ H s) (hf:∀ b∈fp,FpOk X pins H b) (hex:∀ b∈fp,b<s.heap.objs.size) :
 Inv (xj X (capN X cap own) scope fp s H) [] (capS cap own.length σ) H { s with heap:=pushCells (s.heap.push { cls:=.type "dict",data:=.dict #[] }) scope.names }:=by
 have hcl:=C.cells I
 have keep:∀ b o,s.heap.get? b=some o→(pushCells (s.heap.push { cls:=.type "dict",data:=.dict #[] }) scope.names).get? b=some o:=fun b o e=>pushCells_keeps _ _ b o (Heap.get?_push_of_some _ e)
 have ok:=cellsFrom_ok scope.names (s.heap.push { cls:=.type "dict",data:=.dict #[] }) (s.heap.objs.size+1) [] ⟨fun _ _ hm=>(nomatch hm),List.Pairwise.nil⟩ (by rw [Heap.size_push]; exact Nat.le_refl _)
 rw [Heap.size_push] at ok
 have cases_cell:∀ x c,(cellsFrom (s.heap.objs.size+1) scope.names (xk X.env.cells scope.names [])).lookup x=some c →
  ((cellsFrom (s.heap.objs.size+1) scope.names []).lookup x=some c)∨((cellsFrom (s.heap.objs.size+1) scope.names []).lookup x=none∧X.env.cells.lookup x=some c):=fun x c h=>by
  rw [yp,List.lookup_append] at h
  cases q:(cellsFrom (s.heap.objs.size+1) scope.names []).lookup x with
  | some c'=>rw [q] at h; exact .inl h
  | none =>
    rw [q] at h
    simp at h
    rcases xG scope.names [] x c hcl h with z | z
    ·exact .inr ⟨rfl,z⟩
    ·simp at z
 have ownC:∀ x c,(cellsFrom (s.heap.objs.size+1) scope.names []).lookup x=some c→(pushCells (s.heap.push { cls:=.type "dict",data:=.dict #[] }) scope.names).IsCell c none∧s.heap.objs.size+1≤c:=fun x c h=>ok.empty x c (PySem.mem_of_lookup h)
 have oldC:∀ x c,X.env.cells.lookup x=some c→c<s.heap.objs.size:=fun x c h=>let ⟨_,z⟩:=I.cell x c h; z.lt
 have kindX:∀ x,(compEnvC scope (cellsFrom (s.heap.objs.size+1) scope.names (xk X.env.cells scope.names [])) s.heap.objs.size X.env).kindOf x=(relabel scope X.env).names.lookup x:=fun _=>rfl
 refine ⟨⟨I.ok.mod,C.kind,I.ok.glob,I.ok.blt,Nat.le_refl _,fun x y c h1 h2 => ?_,fun x hx => ?_,fun x c hx h => ?_,I.ok.hd,I.ok.frames,.inl rfl,fun b hb => ?_,I.bs,Nat.le_trans I.ok.bsz I.sz,fun b o e hb => ?_,fun b hb hs => ?_,I.stack,I.stkFree⟩,
  rfl,I.bare,Un.kept keep,⟨_,(Heap.Ns.new s.heap (.type "dict")).keeps (pushCells_keeps _ _),fun i x v e1 e2 e3 => ?_⟩,fun x c h => ?_,I.hok.fresh (Nat.le_refl _),fun x c h => ?_,fun p hp=>absurd (show p∈([]:List (Addr×Obj)) from hp) (by simp),I.hok.kept keep,?_⟩
 ·rcases cases_cell x c h1 with z1 | ⟨_,z1⟩
  ·rcases cases_cell y c h2 with z2 | ⟨_,z2⟩
   ·exact name_of_addr ok.apart (PySem.mem_of_lookup z1) (PySem.mem_of_lookup z2)
   ·exact absurd (Nat.lt_of_lt_of_le (Nat.lt_succ_of_lt (oldC y c z2)) (ownC x c z1).2) (Nat.lt_irrefl _)
  ·rcases cases_cell y c h2 with z2 | ⟨_,z2⟩
   ·exact absurd (Nat.lt_of_lt_of_le (Nat.lt_succ_of_lt (oldC x c z1)) (ownC y c z2).2) (Nat.lt_irrefl _)
   ·exact I.ok.inj x y c z1 z2
 ·show ∃ c,(cellsFrom (s.heap.objs.size+1) scope.names (xk X.env.cells scope.names [])).lookup x=some c
  rw [yp,List.lookup_append]
  cases q:(cellsFrom (s.heap.objs.size+1) scope.names []).lookup x with
  | some c'=>exact ⟨c',rfl⟩
  | none =>
    have fr:scope.names.lookup x=some .free→∃ c,(none.or ((xk X.env.cells scope.names []).lookup x))=some c:=fun z=>by
     have:=vC (cells:=X.env.cells) scope.names [] x (.inl (PySem.mem_of_lookup z))
     exact Option.isSome_iff_exists.mp (by simpa using this)
    have hx':(relabel scope X.env).names.lookup x=some .cell∨(relabel scope X.env).names.lookup x=some .free:=hx
    rcases hx' with z | z
    ·rcases wd scope.names x .cell z with z | ⟨_,z⟩
     ·obtain ⟨c,z2⟩:=zaj (n:=s.heap.objs.size+1) (sc:=scope) z
      rw [z2] at q; cases q
     ·exact fr z
    ·rcases wd scope.names x .free z with z | ⟨z,_⟩
     ·exact fr z
     ·cases z
 ·have hx':scope.names.lookup x=some .cell:=by simpa using (show (scope.names.lookup x == some .cell)=true from hx)
  rcases cases_cell x c h with z | ⟨z,_⟩
  ·exact Nat.le_of_lt (ownC x c z).2
  ·obtain ⟨c',z2⟩:=zaj (n:=s.heap.objs.size+1) (sc:=scope) hx'
   rw [z2] at z; cases z
 ·refine ⟨Nat.ne_of_lt (hex b hb),fun x c h z => ?_⟩
  rcases cases_cell x c h with q | ⟨_,q⟩
  ·exact absurd (Nat.lt_of_lt_of_le (Nat.lt_succ_of_lt (hex b hb)) (z ▸ (ownC x c q).2)) (Nat.lt_irrefl _)
  ·exact (hf b hb).2.2.2.2.1 x c q z
 ·rcases (hf b hb).2.2.2.1 with z | z
  ·exact I.ok.noex b o e z
  ·exact absurd (Nat.lt_of_lt_of_le (Heap.lt_size e) (Nat.le_trans I.ok.bsz z)) (Nat.lt_irrefl _)
 ·rcases List.mem_cons.mp (I.stkSub b hs) with z | z
  ·exact (hf b hb).2.1 z
  ·exact (hf b hb).2.2.1 z
 ·
  have e1':(capN X cap own)[i]?=some x:=e1
  unfold capN at e1'
  unfold capS at e2
  by_cases hi:i<cap.length
  ·rw [List.getElem?_append_left (by simpa using hi),List.getElem?_map,List.getElem?_eq_getElem hi] at e1' e2
   simp only [Option.map_some,Option.some.injEq] at e1' e2
   have hcap:=List.all_eq_true.mp C.caps cap[i] (List.getElem_mem hi)
   cases q:X.N[cap[i]]? with
   | none=>rw [q] at hcap; cases hcap
   | some y =>
     rw [q] at hcap
     have hy:scope.names.lookup y=some .free:=by simpa using hcap
     have hxy:x=y:=by rw [←e1',List.getD_eq_getElem?_getD,q]; rfl
     subst hxy
     have hs:σ[cap[i]]?=some (some v):=by
      rw [List.getD_eq_getElem?_getD] at e2
      cases z:σ[cap[i]]? with
      | none=>rw [z] at e2; cases e2
      | some w=>rw [z] at e2; simp at e2; rw [e2]
     have hk:=C.free (PySem.mem_of_lookup hy)
     obtain ⟨m,hn,hl⟩:=I.loc
     obtain ⟨u,ru,lk⟩:=hl cap[i] x v q hs (hk.elim (fun z=>.inr (.inl z)) fun z=>.inr (.inr z))
     refine ⟨u,ru,.inr ⟨?_,?_⟩⟩
     ·exact tQ scope.names x hy
     ·rcases lk with ⟨z,_⟩ | ⟨_,c,hc,hcell⟩
      ·rcases hk with z' | z' <;> (rw [z] at z'; cases z')
      ·refine ⟨c,?_,hcell.keeps keep⟩
       show (cellsFrom (s.heap.objs.size+1) scope.names (xk X.env.cells scope.names [])).lookup x=some c
       rw [yp,List.lookup_append]
       have hno:(cellsFrom (s.heap.objs.size+1) scope.names []).lookup x=none:=wI _ _ _ fun hm=>by
        have m1:=PySem.mem_of_lookup hy
        have:=C.nd
        rw [List.nodup_iff_pairwise_ne,List.pairwise_map] at this
        have:=List.Pairwise.forall_of_forall_of_flip (R:=fun a b:Str×NameKind=>a.1≠b.1∨a=b) (l:=scope.names) (fun _ _=>.inr rfl) (this.imp fun h=>.inl h) (this.imp fun h=>.inl h.symm)
        rcases this m1 hm with z | z
        ·exact z rfl
        ·cases z
       rw [hno]
       have hsome:=vC (cells:=X.env.cells) scope.names [] x (.inl (PySem.mem_of_lookup hy))
       obtain ⟨c',hc'⟩:=Option.isSome_iff_exists.mp hsome
       rcases xG scope.names [] x c' hcl hc' with z | z
       ·rw [hc] at z; cases z; simpa using hc'
       ·simp at z
  ·rw [List.getElem?_append_right (by simpa using hi),List.getElem?_replicate] at e2
   split at e2 <;> cases e2
 ·rcases cases_cell x c h with z | ⟨_,z⟩
  ·exact ⟨_,(ownC x c z).1⟩
  ·obtain ⟨v,q⟩:=I.cell x c z
   exact ⟨v,q.keeps keep⟩
 ·rcases cases_cell x c h with z | ⟨_,z⟩
  ·exact I.hok.fresh (Nat.le_of_lt (ownC x c z).2)
  ·exact I.freeC x c z
 ·show (capS cap own.length σ).length=(capN X cap own).length
  simp [capS,capN]
end
end DL
namespace DL
open PySem PySem.Spec PyProof.Rows L2
theorem zdK {prog:Program} {w:World} {A:Around} {R:Result→Shared→Prop} {s:Shared} {elt target iter:Expr} {ifs:List Expr} {scope:Scope} {pos:Pos} {it acc:Value} {env:Env} (I:Nat→Shared→Prop)
 (turn:∀ n s,I n s→wpAny (model prog w) A (pyNext it) (fun r s₁=>match r with
  | none=>R (.ok .next) s₁
  | some v=>wpAny (model prog w) A (letOwnedTupleGo target it v) (fun _ s₁'=>wpAny (model prog w) A (assign target env v) (fun _ s₂ =>
   wpAny (model prog w) A (forIn ifs true fun c r=>if r=true then do let ok ← isTrue c env (eval c env); pure (ForInStep.yield ok) else pure (ForInStep.yield r)) (fun ok s₃ =>
    if ok=true then wpAny (model prog w) A (eval elt env) (fun x s₄ =>
     wpAny (model prog w) A (call (.builtin "list.append") [acc,x]) (fun _ s₅=>∃ m,m<n∧I m s₅) (fun _ _=>False) s₄) (fun _ _=>False) s₃
    else ∃ m,m<n∧I m s₃) (fun _ _=>False) s₂) (fun _ _=>False) s₁') (fun _ _=>False) s₁) (fun _ _=>False) s)
 (n:Nat) (h:I n s) :
 codeAny (model prog w) A (.compLoop (.ListComp elt [⟨target,iter,ifs,0⟩] scope pos) 0 it acc env) R s:=by
 refine codeAny_loop rfl I (fun n s hI => ?_) n h
 show wpAny _ A ((compTurn (.ListComp elt [⟨target,iter,ifs,0⟩] scope pos) 0 it acc env).onRaise (fun x=>do noteFrame x env; theTreesLotGoes x)) _ _ s
 refine wpAny_noted ?_
 rw [compTurn_list]
 refine wpAny_bind (wpAny_standAt (wpAny_bind (wpAny_mono (turn n s hI) (fun r s₁ h₁ => ?_) fun _ _ h'=>h'.elim)))
 cases r with
 | none=>exact wpAny_pure h₁
 | some v =>
   refine wpAny_bind (wpAny_mono h₁ (fun _ s₁' h₁' => ?_) fun _ _ h'=>h'.elim)
   refine wpAny_bind (wpAny_mono h₁' (fun _ s₂ h₂=>wpAny_bind (wpAny_mono h₂ (fun ok s₃ h₃ => ?_) fun _ _ h'=>h'.elim)) fun _ _ h'=>h'.elim)
   cases ok with
   | false=>exact wpAny_pure ⟨rfl,h₃⟩
   | true =>
     exact wpAny_bind (wpAny_bind (wpAny_mono h₃ (fun x s₄ h₄=>wpAny_bind (wpAny_mono h₄ (fun _ s₅ h₅=>wpAny_pure (wpAny_pure ⟨rfl,h₅⟩)) fun _ _ h'=>h'.elim)) fun _ _ h'=>h'.elim))
noncomputable def compD (g:D→Ev→Out Ev) (ft:FT) (fe:FE):List D→Ev→Out (List D)
 | [],_=>.ok []
 | d::ds,env=>(g d env).bind fun env1=>(ft env1).bind fun c=>if c=true then (fe env1).bind fun x=>x.hold.bind fun y=>(compD g ft fe ds env1).bind fun r=>.ok (y::r) else compD g ft fe ds env1
@[simp] noncomputable def yy (cap:List Nat) (n:Nat) (fi:FI) (g:D→Ev→Out Ev) (ft:FT) (fe:FE):FE:=fun env=>(fi env).bind fun ds=>if ds.length≤100000 then (compD g ft fe ds (capE cap n env)).bind fun out=>.ok (.fresh out) else .bad
noncomputable def DTs (X:Cx) (G₀ H₀:Hp) (ifs:List Expr) (ft:FT):Prop:=∀ (pins:List (Addr×Obj)) (s:Shared) (σ:St) (H:Hp) (Q:Bool→Hp→Prop),Inv X pins σ H s→tT X.K G₀ H₀ ft σ H Q →
 wpAny (model X.prog X.w) X.A (forIn ifs true fun c r=>if r=true then do let ok ← isTrue c X.env (eval c X.env); pure (ForInStep.yield ok) else pure (ForInStep.yield r)) (TP X pins σ Q) X.xe s
@[simp] noncomputable def fYes:FT:=fun _=>.ok true
theorem we {X:Cx} {G₀ H₀:Hp}:DTs X G₀ H₀ [] fYes:=fun pins s σ H Q I q=>wpAny_tests_nil (by
 obtain ⟨env,G,b,J,e,k⟩:=q
 cases e
 exact ⟨H,I,k G H (Grow.refl _ _) J.le⟩)
theorem vb {X:Cx} {G₀ H₀:Hp} {c:Expr} {ft:FT} (h:DT X G₀ H₀ c ft):DTs X G₀ H₀ [c] ft:=fun pins s σ H Q I q=>wpAny_tests_one (h pins s σ H Q I q)
noncomputable def Calm (g:D→Ev→Out Ev):Prop:=∀ d env env',g d env=.ok env'→NoOwn env→NoOwn env'
theorem NoOwn.set {env:Ev} (h:NoOwn env) (i:Nat) (d:D):NoOwn (env.set i (.pers d)):=fun j ds e=>by
 by_cases hj:i=j
 ·subst hj; cases (yH e).1
 ·rw [List.getElem?_set_ne hj] at e; exact h j ds e
theorem yx (i:Nat):Calm (gN i):=fun d env env' e h=>by cases e; exact h.set i d
theorem NoOwn.setAll:∀ (is:List Nat) (ds:List D) {env:Ev},NoOwn env→NoOwn (setAll is ds env)
 | [],_,_,h=>h
 | _::_,[],_,h=>h
 | i::is,d::ds,env,h=>NoOwn.setAll is ds (h.set i d)
theorem vD (is:List Nat):Calm (gT is):=fun d env env' e h=>by
 unfold gT at e
 split at e
 ·split at e
  ·cases e; exact NoOwn.setAll is _ h
  ·cases e
 ·cases e
theorem DI.other {K:PySem.W.Frag} {G₀ H₀ G H:Hp} {env:Ev} {σ:St} (I:DI K G₀ H₀ env σ G H) (h:NoOwn env) {p:Addr} {o:HO} (hg:G p=none) (h0:H₀ p=none):DI K G₀ H₀ env σ G (upd H p o) where
 le:=fun b u q=>by rw [zN (zI q hg)]; exact I.le b u q
 gr:=⟨I.gr.g,fun b u q=>by rw [zN (zI q h0)]; exact I.gr.h b u q,I.gr.n⟩
 len:=I.len
 slot:=fun i s e=>by
  cases s with
  | un=>trivial
  | pers d=>exact I.slot i _ e
  | own ds=>exact absurd e (h i ds)
 apart:=I.apart
section
variable {X:Cx} {G₀ H₀:Hp} {elt iter tg:Expr} {ifs:List Expr} {scope:Scope} {pos:Pos} {fi:FI} {g:D→Ev→Out Ev} {ft:FT} {fe:FE} {cap:List Nat} {own:List Str}
structure CLoop (Iv:St→Hp→Shared→Prop) (K:PySem.W.Frag) (G₀ H₀ G2 H2:Hp) (g:D→Ev→Out Ev) (ft:FT) (fe:FE) (ds out:List D) (fp:List Addr) (a:Addr) (tn:Nat→Heap→Prop) (k:Nat) (s':Shared) (i:Nat) (σ':St) (H' G':Hp) (env':Ev) (accD:List D) (accV:List V) (rest:List D):Prop where
 hk:k=ds.length+1 - i
 hi:i≤ds.length
 iv:Iv σ' H' s'
 st:tn i s'.heap
 fr:∀ b∈fp,H' b=none
 di:DI K G₀ H₀ env' σ' G' H'
 no:NoOwn env'
 gr:Grow G2 H2 G' H'
 ha:H' a=some (.lst accV)
 ga:G' a=none
 ra:RepL K G' accD accV
 la:accD.length≤i
 ec:compD g ft fe (ds.drop i) env'=.ok rest
 eo:out=accD++rest
theorem zbS (C:CompOk X scope cap own) (hc:X.calm=true)
 (hg:∀ ex s H,DG (xj X (capN X cap own) scope ex s H) G₀ H₀ tg g) (hgc:Calm g) (ht:∀ ex s H,DTs (xj X (capN X cap own) scope ex s H) G₀ H₀ ifs ft) (he:∀ ex s H,DE (xj X (capN X cap own) scope ex s H) G₀ H₀ elt fe)
 {pins:List (Addr×Obj)} {σ:St} {H2 G2:Hp} {s2:Shared} {env:Ev} {it:Addr} {fp:List Addr} {tn:Nat→Heap→Prop} {J:It} {ds out:List D}
 (I2:Inv X pins σ H2 s2) (D2:DI X.K G₀ H₀ env σ G2 H2) (T:Turn X.prog X.w X.K tg J fp it tn) (st2:tn 0 s2.heap) (f2:∀ b∈fp,FpOk X pins H2 b) (jok:JOk X.K J G2 ds) (hz:ds.length≤100000)
 (e:compD g ft fe ds (capE cap own.length env)=.ok out) {RR:Value→Addr→Result→Shared→Prop} {E:Value→Shared→Prop}
 (fin:∀ (D C:Addr) (vs:List V) (G' H':Hp) (s':Shared),s2.heap.objs.size≤C∧H' C=none→H2 D=none→H' D=some (.lst vs)→G' D=none→RepL X.K G' out vs→Grow G2 H2 G' H'→Same G' H' →
  (∃ m,s'.heap.Ns C m)→(∀ h',Heap.SameBut C s'.heap h'→Inv X pins σ H' { s' with heap:=h' })→RR (.ref D) C (.ok .next) s') :
 wpAny (model X.prog X.w) X.A (newList []) (fun acc s₃=>wpAny (model X.prog X.w) X.A (newFunctionEnv scope X.env.globals (xk X.env.cells scope.names []) [] X.env.qual none .none (some X.env)) (fun cenv s₄ =>
  codeAny (model X.prog X.w) X.A (.compStart (.ListComp elt [⟨tg,iter,ifs,0⟩] scope pos) 0 (.ref it) acc { cenv with scope:=relabel scope X.env }) (RR acc cenv.locals) s₄) E s₃) E s2:=by
 have hlt:∀ b∈fp,b<s2.heap.objs.size:=fun b hb=>let ⟨o,eo,_⟩:=T.obj _ _ st2 b hb; Heap.lt_size eo
 refine wpAny_newObj_type (zf1 ?_)
 dsimp only
 generalize hD:s2.heap.objs.size=D
 have fD:H2 D=none:=by rw [←hD]; exact I2.fresh
 have I3:Inv X pins σ (upd H2 D (.lst [])) { s2 with heap:=s2.heap.push { cls:=.type "list",data:=.seq ([]:List Value).toArray } }:=by
  have:=I2.lnew (t':=s2.toks) (ys:=[]) (its:=[]) .nil (Nat.zero_le _)
  rw [hD] at this
  exact this
 generalize hs3:({ s2 with heap:=s2.heap.push { cls:=.type "list",data:=.seq ([]:List Value).toArray } }:Shared)=s3 at I3
 have hs3':s3.heap=s2.heap.push { cls:=.type "list",data:=.seq ([]:List Value).toArray }:=by rw [←hs3]
 have f3:∀ b∈fp,FpOk X pins (upd H2 D (.lst [])) b:=fun b hb=>⟨by rw [zN (by rw [←hD]; exact Nat.ne_of_lt (hlt b hb))]; exact (f2 b hb).1,(f2 b hb).2⟩
 have hlt3:∀ b∈fp,b<s3.heap.objs.size:=fun b hb=>by rw [hs3',Heap.size_push]; exact Nat.lt_succ_of_lt (hlt b hb)
 have I4:=zjw C I3 f3 hlt3
 have st4:tn 0 (pushCells (s3.heap.push { cls:=.type "dict",data:=.dict #[] }) scope.names):=T.keep _ _ _ st2 fun b hb o eo=>pushCells_keeps _ _ b o (Heap.get?_push_of_some _ (by rw [hs3']; exact Heap.get?_push_of_some _ eo))
 have g3:Grow G2 H2 G2 (upd H2 D (.lst []))∧Same G2 (upd H2 D (.lst [])):=Grow.laidL D2.le fD
 have D4:DI X.K G₀ H₀ (capE cap own.length env) (capS cap own.length σ) G2 (upd H2 D (.lst [])):=zne (D2.grow g3.1 g3.2) cap own.length
 have stat:∀ {H':Hp},(∀ b∈fp,H' b=none)→∀ b∈fp,FpOk (xj X (capN X cap own) scope fp s3 (upd H2 D (.lst []))) [] H' b:=fun {H'} hn b hb =>
  ⟨hn b hb,(I4.ok.exf b hb).1,I4.ok.exfs b hb,.inl hb,(I4.ok.exf b hb).2,fun p hp=>absurd (show p∈([]:List (Addr×Obj)) from hp) (by simp)⟩
 have hG2D:G2 D=none:=D2.le.free fD
 have h0D:H₀ D=none:=D2.gr.h.free fD
 have loop:∀ s4:Shared,s4={ s3 with heap:=pushCells (s3.heap.push { cls:=.type "dict",data:=.dict #[] }) scope.names } →
  codeAny (model X.prog X.w) X.A (.compLoop (.ListComp elt [⟨tg,iter,ifs,0⟩] scope pos) 0 (.ref it) (.ref D) (xj X (capN X cap own) scope fp s3 (upd H2 D (.lst []))).env) (RR (.ref D) s3.heap.objs.size) s4:=by
  rintro s4 rfl
  refine zdK (fun k s'=>∃ i σ' H' G' env' accD accV rest,CLoop (fun σ H s=>Inv (xj X (capN X cap own) scope fp s3 (upd H2 D (.lst []))) [] σ H s) X.K G₀ H₀ G2 H2 g ft fe ds out fp D tn k s' i σ' H' G' env' accD accV rest) ?_ (ds.length+1)
   ⟨0,_,_,G2,_,[],[],out,rfl,Nat.zero_le _,I4,st4,fun b hb=>(f3 b hb).1,D4,zay _ _ _,g3.1,yc,hG2D,RepL.nil,Nat.zero_le _,by simpa using e,rfl⟩
  rintro k s5 ⟨i,σ5,H5,G5,env5,accD,accV,rest,rfl,hi,I5,st5,fr5,D5,no5,gr5,hD5,gD5,ra5,la5,e5,eo⟩
  by_cases hlt5:i<ds.length
  ·have hd:ds.drop i=ds[i]::ds.drop (i+1):=List.drop_eq_getElem_cons hlt5
   rw [hd] at e5
   obtain ⟨env6,e6,e5⟩:=zq e5
   obtain ⟨c,e7,e5⟩:=zq e5
   refine thn (T.item (xj X (capN X cap own) scope fp s3 (upd H2 D (.lst []))) rfl rfl rfl hc i [] s5 σ5 H5 (fun _ _=>False) I5 (stat fr5) st5 (jok.go i G5 H5 gr5.g D5.le hlt5)) fun r s6 ⟨u,hr,h6⟩ => ?_
   subst hr
   refine thn h6 fun _ s7 ⟨x,H7,I7,r7,y7,st7,fr7⟩ => ?_
   obtain ⟨d,G7,hd7,g7,l7,rx7⟩:=jok.yld i G5 H5 x H7 gr5.g D5.le hlt5 y7
   have hde:d=ds[i]:=by rw [List.getElem?_eq_getElem hlt5] at hd7; exact (Option.some.inj hd7).symm
   subst hde
   have D7:=D5.grow g7 l7
   have I7':=I7.pinned (stat fr7) (T.obj _ _ st7)
   refine thn (hg fp s3 (upd H2 D (.lst [])) _ s7 σ5 H7 x u (fun σ8 H8=>H8=H7∧DI X.K G₀ H₀ env6 σ8 G7 H7) I7' r7 ⟨env5,G7,_,env6,D7,rx7,e6,fun σ8 D8=>⟨rfl,D8⟩⟩) fun _ s8 ⟨σ8,H8,I8,hH8,D8⟩ => ?_
   subst hH8
   have no8:NoOwn env6:=hgc _ _ _ e6 no5
   have hD7:H8 D=some (.lst accV):=g7.h _ _ hD5
   have gD7:G7 D=none:=g7.n D (by rw [hD5]; simp) gD5
   refine thn (ht fp s3 (upd H2 D (.lst [])) _ s8 σ8 H8 (fun b H9=>b=c∧∃ G9,Grow G7 H8 G9 H9∧Same G9 H9) I8 ⟨env6,G7,c,D8,e7,fun G9 H9 g9 l9=>⟨rfl,G9,g9,l9⟩⟩) fun ok s9 ⟨H9,I9,hok,G9,g9,l9⟩ => ?_
   subst hok
   have D9:=D8.grow g9 l9
   have back:∀ {s10:Shared} {σ10:St} {H10:Hp},Inv (xj X (capN X cap own) scope fp s3 (upd H2 D (.lst []))) ([]++zc9 fp s7.heap) σ10 H10 s10 →
    Inv (xj X (capN X cap own) scope fp s3 (upd H2 D (.lst []))) [] σ10 H10 s10∧tn (i+1) s10.heap∧(∀ b∈fp,H10 b=none):=fun {s10 σ10 H10} I10=>by
    refine ⟨I10.unpinned,T.keep _ _ _ st7 fun b hb o eb=>(I10.pin (b,o) (List.mem_append_right _ (List.mem_append_right _ (vq hb eb)))).1,fun b hb => ?_⟩
    obtain ⟨o,eb,d⟩:=T.obj _ _ st7 b hb
    exact (I10.pin (b,o) (List.mem_append_right _ (List.mem_append_right _ (vq hb eb)))).2.1
   have gr9:Grow G2 H2 G9 H9:=(gr5.trans g7).trans g9
   cases ok with
   | false =>
     rw [if_neg Bool.false_ne_true] at e5 ⊢
     obtain ⟨I10,st10,fr10⟩:=back I9
     exact ⟨ds.length+1 - (i+1),by lia,i+1,σ8,H9,G9,env6,accD,accV,rest,rfl,hlt5,I10,st10,fr10,D9,no8,gr9,g9.h _ _ hD7,g9.n D (by rw [hD7]; simp) gD7,(ra5.mono g7.g).mono g9.g,by lia,e5,eo⟩
   | true =>
     rw [if_pos rfl] at e5 ⊢
     obtain ⟨xv,e8,e5⟩:=zq e5
     obtain ⟨y,e9,e5⟩:=zq e5
     obtain ⟨rest',e10,e5⟩:=zq e5
     cases e5
     refine thn (he fp s3 (upd H2 D (.lst [])) _ s9 σ8 H9 (fun v H10=>∃ G10,Grow G9 H9 G10 H10∧Same G10 H10∧Rep X.K G10 y v) I9 ⟨env6,G9,xv,D9,e8,fun v G10 H10 g10 l10 h10=>held g10 l10 h10 e9⟩) fun u10 s10 ⟨v10,H10,I10,r10,G10,g10,l10,rep10⟩ => ?_
     have D10:=D9.grow g10 l10
     have hD10:H10 D=some (.lst accV):=g10.h _ _ (g9.h _ _ hD7)
     have gD10:G10 D=none:=g10.n D (by rw [g9.h _ _ hD7]; simp) (g9.n D (by rw [hD7]; simp) gD7)
     have ra10:=((ra5.mono g7.g).mono g9.g).mono g10.g
     refine thn (zaC (X:=xj X (capN X cap own) scope fp s3 (upd H2 D (.lst []))) _ s10 σ8 H10 (.ref D) [v10] (.ref D) [u10] (fun _ H11=>H11=upd H10 D (.lst (accV++[v10]))) I10 rfl (.cons r10 .nil)
      ⟨D,accV,v10,rfl,rfl,hD10,by rw [←ra10.length,sizeLine_eq]; lia,rfl⟩) fun _ s11 ⟨_,H11,I11,_,hH11⟩ => ?_
     subst hH11
     obtain ⟨I12,st12,fr12⟩:=back I11
     have gr10:Grow G2 H2 G10 (upd H10 D (.lst (accV++[v10]))):=by
      have q:=gr9.trans g10
      exact ⟨q.g,fun b o z=>by rw [zN (zI z fD)]; exact q.h b o z,q.n⟩
     exact ⟨ds.length+1 - (i+1),by lia,i+1,σ8,_,G10,env6,accD++[y],accV++[v10],rest',rfl,hlt5,I12,st12,fr12,D10.other no8 gD10 h0D,no8,gr10,yc,gD10,ra10.append (RepL.cons rep10 RepL.nil),by simp; lia,e10,by rw [eo]; simp⟩
  ·have hi5:i=ds.length:=by lia
   subst hi5
   refine thn (T.done (xj X (capN X cap own) scope fp s3 (upd H2 D (.lst []))) rfl rfl rfl hc _ [] s5 σ5 H5 (fun _ _=>False) I5 (stat fr5) st5 (jok.stop _ G5 H5 gr5.g D5.le (Nat.le_refl _))) fun r s6 ⟨hr,I6⟩ => ?_
   subst hr
   rw [List.drop_length] at e5
   cases e5
   have eo':out=accD:=by rw [eo]; simp
   refine fin D s3.heap.objs.size accV G5 H5 s6 ?_ fD hD5 gD5 (by rw [eo']; exact ra5) gr5 D5.le ?_ fun h' sb => ?_
   ·exact ⟨by rw [hs3',Heap.size_push]; exact Nat.le_succ _,I6.free⟩
   ·obtain ⟨m,hm,_⟩:=I6.loc
    exact ⟨m,hm⟩
   ·have ne:∀ b o,s3.heap.get? b=some o→b≠s3.heap.objs.size:=fun b o eb=>Nat.ne_of_lt (Heap.lt_size eb)
    have frC:H5 s3.heap.objs.size=none:=I6.free
    have up:∀ b o,b≠s3.heap.objs.size→s6.heap.get? b=some o→h'.get? b=some o:=fun b o hb eb=>sb.extBut b o hb eb
    have ub:=I6.base
    have U:Un (frs X.stack) fp (upd H2 D (.lst [])) H5 s3.heap h' :=
     ⟨fun b o eb n hb hx=>up b o (ne b o eb) (ub.keep b o eb n hb hx),fun b o eb n hb hx=>let ⟨sl,q⟩:=ub.slot b o eb n hb hx; ⟨sl,up b _ (ne b o eb) q⟩,ub.free,fun b o eb hx=>let ⟨o',q⟩:=ub.there b o eb hx; ⟨o',up b _ (ne b o eb) q⟩,ub.tups,ub.frzs,ub.tbls⟩
    have hok:HOk X.prog X.w H5 h':=fun b u eb=>(I6.hok b u eb).stay (fun c v hc' q=>up c v (by
     rcases hc' with rfl | hc'
     ·intro z; rw [z,frC] at eb; cases eb
     ·intro z; rw [z,frC] at hc'; cases hc') q) (fun _ q=>q) fun _ _ q=>q
    exact I3.call' (s':={ s6 with heap:=h' }) I6.os U hok I6.bare fun b hb=>let ⟨a0,a1,a2,a3,a4,a5⟩:=f3 b hb; ⟨a3,a1,a4,a5⟩
 subst hs3
 exact codeAny_compStart_list (loop _ rfl) (T.self _ 0 _ _ _ st4 (loop _ rfl))
theorem xz (C:CompOk X scope cap own) (hi:DIt X G₀ H₀ tg iter fi)
 (hg:∀ ex s H,DG (xj X (capN X cap own) scope ex s H) G₀ H₀ tg g) (hgc:Calm g) (ht:∀ ex s H,DTs (xj X (capN X cap own) scope ex s H) G₀ H₀ ifs ft) (he:∀ ex s H,DE (xj X (capN X cap own) scope ex s H) G₀ H₀ elt fe)
 (hc:X.calm=true:=by rfl) (hs:∀ x,foldedSetIterable iter X.env x=pure x:=by intro _; rfl):DE X G₀ H₀ (.ListComp elt [⟨tg,iter,ifs,0⟩] scope pos) (yy cap own.length fi g ft fe):=by
 intro pins s σ H Q I q
 obtain ⟨env,G,val,D0,e,k⟩:=q
 obtain ⟨ds,e1,e⟩:=zq e
 split at e
 ·rename_i hz
  obtain ⟨out,e2,e⟩:=zq e
  cases e
  rw [eval_ListComp]
  refine wpAny_comprehension_free (use:=none) (cl:=xk X.env.cells scope.names []) rfl hs (uF (C.cells I)) C.kind C.locals ?_
  refine thn (hi pins s σ H (fun J H2=>∃ G2,Grow G H G2 H2∧Same G2 H2∧JOk X.K J G2 ds) I ⟨env,G,ds,D0,e1,fun J G2 H2 g2 l2 jok=>⟨G2,g2,l2,jok⟩⟩) fun v s1 h1=>thn h1 fun itv s2 h2 => ?_
  obtain ⟨it,fp,tn,J,H2,rfl,I2,T,st2,f2,G2,g2,l2,jok⟩:=h2
  refine zbS (RR:=fun acc C=>compPost (model X.prog X.w) X.A X.xe none (EP X pins σ Q) acc C) C hc hg hgc ht he I2 (D0.grow g2 l2) T st2 f2 jok hz e2 fun D C' vs G' H' s' hC fD hD gD r gr l hm hI => ?_
  obtain ⟨m,hm⟩:=hm
  exact ⟨m,hm,fun h' sb=>⟨.ref D,H',hI h' sb,rfl,k _ G' H' (g2.trans gr) l ⟨D,vs,rfl,g2.h.free fD,hD,gD,r⟩⟩⟩
 ·cases e
end
end DL
namespace DL
open PySem PySem.Spec PyProof.Rows L2
theorem zjz {X:Cx}:tJ X (.builtin "isinstance") (fun xs H Q=>∃ x t T b,xs=[x,.ty T]∧TyOf X.K H x t∧PySem.W.kitOne X.K t (.type T)=some b∧Q (.bl b) H):=by
 intro pins s σ H xs us Q I r h
 obtain ⟨x,t,T,b,rfl,ty,e,q⟩:=h
 obtain ⟨u,w',rfl,r1,r2⟩:=zgx r
 cases (show w'=.type T from r2)
 exact zhJ I r1 ty e fun tk=>⟨.bl b,H,I.tok _,rfl,q⟩
@[simp] noncomputable def isiD (T:String):D→Option Bool
  | .non=>some false
  | .bl _=>some (decide (T = "int") || decide (T = "bool"))
  | .int _=>some (decide (T = "int"))
  | .lst _=>some (decide (T = "list"))
  | .tup _=>some (decide (T = "tuple"))
  | _=>none
@[simp] noncomputable def gIsi (T:String) (x:D):Out Val:=match isiD T x with
  | some b=>.ok (.pers (.bl b))
  | none=>.bad
structure IsiT (T:String):Prop where
 mem:T = "int" ∨ T = "bool" ∨ T = "list" ∨ T = "tuple"
theorem zlm {K:PySem.W.Frag} {T:String} (h:IsiT T) {G₀ H₀:Hp} {env:Ev} {σ:St} {G H:Hp} {v:V} {d:D} {b:Bool} (I:DI K G₀ H₀ env σ G H) (o:Opd K env σ G v d) (e:isiD T d=some b) :
 ∃ t,TyOf K H v t∧PySem.W.kitOne K t (.type T)=some b:=by
 cases d with
 | non =>
   cases e; rw [o.non]; refine ⟨_,.non,?_⟩
   rcases h.mem with rfl | rfl | rfl | rfl <;> kernel_rfl
 | bl c =>
   cases e; rw [o.bl]; refine ⟨_,.bl c,?_⟩
   rcases h.mem with rfl | rfl | rfl | rfl <;> kernel_rfl
 | int i =>
   cases e; rw [o.int]; refine ⟨_,.int i,?_⟩
   rcases h.mem with rfl | rfl | rfl | rfl <;> kernel_rfl
 | lst ds =>
   cases e
   obtain ⟨a,vs,rfl,h1,_⟩:=Opd.lst I o
   refine ⟨_,.lst h1,?_⟩
   rcases h.mem with rfl | rfl | rfl | rfl <;> kernel_rfl
 | tup ds =>
   cases e
   obtain ⟨a,vs,rfl,h1,_⟩:=Opd.tup I o
   refine ⟨_,.tup h1,?_⟩
   rcases h.mem with rfl | rfl | rfl | rfl <;> kernel_rfl
 | scr ns=>cases e
 | exc c p=>cases e
theorem zfS {X:Cx} {G₀ H₀:Hp} {p p2 pos:Pos} {e:Expr} {f:FE} {xT:Str} {T:String} (hT:IsiT T) (he:DE X G₀ H₀ e f) (hm:X.mg "isinstance" = none) (hmT:X.mg xT=none) (hvT:bootBuiltins xT=some (.type T))
 (hg:Gl X "isinstance" := by rfl) (hgT:Gl X xT:=by rfl) (hn:xT ≠ "__name__" := by decide) (hd:(xT == ("__debug__" : Str))=false:=by decide)
 (hs:starEach [e,.Name xT p2] X.env=(false,eval e X.env)::starEach [.Name xT p2] X.env:=by rfl) (hs2:starEach [.Name xT p2] X.env=[(false,eval (.Name xT p2) X.env)]:=by rfl) (hpl:(backTo pos (starEach [.Name xT p2] X.env)).any (·.1)=false:=by rfl) :
 DE X G₀ H₀ (.Call (.Name "isinstance" p) [e,.Name xT p2] [] pos) (f1 (gIsi T) f) :=
 (zcb zjz hg hm boot_isinstance (yX he (yX (zkZ (v:=.ty T) hgT hmT hvT rfl hn hd) wY hs2) hs) (by decide) (by decide) hs hpl).imp fun σ H Q q=>by
  obtain ⟨env,G,val,I,e,k⟩:=q
  obtain ⟨x,e1,e⟩:=zq e
  refine xL I e1 fun v G' H' g l I' o => ?_
  unfold gIsi at e
  split at e
  ·rename_i b hb
   cases e
   obtain ⟨t,h1,h2⟩:=zlm hT I' o hb
   exact ⟨v,t,T,b,rfl,h1,h2,k _ G' H' g l rfl⟩
  ·cases e
theorem zln:IsiT "int" := ⟨.inl rfl⟩
theorem zjk:IsiT "bool" := ⟨.inr (.inl rfl)⟩
theorem zjj:IsiT "list" := ⟨.inr (.inr (.inl rfl))⟩
theorem zhK:IsiT "tuple" := ⟨.inr (.inr (.inr rfl))⟩
noncomputable def ins (n:Int):List Int→List Int
 | []=>[n]
 | m::r=>if n≤m then n::m::r else m::ins n r
noncomputable def yG:List Int→List Int
 | []=>[]
 | n::r=>ins n (yG r)
theorem zck (n:Int):∀ l:List Int,(ins n l).Perm (n::l)
 | []=>List.Perm.refl _
 | m::r=>by
   unfold ins
   split
   ·exact List.Perm.refl _
   ·exact ((zck n r).cons m).trans (List.Perm.swap n m r)
theorem yd:∀ l:List Int,(yG l).Perm l
 | []=>List.Perm.refl _
 | n::r=>(zck n (yG r)).trans ((yd r).cons n)
theorem zbE (n:Int):∀ l:List Int,l.Pairwise (· ≤ ·)→(ins n l).Pairwise (· ≤ ·)
 | [],_=>by simp [ins]
 | m::r,h=>by
   unfold ins
   have h':=List.pairwise_cons.mp h
   split
   ·rename_i hn
    refine List.pairwise_cons.mpr ⟨fun x hx => ?_,h⟩
    rcases List.mem_cons.mp hx with rfl | hx
    ·exact hn
    ·exact Int.le_trans hn (h'.1 x hx)
   ·rename_i hn
    refine List.pairwise_cons.mpr ⟨fun x hx => ?_,zbE n r h'.2⟩
    rcases List.mem_cons.mp ((zck n r).mem_iff.mp hx) with rfl | hx
    ·lia
    ·exact h'.1 x hx
theorem yF:∀ l:List Int,(yG l).Pairwise (· ≤ ·)
 | []=>List.Pairwise.nil
 | n::r=>zbE n _ (yF r)
theorem xE:∀ {a b:List Int},a.Perm b→a.Pairwise (· ≤ ·)→b.Pairwise (· ≤ ·)→a=b
 | [],b,p,_,_=>by rw [List.Perm.nil_eq p]
 | x::a,[],p,_,_=>by have:=p.length_eq; simp at this
 | x::a,y::b,p,ha,hb=>by
   have ha':=List.pairwise_cons.mp ha
   have hb':=List.pairwise_cons.mp hb
   have e:x=y:=by
    have h1:x∈y::b:=p.mem_iff.mp List.mem_cons_self
    have h2:y∈x::a:=p.mem_iff.mpr List.mem_cons_self
    rcases List.mem_cons.mp h1 with h1 | h1
    ·exact h1
    ·rcases List.mem_cons.mp h2 with h2 | h2
     ·exact h2.symm
     ·exact Int.le_antisymm (ha'.1 y h2) (hb'.1 x h1)
   subst e
   rw [xE ((List.perm_cons x).mp p) ha'.2 hb'.2]
noncomputable def vN:List D→Option (List Int)
 | []=>some []
 | .int i::ds=>(vN ds).map (i :: ·)
 | _::_=>none
theorem za4:∀ {ds:List D} {ns:List Int},vN ds=some ns→ds=ns.map .int
 | [],ns,h=>by cases h; rfl
 | .int i::ds,ns,h=>by
   simp only [vN] at h
   cases q:vN ds with
   | none=>rw [q] at h; cases h
   | some ms=>rw [q] at h; cases h; rw [za4 q]; rfl
 | .non::ds,ns,h=>by cases h
 | .bl _::ds,ns,h=>by cases h
 | .tup _::ds,ns,h=>by cases h
 | .lst _::ds,ns,h=>by cases h
 | .scr _::ds,ns,h=>by cases h
 | .exc _ _::ds,ns,h=>by cases h
theorem tD:∀ ns:List Int,vN (ns.map .int)=some ns
 | []=>rfl
 | n::ns=>by simp [vN,tD ns]
@[simp] noncomputable def uZ:List D→Out Val
  | [.lst ds]=>match vN ds with
    | some ns=>if ns.length<64 then .ok (.fresh ((yG ns).map .int)) else .bad
    | none=>.bad
  | _=>.bad
theorem zeJ {X:Cx}:tJ X (.builtin "sorted") (fun xs H Q=>∃ p ns,xs=[.ref p]∧H p=some (.lst (ns.map V.int))∧ns.length<64∧∀ l,H l=none→Q (.ref l) (upd H l (.lst ((yG ns).map V.int)))):=by
 intro pins s σ H xs us Q I r h
 obtain ⟨p,ns,rfl,hp,hl,q⟩:=h
 obtain ⟨u,rfl,r1⟩:=zcU r
 cases (show u=.ref p from r1)
 obtain ⟨z,its,n,rv,hlen,e⟩:=I.lstM hp
 have hi:IntsAre its ns:=zbD rv
 have hn:its.length=ns.length:=by rw [←hlen,List.length_map]
 refine sorted_ints (l:=p) (vs:=its) ⟨_,e,rfl,_,rfl⟩ hi (by lia) fun out ns' a1 a2 a3 => ?_
 have en:ns'=yG ns:=xE (a2.trans (yd ns).symm) a3 (yF ns)
 subst en
 obtain ⟨c,he⟩:=sortedAll_at s.heap its out
 have hz:((yG ns).map V.int).length≤sizeLine:=by rw [List.length_map,(yd ns).length_eq,sizeLine_eq]; lia
 refine ⟨.ref (s.heap.objs.size+1),_,I.laid (t':=s.toks) (o:=.lst ((yG ns).map V.int)) (fun b o eb=>sortedAll_old eb) (Nat.le_succ _) ?_,rfl,q _ (I.hok.fresh (Nat.le_succ _))⟩
 exact ⟨hz,out.toList,c,vY a1,by simpa [seqObj] using he⟩
theorem zie {K:PySem.W.Frag}:zcP K (fun xs H Q=>∃ p ns,xs=[.ref p]∧H p=some (.lst (ns.map V.int))∧ns.length<64∧∀ l,H l=none→Q (.ref l) (upd H l (.lst ((yG ns).map V.int)))) uZ:=by
 intro G₀ H₀ env σ G H vs xs val Q I a e k
 unfold uZ at e
 split at e
 ·rename_i ds hx
  split at e
  ·rename_i ns hn
   split at e
   ·rename_i hl
    cases e
    obtain ⟨v,rfl,o⟩:=zbi a hx
    obtain ⟨p,us,rfl,h1,r1⟩:=Opd.lst I o
    rw [za4 hn] at r1
    rw [r1.ints_of] at h1
    refine ⟨p,ns,rfl,h1,hl,fun l hl => ?_⟩
    have g:=Grow.laidL (o:=.lst ((yG ns).map V.int)) I.le hl
    exact k _ G _ g.1 g.2 (x5 I.le hl (RepL.ints _))
   ·cases e
  ·cases e
 ·cases e
structure Cal (P:Program) (w:World) (K:PySem.W.Frag) (mg:Str→Option Value) (base:Heap) (k:Nat) (x:Str) (ps:List Str) (m:List D→Out Val):Prop where
 ex:∃ (f:Addr) (fd:FuncData),FnOk P w K mg base CX0 k f fd ps (spD K m ps.length)∧mg x=some (.ref f)∧PySem.W.keepIn K (.ref f)=true∧Binds K fd ps []
theorem Cal.mono {P:Program} {w:World} {K:PySem.W.Frag} {mg:Str→Option Value} {base:Heap} {j k:Nat} {x:Str} {ps:List Str} {m:List D→Out Val} (c:Cal P w K mg base j x ps m) (h:j≤k):Cal P w K mg base k x ps m:=by
 obtain ⟨f,fd,F,r⟩:=c.ex
 exact ⟨f,fd,F.mono h,r⟩
theorem Cal.imp {P:Program} {w:World} {K:PySem.W.Frag} {mg:Str→Option Value} {base:Heap} {k:Nat} {x:Str} {ps:List Str} {m m':List D→Out Val} (c:Cal P w K mg base k x ps m) (h:∀ ds v,ds.length=ps.length→m' ds=.ok v→m ds=.ok v):Cal P w K mg base k x ps m':=by
 obtain ⟨f,fd,F,r⟩:=c.ex
 refine ⟨f,fd,F.imp fun vs H Q E q => ?_,r⟩
 obtain ⟨G,ds,val,h1,h2,h3,h4,h5⟩:=q
 exact ⟨G,ds,val,h1,h2,h3,h ds val h1 h4,h5⟩
section
variable {X:Cx} {G₀ H₀:Hp} {k:Nat} {ps:List Str} {x:Str} {p pos:Pos} {e:Expr} {es:List Expr} {r:Ev→Out (List Val)} {m:List D→Out Val}
theorem zU (C:Cal X.prog X.w X.K X.mg X.base k x ps m) (hr:Room k X.A) (ha:DA X G₀ H₀ (e::es) r)
 (hlen:∀ env xs,r env=.ok xs→xs.length=ps.length) (hg:Gl X x:=by rfl) (hdb:(x == ("__debug__" : Str))=false:=by decide) (he:starEach (e::es) X.env=(false,eval e X.env)::starEach es X.env:=by rfl) (hpl:(backTo pos (starEach es X.env)).any (·.1)=false:=by rfl) :
 DE X G₀ H₀ (.Call (.Name x p) (e::es) [] pos) (zM m r):=by
 obtain ⟨f,fd,F,hm,hk,hb⟩:=C.ex
 exact zlA F hr hm hk hb ha hlen hg hdb he hpl
end
theorem zL:∀ env xs,fNil env=.ok xs→xs.length=0:=fun env xs h=>by cases h; rfl
theorem zo {f:FE} {r:Ev→Out (List Val)} {n:Nat} (h:∀ env xs,r env=.ok xs→xs.length=n):∀ env xs,zm f r env=.ok xs→xs.length=n+1:=fun env xs e=>by
 obtain ⟨x,_,e⟩:=zq e
 obtain ⟨ys,e2,e⟩:=zq e
 cases e
 simp [h env ys e2]
theorem hu20 {A:Around} {k:Nat} (hr:Room k A):A.units+20<cLine:=by have:=hr.units; lia
@[simp] noncomputable def vw:D→Out Val
  | .lst ds=>match vN ds with
    | some ns=>if ns.length<18 then .ok (.fresh ((yG ns.eraseDups).map .int)) else .bad
    | none=>.bad
  | _=>.bad
end DL
namespace DL
open PySem PySem.Spec PyProof.Rows L2
theorem ut:∀ (l m:List Nat),l.Nodup→(∀ x∈l,x∈m)→l.length≤m.length
 | [],m,_,_=>Nat.zero_le _
 | x::l,m,hn,hs=>by
   have hx:x∈m:=hs x (.head _)
   have h2:=List.nodup_cons.mp hn
   have:=ut l (m.erase x) h2.2 fun y hy=>(List.mem_erase_of_ne (fun z:y=x=>h2.1 (by rw [←z]; exact hy))).mpr (hs y (.tail _ hy))
   rw [List.length_erase_of_mem hx] at this
   have hp:0<m.length:=List.length_pos_of_mem hx
   simp only [List.length_cons]
   lia
theorem zeE (xs:List Nat) (n:Nat) (h:xs.length<n):∃ e,e<n∧e∉xs:=by
 refine Classical.byContradiction fun hc => ?_
 have:∀ x∈List.range n,x∈xs:=fun x hx=>Classical.byContradiction fun hh=>hc ⟨x,List.mem_range.mp hx,hh⟩
 have h2:=ut (List.range n) xs List.nodup_range this
 rw [List.length_range] at h2
 lia
noncomputable def lp (mask:Nat):Nat→Nat×Nat→Nat×Nat
 | 0,x=>x
 | n+1,x=>lp mask n (SetTable.leap mask x.1 x.2)
theorem zci (mask:Nat):∀ (n:Nat) (x:Nat×Nat),lp mask (n+1) x=SetTable.leap mask (lp mask n x).1 (lp mask n x).2
 | 0,x=>rfl
 | n+1,x=>zci mask n _
theorem zka (mask:Nat):∀ (m n:Nat) (x:Nat×Nat),lp mask (m+n) x=lp mask n (lp mask m x)
 | 0,n,x=>by rw [Nat.zero_add]; rfl
 | m+1,n,x=>by
   rw [Nat.add_right_comm]
   exact zka mask m n _
theorem zj9 (mask:Nat):∀ (n:Nat) (x:Nat×Nat),(lp mask n x).2=x.2 / 32^n
 | 0,x=>by simp [lp]
 | n+1,x=>by
   rw [lp,zj9 mask n]
   simp only [SetTable.leap]
   rw [Nat.div_div_eq_div_mul,Nat.pow_succ,Nat.mul_comm]
theorem lp_lt (mask n:Nat) (x:Nat×Nat) (h:x.1≤mask):(lp mask n x).1≤mask:=by
 cases n with
 | zero=>exact h
 | succ n =>
   rw [zci]
   simp only [SetTable.leap]
   have:=Nat.mod_lt ((lp mask n x).1*5+1+(lp mask n x).2 / 32) (show 0<mask+1 by lia)
   lia
noncomputable def lc (mask:Nat):Nat→Nat→Nat
 | 0,i=>i
 | n+1,i=>lc mask n ((i*5+1)%(mask+1))
theorem zhz (mask:Nat):∀ (n i:Nat),lp mask n (i,0)=(lc mask n i,0)
 | 0,i=>rfl
 | n+1,i=>by
   show lp mask n (SetTable.leap mask i 0)=_
   simp only [SetTable.leap,Nat.zero_div,Nat.add_zero]
   exact zhz mask n _
noncomputable def lcAll (mask:Nat):Bool:=(List.range (mask+1)).all fun i=>(List.range (mask+1)).all fun e=>(List.range (mask+1)).any fun m=>lc mask m i == e
theorem zlj:lcAll 7=true:=by decide +kernel
theorem zfC:lcAll 31=true:=by decide +kernel
theorem zli {mask i e:Nat} (h:lcAll mask=true) (hi:i≤mask) (he:e≤mask):∃ m,m≤mask∧lc mask m i=e:=by
 unfold lcAll at h
 rw [List.all_eq_true] at h
 have h1:=h i (List.mem_range.mpr (by lia))
 rw [List.all_eq_true] at h1
 have h2:=h1 e (List.mem_range.mpr (by lia))
 rw [List.any_eq_true] at h2
 obtain ⟨m,hm,q⟩:=h2
 exact ⟨m,by have:=List.mem_range.mp hm; lia,by simpa using q⟩
theorem zlH (h:Int):SetTable.bits h<2^64:=by
 unfold SetTable.bits
 have h1:=Int.emod_nonneg h (show (2^64:Int)≠0 by decide)
 have h2:=Int.emod_lt_of_pos h (show (0:Int)<2^64 by decide)
 lia
theorem zhA {mask e:Nat} {h:Int} {i:Nat} (ha:lcAll mask=true) (hi:i≤mask) (he:e≤mask):∃ n,n≤13+mask∧(lp mask n (i,SetTable.bits h)).1=e:=by
 have hz:(lp mask 13 (i,SetTable.bits h)).2=0:=by
  rw [zj9]
  exact Nat.div_eq_of_lt (Nat.lt_of_lt_of_le (zlH h) (by decide))
 obtain ⟨m,hm,q⟩:=zli ha (lp_lt mask 13 (i,SetTable.bits h) hi) he
 refine ⟨13+m,by lia,?_⟩
 rw [zka]
 have:lp mask 13 (i,SetTable.bits h)=((lp mask 13 (i,SetTable.bits h)).1,0):=by rw [←hz]
 rw [this,zhz]
 exact q
noncomputable def advN (t:SetTable):Nat→SetTable.Probe→SetTable.Probe
 | 0,p=>p
 | n+1,p=>advN t n (t.advance p)
theorem zf0 (t:SetTable):∀ (m n:Nat) (p:SetTable.Probe),advN t (m+n) p=advN t n (advN t m p)
 | 0,n,p=>by rw [Nat.zero_add]; rfl
 | m+1,n,p=>by rw [Nat.add_right_comm]; exact zf0 t m n _
noncomputable def runP (t:SetTable) (x:Nat×Nat):SetTable.Probe:={ j:=x.1,more:=SetTable.runEnd t.mask x.1 - x.1,i:=x.1,perturb:=x.2,dummy:=none }
theorem zit (t:SetTable):∀ (k:Nat) (p:SetTable.Probe),p.more=k→p.dummy=none→advN t (k+1) p=runP t (SetTable.leap t.mask p.i p.perturb)
 | 0,p,h,hd=>by
   show t.advance p=_
   unfold SetTable.advance
   rw [if_neg (by lia)]
   simp [runP,hd]
 | k+1,p,h,hd=>by
   have e:t.advance p={ p with j:=p.j+1,more:=p.more - 1 }:=by
    unfold SetTable.advance
    rw [if_pos (by lia)]
   show advN t (k+1) (t.advance p)=_
   rw [e]
   exact zit t k { p with j:=p.j+1,more:=p.more - 1 } (by show p.more - 1=k; lia) hd
theorem zgZ (mask i:Nat):SetTable.runEnd mask i - i≤9:=by
 unfold SetTable.runEnd
 split <;> lia
theorem zdX (t:SetTable) (x:Nat×Nat):∀ n:Nat,∃ k,k≤10*n∧advN t k (runP t x)=runP t (lp t.mask n x)
 | 0=>⟨0,Nat.zero_le _,rfl⟩
 | n+1=>by
   obtain ⟨k,hk,e⟩:=zdX t x n
   have h9:=zgZ t.mask (lp t.mask n x).1
   refine ⟨k+((runP t (lp t.mask n x)).more+1),?_,?_⟩
   ·show k+(SetTable.runEnd t.mask (lp t.mask n x).1 - (lp t.mask n x).1+1)≤_
    lia
   ·rw [zf0,e,zit t _ _ rfl rfl,zci]
    rfl
theorem zcN (t:SetTable) (p:SetTable.Probe):(t.advance p).dummy=p.dummy:=by
 unfold SetTable.advance
 split <;> rfl
theorem zbl {t:SetTable} (hd:t.dummies=#[]) (j:Nat):t.slot j=.empty∨∃ i,t.slot j=.live i:=by
 unfold SetTable.slot
 dsimp only
 split
 ·exact .inr ⟨_,rfl⟩
 ·rw [hd,if_neg (by simp [SetTable.has])]
  exact .inl rfl
theorem zfL {t:SetTable} {h:Int} (hd:t.dummies=#[]):∀ (k fuel:Nat) (p:SetTable.Probe),k<fuel→p.dummy=none→t.slot (advN t k p).j=.empty →
 ∃ j,SetTable.probe.go t (fun _=>h+1) h fuel p=some (.empty j none)∧t.slot j=.empty
 | k,0,p,hk,_,_=>absurd hk (Nat.not_lt_zero _)
 | k,fuel+1,p,hk,hp,hs=>by
   unfold SetTable.probe.go
   rcases zbl hd p.j with e | ⟨i,e⟩
   ·rw [e]
    exact ⟨p.j,by simp [hp],e⟩
   ·rw [e]
    dsimp only
    have hne:(h+1 == h)=false:=by simp; lia
    rw [hne]
    cases k with
    | zero=>rw [show (advN t 0 p).j=p.j from rfl,e] at hs; cases hs
    | succ k=>exact zfL hd k fuel (t.advance p) (by lia) (by rw [zcN]; exact hp) hs
theorem zas {t:SetTable} (hd:t.dummies=#[]) {j:Nat} (h:j∉t.place.toList):t.slot j=.empty:=by
 rcases zbl hd j with e | ⟨i,e⟩
 ·exact e
 ·unfold SetTable.slot at e
  dsimp only at e
  split at e
  ·rename_i hb
   have hb':t.place[SetTable.below t.place j]?=some j:=by simpa using hb
   rw [←Array.getElem?_toList] at hb'
   exact absurd (List.mem_of_getElem? hb') h
  ·rw [hd,if_neg (by simp [SetTable.has])] at e
   cases e
structure TabOk (t:SetTable) (n:Nat):Prop where
 plain:t.plain=true
 dummies:t.dummies=#[]
 size:t.place.size=n
 rise:t.place.toList.Pairwise (· < ·)
 mask:(t.mask=7∧n<5)∨(t.mask=31∧n<19)
theorem TabOk.lcAll {t:SetTable} {n:Nat} (h:TabOk t n):lcAll t.mask=true:=by
 rcases h.mask with ⟨e,_⟩ | ⟨e,_⟩ <;> rw [e]
 ·exact zlj
 ·exact zfC
theorem zeB {t:SetTable} {n:Nat} (T:TabOk t n) (h:Int):∃ j,t.freeSlot h=some (j,false)∧t.slot j=.empty:=by
 obtain ⟨e,he,hm⟩:=zeE t.place.toList (t.mask+1) (by rw [Array.length_toList,T.size]; rcases T.mask with ⟨q,_⟩ | ⟨q,_⟩ <;> lia)
 have hi:SetTable.bits h%(t.mask+1)≤t.mask:=by
  have:=Nat.mod_lt (SetTable.bits h) (show 0<t.mask+1 by lia)
  lia
 obtain ⟨m,hm1,hm2⟩:=zhA (h:=h) T.lcAll hi (show e≤t.mask by lia)
 obtain ⟨k,hk1,hk2⟩:=zdX t (SetTable.bits h%(t.mask+1),SetTable.bits h) m
 obtain ⟨j,hj,hs⟩:=zfL (h:=h) T.dummies k (10*SetTable.turns t.mask) (t.probeStart h) (by unfold SetTable.turns; lia) rfl (by
  show t.slot (advN t k (runP t (SetTable.bits h%(t.mask+1),SetTable.bits h))).j=.empty
  rw [hk2]
  show t.slot (lp t.mask m _).1=.empty
  rw [hm2]
  exact zas T.dummies hm)
 refine ⟨j,?_,hs⟩
 unfold SetTable.freeSlot SetTable.probe
 rw [hj]
 rfl
theorem zcG {xs:Array Nat} {j:Nat} (hr:xs.toList.Pairwise (· < ·)):∀ (fuel lo hi:Nat),hi - lo≤fuel→lo≤hi→hi≤xs.size→(∀ i x,i<lo→xs[i]?=some x→x<j)→(∀ i x,hi≤i→xs[i]?=some x→j≤x) →
 SetTable.below.go xs j fuel lo hi≤xs.size∧(∀ i x,i<SetTable.below.go xs j fuel lo hi→xs[i]?=some x→x<j)∧(∀ i x,SetTable.below.go xs j fuel lo hi≤i→xs[i]?=some x→j≤x)
 | 0,lo,hi,h1,h2,h3,h4,h5=>by
   have:lo=hi:=by lia
   subst this
   exact ⟨h3,h4,h5⟩
 | fuel+1,lo,hi,h1,h2,h3,h4,h5=>by
   unfold SetTable.below.go
   by_cases hlt:lo<hi
   ·rw [if_pos hlt]
    dsimp only
    have hmid:(lo+hi) / 2<xs.size:=by lia
    have hrel:∀ (a b x y:Nat),a<b→xs[a]?=some x→xs[b]?=some y→x<y:=by
     intro a b x y hab ha hb
     rw [←Array.getElem?_toList] at ha hb
     obtain ⟨ha1,rfl⟩:=List.getElem?_eq_some_iff.mp ha
     obtain ⟨hb1,rfl⟩:=List.getElem?_eq_some_iff.mp hb
     exact List.pairwise_iff_getElem.mp hr a b ha1 hb1 hab
    have hg:xs.getD ((lo+hi) / 2) j=xs[(lo+hi) / 2]:=by simp [Array.getD,hmid]
    rw [hg]
    by_cases hc:xs[(lo+hi) / 2]<j
    ·rw [if_pos hc]
     refine zcG hr fuel _ hi (by lia) (by lia) h3 (fun i x hi' hx => ?_) h5
     by_cases hi2:i=(lo+hi) / 2
     ·subst hi2
      rw [Array.getElem?_eq_getElem hmid] at hx
      cases hx
      exact hc
     ·have:=hrel i ((lo+hi) / 2) x _ (by lia) hx (Array.getElem?_eq_getElem hmid)
      lia
    ·rw [if_neg hc]
     refine zcG hr fuel lo _ (by lia) (by lia) (by lia) h4 (fun i x hi' hx => ?_)
     by_cases hi2:i=(lo+hi) / 2
     ·subst hi2
      rw [Array.getElem?_eq_getElem hmid] at hx
      cases hx
      lia
     ·have:=hrel ((lo+hi) / 2) i _ x (by lia) (Array.getElem?_eq_getElem hmid) hx
      lia
   ·rw [if_neg hlt]
    have:lo=hi:=by lia
    subst this
    exact ⟨h3,h4,h5⟩
theorem zfY {xs:Array Nat} (j:Nat) (hr:xs.toList.Pairwise (· < ·)) :
 SetTable.below xs j≤xs.size∧(∀ i x,i<SetTable.below xs j→xs[i]?=some x→x<j)∧(∀ i x,SetTable.below xs j≤i→xs[i]?=some x→j≤x) :=
 zcG hr xs.size 0 xs.size (by lia) (by lia) (Nat.le_refl _) (fun _ _ h=>absurd h (Nat.not_lt_zero _)) fun i x h hx=>by
  rw [Array.getElem?_eq_none h] at hx; cases hx
theorem zgq {xs:Array Nat} {i:Nat} (hr:xs.toList.Pairwise (· < ·)) (slot:Nat) (h0:i=0→slot=0) (h1:∀ k x,i=k+1→xs[k]?=some x→slot=x+1) (hi:i≤xs.size):SetTable.below xs slot=i:=by
 obtain ⟨b1,b2,b3⟩:=zfY slot hr
 have hrel:∀ (a b x y:Nat),a<b→xs[a]?=some x→xs[b]?=some y→x<y:=by
  intro a b x y hab ha hb
  rw [←Array.getElem?_toList] at ha hb
  obtain ⟨ha1,rfl⟩:=List.getElem?_eq_some_iff.mp ha
  obtain ⟨hb1,rfl⟩:=List.getElem?_eq_some_iff.mp hb
  exact List.pairwise_iff_getElem.mp hr a b ha1 hb1 hab
 rcases Nat.lt_trichotomy (SetTable.below xs slot) i with hlt | heq | hgt
 ·cases i with
  | zero=>exact absurd hlt (Nat.not_lt_zero _)
  | succ k =>
    have hk:k<xs.size:=by lia
    have e:=h1 k _ rfl (Array.getElem?_eq_getElem hk)
    have:=b3 k _ (by lia) (Array.getElem?_eq_getElem hk)
    lia
 ·exact heq
 ·have hii:i<xs.size:=by lia
  have hx:=b2 i _ hgt (Array.getElem?_eq_getElem hii)
  cases i with
  | zero=>rw [h0 rfl] at hx; lia
  | succ k =>
    have hk:k<xs.size:=by lia
    have e:=h1 k _ rfl (Array.getElem?_eq_getElem hk)
    have:=hrel k (k+1) _ _ (Nat.lt_succ_self _) (Array.getElem?_eq_getElem hk) (Array.getElem?_eq_getElem hii)
    lia
theorem zmg {t:SetTable} {n j:Nat} (T:TabOk t n) (hs:t.slot j=.empty):(t.put j).1={ t with place:=SetTable.insertAt t.place (t.put j).2 j }∧(SetTable.insertAt t.place (t.put j).2 j).toList.Pairwise (· < ·)∧(t.put j).2≤n:=by
 have hp:(t.put j).2=SetTable.below t.place j:=rfl
 obtain ⟨b1,b2,b3⟩:=zfY j T.rise
 refine ⟨?_,?_,by rw [hp,←T.size]; exact b1⟩
 ·unfold SetTable.put
  dsimp only
  rw [T.dummies,if_neg (by simp [SetTable.has])]
 ·rw [hp,SetTable.toList_insertAt]
  have hne:t.place[SetTable.below t.place j]?≠some j:=by
   unfold SetTable.slot at hs
   dsimp only at hs
   split at hs
   ·cases hs
   ·rename_i hb
    simpa using hb
  have hrel:∀ (a b x y:Nat),a<b→t.place[a]?=some x→t.place[b]?=some y→x<y:=by
   intro a b x y hab ha hb
   rw [←Array.getElem?_toList] at ha hb
   obtain ⟨ha1,rfl⟩:=List.getElem?_eq_some_iff.mp ha
   obtain ⟨hb1,rfl⟩:=List.getElem?_eq_some_iff.mp hb
   exact List.pairwise_iff_getElem.mp T.rise a b ha1 hb1 hab
  have hlow:∀ x∈t.place.toList.take (SetTable.below t.place j),x<j:=by
   intro x hx
   obtain ⟨i,hi⟩:=List.getElem?_of_mem hx
   rw [List.getElem?_take] at hi
   split at hi
   ·rename_i h1
    rw [Array.getElem?_toList] at hi
    exact b2 i x h1 hi
   ·cases hi
  have hhigh:∀ x∈t.place.toList.drop (SetTable.below t.place j),j<x:=by
   intro x hx
   obtain ⟨i,hi⟩:=List.getElem?_of_mem hx
   rw [List.getElem?_drop,Array.getElem?_toList] at hi
   have h1:=b3 (SetTable.below t.place j+i) x (by lia) hi
   rcases Nat.lt_or_eq_of_le h1 with h2 | h2
   ·exact h2
   ·subst h2
    exfalso
    cases i with
    | zero=>exact hne hi
    | succ i =>
      have hb:SetTable.below t.place j<t.place.size:=by
       have:=Array.getElem?_eq_some_iff.mp hi
       obtain ⟨q,_⟩:=this
       lia
      have q1:=b3 _ _ (Nat.le_refl _) (Array.getElem?_eq_getElem hb)
      have q2:=hrel _ _ _ _ (show SetTable.below t.place j<SetTable.below t.place j+(i+1) by lia) (Array.getElem?_eq_getElem hb) hi
      lia
  rw [List.pairwise_append]
  refine ⟨T.rise.sublist (List.take_sublist _ _),?_,?_⟩
  ·rw [List.pairwise_cons]
   exact ⟨hhigh,T.rise.sublist (List.drop_sublist _ _)⟩
  ·intro a ha b hb
   rcases List.mem_cons.mp hb with rfl | hb
   ·exact hlow a ha
   ·exact Nat.lt_trans (hlow a ha) (hhigh b hb)
end DL
namespace DL
open PySem PySem.Spec PyProof.Rows L2
theorem zhH {t:SetTable} {es:Array (Int×Value)} (T:TabOk t es.size) (hn:es.size<18) (h:Int) (x:Value) :
 ∃ p j,p≤es.size∧layNew t es h x=(SetTable.insertAt es p (h,x),{ t with place:=SetTable.insertAt t.place p j },false,false)∧(SetTable.insertAt t.place p j).toList.Pairwise (· < ·)
   ∧ (SetTable.insertAt es p (h,x)).size=es.size+1∧(SetTable.insertAt t.place p j).size=es.size+1:=by
 obtain ⟨j,hj,hs⟩:=zeB T h
 obtain ⟨h1,h2,h3⟩:=zmg T hs
 have z1:(SetTable.insertAt es (t.put j).2 (h,x)).size=es.size+1:=by
  have:=(SetTable.insertAt_perm es (t.put j).2 (h,x)).length_eq
  simpa using this
 have z2:(SetTable.insertAt t.place (t.put j).2 j).size=es.size+1:=by
  have:=(SetTable.insertAt_perm t.place (t.put j).2 j).length_eq
  rw [←T.size]
  simpa using this
 have hfit:SetTable.fits { t with place:=SetTable.insertAt t.place (t.put j).2 j } (es.size+1)=true:=by
  unfold SetTable.fits SetTable.fill
  rw [z2,T.dummies]
  rcases T.mask with ⟨q,_⟩ | ⟨q,_⟩ <;> rw [q] <;> simp <;> lia
 refine ⟨(t.put j).2,j,h3,?_,h2,z1,z2⟩
 unfold layNew
 rw [hj]
 dsimp only
 rw [h1,z1]
 unfold SetTable.orStandIn
 rw [hfit]
 rfl
theorem zc3:∀ (l:List (Option Nat)) (j k:Nat),l[j]?=some none→List.Perm ((l.set j (some k)).filterMap id) (k::l.filterMap id)
 | [],j,k,h=>by simp at h
 | a::l,0,k,h=>by
   simp at h
   subst h
   simp
 | a::l,j+1,k,h=>by
   have ih:=zc3 l j k (by simpa using h)
   cases a with
   | none=>simpa using ih
   | some b =>
     simp only [List.set_cons_succ,List.filterMap_cons,id]
     exact (ih.cons b).trans (.swap k b _)
theorem zgd {owner:Array (Option Nat)} {n k:Nat} (hs:owner.size=n) (hp:List.Perm (owner.toList.filterMap id) (List.range k)) (hk:k<n):∃ e,e<n∧owner[e]?=some none:=by
 refine Classical.byContradiction fun hc => ?_
 have hall:∀ a∈owner.toList,a≠none:=by
  intro a ha z
  subst z
  obtain ⟨i,hi⟩:=List.getElem?_of_mem ha
  rw [Array.getElem?_toList] at hi
  obtain ⟨q,_⟩:=Array.getElem?_eq_some_iff.mp hi
  exact hc ⟨i,by lia,hi⟩
 have hlen:∀ l:List (Option Nat),(∀ a∈l,a≠none)→(l.filterMap id).length=l.length:=by
  intro l
  induction l with
  | nil=>intro _; rfl
  | cons a l ih =>
    intro h
    cases a with
    | none=>exact absurd rfl (h none (.head _))
    | some b =>
      simp only [List.filterMap_cons,id,List.length_cons]
      rw [ih fun a ha=>h a (.tail _ ha)]
 have h1:=hlen owner.toList hall
 rw [hp.length_eq,List.length_range,Array.length_toList] at h1
 lia
theorem zbL {mask e:Nat} {owner:Array (Option Nat)} (he:owner[e]?=some none):∀ (n fuel:Nat) (i p:Nat),n<fuel→(lp mask n (i,p)).1=e→∃ j,SetTable.layClean.free mask owner fuel i p=some j∧owner[j]?=some none
 | n,0,i,p,h,_=>absurd h (Nat.not_lt_zero _)
 | n,fuel+1,i,p,h,hq=>by
   unfold SetTable.layClean.free
   cases hf:(List.range (SetTable.runEnd mask i+1 - i)).find? fun k=>(owner.getD (i+k) (some 0)).isNone with
   | some k =>
     dsimp only
     refine ⟨i+k,rfl,?_⟩
     have:=List.find?_some hf
     simp only [Option.isNone_iff_eq_none] at this
     by_cases hb:i+k<owner.size
     ·rw [Array.getElem?_eq_getElem hb]
      simp only [Array.getD,hb,dite_true] at this
      simpa using this
     ·simp [Array.getD,hb] at this
   | none =>
     dsimp only
     cases n with
     | zero =>
       exfalso
       have:i=e:=hq
       subst this
       rw [List.find?_eq_none] at hf
       have h1:=hf 0 (List.mem_range.mpr (by unfold SetTable.runEnd; split <;> lia))
       apply h1
       obtain ⟨q,q2⟩:=Array.getElem?_eq_some_iff.mp he
       simp [Array.getD,q,q2]
     | succ n=>exact zbL he n fuel _ _ (by lia) hq
theorem zej (hs:List Int):∀ (owner:Array (Option Nat)) (k:Nat),owner.size=32→List.Perm (owner.toList.filterMap id) (List.range k)→k+hs.length<32 →
 ∃ owner',(hs.foldl (init:=some (owner,k)) fun acc h=>do
   let (owner,k) ← acc
   let j ← SetTable.layClean.free 31 owner (SetTable.turns 31) (SetTable.bits h%(31+1)) (SetTable.bits h)
   pure (owner.setIfInBounds j (some k),k+1))=some (owner',k+hs.length)∧owner'.size=32∧List.Perm (owner'.toList.filterMap id) (List.range (k+hs.length)):=by
 induction hs with
 | nil=>intro owner k h1 h2 h3; exact ⟨owner,rfl,h1,h2⟩
 | cons h hs ih =>
   intro owner k h1 h2 h3
   obtain ⟨e,he1,he2⟩:=zgd h1 h2 (by lia)
   have hi:SetTable.bits h%(31+1)≤31:=by
    have:=Nat.mod_lt (SetTable.bits h) (show 0<31+1 by lia)
    lia
   obtain ⟨n,hn1,hn2⟩:=zhA (h:=h) zfC hi (show e≤31 by lia)
   obtain ⟨j,hj1,hj2⟩:=zbL he2 n (SetTable.turns 31) _ _ (by unfold SetTable.turns; lia) hn2
   have hjl:j<owner.size:=(Array.getElem?_eq_some_iff.mp hj2).1
   obtain ⟨o',e1,e2,e3⟩:=ih (owner.setIfInBounds j (some k)) (k+1) (by simpa using h1) (by
    have hp:=zc3 owner.toList j k (by rw [Array.getElem?_toList]; exact hj2)
    have:(owner.setIfInBounds j (some k)).toList=owner.toList.set j (some k):=by simp
    rw [this,List.range_succ]
    exact hp.trans ((h2.cons k).trans (List.perm_append_singleton k _).symm)) (by simp at h3; lia)
   refine ⟨o',?_,e2,?_⟩
   ·rw [List.foldl_cons]
    have:(do
     let (owner,k) ← some (owner,k)
     let j ← SetTable.layClean.free 31 owner (SetTable.turns 31) (SetTable.bits h%(31+1)) (SetTable.bits h)
     pure (owner.setIfInBounds j (some k),k+1))=some (owner.setIfInBounds j (some k),k+1):=by
     show (SetTable.layClean.free 31 owner (SetTable.turns 31) (SetTable.bits h%(31+1)) (SetTable.bits h)).bind _=_
     rw [hj1]
     rfl
    rw [this,e1]
    simp [Nat.add_assoc,Nat.add_comm 1]
   ·have:k+(h::hs).length=k+1+hs.length:=by simp; lia
    rw [this]
    exact e3
theorem zjc (owner:Array (Option Nat)) (n:Nat):(((List.range n).filterMap fun j=>(owner.getD j none).map (j,·)).map (·.1)).Pairwise (· < ·):=by
 rw [List.pairwise_map,List.pairwise_filterMap]
 refine List.Pairwise.imp ?_ List.pairwise_lt_range
 intro a b hab x hx y hy
 cases q1:owner.getD a none with
 | none=>rw [q1] at hx; cases hx
 | some u =>
   cases q2:owner.getD b none with
   | none=>rw [q2] at hy; cases hy
   | some v=>rw [q1] at hx; rw [q2] at hy; cases hx; cases hy; exact hab
theorem zjb (owner:Array (Option Nat)):(((List.range owner.size).filterMap fun j=>(owner.getD j none).map (j,·)).map (·.2))=owner.toList.filterMap id:=by
 rw [List.map_filterMap]
 have h1:owner.toList=(List.range owner.size).map fun j=>owner.getD j none:=by
  apply List.ext_getElem?
  intro i
  rw [Array.getElem?_toList,List.getElem?_map]
  by_cases hi:i<owner.size
  ·rw [List.getElem?_range hi,Array.getElem?_eq_getElem hi]
   simp [Array.getD,hi]
  ·rw [Array.getElem?_eq_none (by lia),List.getElem?_eq_none (by simpa using hi)]
   rfl
 rw [h1,List.filterMap_map]
 congr 1
 funext j
 simp only [Function.comp]
 cases owner.getD j none <;> rfl
theorem zg2 (t:SetTable) (es:Array (Int×Value)) (hp:t.plain=true) (hn:es.size=5) :
 ∃ es' t',relayAll t es (SetTable.grown es.size)=(es',t',false)∧TabOk t' es'.size∧t'.led=t.led∧List.Perm es'.toList es.toList∧es'.size=5:=by
 have hw:SetTable.sizeAbove (SetTable.grown es.size) - 1=31:=by rw [hn]; decide
 obtain ⟨owner,e1,e2,e3⟩:=zej (es.map (·.1)).toList (Array.replicate 32 none) 0 (by simp) (by
  have:(Array.replicate 32 (none:Option Nat)).toList.filterMap id=[]:=by decide
  rw [this]; exact .nil) (by simp; lia)
 have hl:SetTable.layClean 31 (es.map (·.1))=some owner:=by
  unfold SetTable.layClean
  rw [←Array.foldl_toList]
  rw [e1]
  rfl
 have h5:0+(es.map (·.1)).toList.length=5:=by simp [hn]
 rw [h5] at e3
 have hr:t.relaid (es.map (·.1)) (SetTable.grown es.size)=some ({ mask:=31,place:=(((List.range 32).filterMap fun j=>(owner.getD j none).map (j,·)).map (·.1)).toArray,dummies:=#[],finger:=t.finger,led:=t.led,moves:=t.movedTo 31,plain:=t.plain },(((List.range 32).filterMap fun j=>(owner.getD j none).map (j,·)).map (·.2)).toArray):=by
  unfold SetTable.relaid SetTable.laid
  rw [hw,hl]
  rfl
 have h2:=zjb owner
 rw [e2] at h2
 have hlen:(((List.range 32).filterMap fun j=>(owner.getD j none).map (j,·))).length=5:=by
  have:((((List.range 32).filterMap fun j=>(owner.getD j none).map (j,·))).map (·.2)).length=5:=by
   rw [h2,e3.length_eq,List.length_range]
  simpa using this
 have hcov:coversAll (((List.range 32).filterMap fun j=>(owner.getD j none).map (j,·)).map (·.2)).toArray es.size=true:=by
  unfold coversAll
  rw [List.isPerm_iff,hn]
  rw [h2]
  exact e3
 have hperm:List.Perm ((((List.range 32).filterMap fun j=>(owner.getD j none).map (j,·)).map (·.2)).toArray.filterMap (es[·]?)).toList es.toList:=by
  rw [Array.toList_filterMap,h2]
  exact ((e3.filterMap _).trans (by rw [←hn]; exact List.Perm.of_eq (filterMap_getElem?_range es)))
 have hsz:((((List.range 32).filterMap fun j=>(owner.getD j none).map (j,·)).map (·.2)).toArray.filterMap (es[·]?)).size=5:=by
  rw [←Array.length_toList,hperm.length_eq,Array.length_toList,hn]
 refine ⟨_,{ mask:=31,place:=(((List.range 32).filterMap fun j=>(owner.getD j none).map (j,·)).map (·.1)).toArray,dummies:=#[],finger:=t.finger,led:=t.led,moves:=t.movedTo 31,plain:=t.plain },?_,?_,?_,hperm,hsz⟩
 rotate_left
 ·rw [hsz]
  exact ⟨hp,rfl,by simpa using hlen,by simpa using zjc owner 32,.inr ⟨rfl,by lia⟩⟩
 ·rfl
 ·unfold relayAll
  rw [hr]
  dsimp only
  rw [hcov]
  have hf:SetTable.fits { mask:=31,place:=(((List.range 32).filterMap fun j=>(owner.getD j none).map (j,·)).map (·.1)).toArray,dummies:=#[],finger:=t.finger,led:=t.led,moves:=t.movedTo 31,plain:=t.plain } ((((List.range 32).filterMap fun j=>(owner.getD j none).map (j,·)).map (·.2)).toArray.filterMap (es[·]?)).size=true:=by
   unfold SetTable.fits SetTable.fill
   rw [hsz]
   simp only [List.size_toArray,List.length_map,hlen]
   rfl
  rw [hf]
  rfl
end DL
namespace DL
open PySem PySem.Spec PyProof.Rows L2
noncomputable def keyE (e:Int×Value):Int:=match e.2 with
 | .int k _=>k
 | _=>0
structure EsOk (es:List (Int×Value)) (ns:List Int):Prop where
 all:∀ e∈es,∃ (k:Int) (t:Tok),e=(hashInt k,.int k t)
 perm:(es.map keyE).Perm ns
theorem EsOk.nil:EsOk [] []:=⟨fun e h=>(List.not_mem_nil h).elim,List.Perm.nil⟩
theorem EsOk.of_perm {es es':List (Int×Value)} {ns:List Int} (h:EsOk es ns) (p:es'.Perm es):EsOk es' ns :=
 ⟨fun e he=>h.all e (p.mem_iff.mp he),(p.map keyE).trans h.perm⟩
theorem EsOk.push {es:List (Int×Value)} {ns:List Int} (h:EsOk es ns) (k:Int) (t:Tok):EsOk (es++[(hashInt k,.int k t)]) (ns++[k]) :=
 ⟨fun e he=>by
  rcases List.mem_append.mp he with he | he
  ·exact h.all e he
  ·rw [List.mem_singleton] at he; exact ⟨k,t,he⟩,by
  rw [List.map_append]
  exact h.perm.append (.refl _)⟩
theorem EsOk.length {es:List (Int×Value)} {ns:List Int} (h:EsOk es ns):es.length=ns.length:=by
 rw [←h.perm.length_eq,List.length_map]
theorem EsOk.elems {prog:Program} {w:World} {es:List (Int×Value)} {ns:List Int} (h:EsOk es ns):ElemsOf (intKind prog w) es:=fun e he=>by
 obtain ⟨k,t,rfl⟩:=h.all e he
 exact ⟨⟨k,intKind_is _ _ _ _,rfl⟩,rfl⟩
theorem EsOk.mem {prog:Program} {w:World} {es:List (Int×Value)} {ns:List Int} (h:EsOk es ns) (k:Int):k∈ns↔∃ e∈es,(intKind prog w).is k e.2=true:=by
 rw [←h.perm.mem_iff,List.mem_map]
 constructor
 ·rintro ⟨e,he,rfl⟩
  obtain ⟨k,t,rfl⟩:=h.all e he
  exact ⟨_,he,intKind_is _ _ _ _⟩
 ·rintro ⟨e,he,q⟩
  obtain ⟨k',t,rfl⟩:=h.all e he
  refine ⟨_,he,?_⟩
  exact (intKind prog w).inj _ _ _ (intKind_is _ _ _ _) q
structure SetAt (w:World) (h:Heap) (a:Addr) (es:Array (Int×Value)) (ep:Nat) (t:SetTable):Prop where
 ex:∃ o:Obj,h.get? a=some o∧o.ExactSet∧o.data=.set es ep t
 tab:TabOk t es.size
 led:t.led = !w.params.followText "set-order"
theorem TabOk.fits {t:SetTable} {n:Nat} (T:TabOk t n):t.fits n=true:=by
 unfold SetTable.fits SetTable.fill
 rw [T.size,T.dummies]
 rcases T.mask with ⟨q,_⟩ | ⟨q,_⟩ <;> rw [q] <;> simp <;> lia
theorem SetAt.keep {w:World} {h h':Heap} {a:Addr} {es:Array (Int×Value)} {ep:Nat} {t:SetTable} (S:SetAt w h a es ep t) (hk:∀ o,h.get? a=some o→h'.get? a=some o):SetAt w h' a es ep t:=by
 obtain ⟨o,ho,r⟩:=S.ex
 exact ⟨⟨o,hk o ho,r⟩,S.tab,S.led⟩
theorem SetAt.typeIs {w:World} {s:Shared} {a:Addr} {es:Array (Int×Value)} {ep:Nat} {t:SetTable} (S:SetAt w s.heap a es ep t):s.TypeIs (.ref a) "set" := by
 obtain ⟨o,ho,hx,_⟩:=S.ex
 exact ⟨o,ho,hx.1⟩
theorem SetAt.lt {w:World} {h:Heap} {a:Addr} {es:Array (Int×Value)} {ep:Nat} {t:SetTable} (S:SetAt w h a es ep t):a<h.objs.size:=by
 obtain ⟨o,ho,_⟩:=S.ex
 exact Heap.lt_size ho
theorem SetAt.store {w:World} {h:Heap} {a:Addr} {es:Array (Int×Value)} {ep:Nat} {t:SetTable} (S:SetAt w h a es ep t) {es':Array (Int×Value)} {t':SetTable} (T:TabOk t' es'.size) (hl:t'.led=t.led) :
 SetAt w (h.update a (Obj.putSet es' t')) a es' (ep+1) t':=by
 obtain ⟨o,ho,hx,hd⟩:=S.ex
 have hg:(h.update a (Obj.putSet es' t')).get? a=some { o with data:=.set es' (ep+1) t' }:=by
  have:=Heap.get?_update_self (Obj.putSet es' t') ho (by rw [putSet_of es' t' hd]; rfl)
  rw [putSet_of es' t' hd] at this
  exact this
 exact ⟨⟨_,hg,hx,rfl⟩,T,hl.trans S.led⟩
section
variable {prog:Program} {w:World} {A:Around} {E:Value→Shared→Prop} {s:Shared}
theorem zkC {a:Addr} {es:Array (Int×Value)} {ep:Nat} {tb:SetTable} {ns:List Int} {k:Int} {t:Tok} {Q:Bool→Shared→Prop} (S:SetAt w s.heap a es ep tb) (hE:EsOk es.toList ns) (hn:ns.length<18)
 (h:∀ b h' es' ep' tb',Heap.SameBut a s.heap h'→SetAt w h' a es' ep' tb'→EsOk es'.toList (if k∈ns then ns else ns++[k])→Q b { s with heap:=h',toks:=s.toks+1 }) :
 wpAny (model prog w) A (setAdd a (.int k t)) Q E s:=by
 have hsz:es.size=ns.length:=by rw [←Array.length_toList]; exact hE.length
 unfold setAdd
 refine wpAny_holding ?_
 refine wpAny_bind ((intKind prog w).pyHash (k:=k) (intKind_is _ _ _ _) ?_)
 obtain ⟨o,ho,hx,hd⟩:=S.ex
 have hf:=S.tab.fits
 have hb:es.size<scanBound:=by unfold scanBound; lia
 unfold setAddHashed setAddHashedIn
 refine wpAny_holding (wpAny_bind (wpAny_setState_of (s:={ s with toks:=s.toks+1 }) ho hd hf ?_))
 dsimp only
 rw [byScan_of (knd:=intKind prog w) rfl hb hE.elems]
 simp only [↓reduceIte]
 unfold setAddByScan
 refine wpAny_bind (wpAny_bind (wpAny_rule (wpAny_bind (wpAny_setScan_of (knd:=intKind prog w) (intKind_is _ _ k t) ho hd hf hE.elems ?_))))
 cases hr:List.findIdx? (fun e=>(intKind prog w).is k e.2) es.toList with
 | some j =>
   dsimp only
   obtain ⟨hj,hpj,_⟩:=List.findIdx?_eq_some_iff_getElem.mp hr
   have hk:k∈ns:=(hE.mem (prog:=prog) (w:=w) k).mpr ⟨es.toList[j],List.getElem_mem hj,hpj⟩
   refine wpAny_pure (wpAny_pure ?_)
   have:=h false s.heap es ep tb (Heap.SameBut.refl a s.heap) S (by rw [if_pos hk]; exact hE)
   exact this
 | none =>
   dsimp only
   have hk:¬ k∈ns:=fun hh=>by
    obtain ⟨e,he,q⟩:=(hE.mem (prog:=prog) (w:=w) k).mp hh
    have:=List.findIdx?_eq_none_iff.mp hr e he
    rw [q] at this
    cases this
   rw [if_neg hk] at h
   obtain ⟨p,j,hp,hL,hrise,z1,z2⟩:=zhH S.tab (by lia) ((intKind prog w).hash k) (.int k t)
   have hperm:=layNew_perm tb es ((intKind prog w).hash k) (.int k t)
   obtain ⟨tb1,htb⟩:∃ x,x=({ tb with place:=SetTable.insertAt tb.place p j }:SetTable):=⟨_,rfl⟩
   have y1:tb1.plain=true:=by rw [htb]; exact S.tab.plain
   have y2:tb1.dummies=#[]:=by rw [htb]; exact S.tab.dummies
   have y3:tb1.mask=tb.mask:=by rw [htb]
   have y4:tb1.led=tb.led:=by rw [htb]
   have y5:tb1.place.size=es.size+1:=by rw [htb]; exact z2
   have y6:tb1.place.toList.Pairwise (· < ·):=by rw [htb]; exact hrise
   rw [←htb] at hL
   rw [hL] at hperm
   rw [hL]
   dsimp only at hperm ⊢
   rw [Array.toList_push] at hperm
   have hE1:=(hE.push k t).of_perm hperm
   refine wpAny_bind (wpAny_pure ?_)
   rw [y1]
   simp only [↓reduceIte]
   rw [hashByValue_scannable 8 (show (Value.int k t).scannable=true from rfl)]
   refine wpAny_bind (wpAny_pure ?_)
   simp only [plainKind,↓reduceIte,Bool.not_false,Bool.true_and]
   refine wpAny_bind (wpAny_storeSet_of (s:={ s with toks:=s.toks+1 }) ho hd ?_ (by rw [z1,sizeLine_eq]; lia))
   dsimp only
   by_cases h5:tb.mask=7∧es.size=4
   ·have htf:SetTable.tooFull tb1=true:=by
     unfold SetTable.tooFull SetTable.fill
     rw [y5,y2,y3,h5.1,h5.2]
     rfl
    rw [if_pos htf]
    have hp1:=y1
    obtain ⟨es2,t2,e2,T2,l2,p2,z3⟩:=zg2 tb1 (SetTable.insertAt es p ((intKind prog w).hash k,.int k t)) hp1 (by rw [z1,h5.2])
    rw [e2]
    dsimp only
    refine wpAny_bind (wpAny_pure ?_)
    have hg:(s.heap.update a (Obj.putSet (SetTable.insertAt es p ((intKind prog w).hash k,.int k t)) tb1)).get? a=some { o with data:=.set (SetTable.insertAt es p ((intKind prog w).hash k,.int k t)) (ep+1) tb1 }:=by
     have:=Heap.get?_update_self (Obj.putSet (SetTable.insertAt es p ((intKind prog w).hash k,.int k t)) tb1) ho (by rw [putSet_of _ _ hd]; rfl)
     rw [putSet_of _ _ hd] at this
     exact this
    refine wpAny_bind (wpAny_storeSet_of hg rfl ?_ (by rw [z3,sizeLine_eq]; lia))
    refine wpAny_pure (wpAny_pure (h true _ es2 (ep+1+1) t2 ((Heap.SameBut.update s.heap a _).trans (Heap.SameBut.update _ a _)) ?_ (hE1.of_perm p2)))
    have hg2:((s.heap.update a (Obj.putSet (SetTable.insertAt es p ((intKind prog w).hash k,.int k t)) tb1)).update a (Obj.putSet es2 t2)).get? a=some { o with data:=.set es2 (ep+1+1) t2 }:=by
     have:=Heap.get?_update_self (Obj.putSet es2 t2) hg (by rw [putSet_of (o:={ o with data:=.set (SetTable.insertAt es p ((intKind prog w).hash k,.int k t)) (ep+1) tb1 }) _ _ rfl]; rfl)
     rw [putSet_of (o:={ o with data:=.set (SetTable.insertAt es p ((intKind prog w).hash k,.int k t)) (ep+1) tb1 }) _ _ rfl] at this
     exact this
    exact ⟨⟨_,hg2,hx,rfl⟩,T2,(l2.trans y4).trans S.led⟩
   ·have htf:SetTable.tooFull tb1=false:=by
     unfold SetTable.tooFull SetTable.fill
     rw [y5,y2,y3]
     rcases S.tab.mask with ⟨q,q2⟩ | ⟨q,q2⟩ <;> rw [q] <;> simp <;> lia
    rw [if_neg (by rw [htf]; exact Bool.false_ne_true)]
    refine wpAny_pure (wpAny_pure (h true _ _ (ep+1) tb1 (Heap.SameBut.update s.heap a _) ?_ hE1))
    refine S.store ⟨y1,y2,by rw [z1]; exact y5,y6,?_⟩ y4
    rw [z1,y3]
    rcases S.tab.mask with ⟨q,q2⟩ | ⟨q,q2⟩
    ·exact .inl ⟨q,by lia⟩
    ·exact .inr ⟨q,by lia⟩
end
end DL
namespace DL
open PySem PySem.Spec PyProof.Rows L2
noncomputable def met (ns:List Int):List Int:=ns.foldl (fun σ k=>if k∈σ then σ else σ++[k]) []
theorem zch (ns:List Int) (k:Int):met (ns++[k])=if k∈met ns then met ns else met ns++[k]:=by
 unfold met
 rw [List.foldl_append]
 rfl
theorem zi9 (ns:List Int) (i:Nat) (h:i<ns.length):met (ns.take (i+1))=if ns.getD i 0∈met (ns.take i) then met (ns.take i) else met (ns.take i)++[ns.getD i 0]:=by
 rw [List.take_succ_eq_append_getElem h,zch]
 have:ns.getD i 0=ns[i]:=by simp [List.getD,h]
 rw [this]
theorem zj8 (ns:List Int):(met ns).length≤ns.length:=by
 have:∀ (l σ:List Int),(l.foldl (fun σ k=>if k∈σ then σ else σ++[k]) σ).length≤σ.length+l.length:=by
  intro l
  induction l with
  | nil=>intro σ; simp
  | cons k l ih =>
    intro σ
    rw [List.foldl_cons]
    refine Nat.le_trans (ih _) ?_
    split <;> simp <;> lia
 have q:=this ns []
 simp only [List.length_nil,Nat.zero_add] at q
 exact q
section
variable {prog:Program} {w:World} {A:Around} {R:Result→Shared→Prop} {I:Addr} {fp wr:List Addr} {G:Array GenState→Array GenState→Prop} {P:Nat→Value→Prop} {St:Nat→Shared→Prop}
theorem zdZ {ns:List Int} (W:WalksS prog w A.in1 I fp wr G ns.length P St) (S:Addr) (hSf:S∉fp) (hval:∀ i v,P i v→∃ t,v=.int (ns.getD i 0) t) (hb:ns.length<18) :
 ∀ (k i:Nat) (s:Shared) (es:Array (Int×Value)) (ep:Nat) (tb:SetTable),ns.length - i=k→i≤ns.length→St i s→SetAt w s.heap S es ep tb→EsOk es.toList (met (ns.take i)) →
   (∀ s' es' ep' tb',Moved (S::wr) G s s'→SetAt w s'.heap S es' ep' tb'→EsOk es'.toList (met ns)→R (.ok (.ret .none)) s') →
   codeAny (model prog w) A (.builtin "set.update.loop" ⟨[.ref S,.ref I],[]⟩) R s:=by
 have hSw:S∉wr:=fun h=>hSf (W.sub _ h)
 have hsub:∀ b∈wr,b∈S::wr:=fun b hb=>List.mem_cons_of_mem _ hb
 intro k
 induction k with
 | zero =>
   intro i s es ep tb hk hi hst hS hE hR
   have hin:i=ns.length:=by lia
   subst hin
   refine codeAny_builtin F.entry_set_update_loop ?_
   rw [Around.under_plainId F.plain_set_update_loop _]
   show wpAny _ A.in1 (pyNext (.ref I) >>= _) _ _ s
   refine wpAny_bind (W.done s _ _ hst fun s' hm => ?_)
   show wpAny _ A.in1 (ret Value.none) _ _ s'
   rw [List.take_length] at hE
   exact wpAny_pure (hR s' es ep tb (hm.mono hsub) (hS.keep fun o ho=>hm.heap S _ hSw ho) hE)
 | succ k ih =>
   intro i s es ep tb hk hi hst hS hE hR
   have hlt:i<ns.length:=by lia
   refine codeAny_builtin F.entry_set_update_loop ?_
   rw [Around.under_plainId F.plain_set_update_loop _]
   show wpAny _ A.in1 (pyNext (.ref I) >>= _) _ _ s
   refine wpAny_bind (W.item i s _ _ hlt hst fun v s' hP hst' hm => ?_)
   obtain ⟨t,rfl⟩:=hval i v hP
   have hS':=hS.keep fun o ho=>hm.heap S _ hSw ho
   show wpAny _ A.in1 (holding [Value.int (ns.getD i 0) t] (setAdd S (.int (ns.getD i 0) t)) >>= _) _ _ s'
   refine wpAny_bind (wpAny_holding ?_)
   have hl:=zj8 (ns.take i)
   rw [List.length_take] at hl
   refine zkC hS' hE (by lia) fun b h' es' ep' tb' hsb hS2 hE2 => ?_
   rw [←zi9 ns i hlt] at hE2
   refine wpAny_pure ⟨plainId_quiet F.plain_set_update_loop _,ih (i+1) _ es' ep' tb' (by lia) hlt (W.frame _ s' _ _ hst' (Nat.le_succ _) fun b hb o e => ?_) hS2 hE2 fun s'' es'' ep'' tb'' hm'' hS'' hE'' => ?_⟩
   ·rw [hsb.2 b (fun h:b=S=>hSf (by rw [←h]; exact hb))]; exact e
   ·refine hR s'' es'' ep'' tb'' (Moved.trans W.gtrans ((hm.mono hsub).then_heap (Nat.le_succ _) fun b o hb e => ?_) hm'') hS'' hE''
    rw [hsb.2 b (fun h:b=S=>hb (by rw [h]; exact List.mem_cons_self))]; exact e
end
section
variable {prog:Program} {w:World} {A:Around} {E:Value→Shared→Prop} {s:Shared}
theorem ziM (a:Value) {Q₁:Value→Shared→Prop}
 (h:Q₁ (.ref s.heap.objs.size) { s with heap:=s.heap.push { cls:=.type "set",dict:=none,data:=.set #[] 0 (.fresh 0 0 (!w.params.followText "set-order")) } }) :
 codeAny (model prog w) A (.call (.builtin "set.__new__") ⟨[.type "set",a],[]⟩) (wants Q₁ E) s:=by
 refine codeAny_of_tree ?_
 show wpAny _ A.in1 (do checkBuiltinCall "set.__new__" ⟨[.type "set",a],[]⟩; again (.builtin "set.__new__" ⟨[.type "set",a],[]⟩)) _ _ s
 refine wpAny_bind (wpAny_of_eq (F.newCall_set_1 a) (wpAny_pure ⟨plainId_quiet F.plain_set_new _,codeAny_builtin F.entry_set_new ?_⟩))
 rw [Around.under_plainId F.plain_set_new _]
 unfold Builtin.«set.__new__» Builtin.Frozenset.newClass
 have hsub:=sub_set_self
 obtain ⟨hp,g,d,tk,os⟩:=s
 dsimp only
 wp_walk
 refine wpAny_askSetting (wpAny_pure ?_)
 dsimp only
 simp only [newObj]
 refine wpAny_bind (wpAny_alloc (wpAny_pure ?_))
 exact wpAny_pure h
theorem zhS (led:Bool):TabOk (.fresh 0 0 led) 0:=⟨rfl,rfl,rfl,List.Pairwise.nil,.inl ⟨rfl,by lia⟩⟩
theorem zjy {l:Addr} {items:Array Value} {ns:List Int} {Q:Value→Shared→Prop}
 (hh:A.handled=none) (hl:s.heap.IsList l items) (hi:IntsAre items.toList ns) (hb:ns.length<18)
 (h:∀ (h':Heap) (tk:Nat) es ep tb,s.toks≤tk→SetAt w h' s.heap.objs.size es ep tb→EsOk es.toList (met ns) →
  (∀ b o,b<s.heap.objs.size→s.heap.get? b=some o→h'.get? b=some o)→Q (.ref s.heap.objs.size) { s with heap:=h',toks:=tk }) :
 wpAny (model prog w) A (call (.type "set") [.ref l]) Q E s:=by
 obtain ⟨c,tl,hmro⟩:=F.called_set.mro
 have hmade:=F.called_set.made
 have hsub:=F.called_set.sub
 refine wpAny_call (codeAny_of_tree ?_)
 show wpAny _ _ (callAny (.type "set") _) _ _ _
 refine wpAny_pure ⟨Code.quiet_builtin _ (by decide +kernel),codeAny_builtin F.entry_type_call ?_⟩
 rw [Around.under_plain (weight_type_call_type "set" [.ref l] []) rfl]
 have h1:=F.called_set.notType
 have h2:=F.called_set.canCreate
 have hct:=F.typeCall_set_1 (.ref l)
 repeat (any_goals (first | assumption | wp_step))
 have hlen:items.size=ns.length:=by rw [←Array.length_toList]; exact IntsAre.length hi
 generalize hled:(!w.params.followText "set-order")=led
 refine codeAny_mono (ziM (.ref l) (E:=E) (Q₁:=fun obj s₁=>obj=.ref s.heap.objs.size∧s₁={ s with heap:=s.heap.push { cls:=.type "set",dict:=none,data:=.set #[] 0 (.fresh 0 0 led) } }) (by rw [hled]; exact ⟨rfl,rfl⟩)) fun r s₁ hr => ?_
 cases r with
 | error e=>exact hr
 | ok fl =>
   cases fl with
   | ret obj =>
     obtain ⟨rfl,rfl⟩:=hr
     have hS:(s.heap.push { cls:=.type "set",dict:=none,data:=.set #[] 0 (.fresh 0 0 led) }).get? s.heap.objs.size=some { cls:=.type "set",dict:=none,data:=.set #[] 0 (.fresh 0 0 led) }:=Heap.get?_push_size _ rfl
     have hT:Shared.TypeIs { s with heap:=s.heap.push { cls:=.type "set",dict:=none,data:=.set #[] 0 (.fresh 0 0 led) } } (.ref s.heap.objs.size) "set" := ⟨_,hS,rfl⟩
     have hli:=F.called_set.init.lookup
     have hbi:=F.called_set.init.bind (.ref s.heap.objs.size)
     repeat (any_goals (first | assumption | wp_step))
     refine codeAny_mono (codeAny_call_builtin (R:=wants (fun r s₂=>r=.none∧∃ h' tk es ep tb,s₂={ s with heap:=h',toks:=tk }∧s.toks≤tk∧SetAt w h' s.heap.objs.size es ep tb∧EsOk es.toList (met ns) ∧
      (∀ b o,b<s.heap.objs.size→s.heap.get? b=some o→h'.get? b=some o)) E) F.called_set.init.plain F.entry_set_init (check_set_init_1 hT ?_)) fun r₂ s₂ hr₂ => ?_
     ·obtain ⟨ol,hol,hcl,nl,hdl⟩:=hl
      obtain ⟨ocls,odict,odata,oslots⟩:=ol
      simp only at hcl hdl
      subst hcl; subst hdl
      have hol':(s.heap.push { cls:=.type "set",dict:=none,data:=.set #[] 0 (.fresh 0 0 led) }).get? l=some { cls:=.type "list",dict:=odict,data:=.seq items nl,slots:=oslots }:=Heap.get?_push_of_some _ hol
      have hsls:=F.sub_list_set
      have hslf:=F.sub_list_frozenset
      have hne:(Value.type "list" == Value.type "dict")=false:=by decide
      have hl1:(s.heap.push { cls:=.type "set",dict:=none,data:=.set #[] 0 (.fresh 0 0 led) }).IsList l items:=⟨_,hol',rfl,nl,rfl⟩
      unfold Builtin.«set.__init__» noKeywords Builtin.Frozenset.updateFrom
      generalize hPI:pyIter=PI
      wp_walk
      subst hPI
      refine wpAny_pyIter_list hl1 ?_
      refine wpAny_bind (wpAny_runValue ?_)
      have hlS:l<s.heap.objs.size:=Heap.lt_size hol
      have hh3:A.in1.in1.in1.handled=none:=by simp [hh]
      have hneI:l≠(s.heap.push { cls:=.type "set",dict:=none,data:=.set #[] 0 (.fresh 0 0 led) }).objs.size:=by
       rw [Heap.size_push]; exact Nat.ne_of_lt (Nat.lt_succ_of_lt hlS)
      have hSf:s.heap.objs.size∉[(s.heap.push { cls:=.type "set",dict:=none,data:=.set #[] 0 (.fresh 0 0 led) }).objs.size,l]:=by
       rw [Heap.size_push]; simp only [List.mem_cons,List.mem_singleton,List.not_mem_nil,or_false,not_or]
       exact ⟨Nat.ne_of_lt (Nat.lt_succ_self _),Nat.ne_of_gt hlS⟩
      have hval:∀ (i:Nat) (v:Value),items[i]?=some v→∃ t,v=.int (ns.getD i 0) t:=fun i v hv =>
       IntsAre.int_at hi i v (by rw [Array.getElem?_toList]; exact hv)
      have W:=(Walks.list (prog:=prog) (w:=w) hh3 (s.heap.push { cls:=.type "set",dict:=none,data:=.set #[] 0 (.fresh 0 0 led) }).objs.size l hneI items).toS
      rw [hlen] at W
      refine zdZ W s.heap.objs.size hSf hval hb (ns.length - 0) 0 _ #[] 0 (.fresh 0 0 led) (by lia) (Nat.zero_le _)
       ⟨⟨_,Heap.get?_push_size _ rfl,rfl,rfl⟩,(hl1.push _)⟩ ?hS0 (by rw [List.take_zero]; exact EsOk.nil) ?hR
      case hS0 =>
       have hget:((s.heap.push { cls:=.type "set",dict:=none,data:=.set #[] 0 (.fresh 0 0 led) }).push { cls:=.type "list_iterator",data:=.fields #[.ref l,.int 0 0] }).get? s.heap.objs.size
        = some { cls:=.type "set",dict:=none,data:=.set #[] 0 (.fresh 0 0 led) }:=Heap.get?_push_of_some _ hS
       exact ⟨⟨_,hget,⟨rfl,rfl,rfl⟩,rfl⟩,zhS led,hled.symm⟩
      case hR =>
       intro s' es ep tb hm hS' hE'
       obtain ⟨h',g',d',tk',os'⟩:=s'
       have eg:g'=s.gens:=hm.gens
       have ed:d'=s.drawn:=hm.drawn
       have eo:os'=s.os:=hm.os
       have etk:s.toks≤tk':=hm.toks
       subst eg; subst ed; subst eo
       show wpAny _ _ _ _ _ _
       refine wpAny_pure ?_
       show wpAny _ _ (ret Value.none) _ _ _
       refine wpAny_pure ⟨rfl,h',tk',es,ep,tb,rfl,etk,hS',hE',fun b o hb e => ?_⟩
       have hb1:b≠s.heap.objs.size:=Nat.ne_of_lt hb
       have hb2:b≠(s.heap.push { cls:=.type "set",dict:=none,data:=.set #[] 0 (.fresh 0 0 led) }).objs.size:=by
        rw [Heap.size_push]; exact Nat.ne_of_lt (Nat.lt_succ_of_lt hb)
       exact hm.heap b o (by simp only [List.mem_cons,List.mem_singleton,List.not_mem_nil,or_false,not_or]; exact ⟨hb1,hb2⟩) (Heap.get?_push_of_some _ (Heap.get?_push_of_some _ e))
     ·cases r₂ with
      | error e=>exact hr₂
      | ok fl₂ =>
        cases fl₂ with
        | ret r =>
          obtain ⟨rfl,h',tk,es,ep,tb,rfl,etk,hS',hE',hk'⟩:=hr₂
          repeat (any_goals (first | assumption | wp_step))
          exact h _ _ _ _ _ etk hS' hE' hk'
        | _=>exact hr₂.elim
   | _=>exact hr.elim
end
end DL
namespace DL
open PySem PySem.Spec PyProof.Rows L2
theorem yi:PySem.Slot "set_iterator" "__next__" "set_iterator.__next__" :=
 .of (owner := "set_iterator") (n := "__next__") (by rw [typeLookup_type,builtinLookup_eq_fast]; kernel_rfl) (by decide +kernel) (by decide +kernel) (by decide +kernel)
  (by first | exact .inl (by decide +kernel) | exact .inr (by decide +kernel)) (by rw [isSubtype_type]; kernel_rfl)
theorem wU:PySem.Slot "set_iterator" "__iter__" "set_iterator.__iter__" :=
 .of (owner := "set_iterator") (n := "__iter__") (by rw [typeLookup_type,builtinLookup_eq_fast]; kernel_rfl) (by decide +kernel) (by decide +kernel) (by decide +kernel)
  (by first | exact .inl (by decide +kernel) | exact .inr (by decide +kernel)) (by rw [isSubtype_type]; kernel_rfl)
theorem wO:entryFor table "set_iterator.__next__" = some Builtin.«set_iterator.__next__» := entryFor_of_tree (by kernel_rfl)
theorem t0:entryFor table "set_iterator.__iter__" = some Builtin.«dict_keyiterator.__iter__» :=
 entryFor_alias (id' := "dict_keyiterator.__iter__") (by kernel_rfl) rfl (by decide +kernel) (by kernel_rfl)
theorem zaW:entryFor table "set.__iter__" = some Builtin.«frozenset.__iter__» :=
 entryFor_alias (id' := "frozenset.__iter__") (by kernel_rfl) rfl (by decide +kernel) (by kernel_rfl)
theorem zax:Manifest.owners.lookup (String.ofList ['r','o','t','a','r','e','t','i','_','t','e','s'].reverse)=some Manifest.sig_set_iterator:=by kernel_rfl
theorem vj (a:Value):argsOk "set_iterator.__next__" ⟨[a],[]⟩:=by
 unfold argsOk; rw [signature?_of (id := "set_iterator.__next__") (n:=['_','_','t','x','e','n','_','_']) (o:=['r','o','t','a','r','e','t','i','_','t','e','s']) (by kernel_rfl) zax]; kernel_rfl
theorem za5 (a:Value):argsOk "set_iterator.__iter__" ⟨[a],[]⟩:=by
 unfold argsOk; rw [signature?_of (id := "set_iterator.__iter__") (n:=['_','_','r','e','t','i','_','_']) (o:=['r','o','t','a','r','e','t','i','_','t','e','s']) (by kernel_rfl) zax]; kernel_rfl
theorem zbO {α:Type}:∀ (l:List α) (i:Nat) (h:i<l.length),List.Perm (l[i]::l.eraseIdx i) l
 | a::l,0,_=>.refl _
 | a::l,i+1,h=>by
   simp only [List.getElem_cons_succ,List.eraseIdx_cons_succ]
   exact (List.Perm.swap a _ _).trans ((zbO l i (by simpa using h)).cons a)
theorem zha {α:Type} (next:Nat→Nat):∀ (fuel k:Nat) (left:List α) (out:Array α),left.length=fuel→List.Perm (pickOrder.go next fuel k left out).toList (out.toList++left)
 | 0,k,left,out,h=>by
   have:left=[]:=List.eq_nil_of_length_eq_zero h
   subst this
   simp [pickOrder.go]
 | fuel+1,k,left,out,h=>by
   unfold pickOrder.go
   have hlt:next k%left.length<left.length:=Nat.mod_lt _ (by lia)
   rw [List.getElem?_eq_getElem hlt]
   dsimp only
   refine (zha next fuel (k+1) _ _ (by rw [List.length_eraseIdx_of_lt hlt]; lia)).trans ?_
   rw [Array.toList_push,List.append_assoc]
   exact List.Perm.append_left _ (zbO left _ hlt)
theorem zg9 {α:Type} (next:Nat→Nat) (xs:Array α):List.Perm (pickOrder next xs).toList xs.toList:=by
 unfold pickOrder
 simpa using zha next xs.size 0 xs.toList #[] (by simp)
noncomputable def ordE (w:World) (a:Addr) (ep:Nat) (es:Array (Int×Value)):Array (Int×Value):=if w.params.followText "set-order" = true then pickOrder (w.params.setOrder a ep) es else es
theorem zfv (w:World) (a:Addr) (ep:Nat) (es:Array (Int×Value)):List.Perm (ordE w a ep es).toList es.toList:=by
 unfold ordE
 split
 ·exact zg9 _ _
 ·exact .refl _
theorem zcd (w:World) (a:Addr) (ep:Nat) (es:Array (Int×Value)):(ordE w a ep es).size=es.size:=by
 have:=(zfv w a ep es).length_eq
 simpa using this
noncomputable def zbV (w:World) (tb:SetTable) (i slot:Nat):Prop:=w.params.followText "set-order" = false→(i=0→slot=0)∧∀ k x,i=k+1→tb.place[k]?=some x→slot=x+1
noncomputable def wB (h:Heap) (it a:Addr) (slot i n ep:Nat):Prop:=∃ o:Obj,h.get? it=some o∧o.cls=.type "set_iterator" ∧ o.data=.fields #[.int slot 0,.int i 0,.ref a,.int n 0,.int ep 0]
section
variable {prog:Program} {w:World} {A:Around} {E:Value→Shared→Prop} {s:Shared} {a:Addr} {es:Array (Int×Value)} {ep:Nat} {tb:SetTable}
theorem zat (S:SetAt w s.heap a es ep tb) {Q:(Array (Int×Value)×Nat×SetTable)→Shared→Prop} (h:Q (es,ep,tb) s):wpAny (model prog w) A (setState a) Q E s:=by
 obtain ⟨o,ho,hx,hd⟩:=S.ex
 exact wpAny_setState_of ho hd S.tab.fits h
theorem zeP {Q:Bool→Shared→Prop} (h:Q (w.params.followText "set-order") s):wpAny (model prog w) A setsByText Q E s:=by
 unfold setsByText
 exact wpAny_bind (wpAny_askSetting (wpAny_pure h))
theorem zb4 (S:SetAt w s.heap a es ep tb) (hb:w.params.followText "set-order" = true) {Q:Array (Int×Value)→Shared→Prop} (h:Q (ordE w a ep es) s):wpAny (model prog w) A (setWalk a) Q E s:=by
 unfold setWalk
 refine wpAny_bind (zat S ?_)
 dsimp only
 refine wpAny_bind (zeP ?_)
 rw [hb]
 simp only [↓reduceIte]
 refine wpAny_bind (wpAny_askSetting (wpAny_pure ?_))
 have:ordE w a ep es=pickOrder (w.params.setOrder a ep) es:=by unfold ordE; rw [if_pos hb]
 rw [this] at h
 exact h
theorem zfa {i slot:Nat} (S:SetAt w s.heap a es ep tb) (hs:zbV w tb i slot) (hi:i≤es.size) {Q:Option (Value×Nat)→Shared→Prop}
 (h1:∀ e slot',(ordE w a ep es)[i]?=some e→zbV w tb (i+1) slot'→Q (some (e.2,slot')) s) (h2:(ordE w a ep es)[i]?=none→Q none s):wpAny (model prog w) A (setNext a slot i ep) Q E s:=by
 unfold setNext
 refine wpAny_bind (zat S ?_)
 dsimp only
 refine wpAny_bind (zeP ?_)
 cases hb:w.params.followText "set-order" with
 | true =>
   simp only [↓reduceIte,bne_self_eq_false,Bool.false_eq_true]
   refine wpAny_bind (zb4 S hb ?_)
   refine wpAny_pure ?_
   cases q:(ordE w a ep es)[i]? with
   | none=>exact h2 q
   | some e=>exact h1 e slot q (fun z=>by rw [hb] at z; cases z)
 | false =>
   simp only [↓reduceIte,Bool.false_eq_true]
   have ho:ordE w a ep es=es:=by unfold ordE; rw [if_neg (by rw [hb]; exact Bool.false_ne_true)]
   rw [ho] at h1 h2
   have hdr:(!tb.plain&&decide (es.size>1))=false:=by rw [S.tab.plain]; rfl
   refine wpAny_ite_split (fun hab=>absurd hab (by show ¬ ((!tb.plain&&decide (es.size>1))=true); rw [hdr]; exact Bool.false_ne_true)) fun _ => ?_
   have hled:tb.led=true:=by rw [S.led,hb]; rfl
   refine wpAny_bind ?_
   show wpAny _ _ (if (!tb.led && !es.isEmpty)=true then _ else pure ()) _ _ _
   rw [if_neg (by rw [hled]; simp)]
   refine wpAny_pure ?_
   obtain ⟨hs1,hs2⟩:=hs hb
   have hbel:SetTable.below tb.place slot=i:=zgq S.tab.rise slot hs1 hs2 (by rw [S.tab.size]; exact hi)
   rw [hbel]
   refine wpAny_pure ?_
   by_cases hlt:i<es.size
   ·have q1:es[i]?=some es[i]:=Array.getElem?_eq_getElem hlt
    have hlt2:i<tb.place.size:=by rw [S.tab.size]; exact hlt
    have q2:tb.place[i]?=some tb.place[i]:=Array.getElem?_eq_getElem hlt2
    rw [q1,q2]
    refine h1 es[i] (tb.place[i]+1) q1 fun _=>⟨fun z=>by lia,fun k x hk hx => ?_⟩
    have:k=i:=by lia
    subst this
    rw [q2] at hx
    cases hx
    rfl
   ·have q1:es[i]?=none:=Array.getElem?_eq_none (by lia)
    rw [q1]
    exact h2 q1
theorem xl {it:Addr} {slot i n:Nat} (hit:wB s.heap it a slot i n ep):s.TypeIs (.ref it) "set_iterator" := by
 obtain ⟨o,ho,hc,_⟩:=hit
 exact ⟨o,ho,hc⟩
theorem ziO {Q:Value→Shared→Prop} (S:SetAt w s.heap a es ep tb)
 (h:Q (.ref s.heap.objs.size) { s with heap:=s.heap.push { cls:=.type "set_iterator",data:=.fields #[.int 0 0,.int 0 0,.ref a,.int es.size 0,.int ep 0] } }):wpAny (model prog w) A (pyIter (.ref a)) Q E s:=by
 have hT:=S.typeIs
 refine wpAny_pyIter_slot hT F.slot_set_iter (wpAny_call_entry F.slot_set_iter hT zaW ?_ (F.args_set_iter_1 _))
 unfold Builtin.«frozenset.__iter__»
 refine wpAny_bind ?_
 show wpAny _ _ (pure a) _ _ s
 refine wpAny_pure ?_
 obtain ⟨o,ho,hx,hd⟩:=S.ex
 refine wpAny_bind ?_
 unfold Builtin.Frozenset.sizeOf
 refine wpAny_bind (wpAny_setEntries_of ho hd S.tab.fits (wpAny_pure ?_))
 refine wpAny_bind ?_
 unfold setDrawn
 refine wpAny_bind (zat S ?_)
 dsimp only
 refine wpAny_bind (zeP (wpAny_pure ?_))
 have hdr:(!(w.params.followText "set-order")&&(!tb.plain&&decide (es.size>1)))=false:=by rw [S.tab.plain]; simp
 show wpAny _ _ (if (!(w.params.followText "set-order")&&(!tb.plain&&decide (es.size>1)))=true then _ else _) _ _ _
 rw [if_neg (by rw [hdr]; exact Bool.false_ne_true)]
 refine wpAny_bind (wpAny_pure ?_)
 refine wpAny_bind (wpAny_setEpoch_of ho hd S.tab.fits ?_)
 refine wpAny_bind (wpAny_newObj_type (wpAny_pure ⟨_,rfl,"set_iterator",_,⟨_,Heap.get?_push_size _ rfl,rfl⟩,yi.lookup,?_⟩))
 exact h
theorem zga {it:Addr} {slot i:Nat} {Q:Option Value→Shared→Prop} (S:SetAt w s.heap a es ep tb) (hit:wB s.heap it a slot i es.size ep) (hs:zbV w tb i slot) (hi:i<es.size)
 (hQ:∀ e h' slot',(ordE w a ep es)[i]?=some e→wB h' it a slot' (i+1) es.size ep→zbV w tb (i+1) slot'→Heap.SameBut it s.heap h'→Q (some e.2) { s with heap:=h' }):wpAny (model prog w) A (pyNext (.ref it)) Q E s:=by
 obtain ⟨o,ho,hc,hd⟩:=id hit
 obtain ⟨oa,hoa,hxa,hda⟩:=S.ex
 unfold pyNext
 refine wpAny_bind (wpAny_attempt (wpAny_callSpecial?_slot (name:=Str.ofString "__next__") (xl hit) yi
  (wpAny_call_entry yi (xl hit) wO ?_ (vj _))))
 unfold Builtin.«set_iterator.__next__»
 refine wpAny_bind (wpAny_pure ?_)
 refine wpAny_bind (wpAny_fieldsOf ho hd ?_)
 dsimp only
 refine wpAny_bind (wpAny_setEntries_of hoa hda S.tab.fits ?_)
 rw [if_neg (by simp)]
 simp only [Int.toNat_natCast]
 refine wpAny_bind (zfa S hs (Nat.le_of_lt hi) (fun e slot' he hs' => ?_) fun he => ?_)
 ·dsimp only
  refine wpAny_bind (wpAny_setField ho hd (by simp) ?_)
  have ho1:(s.heap.update it (Obj.mapFields (·.setIfInBounds 0 (rawInt (slot':Int))))).get? it=some (Obj.mapFields (·.setIfInBounds 0 (rawInt (slot':Int))) o) :=
   Heap.get?_update_self _ ho (Obj.isFreed_of_fields (Obj.data_mapFields hd _))
  have hd1:=Obj.data_mapFields hd (·.setIfInBounds 0 (rawInt (slot':Int)))
  refine wpAny_bind (wpAny_setField (s:={ s with heap:=s.heap.update it (Obj.mapFields (·.setIfInBounds 0 (rawInt (slot':Int)))) }) ho1 hd1 (by simp) ?_)
  have ho2:=Heap.get?_update_self (Obj.mapFields (·.setIfInBounds 1 (rawInt ((i:Int)+1)))) ho1 (Obj.isFreed_of_fields (Obj.data_mapFields hd1 _))
  have hd2:=Obj.data_mapFields hd1 (·.setIfInBounds 1 (rawInt ((i:Int)+1)))
  refine wpAny_pure ⟨_,rfl,wpAny_pure (hQ e _ slot' he ⟨_,ho2,?_,?_⟩ hs' ((Heap.SameBut.update s.heap it _).trans (Heap.SameBut.update _ it _)))⟩
  ·rw [Obj.cls_mapFields,Obj.cls_mapFields]; exact hc
  ·rw [hd2]; simp [rawInt]
 ·rw [Array.getElem?_eq_none_iff,zcd] at he
  lia
theorem zgb {it:Addr} {slot i:Nat} {Q:Option Value→Shared→Prop} (hh:A.handled=none) (S:SetAt w s.heap a es ep tb) (hit:wB s.heap it a slot i es.size ep) (hs:zbV w tb i slot) (hi:i=es.size)
 (hQ:∀ h',Heap.ExtBut it s.heap h'→Q none { s with heap:=h' }):wpAny (model prog w) A (pyNext (.ref it)) Q E s:=by
 obtain ⟨o,ho,hc,hd⟩:=id hit
 obtain ⟨oa,hoa,hxa,hda⟩:=S.ex
 unfold pyNext
 refine wpAny_bind (wpAny_attempt (wpAny_callSpecial?_slot (name:=Str.ofString "__next__") (xl hit) yi
  (wpAny_call_entry yi (xl hit) wO ?_ (vj _))))
 unfold Builtin.«set_iterator.__next__»
 refine wpAny_bind (wpAny_pure ?_)
 refine wpAny_bind (wpAny_fieldsOf ho hd ?_)
 dsimp only
 refine wpAny_bind (wpAny_setEntries_of hoa hda S.tab.fits ?_)
 rw [if_neg (by simp)]
 simp only [Int.toNat_natCast]
 refine wpAny_bind (zfa S hs (Nat.le_of_eq hi) (fun e slot' he hs' => ?_) fun he => ?_)
 ·obtain ⟨q,_⟩:=Array.getElem?_eq_some_iff.mp he
  rw [zcd] at q
  lia
 ·dsimp only
  refine wpAny_bind (wpAny_setField ho hd (by simp) ?_)
  show wpAny _ _ (newExc (.type "StopIteration") [] >>= _) _ _ _
  refine wpAny_bind ?_
  simp only [newExc,newTuple]
  refine wpAny_bind (wpAny_newObj_type ?_ (by size_fits))
  refine wpAny_bind (m:=firstArgMember _ _) (wpAny_of_eq (a:=Value.none) (by first | rfl | (simp only [firstArgMember]; rfl)) ?_)
  refine wpAny_newObj_type ?_ (by size_fits)
  simp only [raiseNew]
  refine wpAny_bind (wpAny_handled ?_)
  rw [show A.in1.handled=none from hh]
  refine wpAny_bind (wpAny_pure (wpAny_throw ?_))
  refine wpAny_bind (wpAny_isInstance (T := "StopIteration") (b:=true) ⟨_,Heap.get?_push_size _ rfl,rfl⟩ isSubtype_stop ?_)
  exact wpAny_pure (hQ _ (((Heap.SameBut.update ..).extBut.push _).push _))
theorem zf9 {it:Addr} {slot i n:Nat} {Q:Value→Shared→Prop} (hit:wB s.heap it a slot i n ep) (h:Q (.ref it) s):wpAny (model prog w) A (pyIter (.ref it)) Q E s:=by
 refine wpAny_pyIter_slot (xl hit) wU (wpAny_call_entry wU (xl hit) t0 ?_ (za5 _))
 show wpAny _ _ (ret (.ref it)) _ _ s
 exact wpAny_pure ⟨_,rfl,"set_iterator",_,xl hit,yi.lookup,h⟩
theorem zgN (hh:A.handled=none) (I:Addr) (hne:a≠I):Walks prog w A I [I,a] [I] es.size (fun i v=>∃ e,(ordE w a ep es)[i]?=some e∧v=e.2)
 (fun i h=>SetAt w h a es ep tb∧∃ slot,wB h I a slot i es.size ep∧zbV w tb i slot) where
 sub:=fun b hb=>by simp at hb; simp [hb]
 frame:=fun i h h' st hk=>by
  obtain ⟨S,slot,⟨o,ho,r⟩,hs⟩:=st
  exact ⟨S.keep fun o e=>hk a (by simp) o e,slot,⟨o,hk I (by simp) o ho,r⟩,hs⟩
 item:=fun i s Q E hi st hQ=>by
  obtain ⟨S,slot,hit,hs⟩:=st
  refine zga S hit hs hi fun e h' slot' he hit' hs' hsb => ?_
  exact hQ e.2 h' s.toks ⟨e,he,rfl⟩ ⟨S.keep fun o q=>hsb.extBut a o hne q,slot',hit',hs'⟩ fun b o hb q=>hsb.extBut b o (fun z=>hb (by simp [z])) q
 done:=fun s Q E st hQ=>by
  obtain ⟨S,slot,hit,hs⟩:=st
  exact zgb hh S hit hs rfl fun h' he=>hQ h' s.toks fun b o hb q=>he b o (fun z=>hb (by simp [z])) q
 self:=fun _ _ _ _ st hQ=>by
  obtain ⟨S,slot,hit,hs⟩:=st
  exact zf9 hit hQ
theorem zjl {r:Addr} {Q:Bool→Shared→Prop} (hT:s.TypeIs (.ref r) "set") (h:Q false s):wpAny (model prog w) A (Builtin.List.listLengthHint (.ref r)) Q E s:=by
 unfold Builtin.List.listLengthHint
 refine wpAny_bind (wpAny_specialOf hT F.slot_set_len.lookup ?_)
 generalize hid:("set.__len__" : String)=id0
 wp_delta
 rw [show splitId id0=some ("set","__len__") from by subst hid; decide +kernel]
 subst hid
 refine wpAny_bind (wpAny_isInstance (T := "set") (b:=true) hT (by rw [isSubtype_type]; kernel_rfl) ?_)
 refine wpAny_ite_split (fun hab=>absurd hab (by decide)) (fun _ => ?_)
 refine wpAny_ite_split (fun _ => ?_) (fun hab=>absurd (by decide +kernel) hab)
 refine wpAny_bind (wpAny_typeOf hT ?_)
 exact wpAny_pure h
theorem zkB:PySem.W.KdlSrc prog w "set" a a es.size (fun i v=>∃ e,(ordE w a ep es)[i]?=some e∧v=e.2) (fun h=>SetAt w h a es ep tb) where
 type:=fun s S=>S.typeIs
 there:=fun _ S=>⟨S.lt,S.lt⟩
 keep:=fun _ _ S hk=>S.keep fun o e=>hk a (.inl rfl) o e
 notList:=by decide
 notTuple:=by decide
 hint:=fun _ _ _ _ S hq=>zjl S.typeIs hq
 iter:=fun A s hh S=>⟨_,_,(fun _ _ hq=>ziO S hq),zgN (tb:=tb) hh _ (Nat.ne_of_lt S.lt),⟨S.keep fun o e=>Heap.get?_push_of_some _ e,0,⟨_,Heap.get?_push_size _ rfl,rfl,rfl⟩,fun _=>⟨fun _=>rfl,fun k x hk=>by lia⟩⟩⟩
end
end DL
namespace DL
open PySem PySem.Spec PyProof.Rows L2
theorem zhx (P:List Int→Prop) (h0:P []) (h1:∀ l k,P l→P (l++[k])):∀ l,P l:=by
 intro l
 have:∀ (n:Nat) (l:List Int),l.length=n→P l:=by
  intro n
  induction n with
  | zero=>intro l h; rw [List.eq_nil_of_length_eq_zero h]; exact h0
  | succ n ih =>
    intro l h
    rcases List.eq_nil_or_concat l with e | ⟨m,t,e⟩
    ·subst e; simp at h
    ·have e':l=m++[t]:=by simpa using e
     rw [e'] at h ⊢
     exact h1 m t (ih m (by simp at h; exact h))
 exact this _ l rfl
theorem zld (ns:List Int):∀ k,k∈met ns↔k∈ns:=by
 refine zhx (fun ns=>∀ k,k∈met ns↔k∈ns) (fun k=>Iff.rfl) (fun l k ih x => ?_) ns
 rw [zch]
 split
 ·rename_i h
  rw [ih x,List.mem_append,List.mem_singleton]
  constructor
  ·exact .inl
  ·rintro (h' | rfl)
   ·exact h'
   ·exact (ih _).mp h
 ·rw [List.mem_append,List.mem_append,ih x]
theorem zhw (ns:List Int):(met ns).Nodup:=by
 refine zhx (fun ns=>(met ns).Nodup) List.nodup_nil (fun l k ih => ?_) ns
 rw [zch]
 split
 ·exact ih
 ·rename_i h
  rw [List.nodup_append]
  refine ⟨ih,by simp,fun a ha b hb => ?_⟩
  rw [List.mem_singleton] at hb
  subst hb
  exact fun z=>h (z ▸ ha)
theorem xS:∀ (n:Nat) (l:List Int),l.length≤n→l.eraseDups.Nodup
 | 0,l,h=>by rw [List.eq_nil_of_length_eq_zero (Nat.le_zero.mp h)]; simp
 | n+1,[],_=>by simp
 | n+1,a::l,h=>by
   rw [List.eraseDups_cons,List.nodup_cons]
   have hl:=List.length_filter_le (fun b => !b == a) l
   refine ⟨fun hm => ?_,xS n _ (by simp at h; lia)⟩
   rw [List.mem_eraseDups,List.mem_filter] at hm
   simp at hm
theorem zja (ns:List Int):yG (met ns)=yG ns.eraseDups :=
 xE ((yd _).trans (((List.perm_ext_iff_of_nodup (zhw ns) (xS _ ns (Nat.le_refl _))).mpr fun k=>by rw [zld,List.mem_eraseDups]).trans (yd _).symm)) (yF _) (yF _)
noncomputable def SetO (w:World) (a:Addr) (ns:List Int):HO:=.ext fun h=>∃ es ep tb,SetAt w h a es ep tb∧EsOk es.toList ns
theorem zii {X:Cx} (hc:X.calm=true):tJ X (.type "set") (fun xs H Q=>∃ p ns,xs=[.ref p]∧H p=some (.lst (ns.map V.int))∧ns.length<18∧∀ l,H l=none→Q (.ref l) (upd H l (SetO X.w l (met ns)))):=by
 intro pins s σ H xs us Q I r h
 obtain ⟨p,ns,rfl,hp,hl,q⟩:=h
 obtain ⟨u,rfl,r1⟩:=zcU r
 cases (show u=.ref p from r1)
 obtain ⟨z,its,n,rv,hlen,e⟩:=I.lstM hp
 have hi:IntsAre its ns:=zbD rv
 refine zjy (items:=its.toArray) (I.ok.hd hc) ⟨_,e,rfl,_,rfl⟩ (by simpa using hi) hl fun h' tk es ep tb _ S hE hk => ?_
 have hk':∀ b o,s.heap.get? b=some o→h'.get? b=some o:=fun b o eb=>hk b o (Heap.lt_size eb) eb
 refine ⟨.ref s.heap.objs.size,_,I.laid (t':=tk) (o:=SetO X.w s.heap.objs.size (met ns)) hk' (Nat.le_refl _) ?_,rfl,q _ (I.hok.fresh (Nat.le_refl _))⟩
 obtain ⟨o,ho,_⟩:=S.ex
 exact ⟨⟨es,ep,tb,S,hE⟩,⟨o,ho⟩,fun h1 h2 ⟨es,ep,tb,S,hE⟩ hk=>⟨es,ep,tb,S.keep hk,hE⟩⟩
theorem zbC:∀ (l:List (Int×Value)),(∀ e∈l,∃ (k:Int) (t:Tok),e=(hashInt k,.int k t))→IntsAre (l.map (·.2)) (l.map keyE)
 | [],_=>.nil
 | e::l,h=>by
   obtain ⟨k,t,rfl⟩:=h e (.head _)
   exact .cons k t (zbC l fun e he=>h e (.tail _ he))
theorem zji {L:Array (Int×Value)} {acc:Array Value} (h:ItemsOf (fun i v=>∃ e,L[i]?=some e∧v=e.2) acc L.size):acc.toList=L.toList.map (·.2):=by
 apply List.ext_getElem?
 intro i
 rw [Array.getElem?_toList,List.getElem?_map,Array.getElem?_toList]
 cases q:acc[i]? with
 | some v =>
   obtain ⟨e,he,rfl⟩:=h.2 i v q
   rw [he]; rfl
 | none =>
   have:L.size≤i:=by rw [←h.1]; exact Array.getElem?_eq_none_iff.mp q
   rw [Array.getElem?_eq_none this]; rfl
theorem zdL {X:Cx} (hc:X.calm=true):tJ X (.builtin "sorted") (fun xs H Q=>∃ p ns,xs=[.ref p]∧H p=some (SetO X.w p ns)∧ns.length<64∧∀ l,H l=none→Q (.ref l) (upd H l (.lst ((yG ns).map V.int)))):=by
 intro pins s σ H xs us Q I r h
 obtain ⟨p,ns,rfl,hp,hl,q⟩:=h
 obtain ⟨u,rfl,r1⟩:=zcU r
 cases (show u=.ref p from r1)
 obtain ⟨⟨es,ep,tb,S,hE⟩,_⟩:=I.hok p _ hp
 have hsz:es.size=ns.length:=by rw [←Array.length_toList]; exact hE.length
 refine Calls.call_function_entry kind_sorted plain_sorted entry_sorted (args_sorted1 _) ?_
 unfold Builtin.«sorted»
 refine wpAny_bind (m:=checkCount "sorted" 1 1 _) (wpAny_pure ?_)
 refine wpAny_bind (PySem.W.kdu_collect (A:=X.A.in1) (zkB (a:=p) (es:=es) (ep:=ep) (tb:=tb)) (by simp [I.ok.hd hc]) S (by rw [hsz,sizeLine_eq]; lia) fun h' tk acc hk hacc => ?_)
 have hacc':ItemsOf (fun i v=>∃ e,(ordE X.w p ep es)[i]?=some e∧v=e.2) acc (ordE X.w p ep es).size:=by rw [zcd]; exact hacc
 have hitems:=zji hacc'
 have hE2:EsOk (ordE X.w p ep es).toList ns:=hE.of_perm (zfv X.w p ep es)
 have hI:IntsAre acc.toList ((ordE X.w p ep es).toList.map keyE):=by
  rw [hitems]
  exact zbC _ hE2.all
 have hal:acc.toList.length=ns.length:=by rw [hitems,List.length_map]; exact hE2.length
 refine wpAny_bind (wpAny_newList ?_ (by rw [hal,sizeLine_eq]; lia))
 have hoL:(h'.push (seqObj "list" acc.toList.toArray 0)).get? h'.objs.size=some (seqObj "list" acc.toList.toArray 0):=Heap.get?_push_size _ rfl
 refine wpAny_bind (wpAny_holding (wpAny_call_entry slot_list_sort ⟨_,hoL,rfl⟩ entry_list_sort (list_sort_tree hoL hI (by lia) fun out ns' a1 a2 a3=>⟨_,rfl,?_⟩) (args_list_sort _)))
 have en:ns'=yG ns:=xE ((a2.trans hE2.perm).trans (yd ns).symm) a3 (yF ns)
 subst en
 obtain ⟨c,he⟩:=sortedHeap_at (out:=out) hoL
 have keep:∀ b o,h'.get? b=some o→(sortedHeap (h'.push (seqObj "list" acc.toList.toArray 0)) h'.objs.size acc.toList out).get? b=some o:=fun b o eb=>by
  have hlt:=Heap.lt_size eb
  rw [sortedHeap_old (Nat.ne_of_lt hlt) (by rw [size_push']; exact Nat.lt_succ_of_lt hlt),Heap.get?_push_ne _ _ _ (Nat.ne_of_lt hlt)]
  exact eb
 have hz:((yG ns).map V.int).length≤sizeLine:=by rw [List.length_map,(yd ns).length_eq,sizeLine_eq]; lia
 have I1:Inv X pins σ H { s with heap:=h',toks:=tk }:=I.kept (t':=tk) hk
 exact wpAny_pure ⟨_,rfl,.ref h'.objs.size,_,I1.laid (t':=tk) (o:=.lst ((yG ns).map V.int)) keep (Nat.le_refl _) ⟨hz,out.toList,c,vY a1,by simpa [seqObj] using he⟩,rfl,q _ (I1.hok.fresh (Nat.le_refl _))⟩
theorem zdH {X:Cx} {G₀ H₀:Hp} {p p2 pos pos2:Pos} {e:Expr} {f:FE} (he:DE X G₀ H₀ e f) (hm:X.mg "sorted" = none) (hm2:X.mg "set" = none)
 (hc:X.calm=true:=by rfl) (hg:Gl X "sorted" := by rfl) (hg2:Gl X "set" := by rfl)
 (hs:starEach [.Call (.Name "set" p2) [e] [] pos2] X.env=[(false,eval (.Call (.Name "set" p2) [e] [] pos2) X.env)]:=by rfl) (hs2:starEach [e] X.env=[(false,eval e X.env)]:=by rfl) :
 DE X G₀ H₀ (.Call (.Name "sorted" p) [.Call (.Name "set" p2) [e] [] pos2] [] pos) (f1 vw f) :=
 (zcb (zdL hc) hg hm boot_sorted (yX (zda (zii hc) hg2 hm2 boot_set (yX he wY hs2) (by decide) (by decide) hs2 rfl) wY hs) (by decide) (by decide) hs rfl).imp fun σ H Q q=>by
  obtain ⟨env,G,val,I,e,k⟩:=q
  obtain ⟨x,e1,e⟩:=zq e
  refine xL I e1 fun v G' H' g l I' o => ?_
  unfold vw at e
  split at e
  ·rename_i ds hd
   rw [hd] at o
   split at e
   ·rename_i ns hn
    split at e
    ·rename_i hl
     cases e
     obtain ⟨a,vs,rfl,h1,r1⟩:=Opd.lst I' o
     rw [za4 hn] at r1
     rw [r1.ints_of] at h1
     refine ⟨a,ns,rfl,h1,hl,fun b hb => ?_⟩
     have hml:=zj8 ns
     refine ⟨b,met ns,rfl,yc,by lia,fun c hc => ?_⟩
     have g1:=Grow.laidL (o:=SetO X.w b (met ns)) l hb
     have g2:=Grow.laidL (o:=.lst ((yG (met ns)).map V.int)) g1.2 hc
     have h3:=x5 (K:=X.K) (env:=env) (σ:=σ) (ds:=(yG (met ns)).map .int) g1.2 hc (RepL.ints _)
     have g01:=g.trans g1.1
     have h4:=vT.base g01.h h3
     rw [zja] at h4 g2 ⊢
     exact k _ G' _ (g01.trans g2.1) g2.2 h4
    ·cases e
   ·cases e
  ·cases e
end DL
namespace DL
open PySem PySem.Spec PyProof.Rows L2
end DL
namespace DL
open PySem PySem.Spec PyProof.Rows L2
noncomputable def pth (t:SetTable) (h:Int) (n:Nat):SetTable.Probe:=advN t n (t.probeStart h)
noncomputable def RI (t:SetTable) (hs:List Int):Prop:=∀ q∈hs.zip t.place.toList,∃ m,(pth t q.1 m).j=q.2∧∀ m',m' < m→(pth t q.1 m').j∈t.place.toList
end DL
namespace DL
open PySem PySem.Spec PyProof.Rows L2
end DL
namespace DL
open PySem PySem.Spec PyProof.Rows L2
section
variable {prog:Program} {w:World} {A:Around} {E:Value→Shared→Prop} {s:Shared}
noncomputable abbrev PKey (prog:Program) (w:World) (h:Heap) (k:List Int) (a:Addr):Prop:=IsTupleKey (intKind prog w) h k a
noncomputable def pHash (prog:Program) (w:World) (k:List Int):Int:=(tupleKind (intKind prog w)).hash k
end
structure EsP (prog:Program) (w:World) (h:Heap) (es:List (Int×Value)) (S:List (List Int)):Prop where
 all:∀ e∈es,∃ k a,e=(pHash prog w k,.ref a)∧PKey prog w h k a
 mem:∀ k,k∈S↔∃ e∈es,∃ a,e=(pHash prog w k,.ref a)∧PKey prog w h k a
 len:es.length=S.length
structure PSet (prog:Program) (w:World) (h:Heap) (sa:Addr) (S:List (List Int)) (es:Array (Int×Value)) (ep:Nat) (tb:SetTable):Prop where
 at_:SetAt w h sa es ep tb
 ri:RI tb (es.toList.map (·.1))
 es:EsP prog w h es.toList S
section
variable {prog:Program} {w:World} {A:Around} {E:Value→Shared→Prop} {s:Shared}
end
end DL
namespace DL
open PySem PySem.Spec PyProof.Rows L2
section
variable {prog:Program} {w:World} {A:Around} {R:Result→Shared→Prop} {I:Addr} {fp wr:List Addr} {G:Array GenState→Array GenState→Prop} {P:Nat→Value→Prop} {St:Nat→Shared→Prop}
end
section
variable {prog:Program} {w:World} {A:Around} {E:Value→Shared→Prop} {s:Shared}
end
end DL
namespace DL
open PySem PySem.Spec PyProof.Rows L2 PySem.W
structure LtOk (n:Nat) (lt:Nat→Nat→Bool):Prop where
 irr:∀ i,lt i i=false
 tr:∀ i j k,lt i j=true→lt j k=true→lt i k=true
 tot:∀ i j,i<n→j<n→i≠j→lt i j=true∨lt j i=true
section
variable {n:Nat} {lt:Nat→Nat→Bool}
noncomputable def PermOk (n:Nat) (p:Array Nat):Prop:=p.toList.Perm (List.range n)
end
end DL
namespace DL
open PySem PySem.Spec PyProof.Rows L2 PySem.W
section
variable {prog:Program} {w:World} {A:Around} {E:Value→Shared→Prop} {s:Shared}
end
end DL
namespace DL
open PySem PySem.Spec PyProof.Rows L2
noncomputable def zf (p:Int×Int):D:=.tup [.int p.1,.int p.2]
end DL
namespace DL
open PySem PySem.Spec PyProof.Rows L2
section
variable {prog:Program} {w:World} {K:Type} [DecidableEq K] {knd:PySem.KeyKind prog w K} {A:Around} {E:Value→Shared→Prop} {s:Shared}
end
end DL
namespace DL
open PySem PySem.Spec PyProof.Rows L2
end DL
namespace DL
open PySem PySem.Spec PyProof.Rows L2
end DL
namespace DL
open PySem PySem.Spec PyProof.Rows L2
end DL
namespace DL
open PySem PySem.Spec PyProof.Rows L2
end DL
namespace DL
open PySem PySem.Spec PyProof.Rows L2
theorem Inv.turnedL {X:Cx} {pins:List (Addr×Obj)} {σ:St} {H:Hp} {s:Shared} {h':Heap} {t':Nat} {fp:List Addr} {T:Addr} {o:HO} (I:Inv X pins σ H s) (hf:∀ b∈fp,FpOk X pins H b) (k:∀ b u,b∉fp→s.heap.get? b=some u→h'.get? b=some u)
 (hT:s.heap.objs.size≤T) (new:x4 X.prog X.w (upd H T o) h' T o):Inv X pins σ (upd H T o) { s with heap:=h',toks:=t' }:=by
 have hn:=I.hok.fresh hT
 have nit:∀ b u,H b=some u→b∉fp:=fun b u e hb=>by rw [(hf b hb).1] at e; cases e
 have neT:∀ b u,s.heap.get? b=some u→b≠T:=fun b u e=>Nat.ne_of_lt (Nat.lt_of_lt_of_le (Heap.lt_size e) hT)
 refine I.step (g':=s.gens) (d':=s.drawn) (ch:=fp) (fun b hb=>let ⟨_,a1,_,a3,a4,a5⟩:=hf b hb; ⟨a3,a1,a4,a5⟩) (fun b u _ _ hc e _=>k b u hc e) (fun b u _ _ hc e _=>⟨u.slots,k b u hc e⟩) (fun b u _ e n=>by rw [zN (neT b u e)]; exact n)
  (fun b u hc e=>⟨u,k b u hc e⟩) (fun b xs e=>by rw [zN (zI e hn)]; exact e) (fun b u x e=>by rw [zN (zI e hn)]; exact e) (fun b ps e=>⟨#[],by rw [zN (zI e hn),e]; simp⟩) (fun m hm => ?_) (fun b u e => ?_) I.bare
 ·obtain ⟨ob,es,ep,ho,r⟩:=hm
  exact ⟨ob,es,ep,k _ ob (fun hb=>(hf _ hb).2.1 rfl) ho,r⟩
 ·by_cases hb:b=T
  ·subst hb; rw [yc] at e; cases e; exact new
  ·rw [zN hb] at e
   refine (I.hok b u e).stay (fun c v hc q=>k c v ?_ q) (fun c q=>by rw [zN (zI q hn)]; exact q) fun c xs q=>by rw [zN (zI q hn)]; exact q
   rcases hc with z | z
   ·rw [z]; exact nit b u e
   ·exact nit c _ z
theorem Inv.turnedF {X:Cx} {pins:List (Addr×Obj)} {σ:St} {H:Hp} {s:Shared} {h':Heap} {t':Nat} {fp:List Addr} (I:Inv X pins σ H s) (hf:∀ b∈fp,FpOk X pins H b) (k:∀ b u,b∉fp→s.heap.get? b=some u→h'.get? b=some u):Inv X pins σ H { s with heap:=h',toks:=t' }:=by
 have nit:∀ b u,H b=some u→b∉fp:=fun b u e hb=>by rw [(hf b hb).1] at e; cases e
 refine I.step (g':=s.gens) (d':=s.drawn) (ch:=fp) (fun b hb=>let ⟨_,a1,_,a3,a4,a5⟩:=hf b hb; ⟨a3,a1,a4,a5⟩) (fun b u _ _ hc e _=>k b u hc e) (fun b u _ _ hc e _=>⟨u.slots,k b u hc e⟩) (fun b u _ e n=>n)
  (fun b u hc e=>⟨u,k b u hc e⟩) (fun b xs e=>e) (fun b u x e=>e) (fun b ps e=>⟨#[],by rw [e]; simp⟩) (fun m hm => ?_) (fun b u e => ?_) I.bare
 ·obtain ⟨ob,es,ep,ho,r⟩:=hm
  exact ⟨ob,es,ep,k _ ob (fun hb=>(hf _ hb).2.1 rfl) ho,r⟩
 ·refine (I.hok b u e).stay (fun c v hc q=>k c v ?_ q) (fun c q=>q) fun c xs q=>q
  rcases hc with z | z
  ·rw [z]; exact nit b u e
  ·exact nit c _ z
end DL
namespace DL
open PySem PySem.Spec PyProof.Rows L2
section
variable {prog:Program} {w:World} {A:Around} {E:Value→Shared→Prop} {s:Shared}
end
end DL
namespace DL
open PySem PySem.Spec PyProof.Rows L2
section
variable {prog:Program} {w:World} {A:Around} {s:Shared} {R:Result→Shared→Prop} {xs ys:Array Value}
end
section
variable {prog:Program} {w:World} {A:Around} {E:Value→Shared→Prop} {s:Shared} {xs ys:Array Value}
end
end DL
namespace DL
open PySem PySem.Spec PyProof.Rows L2
end DL
namespace DL
open PySem PySem.Spec PyProof.Rows L2
noncomputable def Itv (K:PySem.W.Frag) (l:Addr) (n:Nat):It :=
 ⟨fun i H=>∃ xs,SqL K H l xs∧xs.length=n∧i<n,fun i H x H'=>H'=H∧∀ xs,SqL K H l xs→xs[n - 1 - i]?=some x,fun i _=>n≤i⟩
theorem ze2 {P:Program} {w:World} {K:PySem.W.Frag} {tg:Expr} (l it:Addr) (n:Nat):Turn P w K tg (Itv K l n) [it] it (fun i h=>i≤n∧h.IsRevIter it l ((n:Int) - 1 - (i:Int))) where
 mem:=by simp
 obj:=fun i h st b hb=>by
  have e:b=it:=by simpa using hb
  subst e
  obtain ⟨_,o,e,c,d⟩:=st
  exact ⟨o,e,fun v z=>by rw [d] at z; cases z⟩
 keep:=fun i h h' st k=>⟨st.1,st.2.at fun o e=>k it (by simp) o e⟩
 item:=by
  intro X hP hw hK hc i pins s σ H E I hf st hg
  subst hP hw hK
  obtain ⟨xs,hq,hn,hi⟩:=hg
  have hx:xs[n - 1 - i]?=some (xs[n - 1 - i]'(by lia)):=List.getElem?_eq_getElem _
  obtain ⟨its,rv,p,hz⟩:=I.list hq
  obtain ⟨u,hu,ru⟩:=rv.get hx
  obtain ⟨f0,f1,f2,f3,f4,f5⟩:=hf it (by simp)
  have en:(n:Int) - 1 - (i:Int)=((n - 1 - i:Nat):Int):=by lia
  have hit:=st.2
  rw [en] at hit
  refine wpAny_pyNext_rev_item hit p.isList (x:=u) (by simpa using hu) fun h' st' sb => ?_
  have en2:((n - 1 - i:Nat):Int) - 1=(n:Int) - 1 - ((i+1:Nat):Int):=by lia
  rw [en2] at st'
  have I1:Inv X pins σ H { s with heap:=h' }:=I.turned (t':=s.toks) (fun b o hb e=>(sb.2 b hb).trans e) f0 f1 f3 f4 f5
  obtain ⟨o,e,c,d⟩:=id st'
  exact ⟨u,rfl,zlr (s:={ s with heap:=h' }) e c d (by decide) ⟨_,H,I1,ru,⟨rfl,fun ys hy=>by rw [I.list_inj hy hq]; exact hx⟩,⟨hi,st'⟩,fun b hb=>(hf b hb).1⟩⟩
 done:=by
  intro X hP hw hK hc i pins s σ H E I hf st hg
  subst hP hw hK
  obtain ⟨f0,f1,f2,f3,f4,f5⟩:=hf it (by simp)
  have hn:n≤i:=hg
  have en:(n:Int) - 1 - (i:Int) = -1:=by have:=st.1; lia
  have hit:=st.2
  rw [en] at hit
  exact wpAny_pyNext_rev_end (I.ok.hd hc) hit fun h' eb=>⟨rfl,I.turned (t':=s.toks) (fun b o hb e=>eb b o hb e) f0 f1 f3 f4 f5⟩
 self:=fun _ _ _ _ _ st h=>wpAny_pyIter_revIter st.2 h
noncomputable def iRev (K:PySem.W.Frag) (ta:TA):TI:=fun σ H R=>ta σ H fun vs H1=>∃ a xs,vs=[.ref a]∧H1 a=some (.lst xs)∧R (Itv K a xs.length) H1
theorem zml {X:Cx} {tg:Expr} {p cpos:Pos} {l:Expr} {ta:TA} (hm:X.mg "reversed" = none) (ha:PA X [l] ta) (hg:Gl X "reversed" := by rfl) (hs:starEach [l] X.env=[(false,eval l X.env)]:=by rfl):PI X tg (.Call (.Name "reversed" p) [l] [] cpos) (iRev X.K ta):=by
 intro pins s σ H R I h
 refine Call_ (tV I hg hm boot_reversed (PyProof.Rows.callWith_type1 (thn (ha cpos pins s σ H _ I h) fun us s1 ⟨vs,H1,I1,r1,q1⟩ => ?_) hs rfl))
 obtain ⟨a,xs,rfl,hH,q⟩:=q1
 obtain ⟨u,rfl,r2⟩:=zcU r1
 cases (show u=.ref a from r2)
 obtain ⟨z,its,n,rv,hlen,e⟩:=I1.lstM hH
 have hl:s1.heap.IsList a its.toArray:=⟨_,e,rfl,_,rfl⟩
 refine call_reversed_list hl ?_
 have I2:Inv X pins σ H1 { s1 with heap:=s1.heap.push (revObj a ((its.toArray.size:Int) - 1)),toks:=s1.toks }:=I1.kept (t':=s1.toks) fun b o e=>Heap.get?_push_of_some _ e
 have hit:(s1.heap.push (revObj a ((its.toArray.size:Int) - 1))).IsRevIter s1.heap.objs.size a ((xs.length:Int) - 1 - ((0:Nat):Int)):=⟨_,Heap.get?_push_size _ rfl,rfl,by simp [revObj,hlen]⟩
 refine wpAny_pyIter_revIter hit ?_
 refine ⟨s1.heap.objs.size,[s1.heap.objs.size],_,Itv X.K a xs.length,H1,rfl,I2,ze2 a _ xs.length,⟨Nat.zero_le _,hit⟩,fun b hb => ?_,q⟩
 have e:b=s1.heap.objs.size:=by simpa using hb
 subst e
 exact I1.fpOk (Nat.le_refl _) (I1.hok.fresh (Nat.le_refl _))
theorem zlk {K:PySem.W.Frag} {G:Hp} {a:Addr} {ds:List D} {vs:List V} (h:SqL K G a vs) (r:RepL K G ds vs):JOk K (Itv K a vs.length) G ds.reverse where
 go:=fun i G' H' s l hi=>by
  rw [List.length_reverse,r.length] at hi
  exact ⟨vs,l.seq (s.seq h),rfl,hi⟩
 stop:=fun i G' H' s l hi=>by
  rw [List.length_reverse,r.length] at hi
  exact hi
 yld:=fun i G' H' x H1 s l hi y=>by
  obtain ⟨e,y⟩:=y
  subst e
  rw [List.length_reverse] at hi
  have hx:=y vs (l.seq (s.seq h))
  rw [←r.length] at hx
  obtain ⟨d,h1,h2⟩:=r.get' hx
  exact ⟨d,G',by rw [List.getElem?_reverse hi]; exact h1,Grow.refl _ _,l,h2.mono s⟩
@[simp] noncomputable def fRev (f:FE):FI:=fun env=>(f env).bind fun x=>x.hold.bind fun d=>match d with
  | .lst ds=>.ok ds.reverse
  | _=>.bad
theorem zm9 {X:Cx} {G₀ H₀:Hp} {tg:Expr} {p cpos:Pos} {l:Expr} {f:FE} (hm:X.mg "reversed" = none) (hl:DE X G₀ H₀ l f) (hg:Gl X "reversed" := by rfl) (hs:starEach [l] X.env=[(false,eval l X.env)]:=by rfl) :
 DIt X G₀ H₀ tg (.Call (.Name "reversed" p) [l] [] cpos) (fRev f):=(zml hm (yX hl wY hs) hg hs).imp fun σ H R q=>by
 obtain ⟨env,G,ds,I,e,k⟩:=q
 obtain ⟨x,e1,e⟩:=zq e
 obtain ⟨d,e2,e⟩:=zq e
 refine ⟨env,G,x,I,e1,fun v G' H' g l h => ?_⟩
 obtain ⟨G2,g2,l2,h2⟩:=held g l h e2
 split at e
 ·cases e
  obtain ⟨a,vs,rfl,h3,r3⟩:=h2
  exact ⟨a,vs,rfl,l2 _ _ h3,k _ G2 H' g2 l2 (zlk (SqL.of h3) r3)⟩
 ·cases e
end DL
namespace DL
open PySem PySem.Spec PyProof.Rows L2
theorem int_at {its:List Value} {ns:List Int} (h:IntsAre its ns) {i:Nat} {v:Value} (e:its[i]?=some v):∃ t,v=.int (ns.getD i 0) t:=IntsAre.int_at h i v e
section
variable {prog:Program} {w:World} {A:Around} {s:Shared} {R:Result→Shared→Prop} {I l S:Addr} {its:List Value} {ns:List Int}
end
section
variable {prog:Program} {w:World} {A:Around} {s:Shared} {R:Result→Shared→Prop} {I l S:Addr} {its:List Value} {ns:List Int}
end
end DL
namespace DL
open PySem PySem.Spec PyProof.Rows L2
end DL
namespace DL
open PySem PySem.Spec PyProof.Rows L2
section
variable {X:Cx} {G₀ H₀:Hp} {elt iter tg:Expr} {ifs:List Expr} {scope:Scope} {pos:Pos} {fi:FI} {g:D→Ev→Out Ev} {ft:FT} {fe:FE} {cap:List Nat} {own:List Str}
theorem tp {i:Nat} {x:Str} {pos' spos:Pos} (fz:Bool) (hN:X.N.Nodup) (C:CompOk X scope cap own) (hi:DIt X G₀ H₀ tg iter fi)
 (hg:∀ ex s H,DG (xj X (capN X cap own) scope ex s H) G₀ H₀ tg g) (hgc:Calm g) (ht:∀ ex s H,DTs (xj X (capN X cap own) scope ex s H) G₀ H₀ ifs ft) (he:∀ ex s H,DE (xj X (capN X cap own) scope ex s H) G₀ H₀ elt fe)
 (hc:X.calm=true:=by rfl) (hs:∀ x,foldedSetIterable iter X.env x=pure x:=by intro _; rfl) (hix:X.N[i]?=some x:=by rfl) (hx:Loc X.env.scope x:=by first | exact Or.inl rfl | exact Or.inr rfl)
 (hsw:swapsWith (.ListComp elt [⟨tg,iter,ifs,0⟩] scope pos) (some (.Name x pos')) spos.line X.env=pure true:=by rfl) (hf:X.fn x=true∨X.env.scope.names.lookup x=some .local:=by first | exact .inl rfl | exact .inr rfl) :
 DS X G₀ H₀ (.Assign [.Name x pos'] (.ListComp elt [⟨tg,iter,ifs,0⟩] scope pos) spos) (setS i fz (yy cap own.length fi g ft fe)):=by
 intro pins s σ H D I q
 obtain ⟨env,G,val,D0,e,k⟩:=zc0 q
 obtain ⟨ds,e1,e⟩:=zq e
 split at e
 rotate_left
 ·cases e
 rename_i hz
 obtain ⟨out,e2,e⟩:=zq e
 cases e
 rw [exec_Assign_Name_used _ _ _ _ hsw]
 refine wpAny_bind (wpAny_standAt (wpAny_bind ?_))
 show wpAny _ X.A (do let _ ← comprehension (.ListComp elt [⟨tg,iter,ifs,0⟩] scope pos) scope X.env _ (newList []) false (eval iter X.env) (some (assign (.Name x pos') X.env))) _ _ s
 refine wpAny_bind (wpAny_mono (wpAny_comprehension_free (use:=some (assign (.Name x pos') X.env)) (Q:=fun _ s'=>SP X pins D .next s') (cl:=xk X.env.cells scope.names []) rfl hs (uF (C.cells I)) C.kind C.locals ?_) (fun _ s' hq=>wpAny_pure (wpAny_pure hq)) fun _ _ e=>e)
 refine thn (hi pins s σ H (fun J H2=>∃ G2,Grow G H G2 H2∧Same G2 H2∧JOk X.K J G2 ds) I ⟨env,G,ds,D0,e1,fun J G2 H2 g2 l2 jok=>⟨G2,g2,l2,jok⟩⟩) fun v s1 h1=>thn h1 fun itv s2 h2 => ?_
 obtain ⟨it,fp,tn,J,H2,rfl,I2,T,st2,f2,G2,g2,l2,jok⟩:=h2
 refine zbS (RR:=fun acc C=>compPost (model X.prog X.w) X.A X.xe (some (assign (.Name x pos') X.env)) (fun _ s'=>SP X pins D .next s') acc C) C hc hg hgc ht he I2 (D0.grow g2 l2) T st2 f2 jok hz e2 fun L C' vs G' H' s' hC fD hD gD r gr l hm hI => ?_
 obtain ⟨m,hm⟩:=hm
 have I':Inv X pins σ H' s':=hI s'.heap (Heap.SameBut.refl _ _)
 have fC:FpOk X pins H' C':=I2.fpOk hC.1 hC.2
 show wpAny _ X.A (assign (.Name x pos') X.env (.ref L)) _ _ s'
 refine wpAny_assign_Name (zcZ I' hN hix hx (v:=.ref L) rfl (fun s3 I3 ⟨a,sb,ha⟩ => ?_) hf)
 have hne:C'≠a:=fun z=>by
  rcases ha with ha | ha
  ·exact fC.2.1 (z.trans ha)
  ·exact fC.2.2.2.2.1 x a ha z.symm
 refine ⟨m,hm.sameBut sb hne,fun h' sb' => ?_⟩
 have I4:Inv X pins (σ.set i (some (.ref L))) H' { s3 with heap:=h' }:=Inv.turnedF (fp:=[C']) (t':=s3.toks) I3 (fun b hb=>by rw [List.mem_singleton.mp hb]; exact fC) fun b u hb e=>sb'.extBut b u (fun z=>hb (by simp [z])) e
 exact ⟨_,H',I4,k _ G' H' (g2.trans gr) l ⟨L,vs,rfl,g2.h.free fD,hD,gD,r⟩⟩
end
end DL
namespace DL
open PySem PySem.Spec PyProof.Rows L2
section
variable {prog:Program} {w:World} {A:Around} {E:Value→Shared→Prop} {s:Shared}
end
end DL
namespace DL
open PySem PySem.Spec PyProof.Rows L2
end DL
namespace DL
open PySem PySem.Spec PyProof.Rows L2
end DL
namespace DL
open PySem PySem.Spec PyProof.Rows L2
structure Fly (P:Program) (w:World) (outer:List Env) (H H':Hp) (s s':Shared) (e:Addr) (cls:Value):Prop where
 os:s'.os=s.os
 bare:AllBare s'.gens
 same:Same H H'
 un:Un (frs outer) [] H H' s.heap s'.heap
 hok:HOk P w H' s'.heap
 fly:∃ (B:Heap) (a0:Value),Heap.FlyingW B outer e cls a0 s'.heap∧(∀ b o,s.heap.get? b=some o→H b=none→b∉frs outer→B.get? b=some o)∧(∀ b u o,H' b=some u→s'.heap.get? b=some o→B.get? b=some o)
section
variable {X:Cx} {pins:List (Addr×Obj)} {σ:St} {H H1:Hp} {s s1:Shared} {B h':Heap} {e:Addr} {cls a0:Value}
end
end DL
namespace DL
open PySem PySem.Spec PyProof.Rows L2
noncomputable abbrev SS:=Ev→St→Hp→Hp→Prop
noncomputable def Wish (mk:Bool) (X:Cx) (pins:List (Addr×Obj)) (S:SS) (c:Str):Prop :=
 (mk=true→∀ (σ:St) (H G:Hp) (env:Ev) (s:Shared) (e:Addr) (h1:Heap) (vs:List Value) (C:Addr),Inv X pins σ H s→S env σ G H→X.mg c=some (.ref C)→Heap.MadeExcOf s.heap h1 e (.ref C) vs→X.xe (.ref e) { s with heap:=h1 }) ∧
 (∀ (σ:St) (H G H1 G1:Hp) (env:Ev) (s s1:Shared) (e C:Addr),Inv X pins σ H s→S env σ G H→X.mg c=some (.ref C)→Fly X.prog X.w X.stack H H1 s s1 e (.ref C)→Grow G H G1 H1→Same G1 H1→X.xe (.ref e) s1)
noncomputable abbrev RR:=Ev→Str→Prop
section
variable (mk:Bool) (X:Cx) (G₀ H₀:Hp)
noncomputable def RW (α:Type) (m:Sem α) (R:RR):Prop:=∀ (pins:List (Addr×Obj)) (s:Shared) (σ:St) (H:Hp) (env:Ev) (G:Hp) (c:Str) (Q:α→Shared→Prop) (S:SS),Inv X pins σ H s→DI X.K G₀ H₀ env σ G H→R env c→(∀ G' H',Grow G H G' H'→Same G' H'→S env σ G' H')→Wish mk X pins S c→wpAny (model X.prog X.w) X.A m Q X.xe s
noncomputable def RE (e:Expr) (R:RR):Prop:=RW mk X G₀ H₀ Value (eval e X.env) R
end
section
variable {mk:Bool} {X:Cx} {G₀ H₀:Hp} {pos:Pos} {R:RR}
end
end DL
namespace DL
open PySem PySem.Spec PyProof.Rows L2 PySem.W PySem.Builtin PySem.Builtin.ObjectAttr PySem.Builtin.Getset_descriptor
section
variable {prog:Program} {w:World} {A:Around} {E:Value→Shared→Prop} {s:Shared} {K:PySem.W.Frag} {e C:Addr}
end
end DL
namespace DL
open PySem PySem.Spec PyProof.Rows L2
section
variable {X:Cx} {pins:List (Addr×Obj)} {σ:St} {H H1:Hp} {s s1:Shared} {B h':Heap} {e C:Addr} {cls a0:Value}
end
end DL
namespace DL
open PySem PySem.Spec PyProof.Rows L2
section
variable {X:Cx} {pins:List (Addr×Obj)} {σ:St} {H H1:Hp} {s s1:Shared} {e C:Addr}
end
end DL
namespace DL
open PySem PySem.Spec PyProof.Rows L2
section
variable {mk:Bool} {X:Cx} {G₀ H₀:Hp} {pos:Pos} {R:RR}
end
end DL
namespace DL
open PySem PySem.Spec PyProof.Rows L2
end DL
namespace DL
open PySem PySem.Spec PyProof.Rows L2
end DL
namespace DL
open PySem PySem.Spec PyProof.Rows L2
@[simp] noncomputable def frzE (i:Nat) (env:Ev):Ev:=match env[i]? with
  | some (.own ds)=>env.set i (.pers (.lst ds))
  | _=>env
@[simp] noncomputable def frzS (i:Nat) (g:FS):FS:=fun env=>g (frzE i env)
theorem DI.freeze {K:PySem.W.Frag} {G₀ H₀ G H:Hp} {env:Ev} {σ:St} {i:Nat} {ds:List D} (I:DI K G₀ H₀ env σ G H) (e:env[i]?=some (.own ds)):∃ G',Same G G'∧DI K G₀ H₀ (env.set i (.pers (.lst ds))) σ G' H:=by
 obtain ⟨a,vs,o⟩:=I.own e
 have s':Same G (upd G a (.lst vs)):=fun b u q=>by rw [zN (zI q o.gn)]; exact q
 refine ⟨upd G a (.lst vs),s',⟨fun b u q => ?_,⟨I.gr.g.trans s',I.gr.h,fun b h1 h2 => ?_⟩,by simp [I.len],fun j s e' => ?_,fun j k ds' es b hjk e1 e2 s1 s2 => ?_⟩⟩
 ·by_cases hb:b=a
  ·subst hb; rw [yc] at q; cases q; exact o.hp
  ·rw [zN hb] at q; exact I.le b u q
 ·have hb:b≠a:=fun z=>h1 (z ▸ o.new)
  rw [zN hb]
  exact I.gr.n b h1 h2
 ·by_cases hj:i=j
  ·subst hj
   obtain ⟨rfl,hl⟩:=yH e'
   exact ⟨.ref a,o.at_,a,vs,rfl,yc,o.rep.mono s'⟩
  ·rw [List.getElem?_set_ne hj] at e'
   have q:=I.slot j s e'
   cases s with
   | un=>trivial
   | pers d'=>obtain ⟨u,h1,h2⟩:=q; exact ⟨u,h1,h2.mono s'⟩
   | own es =>
     obtain ⟨b,us,p⟩:=q
     have hb:b≠a:=fun z=>by subst z; exact I.apart i j ds es b hj e e' o.at_ p.at_
     exact ⟨b,us,p.at_,p.hp,by rw [zN hb]; exact p.gn,p.new,p.rep.mono s'⟩
 ·have nj:i≠j:=fun z=>by subst z; cases (yH e1).1
  have nk:i≠k:=fun z=>by subst z; cases (yH e2).1
  rw [List.getElem?_set_ne nj] at e1
  rw [List.getElem?_set_ne nk] at e2
  exact I.apart j k ds' es b hjk e1 e2 s1 s2
theorem zlx {X:Cx} {G₀ H₀:Hp} {st:List Stmt} {g:FS} (i:Nat) (h:DSs X G₀ H₀ st g):DSs X G₀ H₀ st (frzS i g):=by
 intro pins s σ H D I q
 refine h pins s σ H D I ?_
 obtain ⟨env,G,r,d,e,k⟩:=q
 unfold frzS frzE at e
 split at e
 ·rename_i ds ho
  obtain ⟨G',s',d'⟩:=d.freeze ho
  refine ⟨_,G',r,d',e,?_⟩
  cases r with
  | next env'=>exact fun σ' G2 H2 q z=>k σ' G2 H2 (s'.trans q) z
  | ret v=>exact k
 ·exact ⟨env,G,r,d,e,k⟩
end DL
namespace DL
open PySem PySem.Spec PyProof.Rows L2
end DL
namespace DL
open PySem PySem.Spec PyProof.Rows L2
end DL
namespace DL
open PySem
end DL
namespace DL
open PySem
section
variable {prog:Program} {w:World} {A:Around} {E:Value→Shared→Prop} {h:Heap} {g:Array GenState} {d:Drawn} {t:Nat} {os:OsState}
variable {nm q:Str} {C N:Addr} {bs bm bmB:List Value} {hdct:Bool} {sn:List Str} {sub:List Value} {ab:Bool} {col:Option Bool} {dd:Option Addr} {k0 k1 k2 k3 k5:Option Value} {B newId initId:String}
end
section
variable {prog:Program} {w:World} {A:Around} {E:Value→Shared→Prop} {s:Shared} {env:Env}
variable {nm q:Str} {C N:Addr} {bs bm bmB:List Value} {hdct:Bool} {sn:List Str} {sub:List Value} {ab:Bool} {col:Option Bool} {dd:Option Addr} {k0 k1 k2 k3 k5:Option Value} {B newId initId:String}
end
end DL
namespace DL
open PySem PySem.Spec PyProof.Rows L2 PySem.W PySem.Builtin PySem.Builtin.ObjectAttr
section
variable {prog:Program} {w:World} {A:Around} {E:Value→Shared→Prop} {s:Shared} {K:PySem.W.Frag} {e C t:Addr} {f:Str} {v:Value}
end
end DL
namespace DL
open PySem PySem.Spec PyProof.Rows L2
noncomputable abbrev Xc:=Str×Option Int
noncomputable abbrev RX:=Ev→Xc→Prop
section
variable {X:Cx} {pins:List (Addr×Obj)} {σ:St} {H H1:Hp} {s s1:Shared} {e C:Addr} {dq:Option Addr} {cls:Value}
end
section
variable (mk:Bool) (X:Cx) (G₀ H₀:Hp)
end
section
variable {mk:Bool} {X:Cx} {G₀ H₀:Hp} {pos:Pos} {R:RX}
end
end DL
namespace DL
open PySem PySem.Spec PyProof.Rows L2
section
variable {X:Cx} {o value:Expr} {f:Str} {pos pos':Pos} {ta tv:TE}
end
section
variable {X:Cx} {G₀ H₀:Hp} {pos:Pos} {pins:List (Addr×Obj)} {σ:St} {H:Hp} {s:Shared} {e C:Addr}
end
end DL
namespace DL
open PySem PySem.Spec PyProof.Rows L2
section
variable {X:Cx} {pins:List (Addr×Obj)} {σ:St} {H H1:Hp} {s s1:Shared} {e C:Addr} {dq:Option Addr}
end
end DL
namespace DL
open PySem PySem.Spec PyProof.Rows L2
end DL
namespace DL
open PySem PySem.Spec PyProof.Rows L2
end DL
namespace DL
open PySem PySem.Spec PyProof.Rows L2
noncomputable abbrev Tri (h:Heap) (T:Addr) (a b c:Value):Prop:=h.get? T=some { cls:=.type "tuple",data:=.seq #[a,b,c] }
theorem nq {a b:Nat} (h:a≠b):@Ne Addr a b:=h
section
variable {prog:Program} {w:World} {A:Around} {E:Value→Shared→Prop} {s:Shared}
theorem zaw {T:Addr} {a b c x:Value} {k:Nat} {Q:Unit→Shared→Prop} (hT:Tri s.heap T a b c)
 (h:∀ h',h'.get? T=some { cls:=.type "tuple",data:=.seq ((#[a,b,c]:Array Value).setIfInBounds k x) }→Heap.SameBut T s.heap h'→Q () { s with heap:=h' }) :
 wpAny (model prog w) A (updateSeq T (·.setIfInBounds k x)) Q E s:=by
 refine wpAny_updateSeq hT rfl (h _ ?_ (Heap.SameBut.update ..))
 rw [Heap.get?_update_self _ hT rfl]
 simp [Obj.mapSeq]
structure Z3 (h:Heap) (m l1 l2 l3:Nat) (f:Value) (i:Nat):Prop where
 z:IsZip h (m+5) (m+3) (m+4) f
 ti:Tri h (m+3) (.ref m) (.ref (m+1)) (.ref (m+2))
 to:∃ a b c,Tri h (m+4) a b c
 p1:h.IsListIter m l1 i
 p2:h.IsListIter (m+1) l2 i
 p3:h.IsListIter (m+2) l3 i
noncomputable def fp3 (m:Nat):List Addr:=[m+5,m+4,m+3,m,m+1,m+2]
theorem zkq {m l1 l2 l3:Nat} {k:Nat} {xs ys zs:Array Value} {x y v:Value} {Q:Value→Shared→Prop} (st:Z3 s.heap m l1 l2 l3 .none k) (n1:l1<m) (n2:l2<m) (n3:l3<m)
 (hl1:s.heap.IsList l1 xs) (hl2:s.heap.IsList l2 ys) (hl3:s.heap.IsList l3 zs) (hx:xs[k]?=some x) (hy:ys[k]?=some y) (hv:zs[k]?=some v)
 (hQ:∀ h',Z3 h' m l1 l2 l3 (rawInt s.heap.objs.size) (k+1)→Tri h' s.heap.objs.size x y v→h'.objs.size=s.heap.objs.size+1 →
  (∀ c o,c∉fp3 m→s.heap.get? c=some o→h'.get? c=some o)→Q (.ref s.heap.objs.size) { s with heap:=h' }) :
 wpAny (model prog w) A (Builtin.«zip.__next__» ⟨[.ref (m+5)],[]⟩) (fun fin s'=>∃ v,fin=.done (.ret v)∧Q v s') E s:=by
 obtain ⟨hz,hTI,⟨a,b,c,hTO⟩,h1,h2,h3⟩:=st
 show wpAny _ _ (field (.ref (m+5)) 2 >>= _) _ _ _
 refine wpAny_bind (wpAny_field hz rfl (x:=.bool false) rfl ?_)
 show wpAny _ _ (field (.ref (m+5)) 3 >>= _) _ _ _
 refine wpAny_bind (wpAny_field hz rfl (x:=.ref (m+3)) rfl ?_)
 refine wpAny_bind (wpAny_seqItems hTI rfl ?_)
 show wpAny _ _ (Builtin.SmallTypes.ownedTupleIsFree (.ref (m+5)) >>= _) _ _ _
 refine wpAny_bind ?_
 unfold Builtin.SmallTypes.ownedTupleIsFree
 refine wpAny_bind (wpAny_field hz rfl (x:=.none) rfl (wpAny_pure ?_))
 simp only [if_true]
 refine wpAny_bind (wpAny_rule ?_)
 refine wpAny_bind (wpAny_field hz rfl (x:=.ref (m+4)) rfl ?_)
 refine wpAny_bind (wpAny_setField_rec hz (by simp) fun ha za sa => ?_)
 replace za:IsZip ha (m+5) (m+3) (m+4) .ellipsis:=za
 refine wpAny_bind ?_
 simp only [List.zipIdx_cons,List.zipIdx_nil,List.forIn_cons,List.forIn_nil]
 refine wpAny_bind (wpAny_bind (wpAny_onRaise ?_))
 show wpAny _ _ (Builtin.SmallTypes.nextOf (.ref m) >>= _) _ _ _
 refine wpAny_bind (wpAny_nextOf_list_item (h1.extBut sa.extBut (nq (by lia))) (hl1.extBut sa.extBut (nq (by lia))) hx fun hb ib sb=>wpAny_pure ?_)
 have tb:Tri hb (m+4) a b c:=sb.extBut _ _ (nq (by lia)) (sa.extBut _ _ (nq (by lia)) hTO)
 refine wpAny_bind (wpAny_seqItems tb rfl ?_)
 refine wpAny_bind (zaw tb fun hc tc sc => ?_)
 replace tc:Tri hc (m+4) x b c:=tc
 refine wpAny_bind (wpAny_letGo (wpAny_pure ?_))
 have k1:∀ u o,u∉fp3 m→s.heap.get? u=some o→hc.get? u=some o:=fun u o hu e=>by
  simp only [fp3,List.mem_cons,List.not_mem_nil,or_false,not_or] at hu
  exact sc.extBut _ _ hu.2.1 (sb.extBut _ _ hu.2.2.2.1 (sa.extBut _ _ hu.1 e))
 have j2:hc.IsListIter (m+1) l2 k:=((h2.extBut sa.extBut (nq (by lia))).extBut sb.extBut (nq (by lia))).extBut sc.extBut (nq (by lia))
 have j3:hc.IsListIter (m+2) l3 k:=((h3.extBut sa.extBut (nq (by lia))).extBut sb.extBut (nq (by lia))).extBut sc.extBut (nq (by lia))
 have L2:hc.IsList l2 ys:=((hl2.extBut sa.extBut (nq (by lia))).extBut sb.extBut (nq (by lia))).extBut sc.extBut (nq (by lia))
 have L3:hc.IsList l3 zs:=((hl3.extBut sa.extBut (nq (by lia))).extBut sb.extBut (nq (by lia))).extBut sc.extBut (nq (by lia))
 have zc:IsZip hc (m+5) (m+3) (m+4) .ellipsis:=sc.extBut _ _ (nq (by lia)) (sb.extBut _ _ (nq (by lia)) za)
 have uc:Tri hc (m+3) (.ref m) (.ref (m+1)) (.ref (m+2)):=sc.extBut _ _ (nq (by lia)) (sb.extBut _ _ (nq (by lia)) (sa.extBut _ _ (nq (by lia)) hTI))
 have ic:hc.IsListIter m l1 (k+1):=ib.extBut sc.extBut (nq (by lia))
 have zsz:hc.objs.size=s.heap.objs.size:=by rw [sc.1,sb.1,sa.1]
 clear sa sb sc tb ib za hTO h1 h2 h3
 refine wpAny_bind (wpAny_bind (wpAny_onRaise ?_))
 show wpAny _ _ (Builtin.SmallTypes.nextOf (.ref (m+1)) >>= _) _ _ _
 refine wpAny_bind (wpAny_nextOf_list_item j2 L2 hy fun hd id sd=>wpAny_pure ?_)
 have td:Tri hd (m+4) x b c:=sd.extBut _ _ (nq (by lia)) tc
 refine wpAny_bind (wpAny_seqItems td rfl ?_)
 refine wpAny_bind (zaw td fun he te se => ?_)
 replace te:Tri he (m+4) x y c:=te
 refine wpAny_bind (wpAny_letGo (wpAny_pure ?_))
 have k2:∀ u o,u∉fp3 m→s.heap.get? u=some o→he.get? u=some o:=fun u o hu e=>by
  have e:=k1 u o hu e
  simp only [fp3,List.mem_cons,List.not_mem_nil,or_false,not_or] at hu
  exact se.extBut _ _ hu.2.1 (sd.extBut _ _ hu.2.2.2.2.1 e)
 have q3:he.IsListIter (m+2) l3 k:=(j3.extBut sd.extBut (nq (by lia))).extBut se.extBut (nq (by lia))
 have M3:he.IsList l3 zs:=(L3.extBut sd.extBut (nq (by lia))).extBut se.extBut (nq (by lia))
 have ze:IsZip he (m+5) (m+3) (m+4) .ellipsis:=se.extBut _ _ (nq (by lia)) (sd.extBut _ _ (nq (by lia)) zc)
 have ue:Tri he (m+3) (.ref m) (.ref (m+1)) (.ref (m+2)):=se.extBut _ _ (nq (by lia)) (sd.extBut _ _ (nq (by lia)) uc)
 have ie:he.IsListIter m l1 (k+1):=(ic.extBut sd.extBut (nq (by lia))).extBut se.extBut (nq (by lia))
 have je:he.IsListIter (m+1) l2 (k+1):=id.extBut se.extBut (nq (by lia))
 have zsz2:he.objs.size=s.heap.objs.size:=by rw [se.1,sd.1]; exact zsz
 clear sd se td id zc uc ic tc j2 j3 L2 L3 zsz
 refine wpAny_bind (wpAny_bind (wpAny_onRaise ?_))
 show wpAny _ _ (Builtin.SmallTypes.nextOf (.ref (m+2)) >>= _) _ _ _
 refine wpAny_bind (wpAny_nextOf_list_item q3 M3 hv fun hf jf sf=>wpAny_pure ?_)
 have tf:Tri hf (m+4) x y c:=sf.extBut _ _ (nq (by lia)) te
 refine wpAny_bind (wpAny_seqItems tf rfl ?_)
 refine wpAny_bind (zaw tf fun hg tg sg => ?_)
 replace tg:Tri hg (m+4) x y v:=tg
 refine wpAny_bind (wpAny_letGo (wpAny_pure (wpAny_pure ?_)))
 have k3:∀ u o,u∉fp3 m→s.heap.get? u=some o→hg.get? u=some o:=fun u o hu e=>by
  have e:=k2 u o hu e
  simp only [fp3,List.mem_cons,List.not_mem_nil,or_false,not_or] at hu
  exact sg.extBut _ _ hu.2.1 (sf.extBut _ _ hu.2.2.2.2.2 e)
 have zg:IsZip hg (m+5) (m+3) (m+4) .ellipsis:=sg.extBut _ _ (nq (by lia)) (sf.extBut _ _ (nq (by lia)) ze)
 have ug:Tri hg (m+3) (.ref m) (.ref (m+1)) (.ref (m+2)):=sg.extBut _ _ (nq (by lia)) (sf.extBut _ _ (nq (by lia)) ue)
 have ig:hg.IsListIter m l1 (k+1):=(ie.extBut sf.extBut (nq (by lia))).extBut sg.extBut (nq (by lia))
 have jg:hg.IsListIter (m+1) l2 (k+1):=(je.extBut sf.extBut (nq (by lia))).extBut sg.extBut (nq (by lia))
 have qg:hg.IsListIter (m+2) l3 (k+1):=jf.extBut sg.extBut (nq (by lia))
 have hsz:hg.objs.size=s.heap.objs.size:=by rw [sg.1,sf.1]; exact zsz2
 refine wpAny_bind (wpAny_seqItems tg rfl ?_)
 refine wpAny_bind (wpAny_newTuple ?_)
 have lt:m+5<hg.objs.size:=Heap.lt_size zg
 show wpAny _ _ (Builtin.SmallTypes.ownedTupleHandOut (.ref (m+5)) (.ref hg.objs.size) >>= _) _ _ _
 refine wpAny_bind ?_
 unfold Builtin.SmallTypes.ownedTupleHandOut
 have zp:IsZip (hg.push { cls:=.type "tuple",data:=.seq #[x,y,v] }) (m+5) (m+3) (m+4) .ellipsis:=Heap.get?_push_of_some _ zg
 refine wpAny_bind (wpAny_setField_rec zp (by simp) fun hr zr sr => ?_)
 replace zr:IsZip hr (m+5) (m+3) (m+4) (rawInt hg.objs.size):=zr
 refine wpAny_setField_rec zr (by simp) fun ht zt st => ?_
 replace zt:IsZip ht (m+5) (m+3) (m+4) (rawInt hg.objs.size):=zt
 have up:∀ u o,u≠m+5→hg.get? u=some o→ht.get? u=some o:=fun u o hu e=>st.extBut _ _ hu (sr.extBut _ _ hu (Heap.get?_push_of_some _ e))
 have nt:Tri ht hg.objs.size x y v:=st.extBut _ _ (Nat.ne_of_gt lt) (sr.extBut _ _ (Nat.ne_of_gt lt) (Heap.get?_push_size _ rfl))
 have tsz:ht.objs.size=hg.objs.size+1:=by rw [st.1,sr.1,Heap.size_push]
 rw [hsz] at zt nt tsz
 refine wpAny_pure ⟨_,rfl,?_⟩
 show Q (.ref hg.objs.size) _
 rw [hsz]
 refine hQ ht ⟨zt,up _ _ (nq (by lia)) ug,⟨x,y,v,up _ _ (nq (by lia)) tg⟩,ig.at fun o e=>up _ o (nq (by lia)) e,jg.at fun o e=>up _ o (nq (by lia)) e,qg.at fun o e=>up _ o (nq (by lia)) e⟩ nt tsz fun u o hu e=>up u o (fun q=>hu (by simp [fp3,q])) (k3 u o hu e)
theorem zlR {m l1 l2 l3:Nat} {k:Nat} {xs ys zs:Array Value} {Q:Fin→Shared→Prop} (hh:A.handled=none) (st:Z3 s.heap m l1 l2 l3 .none k) (n1:l1<m) (n2:l2<m) (n3:l3<m)
 (hl1:s.heap.IsList l1 xs) (hl2:s.heap.IsList l2 ys) (hl3:s.heap.IsList l3 zs) (hend:xs[k]?=none∨ys[k]?=none∨zs[k]?=none)
 (hE:∀ h' e,(∀ c o,c∉fp3 m→s.heap.get? c=some o→h'.get? c=some o)→(∃ o,h'.get? e=some o∧o.cls=.type "StopIteration")→E (.ref e) { s with heap:=h' }) :
 wpAny (model prog w) A (Builtin.«zip.__next__» ⟨[.ref (m+5)],[]⟩) Q E s:=by
 obtain ⟨hz,hTI,⟨a,b,c,hTO⟩,h1,h2,h3⟩:=st
 have stop:∀ (hp:Heap) (e:Addr) (k0:∀ u o,u∉fp3 m→s.heap.get? u=some o→hp.get? u=some o) (ze:IsZip hp (m+5) (m+3) (m+4) .ellipsis) (oe:Obj) (hoe:hp.get? e=some oe) (hce:oe.cls=.type "StopIteration") (Q':Unit→Shared→Prop) (hq:∀ h',(∀ c o,c∉fp3 m→s.heap.get? c=some o→h'.get? c=some o)→(∃ o,h'.get? e=some o∧o.cls=.type "StopIteration")→Q' () { s with heap:=h' }),
  wpAny (model prog w) A (setField (.ref (m+5)) 0 .none) Q' E { s with heap:=hp }:=by
  intro hp e k0 ze oe hoe hce Q' hq
  have hez:e≠m+5:=fun x=>by subst x; rw [ze] at hoe; cases hoe; simp at hce
  refine wpAny_setField_rec ze (by simp) fun hr _ sr=>hq hr (fun u o hu q => ?_) ⟨oe,sr.extBut _ _ hez hoe,hce⟩
  refine sr.extBut _ _ (fun z=>hu (by simp [fp3,z])) (k0 u o hu q)
 show wpAny _ _ (field (.ref (m+5)) 2 >>= _) _ _ _
 refine wpAny_bind (wpAny_field hz rfl (x:=.bool false) rfl ?_)
 show wpAny _ _ (field (.ref (m+5)) 3 >>= _) _ _ _
 refine wpAny_bind (wpAny_field hz rfl (x:=.ref (m+3)) rfl ?_)
 refine wpAny_bind (wpAny_seqItems hTI rfl ?_)
 show wpAny _ _ (Builtin.SmallTypes.ownedTupleIsFree (.ref (m+5)) >>= _) _ _ _
 refine wpAny_bind ?_
 unfold Builtin.SmallTypes.ownedTupleIsFree
 refine wpAny_bind (wpAny_field hz rfl (x:=.none) rfl (wpAny_pure ?_))
 simp only [if_true]
 refine wpAny_bind (wpAny_rule ?_)
 refine wpAny_bind (wpAny_field hz rfl (x:=.ref (m+4)) rfl ?_)
 refine wpAny_bind (wpAny_setField_rec hz (by simp) fun ha za sa => ?_)
 replace za:IsZip ha (m+5) (m+3) (m+4) .ellipsis:=za
 refine wpAny_bind ?_
 simp only [List.zipIdx_cons,List.zipIdx_nil,List.forIn_cons,List.forIn_nil]
 refine wpAny_bind (wpAny_bind (wpAny_onRaise ?_))
 show wpAny _ _ (Builtin.SmallTypes.nextOf (.ref m) >>= _) _ _ _
 have g1:ha.IsListIter m l1 k:=h1.extBut sa.extBut (nq (by lia))
 have gl:ha.IsList l1 xs:=hl1.extBut sa.extBut (nq (by lia))
 have ka:∀ u o,u∉fp3 m→s.heap.get? u=some o→ha.get? u=some o:=fun u o hu e=>sa.extBut _ _ (fun z=>hu (by simp [fp3,z])) e
 cases hx:xs[k]? with
 | none =>
   refine wpAny_bind (wpAny_nextOf_list_end hh g1 gl hx fun hb e sb ⟨oe,hoe,hce⟩ => ?_)
   exact stop hb e (fun u o hu q=>sb _ _ (fun z=>hu (by simp [fp3,z])) (ka u o hu q)) (sb _ _ (nq (by lia)) za) oe hoe hce _ fun h' p q=>hE h' e p q
 | some x =>
   refine wpAny_bind (wpAny_nextOf_list_item g1 gl hx fun hb ib sb=>wpAny_pure ?_)
   have tb:Tri hb (m+4) a b c:=sb.extBut _ _ (nq (by lia)) (sa.extBut _ _ (nq (by lia)) hTO)
   refine wpAny_bind (wpAny_seqItems tb rfl ?_)
   refine wpAny_bind (zaw tb fun hc tc sc => ?_)
   replace tc:Tri hc (m+4) x b c:=tc
   refine wpAny_bind (wpAny_letGo (wpAny_pure ?_))
   have kc:∀ u o,u∉fp3 m→s.heap.get? u=some o→hc.get? u=some o:=fun u o hu e=>sc.extBut _ _ (fun z=>hu (by simp [fp3,z])) (sb.extBut _ _ (fun z=>hu (by simp [fp3,z])) (ka u o hu e))
   have zc:IsZip hc (m+5) (m+3) (m+4) .ellipsis:=sc.extBut _ _ (nq (by lia)) (sb.extBut _ _ (nq (by lia)) za)
   have j2:hc.IsListIter (m+1) l2 k:=((h2.extBut sa.extBut (nq (by lia))).extBut sb.extBut (nq (by lia))).extBut sc.extBut (nq (by lia))
   have j3:hc.IsListIter (m+2) l3 k:=((h3.extBut sa.extBut (nq (by lia))).extBut sb.extBut (nq (by lia))).extBut sc.extBut (nq (by lia))
   have L2:hc.IsList l2 ys:=((hl2.extBut sa.extBut (nq (by lia))).extBut sb.extBut (nq (by lia))).extBut sc.extBut (nq (by lia))
   have L3:hc.IsList l3 zs:=((hl3.extBut sa.extBut (nq (by lia))).extBut sb.extBut (nq (by lia))).extBut sc.extBut (nq (by lia))
   refine wpAny_bind (wpAny_bind (wpAny_onRaise ?_))
   show wpAny _ _ (Builtin.SmallTypes.nextOf (.ref (m+1)) >>= _) _ _ _
   cases hy:ys[k]? with
   | none =>
     refine wpAny_bind (wpAny_nextOf_list_end hh j2 L2 hy fun hd e sd ⟨oe,hoe,hce⟩ => ?_)
     exact stop hd e (fun u o hu q=>sd _ _ (fun z=>hu (by simp [fp3,z])) (kc u o hu q)) (sd _ _ (nq (by lia)) zc) oe hoe hce _ fun h' p q=>hE h' e p q
   | some y =>
     have hv:zs[k]?=none:=by
      rcases hend with h | h | h
      ·rw [hx] at h; cases h
      ·rw [hy] at h; cases h
      ·exact h
     refine wpAny_bind (wpAny_nextOf_list_item j2 L2 hy fun hd id sd=>wpAny_pure ?_)
     have td:Tri hd (m+4) x b c:=sd.extBut _ _ (nq (by lia)) tc
     refine wpAny_bind (wpAny_seqItems td rfl ?_)
     refine wpAny_bind (zaw td fun he te se => ?_)
     refine wpAny_bind (wpAny_letGo (wpAny_pure ?_))
     have ke:∀ u o,u∉fp3 m→s.heap.get? u=some o→he.get? u=some o:=fun u o hu e=>se.extBut _ _ (fun z=>hu (by simp [fp3,z])) (sd.extBut _ _ (fun z=>hu (by simp [fp3,z])) (kc u o hu e))
     have ze:IsZip he (m+5) (m+3) (m+4) .ellipsis:=se.extBut _ _ (nq (by lia)) (sd.extBut _ _ (nq (by lia)) zc)
     refine wpAny_bind (wpAny_bind (wpAny_onRaise ?_))
     show wpAny _ _ (Builtin.SmallTypes.nextOf (.ref (m+2)) >>= _) _ _ _
     refine wpAny_bind (wpAny_nextOf_list_end hh ((j3.extBut sd.extBut (nq (by lia))).extBut se.extBut (nq (by lia))) ((L3.extBut sd.extBut (nq (by lia))).extBut se.extBut (nq (by lia))) hv fun hf e sf ⟨oe,hoe,hce⟩ => ?_)
     exact stop hf e (fun u o hu q=>sf _ _ (fun z=>hu (by simp [fp3,z])) (ke u o hu q)) (sf _ _ (nq (by lia)) ze) oe hoe hce _ fun h' p q=>hE h' e p q
end
end DL
namespace DL
open PySem PySem.Spec PyProof.Rows L2
section
variable {prog:Program} {w:World} {A:Around} {E:Value→Shared→Prop} {s:Shared}
theorem zkp {m l1 l2 l3:Nat} {k:Nat} {xs ys zs:Array Value} {x y v:Value} {Q:Option Value→Shared→Prop} (st:Z3 s.heap m l1 l2 l3 .none k) (n1:l1<m) (n2:l2<m) (n3:l3<m)
 (hl1:s.heap.IsList l1 xs) (hl2:s.heap.IsList l2 ys) (hl3:s.heap.IsList l3 zs) (hx:xs[k]?=some x) (hy:ys[k]?=some y) (hv:zs[k]?=some v)
 (hQ:∀ h',Z3 h' m l1 l2 l3 (rawInt s.heap.objs.size) (k+1)→Tri h' s.heap.objs.size x y v→h'.objs.size=s.heap.objs.size+1 →
  (∀ c o,c∉fp3 m→s.heap.get? c=some o→h'.get? c=some o)→Q (some (.ref s.heap.objs.size)) { s with heap:=h' }):wpAny (model prog w) A (pyNext (.ref (m+5))) Q E s:=by
 have hT:s.TypeIs (.ref (m+5)) "zip" := ⟨_,st.z,rfl⟩
 unfold pyNext
 exact wpAny_bind (wpAny_attempt (wpAny_callSpecial?_slot (name:=Str.ofString "__next__") hT PySem.F.slot_zip_next (wpAny_call_entry PySem.F.slot_zip_next hT PySem.F.entry_zip_next (zkq st n1 n2 n3 hl1 hl2 hl3 hx hy hv fun h' a1 a2 a3 a4=>wpAny_pure (hQ h' a1 a2 a3 a4)) (PySem.F.args_zip_next_1 _))))
theorem zko {m l1 l2 l3:Nat} {k:Nat} {xs ys zs:Array Value} {Q:Option Value→Shared→Prop} (hh:A.handled=none) (st:Z3 s.heap m l1 l2 l3 .none k) (n1:l1<m) (n2:l2<m) (n3:l3<m)
 (hl1:s.heap.IsList l1 xs) (hl2:s.heap.IsList l2 ys) (hl3:s.heap.IsList l3 zs) (hend:xs[k]?=none∨ys[k]?=none∨zs[k]?=none)
 (hQ:∀ h',(∀ c o,c∉fp3 m→s.heap.get? c=some o→h'.get? c=some o)→Q none { s with heap:=h' }):wpAny (model prog w) A (pyNext (.ref (m+5))) Q E s:=by
 have hT:s.TypeIs (.ref (m+5)) "zip" := ⟨_,st.z,rfl⟩
 unfold pyNext
 refine wpAny_bind (wpAny_attempt (wpAny_callSpecial?_slot (name:=Str.ofString "__next__") hT PySem.F.slot_zip_next (wpAny_call_entry PySem.F.slot_zip_next hT PySem.F.entry_zip_next (zlR hh st n1 n2 n3 hl1 hl2 hl3 hend fun h' e hk he => ?_) (PySem.F.args_zip_next_1 _))))
 obtain ⟨o,ho,hc⟩:=he
 refine wpAny_bind (wpAny_isInstance (T := "StopIteration") (b:=true) ⟨o,ho,hc⟩ isSubtype_stop ?_)
 exact wpAny_pure (hQ _ hk)
end
noncomputable def It3 (K:PySem.W.Frag) (l1 l2 l3:Addr):It :=
 ⟨fun i H=>∃ xs ys zs x y z,SqL K H l1 xs∧SqL K H l2 ys∧SqL K H l3 zs∧xs[i]?=some x∧ys[i]?=some y∧zs[i]?=some z,
  fun i H x H'=>∃ T a b c,x=.ref T∧H T=none∧H'=upd H T (.tup [a,b,c])∧(∀ xs,SqL K H l1 xs→xs[i]?=some a)∧(∀ xs,SqL K H l2 xs→xs[i]?=some b)∧(∀ xs,SqL K H l3 xs→xs[i]?=some c),
  fun i H=>∃ xs ys zs,SqL K H l1 xs∧SqL K H l2 ys∧SqL K H l3 zs∧(xs.length≤i∨ys.length≤i∨zs.length≤i)⟩
theorem zgB {P:Program} {w:World} {K:PySem.W.Frag} {elts:List Expr} {kk:Nat} {pos:Pos} {m l1 l2 l3:Nat} (n1:l1<m) (n2:l2<m) (n3:l3<m):Turn P w K (.Tuple elts kk pos) (It3 K l1 l2 l3) (fp3 m) (m+5) (fun i h=>Z3 h m l1 l2 l3 .none i) where
 mem:=by simp [fp3]
 obj:=fun i h st b hb=>by
  obtain ⟨hz,hTI,⟨a,b',c,hTO⟩,⟨o1,e1,c1,d1⟩,⟨o2,e2,c2,d2⟩,⟨o3,e3,c3,d3⟩⟩:=st
  simp only [fp3,List.mem_cons,List.not_mem_nil,or_false] at hb
  rcases hb with rfl | rfl | rfl | rfl | rfl | rfl
  ·exact ⟨_,hz,fun v z=>by cases (show Data.fields _=Data.cell v from z)⟩
  ·exact ⟨_,hTO,fun v z=>by cases (show Data.seq _ _=Data.cell v from z)⟩
  ·exact ⟨_,hTI,fun v z=>by cases (show Data.seq _ _=Data.cell v from z)⟩
  ·exact ⟨o1,e1,fun v z=>by rw [d1] at z; cases z⟩
  ·exact ⟨o2,e2,fun v z=>by rw [d2] at z; cases z⟩
  ·exact ⟨o3,e3,fun v z=>by rw [d3] at z; cases z⟩
 keep:=fun i h h' st k=>by
  obtain ⟨hz,hTI,⟨a,b,c,hTO⟩,h1,h2,h3⟩:=st
  exact ⟨k _ (by simp [fp3]) _ hz,k _ (by simp [fp3]) _ hTI,⟨a,b,c,k _ (by simp [fp3]) _ hTO⟩,h1.at fun o x=>k _ (by simp [fp3]) o x,h2.at fun o x=>k _ (by simp [fp3]) o x,h3.at fun o x=>k _ (by simp [fp3]) o x⟩
 item:=by
  intro X hP hw hK hc i pins s σ H E I hf st hg
  subst hP hw hK
  obtain ⟨xs,ys,zs,x,y,z,q1,q2,q3,hx,hy,hz⟩:=hg
  obtain ⟨is1,rv1,p1,_⟩:=I.list q1
  obtain ⟨is2,rv2,p2,_⟩:=I.list q2
  obtain ⟨is3,rv3,p3,_⟩:=I.list q3
  obtain ⟨u1,hu1,ru1⟩:=rv1.get hx
  obtain ⟨u2,hu2,ru2⟩:=rv2.get hy
  obtain ⟨u3,hu3,ru3⟩:=rv3.get hz
  refine zkp st n1 n2 n3 p1.isList p2.isList p3.isList (by simpa using hu1) (by simpa using hu2) (by simpa using hu3) fun h' z' t' sz' k' => ?_
  have hzlt:m+5<s.heap.objs.size:=Heap.lt_size st.z
  refine ⟨.ref s.heap.objs.size,rfl,wpAny_letOwnedTupleGo_zip z'.z fun h3 hz3 hs3 => ?_⟩
  have hTw:s.heap.objs.size∉fp3 m:=fun q=>by
   simp only [fp3,List.mem_cons,List.not_mem_nil,or_false] at q
   have q:s.heap.objs.size=m+5∨s.heap.objs.size=m+4∨s.heap.objs.size=m+3∨s.heap.objs.size=m∨s.heap.objs.size=m+1∨s.heap.objs.size=m+2:=q
   lia
  have hne:∀ {b:Addr},b∉fp3 m→b≠m+5:=fun hb q=>hb (by simp [fp3,q])
  have hkeep:∀ b o,b∉fp3 m→s.heap.get? b=some o→h3.get? b=some o:=fun b o hb eb=>hs3.extBut _ _ (hne hb) (k' b o hb eb)
  have hnew:x4 X.prog X.w (upd H s.heap.objs.size (.tup [x,y,z])) h3 s.heap.objs.size (.tup [x,y,z]):=⟨by show 3≤sizeLine; rw [sizeLine_eq]; lia,[u1,u2,u3],.cons ru1 (.cons ru2 (.cons ru3 .nil)),_,hs3.extBut _ _ (hne hTw) t',rfl,_,rfl⟩
  have hHT:H s.heap.objs.size=none:=I.hok.fresh (Nat.le_refl _)
  have z4:Z3 h3 m l1 l2 l3 .none (i+1):=by
   obtain ⟨_,b1,⟨a,b,c,b2⟩,b3,b4,b5⟩:=z'
   exact ⟨hz3,hs3.extBut _ _ (nq (by lia)) b1,⟨a,b,c,hs3.extBut _ _ (nq (by lia)) b2⟩,b3.extBut hs3.extBut (nq (by lia)),b4.extBut hs3.extBut (nq (by lia)),b5.extBut hs3.extBut (nq (by lia))⟩
  refine ⟨.ref s.heap.objs.size,_,Inv.turnedL (s:=s) (h':=h3) (t':=s.toks) I hf hkeep (Nat.le_refl _) hnew,rfl,⟨_,x,y,z,rfl,hHT,rfl,fun vs hv=>by rw [I.list_inj hv q1]; exact hx,fun vs hv=>by rw [I.list_inj hv q2]; exact hy,fun vs hv=>by rw [I.list_inj hv q3]; exact hz⟩,z4,fun b hb => ?_⟩
  have hbT:b≠s.heap.objs.size:=fun z=>by rw [z] at hb; exact hTw hb
  rw [zN hbT]
  exact (hf b hb).1
 done:=by
  intro X hP hw hK hc i pins s σ H E I hf st hg
  subst hP hw hK
  obtain ⟨xs,ys,zs,q1,q2,q3,hend⟩:=hg
  obtain ⟨is1,rv1,p1,_⟩:=I.list q1
  obtain ⟨is2,rv2,p2,_⟩:=I.list q2
  obtain ⟨is3,rv3,p3,_⟩:=I.list q3
  have e1:=rv1.length
  have e2:=rv2.length
  have e3:=rv3.length
  refine zko (I.ok.hd hc) st n1 n2 n3 p1.isList p2.isList p3.isList ?_ fun h' k'=>⟨rfl,Inv.turnedF (t':=s.toks) I hf k'⟩
  rcases hend with q | q | q
  ·exact .inl (Array.getElem?_eq_none (by simp; lia))
  ·exact .inr (.inl (Array.getElem?_eq_none (by simp; lia)))
  ·exact .inr (.inr (Array.getElem?_eq_none (by simp; lia)))
 self:=fun _ _ _ _ _ st h=>wpAny_pyIter_zip st.z h
noncomputable def uN:List D→List D→List D→List D
 | a::x,b::y,c::z=>.tup [a,b,c]::uN x y z
 | _,_,_=>[]
theorem zcS {a b c:D}:∀ {x y z:List D} {i:Nat},x[i]?=some a→y[i]?=some b→z[i]?=some c→(uN x y z)[i]?=some (.tup [a,b,c])
 | [],_,_,_,h,_,_=>by simp at h
 | _::_,[],_,_,_,h,_=>by simp at h
 | _::_,_::_,[],_,_,_,h=>by simp at h
 | p::x,q::y,r::z,0,h1,h2,h3=>by
   simp at h1 h2 h3
   rw [h1,h2,h3]
   rfl
 | p::x,q::y,r::z,i+1,h1,h2,h3=>by
   simp only [List.getElem?_cons_succ] at h1 h2 h3
   simp only [uN,List.getElem?_cons_succ]
   exact zcS h1 h2 h3
theorem zak:∀ x y z:List D,(uN x y z).length=min x.length (min y.length z.length)
 | [],y,z=>by simp [uN]
 | p::x,[],z=>by simp [uN]
 | p::x,q::y,[]=>by simp [uN]
 | p::x,q::y,r::z=>by
   have:=zak x y z
   simp only [uN,List.length_cons]
   lia
theorem zjg {K:PySem.W.Frag} {G:Hp} {a b c:Addr} {ds es fs:List D} {xs ys zs:List V} (ha:SqL K G a xs) (hb:SqL K G b ys) (hc:SqL K G c zs) (ra:RepL K G ds xs) (rb:RepL K G es ys) (rc:RepL K G fs zs):JOk K (It3 K a b c) G (uN ds es fs) where
 go:=fun i G' H' s l hi=>by
  rw [zak,ra.length,rb.length,rc.length] at hi
  exact ⟨xs,ys,zs,xs[i]'(by lia),ys[i]'(by lia),zs[i]'(by lia),l.seq (s.seq ha),l.seq (s.seq hb),l.seq (s.seq hc),List.getElem?_eq_getElem _,List.getElem?_eq_getElem _,List.getElem?_eq_getElem _⟩
 stop:=fun i G' H' s l hi=>by
  rw [zak,ra.length,rb.length,rc.length] at hi
  exact ⟨xs,ys,zs,l.seq (s.seq ha),l.seq (s.seq hb),l.seq (s.seq hc),by lia⟩
 yld:=fun i G' H' x H1 s l hi y=>by
  obtain ⟨T,p,q,r,rfl,hT,rfl,hp,hq,hr⟩:=y
  obtain ⟨d1,k1,j1⟩:=ra.get' (hp xs (l.seq (s.seq ha)))
  obtain ⟨d2,k2,j2⟩:=rb.get' (hq ys (l.seq (s.seq hb)))
  obtain ⟨d3,k3,j3⟩:=rc.get' (hr zs (l.seq (s.seq hc)))
  have g:=Grow.laidT (o:=.tup [p,q,r]) l hT
  exact ⟨.tup [d1,d2,d3],_,zcS k1 k2 k3,g.1,g.2,T,_,rfl,yc,RepL.cons ((j1.mono s).mono g.1.g) (RepL.cons ((j2.mono s).mono g.1.g) (RepL.cons ((j3.mono s).mono g.1.g) RepL.nil))⟩
end DL
namespace DL
open PySem PySem.Spec PyProof.Rows L2
theorem zkv (a b c:Value):checkTypeCall "zip" ⟨[a,b,c],[]⟩=pure ():=by kernel_rfl
theorem zlb (a b c:Value):checkBuiltinCall "zip.__new__" ⟨[.type "zip",a,b,c],[]⟩=pure ():=by kernel_rfl
theorem zk4 (a b c d:Value):argsOk "object.__init__" ⟨[a,b,c,d],[]⟩:=by
 unfold argsOk
 rw [signature?_of (id := "object.__init__") (n:=['_','_','t','i','n','i','_','_']) (o:=['t','c','e','j','b','o']) (by kernel_rfl) PySem.F.owner_object]
 kernel_rfl
noncomputable abbrev y1 (h:Heap) (l:Addr):Heap:=h.push { cls:=.type "list_iterator",data:=.fields #[.ref l,.int 0 0] }
noncomputable abbrev y3 (h:Heap) (a b c:Addr):Heap:=y1 (y1 (y1 h a) b) c
noncomputable abbrev y4 (h:Heap) (a b c:Addr):Heap:=(y3 h a b c).push { cls:=.type "tuple",data:=.seq #[.ref h.objs.size,.ref (y1 h a).objs.size,.ref (y1 (y1 h a) b).objs.size] }
noncomputable abbrev y5 (h:Heap) (a b c:Addr):Heap:=(y4 h a b c).push { cls:=.type "tuple",data:=.seq #[.none,.none,.none] }
noncomputable abbrev y6 (h:Heap) (a b c:Addr):Heap:=(y5 h a b c).push { cls:=.type "zip",data:=.fields #[.none,.bool false,.bool false,.ref (y3 h a b c).objs.size,.ref (y4 h a b c).objs.size] }
theorem zi6 (a b c:Addr) (xs ys zs:Array Value) :
 Meets (Builtin.«zip.__new__» ⟨[.type "zip",.ref a,.ref b,.ref c],[]⟩) (fun _ R s=>s.heap.IsList a xs∧s.heap.IsList b ys∧s.heap.IsList c zs∧R (.ok (.ret (.ref (y5 s.heap a b c).objs.size))) { s with heap:=y6 s.heap a b c }) :=
 .of_wp fun prog w A R s h=>by
  obtain ⟨hp,g,d,tk,os⟩:=s
  obtain ⟨hl1,hl2,hl3,h⟩:=h
  have hsub:=sub_zip
  have e1:Heap.IsList (Shared.heap ⟨hp,g,d,tk,os⟩) a xs:=hl1
  have e2:Heap.IsList (Shared.heap ⟨y1 hp a,g,d,tk,os⟩) b ys:=Heap.IsList.push hl2 _
  have e3:Heap.IsList (Shared.heap ⟨y1 (y1 hp a) b,g,d,tk,os⟩) c zs:=Heap.IsList.push (Heap.IsList.push hl3 _) _
  wp_walk using wpAny_pyIter_list e1,wpAny_pyIter_list e2,wpAny_pyIter_list e3
  exact ⟨_,rfl,h⟩
section
variable {prog:Program} {w:World} {A:Around} {E:Value→Shared→Prop} {s:Shared}
theorem zig {a b c:Addr} {xs ys zs:Array Value} {Q:Value→Shared→Prop} (hl1:s.heap.IsList a xs) (hl2:s.heap.IsList b ys) (hl3:s.heap.IsList c zs)
 (h:∀ h',Z3 h' s.heap.objs.size a b c .none 0→(∀ u o,s.heap.get? u=some o→h'.get? u=some o)→Q (.ref (s.heap.objs.size+5)) { s with heap:=h' }) :
 wpAny (model prog w) A (call (.type "zip") [.ref a,.ref b,.ref c]) Q E s:=by
 refine callType_new PySem.F.called_zip (by decide) (zkv _ _ _) (zlb _ _ _) (fun obj=>zk4 obj _ _ _) PySem.F.entry_zip_new (zi6 a b c xs ys zs) ⟨hl1,hl2,hl3,?_⟩
 have z1:(y1 s.heap a).objs.size=s.heap.objs.size+1:=Heap.size_push ..
 have z2:(y1 (y1 s.heap a) b).objs.size=s.heap.objs.size+2:=by rw [Heap.size_push,z1]
 have z3:(y3 s.heap a b c).objs.size=s.heap.objs.size+3:=by rw [Heap.size_push,z2]
 have z4:(y4 s.heap a b c).objs.size=s.heap.objs.size+4:=by rw [Heap.size_push,z3]
 have z5:(y5 s.heap a b c).objs.size=s.heap.objs.size+5:=by rw [Heap.size_push,z4]
 have g6:(y6 s.heap a b c).get? (y5 s.heap a b c).objs.size=some _:=Heap.get?_push_size _ rfl
 have g5:(y6 s.heap a b c).get? (y4 s.heap a b c).objs.size=some _:=Heap.get?_push_of_some _ (Heap.get?_push_size _ rfl)
 have g4:(y6 s.heap a b c).get? (y3 s.heap a b c).objs.size=some _:=Heap.get?_push_of_some _ (Heap.get?_push_of_some _ (Heap.get?_push_size _ rfl))
 have g3:(y6 s.heap a b c).get? (y1 (y1 s.heap a) b).objs.size=some _:=Heap.get?_push_of_some _ (Heap.get?_push_of_some _ (Heap.get?_push_of_some _ (Heap.get?_push_size _ rfl)))
 have g2:(y6 s.heap a b c).get? (y1 s.heap a).objs.size=some _:=Heap.get?_push_of_some _ (Heap.get?_push_of_some _ (Heap.get?_push_of_some _ (Heap.get?_push_of_some _ (Heap.get?_push_size _ rfl))))
 have g1:(y6 s.heap a b c).get? s.heap.objs.size=some _:=Heap.get?_push_of_some _ (Heap.get?_push_of_some _ (Heap.get?_push_of_some _ (Heap.get?_push_of_some _ (Heap.get?_push_of_some _ (Heap.get?_push_size _ rfl)))))
 show _∧_
 rw [z3,z4,z5] at g6
 rw [z4] at g5
 rw [z1,z2,z3] at g4
 rw [z2] at g3
 rw [z1] at g2
 rw [z5]
 exact ⟨⟨_,g6,rfl⟩,h _ ⟨g6,g4,⟨_,_,_,g5⟩,⟨_,g1,rfl,rfl⟩,⟨_,g2,rfl,rfl⟩,⟨_,g3,rfl,rfl⟩⟩ fun u o x=>Heap.get?_push_of_some _ (Heap.get?_push_of_some _ (Heap.get?_push_of_some _ (Heap.get?_push_of_some _ (Heap.get?_push_of_some _ (Heap.get?_push_of_some _ x)))))⟩
end
theorem vals3 {x y z:V} {us:List Value} (r:Vals [x,y,z] us):∃ u v t,us=[u,v,t]∧RelV x u∧RelV y v∧RelV z t:=by
 cases r with
 | cons r1 r2 =>
   obtain ⟨u,v,rfl,h1,h2⟩:=zgx r2
   exact ⟨_,u,v,rfl,r1,h1,h2⟩
noncomputable def iZip3 (K:PySem.W.Frag) (ta:TA):TI:=fun σ H R=>ta σ H fun vs H1=>∃ a b c,vs=[.ref a,.ref b,.ref c]∧(∃ xs,SqL K H1 a xs)∧(∃ xs,SqL K H1 b xs)∧(∃ xs,SqL K H1 c xs)∧R (It3 K a b c) H1
theorem zkR {X:Cx} {elts:List Expr} {kk:Nat} {pos p cpos:Pos} {e1 e2 e3:Expr} {ta:TA} (hm:X.mg "zip" = none) (ha:PA X [e1,e2,e3] ta) (hg:Gl X "zip" := by rfl) (hs:starEach [e1,e2,e3] X.env=(false,eval e1 X.env)::starEach [e2,e3] X.env:=by rfl)
 (hs2:starEach [e2,e3] X.env=(false,eval e2 X.env)::starEach [e3] X.env:=by rfl) (hs3:starEach [e3] X.env=[(false,eval e3 X.env)]:=by rfl):PI X (.Tuple elts kk pos) (.Call (.Name "zip" p) [e1,e2,e3] [] cpos) (iZip3 X.K ta):=by
 intro pins s σ H R I h
 refine Call_ (tV I hg hm boot_zip (PyProof.Rows.callWith_type1 (thn (ha cpos pins s σ H _ I h) fun us s1 ⟨vs,H1,I1,r1,q1⟩ => ?_) hs (by rw [hs2,hs3]; rfl)))
 obtain ⟨a,b,c,rfl,⟨xs,qa⟩,⟨ys,qb⟩,⟨zs,qc⟩,q⟩:=q1
 obtain ⟨u,v,t,rfl,ra,rb,rc⟩:=vals3 r1
 cases (show u=.ref a from ra)
 cases (show v=.ref b from rb)
 cases (show t=.ref c from rc)
 obtain ⟨is1,_,p1,_⟩:=I1.list qa
 obtain ⟨is2,_,p2,_⟩:=I1.list qb
 obtain ⟨is3,_,p3,_⟩:=I1.list qc
 have lt1:a<s1.heap.objs.size:=by obtain ⟨o,ho,_⟩:=p1.isList; exact Heap.lt_size ho
 have lt2:b<s1.heap.objs.size:=by obtain ⟨o,ho,_⟩:=p2.isList; exact Heap.lt_size ho
 have lt3:c<s1.heap.objs.size:=by obtain ⟨o,ho,_⟩:=p3.isList; exact Heap.lt_size ho
 refine zig p1.isList p2.isList p3.isList fun h' hz hk => ?_
 refine wpAny_pyIter_zip hz.z ?_
 have I2:Inv X pins σ H1 { s1 with heap:=h',toks:=s1.toks }:=I1.kept (t':=s1.toks) hk
 refine ⟨s1.heap.objs.size+5,fp3 s1.heap.objs.size,_,It3 X.K a b c,H1,rfl,I2,zgB lt1 lt2 lt3,hz,fun b hb => ?_,q⟩
 have hb':s1.heap.objs.size≤b:=by
  simp only [fp3,List.mem_cons,List.not_mem_nil,or_false] at hb
  rcases hb with rfl | rfl | rfl | rfl | rfl | rfl <;> first | exact Nat.le_add_right _ _ | exact Nat.le_refl _
 exact I1.fpOk hb' (I1.hok.fresh hb')
@[simp] noncomputable def zjr (f g h:FE):FI:=fun env=>(f env).bind fun x=>x.hold.bind fun d=>(g env).bind fun y=>y.hold.bind fun e=>(h env).bind fun z=>z.hold.bind fun c=>match d,e,c with
  | .lst ds,.lst es,.lst cs=>.ok (uN ds es cs)
  | _,_,_=>.bad
theorem zh5 {X:Cx} {G₀ H₀:Hp} {elts:List Expr} {kk:Nat} {pos p cpos:Pos} {e1 e2 e3:Expr} {f g h:FE} (hm:X.mg "zip" = none) (h1:DE X G₀ H₀ e1 f) (h2:DE X G₀ H₀ e2 g) (h3:DE X G₀ H₀ e3 h) (hg:Gl X "zip" := by rfl) (hs:starEach [e1,e2,e3] X.env=(false,eval e1 X.env)::starEach [e2,e3] X.env:=by rfl)
 (hs2:starEach [e2,e3] X.env=(false,eval e2 X.env)::starEach [e3] X.env:=by rfl) (hs3:starEach [e3] X.env=[(false,eval e3 X.env)]:=by rfl) :
 DIt X G₀ H₀ (.Tuple elts kk pos) (.Call (.Name "zip" p) [e1,e2,e3] [] cpos) (zjr f g h):=(zkR hm (yX h1 (yX h2 (yX h3 wY hs3) hs2) hs) hg hs hs2 hs3).imp fun σ H R q=>by
 obtain ⟨env,G,ds,I,e,k⟩:=q
 obtain ⟨x,ex,e⟩:=zq e
 obtain ⟨d,hx,e⟩:=zq e
 obtain ⟨y,ey,e⟩:=zq e
 obtain ⟨d',hy,e⟩:=zq e
 obtain ⟨z,ez,e⟩:=zq e
 obtain ⟨d'',hz,e⟩:=zq e
 refine ⟨env,G,x,I,ex,fun v1 G1 H1 g1 l1 o1 => ?_⟩
 obtain ⟨G2,g2,l2,r2⟩:=held g1 l1 o1 hx
 have I2:=I.grow g2 l2
 refine ⟨env,G2,y,I2,ey,fun v2 G3 H3 g3 l3 o3 => ?_⟩
 obtain ⟨G4,g4,l4,r4⟩:=held g3 l3 o3 hy
 have I4:=I2.grow g4 l4
 refine ⟨env,G4,z,I4,ez,fun v3 G5 H5 g5 l5 o5 => ?_⟩
 obtain ⟨G6,g6,l6,r6⟩:=held g5 l5 o5 hz
 split at e
 ·cases e
  obtain ⟨a,xs,rfl,ha,ra⟩:=(r2.mono g4.g).mono g6.g
  obtain ⟨b,ys,rfl,hb,rb⟩:=r4.mono g6.g
  obtain ⟨c,zs,rfl,hc,rc⟩:=r6
  exact ⟨a,b,c,rfl,⟨xs,SqL.of (l6 _ _ ha)⟩,⟨ys,SqL.of (l6 _ _ hb)⟩,⟨zs,SqL.of (l6 _ _ hc)⟩,k _ G6 _ ((g2.trans g4).trans g6) l6 (zjg (SqL.of ha) (SqL.of hb) (SqL.of hc) ra rb rc)⟩
 ·cases e
end DL
namespace DL
open PySem PySem.Spec PyProof.Rows L2
@[simp] noncomputable def zcL (i j:Nat):FS:=fun env=>match env[i]?,env[j]? with
  | some (.own ds),some (.own es)=>if ds.length<100000∧i≠j then (match es[es.length - 1]? with
    | some d=>.ok (.next ((env.set j (.own es.dropLast)).set i (.own (ds++[d]))))
    | none=>.bad) else .bad
  | _,_=>.bad
section
variable {X:Cx} {G₀ H₀:Hp} {pos apos cpos p1 apos' cpos' p2:Pos} {i j:Nat} {x y:Str}
theorem zh3 (hv:PE X (.Name x p1) (tVar i)) (hw:PE X (.Name y p2) (tVar j)) (hfew:((backTo cpos (starEach [.Call (.Attribute (.Name y p2) "pop" apos') [] [] cpos'] X.env)).all (fun x => !x.1)&&(backToKw cpos (keywordEach [] X.env)).all (fun x=>x.1.isSome)
 && decide ([Expr.Call (.Attribute (.Name y p2) "pop" apos') [] [] cpos'].length+([]:List Keyword).length+(if ([]:List Keyword).isEmpty then 0 else 1)<30))=true:=by rfl)
 (hline:(apos.endLine == cpos.line)=true:=by rfl) (hline':(apos'.endLine == cpos'.line)=true:=by rfl) (hs:starEach [.Call (.Attribute (.Name y p2) "pop" apos') [] [] cpos'] X.env=[(false,eval (.Call (.Attribute (.Name y p2) "pop" apos') [] [] cpos') X.env)]:=by rfl) :
 DS X G₀ H₀ (.Expr (.Call (.Attribute (.Name x p1) "append" apos) [.Call (.Attribute (.Name y p2) "pop" apos') [] [] cpos'] [] cpos) pos) (zcL i j) :=
 (zca (zkY PySem.F.plainAttrs_list PySem.F.slot_list_append PySem.F.type_list_append zaC hv (yX (zj2 PySem.F.plainAttrs_list PySem.F.slot_list_pop PySem.F.type_list_pop zj7 hw rfl hline') wY hs) rfl hfew hline hs rfl) rfl).imp fun D σ H q=>by
  obtain ⟨env,G,r,I,e,k⟩:=q
  unfold zcL at e
  split at e
  ·rename_i ds es hd he
   split at e
   ·rename_i hz
    split at e
    ·rename_i d hl
     cases e
     obtain ⟨a,vs,o⟩:=I.own hd
     obtain ⟨b,us,o2⟩:=I.own he
     have hlen:=o2.rep.length
     have hlt:es.length - 1<es.length:=(List.getElem?_eq_some_iff.mp hl).1
     have hu:us[us.length - 1]?=some (us[us.length - 1]'(by lia)):=List.getElem?_eq_getElem (by lia)
     obtain ⟨d',hd',rd⟩:=o2.rep.get' hu
     have ed:d'=d:=by
      rw [←hlen,hl] at hd'
      exact (Option.some.inj hd').symm
     subst ed
     have I1:=I.mut he o2 o2.rep.dropLast
     have hd1:(env.set j (.own es.dropLast))[i]?=some (.own ds):=by rw [List.getElem?_set_ne (fun q=>hz.2 q.symm)]; exact hd
     obtain ⟨a',vs',o'⟩:=I1.own hd1
     have z:=o'.at_
     rw [o.at_] at z
     cases z
     exact ⟨.ref a,o.at_,.inl ⟨rfl,vs,SqL.of o.hp⟩,.ref b,o2.at_,.inl ⟨rfl,us,SqL.of o2.hp⟩,b,us,_,rfl,rfl,o2.hp,hu,a,vs',_,rfl,rfl,o'.hp,by rw [←o'.rep.length,sizeLine_eq]; lia,k σ G _ (Same.refl _) (I1.mut hd1 o' (o'.rep.append (RepL.cons rd RepL.nil)))⟩
    ·cases e
   ·cases e
  ·cases e
end
end DL
namespace DL
open PySem PySem.Spec PyProof.Rows L2
@[simp] noncomputable def gSlS:D→Option Int→Option Int→Out Val
  | .scr ns,lo,hi=>.ok (.fresh (cutD (ns.map D.int) lo hi))
  | _,_,_=>.bad
@[simp] noncomputable def fSlS (fa:FE) (fl fh:FO):FE:=fun env=>(fa env).bind fun x=>(fl env).bind fun l=>(fh env).bind fun h=>gSlS x.d l h
theorem zkj {X:Cx} {G₀ H₀:Hp} {pos p2:Pos} {a:Expr} {lo hi:Option Expr} {fa:FE} {fl fh:FO} (ha:DE X G₀ H₀ a fa) (hl:DO X G₀ H₀ lo fl) (hh:DO X G₀ H₀ hi fh):DE X G₀ H₀ (.Subscript a (.Slice lo hi none p2) pos) (fSlS fa fl fh) :=
 (zfu zgL ha hl hh).imp fun σ H Q q=>by
  obtain ⟨env,G,val,I,e,k⟩:=q
  obtain ⟨x,e1,e⟩:=zq e
  obtain ⟨l,e2,e⟩:=zq e
  obtain ⟨h,e3,e⟩:=zq e
  refine xL I e1 fun v G1 H1 g1 l1 I1 o1=>⟨env,G1,l,I1,e2,fun G2 H2 g2 l2=>⟨env,G2,h,I1.grow g2 l2,e3,fun G3 H3 g3 l3 => ?_⟩⟩
  have I3:=(I1.grow g2 l2).grow g3 l3
  have o3:=(o1.mono g2.g).mono g3.g
  have g03:=(g1.trans g2).trans g3
  generalize x.d=dx at e o3
  cases dx with
  | scr ns =>
    cases e
    obtain ⟨a',ev,h1⟩:=Opd.scr I3 o3
    refine ⟨a',ns.map V.int,ev,h1,fun p hp => ?_⟩
    have g:=Grow.laidL (o:=.lst (cutV (ns.map V.int) l h)) l3 hp
    exact k _ G3 _ (g03.trans g.1) g.2 ((x5 l3 hp (zeI l h (RepL.ints ns))).base g03.h)
  | lst ds=>cases e
  | tup ds=>cases e
  | non=>cases e
  | bl b=>cases e
  | int i=>cases e
  | exc c p=>cases e
@[simp] noncomputable def zeA:D→D→Out Val
  | .tup xs,.tup ys=>if xs≠[]∧ys≠[]∧xs.length+ys.length≤1000 then .ok (.pers (.tup (xs++ys))) else .bad
  | _,_=>.bad
theorem zk7 {K:PySem.W.Frag}:OpD K (zmd K) zeA:=by
 intro G₀ H₀ env σ G H v u d1 d2 val Q I o1 o2 e k
 unfold zeA at e
 split at e
 ·rename_i xs ys
  split at e
  ·rename_i hz
   cases e
   obtain ⟨a,vs,e1,h1,r1⟩:=Opd.tup I o1
   obtain ⟨b,us,e2,h2,r2⟩:=Opd.tup I o2
   refine ⟨a,b,vs,us,e1,e2,SqT.of h1,SqT.of h2,fun w=>hz.1 (List.eq_nil_of_length_eq_zero (by rw [r1.length,w]; rfl)),zaG (by rw [←r1.length,←r2.length]; lia),fun w=>absurd (List.eq_nil_of_length_eq_zero (by rw [r2.length,w]; rfl)) hz.2.1,fun _ p hp => ?_⟩
   have g:=Grow.laidT (o:=.tup (vs++us)) I.le hp
   exact k _ _ _ g.1 g.2 (zgy I.le hp (r1.append r2))
  ·cases e
 ·cases e
theorem zlB {X:Cx} {G₀ H₀:Hp} {pos:Pos} {a b:Expr} {fa fb:FE} (ha:DE X G₀ H₀ a fa) (hb:DE X G₀ H₀ b fb):DE X G₀ H₀ (.BinOp a .Add b pos) (f2 zeA fa fb):=zeH zk3 zk7 ha hb
end DL
namespace DL
open PySem PySem.Spec PyProof.Rows L2
noncomputable abbrev Duo (h:Heap) (T:Addr) (a b:Value):Prop:=h.get? T=some { cls:=.type "tuple",data:=.seq #[a,b] }
section
variable {prog:Program} {w:World} {A:Around} {E:Value→Shared→Prop} {s:Shared}
theorem zd9 {T:Addr} {a b x:Value} {k:Nat} {Q:Unit→Shared→Prop} (hT:Duo s.heap T a b)
 (h:∀ h',h'.get? T=some { cls:=.type "tuple",data:=.seq ((#[a,b]:Array Value).setIfInBounds k x) }→Heap.SameBut T s.heap h'→Q () { s with heap:=h' }) :
 wpAny (model prog w) A (updateSeq T (·.setIfInBounds k x)) Q E s:=by
 refine wpAny_updateSeq hT rfl (h _ ?_ (Heap.SameBut.update ..))
 rw [Heap.get?_update_self _ hT rfl]
 simp [Obj.mapSeq]
structure Z2 (h:Heap) (m l1 l2:Nat) (f:Value) (i:Nat):Prop where
 z:IsZip h (m+4) (m+2) (m+3) f
 ti:Duo h (m+2) (.ref m) (.ref (m+1))
 to:∃ a b,Duo h (m+3) a b
 p1:h.IsListIter m l1 i
 p2:h.IsListIter (m+1) l2 i
noncomputable def fp2 (m:Nat):List Addr:=[m+4,m+3,m+2,m,m+1]
theorem zkt {m l1 l2:Nat} {k:Nat} {xs ys:Array Value} {x y:Value} {Q:Value→Shared→Prop} (st:Z2 s.heap m l1 l2 .none k) (n1:l1<m) (n2:l2<m)
 (hl1:s.heap.IsList l1 xs) (hl2:s.heap.IsList l2 ys) (hx:xs[k]?=some x) (hy:ys[k]?=some y)
 (hQ:∀ h',Z2 h' m l1 l2 (rawInt s.heap.objs.size) (k+1)→Duo h' s.heap.objs.size x y→h'.objs.size=s.heap.objs.size+1 →
  (∀ c o,c∉fp2 m→s.heap.get? c=some o→h'.get? c=some o)→Q (.ref s.heap.objs.size) { s with heap:=h' }) :
 wpAny (model prog w) A (Builtin.«zip.__next__» ⟨[.ref (m+4)],[]⟩) (fun fin s'=>∃ v,fin=.done (.ret v)∧Q v s') E s:=by
 obtain ⟨hz,hTI,⟨a,b,hTO⟩,h1,h2⟩:=st
 show wpAny _ _ (field (.ref (m+4)) 2 >>= _) _ _ _
 refine wpAny_bind (wpAny_field hz rfl (x:=.bool false) rfl ?_)
 show wpAny _ _ (field (.ref (m+4)) 3 >>= _) _ _ _
 refine wpAny_bind (wpAny_field hz rfl (x:=.ref (m+2)) rfl ?_)
 refine wpAny_bind (wpAny_seqItems hTI rfl ?_)
 show wpAny _ _ (Builtin.SmallTypes.ownedTupleIsFree (.ref (m+4)) >>= _) _ _ _
 refine wpAny_bind ?_
 unfold Builtin.SmallTypes.ownedTupleIsFree
 refine wpAny_bind (wpAny_field hz rfl (x:=.none) rfl (wpAny_pure ?_))
 simp only [if_true]
 refine wpAny_bind (wpAny_rule ?_)
 refine wpAny_bind (wpAny_field hz rfl (x:=.ref (m+3)) rfl ?_)
 refine wpAny_bind (wpAny_setField_rec hz (by simp) fun ha za sa => ?_)
 replace za:IsZip ha (m+4) (m+2) (m+3) .ellipsis:=za
 refine wpAny_bind ?_
 simp only [List.zipIdx_cons,List.zipIdx_nil,List.forIn_cons,List.forIn_nil]
 refine wpAny_bind (wpAny_bind (wpAny_onRaise ?_))
 show wpAny _ _ (Builtin.SmallTypes.nextOf (.ref m) >>= _) _ _ _
 refine wpAny_bind (wpAny_nextOf_list_item (h1.extBut sa.extBut (nq (by lia))) (hl1.extBut sa.extBut (nq (by lia))) hx fun hb ib sb=>wpAny_pure ?_)
 have tb:Duo hb (m+3) a b:=sb.extBut _ _ (nq (by lia)) (sa.extBut _ _ (nq (by lia)) hTO)
 refine wpAny_bind (wpAny_seqItems tb rfl ?_)
 refine wpAny_bind (zd9 tb fun hc tc sc => ?_)
 replace tc:Duo hc (m+3) x b:=tc
 refine wpAny_bind (wpAny_letGo (wpAny_pure ?_))
 have k1:∀ u o,u∉fp2 m→s.heap.get? u=some o→hc.get? u=some o:=fun u o hu e=>by
  simp only [fp2,List.mem_cons,List.not_mem_nil,or_false,not_or] at hu
  exact sc.extBut _ _ hu.2.1 (sb.extBut _ _ hu.2.2.2.1 (sa.extBut _ _ hu.1 e))
 have j2:hc.IsListIter (m+1) l2 k:=((h2.extBut sa.extBut (nq (by lia))).extBut sb.extBut (nq (by lia))).extBut sc.extBut (nq (by lia))
 have L2:hc.IsList l2 ys:=((hl2.extBut sa.extBut (nq (by lia))).extBut sb.extBut (nq (by lia))).extBut sc.extBut (nq (by lia))
 have zc:IsZip hc (m+4) (m+2) (m+3) .ellipsis:=sc.extBut _ _ (nq (by lia)) (sb.extBut _ _ (nq (by lia)) za)
 have uc:Duo hc (m+2) (.ref m) (.ref (m+1)):=sc.extBut _ _ (nq (by lia)) (sb.extBut _ _ (nq (by lia)) (sa.extBut _ _ (nq (by lia)) hTI))
 have ic:hc.IsListIter m l1 (k+1):=ib.extBut sc.extBut (nq (by lia))
 have zsz:hc.objs.size=s.heap.objs.size:=by rw [sc.1,sb.1,sa.1]
 clear sa sb sc tb ib za hTO h1 h2
 refine wpAny_bind (wpAny_bind (wpAny_onRaise ?_))
 show wpAny _ _ (Builtin.SmallTypes.nextOf (.ref (m+1)) >>= _) _ _ _
 refine wpAny_bind (wpAny_nextOf_list_item j2 L2 hy fun hd id sd=>wpAny_pure ?_)
 have td:Duo hd (m+3) x b:=sd.extBut _ _ (nq (by lia)) tc
 refine wpAny_bind (wpAny_seqItems td rfl ?_)
 refine wpAny_bind (zd9 td fun hg tg sg => ?_)
 replace tg:Duo hg (m+3) x y:=tg
 refine wpAny_bind (wpAny_letGo (wpAny_pure (wpAny_pure ?_)))
 have k3:∀ u o,u∉fp2 m→s.heap.get? u=some o→hg.get? u=some o:=fun u o hu e=>by
  have e:=k1 u o hu e
  simp only [fp2,List.mem_cons,List.not_mem_nil,or_false,not_or] at hu
  exact sg.extBut _ _ hu.2.1 (sd.extBut _ _ hu.2.2.2.2 e)
 have zg:IsZip hg (m+4) (m+2) (m+3) .ellipsis:=sg.extBut _ _ (nq (by lia)) (sd.extBut _ _ (nq (by lia)) zc)
 have ug:Duo hg (m+2) (.ref m) (.ref (m+1)):=sg.extBut _ _ (nq (by lia)) (sd.extBut _ _ (nq (by lia)) uc)
 have ig:hg.IsListIter m l1 (k+1):=(ic.extBut sd.extBut (nq (by lia))).extBut sg.extBut (nq (by lia))
 have jg:hg.IsListIter (m+1) l2 (k+1):=id.extBut sg.extBut (nq (by lia))
 have hsz:hg.objs.size=s.heap.objs.size:=by rw [sg.1,sd.1]; exact zsz
 refine wpAny_bind (wpAny_seqItems tg rfl ?_)
 refine wpAny_bind (wpAny_newTuple ?_)
 have lt:m+4<hg.objs.size:=Heap.lt_size zg
 show wpAny _ _ (Builtin.SmallTypes.ownedTupleHandOut (.ref (m+4)) (.ref hg.objs.size) >>= _) _ _ _
 refine wpAny_bind ?_
 unfold Builtin.SmallTypes.ownedTupleHandOut
 have zp:IsZip (hg.push { cls:=.type "tuple",data:=.seq #[x,y] }) (m+4) (m+2) (m+3) .ellipsis:=Heap.get?_push_of_some _ zg
 refine wpAny_bind (wpAny_setField_rec zp (by simp) fun hr zr sr => ?_)
 replace zr:IsZip hr (m+4) (m+2) (m+3) (rawInt hg.objs.size):=zr
 refine wpAny_setField_rec zr (by simp) fun ht zt st => ?_
 replace zt:IsZip ht (m+4) (m+2) (m+3) (rawInt hg.objs.size):=zt
 have up:∀ u o,u≠m+4→hg.get? u=some o→ht.get? u=some o:=fun u o hu e=>st.extBut _ _ hu (sr.extBut _ _ hu (Heap.get?_push_of_some _ e))
 have nt:Duo ht hg.objs.size x y:=st.extBut _ _ (Nat.ne_of_gt lt) (sr.extBut _ _ (Nat.ne_of_gt lt) (Heap.get?_push_size _ rfl))
 have tsz:ht.objs.size=hg.objs.size+1:=by rw [st.1,sr.1,Heap.size_push]
 rw [hsz] at zt nt tsz
 refine wpAny_pure ⟨_,rfl,?_⟩
 show Q (.ref hg.objs.size) _
 rw [hsz]
 refine hQ ht ⟨zt,up _ _ (nq (by lia)) ug,⟨x,y,up _ _ (nq (by lia)) tg⟩,ig.at fun o e=>up _ o (nq (by lia)) e,jg.at fun o e=>up _ o (nq (by lia)) e⟩ nt tsz fun u o hu e=>up u o (fun q=>hu (by simp [fp2,q])) (k3 u o hu e)
theorem zlS {m l1 l2:Nat} {k:Nat} {xs ys:Array Value} {Q:Fin→Shared→Prop} (hh:A.handled=none) (st:Z2 s.heap m l1 l2 .none k) (n1:l1<m) (n2:l2<m)
 (hl1:s.heap.IsList l1 xs) (hl2:s.heap.IsList l2 ys) (hend:xs[k]?=none∨ys[k]?=none)
 (hE:∀ h' e,(∀ c o,c∉fp2 m→s.heap.get? c=some o→h'.get? c=some o)→(∃ o,h'.get? e=some o∧o.cls=.type "StopIteration")→E (.ref e) { s with heap:=h' }) :
 wpAny (model prog w) A (Builtin.«zip.__next__» ⟨[.ref (m+4)],[]⟩) Q E s:=by
 obtain ⟨hz,hTI,⟨a,b,hTO⟩,h1,h2⟩:=st
 have stop:∀ (hp:Heap) (e:Addr) (k0:∀ u o,u∉fp2 m→s.heap.get? u=some o→hp.get? u=some o) (ze:IsZip hp (m+4) (m+2) (m+3) .ellipsis) (oe:Obj) (hoe:hp.get? e=some oe) (hce:oe.cls=.type "StopIteration") (Q':Unit→Shared→Prop) (hq:∀ h',(∀ c o,c∉fp2 m→s.heap.get? c=some o→h'.get? c=some o)→(∃ o,h'.get? e=some o∧o.cls=.type "StopIteration")→Q' () { s with heap:=h' }),
  wpAny (model prog w) A (setField (.ref (m+4)) 0 .none) Q' E { s with heap:=hp }:=by
  intro hp e k0 ze oe hoe hce Q' hq
  have hez:e≠m+4:=fun x=>by subst x; rw [ze] at hoe; cases hoe; simp at hce
  refine wpAny_setField_rec ze (by simp) fun hr _ sr=>hq hr (fun u o hu q => ?_) ⟨oe,sr.extBut _ _ hez hoe,hce⟩
  refine sr.extBut _ _ (fun z=>hu (by simp [fp2,z])) (k0 u o hu q)
 show wpAny _ _ (field (.ref (m+4)) 2 >>= _) _ _ _
 refine wpAny_bind (wpAny_field hz rfl (x:=.bool false) rfl ?_)
 show wpAny _ _ (field (.ref (m+4)) 3 >>= _) _ _ _
 refine wpAny_bind (wpAny_field hz rfl (x:=.ref (m+2)) rfl ?_)
 refine wpAny_bind (wpAny_seqItems hTI rfl ?_)
 show wpAny _ _ (Builtin.SmallTypes.ownedTupleIsFree (.ref (m+4)) >>= _) _ _ _
 refine wpAny_bind ?_
 unfold Builtin.SmallTypes.ownedTupleIsFree
 refine wpAny_bind (wpAny_field hz rfl (x:=.none) rfl (wpAny_pure ?_))
 simp only [if_true]
 refine wpAny_bind (wpAny_rule ?_)
 refine wpAny_bind (wpAny_field hz rfl (x:=.ref (m+3)) rfl ?_)
 refine wpAny_bind (wpAny_setField_rec hz (by simp) fun ha za sa => ?_)
 replace za:IsZip ha (m+4) (m+2) (m+3) .ellipsis:=za
 refine wpAny_bind ?_
 simp only [List.zipIdx_cons,List.zipIdx_nil,List.forIn_cons,List.forIn_nil]
 refine wpAny_bind (wpAny_bind (wpAny_onRaise ?_))
 show wpAny _ _ (Builtin.SmallTypes.nextOf (.ref m) >>= _) _ _ _
 have g1:ha.IsListIter m l1 k:=h1.extBut sa.extBut (nq (by lia))
 have gl:ha.IsList l1 xs:=hl1.extBut sa.extBut (nq (by lia))
 have ka:∀ u o,u∉fp2 m→s.heap.get? u=some o→ha.get? u=some o:=fun u o hu e=>sa.extBut _ _ (fun z=>hu (by simp [fp2,z])) e
 cases hx:xs[k]? with
 | none =>
   refine wpAny_bind (wpAny_nextOf_list_end hh g1 gl hx fun hb e sb ⟨oe,hoe,hce⟩ => ?_)
   exact stop hb e (fun u o hu q=>sb _ _ (fun z=>hu (by simp [fp2,z])) (ka u o hu q)) (sb _ _ (nq (by lia)) za) oe hoe hce _ fun h' p q=>hE h' e p q
 | some x =>
   have hy:ys[k]?=none:=by
    rcases hend with h | h
    ·rw [hx] at h; cases h
    ·exact h
   refine wpAny_bind (wpAny_nextOf_list_item g1 gl hx fun hb ib sb=>wpAny_pure ?_)
   have tb:Duo hb (m+3) a b:=sb.extBut _ _ (nq (by lia)) (sa.extBut _ _ (nq (by lia)) hTO)
   refine wpAny_bind (wpAny_seqItems tb rfl ?_)
   refine wpAny_bind (zd9 tb fun hc tc sc => ?_)
   replace tc:Duo hc (m+3) x b:=tc
   refine wpAny_bind (wpAny_letGo (wpAny_pure ?_))
   have kc:∀ u o,u∉fp2 m→s.heap.get? u=some o→hc.get? u=some o:=fun u o hu e=>sc.extBut _ _ (fun z=>hu (by simp [fp2,z])) (sb.extBut _ _ (fun z=>hu (by simp [fp2,z])) (ka u o hu e))
   have zc:IsZip hc (m+4) (m+2) (m+3) .ellipsis:=sc.extBut _ _ (nq (by lia)) (sb.extBut _ _ (nq (by lia)) za)
   have j2:hc.IsListIter (m+1) l2 k:=((h2.extBut sa.extBut (nq (by lia))).extBut sb.extBut (nq (by lia))).extBut sc.extBut (nq (by lia))
   have L2:hc.IsList l2 ys:=((hl2.extBut sa.extBut (nq (by lia))).extBut sb.extBut (nq (by lia))).extBut sc.extBut (nq (by lia))
   refine wpAny_bind (wpAny_bind (wpAny_onRaise ?_))
   show wpAny _ _ (Builtin.SmallTypes.nextOf (.ref (m+1)) >>= _) _ _ _
   refine wpAny_bind (wpAny_nextOf_list_end hh j2 L2 hy fun hd e sd ⟨oe,hoe,hce⟩ => ?_)
   exact stop hd e (fun u o hu q=>sd _ _ (fun z=>hu (by simp [fp2,z])) (kc u o hu q)) (sd _ _ (nq (by lia)) zc) oe hoe hce _ fun h' p q=>hE h' e p q
end
end DL
namespace DL
open PySem PySem.Spec PyProof.Rows L2
section
variable {prog:Program} {w:World} {A:Around} {E:Value→Shared→Prop} {s:Shared}
theorem zks {m l1 l2:Nat} {k:Nat} {xs ys:Array Value} {x y:Value} {Q:Option Value→Shared→Prop} (st:Z2 s.heap m l1 l2 .none k) (n1:l1<m) (n2:l2<m)
 (hl1:s.heap.IsList l1 xs) (hl2:s.heap.IsList l2 ys) (hx:xs[k]?=some x) (hy:ys[k]?=some y)
 (hQ:∀ h',Z2 h' m l1 l2 (rawInt s.heap.objs.size) (k+1)→Duo h' s.heap.objs.size x y→h'.objs.size=s.heap.objs.size+1 →
  (∀ c o,c∉fp2 m→s.heap.get? c=some o→h'.get? c=some o)→Q (some (.ref s.heap.objs.size)) { s with heap:=h' }):wpAny (model prog w) A (pyNext (.ref (m+4))) Q E s:=by
 have hT:s.TypeIs (.ref (m+4)) "zip" := ⟨_,st.z,rfl⟩
 unfold pyNext
 exact wpAny_bind (wpAny_attempt (wpAny_callSpecial?_slot (name:=Str.ofString "__next__") hT PySem.F.slot_zip_next (wpAny_call_entry PySem.F.slot_zip_next hT PySem.F.entry_zip_next (zkt st n1 n2 hl1 hl2 hx hy fun h' a1 a2 a3 a4=>wpAny_pure (hQ h' a1 a2 a3 a4)) (PySem.F.args_zip_next_1 _))))
theorem zkr {m l1 l2:Nat} {k:Nat} {xs ys:Array Value} {Q:Option Value→Shared→Prop} (hh:A.handled=none) (st:Z2 s.heap m l1 l2 .none k) (n1:l1<m) (n2:l2<m)
 (hl1:s.heap.IsList l1 xs) (hl2:s.heap.IsList l2 ys) (hend:xs[k]?=none∨ys[k]?=none)
 (hQ:∀ h',(∀ c o,c∉fp2 m→s.heap.get? c=some o→h'.get? c=some o)→Q none { s with heap:=h' }):wpAny (model prog w) A (pyNext (.ref (m+4))) Q E s:=by
 have hT:s.TypeIs (.ref (m+4)) "zip" := ⟨_,st.z,rfl⟩
 unfold pyNext
 refine wpAny_bind (wpAny_attempt (wpAny_callSpecial?_slot (name:=Str.ofString "__next__") hT PySem.F.slot_zip_next (wpAny_call_entry PySem.F.slot_zip_next hT PySem.F.entry_zip_next (zlS hh st n1 n2 hl1 hl2 hend fun h' e hk he => ?_) (PySem.F.args_zip_next_1 _))))
 obtain ⟨o,ho,hc⟩:=he
 refine wpAny_bind (wpAny_isInstance (T := "StopIteration") (b:=true) ⟨o,ho,hc⟩ isSubtype_stop ?_)
 exact wpAny_pure (hQ _ hk)
end
noncomputable def It2 (K:PySem.W.Frag) (l1 l2:Addr):It :=
 ⟨fun i H=>∃ xs ys x y,SqL K H l1 xs∧SqL K H l2 ys∧xs[i]?=some x∧ys[i]?=some y,
  fun i H x H'=>∃ T a b,x=.ref T∧H T=none∧H'=upd H T (.tup [a,b])∧(∀ xs,SqL K H l1 xs→xs[i]?=some a)∧(∀ xs,SqL K H l2 xs→xs[i]?=some b),
  fun i H=>∃ xs ys,SqL K H l1 xs∧SqL K H l2 ys∧(xs.length≤i∨ys.length≤i)⟩
theorem zgC {P:Program} {w:World} {K:PySem.W.Frag} {elts:List Expr} {kk:Nat} {pos:Pos} {m l1 l2:Nat} (n1:l1<m) (n2:l2<m):Turn P w K (.Tuple elts kk pos) (It2 K l1 l2) (fp2 m) (m+4) (fun i h=>Z2 h m l1 l2 .none i) where
 mem:=by simp [fp2]
 obj:=fun i h st b hb=>by
  obtain ⟨hz,hTI,⟨a,b',hTO⟩,⟨o1,e1,c1,d1⟩,⟨o2,e2,c2,d2⟩⟩:=st
  simp only [fp2,List.mem_cons,List.not_mem_nil,or_false] at hb
  rcases hb with rfl | rfl | rfl | rfl | rfl
  ·exact ⟨_,hz,fun v z=>by cases (show Data.fields _=Data.cell v from z)⟩
  ·exact ⟨_,hTO,fun v z=>by cases (show Data.seq _ _=Data.cell v from z)⟩
  ·exact ⟨_,hTI,fun v z=>by cases (show Data.seq _ _=Data.cell v from z)⟩
  ·exact ⟨o1,e1,fun v z=>by rw [d1] at z; cases z⟩
  ·exact ⟨o2,e2,fun v z=>by rw [d2] at z; cases z⟩
 keep:=fun i h h' st k=>by
  obtain ⟨hz,hTI,⟨a,b,hTO⟩,h1,h2⟩:=st
  exact ⟨k _ (by simp [fp2]) _ hz,k _ (by simp [fp2]) _ hTI,⟨a,b,k _ (by simp [fp2]) _ hTO⟩,h1.at fun o x=>k _ (by simp [fp2]) o x,h2.at fun o x=>k _ (by simp [fp2]) o x⟩
 item:=by
  intro X hP hw hK hc i pins s σ H E I hf st hg
  subst hP hw hK
  obtain ⟨xs,ys,x,y,q1,q2,hx,hy⟩:=hg
  obtain ⟨is1,rv1,p1,_⟩:=I.list q1
  obtain ⟨is2,rv2,p2,_⟩:=I.list q2
  obtain ⟨u1,hu1,ru1⟩:=rv1.get hx
  obtain ⟨u2,hu2,ru2⟩:=rv2.get hy
  refine zks st n1 n2 p1.isList p2.isList (by simpa using hu1) (by simpa using hu2) fun h' z' t' sz' k' => ?_
  have hzlt:m+4<s.heap.objs.size:=Heap.lt_size st.z
  refine ⟨.ref s.heap.objs.size,rfl,wpAny_letOwnedTupleGo_zip z'.z fun h3 hz3 hs3 => ?_⟩
  have hTw:s.heap.objs.size∉fp2 m:=fun q=>by
   simp only [fp2,List.mem_cons,List.not_mem_nil,or_false] at q
   have q:s.heap.objs.size=m+4∨s.heap.objs.size=m+3∨s.heap.objs.size=m+2∨s.heap.objs.size=m∨s.heap.objs.size=m+1:=q
   lia
  have hne:∀ {b:Addr},b∉fp2 m→b≠m+4:=fun hb q=>hb (by simp [fp2,q])
  have hkeep:∀ b o,b∉fp2 m→s.heap.get? b=some o→h3.get? b=some o:=fun b o hb eb=>hs3.extBut _ _ (hne hb) (k' b o hb eb)
  have hnew:x4 X.prog X.w (upd H s.heap.objs.size (.tup [x,y])) h3 s.heap.objs.size (.tup [x,y]):=⟨by show 2≤sizeLine; rw [sizeLine_eq]; lia,[u1,u2],.cons ru1 (.cons ru2 .nil),_,hs3.extBut _ _ (hne hTw) t',rfl,_,rfl⟩
  have hHT:H s.heap.objs.size=none:=I.hok.fresh (Nat.le_refl _)
  have z4:Z2 h3 m l1 l2 .none (i+1):=by
   obtain ⟨_,b1,⟨a,b,b2⟩,b3,b4⟩:=z'
   exact ⟨hz3,hs3.extBut _ _ (nq (by lia)) b1,⟨a,b,hs3.extBut _ _ (nq (by lia)) b2⟩,b3.extBut hs3.extBut (nq (by lia)),b4.extBut hs3.extBut (nq (by lia))⟩
  refine ⟨.ref s.heap.objs.size,_,Inv.turnedL (s:=s) (h':=h3) (t':=s.toks) I hf hkeep (Nat.le_refl _) hnew,rfl,⟨_,x,y,rfl,hHT,rfl,fun vs hv=>by rw [I.list_inj hv q1]; exact hx,fun vs hv=>by rw [I.list_inj hv q2]; exact hy⟩,z4,fun b hb => ?_⟩
  have hbT:b≠s.heap.objs.size:=fun z=>by rw [z] at hb; exact hTw hb
  rw [zN hbT]
  exact (hf b hb).1
 done:=by
  intro X hP hw hK hc i pins s σ H E I hf st hg
  subst hP hw hK
  obtain ⟨xs,ys,q1,q2,hend⟩:=hg
  obtain ⟨is1,rv1,p1,_⟩:=I.list q1
  obtain ⟨is2,rv2,p2,_⟩:=I.list q2
  have e1:=rv1.length
  have e2:=rv2.length
  refine zkr (I.ok.hd hc) st n1 n2 p1.isList p2.isList ?_ fun h' k'=>⟨rfl,Inv.turnedF (t':=s.toks) I hf k'⟩
  rcases hend with q | q
  ·exact .inl (Array.getElem?_eq_none (by simp; lia))
  ·exact .inr (Array.getElem?_eq_none (by simp; lia))
 self:=fun _ _ _ _ _ st h=>wpAny_pyIter_zip st.z h
noncomputable def tY:List D→List D→List D
 | a::x,b::y=>.tup [a,b]::tY x y
 | _,_=>[]
theorem zcT {a b:D}:∀ {x y:List D} {i:Nat},x[i]?=some a→y[i]?=some b→(tY x y)[i]?=some (.tup [a,b])
 | [],_,_,h,_=>by simp at h
 | _::_,[],_,_,h=>by simp at h
 | p::x,q::y,0,h1,h2=>by
   simp at h1 h2
   rw [h1,h2]
   rfl
 | p::x,q::y,i+1,h1,h2=>by
   simp only [List.getElem?_cons_succ] at h1 h2
   simp only [tY,List.getElem?_cons_succ]
   exact zcT h1 h2
theorem zal:∀ x y:List D,(tY x y).length=min x.length y.length
 | [],y=>by simp [tY]
 | p::x,[]=>by simp [tY]
 | p::x,q::y=>by
   have:=zal x y
   simp only [tY,List.length_cons]
   lia
theorem zjh {K:PySem.W.Frag} {G:Hp} {a b:Addr} {ds es:List D} {xs ys:List V} (ha:SqL K G a xs) (hb:SqL K G b ys) (ra:RepL K G ds xs) (rb:RepL K G es ys):JOk K (It2 K a b) G (tY ds es) where
 go:=fun i G' H' s l hi=>by
  rw [zal,ra.length,rb.length] at hi
  exact ⟨xs,ys,xs[i]'(by lia),ys[i]'(by lia),l.seq (s.seq ha),l.seq (s.seq hb),List.getElem?_eq_getElem _,List.getElem?_eq_getElem _⟩
 stop:=fun i G' H' s l hi=>by
  rw [zal,ra.length,rb.length] at hi
  exact ⟨xs,ys,l.seq (s.seq ha),l.seq (s.seq hb),by lia⟩
 yld:=fun i G' H' x H1 s l hi y=>by
  obtain ⟨T,p,q,rfl,hT,rfl,hp,hq⟩:=y
  obtain ⟨d1,k1,j1⟩:=ra.get' (hp xs (l.seq (s.seq ha)))
  obtain ⟨d2,k2,j2⟩:=rb.get' (hq ys (l.seq (s.seq hb)))
  have g:=Grow.laidT (o:=.tup [p,q]) l hT
  exact ⟨.tup [d1,d2],_,zcT k1 k2,g.1,g.2,T,_,rfl,yc,RepL.cons ((j1.mono s).mono g.1.g) (RepL.cons ((j2.mono s).mono g.1.g) RepL.nil)⟩
theorem zkw (a b:Value):checkTypeCall "zip" ⟨[a,b],[]⟩=pure ():=by kernel_rfl
theorem zlc (a b:Value):checkBuiltinCall "zip.__new__" ⟨[.type "zip",a,b],[]⟩=pure ():=by kernel_rfl
theorem zi3 (a b c:Value):argsOk "object.__init__" ⟨[a,b,c],[]⟩:=by
 unfold argsOk
 rw [signature?_of (id := "object.__init__") (n:=['_','_','t','i','n','i','_','_']) (o:=['t','c','e','j','b','o']) (by kernel_rfl) PySem.F.owner_object]
 kernel_rfl
noncomputable abbrev q3 (h:Heap) (a b:Addr):Heap:=y1 (y1 h a) b
noncomputable abbrev q4 (h:Heap) (a b:Addr):Heap:=(q3 h a b).push { cls:=.type "tuple",data:=.seq #[.ref h.objs.size,.ref (y1 h a).objs.size] }
noncomputable abbrev q5 (h:Heap) (a b:Addr):Heap:=(q4 h a b).push { cls:=.type "tuple",data:=.seq #[.none,.none] }
noncomputable abbrev q6 (h:Heap) (a b:Addr):Heap:=(q5 h a b).push { cls:=.type "zip",data:=.fields #[.none,.bool false,.bool false,.ref (q3 h a b).objs.size,.ref (q4 h a b).objs.size] }
theorem zi7 (a b:Addr) (xs ys:Array Value) :
 Meets (Builtin.«zip.__new__» ⟨[.type "zip",.ref a,.ref b],[]⟩) (fun _ R s=>s.heap.IsList a xs∧s.heap.IsList b ys∧R (.ok (.ret (.ref (q5 s.heap a b).objs.size))) { s with heap:=q6 s.heap a b }) :=
 .of_wp fun prog w A R s h=>by
  obtain ⟨hp,g,d,tk,os⟩:=s
  obtain ⟨hl1,hl2,h⟩:=h
  have hsub:=sub_zip
  have e1:Heap.IsList (Shared.heap ⟨hp,g,d,tk,os⟩) a xs:=hl1
  have e2:Heap.IsList (Shared.heap ⟨y1 hp a,g,d,tk,os⟩) b ys:=Heap.IsList.push hl2 _
  wp_walk using wpAny_pyIter_list e1,wpAny_pyIter_list e2
  exact ⟨_,rfl,h⟩
section
variable {prog:Program} {w:World} {A:Around} {E:Value→Shared→Prop} {s:Shared}
theorem zih {a b:Addr} {xs ys:Array Value} {Q:Value→Shared→Prop} (hl1:s.heap.IsList a xs) (hl2:s.heap.IsList b ys)
 (h:∀ h',Z2 h' s.heap.objs.size a b .none 0→(∀ u o,s.heap.get? u=some o→h'.get? u=some o)→Q (.ref (s.heap.objs.size+4)) { s with heap:=h' }) :
 wpAny (model prog w) A (call (.type "zip") [.ref a,.ref b]) Q E s:=by
 refine callType_new PySem.F.called_zip (by decide) (zkw _ _) (zlc _ _) (fun obj=>zi3 obj _ _) PySem.F.entry_zip_new (zi7 a b xs ys) ⟨hl1,hl2,?_⟩
 have z1:(y1 s.heap a).objs.size=s.heap.objs.size+1:=Heap.size_push ..
 have z3:(q3 s.heap a b).objs.size=s.heap.objs.size+2:=by rw [Heap.size_push,z1]
 have z4:(q4 s.heap a b).objs.size=s.heap.objs.size+3:=by rw [Heap.size_push,z3]
 have z5:(q5 s.heap a b).objs.size=s.heap.objs.size+4:=by rw [Heap.size_push,z4]
 have g6:(q6 s.heap a b).get? (q5 s.heap a b).objs.size=some _:=Heap.get?_push_size _ rfl
 have g5:(q6 s.heap a b).get? (q4 s.heap a b).objs.size=some _:=Heap.get?_push_of_some _ (Heap.get?_push_size _ rfl)
 have g4:(q6 s.heap a b).get? (q3 s.heap a b).objs.size=some _:=Heap.get?_push_of_some _ (Heap.get?_push_of_some _ (Heap.get?_push_size _ rfl))
 have g2:(q6 s.heap a b).get? (y1 s.heap a).objs.size=some _:=Heap.get?_push_of_some _ (Heap.get?_push_of_some _ (Heap.get?_push_of_some _ (Heap.get?_push_size _ rfl)))
 have g1:(q6 s.heap a b).get? s.heap.objs.size=some _:=Heap.get?_push_of_some _ (Heap.get?_push_of_some _ (Heap.get?_push_of_some _ (Heap.get?_push_of_some _ (Heap.get?_push_size _ rfl))))
 show _∧_
 rw [z3,z4,z5] at g6
 rw [z4] at g5
 rw [z1,z3] at g4
 rw [z1] at g2
 rw [z5]
 exact ⟨⟨_,g6,rfl⟩,h _ ⟨g6,g4,⟨_,_,g5⟩,⟨_,g1,rfl,rfl⟩,⟨_,g2,rfl,rfl⟩⟩ fun u o x=>Heap.get?_push_of_some _ (Heap.get?_push_of_some _ (Heap.get?_push_of_some _ (Heap.get?_push_of_some _ (Heap.get?_push_of_some _ x))))⟩
end
noncomputable def iZip2 (K:PySem.W.Frag) (ta:TA):TI:=fun σ H R=>ta σ H fun vs H1=>∃ a b,vs=[.ref a,.ref b]∧(∃ xs,SqL K H1 a xs)∧(∃ xs,SqL K H1 b xs)∧R (It2 K a b) H1
theorem zkS {X:Cx} {elts:List Expr} {kk:Nat} {pos p cpos:Pos} {e1 e2:Expr} {ta:TA} (hm:X.mg "zip" = none) (ha:PA X [e1,e2] ta) (hg:Gl X "zip" := by rfl) (hs:starEach [e1,e2] X.env=(false,eval e1 X.env)::starEach [e2] X.env:=by rfl)
 (hs2:starEach [e2] X.env=[(false,eval e2 X.env)]:=by rfl):PI X (.Tuple elts kk pos) (.Call (.Name "zip" p) [e1,e2] [] cpos) (iZip2 X.K ta):=by
 intro pins s σ H R I h
 refine Call_ (tV I hg hm boot_zip (PyProof.Rows.callWith_type1 (thn (ha cpos pins s σ H _ I h) fun us s1 ⟨vs,H1,I1,r1,q1⟩ => ?_) hs (by rw [hs2]; rfl)))
 obtain ⟨a,b,rfl,⟨xs,qa⟩,⟨ys,qb⟩,q⟩:=q1
 obtain ⟨u,v,rfl,ra,rb⟩:=zgx r1
 cases (show u=.ref a from ra)
 cases (show v=.ref b from rb)
 obtain ⟨is1,_,p1,_⟩:=I1.list qa
 obtain ⟨is2,_,p2,_⟩:=I1.list qb
 have lt1:a<s1.heap.objs.size:=by obtain ⟨o,ho,_⟩:=p1.isList; exact Heap.lt_size ho
 have lt2:b<s1.heap.objs.size:=by obtain ⟨o,ho,_⟩:=p2.isList; exact Heap.lt_size ho
 refine zih p1.isList p2.isList fun h' hz hk => ?_
 refine wpAny_pyIter_zip hz.z ?_
 have I2:Inv X pins σ H1 { s1 with heap:=h',toks:=s1.toks }:=I1.kept (t':=s1.toks) hk
 refine ⟨s1.heap.objs.size+4,fp2 s1.heap.objs.size,_,It2 X.K a b,H1,rfl,I2,zgC lt1 lt2,hz,fun b hb => ?_,q⟩
 have hb':s1.heap.objs.size≤b:=by
  simp only [fp2,List.mem_cons,List.not_mem_nil,or_false] at hb
  rcases hb with rfl | rfl | rfl | rfl | rfl <;> first | exact Nat.le_add_right _ _ | exact Nat.le_refl _
 exact I1.fpOk hb' (I1.hok.fresh hb')
@[simp] noncomputable def zlv (f g:FE):FI:=fun env=>(f env).bind fun x=>x.hold.bind fun d=>(g env).bind fun y=>y.hold.bind fun e=>match d,e with
  | .lst ds,.lst es=>.ok (tY ds es)
  | _,_=>.bad
theorem zh6 {X:Cx} {G₀ H₀:Hp} {elts:List Expr} {kk:Nat} {pos p cpos:Pos} {e1 e2:Expr} {f g:FE} (hm:X.mg "zip" = none) (h1:DE X G₀ H₀ e1 f) (h2:DE X G₀ H₀ e2 g) (hg:Gl X "zip" := by rfl) (hs:starEach [e1,e2] X.env=(false,eval e1 X.env)::starEach [e2] X.env:=by rfl)
 (hs2:starEach [e2] X.env=[(false,eval e2 X.env)]:=by rfl) :
 DIt X G₀ H₀ (.Tuple elts kk pos) (.Call (.Name "zip" p) [e1,e2] [] cpos) (zlv f g):=(zkS hm (yX h1 (yX h2 wY hs2) hs) hg hs hs2).imp fun σ H R q=>by
 obtain ⟨env,G,ds,I,e,k⟩:=q
 obtain ⟨x,ex,e⟩:=zq e
 obtain ⟨d,hx,e⟩:=zq e
 obtain ⟨y,ey,e⟩:=zq e
 obtain ⟨d',hy,e⟩:=zq e
 refine ⟨env,G,x,I,ex,fun v1 G1 H1 g1 l1 o1 => ?_⟩
 obtain ⟨G2,g2,l2,r2⟩:=held g1 l1 o1 hx
 have I2:=I.grow g2 l2
 refine ⟨env,G2,y,I2,ey,fun v2 G3 H3 g3 l3 o3 => ?_⟩
 obtain ⟨G4,g4,l4,r4⟩:=held g3 l3 o3 hy
 split at e
 ·cases e
  obtain ⟨a,xs,rfl,ha,ra⟩:=r2.mono g4.g
  obtain ⟨b,ys,rfl,hb,rb⟩:=r4
  exact ⟨a,b,rfl,⟨xs,SqL.of (l4 _ _ ha)⟩,⟨ys,SqL.of (l4 _ _ hb)⟩,k _ G4 _ (g2.trans g4) l4 (zjh (SqL.of ha) (SqL.of hb) ra rb)⟩
 ·cases e
end DL
namespace My
open PySem PySem.Spec PyProof.Rows L2 DL
theorem zkn {α:Type} (xs:List α) (i:Int) (h:0≤i):atI xs i=xs[i.toNat]?:=by
 unfold atI ixN
 rw [if_pos h]
 split
 ·rfl
 ·rename_i h2
  rw [List.getElem?_eq_none (by lia)]
  rfl
theorem zbU {α:Type} (xs:List α):atI xs (-1)=xs[xs.length - 1]?:=by
 unfold atI ixN
 by_cases h:xs.length=0
 ·have:xs=[]:=List.eq_nil_of_length_eq_zero h
  subst this
  simp
 ·rw [if_neg (by lia),if_pos (by lia)]
  show xs[(-1+(xs.length:Int)).toNat]?=_
  congr 1
  lia
theorem za2 {i j:Int} (h1 : -(2^64)<i) (h2:i<2^64):cMul i j=true:=by
 unfold cMul zar
 rw [decide_eq_true h1,decide_eq_true h2]
 rfl
theorem xD {i j:Int} (h1 : -(2^64)<j) (h2:j<2^64):cMul i j=true:=by
 unfold cMul zar
 rw [decide_eq_true h1,decide_eq_true h2]
 simp
theorem zlF {i j:Int} (h1:0<j) (h2:j<2^250):cDiv i j=true:=by
 unfold cDiv
 rw [decide_eq_true h1,decide_eq_true h2]
 rfl
@[simp] theorem zil (j:Int) (h1:0≤j) (h2:j≤1000000):cPow 10 j=true:=by
  unfold cPow
  rw [decide_eq_true h1,decide_eq_true h2]
  decide
@[simp] theorem zaU (i j:Int):eqD (.int i) (.int j)=(i == j):=rfl
@[simp] theorem eqD_nn:eqD .non .non=true:=rfl
@[simp] theorem eqD_ni (i:Int):eqD .non (.int i)=false:=rfl
@[simp] theorem eqD_in (i:Int):eqD (.int i) .non=false:=rfl
@[simp] theorem eqD_bb (a b:Bool):eqD (.bl a) (.bl b)=(a == b):=rfl
@[simp] theorem ziL (n:Nat) (i:Int):shal n (.int i)=true:=by cases n <;> rfl
@[simp] theorem shal_non (n:Nat):shal n .non=true:=by cases n <;> rfl
@[simp] theorem shal_bl (n:Nat) (b:Bool):shal n (.bl b)=true:=by cases n <;> rfl
@[simp] theorem shal_tup (n:Nat) (ds:List D):shal (n+1) (.tup ds)=ds.all (shal n):=rfl
@[simp] theorem ze9 (n:Nat) (ds:List D):shal (n+1) (.lst ds)=ds.all (shal n):=rfl
theorem zhY (xs ys:List D):eqD (.tup xs) (.tup ys)=eqDL xs ys:=by simp only [eqD,eqDL,toPy,PyData.eqv]
theorem u7 (xs ys:List D):eqD (.lst xs) (.lst ys)=eqDL xs ys:=by simp only [eqD,eqDL,toPy,PyData.eqv]
theorem uz:eqDL [] []=true:=by simp only [eqDL,xK,PyData.eqvAll]
theorem xU (x y:D) (xs ys:List D):eqDL (x::xs) (y::ys)=(eqD x y&&eqDL xs ys):=by simp only [eqDL,eqD,xK,PyData.eqvAll]
theorem zlw (y:D) (ys:List D):eqDL [] (y::ys)=false:=by simp only [eqDL,xK,PyData.eqvAll]
theorem zaV (y:D) (ys:List D):eqDL (y::ys) []=false:=by simp only [eqDL,xK,PyData.eqvAll]
theorem zct {α:Type} [DecidableEq α] (f:α→D) (h:∀ x y,eqD (f x) (f y)=decide (x=y)):∀ xs ys:List α,eqDL (xs.map f) (ys.map f)=decide (xs=ys)
 | [],[]=>by simp [uz]
 | [],y::ys=>by simp [zlw]
 | x::xs,[]=>by simp [zaV]
 | x::xs,y::ys=>by
   rw [List.map_cons,List.map_cons,xU,h,zct f h xs ys]
   by_cases h1:x=y <;> by_cases h2:xs=ys <;> simp [h1,h2]
theorem vy {g:D→Ev→Out Ev} {fb:FS} (P:Nat→Ev→Prop):∀ (ds:List D) (i:Nat) (env:Ev),P i env →
 (∀ (j:Nat) (d:D) (env:Ev),i≤j→ds[j - i]?=some d→P j env→∃ env1 env2,g d env=.ok env1∧fb env1=.ok (.next env2)∧P (j+1) env2) →
 ∃ env',forD g fb ds env=.ok (.next env')∧P (i+ds.length) env'
 | [],i,env,h,_=>⟨env,rfl,h⟩
 | d::ds,i,env,h,step=>by
   obtain ⟨env1,env2,e1,e2,h2⟩:=step i d env (Nat.le_refl _) (by simp) h
   obtain ⟨env',e3,h3⟩:=vy P ds (i+1) env2 h2 fun j d' env hj hd hp=>step j d' env (by lia) (by
    have:j - i=(j - (i+1))+1:=by lia
    rw [this]; simpa using hd) hp
   refine ⟨env',?_,?_⟩
   ·simp only [forD,e1,zk,e2]
    exact e3
   ·have:i+(d::ds).length=i+1+ds.length:=by simp; lia
    rw [this]; exact h3
theorem zb9 {lo:Int} {n j:Nat} {d:D} (h:(rngD lo n)[j]?=some d):j<n∧d=.int (lo+j):=by
 have hj:j<n:=by
  have:=(List.getElem?_eq_some_iff.mp h).1
  simpa [rngD] using this
 refine ⟨hj,?_⟩
 simp [rngD,hj] at h
 exact h.symm
@[simp] theorem zg1 (lo:Int) (n:Nat):(rngD lo n).length=n:=by simp [rngD]
theorem yT {α:Type} {g:D→Ev→Out Ev} {ft:FT} {fe:FE} (P:Ev→Prop) (f:α→D) (h:α→Option D):∀ (xs:List α) (env:Ev),P env →
 (∀ x env,x∈xs→P env→∃ env1,g (f x) env=.ok env1∧P env1∧((h x=none∧ft env1=.ok false)∨∃ y v,h x=some y∧ft env1=.ok true∧fe env1=.ok v∧v.hold=.ok y)) →
 compD g ft fe (xs.map f) env=.ok (xs.filterMap h)
 | [],env,_,_=>rfl
 | x::xs,env,hp,step=>by
   obtain ⟨env1,e1,p1,r⟩:=step x env (by simp) hp
   have ih:=yT P f h xs env1 p1 fun x env hx=>step x env (by simp [hx])
   rcases r with ⟨h1,h2⟩ | ⟨y,v,h1,h2,h3,h4⟩
   ·simp only [List.map_cons,compD,e1,zk,h2,List.filterMap_cons,h1]
    exact ih
   ·simp only [List.map_cons,compD,e1,zk,h2,List.filterMap_cons,h1,if_true,h3,h4,ih]
noncomputable def zC (l:Int×List Int):D:=.tup [.int l.1,.lst (l.2.map .int)]
theorem zaT (p q:Int×Int):eqD (zf p) (zf q)=decide (p=q):=by
 unfold zf
 rw [zhY,xU,xU,uz,zaU,zaU]
 obtain ⟨a,b⟩:=p
 obtain ⟨c,d⟩:=q
 by_cases h1:a=c <;> by_cases h2:b=d <;> simp [h1,h2]
theorem zcM (p:Int×Int):∀ ps:List (Int×Int),(ps.map zf).any (fun z=>eqD z (zf p))=decide (p∈ps)
 | []=>by simp
 | q::ps=>by
   rw [List.map_cons,List.any_cons,zcM p ps,zaT]
   by_cases h1:q=p
   ·simp [h1]
   ·have:¬ p=q:=fun h=>h1 h.symm
    simp [h1,this]
theorem wm (n:Nat) (p:Int×Int):shal (n+1) (zf p)=true:=by simp [zf]
theorem cut_take (l:List D) (i:Int) (n:Nat) (hi:i=n):cutD l none (some i)=l.take n:=by
 subst hi
 show (l.drop 0).take ((if (n:Int)<0 then ((n:Int)+(l.length:Int)).toNat else min (n:Int).toNat l.length) - 0)=l.take n
 rw [if_neg (by lia),Int.toNat_natCast,List.drop_zero,Nat.sub_zero]
 by_cases h:n≤l.length
 ·rw [Nat.min_eq_left h]
 ·rw [Nat.min_eq_right (by lia),List.take_of_length_le (Nat.le_refl _),List.take_of_length_le (by lia)]
theorem zcx (l:List D) (i:Int) (n:Nat) (hi:i=n):cutD l (some i) none=l.drop n:=by
 subst hi
 show (l.drop (if (n:Int)<0 then ((n:Int)+(l.length:Int)).toNat else min (n:Int).toNat l.length)).take (l.length - (if (n:Int)<0 then ((n:Int)+(l.length:Int)).toNat else min (n:Int).toNat l.length))=l.drop n
 rw [if_neg (by lia),Int.toNat_natCast,List.take_of_length_le (by rw [List.length_drop]; exact Nat.le_refl _)]
 by_cases h:n≤l.length
 ·rw [Nat.min_eq_left h]
 ·rw [Nat.min_eq_right (by lia),List.drop_of_length_le (Nat.le_refl _),List.drop_of_length_le (by lia)]
noncomputable def vg (ps:List (Int×Int)):List (Int×List Int):=(yG (ps.map (·.1)).eraseDups).map fun x=>(x,yG ((ps.filter fun p=>p.1 == x).map (·.2)))
theorem uy:∀ (n:Nat) (l:List Int),l.length≤n→l.eraseDups.length≤l.length
 | 0,l,h=>by
   have:l=[]:=List.eq_nil_of_length_eq_zero (by lia)
   subst this; simp
 | n+1,[],h=>by simp
 | n+1,a::l,h=>by
   rw [List.eraseDups_cons]
   have h1:(l.filter fun b => !b == a).length≤l.length:=List.length_filter_le _ _
   have h2:=uy n (l.filter fun b => !b == a) (by simp at h; lia)
   simp only [List.length_cons]
   lia
theorem zdQ (ps:List (Int×Int)):(vg ps).length≤ps.length:=by
 unfold vg
 rw [List.length_map,(yd _).length_eq]
 have:=uy _ (ps.map (·.1)) (Nat.le_refl _)
 simpa using this
@[reducible] noncomputable def zet:FS :=
 ifS (fTrB (f2 gEq (fVar 2) (fC (.int 1))))
 (setS 5 true (fTup (zz (fC (.int 4)) (zz (f2 gMod (fVar 4) (fC (.int 13))) (hNil)))))
 (nxtS)
@[reducible] noncomputable def zeq:FS :=
 ifS (fTrB (f2 gEq (fVar 2) (fC (.int 2))))
 (setS 5 true (fTup (zz (f2 gMul (fC (.int 2)) (f2 gMod (fVar 4) (fC (.int 3)))) (zz (f2 gMul (fC (.int 2)) (f2 gMod (f2 gDiv (fVar 4) (fC (.int 3))) (fC (.int 4)))) (hNil)))))
 (nxtS)
@[reducible] noncomputable def zcl:FS :=
 ifS (fTrB (f2 gNin (fVar 5) (fVar 1)))
 (appS 1 (fVar 5))
 (nxtS)
@[reducible] noncomputable def zcI:FS :=
 seqS (setS 4 true (f2 gIx (fVar 0) (f2 gAdd (fC (.int 2)) (fVar 3))))
 (seqS (setS 5 true (fTup (zz (f2 gMul (fC (.int 2)) (f2 gMod (fVar 4) (fC (.int 4)))) (zz (f2 gMod (f2 gDiv (fVar 4) (fC (.int 4))) (fC (.int 9))) (hNil)))))
 (seqS (zet)
 (seqS (zeq)
 (zcl))))
noncomputable def zdA:FS :=
 seqS (setS 1 false (fLst (hNil)))
 (seqS (setS 2 true (f2 gMod (f2 gIx (fVar 0) (fC (.int 1))) (fC (.int 4))))
 (seqS (forS (zcr (zm (f2 gMod (f2 gIx (fVar 0) (fC (.int 0))) (fC (.int 7))) (fNil))) (gN 3)
 (zcI))
 (retS (fVar 1))))
noncomputable def zbw:List D→Out Val:=runD 6 zdA
theorem zho:∀ ds v,ds.length=1→zbw ds=.ok v→runD 6 zdA ds=.ok v:=fun _ _ _ h=>h
end My
namespace My
open PySem PySem.Spec PyProof.Rows L2 DL
structure Gate where
 x:Int
 lo:Option Int
 hi:Option Int
 w:Int
deriving DecidableEq
noncomputable def optD:Option Int→D
 | none=>.non
 | some i=>.int i
noncomputable def zi (g:Gate):D:=.tup [.int g.x,optD g.lo,optD g.hi,.int g.w]
theorem zhW (a b:Option Int):eqD (optD a) (optD b)=decide (a=b):=by
 cases a with
 | none=>cases b <;> simp [optD]
 | some i =>
   cases b with
   | none=>simp [optD]
   | some j=>by_cases h:i=j <;> simp [optD,h]
theorem ze8 (n:Nat) (a:Option Int):shal n (optD a)=true:=by cases a <;> simp [optD]
theorem zhX (g h:Gate):eqD (zi g) (zi h)=decide (g=h):=by
 unfold zi
 rw [zhY,xU,xU,xU,xU,uz,zaU,zaU,zhW,zhW]
 obtain ⟨a,b,c,d⟩:=g
 obtain ⟨a',b',c',d'⟩:=h
 by_cases h1:a=a' <;> by_cases h2:b=b' <;> by_cases h3:c=c' <;> by_cases h4:d=d' <;> simp [h1,h2,h3,h4]
theorem zc2 (n:Nat) (g:Gate):shal (n+1) (zi g)=true:=by simp [zi,ze8]
theorem zf8 (n:Nat) (gs:List Gate):shal (n+2) (.lst (gs.map zi))=true:=by
 rw [ze9,List.all_map,List.all_eq_true]
 intro g _
 exact zc2 n g
noncomputable def zlM:D→Option (Option Int)
 | .non=>some none
 | .int i=>some (some i)
 | _=>none
noncomputable def zir:D→Option Gate
 | .tup [.int x,lo,hi,.int w]=>match zlM lo,zlM hi with
   | some l,some h=>some ⟨x,l,h,w⟩
   | _,_=>none
 | _=>none
theorem ziq (a:Option Int):zlM (optD a)=some a:=by cases a <;> rfl
theorem zeT (g:Gate):zir (zi g)=some g:=by
 simp [zir,zi,ziq]
noncomputable def zeS:List D→Option (List Gate)
 | []=>some []
 | d::ds=>match zir d,zeS ds with
   | some g,some gs=>some (g::gs)
   | _,_=>none
theorem zeR:∀ gs:List Gate,zeS (gs.map zi)=some gs
 | []=>rfl
 | g::gs=>by simp [zeS,zeT,zeR gs]
noncomputable def opp (g h:Gate):Bool:=decide (g.x=h.x∧g.lo=h.lo∧g.hi=h.hi) && !decide (g.w=h.w)
noncomputable def zl5 (st:List Gate) (g:Gate):List Gate:=match st.getLast? with
 | some t=>if opp t g=true then st.dropLast else st++[g]
 | none=>st++[g]
theorem zl4 (st:List Gate) (g:Gate):(zl5 st g).length≤st.length+1:=by
 unfold zl5
 split
 ·split <;> simp
  lia
 ·simp
theorem zj {f g:FS} {env env':Ev} (h:f env=.ok (.next env')):seqS f g env=g env':=by
 simp only [seqS,h,zk]
theorem yB {f g:FS} {env:Ev} {v:Val} (h:f env=.ok (.ret v)):seqS f g env=.ok (.ret v):=by
 simp only [seqS,h,zk]
theorem sIx43:¬ (HT.sIx 4 0 none=0∧HT.sIx 4 4 (some 3)=4):=by decide
theorem cut3 (a b c d:D):cutD [a,b,c,d] none (some 3)=[a,b,c]:=rfl
noncomputable def Path (n:Nat):Int→List Gate→Prop
 | h,[]=>0≤h∧h≤n
 | h,g::gs=>0≤h∧h≤n∧Path n (h+g.w) gs
noncomputable abbrev Spot:=Int×Int
noncomputable def near (a b:Spot):Prop := -(2^64)<b.1 - a.1∧b.1 - a.1<2^64
theorem at0 (p:Spot):atI [D.int p.1,D.int p.2] 0=some (.int p.1):=rfl
theorem at1 (p:Spot):atI [D.int p.1,D.int p.2] 1=some (.int p.2):=rfl
noncomputable def strD (q:Spot×Spot):D:=.tup [zf q.1,zf q.2]
noncomputable def xi (a b p:Spot):Int:=(b.1 - a.1)*(p.2 - a.2) - (b.2 - a.2)*(p.1 - a.1)
noncomputable def xc (a b p:Spot):Int:=if 0<b.1 - a.1 then xi a b p else -xi a b p
theorem ats0 (q:Spot×Spot):atI [zf q.1,zf q.2] 0=some (zf q.1):=rfl
theorem ats1 (q:Spot×Spot):atI [zf q.1,zf q.2] 1=some (zf q.2):=rfl
theorem x9 {α β:Type} (p:α→Bool) (f:α→β):∀ l:List α,l.filterMap (fun x=>if p x=true then some (f x) else none)=(l.filter p).map f
 | []=>rfl
 | x::l=>by
   cases h:p x <;> simp [List.filterMap_cons,List.filter_cons,h,x9 p f l]
theorem ze3 (h:Int→Int) (a:Int):∀ n:Nat,∃ m:Nat,m≤n∧(∀ k:Nat,k≤n→h (a+k)≤h (a+m))∧(∀ k:Nat,k<m→h (a+k)<h (a+m))
 | 0=>⟨0,by lia,fun k hk=>by rw [show k=0 by lia]; exact Int.le_refl _,fun k hk=>by lia⟩
 | n+1=>by
   obtain ⟨m,h1,h2,h3⟩:=ze3 h a n
   by_cases hh:h (a+m)<h (a+(n+1:Nat))
   ·refine ⟨n+1,by lia,fun k hk => ?_,fun k hk => ?_⟩
    ·by_cases z:k≤n
     ·have:=h2 k z; lia
     ·rw [show k=n+1 by lia]; exact Int.le_refl _
    ·have:=h2 k (by lia); lia
   ·refine ⟨m,by lia,fun k hk => ?_,h3⟩
    by_cases z:k≤n
    ·exact h2 k z
    ·rw [show k=n+1 by lia]; lia
noncomputable def dd (F:Int→Int) (x:Int):Int:=F (x+1)+F (x - 1) - 2*F x
theorem cmp {F G:Int→Int} {a b:Int} (ha:F a≤G a) (hb:F b≤G b) (hf:∀ x,a<x→x<b→dd F x<0→F x≤G x) (hg:∀ x,a<x→x<b→0<dd G x→F x≤G x) {x:Int} (h1:a≤x) (h2:x≤b):F x≤G x:=by
 obtain ⟨m,e1,e2,e3⟩:=ze3 (fun x=>F x - G x) a (b - a).toNat
 have hx:=e2 (x - a).toNat (by lia)
 rw [show a+((x - a).toNat:Int)=x by lia] at hx
 by_cases z:F x≤G x
 ·exact z
 have hm:0<F (a+m) - G (a+m):=by lia
 have m0:m≠0:=by
  intro z
  subst z
  simp at hm
  lia
 have mb:a+m≠b:=by
  intro z
  rw [z] at hm
  lia
 have l:=e3 (m - 1) (by lia)
 rw [show a+((m - 1:Nat):Int)=a+m - 1 by lia] at l
 have r:=e2 (m+1) (by lia)
 rw [show a+((m+1:Nat):Int)=a+m+1 by lia] at r
 have k1:=hf (a+m) (by lia) (by lia)
 have k2:=hg (a+m) (by lia) (by lia)
 unfold dd at k1 k2
 lia
structure Curve (D:Int) (run:List Gate) (a b:Spot) (F:Int→Int):Prop where
 at_a:F a.1=D*a.2
 at_b:F b.1=D*b.2
 lo:∀ g∈run,a.1<g.x→g.x<b.1→∀ y,g.lo=some y→D*y≤F g.x
 hi:∀ g∈run,a.1<g.x→g.x<b.1→∀ y,g.hi=some y→F g.x≤D*y
 dn:∀ x,a.1<x→x<b.1→dd F x<0→∃ g∈run,g.x=x∧∃ y,g.lo=some y∧F x=D*y
 up:∀ x,a.1<x→x<b.1→0<dd F x→∃ g∈run,g.x=x∧∃ y,g.hi=some y∧F x=D*y
theorem Curve.below {D W:Int} {run:List Gate} {a b:Spot} {F A:Int→Int} (hW:0<W) (h:Curve D run a b F) (ha:W*(D*a.2)≤A a.1) (hb:W*(D*b.2)≤A b.1) (hA:∀ x,dd A x=0) (hl:∀ g∈run,a.1<g.x→g.x<b.1→∀ y,g.lo=some y→W*(D*y)≤A g.x) {x:Int} (h1:a.1≤x) (h2:x≤b.1):W*F x≤A x:=by
 refine cmp (F:=fun x=>W*F x) (G:=A) (a:=a.1) (b:=b.1) (by simp only [h.at_a]; exact ha) (by simp only [h.at_b]; exact hb) (fun x q1 q2 q => ?_) (fun x q1 q2 q => ?_) h1 h2
 ·have q':dd F x<0:=by
   have e:dd (fun x=>W*F x) x=W*dd F x:=by unfold dd; grind
   rw [e] at q
   by_cases z:dd F x<0
   ·exact z
   ·have:=Int.mul_nonneg (Int.le_of_lt hW) (Int.not_lt.mp z); lia
  obtain ⟨g,hg,rfl,y,e,e'⟩:=h.dn x q1 q2 q'
  simp only [e']
  exact hl g hg q1 q2 y e
 ·have:=hA x; lia
theorem Curve.above {D W:Int} {run:List Gate} {a b:Spot} {F A:Int→Int} (hW:0<W) (h:Curve D run a b F) (ha:A a.1≤W*(D*a.2)) (hb:A b.1≤W*(D*b.2)) (hA:∀ x,dd A x=0) (hl:∀ g∈run,a.1<g.x→g.x<b.1→∀ y,g.hi=some y→A g.x≤W*(D*y)) {x:Int} (h1:a.1≤x) (h2:x≤b.1):A x≤W*F x:=by
 refine cmp (G:=fun x=>W*F x) (F:=A) (a:=a.1) (b:=b.1) (by simp only [h.at_a]; exact ha) (by simp only [h.at_b]; exact hb) (fun x q1 q2 q => ?_) (fun x q1 q2 q => ?_) h1 h2
 ·have:=hA x; lia
 ·have q':0<dd F x:=by
   have e:dd (fun x=>W*F x) x=W*dd F x:=by unfold dd; grind
   rw [e] at q
   by_cases z:0<dd F x
   ·exact z
   ·have:=Int.mul_nonneg (Int.le_of_lt hW) (show 0 ≤ - dd F x by lia)
    rw [Int.mul_neg] at this; lia
  obtain ⟨g,hg,rfl,y,e,e'⟩:=h.up x q1 q2 q'
  simp only [e']
  exact hl g hg q1 q2 y e
noncomputable def bw (a b:Spot) (x:Int):Prop:=(a.1<x∧x<b.1)∨(b.1<x∧x<a.1)
noncomputable def Bey (a b:Spot) (g:Gate) (p:Spot) (d:Int):Prop:=p.1=g.x∧((g.lo=some p.2∧d=xc a b p)∨(g.hi=some p.2∧d = -xc a b p))
inductive Pul (run:List Gate):Spot→Spot→List Spot→Prop
 | stop {a b:Spot}:(∀ g∈run,bw a b g.x→∀ p d,Bey a b g p d→d≤0)→Pul run a b [b]
 | split {a b p:Spot} {d:Int} {g:Gate} {l1 l2:List Spot}:g∈run→bw a b g.x→Bey a b g p d→0<d→(∀ g'∈run,bw a b g'.x→∀ p' d',Bey a b g' p' d'→d'≤d)→Pul run a p l1→Pul run p b l2→Pul run a b (l1++l2)
noncomputable def Lin (D:Int) (F:Int→Int) (u v:Spot):Prop:=u.1<v.1∧F u.1=D*u.2∧F v.1=D*v.2∧∀ x,u.1<x→x<v.1→dd F x=0
noncomputable def Pth (D:Int) (F:Int→Int):Spot→List Spot→Spot→Prop
 | a,[],b=>a=b
 | a,v::r,b=>Lin D F a v∧Pth D F v r b
theorem Pth.app {D:Int} {F:Int→Int} {p b:Spot} {l2:List Spot} (h2:Pth D F p l2 b):∀ {l1:List Spot} {a:Spot},Pth D F a l1 p→Pth D F a (l1++l2) b
 | [],a,h=>by cases (show a=p from h); exact h2
 | v::r,a,h=>⟨h.1,Pth.app h2 h.2⟩
theorem Pth.le {D:Int} {F:Int→Int} {b:Spot}:∀ {l:List Spot} {a:Spot},Pth D F a l b→a.1≤b.1
 | [],a,h=>by cases (show a=b from h); exact Int.le_refl _
 | v::r,a,h=>by have:=Pth.le h.2; have:=h.1.1; lia
theorem Lin.congr {D:Int} {F F':Int→Int} {u v:Spot} (h:Lin D F u v) (e:∀ x,u.1≤x→x≤v.1→F' x=F x):Lin D F' u v:=by
 obtain ⟨h1,h2,h3,h4⟩:=h
 refine ⟨h1,by rw [e _ (by lia) (by lia),h2],by rw [e _ (by lia) (by lia),h3],fun x q1 q2 => ?_⟩
 have:=h4 x q1 q2
 unfold dd at this ⊢
 rw [e _ (by lia) (by lia),e _ (by lia) (by lia),e _ (by lia) (by lia)]
 exact this
theorem Pth.congr {D:Int} {F F':Int→Int} {b:Spot}:∀ {l:List Spot} {a:Spot},Pth D F a l b→(∀ x,a.1≤x→x≤b.1→F' x=F x)→Pth D F' a l b
 | [],a,h,_=>h
 | v::r,a,h,e=>by
   have:=Pth.le h.2
   have:=h.1.1
   exact ⟨h.1.congr fun x q1 q2=>e x q1 (by lia),Pth.congr h.2 fun x q1 q2=>e x (by lia) q2⟩
noncomputable def ziv (run:List Gate):Prop:=∀ g∈run,∀ g'∈run,g.x=g'.x→∀ u v,g.lo=some u→g'.hi=some v→u≤v
theorem tL {a b p:Spot} (h:a.1<b.1):xc a b p=xi a b p:=by
 unfold xc
 rw [if_pos (by lia)]
theorem zbz {k x y:Int} (hk:0<k) (h:x≤y):k*x≤k*y:=Int.mul_le_mul_of_nonneg_left h (Int.le_of_lt hk)
theorem xN {k x y:Int} (hk:0<k) (h:k*x≤k*y):x≤y:=Int.le_of_mul_le_mul_left h hk
theorem zf7 {D:Int} {run:List Gate} {a b:Spot} (hab:a.1<b.1) (hD:0<D) (hd:(b.1 - a.1)∣D) (h:∀ g∈run,bw a b g.x→∀ p d,Bey a b g p d→d≤0):∃ F,Curve D run a b F∧Pth D F a [b] b:=by
 obtain ⟨k,hk⟩:=hd
 have hk0:0<k:=by
  by_cases z:0<k
  ·exact z
  ·have:=Int.mul_nonneg (show 0≤b.1 - a.1 by lia) (show 0 ≤ -k by lia)
   rw [Int.mul_neg] at this; lia
 have hdd:∀ x,dd (fun x=>D*a.2+k*((b.2 - a.2)*(x - a.1))) x=0:=by intro x; unfold dd; grind
 have ea:D*a.2+k*((b.2 - a.2)*(a.1 - a.1))=D*a.2:=by grind
 have eb:D*a.2+k*((b.2 - a.2)*(b.1 - a.1))=D*b.2:=by grind
 refine ⟨fun x=>D*a.2+k*((b.2 - a.2)*(x - a.1)),⟨ea,eb,fun g hg q1 q2 y e => ?_,fun g hg q1 q2 y e => ?_,fun x _ _ q => ?_,fun x _ _ q => ?_⟩,⟨hab,ea,eb,fun x _ _=>hdd x⟩,rfl⟩
 ·have:=h g hg (.inl ⟨q1,q2⟩) (g.x,y) _ ⟨rfl,.inl ⟨e,rfl⟩⟩
  rw [tL hab] at this
  have:=zbz hk0 this
  unfold xi at this
  simp only at this
  rw [hk]
  grind
 ·have:=h g hg (.inl ⟨q1,q2⟩) (g.x,y) _ ⟨rfl,.inr ⟨e,rfl⟩⟩
  rw [tL hab] at this
  have:=zbz hk0 this
  unfold xi at this
  simp only at this
  rw [hk]
  grind
 ·have:=hdd x; lia
 ·have:=hdd x; lia
noncomputable def glue (c:Int) (F1 F2:Int→Int) (x:Int):Int:=if x≤c then F1 x else F2 x
theorem w8 {c:Int} {F1 F2:Int→Int} {x:Int} (h:x≤c):glue c F1 F2 x=F1 x:=if_pos h
theorem vL {c:Int} {F1 F2:Int→Int} {x:Int} (e:F1 c=F2 c) (h:c≤x):glue c F1 F2 x=F2 x:=by
 unfold glue
 split
 ·rw [show x=c by lia,e]
 ·rfl
theorem zfT {F G:Int→Int} {x:Int} (h1:F (x+1)=G (x+1)) (h2:F (x - 1)=G (x - 1)) (h3:F x=G x):dd F x=dd G x:=by
 unfold dd
 rw [h1,h2,h3]
theorem Curve.glue {D:Int} {run:List Gate} {a p b:Spot} {F1 F2:Int→Int} (h:Curve D run a p F1) (k:Curve D run p b F2) (hap:a.1<p.1) (hpb:p.1<b.1)
 (hlo:∀ g∈run,g.x=p.1→∀ y,g.lo=some y→y≤p.2) (hhi:∀ g∈run,g.x=p.1→∀ y,g.hi=some y→p.2≤y) (hD:0<D)
 (hp:(F2 (p.1+1)+F1 (p.1 - 1) - 2*(D*p.2)≤0∧∃ g∈run,g.x=p.1∧g.lo=some p.2)∨(0≤F2 (p.1+1)+F1 (p.1 - 1) - 2*(D*p.2)∧∃ g∈run,g.x=p.1∧g.hi=some p.2)) :
 Curve D run a b (My.glue p.1 F1 F2):=by
 have e:F1 p.1=F2 p.1:=by rw [h.at_b,k.at_a]
 have hat:My.glue p.1 F1 F2 p.1=D*p.2:=by rw [w8 (Int.le_refl _),h.at_b]
 have hdl:∀ x,x<p.1→dd (My.glue p.1 F1 F2) x=dd F1 x:=fun x q=>zfT (w8 (by lia)) (w8 (by lia)) (w8 (by lia))
 have hdr:∀ x,p.1<x→dd (My.glue p.1 F1 F2) x=dd F2 x:=fun x q=>zfT (vL e (by lia)) (vL e (by lia)) (vL e (by lia))
 have hdm:dd (My.glue p.1 F1 F2) p.1=F2 (p.1+1)+F1 (p.1 - 1) - 2*(D*p.2):=by
  unfold dd
  rw [hat,vL e (by lia),w8 (by lia)]
 refine ⟨by rw [w8 (by lia),h.at_a],by rw [vL e (by lia),k.at_b],fun g hg q1 q2 y ey => ?_,fun g hg q1 q2 y ey => ?_,fun x q1 q2 q => ?_,fun x q1 q2 q => ?_⟩
 ·rcases Int.lt_trichotomy g.x p.1 with z | z | z
  ·rw [w8 (by lia)]; exact h.lo g hg q1 z y ey
  ·rw [z,hat]; exact zbz hD (hlo g hg z y ey)
  ·rw [vL e (by lia)]; exact k.lo g hg z q2 y ey
 ·rcases Int.lt_trichotomy g.x p.1 with z | z | z
  ·rw [w8 (by lia)]; exact h.hi g hg q1 z y ey
  ·rw [z,hat]; exact zbz hD (hhi g hg z y ey)
  ·rw [vL e (by lia)]; exact k.hi g hg z q2 y ey
 ·rcases Int.lt_trichotomy x p.1 with z | z | z
  ·rw [hdl x z] at q; rw [w8 (by lia)]; exact h.dn x q1 z q
  ·subst z
   rw [hdm] at q
   rcases hp with ⟨_,g,hg,hx,hy⟩ | ⟨q',_⟩
   ·exact ⟨g,hg,hx,p.2,hy,hat⟩
   ·lia
  ·rw [hdr x z] at q; rw [vL e (by lia)]; exact k.dn x z q2 q
 ·rcases Int.lt_trichotomy x p.1 with z | z | z
  ·rw [hdl x z] at q; rw [w8 (by lia)]; exact h.up x q1 z q
  ·subst z
   rw [hdm] at q
   rcases hp with ⟨q',_⟩ | ⟨_,g,hg,hx,hy⟩
   ·lia
   ·exact ⟨g,hg,hx,p.2,hy,hat⟩
  ·rw [hdr x z] at q; rw [vL e (by lia)]; exact k.up x z q2 q
noncomputable def vH (D d:Int) (a b:Spot) (x:Int):Int:=D*((b.1 - a.1)*a.2+(b.2 - a.2)*(x - a.1)+d)
theorem tu (D d:Int) (a b:Spot) (x:Int):dd (vH D d a b) x=0:=by
 unfold dd vH
 grind
theorem zcj {D d:Int} {a b q:Spot}:vH D d a b q.1=(b.1 - a.1)*(D*q.2)+D*(d - xi a b q):=by
 unfold vH xi
 grind
theorem zkc {D d:Int} {a b:Spot}:vH D d a b a.1=(b.1 - a.1)*(D*a.2)+D*d:=by
 unfold vH
 grind
theorem zkb {D d:Int} {a b:Spot}:vH D d a b b.1=(b.1 - a.1)*(D*b.2)+D*d:=by
 unfold vH
 grind
theorem zbu {k x:Int} (hk:0<k) (h:k*x≤0):x≤0:=xN hk (by lia)
theorem zd5 {D:Int} {run:List Gate} (ok:ziv run) {a b p:Spot} {d:Int} {g:Gate} {F1 F2:Int→Int} (hg:g∈run) (hap:a.1<p.1) (hpb:p.1<b.1) (hB:Bey a b g p d) (hd:0<d)
 (far:∀ g'∈run,bw a b g'.x→∀ p' d',Bey a b g' p' d'→d'≤d) (hD:0<D) (h:Curve D run a p F1) (k:Curve D run p b F2):Curve D run a b (glue p.1 F1 F2):=by
 have hab:a.1<b.1:=by lia
 have hW:0<b.1 - a.1:=by lia
 obtain ⟨hx,hB⟩:=hB
 have hDd:0<D*d:=Int.mul_pos hD hd
 have farL:∀ g'∈run,a.1<g'.x→g'.x<b.1→∀ y,g'.lo=some y→xi a b (g'.x,y)≤d:=fun g' hg' q1 q2 y ey=>by
  have:=far g' hg' (.inl ⟨q1,q2⟩) (g'.x,y) _ ⟨rfl,.inl ⟨ey,rfl⟩⟩
  rwa [tL hab] at this
 have farH:∀ g'∈run,a.1<g'.x→g'.x<b.1→∀ y,g'.hi=some y → -xi a b (g'.x,y)≤d:=fun g' hg' q1 q2 y ey=>by
  have:=far g' hg' (.inl ⟨q1,q2⟩) (g'.x,y) _ ⟨rfl,.inr ⟨ey,rfl⟩⟩
  rwa [tL hab] at this
 rcases hB with ⟨hy,hdE⟩ | ⟨hy,hdE⟩
 ·rw [tL hab] at hdE
  have lowA:∀ g'∈run,a.1<g'.x→g'.x<b.1→∀ y,g'.lo=some y→(b.1 - a.1)*(D*y)≤vH D d a b g'.x:=fun g' hg' q1 q2 y ey=>by
   have:=farL g' hg' q1 q2 y ey
   have e:=zcj (D:=D) (d:=d) (a:=a) (b:=b) (q:=(g'.x,y))
   simp only at e
   have:0≤D*(d - xi a b (g'.x,y)):=Int.mul_nonneg (by lia) (by lia)
   lia
  have hpA:vH D d a b p.1=(b.1 - a.1)*(D*p.2):=by
   rw [zcj,hdE,Int.sub_self,Int.mul_zero,Int.add_zero]
  have l:=h.below hW (A:=vH D d a b) (by rw [zkc]; lia) (by rw [hpA]; exact Int.le_refl _) (tu D d a b) (fun g' hg' q1 q2=>lowA g' hg' q1 (by lia)) (x:=p.1 - 1) (by lia) (by lia)
  have r:=k.below hW (A:=vH D d a b) (by rw [hpA]; exact Int.le_refl _) (by rw [zkb]; lia) (tu D d a b) (fun g' hg' q1 q2=>lowA g' hg' (by lia) q2) (x:=p.1+1) (by lia) (by lia)
  have m:=tu D d a b p.1
  unfold dd at m
  refine h.glue k hap hpb (fun g' hg' z y ey => ?_) (fun g' hg' z y ey=>ok g hg g' hg' (by lia) _ _ hy ey) hD (.inl ⟨zbu hW ?_,g,hg,hx.symm,hy⟩)
  ·have:=farL g' hg' (by lia) (by lia) y ey
   rw [hdE,z] at this
   unfold xi at this
   simp only at this
   have:(b.1 - a.1)*(y - a.2)≤(b.1 - a.1)*(p.2 - a.2):=by lia
   have:=xN hW this
   lia
  ·have e:(b.1 - a.1)*(F2 (p.1+1)+F1 (p.1 - 1) - 2*(D*p.2))=(b.1 - a.1)*F2 (p.1+1)+(b.1 - a.1)*F1 (p.1 - 1) - 2*((b.1 - a.1)*(D*p.2)):=by grind
   lia
 ·rw [tL hab] at hdE
  have hiA:∀ g'∈run,a.1<g'.x→g'.x<b.1→∀ y,g'.hi=some y→vH D (-d) a b g'.x≤(b.1 - a.1)*(D*y):=fun g' hg' q1 q2 y ey=>by
   have:=farH g' hg' q1 q2 y ey
   have e:=zcj (D:=D) (d := -d) (a:=a) (b:=b) (q:=(g'.x,y))
   simp only at e
   have:0≤D*(d+xi a b (g'.x,y)):=Int.mul_nonneg (by lia) (by lia)
   have:D*(-d - xi a b (g'.x,y)) = - (D*(d+xi a b (g'.x,y))):=by grind
   lia
  have hpA:vH D (-d) a b p.1=(b.1 - a.1)*(D*p.2):=by
   rw [zcj,hdE,Int.neg_neg,Int.sub_self,Int.mul_zero,Int.add_zero]
  have hn:D * -d = - (D*d):=Int.mul_neg _ _
  have l:=h.above hW (A:=vH D (-d) a b) (by rw [zkc]; lia) (by rw [hpA]; exact Int.le_refl _) (tu D (-d) a b) (fun g' hg' q1 q2=>hiA g' hg' q1 (by lia)) (x:=p.1 - 1) (by lia) (by lia)
  have r:=k.above hW (A:=vH D (-d) a b) (by rw [hpA]; exact Int.le_refl _) (by rw [zkb]; lia) (tu D (-d) a b) (fun g' hg' q1 q2=>hiA g' hg' (by lia) q2) (x:=p.1+1) (by lia) (by lia)
  have m:=tu D (-d) a b p.1
  unfold dd at m
  refine h.glue k hap hpb (fun g' hg' z y ey=>ok g' hg' g hg (by lia) _ _ ey hy) (fun g' hg' z y ey => ?_) hD (.inr ⟨?_,g,hg,hx.symm,hy⟩)
  ·have:=farH g' hg' (by lia) (by lia) y ey
   rw [hdE,z] at this
   unfold xi at this
   simp only at this
   have:(b.1 - a.1)*(p.2 - a.2)≤(b.1 - a.1)*(y - a.2):=by lia
   have:=xN hW this
   lia
  ·have e:(b.1 - a.1)*(F2 (p.1+1)+F1 (p.1 - 1) - 2*(D*p.2))=(b.1 - a.1)*F2 (p.1+1)+(b.1 - a.1)*F1 (p.1 - 1) - 2*((b.1 - a.1)*(D*p.2)):=by grind
   have:=zbu hW (x := -(F2 (p.1+1)+F1 (p.1 - 1) - 2*(D*p.2))) (by rw [Int.mul_neg]; lia)
   lia
theorem zg6 {run:List Gate} (ok:ziv run) {a b:Spot} {l:List Spot} (h:Pul run a b l) {D:Int} (hD:0<D):a.1<b.1→(∀ k,0<k→k≤b.1 - a.1→k∣D)→∃ F,Curve D run a b F∧Pth D F a l b:=by
 induction h with
 | stop h=>exact fun hab hd=>zf7 hab hD (hd _ (by lia) (Int.le_refl _)) h
 | @split a b p d g l1 l2 hg hb hB hd far _ _ ih1 ih2 =>
   intro hab hdv
   have hx:=hB.1
   have h1:a.1<p.1∧p.1<b.1:=by
    rcases hb with z | z <;> lia
   obtain ⟨F1,C1,P1⟩:=ih1 h1.1 fun k q1 q2=>hdv k q1 (by lia)
   obtain ⟨F2,C2,P2⟩:=ih2 h1.2 fun k q1 q2=>hdv k q1 (by lia)
   have e:F1 p.1=F2 p.1:=by rw [C1.at_b,C2.at_a]
   exact ⟨glue p.1 F1 F2,zd5 ok hg h1.1 h1.2 hB hd far hD C1 C2,Pth.app (P2.congr fun x q1 q2=>vL e q1) (P1.congr fun x q1 q2=>w8 q2)⟩
noncomputable def straight (o m n:Spot):Bool:=decide ((m.1 - o.1)*(n.2 - m.2)=(m.2 - o.2)*(n.1 - m.1))&&decide (0<(m.1 - o.1)*(n.1 - m.1)+(m.2 - o.2)*(n.2 - m.2))
theorem yl {o m n:Spot}:straight o m n=true↔(m.1 - o.1)*(n.2 - m.2)=(m.2 - o.2)*(n.1 - m.1)∧0<(m.1 - o.1)*(n.1 - m.1)+(m.2 - o.2)*(n.2 - m.2):=by
 unfold straight
 rw [Bool.and_eq_true,decide_eq_true_eq,decide_eq_true_eq]
noncomputable def xf:List Spot→List Spot
 | o::m::n::r=>(if straight o m n=true then [] else [m])++xf (m::n::r)
 | _=>[]
theorem zgk (o m n:Spot):∀ l:List Spot,xf (l++[o,m,n])=xf (l++[o,m])++(if straight o m n=true then [] else [m])
 | []=>by simp [xf]
 | [x]=>by simp [xf]
 | [x,y]=>by simp [xf]
 | x::y::z::r=>by
   have ih:=zgk o m n (y::z::r)
   simp only [List.cons_append] at ih ⊢
   rw [xf,xf,ih,List.append_assoc]
noncomputable def hdS (o:Spot):List Spot→Bool
 | a::v::_=>straight o a v
 | _=>true
theorem zhD {F:Int→Int} {u v:Int} (h:∀ x,u<x→x<v→dd F x=0):∀ k:Nat,u+k<v→F (u+k+1) - F (u+k)=F (u+1) - F u
 | 0,_=>by simp
 | k+1,hk=>by
   have ih:=zhD h k (by lia)
   have:=h (u+(k+1:Nat)) (by lia) hk
   unfold dd at this
   rw [show u+((k+1:Nat):Int) - 1=u+k by lia] at this
   rw [show u+((k+1:Nat):Int)=u+k+1 by lia] at this ⊢
   lia
theorem zhC {F:Int→Int} {u v:Int} (h:∀ x,u<x→x<v→dd F x=0):∀ k:Nat,u+k≤v→F (u+k)=F u+k*(F (u+1) - F u)
 | 0,_=>by simp
 | k+1,hk=>by
   have ih:=zhC h k (by lia)
   have:=zhD h k (by lia)
   rw [show u+((k+1:Nat):Int)=u+k+1 by lia]
   have e:((k+1:Nat):Int)*(F (u+1) - F u)=k*(F (u+1) - F u)+(F (u+1) - F u):=by
    rw [show ((k+1:Nat):Int)=(k:Int)+1 by lia,Int.add_mul,Int.one_mul]
   lia
theorem Lin.first {D:Int} {F:Int→Int} {u v:Spot} (h:Lin D F u v):D*(v.2 - u.2)=(v.1 - u.1)*(F (u.1+1) - F u.1):=by
 obtain ⟨h1,h2,h3,h4⟩:=h
 have:=zhC h4 (v.1 - u.1).toNat (by lia)
 rw [show u.1+((v.1 - u.1).toNat:Int)=v.1 by lia,show (((v.1 - u.1).toNat:Nat):Int)=v.1 - u.1 by lia,h3] at this
 rw [Int.mul_sub,←h2]
 lia
theorem Lin.last {D:Int} {F:Int→Int} {u v:Spot} (h:Lin D F u v):F v.1 - F (v.1 - 1)=F (u.1+1) - F u.1:=by
 obtain ⟨h1,h2,h3,h4⟩:=h
 have:=zhD h4 (v.1 - 1 - u.1).toNat (by lia)
 rw [show u.1+((v.1 - 1 - u.1).toNat:Int)=v.1 - 1 by lia,show v.1 - 1+1=v.1 by lia] at this
 exact this
theorem yZ {k x y:Int} (hk:0<k):k*x=k*y↔x=y:=⟨fun h=>Int.eq_of_mul_eq_mul_left (by lia) h,fun h=>by rw [h]⟩
theorem zQ {k x:Int} (hk:0<k):0<k*x↔0<x:=by
 constructor
 ·intro h
  by_cases z:0<x
  ·exact z
  ·have:=Int.mul_nonneg (Int.le_of_lt hk) (show 0 ≤ -x by lia)
   rw [Int.mul_neg] at this; lia
 ·exact Int.mul_pos hk
theorem str_out {D:Int} {F:Int→Int} {o m n:Spot} (hD:0<D) (h:Lin D F m n):straight o m n=true↔(m.1 - o.1)*(F (m.1+1) - F m.1)=(m.2 - o.2)*D∧0<(m.1 - o.1)*D+(m.2 - o.2)*(F (m.1+1) - F m.1):=by
 have e:=h.first
 have hk:0<n.1 - m.1:=by have:=h.1; lia
 generalize F (m.1+1) - F m.1=s at *
 rw [yl,←yZ hD,←zQ (x:=(m.1 - o.1)*(n.1 - m.1)+(m.2 - o.2)*(n.2 - m.2)) hD,←yZ (x:=(m.1 - o.1)*s) hk,←zQ (x:=(m.1 - o.1)*D+(m.2 - o.2)*s) hk]
 have e1:D*((m.1 - o.1)*(n.2 - m.2))=(n.1 - m.1)*((m.1 - o.1)*s):=by
  rw [Int.mul_left_comm D,e,Int.mul_left_comm]
 have e2:D*((m.2 - o.2)*(n.1 - m.1))=(n.1 - m.1)*((m.2 - o.2)*D):=by grind
 have e3:D*((m.1 - o.1)*(n.1 - m.1)+(m.2 - o.2)*(n.2 - m.2))=(n.1 - m.1)*((m.1 - o.1)*D+(m.2 - o.2)*s):=by
  rw [Int.mul_add,Int.mul_left_comm D (m.2 - o.2),e]
  grind
 rw [e1,e2,e3]
theorem zl3 {D:Int} {F:Int→Int} {o m n:Spot} (hD:0<D) (h:Lin D F o m):straight o m n=true↔(n.1 - m.1)*(F m.1 - F (m.1 - 1))=(n.2 - m.2)*D∧0<(n.1 - m.1)*D+(n.2 - m.2)*(F m.1 - F (m.1 - 1)):=by
 have e:=h.first
 rw [←h.last] at e
 have hk:0<m.1 - o.1:=by have:=h.1; lia
 generalize F m.1 - F (m.1 - 1)=s at *
 rw [yl,←yZ hD,←zQ (x:=(m.1 - o.1)*(n.1 - m.1)+(m.2 - o.2)*(n.2 - m.2)) hD,←yZ (x:=(n.1 - m.1)*s) hk,←zQ (x:=(n.1 - m.1)*D+(n.2 - m.2)*s) hk]
 have e1:D*((m.2 - o.2)*(n.1 - m.1))=(m.1 - o.1)*((n.1 - m.1)*s):=by
  rw [←Int.mul_assoc,e]
  grind
 have e2:D*((m.1 - o.1)*(n.2 - m.2))=(m.1 - o.1)*((n.2 - m.2)*D):=by grind
 have e3:D*((m.1 - o.1)*(n.1 - m.1)+(m.2 - o.2)*(n.2 - m.2))=(m.1 - o.1)*((n.1 - m.1)*D+(n.2 - m.2)*s):=by
  rw [Int.mul_add,←Int.mul_assoc D (m.2 - o.2),e]
  grind
 rw [e1,e2,e3]
 exact ⟨fun h=>⟨h.1.symm,h.2⟩,fun h=>⟨h.1.symm,h.2⟩⟩
theorem xM (s:Int):0≤s*s:=by
 rcases Int.le_total 0 s with z | z
 ·exact Int.mul_nonneg z z
 ·have:=Int.mul_nonneg (show 0 ≤ -s by lia) (show 0 ≤ -s by lia)
  rwa [Int.neg_mul_neg] at this
theorem zky {D:Int} {F:Int→Int} {o m n:Spot} (hD:0<D) (h:Lin D F o m) (k:Lin D F m n):straight o m n=true↔dd F m.1=0:=by
 have e:=k.first
 have hk:0<n.1 - m.1:=by have:=k.1; lia
 rw [zl3 hD h]
 have hdd:dd F m.1=(F (m.1+1) - F m.1) - (F m.1 - F (m.1 - 1)):=by unfold dd; lia
 rw [hdd]
 generalize F (m.1+1) - F m.1=s2 at *
 generalize F m.1 - F (m.1 - 1)=s1 at *
 have e':(n.2 - m.2)*D=(n.1 - m.1)*s2:=by rw [Int.mul_comm,e]
 rw [e',yZ hk]
 constructor
 ·rintro ⟨h1,_⟩; lia
 ·intro h1
  have h1:s1=s2:=by lia
  subst h1
  refine ⟨rfl,?_⟩
  rw [←zQ hD]
  have:D*((n.1 - m.1)*D+(n.2 - m.2)*s1)=(n.1 - m.1)*(D*D+s1*s1):=by
   rw [Int.mul_add,←Int.mul_assoc D (n.2 - m.2),e]
   grind
  rw [this]
  have:=Int.mul_pos hD hD
  have:=xM s1
  exact Int.mul_pos hk (by lia)
noncomputable def kk (D:Int) (F:Int→Int):Nat→Int→List Spot
 | 0,_=>[]
 | n+1,x=>(if dd F (x+1)=0 then [] else [(x+1,F (x+1) / D)])++kk D F n (x+1)
theorem zft {D:Int} {F:Int→Int} {b:Spot}:∀ {l:List Spot} {a:Spot},Pth D F a l b→l≠[]→∃ q r,(a::l).reverse=b::q::r∧Lin D F q b
 | [],a,_,z=>absurd rfl z
 | [v],a,h,_=>by
   cases (show v=b from h.2)
   exact ⟨a,[],rfl,h.1⟩
 | v::w::r,a,h,_=>by
   obtain ⟨q,r',e,k⟩:=zft h.2 (by simp)
   exact ⟨q,r'++[a],by rw [List.reverse_cons,e]; rfl,k⟩
theorem zjI {a b:Spot} {x:Int} (h:bw a b x):a.1≠b.1:=by
 rcases h with z | z <;> lia
theorem zg5 {run:List Gate} {a b:Spot} {l:List Spot} (h:Pul run a b l) (e:a.1=b.1):l=[b]:=by
 cases h with
 | stop _=>rfl
 | split hg hb _ _ _ _ _=>exact absurd e (zjI hb)
noncomputable def fac:Nat→Int
 | 0=>1
 | n+1=>((n+1:Nat):Int)*fac n
theorem zeC:∀ n,0<fac n
 | 0=>by decide
 | n+1=>Int.mul_pos (by lia) (zeC n)
theorem zh0 {k:Int} (h:0<k):∀ n:Nat,k≤n→k∣fac n
 | 0,z=>by lia
 | n+1,z=>by
   by_cases q:k≤n
   ·exact Int.dvd_trans (zh0 h n q) (Int.dvd_mul_left _ _)
   ·rw [show k=((n+1:Nat):Int) by lia]
    exact Int.dvd_mul_right _ _
theorem zj0 {D:Int} {F:Int→Int} {b:Spot}:∀ {l:List Spot} {a:Spot},Pth D F a l b→(a::l).Pairwise fun u v=>u.1<v.1
 | [],a,_=>by simp
 | v::r,a,h=>by
   have ih:=zj0 h.2
   have h1:=h.1.1
   refine List.pairwise_cons.mpr ⟨fun u hu => ?_,ih⟩
   rcases List.mem_cons.mp hu with rfl | hu
   ·exact h1
   ·have:=(List.pairwise_cons.mp ih).1 u hu
    lia
theorem zc8 {run:List Gate} (ok:ziv run) {a b:Spot} {l:List Spot} (h:Pul run a b l) (hab:a.1<b.1):∃ F,Curve (fac (b.1 - a.1).toNat) run a b F∧Pth (fac (b.1 - a.1).toNat) F a l b :=
 zg6 ok h (zeC _) hab fun k q1 q2=>zh0 q1 _ (by lia)
structure Leg (a b:Spot) (l:List Spot):Prop where
 ne:(a::l).Pairwise fun u v=>u.1≠v.1
 last:∃ q r,(a::l).reverse=b::q::r
theorem Leg.right {run:List Gate} (ok:ziv run) {a b:Spot} {l:List Spot} (h:Pul run a b l) (hab:a.1<b.1):Leg a b l:=by
 obtain ⟨F,_,P⟩:=zc8 ok h hab
 have n1:l≠[]:=fun z=>by rw [z] at P; cases (show a=b from P); lia
 obtain ⟨q,r,e,_⟩:=zft P n1
 exact ⟨(zj0 P).imp fun h=>by lia,q,r,e⟩
noncomputable def co:Option Spot→List Spot→List Spot
 | none,_=>[]
 | some o,L=>if hdS o L=true then [] else L.take 1
noncomputable def bnd:Option Spot→Spot→List Spot→List Spot
 | _,_,[]=>[]
 | o,a,v::r=>if v=a then bnd o a r else co o [a,v]++bnd (some a) v r
inductive Tot:Spot→List (List Gate×Spot)→List Spot→Prop
 | nil {a:Spot}:Tot a [] []
 | cons {a b:Spot} {run:List Gate} {l l':List Spot} {legs:List (List Gate×Spot)}:Pul run a b l→Tot b legs l'→Tot a ((run,b)::legs) (l++l')
structure Mp (f:Spot→Spot) (g:Gate→Gate):Prop where
 bwp:∀ a b G,bw (f a) (f b) (g G).x↔bw a b G.x
 bey:∀ a b G p d,a.1≠b.1→Bey a b G p d→Bey (f a) (f b) (g G) (f p) d
 inv:∀ a b G p' d,a.1≠b.1→Bey (f a) (f b) (g G) p' d→∃ p,p'=f p∧Bey a b G p d
 inj:∀ a b,f a=f b→a=b
 str:∀ o m n,o≠m→m≠n→straight (f o) (f m) (f n)=straight o m n
theorem zkK {f:Spot→Spot} {g:Gate→Gate} (M:Mp f g) {run:List Gate} {a b:Spot} {l:List Spot} (h:Pul run a b l):Pul (run.map g) (f a) (f b) (l.map f):=by
 induction h with
 | @stop a b h =>
   refine .stop fun G' hG' hb p' d k => ?_
   obtain ⟨G,hG,rfl⟩:=List.mem_map.mp hG'
   have hb':=(M.bwp a b G).mp hb
   obtain ⟨p,_,k'⟩:=M.inv a b G p' d (zjI hb') k
   exact h G hG hb' p d k'
 | @split a b p d G l1 l2 hg hb hB hd far _ _ ih1 ih2 =>
   rw [List.map_append]
   refine .split (List.mem_map_of_mem hg) ((M.bwp a b G).mpr hb) (M.bey a b G p d (zjI hb) hB) hd (fun G' hG' hb' p' d' k => ?_) ih1 ih2
   obtain ⟨G1,hG1,rfl⟩:=List.mem_map.mp hG'
   have hb1:=(M.bwp a b G1).mp hb'
   obtain ⟨p1,_,k'⟩:=M.inv a b G1 p' d' (zjI hb1) k
   exact far G1 hG1 hb1 p1 d' k'
noncomputable def mirS (p:Spot):Spot:=(-p.1,p.2)
noncomputable def mirG (g:Gate):Gate:=⟨-g.x,g.lo,g.hi,-g.w⟩
theorem zai {a b p:Spot} (h:a.1≠b.1):xc (mirS a) (mirS b) (mirS p)=xc a b p:=by
 unfold xc
 have e:xi (mirS a) (mirS b) (mirS p) = -xi a b p:=by unfold xi mirS; simp only; grind
 rw [e]
 unfold mirS
 simp only
 by_cases z:0<b.1 - a.1
 ·rw [if_pos z,if_neg (by lia),Int.neg_neg]
 ·rw [if_neg z,if_pos (by lia)]
theorem zmL:Mp mirS mirG where
 bwp:=fun a b G=>by unfold bw mirS mirG; simp only; lia
 bey:=fun a b G p d h ⟨k1,k2⟩=>by
  refine ⟨by unfold mirS mirG; simp only; lia,?_⟩
  rw [zai h]
  exact k2
 inv:=fun a b G p' d h ⟨k1,k2⟩=>by
  have e:p'=mirS (mirS p'):=by unfold mirS; simp
  rw [e,zai h] at k2
  exact ⟨mirS p',e,by unfold mirS mirG at *; simp only at *; lia,k2⟩
 inj:=fun a b h=>by
  unfold mirS at h
  simp only [Prod.mk.injEq] at h
  exact Prod.ext (by lia) h.2
 str:=fun o m n _ _=>by
  rw [Bool.eq_iff_iff,yl,yl]
  unfold mirS
  simp only
  constructor <;> rintro ⟨h1,h2⟩ <;> constructor <;> grind
noncomputable def negG (g:Gate):Gate:=⟨g.x,g.lo,g.hi,-g.w⟩
noncomputable def yz (g h:Gate):Bool:=match g.hi,h.lo with
 | some u,some v=>decide (u≤v)
 | _,_=>false
noncomputable def zJ (g h:Gate):Spot×Spot:=if yz g h=true then ((g.x,g.hi.getD 0),(g.x,h.lo.getD 0)) else ((g.x,g.lo.getD 0),(g.x,h.hi.getD 0))
noncomputable def zH (R:List Gate):Gate:=R.getLastD ⟨0,none,none,0⟩
noncomputable def vR (R:List Gate):Gate:=R.headD ⟨0,none,none,0⟩
noncomputable def tU:List (List Gate)→Spot→List (List Gate×Spot)
 | [],e=>[([],e)]
 | [R],e=>[(R,e)]
 | R::S::rs,e=>(R,(zJ (zH R) (vR S)).1)::([],(zJ (zH R) (vR S)).2)::tU (S::rs) e
structure TurnOk (t g:Gate):Prop where
 x:t.x=g.x
 one:(∃ u v,t.hi=some u∧g.lo=some v∧u≤v)∨(∃ u v,g.hi=some u∧t.lo=some v∧u≤v)
 tw:∀ u v,t.lo=some u→t.hi=some v→u<v
 gw:∀ u v,g.lo=some u→g.hi=some v→u<v
theorem ze2 {t g:Gate} (h:TurnOk t g):zJ (negG g) (negG t)=((zJ t g).2,(zJ t g).1):=by
 have e1:yz (negG g) (negG t)=yz g t:=rfl
 have n:yz t g=true→yz g t=false:=by
  intro q
  cases hh:yz g t with
  | false=>rfl
  | true =>
    unfold yz at q hh
    cases a:t.hi with
    | none=>rw [a] at q; cases q
    | some u =>
      cases b:g.lo with
      | none=>rw [a,b] at q; cases q
      | some v =>
        cases c:g.hi with
        | none=>rw [c] at hh; cases hh
        | some u' =>
          cases d:t.lo with
          | none=>rw [c,d] at hh; cases hh
          | some v' =>
            rw [a,b] at q
            rw [c,d] at hh
            have q:=of_decide_eq_true q
            have hh:=of_decide_eq_true hh
            have:=h.tw _ _ d a
            have:=h.gw _ _ b c
            lia
 have y:yz t g=true∨yz g t=true:=by
  rcases h.one with ⟨u,v,e,e',l⟩ | ⟨u,v,e,e',l⟩
  ·left; unfold yz; rw [e,e']; exact decide_eq_true l
  ·right; unfold yz; rw [e,e']; exact decide_eq_true l
 unfold zJ
 rw [e1]
 cases q:yz t g with
 | true =>
   rw [n q,if_neg Bool.false_ne_true,if_pos rfl]
   show ((g.x,g.lo.getD 0),(g.x,t.hi.getD 0))=_
   rw [←h.x]
 | false =>
   rw [q] at y
   rcases y with y | y
   ·cases y
   ·rw [y,if_pos rfl,if_neg Bool.false_ne_true]
    show ((g.x,g.hi.getD 0),(g.x,t.lo.getD 0))=_
    rw [←h.x]
noncomputable def zeU:List (List Gate)→Prop
 | R::S::rs=>TurnOk (zH R) (vR S)∧R≠[]∧S≠[]∧zeU (S::rs)
 | _=>True
noncomputable def unr:List Spot→List Spot
 | []=>[]
 | [a]=>[a]
 | a::b::r=>if b=a then unr (a::r) else a::unr (b::r)
termination_by l=>l.length
theorem yU (a:Spot) (r:List Spot):unr (a::a::r)=unr (a::r):=by rw [unr,if_pos rfl]
theorem wl {a b:Spot} (r:List Spot) (h:b≠a):unr (a::b::r)=a::unr (b::r):=by rw [unr,if_neg h]
theorem wc (a:Spot):unr [a]=[a]:=by rw [unr]
theorem ze1:∀ (r:List Spot) (a:Spot),∃ t,unr (a::r)=a::t
 | [],a=>⟨[],wc a⟩
 | b::r,a=>by
   by_cases z:b=a
   ·subst z
    obtain ⟨t,e⟩:=ze1 r b
    exact ⟨t,by rw [yU,e]⟩
   ·exact ⟨_,wl r z⟩
theorem zcE:∀ (l:List Spot) (o a:Spot),bnd (some o) a l=xf (o::unr (a::l))
 | [],o,a=>by rw [wc]; rfl
 | v::r,o,a=>by
   show (if v=a then bnd (some o) a r else co (some o) [a,v]++bnd (some a) v r)=_
   by_cases z:v=a
   ·subst z
    rw [if_pos rfl,zcE r o v,yU]
   ·rw [if_neg z,zcE r a v,wl r z]
    obtain ⟨t,e⟩:=ze1 r v
    rw [e,xf]
    rfl
theorem zfW:∀ (l:List Spot) (a:Spot),bnd none a l=xf (unr (a::l))
 | [],a=>by rw [wc]; rfl
 | v::r,a=>by
   show (if v=a then bnd none a r else []++bnd (some a) v r)=_
   by_cases z:v=a
   ·subst z
    rw [if_pos rfl,zfW r v,yU]
   ·rw [if_neg z,List.nil_append,zcE,wl r z]
theorem zab (b:Spot):∀ (l:List Spot) (a:Spot),unr (l++[a,b])=if b=a then unr (l++[a]) else unr (l++[a])++[b]
 | [],a=>by
   by_cases z:b=a
   ·subst z
    rw [if_pos rfl]
    exact yU b []
   ·rw [if_neg z]
    show unr (a::b::[])=unr [a]++[b]
    rw [wl [] z,wc,wc]
    rfl
 | [x],a=>by
   show unr (x::a::[b])=if b=a then unr (x::a::[]) else unr (x::a::[])++[b]
   have ih:=zab b [] a
   simp only [List.nil_append] at ih
   by_cases q:a=x
   ·subst q
    rw [yU,yU,ih]
   ·rw [wl _ q,wl _ q,ih]
    split <;> simp
 | x::y::l,a=>by
   simp only [List.cons_append]
   by_cases q:y=x
   ·subst q
    rw [yU,yU]
    exact zab b (y::l) a
   ·have ih:=zab b (y::l) a
    simp only [List.cons_append] at ih
    rw [wl _ q,wl _ q,ih]
    split <;> simp
termination_by l=>l.length
noncomputable def zcO (s:Spot) (rs:List (List Gate)) (e:Spot) (out:List Spot):Prop:=∃ T,Tot s (tU rs e) T∧out=s::(bnd none s T++[e])
noncomputable def xu:List Gate→List (List Gate)
 | []=>[]
 | g::r=>match xu r with
   | (h::R)::rs=>if g.w=h.w then (g::h::R)::rs else [g]::(h::R)::rs
   | _=>[[g]]
noncomputable def Up (a b:Gate):Prop:=a.w=b.w∧(a.w=1→a.x<b.x)∧(a.w≠1→b.x<a.x)
theorem Up.trans {a b c:Gate} (h:Up a b) (k:Up b c):Up a c:=by
 obtain ⟨h1,h2,h3⟩:=h
 obtain ⟨k1,k2,k3⟩:=k
 refine ⟨h1.trans k1,fun z => ?_,fun z => ?_⟩
 ·have:=h2 z; have:=k2 (by rw [←h1]; exact z); lia
 ·have:=h3 z; have:=k3 (by rw [←h1]; exact z); lia
noncomputable def Walk:List Gate→Prop
 | t::g::r=>(t.w=g.w→Up t g)∧(t.w≠g.w→TurnOk t g)∧Walk (g::r)
 | _=>True
noncomputable def GateOk (g:Gate):Prop:=∀ u v,g.lo=some u→g.hi=some v→u<v
noncomputable def Spl:List (List Gate)→Prop
 | []=>True
 | [R]=>R≠[]∧R.Pairwise Up
 | R::S::rs=>R≠[]∧R.Pairwise Up∧(zH R).w≠(vR S).w∧TurnOk (zH R) (vR S)∧Spl (S::rs)
theorem ui {g h:Gate} {r R:List Gate} {rs:List (List Gate)} (e:xu r=(h::R)::rs):xu (g::r)=if g.w=h.w then (g::h::R)::rs else [g]::(h::R)::rs:=by
 rw [xu,e]
theorem uh:∀ row:List Gate,(xu row).flatten=row
 | []=>rfl
 | g::r=>by
   have ih:=uh r
   cases hr:xu r with
   | nil =>
     rw [hr] at ih
     rw [xu,hr,←ih]
     rfl
   | cons R rs =>
     cases R with
     | nil =>
       rw [hr] at ih
       exfalso
       cases r with
       | nil=>cases hr
       | cons x r =>
         rw [xu] at hr
         split at hr
         ·split at hr <;> cases hr
         ·cases hr
     | cons h R =>
       rw [hr] at ih
       rw [ui hr]
       split
       ·rw [List.flatten_cons,List.cons_append,←ih,List.flatten_cons]
       ·rw [List.flatten_cons,←ih]
        rfl
theorem uf:∀ (g:Gate) (r:List Gate),∃ R rs,xu (g::r)=(g::R)::rs:=by
 intro g r
 rw [xu]
 split
 ·split
  ·exact ⟨_,_,rfl⟩
  ·exact ⟨_,_,rfl⟩
 ·exact ⟨_,_,rfl⟩
theorem zaf:∀ row:List Gate,Walk row→Spl (xu row)
 | [],_=>trivial
 | [g],_=>⟨by simp,by simp⟩
 | g::h::r,⟨w1,w2,w3⟩=>by
   have ih:=zaf (h::r) w3
   obtain ⟨R,rs,e⟩:=uf h r
   rw [ui e]
   rw [e] at ih
   split
   ·rename_i hw
    have u:=w1 hw
    have pw:∀ Q:List Gate,(h::Q).Pairwise Up→(g::h::Q).Pairwise Up:=fun Q hQ=>List.pairwise_cons.mpr ⟨fun x hx=>by
     rcases List.mem_cons.mp hx with rfl | hx
     ·exact u
     ·exact u.trans ((List.pairwise_cons.mp hQ).1 x hx),hQ⟩
    cases rs with
    | nil=>exact ⟨by simp,pw R ih.2⟩
    | cons S rs =>
      obtain ⟨_,i2,i3,i4,i5⟩:=ih
      have el:zH (g::h::R)=zH (h::R):=by
       unfold zH
       rw [List.getLastD_eq_getLast?,List.getLastD_eq_getLast?,List.getLast?_cons_cons]
      exact ⟨by simp,pw R i2,by rw [el]; exact i3,by rw [el]; exact i4,i5⟩
   ·rename_i hw
    exact ⟨by simp,by simp,hw,w2 hw,ih⟩
theorem zap:∀ rs:List (List Gate),Spl rs→zeU rs
 | [],_=>trivial
 | [R],_=>trivial
 | R :: S :: rs,⟨h1,_,_,h4,h5⟩ => ⟨h4,h1,by
     cases rs with
     | nil=>exact h5.1
     | cons _ _=>exact h5.1,zap (S::rs) h5⟩
theorem zb2:∀ {rs:List (List Gate)},Spl rs→∀ R∈rs,R≠[]∧R.Pairwise Up
 | [],_,R,h=>absurd h (by simp)
 | [Q],s,R,h=>by rw [List.mem_singleton.mp h]; exact s
 | Q::S::rs,s,R,h=>by
   rcases List.mem_cons.mp h with rfl | h
   ·exact ⟨s.1,s.2.1⟩
   ·exact zb2 s.2.2.2.2 R h
theorem up_ok {R:List Gate} (h:R.Pairwise Up) (k:∀ g∈R,GateOk g):ziv R:=by
 intro g hg g' hg' hx u v e1 e2
 have:g=g':=by
  by_cases z:g=g'
  ·exact z
  ·exfalso
   have hne:∀ a b:Gate,Up a b→a.x≠b.x:=fun a b ⟨_,h2,h3⟩=>by
    by_cases q:a.w=1
    ·have:=h2 q; lia
    ·have:=h3 q; lia
   have h':R.Pairwise fun a b=>a.x≠b.x:=h.imp fun {a b} q=>hne a b q
   rw [List.pairwise_iff_getElem] at h'
   obtain ⟨i,hi,rfl⟩:=List.getElem_of_mem hg
   obtain ⟨j,hj,rfl⟩:=List.getElem_of_mem hg'
   rcases Nat.lt_trichotomy i j with q | q | q
   ·exact h' i j hi hj q hx
   ·subst q; exact z rfl
   ·exact h' j i hj hi q hx.symm
 subst this
 have:=k g hg u v e1 e2
 lia
theorem zfm {R:List Gate} (hu:R.Pairwise Up):∀ (hR:R≠[]) {r:List Gate},(∀ h∈r.head?,(zH R).w≠h.w)→xu (R++r)=R::xu r:=by
 induction R with
 | nil=>exact fun z=>absurd rfl z
 | cons g R ih =>
   intro _ r hr
   cases R with
   | nil =>
     cases r with
     | nil=>rfl
     | cons h r =>
       obtain ⟨Q,rs,e⟩:=uf h r
       show xu (g::h::r)=_
       rw [ui e,if_neg (show ¬ g.w=h.w from hr h (by simp)),e]
   | cons g' R =>
     have el:zH (g::g'::R)=zH (g'::R):=by
      unfold zH
      rw [List.getLastD_eq_getLast?,List.getLastD_eq_getLast?,List.getLast?_cons_cons]
     rw [el] at hr
     have:=ih (List.pairwise_cons.mp hu).2 (by simp) hr
     have hw:=((List.pairwise_cons.mp hu).1 g' (by simp)).1
     show xu (g::(g'::R++r))=_
     rw [ui this,if_pos hw]
noncomputable def PegOf (row:List Gate) (p:Spot):Prop:=∃ g∈row,p.1=g.x∧(g.lo=some p.2∨g.hi=some p.2)
theorem PegOf.mono {row row':List Gate} {p:Spot} (h:PegOf row p) (k:∀ g∈row,g∈row'):PegOf row' p:=by
 obtain ⟨g,hg,e⟩:=h
 exact ⟨g,k g hg,e⟩
theorem uk {run:List Gate} {a b:Spot} {l:List Spot} (h:Pul run a b l):∃ m,l=m++[b]∧∀ p∈m,PegOf run p:=by
 induction h with
 | stop _=>exact ⟨[],rfl,by simp⟩
 | @split a b p d g l1 l2 hg hb hB _ _ _ _ ih1 ih2 =>
   obtain ⟨m1,rfl,h1⟩:=ih1
   obtain ⟨m2,rfl,h2⟩:=ih2
   refine ⟨m1++[p]++m2,by simp,fun q hq => ?_⟩
   simp only [List.mem_append,List.mem_singleton] at hq
   rcases hq with (hq | rfl) | hq
   ·exact h1 q hq
   ·exact ⟨g,hg,hB.1,hB.2.imp (·.1) (·.1)⟩
   ·exact h2 q hq
theorem zgD {t g:Gate} (h:TurnOk t g):PegOf [t] (zJ t g).1∧PegOf [g] (zJ t g).2:=by
 unfold zJ
 by_cases z:yz t g=true
 ·rw [if_pos z]
  unfold yz at z
  cases a:t.hi with
  | none=>rw [a] at z; cases z
  | some u =>
    cases b:g.lo with
    | none=>rw [a,b] at z; cases z
    | some v=>exact ⟨⟨t,by simp,rfl,.inr (by simpa using a)⟩,⟨g,by simp,h.x,.inl (by simpa using b)⟩⟩
 ·rw [if_neg z]
  rcases h.one with ⟨u,v,e1,e2,l⟩ | ⟨u,v,e1,e2,l⟩
  ·unfold yz at z
   rw [e1,e2] at z
   exact absurd (decide_eq_true l) z
  ·exact ⟨⟨t,by simp,rfl,.inl (by rw [e2]; rfl)⟩,⟨g,by simp,h.x,.inr (by rw [e1]; rfl)⟩⟩
theorem zaE:∀ (rs:List (List Gate)) (s e:Spot) (T:List Spot),zeU rs→Tot s (tU rs e) T→∃ m,T=m++[e]∧∀ p∈m,PegOf rs.flatten p
 | [],s,e,T,_,h=>by
   cases h with
   | cons P t =>
     cases t
     obtain ⟨m,rfl,k⟩:=uk P
     exact ⟨m,by simp,fun p hp=>k p hp⟩
 | [R],s,e,T,_,h=>by
   cases h with
   | cons P t =>
     cases t
     obtain ⟨m,rfl,k⟩:=uk P
     exact ⟨m,by simp,fun p hp=>(k p hp).mono fun g hg=>by simpa using hg⟩
 | R::S::rs,s,e,T,⟨k1,k2,k3,k4⟩,h=>by
   cases h with
   | cons P t =>
     cases t with
     | cons P2 t =>
       obtain ⟨m1,rfl,h1⟩:=uk P
       obtain ⟨m2,rfl,h2⟩:=uk P2
       obtain ⟨m3,rfl,h3⟩:=zaE (S::rs) _ e _ k4 t
       obtain ⟨q1,q2⟩:=zgD k1
       have lm:zH R∈R:=by
        unfold zH
        rw [List.getLastD_eq_getLast?,List.getLast?_eq_some_getLast k2]
        exact List.getLast_mem k2
       have hm:vR S∈S:=by
        cases S with
        | nil=>exact absurd rfl k3
        | cons z r=>exact List.mem_cons_self
       refine ⟨m1++[(zJ (zH R) (vR S)).1]++m2++[(zJ (zH R) (vR S)).2]++m3,by simp,fun p hp => ?_⟩
       simp only [List.mem_append,List.mem_singleton] at hp
       rcases hp with (((hp | rfl) | hp) | rfl) | hp
       ·exact (h1 p hp).mono fun g hg=>List.mem_flatten.mpr ⟨R,by simp,hg⟩
       ·exact q1.mono fun g hg=>by rw [List.mem_singleton.mp hg]; exact List.mem_flatten.mpr ⟨R,by simp,lm⟩
       ·obtain ⟨g,hg,_⟩:=h2 p hp
        simp at hg
       ·exact q2.mono fun g hg=>by rw [List.mem_singleton.mp hg]; exact List.mem_flatten.mpr ⟨S,by simp,hm⟩
       ·exact (h3 p hp).mono fun g hg=>by
         obtain ⟨Q,hQ,hg⟩:=List.mem_flatten.mp hg
         exact List.mem_flatten.mpr ⟨Q,by simp [List.mem_cons.mp hQ],hg⟩
noncomputable def vO (k:List Spot) (p:Spot):List Spot:=match k.getLast? with
 | some t=>if t=p then k else k++[p]
 | none=>k++[p]
theorem uO:∀ (l k:List Spot) (a:Spot),l.foldl vO (k++[a])=k++unr (a::l)
 | [],k,a=>by rw [wc]; rfl
 | p::l,k,a=>by
   have e:vO (k++[a]) p=if a=p then k++[a] else k++[a]++[p]:=by
    unfold vO
    rw [List.getLast?_concat]
   rw [List.foldl_cons,e]
   by_cases z:a=p
   ·subst z
    rw [if_pos rfl,uO l k a,yU]
   ·rw [if_neg z,uO l (k++[a]) p,wl l (fun q=>z q.symm),List.append_assoc]
    rfl
theorem zam (l:List Spot):l.foldl vO []=unr l:=by
 cases l with
 | nil=>rw [unr]; rfl
 | cons a l=>exact uO l [] a
theorem zd0:∀ (l:List Spot) (a p:Spot),p∈unr (a::l)→p∈a::l
 | [],a,p,h=>by rw [wc] at h; exact h
 | b::l,a,p,h=>by
   by_cases z:b=a
   ·subst z
    rw [yU] at h
    exact List.mem_cons_of_mem _ (zd0 l b p h)
   ·rw [wl l z] at h
    rcases List.mem_cons.mp h with rfl | h
    ·simp
    ·exact List.mem_cons_of_mem _ (zd0 l b p h)
theorem zcV {l:List Spot} {p:Spot} (h:p∈l.foldl vO []):p∈l:=by
 rw [zam] at h
 cases l with
 | nil=>rw [unr] at h; exact h
 | cons a l=>exact zd0 l a p h
theorem zd1:∀ (l:List Spot) (a:Spot),(unr (a::l)).length≤l.length+1
 | [],a=>by rw [wc]; simp
 | b::l,a=>by
   by_cases z:b=a
   ·subst z
    rw [yU]
    have:=zd1 l b
    simp only [List.length_cons]
    lia
   ·rw [wl l z]
    have:=zd1 l b
    simp only [List.length_cons]
    lia
theorem zjo (l:List Spot):(l.foldl vO []).length≤l.length:=by
 rw [zam]
 cases l with
 | nil=>rw [unr]; simp
 | cons a l=>exact zd1 l a
theorem zgu {s e:Spot} {m:List Spot} (h1:∀ p∈m,p≠s) (h2:∀ p∈m,p≠e):xf (s::(m.foldl vO []++[e]))=bnd none s (m++[e]):=by
 rw [zfW,zam]
 cases m with
 | nil =>
   have e0:unr []=[]:=by rw [unr]
   rw [e0]
   show xf [s,e]=xf (unr [s,e])
   by_cases z:e=s
   ·subst z
    rw [yU,wc]
    rfl
   ·rw [wl _ z,wc]
 | cons p r =>
   rw [List.cons_append,wl _ (h1 p (by simp))]
   have hne:p::r≠[]:=by simp
   obtain ⟨q,z,hq⟩:∃ q z,p::r=q++[z]:=⟨(p::r).dropLast,(p::r).getLast hne,(List.dropLast_concat_getLast hne).symm⟩
   have e1:p::(r++[e])=q++[z,e]:=by
    rw [←List.cons_append,hq,List.append_assoc]
    rfl
   have hz:e≠z:=fun w=>h2 z (by rw [hq]; simp) w.symm
   rw [e1,zab,if_neg hz,hq]
noncomputable def yW:List Spot→List (Spot×Spot×Spot)
 | o::m::n::r=>(o,m,n)::yW (m::n::r)
 | _=>[]
theorem zdr:∀ l:List Spot,xf l=(yW l).filterMap fun t=>if straight t.1 t.2.1 t.2.2=true then none else some t.2.1
 | []=>rfl
 | [_]=>rfl
 | [_,_]=>rfl
 | o::m::n::r=>by
   rw [xf,yW,List.filterMap_cons,zdr (m::n::r)]
   cases straight o m n <;> rfl
theorem zgG:∀ {l:List Spot} {t:Spot×Spot×Spot},t∈yW l→t.1∈l∧t.2.1∈l∧t.2.2∈l
 | [],_,h=>by simp [yW] at h
 | [_],_,h=>by simp [yW] at h
 | [_,_],_,h=>by simp [yW] at h
 | o::m::n::r,t,h=>by
   rcases List.mem_cons.mp h with rfl | h
   ·simp
   ·obtain ⟨a,b,c⟩:=zgG h
    exact ⟨List.mem_cons_of_mem _ a,List.mem_cons_of_mem _ b,List.mem_cons_of_mem _ c⟩
theorem zaL:∀ l:List Spot,(xf l).length≤l.length
 | []=>Nat.le_refl _
 | [_]=>by simp [xf]
 | [_,_]=>by simp [xf]
 | o::m::n::r=>by
   rw [xf,List.length_append]
   have:=zaL (m::n::r)
   simp only [List.length_cons] at this ⊢
   split <;> simp <;> lia
theorem zfy:∀ {l xs:List Int},l.Nodup→(∀ x∈l,x∈xs)→l.length≤xs.length
 | [],xs,_,_=>Nat.zero_le _
 | a::l,xs,h,k=>by
   have ha:=k a (by simp)
   obtain ⟨h1,h2⟩:=List.nodup_cons.mp h
   have:=zfy (l:=l) (xs:=xs.erase a) h2 (fun x hx=>(List.mem_erase_of_ne (show x≠a from fun e=>h1 (by rw [←e]; exact hx))).mpr (k x (by simp [hx])))
   rw [List.length_erase_of_mem ha] at this
   have:=List.length_pos_of_mem ha
   simp only [List.length_cons]
   lia
theorem zjP {R:List Gate} {xs:List Int} (h:R.Pairwise Up) (k:∀ g∈R,g.x∈xs):R.length≤xs.length:=by
 rw [←List.length_map (f:=Gate.x)]
 refine zfy ?_ fun x hx => ?_
 ·rw [List.Nodup,List.pairwise_map]
  refine h.imp fun {a b} u => ?_
  obtain ⟨_,u1,u2⟩:=u
  by_cases z:a.w=1
  ·have:=u1 z; lia
  ·have:=u2 z; lia
 ·obtain ⟨g,hg,rfl⟩:=List.mem_map.mp hx
  exact k g hg
noncomputable def uL (l:Int×List Int) (g:Gate):Prop:=g.x=l.1∧∃ k,k≤l.2.length∧g.lo=(if k=0 then none else l.2[k - 1]?)∧g.hi=l.2[k]?
noncomputable def tF (B:List (Int×List Int)) (h:Int) (g:Gate):Prop:=∃ l,uL l g∧∃ i:Nat,B[i]?=some l∧((g.w=1∧(i:Int)=h)∨(g.w = -1∧(i:Int)=h - 1))
noncomputable def PathB (B:List (Int×List Int)):Int→List Gate→Prop
 | _,[]=>True
 | h,g::gs=>tF B h g∧PathB B (h+g.w) gs
noncomputable def Red:List Gate→Prop
 | t::g::r=>g≠negG t∧Red (g::r)
 | _=>True
structure BoardOk (B:List (Int×List Int)):Prop where
 up:B.Pairwise fun a b=>a.1<b.1
 hs:∀ l∈B,l.2.Pairwise (· < ·)
theorem zav {α:Type} {R:α→α→Prop} {l:List α} (h:l.Pairwise R) {i j:Nat} {a b:α} (ha:l[i]?=some a) (hb:l[j]?=some b) (hij:i<j):R a b:=by
 obtain ⟨h1,rfl⟩:=List.getElem?_eq_some_iff.mp ha
 obtain ⟨h2,rfl⟩:=List.getElem?_eq_some_iff.mp hb
 exact List.pairwise_iff_getElem.mp h i j h1 h2 hij
theorem uL.ok {l:Int×List Int} {g:Gate} (h:uL l g) (s:l.2.Pairwise (· < ·)):GateOk g:=by
 obtain ⟨_,k,hk,e1,e2⟩:=h
 intro u v h1 h2
 rw [e1] at h1
 rw [e2] at h2
 by_cases z:k=0
 ·rw [if_pos z] at h1; cases h1
 ·rw [if_neg z] at h1
  exact zav s h1 h2 (by lia)
theorem uL.turn {l:Int×List Int} {t g:Gate} (h:uL l t) (h':uL l g) (s:l.2.Pairwise (· < ·)) (hw:t.w≠g.w) (w1:t.w=1∨t.w = -1) (w2:g.w=1∨g.w = -1) (n:g≠negG t):TurnOk t g:=by
 refine ⟨h.1.trans h'.1.symm,?_,h.ok s,h'.ok s⟩
 obtain ⟨x1,k,hk,e1,e2⟩:=h
 obtain ⟨x2,j,hj,f1,f2⟩:=h'
 have hkj:k≠j:=fun z=>n (by
  subst z
  obtain ⟨a,b,c,d⟩:=t
  obtain ⟨a',b',c',d'⟩:=g
  simp only [negG,Gate.mk.injEq] at *
  refine ⟨x2.trans x1.symm,f1.trans e1.symm,f2.trans e2.symm,?_⟩
  lia)
 have le:∀ {i j:Nat} {u v:Int},l.2[i]?=some u→l.2[j]?=some v→i≤j→u≤v:=fun {i j u v} a b hij=>by
  rcases Nat.lt_or_eq_of_le hij with q | q
  ·exact Int.le_of_lt (zav s a b q)
  ·subst q; rw [a] at b; cases b; exact Int.le_refl _
 rcases Nat.lt_or_gt_of_ne hkj with q | q
 ·left
  have a:k<l.2.length:=by lia
  have b:j - 1<l.2.length:=by lia
  refine ⟨l.2[k],l.2[j - 1],by rw [e2,List.getElem?_eq_getElem a],by rw [f1,if_neg (by lia),List.getElem?_eq_getElem b],?_⟩
  exact le (List.getElem?_eq_getElem a) (List.getElem?_eq_getElem b) (by lia)
 ·right
  have a:j<l.2.length:=by lia
  have b:k - 1<l.2.length:=by lia
  refine ⟨l.2[j],l.2[k - 1],by rw [f2,List.getElem?_eq_getElem a],by rw [e1,if_neg (by lia),List.getElem?_eq_getElem b],?_⟩
  exact le (List.getElem?_eq_getElem a) (List.getElem?_eq_getElem b) (by lia)
theorem tF.way {B:List (Int×List Int)} {h:Int} {g:Gate} (s:tF B h g):g.w=1∨g.w = -1:=by
 obtain ⟨l,_,i,_,k⟩:=s
 exact k.imp (·.1) (·.1)
theorem tF.ok {B:List (Int×List Int)} (ok:BoardOk B) {h:Int} {g:Gate} (s:tF B h g):GateOk g:=by
 obtain ⟨l,q,i,e,_⟩:=s
 exact q.ok (ok.hs l (List.mem_of_getElem? e))
theorem zgK {B:List (Int×List Int)} (ok:BoardOk B) {h:Int} {t g:Gate} (s:tF B h t) (s':tF B (h+t.w) g) (n:g≠negG t):(t.w=g.w→Up t g)∧(t.w≠g.w→TurnOk t g):=by
 have w1:=s.way
 have w2:=s'.way
 obtain ⟨l,q,i,e,k⟩:=s
 obtain ⟨l',q',i',e',k'⟩:=s'
 refine ⟨fun z => ?_,fun z => ?_⟩
 ·refine ⟨z,fun w => ?_,fun w => ?_⟩
  ·rw [q.1,q'.1]
   exact zav ok.up e e' (by lia)
  ·rw [q.1,q'.1]
   exact zav ok.up e' e (by lia)
 ·have hi:i=i':=by lia
  subst hi
  rw [e] at e'
  cases e'
  exact q.turn q' (ok.hs l (List.mem_of_getElem? e)) z w1 w2 n
theorem zbY {B:List (Int×List Int)} (ok:BoardOk B):∀ (gs:List Gate) (h:Int),PathB B h gs→Red gs→Walk gs
 | [],_,_,_=>trivial
 | [_],_,_,_=>trivial
 | t::g::r,h,⟨p1,p2,p3⟩,⟨r1,r2⟩=>by
   obtain ⟨a,b⟩:=zgK ok p1 p2 r1
   exact ⟨a,b,zbY ok (g::r) (h+t.w) ⟨p2,p3⟩ r2⟩
noncomputable def sumG:List Gate→Int
 | []=>0
 | g::gs=>g.w+sumG gs
theorem vZ (g:Gate):∀ gs:List Gate,sumG (gs++[g])=sumG gs+g.w
 | []=>by simp [sumG]
 | t::gs=>by
   have:=vZ g gs
   simp only [List.cons_append,sumG,this]
   lia
theorem um {B:List (Int×List Int)} {g:Gate}:∀ {gs:List Gate} {h:Int},PathB B h (gs++[g])↔PathB B h gs∧tF B (h+sumG gs) g
 | [],h=>by simp [PathB,sumG]
 | t::gs,h=>by
   have:=um (B:=B) (g:=g) (gs:=gs) (h:=h+t.w)
   simp only [List.cons_append,PathB,this,sumG,Int.add_assoc,and_assoc]
theorem zcc {B:List (Int×List Int)} {g:Gate}:∀ {gs:List Gate} {h:Int},PathB B h gs→g∈gs→∃ h',tF B h' g
 | t::gs,h,⟨p1,p2⟩,hg=>by
   rcases List.mem_cons.mp hg with rfl | hg
   ·exact ⟨h,p1⟩
   ·exact zcc p2 hg
theorem zfo {t g:Gate} (n:g≠negG t):∀ {gs:List Gate},Red (gs++[t])→Red (gs++[t]++[g])
 | [],_=>⟨n,trivial⟩
 | [a],h=>⟨h.1,n,trivial⟩
 | a::b::gs,h=>⟨h.1,zfo (gs:=b::gs) n h.2⟩
theorem zfp {t:Gate}:∀ {gs:List Gate},Red (gs++[t])→Red gs
 | [],_=>trivial
 | [a],_=>trivial
 | a::b::gs,h=>⟨h.1,zfp (gs:=b::gs) h.2⟩
noncomputable def zb8 (st:List Gate) (g:Gate):List Gate:=match st.getLast? with
 | some t=>if t=negG g then st.dropLast else st++[g]
 | none=>st++[g]
theorem zht (g:Gate):negG (negG g)=g:=by
 obtain ⟨a,b,c,d⟩:=g
 simp [negG]
theorem ziQ {B:List (Int×List Int)} {h:Int} {st:List Gate} {g:Gate} (p:PathB B h st) (r:Red st) (s:tF B (h+sumG st) g):PathB B h (zb8 st g)∧Red (zb8 st g)∧h+sumG (zb8 st g)=h+sumG st+g.w∧(zb8 st g).length≤st.length+1:=by
 unfold zb8
 cases q:st.getLast? with
 | none =>
   have:st=[]:=List.getLast?_eq_none_iff.mp q
   subst this
   refine ⟨⟨by simpa [sumG] using s,trivial⟩,trivial,by simp [sumG],by simp⟩
 | some t =>
   have hne:st≠[]:=fun z=>by subst z; cases q
   obtain ⟨m,rfl⟩:∃ m,st=m++[t]:=by
    refine ⟨st.dropLast,?_⟩
    have:=List.dropLast_concat_getLast hne
    rw [List.getLast?_eq_some_getLast hne] at q
    cases q
    exact this.symm
   simp only [List.dropLast_concat]
   by_cases z:t=negG g
   ·rw [if_pos z]
    refine ⟨(um.mp p).1,zfp r,?_,by simp; lia⟩
    rw [vZ]
    have:t.w = -g.w:=by rw [z]; rfl
    lia
   ·rw [if_neg z]
    refine ⟨um.mpr ⟨p,s⟩,zfo (fun w=>z (by rw [w,zht])) r,by rw [vZ]; lia,by simp⟩
theorem ziH:∀ {gs:List Gate},(∀ g∈gs,g.w=1∨g.w = -1)→Walk gs→Walk (gs.map mirG)
 | [],_,_=>trivial
 | [_],_,_=>trivial
 | t::g::r,w,⟨a,b,c⟩=>by
   have w1:=w t (by simp)
   have w2:=w g (by simp)
   refine ⟨fun z => ?_,fun z => ?_,ziH (gs:=g::r) (fun x hx=>w x (List.mem_cons_of_mem _ hx)) c⟩
   ·have z':t.w=g.w:=by simp only [mirG] at z; lia
    obtain ⟨_,u1,u2⟩:=a z'
    refine ⟨z,fun q => ?_,fun q => ?_⟩
    ·simp only [mirG] at q ⊢
     have:=u2 (by lia)
     lia
    ·simp only [mirG] at q ⊢
     have:=u1 (by lia)
     lia
   ·have z':t.w≠g.w:=by simp only [mirG] at z; lia
    have T:=b z'
    exact ⟨by simp only [mirG,T.x],T.one,T.tw,T.gw⟩
noncomputable def SD (u v:Int×Int):Prop:=∃ a b:Int,0<a∧0<b∧a*u.1=b*v.1∧a*u.2=b*v.2
noncomputable def vec (p q:Spot):Int×Int:=(q.1 - p.1,q.2 - p.2)
theorem SD.refl (u:Int×Int):SD u u:=⟨1,1,by omega,by omega,rfl,rfl⟩
theorem SD.symm {u v:Int×Int} (h:SD u v):SD v u:=by
 obtain ⟨a,b,ha,hb,e1,e2⟩:=h
 exact ⟨b,a,hb,ha,e1.symm,e2.symm⟩
theorem SD.trans {u v w:Int×Int} (h:SD u v) (k:SD v w):SD u w:=by
 obtain ⟨a,b,ha,hb,e1,e2⟩:=h
 obtain ⟨c,d,hc,hd,f1,f2⟩:=k
 refine ⟨c*a,b*d,Int.mul_pos hc ha,Int.mul_pos hb hd,?_,?_⟩
 ·calc c*a*u.1=c*(a*u.1):=by rw [Int.mul_assoc]
   _=c*(b*v.1):=by rw [e1]
   _=b*(c*v.1):=by rw [←Int.mul_assoc,Int.mul_comm c b,Int.mul_assoc]
   _=b*d*w.1:=by rw [f1,Int.mul_assoc]
 ·calc c*a*u.2=c*(a*u.2):=by rw [Int.mul_assoc]
   _=c*(b*v.2):=by rw [e2]
   _=b*(c*v.2):=by rw [←Int.mul_assoc,Int.mul_comm c b,Int.mul_assoc]
   _=b*d*w.2:=by rw [f2,Int.mul_assoc]
theorem SD.add {p z n:Spot} (h:SD (vec p z) (vec z n)):SD (vec p n) (vec z n):=by
 obtain ⟨a,b,ha,hb,e1,e2⟩:=h
 simp only [vec] at e1 e2
 refine ⟨a,a+b,ha,by omega,?_,?_⟩
 ·simp only [vec]
  calc a*(n.1 - p.1)=a*(n.1 - z.1)+a*(z.1 - p.1):=by rw [←Int.mul_add]; congr 1; omega
   _=(a+b)*(n.1 - z.1):=by rw [e1,Int.add_mul]
 ·simp only [vec]
  calc a*(n.2 - p.2)=a*(n.2 - z.2)+a*(z.2 - p.2):=by rw [←Int.mul_add]; congr 1; omega
   _=(a+b)*(n.2 - z.2):=by rw [e2,Int.add_mul]
noncomputable def crs (u v:Int×Int):Int:=u.1*v.2 - u.2*v.1
noncomputable def dot (u v:Int×Int):Int:=u.1*v.1+u.2*v.2
noncomputable def tn (o z n:Spot):Int:=crs (vec o z) (vec z n)
theorem x8 {o z n:Spot}:straight o z n=true↔crs (vec o z) (vec z n)=0∧0<dot (vec o z) (vec z n):=by
 rw [yl]
 simp only [crs,dot,vec]
 constructor <;> rintro ⟨a,b⟩ <;> exact ⟨by omega,b⟩
theorem uQ {x:Int} (h:x*x=0):x=0:=by
 rcases Int.mul_eq_zero.mp h with h | h <;> exact h
theorem sd_of {u v:Int×Int} (c:crs u v=0) (d:0<dot u v):SD u v:=by
 obtain ⟨u1,u2⟩:=u
 obtain ⟨v1,v2⟩:=v
 simp only [crs,dot] at c d
 have hu:0<u1*u1+u2*u2:=by
  have h1:=xM u1
  have h2:=xM u2
  rcases Int.lt_or_eq_of_le (Int.add_nonneg h1 h2) with h | h
  ·exact h
  ·exfalso
   have z1:u1*u1=0:=by omega
   have z2:u2*u2=0:=by omega
   have z1:=uQ z1
   have z2:=uQ z2
   subst z1 z2
   simp at d
 refine ⟨u1*v1+u2*v2,u1*u1+u2*u2,d,hu,?_,?_⟩
 ·simp only
  grind
 ·simp only
  grind
theorem SD.crs_l {u v:Int×Int} (h:SD u v) (w:Int×Int):(0<crs u w↔0<crs v w)∧(crs u w<0↔crs v w<0):=by
 obtain ⟨a,b,ha,hb,e1,e2⟩:=h
 have e:a*crs u w=b*crs v w:=by
  simp only [crs]
  rw [Int.mul_sub,Int.mul_sub,←Int.mul_assoc,←Int.mul_assoc,←Int.mul_assoc,←Int.mul_assoc,e1,e2]
 refine ⟨?_,?_⟩
 ·rw [←zQ ha,e,zQ hb]
 ·have h1:crs u w<0↔0<a * -crs u w:=by rw [zQ ha]; omega
  have h2:crs v w<0↔0<b * -crs v w:=by rw [zQ hb]; omega
  rw [h1,h2,Int.mul_neg,Int.mul_neg,e]
theorem SD.dot_l {u v:Int×Int} (h:SD u v) (w:Int×Int):dot u w<0↔dot v w<0:=by
 obtain ⟨a,b,ha,hb,e1,e2⟩:=h
 have e:a*dot u w=b*dot v w:=by
  simp only [dot]
  rw [Int.mul_add,Int.mul_add,←Int.mul_assoc,←Int.mul_assoc,←Int.mul_assoc,←Int.mul_assoc,e1,e2]
 have h1:dot u w<0↔0<a * -dot u w:=by rw [zQ ha]; omega
 have h2:dot v w<0↔0<b * -dot v w:=by rw [zQ hb]; omega
 rw [h1,h2,Int.mul_neg,Int.mul_neg,e]
theorem zfU (u v:Int×Int):crs u v = -crs v u:=by simp only [crs]; grind
theorem zfR (u v:Int×Int):dot u v=dot v u:=by simp only [dot]; grind
theorem SD.crs_r {u v:Int×Int} (h:SD u v) (w:Int×Int):(0<crs w u↔0<crs w v)∧(crs w u<0↔crs w v<0):=by
 have:=h.crs_l w
 rw [zfU w u,zfU w v]
 omega
theorem SD.dot_r {u v:Int×Int} (h:SD u v) (w:Int×Int):dot w u<0↔dot w v<0:=by
 rw [zfR w u,zfR w v]
 exact h.dot_l w
theorem SD.sg {u v:Int×Int} (h:SD u v):(0<u.1↔0<v.1)∧(u.1<0↔v.1<0)∧(0<u.2↔0<v.2)∧(u.2<0↔v.2<0):=by
 obtain ⟨a,b,ha,hb,e1,e2⟩:=h
 have f:∀ {x y:Int},a*x=b*y→(0<x↔0<y)∧(x<0↔y<0):=fun {x y} e=>by
  refine ⟨by rw [←zQ ha,e,zQ hb],?_⟩
  have h1:x<0↔0<a * -x:=by rw [zQ ha]; omega
  have h2:y<0↔0<b * -y:=by rw [zQ hb]; omega
  rw [h1,h2,Int.mul_neg,Int.mul_neg,e]
 exact ⟨(f e1).1,(f e1).2,(f e2).1,(f e2).2⟩
noncomputable def Wi (g:Gate) (y:Int):Prop:=(∀ l,g.lo=some l→l≤y)∧∀ h,g.hi=some h→y≤h
noncomputable def Cr (p z:Spot) (g:Gate):Prop:=bw p z g.x∧(∀ y,g.lo=some y→xc p z (g.x,y)≤0)∧∀ y,g.hi=some y→0≤xc p z (g.x,y)
noncomputable def hand (p:Spot) (g:Gate):Int:=if g.x≠p.1 then 0 else if g.hi=some p.2 then g.w else if g.lo=some p.2 then -g.w else 0
structure BendOk (o z n:Spot) (V:List Gate):Prop where
 ne:V≠[]
 h:∃ t:Int,(t=1∨t = -1)∧(∀ g∈V,hand z g=t)∧(V.length=1→0<tn o z n*t∨(tn o z n=0∧o.1=z.1∧∀ g∈V,if g.lo=some z.2 then 0<z.2 - o.2 else 0<o.2 - z.2))
 back:tn o z n=0→dot (vec o z) (vec z n)<0
theorem zmK {x t:Int} (ht:t=1∨t = -1):0<x*t↔(t=1∧0<x)∨(t = -1∧x<0):=by
 rcases ht with rfl | rfl <;> omega
theorem zdY {a b:Int} (p:0<a↔0<b) (n:a<0↔b<0) (h:a=0):b=0:=by omega
theorem BendOk.dir {o z n p m:Spot} {V:List Gate} (b:BendOk o z n V) (h1:SD (vec o z) (vec p z)) (h2:SD (vec z n) (vec z m)):BendOk p z m V:=by
 have pos:0<tn o z n↔0<tn p z m:=(h1.crs_l (vec z n)).1.trans (h2.crs_r (vec p z)).1
 have neg:tn o z n<0↔tn p z m<0:=(h1.crs_l (vec z n)).2.trans (h2.crs_r (vec p z)).2
 obtain ⟨s1,s2,s3,s4⟩:=h1.sg
 have s1:0<z.1 - o.1↔0<z.1 - p.1:=s1
 have s2:z.1 - o.1<0↔z.1 - p.1<0:=s2
 have s3:0<z.2 - o.2↔0<z.2 - p.2:=s3
 have s4:z.2 - o.2<0↔z.2 - p.2<0:=s4
 obtain ⟨ne,⟨t,ht,hh,one⟩,back⟩:=b
 refine ⟨ne,⟨t,ht,hh,fun l => ?_⟩,fun e=>(h2.dot_r _).mp ((h1.dot_l _).mp (back (zdY pos.symm neg.symm e)))⟩
 rcases one l with k | ⟨k1,k2,k3⟩
 ·left
  rw [zmK ht] at k ⊢
  exact k.imp (fun q=>⟨q.1,pos.mp q.2⟩) fun q=>⟨q.1,neg.mp q.2⟩
 ·right
  refine ⟨zdY pos neg k1,?_,fun g hg => ?_⟩
  ·have:=zdY s1 s2 (show z.1 - o.1=0 by rw [k2,Int.sub_self])
   exact (Int.eq_of_sub_eq_zero this).symm
  ·have:=k3 g hg
   split
   ·rename_i q
    rw [if_pos q] at this
    exact s3.mp this
   ·rename_i q
    rw [if_neg q] at this
    have:=s4.mp (by clear s1 s2 s3 s4 pos neg; omega)
    clear s1 s2 s3 s4 pos neg
    omega
theorem zlK {o z n:Spot} (h1:o≠z) (h2:n≠z) (s:¬ straight o z n=true):tn o z n=0→dot (vec o z) (vec z n)<0:=by
 intro c
 rcases Int.lt_trichotomy (dot (vec o z) (vec z n)) 0 with d | d | d
 ·exact d
 ·exfalso
  unfold tn at c
  obtain ⟨o1,o2⟩:=o
  obtain ⟨z1,z2⟩:=z
  obtain ⟨n1,n2⟩:=n
  simp only [crs,dot,vec] at c d
  have key:((z1 - o1)*(z1 - o1)+(z2 - o2)*(z2 - o2))*((n1 - z1)*(n1 - z1)+(n2 - z2)*(n2 - z2))=0:=by grind
  rcases Int.mul_eq_zero.mp key with k | k
  ·have a1:=xM (z1 - o1)
   have a2:=xM (z2 - o2)
   have b1:=uQ (show (z1 - o1)*(z1 - o1)=0 by omega)
   have b2:=uQ (show (z2 - o2)*(z2 - o2)=0 by omega)
   exact h1 (Prod.ext (by show o1=z1; omega) (by show o2=z2; omega))
  ·have a1:=xM (n1 - z1)
   have a2:=xM (n2 - z2)
   have b1:=uQ (show (n1 - z1)*(n1 - z1)=0 by omega)
   have b2:=uQ (show (n2 - z2)*(n2 - z2)=0 by omega)
   exact h2 (Prod.ext (by show n1=z1; omega) (by show n2=z2; omega))
 ·exact absurd (x8.mpr ⟨c,d⟩) s
noncomputable def nearE (s:Int) (g:Gate):Option Int:=if s=1 then g.lo else g.hi
noncomputable def VS (s x zy:Int):Int→Bool→List Gate→Prop
 | _,_,[]=>True
 | b,st,g::r=>∃ y,g.x=x∧Wi g y∧s*y<s*zy∧s*b≤s*y∧(nearE s g=some y∨(y=b∧st=false))∧(st=true→s*b<s*y)∧VS s x zy y false r
structure Upr (p:Spot) (E:List Gate) (z:Spot) (V:List Gate) (s:Int):Prop where
 x:p.1=z.1
 s1:s=1∨s = -1
 up:s*p.2<s*z.2
 vs:VS s p.1 z.2 p.2 true E
 fst:∃ g r,V=g::r∧nearE s g=some z.2
structure Slp (p:Spot) (E:List Gate) (z:Spot):Prop where
 x:p.1≠z.1
 cr:∀ g∈E,Cr p z g
 pw:E.Pairwise fun g h=>0≤(h.x - g.x)*(z.1 - p.1)
structure EdgeOk (p:Spot) (E:List Gate) (z:Spot) (V:List Gate):Prop where
 at_z:∀ g∈V,g.x=z.1∧Wi g z.2
 e:Slp p E z∨∃ s,Upr p E z V s
theorem EdgeOk.ne {p z:Spot} {E V:List Gate} (h:EdgeOk p E z V):p≠z:=by
 intro q
 subst q
 rcases h.e with k | ⟨s,k⟩
 ·exact k.x rfl
 ·have:=k.up; omega
theorem zgw {s x zy y:Int} (h:s*y<s*zy):∀ (V:List Gate),(∀ g∈V,g.x=x∧Wi g y)→VS s x zy y false V
 | [],_=>trivial
 | g::r,k=>⟨y,(k g (by simp)).1,(k g (by simp)).2,h,Int.le_refl _,.inr ⟨rfl,rfl⟩,(fun z=>nomatch z),zgw h r fun t ht=>k t (by simp [ht])⟩
theorem zjO {s x y zy:Int} (h:s*y<s*zy) {V:List Gate} (k:∀ g∈V,g.x=x∧Wi g y) (f:∃ g r,V=g::r∧nearE s g=some y):∀ (E:List Gate) (b:Int) (st:Bool),VS s x y b st E→s*b≤s*y→(st=true→s*b<s*y)→VS s x zy b st (E++V)
 | [],b,st,_,hb,hst=>by
   obtain ⟨g,r,rfl,e⟩:=f
   exact ⟨y,(k g (by simp)).1,(k g (by simp)).2,h,hb,.inl e,hst,zgw h r fun t ht=>k t (by simp [ht])⟩
 | g::E,b,st,⟨y',h1,h2,h3,h4,h5,h6,h7⟩,hb,hst=>⟨y',h1,h2,by omega,h4,h5,h6,zjO h k f E y' false h7 (by omega) (fun z=>nomatch z)⟩
theorem zhG {a b:Int} (p:0<a↔0<b) (n:a<0↔b<0):(a≤0↔b≤0)∧(0≤a↔0≤b)∧(-a≤0 ↔ -b≤0)∧(0 ≤ -a↔0 ≤ -b):=by omega
theorem vm {p z q r:Spot} (h:SD (vec p z) (vec q r)) (c:crs (vec p z) (vec q p)=0) (g:Spot):(xc p z g≤0↔xc q r g≤0)∧(0≤xc p z g↔0≤xc q r g):=by
 have e1:xi p z g=crs (vec p z) (vec p g):=rfl
 have e2:xi q r g=crs (vec q r) (vec q g):=rfl
 have e3:crs (vec p z) (vec q g)=crs (vec p z) (vec p g):=by
  simp only [crs,vec] at c ⊢
  grind
 have k:=h.crs_l (vec q g)
 rw [e3,←e1,←e2] at k
 obtain ⟨l1,l2,l3,l4⟩:=zhG k.1 k.2
 have s1:0<z.1 - p.1↔0<r.1 - q.1:=h.sg.1
 unfold xc
 by_cases w:0<z.1 - p.1
 ·rw [if_pos w,if_pos (s1.mp w)]
  exact ⟨l1,l2⟩
 ·rw [if_neg w,if_neg fun q=>w (s1.mpr q)]
  exact ⟨l3,l4⟩
theorem zgM {p z:Spot} (y:Int):(y≤z.2→xc p z (z.1,y)≤0)∧(z.2≤y→0≤xc p z (z.1,y)):=by
 have key:xi p z (z.1,y)=(z.1 - p.1)*(y - z.2):=by
  unfold xi
  simp only
  grind
 unfold xc
 rw [key]
 refine ⟨fun h => ?_,fun h => ?_⟩
 ·by_cases q:0<z.1 - p.1
  ·rw [if_pos q]
   have:=Int.mul_nonneg (Int.le_of_lt q) (show 0≤z.2 - y by omega)
   have e:(z.1 - p.1)*(y - z.2) = -((z.1 - p.1)*(z.2 - y)):=by grind
   rw [e]
   exact Int.neg_nonpos_of_nonneg this
  ·rw [if_neg q]
   have:=Int.mul_nonneg (show 0≤p.1 - z.1 by omega) (show 0≤z.2 - y by omega)
   have e : -((z.1 - p.1)*(y - z.2)) = -((p.1 - z.1)*(z.2 - y)):=by grind
   rw [e]
   exact Int.neg_nonpos_of_nonneg this
 ·by_cases q:0<z.1 - p.1
  ·rw [if_pos q]
   exact Int.mul_nonneg (Int.le_of_lt q) (by omega)
  ·rw [if_neg q]
   have:=Int.mul_nonneg (show 0≤p.1 - z.1 by omega) (show 0≤y - z.2 by omega)
   have e : -((z.1 - p.1)*(y - z.2))=(p.1 - z.1)*(y - z.2):=by grind
   rw [e]
   exact this
theorem zly {p z n:Spot} (d:SD (vec p z) (vec z n)) (x:p.1≠z.1):(p.1<z.1∧z.1<n.1)∨(n.1<z.1∧z.1<p.1):=by
 obtain ⟨s1,s2,_⟩:=d.sg
 rcases Int.lt_or_gt_of_ne x with q | q
 ·exact .inl ⟨q,Int.lt_of_sub_pos (s1.mp (Int.sub_pos_of_lt q))⟩
 ·exact .inr ⟨Int.lt_of_sub_neg (s2.mp (Int.sub_neg_of_lt q)),q⟩
theorem bw_l {p z n:Spot} {x:Int} (d:(p.1<z.1∧z.1<n.1)∨(n.1<z.1∧z.1<p.1)):(bw p z x→bw p n x)∧(bw z n x→bw p n x)∧bw p n z.1:=by
 rcases d with ⟨d1,d2⟩ | ⟨d1,d2⟩
 ·refine ⟨fun h => ?_,fun h => ?_,.inl ⟨d1,d2⟩⟩
  ·rcases h with ⟨a,b⟩ | ⟨a,b⟩
   ·exact .inl ⟨a,Int.lt_trans b d2⟩
   ·exact absurd (Int.lt_trans b (Int.lt_trans d1 a)) (Int.lt_irrefl _)
  ·rcases h with ⟨a,b⟩ | ⟨a,b⟩
   ·exact .inl ⟨Int.lt_trans d1 a,b⟩
   ·exact absurd (Int.lt_trans b (Int.lt_trans d2 a)) (Int.lt_irrefl _)
 ·refine ⟨fun h => ?_,fun h => ?_,.inr ⟨d1,d2⟩⟩
  ·rcases h with ⟨a,b⟩ | ⟨a,b⟩
   ·exact absurd (Int.lt_trans b (Int.lt_trans d2 a)) (Int.lt_irrefl _)
   ·exact .inr ⟨Int.lt_trans d1 a,b⟩
  ·rcases h with ⟨a,b⟩ | ⟨a,b⟩
   ·exact absurd (Int.lt_trans b (Int.lt_trans d1 a)) (Int.lt_irrefl _)
   ·exact .inr ⟨a,Int.lt_trans b d2⟩
theorem zhu {a w:Int} (h:(0<w∧0≤a)∨(w<0∧a≤0)):0≤a*w:=by
 rcases h with ⟨h1,h2⟩ | ⟨h1,h2⟩
 ·exact Int.mul_nonneg h2 (Int.le_of_lt h1)
 ·have:=Int.mul_nonneg (Int.neg_nonneg_of_nonpos h2) (Int.le_of_lt (Int.neg_pos_of_neg h1))
  rw [Int.neg_mul_neg] at this
  exact this
theorem zhh {a w:Int} (h:0≤a*w):(0<w→0≤a)∧(w<0→a≤0):=by
 refine ⟨fun k => ?_,fun k => ?_⟩
 ·rcases Int.lt_or_le a 0 with z | z
  ·exact absurd (Int.mul_neg_of_neg_of_pos z k) (Int.not_lt.mpr h)
  ·exact z
 ·rcases Int.lt_or_le 0 a with z | z
  ·exact absurd (Int.mul_neg_of_pos_of_neg z k) (Int.not_lt.mpr h)
  ·exact z
theorem zj3 {w w':Int} (s:(0<w∧0<w')∨(w<0∧w' < 0)) {F:List Gate} (h:F.Pairwise fun g h=>0≤(h.x - g.x)*w):F.Pairwise fun g h=>0≤(h.x - g.x)*w' :=
 h.imp fun {g h} k=>zhu (s.imp (fun q=>⟨q.2,(zhh k).1 q.1⟩) fun q=>⟨q.2,(zhh k).2 q.1⟩)
theorem ziI {s s' a b c:Int} (h1:s=1∨s = -1) (h2:s'=1∨s' = -1) (u1:s*a<s*b) (u2:s'*b<s'*c) (e1:0<b - a↔0<c - b):s=s':=by
 rcases h1 with rfl | rfl <;> rcases h2 with rfl | rfl <;> omega
theorem zlG {p z:Spot} {x:Int} (h:bw p z x):(p.1<z.1→x≤z.1∧p.1≤x)∧(z.1<p.1→z.1≤x∧x≤p.1):=by
 unfold bw at h
 omega
theorem EdgeOk.merge {p z n:Spot} {E V E1 V1:List Gate} (h:EdgeOk p E z V) (k:EdgeOk z E1 n V1) (d:SD (vec p z) (vec z n)) (u:z.1=n.1→E1=[]):EdgeOk p (E++V++E1) n V1:=by
 refine ⟨k.at_z,?_⟩
 have d2:=d.add
 rcases h.e with a | ⟨s,a⟩
 ·have ds:=zly d a.x
  rcases k.e with b | ⟨s',b⟩
  ·left
   have dpn:SD (vec p n) (vec p z):=d2.trans d.symm
   have cpp:crs (vec p n) (vec p p)=0:=by simp only [crs,vec]; grind
   have c0:crs (vec z n) (vec p z)=0:=by
    obtain ⟨α,β,ha,hb,e1,e2⟩:=d
    simp only [crs,vec] at e1 e2 ⊢
    have:α*((n.1 - z.1)*(z.2 - p.2) - (n.2 - z.2)*(z.1 - p.1))=0:=by
     have f1:α*((n.1 - z.1)*(z.2 - p.2) - (n.2 - z.2)*(z.1 - p.1))=(n.1 - z.1)*(α*(z.2 - p.2)) - (n.2 - z.2)*(α*(z.1 - p.1)):=by grind
     rw [f1,e1,e2]
     grind
    exact (Int.mul_eq_zero.mp this).resolve_left fun q=>by rw [q] at ha; exact absurd ha (by decide)
   have sw:(0<z.1 - p.1∧0<n.1 - p.1)∨(z.1 - p.1<0∧n.1 - p.1<0):=by clear d d2 dpn cpp c0; omega
   have sw2:(0<n.1 - z.1∧0<n.1 - p.1)∨(n.1 - z.1<0∧n.1 - p.1<0):=by clear d d2 dpn cpp c0; omega
   have hx:p.1≠n.1:=by clear d d2 dpn cpp c0 sw sw2; omega
   refine ⟨hx,fun g hg => ?_,?_⟩
   ·rcases List.mem_append.mp hg with hg | hg
    ·rcases List.mem_append.mp hg with hg | hg
     ·obtain ⟨g1,g2,g3⟩:=a.cr g hg
      exact ⟨(bw_l ds).1 g1,fun y hy=>(vm dpn cpp (g.x,y)).1.mpr (g2 y hy),fun y hy=>(vm dpn cpp (g.x,y)).2.mpr (g3 y hy)⟩
     ·obtain ⟨gx,w1,w2⟩:=h.at_z g hg
      rw [←gx] at ds
      refine ⟨by rw [gx]; exact (bw_l (x:=0) (by rw [gx] at ds; exact ds)).2.2,fun y hy=>(vm dpn cpp (g.x,y)).1.mpr ?_,fun y hy=>(vm dpn cpp (g.x,y)).2.mpr ?_⟩
      ·rw [gx]; exact (zgM y).1 (w1 y hy)
      ·rw [gx]; exact (zgM y).2 (w2 y hy)
    ·obtain ⟨g1,g2,g3⟩:=b.cr g hg
     exact ⟨(bw_l ds).2.1 g1,fun y hy=>(vm (p:=z) (z:=n) (q:=p) (r:=n) d2.symm c0 (g.x,y)).1.mp (g2 y hy),fun y hy=>(vm (p:=z) (z:=n) (q:=p) (r:=n) d2.symm c0 (g.x,y)).2.mp (g3 y hy)⟩
   ·have le:∀ {u v:Int},((p.1<z.1→u≤v)∧(z.1<p.1→v≤u))→0≤(v - u)*(n.1 - p.1):=fun {u v} w=>zhu (sw.imp (fun q=>⟨q.2,Int.sub_nonneg_of_le (w.1 (Int.lt_of_sub_pos q.1))⟩) fun q=>⟨q.2,Int.sub_nonpos_of_le (w.2 (Int.lt_of_sub_neg q.1))⟩)
    have inE:∀ g∈E,(p.1<z.1→g.x≤z.1)∧(z.1<p.1→z.1≤g.x):=fun g hg=>⟨fun q=>((zlG (a.cr g hg).1).1 q).1,fun q=>((zlG (a.cr g hg).1).2 q).1⟩
    have in1:∀ g∈E1,(p.1<z.1→z.1≤g.x)∧(z.1<p.1→g.x≤z.1):=fun g hg=>by
     have q:=zlG (b.cr g hg).1
     clear d d2 dpn cpp c0 sw sw2 hx
     omega
    rw [List.pairwise_append,List.pairwise_append]
    refine ⟨⟨zj3 sw a.pw,?_,fun g hg g' hg' => ?_⟩,zj3 sw2 b.pw,fun g hg g' hg' => ?_⟩
    ·refine List.Pairwise.imp_of_mem ?_ (List.pairwise_of_forall (R:=fun _ _=>True) (fun _ _=>trivial))
     intro g g' hg hg' _
     rw [(h.at_z g hg).1,(h.at_z g' hg').1,Int.sub_self,Int.zero_mul]
     exact Int.le_refl _
    ·rw [(h.at_z g' hg').1]
     exact le (inE g hg)
    ·have e2:=in1 g' hg'
     rcases List.mem_append.mp hg with hg | hg
     ·have e1:=inE g hg
      exact le ⟨fun q=>Int.le_trans (e1.1 q) (e2.1 q),fun q=>Int.le_trans (e2.2 q) (e1.2 q)⟩
     ·rw [(h.at_z g hg).1]
      exact le e2
  ·exact absurd b.x (by clear d d2; omega)
 ·rcases k.e with b | ⟨s',b⟩
  ·exfalso
   have q:=d.sg
   have e:=a.x
   have e2:=b.x
   obtain ⟨q1,q2,_⟩:=q
   simp only [vec] at q1 q2
   clear d d2
   omega
  ·right
   have e1:=u b.x
   subst e1
   have hs:s=s':=ziI a.s1 b.s1 a.up b.up d.sg.2.2.1
   subst hs
   refine ⟨s,a.x.trans b.x,a.s1,Int.lt_trans a.up b.up,?_,b.fst⟩
   rw [List.append_nil]
   exact zjO b.up (fun g hg=>⟨(h.at_z g hg).1.trans a.x.symm,(h.at_z g hg).2⟩) a.fst E p.2 true a.vs (Int.le_of_lt a.up) (fun _=>a.up)
noncomputable abbrev Itm:=List Gate×Spot×List Gate
noncomputable def AOk:Spot→(Spot→Prop)→List Itm→Prop
 | _,_,[]=>False
 | p,need,[(E,z,V)]=>EdgeOk p E z V∧need z∧V=[]
 | p,need,(E,z,V)::i::r=>EdgeOk p E z V∧need z∧AOk z (fun n=>BendOk p z n V) (i::r)
noncomputable def y9 (L:List Itm):List Spot:=L.map fun i=>i.2.1
noncomputable def xO (L:List Itm):List Gate:=L.flatMap fun i=>i.1++i.2.2
theorem AOk.cons {p z:Spot} {need:Spot→Prop} {E V:List Gate} {L:List Itm} (h:EdgeOk p E z V) (k:need z) (a:AOk z (fun n=>BendOk p z n V) L):AOk p need ((E,z,V)::L):=by
 cases L with
 | nil=>exact a.elim
 | cons i r=>exact ⟨h,k,a⟩
structure St (p o z:Spot) (E V:List Gate):Prop where
 e:EdgeOk p E z V
 d:SD (vec o z) (vec p z)
 ne:o≠z
structure BendH (o z n:Spot) (V:List Gate):Prop where
 ne:V≠[]
 h:∃ t:Int,(t=1∨t = -1)∧(∀ g∈V,hand z g=t)∧(V.length=1→0<tn o z n*t∨(tn o z n=0∧o.1=z.1∧∀ g∈V,if g.lo=some z.2 then 0<z.2 - o.2 else 0<o.2 - z.2))
theorem BendH.ok {o z n:Spot} {V:List Gate} (b:BendH o z n V) (h1:o≠z) (h2:n≠z) (s:¬ straight o z n=true):BendOk o z n V:=⟨b.ne,b.h,zlK h1 h2 s⟩
noncomputable def Fut (n m:Spot) (E1 V1:List Gate) (B:List Spot) (G:List Gate):Prop:=∀ (p:Spot) (need:Spot→Prop) (E:List Gate),St p m n (E++E1) V1→(∀ x,SD (vec p x) (vec p n)→need x)→∃ L,AOk p need L∧y9 L=B∧xO L=E++E1++G
theorem zcy (o z n:Spot):co (some o) [z,n]=if straight o z n=true then [] else [z]:=by
 unfold co
 rfl
theorem zlg {p o z n:Spot} {E V E1 V1:List Gate} {need:Spot→Prop} {B:List Spot} {G:List Gate} (s:St p o z E V) (hneed:∀ x,SD (vec p x) (vec p z)→need x) (k:EdgeOk z E1 n V1) (u:z.1=n.1→E1=[])
 (b:¬ straight o z n=true→BendH o z n V) (f:Fut n z E1 V1 B G):∃ L,AOk p need L∧y9 L=co (some o) [z,n]++B∧xO L=E++V++E1++G:=by
 have nz:n≠z:=fun q=>k.ne q.symm
 rw [zcy]
 by_cases c:straight o z n=true
 ·rw [if_pos c]
  obtain ⟨c1,c2⟩:=x8.mp c
  have d1:SD (vec p z) (vec z n):=s.d.symm.trans (sd_of c1 c2)
  have d2:=d1.add
  obtain ⟨L,a,e1,e2⟩:=f p need (E++V) ⟨by rw [List.append_assoc] at *; simpa using s.e.merge k d1 u,d2.symm,fun q=>nz q.symm⟩ (fun x hx=>hneed x (hx.trans (d2.trans d1.symm)))
  exact ⟨L,a,e1,e2⟩
 ·rw [if_neg c]
  obtain ⟨L,a,e1,e2⟩:=f z (fun x=>BendOk p z x V) [] ⟨by simpa using k,SD.refl _,fun q=>nz q.symm⟩ (fun x hx=>((b c).ok s.ne nz c).dir s.d hx.symm)
  refine ⟨(E,z,V)::L,AOk.cons s.e (hneed z (SD.refl _)) a,?_,?_⟩
  ·show z::y9 L=_
   rw [e1]
   rfl
  ·show (E++V)++xO L=_
   rw [e2]
   simp
inductive LA (w:Int):Spot→List Spot→List Gate→List Gate→Prop
 | last {a b:Spot} {E V:List Gate}:EdgeOk a E b V→0<w*(b.1 - a.1)→LA w a [b] E V
 | cons {a v v':Spot} {r:List Spot} {E V G W:List Gate}:EdgeOk a E v V→0<w*(v.1 - a.1)→(¬ straight a v v'=true→BendH a v v' V)→LA w v (v'::r) G W→LA w a (v::v'::r) (E++V++G) W
theorem wa {o:Option Spot} {a v:Spot} {r:List Spot} (h:a≠v):bnd o a (v::r)=co o [a,v]++bnd (some a) v r:=by
 show (if v=a then bnd o a r else co o [a,v]++bnd (some a) v r)=_
 rw [if_neg fun q=>h q.symm]
theorem uI {o:Option Spot} {a:Spot} {r:List Spot}:bnd o a (a::r)=bnd o a r:=by
 show (if a=a then bnd o a r else co o [a,a]++bnd (some a) a r)=_
 rw [if_pos rfl]
noncomputable def Fin (w:Int) (b:Spot) (W:List Gate) (rest:List Spot) (e:Spot) (G':List Gate):Prop:=∀ (p m:Spot) (need:Spot→Prop) (E:List Gate),St p m b E W→(∀ x,SD (vec p x) (vec p b)→need x)→0<w*(b.1 - m.1)→∃ L,AOk p need L∧y9 L=bnd (some m) b rest++[e]∧xO L=E++G'
theorem zhE {w:Int} {rest:List Spot} {b e:Spot} {G' W:List Gate} (fin:Fin w b W rest e G') {l:List Spot} {a:Spot} {G:List Gate} (la:LA w a l G W) (hb:l.getLast?=some b):∀ {p o:Spot} {E V:List Gate} {need:Spot→Prop},St p o a E V→(∀ x,SD (vec p x) (vec p a)→need x)→(∀ v,l.head?=some v→0<w*(v.1 - a.1)→¬ straight o a v=true→BendH o a v V) →
 ∃ L,AOk p need L∧y9 L=bnd (some o) a (l++rest)++[e]∧xO L=E++V++G++G':=by
 induction la with
 | @last a b' E1 V1 k hw =>
   intro p o E V need s hneed hbend
   have:b'=b:=by simpa using hb
   subst this
   obtain ⟨L,A,e1,e2⟩:=zlg (n:=b') (E1:=E1) (V1:=V1) (B:=bnd (some a) b' rest++[e]) (G:=G') s hneed k (fun q=>by rw [q,Int.sub_self,Int.mul_zero] at hw; omega) (hbend b' rfl hw) (fun p' need' E' st hn=>fin p' a need' (E'++E1) st hn hw)
   refine ⟨L,A,?_,e2⟩
   rw [e1,List.cons_append,List.nil_append,wa k.ne,List.append_assoc]
 | @cons a v v' r E1 V1 G1 W1 k hw hk la ih =>
   intro p o E V need s hneed hbend
   have hb':(v'::r).getLast?=some b:=by rw [List.getLast?_cons_cons] at hb; exact hb
   have ih':=fun {p o E V need}=>ih fin hb' (p:=p) (o:=o) (E:=E) (V:=V) (need:=need)
   obtain ⟨L,A,e1,e2⟩:=zlg (n:=v) (E1:=E1) (V1:=V1) (B:=bnd (some a) v (v'::r++rest)++[e]) (G:=V1++G1++G') s hneed k (fun q=>by rw [q,Int.sub_self,Int.mul_zero] at hw; omega) (hbend v rfl hw) (fun p' need' E' st hn=>by
    obtain ⟨L,A,e1,e2⟩:=ih' st hn (fun x hx _ hs=>by
     have:v'=x:=by simpa using hx
     subst this
     exact hk hs)
    exact ⟨L,A,e1,by rw [e2]; simp⟩)
   refine ⟨L,A,?_,by rw [e2]; simp⟩
   rw [e1]
   simp only [List.cons_append]
   rw [wa k.ne,List.append_assoc]
theorem zdp {w:Int} {rest:List Spot} {b e:Spot} {G' W:List Gate} (fin:Fin w b W rest e G') {l:List Spot} {a:Spot} {G:List Gate} (la:LA w a l G W) (hb:l.getLast?=some b) :
 ∃ L,AOk a (fun _=>True) L∧y9 L=bnd none a (l++rest)++[e]∧xO L=G++G':=by
 cases la with
 | @last _ b' _ _ k hw =>
   have:b'=b:=by simpa using hb
   subst this
   obtain ⟨L,A,e1,e2⟩:=fin a a (fun _=>True) G ⟨k,SD.refl _,k.ne⟩ (fun _ _=>trivial) hw
   refine ⟨L,A,?_,e2⟩
   rw [e1,List.cons_append,wa k.ne]
   rfl
 | @cons _ v v' r E1 V1 G1 _ k hw hk la =>
   have hb':(v'::r).getLast?=some b:=by rw [List.getLast?_cons_cons] at hb; exact hb
   obtain ⟨L,A,e1,e2⟩:=zhE fin la hb' (p:=a) (o:=a) (E:=E1) (V:=V1) (need:=fun _=>True) ⟨k,SD.refl _,k.ne⟩ (fun _ _=>trivial) (fun x hx _ hs=>by
    have:v'=x:=by simpa using hx
    subst this
    exact hk hs)
   refine ⟨L,A,?_,by rw [e2]⟩
   rw [e1]
   simp only [List.cons_append]
   rw [wa k.ne]
   rfl
theorem zhT {f:Gate→Int} (c:Int):∀ G:List Gate,G.Pairwise (fun g h=>f g<f h)→G=G.filter (fun g=>decide (f g<c))++G.filter (fun g=>decide (f g=c))++G.filter (fun g=>decide (c<f g))
 | [],_=>rfl
 | g::G,h=>by
   obtain ⟨h1,h2⟩:=List.pairwise_cons.mp h
   have ih:=zhT c G h2
   rcases Int.lt_trichotomy (f g) c with z | z | z
   ·simp only [List.filter_cons,decide_eq_true z,decide_eq_false (show ¬ f g=c by omega),decide_eq_false (show ¬ c<f g by omega),if_true,Bool.false_eq_true,if_false,List.cons_append]
    rw [←ih]
   ·have e1:G.filter (fun g=>decide (f g<c))=[]:=List.filter_eq_nil_iff.mpr fun x hx=>by have:=h1 x hx; simp; omega
    rw [e1] at ih
    simp only [List.filter_cons,decide_eq_true z,decide_eq_false (show ¬ f g<c by omega),decide_eq_false (show ¬ c<f g by omega),if_true,Bool.false_eq_true,if_false,e1,List.nil_append,List.cons_append]
    rw [List.nil_append] at ih
    rw [←ih]
   ·have e1:G.filter (fun g=>decide (f g<c))=[]:=List.filter_eq_nil_iff.mpr fun x hx=>by have:=h1 x hx; simp; omega
    have e2:G.filter (fun g=>decide (f g=c))=[]:=List.filter_eq_nil_iff.mpr fun x hx=>by have:=h1 x hx; simp; omega
    rw [e1,e2] at ih
    simp only [List.filter_cons,decide_eq_true z,decide_eq_false (show ¬ f g<c by omega),decide_eq_false (show ¬ f g=c by omega),if_true,Bool.false_eq_true,if_false,e1,e2,List.nil_append]
    rw [List.nil_append,List.nil_append] at ih
    rw [←ih]
theorem Lin.at {D:Int} {F:Int→Int} {u v:Spot} (h:Lin D F u v) {x:Int} (h1:u.1<x) (h2:x<v.1):(v.1 - u.1)*F x=D*((v.1 - u.1)*u.2+(x - u.1)*(v.2 - u.2)):=by
 have f:=h.first
 obtain ⟨huv,fu,fv,hd⟩:=h
 have k:=zhC hd (x - u.1).toNat (by omega)
 have ex:u.1+((x - u.1).toNat:Int)=x:=by omega
 have ek:((x - u.1).toNat:Int)=x - u.1:=by omega
 rw [ex,ek] at k
 rw [k]
 generalize F (u.1+1) - F u.1=s at f ⊢
 rw [fu]
 generalize v.1 - u.1=W at f ⊢
 generalize x - u.1=X
 have:W*(X*s)=X*(D*(v.2 - u.2)):=by rw [f]; grind
 rw [Int.mul_add,this]
 grind
theorem zkd {D:Int} {F:Int→Int} {u v:Spot} {g:Gate} (hD:0<D) (h:Lin D F u v) (h1:u.1<g.x) (h2:g.x<v.1) (lo:∀ y,g.lo=some y→D*y≤F g.x) (hi:∀ y,g.hi=some y→F g.x≤D*y):Cr u v g:=by
 have huv:=h.1
 have k:=h.at h1 h2
 have hW:0<v.1 - u.1:=by omega
 refine ⟨.inl ⟨h1,h2⟩,fun y hy => ?_,fun y hy => ?_⟩
 ·rw [tL huv]
  have a:=zbz hW (lo y hy)
  rw [k] at a
  have b:D*((v.1 - u.1)*y)≤D*((v.1 - u.1)*u.2+(g.x - u.1)*(v.2 - u.2)):=by
   have:(v.1 - u.1)*(D*y)=D*((v.1 - u.1)*y):=by grind
   omega
  have c:=xN hD b
  unfold xi
  simp only
  have:(v.1 - u.1)*(y - u.2)=(v.1 - u.1)*y - (v.1 - u.1)*u.2:=Int.mul_sub ..
  have:(v.2 - u.2)*(g.x - u.1)=(g.x - u.1)*(v.2 - u.2):=Int.mul_comm ..
  omega
 ·rw [tL huv]
  have a:=zbz hW (hi y hy)
  rw [k] at a
  have b:D*((v.1 - u.1)*u.2+(g.x - u.1)*(v.2 - u.2))≤D*((v.1 - u.1)*y):=by
   have:(v.1 - u.1)*(D*y)=D*((v.1 - u.1)*y):=by grind
   omega
  have c:=xN hD b
  unfold xi
  simp only
  have:(v.1 - u.1)*(y - u.2)=(v.1 - u.1)*y - (v.1 - u.1)*u.2:=Int.mul_sub ..
  have:(v.2 - u.2)*(g.x - u.1)=(g.x - u.1)*(v.2 - u.2):=Int.mul_comm ..
  omega
theorem zmP {D:Int} {F:Int→Int} {o m n:Spot} (hD:0<D) (h:Lin D F o m) (k:Lin D F m n):(0<dd F m.1→0<tn o m n)∧(dd F m.1<0→tn o m n<0):=by
 have f1:=h.first
 have f2:=h.last
 have f3:=k.first
 have p1:=h.1
 have p2:=k.1
 have e:D*tn o m n=(m.1 - o.1)*(n.1 - m.1)*dd F m.1:=by
  have q:dd F m.1=(F (m.1+1) - F m.1) - (F m.1 - F (m.1 - 1)):=by unfold dd; omega
  rw [q,f2]
  unfold tn crs vec
  simp only
  generalize F (m.1+1) - F m.1=s2 at f3
  generalize F (o.1+1) - F o.1=s1 at f1
  generalize m.1 - o.1=a at *
  generalize n.1 - m.1=b at *
  generalize m.2 - o.2=c at *
  generalize n.2 - m.2=d at *
  have:D*(a*d - c*b)=a*(D*d) - (D*c)*b:=by grind
  rw [this,f3,f1]
  grind
 have hp:0<(m.1 - o.1)*(n.1 - m.1):=Int.mul_pos (by omega) (by omega)
 refine ⟨fun z => ?_,fun z => ?_⟩
 ·rw [←zQ hD,e,zQ hp]
  exact z
 ·have:0<D * -tn o m n:=by
   rw [Int.mul_neg,e,←Int.mul_neg,zQ hp]
   omega
  rw [zQ hD] at this
  omega
structure GC (D:Int) (F:Int→Int) (g:Gate):Prop where
 w:g.w=1
 ok:GateOk g
 lo:∀ y,g.lo=some y→D*y≤F g.x
 hi:∀ y,g.hi=some y→F g.x≤D*y
theorem zex {z:Spot} {g:Gate} (ok:GateOk g) (hx:g.x=z.1) (h:g.lo=some z.2):hand z g = -g.w:=by
 unfold hand
 rw [if_neg (fun q=>q hx),if_neg,if_pos h]
 intro q
 have:=ok _ _ h q
 omega
theorem zey {z:Spot} {g:Gate} (hx:g.x=z.1) (h:g.hi=some z.2):hand z g=g.w:=by
 unfold hand
 rw [if_neg (fun q=>q hx),if_pos h]
theorem zfH {D:Int} {F:Int→Int} (hD:0<D) {b:Spot} {W:List Gate} (hW:∀ g∈W,g.x=b.1∧Wi g b.2):∀ {l:List Spot} {a:Spot} {G:List Gate},Pth D F a l b→l≠[]→G.Pairwise (fun g h=>g.x<h.x)→(∀ g∈G,a.1<g.x∧g.x<b.1∧GC D F g) →
 (∀ x,a.1<x→x<b.1→dd F x<0→∃ g∈G,g.x=x∧∃ y,g.lo=some y∧F x=D*y)→(∀ x,a.1<x→x<b.1→0<dd F x→∃ g∈G,g.x=x∧∃ y,g.hi=some y∧F x=D*y)→LA 1 a l G W
 | [],a,G,_,h,_,_,_,_=>absurd rfl h
 | [v],a,G,⟨h1,h2⟩,_,hs,hg,_,_=>by
   cases (show v=b from h2)
   have:=h1.1
   refine .last ⟨hW,.inl ⟨by omega,fun g k => ?_,hs.imp fun {g h} k => ?_⟩⟩ (by omega)
   ·obtain ⟨g1,g2,c⟩:=hg g k
    exact zkd hD h1 g1 g2 c.lo c.hi
   ·exact Int.mul_nonneg (by omega) (by omega)
 | v::v'::r,a,G,⟨h1,h2,h3⟩,_,hs,hg,dn,up=>by
   have p1:=h1.1
   have p2:=h2.1
   have p3:=h3.le
   have fv:F v.1=D*v.2:=h2.2.1
   have ih:=zfH hD hW (l:=v'::r) (a:=v) (G:=G.filter fun g=>decide (v.1<g.x)) ⟨h2,h3⟩ (by simp) (hs.filter _) (fun g k=>by
    obtain ⟨k1,k2⟩:=List.mem_filter.mp k
    obtain ⟨g1,g2,c⟩:=hg g k1
    exact ⟨by simpa using k2,g2,c⟩) (fun x x1 x2 d=>by
    obtain ⟨g,k,e,q⟩:=dn x (by omega) x2 d
    exact ⟨g,List.mem_filter.mpr ⟨k,by rw [e]; exact decide_eq_true x1⟩,e,q⟩) (fun x x1 x2 d=>by
    obtain ⟨g,k,e,q⟩:=up x (by omega) x2 d
    exact ⟨g,List.mem_filter.mpr ⟨k,by rw [e]; exact decide_eq_true x1⟩,e,q⟩)
   rw [zhT (f:=Gate.x) v.1 G hs]
   have mem2:∀ {g:Gate},g∈G.filter (fun g=>decide (g.x=v.1))→g∈G∧g.x=v.1:=fun {g} k=>by
    obtain ⟨k1,k2⟩:=List.mem_filter.mp k
    exact ⟨k1,by simpa using k2⟩
   refine .cons ⟨fun g k => ?_,.inl ⟨by omega,fun g k => ?_,(hs.filter _).imp fun {g h} k => ?_⟩⟩ (by omega) (fun st => ?_) ih
   ·obtain ⟨k1,k2⟩:=mem2 k
    obtain ⟨_,_,c⟩:=hg g k1
    refine ⟨k2,fun y hy => ?_,fun y hy => ?_⟩
    ·have:=c.lo y hy
     rw [k2,fv] at this
     exact xN hD this
    ·have:=c.hi y hy
     rw [k2,fv] at this
     exact xN hD this
   ·obtain ⟨k1,k2⟩:=List.mem_filter.mp k
    obtain ⟨g1,g2,c⟩:=hg g k1
    exact zkd hD h1 g1 (by simpa using k2) c.lo c.hi
   ·exact Int.mul_nonneg (by omega) (by omega)
   ·have nd:dd F v.1≠0:=fun q=>st ((zky hD h1 h2).mpr q)
    obtain ⟨t1,t2⟩:=zmP hD h1 h2
    have uni:∀ {g h:Gate},g∈G→h∈G→g.x=v.1→h.x=v.1→g=h:=fun {g h} hg hh e1 e2=>by
     obtain ⟨i,hi,rfl⟩:=List.getElem_of_mem hg
     obtain ⟨j,hj,rfl⟩:=List.getElem_of_mem hh
     rcases Nat.lt_trichotomy i j with z | z | z
     ·have:=List.pairwise_iff_getElem.mp hs i j hi hj z; omega
     ·subst z; rfl
     ·have:=List.pairwise_iff_getElem.mp hs j i hj hi z; omega
    rcases Int.lt_or_gt_of_ne nd with z | z
    ·obtain ⟨g,k,e,y,q1,q2⟩:=dn v.1 (by omega) (by omega) z
     have ey:y=v.2:=by
      rw [fv] at q2
      exact ((yZ hD).mp q2).symm
     subst ey
     have c:=(hg g k).2.2
     have hm:g∈G.filter (fun g=>decide (g.x=v.1)):=List.mem_filter.mpr ⟨k,decide_eq_true e⟩
     refine ⟨fun w=>(by rw [w] at hm; exact absurd hm (by simp)),-1,.inr rfl,fun g' k' => ?_,fun _=>.inl ?_⟩
     ·obtain ⟨k1,k2⟩:=mem2 k'
      rw [uni k1 k k2 e,zex c.ok e q1,c.w]
     ·have:=t2 z; omega
    ·obtain ⟨g,k,e,y,q1,q2⟩:=up v.1 (by omega) (by omega) z
     have ey:y=v.2:=by
      rw [fv] at q2
      exact ((yZ hD).mp q2).symm
     subst ey
     have c:=(hg g k).2.2
     have hm:g∈G.filter (fun g=>decide (g.x=v.1)):=List.mem_filter.mpr ⟨k,decide_eq_true e⟩
     refine ⟨fun w=>(by rw [w] at hm; exact absurd hm (by simp)),1,.inl rfl,fun g' k' => ?_,fun _=>.inl ?_⟩
     ·obtain ⟨k1,k2⟩:=mem2 k'
      rw [uni k1 k k2 e,zey e q1,c.w]
     ·have:=t1 z; omega
theorem zmN (p:Spot):mirS (mirS p)=p:=by
 obtain ⟨a,b⟩:=p
 simp [mirS]
theorem mirG2 (g:Gate):mirG (mirG g)=g:=by
 obtain ⟨a,b,c,d⟩:=g
 simp [mirG]
theorem zhy (l:List Spot):(l.map mirS).map mirS=l:=by
 rw [List.map_map]
 exact (List.map_congr_left fun x _=>zmN x).trans (List.map_id l)
theorem zdm (l:List Gate):(l.map mirG).map mirG=l:=by
 rw [List.map_map]
 exact (List.map_congr_left fun x _=>mirG2 x).trans (List.map_id l)
theorem zjn (z:Spot) (g:Gate):hand (mirS z) (mirG g) = -hand z g:=by
 unfold hand mirS mirG
 simp only
 by_cases a:g.x=z.1
 ·rw [if_neg (show ¬ (-g.x ≠ -z.1) by omega),if_neg (show ¬ (g.x≠z.1) by omega)]
  by_cases b:g.hi=some z.2
  ·rw [if_pos b,if_pos b]
  ·rw [if_neg b,if_neg b]
   by_cases c:g.lo=some z.2
   ·rw [if_pos c,if_pos c]
   ·rw [if_neg c,if_neg c]; rfl
 ·rw [if_pos (show -g.x ≠ -z.1 by omega),if_pos (show g.x≠z.1 by omega)]; rfl
theorem zlY (o z n:Spot):tn (mirS o) (mirS z) (mirS n) = -tn o z n:=by
 simp only [tn,crs,vec,mirS]
 grind
theorem zcY (o z n:Spot):straight (mirS o) (mirS z) (mirS n)=straight o z n:=by
 rw [Bool.eq_iff_iff,yl,yl]
 simp only [mirS]
 constructor <;> rintro ⟨a,b⟩ <;> constructor <;> grind
theorem BendH.mir {o z n:Spot} {V:List Gate} (b:BendH o z n V):BendH (mirS o) (mirS z) (mirS n) (V.map mirG):=by
 obtain ⟨ne,t,ht,hh,one⟩:=b
 refine ⟨by simpa using ne,-t,by omega,fun g hg => ?_,fun l => ?_⟩
 ·obtain ⟨g',k,rfl⟩:=List.mem_map.mp hg
  rw [zjn,hh g' k]
 ·rw [List.length_map] at l
  rw [zlY]
  rcases one l with k | ⟨k1,k2,k3⟩
  ·left
   rw [Int.neg_mul_neg]
   exact k
  ·right
   refine ⟨by omega,by simp only [mirS]; omega,fun g hg => ?_⟩
   obtain ⟨g',k,rfl⟩:=List.mem_map.mp hg
   exact k3 g' k
theorem EdgeOk.mir {p z:Spot} {E V:List Gate} (h:EdgeOk p E z V) (hx:p.1≠z.1):EdgeOk (mirS p) (E.map mirG) (mirS z) (V.map mirG):=by
 refine ⟨fun g hg => ?_,?_⟩
 ·obtain ⟨g',k,rfl⟩:=List.mem_map.mp hg
  obtain ⟨a,b⟩:=h.at_z g' k
  exact ⟨by simp only [mirG,mirS,a],b⟩
 ·rcases h.e with a | ⟨s,a⟩
  ·left
   refine ⟨by simp only [mirS]; omega,fun g hg => ?_,?_⟩
   ·obtain ⟨g',k,rfl⟩:=List.mem_map.mp hg
    obtain ⟨c1,c2,c3⟩:=a.cr g' k
    refine ⟨by unfold bw at c1 ⊢; simp only [mirS,mirG]; omega,fun y hy => ?_,fun y hy => ?_⟩
    ·have:=c2 y hy
     rw [←zai hx] at this
     exact this
    ·have:=c3 y hy
     rw [←zai hx] at this
     exact this
   ·rw [List.pairwise_map]
    refine a.pw.imp fun {g h} k => ?_
    simp only [mirG,mirS]
    have:(-h.x - -g.x)*(-z.1 - -p.1)=(h.x - g.x)*(z.1 - p.1):=by grind
    rw [this]
    exact k
  ·exact absurd a.x hx
theorem zki {w a b:Int} (h:0<w*(b - a)):a≠b:=fun q=>by rw [q,Int.sub_self,Int.mul_zero] at h; omega
theorem LA.mir {w:Int} {a:Spot} {l:List Spot} {G W:List Gate} (h:LA w a l G W):LA (-w) (mirS a) (l.map mirS) (G.map mirG) (W.map mirG):=by
 induction h with
 | @last a b E V k hw=>exact .last (k.mir (zki hw)) (by simp only [mirS]; rw [show -b.1 - -a.1 = -(b.1 - a.1) by omega,Int.neg_mul_neg]; exact hw)
 | @cons a v v' r E V G W k hw hk _ ih =>
   rw [List.map_append,List.map_append]
   refine .cons (k.mir (zki hw)) (by simp only [mirS]; rw [show -v.1 - -a.1 = -(v.1 - a.1) by omega,Int.neg_mul_neg]; exact hw) (fun s => ?_) ih
   rw [zcY] at s
   exact (hk s).mir
structure LegIn (w:Int) (R:List Gate) (a b:Spot) (G W:List Gate):Prop where
 up:R.Pairwise Up
 ok:∀ g∈R,GateOk g
 ways:∀ g∈R,g.w=w
 dir:0<w*(b.1 - a.1)
 sub:∀ g∈G,g∈R
 all:∀ g∈R,w*g.x≤w*a.1∨g∈G∨w*b.1≤w*g.x
 bet:∀ g∈G,w*a.1<w*g.x∧w*g.x<w*b.1
 pw:G.Pairwise fun g h=>w*g.x<w*h.x
 atb:∀ g∈W,g.x=b.1∧Wi g b.2
theorem zfF {R:List Gate} {a b:Spot} {l:List Spot} {G W:List Gate} (L:LegIn 1 R a b G W) (h:Pul R a b l):LA 1 a l G W:=by
 have hab:a.1<b.1:=by have:=L.dir; omega
 obtain ⟨F,C,P⟩:=zc8 (up_ok L.up L.ok) h hab
 refine zfH (zeC _) L.atb P (fun q=>by rw [q] at P; cases (show a=b from P); omega) (L.pw.imp fun {g h} k=>by omega) (fun g hg => ?_) (fun x x1 x2 d => ?_) (fun x x1 x2 d => ?_)
 ·have b1:=L.bet g hg
  have hR:=L.sub g hg
  exact ⟨by omega,by omega,L.ways g hR,L.ok g hR,C.lo g hR (by omega) (by omega),C.hi g hR (by omega) (by omega)⟩
 ·obtain ⟨g,hg,e,q⟩:=C.dn x x1 x2 d
  have:=L.all g hg
  exact ⟨g,by rcases this with k | k | k; omega; exact k; omega,e,q⟩
 ·obtain ⟨g,hg,e,q⟩:=C.up x x1 x2 d
  have:=L.all g hg
  exact ⟨g,by rcases this with k | k | k; omega; exact k; omega,e,q⟩
theorem zfG {w:Int} (hw:w=1∨w = -1) {R:List Gate} {a b:Spot} {l:List Spot} {G W:List Gate} (L:LegIn w R a b G W) (h:Pul R a b l):LA w a l G W:=by
 rcases hw with rfl | rfl
 ·exact zfF L h
 ·have M:LegIn 1 (R.map mirG) (mirS a) (mirS b) (G.map mirG) (W.map mirG):=by
   refine ⟨?_,fun g hg => ?_,fun g hg => ?_,?_,fun g hg => ?_,fun g hg => ?_,fun g hg => ?_,?_,fun g hg => ?_⟩
   ·rw [List.pairwise_map]
    refine List.Pairwise.imp_of_mem ?_ L.up
    intro g h hg hh u
    obtain ⟨u1,u2,u3⟩:=u
    have e1:=L.ways g hg
    have e2:=L.ways h hh
    refine ⟨by simp only [mirG]; omega,fun _ => ?_,fun q => ?_⟩
    ·simp only [mirG]
     have:=u3 (by omega)
     omega
    ·simp only [mirG] at q
     omega
   ·obtain ⟨g',k,rfl⟩:=List.mem_map.mp hg
    exact L.ok g' k
   ·obtain ⟨g',k,rfl⟩:=List.mem_map.mp hg
    simp only [mirG,L.ways g' k]
    rfl
   ·have:=L.dir
    simp only [mirS]
    omega
   ·obtain ⟨g',k,rfl⟩:=List.mem_map.mp hg
    exact List.mem_map.mpr ⟨g',L.sub g' k,rfl⟩
   ·obtain ⟨g',k,rfl⟩:=List.mem_map.mp hg
    simp only [mirG,mirS]
    rcases L.all g' k with q | q | q
    ·left; omega
    ·right; left; exact List.mem_map.mpr ⟨g',q,rfl⟩
    ·right; right; omega
   ·obtain ⟨g',k,rfl⟩:=List.mem_map.mp hg
    have:=L.bet g' k
    simp only [mirG,mirS]
    omega
   ·rw [List.pairwise_map]
    refine L.pw.imp fun {g h} k => ?_
    simp only [mirG]
    omega
   ·obtain ⟨g',k,rfl⟩:=List.mem_map.mp hg
    obtain ⟨e1,e2⟩:=L.atb g' k
    exact ⟨by simp only [mirG,mirS,e1],e2⟩
  have:=(zfF M (zkK zmL h)).mir
  rw [zmN,zhy,zdm,zdm] at this
  exact this
structure Arr (o z:Spot) (V:List Gate) (h:Gate):Prop where
 hands:∃ t:Int,(t=1∨t = -1)∧∀ g∈V++[h],hand z g=t
 one:V=[]→o.1=z.1∧((o.2<z.2∧h.lo=some z.2)∨(z.2<o.2∧h.hi=some z.2))
theorem Arr.end {o z:Spot} {V:List Gate} {h:Gate} (a:Arr o z V h):h.x=z.1∧(h.lo=some z.2∨h.hi=some z.2):=by
 obtain ⟨t,ht,hh⟩:=a.hands
 have:=hh h (by simp)
 unfold hand at this
 by_cases c:h.x=z.1
 ·refine ⟨c,?_⟩
  rw [if_neg (fun q=>q c)] at this
  by_cases d:h.hi=some z.2
  ·exact .inr d
  ·rw [if_neg d] at this
   by_cases e:h.lo=some z.2
   ·exact .inl e
   ·rw [if_neg e] at this; omega
 ·rw [if_pos c] at this; omega
theorem EdgeOk.addV {p z:Spot} {E V:List Gate} {g:Gate} (h:EdgeOk p E z V) (k:g.x=z.1∧Wi g z.2):EdgeOk p E z (V++[g]):=by
 refine ⟨fun x hx => ?_,?_⟩
 ·rcases List.mem_append.mp hx with hx | hx
  ·exact h.at_z x hx
  ·rw [List.mem_singleton.mp hx]; exact k
 ·rcases h.e with a | ⟨s,a⟩
  ·exact .inl a
  ·refine .inr ⟨s,a.x,a.s1,a.up,a.vs,?_⟩
   obtain ⟨f,r,e,q⟩:=a.fst
   exact ⟨f,r++[g],by rw [e]; rfl,q⟩
theorem wi_lo {g:Gate} (ok:GateOk g) {y:Int} (h:g.lo=some y):Wi g y:=⟨fun l e=>by rw [h] at e; cases e; exact Int.le_refl _,fun u e=>Int.le_of_lt (ok _ _ h e)⟩
theorem wi_hi {g:Gate} (ok:GateOk g) {y:Int} (h:g.hi=some y):Wi g y:=⟨fun l e=>Int.le_of_lt (ok _ _ e h),fun u e=>by rw [h] at e; cases e; exact Int.le_refl _⟩
theorem vk {h h':Gate} (tk:TurnOk h h'):∃ (s yu yv:Int),(s=1∨s = -1)∧zJ h h'=((h.x,yu),(h.x,yv))∧s*yu≤s*yv∧nearE s h'=some yv∧nearE (-s) h=some yu:=by
 unfold zJ
 by_cases z:yz h h'=true
 ·rw [if_pos z]
  unfold yz at z
  cases a:h.hi with
  | none=>rw [a] at z; cases z
  | some u =>
    cases b:h'.lo with
    | none=>rw [a,b] at z; cases z
    | some v =>
      rw [a,b] at z
      refine ⟨1,u,v,.inl rfl,rfl,?_,by simp [nearE,b],by simp [nearE,a]⟩
      have:=of_decide_eq_true z
      omega
 ·rw [if_neg z]
  rcases tk.one with ⟨u,v,e1,e2,l⟩ | ⟨u,v,e1,e2,l⟩
  ·unfold yz at z
   rw [e1,e2] at z
   exact absurd (decide_eq_true l) z
  ·rw [e1,e2]
   exact ⟨-1,v,u,.inr rfl,rfl,by omega,by simp [nearE,e1],by simp [nearE,e2]⟩
theorem ur {s:Int} (hs:s=1∨s = -1) {g:Gate} {y:Int} (h:nearE s g=some y):(s=1∧g.lo=some y)∨(s = -1∧g.hi=some y):=by
 rcases hs with rfl | rfl
 ·exact .inl ⟨rfl,by simpa [nearE] using h⟩
 ·exact .inr ⟨rfl,by simpa [nearE] using h⟩
theorem w6 {s:Int} (hs:s=1∨s = -1) {z:Spot} {g:Gate} (ok:GateOk g) (hx:g.x=z.1) (h:nearE s g=some z.2):hand z g = -(s*g.w):=by
 rcases ur hs h with ⟨rfl,k⟩ | ⟨rfl,k⟩
 ·rw [zex ok hx k]; omega
 ·rw [zey hx k]; omega
theorem zbW {s:Int} (hs:s=1∨s = -1) {g:Gate} (ok:GateOk g) {y:Int} (h:nearE s g=some y):Wi g y:=by
 rcases ur hs h with ⟨rfl,k⟩ | ⟨rfl,k⟩
 ·exact wi_lo ok k
 ·exact wi_hi ok k
theorem zlU {x m z v:Int} (s:Int) (hs:s=1∨s = -1) (h1:s*m<s*v) (h2:s*z<s*v):SD (vec (x,m) (x,v)) (vec (x,z) (x,v)):=by
 refine ⟨s*(v - z),s*(v - m),by rw [Int.mul_sub]; omega,by rw [Int.mul_sub]; omega,?_,?_⟩
 ·simp only [vec,Int.sub_self,Int.mul_zero]
 ·simp only [vec]
  grind
theorem zd2 {s x a b c:Int} (hs:s=1∨s = -1) (h1:s*a<s*b) (h2:s*b<s*c):straight (x,a) (x,b) (x,c)=true:=by
 rw [yl]
 simp only [Int.sub_self,Int.zero_mul,Int.mul_zero,Int.zero_add,true_and]
 rcases hs with rfl | rfl
 ·exact Int.mul_pos (by omega) (by omega)
 ·have:=Int.mul_pos (show 0 < -(b - a) by omega) (show 0 < -(c - b) by omega)
  rw [Int.neg_mul_neg] at this
  exact this
theorem zd3 {o z n m:Spot} (h:SD (vec z n) (vec z m)):straight o z n=straight o z m:=by
 have c:=h.crs_r (vec o z)
 have d:0<dot (vec o z) (vec z n)↔0<dot (vec o z) (vec z m):=by
  obtain ⟨a,b,ha,hb,e1,e2⟩:=h
  have e:a*dot (vec o z) (vec z n)=b*dot (vec o z) (vec z m):=by
   simp only [dot]
   have f1:a*((vec o z).1*(vec z n).1)=(vec o z).1*(a*(vec z n).1):=by grind
   have f2:a*((vec o z).2*(vec z n).2)=(vec o z).2*(a*(vec z n).2):=by grind
   rw [Int.mul_add,f1,f2,e1,e2]
   grind
  rw [←zQ ha,e,zQ hb]
 rw [Bool.eq_iff_iff,x8,x8]
 constructor <;> rintro ⟨k1,k2⟩
 ·exact ⟨by omega,d.mp k2⟩
 ·exact ⟨by omega,d.mpr k2⟩
theorem zkA {s a b:Int} (hs:s=1∨s = -1) (h:s*a≤s*b) (n:a≠b):s*a<s*b:=by
 rcases hs with rfl | rfl <;> omega
theorem zl7 {s a b c:Int} (hs:s=1∨s = -1) (h1:s*a≤s*b) (h2:s*b≤s*c) (e:a=c):a=b:=by
 rcases hs with rfl | rfl <;> omega
theorem sg_pm {s w w':Int} (hs:s=1∨s = -1) (hw:w=1∨w = -1) (e:w' = -w) : -(s*w')=1 ∨ -(s*w') = -1:=by
 rcases hs with rfl | rfl <;> omega
theorem zjV {a b:Int}:(1*a<1*b→a<b)∧(-1*a < -1*b→b<a):=by omega
theorem zgF {h h':Gate} (tk:TurnOk h h') (ok:GateOk h') (w2:h'.w = -h.w) (w1:h.w=1∨h.w = -1) {p o z:Spot} {E V:List Gate} {need:Spot→Prop} (s:St p o z E (V++[h])) (hands:∃ t:Int,(t=1∨t = -1)∧∀ g∈V++[h],hand z g=t) (okh:GateOk h)
 (hz:h.x=z.1) (hneed:∀ x,SD (vec p x) (vec p z)→need x) (ord:∀ s yu:Int,(s=1∨s = -1)→nearE (-s) h=some yu→(zJ h h').1.2=yu→s*z.2≤s*yu)
 (bend:∀ (s:Int) (v:Spot),(s=1∨s = -1)→v=(zJ h h').2→nearE (-s) h=some (zJ h h').1.2→v.1=z.1→s*z.2<s*v.2→¬ straight o z v=true→BendH o z v (V++[h])) {T':List Spot} {e:Spot} {G':List Gate}
 (IH:∀ {p o z:Spot} {E V:List Gate} {need:Spot→Prop},St p o z E (V++[h'])→Arr o z V h'→(∀ x,SD (vec p x) (vec p z)→need x)→z=(zJ h h').2→∃ L,AOk p need L∧y9 L=bnd (some o) z T'++[e]∧xO L=E++V++G') :
 ∃ L,AOk p need L∧y9 L=bnd (some o) z ((zJ h h').1::(zJ h h').2::T')++[e]∧xO L=E++(V++[h])++G':=by
 obtain ⟨sg,yu,yv,hs,et,le,n1,n2⟩:=vk tk
 rw [et] at bend IH ord ⊢
 have hx':h'.x=h.x:=tk.x.symm
 have o1:=ord sg yu hs n2 rfl
 obtain ⟨zx,zy⟩:=z
 simp only at hz o1 bend IH ⊢
 subst hz
 by_cases c:zy=yv
 ·have c2:zy=yu:=zl7 hs o1 le c
  subst c
  subst c2
  rw [uI,uI]
  obtain ⟨t,ht,hh⟩:=hands
  have a1:hand (h.x,zy) h=t:=hh h (by simp)
  have a2:=w6 (s := -sg) (by omega) (z:=(h.x,zy)) okh rfl n2
  have a3:=w6 hs (z:=(h.x,zy)) ok hx' n1
  exact IH (V:=V++[h]) ⟨s.e.addV ⟨hx',zbW hs ok n1⟩,s.d,s.ne⟩ ⟨⟨t,ht,fun g hg=>by
   rcases List.mem_append.mp hg with hg | hg
   ·exact hh g hg
   ·rw [List.mem_singleton.mp hg,a3,w2]
    rw [a2] at a1
    rw [←a1,Int.mul_neg,Int.neg_mul]⟩,fun q=>by simp at q⟩ hneed rfl
 ·have lt:sg*zy<sg*yv:=zkA hs (Int.le_trans o1 le) c
  have nzv:((h.x,zy):Spot)≠(h.x,yv):=fun q=>c (congrArg Prod.snd q)
  obtain ⟨my,hm1,hm2⟩:∃ my,sg*my<sg*yv∧bnd (some o) (h.x,zy) ((h.x,yu)::(h.x,yv)::T')=co (some o) [(h.x,zy),(h.x,yv)]++bnd (some (h.x,my)) (h.x,yv) T':=by
   by_cases c1:zy=yu
   ·subst c1
    exact ⟨zy,lt,by rw [uI,wa nzv]⟩
   ·have n3:((h.x,zy):Spot)≠(h.x,yu):=fun q=>c1 (congrArg Prod.snd q)
    by_cases c2:yu=yv
    ·subst c2
     exact ⟨zy,lt,by rw [wa n3,uI]⟩
    ·have n4:((h.x,yu):Spot)≠(h.x,yv):=fun q=>c2 (congrArg Prod.snd q)
     have l1:sg*zy<sg*yu:=zkA hs o1 c1
     have l2:sg*yu<sg*yv:=zkA hs le c2
     refine ⟨yu,l2,?_⟩
     rw [wa n3,wa n4,zcy,zcy,zcy,if_pos (zd2 hs l1 l2),List.nil_append]
     have:straight o (h.x,zy) (h.x,yu)=straight o (h.x,zy) (h.x,yv):=by
      refine zd3 ?_
      refine ⟨sg*(yv - zy),sg*(yu - zy),by rw [Int.mul_sub]; omega,by rw [Int.mul_sub]; omega,?_,?_⟩
      ·simp only [vec,Int.sub_self,Int.mul_zero]
      ·simp only [vec]; grind
     rw [this]
  rw [hm2]
  have kE:EdgeOk (h.x,zy) [] (h.x,yv) [h']:=by
   refine ⟨fun g hg => ?_,.inr ⟨sg,rfl,hs,lt,trivial,h',[],rfl,n1⟩⟩
   rw [List.mem_singleton.mp hg]
   exact ⟨hx',zbW hs ok n1⟩
  have f:Fut (h.x,yv) (h.x,zy) [] [h'] (bnd (some (h.x,my)) (h.x,yv) T'++[e]) G':=by
   intro p' need' E' st hn
   rw [List.append_nil] at st
   obtain ⟨L,A,e1,e2⟩:=IH (p:=p') (o:=(h.x,my)) (z:=(h.x,yv)) (E:=E') (V:=[]) (need:=need') ⟨by simpa using st.e,(zlU sg hs hm1 lt).trans st.d,fun q=>by
    have:=congrArg Prod.snd q
    simp only at this
    rw [this] at hm1
    omega⟩ ⟨⟨-(sg*h'.w),sg_pm hs w1 w2,fun g hg=>by
    have hg':g=h':=by simpa using hg
    rw [hg']
    exact w6 hs ok hx' n1⟩,fun _=>⟨rfl,by
    rcases ur hs n1 with ⟨q1,q2⟩ | ⟨q1,q2⟩
    ·rw [q1] at hm1
     exact .inl ⟨zjV.1 hm1,q2⟩
    ·rw [q1] at hm1
     exact .inr ⟨zjV.2 hm1,q2⟩⟩⟩ hn rfl
   exact ⟨L,A,e1,by rw [e2]⟩
  obtain ⟨L,A,e1,e2⟩:=zlg s hneed kE (fun _=>rfl) (bend sg (h.x,yv) hs rfl n2 rfl lt) f
  refine ⟨L,A,?_,by rw [e2]; simp⟩
  rw [e1,List.append_assoc]
noncomputable def zbj (e:Spot):List (List Gate)→Prop
 | []=>True
 | [R]=>0<(zH R).w*(e.1 - (zH R).x)
 | _::S::rs=>zbj e (S::rs)
theorem zb0 {a b:Gate} {w:Int} (hw:w=1∨w = -1) (ha:a.w=w) (u:Up a b):w*a.x<w*b.x:=by
 obtain ⟨_,u1,u2⟩:=u
 rcases hw with rfl | rfl
 ·have:=u1 ha; omega
 ·have:=u2 (by omega); omega
theorem zbZ {h:Gate} {R:List Gate} (u:(h::R).Pairwise Up):∀ g∈h::R,g.w=h.w:=by
 intro g hg
 rcases List.mem_cons.mp hg with rfl | hg
 ·rfl
 ·exact ((List.pairwise_cons.mp u).1 g hg).1.symm
theorem xH (R:List Gate) (t:Gate):zH (R++[t])=t:=by
 unfold zH
 rw [List.getLastD_eq_getLast?,List.getLast?_concat]
 rfl
theorem zfX {o z v:Spot} {V:List Gate} {h:Gate} {w:Int} (hw:w=1∨w = -1) (a:Arr o z V h) (ok:GateOk h) (e:h.w=w) (d:0<w*(v.1 - z.1)):BendH o z v (V++[h]):=by
 obtain ⟨t,ht,hh⟩:=a.hands
 obtain ⟨hx,_⟩:=a.end
 refine ⟨by simp,t,ht,hh,fun l => ?_⟩
 have hV:V=[]:=by
  rw [List.length_append] at l
  simp at l
  exact l
 left
 obtain ⟨ox,k⟩:=a.one hV
 have th:=hh h (by simp)
 have et:tn o z v = -((z.2 - o.2)*(v.1 - z.1)):=by
  simp only [tn,crs,vec]
  rw [ox,Int.sub_self,Int.zero_mul,Int.zero_sub]
 rw [et]
 rcases k with ⟨k1,k2⟩ | ⟨k1,k2⟩
 ·rw [zex ok hx k2,e] at th
  rw [←th]
  have:=Int.mul_pos (show 0<z.2 - o.2 by omega) d
  have q : -((z.2 - o.2)*(v.1 - z.1)) * -w=(z.2 - o.2)*(w*(v.1 - z.1)):=by grind
  rw [q]
  exact this
 ·rw [zey hx k2,e] at th
  rw [←th]
  have:=Int.mul_pos (show 0<o.2 - z.2 by omega) d
  have q : -((z.2 - o.2)*(v.1 - z.1))*w=(o.2 - z.2)*(w*(v.1 - z.1)):=by grind
  rw [q]
  exact this
theorem zlI {o z v:Spot} {V:List Gate} {h:Gate} {s:Int} (hs:s=1∨s = -1) (a:Arr o z V h) (ok:GateOk h) (vx:v.1=z.1) (d:s*z.2<s*v.2) (ns:¬ straight o z v=true):BendH o z v (V++[h]):=by
 obtain ⟨t,ht,hh⟩:=a.hands
 refine ⟨by simp,t,ht,hh,fun l => ?_⟩
 have hV:V=[]:=by
  rw [List.length_append] at l
  simp at l
  exact l
 subst hV
 obtain ⟨ox,k⟩:=a.one rfl
 right
 have et:tn o z v=0:=by
  simp only [tn,crs,vec]
  rw [ox,vx,Int.sub_self,Int.zero_mul,Int.mul_zero,Int.sub_self]
 refine ⟨et,ox,fun g hg => ?_⟩
 have hg':g=h:=by simpa using hg
 subst hg'
 obtain ⟨o1,o2⟩:=o
 obtain ⟨z1,z2⟩:=z
 obtain ⟨v1,v2⟩:=v
 simp only at ox vx k d ns ⊢
 subst ox
 subst vx
 rcases k with ⟨k1,k2⟩ | ⟨k1,k2⟩
 ·rw [if_pos k2]; omega
 ·rw [if_neg fun q=>by have:=ok _ _ q k2; omega]; omega
theorem zfN (w:Int) (e:Spot):Fin w e [] [] e []:=fun p m need E st hn _=>⟨[(E,e,[])],⟨st.e,hn e (SD.refl _),rfl⟩,rfl,by simp [xO]⟩
noncomputable def Go (e:Spot) (h:Gate) (v:Spot) (T':List Spot) (G':List Gate):Prop:=∀ {p o z:Spot} {E V:List Gate} {need:Spot→Prop},St p o z E (V++[h])→Arr o z V h→(∀ x,SD (vec p x) (vec p z)→need x)→z=v→∃ L,AOk p need L∧y9 L=bnd (some o) z T'++[e]∧xO L=E++V++G'
theorem pm2 {s w:Int} (hs:s=1∨s = -1) (hw:w=1∨w = -1):s*w=1∨s*w = -1:=by
 rcases hs with rfl | rfl <;> omega
theorem zfM {t h':Gate} (tk:TurnOk t h') (ok:GateOk h') (okt:GateOk t) (w1:t.w=1∨t.w = -1) (w2:h'.w = -t.w) {e:Spot} {T':List Spot} {G':List Gate} (IH:Go e h' (zJ t h').2 T' G'):Fin t.w (zJ t h').1 [t] ((zJ t h').2::T') e ([t]++G'):=by
 intro p m need E st hn hd
 have u1:(zJ t h').1.1=t.x:=by unfold zJ; split <;> rfl
 obtain ⟨s0,yu,yv,hs0,et,_,_,n2⟩:=vk tk
 have hyu:(zJ t h').1.2=yu:=by rw [et]
 have h1:hand (zJ t h').1 t=s0*t.w:=by
  rw [w6 (s := -s0) (by omega) okt u1.symm (by rw [hyu]; exact n2),Int.neg_mul,Int.neg_neg]
 obtain ⟨L,A,e1,e2⟩:=zgF tk ok w2 w1 (p:=p) (o:=m) (z:=(zJ t h').1) (E:=E) (V:=[]) (need:=need) (by simpa using st) ⟨s0*t.w,pm2 hs0 w1,fun g hg=>by
  have hg':g=t:=by simpa using hg
  rw [hg',h1]⟩ okt u1.symm hn (fun s y _ _ q=>by rw [q]; exact Int.le_refl _) (fun s v hs ev ne vx lt _=>by
  have h2:hand (zJ t h').1 t=s*t.w:=by
   rw [w6 (s := -s) (by omega) okt u1.symm ne,Int.neg_mul,Int.neg_neg]
  refine ⟨by simp,s*t.w,pm2 hs w1,fun g hg=>by
   have hg':g=t:=by simpa using hg
   rw [hg',h2],fun _=>.inl ?_⟩
  have et:tn m (zJ t h').1 v=((zJ t h').1.1 - m.1)*(v.2 - (zJ t h').1.2):=by
   simp only [tn,crs,vec]
   rw [vx,Int.sub_self,Int.mul_zero,Int.sub_zero]
  rw [et]
  have:=Int.mul_pos hd (show 0<s*(v.2 - (zJ t h').1.2) by rw [Int.mul_sub]; omega)
  have q:((zJ t h').1.1 - m.1)*(v.2 - (zJ t h').1.2)*(s*t.w)=t.w*((zJ t h').1.1 - m.1)*(s*(v.2 - (zJ t h').1.2)):=by grind
  rw [q]
  exact this) (T':=T') (e:=e) (G':=G') IH
 rw [uI] at e1
 exact ⟨L,A,e1,by rw [e2]; simp⟩
theorem zbX {a b:Gate} (h1:a.w=1∨a.w = -1) (h2:b.w=1∨b.w = -1) (n:a.w≠b.w):b.w = -a.w:=by omega
theorem ul {run:List Gate} {a b:Spot} {l:List Spot} (h:Pul run a b l):l.getLast?=some b:=by
 obtain ⟨m,rfl,_⟩:=uk h
 exact List.getLast?_concat
theorem zfB {R:List Gate} {t:Gate} {a b:Spot} (u:(R++[t]).Pairwise Up) (ok:∀ g∈R++[t],GateOk g) (w1:t.w=1∨t.w = -1) {G:List Gate} (hG:∀ g∈R,t.w*g.x≤t.w*a.1∨g∈G) (sub:∀ g∈G,g∈R∧t.w*a.1<t.w*g.x) (pw:G.Pairwise Up) (hd:t.w*a.1<t.w*t.x) (hb:b.1=t.x) (wb:Wi t b.2):LegIn t.w (R++[t]) a b G [t]:=by
 have hall:∀ g∈R,Up g t:=fun g hg=>(List.pairwise_append.mp u).2.2 g hg t (by simp)
 have hw:∀ g∈R++[t],g.w=t.w:=fun g hg=>by
  rcases List.mem_append.mp hg with hg | hg
  ·exact (hall g hg).1
  ·rw [List.mem_singleton.mp hg]
 refine ⟨u,ok,hw,by rw [Int.mul_sub,hb]; omega,fun g hg=>by simp [(sub g hg).1],fun g hg => ?_,fun g hg => ?_,?_,fun g hg => ?_⟩
 ·rcases List.mem_append.mp hg with hg | hg
  ·exact (hG g hg).imp id .inl
  ·rw [List.mem_singleton.mp hg,hb]
   exact .inr (.inr (Int.le_refl _))
 ·obtain ⟨k1,k2⟩:=sub g hg
  refine ⟨k2,?_⟩
  rw [hb]
  exact zb0 w1 (hw g (by simp [k1])) (hall g k1)
 ·refine List.Pairwise.imp_of_mem ?_ pw
  intro g h hg hh k
  exact zb0 w1 (hw g (by simp [(sub g hg).1])) k
 ·rw [List.mem_singleton.mp hg]
  exact ⟨hb.symm,wb⟩
theorem zhF {R:List Gate} {a e:Spot} {w:Int} (w1:w=1∨w = -1) (u:R.Pairwise Up) (ok:∀ g∈R,GateOk g) (hw:∀ g∈R,g.w=w) {G:List Gate} (hG:∀ g∈R,w*g.x≤w*a.1∨g∈G) (sub:∀ g∈G,g∈R∧w*a.1<w*g.x) (pw:G.Pairwise Up) (hd:w*a.1<w*e.1) (he:∀ g∈R,w*g.x<w*e.1):LegIn w R a e G []:=by
 refine ⟨u,ok,hw,by rw [Int.mul_sub]; omega,fun g hg=>(sub g hg).1,fun g hg=>(hG g hg).imp id .inl,fun g hg=>⟨(sub g hg).2,he g (sub g hg).1⟩,?_,fun g hg=>by simp at hg⟩
 refine List.Pairwise.imp_of_mem ?_ pw
 intro g h hg hh k
 exact zb0 w1 (hw g (sub g hg).1) k
theorem zaq {R:List Gate} (h:R≠[]):∃ R' t,R=R'++[t]:=⟨R.dropLast,R.getLast h,(List.dropLast_concat_getLast h).symm⟩
theorem zhZ {R:List Gate} {e:Spot} {w:Int} (w1:w=1∨w = -1) (hne:R≠[]) (u:R.Pairwise Up) (hw:∀ g∈R,g.w=w) (h:0<(zH R).w*(e.1 - (zH R).x)):∀ g∈R,w*g.x<w*e.1:=by
 obtain ⟨R',t,rfl⟩:=zaq hne
 rw [xH] at h
 rw [hw t (by simp),Int.mul_sub] at h
 intro g hg
 rcases List.mem_append.mp hg with hg' | hg'
 ·have:=zb0 w1 (hw g hg) ((List.pairwise_append.mp u).2.2 g hg' t (by simp))
  omega
 ·rw [List.mem_singleton.mp hg']
  omega
theorem zgY {e:Spot}:∀ (rs:List (List Gate)) (h:Gate) (R':List Gate),Spl ((h::R')::rs)→(∀ R∈(h::R')::rs,∀ g∈R,GateOk g∧(g.w=1∨g.w = -1))→zbj e ((h::R')::rs)→∀ (z:Spot) (T:List Spot),Tot z (tU ((h::R')::rs) e) T→Go e h z T (h::R'++rs.flatten)
 | [],h,R',sp,gk,he,z0,T,tt=>by
   rename_i p o z E V need
   intro st a hn hz
   subst hz
   obtain ⟨_,u⟩:=sp
   have hw:=zbZ u
   have gh:=gk (h::R') (by simp) h (by simp)
   have ends:=zhZ gh.2 (by simp) u hw he
   obtain ⟨hx,_⟩:=a.end
   cases tt with
   | cons P t =>
     cases t
     rw [List.append_nil]
     have la:=zfG gh.2 (zhF (a:=z) (G:=R') gh.2 u (fun g hg=>(gk _ (by simp) g hg).1) hw (fun g hg=>by
      rcases List.mem_cons.mp hg with rfl | hg
      ·left; rw [hx]; exact Int.le_refl _
      ·exact .inr hg) (fun g hg=>⟨by simp [hg],by rw [←hx]; exact zb0 gh.2 rfl ((List.pairwise_cons.mp u).1 g hg)⟩) (List.pairwise_cons.mp u).2 (by rw [←hx]; exact ends h (by simp)) ends) P
     obtain ⟨L,A,e1,e2⟩:=zhE (zfN h.w e) la (ul P) st hn (fun v _ hv _=>zfX gh.2 a gh.1 rfl hv)
     rw [List.append_nil] at e1
     exact ⟨L,A,e1,by rw [e2]; simp⟩
 | S::rs,h,R',sp,gk,he,z0,T,tt=>by
   obtain ⟨hne,u,nw,tk,sp'⟩:=sp
   have hS:S≠[]:=(zb2 sp' S (by simp)).1
   obtain ⟨h',S',rfl⟩:∃ h' S',S=h'::S':=by
    cases S with
    | nil=>exact absurd rfl hS
    | cons a b=>exact ⟨a,b,rfl⟩
   have ih:=zgY rs h' S' sp' (fun R hR=>gk R (List.mem_cons_of_mem _ hR)) he
   rename_i p o z E V need
   intro st a hn hz
   subst hz
   have hw:=zbZ u
   have gh:=gk (h::R') (by simp) h (by simp)
   have gh':=gk (h'::S') (by simp) h' (by simp)
   obtain ⟨hx,hend⟩:=a.end
   have hh':vR (h'::S')=h':=rfl
   rw [hh'] at nw tk
   cases tt with
   | cons P t =>
     cases t with
     | cons P2 t =>
       rw [hh'] at P P2 t
       have l2:=zg5 P2 (by rw [(show ∀ g k:Gate,(zJ g k).1.1=g.x from fun g k=>by unfold zJ; split <;> rfl),(show ∀ g k:Gate,(zJ g k).2.1=g.x from fun g k=>by unfold zJ; split <;> rfl)])
       subst l2
       cases R' with
       | nil =>
         have el:zH [h]=h:=rfl
         rw [el] at nw tk P P2 t
         have w2:=zbX gh.2 gh'.2 nw
         have l1:=zg5 P (by rw [(show ∀ g k:Gate,(zJ g k).1.1=g.x from fun g k=>by unfold zJ; split <;> rfl)]; exact hx.symm)
         subst l1
         obtain ⟨L,A,e1,e2⟩:=zgF tk gh'.1 w2 gh.2 st a.hands gh.1 hx hn (fun s yu hs ne _=>by
          rcases hs with rfl | rfl
          ·have k:h.hi=some yu:=by simpa [nearE] using ne
           rcases hend with q | q
           ·have:=gh.1 _ _ q k; omega
           ·rw [q] at k; cases k; exact Int.le_refl _
          ·have k:h.lo=some yu:=by simpa [nearE] using ne
           rcases hend with q | q
           ·rw [q] at k; cases k; exact Int.le_refl _
           ·have:=gh.1 _ _ k q; omega) (fun s v hs _ _ vx lt ns=>zlI hs a gh.1 vx lt ns) (ih _ _ t)
         exact ⟨L,A,e1,by rw [e2]; simp⟩
       | cons g1 R1 =>
         obtain ⟨R2,t1,e2⟩:=zaq (show g1::R1≠[] by simp)
         rw [e2] at gk hw u nw tk P P2 t ⊢
         have el:zH (h::(R2++[t1]))=t1:=xH (h::R2) t1
         rw [el] at nw tk P P2 t ⊢
         have gt:=gk (h::(R2++[t1])) (by simp) t1 (by simp)
         have et:t1.w=h.w:=hw t1 (by simp)
         have w2:=zbX gt.2 gh'.2 nw
         obtain ⟨s0,yu,yv,hs0,eT,_,_,n2⟩:=vk tk
         have ux:(zJ t1 h').1.1=t1.x:=by rw [eT]
         have lg:=zfB (R:=h::R2) (t:=t1) (a:=z) (b:=(zJ t1 h').1) (G:=R2) u (fun g hg=>(gk _ (by simp) g hg).1) gt.2 (fun g hg=>by
          rcases List.mem_cons.mp hg with rfl | hg
          ·left; rw [hx]; exact Int.le_refl _
          ·exact .inr hg) (fun g hg=>⟨by simp [hg],by rw [←hx,et]; exact zb0 gh.2 rfl ((List.pairwise_cons.mp u).1 g (by simp [hg]))⟩) ((List.pairwise_append.mp (List.pairwise_cons.mp u).2).1) (by rw [←hx,et]; exact zb0 gh.2 rfl ((List.pairwise_cons.mp u).1 t1 (by simp))) ux (by
           rw [eT]
           exact zbW (s := -s0) (by omega) gt.1 n2)
         have la:=zfG gt.2 lg P
         obtain ⟨L,A,e1,e3⟩:=zhE (zfM tk gh'.1 gt.1 gt.2 w2 (ih _ _ t)) la (ul P) st hn (fun v _ hv _=>zfX gh.2 a gh.1 rfl (by rw [←et]; exact hv))
         exact ⟨L,A,e1,by rw [e3]; simp⟩
theorem zc7 {s e:Spot} {row:List Gate} {out:List Spot} (hne:row≠[]) (w:Walk row) (gk:∀ g∈row,GateOk g∧(g.w=1∨g.w = -1)) (hs:0<(vR row).w*((vR row).x - s.1)) (he:0<(zH row).w*(e.1 - (zH row).x)) (h:zcO s (xu row) e out) :
 ∃ L,AOk s (fun _=>True) L∧out=s::y9 L∧xO L=row:=by
 obtain ⟨T,tt,rfl⟩:=h
 have sp:=zaf row w
 have fl:=uh row
 obtain ⟨h0,r0,rfl⟩:∃ h0 r0,row=h0::r0:=by
  cases row with
  | nil=>exact absurd rfl hne
  | cons a b=>exact ⟨a,b,rfl⟩
 obtain ⟨R1,rs,er⟩:=uf h0 r0
 rw [er] at tt sp fl
 have gk':∀ R∈(h0::R1)::rs,∀ g∈R,GateOk g∧(g.w=1∨g.w = -1):=fun R hR g hg=>gk g (by rw [←fl]; exact List.mem_flatten.mpr ⟨R,hR,hg⟩)
 have hend:∀ (rs:List (List Gate)) (R:List Gate),(∀ Q∈R::rs,Q≠[])→(R::rs).flatten≠[]→0<(zH (R::rs).flatten).w*(e.1 - (zH (R::rs).flatten).x)→zbj e (R::rs):=by
  intro rs
  induction rs with
  | nil =>
    intro R _ _ k
    simpa [zbj] using k
  | cons S rs ih =>
    intro R hq _ k
    show zbj e (S::rs)
    have hS:(S::rs).flatten≠[]:=by
     have:=hq S (by simp)
     simp [this]
    refine ih S (fun Q hQ=>hq Q (List.mem_cons_of_mem _ hQ)) hS ?_
    obtain ⟨m,t,em⟩:=zaq hS
    have:(R::S::rs).flatten=R++m++[t]:=by rw [List.flatten_cons,em,List.append_assoc]
    rw [this,xH] at k
    rw [em,xH]
    exact k
 have hE:=hend rs (h0::R1) (fun Q hQ=>(zb2 sp Q hQ).1) (by simp) (by rw [fl]; exact he)
 have hh:vR (h0::r0)=h0:=rfl
 rw [hh] at hs
 have g0:=gk' (h0::R1) (by simp) h0 (by simp)
 cases rs with
 | nil =>
   obtain ⟨_,u⟩:=sp
   have hw:=zbZ u
   have ends:=zhZ g0.2 (by simp) u hw hE
   have s0:h0.w*s.1<h0.w*h0.x:=by rw [Int.mul_sub] at hs; omega
   cases tt with
   | cons P t =>
     cases t
     rw [List.append_nil]
     have la:=zfG g0.2 (zhF (a:=s) (G:=h0::R1) g0.2 u (fun g hg=>(gk' _ (by simp) g hg).1) hw (fun g hg=>.inr hg) (fun g hg=>⟨hg,by
      rcases List.mem_cons.mp hg with rfl | hg
      ·exact s0
      ·have:=zb0 g0.2 rfl ((List.pairwise_cons.mp u).1 g hg); omega⟩) u (Int.lt_trans s0 (ends h0 (by simp))) ends) P
     obtain ⟨L,A,e1,e2⟩:=zdp (zfN h0.w e) la (ul P)
     rw [List.append_nil] at e1
     refine ⟨L,A,by rw [e1],?_⟩
     rw [e2,←fl]
     simp
 | cons S rs =>
   obtain ⟨_,u,nw,tk,sp'⟩:=sp
   have hS:S≠[]:=(zb2 sp' S (by simp)).1
   obtain ⟨h',S',rfl⟩:∃ h' S',S=h'::S':=by
    cases S with
    | nil=>exact absurd rfl hS
    | cons a b=>exact ⟨a,b,rfl⟩
   have ih:=zgY rs h' S' sp' (fun R hR=>gk' R (List.mem_cons_of_mem _ hR)) hE
   have hw:=zbZ u
   have gh':=gk' (h'::S') (by simp) h' (by simp)
   have hh':vR (h'::S')=h':=rfl
   rw [hh'] at nw tk
   cases tt with
   | cons P t =>
     cases t with
     | cons P2 t =>
       rw [hh'] at P P2 t
       have l2:=zg5 P2 (by rw [(show ∀ g k:Gate,(zJ g k).1.1=g.x from fun g k=>by unfold zJ; split <;> rfl),(show ∀ g k:Gate,(zJ g k).2.1=g.x from fun g k=>by unfold zJ; split <;> rfl)])
       subst l2
       obtain ⟨R2,t1,e2⟩:=zaq (show h0::R1≠[] by simp)
       have m0:h0∈R2++[t1]:=by rw [←e2]; simp
       have hfst:∀ g∈R2++[t1],h0.w*s.1<h0.w*g.x:=fun g hg=>by
        have s0:h0.w*s.1<h0.w*h0.x:=by rw [Int.mul_sub] at hs; omega
        rw [←e2] at hg
        rcases List.mem_cons.mp hg with rfl | hg
        ·exact s0
        ·have:=zb0 g0.2 rfl ((List.pairwise_cons.mp u).1 g hg); omega
       rw [e2] at gk' hw u nw tk P P2 t fl ⊢
       have el:zH (R2++[t1])=t1:=xH R2 t1
       rw [el] at nw tk P P2 t ⊢
       have gt:=gk' (R2++[t1]) (by simp) t1 (by simp)
       have et:t1.w=h0.w:=hw t1 (by simp)
       have w2:=zbX gt.2 gh'.2 nw
       obtain ⟨s0,yu,yv,hs0,eT,_,_,n2⟩:=vk tk
       have ux:(zJ t1 h').1.1=t1.x:=by rw [eT]
       have lg:=zfB (R:=R2) (t:=t1) (a:=s) (b:=(zJ t1 h').1) (G:=R2) u (fun g hg=>(gk' _ (by simp) g hg).1) gt.2 (fun g hg=>.inr hg) (fun g hg=>⟨hg,by rw [et]; exact hfst g (by simp [hg])⟩) (List.pairwise_append.mp u).1 (by rw [et]; exact hfst t1 (by simp)) ux (by
        rw [eT]
        exact zbW (s := -s0) (by omega) gt.1 n2)
       have la:=zfG gt.2 lg P
       obtain ⟨L,A,e1,e3⟩:=zdp (zfM tk gh'.1 gt.1 gt.2 w2 (ih _ _ t)) la (ul P)
       refine ⟨L,A,by rw [e1]; simp,?_⟩
       rw [e3,←fl]
       simp
theorem ag0 (a b c d:D):atI [a,b,c,d] 0=some a:=rfl
theorem ag1 (a b c d:D):atI [a,b,c,d] 1=some b:=rfl
theorem ag2 (a b c d:D):atI [a,b,c,d] 2=some c:=rfl
noncomputable def wQ (R:List Gate) (a b:Spot):List Gate :=
 if a.1<b.1 then R.filter fun l=>decide (a.1<l.x)&&decide (l.x<b.1) else R.reverse.filter fun l=>decide (b.1<l.x)&&decide (l.x<a.1)
theorem vB {R:List Gate} {a b:Spot} {g:Gate}:g∈wQ R a b↔g∈R∧bw a b g.x:=by
 unfold wQ bw
 split
 ·rw [List.mem_filter,Bool.and_eq_true,decide_eq_true_eq,decide_eq_true_eq]
  refine and_congr_right fun _ => ?_
  lia
 ·rw [List.mem_filter,List.mem_reverse,Bool.and_eq_true,decide_eq_true_eq,decide_eq_true_eq]
  refine and_congr_right fun _ => ?_
  lia
noncomputable def beyV (a b:Spot) (g:Gate):List (Int×Spot):=(match g.lo with | some y=>[(xc a b (g.x,y),(g.x,y))] | none=>[])++(match g.hi with | some y=>[(-xc a b (g.x,y),(g.x,y))] | none=>[])
theorem zcF {a b:Spot} {g:Gate} {d:Int} {p:Spot}:(d,p)∈beyV a b g↔Bey a b g p d:=by
 unfold beyV Bey
 rw [List.mem_append]
 constructor
 ·rintro (h | h)
  ·split at h
   ·rename_i y e
    simp only [List.mem_singleton,Prod.mk.injEq] at h
    obtain ⟨rfl,rfl⟩:=h
    exact ⟨rfl,.inl ⟨e,rfl⟩⟩
   ·simp at h
  ·split at h
   ·rename_i y e
    simp only [List.mem_singleton,Prod.mk.injEq] at h
    obtain ⟨rfl,rfl⟩:=h
    exact ⟨rfl,.inr ⟨e,rfl⟩⟩
   ·simp at h
 ·obtain ⟨p1,p2⟩:=p
  rintro ⟨e,⟨h1,h2⟩ | ⟨h1,h2⟩⟩
  ·left
   simp only at e h1
   subst e h2
   rw [h1]
   simp
  ·right
   simp only at e h1
   subst e h2
   rw [h1]
   simp
noncomputable def wA (st:Option Spot×Int) (q:Int×Spot):Option Spot×Int:=if st.2<q.1 then (some q.2,q.1) else st
noncomputable def farV (R:List Gate) (a b:Spot):Option Spot:=(((wQ R a b).flatMap (beyV a b)).foldl wA (none,0)).1
theorem zco:∀ (l:List (Int×Spot)) (st:Option Spot×Int),st.2≤(l.foldl wA st).2∧(∀ q∈l,q.1≤(l.foldl wA st).2)∧(l.foldl wA st=st∨∃ q∈l,st.2<q.1∧l.foldl wA st=(some q.2,q.1))
 | [],st=>⟨Int.le_refl _,by simp,.inl rfl⟩
 | q::l,st=>by
   obtain ⟨h1,h2,h3⟩:=zco l (wA st q)
   rw [List.foldl_cons]
   unfold wA at h1 h3 ⊢
   by_cases z:st.2<q.1
   ·simp only [z,if_true] at h1 h2 h3 ⊢
    refine ⟨by lia,fun r hr => ?_,.inr ?_⟩
    ·rcases List.mem_cons.mp hr with rfl | hr
     ·exact h1
     ·have:=h2 r hr
      unfold wA at this
      simpa [z] using this
    ·rcases h3 with e | ⟨r,hr,lt,e⟩
     ·exact ⟨q,by simp,z,e⟩
     ·exact ⟨r,by simp [hr],by lia,e⟩
   ·simp only [z,if_false] at h1 h2 h3 ⊢
    refine ⟨h1,fun r hr => ?_,?_⟩
    ·rcases List.mem_cons.mp hr with rfl | hr
     ·lia
     ·have:=h2 r hr
      unfold wA at this
      simpa [z] using this
    ·rcases h3 with e | ⟨r,hr,lt,e⟩
     ·exact .inl e
     ·exact .inr ⟨r,by simp [hr],lt,e⟩
theorem zjq {R:List Gate} {a b:Spot} (h:farV R a b=none):∀ g∈R,bw a b g.x→∀ p d,Bey a b g p d→d≤0:=by
 intro g hg hb p d k
 unfold farV at h
 obtain ⟨_,h2,h3⟩:=zco ((wQ R a b).flatMap (beyV a b)) (none,0)
 have hm:=h2 (d,p) (List.mem_flatMap.mpr ⟨g,vB.mpr ⟨hg,hb⟩,zcF.mpr k⟩)
 rcases h3 with e | ⟨q,_,_,e⟩
 ·rw [e] at hm; exact hm
 ·rw [e] at h; cases h
theorem zjp {R:List Gate} {a b p:Spot} (h:farV R a b=some p):∃ g d,g∈R∧bw a b g.x∧Bey a b g p d∧0<d∧∀ g'∈R,bw a b g'.x→∀ p' d',Bey a b g' p' d'→d'≤d:=by
 unfold farV at h
 obtain ⟨_,h2,h3⟩:=zco ((wQ R a b).flatMap (beyV a b)) (none,0)
 rcases h3 with e | ⟨q,hq,lt,e⟩
 ·rw [e] at h; cases h
 ·rw [e] at h h2
  cases h
  obtain ⟨g,hg,hm⟩:=List.mem_flatMap.mp hq
  obtain ⟨k1,k2⟩:=vB.mp hg
  refine ⟨g,q.1,k1,k2,zcF.mp hm,lt,fun g' hg' hb' p' d' k' => ?_⟩
  exact h2 (d',p') (List.mem_flatMap.mpr ⟨g',vB.mpr ⟨hg',hb'⟩,zcF.mpr k'⟩)
@[reducible] noncomputable def tj:FE :=
 fC (.int 0)
@[reducible] noncomputable def uV:FS :=
 ifS (fTrB (f2 gGt (fB gLen (zm (fVar 0) (fNil))) (fC (.int 0))))
 (setS 4 true (f2 gMod (f2 gIx (fVar 0) (f2 gMod (fVar 3) (fB uu (zm (fB gLen (zm (fVar 0) (fNil))) (zm (fC (.int 63)) (fNil)))))) (f2 gAdd (f2 gPow (fC (.int 10)) (fC (.int 60))) (fC (.int 7)))))
 (nxtS)
@[reducible] noncomputable def vF:FS :=
 seqS (setS 4 true (fC (.int 0)))
 (seqS (uV)
 (seqS (setS 5 true (f2 gMod (fVar 3) (fVar 1)))
 (putS 2 (fVar 5) (f2 gMod (f2 gAdd (f2 gAdd (f2 gMul (f2 gIx (fVar 2) (fVar 5)) (fC (.int 48271))) (fVar 4)) (f2 gMul (fVar 3) (fVar 3))) (f2 gAdd (f2 gPow (fC (.int 10)) (fC (.int 60))) (fC (.int 7)))))))
noncomputable def w9:FS :=
 seqS (setS 2 false (yy [] 1 (zcr (zm (fVar 1) (fNil))) (gN 0) (fYes) (tj)))
 (seqS (forS (zcr (zm (fB zez (zm (fVar 1) (zm (fB uu (zm (fB gLen (zm (fVar 0) (fNil))) (zm (fC (.int 63)) (fNil)))) (fNil)))) (fNil))) (gN 3)
 (vF))
 (retS (fVar 2)))
noncomputable def wq:List D→Out Val:=runD 6 w9
theorem zdg:∀ ds v,ds.length=2→wq ds=.ok v→runD 6 w9 ds=.ok v:=fun _ _ _ h=>h
@[reducible] noncomputable def uA:FE :=
 f2 gIx (fVar 0) (fC (.int 0))
@[reducible] noncomputable def x6:FT :=
 fTrB (f2 gEq (f2 gIx (fVar 1) (fC (.int 0))) (fVar 0))
@[reducible] noncomputable def wG:FE :=
 f2 gIx (fVar 1) (fC (.int 1))
@[reducible] noncomputable def zcJ:FS :=
 appS 1 (fTup (zz (fVar 2) (zz (fB uZ (zm (yy [2] 1 (fItL (fVar 0)) (gN 1) (x6) (wG)) (fNil))) (hNil))))
noncomputable def zaS:FS :=
 seqS (setS 1 false (fLst (hNil)))
 (seqS (forS (fItL (f1 vw (yy [] 1 (fItL (fVar 0)) (gN 0) (fYes) (uA)))) (gN 2)
 (zcJ))
 (retS (fVar 1)))
noncomputable def uU:List D→Out Val:=runD 3 zaS
theorem zgg:∀ ds v,ds.length=1→uU ds=.ok v→runD 3 zaS ds=.ok v:=fun _ _ _ h=>h
@[reducible] noncomputable def zew:FS :=
 ifS (fTrB (f2 gGt (fVar 5) (fC (.int 0))))
 (setS 6 true (f2 gIx (fVar 4) (f2 gSub (fVar 5) (fC (.int 1)))))
 (nxtS)
@[reducible] noncomputable def zcn:FS :=
 ifS (fTrB (f2 gLt (fVar 5) (fB gLen (zm (fVar 4) (fNil)))))
 (setS 7 true (f2 gIx (fVar 4) (fVar 5)))
 (nxtS)
noncomputable def zdC:FS :=
 seqS (asgS (gT [3,4]) (fVar 0))
 (seqS (setS 5 true (f2 gMod (fVar 1) (f2 gAdd (fB gLen (zm (fVar 4) (fNil))) (fC (.int 1)))))
 (seqS (setS 6 true (fC .non))
 (seqS (setS 7 true (fC .non))
 (seqS (zew)
 (seqS (zcn)
 (retS (fTup (zz (fVar 3) (zz (fVar 6) (zz (fVar 7) (zz (fVar 2) (hNil))))))))))))
noncomputable def zby:List D→Out Val:=runD 8 zdC
theorem zhr:∀ ds v,ds.length=3→zby ds=.ok v→runD 8 zdC ds=.ok v:=fun _ _ _ h=>h
@[reducible] noncomputable def zfK:FS :=
 ifS (fOr (fTrB (f2 gEq (fVar 4) (fB gLen (zm (fVar 0) (fNil))))) (fAnd (fTrB (f2 gGt (fVar 4) (fC (.int 0)))) (fTrB (f2 gEq (f2 gMod (fVar 5) (fC (.int 2))) (fC (.int 1))))))
 (setS 6 true (f1 gNeg (fC (.int 1))))
 (nxtS)
@[reducible] noncomputable def zdu:FS :=
 ifS (fAnd (fTrB (f2 gNe (fVar 3) (fLst (hNil)))) (fTrB (f2 gEq (f2 gIx (fVar 3) (f1 gNeg (fC (.int 1)))) (f2 zeA (fSl (fVar 7) (fNo) (fSo (fC (.int 3)))) (fTup (zz (f2 gSub (fC (.int 0)) (fVar 6)) (hNil)))))))
 (popS 3)
 (appS 3 (fVar 7))
@[reducible] noncomputable def zfZ:FS :=
 seqS (setS 6 true (fC (.int 1)))
 (seqS (zfK)
 (seqS (setS 7 true (zM zby (zm (f2 gIx (fVar 0) (fB uu (zm (fVar 4) (zm (f2 gSub (f2 gAdd (fVar 4) (fVar 6)) (fB gInt (zm (f2 gEq (fVar 6) (fC (.int 1))) (fNil)))) (fNil))))) (zm (f2 gDiv (fVar 5) (fC (.int 2))) (zm (fVar 6) (fNil))))))
 (seqS (setS 4 true (f2 gAdd (fVar 4) (fVar 6)))
 (zdu))))
noncomputable def zhU:FS :=
 seqS (setS 3 false (fLst (hNil)))
 (seqS (setS 4 true (fVar 1))
 (seqS (forS (fItL (fVar 2)) (gN 5)
 (zfZ))
 (frzS 3 (retS (fTup (zz (fVar 3) (zz (fVar 4) (hNil))))))))
noncomputable def zgh:List D→Out Val:=runD 8 zhU
theorem zi5:∀ ds v,ds.length=3→zgh ds=.ok v→runD 8 zhU ds=.ok v:=fun _ _ _ h=>h
@[reducible] noncomputable def zes:FS :=
 ifS (fTrB (f2 gEq (fVar 0) (fLst (hNil))))
 (retS (fTup (zz (f2 gMod (fVar 2) (fC (.int 9))) (zz (f2 gSub (f2 gMod (f2 gDiv (fVar 2) (fC (.int 9))) (fC (.int 11))) (fC (.int 1))) (hNil)))))
 (nxtS)
@[reducible] noncomputable def zep:FS :=
 ifS (fTrB (f2 gLt (fVar 1) (fB gLen (zm (fVar 0) (fNil)))))
 (retS (fTup (zz (f2 gSub (f2 gIx (f2 gIx (fVar 0) (fVar 1)) (fC (.int 0))) (fC (.int 1))) (zz (f2 gSub (f2 gMod (fVar 2) (fC (.int 11))) (fC (.int 1))) (hNil)))))
 (nxtS)
noncomputable def tW:FS :=
 seqS (zes)
 (seqS (zep)
 (retS (fTup (zz (f2 gAdd (f2 gIx (f2 gIx (fVar 0) (f1 gNeg (fC (.int 1)))) (fC (.int 0))) (fC (.int 1))) (zz (f2 gSub (f2 gMod (fVar 2) (fC (.int 11))) (fC (.int 1))) (hNil))))))
noncomputable def wL:List D→Out Val:=runD 3 tW
theorem zhn:∀ ds v,ds.length=3→wL ds=.ok v→runD 3 tW ds=.ok v:=fun _ _ _ h=>h
@[reducible] noncomputable def zaQ:FS :=
 ifS (fTrB (f2 xP (fVar 5) (fC .non)))
 (setS 5 true (f2 gAdd (f2 gMul (fVar 5) (fVar 1)) (f2 gIx (fVar 2) (fC (.int 1)))))
 (nxtS)
@[reducible] noncomputable def zaM:FS :=
 ifS (fTrB (f2 xP (fVar 6) (fC .non)))
 (setS 6 true (f2 gAdd (f2 gMul (fVar 6) (fVar 1)) (f2 gIx (fVar 2) (fC (.int 1)))))
 (nxtS)
@[reducible] noncomputable def uJ:FS :=
 seqS (zaQ)
 (seqS (zaM)
 (appS 3 (fTup (zz (f2 gAdd (fVar 4) (f2 gIx (fVar 2) (fC (.int 0)))) (zz (fVar 5) (zz (fVar 6) (zz (fVar 7) (hNil))))))))
noncomputable def uv:FS :=
 seqS (setS 3 false (fLst (hNil)))
 (seqS (forS (fItL (fVar 0)) (gT [4,5,6,7])
 (uJ))
 (retS (fVar 3)))
noncomputable def vo:List D→Out Val:=runD 8 uv
theorem zef:∀ ds v,ds.length=3→vo ds=.ok v→runD 8 uv ds=.ok v:=fun _ _ _ h=>h
@[reducible] noncomputable def zaR:FS :=
 ifS (fOr (fNot (fTr (fVar 1))) (fTrB (f2 gNe (f2 gIx (fVar 1) (f1 gNeg (fC (.int 1)))) (fVar 2))))
 (appS 1 (fVar 2))
 (nxtS)
@[reducible] noncomputable def xY:FS :=
 zaR
noncomputable def yQ:FS :=
 seqS (setS 1 false (fLst (hNil)))
 (seqS (forS (fItL (fVar 0)) (gN 2)
 (xY))
 (retS (fVar 1)))
noncomputable def ye:List D→Out Val:=runD 3 yQ
theorem uR:∀ ds v,ds.length=1→ye ds=.ok v→runD 3 yQ ds=.ok v:=fun _ _ _ h=>h
theorem zgz (k:List Spot) (p:Spot):(vO k p).length≤k.length+1:=by
 unfold vO
 split
 ·split
  ·lia
  ·simp
 ·simp
theorem zcW (s0:Slot):∀ (ps k:List Spot) (s2:Slot),k.length+ps.length≤10000→∃ s2',forD (gN 2) xY (ps.map zf) [s0,.own (k.map zf),s2]=.ok (.next [s0,.own ((ps.foldl vO k).map zf),s2'])
 | [],k,s2,_=>⟨s2,rfl⟩
 | p::ps,k,s2,hl=>by
   have hu:=zgz k p
   obtain ⟨s2',e⟩:=zcW s0 ps (vO k p) (.pers (zf p)) (by simp at hl; lia)
   refine ⟨s2',?_⟩
   have hg:gN 2 (zf p) [s0,.own (k.map zf),s2]=.ok [s0,.own (k.map zf),.pers (zf p)]:=rfl
   have hlt:k.length<100000:=by simp at hl; lia
   have hb:xY [s0,.own (k.map zf),.pers (zf p)]=.ok (.next [s0,.own ((vO k p).map zf),.pers (zf p)]):=by
    have hap:appS 1 (fVar 2) [s0,.own (k.map zf),.pers (zf p)]=.ok (.next [s0,.own ((k++[p]).map zf),.pers (zf p)]):=by simp [hlt]
    unfold vO
    cases q:k.getLast? with
    | none =>
      have:k=[]:=List.getLast?_eq_none_iff.mp q
      subst this
      rfl
    | some t =>
      have hne:k≠[]:=fun z=>by subst z; cases q
      have hat:atI (k.map zf) (-1)=some (zf t):=by
       rw [zbU,List.length_map,List.getElem?_map,←List.getLast?_eq_getElem?,q]
       rfl
      have c:fOr (fNot (fTr (fVar 1))) (fTrB (f2 gNe (f2 gIx (fVar 1) (f1 gNeg (fC (.int 1)))) (fVar 2))) [s0,.own (k.map zf),.pers (zf p)]=.ok (decide (t≠p)):=by
       have t1:fTr (fVar 1) [s0,.own (k.map zf),.pers (zf p)]=.ok true:=by
        cases k with
        | nil=>exact absurd rfl hne
        | cons x r=>rfl
       have t2:fTrB (f2 gNe (f2 gIx (fVar 1) (f1 gNeg (fC (.int 1)))) (fVar 2)) [s0,.own (k.map zf),.pers (zf p)]=.ok (decide (t≠p)):=by
        have:f2 gNe (f2 gIx (fVar 1) (f1 gNeg (fC (.int 1)))) (fVar 2) [s0,.own (k.map zf),.pers (zf p)]=gNe (zf t) (zf p):=by
         have e1:f2 gIx (fVar 1) (f1 gNeg (fC (.int 1))) [s0,.own (k.map zf),.pers (zf p)]=.ok (.pers (zf t)):=by
          show gIx (.lst (k.map zf)) (.int (-1))=_
          simp only [gIx,hat]
         show ((f2 gIx (fVar 1) (f1 gNeg (fC (.int 1))) [s0,.own (k.map zf),.pers (zf p)]).bind _)=_
         rw [e1]
         rfl
        unfold fTrB
        rw [this]
        simp [wm,zaT]
       simp only [fOr,fNot,t1,t2,zk]
       rfl
      by_cases z:t=p
      ·rw [decide_eq_false (fun w=>w z)] at c
       simp only [ifS,c,zk,Bool.false_eq_true,if_false,z,if_true]
       rfl
      ·rw [decide_eq_true z] at c
       simp only [ifS,c,zk,if_true,z,if_false]
       exact hap
   rw [List.map_cons,forD,hg,zk,hb,zk]
   exact e
theorem ziJ {ps:List Spot} (hl:ps.length≤10000):ye [.lst (ps.map zf)]=.ok (.fresh ((ps.foldl vO []).map zf)):=by
 obtain ⟨s2,e⟩:=zcW (.pers (.lst (ps.map zf))) ps [] .un (by simpa using hl)
 unfold ye
 show ((yQ [.pers (.lst (ps.map zf)),.un,.un]).bind _)=_
 unfold yQ
 rw [zj (env':=[.pers (.lst (ps.map zf)),.own [],.un]) rfl]
 rw [zj (by
  have hi:fItL (fVar 0) [.pers (.lst (ps.map zf)),.own [],.un]=.ok (ps.map zf):=rfl
  simp only [forS,hi,zk]
  exact e)]
 rfl
noncomputable def yS:FS :=
 retS (zcs (f2 xP (f2 gIx (fVar 0) (fC (.int 2))) (fC .non)) (zcs (f2 xP (f2 gIx (fVar 1) (fC (.int 1))) (fC .non)) (f2 gLe (f2 gIx (fVar 0) (fC (.int 2))) (f2 gIx (fVar 1) (fC (.int 1))))))
noncomputable def yf:List D→Out Val:=runD 2 yS
theorem uT:∀ ds v,ds.length=2→yf ds=.ok v→runD 2 yS ds=.ok v:=fun _ _ _ h=>h
theorem zjL (g h:Gate):yf [zi g,zi h]=.ok (.pers (.bl (yz g h))):=by
 unfold yf
 show ((yS [.pers (zi g),.pers (zi h)]).bind _)=_
 unfold yS yz
 have e1:f2 gIx (fVar 0) (fC (.int 2)) [.pers (zi g),.pers (zi h)]=.ok (.pers (optD g.hi)):=rfl
 have e2:f2 gIx (fVar 1) (fC (.int 1)) [.pers (zi g),.pers (zi h)]=.ok (.pers (optD h.lo)):=rfl
 have n1:f2 xP (f2 gIx (fVar 0) (fC (.int 2))) (fC .non) [.pers (zi g),.pers (zi h)]=xP (optD g.hi) .non:=rfl
 have n2:f2 xP (f2 gIx (fVar 1) (fC (.int 1))) (fC .non) [.pers (zi g),.pers (zi h)]=xP (optD h.lo) .non:=rfl
 have n3:f2 gLe (f2 gIx (fVar 0) (fC (.int 2))) (f2 gIx (fVar 1) (fC (.int 1))) [.pers (zi g),.pers (zi h)]=gLe (optD g.hi) (optD h.lo):=rfl
 simp only [retS,zcs,n1,n2,n3]
 cases g.hi with
 | none=>rfl
 | some u =>
   cases h.lo with
   | none=>rfl
   | some v=>rfl
@[reducible] noncomputable def xm:FS :=
 ifS (fTr (zM yf (zm (fVar 0) (zm (fVar 1) (fNil)))))
 (retS (fTup (zz (fTup (zz (fVar 2) (zz (f2 gIx (fVar 0) (fC (.int 2))) (hNil)))) (zz (fTup (zz (fVar 2) (zz (f2 gIx (fVar 1) (fC (.int 1))) (hNil)))) (hNil)))))
 (nxtS)
noncomputable def yr:FS :=
 seqS (setS 2 true (f2 gIx (fVar 0) (fC (.int 0))))
 (seqS (xm)
 (retS (fTup (zz (fTup (zz (fVar 2) (zz (f2 gIx (fVar 0) (fC (.int 1))) (hNil)))) (zz (fTup (zz (fVar 2) (zz (f2 gIx (fVar 1) (fC (.int 2))) (hNil)))) (hNil))))))
noncomputable def zY:List D→Out Val:=runD 3 yr
theorem vQ:∀ ds v,ds.length=2→zY ds=.ok v→runD 3 yr ds=.ok v:=fun _ _ _ h=>h
theorem zf3 {g h:Gate} (ok:TurnOk g h):zY [zi g,zi h]=.ok (.pers (.tup [zf (zJ g h).1,zf (zJ g h).2])):=by
 have hb:zM yf (zm (fVar 0) (zm (fVar 1) (fNil))) [.pers (zi g),.pers (zi h),.pers (.int g.x)]=.ok (.pers (.bl (yz g h))):=by
  show ((yf [zi g,zi h]).bind _)=_
  rw [zjL]
  rfl
 unfold zY
 show ((yr [.pers (zi g),.pers (zi h),.un]).bind _)=_
 unfold yr zJ
 rw [zj (env':=[.pers (zi g),.pers (zi h),.pers (.int g.x)]) rfl]
 cases q:yz g h with
 | true =>
   rw [q] at hb
   unfold yz at q
   cases a:g.hi with
   | none=>rw [a] at q; cases q
   | some u =>
     cases b:h.lo with
     | none=>rw [a,b] at q; cases q
     | some v =>
       rw [yB (v:=.pers (.tup [zf (g.x,u),zf (g.x,v)])) (by
        simp only [xm,ifS,fTr,hb,zk,Val.d,trD,if_true]
        show Out.ok (Res.ret (Val.pers (.tup [.tup [.int g.x,optD g.hi],.tup [.int g.x,optD h.lo]])))=_
        rw [a,b]
        rfl)]
       rfl
 | false =>
   rw [q] at hb
   rcases ok.one with ⟨u,v,e1,e2,l⟩ | ⟨u,v,e1,e2,l⟩
   ·unfold yz at q
    rw [e1,e2] at q
    exact absurd l (of_decide_eq_false q)
   ·rw [zj (env':=[.pers (zi g),.pers (zi h),.pers (.int g.x)]) (by
     simp only [xm,ifS,fTr,hb,zk,Val.d,trD]
     rfl)]
    show Out.ok (Val.pers (.tup [.tup [.int g.x,optD g.lo],.tup [.int g.x,optD h.hi]]))=_
    rw [e1,e2]
    rfl
@[reducible] noncomputable def wT:FT :=
 fTrB (fCh gLt gLt (fVar 0) (f2 gIx (fVar 2) (fC (.int 0))) (fVar 1))
@[reducible] noncomputable def zdF:FE :=
 fVar 2
@[reducible] noncomputable def zdt:FS :=
 ifS (fTrB (f2 gLt (fVar 2) (fVar 3)))
 (retS (yy [2,3] 1 (fItL (fVar 0)) (gN 2) (wT) (zdF)))
 (nxtS)
@[reducible] noncomputable def wS:FT :=
 fTrB (fCh gLt gLt (fVar 0) (f2 gIx (fVar 2) (fC (.int 0))) (fVar 1))
@[reducible] noncomputable def zdE:FE :=
 fVar 2
noncomputable def xo:FS :=
 seqS (setS 2 true (f2 gIx (f2 gIx (fVar 1) (fC (.int 0))) (fC (.int 0))))
 (seqS (setS 3 true (f2 gIx (f2 gIx (fVar 1) (fC (.int 1))) (fC (.int 0))))
 (seqS (zdt)
 (retS (yy [3,2] 1 (fRev (fVar 0)) (gN 2) (wS) (zdE)))))
noncomputable def yD:List D→Out Val:=runD 4 xo
theorem zbf:∀ ds v,ds.length=2→yD ds=.ok v→runD 4 xo ds=.ok v:=fun _ _ _ h=>h
theorem tX {ft:FT} (x y:Int) (p:Gate→Bool) (hp:∀ l,ft [.pers (.int x),.pers (.int y),.pers (zi l)]=.ok (p l)) (B:List Gate) :
 compD (gN 2) ft (fVar 2) (B.map zi) [.pers (.int x),.pers (.int y),.un]=.ok ((B.filter p).map zi):=by
 rw [yT (fun env=>∃ s2,env=[.pers (.int x),.pers (.int y),s2]) zi (fun l=>if p l=true then some (zi l) else none) B [.pers (.int x),.pers (.int y),.un] ⟨_,rfl⟩ (fun l env _ ⟨s2,he⟩=>by
  subst he
  refine ⟨[.pers (.int x),.pers (.int y),.pers (zi l)],rfl,⟨_,rfl⟩,?_⟩
  have h:=hp l
  cases q:p l with
  | true=>rw [q] at h; exact .inr ⟨zi l,.pers (zi l),by simp,h,rfl,rfl⟩
  | false=>rw [q] at h; exact .inl ⟨by simp,h⟩)]
 rw [x9]
theorem zgm {B:List Gate} (hl:B.length≤1000) (q:Spot×Spot):yD [.lst (B.map zi),strD q]=.ok (.fresh ((wQ B q.1 q.2).map zi)):=by
 unfold yD
 show (xo [.pers (.lst (B.map zi)),.pers (strD q),.un,.un]).bind _=_
 have h0:xo [.pers (.lst (B.map zi)),.pers (strD q),.un,.un]=.ok (.ret (.fresh ((wQ B q.1 q.2).map zi))):=by
  unfold xo
  rw [zj (env':=[.pers (.lst (B.map zi)),.pers (strD q),.pers (.int q.1.1),.un]) (by simp [strD,ats0,zf,at0]; rfl)]
  rw [zj (env':=[.pers (.lst (B.map zi)),.pers (strD q),.pers (.int q.1.1),.pers (.int q.2.1)]) (by simp [strD,ats1,zf,at0]; rfl)]
  have hl2:B.length≤100000:=by lia
  unfold wQ
  by_cases hlt:q.1.1<q.2.1
  ·rw [if_pos hlt]
   have hc:=tX (ft:=wT) q.1.1 q.2.1 (fun l=>decide (q.1.1<l.x)&&decide (l.x<q.2.1)) (fun l=>by
    by_cases h1:q.1.1<l.x
    ·simp [zi,ag0,h1]
    ·simp [zi,ag0,h1]) B
   refine yB ?_
   simp only [ifS]
   have ht:fTrB (f2 gLt (fVar 2) (fVar 3)) [.pers (.lst (B.map zi)),.pers (strD q),.pers (.int q.1.1),.pers (.int q.2.1)]=.ok true:=by simp [hlt]
   rw [ht,zk,if_pos rfl]
   simp only [retS,yy,fItL,fVar,List.getElem?_cons_zero,zk,Val.hold,List.length_map,hl2,if_true]
   show ((compD (gN 2) wT (fVar 2) (B.map zi) [.pers (.int q.1.1),.pers (.int q.2.1),.un]).bind _).bind _=_
   rw [hc]
   rfl
  ·rw [if_neg hlt]
   have hc:=tX (ft:=wS) q.2.1 q.1.1 (fun l=>decide (q.2.1<l.x)&&decide (l.x<q.1.1)) (fun l=>by
    by_cases h1:q.2.1<l.x
    ·simp [zi,ag0,h1]
    ·simp [zi,ag0,h1]) B.reverse
   have ht:fTrB (f2 gLt (fVar 2) (fVar 3)) [.pers (.lst (B.map zi)),.pers (strD q),.pers (.int q.1.1),.pers (.int q.2.1)]=.ok false:=by simp [hlt]
   rw [zj (env':=[.pers (.lst (B.map zi)),.pers (strD q),.pers (.int q.1.1),.pers (.int q.2.1)]) (by simp only [ifS]; rw [ht,zk]; rfl)]
   simp only [retS,yy,fRev,fVar,List.getElem?_cons_zero,zk,Val.hold,List.length_reverse,List.length_map,hl2,if_true]
   rw [←List.map_reverse]
   show ((compD (gN 2) wS (fVar 2) (B.reverse.map zi) [.pers (.int q.2.1),.pers (.int q.1.1),.un]).bind _).bind _=_
   rw [hc]
   rfl
 rw [h0]
 rfl
noncomputable def xn:FS :=
 seqS (setS 2 true (f2 gIx (fVar 0) (fC (.int 0))))
 (seqS (setS 3 true (f2 gIx (fVar 0) (fC (.int 1))))
 (seqS (setS 4 true (f2 gSub (f2 gIx (fVar 3) (fC (.int 0))) (f2 gIx (fVar 2) (fC (.int 0)))))
 (seqS (setS 5 true (f2 gSub (f2 gMul (fVar 4) (f2 gSub (f2 gIx (fVar 1) (fC (.int 1))) (f2 gIx (fVar 2) (fC (.int 1))))) (f2 gMul (f2 gSub (f2 gIx (fVar 3) (fC (.int 1))) (f2 gIx (fVar 2) (fC (.int 1)))) (f2 gSub (f2 gIx (fVar 1) (fC (.int 0))) (f2 gIx (fVar 2) (fC (.int 0)))))))
 (retS (fIf (fTrB (f2 gGt (fVar 4) (fC (.int 0)))) (fVar 5) (f1 gNeg (fVar 5)))))))
noncomputable def yY:List D→Out Val:=runD 6 xn
theorem zbe:∀ ds v,ds.length=2→yY ds=.ok v→runD 6 xn ds=.ok v:=fun _ _ _ h=>h
theorem zkz {q:Spot×Spot} {p:Spot} (hn:near q.1 q.2) (hx : -(2^64)<p.1 - q.1.1∧p.1 - q.1.1<2^64):yY [strD q,zf p]=.ok (.pers (.int (xc q.1 q.2 p))):=by
 have c1:∀ j,cMul (q.2.1 - q.1.1) j=true:=fun j=>za2 hn.1 hn.2
 have c2:∀ j,cMul j (p.1 - q.1.1)=true:=fun j=>xD hx.1 hx.2
 unfold yY
 show (xn [.pers (strD q),.pers (zf p),.un,.un,.un,.un]).bind _=_
 have h0:xn [.pers (strD q),.pers (zf p),.un,.un,.un,.un]=.ok (.ret (.pers (.int (xc q.1 q.2 p)))):=by
  unfold xn
  rw [zj (env':=[.pers (strD q),.pers (zf p),.pers (zf q.1),.un,.un,.un]) (by simp [strD,ats0])]
  rw [zj (env':=[.pers (strD q),.pers (zf p),.pers (zf q.1),.pers (zf q.2),.un,.un]) (by simp [strD,ats1])]
  rw [zj (env':=[.pers (strD q),.pers (zf p),.pers (zf q.1),.pers (zf q.2),.pers (.int (q.2.1 - q.1.1)),.un]) (by simp [zf,at0])]
  rw [zj (env':=[.pers (strD q),.pers (zf p),.pers (zf q.1),.pers (zf q.2),.pers (.int (q.2.1 - q.1.1)),.pers (.int (xi q.1 q.2 p))]) (by simp [zf,at0,at1,c1,c2,xi])]
  unfold xc
  by_cases hp:0<q.2.1 - q.1.1
  ·have hp':q.1.1<q.2.1:=by lia
   simp [hp']
  ·have hp':¬ q.1.1<q.2.1:=by lia
   simp [hp']
 rw [h0]
 rfl
@[reducible] noncomputable def wN:FS :=
 ifS (fTrB (f2 xP (f2 gIx (fVar 1) (fC (.int 1))) (fC .non)))
 (seqS (setS 3 true (fTup (zz (f2 gIx (fVar 1) (fC (.int 0))) (zz (f2 gIx (fVar 1) (fC (.int 1))) (hNil)))))
 (appS 2 (fTup (zz (zM yY (zm (fVar 0) (zm (fVar 3) (fNil)))) (zz (fVar 3) (hNil))))))
 (nxtS)
@[reducible] noncomputable def wM:FS :=
 ifS (fTrB (f2 xP (f2 gIx (fVar 1) (fC (.int 2))) (fC .non)))
 (seqS (setS 4 true (fTup (zz (f2 gIx (fVar 1) (fC (.int 0))) (zz (f2 gIx (fVar 1) (fC (.int 2))) (hNil)))))
 (appS 2 (fTup (zz (f1 gNeg (zM yY (zm (fVar 0) (zm (fVar 4) (fNil))))) (zz (fVar 4) (hNil))))))
 (nxtS)
noncomputable def yJ:FS :=
 seqS (setS 2 false (fLst (hNil)))
 (seqS (wN)
 (seqS (wM)
 (retS (fVar 2))))
noncomputable def zV:List D→Out Val:=runD 5 yJ
theorem uq:∀ ds v,ds.length=2→zV ds=.ok v→runD 5 yJ ds=.ok v:=fun _ _ _ h=>h
noncomputable def bD (q:Int×Spot):D:=.tup [.int q.1,zf q.2]
theorem zim {a b:Spot} {g:Gate} (hn:near a b) (hx : -(2^64)<g.x - a.1∧g.x - a.1<2^64):zV [strD (a,b),zi g]=.ok (.fresh ((beyV a b g).map bD)):=by
 have sd:∀ y,yY [strD (a,b),.tup [.int g.x,.int y]]=.ok (.pers (.int (xc a b (g.x,y)))):=fun y=>zkz (q:=(a,b)) (p:=(g.x,y)) hn hx
 have i1:∃ s3,wN [.pers (strD (a,b)),.pers (zi g),.own [],.un,.un]=.ok (.next [.pers (strD (a,b)),.pers (zi g),.own ((match g.lo with | some y=>[(xc a b (g.x,y),(g.x,y))] | none=>[]).map bD),s3,.un]):=by
  cases h:g.lo with
  | none=>exact ⟨.un,by simp [zi,optD,h,ag1]⟩
  | some y=>exact ⟨.pers (.tup [.int g.x,.int y]),by simp [zi,optD,h,ag0,ag1,sd,bD,zf]⟩
 obtain ⟨s3,i1⟩:=i1
 generalize hL:(match g.lo with | some y=>[(xc a b (g.x,y),(g.x,y))] | none=>[])=L at i1
 have hl:L.length<100000:=by rw [←hL]; split <;> simp
 have i2:∃ s4,wM [.pers (strD (a,b)),.pers (zi g),.own (L.map bD),s3,.un]=.ok (.next [.pers (strD (a,b)),.pers (zi g),.own ((L++(match g.hi with | some y=>[(-xc a b (g.x,y),(g.x,y))] | none=>[])).map bD),s3,s4]):=by
  cases h:g.hi with
  | none=>exact ⟨.un,by simp [zi,optD,h,ag2]⟩
  | some y=>exact ⟨.pers (.tup [.int g.x,.int y]),by simp [zi,optD,h,ag0,ag2,sd,bD,zf,hl]⟩
 obtain ⟨s4,i2⟩:=i2
 unfold zV
 show ((yJ [.pers (strD (a,b)),.pers (zi g),.un,.un,.un]).bind _)=_
 unfold yJ
 rw [zj (env':=[.pers (strD (a,b)),.pers (zi g),.own [],.un,.un]) rfl,zj i1,zj i2]
 unfold beyV
 rw [hL]
 rfl
@[reducible] noncomputable def vI:FS :=
 ifS (fTrB (f2 gGt (fVar 5) (fVar 3)))
 (seqS (setS 2 true (fVar 6))
 (setS 3 true (fVar 5)))
 (nxtS)
@[reducible] noncomputable def yO:FS :=
 vI
@[reducible] noncomputable def yN:FS :=
 forS (fItL (zM zV (zm (fVar 0) (zm (fVar 4) (fNil))))) (gT [5,6])
 (yO)
noncomputable def z9:FS :=
 seqS (setS 2 true (fC .non))
 (seqS (setS 3 true (fC (.int 0)))
 (seqS (forS (fItL (zM yD (zm (fVar 1) (zm (fVar 0) (fNil))))) (gN 4)
 (yN))
 (retS (fVar 2))))
noncomputable def zR:List D→Out Val:=runD 7 z9
theorem wR:∀ ds v,ds.length=2→zR ds=.ok v→runD 7 z9 ds=.ok v:=fun _ _ _ h=>h
noncomputable def optS:Option Spot→D
 | some p=>zf p
 | none=>.non
theorem zdx {q g:D} (run:D):∀ (l:List (Int×Spot)) (st:Option Spot×Int) (s5 s6:Slot),∃ s5' s6',forD (gT [5,6]) yO (l.map bD) [.pers q,.pers run,.pers (optS st.1),.pers (.int st.2),.pers g,s5,s6]=.ok (.next [.pers q,.pers run,.pers (optS (l.foldl wA st).1),.pers (.int (l.foldl wA st).2),.pers g,s5',s6'])
 | [],st,s5,s6=>⟨s5,s6,rfl⟩
 | x::l,st,s5,s6=>by
   obtain ⟨s5',s6',e⟩:=zdx (q:=q) (g:=g) run l (wA st x) (.pers (.int x.1)) (.pers (zf x.2))
   refine ⟨s5',s6',?_⟩
   have hg:gT [5,6] (bD x) [.pers q,.pers run,.pers (optS st.1),.pers (.int st.2),.pers g,s5,s6]=.ok [.pers q,.pers run,.pers (optS st.1),.pers (.int st.2),.pers g,.pers (.int x.1),.pers (zf x.2)]:=rfl
   have hb:yO [.pers q,.pers run,.pers (optS st.1),.pers (.int st.2),.pers g,.pers (.int x.1),.pers (zf x.2)]=.ok (.next [.pers q,.pers run,.pers (optS (wA st x).1),.pers (.int (wA st x).2),.pers g,.pers (.int x.1),.pers (zf x.2)]):=by
    unfold wA
    by_cases z:st.2<x.1
    ·simp [z,optS]
    ·simp [z]
   rw [List.map_cons,forD,hg,zk,hb,zk]
   exact e
theorem zdw {a b:Spot} {run:D} (hn:near a b):∀ (l:List Gate) (st:Option Spot×Int) (s4 s5 s6:Slot),(∀ g∈l,-(2^64)<g.x - a.1∧g.x - a.1<2^64) →
 ∃ s4' s5' s6',forD (gN 4) yN (l.map zi) [.pers (strD (a,b)),.pers run,.pers (optS st.1),.pers (.int st.2),s4,s5,s6]=.ok (.next [.pers (strD (a,b)),.pers run,.pers (optS ((l.flatMap (beyV a b)).foldl wA st).1),.pers (.int ((l.flatMap (beyV a b)).foldl wA st).2),s4',s5',s6'])
 | [],st,s4,s5,s6,_=>⟨s4,s5,s6,rfl⟩
 | g::l,st,s4,s5,s6,hx=>by
   obtain ⟨t5,t6,e1⟩:=zdx (q:=strD (a,b)) (g:=zi g) run (beyV a b g) st s5 s6
   obtain ⟨u4,u5,u6,e2⟩:=zdw (run:=run) hn l ((beyV a b g).foldl wA st) (.pers (zi g)) t5 t6 (fun x hm=>hx x (by simp [hm]))
   refine ⟨u4,u5,u6,?_⟩
   have hi:fItL (zM zV (zm (fVar 0) (zm (fVar 4) (fNil)))) [.pers (strD (a,b)),.pers run,.pers (optS st.1),.pers (.int st.2),.pers (zi g),s5,s6]=.ok ((beyV a b g).map bD):=by
    have:zM zV (zm (fVar 0) (zm (fVar 4) (fNil))) [.pers (strD (a,b)),.pers run,.pers (optS st.1),.pers (.int st.2),.pers (zi g),s5,s6]=.ok (.fresh ((beyV a b g).map bD)):=by
     show ((zV [strD (a,b),zi g]).bind _)=_
     rw [zim hn (hx g (by simp))]
     rfl
    simp only [fItL,this,zk]
    rfl
   have hb:yN [.pers (strD (a,b)),.pers run,.pers (optS st.1),.pers (.int st.2),.pers (zi g),s5,s6]=.ok (.next [.pers (strD (a,b)),.pers run,.pers (optS ((beyV a b g).foldl wA st).1),.pers (.int ((beyV a b g).foldl wA st).2),.pers (zi g),t5,t6]):=by
    simp only [forS,hi,zk]
    exact e1
   have hg:gN 4 (zi g) [.pers (strD (a,b)),.pers run,.pers (optS st.1),.pers (.int st.2),s4,s5,s6]=.ok [.pers (strD (a,b)),.pers run,.pers (optS st.1),.pers (.int st.2),.pers (zi g),s5,s6]:=rfl
   rw [List.map_cons,forD,hg,zk,hb,zk,List.flatMap_cons,List.foldl_append]
   exact e2
theorem zm3 {a b:Spot} {run:List Gate} (hn:near a b) (hl:run.length≤1000):zR [strD (a,b),.lst (run.map zi)]=.ok (.pers (optS (farV run a b))):=by
 have hc:=zgm hl (a,b)
 have hx:∀ g∈wQ run a b,-(2^64)<g.x - a.1∧g.x - a.1<2^64:=fun g hg=>by
  obtain ⟨_,hb⟩:=vB.mp hg
  obtain ⟨h1,h2⟩:=hn
  rcases hb with z | z <;> lia
 obtain ⟨s4,s5,s6,e⟩:=zdw (run:=.lst (run.map zi)) hn (wQ run a b) (none,0) .un .un .un hx
 have hi:fItL (zM yD (zm (fVar 1) (zm (fVar 0) (fNil)))) [.pers (strD (a,b)),.pers (.lst (run.map zi)),.pers .non,.pers (.int 0),.un,.un,.un]=.ok ((wQ run a b).map zi):=by
  have:zM yD (zm (fVar 1) (zm (fVar 0) (fNil))) [.pers (strD (a,b)),.pers (.lst (run.map zi)),.pers .non,.pers (.int 0),.un,.un,.un]=.ok (.fresh ((wQ run a b).map zi)):=by
   show ((yD [.lst (run.map zi),strD (a,b)]).bind _)=_
   rw [hc]
   rfl
  simp only [fItL,this,zk]
  rfl
 unfold zR
 show ((z9 [.pers (strD (a,b)),.pers (.lst (run.map zi)),.un,.un,.un,.un,.un]).bind _)=_
 unfold z9
 rw [zj (env':=[.pers (strD (a,b)),.pers (.lst (run.map zi)),.pers .non,.un,.un,.un,.un]) rfl,zj (env':=[.pers (strD (a,b)),.pers (.lst (run.map zi)),.pers .non,.pers (.int 0),.un,.un,.un]) rfl]
 rw [zj (by
  simp only [forS,hi,zk]
  exact e)]
 rfl
@[reducible] noncomputable def yh:FT :=
 fTr (fVar 4)
@[reducible] noncomputable def zaN:FS :=
 ifS (fTrB (f2 gIsN (fVar 5) (fC .non)))
 (zcL 3 4)
 (appS 4 (fVar 5))
@[reducible] noncomputable def yj:FS :=
 seqS (setS 5 true (zM zR (zm (fTup (zz (f2 gIx (fVar 3) (f1 gNeg (fC (.int 1)))) (zz (f2 gIx (fVar 4) (f1 gNeg (fC (.int 1)))) (hNil)))) (zm (fVar 1) (fNil)))))
 (zaN)
noncomputable def yR:FS :=
 seqS (setS 3 false (fLst (zz (fVar 0) (hNil))))
 (seqS (setS 4 false (fLst (zz (fVar 2) (hNil))))
 (seqS (whlD (yh)
 (yj) 100)
 (retS (fSl (fVar 3) (fSo (fC (.int 1))) (fNo)))))
noncomputable def zT:List D→Out Val:=runD 6 yR
theorem uS:∀ ds v,ds.length=3→zT ds=.ok v→runD 6 yR ds=.ok v:=fun _ _ _ h=>h
noncomputable def cnt (R:List Gate) (a b:Int):Nat:=R.countP fun g=>decide ((a<g.x∧g.x<b)∨(b<g.x∧g.x<a))
theorem zkk {a p b:Int} (h:(a<p∧p<b)∨(b<p∧p<a)):∀ R:List Gate,cnt R a p+cnt R p b+R.countP (fun g=>decide (g.x=p))≤cnt R a b
 | []=>by simp [cnt]
 | g::R=>by
   have ih:=zkk h R
   unfold cnt at ih ⊢
   simp only [List.countP_cons,decide_eq_true_eq]
   split <;> split <;> split <;> split <;> lia
theorem zic {R:List Gate} {a p b:Int} {g:Gate} (hg:g∈R) (hx:g.x=p) (h:(a<p∧p<b)∨(b<p∧p<a)):cnt R a p+cnt R p b+1≤cnt R a b:=by
 have:=zkk h R
 have:0<R.countP (fun g=>decide (g.x=p)):=List.countP_pos_iff.mpr ⟨g,hg,decide_eq_true hx⟩
 lia
theorem zfs {run:List Gate} {a b:Spot} {l:List Spot} (h:Pul run a b l):∃ m,l=m++[b]:=by
 induction h with
 | stop _=>exact ⟨[],rfl⟩
 | @split a b p d g l1 l2 _ _ _ _ _ _ _ _ ih2 =>
   obtain ⟨m,rfl⟩:=ih2
   exact ⟨l1++m,by rw [List.append_assoc]⟩
noncomputable def RE (a g:D) (run:List Gate) (r gs:List Spot) (s:Slot):Ev:=[.pers a,.pers (.lst (run.map zi)),.pers g,.own (r.map zf),.own (gs.map zf),s]
theorem zlC (l:List Spot):cutD (l.map zf) (some 1) none=(l.tail).map zf:=by
 rw [zcx _ 1 1 rfl,List.drop_one,List.map_tail]
theorem zin (l:List Spot) (c:Spot):atI ((l++[c]).map zf) (-1)=some (zf c):=by
 rw [zbU,List.length_map,List.length_append,List.map_append]
 simp
theorem zfn {A Z:D} {run:List Gate} {pre gs:List Spot} {a b:Spot} {s:Slot} (hn:near a b) (hl:run.length≤1000) (hp:pre.length<50000) (hg:gs.length<50000) :
 yj (RE A Z run (pre++[a]) (gs++[b]) s)=.ok (.next (match farV run a b with
  | none=>RE A Z run (pre++[a]++[b]) gs (.pers .non)
  | some p=>RE A Z run (pre++[a]) (gs++[b]++[p]) (.pers (zf p)))):=by
 have hf:=zm3 (run:=run) hn hl
 have ht:fTup (zz (f2 gIx (fVar 3) (f1 gNeg (fC (.int 1)))) (zz (f2 gIx (fVar 4) (f1 gNeg (fC (.int 1)))) (hNil))) (RE A Z run (pre++[a]) (gs++[b]) s)=.ok (.pers (strD (a,b))):=by
  have e1:f2 gIx (fVar 3) (f1 gNeg (fC (.int 1))) (RE A Z run (pre++[a]) (gs++[b]) s)=.ok (.pers (zf a)):=by
   show gIx (.lst ((pre++[a]).map zf)) (.int (-1))=_
   simp only [gIx,zin]
  have e2:f2 gIx (fVar 4) (f1 gNeg (fC (.int 1))) (RE A Z run (pre++[a]) (gs++[b]) s)=.ok (.pers (zf b)):=by
   show gIx (.lst ((gs++[b]).map zf)) (.int (-1))=_
   simp only [gIx,zin]
  simp only [fTup,zz,hNil,e1,e2,zk]
  rfl
 have hv:fVar 1 (RE A Z run (pre++[a]) (gs++[b]) s)=.ok (.pers (.lst (run.map zi))):=rfl
 have hc:zM zR (zm (fTup (zz (f2 gIx (fVar 3) (f1 gNeg (fC (.int 1)))) (zz (f2 gIx (fVar 4) (f1 gNeg (fC (.int 1)))) (hNil)))) (zm (fVar 1) (fNil))) (RE A Z run (pre++[a]) (gs++[b]) s)=.ok (.pers (optS (farV run a b))):=by
  simp only [zM,zm,fNil,ht,hv,zk]
  show ((zR [strD (a,b),.lst (run.map zi)]).bind _)=_
  rw [hf]
  rfl
 unfold yj
 rw [zj (env':=RE A Z run (pre++[a]) (gs++[b]) (.pers (optS (farV run a b)))) (by
  simp only [setS,hc,zk]
  rfl)]
 cases q:farV run a b with
 | none =>
   have c:fTrB (f2 gIsN (fVar 5) (fC .non)) (RE A Z run (pre++[a]) (gs++[b]) (.pers (optS none)))=.ok true:=rfl
   simp only [ifS,c,zk,if_true]
   have hz:(pre++[a]).length<100000:=by simp; lia
   simp [RE,zcL,optS,hz]
   lia
 | some p =>
   have c:fTrB (f2 gIsN (fVar 5) (fC .non)) (RE A Z run (pre++[a]) (gs++[b]) (.pers (optS (some p))))=.ok false:=rfl
   simp only [ifS,c,zk,Bool.false_eq_true,if_false]
   simp [RE,optS]
   lia
theorem zb7 {A Z:D} {run:List Gate} (hl:run.length≤1000):∀ (n:Nat) (a b:Spot),near a b→cnt run a.1 b.1≤n→∃ l k,Pul run a b l∧k≤2*cnt run a.1 b.1+1∧l.length≤cnt run a.1 b.1+1 ∧
 ∀ (pre gs:List Spot) (s:Slot) (fu:Nat),pre.length+cnt run a.1 b.1<40000→gs.length+cnt run a.1 b.1<40000→∃ s',whlD yh yj (fu+k) (RE A Z run (pre++[a]) (gs++[b]) s)=whlD yh yj fu (RE A Z run (pre++[a]++l) gs s')
 | n,a,b,hn,hc=>by
   have ht:∀ (r g:List Spot) (c:Spot) (s:Slot),yh (RE A Z run r (g++[c]) s)=.ok true:=fun r g c s=>by
    simp [RE]
   cases q:farV run a b with
   | none =>
     refine ⟨[b],1,.stop (zjq q),by lia,by simp,fun pre gs s fu h1 h2=>⟨.pers .non,?_⟩⟩
     have hb:=zfn (A:=A) (Z:=Z) (s:=s) (pre:=pre) (gs:=gs) hn hl (by lia) (by lia)
     rw [q] at hb
     rw [whlD,ht,zk,if_pos rfl,hb,zk]
   | some p =>
     obtain ⟨g,d,hg,hbw,hB,hd,far⟩:=zjp q
     have hx:=hB.1
     have hs:(a.1<p.1∧p.1<b.1)∨(b.1<p.1∧p.1<a.1):=by rw [hx]; exact hbw
     have hcs:=zic hg hx.symm hs
     have hn':=hn
     obtain ⟨m1,m2⟩:=hn'
     have n1:near a p:=by unfold near; lia
     have n2:near p b:=by unfold near; lia
     match n,hc with
     | 0,hc=>lia
     | n+1,hc =>
       obtain ⟨l1,k1,P1,b1,c1,w1⟩:=zb7 hl n a p n1 (by lia)
       obtain ⟨l2,k2,P2,b2,c2,w2⟩:=zb7 hl n p b n2 (by lia)
       refine ⟨l1++l2,k2+k1+1,.split hg hbw hB hd far P1 P2,by lia,by simp; lia,fun pre gs s fu h1 h2 => ?_⟩
       have hb:=zfn (A:=A) (Z:=Z) (s:=s) (pre:=pre) (gs:=gs) hn hl (by lia) (by lia)
       rw [q] at hb
       obtain ⟨s1,e1⟩:=w1 pre (gs++[b]) (.pers (zf p)) (fu+k2) (by lia) (by simp; lia)
       obtain ⟨t,rfl⟩:=zfs P1
       obtain ⟨s2,e2⟩:=w2 (pre++[a]++t) gs s1 fu (by simp at c1 ⊢; lia) (by lia)
       refine ⟨s2,?_⟩
       rw [←Nat.add_assoc,←Nat.add_assoc,whlD,ht,zk,if_pos rfl,hb,zk]
       simp only
       rw [e1]
       simp only [List.append_assoc] at e2 ⊢
       exact e2
theorem zma {run:List Gate} {a b:Spot} (hn:near a b) (hl:run.length≤40):∃ l,Pul run a b l∧l.length≤run.length+1∧zT [zf a,.lst (run.map zi),zf b]=.ok (.fresh (l.map zf)):=by
 have hcl:cnt run a.1 b.1≤run.length:=List.countP_le_length
 obtain ⟨l,k,P,hk,hl2,w⟩:=zb7 (A:=zf a) (Z:=zf b) (run:=run) (by lia) _ a b hn (Nat.le_refl _)
 obtain ⟨s,e⟩:=w [] [] .un (100 - k) (by simp; lia) (by simp; lia)
 rw [show 100 - k+k=100 by lia] at e
 obtain ⟨j,hj⟩:∃ j,100 - k=j+1:=⟨100 - k - 1,by lia⟩
 have ht:yh (RE (zf a) (zf b) run ([]++[a]++l) [] s)=.ok false:=by simp [RE]
 have e0:whlD yh yj (j+1) (RE (zf a) (zf b) run ([]++[a]++l) [] s)=.ok (.next (RE (zf a) (zf b) run ([]++[a]++l) [] s)):=by
  rw [whlD,ht,zk,if_neg Bool.false_ne_true]
 rw [hj,e0] at e
 refine ⟨l,P,by lia,?_⟩
 unfold zT
 show ((yR [.pers (zf a),.pers (.lst (run.map zi)),.pers (zf b),.un,.un,.un]).bind _)=_
 unfold yR
 rw [zj (env':=[.pers (zf a),.pers (.lst (run.map zi)),.pers (zf b),.own [zf a],.un,.un]) rfl]
 rw [zj (env':=RE (zf a) (zf b) run ([]++[a]) ([]++[b]) .un) rfl]
 rw [zj e]
 have hcut:fSl (fVar 3) (fSo (fC (.int 1))) (fNo) (RE (zf a) (zf b) run ([]++[a]++l) [] s)=.ok (.fresh (l.map zf)):=by
  show Out.ok (Val.fresh (cutD ((a::l).map zf) (some 1) none))=_
  rw [zlC]
  rfl
 simp only [retS,hcut,zk]
@[reducible] noncomputable def w4:FS :=
 ifS (fAnd (fTr (fVar 4)) (fTrB (f2 gNe (f2 gIx (f2 gIx (fVar 4) (f1 gNeg (fC (.int 1)))) (fC (.int 3))) (f2 gIx (fVar 5) (fC (.int 3))))))
 (seqS (setS 6 true (zM zY (zm (f2 gIx (fVar 4) (f1 gNeg (fC (.int 1)))) (zm (fVar 5) (fNil)))))
 (seqS (extS 3 (zM zT (zm (f2 gIx (fVar 3) (f1 gNeg (fC (.int 1)))) (zm (fVar 4) (zm (f2 gIx (fVar 6) (fC (.int 0))) (fNil))))))
 (seqS (appS 3 (f2 gIx (fVar 6) (fC (.int 1))))
 (setS 4 false (fLst (hNil))))))
 (nxtS)
@[reducible] noncomputable def yK:FS :=
 seqS (w4)
 (appS 4 (fVar 5))
noncomputable def xQ:FS :=
 seqS (setS 3 false (fLst (zz (fVar 0) (hNil))))
 (seqS (setS 4 false (fLst (hNil)))
 (seqS (forS (fItL (fVar 1)) (gN 5)
 (yK))
 (seqS (extS 3 (zM zT (zm (f2 gIx (fVar 3) (f1 gNeg (fC (.int 1)))) (zm (fVar 4) (zm (fVar 2) (fNil))))))
 (retS (fSl (fVar 3) (fSo (fC (.int 1))) (fSo (f1 gNeg (fC (.int 1)))))))))
noncomputable def yC:List D→Out Val:=runD 7 xQ
theorem zbd:∀ ds v,ds.length=3→yC ds=.ok v→runD 7 xQ ds=.ok v:=fun _ _ _ h=>h
theorem tx:∀ l:List Spot,zaz (l.map zf)=true
 | []=>rfl
 | p::l=>by
   have:=tx l
   simp only [List.map_cons,zaz,this,Bool.and_true]
   rfl
noncomputable def TE (s e:Spot) (row:List Gate) (sp:List Spot) (R:List Gate) (s5 s6:Slot):Ev:=[.pers (zf s),.pers (.lst (row.map zi)),.pers (zf e),.own (sp.map zf),.own (R.map zi),s5,s6]
theorem zcX {s e a:Spot} {row:List Gate} {pre:List Spot} {R:List Gate} {s5 s6:Slot} {X:FE} {b:Spot} (hX:X (TE s e row (pre++[a]) R s5 s6)=.ok (.pers (zf b))) (hn:near a b) (hl:R.length≤40) (hp:pre.length<10000) :
 ∃ l,Pul R a b l∧l.length≤R.length+1∧extS 3 (zM zT (zm (f2 gIx (fVar 3) (f1 gNeg (fC (.int 1)))) (zm (fVar 4) (zm X (fNil))))) (TE s e row (pre++[a]) R s5 s6)=.ok (.next (TE s e row (pre++[a]++l) R s5 s6)):=by
 obtain ⟨l,P,hll,h⟩:=zma (run:=R) hn hl
 refine ⟨l,P,hll,?_⟩
 have e1:f2 gIx (fVar 3) (f1 gNeg (fC (.int 1))) (TE s e row (pre++[a]) R s5 s6)=.ok (.pers (zf a)):=by
  show gIx (.lst ((pre++[a]).map zf)) (.int (-1))=_
  simp only [gIx,zin]
 have e2:fVar 4 (TE s e row (pre++[a]) R s5 s6)=.ok (.brw 4 (R.map zi)):=rfl
 have hc:zM zT (zm (f2 gIx (fVar 3) (f1 gNeg (fC (.int 1)))) (zm (fVar 4) (zm X (fNil)))) (TE s e row (pre++[a]) R s5 s6)=.ok (.fresh (l.map zf)):=by
  simp only [zM,zm,fNil,e1,e2,hX,zk]
  show ((zT [zf a,.lst (R.map zi),zf b]).bind _)=_
  rw [h,zk,if_pos (by
   rw [Bool.or_eq_true]
   exact .inr (tx l))]
 have hz:(pre++[a]).length+l.length≤100000:=by simp; lia
 show ((zM zT (zm (f2 gIx (fVar 3) (f1 gNeg (fC (.int 1)))) (zm (fVar 4) (zm X (fNil)))) (TE s e row (pre++[a]) R s5 s6)).bind _)=_
 rw [hc,zk]
 show (if ((pre++[a]).map zf).length+(l.map zf).length≤100000 then _ else _)=_
 rw [if_pos (by rw [List.length_map,List.length_map]; exact hz)]
 rw [←List.map_append]
 rfl
noncomputable def zbg:List Gate→List Gate→Spot→List (List Gate×Spot)
 | R,[],e=>[(R,e)]
 | R,g::r,e=>if R≠[]∧(zH R).w≠g.w then (R,(zJ (zH R) g).1)::([],(zJ (zH R) g).2)::zbg [g] r e else zbg (R++[g]) r e
theorem zgA {R:List Gate} {g:Gate} (h:R.Pairwise Up) (hR:R≠[]) (u:Up (zH R) g):(R++[g]).Pairwise Up:=by
 rw [List.pairwise_append]
 refine ⟨h,by simp,fun x hx y hy => ?_⟩
 rw [List.mem_singleton.mp hy]
 obtain ⟨m,z,rfl⟩:∃ m z,R=m++[z]:=⟨R.dropLast,R.getLast hR,(List.dropLast_concat_getLast hR).symm⟩
 have el:zH (m++[z])=z:=by
  unfold zH
  rw [List.getLastD_eq_getLast?,List.getLast?_concat]
  rfl
 rw [el] at u
 rcases List.mem_append.mp hx with hx | hx
 ·exact ((List.pairwise_append.mp h).2.2 x hx z (by simp)).trans u
 ·rw [List.mem_singleton.mp hx]; exact u
theorem zaF:∀ (r R:List Gate) (e:Spot),R≠[]→R.Pairwise Up→Walk (zH R::r)→zbg R r e=tU (xu (R++r)) e
 | [],R,e,hR,hu,_=>by
   have:=zfm (r:=[]) hu hR (by simp)
   rw [this]
   rfl
 | g::r,R,e,hR,hu,⟨w1,w2,w3⟩=>by
   by_cases z:(zH R).w=g.w
   ·have u:=w1 z
    have el:zH (R++[g])=g:=by
     unfold zH
     rw [List.getLastD_eq_getLast?,List.getLast?_concat]
     rfl
    have ih:=zaF r (R++[g]) e (by simp) (zgA hu hR u) (by rw [el]; exact w3)
    rw [zbg,if_neg fun q=>q.2 z,ih,List.append_assoc]
    rfl
   ·have ih:=zaF r [g] e (by simp) (by simp) w3
    rw [zbg,if_pos ⟨hR,z⟩,ih,zfm (r:=g::r) hu hR (fun h hh=>by simp at hh; rw [←hh]; exact z)]
    obtain ⟨Q,rs,er⟩:=uf g r
    show _=tU (R::xu (g::r)) e
    have e2:xu ([g]++r)=xu (g::r):=rfl
    rw [e2,er]
    rfl
theorem zje {row:List Gate} (e:Spot) (h:Walk row):zbg [] row e=tU (xu row) e:=by
 cases row with
 | nil=>rfl
 | cons g r =>
   rw [zbg,if_neg fun q=>q.1 rfl]
   exact zaF r [g] e (by simp) (by simp) h
noncomputable def Bx (x:Int):Prop := -(2^60)<x∧x<2^60
theorem za3 {a b:Spot} (h:Bx a.1) (k:Bx b.1):near a b:=by
 unfold Bx at h k
 unfold near
 lia
theorem zjR (g h:Gate):(zJ g h).1.1=g.x∧(zJ g h).2.1=g.x:=by
 unfold zJ
 split <;> exact ⟨rfl,rfl⟩
theorem zf6 {s e u:Spot} {row:List Gate} {pre:List Spot} {R:List Gate} {g:Gate} {s6:Slot} (bu:Bx u.1) (bR:∀ x∈R,Bx x.x) (hl:R.length≤40) (hp:pre.length<9000) (ht:R≠[]→(zH R).w≠g.w→TurnOk (zH R) g) :
 (if R≠[]∧(zH R).w≠g.w then ∃ l s6',Pul R u (zJ (zH R) g).1 l∧l.length≤R.length+1∧yK (TE s e row (pre++[u]) R (.pers (zi g)) s6)=.ok (.next (TE s e row (pre++[u]++l++[(zJ (zH R) g).2]) [g] (.pers (zi g)) s6'))
  else yK (TE s e row (pre++[u]) R (.pers (zi g)) s6)=.ok (.next (TE s e row (pre++[u]) (R++[g]) (.pers (zi g)) s6))):=by
 have hap:∀ (sp:List Spot) (Q:List Gate) (z:Slot),Q.length<1000→appS 4 (fVar 5) (TE s e row sp Q (.pers (zi g)) z)=.ok (.next (TE s e row sp (Q++[g]) (.pers (zi g)) z)):=fun sp Q z hQ=>by
  have:Q.length<100000:=by lia
  simp [TE,this]
 by_cases hR:R=[]
 ·subst hR
  rw [if_neg fun q=>q.1 rfl]
  unfold yK
  rw [zj (env':=TE s e row (pre++[u]) [] (.pers (zi g)) s6) rfl]
  exact hap _ _ _ (by simp)
 have lg:atI (R.map zi) (-1)=some (zi (zH R)):=by
  unfold zH
  rw [zbU,List.length_map,List.getElem?_map,←List.getLast?_eq_getElem?,List.getLastD_eq_getLast?,List.getLast?_eq_some_getLast hR]
  rfl
 have hlast:f2 gIx (fVar 4) (f1 gNeg (fC (.int 1))) (TE s e row (pre++[u]) R (.pers (zi g)) s6)=.ok (.pers (zi (zH R))):=by
  show gIx (.lst (R.map zi)) (.int (-1))=_
  simp only [gIx,lg]
 have c:fAnd (fTr (fVar 4)) (fTrB (f2 gNe (f2 gIx (f2 gIx (fVar 4) (f1 gNeg (fC (.int 1)))) (fC (.int 3))) (f2 gIx (fVar 5) (fC (.int 3))))) (TE s e row (pre++[u]) R (.pers (zi g)) s6)=.ok (decide ((zH R).w≠g.w)):=by
  have t1:fTr (fVar 4) (TE s e row (pre++[u]) R (.pers (zi g)) s6)=.ok true:=by
   cases R with
   | nil=>exact absurd rfl hR
   | cons x r=>rfl
  have t2:f2 gNe (f2 gIx (f2 gIx (fVar 4) (f1 gNeg (fC (.int 1)))) (fC (.int 3))) (f2 gIx (fVar 5) (fC (.int 3))) (TE s e row (pre++[u]) R (.pers (zi g)) s6)=gNe (.int (zH R).w) (.int g.w):=by
   have e3:f2 gIx (f2 gIx (fVar 4) (f1 gNeg (fC (.int 1)))) (fC (.int 3)) (TE s e row (pre++[u]) R (.pers (zi g)) s6)=.ok (.pers (.int (zH R).w)):=by
    show ((f2 gIx (fVar 4) (f1 gNeg (fC (.int 1))) (TE s e row (pre++[u]) R (.pers (zi g)) s6)).bind _)=_
    rw [hlast]
    rfl
   show ((f2 gIx (f2 gIx (fVar 4) (f1 gNeg (fC (.int 1)))) (fC (.int 3)) (TE s e row (pre++[u]) R (.pers (zi g)) s6)).bind _)=_
   rw [e3]
   rfl
  simp only [fAnd,t1,zk,if_true,fTrB,t2]
  by_cases z:(zH R).w=g.w <;> simp [z]
 by_cases z:(zH R).w=g.w
 ·rw [if_neg fun q=>q.2 z]
  unfold yK
  rw [decide_eq_false (fun w=>w z)] at c
  rw [zj (env':=TE s e row (pre++[u]) R (.pers (zi g)) s6) (by
   simp only [w4,ifS,c,zk]
   rfl)]
  exact hap _ _ _ (by lia)
 ·rw [if_pos ⟨hR,z⟩]
  rw [decide_eq_true z] at c
  have hT:=zf3 (ht hR z)
  have hm:zH R∈R:=by
   unfold zH
   rw [List.getLastD_eq_getLast?,List.getLast?_eq_some_getLast hR]
   exact List.getLast_mem hR
  obtain ⟨tx1,tx2⟩:=zjR (zH R) g
  have b1:Bx (zJ (zH R) g).1.1:=by rw [tx1]; exact bR _ hm
  obtain ⟨l,P,hll,hx⟩:=zcX (s:=s) (e:=e) (row:=row) (pre:=pre) (R:=R) (s5:=.pers (zi g)) (s6:=.pers (.tup [zf (zJ (zH R) g).1,zf (zJ (zH R) g).2])) (X:=f2 gIx (fVar 6) (fC (.int 0))) (b:=(zJ (zH R) g).1) rfl (za3 bu b1) hl (by lia)
  refine ⟨l,.pers (.tup [zf (zJ (zH R) g).1,zf (zJ (zH R) g).2]),P,hll,?_⟩
  have hc6:zM zY (zm (f2 gIx (fVar 4) (f1 gNeg (fC (.int 1)))) (zm (fVar 5) (fNil))) (TE s e row (pre++[u]) R (.pers (zi g)) s6)=.ok (.pers (.tup [zf (zJ (zH R) g).1,zf (zJ (zH R) g).2])):=by
   have e5:fVar 5 (TE s e row (pre++[u]) R (.pers (zi g)) s6)=.ok (.pers (zi g)):=rfl
   simp only [zM,zm,fNil,hlast,e5,zk]
   show ((zY [zi (zH R),zi g]).bind _)=_
   rw [hT]
   rfl
  have hap3:appS 3 (f2 gIx (fVar 6) (fC (.int 1))) (TE s e row (pre++[u]++l) R (.pers (zi g)) (.pers (.tup [zf (zJ (zH R) g).1,zf (zJ (zH R) g).2])))=.ok (.next (TE s e row (pre++[u]++l++[(zJ (zH R) g).2]) R (.pers (zi g)) (.pers (.tup [zf (zJ (zH R) g).1,zf (zJ (zH R) g).2])))):=by
   have hlen:((pre++[u]++l).map zf).length<100000:=by simp; lia
   show (if ((pre++[u]++l).map zf).length<100000 then _ else _)=_
   rw [if_pos hlen]
   unfold TE
   rw [List.map_append (l₂:=[(zJ (zH R) g).2])]
   rfl
  unfold yK
  rw [zj (env':=TE s e row (pre++[u]++l++[(zJ (zH R) g).2]) [] (.pers (zi g)) (.pers (.tup [zf (zJ (zH R) g).1,zf (zJ (zH R) g).2]))) (by
   simp only [w4,ifS,c,zk,if_true]
   rw [zj (env':=TE s e row (pre++[u]) R (.pers (zi g)) (.pers (.tup [zf (zJ (zH R) g).1,zf (zJ (zH R) g).2]))) (by
    simp only [setS,hc6,zk]
    rfl),zj hx,zj hap3]
   rfl)]
  exact hap _ [] _ (by simp)
theorem ziS (a b:Spot):Pul [] a b [b]:=.stop fun g hg=>absurd hg (by simp)
theorem zan {s e:Spot} {row:List Gate} {xs:List Int} (hxs:xs.length≤40):∀ (rest R:List Gate) (pre:List Spot) (u:Spot) (s5 s6:Slot),Bx u.1→(∀ x∈R,Bx x.x∧x.x∈xs)→(∀ x∈rest,Bx x.x∧x.x∈xs)→R.Pairwise Up→pre.length+R.length+3*rest.length<9000→(R=[]→Walk rest)→(R≠[]→Walk (zH R::rest)) →
 ∃ (pre':List Spot) (u':Spot) (R':List Gate) (T:List Spot) (s5' s6':Slot),forD (gN 5) yK (rest.map zi) (TE s e row (pre++[u]) R s5 s6)=.ok (.next (TE s e row (pre'++[u']) R' s5' s6'))∧pre'++[u']=pre++[u]++T∧Bx u'.1∧R'.length≤40∧pre'.length<9000∧∀ l,Pul R' u' e l→Tot u (zbg R rest e) (T++l)
 | [],R,pre,u,s5,s6,bu,bR,_,hu,hp,_,_=>⟨pre,u,R,[],s5,s6,rfl,by simp,bu,Nat.le_trans (zjP hu fun g hg=>(bR g hg).2) hxs,by lia,fun l P=>by
  have:=Tot.cons P (Tot.nil (a:=e))
  rw [List.append_nil] at this
  exact this⟩
 | g::rest,R,pre,u,s5,s6,bu,bR,bg,hu,hp,w0,w1=>by
   simp only [List.length_cons] at hp
   have ht:R≠[]→(zH R).w≠g.w→TurnOk (zH R) g:=fun h z=>(w1 h).2.1 z
   have hR40:R.length≤40:=Nat.le_trans (zjP hu fun g hg=>(bR g hg).2) hxs
   have st:=zf6 (s:=s) (e:=e) (row:=row) (pre:=pre) (R:=R) (g:=g) (s6:=s6) bu (fun x hx=>(bR x hx).1) hR40 (by lia) ht
   have hg:gN 5 (zi g) (TE s e row (pre++[u]) R s5 s6)=.ok (TE s e row (pre++[u]) R (.pers (zi g)) s6):=rfl
   have bg':∀ x∈rest,Bx x.x∧x.x∈xs:=fun x hx=>bg x (by simp [hx])
   have wg:Walk (g::rest):=by
    by_cases h:R=[]
    ·exact w0 h
    ·exact (w1 h).2.2
   by_cases c:R≠[]∧(zH R).w≠g.w
   ·rw [if_pos c] at st
    obtain ⟨l1,s6',P1,hl1,hb⟩:=st
    have hm:zH R∈R:=by
     unfold zH
     rw [List.getLastD_eq_getLast?,List.getLast?_eq_some_getLast c.1]
     exact List.getLast_mem c.1
    have b2:Bx (zJ (zH R) g).2.1:=by rw [(zjR (zH R) g).2]; exact (bR _ hm).1
    obtain ⟨pre',u',R',T,s5',s6'',e1,e2,b',k1,k2,tot⟩:=zan (s:=s) (e:=e) (row:=row) hxs rest [g] (pre++[u]++l1) (zJ (zH R) g).2 (.pers (zi g)) s6' b2 (fun x hx=>by rw [List.mem_singleton.mp hx]; exact bg g (by simp)) bg' (by simp) (by simp; lia) (fun z=>by simp at z) (fun _=>wg)
    refine ⟨pre',u',R',l1++([(zJ (zH R) g).2]++T),s5',s6'',?_,by rw [e2]; simp,b',k1,k2,fun l P => ?_⟩
    ·rw [List.map_cons,forD,hg,zk,hb,zk]
     exact e1
    ·rw [zbg,if_pos c,List.append_assoc,List.append_assoc]
     exact .cons P1 (.cons (ziS _ _) (tot l P))
   ·rw [if_neg c] at st
    have el:zH (R++[g])=g:=by
     unfold zH
     rw [List.getLastD_eq_getLast?,List.getLast?_concat]
     rfl
    have hu':(R++[g]).Pairwise Up:=by
     by_cases h:R=[]
     ·subst h; simp
     ·have hw:(zH R).w=g.w:=Decidable.byContradiction fun z=>c ⟨h,z⟩
      exact zgA hu h ((w1 h).1 hw)
    obtain ⟨pre',u',R',T,s5',s6'',e1,e2,b',k1,k2,tot⟩:=zan (s:=s) (e:=e) (row:=row) hxs rest (R++[g]) pre u (.pers (zi g)) s6 bu (fun x hx=>by
     rcases List.mem_append.mp hx with hx | hx
     ·exact bR x hx
     ·rw [List.mem_singleton.mp hx]; exact bg g (by simp)) bg' hu' (by simp; lia) (fun z=>by simp at z) (fun _=>by rw [el]; exact wg)
    refine ⟨pre',u',R',T,s5',s6'',?_,e2,b',k1,k2,fun l P => ?_⟩
    ·rw [List.map_cons,forD,hg,zk,st,zk]
     exact e1
    ·rw [zbg,if_neg c]
     exact tot l P
theorem zia (a:Spot) (m:List Spot) (e:Spot):cutD ((a::(m++[e])).map zf) (some 1) (some (-1))=m.map zf:=by
 have hl:((a::(m++[e])).map zf).length=m.length+2:=by simp
 unfold DL.cutD
 rw [hl]
 show (((a::(m++[e])).map zf).drop (if (1:Int)<0 then ((1:Int)+((m.length+2:Nat):Int)).toNat else min (1:Int).toNat (m.length+2))).take ((if (-1:Int)<0 then ((-1:Int)+((m.length+2:Nat):Int)).toNat else min (-1:Int).toNat (m.length+2)) - (if (1:Int)<0 then ((1:Int)+((m.length+2:Nat):Int)).toNat else min (1:Int).toNat (m.length+2)))=_
 rw [if_pos (show (-1:Int)<0 by lia),if_neg (show ¬ (1:Int)<0 by lia)]
 have e1:min (1:Int).toNat (m.length+2)=1:=by
  show min 1 (m.length+2)=1
  lia
 have e2:((-1:Int)+((m.length+2:Nat):Int)).toNat=m.length+1:=by lia
 rw [e1,e2]
 simp
theorem zf5 {s e:Spot} {row:List Gate} {xs:List Int} (bs:Bx s.1) (be:Bx e.1) (bg:∀ g∈row,Bx g.x∧g.x∈xs) (hxs:xs.length≤40) (hl:row.length≤2500) (w:Walk row) :
 ∃ m,Tot s (tU (xu row) e) (m++[e])∧m.length≤9100∧yC [zf s,.lst (row.map zi),zf e]=.ok (.fresh (m.map zf)):=by
 obtain ⟨pre,u,R,T,s5,s6,ef,ep,bu,hR,hp,tot⟩:=zan (s:=s) (e:=e) (row:=row) hxs row [] [] s .un .un bs (by simp) bg (by simp) (by simp; lia) (fun _=>w) (fun z=>absurd rfl z)
 obtain ⟨l,P,hll,hx⟩:=zcX (s:=s) (e:=e) (a:=u) (row:=row) (pre:=pre) (R:=R) (s5:=s5) (s6:=s6) (X:=fVar 2) (b:=e) rfl (za3 bu be) hR (by lia)
 obtain ⟨z,rfl⟩:=zfs P
 have tt:=tot _ P
 rw [zje e w,←List.append_assoc] at tt
 have hlen:=congrArg List.length ep
 simp only [List.length_append,List.length_cons,List.length_nil] at hlen hll
 refine ⟨T++z,tt,by rw [List.length_append]; lia,?_⟩
 have e4:pre++[u]++(z++[e])=s::((T++z)++[e]):=by rw [ep]; simp
 have hcut:fSl (fVar 3) (fSo (fC (.int 1))) (fSo (f1 gNeg (fC (.int 1)))) (TE s e row (s::((T++z)++[e])) R s5 s6)=.ok (.fresh ((T++z).map zf)):=by
  show Out.ok (Val.fresh (cutD ((s::((T++z)++[e])).map zf) (some 1) (some (-1))))=_
  rw [zia]
 unfold yC
 show ((xQ [.pers (zf s),.pers (.lst (row.map zi)),.pers (zf e),.un,.un,.un,.un]).bind _)=_
 unfold xQ
 rw [zj (env':=[.pers (zf s),.pers (.lst (row.map zi)),.pers (zf e),.own [zf s],.un,.un,.un]) rfl]
 rw [zj (env':=TE s e row ([]++[s]) [] .un .un) rfl]
 rw [zj (by
  have hi:fItL (fVar 1) (TE s e row ([]++[s]) [] .un .un)=.ok (row.map zi):=rfl
  simp only [forS,hi,zk]
  exact ef)]
 rw [zj hx,e4]
 simp only [retS,hcut,zk]
noncomputable def yI:FS :=
 seqS (setS 3 true (f2 gSub (f2 gIx (fVar 1) (fC (.int 0))) (f2 gIx (fVar 0) (fC (.int 0)))))
 (seqS (setS 4 true (f2 gSub (f2 gIx (fVar 1) (fC (.int 1))) (f2 gIx (fVar 0) (fC (.int 1)))))
 (seqS (setS 5 true (f2 gSub (f2 gIx (fVar 2) (fC (.int 0))) (f2 gIx (fVar 1) (fC (.int 0)))))
 (seqS (setS 6 true (f2 gSub (f2 gIx (fVar 2) (fC (.int 1))) (f2 gIx (fVar 1) (fC (.int 1)))))
 (retS (zcs (f2 gEq (f2 gMul (fVar 3) (fVar 6)) (f2 gMul (fVar 4) (fVar 5))) (f2 gGt (f2 gAdd (f2 gMul (fVar 3) (fVar 5)) (f2 gMul (fVar 4) (fVar 6))) (fC (.int 0))))))))
noncomputable def z7:List D→Out Val:=runD 7 yI
theorem uo:∀ ds v,ds.length=3→z7 ds=.ok v→runD 7 yI ds=.ok v:=fun _ _ _ h=>h
theorem zd4 {o m n:Spot} (h1:near o m) (h2:near m n) (h3 : -(2^64)<m.2 - o.2∧m.2 - o.2<2^64):z7 [zf o,zf m,zf n]=.ok (.pers (.bl (straight o m n))):=by
 have c1:∀ j,cMul (m.1 - o.1) j=true:=fun j=>za2 h1.1 h1.2
 have c2:∀ j,cMul j (n.1 - m.1)=true:=fun j=>xD h2.1 h2.2
 have c3:∀ j,cMul (m.2 - o.2) j=true:=fun j=>za2 h3.1 h3.2
 unfold z7
 show ((yI [.pers (zf o),.pers (zf m),.pers (zf n),.un,.un,.un,.un]).bind _)=_
 unfold yI
 rw [zj (env':=[.pers (zf o),.pers (zf m),.pers (zf n),.pers (.int (m.1 - o.1)),.un,.un,.un]) rfl]
 rw [zj (env':=[.pers (zf o),.pers (zf m),.pers (zf n),.pers (.int (m.1 - o.1)),.pers (.int (m.2 - o.2)),.un,.un]) rfl]
 rw [zj (env':=[.pers (zf o),.pers (zf m),.pers (zf n),.pers (.int (m.1 - o.1)),.pers (.int (m.2 - o.2)),.pers (.int (n.1 - m.1)),.un]) rfl]
 rw [zj (env':=[.pers (zf o),.pers (zf m),.pers (zf n),.pers (.int (m.1 - o.1)),.pers (.int (m.2 - o.2)),.pers (.int (n.1 - m.1)),.pers (.int (n.2 - m.2))]) rfl]
 unfold straight
 by_cases z:(m.1 - o.1)*(n.2 - m.2)=(m.2 - o.2)*(n.1 - m.1)
 ·simp [c1,c2,c3,z]
 ·have zb:((m.1 - o.1)*(n.2 - m.2) == (m.2 - o.2)*(n.1 - m.1))=false:=beq_eq_false_iff_ne.mpr z
  simp [c1,c2,c3,zb,z]
@[reducible] noncomputable def yA:FT :=
 fNot (fTr (zM z7 (zm (fVar 0) (zm (fVar 1) (zm (fVar 2) (fNil))))))
@[reducible] noncomputable def xp:FE :=
 fVar 1
noncomputable def wx:FS :=
 seqS (setS 3 true (f2 gAdd (f2 gAdd (fLst (zz (fVar 0) (hNil))) (zM ye (zm (zM yC (zm (fVar 0) (zm (fVar 1) (zm (fVar 2) (fNil))))) (fNil)))) (fLst (zz (fVar 2) (hNil)))))
 (seqS (setS 4 true (yy [] 3 (zjr (fVar 3) (fSl (fVar 3) (fSo (fC (.int 1))) (fNo)) (fSl (fVar 3) (fSo (fC (.int 2))) (fNo))) (gT [0,1,2]) (yA) (xp)))
 (retS (f2 gAdd (f2 gAdd (fLst (zz (fVar 0) (hNil))) (fVar 4)) (fLst (zz (fVar 2) (hNil))))))
noncomputable def xa:List D→Out Val:=runD 5 wx
theorem zcf:∀ ds v,ds.length=3→xa ds=.ok v→runD 5 wx ds=.ok v:=fun _ _ _ h=>h
noncomputable def triD (t:Spot×Spot×Spot):D:=.tup [zf t.1,zf t.2.1,zf t.2.2]
theorem zgt:∀ l:List Spot,uN (l.map zf) (l.tail.map zf) (l.tail.tail.map zf)=(yW l).map triD
 | []=>rfl
 | [_]=>rfl
 | [_,_]=>rfl
 | o::m::n::r=>by
   have ih:=zgt (m::n::r)
   simp only [List.tail_cons,List.map_cons] at ih ⊢
   rw [uN,yW,List.map_cons,←ih]
   rfl
theorem zgH:∀ l:List Spot,(yW l).length≤l.length
 | []=>Nat.le_refl _
 | [_]=>Nat.zero_le _
 | [_,_]=>Nat.zero_le _
 | o::m::n::r=>by
   have:=zgH (m::n::r)
   rw [yW,List.length_cons,List.length_cons]
   lia
theorem zfV:∀ (ts:List (Spot×Spot×Spot)) (a b c:Slot),(∀ t∈ts,near t.1 t.2.1∧near t.2.1 t.2.2 ∧ -(2^64)<t.2.1.2 - t.1.2∧t.2.1.2 - t.1.2<2^64)→compD (gT [0,1,2]) yA xp (ts.map triD) [a,b,c]=.ok ((ts.filterMap fun t=>if straight t.1 t.2.1 t.2.2=true then none else some t.2.1).map zf)
 | [],_,_,_,_=>rfl
 | t::ts,a,b,c,h=>by
   obtain ⟨h1,h2,h3⟩:=h t (by simp)
   have st:=zd4 h1 h2 h3
   have ih:=zfV ts (.pers (zf t.1)) (.pers (zf t.2.1)) (.pers (zf t.2.2)) (fun x hx=>h x (by simp [hx]))
   have hg:gT [0,1,2] (triD t) [a,b,c]=.ok [.pers (zf t.1),.pers (zf t.2.1),.pers (zf t.2.2)]:=rfl
   have ht:yA [.pers (zf t.1),.pers (zf t.2.1),.pers (zf t.2.2)]=.ok (!straight t.1 t.2.1 t.2.2):=by
    have hc:zM z7 (zm (fVar 0) (zm (fVar 1) (zm (fVar 2) (fNil)))) [.pers (zf t.1),.pers (zf t.2.1),.pers (zf t.2.2)]=.ok (.pers (.bl (straight t.1 t.2.1 t.2.2))):=by
     show ((z7 [zf t.1,zf t.2.1,zf t.2.2]).bind _)=_
     rw [st]
     rfl
    simp only [yA,fNot,fTr,hc,zk,Val.d,trD]
   rw [List.map_cons,compD,hg,zk,ht,zk,List.filterMap_cons]
   cases straight t.1 t.2.1 t.2.2 with
   | true=>exact ih
   | false =>
     show ((compD (gT [0,1,2]) yA xp (ts.map triD) [.pers (zf t.1),.pers (zf t.2.1),.pers (zf t.2.2)]).bind _)=_
     rw [ih]
     rfl
structure PullOk (s e:Spot) (row:List Gate):Prop where
 bs:Bx s.1
 be:Bx e.1
 bg:∀ g∈row,Bx g.x
 xs:∃ xs:List Int,xs.length≤40∧∀ g∈row,g.x∈xs
 len:row.length≤2500
 walk:Walk row
 sx:∀ g∈row,g.x≠s.1
 ex:∀ g∈row,g.x≠e.1
 hh:∃ c:Int,∀ p,p=s∨p=e∨PegOf row p→c≤p.2∧p.2<c+2^64
theorem zg4 {s e:Spot} {row:List Gate} (ok:PullOk s e row):∃ out,zcO s (xu row) e out∧out.length≤9200∧xa [zf s,.lst (row.map zi),zf e]=.ok (.fresh (out.map zf)):=by
 obtain ⟨xs,hxs,hx⟩:=ok.xs
 obtain ⟨m,tot,hm,ht⟩:=zf5 ok.bs ok.be (fun g hg=>⟨ok.bg g hg,hx g hg⟩) hxs ok.len ok.walk
 have tn:=zap _ (zaf row ok.walk)
 obtain ⟨m',em,hp⟩:=zaE (xu row) s e (m++[e]) tn tot
 obtain rfl:m=m':=(List.append_inj' em rfl).1
 rw [uh] at hp
 have n1:∀ p∈m,p≠s:=fun p k q=>by
  obtain ⟨g,hg,w,_⟩:=hp p k
  exact ok.sx g hg (by rw [←w,q])
 have n2:∀ p∈m,p≠e:=fun p k q=>by
  obtain ⟨g,hg,w,_⟩:=hp p k
  exact ok.ex g hg (by rw [←w,q])
 have hu:=ziJ (ps:=m) (by lia)
 have hul:=zjo m
 generalize hU:m.foldl vO []=U at hu hul
 have hin:∀ p∈s::(U++[e]),p=s∨p=e∨PegOf row p:=fun p k=>by
  rcases List.mem_cons.mp k with k | k
  ·exact .inl k
  ·rcases List.mem_append.mp k with k | k
   ·rw [←hU] at k
    exact .inr (.inr (hp p (zcV k)))
   ·exact .inr (.inl (List.mem_singleton.mp k))
 have hbx:∀ p∈s::(U++[e]),Bx p.1:=fun p k=>by
  rcases hin p k with rfl | rfl | ⟨g,hg,w,_⟩
  ·exact ok.bs
  ·exact ok.be
  ·rw [w]; exact ok.bg g hg
 obtain ⟨c,hc⟩:=ok.hh
 have hwl:(s::(U++[e])).length≤9102:=by simp; lia
 refine ⟨s::(xf (s::(U++[e]))++[e]),⟨m++[e],tot,by rw [←hU,zgu n1 n2]⟩,by
  have:=zaL (s::(U++[e]))
  simp only [List.length_cons,List.length_append,List.length_nil] at this hwl ⊢
  lia,?_⟩
 have E0:∀ s4:Slot,∃ E:Ev,E=[.pers (zf s),.pers (.lst (row.map zi)),.pers (zf e),s4,.un]:=fun s4=>⟨_,rfl⟩
 have ct:zM yC (zm (fVar 0) (zm (fVar 1) (zm (fVar 2) (fNil)))) [.pers (zf s),.pers (.lst (row.map zi)),.pers (zf e),.un,.un]=.ok (.fresh (m.map zf)):=by
  show ((yC [zf s,.lst (row.map zi),zf e]).bind _)=_
  rw [ht]
  rfl
 have cu:zM ye (zm (zM yC (zm (fVar 0) (zm (fVar 1) (zm (fVar 2) (fNil))))) (fNil)) [.pers (zf s),.pers (.lst (row.map zi)),.pers (zf e),.un,.un]=.ok (.fresh (U.map zf)):=by
  rw [zM,zm,ct,zk]
  show ((ye [.lst (m.map zf)]).bind _)=_
  rw [hu,zk,if_pos (by
   rw [Bool.or_eq_true]
   exact .inr (tx U))]
 have add3:∀ (L:List Spot),L.length≤9102→∀ (X:FE) (E:Ev),X E=.ok (.fresh (L.map zf))∨X E=.ok (.pers (.lst (L.map zf)))→E[0]?=some (.pers (zf s))→E[2]?=some (.pers (zf e))→f2 gAdd (f2 gAdd (fLst (zz (fVar 0) (hNil))) X) (fLst (zz (fVar 2) (hNil))) E=.ok (.fresh ((s::(L++[e])).map zf)):=by
  intro L hL X E hX h0 h2
  have v0:fLst (zz (fVar 0) (hNil)) E=.ok (.fresh [zf s]):=by
   simp only [fLst,zz,hNil,fVar,h0,zk]
   rfl
  have v2:fLst (zz (fVar 2) (hNil)) E=.ok (.fresh [zf e]):=by
   simp only [fLst,zz,hNil,fVar,h2,zk]
   rfl
  have a1:f2 gAdd (fLst (zz (fVar 0) (hNil))) X E=.ok (.fresh ((s::L).map zf)):=by
   have:f2 gAdd (fLst (zz (fVar 0) (hNil))) X E=gAdd (.lst [zf s]) (.lst (L.map zf)):=by
    rcases hX with hX | hX <;> simp only [f2,v0,hX,zk,Val.d]
   rw [this,gAdd,if_pos (by simp only [List.length_cons,List.length_nil,List.length_map]; lia)]
   rfl
  have:f2 gAdd (f2 gAdd (fLst (zz (fVar 0) (hNil))) X) (fLst (zz (fVar 2) (hNil))) E=gAdd (.lst ((s::L).map zf)) (.lst [zf e]):=by
   show ((f2 gAdd (fLst (zz (fVar 0) (hNil))) X E).bind _)=_
   rw [a1,zk,v2,zk]
   rfl
  rw [this,gAdd,if_pos (by simp only [List.length_cons,List.length_nil,List.length_map]; lia)]
  simp only [List.map_cons,List.map_append,List.map_nil,List.cons_append]
 have hway:=add3 U (by lia) _ [.pers (zf s),.pers (.lst (row.map zi)),.pers (zf e),.un,.un] (.inl cu) rfl rfl
 generalize hW:s::(U++[e])=W at hway hin hbx hwl
 have hcomp:compD (gT [0,1,2]) yA xp ((yW W).map triD) [.un,.un,.un]=.ok ((xf W).map zf):=by
  rw [zfV _ _ _ _ fun t k => ?_,zdr]
  obtain ⟨k1,k2,k3⟩:=zgG k
  have q1:=hc _ (hin _ k1)
  have q2:=hc _ (hin _ k2)
  exact ⟨za3 (hbx _ k1) (hbx _ k2),za3 (hbx _ k2) (hbx _ k3),by lia,by lia⟩
 have hz:zjr (fVar 3) (fSl (fVar 3) (fSo (fC (.int 1))) (fNo)) (fSl (fVar 3) (fSo (fC (.int 2))) (fNo)) [.pers (zf s),.pers (.lst (row.map zi)),.pers (zf e),.pers (.lst (W.map zf)),.un]=.ok ((yW W).map triD):=by
  show Out.ok (uN (W.map zf) (cutD (W.map zf) (some 1) none) (cutD (W.map zf) (some 2) none))=_
  rw [zcx _ 1 1 rfl,zcx _ 2 2 rfl,←zgt,List.map_tail,List.map_tail,List.map_tail,←List.drop_one,←List.drop_one,List.drop_drop]
 have hb:yy [] 3 (zjr (fVar 3) (fSl (fVar 3) (fSo (fC (.int 1))) (fNo)) (fSl (fVar 3) (fSo (fC (.int 2))) (fNo))) (gT [0,1,2]) (yA) (xp) [.pers (zf s),.pers (.lst (row.map zi)),.pers (zf e),.pers (.lst (W.map zf)),.un]=.ok (.fresh ((xf W).map zf)):=by
  have hl:((yW W).map triD).length≤100000:=by
   rw [List.length_map]
   have:=zgH W
   lia
  rw [yy,hz,zk,if_pos hl]
  show ((compD (gT [0,1,2]) yA xp ((yW W).map triD) [.un,.un,.un]).bind _)=_
  rw [hcomp]
  rfl
 have hil:=zaL W
 have hlast:=add3 (xf W) (by lia) (fVar 4) [.pers (zf s),.pers (.lst (row.map zi)),.pers (zf e),.pers (.lst (W.map zf)),.pers (.lst ((xf W).map zf))] (.inr rfl) rfl rfl
 unfold xa
 show ((wx [.pers (zf s),.pers (.lst (row.map zi)),.pers (zf e),.un,.un]).bind _)=_
 unfold wx
 rw [zj (env':=[.pers (zf s),.pers (.lst (row.map zi)),.pers (zf e),.pers (.lst (W.map zf)),.un]) (by
  rw [setS,hway]
  rfl)]
 rw [zj (env':=[.pers (zf s),.pers (.lst (row.map zi)),.pers (zf e),.pers (.lst (W.map zf)),.pers (.lst ((xf W).map zf))]) (by
  rw [setS,hb]
  rfl)]
 rw [retS,hlast]
 rfl
noncomputable def zeD:FS :=
 retS (zcs (f1 (gIsi "int") (fVar 0)) (zm4 (f1 (gIsi "bool") (fVar 0))))
noncomputable def zcg:List D→Out Val:=runD 1 zeD
theorem zgf:∀ ds v,ds.length=1→zcg ds=.ok v→runD 1 zeD ds=.ok v:=fun _ _ _ h=>h
@[reducible] noncomputable def zbK:FS :=
 ifS (fOr (fNot (fTr (f1 (gIsi "list") (fVar 0)))) (fTrB (f2 gLt (fB gLen (zm (fVar 0) (fNil))) (fC (.int 2)))))
 (retS (fC (.bl false)))
 (nxtS)
@[reducible] noncomputable def zbI:FS :=
 ifS (fOr (fNot (fTr (f1 (gIsi "tuple") (fVar 4)))) (fOr (fTrB (f2 gNe (fB gLen (zm (fVar 4) (fNil))) (fC (.int 2)))) (fOr (fNot (fTr (zM zcg (zm (f2 gIx (fVar 4) (fC (.int 0))) (fNil))))) (fNot (fTr (zM zcg (zm (f2 gIx (fVar 4) (fC (.int 1))) (fNil))))))))
 (retS (fC (.bl false)))
 (nxtS)
@[reducible] noncomputable def vG:FS :=
 zbI
@[reducible] noncomputable def zbG:FS :=
 ifS (fAnd (fTrB (f2 gEq (f2 gIx (fVar 0) (fVar 5)) (f2 gIx (fVar 0) (f2 gSub (fVar 5) (fC (.int 1)))))) (fTrB (f2 gGt (fB gLen (zm (fVar 0) (fNil))) (fC (.int 2)))))
 (retS (fC (.bl false)))
 (nxtS)
@[reducible] noncomputable def vE:FS :=
 zbG
@[reducible] noncomputable def zbF:FS :=
 ifS (fOr (fTrB (f2 gNe (f2 gIx (fVar 0) (fC (.int 0))) (fVar 2))) (fTrB (f2 gNe (f2 gIx (fVar 0) (f1 gNeg (fC (.int 1)))) (fVar 3))))
 (retS (fC (.bl false)))
 (nxtS)
@[reducible] noncomputable def uP:FT :=
 fTrB (f2 gNin (fVar 1) (fVar 0))
@[reducible] noncomputable def u9:FE :=
 fVar 1
noncomputable def va:FS :=
 seqS (zbK)
 (seqS (forS (fItL (fVar 0)) (gN 4)
 (vG))
 (seqS (forS (zcq (zm (fC (.int 1)) (zm (fB gLen (zm (fVar 0) (fNil))) (fNil)))) (gN 5)
 (vE))
 (seqS (zbF)
 (retS (f2 gEq (yy [1] 1 (fItL (fSl (fVar 0) (fSo (fC (.int 1))) (fSo (f1 gNeg (fC (.int 1)))))) (gN 1) (uP) (u9)) (fLst (hNil)))))))
noncomputable def yP:List D→Out Val:=runD 6 va
theorem zdh:∀ ds v,ds.length=4→yP ds=.ok v→runD 6 va ds=.ok v:=fun _ _ _ h=>h
@[reducible] noncomputable def zaP:FS :=
 ifS (fAnd (fTrB (f2 xP (f2 gIx (fVar 0) (fC (.int 1))) (fC .non))) (fTrB (f2 gLt (fVar 1) (f2 gMul (f2 gIx (fVar 0) (fC (.int 1))) (fVar 2)))))
 (retS (fC (.bl false)))
 (nxtS)
noncomputable def vz:FS :=
 seqS (zaP)
 (retS (fOrV (f2 gIsN (f2 gIx (fVar 0) (fC (.int 2))) (fC .non)) (f2 gLe (fVar 1) (f2 gMul (f2 gIx (fVar 0) (fC (.int 2))) (fVar 2)))))
noncomputable def zZ:List D→Out Val:=runD 3 vz
theorem zee:∀ ds v,ds.length=3→zZ ds=.ok v→runD 3 vz ds=.ok v:=fun _ _ _ h=>h
@[reducible] noncomputable def zbJ:FS :=
 ifS (fOr (fTrB (f2 gNe (f2 gIx (fVar 1) (fC (.int 0))) (f2 gIx (fVar 3) (fC (.int 0))))) (fTrB (f2 gNe (f2 gIx (fVar 2) (fC (.int 0))) (f2 gIx (fVar 3) (fC (.int 0))))))
 (retS (fC .non))
 (nxtS)
@[reducible] noncomputable def xJ:FS :=
 ifS (fAnd (fTrB (f2 gGt (f2 gIx (fVar 2) (fC (.int 1))) (f2 gIx (fVar 1) (fC (.int 1))))) (fTrB (f2 xP (f2 gIx (fVar 3) (fC (.int 1))) (fC .non))))
 (setS 5 true (fB zez (zm (fVar 5) (zm (f2 gIx (fVar 3) (fC (.int 1))) (fNil)))))
 (nxtS)
@[reducible] noncomputable def xI:FS :=
 ifS (fAnd (fTrB (f2 gLt (f2 gIx (fVar 2) (fC (.int 1))) (f2 gIx (fVar 1) (fC (.int 1))))) (fTrB (f2 xP (f2 gIx (fVar 3) (fC (.int 2))) (fC .non))))
 (setS 5 true (fB uu (zm (fVar 5) (zm (f2 gIx (fVar 3) (fC (.int 2))) (fNil)))))
 (nxtS)
@[reducible] noncomputable def vt:FS :=
 ifS (fOr (fNot (fTr (zM zZ (zm (fVar 3) (zm (fVar 5) (zm (fC (.int 1)) (fNil))))))) (fTrB (f2 gLt (f2 gMul (f2 gSub (f2 gIx (fVar 2) (fC (.int 1))) (fVar 5)) (f2 gSub (f2 gIx (fVar 2) (fC (.int 1))) (f2 gIx (fVar 1) (fC (.int 1))))) (fC (.int 0)))))
 (retS (fC .non))
 (nxtS)
@[reducible] noncomputable def wu:FS :=
 ifS (fTrB (f2 gEq (fVar 5) (f2 gIx (fVar 2) (fC (.int 1)))))
 (retS (fTup (zz (f2 gAdd (fVar 0) (fC (.int 1))) (zz (fC (.int 0)) (zz (fC (.int 0)) (hNil))))))
 (nxtS)
noncomputable def ww:FS :=
 seqS (zbJ)
 (seqS (setS 5 true (fVar 4))
 (seqS (xJ)
 (seqS (xI)
 (seqS (vt)
 (seqS (wu)
 (retS (fTup (zz (fVar 0) (zz (fC (.int 1)) (zz (fVar 5) (hNil)))))))))))
noncomputable def wp:List D→Out Val:=runD 6 ww
theorem zde:∀ ds v,ds.length=5→wp ds=.ok v→runD 6 ww ds=.ok v:=fun _ _ _ h=>h
@[reducible] noncomputable def uX:FS :=
 ifS (fOr (fTrB (f2 gLe (f2 gMul (f2 gSub (f2 gIx (fVar 2) (fC (.int 0))) (f2 gIx (fVar 0) (fC (.int 0)))) (fVar 3)) (fC (.int 0)))) (fTrB (f2 gLe (f2 gMul (f2 gSub (f2 gIx (fVar 1) (fC (.int 0))) (f2 gIx (fVar 2) (fC (.int 0)))) (fVar 3)) (fC (.int 0)))))
 (retS (fC (.bl false)))
 (nxtS)
@[reducible] noncomputable def uW:FS :=
 ifS (fTrB (f2 gLt (fVar 3) (fC (.int 0))))
 (retS (zM zZ (zm (fVar 2) (zm (f2 gSub (fC (.int 0)) (fVar 4)) (zm (f2 gSub (fC (.int 0)) (fVar 3)) (fNil))))))
 (nxtS)
noncomputable def xx:FS :=
 seqS (setS 3 true (f2 gSub (f2 gIx (fVar 1) (fC (.int 0))) (f2 gIx (fVar 0) (fC (.int 0)))))
 (seqS (uX)
 (seqS (setS 4 true (f2 gAdd (f2 gMul (f2 gIx (fVar 0) (fC (.int 1))) (fVar 3)) (f2 gMul (f2 gSub (f2 gIx (fVar 1) (fC (.int 1))) (f2 gIx (fVar 0) (fC (.int 1)))) (f2 gSub (f2 gIx (fVar 2) (fC (.int 0))) (f2 gIx (fVar 0) (fC (.int 0)))))))
 (seqS (uW)
 (retS (zM zZ (zm (fVar 2) (zm (fVar 4) (zm (fVar 3) (fNil)))))))))
noncomputable def yE:List D→Out Val:=runD 5 xx
theorem zdi:∀ ds v,ds.length=3→yE ds=.ok v→runD 5 xx ds=.ok v:=fun _ _ _ h=>h
@[reducible] noncomputable def wv:FS :=
 ifS (fTrB (f2 gEq (f2 gIx (fVar 4) (fC (.int 0))) (f2 gIx (fVar 5) (fC (.int 0)))))
 (retS (zM wp (zm (fVar 1) (zm (fVar 4) (zm (fVar 5) (zm (fVar 2) (zm (f2 gIx (fLst (zz (f2 gIx (fVar 3) (fC (.int 2))) (zz (f2 gIx (fVar 4) (fC (.int 1))) (hNil)))) (fB gInt (zm (fVar 6) (fNil)))) (fNil))))))))
 (nxtS)
@[reducible] noncomputable def vv:FS :=
 ifS (fAnd (fTr (zM yE (zm (fVar 4) (zm (fVar 5) (zm (fVar 2) (fNil)))))) (fOr (fTr (fVar 6)) (fTrB (f2 gGe (f2 gMul (f2 gSub (f2 gIx (fVar 2) (fC (.int 0))) (f2 gIx (fVar 3) (fC (.int 2)))) (f2 gSub (f2 gIx (fVar 5) (fC (.int 0))) (f2 gIx (fVar 4) (fC (.int 0))))) (fC (.int 0))))))
 (retS (fTup (zz (fVar 1) (zz (fC (.int 1)) (zz (f2 gIx (fVar 2) (fC (.int 0))) (hNil))))))
 (nxtS)
noncomputable def xR:FS :=
 seqS (setS 4 true (f2 gIx (fVar 0) (fVar 1)))
 (seqS (setS 5 true (f2 gIx (fVar 0) (f2 gAdd (fVar 1) (fC (.int 1)))))
 (seqS (setS 6 true (fOrV (f2 gGt (fVar 1) (f2 gIx (fVar 3) (fC (.int 0)))) (f2 gEq (f2 gIx (fVar 3) (fC (.int 1))) (fC (.int 0)))))
 (seqS (wv)
 (seqS (vv)
 (retS (fC .non))))))
noncomputable def yq:List D→Out Val:=runD 7 xR
theorem zdf:∀ ds v,ds.length=4→yq ds=.ok v→runD 7 xR ds=.ok v:=fun _ _ _ h=>h
@[reducible] noncomputable def zeu:FS :=
 ifS (fAnd (fTrB (f2 gEq (f2 gIx (f2 gIx (fVar 0) (fVar 3)) (fC (.int 0))) (f2 gIx (fVar 1) (fC (.int 0))))) (fTr (zM zZ (zm (fVar 1) (zm (f2 gIx (f2 gIx (fVar 0) (fVar 3)) (fC (.int 1))) (zm (fC (.int 1)) (fNil)))))))
 (retS (fTup (zz (fVar 3) (zz (fC (.int 0)) (zz (fC (.int 0)) (hNil))))))
 (nxtS)
@[reducible] noncomputable def zaO:FS :=
 ifS (fOr (fTrB (f2 gGt (fVar 3) (f2 gIx (fVar 2) (fC (.int 0))))) (fTrB (f2 gEq (f2 gIx (fVar 2) (fC (.int 1))) (fC (.int 0)))))
 (zeu)
 (nxtS)
@[reducible] noncomputable def zcm:FS :=
 ifS (fTrB (f2 xP (fVar 4) (fC .non)))
 (retS (fVar 4))
 (nxtS)
@[reducible] noncomputable def zem:FS :=
 ifS (fTrB (f2 gLt (f2 gAdd (fVar 3) (fC (.int 1))) (fB gLen (zm (fVar 0) (fNil)))))
 (seqS (setS 4 true (zM yq (zm (fVar 0) (zm (fVar 3) (zm (fVar 1) (zm (fVar 2) (fNil)))))))
 (zcm))
 (nxtS)
@[reducible] noncomputable def vh:FS :=
 seqS (zaO)
 (zem)
noncomputable def zdB:FS :=
 seqS (forS (zcq (zm (f2 gIx (fVar 2) (fC (.int 0))) (zm (fB gLen (zm (fVar 0) (fNil))) (fNil)))) (gN 3)
 (vh))
 (retS (fC .non))
noncomputable def zaA:List D→Out Val:=runD 5 zdB
theorem zhp:∀ ds v,ds.length=3→zaA ds=.ok v→runD 5 zdB ds=.ok v:=fun _ _ _ h=>h
@[reducible] noncomputable def zdv:FS :=
 ifS (fTrB (f2 gIsN (fVar 3) (fC .non)))
 (retS (fC .non))
 (nxtS)
@[reducible] noncomputable def uK:FS :=
 seqS (setS 3 true (zM zaA (zm (fVar 0) (zm (fVar 4) (zm (fVar 3) (fNil))))))
 (seqS (zdv)
 (appS 2 (fVar 3)))
noncomputable def uw:FS :=
 seqS (setS 2 false (fLst (hNil)))
 (seqS (setS 3 true (fTup (zz (fC (.int 0)) (zz (fC (.int 0)) (zz (fC (.int 0)) (hNil))))))
 (seqS (forS (fItL (fVar 1)) (gN 4)
 (uK))
 (retS (fVar 2))))
noncomputable def vp:List D→Out Val:=runD 5 uw
theorem zeg:∀ ds v,ds.length=2→vp ds=.ok v→runD 5 uw ds=.ok v:=fun _ _ _ h=>h
@[reducible] noncomputable def zev:FS :=
 ifS (fTrB (f2 gNe (f2 gIx (fVar 1) (fC (.int 0))) (f2 gIx (fVar 0) (fC (.int 0)))))
 (retS (fC (.int 0)))
 (nxtS)
@[reducible] noncomputable def zer:FS :=
 ifS (fTrB (f2 gEq (f2 gIx (fVar 1) (fC (.int 2))) (f2 gIx (fVar 0) (fC (.int 1)))))
 (retS (f2 gIx (fVar 1) (fC (.int 3))))
 (nxtS)
@[reducible] noncomputable def zeo:FS :=
 ifS (fTrB (f2 gEq (f2 gIx (fVar 1) (fC (.int 1))) (f2 gIx (fVar 0) (fC (.int 1)))))
 (retS (f2 gSub (fC (.int 0)) (f2 gIx (fVar 1) (fC (.int 3)))))
 (nxtS)
noncomputable def zbM:FS :=
 seqS (zev)
 (seqS (zer)
 (seqS (zeo)
 (retS (fC (.int 0)))))
noncomputable def zbx:List D→Out Val:=runD 2 zbM
theorem zhq:∀ ds v,ds.length=2→zbx ds=.ok v→runD 2 zbM ds=.ok v:=fun _ _ _ h=>h
noncomputable def zdy:FS :=
 seqS (setS 3 true (f2 gMul (f2 gSub (f2 gIx (fVar 1) (fC (.int 0))) (f2 gIx (fVar 0) (fC (.int 0)))) (f2 gSub (f2 gIx (fVar 2) (fC (.int 1))) (f2 gIx (fVar 1) (fC (.int 1))))))
 (retS (f2 gSub (fVar 3) (f2 gMul (f2 gSub (f2 gIx (fVar 1) (fC (.int 1))) (f2 gIx (fVar 0) (fC (.int 1)))) (f2 gSub (f2 gIx (fVar 2) (fC (.int 0))) (f2 gIx (fVar 1) (fC (.int 0)))))))
noncomputable def zbv:List D→Out Val:=runD 4 zdy
theorem zhl:∀ ds v,ds.length=3→zbv ds=.ok v→runD 4 zdy ds=.ok v:=fun _ _ _ h=>h
@[reducible] noncomputable def zeG:FE :=
 zM zbx (zm (fVar 0) (zm (fVar 1) (fNil)))
@[reducible] noncomputable def zaX:FE :=
 f2 gIx (fVar 0) (fC (.int 0))
@[reducible] noncomputable def zhP:FS :=
 ifS (fOr (fTrB (f2 gEq (fVar 4) (fLst (hNil)))) (fOr (fTrB (f2 gEq (f2 gIx (fVar 4) (fC (.int 0))) (fC (.int 0)))) (fTrB (f2 gNe (fVar 4) (yy [4] 1 (fItL (fVar 4)) (gN 1) (fYes) (zaX))))))
 (retS (fC (.bl false)))
 (nxtS)
@[reducible] noncomputable def zen:FS :=
 ifS (fTrB (f2 gNe (fVar 5) (fC (.int 0))))
 (retS (fOrV (f2 gGt (fB gLen (zm (fVar 4) (fNil))) (fC (.int 1))) (f2 gGt (f2 gMul (fVar 5) (f2 gIx (fVar 4) (fC (.int 0)))) (fC (.int 0)))))
 (nxtS)
@[reducible] noncomputable def zhN:FS :=
 ifS (fTrB (f2 gGe (f2 gAdd (fVar 6) (f2 gMul (f2 gSub (f2 gIx (fVar 1) (fC (.int 1))) (f2 gIx (fVar 0) (fC (.int 1)))) (f2 gSub (f2 gIx (fVar 2) (fC (.int 1))) (f2 gIx (fVar 1) (fC (.int 1)))))) (fC (.int 0))))
 (retS (fC (.bl false)))
 (nxtS)
@[reducible] noncomputable def zel:FS :=
 ifS (fTrB (f2 gGt (fB gLen (zm (fVar 4) (fNil))) (fC (.int 1))))
 (retS (fC (.bl true)))
 (nxtS)
@[reducible] noncomputable def zek:FS :=
 ifS (fTrB (f2 gEq (f2 gIx (f2 gIx (fVar 3) (fC (.int 0))) (fC (.int 1))) (f2 gIx (fVar 1) (fC (.int 1)))))
 (setS 7 true (f2 gSub (fC (.int 0)) (fVar 7)))
 (nxtS)
noncomputable def zbN:FS :=
 seqS (setS 4 true (yy [1] 1 (fItL (fVar 3)) (gN 1) (fYes) (zeG)))
 (seqS (zhP)
 (seqS (setS 5 true (zM zbv (zm (fVar 0) (zm (fVar 1) (zm (fVar 2) (fNil))))))
 (seqS (zen)
 (seqS (setS 6 true (f2 gMul (f2 gSub (f2 gIx (fVar 1) (fC (.int 0))) (f2 gIx (fVar 0) (fC (.int 0)))) (f2 gSub (f2 gIx (fVar 2) (fC (.int 0))) (f2 gIx (fVar 1) (fC (.int 0))))))
 (seqS (zhN)
 (seqS (zel)
 (seqS (setS 7 true (f2 gSub (f2 gIx (fVar 0) (fC (.int 1))) (f2 gIx (fVar 1) (fC (.int 1)))))
 (seqS (zek)
 (retS (zcs (f2 gEq (f2 gIx (fVar 0) (fC (.int 0))) (f2 gIx (fVar 1) (fC (.int 0)))) (f2 gGt (fVar 7) (fC (.int 0)))))))))))))
noncomputable def zaB:List D→Out Val:=runD 8 zbN
theorem zhs:∀ ds v,ds.length=4→zaB ds=.ok v→runD 8 zbN ds=.ok v:=fun _ _ _ h=>h
@[reducible] noncomputable def zhQ:FS :=
 ifS (fTrB (f2 gIsN (fVar 2) (fC .non)))
 (retS (fC (.bl false)))
 (nxtS)
@[reducible] noncomputable def zb1:FT :=
 fTrB (f2 gEq (fSl (fVar 2) (fNo) (fSo (fC (.int 2)))) (fTup (zz (fVar 0) (zz (fC (.int 0)) (hNil)))))
@[reducible] noncomputable def zeF:FE :=
 fVar 1
@[reducible] noncomputable def zhO:FS :=
 ifS (fNot (fTr (zM zaB (zm (f2 gIx (fVar 0) (f2 gSub (fVar 3) (fC (.int 1)))) (zm (f2 gIx (fVar 0) (fVar 3)) (zm (f2 gIx (fVar 0) (f2 gAdd (fVar 3) (fC (.int 1)))) (zm (fVar 4) (fNil))))))))
 (retS (fC (.bl false)))
 (nxtS)
@[reducible] noncomputable def zcH:FS :=
 seqS (setS 4 true (yy [3] 2 (zlv (fVar 1) (fVar 2)) (gT [1,2]) (zb1) (zeF)))
 (zhO)
noncomputable def zdz:FS :=
 seqS (setS 2 true (zM vp (zm (fVar 0) (zm (fVar 1) (fNil)))))
 (seqS (zhQ)
 (seqS (forS (zcq (zm (fC (.int 1)) (zm (f2 gSub (fB gLen (zm (fVar 0) (fNil))) (fC (.int 1))) (fNil)))) (gN 3)
 (zcH))
 (retS (fC (.bl true)))))
noncomputable def tR:List D→Out Val:=runD 5 zdz
theorem zhm:∀ ds v,ds.length=2→tR ds=.ok v→runD 5 zdz ds=.ok v:=fun _ _ _ h=>h
@[reducible] noncomputable def zfQ:FE :=
 f2 gMod (fVar 0) (f2 gPow (fC (.int 10)) (fC (.int 12)))
@[reducible] noncomputable def zfJ:FS :=
 ifS (fTrB (f2 gNe (fVar 3) (fLst (hNil))))
 (setS 5 true (yy [] 1 (fItL (fSlS (fVar 0) (fSo (fC (.int 2))) (fSo (fC (.int 26))))) (gN 0) (fYes) (zfQ)))
 (nxtS)
@[reducible] noncomputable def zbH:FS :=
 ifS (fTrB (f2 gEq (f2 gMod (f2 gDiv (f2 gIx (fVar 1) (fC (.int 1))) (fC (.int 8))) (fC (.int 2))) (fC (.int 1))))
 (setS 9 true (fTup (zz (f2 gSub (f2 gMod (f2 gIx (fVar 1) (fC (.int 10))) (f2 gPow (fC (.int 10)) (fC (.int 18)))) (f2 gMul (fC (.int 5)) (f2 gPow (fC (.int 10)) (fC (.int 17))))) (zz (f2 gSub (f2 gMod (f2 gIx (fVar 1) (fC (.int 11))) (f2 gPow (fC (.int 10)) (fC (.int 18)))) (f2 gMul (fC (.int 5)) (f2 gPow (fC (.int 10)) (fC (.int 17))))) (hNil)))))
 (nxtS)
@[reducible] noncomputable def zdV:FS :=
 appS 10 (fTup (zz (f2 gAdd (fVar 11) (f2 gIx (fVar 9) (fC (.int 0)))) (zz (f2 gAdd (f2 gMul (fVar 12) (fVar 8)) (f2 gIx (fVar 9) (fC (.int 1)))) (hNil))))
@[reducible] noncomputable def zfP:FE :=
 fTup (zz (f2 gAdd (fVar 2) (f2 gIx (fVar 0) (fC (.int 0)))) (zz (f2 gAdd (f2 gMul (fVar 3) (fVar 1)) (f2 gIx (fVar 0) (fC (.int 1)))) (hNil)))
@[reducible] noncomputable def zke:FS :=
 ifS (fOr (fNot (fTr (zM yP (zm (fVar 14) (zm (fVar 2) (zm (f2 gIx (fVar 10) (fC (.int 0))) (zm (f2 gIx (fVar 10) (fC (.int 1))) (fNil)))))))) (fTrB (f2 gNe (fVar 13) (fVar 6))))
 (retS (fC (.bl false)))
 (nxtS)
noncomputable def zcp:FS :=
 seqS (setS 1 true (zM wq (zm (fVar 0) (zm (fC (.int 14)) (fNil)))))
 (seqS (setS 2 true (zM zbw (zm (fVar 1) (fNil))))
 (seqS (setS 3 true (zM uU (zm (fVar 2) (fNil))))
 (seqS (setS 4 true (f2 gMod (f2 gIx (fVar 1) (fC (.int 8))) (f2 gAdd (fB gLen (zm (fVar 3) (fNil))) (fC (.int 1)))))
 (seqS (setS 5 true (fLst (hNil)))
 (seqS (zfJ)
 (seqS (asgS (gT [6,7]) (zM zgh (zm (fVar 3) (zm (fVar 4) (zm (fVar 5) (fNil))))))
 (seqS (setS 8 true (f2 gIx (fLst (zz (fC (.int 1)) (zz (f2 gAdd (fC (.int 1)) (f2 gMod (f2 gIx (fVar 1) (fC (.int 9))) (f2 gPow (fC (.int 10)) (fC (.int 18))))) (hNil)))) (f2 gMod (f2 gDiv (f2 gIx (fVar 1) (fC (.int 1))) (fC (.int 4))) (fC (.int 2)))))
 (seqS (setS 9 true (fTup (zz (fC (.int 0)) (zz (fC (.int 0)) (hNil)))))
 (seqS (zbH)
 (seqS (setS 10 false (fLst (hNil)))
 (seqS (forS (fItL (fLst (zz (zM wL (zm (fVar 3) (zm (fVar 4) (zm (f2 gIx (fVar 1) (fC (.int 12))) (fNil))))) (zz (zM wL (zm (fVar 3) (zm (fVar 7) (zm (f2 gIx (fVar 1) (fC (.int 13))) (fNil))))) (hNil))))) (gT [11,12])
 (zdV))
 (seqS (setS 6 true (zM vo (zm (fVar 6) (zm (fVar 8) (zm (fVar 9) (fNil))))))
 (seqS (setS 2 true (yy [9,8] 2 (fItL (fVar 2)) (gT [2,3]) (fYes) (zfP)))
 (seqS (setS 13 true (fB zlt (zm (fVar 6) (fNil))))
 (seqS (setS 14 true (zM xa (zm (f2 gIx (fVar 10) (fC (.int 0))) (zm (fVar 13) (zm (f2 gIx (fVar 10) (fC (.int 1))) (fNil))))))
 (seqS (zke)
 (retS (zM tR (zm (fVar 14) (zm (fVar 6) (fNil)))))))))))))))))))))
end My
namespace My
open PySem PySem.Spec PyProof.Rows L2 DL
theorem zd8 {f:Ev→Out (List Val)} {env:Ev} {n:Int} (h:f env=.ok [.pers (.int n)]) (hn : -1000000≤n∧n≤1000000):zcr f env=.ok (rngD 0 n.toNat):=by
 simp only [zcr,h,zk,List.map_cons,List.map_nil,Val.d]
 rw [if_pos hn]
theorem zB {g:D→D→Out Val} {fa fb:FE} {E:Ev} {x y:Val} (ha:fa E=.ok x) (hb:fb E=.ok y):f2 g fa fb E=g x.d y.d:=by
 rw [f2,ha,zk,hb,zk]
theorem ziu (i j:Int):gAdd (.int i) (.int j)=.ok (.pers (.int (i+j))):=rfl
theorem wt {i j:Int} (h:0<j):gMod (.int i) (.int j)=.ok (.pers (.int (i%j))):=by
 show (if decide (0<j)=true then _ else _)=_
 rw [if_pos (decide_eq_true h)]
theorem xb {i j:Int} (h:cMul i j=true):gMul (.int i) (.int j)=.ok (.pers (.int (i*j))):=by
 show (if cMul i j=true then _ else _)=_
 rw [if_pos h]
theorem zh4 {i j:Int} (h1:0<j) (h2:j<2^250):gDiv (.int i) (.int j)=.ok (.pers (.int (i / j))):=by
 show (if cDiv i j=true then _ else _)=_
 rw [if_pos (zlF h1 h2)]
theorem xF {ds:List D} {i:Int} {d:D} (h:atI ds i=some d):gIx (.lst ds) (.int i)=.ok (.pers d):=by
 show (match atI ds i with | some d=>Out.ok (Val.pers d) | none=>.bad)=_
 rw [h]
theorem zmW {ns:List Int} {i n:Int} (h:atI ns i=some n):gIx (.scr ns) (.int i)=.ok (.pers (.int n)):=by
 show (match atI ns i with | some n=>Out.ok (Val.pers (.int n)) | none=>.bad)=_
 rw [h]
theorem vi {α:Type} {xs:List α} {k:Nat} (h:k<xs.length):atI xs (k:Int)=some xs[k]:=by
 rw [zkn _ _ (by lia),Int.toNat_natCast,List.getElem?_eq_getElem h]
theorem zmM:∃ M:Int,0<M∧∀ E:Ev,f2 gAdd (f2 gPow (fC (.int 10)) (fC (.int 60))) (fC (.int 7)) E=.ok (.pers (.int M)):=by
 refine ⟨10^(60:Int).toNat+7,by decide,fun E => ?_⟩
 have h:gPow (.int 10) (.int 60)=.ok (.pers (.int (10^(60:Int).toNat))):=by
  show (if cPow 10 60=true then Out.ok (Val.pers (.int (10^(60:Int).toNat))) else .bad)=_
  rw [if_pos (zil 60 (by lia) (by lia))]
 rw [zB (x:=.pers (.int (10^(60:Int).toNat))) (y:=.pers (.int 7)) (by
  rw [zB (x:=.pers (.int 10)) (y:=.pers (.int 60)) rfl rfl]
  exact h) rfl]
 exact ziu _ _
theorem zmO {ns:List Int} (hl:ns.length≤63) {E:Ev} (h:E[0]?=some (.pers (.scr ns))):fB uu (zm (fB gLen (zm (fVar 0) (fNil))) (zm (fC (.int 63)) (fNil))) E=.ok (.pers (.int ns.length)):=by
 have h1:fB gLen (zm (fVar 0) (fNil)) E=.ok (.pers (.int ns.length)):=by
  simp only [fB,zm,fNil,fVar,h,zk]
  rfl
 rw [fB,zm,h1,zk]
 show Out.ok (Val.pers (.int (if (63:Int)<(ns.length:Int) then 63 else ns.length)))=_
 rw [if_neg (by lia)]
theorem zdc {ns:List Int} (hl:ns.length≤63) (k:Nat) (o s5:Slot):∃ c:Int,uV [.pers (.scr ns),.pers (.int 14),o,.pers (.int k),.pers (.int 0),s5]=.ok (.next [.pers (.scr ns),.pers (.int 14),o,.pers (.int k),.pers (.int c),s5]):=by
 by_cases h0:ns.length=0
 ·have:ns=[]:=List.eq_nil_of_length_eq_zero h0
  subst this
  exact ⟨0,rfl⟩
 ·have hp:0<ns.length:=by lia
  obtain ⟨M,hM,e3⟩:=zmM
  have hm:=zmO hl (E:=[.pers (.scr ns),.pers (.int 14),o,.pers (.int k),.pers (.int 0),s5]) rfl
  have hk:(k:Int)%(ns.length:Int)=((k%ns.length:Nat):Int):=(Int.natCast_emod k ns.length).symm
  have e1:f2 gMod (fVar 3) (fB uu (zm (fB gLen (zm (fVar 0) (fNil))) (zm (fC (.int 63)) (fNil)))) [.pers (.scr ns),.pers (.int 14),o,.pers (.int k),.pers (.int 0),s5]=.ok (.pers (.int ((k%ns.length:Nat):Int))):=by
   rw [zB (x:=.pers (.int k)) rfl hm]
   show gMod (.int k) (.int ns.length)=_
   rw [wt (by lia),hk]
  have e2:f2 gIx (fVar 0) (f2 gMod (fVar 3) (fB uu (zm (fB gLen (zm (fVar 0) (fNil))) (zm (fC (.int 63)) (fNil))))) [.pers (.scr ns),.pers (.int 14),o,.pers (.int k),.pers (.int 0),s5]=.ok (.pers (.int (ns[k%ns.length]'(Nat.mod_lt _ hp)))):=by
   rw [zB (x:=.pers (.scr ns)) rfl e1]
   exact zmW (vi (Nat.mod_lt _ hp))
  refine ⟨(ns[k%ns.length]'(Nat.mod_lt _ hp))%M,?_⟩
  have c:fTrB (f2 gGt (fB gLen (zm (fVar 0) (fNil))) (fC (.int 0))) [.pers (.scr ns),.pers (.int 14),o,.pers (.int k),.pers (.int 0),s5]=.ok true:=by
   show Out.ok (decide ((0:Int)<(ns.length:Int)))=_
   rw [decide_eq_true (by lia)]
  rw [uV,ifS,c,zk,if_pos rfl,setS,zB e2 (e3 _)]
  show ((gMod (.int _) (.int M)).bind _)=_
  rw [wt hM]
  rfl
theorem zdd {ns:List Int} (hl:ns.length≤63) (k:Nat) (hk:k<64) (hs:List Int) (h14:hs.length=14) (s4 s5:Slot):∃ (hs':List Int) (t4 t5:Slot),hs'.length=14∧vF [.pers (.scr ns),.pers (.int 14),.own (hs.map .int),.pers (.int k),s4,s5]=.ok (.next [.pers (.scr ns),.pers (.int 14),.own (hs'.map .int),.pers (.int k),t4,t5]):=by
 obtain ⟨c,hc⟩:=zdc hl k (.own (hs.map .int)) s5
 obtain ⟨M,hM,e3⟩:=zmM
 have hm:(k:Int)%14=((k%14:Nat):Int):=by lia
 have hlt:k%14<hs.length:=by lia
 have hat:atI (hs.map D.int) ((k%14:Nat):Int)=some (.int hs[k%14]):=by
  rw [vi (by rw [List.length_map]; exact hlt),List.getElem_map]
 generalize hv:hs[k%14]=v at hat
 have m0:f2 gIx (fVar 2) (fVar 5) [.pers (.scr ns),.pers (.int 14),.own (hs.map .int),.pers (.int k),.pers (.int c),.pers (.int ((k%14:Nat):Int))]=.ok (.pers (.int v)):=by
  rw [zB (x:=.brw 2 (hs.map .int)) (y:=.pers (.int ((k%14:Nat):Int))) rfl rfl]
  exact xF hat
 have m1:f2 gMul (f2 gIx (fVar 2) (fVar 5)) (fC (.int 48271)) [.pers (.scr ns),.pers (.int 14),.own (hs.map .int),.pers (.int k),.pers (.int c),.pers (.int ((k%14:Nat):Int))]=.ok (.pers (.int (v*48271))):=by
  rw [zB m0 (y:=.pers (.int 48271)) rfl]
  exact xb (xD (by lia) (by lia))
 have m2:f2 gMul (fVar 3) (fVar 3) [.pers (.scr ns),.pers (.int 14),.own (hs.map .int),.pers (.int k),.pers (.int c),.pers (.int ((k%14:Nat):Int))]=.ok (.pers (.int ((k:Int)*k))):=by
  rw [zB (x:=.pers (.int k)) (y:=.pers (.int k)) rfl rfl]
  exact xb (xD (by lia) (by lia))
 have m3:f2 gAdd (f2 gAdd (f2 gMul (f2 gIx (fVar 2) (fVar 5)) (fC (.int 48271))) (fVar 4)) (f2 gMul (fVar 3) (fVar 3)) [.pers (.scr ns),.pers (.int 14),.own (hs.map .int),.pers (.int k),.pers (.int c),.pers (.int ((k%14:Nat):Int))]=.ok (.pers (.int (v*48271+c+(k:Int)*k))):=by
  rw [zB (x:=.pers (.int (v*48271+c))) (by
   rw [zB m1 (y:=.pers (.int c)) rfl]
   exact ziu _ _) m2]
  exact ziu _ _
 refine ⟨hs.set (k%14) ((v*48271+c+(k:Int)*k)%M),.pers (.int c),.pers (.int ((k%14:Nat):Int)),by rw [List.length_set]; exact h14,?_⟩
 rw [vF,zj (env':=[.pers (.scr ns),.pers (.int 14),.own (hs.map .int),.pers (.int k),.pers (.int 0),s5]) rfl,zj hc]
 rw [zj (env':=[.pers (.scr ns),.pers (.int 14),.own (hs.map .int),.pers (.int k),.pers (.int c),.pers (.int ((k%14:Nat):Int))]) (by
  rw [setS,zB (x:=.pers (.int k)) (y:=.pers (.int 14)) rfl rfl]
  show ((gMod (.int k) (.int 14)).bind _)=_
  rw [wt (by lia),hm]
  rfl)]
 have hix:ixN (hs.map D.int).length ((k%14:Nat):Int)=some (k%14):=by
  unfold ixN
  rw [if_pos (by lia),if_pos (by rw [List.length_map]; lia),Int.toNat_natCast]
 have hput:∀ (f:FE) (x:Int),f [.pers (.scr ns),.pers (.int 14),.own (hs.map .int),.pers (.int k),.pers (.int c),.pers (.int ((k%14:Nat):Int))]=.ok (.pers (.int x))→putS 2 (fVar 5) f [.pers (.scr ns),.pers (.int 14),.own (hs.map .int),.pers (.int k),.pers (.int c),.pers (.int ((k%14:Nat):Int))]=.ok (.next [.pers (.scr ns),.pers (.int 14),.own ((hs.set (k%14) x).map .int),.pers (.int k),.pers (.int c),.pers (.int ((k%14:Nat):Int))]):=by
  intro f x hx
  show ((f [.pers (.scr ns),.pers (.int 14),.own (hs.map .int),.pers (.int k),.pers (.int c),.pers (.int ((k%14:Nat):Int))]).bind _)=_
  rw [hx,zk]
  show (match ixN (hs.map D.int).length ((k%14:Nat):Int) with | some j=>Out.ok (Res.next [.pers (.scr ns),.pers (.int 14),.own ((hs.map D.int).set j (.int x)),.pers (.int k),.pers (.int c),.pers (.int ((k%14:Nat):Int))]) | none=>.bad)=_
  rw [hix,List.map_set]
 refine hput _ _ ?_
 rw [zB m3 (e3 _)]
 exact wt hM
theorem zge {ns:List Int} (hl:ns.length≤63):∃ hs:List Int,hs.length=14∧wq [.scr ns,.int 14]=.ok (.fresh (hs.map .int)):=by
 have hz:compD (gN 0) fYes tj (rngD 0 14) [.un]=.ok ((List.replicate 14 (0:Int)).map .int):=rfl
 have hm:=zmO hl (E:=[.pers (.scr ns),.pers (.int 14),.own ((List.replicate 14 (0:Int)).map .int),.un,.un,.un]) rfl
 obtain ⟨N,hN,e4⟩:∃ N:Nat,N≤64∧zcr (zm (fB zez (zm (fVar 1) (zm (fB uu (zm (fB gLen (zm (fVar 0) (fNil))) (zm (fC (.int 63)) (fNil)))) (fNil)))) (fNil)) [.pers (.scr ns),.pers (.int 14),.own ((List.replicate 14 (0:Int)).map .int),.un,.un,.un]=.ok (rngD 0 N):=by
  refine ⟨(if (ns.length:Int)>14 then (ns.length:Int) else 14).toNat,by split <;> lia,?_⟩
  refine zd8 ?_ (by split <;> lia)
  have:fB zez (zm (fVar 1) (zm (fB uu (zm (fB gLen (zm (fVar 0) (fNil))) (zm (fC (.int 63)) (fNil)))) (fNil))) [.pers (.scr ns),.pers (.int 14),.own ((List.replicate 14 (0:Int)).map .int),.un,.un,.un]=.ok (.pers (.int (if (ns.length:Int)>14 then (ns.length:Int) else 14))):=by
   have e1:fVar 1 [.pers (.scr ns),.pers (.int 14),.own ((List.replicate 14 (0:Int)).map .int),.un,.un,.un]=.ok (.pers (.int 14)):=rfl
   rw [fB,zm,e1,zk,zm,hm,zk]
   rfl
  rw [zm,this,zk]
  rfl
 obtain ⟨env',ef,hs,s3,s4,s5,h14,rfl⟩:=vy (g:=gN 3) (fb:=vF) (fun _ env=>∃ (hs:List Int) (s3 s4 s5:Slot),hs.length=14∧env=[.pers (.scr ns),.pers (.int 14),.own (hs.map .int),s3,s4,s5]) (rngD 0 N) 0 [.pers (.scr ns),.pers (.int 14),.own ((List.replicate 14 (0:Int)).map .int),.un,.un,.un] ⟨_,_,_,_,rfl,rfl⟩ (by
  rintro j d env _ hd ⟨hs,s3,s4,s5,h14,rfl⟩
  obtain ⟨hj,rfl⟩:=zb9 hd
  obtain ⟨hs',t4,t5,l',e⟩:=zdd hl j (by lia) hs h14 s4 s5
  refine ⟨[.pers (.scr ns),.pers (.int 14),.own (hs.map .int),.pers (.int j),s4,s5],_,?_,e,hs',_,t4,t5,l',rfl⟩
  rw [Nat.sub_zero,Int.zero_add]
  rfl)
 refine ⟨hs,h14,?_⟩
 unfold wq
 show ((w9 [.pers (.scr ns),.pers (.int 14),.un,.un,.un,.un]).bind _)=_
 unfold w9
 rw [zj (env':=[.pers (.scr ns),.pers (.int 14),.own ((List.replicate 14 (0:Int)).map .int),.un,.un,.un]) (by
  have hr:zcr (zm (fVar 1) (fNil)) [.pers (.scr ns),.pers (.int 14),.un,.un,.un,.un]=.ok (rngD 0 14):=zd8 (n:=14) rfl (by lia)
  rw [setS,yy,hr,zk,if_pos (by rw [zg1]; lia)]
  show (((compD (gN 0) fYes tj (rngD 0 14) [.un]).bind _).bind _)=_
  rw [hz]
  rfl)]
 rw [zj (by
  rw [forS,e4,zk]
  exact ef)]
 rfl
noncomputable def PegR (p:Int×Int):Prop:=(∃ i:Int,p.1=2*i∧0≤i∧i≤3)∧0≤p.2∧p.2≤12
theorem zhe {hs:List Int} (h14:hs.length=14) (w:Int) (k:Nat) (hk:k<7) {ps:List (Int×Int)} (hp:ps.Nodup∧ps.length≤k∧∀ p∈ps,PegR p) (s4 s5:Slot) :
 ∃ (ps':List (Int×Int)) (t4 t5:Slot),(ps'.Nodup∧ps'.length≤k+1∧∀ p∈ps',PegR p)∧zcI [.pers (.lst (hs.map .int)),.own (ps.map zf),.pers (.int w),.pers (.int k),s4,s5]=.ok (.next [.pers (.lst (hs.map .int)),.own (ps'.map zf),.pers (.int w),.pers (.int k),t4,t5]):=by
 have hat:atI (hs.map D.int) (2+(k:Int))=some (.int (hs[k+2]'(by lia))):=by
  rw [show (2:Int)+(k:Int)=((k+2:Nat):Int) by lia,vi (by rw [List.length_map]; lia),List.getElem_map]
 generalize (hs[k+2]'(by lia))=v at hat
 have x0:f2 gIx (fVar 0) (f2 gAdd (fC (.int 2)) (fVar 3)) [.pers (.lst (hs.map .int)),.own (ps.map zf),.pers (.int w),.pers (.int k),s4,s5]=.ok (.pers (.int v)):=by
  rw [zB (x:=.pers (.lst (hs.map .int))) (y:=.pers (.int (2+(k:Int)))) rfl rfl]
  exact xF hat
 have hq:∀ (q:Int×Int),PegR q→zcl [.pers (.lst (hs.map .int)),.own (ps.map zf),.pers (.int w),.pers (.int k),.pers (.int v),.pers (zf q)]=.ok (.next [.pers (.lst (hs.map .int)),.own ((if q∈ps then ps else ps++[q]).map zf),.pers (.int w),.pers (.int k),.pers (.int v),.pers (zf q)]):=by
  intro q _
  have c:fTrB (f2 gNin (fVar 5) (fVar 1)) [.pers (.lst (hs.map .int)),.own (ps.map zf),.pers (.int w),.pers (.int k),.pers (.int v),.pers (zf q)]=.ok (!decide (q∈ps)):=by
   have:f2 gNin (fVar 5) (fVar 1) [.pers (.lst (hs.map .int)),.own (ps.map zf),.pers (.int w),.pers (.int k),.pers (.int v),.pers (zf q)]=.ok (.pers (.bl (!decide (q∈ps)))):=by
    rw [zB (x:=.pers (zf q)) (y:=.brw 1 (ps.map zf)) rfl rfl]
    show (if shal 4 (zf q)=true then Out.ok (Val.pers (.bl (!(ps.map zf).any fun z=>eqD z (zf q)))) else .bad)=_
    rw [if_pos (wm 3 q),zcM]
   rw [fTrB,this]
   rfl
  by_cases z:q∈ps
  ·rw [decide_eq_true z] at c
   rw [zcl,ifS,c,zk,if_neg (by decide),if_pos z]
   rfl
  ·rw [decide_eq_false z] at c
   rw [zcl,ifS,c,zk,if_pos (by decide),if_neg z]
   show (if (ps.map zf).length<100000 then Out.ok (Res.next [.pers (.lst (hs.map .int)),.own (ps.map zf++[zf q]),.pers (.int w),.pers (.int k),.pers (.int v),.pers (zf q)]) else .bad)=_
   rw [if_pos (by rw [List.length_map]; lia),List.map_append]
   rfl
 have fin:∀ q:Int×Int,PegR q→((if q∈ps then ps else ps++[q]).Nodup∧(if q∈ps then ps else ps++[q]).length≤k+1∧∀ p∈(if q∈ps then ps else ps++[q]),PegR p):=by
  intro q hq
  by_cases z:q∈ps
  ·rw [if_pos z]
   exact ⟨hp.1,by lia,hp.2.2⟩
  ·rw [if_neg z]
   refine ⟨?_,by simp; lia,fun p h => ?_⟩
   ·rw [List.nodup_append]
    refine ⟨hp.1,by simp,fun a ha b hb e=>z ?_⟩
    rw [List.mem_singleton.mp hb] at e
    rw [←e]
    exact ha
   ·rcases List.mem_append.mp h with h | h
    ·exact hp.2.2 p h
    ·rw [List.mem_singleton.mp h]; exact hq
 have E5:setS 5 true (fTup (zz (f2 gMul (fC (.int 2)) (f2 gMod (fVar 4) (fC (.int 4)))) (zz (f2 gMod (f2 gDiv (fVar 4) (fC (.int 4))) (fC (.int 9))) (hNil)))) [.pers (.lst (hs.map .int)),.own (ps.map zf),.pers (.int w),.pers (.int k),.pers (.int v),s5]=.ok (.next [.pers (.lst (hs.map .int)),.own (ps.map zf),.pers (.int w),.pers (.int k),.pers (.int v),.pers (zf (2*(v%4),v / 4%9))]):=rfl
 have r1:PegR (2*(v%4),v / 4%9):=⟨⟨v%4,rfl,by lia,by lia⟩,by show 0≤v / 4%9; lia,by show v / 4%9≤12; lia⟩
 have step1:∃ q1,PegR q1∧zet [.pers (.lst (hs.map .int)),.own (ps.map zf),.pers (.int w),.pers (.int k),.pers (.int v),.pers (zf (2*(v%4),v / 4%9))]=.ok (.next [.pers (.lst (hs.map .int)),.own (ps.map zf),.pers (.int w),.pers (.int k),.pers (.int v),.pers (zf q1)]):=by
  by_cases z:w=1
  ·subst z
   exact ⟨(4,v%13),⟨⟨2,rfl,by lia,by lia⟩,by show 0≤v%13; lia,by show v%13≤12; lia⟩,rfl⟩
  ·refine ⟨_,r1,?_⟩
   have c:fTrB (f2 gEq (fVar 2) (fC (.int 1))) [.pers (.lst (hs.map .int)),.own (ps.map zf),.pers (.int w),.pers (.int k),.pers (.int v),.pers (zf (2*(v%4),v / 4%9))]=.ok false:=by
    show Out.ok (w == 1)=_
    rw [beq_eq_false_iff_ne.mpr z]
   rw [zet,ifS,c,zk,if_neg (by decide)]
   rfl
 obtain ⟨q1,r2,st1⟩:=step1
 have step2:∃ q2,PegR q2∧zeq [.pers (.lst (hs.map .int)),.own (ps.map zf),.pers (.int w),.pers (.int k),.pers (.int v),.pers (zf q1)]=.ok (.next [.pers (.lst (hs.map .int)),.own (ps.map zf),.pers (.int w),.pers (.int k),.pers (.int v),.pers (zf q2)]):=by
  by_cases z:w=2
  ·subst z
   exact ⟨(2*(v%3),2*(v / 3%4)),⟨⟨v%3,rfl,by lia,by lia⟩,by show 0≤2*(v / 3%4); lia,by show 2*(v / 3%4)≤12; lia⟩,rfl⟩
  ·refine ⟨_,r2,?_⟩
   have c:fTrB (f2 gEq (fVar 2) (fC (.int 2))) [.pers (.lst (hs.map .int)),.own (ps.map zf),.pers (.int w),.pers (.int k),.pers (.int v),.pers (zf q1)]=.ok false:=by
    show Out.ok (w == 2)=_
    rw [beq_eq_false_iff_ne.mpr z]
   rw [zeq,ifS,c,zk,if_neg (by decide)]
   rfl
 obtain ⟨q2,r3,st2⟩:=step2
 refine ⟨_,.pers (.int v),.pers (zf q2),fin q2 r3,?_⟩
 rw [zcI,zj (env':=[.pers (.lst (hs.map .int)),.own (ps.map zf),.pers (.int w),.pers (.int k),.pers (.int v),s5]) (by
  rw [setS,x0]
  rfl),zj E5,zj st1,zj st2]
 exact hq q2 r3
theorem zkV {hs:List Int} (h14:hs.length=14):∃ ps:List (Int×Int),(ps.Nodup∧ps.length≤6∧∀ p∈ps,PegR p)∧zbw [.lst (hs.map .int)]=.ok (.fresh (ps.map zf)):=by
 have a0:atI (hs.map D.int) 0=some (.int (hs[0]'(by lia))):=by
  have:=vi (xs:=hs.map D.int) (k:=0) (by rw [List.length_map]; lia)
  rw [List.getElem_map] at this
  exact this
 have a1:atI (hs.map D.int) 1=some (.int (hs[1]'(by lia))):=by
  have:=vi (xs:=hs.map D.int) (k:=1) (by rw [List.length_map]; lia)
  rw [List.getElem_map] at this
  exact this
 generalize (hs[0]'(by lia))=u at a0
 generalize (hs[1]'(by lia))=w at a1
 have er:zcr (zm (f2 gMod (f2 gIx (fVar 0) (fC (.int 0))) (fC (.int 7))) (fNil)) [.pers (.lst (hs.map .int)),.own [],.pers (.int (w%4)),.un,.un,.un]=.ok (rngD 0 (u%7).toNat):=by
  refine zd8 ?_ (by lia)
  have:f2 gMod (f2 gIx (fVar 0) (fC (.int 0))) (fC (.int 7)) [.pers (.lst (hs.map .int)),.own [],.pers (.int (w%4)),.un,.un,.un]=.ok (.pers (.int (u%7))):=by
   rw [zB (x:=.pers (.int u)) (y:=.pers (.int 7)) (by
    rw [zB (x:=.pers (.lst (hs.map .int))) (y:=.pers (.int 0)) rfl rfl]
    exact xF a0) rfl]
   exact wt (by lia)
  rw [zm,this,zk]
  rfl
 have hN:(u%7).toNat≤6:=by lia
 generalize (u%7).toNat=N at er hN
 obtain ⟨env',ef,ps,s3,s4,s5,hp,rfl⟩:=vy (g:=gN 3) (fb:=zcI) (fun j env=>∃ (ps:List (Int×Int)) (s3 s4 s5:Slot),(ps.Nodup∧ps.length≤j∧∀ p∈ps,PegR p)∧env=[.pers (.lst (hs.map .int)),.own (ps.map zf),.pers (.int (w%4)),s3,s4,s5]) (rngD 0 N) 0 [.pers (.lst (hs.map .int)),.own [],.pers (.int (w%4)),.un,.un,.un] ⟨[],_,_,_,by simp,rfl⟩ (by
  rintro j d env _ hd ⟨ps,s3,s4,s5,hp,rfl⟩
  obtain ⟨hj,rfl⟩:=zb9 hd
  obtain ⟨ps',t4,t5,l',e⟩:=zhe h14 (w%4) j (by lia) hp s4 s5
  refine ⟨[.pers (.lst (hs.map .int)),.own (ps.map zf),.pers (.int (w%4)),.pers (.int j),s4,s5],_,?_,e,ps',_,t4,t5,l',rfl⟩
  rw [Nat.sub_zero,Int.zero_add]
  rfl)
 refine ⟨ps,⟨hp.1,by have:=hp.2.1; rw [zg1] at this; lia,hp.2.2⟩,?_⟩
 unfold zbw
 show ((zdA [.pers (.lst (hs.map .int)),.un,.un,.un,.un,.un]).bind _)=_
 unfold zdA
 rw [zj (env':=[.pers (.lst (hs.map .int)),.own [],.un,.un,.un,.un]) rfl]
 rw [zj (env':=[.pers (.lst (hs.map .int)),.own [],.pers (.int (w%4)),.un,.un,.un]) (by
  rw [setS,zB (x:=.pers (.int w)) (y:=.pers (.int 4)) (by
   rw [zB (x:=.pers (.lst (hs.map .int))) (y:=.pers (.int 1)) rfl rfl]
   exact xF a1) rfl]
  show ((gMod (.int w) (.int 4)).bind _)=_
  rw [wt (by lia)]
  rfl)]
 rw [zj (by
  rw [forS,er,zk]
  exact ef)]
 rfl
theorem znd {ps:List (Int×Int)}:compD (gN 0) fYes uA (ps.map zf) [.un]=.ok ((ps.map (·.1)).map .int):=by
 rw [yT (fun env=>∃ s0,env=[s0]) zf (fun p=>some (.int p.1)) ps [.un] ⟨_,rfl⟩ (fun p env _ ⟨s0,he⟩=>by
  subst he
  exact ⟨[.pers (zf p)],rfl,⟨_,rfl⟩,.inr ⟨_,.pers (.int p.1),rfl,rfl,rfl,rfl⟩⟩),List.filterMap_eq_map',List.map_map]
 rfl
theorem zm1 (x:Int) (ps:List (Int×Int)):compD (gN 1) x6 wG (ps.map zf) [.pers (.int x),.un]=.ok (((ps.filter fun p=>p.1 == x).map (·.2)).map .int):=by
 rw [yT (fun env=>∃ s1,env=[.pers (.int x),s1]) zf (fun p=>if (p.1 == x)=true then some (.int p.2) else none) ps [.pers (.int x),.un] ⟨_,rfl⟩ (fun p env _ ⟨s1,he⟩=>by
  subst he
  refine ⟨[.pers (.int x),.pers (zf p)],rfl,⟨_,rfl⟩,?_⟩
  have c:x6 [.pers (.int x),.pers (zf p)]=.ok (p.1 == x):=rfl
  cases q:p.1 == x with
  | true=>exact .inr ⟨.int p.2,.pers (.int p.2),rfl,by rw [c,q],rfl,rfl⟩
  | false=>exact .inl ⟨rfl,by rw [c,q]⟩),x9 (fun p:Int×Int=>p.1 == x) (fun p=>D.int p.2),List.map_map]
 rfl
theorem zdn {ps:List (Int×Int)} (hl:ps.length<18):∀ (xs:List Int) (acc:List (Int×List Int)) (s2:Slot),acc.length+xs.length≤1000→∃ s2',forD (gN 2) zcJ (xs.map .int) [.pers (.lst (ps.map zf)),.own (acc.map zC),s2]=.ok (.next [.pers (.lst (ps.map zf)),.own ((acc++xs.map fun x=>(x,yG ((ps.filter fun p=>p.1 == x).map (·.2)))).map zC),s2'])
 | [],acc,s2,_=>⟨s2,by rw [List.map_nil,List.map_nil,List.append_nil]; rfl⟩
 | x::xs,acc,s2,h=>by
   simp only [List.length_cons] at h
   obtain ⟨s2',e⟩:=zdn hl xs (acc++[(x,yG ((ps.filter fun p=>p.1 == x).map (·.2)))]) (.pers (.int x)) (by simp; lia)
   refine ⟨s2',?_⟩
   have hz:((ps.filter fun p=>p.1 == x).map (·.2)).length<64:=by
    rw [List.length_map]
    have:=List.length_filter_le (fun p:Int×Int=>p.1 == x) ps
    lia
   have hc:yy [2] 1 (fItL (fVar 0)) (gN 1) (x6) (wG) [.pers (.lst (ps.map zf)),.own (acc.map zC),.pers (.int x)]=.ok (.fresh (((ps.filter fun p=>p.1 == x).map (·.2)).map .int)):=by
    have hi:fItL (fVar 0) [.pers (.lst (ps.map zf)),.own (acc.map zC),.pers (.int x)]=.ok (ps.map zf):=rfl
    rw [yy,hi,zk,if_pos (by rw [List.length_map]; lia)]
    show ((compD (gN 1) x6 wG (ps.map zf) [.pers (.int x),.un]).bind _)=_
    rw [zm1]
    rfl
   have hs:fB uZ (zm (yy [2] 1 (fItL (fVar 0)) (gN 1) (x6) (wG)) (fNil)) [.pers (.lst (ps.map zf)),.own (acc.map zC),.pers (.int x)]=.ok (.fresh ((yG ((ps.filter fun p=>p.1 == x).map (·.2))).map .int)):=by
    rw [fB,zm,hc,zk]
    show (match vN (((ps.filter fun p=>p.1 == x).map (·.2)).map D.int) with | some ns=>if ns.length<64 then Out.ok (Val.fresh ((yG ns).map .int)) else .bad | none=>.bad)=_
    rw [tD]
    show (if _ then _ else _)=_
    rw [if_pos hz]
   have hb:zcJ [.pers (.lst (ps.map zf)),.own (acc.map zC),.pers (.int x)]=.ok (.next [.pers (.lst (ps.map zf)),.own ((acc++[(x,yG ((ps.filter fun p=>p.1 == x).map (·.2)))]).map zC),.pers (.int x)]):=by
    have ht:fTup (zz (fVar 2) (zz (fB uZ (zm (yy [2] 1 (fItL (fVar 0)) (gN 1) (x6) (wG)) (fNil))) (hNil))) [.pers (.lst (ps.map zf)),.own (acc.map zC),.pers (.int x)]=.ok (.pers (zC (x,yG ((ps.filter fun p=>p.1 == x).map (·.2))))):=by
     have e2:fVar 2 [.pers (.lst (ps.map zf)),.own (acc.map zC),.pers (.int x)]=.ok (.pers (.int x)):=rfl
     simp only [fTup,zz,hNil,e2,hs,zk]
     rfl
    show (if (acc.map zC).length<100000 then ((fTup (zz (fVar 2) (zz (fB uZ (zm (yy [2] 1 (fItL (fVar 0)) (gN 1) (x6) (wG)) (fNil))) (hNil))) [.pers (.lst (ps.map zf)),.own (acc.map zC),.pers (.int x)]).bind _) else .bad)=_
    rw [if_pos (by rw [List.length_map]; lia),ht,List.map_append]
    rfl
   have hg:gN 2 (.int x) [.pers (.lst (ps.map zf)),.own (acc.map zC),s2]=.ok [.pers (.lst (ps.map zf)),.own (acc.map zC),.pers (.int x)]:=rfl
   rw [List.map_cons,forD,hg,zk,hb,zk]
   simp only [List.append_assoc,List.singleton_append] at e
   exact e
theorem zjd {ps:List (Int×Int)} (hl:ps.length<18):uU [.lst (ps.map zf)]=.ok (.fresh ((vg ps).map zC)):=by
 have hb:=zdQ ps
 unfold vg at hb
 rw [List.length_map] at hb
 obtain ⟨s2,e⟩:=zdn hl (yG (ps.map (·.1)).eraseDups) [] .un (by simp; lia)
 unfold uU
 show ((zaS [.pers (.lst (ps.map zf)),.un,.un]).bind _)=_
 unfold zaS
 rw [zj (env':=[.pers (.lst (ps.map zf)),.own [],.un]) rfl]
 have hi:fItL (f1 vw (yy [] 1 (fItL (fVar 0)) (gN 0) (fYes) (uA))) [.pers (.lst (ps.map zf)),.own [],.un]=.ok ((yG (ps.map (·.1)).eraseDups).map .int):=by
  have hc:yy [] 1 (fItL (fVar 0)) (gN 0) (fYes) (uA) [.pers (.lst (ps.map zf)),.own [],.un]=.ok (.fresh ((ps.map (·.1)).map .int)):=by
   have h0:fItL (fVar 0) [.pers (.lst (ps.map zf)),.own [],.un]=.ok (ps.map zf):=rfl
   rw [yy,h0,zk,if_pos (by rw [List.length_map]; lia)]
   show ((compD (gN 0) fYes uA (ps.map zf) [.un]).bind _)=_
   rw [znd]
   rfl
  rw [fItL,f1,hc,zk]
  have hss:vw (.lst ((ps.map (·.1)).map .int))=.ok (.fresh ((yG (ps.map (·.1)).eraseDups).map .int)):=by
   show (match vN ((ps.map (·.1)).map D.int) with | some ns=>if ns.length<18 then Out.ok (Val.fresh ((yG ns.eraseDups).map .int)) else .bad | none=>.bad)=_
   rw [tD]
   show (if _ then _ else _)=_
   rw [if_pos (by rw [List.length_map]; exact hl)]
  show ((vw (.lst ((ps.map (·.1)).map .int))).bind _)=_
  rw [hss]
  rfl
 rw [zj (by
  rw [forS,hi,zk]
  exact e)]
 rfl
theorem zjJ {ps:List (Int×Int)} (hn:ps.Nodup):BoardOk (vg ps):=by
 refine ⟨?_,fun l hl => ?_⟩
 ·have hnd:(yG (ps.map (·.1)).eraseDups).Nodup:=(yd _).nodup_iff.mpr (xS _ _ (Nat.le_refl _))
  have hso:=yF (ps.map (·.1)).eraseDups
  have hlt:(yG (ps.map (·.1)).eraseDups).Pairwise (· < ·):=by
   have:=hso.and hnd
   exact this.imp fun ⟨h1,h2⟩=>by lia
  unfold vg
  rw [List.pairwise_map]
  exact hlt
 ·unfold vg at hl
  obtain ⟨x,_,rfl⟩:=List.mem_map.mp hl
  have nd:((ps.filter fun p=>p.1 == x).map (·.2)).Nodup:=by
   rw [List.Nodup,List.pairwise_map]
   refine List.Pairwise.imp_of_mem ?_ (hn.filter fun p=>p.1 == x)
   intro a b ha hb h e
   have h1:a.1=x:=by simpa using (List.mem_filter.mp ha).2
   have h2:b.1=x:=by simpa using (List.mem_filter.mp hb).2
   exact h (Prod.ext (h1.trans h2.symm) e)
  have hnd:(yG ((ps.filter fun p=>p.1 == x).map (·.2))).Nodup:=(yd _).nodup_iff.mpr nd
  exact ((yF _).and hnd).imp fun ⟨h1,h2⟩=>by lia
theorem zjK {ps:List (Int×Int)} {l:Int×List Int} (h:l∈vg ps):(∃ p∈ps,p.1=l.1)∧∀ y∈l.2,(l.1,y)∈ps:=by
 unfold vg at h
 obtain ⟨x,hx,rfl⟩:=List.mem_map.mp h
 refine ⟨?_,fun y hy => ?_⟩
 ·obtain ⟨p,hp,e⟩:=List.mem_map.mp (List.mem_eraseDups.mp ((yd _).mem_iff.mp hx))
  exact ⟨p,hp,e⟩
 ·obtain ⟨p,hp,rfl⟩:=List.mem_map.mp ((yd _).mem_iff.mp hy)
  obtain ⟨h1,h2⟩:=List.mem_filter.mp hp
  have:p.1=x:=by simpa using h2
  rw [←this]
  exact h1
theorem zls (l:Int×List Int) (n w:Int):∃ g:Gate,uL l g∧g.w=w∧zby [zC l,.int n,.int w]=.ok (.pers (zi g)):=by
 obtain ⟨k,hk,ek⟩:∃ k:Nat,k≤l.2.length∧n%((l.2.length:Int)+1)=k:=by
  have h1:=Int.emod_nonneg n (b:=(l.2.length:Int)+1) (by lia)
  have h2:=Int.emod_lt_of_pos n (b:=(l.2.length:Int)+1) (by lia)
  exact ⟨(n%((l.2.length:Int)+1)).toNat,by lia,by lia⟩
 refine ⟨⟨l.1,if k=0 then none else l.2[k - 1]?,l.2[k]?,w⟩,⟨rfl,k,hk,rfl,rfl⟩,rfl,?_⟩
 have i1:zew [.pers (zC l),.pers (.int n),.pers (.int w),.pers (.int l.1),.pers (.lst (l.2.map .int)),.pers (.int k),.pers .non,.pers .non]=.ok (.next [.pers (zC l),.pers (.int n),.pers (.int w),.pers (.int l.1),.pers (.lst (l.2.map .int)),.pers (.int k),.pers (optD (if k=0 then none else l.2[k - 1]?)),.pers .non]):=by
  cases k with
  | zero=>rfl
  | succ j =>
    have c:fTrB (f2 gGt (fVar 5) (fC (.int 0))) [.pers (zC l),.pers (.int n),.pers (.int w),.pers (.int l.1),.pers (.lst (l.2.map .int)),.pers (.int ((j+1:Nat):Int)),.pers .non,.pers .non]=.ok true:=by
     show Out.ok (decide ((0:Int)<((j+1:Nat):Int)))=_
     rw [decide_eq_true (by lia)]
    have hlt:j<l.2.length:=by lia
    have hx:f2 gIx (fVar 4) (f2 gSub (fVar 5) (fC (.int 1))) [.pers (zC l),.pers (.int n),.pers (.int w),.pers (.int l.1),.pers (.lst (l.2.map .int)),.pers (.int ((j+1:Nat):Int)),.pers .non,.pers .non]=.ok (.pers (.int l.2[j])):=by
     rw [zB (x:=.pers (.lst (l.2.map .int))) (y:=.pers (.int (((j+1:Nat):Int) - 1))) rfl rfl]
     refine xF ?_
     rw [show ((j+1:Nat):Int) - 1=((j:Nat):Int) by lia,vi (by rw [List.length_map]; exact hlt),List.getElem_map]
    have e0:l.2[j+1 - 1]?=some l.2[j]:=List.getElem?_eq_getElem hlt
    rw [zew,ifS,c,zk,if_pos rfl,setS,hx,if_neg (by lia),e0]
    rfl
 have i2:∀ lo:D,zcn [.pers (zC l),.pers (.int n),.pers (.int w),.pers (.int l.1),.pers (.lst (l.2.map .int)),.pers (.int k),.pers lo,.pers .non]=.ok (.next [.pers (zC l),.pers (.int n),.pers (.int w),.pers (.int l.1),.pers (.lst (l.2.map .int)),.pers (.int k),.pers lo,.pers (optD l.2[k]?)]):=by
  intro lo
  have c:fTrB (f2 gLt (fVar 5) (fB gLen (zm (fVar 4) (fNil)))) [.pers (zC l),.pers (.int n),.pers (.int w),.pers (.int l.1),.pers (.lst (l.2.map .int)),.pers (.int k),.pers lo,.pers .non]=.ok (decide (k<l.2.length)):=by
   show Out.ok (decide ((k:Int)<((l.2.map D.int).length:Int)))=_
   rw [List.length_map]
   congr 1
   exact decide_eq_decide.mpr (by lia)
  by_cases z:k<l.2.length
  ·rw [decide_eq_true z] at c
   have hx:f2 gIx (fVar 4) (fVar 5) [.pers (zC l),.pers (.int n),.pers (.int w),.pers (.int l.1),.pers (.lst (l.2.map .int)),.pers (.int k),.pers lo,.pers .non]=.ok (.pers (.int l.2[k])):=by
    rw [zB (x:=.pers (.lst (l.2.map .int))) (y:=.pers (.int k)) rfl rfl]
    refine xF ?_
    rw [vi (by rw [List.length_map]; exact z),List.getElem_map]
   rw [zcn,ifS,c,zk,if_pos rfl,setS,hx,List.getElem?_eq_getElem z]
   rfl
  ·rw [decide_eq_false z] at c
   rw [zcn,ifS,c,zk,if_neg (by decide),List.getElem?_eq_none (by lia)]
   rfl
 unfold zby
 show ((zdC [.pers (zC l),.pers (.int n),.pers (.int w),.un,.un,.un,.un,.un]).bind _)=_
 unfold zdC
 rw [zj (env':=[.pers (zC l),.pers (.int n),.pers (.int w),.pers (.int l.1),.pers (.lst (l.2.map .int)),.un,.un,.un]) rfl]
 rw [zj (env':=[.pers (zC l),.pers (.int n),.pers (.int w),.pers (.int l.1),.pers (.lst (l.2.map .int)),.pers (.int k),.un,.un]) (by
  have hlen:f2 gAdd (fB gLen (zm (fVar 4) (fNil))) (fC (.int 1)) [.pers (zC l),.pers (.int n),.pers (.int w),.pers (.int l.1),.pers (.lst (l.2.map .int)),.un,.un,.un]=.ok (.pers (.int ((l.2.length:Int)+1))):=by
   show Out.ok (Val.pers (.int (((l.2.map D.int).length:Int)+1)))=_
   rw [List.length_map]
  rw [setS,zB (x:=.pers (.int n)) rfl hlen]
  show ((gMod (.int n) (.int ((l.2.length:Int)+1))).bind _)=_
  rw [wt (by lia),ek]
  rfl)]
 rw [zj (env':=[.pers (zC l),.pers (.int n),.pers (.int w),.pers (.int l.1),.pers (.lst (l.2.map .int)),.pers (.int k),.pers .non,.un]) rfl]
 rw [zj (env':=[.pers (zC l),.pers (.int n),.pers (.int w),.pers (.int l.1),.pers (.lst (l.2.map .int)),.pers (.int k),.pers .non,.pers .non]) rfl]
 rw [zj i1,zj (i2 _)]
 rfl
theorem zju (g:Gate) (w:Int) {X Y:FE} {E:Ev} (hX:X E=.ok (.pers (zi g))) (hY:Y E=.ok (.pers (.int w))):f2 zeA (fSl X (fNo) (fSo (fC (.int 3)))) (fTup (zz Y (hNil))) E=.ok (.pers (zi ⟨g.x,g.lo,g.hi,w⟩)):=by
 have h1:fSl X (fNo) (fSo (fC (.int 3))) E=.ok (.pers (.tup [.int g.x,optD g.lo,optD g.hi])):=by
  rw [fSl,hX,zk]
  show (if HT.sIx 4 0 none=0∧HT.sIx 4 4 (some 3)=4 then Out.bad else Out.ok (Val.pers (.tup (cutD [.int g.x,optD g.lo,optD g.hi,.int g.w] none (some 3)))))=_
  rw [if_neg sIx43,cut3]
 have h2:fTup (zz Y (hNil)) E=.ok (.pers (.tup [.int w])):=by
  simp only [fTup,zz,hNil,hY,zk]
  rfl
 rw [zB h1 h2]
 rfl
noncomputable def RV (B:List (Int×List Int)) (st:Int) (cs:D) (gs:List Gate) (a:Int) (s5 s6 s7:Slot):Ev:=[.pers (.lst (B.map zC)),.pers (.int st),.pers cs,.own (gs.map zi),.pers (.int a),s5,s6,s7]
theorem zkF {B:List (Int×List Int)} {st:Int} {cs:D} {gs:List Gate} {a c:Int} {s7:Slot} (hB:0<B.length) (h0:0≤a) (h1:a≤B.length):∃ w:Int,((w=1∧a<B.length)∨(w = -1∧0<a))∧zfK (RV B st cs gs a (.pers (.int c)) (.pers (.int 1)) s7)=.ok (.next (RV B st cs gs a (.pers (.int c)) (.pers (.int w)) s7)):=by
 have t1:fTrB (f2 gEq (fVar 4) (fB gLen (zm (fVar 0) (fNil)))) (RV B st cs gs a (.pers (.int c)) (.pers (.int 1)) s7)=.ok (a == (B.length:Int)):=by
  show Out.ok (a == ((B.map zC).length:Int))=_
  rw [List.length_map]
 have t2:fTrB (f2 gGt (fVar 4) (fC (.int 0))) (RV B st cs gs a (.pers (.int c)) (.pers (.int 1)) s7)=.ok (decide (0<a)):=rfl
 have t3:fTrB (f2 gEq (f2 gMod (fVar 5) (fC (.int 2))) (fC (.int 1))) (RV B st cs gs a (.pers (.int c)) (.pers (.int 1)) s7)=.ok (c%2 == 1):=rfl
 have yes:∀ b:Bool,fOr (fTrB (f2 gEq (fVar 4) (fB gLen (zm (fVar 0) (fNil))))) (fAnd (fTrB (f2 gGt (fVar 4) (fC (.int 0)))) (fTrB (f2 gEq (f2 gMod (fVar 5) (fC (.int 2))) (fC (.int 1))))) (RV B st cs gs a (.pers (.int c)) (.pers (.int 1)) s7)=.ok b→zfK (RV B st cs gs a (.pers (.int c)) (.pers (.int 1)) s7)=.ok (.next (RV B st cs gs a (.pers (.int c)) (.pers (.int (if b=true then -1 else 1))) s7)):=by
  intro b h
  rw [zfK,ifS,h,zk]
  cases b <;> rfl
 by_cases z:a=B.length
 ·refine ⟨-1,.inr ⟨rfl,by lia⟩,yes true ?_⟩
  have z':(a == (B.length:Int))=true:=beq_iff_eq.mpr z
  rw [z'] at t1
  simp only [fOr,t1,zk]
  rfl
 ·have z':(a == (B.length:Int))=false:=beq_eq_false_iff_ne.mpr z
  rw [z'] at t1
  by_cases p:0<a
  ·rw [decide_eq_true p] at t2
   have:=yes (c%2 == 1) (by
    simp only [fOr,fAnd,t1,t2,t3,zk]
    rfl)
   cases q:c%2 == 1 with
   | true=>rw [q] at this; exact ⟨-1,.inr ⟨rfl,p⟩,this⟩
   | false=>rw [q] at this; exact ⟨1,.inl ⟨rfl,by lia⟩,this⟩
  ·rw [decide_eq_false p] at t2
   refine ⟨1,.inl ⟨rfl,by lia⟩,yes false ?_⟩
   simp only [fOr,fAnd,t1,t2,zk]
   rfl
theorem zdl (gs:List Gate):gNe (.lst (gs.map zi)) (.lst [])=.ok (.pers (.bl (!decide (gs=[])))):=by
 show (if (shal 4 (.lst (gs.map zi)) || true)=true then Out.ok (Val.pers (.bl (!eqD (.lst (gs.map zi)) (.lst [])))) else .bad)=_
 rw [Bool.or_true,if_pos rfl,u7]
 cases gs with
 | nil=>rw [List.map_nil,uz]; rfl
 | cons g gs=>rw [List.map_cons,zaV,decide_eq_false (by simp)]
theorem zkG {B:List (Int×List Int)} {st:Int} {cs:D} {gs:List Gate} {a w:Int} {s5:Slot} {g:Gate} (hw:g.w=w) (hl:gs.length<1000):zdu (RV B st cs gs a s5 (.pers (.int w)) (.pers (zi g)))=.ok (.next (RV B st cs (zb8 gs g) a s5 (.pers (.int w)) (.pers (zi g)))):=by
 have hap:appS 3 (fVar 7) (RV B st cs gs a s5 (.pers (.int w)) (.pers (zi g)))=.ok (.next (RV B st cs (gs++[g]) a s5 (.pers (.int w)) (.pers (zi g)))):=by
  show (if (gs.map zi).length<100000 then Out.ok (Res.next [.pers (.lst (B.map zC)),.pers (.int st),.pers cs,.own (gs.map zi++[zi g]),.pers (.int a),s5,.pers (.int w),.pers (zi g)]) else .bad)=_
  rw [if_pos (by rw [List.length_map]; lia)]
  unfold RV
  rw [List.map_append]
  rfl
 have t1:fTrB (f2 gNe (fVar 3) (fLst (hNil))) (RV B st cs gs a s5 (.pers (.int w)) (.pers (zi g)))=.ok (!decide (gs=[])):=by
  rw [fTrB,zB (x:=.brw 3 (gs.map zi)) (y:=.fresh []) rfl rfl]
  show ((gNe (.lst (gs.map zi)) (.lst [])).bind _)=_
  rw [zdl]
  rfl
 unfold zb8
 cases q:gs.getLast? with
 | none =>
   have:gs=[]:=List.getLast?_eq_none_iff.mp q
   subst this
   rw [zdu,ifS,fAnd,t1]
   exact hap
 | some t =>
   have hne:gs≠[]:=fun z=>by subst z; cases q
   rw [decide_eq_false hne] at t1
   have hat:atI (gs.map zi) (-1)=some (zi t):=by
    rw [zbU,List.length_map,List.getElem?_map,←List.getLast?_eq_getElem?,q]
    rfl
   have e1:f2 gIx (fVar 3) (f1 gNeg (fC (.int 1))) (RV B st cs gs a s5 (.pers (.int w)) (.pers (zi g)))=.ok (.pers (zi t)):=by
    rw [zB (x:=.brw 3 (gs.map zi)) (y:=.pers (.int (-1))) rfl rfl]
    exact xF hat
   have e2:=zju g (0 - w) (X:=fVar 7) (Y:=f2 gSub (fC (.int 0)) (fVar 6)) (E:=RV B st cs gs a s5 (.pers (.int w)) (.pers (zi g))) rfl rfl
   have t2:fTrB (f2 gEq (f2 gIx (fVar 3) (f1 gNeg (fC (.int 1)))) (f2 zeA (fSl (fVar 7) (fNo) (fSo (fC (.int 3)))) (fTup (zz (f2 gSub (fC (.int 0)) (fVar 6)) (hNil))))) (RV B st cs gs a s5 (.pers (.int w)) (.pers (zi g)))=.ok (decide (t=negG g)):=by
    rw [fTrB,zB e1 e2]
    show ((if (shal 4 (zi t) || shal 4 (zi ⟨g.x,g.lo,g.hi,0 - w⟩))=true then Out.ok (Val.pers (.bl (eqD (zi t) (zi ⟨g.x,g.lo,g.hi,0 - w⟩)))) else .bad).bind _)=_
    rw [zc2 3 t,Bool.true_or,if_pos rfl,zhX]
    have:(⟨g.x,g.lo,g.hi,0 - w⟩:Gate)=negG g:=by
     unfold negG
     rw [hw,Int.zero_sub]
    rw [this]
    rfl
   have c:fAnd (fTrB (f2 gNe (fVar 3) (fLst (hNil)))) (fTrB (f2 gEq (f2 gIx (fVar 3) (f1 gNeg (fC (.int 1)))) (f2 zeA (fSl (fVar 7) (fNo) (fSo (fC (.int 3)))) (fTup (zz (f2 gSub (fC (.int 0)) (fVar 6)) (hNil)))))) (RV B st cs gs a s5 (.pers (.int w)) (.pers (zi g)))=.ok (decide (t=negG g)):=by
    rw [fAnd,t1,zk]
    exact t2
   by_cases z:t=negG g
   ·rw [decide_eq_true z] at c
    rw [zdu,ifS,c,zk,if_pos rfl]
    simp only [z,if_true]
    show (if (gs.map zi).length=0 then Out.bad else Out.ok (Res.next [.pers (.lst (B.map zC)),.pers (.int st),.pers cs,.own (gs.map zi).dropLast,.pers (.int a),s5,.pers (.int w),.pers (zi g)]))=_
    rw [if_neg (by rw [List.length_map]; exact fun w=>hne (List.eq_nil_of_length_eq_zero w)),←List.map_dropLast]
    rfl
   ·rw [decide_eq_false z] at c
    rw [zdu,ifS,c,zk,if_neg (by decide)]
    simp only [z,if_false]
    exact hap
theorem ziR {B:List (Int×List Int)} {st:Int} {cs:D} {gs:List Gate} {a c:Int} {s6 s7:Slot} (hB:0<B.length) (h0:0≤a) (h1:a≤B.length) (hl:gs.length<1000) :
 ∃ (g:Gate) (t6 t7:Slot),tF B a g∧0≤a+g.w∧a+g.w≤B.length∧zfZ (RV B st cs gs a (.pers (.int c)) s6 s7)=.ok (.next (RV B st cs (zb8 gs g) (a+g.w) (.pers (.int c)) t6 t7)):=by
 obtain ⟨w,hw,e1⟩:=zkF (st:=st) (cs:=cs) (gs:=gs) (c:=c) (s7:=s7) hB h0 h1
 obtain ⟨i,hi,hiw⟩:∃ i:Nat,i<B.length∧((w=1∧(i:Int)=a)∨(w = -1∧(i:Int)=a - 1)):=by
  rcases hw with ⟨rfl,k⟩ | ⟨rfl,k⟩
  ·exact ⟨a.toNat,by lia,.inl ⟨rfl,by lia⟩⟩
  ·exact ⟨(a - 1).toNat,by lia,.inr ⟨rfl,by lia⟩⟩
 obtain ⟨g,hg,gw,en⟩:=zls B[i] (c / 2) w
 refine ⟨g,.pers (.int w),.pers (zi g),⟨B[i],hg,i,List.getElem?_eq_getElem hi,by rw [gw]; exact hiw⟩,by lia,by lia,?_⟩
 have hix:fB uu (zm (fVar 4) (zm (f2 gSub (f2 gAdd (fVar 4) (fVar 6)) (fB gInt (zm (f2 gEq (fVar 6) (fC (.int 1))) (fNil)))) (fNil))) (RV B st cs gs a (.pers (.int c)) (.pers (.int w)) s7)=.ok (.pers (.int (i:Int))):=by
  rcases hiw with ⟨rfl,k⟩ | ⟨rfl,k⟩
  ·show Out.ok (Val.pers (.int (if a+1 - 1<a then a+1 - 1 else a)))=_
   rw [if_neg (by lia),k]
  ·show Out.ok (Val.pers (.int (if a + -1 - 0<a then a + -1 - 0 else a)))=_
   rw [if_pos (by lia),k]
   congr 3
   lia
 have hln:f2 gIx (fVar 0) (fB uu (zm (fVar 4) (zm (f2 gSub (f2 gAdd (fVar 4) (fVar 6)) (fB gInt (zm (f2 gEq (fVar 6) (fC (.int 1))) (fNil)))) (fNil)))) (RV B st cs gs a (.pers (.int c)) (.pers (.int w)) s7)=.ok (.pers (zC B[i])):=by
  rw [zB (x:=.pers (.lst (B.map zC))) rfl hix]
  refine xF ?_
  rw [vi (by rw [List.length_map]; exact hi),List.getElem_map]
 have hdiv:f2 gDiv (fVar 5) (fC (.int 2)) (RV B st cs gs a (.pers (.int c)) (.pers (.int w)) s7)=.ok (.pers (.int (c / 2))):=by
  rw [zB (x:=.pers (.int c)) (y:=.pers (.int 2)) rfl rfl]
  exact zh4 (by lia) (by lia)
 have hv6:fVar 6 (RV B st cs gs a (.pers (.int c)) (.pers (.int w)) s7)=.ok (.pers (.int w)):=rfl
 rw [zfZ,zj (env':=RV B st cs gs a (.pers (.int c)) (.pers (.int 1)) s7) rfl,zj e1]
 rw [zj (env':=RV B st cs gs a (.pers (.int c)) (.pers (.int w)) (.pers (zi g))) (by
  rw [setS,zM,zm,hln,zk,zm,hdiv,zk,zm,hv6,zk,fNil]
  show (((zby [zC B[i],.int (c / 2),.int w]).bind _).bind _)=_
  rw [en]
  rfl)]
 rw [zj (env':=RV B st cs gs (a+g.w) (.pers (.int c)) (.pers (.int w)) (.pers (zi g))) (by
  rw [gw]
  rfl)]
 exact zkG gw hl
theorem zmc {B:List (Int×List Int)} {st:Int} {cs:List Int} (hB:cs≠[]→0<B.length) (h0:0≤st) (h1:st≤B.length) (hl:cs.length≤500) :
 ∃ gs:List Gate,PathB B st gs∧Red gs∧gs.length≤cs.length∧0≤st+sumG gs∧st+sumG gs≤B.length∧zgh [.lst (B.map zC),.int st,.lst (cs.map .int)]=.ok (.pers (.tup [.lst (gs.map zi),.int (st+sumG gs)])):=by
 obtain ⟨env',ef,gs,s5,s6,s7,hp,hr,hlen,a0,a1,rfl⟩:=vy (g:=gN 5) (fb:=zfZ) (fun j env=>∃ (gs:List Gate) (s5 s6 s7:Slot),PathB B st gs∧Red gs∧gs.length≤j∧0≤st+sumG gs∧st+sumG gs≤B.length∧env=RV B st (.lst (cs.map .int)) gs (st+sumG gs) s5 s6 s7) (cs.map .int) 0 (RV B st (.lst (cs.map .int)) [] (st+0) .un .un .un) ⟨[],_,_,_,trivial,trivial,by simp,by simpa [sumG] using h0,by simpa [sumG] using h1,rfl⟩ (by
  rintro j d env _ hd ⟨gs,s5,s6,s7,hp,hr,hlen,a0,a1,rfl⟩
  rw [Nat.sub_zero,List.getElem?_map] at hd
  obtain ⟨c,hc,rfl⟩:=Option.map_eq_some_iff.mp hd
  have hj:j<cs.length:=(List.getElem?_eq_some_iff.mp hc).1
  have hB':0<B.length:=hB (fun z=>by subst z; simp at hj)
  obtain ⟨g,t6,t7,sg,b0,b1,e⟩:=ziR (st:=st) (cs:=.lst (cs.map .int)) (gs:=gs) (c:=c) (s6:=s6) (s7:=s7) hB' a0 a1 (by lia)
  obtain ⟨p',r',q',l'⟩:=ziQ hp hr sg
  refine ⟨RV B st (.lst (cs.map .int)) gs (st+sumG gs) (.pers (.int c)) s6 s7,_,rfl,e,zb8 gs g,.pers (.int c),t6,t7,p',r',by lia,by lia,by lia,by rw [q']⟩)
 refine ⟨gs,hp,hr,by rw [List.length_map] at hlen; lia,a0,a1,?_⟩
 unfold zgh
 show ((zhU [.pers (.lst (B.map zC)),.pers (.int st),.pers (.lst (cs.map .int)),.un,.un,.un,.un,.un]).bind _)=_
 unfold zhU
 rw [zj (env':=[.pers (.lst (B.map zC)),.pers (.int st),.pers (.lst (cs.map .int)),.own [],.un,.un,.un,.un]) rfl]
 rw [zj (env':=RV B st (.lst (cs.map .int)) [] (st+0) .un .un .un) (by
  rw [Int.add_zero]
  rfl)]
 rw [zj (by
  have hi:fItL (fVar 2) (RV B st (.lst (cs.map .int)) [] (st+0) .un .un .un)=.ok (cs.map .int):=rfl
  rw [forS,hi,zk]
  exact ef)]
 rfl
noncomputable abbrev Plc:=Int×Int×Int
noncomputable def plcD (a:Plc):D:=.tup [.int a.1,.int a.2.1,.int a.2.2]
noncomputable def loB (g:Gate) (u w:Int):Bool:=match g.lo with | some l=>decide (l*w≤u) | none=>true
noncomputable def hiB (g:Gate) (u w:Int):Bool:=match g.hi with | some h=>decide (u≤h*w) | none=>true
theorem yk {f:FE} {E:Ev} {b:Bool} (h:f E=.ok (.pers (.bl b))):fTrB f E=.ok b:=by
 rw [fTrB,h]
 rfl
theorem if_t {ft:FT} {f g:FS} {E:Ev} (h:ft E=.ok true):ifS ft f g E=f E:=by
 rw [ifS,h,zk,if_pos rfl]
theorem if_f {ft:FT} {f g:FS} {E:Ev} (h:ft E=.ok false):ifS ft f g E=g E:=by
 rw [ifS,h,zk,if_neg (by decide)]
theorem zdW {f g:FT} {E:Ev} (h:f E=.ok true):fAnd f g E=g E:=by
 rw [fAnd,h,zk,if_pos rfl]
theorem zgr {f g:FT} {E:Ev} (h:f E=.ok false):fAnd f g E=.ok false:=by
 rw [fAnd,h,zk,if_neg (by decide)]
theorem or_t {f g:FT} {E:Ev} (h:f E=.ok true):fOr f g E=.ok true:=by
 rw [fOr,h,zk,if_pos rfl]
theorem or_f {f g:FT} {E:Ev} (h:f E=.ok false):fOr f g E=g E:=by
 rw [fOr,h,zk,if_neg (by decide)]
theorem vX (g:Gate) (u:Int) {w:Int} (h1 : -(2^64)<w) (h2:w<2^64):zZ [zi g,.int u,.int w]=.ok (.pers (.bl (loB g u w&&hiB g u w))):=by
 unfold zZ
 show ((vz [.pers (zi g),.pers (.int u),.pers (.int w)]).bind _)=_
 have e1:f2 gIx (fVar 0) (fC (.int 1)) [.pers (zi g),.pers (.int u),.pers (.int w)]=.ok (.pers (optD g.lo)):=rfl
 have e2:f2 gIx (fVar 0) (fC (.int 2)) [.pers (zi g),.pers (.int u),.pers (.int w)]=.ok (.pers (optD g.hi)):=rfl
 have last:retS (fOrV (f2 gIsN (f2 gIx (fVar 0) (fC (.int 2))) (fC .non)) (f2 gLe (fVar 1) (f2 gMul (f2 gIx (fVar 0) (fC (.int 2))) (fVar 2)))) [.pers (zi g),.pers (.int u),.pers (.int w)]=.ok (.ret (.pers (.bl (hiB g u w)))):=by
  unfold hiB
  cases q:g.hi with
  | none =>
    rw [q] at e2
    rw [retS,fOrV,zB e2 (y:=.pers .non) rfl]
    rfl
  | some h =>
    rw [q] at e2
    have m:f2 gMul (f2 gIx (fVar 0) (fC (.int 2))) (fVar 2) [.pers (zi g),.pers (.int u),.pers (.int w)]=.ok (.pers (.int (h*w))):=by
     rw [zB e2 (y:=.pers (.int w)) rfl]
     exact xb (xD h1 h2)
    rw [retS,fOrV,zB e2 (y:=.pers .non) rfl]
    show ((f2 gLe (fVar 1) (f2 gMul (f2 gIx (fVar 0) (fC (.int 2))) (fVar 2)) [.pers (zi g),.pers (.int u),.pers (.int w)]).bind _)=_
    rw [zB (x:=.pers (.int u)) rfl m]
    rfl
 have h0:vz [.pers (zi g),.pers (.int u),.pers (.int w)]=.ok (.ret (.pers (.bl (loB g u w&&hiB g u w)))):=by
  unfold vz loB
  cases q:g.lo with
  | none =>
    rw [q] at e1
    rw [zj (env':=[.pers (zi g),.pers (.int u),.pers (.int w)]) (if_f (zgr (yk (by rw [zB e1 (y:=.pers .non) rfl]; rfl))))]
    exact last
  | some l =>
    rw [q] at e1
    have m:f2 gMul (f2 gIx (fVar 0) (fC (.int 1))) (fVar 2) [.pers (zi g),.pers (.int u),.pers (.int w)]=.ok (.pers (.int (l*w))):=by
     rw [zB e1 (y:=.pers (.int w)) rfl]
     exact xb (xD h1 h2)
    have c:fAnd (fTrB (f2 xP (f2 gIx (fVar 0) (fC (.int 1))) (fC .non))) (fTrB (f2 gLt (fVar 1) (f2 gMul (f2 gIx (fVar 0) (fC (.int 1))) (fVar 2)))) [.pers (zi g),.pers (.int u),.pers (.int w)]=.ok (decide (u<l*w)):=by
     rw [zdW (yk (by rw [zB e1 (y:=.pers .non) rfl]; rfl))]
     exact yk (by rw [zB (x:=.pers (.int u)) rfl m]; rfl)
    by_cases z:u<l*w
    ·rw [decide_eq_true z] at c
     show _=Out.ok (Res.ret (.pers (.bl (decide (l*w≤u)&&hiB g u w))))
     rw [yB (v:=.pers (.bl false)) (by rw [zaP,if_t c]; rfl),decide_eq_false (by lia)]
     rfl
    ·rw [decide_eq_false z] at c
     show _=Out.ok (Res.ret (.pers (.bl (decide (l*w≤u)&&hiB g u w))))
     rw [zj (env':=[.pers (zi g),.pers (.int u),.pers (.int w)]) (by rw [zaP,if_f c]; rfl),decide_eq_true (by lia)]
     exact last
 rw [h0]
 rfl
theorem wi_B {g:Gate} {y:Int}:(loB g y 1&&hiB g y 1)=true↔Wi g y:=by
 rw [Bool.and_eq_true]
 unfold loB hiB Wi
 refine and_congr ?_ ?_
 ·cases g.lo with
  | none=>simp
  | some l=>simp
 ·cases g.hi with
  | none=>simp
  | some h=>simp
theorem ze0 {g:Gate} {y:Int} (h:Wi g y):zZ [zi g,.int y,.int 1]=.ok (.pers (.bl true)):=by
 rw [vX g y (by lia) (by lia),wi_B.mpr h]
theorem ziF {g:Gate} {y:Int} (h:¬ Wi g y):zZ [zi g,.int y,.int 1]=.ok (.pers (.bl false)):=by
 rw [vX g y (by lia) (by lia)]
 cases q:(loB g y 1&&hiB g y 1) with
 | false=>rfl
 | true=>exact absurd (wi_B.mp q) h
noncomputable def CE (p z:Spot) (g:Gate) (a b:Slot):Ev:=[.pers (zf p),.pers (zf z),.pers (zi g),a,b]
theorem zbR {p z:Spot} {g:Gate} (n:near p z) (c:Bool) (hc:(decide ((g.x - p.1)*(z.1 - p.1)≤0) || decide ((z.1 - g.x)*(z.1 - p.1)≤0))=c):fOr (fTrB (f2 gLe (f2 gMul (f2 gSub (f2 gIx (fVar 2) (fC (.int 0))) (f2 gIx (fVar 0) (fC (.int 0)))) (fVar 3)) (fC (.int 0)))) (fTrB (f2 gLe (f2 gMul (f2 gSub (f2 gIx (fVar 1) (fC (.int 0))) (f2 gIx (fVar 2) (fC (.int 0)))) (fVar 3)) (fC (.int 0)))) (CE p z g (.pers (.int (z.1 - p.1))) .un)=.ok c:=by
 have cm:∀ j,cMul j (z.1 - p.1)=true:=fun j=>xD n.1 n.2
 have t1:fTrB (f2 gLe (f2 gMul (f2 gSub (f2 gIx (fVar 2) (fC (.int 0))) (f2 gIx (fVar 0) (fC (.int 0)))) (fVar 3)) (fC (.int 0))) (CE p z g (.pers (.int (z.1 - p.1))) .un)=.ok (decide ((g.x - p.1)*(z.1 - p.1)≤0)):=by
  refine yk ?_
  rw [zB (x:=.pers (.int ((g.x - p.1)*(z.1 - p.1)))) (y:=.pers (.int 0)) (by
   rw [zB (x:=.pers (.int (g.x - p.1))) (y:=.pers (.int (z.1 - p.1))) rfl rfl]
   exact xb (cm _)) rfl]
  rfl
 have t2:fTrB (f2 gLe (f2 gMul (f2 gSub (f2 gIx (fVar 1) (fC (.int 0))) (f2 gIx (fVar 2) (fC (.int 0)))) (fVar 3)) (fC (.int 0))) (CE p z g (.pers (.int (z.1 - p.1))) .un)=.ok (decide ((z.1 - g.x)*(z.1 - p.1)≤0)):=by
  refine yk ?_
  rw [zB (x:=.pers (.int ((z.1 - g.x)*(z.1 - p.1)))) (y:=.pers (.int 0)) (by
   rw [zB (x:=.pers (.int (z.1 - g.x))) (y:=.pers (.int (z.1 - p.1))) rfl rfl]
   exact xb (cm _)) rfl]
  rfl
 rw [←hc]
 cases q:decide ((g.x - p.1)*(z.1 - p.1)≤0) with
 | true=>rw [q] at t1; rw [or_t t1]; rfl
 | false=>rw [q] at t1; rw [or_f t1,t2]; rfl
theorem zjv {p z:Spot} {g:Gate} (n:near p z) (h:¬ bw p z g.x):yE [zf p,zf z,zi g]=.ok (.pers (.bl false)):=by
 have hc:(decide ((g.x - p.1)*(z.1 - p.1)≤0) || decide ((z.1 - g.x)*(z.1 - p.1)≤0))=true:=by
  rw [Bool.or_eq_true,decide_eq_true_eq,decide_eq_true_eq]
  unfold bw at h
  rcases Int.lt_trichotomy p.1 z.1 with q | q | q
  ·by_cases k:p.1<g.x
   ·right
    have:=Int.mul_nonneg (show 0 ≤ -(z.1 - g.x) by lia) (show 0≤z.1 - p.1 by lia)
    rw [Int.neg_mul] at this
    lia
   ·left
    have:=Int.mul_nonneg (show 0 ≤ -(g.x - p.1) by lia) (show 0≤z.1 - p.1 by lia)
    rw [Int.neg_mul] at this
    lia
  ·left
   rw [q,Int.sub_self,Int.mul_zero]
   exact Int.le_refl _
  ·by_cases k:g.x<p.1
   ·right
    have:=Int.mul_nonneg (show 0≤z.1 - g.x by lia) (show 0 ≤ -(z.1 - p.1) by lia)
    rw [Int.mul_neg] at this
    lia
   ·left
    have:=Int.mul_nonneg (show 0≤g.x - p.1 by lia) (show 0 ≤ -(z.1 - p.1) by lia)
    rw [Int.mul_neg] at this
    lia
 unfold yE
 show ((xx (CE p z g .un .un)).bind _)=_
 unfold xx
 rw [zj (env':=CE p z g (.pers (.int (z.1 - p.1))) .un) rfl,yB (v:=.pers (.bl false)) (by rw [uX,if_t (zbR n true hc)]; rfl)]
 rfl
theorem zib {p z:Spot} {g:Gate} (n:near p z) (h:Cr p z g):yE [zf p,zf z,zi g]=.ok (.pers (.bl true)):=by
 obtain ⟨b,lo,hi⟩:=h
 have hx : -(2^64)<g.x - p.1∧g.x - p.1<2^64:=by
  obtain ⟨n1,n2⟩:=n
  unfold bw at b
  lia
 have hc:(decide ((g.x - p.1)*(z.1 - p.1)≤0) || decide ((z.1 - g.x)*(z.1 - p.1)≤0))=false:=by
  rw [Bool.or_eq_false_iff,decide_eq_false_iff_not,decide_eq_false_iff_not]
  unfold bw at b
  rcases b with ⟨b1,b2⟩ | ⟨b1,b2⟩
  ·have k1:=Int.mul_pos (show 0<g.x - p.1 by lia) (show 0<z.1 - p.1 by lia)
   have k2:=Int.mul_pos (show 0<z.1 - g.x by lia) (show 0<z.1 - p.1 by lia)
   lia
  ·have k1:=Int.mul_pos (show 0 < -(g.x - p.1) by lia) (show 0 < -(z.1 - p.1) by lia)
   have k2:=Int.mul_pos (show 0 < -(z.1 - g.x) by lia) (show 0 < -(z.1 - p.1) by lia)
   rw [Int.neg_mul_neg] at k1 k2
   lia
 generalize hu:p.2*(z.1 - p.1)+(z.2 - p.2)*(g.x - p.1)=u
 have key:∀ y,xi p z (g.x,y)=y*(z.1 - p.1) - u:=fun y=>by
  rw [←hu]
  unfold xi
  simp only
  grind
 have up:setS 4 true (f2 gAdd (f2 gMul (f2 gIx (fVar 0) (fC (.int 1))) (fVar 3)) (f2 gMul (f2 gSub (f2 gIx (fVar 1) (fC (.int 1))) (f2 gIx (fVar 0) (fC (.int 1)))) (f2 gSub (f2 gIx (fVar 2) (fC (.int 0))) (f2 gIx (fVar 0) (fC (.int 0)))))) (CE p z g (.pers (.int (z.1 - p.1))) .un)=.ok (.next (CE p z g (.pers (.int (z.1 - p.1))) (.pers (.int u)))):=by
  rw [setS,zB (x:=.pers (.int (p.2*(z.1 - p.1)))) (y:=.pers (.int ((z.2 - p.2)*(g.x - p.1)))) (by
   rw [zB (x:=.pers (.int p.2)) (y:=.pers (.int (z.1 - p.1))) rfl rfl]
   exact xb (xD n.1 n.2)) (by
   rw [zB (x:=.pers (.int (z.2 - p.2))) (y:=.pers (.int (g.x - p.1))) rfl rfl]
   exact xb (xD hx.1 hx.2)),←hu]
  rfl
 unfold yE
 show ((xx (CE p z g .un .un)).bind _)=_
 have h0:xx (CE p z g .un .un)=.ok (.ret (.pers (.bl true))):=by
  unfold xx
  rw [zj (env':=CE p z g (.pers (.int (z.1 - p.1))) .un) rfl,zj (env':=CE p z g (.pers (.int (z.1 - p.1))) .un) (by rw [uX,if_f (zbR n false hc)]; rfl),zj up]
  have c:fTrB (f2 gLt (fVar 3) (fC (.int 0))) (CE p z g (.pers (.int (z.1 - p.1))) (.pers (.int u)))=.ok (decide (z.1 - p.1<0)):=rfl
  by_cases q:z.1 - p.1<0
  ·rw [decide_eq_true q] at c
   refine yB ?_
   rw [uW,if_t c]
   have w:zZ [zi g,.int (0 - u),.int (0 - (z.1 - p.1))]=.ok (.pers (.bl true)):=by
    rw [vX g (0 - u) (by have:=n.2; lia) (by have:=n.1; lia)]
    have e:(loB g (0 - u) (0 - (z.1 - p.1))&&hiB g (0 - u) (0 - (z.1 - p.1)))=true:=by
     rw [Bool.and_eq_true]
     unfold loB hiB
     refine ⟨?_,?_⟩
     ·cases k:g.lo with
      | none=>rfl
      | some l =>
        have:=lo l k
        unfold xc at this
        rw [if_neg (by lia),key] at this
        refine decide_eq_true ?_
        rw [Int.zero_sub (z.1 - p.1),Int.mul_neg]
        lia
     ·cases k:g.hi with
      | none=>rfl
      | some l =>
        have:=hi l k
        unfold xc at this
        rw [if_neg (by lia),key] at this
        refine decide_eq_true ?_
        rw [Int.zero_sub (z.1 - p.1),Int.mul_neg]
        lia
    rw [e]
   rw [retS]
   show (((zZ [zi g,.int (0 - u),.int (0 - (z.1 - p.1))]).bind _).bind _)=_
   rw [w]
   rfl
  ·rw [decide_eq_false q] at c
   have pos:0<z.1 - p.1:=by unfold bw at b; lia
   rw [zj (env':=CE p z g (.pers (.int (z.1 - p.1))) (.pers (.int u))) (by rw [uW,if_f c]; rfl)]
   have w:zZ [zi g,.int u,.int (z.1 - p.1)]=.ok (.pers (.bl true)):=by
    rw [vX g u n.1 n.2]
    have e:(loB g u (z.1 - p.1)&&hiB g u (z.1 - p.1))=true:=by
     rw [Bool.and_eq_true]
     unfold loB hiB
     refine ⟨?_,?_⟩
     ·cases k:g.lo with
      | none=>rfl
      | some l =>
        have:=lo l k
        unfold xc at this
        rw [if_pos pos,key] at this
        exact decide_eq_true (by lia)
     ·cases k:g.hi with
      | none=>rfl
      | some l =>
        have:=hi l k
        unfold xc at this
        rw [if_pos pos,key] at this
        exact decide_eq_true (by lia)
    rw [e]
   rw [retS]
   show (((zZ [zi g,.int u,.int (z.1 - p.1)]).bind _).bind _)=_
   rw [w]
   rfl
 rw [h0]
 rfl
noncomputable def UE (k:Int) (p z:Spot) (g:Gate) (b:Int) (u:Slot):Ev:=[.pers (.int k),.pers (zf p),.pers (zf z),.pers (zi g),.pers (.int b),u]
theorem zf2 {p z:Spot} {g:Gate} {k b y s:Int} (hs:s=1∨s = -1) (px:p.1=z.1) (gx:g.x=p.1) (up:s*p.2<s*z.2) (hb:s*b≤s*y) (hn:nearE s g=some y∨(y=b∧Wi g b)) (wy:Wi g y) (hz:s*y≤s*z.2) (hd : -(2^64)<z.2 - p.2∧z.2 - p.2<2^64) :
 wp [.int k,zf p,zf z,zi g,.int b]=.ok (.pers (if y=z.2 then plcD (k+1,0,0) else plcD (k,1,y))):=by
 unfold wp
 show ((ww (UE k p z g b .un)).bind _)=_
 have c1:fOr (fTrB (f2 gNe (f2 gIx (fVar 1) (fC (.int 0))) (f2 gIx (fVar 3) (fC (.int 0))))) (fTrB (f2 gNe (f2 gIx (fVar 2) (fC (.int 0))) (f2 gIx (fVar 3) (fC (.int 0))))) (UE k p z g b .un)=.ok false:=by
  have t1:fTrB (f2 gNe (f2 gIx (fVar 1) (fC (.int 0))) (f2 gIx (fVar 3) (fC (.int 0)))) (UE k p z g b .un)=.ok false:=by
   show Out.ok (!(p.1 == g.x))=_
   rw [beq_iff_eq.mpr gx.symm]
   rfl
  rw [or_f t1]
  show Out.ok (!(z.1 == g.x))=_
  rw [beq_iff_eq.mpr (show z.1=g.x by lia)]
  rfl
 have e5:∀ u,setS 5 true (fVar 4) (UE k p z g b u)=.ok (.next (UE k p z g b (.pers (.int b)))):=fun _=>rfl
 have tUp:∀ v,fTrB (f2 gGt (f2 gIx (fVar 2) (fC (.int 1))) (f2 gIx (fVar 1) (fC (.int 1)))) (UE k p z g b v)=.ok (decide (p.2<z.2)):=fun _=>rfl
 have tDn:∀ v,fTrB (f2 gLt (f2 gIx (fVar 2) (fC (.int 1))) (f2 gIx (fVar 1) (fC (.int 1)))) (UE k p z g b v)=.ok (decide (z.2<p.2)):=fun _=>rfl
 have i23:seqS xJ (seqS xI (seqS vt (seqS wu (retS (fTup (zz (fVar 0) (zz (fC (.int 1)) (zz (fVar 5) (hNil))))))))) (UE k p z g b (.pers (.int b)))=seqS vt (seqS wu (retS (fTup (zz (fVar 0) (zz (fC (.int 1)) (zz (fVar 5) (hNil))))))) (UE k p z g b (.pers (.int y))):=by
  rcases hs with rfl | rfl
  ·have u1:=tUp (.pers (.int b))
   rw [decide_eq_true (by lia)] at u1
   have d1:=tDn (.pers (.int y))
   rw [decide_eq_false (by lia)] at d1
   have s2:xJ (UE k p z g b (.pers (.int b)))=.ok (.next (UE k p z g b (.pers (.int y)))):=by
    cases q:g.lo with
    | none =>
      have ey:y=b:=by
       rcases hn with n | n
       ·simp [nearE,q] at n
       ·exact n.1
      have t2:fTrB (f2 xP (f2 gIx (fVar 3) (fC (.int 1))) (fC .non)) (UE k p z g b (.pers (.int b)))=.ok false:=by
       refine yk ?_
       rw [zB (x:=.pers (optD g.lo)) (y:=.pers .non) rfl rfl,q]
       rfl
      rw [xJ,if_f (by rw [zdW u1]; exact t2),ey]
      rfl
    | some l =>
      have t2:fTrB (f2 xP (f2 gIx (fVar 3) (fC (.int 1))) (fC .non)) (UE k p z g b (.pers (.int b)))=.ok true:=by
       refine yk ?_
       rw [zB (x:=.pers (optD g.lo)) (y:=.pers .non) rfl rfl,q]
       rfl
      have em:(if l>b then l else b)=y:=by
       rcases hn with n | ⟨n1,n2⟩
       ·have:l=y:=by simpa [nearE,q] using n
        split <;> lia
       ·have:=n2.1 l q
        rw [if_neg (by lia),n1]
      have ml:fB zez (zm (fVar 5) (zm (f2 gIx (fVar 3) (fC (.int 1))) (fNil))) (UE k p z g b (.pers (.int b)))=.ok (.pers (.int y)):=by
       have v5:fVar 5 (UE k p z g b (.pers (.int b)))=.ok (.pers (.int b)):=rfl
       have v3:f2 gIx (fVar 3) (fC (.int 1)) (UE k p z g b (.pers (.int b)))=.ok (.pers (.int l)):=by
        show Out.ok (Val.pers (optD g.lo))=_
        rw [q]
        rfl
       rw [fB,zm,v5,zk,zm,v3,zk,←em]
       rfl
      rw [xJ,if_t (by rw [zdW u1]; exact t2),setS,ml]
      rfl
   rw [zj s2,zj (env':=UE k p z g b (.pers (.int y))) (by rw [xI,if_f (zgr d1)]; rfl)]
  ·have u1:=tUp (.pers (.int b))
   rw [decide_eq_false (by lia)] at u1
   have d1:=tDn (.pers (.int b))
   rw [decide_eq_true (by lia)] at d1
   have s3:xI (UE k p z g b (.pers (.int b)))=.ok (.next (UE k p z g b (.pers (.int y)))):=by
    cases q:g.hi with
    | none =>
      have ey:y=b:=by
       rcases hn with n | n
       ·simp [nearE,q] at n
       ·exact n.1
      have t2:fTrB (f2 xP (f2 gIx (fVar 3) (fC (.int 2))) (fC .non)) (UE k p z g b (.pers (.int b)))=.ok false:=by
       refine yk ?_
       rw [zB (x:=.pers (optD g.hi)) (y:=.pers .non) rfl rfl,q]
       rfl
      rw [xI,if_f (by rw [zdW d1]; exact t2),ey]
      rfl
    | some l =>
      have t2:fTrB (f2 xP (f2 gIx (fVar 3) (fC (.int 2))) (fC .non)) (UE k p z g b (.pers (.int b)))=.ok true:=by
       refine yk ?_
       rw [zB (x:=.pers (optD g.hi)) (y:=.pers .non) rfl rfl,q]
       rfl
      have em:(if l<b then l else b)=y:=by
       rcases hn with n | ⟨n1,n2⟩
       ·have:l=y:=by simpa [nearE,q] using n
        split <;> lia
       ·have:=n2.2 l q
        rw [if_neg (by lia),n1]
      have ml:fB uu (zm (fVar 5) (zm (f2 gIx (fVar 3) (fC (.int 2))) (fNil))) (UE k p z g b (.pers (.int b)))=.ok (.pers (.int y)):=by
       have v5:fVar 5 (UE k p z g b (.pers (.int b)))=.ok (.pers (.int b)):=rfl
       have v3:f2 gIx (fVar 3) (fC (.int 2)) (UE k p z g b (.pers (.int b)))=.ok (.pers (.int l)):=by
        show Out.ok (Val.pers (optD g.hi))=_
        rw [q]
        rfl
       rw [fB,zm,v5,zk,zm,v3,zk,←em]
       rfl
      rw [xI,if_t (by rw [zdW d1]; exact t2),setS,ml]
      rfl
   rw [zj (env':=UE k p z g b (.pers (.int b))) (by rw [xJ,if_f (zgr u1)]; rfl),zj s3]
 have c4:fOr (fNot (fTr (zM zZ (zm (fVar 3) (zm (fVar 5) (zm (fC (.int 1)) (fNil))))))) (fTrB (f2 gLt (f2 gMul (f2 gSub (f2 gIx (fVar 2) (fC (.int 1))) (fVar 5)) (f2 gSub (f2 gIx (fVar 2) (fC (.int 1))) (f2 gIx (fVar 1) (fC (.int 1))))) (fC (.int 0)))) (UE k p z g b (.pers (.int y)))=.ok false:=by
  have t1:fNot (fTr (zM zZ (zm (fVar 3) (zm (fVar 5) (zm (fC (.int 1)) (fNil)))))) (UE k p z g b (.pers (.int y)))=.ok false:=by
   show ((((zZ [zi g,.int y,.int 1]).bind _).bind _).bind _)=_
   rw [ze0 wy]
   rfl
  rw [or_f t1]
  have t2:fTrB (f2 gLt (f2 gMul (f2 gSub (f2 gIx (fVar 2) (fC (.int 1))) (fVar 5)) (f2 gSub (f2 gIx (fVar 2) (fC (.int 1))) (f2 gIx (fVar 1) (fC (.int 1))))) (fC (.int 0))) (UE k p z g b (.pers (.int y)))=.ok (decide ((z.2 - y)*(z.2 - p.2)<0)):=by
   refine yk ?_
   rw [zB (x:=.pers (.int ((z.2 - y)*(z.2 - p.2)))) (y:=.pers (.int 0)) (by
    rw [zB (x:=.pers (.int (z.2 - y))) (y:=.pers (.int (z.2 - p.2))) rfl rfl]
    exact xb (xD hd.1 hd.2)) rfl]
   rfl
  rw [t2,decide_eq_false]
  have:0≤(z.2 - y)*(z.2 - p.2):=by
   rcases hs with rfl | rfl
   ·exact Int.mul_nonneg (by lia) (by lia)
   ·have:=Int.mul_nonneg (show 0 ≤ -(z.2 - y) by lia) (show 0 ≤ -(z.2 - p.2) by lia)
    rw [Int.neg_mul_neg] at this
    exact this
  lia
 have h0:ww (UE k p z g b .un)=.ok (.ret (.pers (if y=z.2 then plcD (k+1,0,0) else plcD (k,1,y)))):=by
  unfold ww
  rw [zj (env':=UE k p z g b .un) (by rw [zbJ,if_f c1]; rfl),zj (e5 _),i23,zj (env':=UE k p z g b (.pers (.int y))) (by rw [vt,if_f c4]; rfl)]
  have c5:fTrB (f2 gEq (fVar 5) (f2 gIx (fVar 2) (fC (.int 1)))) (UE k p z g b (.pers (.int y)))=.ok (y == z.2):=rfl
  by_cases q:y=z.2
  ·rw [beq_iff_eq.mpr q] at c5
   rw [if_pos q]
   refine yB ?_
   rw [wu,if_t c5]
   rfl
  ·rw [beq_eq_false_iff_ne.mpr q] at c5
   rw [if_neg q,zj (env':=UE k p z g b (.pers (.int y))) (by rw [wu,if_f c5]; rfl)]
   rfl
 rw [h0]
 rfl
theorem wC {P:List Spot} {k:Nat} {p:Spot} (h:P[k]?=some p):atI (P.map zf) (k:Int)=some (zf p):=by
 rw [zkn _ _ (by lia),Int.toNat_natCast,List.getElem?_map,h]
 rfl
noncomputable def OE (P:List Spot) (k:Int) (g:Gate) (a:Plc) (s4 s5 s6:Slot):Ev:=[.pers (.lst (P.map zf)),.pers (.int k),.pers (zi g),.pers (plcD a),s4,s5,s6]
noncomputable def latB (k:Int) (a:Plc):Bool:=decide (a.1<k) || (a.2.1 == 0)
theorem zce {P:List Spot} {k:Nat} {p z:Spot} {g:Gate} {a:Plc} (hp:P[k]?=some p) (hz:P[k+1]?=some z):xR (OE P k g a .un .un .un)=seqS wv (seqS vv (retS (fC .non))) (OE P k g a (.pers (zf p)) (.pers (zf z)) (.pers (.bl (latB k a)))):=by
 unfold xR
 rw [zj (env':=OE P k g a (.pers (zf p)) .un .un) (by
  rw [setS,zB (x:=.pers (.lst (P.map zf))) (y:=.pers (.int k)) rfl rfl]
  show ((gIx (.lst (P.map zf)) (.int k)).bind _)=_
  rw [xF (wC hp)]
  rfl)]
 rw [zj (env':=OE P k g a (.pers (zf p)) (.pers (zf z)) .un) (by
  rw [setS,zB (x:=.pers (.lst (P.map zf))) (y:=.pers (.int ((k:Int)+1))) rfl rfl]
  show ((gIx (.lst (P.map zf)) (.int ((k:Int)+1))).bind _)=_
  rw [show (k:Int)+1=((k+1:Nat):Int) by lia,xF (wC hz)]
  rfl)]
 rw [zj (env':=OE P k g a (.pers (zf p)) (.pers (zf z)) (.pers (.bl (latB k a)))) (by
  have c:f2 gGt (fVar 1) (f2 gIx (fVar 3) (fC (.int 0))) (OE P k g a (.pers (zf p)) (.pers (zf z)) .un)=.ok (.pers (.bl (decide (a.1<(k:Int))))):=rfl
  have d:f2 gEq (f2 gIx (fVar 3) (fC (.int 1))) (fC (.int 0)) (OE P k g a (.pers (zf p)) (.pers (zf z)) .un)=.ok (.pers (.bl (a.2.1 == 0))):=rfl
  unfold latB
  rw [setS,fOrV,c,zk]
  cases decide (a.1<(k:Int)) with
  | true=>rfl
  | false =>
    show ((f2 gEq (f2 gIx (fVar 3) (fC (.int 1))) (fC (.int 0)) (OE P k g a (.pers (zf p)) (.pers (zf z)) .un)).bind _)=_
    rw [d]
    rfl)]
theorem zhi {P:List Spot} {k:Nat} {g:Gate} {a:Plc} {v:Val} (h:xR (OE P k g a .un .un .un)=.ok (.ret v)):yq [.lst (P.map zf),.int k,zi g,plcD a]=.ok v:=by
 unfold yq
 show ((xR (OE P k g a .un .un .un)).bind _)=_
 rw [h]
 rfl
theorem zfw {P:List Spot} {k:Nat} {p z:Spot} {g:Gate} {a:Plc} (x:p.1≠z.1):wv (OE P k g a (.pers (zf p)) (.pers (zf z)) (.pers (.bl (latB k a))))=.ok (.next (OE P k g a (.pers (zf p)) (.pers (zf z)) (.pers (.bl (latB k a))))):=by
 have c:fTrB (f2 gEq (f2 gIx (fVar 4) (fC (.int 0))) (f2 gIx (fVar 5) (fC (.int 0)))) (OE P k g a (.pers (zf p)) (.pers (zf z)) (.pers (.bl (latB k a))))=.ok false:=by
  show Out.ok (p.1 == z.1)=_
  rw [beq_eq_false_iff_ne.mpr x]
 rw [wv,if_f c]
 rfl
theorem zi2 {P:List Spot} {k:Nat} {p z:Spot} {g:Gate} {a:Plc} (hp:P[k]?=some p) (hz:P[k+1]?=some z) (x:p.1≠z.1) (n:near p z) (c:Cr p z g) (l:latB k a=true∨0≤(g.x - a.2.2)*(z.1 - p.1)):yq [.lst (P.map zf),.int k,zi g,plcD a]=.ok (.pers (plcD (k,1,g.x))):=by
 refine zhi ?_
 rw [zce hp hz,zj (zfw x)]
 refine yB ?_
 have t1:fTr (zM yE (zm (fVar 4) (zm (fVar 5) (zm (fVar 2) (fNil))))) (OE P k g a (.pers (zf p)) (.pers (zf z)) (.pers (.bl (latB k a))))=.ok true:=by
  show (((yE [zf p,zf z,zi g]).bind _).bind _)=_
  rw [zib n c]
  rfl
 have t2:fOr (fTr (fVar 6)) (fTrB (f2 gGe (f2 gMul (f2 gSub (f2 gIx (fVar 2) (fC (.int 0))) (f2 gIx (fVar 3) (fC (.int 2)))) (f2 gSub (f2 gIx (fVar 5) (fC (.int 0))) (f2 gIx (fVar 4) (fC (.int 0))))) (fC (.int 0)))) (OE P k g a (.pers (zf p)) (.pers (zf z)) (.pers (.bl (latB k a))))=.ok true:=by
  have u:fTr (fVar 6) (OE P k g a (.pers (zf p)) (.pers (zf z)) (.pers (.bl (latB k a))))=.ok (latB k a):=rfl
  cases q:latB k a with
  | true=>rw [q] at u; exact or_t u
  | false =>
    rw [q] at u
    rw [or_f u]
    have l':0≤(g.x - a.2.2)*(z.1 - p.1):=by
     rcases l with l | l
     ·rw [q] at l; cases l
     ·exact l
    refine yk ?_
    rw [zB (x:=.pers (.int ((g.x - a.2.2)*(z.1 - p.1)))) (y:=.pers (.int 0)) (by
     rw [zB (x:=.pers (.int (g.x - a.2.2))) (y:=.pers (.int (z.1 - p.1))) rfl rfl]
     exact xb (xD n.1 n.2)) rfl]
    show Out.ok (Val.pers (.bl (decide (0≤(g.x - a.2.2)*(z.1 - p.1)))))=_
    rw [decide_eq_true l']
 rw [vv,if_t (by rw [zdW t1]; exact t2)]
 rfl
theorem zeb {P:List Spot} {k:Nat} {p z:Spot} {g:Gate} {a:Plc} (hp:P[k]?=some p) (hz:P[k+1]?=some z) (x:p.1≠z.1) (n:near p z) (c:¬ bw p z g.x):yq [.lst (P.map zf),.int k,zi g,plcD a]=.ok (.pers .non):=by
 refine zhi ?_
 rw [zce hp hz,zj (zfw x)]
 have t1:fTr (zM yE (zm (fVar 4) (zm (fVar 5) (zm (fVar 2) (fNil))))) (OE P k g a (.pers (zf p)) (.pers (zf z)) (.pers (.bl (latB k a))))=.ok false:=by
  show (((yE [zf p,zf z,zi g]).bind _).bind _)=_
  rw [zjv n c]
  rfl
 rw [zj (env':=OE P k g a (.pers (zf p)) (.pers (zf z)) (.pers (.bl (latB k a)))) (by rw [vv,if_f (zgr t1)]; rfl)]
 rfl
theorem zmF {P:List Spot} {k:Nat} {p z:Spot} {g:Gate} {a:Plc} {b y s:Int} (hp:P[k]?=some p) (hz:P[k+1]?=some z) (hb0:(if latB k a=true then p.2 else a.2.2)=b) (hs:s=1∨s = -1) (px:p.1=z.1) (gx:g.x=p.1) (up:s*p.2<s*z.2) (hb:s*b≤s*y) (hn:nearE s g=some y∨(y=b∧Wi g b)) (wy:Wi g y) (hzz:s*y≤s*z.2) (hd : -(2^64)<z.2 - p.2∧z.2 - p.2<2^64) :
 yq [.lst (P.map zf),.int k,zi g,plcD a]=.ok (.pers (if y=z.2 then plcD (k+1,0,0) else plcD (k,1,y))):=by
 refine zhi ?_
 rw [zce hp hz]
 refine yB ?_
 have c:fTrB (f2 gEq (f2 gIx (fVar 4) (fC (.int 0))) (f2 gIx (fVar 5) (fC (.int 0)))) (OE P k g a (.pers (zf p)) (.pers (zf z)) (.pers (.bl (latB k a))))=.ok true:=by
  show Out.ok (p.1 == z.1)=_
  rw [beq_iff_eq.mpr px]
 have e:f2 gIx (fLst (zz (f2 gIx (fVar 3) (fC (.int 2))) (zz (f2 gIx (fVar 4) (fC (.int 1))) (hNil)))) (fB gInt (zm (fVar 6) (fNil))) (OE P k g a (.pers (zf p)) (.pers (zf z)) (.pers (.bl (latB k a))))=.ok (.pers (.int b)):=by
  rw [←hb0]
  cases latB k a <;> rfl
 have v1:fVar 1 (OE P k g a (.pers (zf p)) (.pers (zf z)) (.pers (.bl (latB k a))))=.ok (.pers (.int k)):=rfl
 have v4:fVar 4 (OE P k g a (.pers (zf p)) (.pers (zf z)) (.pers (.bl (latB k a))))=.ok (.pers (zf p)):=rfl
 have v5:fVar 5 (OE P k g a (.pers (zf p)) (.pers (zf z)) (.pers (.bl (latB k a))))=.ok (.pers (zf z)):=rfl
 have v2:fVar 2 (OE P k g a (.pers (zf p)) (.pers (zf z)) (.pers (.bl (latB k a))))=.ok (.pers (zi g)):=rfl
 rw [wv,if_t c,retS,zM,zm,v1,zk,zm,v4,zk,zm,v5,zk,zm,v2,zk,zm,e,zk,fNil]
 show (((wp [.int k,zf p,zf z,zi g,.int b]).bind _).bind _)=_
 rw [zf2 hs px gx up hb hn wy hzz hd]
 rfl
noncomputable def NE (P:List Spot) (g:Gate) (a:Plc) (s3 s4:Slot):Ev:=[.pers (.lst (P.map zf)),.pers (zi g),.pers (plcD a),s3,s4]
noncomputable def NXT (P:List Spot) (g:Gate) (a b:Plc):Prop:=zaA [.lst (P.map zf),zi g,plcD a]=.ok (.pers (plcD b))
theorem zfE {P:List Spot} {k:Nat} {g:Gate} {a:Plc} {s4:Slot}:fOr (fTrB (f2 gGt (fVar 3) (f2 gIx (fVar 2) (fC (.int 0))))) (fTrB (f2 gEq (f2 gIx (fVar 2) (fC (.int 1))) (fC (.int 0)))) (NE P g a (.pers (.int k)) s4)=.ok (latB k a):=by
 have c:fTrB (f2 gGt (fVar 3) (f2 gIx (fVar 2) (fC (.int 0)))) (NE P g a (.pers (.int k)) s4)=.ok (decide (a.1<(k:Int))):=rfl
 have d:fTrB (f2 gEq (f2 gIx (fVar 2) (fC (.int 1))) (fC (.int 0))) (NE P g a (.pers (.int k)) s4)=.ok (a.2.1 == 0):=rfl
 unfold latB
 cases q:decide (a.1<(k:Int)) with
 | true=>rw [q] at c; rw [or_t c]; rfl
 | false=>rw [q] at c; rw [or_f c,d]; rfl
theorem vx_at {P:List Spot} {k:Nat} {p:Spot} {g:Gate} {a:Plc} {s4:Slot} (hp:P[k]?=some p):f2 gIx (fVar 0) (fVar 3) (NE P g a (.pers (.int k)) s4)=.ok (.pers (zf p)):=by
 rw [zB (x:=.pers (.lst (P.map zf))) (y:=.pers (.int k)) rfl rfl]
 exact xF (wC hp)
theorem zgv {P:List Spot} {k:Nat} {p:Spot} {g:Gate} {a:Plc} {s4:Slot} (hp:P[k]?=some p) (c:Bool) (hc:c=true↔(p.1=g.x∧Wi g p.2)):fAnd (fTrB (f2 gEq (f2 gIx (f2 gIx (fVar 0) (fVar 3)) (fC (.int 0))) (f2 gIx (fVar 1) (fC (.int 0))))) (fTr (zM zZ (zm (fVar 1) (zm (f2 gIx (f2 gIx (fVar 0) (fVar 3)) (fC (.int 1))) (zm (fC (.int 1)) (fNil)))))) (NE P g a (.pers (.int k)) s4)=.ok c:=by
 have v:=vx_at (g:=g) (a:=a) (s4:=s4) hp
 have t1:fTrB (f2 gEq (f2 gIx (f2 gIx (fVar 0) (fVar 3)) (fC (.int 0))) (f2 gIx (fVar 1) (fC (.int 0)))) (NE P g a (.pers (.int k)) s4)=.ok (p.1 == g.x):=by
  refine yk ?_
  rw [zB (x:=.pers (.int p.1)) (y:=.pers (.int g.x)) (by
   rw [zB v (y:=.pers (.int 0)) rfl]
   rfl) rfl]
  rfl
 by_cases q:p.1=g.x
 ·rw [beq_iff_eq.mpr q] at t1
  rw [zdW t1]
  have v1:fVar 1 (NE P g a (.pers (.int k)) s4)=.ok (.pers (zi g)):=rfl
  have v2:f2 gIx (f2 gIx (fVar 0) (fVar 3)) (fC (.int 1)) (NE P g a (.pers (.int k)) s4)=.ok (.pers (.int p.2)):=by
   rw [zB v (y:=.pers (.int 1)) rfl]
   rfl
  rw [fTr,zM,zm,v1,zk,zm,v2,zk]
  show (((zZ [zi g,.int p.2,.int 1]).bind _).bind _)=_
  by_cases w:Wi g p.2
  ·rw [ze0 w,hc.mpr ⟨q,w⟩]
   rfl
  ·have:c=false:=by
    cases c with
    | false=>rfl
    | true=>exact absurd (hc.mp rfl).2 w
   rw [ziF w,this]
   rfl
 ·have:c=false:=by
   cases c with
   | false=>rfl
   | true=>exact absurd (hc.mp rfl).1 q
  rw [beq_eq_false_iff_ne.mpr q] at t1
  rw [zgr t1,this]
theorem zjN {P:List Spot} {k:Nat} {p:Spot} {g:Gate} {a:Plc} {s4:Slot} (hp:P[k]?=some p) (l:latB k a=true) (h:p.1=g.x∧Wi g p.2):vh (NE P g a (.pers (.int k)) s4)=.ok (.ret (.pers (plcD (k,0,0)))):=by
 have c:=zfE (P:=P) (k:=k) (g:=g) (a:=a) (s4:=s4)
 rw [l] at c
 refine yB ?_
 rw [zaO,if_t c,zeu,if_t (zgv hp true (iff_of_true rfl h))]
 rfl
theorem zlT {P:List Spot} {k:Nat} {p:Spot} {g:Gate} {a:Plc} {s4:Slot} (hp:P[k]?=some p) (h:latB k a=true→¬ (p.1=g.x∧Wi g p.2)):zaO (NE P g a (.pers (.int k)) s4)=.ok (.next (NE P g a (.pers (.int k)) s4)):=by
 have c:=zfE (P:=P) (k:=k) (g:=g) (a:=a) (s4:=s4)
 cases l:latB k a with
 | false =>
   rw [l] at c
   rw [zaO,if_f c]
   rfl
 | true =>
   rw [l] at c
   rw [zaO,if_t c,zeu,if_f (zgv hp false (by
    constructor
    ·intro z; cases z
    ·intro z; exact absurd z (h l)))]
   rfl
theorem zdD {P:List Spot} {k:Nat} {z:Spot} {g:Gate} {a:Plc} {s4:Slot} {r:D} (hz:P[k+1]?=some z) (e:yq [.lst (P.map zf),.int k,zi g,plcD a]=.ok (.pers r)):zem (NE P g a (.pers (.int k)) s4)=zcm (NE P g a (.pers (.int k)) (.pers r)):=by
 have hl:k+1<P.length:=(List.getElem?_eq_some_iff.mp hz).1
 have c:fTrB (f2 gLt (f2 gAdd (fVar 3) (fC (.int 1))) (fB gLen (zm (fVar 0) (fNil)))) (NE P g a (.pers (.int k)) s4)=.ok true:=by
  show Out.ok (decide ((k:Int)+1<((P.map zf).length:Int)))=_
  rw [List.length_map,decide_eq_true (by lia)]
 rw [zem,if_t c,zj (env':=NE P g a (.pers (.int k)) (.pers r)) (by
  rw [setS]
  show (((yq [.lst (P.map zf),.int k,zi g,plcD a]).bind _).bind _)=_
  rw [e]
  rfl)]
theorem zag (lo:Int) (n:Nat):rngD lo (n+1)=.int lo::rngD (lo+1) n:=by
 unfold rngD
 rw [List.range_succ_eq_map,List.map_cons,List.map_map]
 simp only [Function.comp_def]
 congr 1
 ·simp
 ·refine List.map_congr_left fun i _ => ?_
  congr 1
  lia
theorem zkH {f:Ev→Out (List Val)} {env:Ev} {i j:Int} (h:f env=.ok [.pers (.int i),.pers (.int j)]) (hn : -1000000≤i∧i≤1000000 ∧ -1000000≤j∧j≤1000000):zcq f env=.ok (rngD i (j - i).toNat):=by
 simp only [zcq,h,zk,List.map_cons,List.map_nil,Val.d]
 rw [if_pos hn]
theorem zhk {P:List Spot} {g:Gate} {a:Plc} {k:Nat} {v:Val} (ha:a.1=k) (hk:k≤P.length) (hl:P.length≤100000) (h:forD (gN 3) vh (rngD k (P.length - k)) (NE P g a .un .un)=.ok (.ret v)):zaA [.lst (P.map zf),zi g,plcD a]=.ok v:=by
 unfold zaA
 show ((zdB (NE P g a .un .un)).bind _)=_
 unfold zdB
 have hr:zcq (zm (f2 gIx (fVar 2) (fC (.int 0))) (zm (fB gLen (zm (fVar 0) (fNil))) (fNil))) (NE P g a .un .un)=.ok (rngD k (P.length - k)):=by
  show (if -1000000≤a.1∧a.1≤1000000 ∧ -1000000≤((P.map zf).length:Int)∧((P.map zf).length:Int)≤1000000 then Out.ok (rngD a.1 (((P.map zf).length:Int) - a.1).toNat) else .bad)=_
  rw [List.length_map,ha,if_pos (by lia)]
  congr 2
  lia
 rw [yB (v:=v) (by
  rw [forS,hr,zk]
  exact h)]
 rfl
theorem zk9 {P:List Spot} {g:Gate} {k:Nat} {p:Spot} (hl:P.length≤100000) (hp:P[k]?=some p) (h:p.1=g.x∧Wi g p.2):NXT P g (k,0,0) (k,0,0):=by
 have hk:k<P.length:=(List.getElem?_eq_some_iff.mp hp).1
 refine zhk rfl (by lia) hl ?_
 rw [show P.length - k=(P.length - k - 1)+1 by lia,zag,forD]
 have hg:gN 3 (.int k) (NE P g (k,0,0) .un .un)=.ok (NE P g (k,0,0) (.pers (.int k)) .un):=rfl
 rw [hg,zk,zjN hp (by simp [latB]) h]
 rfl
theorem zec {P:List Spot} {g:Gate} {a b:Plc} {k:Nat} {p z:Spot} (hl:P.length≤100000) (ha:a.1=k) (hp:P[k]?=some p) (hz:P[k+1]?=some z) (h:latB k a=true→¬ (p.1=g.x∧Wi g p.2)) (e:yq [.lst (P.map zf),.int k,zi g,plcD a]=.ok (.pers (plcD b))):NXT P g a b:=by
 have hk:k<P.length:=(List.getElem?_eq_some_iff.mp hp).1
 refine zhk ha (by lia) hl ?_
 rw [show P.length - k=(P.length - k - 1)+1 by lia,zag,forD]
 have hg:gN 3 (.int k) (NE P g a .un .un)=.ok (NE P g a (.pers (.int k)) .un):=rfl
 have hb:vh (NE P g a (.pers (.int k)) .un)=.ok (.ret (.pers (plcD b))):=by
  rw [vh,zj (zlT hp h),zdD hz e,zcm,if_t rfl]
  rfl
 rw [hg,zk,hb]
 rfl
theorem zk8 {P:List Spot} {g:Gate} {a:Plc} {k:Nat} {p z:Spot} (hl:P.length≤100000) (ha:a.1=k) (hp:P[k]?=some p) (hz:P[k+1]?=some z) (h:latB k a=true→¬ (p.1=g.x∧Wi g p.2)) (e:yq [.lst (P.map zf),.int k,zi g,plcD a]=.ok (.pers .non)) (hh:z.1=g.x∧Wi g z.2):NXT P g a (k+1,0,0):=by
 have hk:k+1<P.length:=(List.getElem?_eq_some_iff.mp hz).1
 refine zhk ha (by lia) hl ?_
 rw [show P.length - k=(P.length - k - 2)+1+1 by lia,zag,zag,forD]
 have hg:gN 3 (.int k) (NE P g a .un .un)=.ok (NE P g a (.pers (.int k)) .un):=rfl
 have hb:vh (NE P g a (.pers (.int k)) .un)=.ok (.next (NE P g a (.pers (.int k)) (.pers .non))):=by
  rw [vh,zj (zlT hp h),zdD hz e,zcm,if_f rfl]
  rfl
 rw [hg,zk,hb,zk]
 show forD (gN 3) vh (.int ((k:Int)+1)::_) _=_
 have hg2:gN 3 (.int ((k:Int)+1)) (NE P g a (.pers (.int k)) (.pers .non))=.ok (NE P g a (.pers (.int ((k+1:Nat):Int))) (.pers .non)):=rfl
 rw [forD,hg2,zk,zjN hz (by
  unfold latB
  rw [decide_eq_true (by lia)]
  rfl) hh]
 rfl
noncomputable def Chn (P:List Spot):Plc→List (Gate×Plc)→Prop
 | _,[]=>True
 | a,(g,b)::r=>NXT P g a b∧Chn P b r
structure Fit (P:List Spot):Prop where
 len:P.length≤100000
 bx:∀ p∈P,Bx p.1
 hh:∃ c:Int,∀ p∈P,c≤p.2∧p.2<c+2^64
theorem Fit.near {P:List Spot} (F:Fit P) {i j:Nat} {p z:Spot} (hp:P[i]?=some p) (hz:P[j]?=some z):near p z ∧ -(2^64)<z.2 - p.2∧z.2 - p.2<2^64:=by
 obtain ⟨c,h⟩:=F.hh
 have h1:=h p (List.mem_of_getElem? hp)
 have h2:=h z (List.mem_of_getElem? hz)
 exact ⟨za3 (F.bx p (List.mem_of_getElem? hp)) (F.bx z (List.mem_of_getElem? hz)),by lia,by lia⟩
theorem zcz {P:List Spot} (F:Fit P) {k:Nat} {z:Spot} (hz:P[k]?=some z) {R:List (Gate×Plc)} (hR:Chn P (k,0,0) R):∀ V:List Gate,(∀ g∈V,g.x=z.1∧Wi g z.2)→Chn P (k,0,0) (V.map (fun g=>(g,((k:Int),0,0)))++R)
 | [],_=>hR
 | g::V,h=>⟨zk9 F.len hz ⟨(h g (by simp)).1.symm,(h g (by simp)).2⟩,zcz F hz hR V fun x hx=>h x (by simp [hx])⟩
noncomputable def OnE (k:Int) (Q:List (Gate×Plc)):Prop:=∀ q∈Q,q.2.1=k∧q.2.2.1=1
theorem ze7 {P:List Spot} (F:Fit P) {k:Nat} {p z:Spot} (hp:P[k]?=some p) (hz:P[k+1]?=some z) (x:p.1≠z.1) {V:List Gate} (hV:∀ g∈V,g.x=z.1∧Wi g z.2) {R:List (Gate×Plc)} (hR:V=[]→R=[]) (hR2:Chn P ((k+1:Nat),0,0) R):∀ (E:List Gate) (f v:Int),(∀ g∈E,Cr p z g)→E.Pairwise (fun g h=>0≤(h.x - g.x)*(z.1 - p.1))→(f=0∨(f=1∧∀ g∈E,0≤(g.x - v)*(z.1 - p.1))) →
 ∃ Q,OnE k Q∧Q.map (·.1)=E∧Chn P (k,f,v) (Q++(V.map (fun g=>(g,(((k+1:Nat):Int),0,0)))++R))
 | [],f,v,_,_,hf=>by
   refine ⟨[],fun q hq=>by simp at hq,rfl,?_⟩
   cases V with
   | nil =>
     rw [hR rfl]
     exact trivial
   | cons g V =>
     have n:=(F.near hp hz).1
     have hg:=hV g (by simp)
     refine ⟨zk8 F.len rfl hp hz (fun _ q=>x (q.1.trans hg.1)) (zeb hp hz x n (by rw [hg.1]; unfold bw; lia)) ⟨hg.1.symm,hg.2⟩,?_⟩
     exact zcz F hz hR2 V fun t ht=>hV t (by simp [ht])
 | g::E,f,v,hc,pw,hf=>by
   obtain ⟨pw1,pw2⟩:=List.pairwise_cons.mp pw
   obtain ⟨Q,q1,q2,q3⟩:=ze7 F hp hz x hV hR hR2 E 1 g.x (fun t ht=>hc t (by simp [ht])) pw2 (.inr ⟨rfl,pw1⟩)
   have c:=hc g (by simp)
   have n:=(F.near hp hz).1
   refine ⟨(g,((k:Int),1,g.x))::Q,fun q hq => ?_,by rw [List.map_cons,q2],⟨zec F.len rfl hp hz (fun _ q => ?_) (zi2 hp hz x n c ?_),q3⟩⟩
   ·rcases List.mem_cons.mp hq with rfl | hq
    ·exact ⟨rfl,rfl⟩
    ·exact q1 q hq
   ·have:=c.1
    unfold bw at this
    lia
   ·rcases hf with rfl | ⟨rfl,hf⟩
    ·left
     simp [latB]
    ·exact .inr (hf g (by simp))
theorem zfA {s:Int} (hs:s=1∨s = -1) {g:Gate} {b y:Int} (h:nearE s g=some y) (l:s*b<s*y):¬ Wi g b:=by
 intro w
 rcases ur hs h with ⟨rfl,k⟩ | ⟨rfl,k⟩
 ·have:=w.1 _ k; lia
 ·have:=w.2 _ k; lia
theorem zlV {P:List Spot} (F:Fit P) {k:Nat} {p z:Spot} {s:Int} (hp:P[k]?=some p) (hz:P[k+1]?=some z) (x:p.1=z.1) (hs:s=1∨s = -1) (up:s*p.2<s*z.2) {V:List Gate} (hV:∀ g∈V,g.x=z.1∧Wi g z.2) (fst:∃ g r,V=g::r∧nearE s g=some z.2) {R:List (Gate×Plc)} (hR2:Chn P ((k+1:Nat),0,0) R):∀ (E:List Gate) (b:Int) (st:Bool) (f v:Int),VS s p.1 z.2 b st E→(st=true→f=0∧b=p.2)→(st=false→f=1∧v=b)→s*b<s*z.2 →
 ∃ Q,OnE k Q∧Q.map (·.1)=E∧Chn P (k,f,v) (Q++(V.map (fun g=>(g,(((k+1:Nat):Int),0,0)))++R))
 | [],b,st,f,v,_,h1,h2,hb=>by
   obtain ⟨g,V',rfl,nr⟩:=fst
   have hg:=hV g (by simp)
   have d:=(F.near hp hz).2
   have hb0:(if latB k ((k:Int),f,v)=true then p.2 else v)=b:=by
    cases st with
    | true =>
      obtain ⟨rfl,rfl⟩:=h1 rfl
      simp [latB]
    | false =>
      obtain ⟨rfl,rfl⟩:=h2 rfl
      simp [latB]
   refine ⟨[],fun q hq=>by simp at hq,rfl,?_,zcz F hz hR2 V' fun t ht=>hV t (by simp [ht])⟩
   refine zec F.len rfl hp hz (fun _ q=>zfA hs nr up q.2) ?_
   have:=zmF (a:=((k:Int),f,v)) hp hz hb0 hs x (hg.1.trans x.symm) up (Int.le_of_lt hb) (.inl nr) hg.2 (Int.le_refl _) d
   rw [if_pos rfl] at this
   exact this
 | g::E,b,st,f,v,⟨y,gx,wy,hy,hby,nr,hst,rest⟩,h1,h2,hb=>by
   obtain ⟨Q,q1,q2,q3⟩:=zlV F hp hz x hs up hV fst hR2 E y false 1 y rest (fun z=>by cases z) (fun _=>⟨rfl,rfl⟩) hy
   have d:=(F.near hp hz).2
   have hb0:(if latB k ((k:Int),f,v)=true then p.2 else v)=b:=by
    cases st with
    | true =>
      obtain ⟨rfl,rfl⟩:=h1 rfl
      simp [latB]
    | false =>
      obtain ⟨rfl,rfl⟩:=h2 rfl
      simp [latB]
   refine ⟨(g,((k:Int),1,y))::Q,fun q hq => ?_,by rw [List.map_cons,q2],?_,q3⟩
   ·rcases List.mem_cons.mp hq with rfl | hq
    ·exact ⟨rfl,rfl⟩
    ·exact q1 q hq
   ·refine zec F.len rfl hp hz (fun l q => ?_) ?_
    ·cases st with
     | true =>
       obtain ⟨rfl,rfl⟩:=h1 rfl
       have lt:=hst rfl
       rcases nr with nr | ⟨_,nr⟩
       ·exact zfA hs nr lt q.2
       ·cases nr
     | false =>
       obtain ⟨rfl,rfl⟩:=h2 rfl
       simp [latB] at l
    ·have ny:y≠z.2:=fun q=>by rw [q] at hy; lia
     have:=zmF (a:=((k:Int),f,v)) hp hz hb0 hs x gx up hby (by
      rcases nr with nr | ⟨e,nr⟩
      ·exact .inl nr
      ·exact .inr ⟨e,by rw [←e]; exact wy⟩) wy (Int.le_of_lt hy) d
     rw [if_neg ny] at this
     exact this
noncomputable def atJ (Q:List (Gate×Plc)) (j:Int):List Gate:=(Q.filter fun q=>decide (q.2.1=j)&&decide (q.2.2.1=0)).map (·.1)
theorem zcK (Q R:List (Gate×Plc)) (j:Int):atJ (Q++R) j=atJ Q j++atJ R j:=by
 unfold atJ
 rw [List.filter_append,List.map_append]
theorem zkm {k:Int} {Q:List (Gate×Plc)} (h:OnE k Q) (j:Int):atJ Q j=[]:=by
 unfold atJ
 rw [List.filter_eq_nil_iff.mpr fun q hq=>by
  have:=(h q hq).2
  simp
  lia]
 rfl
theorem zng (V:List Gate) (k j:Int):atJ (V.map fun g=>(g,(k,0,0))) j=if j=k then V else []:=by
 unfold atJ
 by_cases z:j=k
 ·rw [if_pos z]
  subst z
  rw [List.filter_map]
  simp [Function.comp_def]
 ·rw [if_neg z]
  rw [List.filter_eq_nil_iff.mpr fun q hq=>by
   obtain ⟨g,_,rfl⟩:=List.mem_map.mp hq
   simp
   lia]
  rfl
noncomputable def zeY (P:List Spot) (at_:Int→List Gate) (k:Nat):Prop:=∀ j:Nat,k<j→∀ o z n,P[j - 1]?=some o→P[j]?=some z→P[j+1]?=some n→BendOk o z n (at_ j)
theorem zjU {P:List Spot} (F:Fit P):∀ (L:List Itm) (k:Nat) (p:Spot) (need:Spot→Prop),AOk p need L→P.drop k=p::y9 L→∃ Q,Q.map (·.1)=xO L∧Chn P ((k:Int),0,0) Q∧(∀ j:Int,j≤k→atJ Q j=[])∧zeY P (atJ Q) k
 | [],_,_,_,h,_=>h.elim
 | (E,z,V)::L,k,p,need,h,hP=>by
   have hp:P[k]?=some p:=by
    have:=congrArg (fun l=>l[0]?) hP
    simpa using this
   have hd:P.drop (k+1)=z::y9 L:=by
    have:=congrArg List.tail hP
    rw [List.tail_drop] at this
    exact this
   have hz:P[k+1]?=some z:=by
    have:=congrArg (fun l=>l[0]?) hd
    simpa using this
   have he:EdgeOk p E z V:=by
    cases L with
    | nil=>exact h.1
    | cons i r=>exact h.1
   obtain ⟨R,r1,r2,r3,r4,r5⟩:∃ R,R.map (·.1)=xO L∧Chn P (((k+1:Nat):Int),0,0) R∧(∀ j:Int,j≤(k+1:Nat)→atJ R j=[])∧zeY P (atJ R) (k+1)∧(V=[]→R=[]):=by
    cases L with
    | nil=>exact ⟨[],rfl,trivial,fun _ _=>rfl,fun j hj o z' n _ h2 h3=>by
     exfalso
     have e1:P.length≤k+2:=by
      have:=congrArg List.length hd
      simp [y9] at this
      lia
     have:=(List.getElem?_eq_some_iff.mp h3).1
     lia,fun _=>rfl⟩
    | cons i r =>
      obtain ⟨R,r1,r2,r3,r4⟩:=zjU F (i::r) (k+1) z _ h.2.2 hd
      refine ⟨R,r1,r2,r3,r4,fun q => ?_⟩
      exfalso
      have b:BendOk p z i.2.1 V:=by
       have:=h.2.2
       cases r with
       | nil=>exact this.2.1
       | cons _ _=>exact this.2.1
      exact b.ne q
   have key:∃ Q,OnE k Q∧Q.map (·.1)=E∧Chn P ((k:Int),0,0) (Q++(V.map (fun g=>(g,(((k+1:Nat):Int),0,0)))++R)):=by
    rcases he.e with a | ⟨s,a⟩
    ·exact ze7 F hp hz a.x he.at_z r5 r2 E 0 0 a.cr a.pw (.inl rfl)
    ·exact zlV F hp hz a.x a.s1 a.up he.at_z a.fst r2 E p.2 true 0 0 a.vs (fun _=>⟨rfl,rfl⟩) (fun z=>by cases z) a.up
   obtain ⟨Q,q1,q2,q3⟩:=key
   refine ⟨Q++(V.map (fun g=>(g,(((k+1:Nat):Int),0,0)))++R),?_,q3,fun j hj => ?_,fun j hj o w n h1 h2 h3 => ?_⟩
   ·rw [List.map_append,List.map_append,q2,r1,List.map_map]
    show E++(V.map id++xO L)=(E++V)++xO L
    rw [List.map_id,List.append_assoc]
   ·rw [zcK,zcK,zkm q1,zng,if_neg (by lia),r3 j (by lia)]
    rfl
   ·rw [zcK,zcK,zkm q1,zng,List.nil_append]
    by_cases c:j=k+1
    ·subst c
     rw [if_pos rfl,r3 _ (Int.le_refl _),List.append_nil]
     rw [Nat.add_sub_cancel] at h1
     rw [hp] at h1
     rw [hz] at h2
     cases h1
     cases h2
     cases L with
     | nil =>
       exfalso
       have e1:P.length≤k+2:=by
        have:=congrArg List.length hd
        simp [y9] at this
        lia
       have:=(List.getElem?_eq_some_iff.mp h3).1
       lia
     | cons i r =>
       have hn:P[k+1+1]?=some i.2.1:=by
        have:=congrArg (fun l=>l[1]?) hd
        simpa [y9] using this
       rw [hn] at h3
       cases h3
       have:=h.2.2
       cases r with
       | nil=>exact this.2.1
       | cons _ _=>exact this.2.1
    ·rw [if_neg (by lia),List.nil_append]
     exact r4 j (by lia) o w n h1 h2 h3
noncomputable def PE (P:List Spot) (r:D) (acc:List Plc) (a:Plc) (s4:Slot):Ev:=[.pers (.lst (P.map zf)),.pers r,.own (acc.map plcD),.pers (plcD a),s4]
theorem zbt {P:List Spot} {r:D}:∀ (Q:List (Gate×Plc)) (acc:List Plc) (a:Plc) (s4:Slot),Chn P a Q→acc.length+Q.length≤50000→∃ a' s4',forD (gN 4) uK ((Q.map (·.1)).map zi) (PE P r acc a s4)=.ok (.next (PE P r (acc++Q.map (·.2)) a' s4'))
 | [],acc,a,s4,_,_=>⟨a,s4,by simp [forD]⟩
 | (g,b)::Q,acc,a,s4,⟨h1,h2⟩,hl=>by
   simp only [List.length_cons] at hl
   obtain ⟨a',s4',e⟩:=zbt (P:=P) (r:=r) Q (acc++[b]) b (.pers (zi g)) h2 (by simp; lia)
   refine ⟨a',s4',?_⟩
   have hg:gN 4 (zi g) (PE P r acc a s4)=.ok (PE P r acc a (.pers (zi g))):=rfl
   have hb:uK (PE P r acc a (.pers (zi g)))=.ok (.next (PE P r (acc++[b]) b (.pers (zi g)))):=by
    rw [uK,zj (env':=PE P r acc b (.pers (zi g))) (by
     rw [setS]
     show (((zaA [.lst (P.map zf),zi g,plcD a]).bind _).bind _)=_
     rw [h1]
     rfl),zj (env':=PE P r acc b (.pers (zi g))) (by rw [zdv,if_f rfl]; rfl)]
    show (if (acc.map plcD).length<100000 then Out.ok (Res.next [.pers (.lst (P.map zf)),.pers r,.own (acc.map plcD++[plcD b]),.pers (plcD b),.pers (zi g)]) else .bad)=_
    rw [if_pos (by rw [List.length_map]; lia)]
    unfold PE
    rw [List.map_append]
    rfl
   rw [List.map_cons,List.map_cons,forD,hg,zk,hb,zk]
   simp only [List.append_assoc,List.singleton_append] at e
   exact e
theorem zg8 {P:List Spot} {Q:List (Gate×Plc)} (h:Chn P (0,0,0) Q) (hl:Q.length≤40000):vp [.lst (P.map zf),.lst ((Q.map (·.1)).map zi)]=.ok (.fresh ((Q.map (·.2)).map plcD)):=by
 obtain ⟨a',s4',e⟩:=zbt (P:=P) (r:=.lst ((Q.map (·.1)).map zi)) Q [] (0,0,0) .un h (by simp; lia)
 unfold vp
 show ((uw [.pers (.lst (P.map zf)),.pers (.lst ((Q.map (·.1)).map zi)),.un,.un,.un]).bind _)=_
 unfold uw
 rw [zj (env':=[.pers (.lst (P.map zf)),.pers (.lst ((Q.map (·.1)).map zi)),.own [],.un,.un]) rfl]
 rw [zj (env':=PE P (.lst ((Q.map (·.1)).map zi)) [] (0,0,0) .un) rfl]
 rw [zj (by
  have hi:fItL (fVar 1) (PE P (.lst ((Q.map (·.1)).map zi)) [] (0,0,0) .un)=.ok ((Q.map (·.1)).map zi):=rfl
  rw [forS,hi,zk]
  exact e)]
 rfl
theorem u0 (a:Option Int) (y:Int):gEq (optD a) (.int y)=.ok (.pers (.bl (decide (a=some y)))):=by
 show (if (shal 4 (optD a) || shal 4 (optD (some y)))=true then Out.ok (Val.pers (.bl (eqD (optD a) (optD (some y))))) else .bad)=_
 rw [ze8,Bool.true_or,if_pos rfl,zhW]
theorem zlq (p:Spot) (g:Gate):zbx [zf p,zi g]=.ok (.pers (.int (hand p g))):=by
 unfold zbx
 show ((zbM [.pers (zf p),.pers (zi g)]).bind _)=_
 have h0:zbM [.pers (zf p),.pers (zi g)]=.ok (.ret (.pers (.int (hand p g)))):=by
  unfold zbM hand
  have c1:fTrB (f2 gNe (f2 gIx (fVar 1) (fC (.int 0))) (f2 gIx (fVar 0) (fC (.int 0)))) [.pers (zf p),.pers (zi g)]=.ok (!(g.x == p.1)):=rfl
  by_cases x:g.x=p.1
  ·rw [beq_iff_eq.mpr x] at c1
   rw [if_neg (fun q=>q x),zj (env':=[.pers (zf p),.pers (zi g)]) (by rw [zev,if_f c1]; rfl)]
   have c2:fTrB (f2 gEq (f2 gIx (fVar 1) (fC (.int 2))) (f2 gIx (fVar 0) (fC (.int 1)))) [.pers (zf p),.pers (zi g)]=.ok (decide (g.hi=some p.2)):=yk (by
    rw [zB (x:=.pers (optD g.hi)) (y:=.pers (.int p.2)) rfl rfl]
    exact u0 _ _)
   by_cases u:g.hi=some p.2
   ·rw [decide_eq_true u] at c2
    rw [if_pos u]
    refine yB ?_
    rw [zer,if_t c2]
    rfl
   ·rw [decide_eq_false u] at c2
    rw [if_neg u,zj (env':=[.pers (zf p),.pers (zi g)]) (by rw [zer,if_f c2]; rfl)]
    have c3:fTrB (f2 gEq (f2 gIx (fVar 1) (fC (.int 1))) (f2 gIx (fVar 0) (fC (.int 1)))) [.pers (zf p),.pers (zi g)]=.ok (decide (g.lo=some p.2)):=yk (by
     rw [zB (x:=.pers (optD g.lo)) (y:=.pers (.int p.2)) rfl rfl]
     exact u0 _ _)
    by_cases v:g.lo=some p.2
    ·rw [decide_eq_true v] at c3
     rw [if_pos v]
     refine yB ?_
     rw [zeo,if_t c3]
     show Out.ok (Res.ret (Val.pers (.int (0 - g.w))))=_
     rw [Int.zero_sub]
    ·rw [decide_eq_false v] at c3
     rw [if_neg v,zj (env':=[.pers (zf p),.pers (zi g)]) (by rw [zeo,if_f c3]; rfl)]
     rfl
  ·rw [beq_eq_false_iff_ne.mpr x] at c1
   rw [if_pos x]
   refine yB ?_
   rw [zev,if_t c1]
   rfl
 rw [h0]
 rfl
theorem zku {o z n:Spot} (h1:near o z) (h2:near z n):zbv [zf o,zf z,zf n]=.ok (.pers (.int (tn o z n))):=by
 unfold zbv
 show ((zdy [.pers (zf o),.pers (zf z),.pers (zf n),.un]).bind _)=_
 unfold zdy
 rw [zj (env':=[.pers (zf o),.pers (zf z),.pers (zf n),.pers (.int ((z.1 - o.1)*(n.2 - z.2)))]) (by
  rw [setS,zB (x:=.pers (.int (z.1 - o.1))) (y:=.pers (.int (n.2 - z.2))) rfl rfl]
  show ((gMul (.int (z.1 - o.1)) (.int (n.2 - z.2))).bind _)=_
  rw [xb (za2 h1.1 h1.2)]
  rfl)]
 rw [retS,zB (x:=.pers (.int ((z.1 - o.1)*(n.2 - z.2)))) (y:=.pers (.int ((z.2 - o.2)*(n.1 - z.1)))) rfl (by
  rw [zB (x:=.pers (.int (z.2 - o.2))) (y:=.pers (.int (n.1 - z.1))) rfl rfl]
  exact xb (xD h2.1 h2.2))]
 rfl
theorem znf {α:Type} (x:α) (l:List α):atI (x::l) 0=some x:=vi (xs:=x::l) (k:=0) (by simp)
theorem zlo (xs:List Int):eqD (.lst (xs.map .int)) (.lst (xs.map .int))=true:=by
 rw [u7,zct D.int (fun x y=>by rw [zaU]; rfl),decide_eq_true rfl]
theorem zhM (xs:List Int):shal 4 (.lst (xs.map .int))=true:=by
 rw [ze9,List.all_map,List.all_eq_true]
 intro i _
 exact ziL _ i
theorem zla (xs:List Int):gNe (.lst (xs.map .int)) (.lst (xs.map .int))=.ok (.pers (.bl false)):=by
 show (if (shal 4 (.lst (xs.map .int)) || shal 4 (.lst (xs.map .int)))=true then Out.ok (Val.pers (.bl (!eqD (.lst (xs.map .int)) (.lst (xs.map .int))))) else .bad)=_
 rw [zhM,Bool.true_or,if_pos rfl,zlo]
 rfl
noncomputable def BE (o z n:Spot) (V:List Gate) (s4 s5 s6 s7:Slot):Ev:=[.pers (zf o),.pers (zf z),.pers (zf n),.pers (.lst (V.map zi)),s4,s5,s6,s7]
theorem zlJ {o z n:Spot} {V:List Gate} (b:BendOk o z n V) (h1:near o z) (h2:near z n) (h3 : -(2^64)<z.2 - o.2∧z.2 - o.2<2^64) (hl:V.length≤50000):zaB [zf o,zf z,zf n,.lst (V.map zi)]=.ok (.pers (.bl true)):=by
 obtain ⟨ne,⟨t,ht,hh,one⟩,back⟩:=b
 obtain ⟨g0,V',rfl⟩:∃ g0 V',V=g0::V':=by
  cases V with
  | nil=>exact absurd rfl ne
  | cons a b=>exact ⟨a,b,rfl⟩
 generalize hV:g0::V'=V at *
 have hlen:V.length=V'.length+1:=by rw [←hV]; rfl
 have hm:V.map (hand z)=V.map fun _=>t:=List.map_congr_left hh
 have hc:yy [1] 1 (fItL (fVar 3)) (gN 1) (fYes) (zeG) (BE o z n V .un .un .un .un)=.ok (.fresh ((V.map fun _=>t).map .int)):=by
  have hi:fItL (fVar 3) (BE o z n V .un .un .un .un)=.ok (V.map zi):=rfl
  rw [yy,hi,zk,if_pos (by rw [List.length_map]; lia)]
  show ((compD (gN 1) fYes zeG (V.map zi) [.pers (zf z),.un]).bind _)=_
  rw [yT (fun env=>∃ s1,env=[.pers (zf z),s1]) zi (fun g=>some (.int (hand z g))) V [.pers (zf z),.un] ⟨_,rfl⟩ (fun g env _ ⟨s1,he⟩=>by
   subst he
   refine ⟨[.pers (zf z),.pers (zi g)],rfl,⟨_,rfl⟩,.inr ⟨_,.pers (.int (hand z g)),rfl,rfl,?_,rfl⟩⟩
   show ((zbx [zf z,zi g]).bind _)=_
   rw [zlq]
   rfl),List.filterMap_eq_map',←hm,List.map_map]
  rfl
 have h0:atI ((V.map fun _=>t).map D.int) 0=some (.int t):=by rw [←hV]; exact znf _ _
 have x0:∀ s5 s6 s7,f2 gIx (fVar 4) (fC (.int 0)) (BE o z n V (.pers (.lst ((V.map fun _=>t).map .int))) s5 s6 s7)=.ok (.pers (.int t)):=fun s5 s6 s7=>by
  rw [zB (x:=.pers (.lst ((V.map fun _=>t).map .int))) (y:=.pers (.int 0)) rfl rfl]
  exact xF h0
 have c3:fOr (fTrB (f2 gEq (fVar 4) (fLst (hNil)))) (fOr (fTrB (f2 gEq (f2 gIx (fVar 4) (fC (.int 0))) (fC (.int 0)))) (fTrB (f2 gNe (fVar 4) (yy [4] 1 (fItL (fVar 4)) (gN 1) (fYes) (zaX))))) (BE o z n V (.pers (.lst ((V.map fun _=>t).map .int))) .un .un .un)=.ok false:=by
  have a1:fTrB (f2 gEq (fVar 4) (fLst (hNil))) (BE o z n V (.pers (.lst ((V.map fun _=>t).map .int))) .un .un .un)=.ok false:=by
   refine yk ?_
   rw [zB (x:=.pers (.lst ((V.map fun _=>t).map .int))) (y:=.fresh []) rfl rfl]
   show (if (shal 4 (.lst ((V.map fun _=>t).map .int)) || true)=true then Out.ok (Val.pers (.bl (eqD (.lst ((V.map fun _=>t).map .int)) (.lst [])))) else .bad)=_
   rw [Bool.or_true,if_pos rfl,u7,←hV]
   rw [List.map_cons,List.map_cons,zaV]
  have a2:fTrB (f2 gEq (f2 gIx (fVar 4) (fC (.int 0))) (fC (.int 0))) (BE o z n V (.pers (.lst ((V.map fun _=>t).map .int))) .un .un .un)=.ok false:=by
   refine yk ?_
   rw [zB (x0 _ _ _) (y:=.pers (.int 0)) rfl]
   show Out.ok (Val.pers (.bl (t == 0)))=_
   rw [beq_eq_false_iff_ne.mpr (by lia)]
  have a3:yy [4] 1 (fItL (fVar 4)) (gN 1) (fYes) (zaX) (BE o z n V (.pers (.lst ((V.map fun _=>t).map .int))) .un .un .un)=.ok (.fresh ((V.map fun _=>t).map .int)):=by
   have hi:fItL (fVar 4) (BE o z n V (.pers (.lst ((V.map fun _=>t).map .int))) .un .un .un)=.ok ((V.map fun _=>t).map .int):=rfl
   rw [yy,hi,zk,if_pos (by rw [List.length_map,List.length_map]; lia)]
   show ((compD (gN 1) fYes zaX ((V.map fun _=>t).map .int) [.pers (.lst ((V.map fun _=>t).map .int)),.un]).bind _)=_
   rw [yT (fun env=>∃ s1,env=[.pers (.lst ((V.map fun _=>t).map .int)),s1]) D.int (fun _=>some (.int t)) (V.map fun _=>t) [.pers (.lst ((V.map fun _=>t).map .int)),.un] ⟨_,rfl⟩ (fun g env _ ⟨s1,he⟩=>by
    subst he
    refine ⟨[.pers (.lst ((V.map fun _=>t).map .int)),.pers (.int g)],rfl,⟨_,rfl⟩,.inr ⟨_,.pers (.int t),rfl,rfl,?_,rfl⟩⟩
    rw [zaX,zB (x:=.pers (.lst ((V.map fun _=>t).map .int))) (y:=.pers (.int 0)) rfl rfl]
    exact xF h0),List.filterMap_eq_map',List.map_map]
   rw [List.map_map]
   rfl
  rw [or_f a1,or_f a2]
  refine yk ?_
  rw [zB (x:=.pers (.lst ((V.map fun _=>t).map .int))) rfl a3]
  exact zla _
 have ln:∀ s5 s6 s7,fTrB (f2 gGt (fB gLen (zm (fVar 4) (fNil))) (fC (.int 1))) (BE o z n V (.pers (.lst ((V.map fun _=>t).map .int))) s5 s6 s7)=.ok (decide (1<V.length)):=fun s5 s6 s7=>by
  show Out.ok (decide ((1:Int)<(((V.map fun _=>t).map D.int).length:Int)))=_
  rw [List.length_map,List.length_map]
  congr 1
  exact decide_eq_decide.mpr (by lia)
 unfold zaB
 show ((zbN (BE o z n V .un .un .un .un)).bind _)=_
 have hf:zbN (BE o z n V .un .un .un .un)=.ok (.ret (.pers (.bl true))):=by
  unfold zbN
  rw [zj (env':=BE o z n V (.pers (.lst ((V.map fun _=>t).map .int))) .un .un .un) (by
   rw [setS,hc]
   rfl),zj (env':=BE o z n V (.pers (.lst ((V.map fun _=>t).map .int))) .un .un .un) (by rw [zhP,if_f c3]; rfl)]
  rw [zj (env':=BE o z n V (.pers (.lst ((V.map fun _=>t).map .int))) (.pers (.int (tn o z n))) .un .un) (by
   rw [setS]
   show (((zbv [zf o,zf z,zf n]).bind _).bind _)=_
   rw [zku h1 h2]
   rfl)]
  have c4:fTrB (f2 gNe (fVar 5) (fC (.int 0))) (BE o z n V (.pers (.lst ((V.map fun _=>t).map .int))) (.pers (.int (tn o z n))) .un .un)=.ok (!(tn o z n == 0)):=rfl
  by_cases q:tn o z n=0
  ·rw [beq_iff_eq.mpr q] at c4
   have bk:=back q
   have ev:(z.1 - o.1)*(n.1 - z.1)+(z.2 - o.2)*(n.2 - z.2)<0:=bk
   rw [zj (env':=BE o z n V (.pers (.lst ((V.map fun _=>t).map .int))) (.pers (.int (tn o z n))) .un .un) (by rw [zen,if_f c4]; rfl)]
   rw [zj (env':=BE o z n V (.pers (.lst ((V.map fun _=>t).map .int))) (.pers (.int (tn o z n))) (.pers (.int ((z.1 - o.1)*(n.1 - z.1)))) .un) (by
    rw [setS,zB (x:=.pers (.int (z.1 - o.1))) (y:=.pers (.int (n.1 - z.1))) rfl rfl]
    show ((gMul (.int (z.1 - o.1)) (.int (n.1 - z.1))).bind _)=_
    rw [xb (za2 h1.1 h1.2)]
    rfl)]
   have c5:fTrB (f2 gGe (f2 gAdd (fVar 6) (f2 gMul (f2 gSub (f2 gIx (fVar 1) (fC (.int 1))) (f2 gIx (fVar 0) (fC (.int 1)))) (f2 gSub (f2 gIx (fVar 2) (fC (.int 1))) (f2 gIx (fVar 1) (fC (.int 1)))))) (fC (.int 0))) (BE o z n V (.pers (.lst ((V.map fun _=>t).map .int))) (.pers (.int (tn o z n))) (.pers (.int ((z.1 - o.1)*(n.1 - z.1)))) .un)=.ok false:=by
    refine yk ?_
    rw [zB (x:=.pers (.int ((z.1 - o.1)*(n.1 - z.1)+(z.2 - o.2)*(n.2 - z.2)))) (y:=.pers (.int 0)) (by
     rw [zB (x:=.pers (.int ((z.1 - o.1)*(n.1 - z.1)))) (y:=.pers (.int ((z.2 - o.2)*(n.2 - z.2)))) rfl (by
      rw [zB (x:=.pers (.int (z.2 - o.2))) (y:=.pers (.int (n.2 - z.2))) rfl rfl]
      exact xb (za2 h3.1 h3.2))]
     rfl) rfl]
    show Out.ok (Val.pers (.bl (decide (0≤(z.1 - o.1)*(n.1 - z.1)+(z.2 - o.2)*(n.2 - z.2)))))=_
    rw [decide_eq_false (by lia)]
   rw [zj (env':=BE o z n V (.pers (.lst ((V.map fun _=>t).map .int))) (.pers (.int (tn o z n))) (.pers (.int ((z.1 - o.1)*(n.1 - z.1)))) .un) (by rw [zhN,if_f c5]; rfl)]
   have c6:=ln (.pers (.int (tn o z n))) (.pers (.int ((z.1 - o.1)*(n.1 - z.1)))) .un
   by_cases l1:1<V.length
   ·rw [decide_eq_true l1] at c6
    refine yB ?_
    rw [zel,if_t c6]
    rfl
   ·rw [decide_eq_false l1] at c6
    rw [zj (env':=BE o z n V (.pers (.lst ((V.map fun _=>t).map .int))) (.pers (.int (tn o z n))) (.pers (.int ((z.1 - o.1)*(n.1 - z.1)))) .un) (by rw [zel,if_f c6]; rfl)]
    rw [zj (env':=BE o z n V (.pers (.lst ((V.map fun _=>t).map .int))) (.pers (.int (tn o z n))) (.pers (.int ((z.1 - o.1)*(n.1 - z.1)))) (.pers (.int (o.2 - z.2)))) rfl]
    obtain ⟨ox,ov⟩:o.1=z.1∧(if g0.lo=some z.2 then 0<z.2 - o.2 else 0<o.2 - z.2):=by
     rcases one (by lia) with k | ⟨_,k2,k3⟩
     ·rw [q,Int.zero_mul] at k
      lia
     ·exact ⟨k2,k3 g0 (by rw [←hV]; simp)⟩
    have e0:f2 gIx (f2 gIx (fVar 3) (fC (.int 0))) (fC (.int 1)) (BE o z n V (.pers (.lst ((V.map fun _=>t).map .int))) (.pers (.int (tn o z n))) (.pers (.int ((z.1 - o.1)*(n.1 - z.1)))) (.pers (.int (o.2 - z.2))))=.ok (.pers (optD g0.lo)):=by
     have e3:f2 gIx (fVar 3) (fC (.int 0)) (BE o z n V (.pers (.lst ((V.map fun _=>t).map .int))) (.pers (.int (tn o z n))) (.pers (.int ((z.1 - o.1)*(n.1 - z.1)))) (.pers (.int (o.2 - z.2))))=.ok (.pers (zi g0)):=by
      rw [zB (x:=.pers (.lst (V.map zi))) (y:=.pers (.int 0)) rfl rfl]
      refine xF ?_
      rw [←hV]
      exact znf _ _
     rw [zB e3 (y:=.pers (.int 1)) rfl]
     rfl
    have c7:fTrB (f2 gEq (f2 gIx (f2 gIx (fVar 3) (fC (.int 0))) (fC (.int 1))) (f2 gIx (fVar 1) (fC (.int 1)))) (BE o z n V (.pers (.lst ((V.map fun _=>t).map .int))) (.pers (.int (tn o z n))) (.pers (.int ((z.1 - o.1)*(n.1 - z.1)))) (.pers (.int (o.2 - z.2))))=.ok (decide (g0.lo=some z.2)):=yk (by
     rw [zB e0 (y:=.pers (.int z.2)) rfl]
     exact u0 _ _)
    have fin:∀ v:Int,0<v→retS (zcs (f2 gEq (f2 gIx (fVar 0) (fC (.int 0))) (f2 gIx (fVar 1) (fC (.int 0)))) (f2 gGt (fVar 7) (fC (.int 0)))) (BE o z n V (.pers (.lst ((V.map fun _=>t).map .int))) (.pers (.int (tn o z n))) (.pers (.int ((z.1 - o.1)*(n.1 - z.1)))) (.pers (.int v)))=.ok (.ret (.pers (.bl true))):=fun v hv=>by
     have e1:f2 gEq (f2 gIx (fVar 0) (fC (.int 0))) (f2 gIx (fVar 1) (fC (.int 0))) (BE o z n V (.pers (.lst ((V.map fun _=>t).map .int))) (.pers (.int (tn o z n))) (.pers (.int ((z.1 - o.1)*(n.1 - z.1)))) (.pers (.int v)))=.ok (.pers (.bl true)):=by
      show Out.ok (Val.pers (.bl (o.1 == z.1)))=_
      rw [beq_iff_eq.mpr ox]
     have e2:f2 gGt (fVar 7) (fC (.int 0)) (BE o z n V (.pers (.lst ((V.map fun _=>t).map .int))) (.pers (.int (tn o z n))) (.pers (.int ((z.1 - o.1)*(n.1 - z.1)))) (.pers (.int v)))=.ok (.pers (.bl true)):=by
      show Out.ok (Val.pers (.bl (decide (0<v))))=_
      rw [decide_eq_true hv]
     rw [retS,zcs,e1,zk]
     show ((f2 gGt (fVar 7) (fC (.int 0)) (BE o z n V (.pers (.lst ((V.map fun _=>t).map .int))) (.pers (.int (tn o z n))) (.pers (.int ((z.1 - o.1)*(n.1 - z.1)))) (.pers (.int v)))).bind _)=_
     rw [e2]
     rfl
    by_cases lo:g0.lo=some z.2
    ·rw [decide_eq_true lo] at c7
     rw [if_pos lo] at ov
     rw [zj (env':=BE o z n V (.pers (.lst ((V.map fun _=>t).map .int))) (.pers (.int (tn o z n))) (.pers (.int ((z.1 - o.1)*(n.1 - z.1)))) (.pers (.int (0 - (o.2 - z.2))))) (by rw [zek,if_t c7]; rfl)]
     exact fin _ (by lia)
    ·rw [decide_eq_false lo] at c7
     rw [if_neg lo] at ov
     rw [zj (env':=BE o z n V (.pers (.lst ((V.map fun _=>t).map .int))) (.pers (.int (tn o z n))) (.pers (.int ((z.1 - o.1)*(n.1 - z.1)))) (.pers (.int (o.2 - z.2)))) (by rw [zek,if_f c7]; rfl)]
     exact fin _ ov
  ·rw [beq_eq_false_iff_ne.mpr q] at c4
   refine yB ?_
   rw [zen,if_t c4]
   have l0:f2 gGt (fB gLen (zm (fVar 4) (fNil))) (fC (.int 1)) (BE o z n V (.pers (.lst ((V.map fun _=>t).map .int))) (.pers (.int (tn o z n))) .un .un)=.ok (.pers (.bl (decide (1<V.length)))):=by
    show Out.ok (Val.pers (.bl (decide ((1:Int)<(((V.map fun _=>t).map D.int).length:Int)))))=_
    rw [List.length_map,List.length_map]
    congr 3
    exact decide_eq_decide.mpr (by lia)
   rw [retS,fOrV,l0,zk]
   by_cases l1:1<V.length
   ·rw [decide_eq_true l1]
    rfl
   ·rw [decide_eq_false l1]
    have pos:0<tn o z n*t:=by
     rcases one (by lia) with k | ⟨k,_⟩
     ·exact k
     ·exact absurd k q
    have m1:f2 gGt (f2 gMul (fVar 5) (f2 gIx (fVar 4) (fC (.int 0)))) (fC (.int 0)) (BE o z n V (.pers (.lst ((V.map fun _=>t).map .int))) (.pers (.int (tn o z n))) .un .un)=.ok (.pers (.bl true)):=by
     rw [zB (x:=.pers (.int (tn o z n*t))) (y:=.pers (.int 0)) (by
      rw [zB (x:=.pers (.int (tn o z n))) rfl (x0 _ _ _)]
      exact xb (xD (by lia) (by lia))) rfl]
     show Out.ok (Val.pers (.bl (decide (0<tn o z n*t))))=_
     rw [decide_eq_true pos]
    show ((f2 gGt (f2 gMul (fVar 5) (f2 gIx (fVar 4) (fC (.int 0)))) (fC (.int 0)) (BE o z n V (.pers (.lst ((V.map fun _=>t).map .int))) (.pers (.int (tn o z n))) .un .un)).bind _)=_
    rw [m1]
    rfl
 rw [hf]
 rfl
theorem zlQ:∀ Q:List (Gate×Plc),tY ((Q.map (·.1)).map zi) ((Q.map (·.2)).map plcD)=Q.map fun q=>.tup [zi q.1,plcD q.2]
 | []=>rfl
 | q::Q=>by
   have:=zlQ Q
   simp only [List.map_cons,tY,this]
theorem zkQ (Q:List (Gate×Plc)) (j:Int):compD (gT [1,2]) zb1 zeF (Q.map fun q=>.tup [zi q.1,plcD q.2]) [.pers (.int j),.un,.un]=.ok ((atJ Q j).map zi):=by
 rw [yT (fun env=>∃ s1 s2,env=[.pers (.int j),s1,s2]) (fun q:Gate×Plc=>D.tup [zi q.1,plcD q.2]) (fun q=>if (decide (q.2.1=j)&&decide (q.2.2.1=0))=true then some (zi q.1) else none) Q [.pers (.int j),.un,.un] ⟨_,_,rfl⟩ (fun q env _ ⟨s1,s2,he⟩=>by
  subst he
  refine ⟨[.pers (.int j),.pers (zi q.1),.pers (plcD q.2)],rfl,⟨_,_,rfl⟩,?_⟩
  have c:zb1 [.pers (.int j),.pers (zi q.1),.pers (plcD q.2)]=.ok (decide (q.2.1=j)&&decide (q.2.2.1=0)):=by
   refine yk ?_
   have e1:fSl (fVar 2) (fNo) (fSo (fC (.int 2))) [.pers (.int j),.pers (zi q.1),.pers (plcD q.2)]=.ok (.pers (zf (q.2.1,q.2.2.1))):=rfl
   rw [zB e1 (y:=.pers (zf (j,0))) rfl]
   show (if (shal 4 (zf (q.2.1,q.2.2.1)) || shal 4 (zf (j,0)))=true then Out.ok (Val.pers (.bl (eqD (zf (q.2.1,q.2.2.1)) (zf (j,0))))) else .bad)=_
   rw [wm,Bool.true_or,if_pos rfl,zaT]
   congr 3
   rw [Bool.eq_iff_iff,Bool.and_eq_true,decide_eq_true_eq,decide_eq_true_eq,decide_eq_true_eq]
   exact ⟨fun h=>⟨congrArg Prod.fst h,congrArg Prod.snd h⟩,fun h=>Prod.ext h.1 h.2⟩
  cases h:(decide (q.2.1=j)&&decide (q.2.2.1=0)) with
  | true=>exact .inr ⟨zi q.1,.pers (zi q.1),by simp,by rw [c,h],rfl,rfl⟩
  | false=>exact .inl ⟨by simp,by rw [c,h]⟩),x9 (fun q:Gate×Plc=>decide (q.2.1=j)&&decide (q.2.2.1=0)) (fun q=>zi q.1)]
 unfold atJ
 rw [List.map_map]
 rfl
theorem zgI {P:List Spot} (F:Fit P) {Q:List (Gate×Plc)} (h:Chn P (0,0,0) Q) (hl:Q.length≤40000) (hP:2≤P.length) (hb:zeY P (atJ Q) 0):tR [.lst (P.map zf),.lst ((Q.map (·.1)).map zi)]=.ok (.pers (.bl true)):=by
 generalize hrow:Q.map (·.1)=row at *
 have hp:=zg8 h hl
 rw [hrow] at hp
 have step:∀ j:Nat,1≤j→j+1<P.length→∀ s4,zcH [.pers (.lst (P.map zf)),.pers (.lst (row.map zi)),.pers (.lst ((Q.map (·.2)).map plcD)),.pers (.int j),s4]=.ok (.next [.pers (.lst (P.map zf)),.pers (.lst (row.map zi)),.pers (.lst ((Q.map (·.2)).map plcD)),.pers (.int j),.pers (.lst ((atJ Q j).map zi))]):=by
  intro j j1 j2 s4
  have a1:P[j - 1]?=some P[j - 1]:=List.getElem?_eq_getElem (by lia)
  have a2:P[j]?=some P[j]:=List.getElem?_eq_getElem (by lia)
  have a3:P[j+1]?=some P[j+1]:=List.getElem?_eq_getElem (by lia)
  generalize P[j - 1]=o at a1
  generalize P[j]=z at a2
  generalize P[j+1]=n at a3
  have B:=hb j (by lia) o z n a1 a2 a3
  have n1:=F.near a1 a2
  have n2:=F.near a2 a3
  have al:(atJ Q j).length≤50000:=by
   unfold atJ
   rw [List.length_map]
   have:=List.length_filter_le (fun q:Gate×Plc=>decide (q.2.1=(j:Int))&&decide (q.2.2.1=0)) Q
   lia
  have bi:=zlJ B n1.1 n2.1 n1.2 al
  rw [zcH,zj (env':=[.pers (.lst (P.map zf)),.pers (.lst (row.map zi)),.pers (.lst ((Q.map (·.2)).map plcD)),.pers (.int j),.pers (.lst ((atJ Q j).map zi))]) (by
   have hz:zlv (fVar 1) (fVar 2) [.pers (.lst (P.map zf)),.pers (.lst (row.map zi)),.pers (.lst ((Q.map (·.2)).map plcD)),.pers (.int j),s4]=.ok (Q.map fun q=>.tup [zi q.1,plcD q.2]):=by
    show Out.ok (tY (row.map zi) ((Q.map (·.2)).map plcD))=_
    rw [←hrow,zlQ]
   rw [setS,yy,hz,zk,if_pos (by rw [List.length_map]; lia)]
   show (((compD (gT [1,2]) zb1 zeF (Q.map fun q=>.tup [zi q.1,plcD q.2]) [.pers (.int j),.un,.un]).bind _).bind _)=_
   rw [zkQ]
   rfl)]
  have i0:f2 gIx (fVar 0) (f2 gSub (fVar 3) (fC (.int 1))) [.pers (.lst (P.map zf)),.pers (.lst (row.map zi)),.pers (.lst ((Q.map (·.2)).map plcD)),.pers (.int j),.pers (.lst ((atJ Q j).map zi))]=.ok (.pers (zf o)):=by
   rw [zB (x:=.pers (.lst (P.map zf))) (y:=.pers (.int ((j:Int) - 1))) rfl rfl]
   refine xF ?_
   rw [show (j:Int) - 1=((j - 1:Nat):Int) by lia]
   exact wC a1
  have i1:f2 gIx (fVar 0) (fVar 3) [.pers (.lst (P.map zf)),.pers (.lst (row.map zi)),.pers (.lst ((Q.map (·.2)).map plcD)),.pers (.int j),.pers (.lst ((atJ Q j).map zi))]=.ok (.pers (zf z)):=by
   rw [zB (x:=.pers (.lst (P.map zf))) (y:=.pers (.int (j:Int))) rfl rfl]
   exact xF (wC a2)
  have i2:f2 gIx (fVar 0) (f2 gAdd (fVar 3) (fC (.int 1))) [.pers (.lst (P.map zf)),.pers (.lst (row.map zi)),.pers (.lst ((Q.map (·.2)).map plcD)),.pers (.int j),.pers (.lst ((atJ Q j).map zi))]=.ok (.pers (zf n)):=by
   rw [zB (x:=.pers (.lst (P.map zf))) (y:=.pers (.int ((j:Int)+1))) rfl rfl]
   refine xF ?_
   rw [show (j:Int)+1=((j+1:Nat):Int) by lia]
   exact wC a3
  have i3:fVar 4 [.pers (.lst (P.map zf)),.pers (.lst (row.map zi)),.pers (.lst ((Q.map (·.2)).map plcD)),.pers (.int j),.pers (.lst ((atJ Q j).map zi))]=.ok (.pers (.lst ((atJ Q j).map zi))):=rfl
  have c:fNot (fTr (zM zaB (zm (f2 gIx (fVar 0) (f2 gSub (fVar 3) (fC (.int 1)))) (zm (f2 gIx (fVar 0) (fVar 3)) (zm (f2 gIx (fVar 0) (f2 gAdd (fVar 3) (fC (.int 1)))) (zm (fVar 4) (fNil))))))) [.pers (.lst (P.map zf)),.pers (.lst (row.map zi)),.pers (.lst ((Q.map (·.2)).map plcD)),.pers (.int j),.pers (.lst ((atJ Q j).map zi))]=.ok false:=by
   rw [fNot,fTr,zM,zm,i0,zk,zm,i1,zk,zm,i2,zk,zm,i3,zk,fNil]
   show ((((zaB [zf o,zf z,zf n,.lst ((atJ Q j).map zi)]).bind _).bind _).bind _)=_
   rw [bi]
   rfl
  rw [zhO,if_f c]
  rfl
 obtain ⟨env',ef,s3,s4,rfl⟩:=vy (g:=gN 3) (fb:=zcH) (fun _ env=>∃ s3 s4:Slot,env=[.pers (.lst (P.map zf)),.pers (.lst (row.map zi)),.pers (.lst ((Q.map (·.2)).map plcD)),s3,s4]) (rngD 1 (P.length - 2)) 0 [.pers (.lst (P.map zf)),.pers (.lst (row.map zi)),.pers (.lst ((Q.map (·.2)).map plcD)),.un,.un] ⟨_,_,rfl⟩ (by
  rintro i d env _ hd ⟨s3,s4,rfl⟩
  rw [Nat.sub_zero] at hd
  obtain ⟨hi,rfl⟩:=zb9 hd
  refine ⟨[.pers (.lst (P.map zf)),.pers (.lst (row.map zi)),.pers (.lst ((Q.map (·.2)).map plcD)),.pers (.int ((i+1:Nat):Int)),s4],_,?_,step (i+1) (by lia) (by lia) s4,_,_,rfl⟩
  rw [show ((1:Int)+(i:Int))=((i+1:Nat):Int) by lia]
  rfl)
 unfold tR
 show ((zdz [.pers (.lst (P.map zf)),.pers (.lst (row.map zi)),.un,.un,.un]).bind _)=_
 unfold zdz
 rw [zj (env':=[.pers (.lst (P.map zf)),.pers (.lst (row.map zi)),.pers (.lst ((Q.map (·.2)).map plcD)),.un,.un]) (by
  rw [setS]
  show (((vp [.lst (P.map zf),.lst (row.map zi)]).bind _).bind _)=_
  rw [hp]
  rfl),zj (env':=[.pers (.lst (P.map zf)),.pers (.lst (row.map zi)),.pers (.lst ((Q.map (·.2)).map plcD)),.un,.un]) (by rw [zhQ,if_f rfl]; rfl)]
 rw [zj (by
  have hr:zcq (zm (fC (.int 1)) (zm (f2 gSub (fB gLen (zm (fVar 0) (fNil))) (fC (.int 1))) (fNil))) [.pers (.lst (P.map zf)),.pers (.lst (row.map zi)),.pers (.lst ((Q.map (·.2)).map plcD)),.un,.un]=.ok (rngD 1 (P.length - 2)):=by
   have:=F.len
   show (if -1000000≤(1:Int)∧(1:Int)≤1000000 ∧ -1000000≤((P.map zf).length:Int) - 1∧((P.map zf).length:Int) - 1≤1000000 then Out.ok (rngD 1 (((P.map zf).length:Int) - 1 - 1).toNat) else .bad)=_
   rw [List.length_map,if_pos (by lia)]
   congr 2
   lia
  rw [forS,hr,zk]
  exact ef)]
 rfl
noncomputable def IE (P:List Spot) (pegs:List Spot) (s e:Spot) (s4 s5:Slot):Ev:=[.pers (.lst (P.map zf)),.pers (.lst (pegs.map zf)),.pers (zf s),.pers (zf e),s4,s5]
theorem zhV (p q:Spot):gEq (zf p) (zf q)=.ok (.pers (.bl (decide (p=q)))):=by
 show (if (shal 4 (zf p) || shal 4 (zf q))=true then Out.ok (Val.pers (.bl (eqD (zf p) (zf q)))) else .bad)=_
 rw [wm,Bool.true_or,if_pos rfl,zaT]
theorem zdj (p:Spot):gNe (zf p) (zf p)=.ok (.pers (.bl false)):=by
 show (if (shal 4 (zf p) || shal 4 (zf p))=true then Out.ok (Val.pers (.bl (!eqD (zf p) (zf p)))) else .bad)=_
 rw [wm,Bool.true_or,if_pos rfl,zaT,decide_eq_true rfl]
 rfl
theorem zdb {P pegs:List Spot} {s e:Spot} {s5:Slot}:∀ (l:List Spot) (s4:Slot),∃ t4,forD (gN 4) vG (l.map zf) (IE P pegs s e s4 s5)=.ok (.next (IE P pegs s e t4 s5))
 | [],s4=>⟨s4,rfl⟩
 | p::l,s4=>by
   obtain ⟨t4,h⟩:=zdb (P:=P) (pegs:=pegs) (s:=s) (e:=e) (s5:=s5) l (.pers (zf p))
   refine ⟨t4,?_⟩
   have hg:gN 4 (zf p) (IE P pegs s e s4 s5)=.ok (IE P pegs s e (.pers (zf p)) s5):=rfl
   have hb:vG (IE P pegs s e (.pers (zf p)) s5)=.ok (.next (IE P pegs s e (.pers (zf p)) s5)):=by
    rw [vG,zbI,if_f rfl]
    rfl
   rw [List.map_cons,forD,hg,zk,hb,zk]
   exact h
theorem zk0 {m pegs:List Spot} {s e:Spot} (hl:m.length≤50000) (hd:∀ (j:Nat) p q,(s::(m++[e]))[j]?=some p→(s::(m++[e]))[j+1]?=some q→m≠[]→p≠q) (hm:∀ p∈m,p∈pegs):yP [.lst ((s::(m++[e])).map zf),.lst (pegs.map zf),zf s,zf e]=.ok (.pers (.bl true)):=by
 generalize hP:s::(m++[e])=P at *
 have hlen:P.length=m.length+2:=by rw [←hP]; simp
 have a0:P[0]?=some s:=by rw [←hP]; rfl
 have aL:atI (P.map zf) (-1)=some (zf e):=by
  rw [zbU,List.length_map,List.getElem?_map,←List.getLast?_eq_getElem?,←hP,←List.cons_append,List.getLast?_concat]
  rfl
 obtain ⟨t4,w1⟩:=zdb (P:=P) (pegs:=pegs) (s:=s) (e:=e) (s5:=.un) P .un
 have step:∀ j:Nat,1≤j→j<P.length→vE (IE P pegs s e t4 (.pers (.int j)))=.ok (.next (IE P pegs s e t4 (.pers (.int j)))):=by
  intro j j1 j2
  have b1:P[j - 1]?=some P[j - 1]:=List.getElem?_eq_getElem (by lia)
  have b2:P[j]?=some P[j]:=List.getElem?_eq_getElem (by lia)
  generalize P[j - 1]=p at b1
  generalize P[j]=q at b2
  have t1:fTrB (f2 gEq (f2 gIx (fVar 0) (fVar 5)) (f2 gIx (fVar 0) (f2 gSub (fVar 5) (fC (.int 1))))) (IE P pegs s e t4 (.pers (.int j)))=.ok (decide (q=p)):=by
   refine yk ?_
   rw [zB (x:=.pers (zf q)) (y:=.pers (zf p)) (by
    rw [zB (x:=.pers (.lst (P.map zf))) (y:=.pers (.int (j:Int))) rfl rfl]
    exact xF (wC b2)) (by
    rw [zB (x:=.pers (.lst (P.map zf))) (y:=.pers (.int ((j:Int) - 1))) rfl rfl]
    refine xF ?_
    rw [show (j:Int) - 1=((j - 1:Nat):Int) by lia]
    exact wC b1)]
   exact zhV q p
  have c:fAnd (fTrB (f2 gEq (f2 gIx (fVar 0) (fVar 5)) (f2 gIx (fVar 0) (f2 gSub (fVar 5) (fC (.int 1)))))) (fTrB (f2 gGt (fB gLen (zm (fVar 0) (fNil))) (fC (.int 2)))) (IE P pegs s e t4 (.pers (.int j)))=.ok false:=by
   by_cases z:q=p
   ·rw [decide_eq_true z] at t1
    rw [zdW t1]
    have:m=[]:=by
     cases m with
     | nil=>rfl
     | cons x y=>exact absurd z.symm (hd (j - 1) p q b1 (by rw [Nat.sub_add_cancel j1]; exact b2) (by simp))
    show Out.ok (decide ((2:Int)<((P.map zf).length:Int)))=_
    rw [List.length_map,hlen,this,decide_eq_false (by simp)]
   ·rw [decide_eq_false z] at t1
    exact zgr t1
  rw [vE,zbG,if_f c]
  rfl
 obtain ⟨env',f2',s5,rfl⟩:=vy (g:=gN 5) (fb:=vE) (fun _ env=>∃ s5:Slot,env=IE P pegs s e t4 s5) (rngD 1 (P.length - 1)) 0 (IE P pegs s e t4 .un) ⟨_,rfl⟩ (by
  rintro i d env _ hd' ⟨s5,rfl⟩
  rw [Nat.sub_zero] at hd'
  obtain ⟨hi,rfl⟩:=zb9 hd'
  refine ⟨IE P pegs s e t4 (.pers (.int ((i+1:Nat):Int))),_,?_,step (i+1) (by lia) (by lia),_,rfl⟩
  rw [show ((1:Int)+(i:Int))=((i+1:Nat):Int) by lia]
  rfl)
 unfold yP
 show ((va (IE P pegs s e .un .un)).bind _)=_
 unfold va
 rw [zj (env':=IE P pegs s e .un .un) (by
  have c:fOr (fNot (fTr (f1 (gIsi "list") (fVar 0)))) (fTrB (f2 gLt (fB gLen (zm (fVar 0) (fNil))) (fC (.int 2)))) (IE P pegs s e .un .un)=.ok false:=by
   have t1:fNot (fTr (f1 (gIsi "list") (fVar 0))) (IE P pegs s e .un .un)=.ok false:=rfl
   rw [or_f t1]
   show Out.ok (decide (((P.map zf).length:Int)<2))=_
   rw [List.length_map,hlen,decide_eq_false (by lia)]
  rw [zbK,if_f c]
  rfl)]
 rw [zj (by
  have hi:fItL (fVar 0) (IE P pegs s e .un .un)=.ok (P.map zf):=rfl
  rw [forS,hi,zk]
  exact w1)]
 rw [zj (by
  have hr:zcq (zm (fC (.int 1)) (zm (fB gLen (zm (fVar 0) (fNil))) (fNil))) (IE P pegs s e t4 .un)=.ok (rngD 1 (P.length - 1)):=by
   rw [zkH (i:=1) (j:=(P.length:Int)) (by
    have v:fB gLen (zm (fVar 0) (fNil)) (IE P pegs s e t4 .un)=.ok (.pers (.int (P.length:Int))):=by
     show Out.ok (Val.pers (.int ((P.map zf).length:Int)))=_
     rw [List.length_map]
    have v1:fC (.int 1) (IE P pegs s e t4 .un)=.ok (.pers (.int 1)):=rfl
    rw [zm,v1,zk,zm,v,zk]
    rfl) (by lia)]
   congr 2
   lia
  rw [forS,hr,zk]
  exact f2')]
 rw [zj (env':=IE P pegs s e t4 s5) (by
  have c:fOr (fTrB (f2 gNe (f2 gIx (fVar 0) (fC (.int 0))) (fVar 2))) (fTrB (f2 gNe (f2 gIx (fVar 0) (f1 gNeg (fC (.int 1)))) (fVar 3))) (IE P pegs s e t4 s5)=.ok false:=by
   have t1:fTrB (f2 gNe (f2 gIx (fVar 0) (fC (.int 0))) (fVar 2)) (IE P pegs s e t4 s5)=.ok false:=by
    refine yk ?_
    rw [zB (x:=.pers (zf s)) (y:=.pers (zf s)) (by
     rw [zB (x:=.pers (.lst (P.map zf))) (y:=.pers (.int 0)) rfl rfl]
     exact xF (wC (k:=0) a0)) rfl]
    exact zdj s
   rw [or_f t1]
   refine yk ?_
   rw [zB (x:=.pers (zf e)) (y:=.pers (zf e)) (by
    rw [zB (x:=.pers (.lst (P.map zf))) (y:=.pers (.int (-1))) rfl rfl]
    exact xF aL) rfl]
   exact zdj e
  rw [zbF,if_f c]
  rfl)]
 have hc:yy [1] 1 (fItL (fSl (fVar 0) (fSo (fC (.int 1))) (fSo (f1 gNeg (fC (.int 1)))))) (gN 1) (uP) (u9) (IE P pegs s e t4 s5)=.ok (.fresh []):=by
  have hi:fItL (fSl (fVar 0) (fSo (fC (.int 1))) (fSo (f1 gNeg (fC (.int 1))))) (IE P pegs s e t4 s5)=.ok (m.map zf):=by
   show Out.ok (cutD (P.map zf) (some 1) (some (-1)))=_
   rw [←hP,zia]
  rw [yy,hi,zk,if_pos (by rw [List.length_map]; lia)]
  show ((compD (gN 1) uP u9 (m.map zf) [.pers (.lst (pegs.map zf)),.un]).bind _)=_
  rw [yT (fun env=>∃ s1,env=[.pers (.lst (pegs.map zf)),s1]) zf (fun _=>none) m [.pers (.lst (pegs.map zf)),.un] ⟨_,rfl⟩ (fun p env hpm ⟨s1,he⟩=>by
   subst he
   refine ⟨[.pers (.lst (pegs.map zf)),.pers (zf p)],rfl,⟨_,rfl⟩,.inl ⟨rfl,?_⟩⟩
   refine yk ?_
   rw [zB (x:=.pers (zf p)) (y:=.pers (.lst (pegs.map zf))) rfl rfl]
   show (if shal 4 (zf p)=true then Out.ok (Val.pers (.bl (!(pegs.map zf).any fun z=>eqD z (zf p)))) else .bad)=_
   rw [if_pos (wm 3 p),zcM,decide_eq_true (hm p hpm)]
   rfl)]
  have:m.filterMap (fun _=>(none:Option D))=[]:=List.filterMap_eq_nil_iff.mpr fun _ _=>rfl
  rw [this]
  rfl
 rw [retS,zB hc (y:=.fresh []) rfl]
 rfl
theorem zds:∀ (l:List Spot) (o p:Spot),p∈xf (o::l)→p∈l.dropLast
 | [],_,_,h=>by simp [xf] at h
 | [_],_,_,h=>by simp [xf] at h
 | m::n::r,o,p,h=>by
   rw [xf] at h
   rw [List.dropLast_cons_cons]
   rcases List.mem_append.mp h with h | h
   ·split at h
    ·simp at h
    ·rw [List.mem_singleton.mp h]
     exact List.mem_cons_self
   ·exact List.mem_cons_of_mem _ (zds (n::r) m p h)
theorem zea {s e:Spot} {row:List Gate} {out:List Spot} (ok:PullOk s e row) (h:zcO s (xu row) e out):∃ m,out=s::(m++[e])∧∀ p∈m,PegOf row p:=by
 obtain ⟨T,tt,rfl⟩:=h
 obtain ⟨m0,rfl,hp⟩:=zaE (xu row) s e T (zap _ (zaf row ok.walk)) tt
 rw [uh] at hp
 have n1:∀ p∈m0,p≠s:=fun p k q=>by
  obtain ⟨g,hg,w,_⟩:=hp p k
  exact ok.sx g hg (by rw [←w,q])
 have n2:∀ p∈m0,p≠e:=fun p k q=>by
  obtain ⟨g,hg,w,_⟩:=hp p k
  exact ok.ex g hg (by rw [←w,q])
 refine ⟨_,rfl,fun p hm => ?_⟩
 rw [←zgu n1 n2] at hm
 have:=zds _ _ _ hm
 rw [List.dropLast_concat] at this
 exact hp p (zcV this)
theorem ze5:∀ (L:List Itm) (p:Spot) (need:Spot→Prop),AOk p need L→∀ (j:Nat) a b,(p::y9 L)[j]?=some a→(p::y9 L)[j+1]?=some b→a≠b
 | [],_,_,h,_,_,_,_,_=>h.elim
 | (E,z,V)::L,p,need,h,j,a,b,ha,hb=>by
   have he:EdgeOk p E z V:=by
    cases L with
    | nil=>exact h.1
    | cons i r=>exact h.1
   cases j with
   | zero =>
     have e1:p=a:=by simpa using ha
     have e2:z=b:=by simpa [y9] using hb
     rw [←e1,←e2]
     exact he.ne
   | succ j =>
     cases L with
     | nil =>
       have:(p::y9 [(E,z,V)])[j+1+1]?=none:=List.getElem?_eq_none (by simp [y9])
       rw [this] at hb
       cases hb
     | cons i r=>exact ze5 (i::r) z _ h.2.2 j a b ha hb
theorem zle {s e:Spot} {row:List Gate} {pegs:List Spot} (ok:PullOk s e row) (gk:∀ g∈row,GateOk g∧(g.w=1∨g.w = -1)) (hs:row≠[]→0<(vR row).w*((vR row).x - s.1)) (he:row≠[]→0<(zH row).w*(e.1 - (zH row).x)) (hpg:∀ p,PegOf row p→p∈pegs) :
 ∃ out:List Spot,xa [zf s,.lst (row.map zi),zf e]=.ok (.fresh (out.map zf))∧yP [.lst (out.map zf),.lst (pegs.map zf),zf s,zf e]=.ok (.pers (.bl true))∧tR [.lst (out.map zf),.lst (row.map zi)]=.ok (.pers (.bl true)):=by
 obtain ⟨out,P,hlen,ep⟩:=zg4 ok
 obtain ⟨m,em,hm⟩:=zea ok P
 refine ⟨out,ep,?_,?_⟩
 ·rw [em] at hlen ⊢
  simp only [List.length_cons,List.length_append,List.length_nil] at hlen
  refine zk0 (by lia) (fun j p q h1 h2 hne => ?_) (fun p k=>hpg p (hm p k))
  have rn:row≠[]:=fun z=>by
   subst z
   cases m with
   | nil=>exact hne rfl
   | cons x y =>
     obtain ⟨g,hg,_⟩:=hm x (by simp)
     simp at hg
  obtain ⟨L,A,eL,_⟩:=zc7 rn ok.walk gk (hs rn) (he rn) P
  rw [←em,eL] at h1 h2
  exact ze5 L s _ A j p q h1 h2
 ·have F:Fit out:=by
   obtain ⟨c,hc⟩:=ok.hh
   have hin:∀ p∈out,p=s∨p=e∨PegOf row p:=fun p k=>by
    rw [em] at k
    rcases List.mem_cons.mp k with k | k
    ·exact .inl k
    ·rcases List.mem_append.mp k with k | k
     ·exact .inr (.inr (hm p k))
     ·exact .inr (.inl (List.mem_singleton.mp k))
   refine ⟨by lia,fun p k => ?_,c,fun p k=>hc p (hin p k)⟩
   rcases hin p k with rfl | rfl | ⟨g,hg,w,_⟩
   ·exact ok.bs
   ·exact ok.be
   ·rw [w]; exact ok.bg g hg
  have h2:2≤out.length:=by rw [em]; simp
  by_cases rn:row=[]
  ·subst rn
   have mn:m=[]:=by
    cases m with
    | nil=>rfl
    | cons x y =>
      obtain ⟨g,hg,_⟩:=hm x (by simp)
      simp at hg
   refine zgI (Q:=[]) F trivial (by simp) h2 (fun j hj o z n _ _ h3 => ?_)
   exfalso
   have:=(List.getElem?_eq_some_iff.mp h3).1
   rw [em,mn] at this
   simp at this
   lia
  ·obtain ⟨L,A,eL,gL⟩:=zc7 rn ok.walk gk (hs rn) (he rn) P
   obtain ⟨Q,q1,q2,_,q4⟩:=zjU F L 0 s _ A (by rw [List.drop_zero]; exact eL)
   have:=zgI F q2 (by
    have:=congrArg List.length q1
    rw [List.length_map,gL] at this
    have:=ok.len
    lia) h2 q4
   rw [q1,gL] at this
   exact this
noncomputable def SpotA (B:List (Int×List Int)) (a:Int) (p:Spot):Prop:=(-1≤p.1∧p.1≤8)∧(-1≤p.2∧p.2≤9)∧∀ (i:Nat) l,B[i]?=some l→((i:Int)<a→l.1<p.1)∧(a≤i→p.1<l.1)
theorem ze6 {B:List (Int×List Int)} {a n:Int} (up:B.Pairwise fun a b=>a.1<b.1) (hx:∀ l∈B,∃ i:Int,l.1=2*i∧0≤i∧i≤3) (h0:0≤a) (h1:a≤B.length):∃ p:Spot,SpotA B a p∧wL [.lst (B.map zC),.int a,.int n]=.ok (.pers (zf p)):=by
 unfold wL
 have go:∀ v,tW [.pers (.lst (B.map zC)),.pers (.int a),.pers (.int n)]=.ok (.ret v)→runD 3 tW [.lst (B.map zC),.int a,.int n]=.ok v:=fun v h=>by
  show ((tW [.pers (.lst (B.map zC)),.pers (.int a),.pers (.int n)]).bind _)=_
  rw [h]
  rfl
 have hy : -1≤n%11 - 1∧n%11 - 1≤9:=by lia
 by_cases hB:B=[]
 ·subst hB
  refine ⟨(n%9,n / 9%11 - 1),⟨by show -1≤n%9∧n%9≤8; lia,by show -1≤n / 9%11 - 1∧n / 9%11 - 1≤9; lia,fun i l hl=>by simp at hl⟩,go _ ?_⟩
  exact yB rfl
 ·have c0:fTrB (f2 gEq (fVar 0) (fLst (hNil))) [.pers (.lst (B.map zC)),.pers (.int a),.pers (.int n)]=.ok false:=by
   rw [fTrB,zB (x:=.pers (.lst (B.map zC))) (y:=.fresh []) rfl rfl]
   show ((if (shal 4 (.lst (B.map zC)) || true)=true then Out.ok (Val.pers (.bl (eqD (.lst (B.map zC)) (.lst [])))) else .bad).bind _)=_
   rw [Bool.or_true,if_pos rfl,u7]
   cases B with
   | nil=>exact absurd rfl hB
   | cons l B=>rw [List.map_cons,zaV]; rfl
  have hn:zes [.pers (.lst (B.map zC)),.pers (.int a),.pers (.int n)]=.ok (.next [.pers (.lst (B.map zC)),.pers (.int a),.pers (.int n)]):=by
   rw [zes,if_f c0]
   rfl
  have c1:fTrB (f2 gLt (fVar 1) (fB gLen (zm (fVar 0) (fNil)))) [.pers (.lst (B.map zC)),.pers (.int a),.pers (.int n)]=.ok (decide (a<B.length)):=by
   show Out.ok (decide (a<((B.map zC).length:Int)))=_
   rw [List.length_map]
  by_cases z:a<B.length
  ·rw [decide_eq_true z] at c1
   obtain ⟨k,hk,rfl⟩:∃ k:Nat,k<B.length∧a=k:=⟨a.toNat,by lia,by lia⟩
   obtain ⟨i,ei,i0,i3⟩:=hx B[k] (List.getElem_mem hk)
   have ek:B[k]?=some B[k]:=List.getElem?_eq_getElem hk
   refine ⟨(B[k].1 - 1,n%11 - 1),⟨by show -1≤B[k].1 - 1∧B[k].1 - 1≤8; lia,hy,fun j l hl => ?_⟩,go _ ?_⟩
   ·obtain ⟨j',ej,_⟩:=hx l (List.mem_of_getElem? hl)
    refine ⟨fun h => ?_,fun h => ?_⟩
    ·have:=zav up hl ek (by lia)
     show l.1<B[k].1 - 1
     lia
    ·show B[k].1 - 1<l.1
     rcases Nat.lt_or_eq_of_le (show k≤j by lia) with q | q
     ·have:=zav up ek hl q
      lia
     ·subst q
      rw [ek] at hl
      cases hl
      lia
   unfold tW
   rw [zj hn]
   refine yB ?_
   have hl:f2 gIx (fVar 0) (fVar 1) [.pers (.lst (B.map zC)),.pers (.int k),.pers (.int n)]=.ok (.pers (zC B[k])):=by
    rw [zB (x:=.pers (.lst (B.map zC))) (y:=.pers (.int k)) rfl rfl]
    refine xF ?_
    rw [vi (by rw [List.length_map]; exact hk),List.getElem_map]
   have hxx:f2 gSub (f2 gIx (f2 gIx (fVar 0) (fVar 1)) (fC (.int 0))) (fC (.int 1)) [.pers (.lst (B.map zC)),.pers (.int k),.pers (.int n)]=.ok (.pers (.int (B[k].1 - 1))):=by
    rw [zB (x:=.pers (.int B[k].1)) (y:=.pers (.int 1)) (by
     rw [zB hl (y:=.pers (.int 0)) rfl]
     rfl) rfl]
    rfl
   have hyy:f2 gSub (f2 gMod (fVar 2) (fC (.int 11))) (fC (.int 1)) [.pers (.lst (B.map zC)),.pers (.int k),.pers (.int n)]=.ok (.pers (.int (n%11 - 1))):=rfl
   rw [zep,if_t c1]
   simp only [retS,fTup,zz,hNil,hxx,hyy,zk,Val.hold]
   rfl
  ·rw [decide_eq_false z] at c1
   have hlast:atI (B.map zC) (-1)=some (zC (B.getLast hB)):=by
    rw [zbU,List.length_map,List.getElem?_map,←List.getLast?_eq_getElem?,List.getLast?_eq_some_getLast hB]
    rfl
   obtain ⟨i,ei,i0,i3⟩:=hx (B.getLast hB) (List.getLast_mem hB)
   have eL:B[B.length - 1]?=some (B.getLast hB):=by rw [←List.getLast?_eq_getElem?,List.getLast?_eq_some_getLast hB]
   refine ⟨((B.getLast hB).1+1,n%11 - 1),⟨by show -1≤(B.getLast hB).1+1∧(B.getLast hB).1+1≤8; lia,hy,fun j l hl => ?_⟩,go _ ?_⟩
   ·have hj:=(List.getElem?_eq_some_iff.mp hl).1
    refine ⟨fun h => ?_,fun h => ?_⟩
    ·show l.1<(B.getLast hB).1+1
     rcases Nat.lt_or_eq_of_le (show j≤B.length - 1 by lia) with q | q
     ·have:=zav up hl eL q
      lia
     ·subst q
      rw [eL] at hl
      cases hl
      lia
    ·lia
   have hl:f2 gIx (fVar 0) (f1 gNeg (fC (.int 1))) [.pers (.lst (B.map zC)),.pers (.int a),.pers (.int n)]=.ok (.pers (zC (B.getLast hB))):=by
    rw [zB (x:=.pers (.lst (B.map zC))) (y:=.pers (.int (-1))) rfl rfl]
    exact xF hlast
   have hxx:f2 gAdd (f2 gIx (f2 gIx (fVar 0) (f1 gNeg (fC (.int 1)))) (fC (.int 0))) (fC (.int 1)) [.pers (.lst (B.map zC)),.pers (.int a),.pers (.int n)]=.ok (.pers (.int ((B.getLast hB).1+1))):=by
    rw [zB (x:=.pers (.int (B.getLast hB).1)) (y:=.pers (.int 1)) (by
     rw [zB hl (y:=.pers (.int 0)) rfl]
     rfl) rfl]
    rfl
   have hyy:f2 gSub (f2 gMod (fVar 2) (fC (.int 11))) (fC (.int 1)) [.pers (.lst (B.map zC)),.pers (.int a),.pers (.int n)]=.ok (.pers (.int (n%11 - 1))):=rfl
   unfold tW
   rw [zj hn,zj (env':=[.pers (.lst (B.map zC)),.pers (.int a),.pers (.int n)]) (by
    rw [zep,if_f c1]
    rfl)]
   simp only [retS,fTup,zz,hNil,hxx,hyy,zk,Val.hold]
   rfl
noncomputable def scS (b:Int) (f p:Spot):Spot:=(p.1+f.1,p.2*b+f.2)
noncomputable def scG (b:Int) (f:Spot) (g:Gate):Gate:=⟨g.x+f.1,g.lo.map (fun y=>y*b+f.2),g.hi.map (fun y=>y*b+f.2),g.w⟩
noncomputable def scL (b:Int) (f:Spot) (l:Int×List Int):Int×List Int:=(l.1+f.1,l.2.map fun y=>y*b+f.2)
theorem zkE {b:Int} (hb:0<b) {y z c:Int}:y*b+c<z*b+c↔y<z:=by
 constructor
 ·intro h
  rcases Int.lt_or_le y z with q | q
  ·exact q
  ·have:=Int.mul_le_mul_of_nonneg_right q (Int.le_of_lt hb)
   lia
 ·intro h
  have:=Int.mul_lt_mul_of_pos_right h hb
  lia
theorem zfd {b:Int} (hb:0<b) (f:Spot) {B:List (Int×List Int)} (ok:BoardOk B):BoardOk (B.map (scL b f)):=by
 refine ⟨?_,fun l hl => ?_⟩
 ·rw [List.pairwise_map]
  exact ok.up.imp fun {x y} h=>by simp only [scL]; lia
 ·obtain ⟨l',k,rfl⟩:=List.mem_map.mp hl
  simp only [scL]
  rw [List.pairwise_map]
  exact (ok.hs l' k).imp fun {x y} h=>(zkE hb).mpr h
theorem sc_in {b:Int} {f:Spot} {l:Int×List Int} {g:Gate} (h:uL l g):uL (scL b f l) (scG b f g):=by
 obtain ⟨x,k,hk,lo,hi⟩:=h
 refine ⟨by simp only [scL,scG,x],k,by simp only [scL,List.length_map]; exact hk,?_,?_⟩
 ·simp only [scL,scG]
  rw [lo]
  by_cases z:k=0
  ·rw [if_pos z,if_pos z]; rfl
  ·rw [if_neg z,if_neg z,List.getElem?_map]
 ·simp only [scL,scG]
  rw [hi,List.getElem?_map]
theorem zkD {b:Int} {f:Spot} {B:List (Int×List Int)} {h:Int} {g:Gate} (s:tF B h g):tF (B.map (scL b f)) h (scG b f g):=by
 obtain ⟨l,q,i,e,k⟩:=s
 exact ⟨scL b f l,sc_in q,i,by rw [List.getElem?_map,e]; rfl,k⟩
theorem zd6 {b:Int} {f:Spot} {B:List (Int×List Int)}:∀ {gs:List Gate} {h:Int},PathB B h gs→PathB (B.map (scL b f)) h (gs.map (scG b f))
 | [],_,_=>trivial
 | _::_,_,⟨p1,p2⟩=>⟨zkD p1,zd6 p2⟩
theorem zaD {F:Int→Int} (hF:∀ x y,F x=F y→x=y):∀ {a b:Option Int},a.map F=b.map F→a=b
 | none,none,_=>rfl
 | some x,some y,h=>by simp at h; rw [hF x y h]
theorem zl8 {b:Int} (hb:0<b) {f:Spot} {g t:Gate} (h:scG b f g=negG (scG b f t)):g=negG t:=by
 have hF:∀ x y:Int,x*b+f.2=y*b+f.2→x=y:=fun x y q=>by
  have h1:=(zkE (y:=x) (z:=y) (c:=f.2) hb)
  have h2:=(zkE (y:=y) (z:=x) (c:=f.2) hb)
  lia
 obtain ⟨a1,a2,a3,a4⟩:=g
 obtain ⟨b1,b2,b3,b4⟩:=t
 simp only [scG,negG,Gate.mk.injEq] at h ⊢
 exact ⟨by lia,zaD hF h.2.1,zaD hF h.2.2.1,h.2.2.2⟩
theorem zjX {b:Int} (hb:0<b) {f:Spot}:∀ {gs:List Gate},Red gs→Red (gs.map (scG b f))
 | [],_=>trivial
 | [_],_=>trivial
 | t::g::r,⟨h1,h2⟩=>⟨fun q=>h1 (zl8 hb q),zjX hb (gs:=g::r) h2⟩
noncomputable def XE (r:D) (b:Int) (f:Spot) (acc:List Gate) (s4 s5 s6 s7:Slot):Ev:=[.pers r,.pers (.int b),.pers (zf f),.own (acc.map zi),s4,s5,s6,s7]
theorem zjZ {r:D} {b:Int} {f:Spot} (h1:0<b) (h2:b≤10^18):∀ (gs acc:List Gate) (s4 s5 s6 s7:Slot),acc.length+gs.length≤10000→∃ t4 t5 t6 t7,forD (gT [4,5,6,7]) uJ (gs.map zi) (XE r b f acc s4 s5 s6 s7)=.ok (.next (XE r b f (acc++gs.map (scG b f)) t4 t5 t6 t7))
 | [],acc,s4,s5,s6,s7,_=>⟨s4,s5,s6,s7,by rw [List.map_nil,List.map_nil,List.append_nil]; rfl⟩
 | g::gs,acc,s4,s5,s6,s7,hl=>by
   simp only [List.length_cons] at hl
   obtain ⟨t4,t5,t6,t7,e⟩:=zjZ (r:=r) (f:=f) h1 h2 gs (acc++[scG b f g]) (.pers (.int g.x)) (.pers (optD (scG b f g).lo)) (.pers (optD (scG b f g).hi)) (.pers (.int g.w)) (by simp; lia)
   refine ⟨t4,t5,t6,t7,?_⟩
   have cm:∀ j,cMul j b=true:=fun j=>xD (by lia) (by lia)
   have i1:zaQ (XE r b f acc (.pers (.int g.x)) (.pers (optD g.lo)) (.pers (optD g.hi)) (.pers (.int g.w)))=.ok (.next (XE r b f acc (.pers (.int g.x)) (.pers (optD (scG b f g).lo)) (.pers (optD g.hi)) (.pers (.int g.w)))):=by
    unfold scG
    cases q:g.lo with
    | none=>rfl
    | some y =>
      have m:f2 gMul (fVar 5) (fVar 1) (XE r b f acc (.pers (.int g.x)) (.pers (optD (some y))) (.pers (optD g.hi)) (.pers (.int g.w)))=.ok (.pers (.int (y*b))):=by
       rw [zB (x:=.pers (.int y)) (y:=.pers (.int b)) rfl rfl]
       exact xb (cm _)
      rw [zaQ,if_t rfl,setS,zB m (y:=.pers (.int f.2)) rfl]
      rfl
   have i2:∀ L:Option Int,zaM (XE r b f acc (.pers (.int g.x)) (.pers (optD L)) (.pers (optD g.hi)) (.pers (.int g.w)))=.ok (.next (XE r b f acc (.pers (.int g.x)) (.pers (optD L)) (.pers (optD (scG b f g).hi)) (.pers (.int g.w)))):=by
    intro L
    unfold scG
    cases q:g.hi with
    | none=>rfl
    | some y =>
      have m:f2 gMul (fVar 6) (fVar 1) (XE r b f acc (.pers (.int g.x)) (.pers (optD L)) (.pers (optD (some y))) (.pers (.int g.w)))=.ok (.pers (.int (y*b))):=by
       rw [zB (x:=.pers (.int y)) (y:=.pers (.int b)) rfl rfl]
       exact xb (cm _)
      rw [zaM,if_t rfl,setS,zB m (y:=.pers (.int f.2)) rfl]
      rfl
   have hb:uJ (XE r b f acc (.pers (.int g.x)) (.pers (optD g.lo)) (.pers (optD g.hi)) (.pers (.int g.w)))=.ok (.next (XE r b f (acc++[scG b f g]) (.pers (.int g.x)) (.pers (optD (scG b f g).lo)) (.pers (optD (scG b f g).hi)) (.pers (.int g.w)))):=by
    rw [uJ,zj i1,zj (i2 _)]
    show (if (acc.map zi).length<100000 then Out.ok (Res.next [.pers r,.pers (.int b),.pers (zf f),.own (acc.map zi++[zi (scG b f g)]),.pers (.int g.x),.pers (optD (scG b f g).lo),.pers (optD (scG b f g).hi),.pers (.int g.w)]) else .bad)=_
    rw [if_pos (by rw [List.length_map]; lia)]
    unfold XE
    rw [List.map_append]
    rfl
   have hg:gT [4,5,6,7] (zi g) (XE r b f acc s4 s5 s6 s7)=.ok (XE r b f acc (.pers (.int g.x)) (.pers (optD g.lo)) (.pers (optD g.hi)) (.pers (.int g.w))):=rfl
   rw [List.map_cons,forD,hg,zk,hb,zk]
   simp only [List.append_assoc,List.singleton_append] at e
   exact e
theorem zgP {gs:List Gate} {b:Int} {f:Spot} (h1:0<b) (h2:b≤10^18) (hl:gs.length≤1000):vo [.lst (gs.map zi),.int b,zf f]=.ok (.fresh ((gs.map (scG b f)).map zi)):=by
 obtain ⟨t4,t5,t6,t7,e⟩:=zjZ (r:=.lst (gs.map zi)) (f:=f) h1 h2 gs [] .un .un .un .un (by simp; lia)
 unfold vo
 show ((uv [.pers (.lst (gs.map zi)),.pers (.int b),.pers (zf f),.un,.un,.un,.un,.un]).bind _)=_
 unfold uv
 rw [zj (env':=XE (.lst (gs.map zi)) b f [] .un .un .un .un) rfl]
 rw [zj (by
  have hi:fItL (fVar 0) (XE (.lst (gs.map zi)) b f [] .un .un .un .un)=.ok (gs.map zi):=rfl
  rw [forS,hi,zk]
  exact e)]
 rfl
structure RowS (B:List (Int×List Int)) (ps:List Spot) (gs:List Gate) (st:Int) (s e:Spot):Prop where
 bok:BoardOk B
 bin:∀ l∈B,(∃ i:Int,l.1=2*i∧0≤i∧i≤3)∧∀ y∈l.2,(0≤y∧y≤12)∧(l.1,y)∈ps
 blen:B.length≤6
 path:PathB B st gs
 red:Red gs
 len:gs.length≤63
 s:SpotA B st s
 e:SpotA B (st+sumG gs) e
theorem uY {B:List (Int×List Int)} {gs:List Gate} {st:Int} (p:PathB B st gs) {g:Gate} (hg:g∈gs):∃ (i:Nat) (l:Int×List Int),B[i]?=some l∧l∈B∧g.x=l.1∧∀ y,g.lo=some y∨g.hi=some y→y∈l.2:=by
 obtain ⟨h',l,⟨gx,j,_,glo,ghi⟩,i,hi,_⟩:=zcc p hg
 refine ⟨i,l,hi,List.mem_of_getElem? hi,gx,fun y h => ?_⟩
 rcases h with h | h
 ·rw [glo] at h
  by_cases z:j=0
  ·rw [if_pos z] at h; cases h
  ·rw [if_neg z] at h
   exact List.mem_of_getElem? h
 ·rw [ghi] at h
  exact List.mem_of_getElem? h
theorem SpotA.off {B:List (Int×List Int)} {a:Int} {p:Spot} (h:SpotA B a p) {i:Nat} {l:Int×List Int} (e:B[i]?=some l):l.1≠p.1:=by
 have:=h.2.2 i l e
 lia
theorem RowS.pull {B:List (Int×List Int)} {ps:List Spot} {gs:List Gate} {st:Int} {s e:Spot} (R:RowS B ps gs st s e) {b:Int} (b1:0<b) (b2:b≤10^18) {f:Spot} (f1 : -(5*10^17)≤f.1∧f.1≤5*10^17):PullOk (scS b f s) (scS b f e) (gs.map (scG b f)):=by
 have hs:=R.s.1
 have he:=R.e.1
 have lim:∀ y:Int,-1≤y→y≤12 → -b≤y*b∧y*b≤12*b:=fun y h1 h2=>by
  have k1:=Int.mul_le_mul_of_nonneg_right h1 (Int.le_of_lt b1)
  have k2:=Int.mul_le_mul_of_nonneg_right h2 (Int.le_of_lt b1)
  lia
 refine ⟨by unfold Bx; simp only [scS]; lia,by unfold Bx; simp only [scS]; lia,fun g hg => ?_,⟨(B.map fun l=>l.1+f.1),by rw [List.length_map]; have:=R.blen; lia,fun g hg => ?_⟩,by rw [List.length_map]; have:=R.len; lia,zbY (zfd b1 f R.bok) _ st (zd6 R.path) (zjX b1 R.red),fun g hg => ?_,fun g hg => ?_,⟨-b+f.2,fun p hp => ?_⟩⟩
 ·obtain ⟨t,ht,rfl⟩:=List.mem_map.mp hg
  obtain ⟨i,l,_,hl,gx,_⟩:=uY R.path ht
  obtain ⟨j,ej,_⟩:=(R.bin l hl).1
  unfold Bx
  simp only [scG]
  lia
 ·obtain ⟨t,ht,rfl⟩:=List.mem_map.mp hg
  obtain ⟨i,l,_,hl,gx,_⟩:=uY R.path ht
  exact List.mem_map.mpr ⟨l,hl,by simp only [scG,gx]⟩
 ·obtain ⟨t,ht,rfl⟩:=List.mem_map.mp hg
  obtain ⟨i,l,hi,hl,gx,_⟩:=uY R.path ht
  have:=R.s.off hi
  simp only [scG,scS]
  lia
 ·obtain ⟨t,ht,rfl⟩:=List.mem_map.mp hg
  obtain ⟨i,l,hi,hl,gx,_⟩:=uY R.path ht
  have:=R.e.off hi
  simp only [scG,scS]
  lia
 ·rcases hp with rfl | rfl | ⟨g,hg,_,k⟩
  ·have:=lim s.2 (by have:=R.s.2.1; lia) (by have:=R.s.2.1; lia)
   simp only [scS]
   lia
  ·have:=lim e.2 (by have:=R.e.2.1; lia) (by have:=R.e.2.1; lia)
   simp only [scS]
   lia
  ·obtain ⟨t,ht,rfl⟩:=List.mem_map.mp hg
   obtain ⟨i,l,hi,hl,gx,hy⟩:=uY R.path ht
   simp only [scG,Option.map_eq_some_iff] at k
   obtain ⟨y,ey,h⟩:∃ y,(t.lo=some y∨t.hi=some y)∧y*b+f.2=p.2:=by
    rcases k with ⟨y,k1,k2⟩ | ⟨y,k1,k2⟩
    ·exact ⟨y,.inl k1,k2⟩
    ·exact ⟨y,.inr k1,k2⟩
   have q:=((R.bin l hl).2 y (hy y ey)).1
   have:=lim y (by lia) (by lia)
   lia
theorem RowS.look {B:List (Int×List Int)} {ps:List Spot} {gs:List Gate} {st:Int} {s e:Spot} (R:RowS B ps gs st s e) {b:Int} (b1:0<b) (b2:b≤10^18) {f:Spot} (f1 : -(5*10^17)≤f.1∧f.1≤5*10^17) :
 ∃ out:List Spot,xa [zf (scS b f s),.lst ((gs.map (scG b f)).map zi),zf (scS b f e)]=.ok (.fresh (out.map zf))∧yP [.lst (out.map zf),.lst ((ps.map (scS b f)).map zf),zf (scS b f s),zf (scS b f e)]=.ok (.pers (.bl true))∧tR [.lst (out.map zf),.lst ((gs.map (scG b f)).map zi)]=.ok (.pers (.bl true)):=by
 refine zle (R.pull b1 b2 f1) (fun g hg => ?_) (fun rn => ?_) (fun rn => ?_) (fun p hp => ?_)
 ·obtain ⟨h',k⟩:=zcc (zd6 (b:=b) (f:=f) R.path) hg
  exact ⟨k.ok (zfd b1 f R.bok),k.way⟩
 ·cases hgs:gs with
  | nil=>rw [hgs] at rn; exact absurd rfl rn
  | cons g r =>
    have p:=R.path
    rw [hgs] at p
    obtain ⟨⟨l,⟨gx,_⟩,i,hi,k⟩,_⟩:=p
    have q:=R.s.2.2 i l hi
    show 0<g.w*(g.x+f.1 - (s.1+f.1))
    rcases k with ⟨k1,k2⟩ | ⟨k1,k2⟩
    ·rw [k1]; lia
    ·rw [k1]; lia
 ·have gn:gs≠[]:=fun z=>by rw [z] at rn; exact rn rfl
  obtain ⟨m,t,em⟩:=zaq gn
  have p:=R.path
  have se:=R.e
  rw [em] at p se ⊢
  rw [vZ] at se
  obtain ⟨_,l,⟨gx,_⟩,i,hi,k⟩:=um.mp p
  have q:=se.2.2 i l hi
  rw [List.map_append,List.map_cons,List.map_nil,xH]
  show 0<t.w*(e.1+f.1 - (t.x+f.1))
  rcases k with ⟨k1,k2⟩ | ⟨k1,k2⟩
  ·rw [k1] at q ⊢; lia
  ·rw [k1] at q ⊢; lia
 ·obtain ⟨g,hg,hx,k⟩:=hp
  obtain ⟨t,ht,rfl⟩:=List.mem_map.mp hg
  obtain ⟨i,l,hi,hl,gx,hy⟩:=uY R.path ht
  simp only [scG,Option.map_eq_some_iff] at k hx
  obtain ⟨y,ey,h⟩:∃ y,(t.lo=some y∨t.hi=some y)∧y*b+f.2=p.2:=by
   rcases k with ⟨y,k1,k2⟩ | ⟨y,k1,k2⟩
   ·exact ⟨y,.inl k1,k2⟩
   ·exact ⟨y,.inr k1,k2⟩
  refine List.mem_map.mpr ⟨(l.1,y),((R.bin l hl).2 y (hy y ey)).2,?_⟩
  obtain ⟨p1,p2⟩:=p
  simp only [scS] at *
  rw [h,hx,gx]
theorem zah (k:Int) (h1:0≤k) (h2:k≤1000000) (E:Ev):f2 gPow (fC (.int 10)) (fC (.int k)) E=.ok (.pers (.int (10^k.toNat))):=by
 rw [zB (x:=.pers (.int 10)) (y:=.pers (.int k)) rfl rfl]
 show (if cPow 10 k=true then Out.ok (Val.pers (.int (10^k.toNat))) else .bad)=_
 rw [if_pos (zil k h1 h2)]
theorem w5 {hs:List Int} {E:Ev} (h:E[1]?=some (.pers (.lst (hs.map .int)))) {i:Int} {j:Nat} (hi:i=j) (hj:j<hs.length):f2 gIx (fVar 1) (fC (.int i)) E=.ok (.pers (.int hs[j])):=by
 subst hi
 have v:fVar 1 E=.ok (.pers (.lst (hs.map .int))):=by
  rw [fVar,h]
 rw [zB v (y:=.pers (.int j)) rfl]
 refine xF ?_
 rw [vi (by rw [List.length_map]; exact hj),List.getElem_map]
theorem by_is {hs:List Int} (h14:hs.length=14) {E:Ev} (h:E[1]?=some (.pers (.lst (hs.map .int)))):∃ b:Int,(0<b∧b≤10^18)∧f2 gIx (fLst (zz (fC (.int 1)) (zz (f2 gAdd (fC (.int 1)) (f2 gMod (f2 gIx (fVar 1) (fC (.int 9))) (f2 gPow (fC (.int 10)) (fC (.int 18))))) (hNil)))) (f2 gMod (f2 gDiv (f2 gIx (fVar 1) (fC (.int 1))) (fC (.int 4))) (fC (.int 2))) E=.ok (.pers (.int b)):=by
 have a9:=w5 h (i:=9) (j:=9) rfl (by lia)
 have a1:=w5 h (i:=1) (j:=1) rfl (by lia)
 generalize hs[9]=u at a9
 generalize hs[1]=v at a1
 have p18:=zah 18 (by lia) (by lia) E
 have e18:(10:Int)^(18:Int).toNat=10^18:=rfl
 rw [e18] at p18
 have m1:f2 gAdd (fC (.int 1)) (f2 gMod (f2 gIx (fVar 1) (fC (.int 9))) (f2 gPow (fC (.int 10)) (fC (.int 18)))) E=.ok (.pers (.int (1+u%10^18))):=by
  rw [zB (x:=.pers (.int 1)) (y:=.pers (.int (u%10^18))) rfl (by
   rw [zB a9 p18]
   exact wt (by lia))]
  rfl
 have l1:fLst (zz (fC (.int 1)) (zz (f2 gAdd (fC (.int 1)) (f2 gMod (f2 gIx (fVar 1) (fC (.int 9))) (f2 gPow (fC (.int 10)) (fC (.int 18))))) (hNil))) E=.ok (.fresh [.int 1,.int (1+u%10^18)]):=by
  have v1:fC (.int 1) E=.ok (.pers (.int 1)):=rfl
  simp only [fLst,zz,hNil,v1,m1,zk]
  rfl
 have i1:f2 gMod (f2 gDiv (f2 gIx (fVar 1) (fC (.int 1))) (fC (.int 4))) (fC (.int 2)) E=.ok (.pers (.int (v / 4%2))):=by
  rw [zB (x:=.pers (.int (v / 4))) (y:=.pers (.int 2)) (by
   rw [zB a1 (y:=.pers (.int 4)) rfl]
   exact zh4 (by lia) (by lia)) rfl]
  exact wt (by lia)
 rw [zB l1 i1]
 rcases (show v / 4%2=0∨v / 4%2=1 by lia) with q | q
 ·rw [q]
  exact ⟨1,by lia,rfl⟩
 ·rw [q]
  exact ⟨1+u%10^18,by lia,rfl⟩
theorem zlu {hs:List Int} (h14:hs.length=14) {E F:Ev} (h:E[1]?=some (.pers (.lst (hs.map .int)))):∃ f:Spot,(-(5*10^17)≤f.1∧f.1≤5*10^17)∧((f=(0,0)∧zbH E=.ok (.next E))∨zbH E=.ok (.next (E.set 9 (.pers (zf f))))):=by
 have a1:=w5 h (i:=1) (j:=1) rfl (by lia)
 have a10:=w5 h (i:=10) (j:=10) rfl (by lia)
 have a11:=w5 h (i:=11) (j:=11) rfl (by lia)
 generalize hs[1]=v at a1
 generalize hs[10]=u at a10
 generalize hs[11]=w at a11
 have p18:=zah 18 (by lia) (by lia) E
 have p17:=zah 17 (by lia) (by lia) E
 have e18:(10:Int)^(18:Int).toNat=10^18:=rfl
 have e17:(10:Int)^(17:Int).toNat=10^17:=rfl
 rw [e18] at p18
 rw [e17] at p17
 have m5:f2 gMul (fC (.int 5)) (f2 gPow (fC (.int 10)) (fC (.int 17))) E=.ok (.pers (.int (5*10^17))):=by
  rw [zB (x:=.pers (.int 5)) rfl p17]
  exact xb (za2 (by lia) (by lia))
 have sb:∀ {X:FE} {x:Int},X E=.ok (.pers (.int x))→f2 gSub (f2 gMod X (f2 gPow (fC (.int 10)) (fC (.int 18)))) (f2 gMul (fC (.int 5)) (f2 gPow (fC (.int 10)) (fC (.int 17)))) E=.ok (.pers (.int (x%10^18 - 5*10^17))):=fun {X x} hX=>by
  rw [zB (x:=.pers (.int (x%10^18))) (by
   rw [zB hX p18]
   exact wt (by lia)) m5]
  rfl
 have c:fTrB (f2 gEq (f2 gMod (f2 gDiv (f2 gIx (fVar 1) (fC (.int 1))) (fC (.int 8))) (fC (.int 2))) (fC (.int 1))) E=.ok (v / 8%2 == 1):=by
  refine yk ?_
  rw [zB (x:=.pers (.int (v / 8%2))) (y:=.pers (.int 1)) (by
   rw [zB (x:=.pers (.int (v / 8))) (y:=.pers (.int 2)) (by
    rw [zB a1 (y:=.pers (.int 8)) rfl]
    exact zh4 (by lia) (by lia)) rfl]
   exact wt (by lia)) rfl]
  rfl
 cases q:v / 8%2 == 1 with
 | false =>
   rw [q] at c
   refine ⟨(0,0),by simp,.inl ⟨rfl,?_⟩⟩
   rw [zbH,if_f c]
   rfl
 | true =>
   rw [q] at c
   refine ⟨(u%10^18 - 5*10^17,w%10^18 - 5*10^17),by simp only; lia,.inr ?_⟩
   have ht:fTup (zz (f2 gSub (f2 gMod (f2 gIx (fVar 1) (fC (.int 10))) (f2 gPow (fC (.int 10)) (fC (.int 18)))) (f2 gMul (fC (.int 5)) (f2 gPow (fC (.int 10)) (fC (.int 17))))) (zz (f2 gSub (f2 gMod (f2 gIx (fVar 1) (fC (.int 11))) (f2 gPow (fC (.int 10)) (fC (.int 18)))) (f2 gMul (fC (.int 5)) (f2 gPow (fC (.int 10)) (fC (.int 17))))) (hNil))) E=.ok (.pers (zf (u%10^18 - 5*10^17,w%10^18 - 5*10^17))):=by
    simp only [fTup,zz,hNil,sb a10,sb a11,zk]
    rfl
   rw [zbH,if_t c,setS,ht]
   rfl
theorem zdk (B:List (Int×List Int)):gNe (.lst (B.map zC)) (.lst [])=.ok (.pers (.bl (!decide (B=[])))):=by
 show (if (shal 4 (.lst (B.map zC)) || true)=true then Out.ok (Val.pers (.bl (!eqD (.lst (B.map zC)) (.lst [])))) else .bad)=_
 rw [Bool.or_true,if_pos rfl,u7]
 cases B with
 | nil=>rw [List.map_nil,uz]; rfl
 | cons g gs=>rw [List.map_cons,zaV,decide_eq_false (by simp)]
theorem zjt (ns:List Int) (lo hi:Option Int):∃ m:List Int,m.length≤ns.length∧cutD (ns.map D.int) lo hi=m.map .int:=by
 unfold DL.cutD
 rw [←List.map_drop,←List.map_take]
 refine ⟨_,?_,rfl⟩
 rw [List.length_take,List.length_drop]
 lia
theorem zjx (m:List Int):∃ cs:List Int,cs.length=m.length∧compD (gN 0) fYes zfQ (m.map .int) [.un]=.ok (cs.map .int):=by
 have e:=zah 12 (by lia) (by lia)
 refine ⟨m.map (· % 10^(12:Int).toNat),by rw [List.length_map],?_⟩
 rw [yT (fun env=>∃ s0,env=[s0]) D.int (fun c=>some (.int (c%10^(12:Int).toNat))) m [.un] ⟨_,rfl⟩ (fun c env _ ⟨s0,he⟩=>by
  subst he
  refine ⟨[.pers (.int c)],rfl,⟨_,rfl⟩,.inr ⟨_,.pers (.int (c%10^(12:Int).toNat)),rfl,rfl,?_,rfl⟩⟩
  rw [zfQ,zB (x:=.pers (.int c)) rfl (e _)]
  exact wt (by decide)),List.filterMap_eq_map',List.map_map]
 rfl
theorem zi8 (gs:List Gate):gNe (.lst (gs.map zi)) (.lst (gs.map zi))=.ok (.pers (.bl false)):=by
 show (if (shal 4 (.lst (gs.map zi)) || shal 4 (.lst (gs.map zi)))=true then Out.ok (Val.pers (.bl (!eqD (.lst (gs.map zi)) (.lst (gs.map zi))))) else .bad)=_
 rw [zf8 2,Bool.true_or,if_pos rfl,u7,zct zi zhX,decide_eq_true rfl]
 rfl
theorem zfO {ns hs cs:List Int} {ps:List Spot} {B:List (Int×List Int)} {gs:List Gate} {st la b:Int} {f p:Spot} {acc:List D} (b1:0<b) (b2:b≤10^18) (hl:acc.length<10):zdV [.pers (.scr ns),.pers (.lst (hs.map .int)),.pers (.lst (ps.map zf)),.pers (.lst (B.map zC)),.pers (.int st),.pers (.lst (cs.map .int)),.pers (.lst (gs.map zi)),.pers (.int la),.pers (.int b),.pers (zf f),.own acc,.pers (.int p.1),.pers (.int p.2),.un,.un]=.ok (.next [.pers (.scr ns),.pers (.lst (hs.map .int)),.pers (.lst (ps.map zf)),.pers (.lst (B.map zC)),.pers (.int st),.pers (.lst (cs.map .int)),.pers (.lst (gs.map zi)),.pers (.int la),.pers (.int b),.pers (zf f),.own (acc++[zf (scS b f p)]),.pers (.int p.1),.pers (.int p.2),.un,.un]):=by
 have m:f2 gMul (fVar 12) (fVar 8) [.pers (.scr ns),.pers (.lst (hs.map .int)),.pers (.lst (ps.map zf)),.pers (.lst (B.map zC)),.pers (.int st),.pers (.lst (cs.map .int)),.pers (.lst (gs.map zi)),.pers (.int la),.pers (.int b),.pers (zf f),.own acc,.pers (.int p.1),.pers (.int p.2),.un,.un]=.ok (.pers (.int (p.2*b))):=by
  rw [zB (x:=.pers (.int p.2)) (y:=.pers (.int b)) rfl rfl]
  exact xb (xD (by lia) (by lia))
 have ht:fTup (zz (f2 gAdd (fVar 11) (f2 gIx (fVar 9) (fC (.int 0)))) (zz (f2 gAdd (f2 gMul (fVar 12) (fVar 8)) (f2 gIx (fVar 9) (fC (.int 1)))) (hNil))) [.pers (.scr ns),.pers (.lst (hs.map .int)),.pers (.lst (ps.map zf)),.pers (.lst (B.map zC)),.pers (.int st),.pers (.lst (cs.map .int)),.pers (.lst (gs.map zi)),.pers (.int la),.pers (.int b),.pers (zf f),.own acc,.pers (.int p.1),.pers (.int p.2),.un,.un]=.ok (.pers (zf (scS b f p))):=by
  have x1:f2 gAdd (fVar 11) (f2 gIx (fVar 9) (fC (.int 0))) [.pers (.scr ns),.pers (.lst (hs.map .int)),.pers (.lst (ps.map zf)),.pers (.lst (B.map zC)),.pers (.int st),.pers (.lst (cs.map .int)),.pers (.lst (gs.map zi)),.pers (.int la),.pers (.int b),.pers (zf f),.own acc,.pers (.int p.1),.pers (.int p.2),.un,.un]=.ok (.pers (.int (p.1+f.1))):=rfl
  have x2:f2 gAdd (f2 gMul (fVar 12) (fVar 8)) (f2 gIx (fVar 9) (fC (.int 1))) [.pers (.scr ns),.pers (.lst (hs.map .int)),.pers (.lst (ps.map zf)),.pers (.lst (B.map zC)),.pers (.int st),.pers (.lst (cs.map .int)),.pers (.lst (gs.map zi)),.pers (.int la),.pers (.int b),.pers (zf f),.own acc,.pers (.int p.1),.pers (.int p.2),.un,.un]=.ok (.pers (.int (p.2*b+f.2))):=by
   rw [zB m (y:=.pers (.int f.2)) rfl]
   rfl
  simp only [fTup,zz,hNil,x1,x2,zk]
  rfl
 show (if acc.length<100000 then ((fTup (zz (f2 gAdd (fVar 11) (f2 gIx (fVar 9) (fC (.int 0)))) (zz (f2 gAdd (f2 gMul (fVar 12) (fVar 8)) (f2 gIx (fVar 9) (fC (.int 1)))) (hNil))) [.pers (.scr ns),.pers (.lst (hs.map .int)),.pers (.lst (ps.map zf)),.pers (.lst (B.map zC)),.pers (.int st),.pers (.lst (cs.map .int)),.pers (.lst (gs.map zi)),.pers (.int la),.pers (.int b),.pers (zf f),.own acc,.pers (.int p.1),.pers (.int p.2),.un,.un]).bind _) else .bad)=_
 rw [if_pos (by lia),ht]
 rfl
theorem ziZ (b:Int) (f:Spot) (b1:0<b) (b2:b≤10^18) (ps:List Spot):compD (gT [2,3]) fYes zfP (ps.map zf) [.pers (zf f),.pers (.int b),.un,.un]=.ok ((ps.map (scS b f)).map zf):=by
 rw [yT (fun env=>∃ s2 s3,env=[.pers (zf f),.pers (.int b),s2,s3]) zf (fun p=>some (zf (scS b f p))) ps [.pers (zf f),.pers (.int b),.un,.un] ⟨_,_,rfl⟩ (fun p env _ ⟨s2,s3,he⟩=>by
  subst he
  refine ⟨[.pers (zf f),.pers (.int b),.pers (.int p.1),.pers (.int p.2)],rfl,⟨_,_,rfl⟩,.inr ⟨_,.pers (zf (scS b f p)),rfl,rfl,?_,rfl⟩⟩
  have m:f2 gMul (fVar 3) (fVar 1) [.pers (zf f),.pers (.int b),.pers (.int p.1),.pers (.int p.2)]=.ok (.pers (.int (p.2*b))):=by
   rw [zB (x:=.pers (.int p.2)) (y:=.pers (.int b)) rfl rfl]
   exact xb (xD (by lia) (by lia))
  have x1:f2 gAdd (fVar 2) (f2 gIx (fVar 0) (fC (.int 0))) [.pers (zf f),.pers (.int b),.pers (.int p.1),.pers (.int p.2)]=.ok (.pers (.int (p.1+f.1))):=rfl
  have x2:f2 gAdd (f2 gMul (fVar 3) (fVar 1)) (f2 gIx (fVar 0) (fC (.int 1))) [.pers (zf f),.pers (.int b),.pers (.int p.1),.pers (.int p.2)]=.ok (.pers (.int (p.2*b+f.2))):=by
   rw [zB m (y:=.pers (.int f.2)) rfl]
   rfl
  simp only [zfP,fTup,zz,hNil,x1,x2,zk]
  rfl),List.filterMap_eq_map',List.map_map]
 rfl
theorem main:∀ ns:List Int,ns.length≤63→runD 15 zcp [.scr ns]=.ok (.pers (.bl true)):=by
 intro ns hns
 obtain ⟨hs,h14,en⟩:=zge hns
 obtain ⟨ps,⟨pn,pl,pr⟩,ep⟩:=zkV h14
 have el:=zjd (ps:=ps) (by lia)
 have bok:=zjJ pn
 have hbl:=zdQ ps
 have hbi:∀ l∈vg ps,(∃ i:Int,l.1=2*i∧0≤i∧i≤3)∧∀ y∈l.2,(0≤y∧y≤12)∧(l.1,y)∈ps:=fun l hl=>by
  obtain ⟨⟨p,hp,e⟩,h⟩:=zjK hl
  refine ⟨?_,fun y hy=>⟨(pr _ (h y hy)).2,h y hy⟩⟩
  obtain ⟨i,hi,h1,h2⟩:=(pr p hp).1
  exact ⟨i,by rw [←e]; exact hi,h1,h2⟩
 generalize vg ps=B at el bok hbi hbl
 have hlB:∀ {E:Ev},E[3]?=some (.pers (.lst (B.map zC)))→f2 gAdd (fB gLen (zm (fVar 3) (fNil))) (fC (.int 1)) E=.ok (.pers (.int ((B.length:Int)+1))):=fun {E} h=>by
  have v:fVar 3 E=.ok (.pers (.lst (B.map zC))):=by rw [fVar,h]
  have v2:fB gLen (zm (fVar 3) (fNil)) E=.ok (.pers (.int (B.length:Int))):=by
   rw [fB,zm,v,zk]
   show Out.ok (Val.pers (.int ((B.map zC).length:Int)))=_
   rw [List.length_map]
  rw [zB v2 (y:=.pers (.int 1)) rfl]
  rfl
 have a8:=w5 (hs:=hs) (E:=[.pers (.scr ns),.pers (.lst (hs.map .int)),.pers (.lst (ps.map zf)),.pers (.lst (B.map zC)),.un,.un,.un,.un,.un,.un,.un,.un,.un,.un,.un]) rfl (i:=8) (j:=8) rfl (by lia)
 generalize hs[8]=u8 at a8
 obtain ⟨st,est,st0,st1⟩:∃ st:Int,st=u8%((B.length:Int)+1)∧0≤st∧st≤B.length:=by
  have h1:=Int.emod_nonneg u8 (b:=(B.length:Int)+1) (by lia)
  have h2:=Int.emod_lt_of_pos u8 (b:=(B.length:Int)+1) (by lia)
  exact ⟨_,rfl,h1,by lia⟩
 have cells:∃ cs:List Int,cs.length≤63∧(cs≠[]→0<B.length)∧zfJ [.pers (.scr ns),.pers (.lst (hs.map .int)),.pers (.lst (ps.map zf)),.pers (.lst (B.map zC)),.pers (.int st),.pers (.lst []),.un,.un,.un,.un,.un,.un,.un,.un,.un]=.ok (.next [.pers (.scr ns),.pers (.lst (hs.map .int)),.pers (.lst (ps.map zf)),.pers (.lst (B.map zC)),.pers (.int st),.pers (.lst (cs.map .int)),.un,.un,.un,.un,.un,.un,.un,.un,.un]):=by
  have c:fTrB (f2 gNe (fVar 3) (fLst (hNil))) [.pers (.scr ns),.pers (.lst (hs.map .int)),.pers (.lst (ps.map zf)),.pers (.lst (B.map zC)),.pers (.int st),.pers (.lst []),.un,.un,.un,.un,.un,.un,.un,.un,.un]=.ok (!decide (B=[])):=by
   rw [fTrB,zB (x:=.pers (.lst (B.map zC))) (y:=.fresh []) rfl rfl]
   show ((gNe (.lst (B.map zC)) (.lst [])).bind _)=_
   rw [zdk]
   rfl
  by_cases z:B=[]
  ·rw [decide_eq_true z] at c
   refine ⟨[],by simp,fun w=>absurd rfl w,?_⟩
   rw [zfJ,if_f c]
   rfl
  ·rw [decide_eq_false z] at c
   obtain ⟨m,hm,em⟩:=zjt ns (some 2) (some 26)
   obtain ⟨cs,hcs,ec⟩:=zjx m
   refine ⟨cs,by lia,fun _=>List.length_pos_iff.mpr z,?_⟩
   have hi:fItL (fSlS (fVar 0) (fSo (fC (.int 2))) (fSo (fC (.int 26)))) [.pers (.scr ns),.pers (.lst (hs.map .int)),.pers (.lst (ps.map zf)),.pers (.lst (B.map zC)),.pers (.int st),.pers (.lst []),.un,.un,.un,.un,.un,.un,.un,.un,.un]=.ok (m.map .int):=by
    show Out.ok (cutD (ns.map D.int) (some 2) (some 26))=_
    rw [em]
   rw [zfJ,if_t c,setS,yy,hi,zk,if_pos (by rw [List.length_map]; lia)]
   show (((compD (gN 0) fYes zfQ (m.map .int) [.un]).bind _).bind _)=_
   rw [ec]
   rfl
 obtain ⟨cs,hcs,hcB,ec⟩:=cells
 obtain ⟨gs,pth,red,glen,la0,la1,er⟩:=zmc (B:=B) (st:=st) (cs:=cs) hcB st0 st1 (by lia)
 generalize hla:st+sumG gs=la at er la0 la1
 obtain ⟨b,⟨b1,b2⟩,eb⟩:=by_is h14 (E:=[.pers (.scr ns),.pers (.lst (hs.map .int)),.pers (.lst (ps.map zf)),.pers (.lst (B.map zC)),.pers (.int st),.pers (.lst (cs.map .int)),.pers (.lst (gs.map zi)),.pers (.int la),.un,.un,.un,.un,.un,.un,.un]) rfl
 obtain ⟨f,f1,ef⟩:=zlu (F:=[]) h14 (E:=[.pers (.scr ns),.pers (.lst (hs.map .int)),.pers (.lst (ps.map zf)),.pers (.lst (B.map zC)),.pers (.int st),.pers (.lst (cs.map .int)),.pers (.lst (gs.map zi)),.pers (.int la),.pers (.int b),.pers (.tup [.int 0,.int 0]),.un,.un,.un,.un,.un]) rfl
 have ef:zbH [.pers (.scr ns),.pers (.lst (hs.map .int)),.pers (.lst (ps.map zf)),.pers (.lst (B.map zC)),.pers (.int st),.pers (.lst (cs.map .int)),.pers (.lst (gs.map zi)),.pers (.int la),.pers (.int b),.pers (.tup [.int 0,.int 0]),.un,.un,.un,.un,.un]=.ok (.next [.pers (.scr ns),.pers (.lst (hs.map .int)),.pers (.lst (ps.map zf)),.pers (.lst (B.map zC)),.pers (.int st),.pers (.lst (cs.map .int)),.pers (.lst (gs.map zi)),.pers (.int la),.pers (.int b),.pers (zf f),.un,.un,.un,.un,.un]):=by
  rcases ef with ⟨rfl,ef⟩ | ef
  ·exact ef
  ·exact ef
 have a12:=w5 (hs:=hs) (E:=[.pers (.scr ns),.pers (.lst (hs.map .int)),.pers (.lst (ps.map zf)),.pers (.lst (B.map zC)),.pers (.int st),.pers (.lst (cs.map .int)),.pers (.lst (gs.map zi)),.pers (.int la),.pers (.int b),.pers (zf f),.own [],.un,.un,.un,.un]) rfl (i:=12) (j:=12) rfl (by lia)
 have a13:=w5 (hs:=hs) (E:=[.pers (.scr ns),.pers (.lst (hs.map .int)),.pers (.lst (ps.map zf)),.pers (.lst (B.map zC)),.pers (.int st),.pers (.lst (cs.map .int)),.pers (.lst (gs.map zi)),.pers (.int la),.pers (.int b),.pers (zf f),.own [],.un,.un,.un,.un]) rfl (i:=13) (j:=13) rfl (by lia)
 generalize hs[12]=u12 at a12
 generalize hs[13]=u13 at a13
 obtain ⟨s,sr,es⟩:=ze6 (a:=st) (n:=u12) bok.up (fun l hl=>(hbi l hl).1) st0 st1
 obtain ⟨e,er2,ee⟩:=ze6 (a:=la) (n:=u13) bok.up (fun l hl=>(hbi l hl).1) la0 la1
 have R:RowS B ps gs st s e:=⟨bok,hbi,by lia,pth,red,by lia,sr,by rw [hla]; exact er2⟩
 obtain ⟨out,q1,q2,q3⟩:=R.look b1 b2 f1
 show ((zcp [.pers (.scr ns),.un,.un,.un,.un,.un,.un,.un,.un,.un,.un,.un,.un,.un,.un]).bind _)=_
 have hf:zcp [.pers (.scr ns),.un,.un,.un,.un,.un,.un,.un,.un,.un,.un,.un,.un,.un,.un]=.ok (.ret (.pers (.bl true))):=by
  unfold zcp
  rw [zj (env':=[.pers (.scr ns),.pers (.lst (hs.map .int)),.un,.un,.un,.un,.un,.un,.un,.un,.un,.un,.un,.un,.un]) (by
   rw [setS]
   show (((wq [.scr ns,.int 14]).bind _).bind _)=_
   rw [en]
   rfl)]
  rw [zj (env':=[.pers (.scr ns),.pers (.lst (hs.map .int)),.pers (.lst (ps.map zf)),.un,.un,.un,.un,.un,.un,.un,.un,.un,.un,.un,.un]) (by
   rw [setS]
   show (((zbw [.lst (hs.map .int)]).bind _).bind _)=_
   rw [ep]
   rfl)]
  rw [zj (env':=[.pers (.scr ns),.pers (.lst (hs.map .int)),.pers (.lst (ps.map zf)),.pers (.lst (B.map zC)),.un,.un,.un,.un,.un,.un,.un,.un,.un,.un,.un]) (by
   rw [setS]
   show (((uU [.lst (ps.map zf)]).bind _).bind _)=_
   rw [el]
   rfl)]
  rw [zj (env':=[.pers (.scr ns),.pers (.lst (hs.map .int)),.pers (.lst (ps.map zf)),.pers (.lst (B.map zC)),.pers (.int st),.un,.un,.un,.un,.un,.un,.un,.un,.un,.un]) (by
   rw [setS,zB a8 (hlB rfl)]
   show ((gMod (.int u8) (.int ((B.length:Int)+1))).bind _)=_
   rw [wt (by lia),est]
   rfl)]
  rw [zj (env':=[.pers (.scr ns),.pers (.lst (hs.map .int)),.pers (.lst (ps.map zf)),.pers (.lst (B.map zC)),.pers (.int st),.pers (.lst []),.un,.un,.un,.un,.un,.un,.un,.un,.un]) rfl,zj ec]
  rw [zj (env':=[.pers (.scr ns),.pers (.lst (hs.map .int)),.pers (.lst (ps.map zf)),.pers (.lst (B.map zC)),.pers (.int st),.pers (.lst (cs.map .int)),.pers (.lst (gs.map zi)),.pers (.int la),.un,.un,.un,.un,.un,.un,.un]) (by
   rw [asgS]
   show (((zgh [.lst (B.map zC),.int st,.lst (cs.map .int)]).bind _).bind _)=_
   rw [er]
   rfl)]
  rw [zj (env':=[.pers (.scr ns),.pers (.lst (hs.map .int)),.pers (.lst (ps.map zf)),.pers (.lst (B.map zC)),.pers (.int st),.pers (.lst (cs.map .int)),.pers (.lst (gs.map zi)),.pers (.int la),.pers (.int b),.un,.un,.un,.un,.un,.un]) (by
   rw [setS,eb]
   rfl)]
  rw [zj (env':=[.pers (.scr ns),.pers (.lst (hs.map .int)),.pers (.lst (ps.map zf)),.pers (.lst (B.map zC)),.pers (.int st),.pers (.lst (cs.map .int)),.pers (.lst (gs.map zi)),.pers (.int la),.pers (.int b),.pers (.tup [.int 0,.int 0]),.un,.un,.un,.un,.un]) rfl,zj ef]
  rw [zj (env':=[.pers (.scr ns),.pers (.lst (hs.map .int)),.pers (.lst (ps.map zf)),.pers (.lst (B.map zC)),.pers (.int st),.pers (.lst (cs.map .int)),.pers (.lst (gs.map zi)),.pers (.int la),.pers (.int b),.pers (zf f),.own [],.un,.un,.un,.un]) rfl]
  have v3:fVar 3 [.pers (.scr ns),.pers (.lst (hs.map .int)),.pers (.lst (ps.map zf)),.pers (.lst (B.map zC)),.pers (.int st),.pers (.lst (cs.map .int)),.pers (.lst (gs.map zi)),.pers (.int la),.pers (.int b),.pers (zf f),.own [],.un,.un,.un,.un]=.ok (.pers (.lst (B.map zC))):=rfl
  have v4:fVar 4 [.pers (.scr ns),.pers (.lst (hs.map .int)),.pers (.lst (ps.map zf)),.pers (.lst (B.map zC)),.pers (.int st),.pers (.lst (cs.map .int)),.pers (.lst (gs.map zi)),.pers (.int la),.pers (.int b),.pers (zf f),.own [],.un,.un,.un,.un]=.ok (.pers (.int st)):=rfl
  have v7:fVar 7 [.pers (.scr ns),.pers (.lst (hs.map .int)),.pers (.lst (ps.map zf)),.pers (.lst (B.map zC)),.pers (.int st),.pers (.lst (cs.map .int)),.pers (.lst (gs.map zi)),.pers (.int la),.pers (.int b),.pers (zf f),.own [],.un,.un,.un,.un]=.ok (.pers (.int la)):=rfl
  have c1:zM wL (zm (fVar 3) (zm (fVar 4) (zm (f2 gIx (fVar 1) (fC (.int 12))) (fNil)))) [.pers (.scr ns),.pers (.lst (hs.map .int)),.pers (.lst (ps.map zf)),.pers (.lst (B.map zC)),.pers (.int st),.pers (.lst (cs.map .int)),.pers (.lst (gs.map zi)),.pers (.int la),.pers (.int b),.pers (zf f),.own [],.un,.un,.un,.un]=.ok (.pers (zf s)):=by
   rw [zM,zm,v3,zk,zm,v4,zk,zm,a12,zk,fNil]
   show ((wL [.lst (B.map zC),.int st,.int u12]).bind _)=_
   rw [es]
   rfl
  have c2:zM wL (zm (fVar 3) (zm (fVar 7) (zm (f2 gIx (fVar 1) (fC (.int 13))) (fNil)))) [.pers (.scr ns),.pers (.lst (hs.map .int)),.pers (.lst (ps.map zf)),.pers (.lst (B.map zC)),.pers (.int st),.pers (.lst (cs.map .int)),.pers (.lst (gs.map zi)),.pers (.int la),.pers (.int b),.pers (zf f),.own [],.un,.un,.un,.un]=.ok (.pers (zf e)):=by
   rw [zM,zm,v3,zk,zm,v7,zk,zm,a13,zk,fNil]
   show ((wL [.lst (B.map zC),.int la,.int u13]).bind _)=_
   rw [ee]
   rfl
  have hi:fItL (fLst (zz (zM wL (zm (fVar 3) (zm (fVar 4) (zm (f2 gIx (fVar 1) (fC (.int 12))) (fNil))))) (zz (zM wL (zm (fVar 3) (zm (fVar 7) (zm (f2 gIx (fVar 1) (fC (.int 13))) (fNil))))) (hNil)))) [.pers (.scr ns),.pers (.lst (hs.map .int)),.pers (.lst (ps.map zf)),.pers (.lst (B.map zC)),.pers (.int st),.pers (.lst (cs.map .int)),.pers (.lst (gs.map zi)),.pers (.int la),.pers (.int b),.pers (zf f),.own [],.un,.un,.un,.un]=.ok [zf s,zf e]:=by
   simp only [fItL,fLst,zz,hNil,c1,c2,zk,Val.hold]
   rfl
  rw [zj (env':=[.pers (.scr ns),.pers (.lst (hs.map .int)),.pers (.lst (ps.map zf)),.pers (.lst (B.map zC)),.pers (.int st),.pers (.lst (cs.map .int)),.pers (.lst (gs.map zi)),.pers (.int la),.pers (.int b),.pers (zf f),.own [zf (scS b f s),zf (scS b f e)],.pers (.int e.1),.pers (.int e.2),.un,.un]) (by
   rw [forS,hi,zk,forD]
   show ((zdV [.pers (.scr ns),.pers (.lst (hs.map .int)),.pers (.lst (ps.map zf)),.pers (.lst (B.map zC)),.pers (.int st),.pers (.lst (cs.map .int)),.pers (.lst (gs.map zi)),.pers (.int la),.pers (.int b),.pers (zf f),.own [],.pers (.int s.1),.pers (.int s.2),.un,.un]).bind _)=_
   rw [zfO b1 b2 (by simp),zk]
   show forD (gT [11,12]) zdV [zf e] _=_
   rw [forD]
   show ((zdV [.pers (.scr ns),.pers (.lst (hs.map .int)),.pers (.lst (ps.map zf)),.pers (.lst (B.map zC)),.pers (.int st),.pers (.lst (cs.map .int)),.pers (.lst (gs.map zi)),.pers (.int la),.pers (.int b),.pers (zf f),.own ([]++[zf (scS b f s)]),.pers (.int e.1),.pers (.int e.2),.un,.un]).bind _)=_
   rw [zfO b1 b2 (by simp),zk]
   rfl)]
  rw [zj (env':=[.pers (.scr ns),.pers (.lst (hs.map .int)),.pers (.lst (ps.map zf)),.pers (.lst (B.map zC)),.pers (.int st),.pers (.lst (cs.map .int)),.pers (.lst ((gs.map (scG b f)).map zi)),.pers (.int la),.pers (.int b),.pers (zf f),.own [zf (scS b f s),zf (scS b f e)],.pers (.int e.1),.pers (.int e.2),.un,.un]) (by
   rw [setS]
   show (((vo [.lst (gs.map zi),.int b,zf f]).bind _).bind _)=_
   rw [zgP b1 b2 (by lia)]
   rfl)]
  rw [zj (env':=[.pers (.scr ns),.pers (.lst (hs.map .int)),.pers (.lst ((ps.map (scS b f)).map zf)),.pers (.lst (B.map zC)),.pers (.int st),.pers (.lst (cs.map .int)),.pers (.lst ((gs.map (scG b f)).map zi)),.pers (.int la),.pers (.int b),.pers (zf f),.own [zf (scS b f s),zf (scS b f e)],.pers (.int e.1),.pers (.int e.2),.un,.un]) (by
   have h2:fItL (fVar 2) [.pers (.scr ns),.pers (.lst (hs.map .int)),.pers (.lst (ps.map zf)),.pers (.lst (B.map zC)),.pers (.int st),.pers (.lst (cs.map .int)),.pers (.lst ((gs.map (scG b f)).map zi)),.pers (.int la),.pers (.int b),.pers (zf f),.own [zf (scS b f s),zf (scS b f e)],.pers (.int e.1),.pers (.int e.2),.un,.un]=.ok (ps.map zf):=rfl
   rw [setS,yy,h2,zk,if_pos (by rw [List.length_map]; lia)]
   show (((compD (gT [2,3]) fYes zfP (ps.map zf) [.pers (zf f),.pers (.int b),.un,.un]).bind _).bind _)=_
   rw [ziZ b f b1 b2]
   rfl)]
  rw [zj (env':=[.pers (.scr ns),.pers (.lst (hs.map .int)),.pers (.lst ((ps.map (scS b f)).map zf)),.pers (.lst (B.map zC)),.pers (.int st),.pers (.lst (cs.map .int)),.pers (.lst ((gs.map (scG b f)).map zi)),.pers (.int la),.pers (.int b),.pers (zf f),.own [zf (scS b f s),zf (scS b f e)],.pers (.int e.1),.pers (.int e.2),.pers (.lst ((gs.map (scG b f)).map zi)),.un]) rfl]
  rw [zj (env':=[.pers (.scr ns),.pers (.lst (hs.map .int)),.pers (.lst ((ps.map (scS b f)).map zf)),.pers (.lst (B.map zC)),.pers (.int st),.pers (.lst (cs.map .int)),.pers (.lst ((gs.map (scG b f)).map zi)),.pers (.int la),.pers (.int b),.pers (zf f),.own [zf (scS b f s),zf (scS b f e)],.pers (.int e.1),.pers (.int e.2),.pers (.lst ((gs.map (scG b f)).map zi)),.pers (.lst (out.map zf))]) (by
   rw [setS]
   show (((xa [zf (scS b f s),.lst ((gs.map (scG b f)).map zi),zf (scS b f e)]).bind _).bind _)=_
   rw [q1]
   rfl)]
  rw [zj (env':=[.pers (.scr ns),.pers (.lst (hs.map .int)),.pers (.lst ((ps.map (scS b f)).map zf)),.pers (.lst (B.map zC)),.pers (.int st),.pers (.lst (cs.map .int)),.pers (.lst ((gs.map (scG b f)).map zi)),.pers (.int la),.pers (.int b),.pers (zf f),.own [zf (scS b f s),zf (scS b f e)],.pers (.int e.1),.pers (.int e.2),.pers (.lst ((gs.map (scG b f)).map zi)),.pers (.lst (out.map zf))]) (by
   have t1:fNot (fTr (zM yP (zm (fVar 14) (zm (fVar 2) (zm (f2 gIx (fVar 10) (fC (.int 0))) (zm (f2 gIx (fVar 10) (fC (.int 1))) (fNil))))))) [.pers (.scr ns),.pers (.lst (hs.map .int)),.pers (.lst ((ps.map (scS b f)).map zf)),.pers (.lst (B.map zC)),.pers (.int st),.pers (.lst (cs.map .int)),.pers (.lst ((gs.map (scG b f)).map zi)),.pers (.int la),.pers (.int b),.pers (zf f),.own [zf (scS b f s),zf (scS b f e)],.pers (.int e.1),.pers (.int e.2),.pers (.lst ((gs.map (scG b f)).map zi)),.pers (.lst (out.map zf))]=.ok false:=by
    show ((((yP [.lst (out.map zf),.lst ((ps.map (scS b f)).map zf),zf (scS b f s),zf (scS b f e)]).bind _).bind _).bind _)=_
    rw [q2]
    rfl
   have c:fOr (fNot (fTr (zM yP (zm (fVar 14) (zm (fVar 2) (zm (f2 gIx (fVar 10) (fC (.int 0))) (zm (f2 gIx (fVar 10) (fC (.int 1))) (fNil)))))))) (fTrB (f2 gNe (fVar 13) (fVar 6))) [.pers (.scr ns),.pers (.lst (hs.map .int)),.pers (.lst ((ps.map (scS b f)).map zf)),.pers (.lst (B.map zC)),.pers (.int st),.pers (.lst (cs.map .int)),.pers (.lst ((gs.map (scG b f)).map zi)),.pers (.int la),.pers (.int b),.pers (zf f),.own [zf (scS b f s),zf (scS b f e)],.pers (.int e.1),.pers (.int e.2),.pers (.lst ((gs.map (scG b f)).map zi)),.pers (.lst (out.map zf))]=.ok false:=by
    rw [or_f t1]
    refine yk ?_
    rw [zB (x:=.pers (.lst ((gs.map (scG b f)).map zi))) (y:=.pers (.lst ((gs.map (scG b f)).map zi))) rfl rfl]
    exact zi8 _
   rw [zke,if_f c]
   rfl)]
  rw [retS]
  show (((tR [.lst (out.map zf),.lst ((gs.map (scG b f)).map zi)]).bind _).bind _)=_
  rw [q3]
  rfl
 rw [hf]
 rfl
end My
namespace My
open PySem PySem.Spec PyProof.Rows L2 DL
noncomputable def top (i:Nat):Stmt:=PySem.Challenge.pw_tautline_k31_whole_pulled_tight.main.body.getD i (.Pass ⟨0,0,0,0⟩)
noncomputable abbrev v9:Stmt:=top 15
theorem zbp:FnScope ["_law_script","_law_many","_law_found","_law_k","_law_cell","_law_at"] ["_law_script","_law_many"] (defScope v9):=⟨rfl,rfl,rfl,by decide +kernel,rfl,by decide +kernel,by decide +kernel⟩
noncomputable abbrev zfh:Stmt:=top 16
theorem zgT:FnScope ["_law_head","_law_found","_law_way","_law_k","_law_number","_law_peg"] ["_law_head"] (defScope zfh):=⟨rfl,rfl,rfl,by decide +kernel,rfl,by decide +kernel,by decide +kernel⟩
noncomputable abbrev zb6:Stmt:=top 17
theorem zfc:FnScope ["_law_pegs_here","_law_found","_law_x"] ["_law_pegs_here"] (defScope zb6):=⟨rfl,rfl,rfl,by decide +kernel,rfl,by decide +kernel,by decide +kernel⟩
noncomputable abbrev zfk:Stmt:=top 18
theorem zgW:FnScope ["_law_line","_law_number","_law_way","_law_x","_law_heights","_law_at","_law_low","_law_high"] ["_law_line","_law_number","_law_way"] (defScope zfk):=⟨rfl,rfl,rfl,by decide +kernel,rfl,by decide +kernel,by decide +kernel⟩
noncomputable abbrev ziP:Stmt:=top 19
theorem zjW:FnScope ["_law_lines_here","_law_start","_law_cells","_law_found","_law_at","_law_cell","_law_way","_law_gate_here"] ["_law_lines_here","_law_start","_law_cells"] (defScope ziP):=⟨rfl,rfl,rfl,by decide +kernel,rfl,by decide +kernel,by decide +kernel⟩
noncomputable abbrev zfg:Stmt:=top 20
theorem zgS:FnScope ["_law_lines_here","_law_at","_law_number"] ["_law_lines_here","_law_at","_law_number"] (defScope zfg):=⟨rfl,rfl,rfl,by decide +kernel,rfl,by decide +kernel,by decide +kernel⟩
noncomputable abbrev zad:Stmt:=top 32
theorem zc5:FnScope ["_law_row_here","_law_by","_law_far","_law_found","_law_x","_law_low","_law_high","_law_way"] ["_law_row_here","_law_by","_law_far"] (defScope zad):=⟨rfl,rfl,rfl,by decide +kernel,rfl,by decide +kernel,by decide +kernel⟩
noncomputable abbrev xq:Stmt:=top 11
theorem wV:FnScope ["pegs","kept","peg"] ["pegs"] (defScope xq):=⟨rfl,rfl,rfl,by decide +kernel,rfl,by decide +kernel,by decide +kernel⟩
noncomputable abbrev xt:Stmt:=top 7
theorem wX:FnScope ["gate","later"] ["gate","later"] (defScope xt):=⟨rfl,rfl,rfl,by decide +kernel,rfl,by decide +kernel,by decide +kernel⟩
noncomputable abbrev yV:Stmt:=top 6
theorem wn:FnScope ["gate","later","x"] ["gate","later"] (defScope yV):=⟨rfl,rfl,rfl,by decide +kernel,rfl,by decide +kernel,by decide +kernel⟩
noncomputable abbrev wF:Stmt:=top 1
theorem tP:FnScope ["board","stretch","start","end"] ["board","stretch"] (defScope wF):=⟨rfl,rfl,rfl,by decide +kernel,rfl,by decide +kernel,by decide +kernel⟩
noncomputable abbrev wE:Stmt:=top 2
theorem tN:FnScope ["stretch","peg","start","end","across","turn"] ["stretch","peg"] (defScope wE):=⟨rfl,rfl,rfl,by decide +kernel,rfl,by decide +kernel,by decide +kernel⟩
noncomputable abbrev xh:Stmt:=top 10
theorem wK:FnScope ["stretch","gate","told","low","high"] ["stretch","gate"] (defScope xh):=⟨rfl,rfl,rfl,by decide +kernel,rfl,by decide +kernel,by decide +kernel⟩
noncomputable abbrev yn:Stmt:=top 9
theorem xB:FnScope ["stretch","run","farthest","most","gate","beyond","peg"] ["stretch","run"] (defScope yn):=⟨rfl,rfl,rfl,by decide +kernel,rfl,by decide +kernel,by decide +kernel⟩
noncomputable abbrev xr:Stmt:=top 8
theorem wW:FnScope ["start","run","goal","reached","goals","peg"] ["start","run","goal"] (defScope xr):=⟨rfl,rfl,rfl,by decide +kernel,rfl,by decide +kernel,by decide +kernel⟩
noncomputable abbrev wD:Stmt:=top 5
theorem tM:FnScope ["start","row","end","spots","run","gate","turn"] ["start","row","end"] (defScope wD):=⟨rfl,rfl,rfl,by decide +kernel,rfl,by decide +kernel,by decide +kernel⟩
noncomputable abbrev xg:Stmt:=top 12
theorem wJ:FnScope ["one","middle","other","across","up","next_across","next_up"] ["one","middle","other"] (defScope xg):=⟨rfl,rfl,rfl,by decide +kernel,rfl,by decide +kernel,by decide +kernel⟩
noncomputable abbrev vn:Stmt:=top 4
theorem zau:FnScope ["start","row","end","way","bends"] ["start","row","end"] (defScope vn):=⟨rfl,rfl,rfl,by decide +kernel,rfl,by decide +kernel,by decide +kernel⟩
noncomputable abbrev zb5:Stmt:=top 14
theorem zfb:FnScope ["_law_found"] ["_law_found"] (defScope zb5):=⟨rfl,rfl,rfl,by decide +kernel,rfl,by decide +kernel,by decide +kernel⟩
noncomputable abbrev ua:Stmt:=top 31
theorem zbq:FnScope ["_law_found","_law_pegs_here","_law_start","_law_end","_law_spot_here","_law_k"] ["_law_found","_law_pegs_here","_law_start","_law_end"] (defScope ua):=⟨rfl,rfl,rfl,by decide +kernel,rfl,by decide +kernel,by decide +kernel⟩
noncomputable abbrev zac:Stmt:=top 22
theorem zc4:FnScope ["_law_gate_here","_law_up","_law_wide"] ["_law_gate_here","_law_up","_law_wide"] (defScope zac):=⟨rfl,rfl,rfl,by decide +kernel,rfl,by decide +kernel,by decide +kernel⟩
noncomputable abbrev v6:Stmt:=top 24
theorem zbn:FnScope ["_law_k","_law_one","_law_other","_law_gate_here","_law_begin","_law_up"] ["_law_k","_law_one","_law_other","_law_gate_here","_law_begin"] (defScope v6):=⟨rfl,rfl,rfl,by decide +kernel,rfl,by decide +kernel,by decide +kernel⟩
noncomputable abbrev ud:Stmt:=top 23
theorem zbr:FnScope ["_law_one","_law_other","_law_gate_here","_law_wide","_law_up"] ["_law_one","_law_other","_law_gate_here"] (defScope ud):=⟨rfl,rfl,rfl,by decide +kernel,rfl,by decide +kernel,by decide +kernel⟩
noncomputable abbrev v8:Stmt:=top 25
theorem zbo:FnScope ["_law_path","_law_k","_law_gate_here","_law_at","_law_one","_law_other","_law_later"] ["_law_path","_law_k","_law_gate_here","_law_at"] (defScope v8):=⟨rfl,rfl,rfl,by decide +kernel,rfl,by decide +kernel,by decide +kernel⟩
noncomputable abbrev zfi:Stmt:=top 26
theorem zgU:FnScope ["_law_path","_law_gate_here","_law_at","_law_k","_law_found"] ["_law_path","_law_gate_here","_law_at"] (defScope zfi):=⟨rfl,rfl,rfl,by decide +kernel,rfl,by decide +kernel,by decide +kernel⟩
noncomputable abbrev zae:Stmt:=top 27
theorem zc6:FnScope ["_law_path","_law_row_here","_law_found","_law_at","_law_gate_here"] ["_law_path","_law_row_here"] (defScope zae):=⟨rfl,rfl,rfl,by decide +kernel,rfl,by decide +kernel,by decide +kernel⟩
noncomputable abbrev zfj:Stmt:=top 28
theorem zgV:FnScope ["_law_peg","_law_gate_here"] ["_law_peg","_law_gate_here"] (defScope zfj):=⟨rfl,rfl,rfl,by decide +kernel,rfl,by decide +kernel,by decide +kernel⟩
noncomputable abbrev zfe:Stmt:=top 21
theorem zgQ:FnScope ["_law_one","_law_two","_law_three","_law_found"] ["_law_one","_law_two","_law_three"] (defScope zfe):=⟨rfl,rfl,rfl,by decide +kernel,rfl,by decide +kernel,by decide +kernel⟩
noncomputable abbrev zfl:Stmt:=top 29
theorem zgX:FnScope ["_law_one","_law_two","_law_three","_law_gates","_law_hands","_law_bent","_law_right","_law_over"] ["_law_one","_law_two","_law_three","_law_gates"] (defScope zfl):=⟨rfl,rfl,rfl,by decide +kernel,rfl,by decide +kernel,by decide +kernel⟩
noncomputable abbrev zff:Stmt:=top 30
theorem zgR:FnScope ["_law_path","_law_row_here","_law_places_here","_law_k","_law_gates"] ["_law_path","_law_row_here"] (defScope zff):=⟨rfl,rfl,rfl,by decide +kernel,rfl,by decide +kernel,by decide +kernel⟩
noncomputable abbrev zd7:Stmt:=top 33
theorem zjY:FnScope ["_law_script","_law_head","_law_pegs_here","_law_board","_law_start","_law_cells","_law_row_here","_law_last","_law_by","_law_far","_law_ends","_law_x","_law_y","_law_handed","_law_found"] ["_law_script"] (defScope zd7):=⟨rfl,rfl,rfl,by decide +kernel,rfl,by decide +kernel,by decide +kernel⟩
section
variable (P:Program) (w:World) (K:PySem.W.Frag) (mg:Str→Option Value) (base:Heap) (k:Nat)
noncomputable abbrev za9:Prop:=Cal P w K mg base k "_law_numbers" ["_law_script","_law_many"] wq
noncomputable abbrev ziA:Prop:=Cal P w K mg base k "_law_pegs" ["_law_head"] zbw
noncomputable abbrev zeX:Prop:=Cal P w K mg base k "_law_lines" ["_law_pegs_here"] uU
noncomputable abbrev ziD:Prop:=Cal P w K mg base k "_law_gate" ["_law_line","_law_number","_law_way"] zby
noncomputable abbrev zlP:Prop:=Cal P w K mg base k "_law_row" ["_law_lines_here","_law_start","_law_cells"] zgh
noncomputable abbrev ziz:Prop:=Cal P w K mg base k "_law_spot" ["_law_lines_here","_law_at","_law_number"] wL
noncomputable abbrev zcQ:Prop:=Cal P w K mg base k "_law_scaled" ["_law_row_here","_law_by","_law_far"] vo
noncomputable abbrev wf:Prop:=Cal P w K mg base k "unrepeated" ["pegs"] ye
noncomputable abbrev wk:Prop:=Cal P w K mg base k "lies_below" ["gate","later"] yf
noncomputable abbrev xA:Prop:=Cal P w K mg base k "turning_pegs" ["gate","later"] zY
noncomputable abbrev vW:Prop:=Cal P w K mg base k "crossed" ["board","stretch"] yD
noncomputable abbrev vV:Prop:=Cal P w K mg base k "side_of" ["stretch","peg"] yY
noncomputable abbrev x3:Prop:=Cal P w K mg base k "pegs_beyond" ["stretch","gate"] zV
noncomputable abbrev y8:Prop:=Cal P w K mg base k "farthest_beyond" ["stretch","run"] zR
noncomputable abbrev wj:Prop:=Cal P w K mg base k "run_pulled" ["start","run","goal"] zT
noncomputable abbrev vU:Prop:=Cal P w K mg base k "touched" ["start","row","end"] yC
noncomputable abbrev xZ:Prop:=Cal P w K mg base k "straight_on" ["one","middle","other"] z7
noncomputable abbrev tK:Prop:=Cal P w K mg base k "pulled" ["start","row","end"] xa
noncomputable abbrev zeW:Prop:=Cal P w K mg base k "_law_whole" ["_law_found"] zcg
noncomputable abbrev zba:Prop:=Cal P w K mg base k "_law_is_path" ["_law_found","_law_pegs_here","_law_start","_law_end"] yP
noncomputable abbrev uM:Prop:=Cal P w K mg base k "_law_within" ["_law_gate_here","_law_up","_law_wide"] zZ
noncomputable abbrev za7:Prop:=Cal P w K mg base k "_law_upright" ["_law_k","_law_one","_law_other","_law_gate_here","_law_begin"] wp
noncomputable abbrev zbb:Prop:=Cal P w K mg base k "_law_crossed" ["_law_one","_law_other","_law_gate_here"] yE
noncomputable abbrev za8:Prop:=Cal P w K mg base k "_law_on_edge" ["_law_path","_law_k","_law_gate_here","_law_at"] yq
noncomputable abbrev ziB:Prop:=Cal P w K mg base k "_law_next" ["_law_path","_law_gate_here","_law_at"] zaA
noncomputable abbrev zcR:Prop:=Cal P w K mg base k "_law_places" ["_law_path","_law_row_here"] vp
noncomputable abbrev ziC:Prop:=Cal P w K mg base k "_law_hand" ["_law_peg","_law_gate_here"] zbx
noncomputable abbrev zix:Prop:=Cal P w K mg base k "_law_turn" ["_law_one","_law_two","_law_three"] zbv
noncomputable abbrev ziE:Prop:=Cal P w K mg base k "_law_bend" ["_law_one","_law_two","_law_three","_law_gates"] zaB
noncomputable abbrev ziy:Prop:=Cal P w K mg base k "_law_taut" ["_law_path","_law_row_here"] tR
end
section
variable {P:Program} {w:World} {K:PySem.W.Frag} {mg:Str→Option Value} {base:Heap} {k:Nat} {f:Addr} {fd:FuncData}
theorem zeM (F:Fun K "_law_numbers" "_law_numbers" v9 f fd) (hm:mg "_law_numbers" = some (.ref f))  (b_range:mg "range" = none) (b_len:mg "len" = none) (b_min:mg "min" = none) (b_max:mg "max" = none):za9 P w K mg base (k+1):=by
 have nd:=(zbp).nd
 exact Cal.imp (m:=runD 6 w9) ⟨f,fd,y0 (N:=["_law_script","_law_many","_law_found","_law_k","_law_cell","_law_at"]) F zbp fun cdv A outer s G H E hr =>
  zl ((by first | exact tp (i:=2) false nd (cap:=[]) (own:=["_law_k"]) ⟨rfl,by decide +kernel,by decide +kernel,rfl,rfl⟩ (uD b_range (zn (zd (pv 1)) (zD))) (fun _ _ _=>z6 (i:=0) (show (["_law_k"]:List Str).Nodup from by decide +kernel)) (yx 0) (fun _ _ _=>we) (fun _ _ _=>zh) | exact zA (i:=2) false nd (xz (cap:=[]) (own:=["_law_k"]) ⟨rfl,by decide +kernel,by decide +kernel,rfl,rfl⟩ (uD b_range (zn (zd (pv 1)) (zD))) (fun _ _ _=>z6 (i:=0) (show (["_law_k"]:List Str).Nodup from by decide +kernel)) (yx 0) (fun _ _ _=>we) (fun _ _ _=>zh))))
  (zl (xV PassesOwn.never (uD b_range (zn (zS (zdM rfl) zif b_max boot_max (zn (zd (pv 1)) (zn (zS (uG rfl) zcA b_min boot_min (zn (zS zK xy b_len PySem.boot_len (zn (zd (pv 0)) (zD))) (zn (zh) (zD)))) (zD)))) (zD))) (z6 (i:=3) nd)
  (zl (zA (i:=4) true nd (zh))
  (zl (zW (zcv (zS zK xy b_len PySem.boot_len (zn (zd (pv 0)) (zD))) (zh))
  (zu (zA (i:=4) true nd (yw (zv (zd (pv 0)) (yw (zd (pv 3)) (zS (uG rfl) zcA b_min boot_min (zn (zS zK xy b_len PySem.boot_len (zn (zd (pv 0)) (zD))) (zn (zh) (zD)))))) (yb (uE (zh) (zh)) (zh)))))
  (zE))
  (zl (zA (i:=5) true nd (yw (zd (pv 3)) (zd (pv 1))))
  (zu (zm7 (pv 2) (zd (pv 5)) (yw (yb (yb (ya (zv (zd (pv 2)) (zd (pv 5))) (zh)) (zd (pv 4))) (ya (zd (pv 3)) (zd (pv 3)))) (yb (uE (zh) (zh)) (zh)))))))))
  (zu (zF (zd (pv 2))))),hm,F.kp,F.binds (ps:=["_law_script","_law_many"]) fun _ _ _ _ _ _ us hl=>match us,hl with | [_,_],_=>rfl⟩ zdg
theorem zjD (F:Fun K "_law_pegs" "_law_pegs" zfh f fd) (hm:mg "_law_pegs" = some (.ref f))  (b_range:mg "range" = none):ziA P w K mg base (k+1):=by
 have nd:=(zgT).nd
 exact Cal.imp (m:=runD 6 zdA) ⟨f,fd,y0 (N:=["_law_head","_law_found","_law_way","_law_k","_law_number","_law_peg"]) F zgT fun cdv A outer s G H E hr =>
  zl (zA (i:=1) false nd (ym (zG)))
  (zl (zA (i:=2) true nd (yw (zv (zd (pv 0)) (zh)) (zh)))
  (zl (xV PassesOwn.never (uD b_range (zn (yw (zv (zd (pv 0)) (zh)) (zh)) (zD))) (z6 (i:=3) nd)
  (zl (zA (i:=4) true nd (zv (zd (pv 0)) (yb (zh) (zd (pv 3)))))
  (zl (zA (i:=5) true nd (zX (zw (ya (zh) (yw (zd (pv 4)) (zh))) (zw (yw (zbQ (zd (pv 4)) (zh)) (zh)) (zG)))))
  (zl (zW (wz (hu20 hr) (zd (pv 2)) (zh))
  (zu (zA (i:=5) true nd (zX (zw (zh) (zw (yw (zd (pv 4)) (zh)) (zG))))))
  (zE))
  (zl (zW (wz (hu20 hr) (zd (pv 2)) (zh))
  (zu (zA (i:=5) true nd (zX (zw (ya (zh) (yw (zd (pv 4)) (zh))) (zw (ya (zh) (yw (zbQ (zd (pv 4)) (zh)) (zh))) (zG))))))
  (zE))
  (zu (zW (zkg (hu20 hr) (zd (pv 5)) (zd (pv 1)))
  (zu (yt (pv 1) (zd (pv 5))))
  (zE))))))))
  (zu (zF (zd (pv 1)))))),hm,F.kp,F.binds (ps:=["_law_head"]) fun _ _ _ _ _ _ us hl=>match us,hl with | [_],_=>rfl⟩ zho
theorem zik (F:Fun K "_law_lines" "_law_lines" zb6 f fd) (hm:mg "_law_lines" = some (.ref f))  (b_sorted:mg "sorted" = none) (b_set:mg "set" = none):zeX P w K mg base (k+1):=by
 have nd:=(zfc).nd
 exact Cal.imp (m:=runD 3 zaS) ⟨f,fd,y0 (N:=["_law_pegs_here","_law_found","_law_x"]) F zfc fun cdv A outer s G H E hr =>
  zl (zA (i:=1) false nd (ym (zG)))
  (zl (xV PassesOwn.never (yg (zdH (xz (cap:=[]) (own:=["_law_peg"]) ⟨rfl,by decide +kernel,by decide +kernel,rfl,rfl⟩ (yg (zd (pv 0))) (fun _ _ _=>z6 (i:=0) (show (["_law_peg"]:List Str).Nodup from by decide +kernel)) (yx 0) (fun _ _ _=>we) (fun _ _ _=>zv (zd (pv 0)) (zh))) b_sorted b_set)) (z6 (i:=2) nd)
  (zu (yt (pv 1) (zX (zw (zd (pv 2)) (zw (zS zeJ zie b_sorted boot_sorted (zn (xz (cap:=[2]) (own:=["_law_peg"]) ⟨rfl,by decide +kernel,by decide +kernel,rfl,rfl⟩ (yg (zd (pv 0))) (fun _ _ _=>z6 (i:=1) (show (["_law_x","_law_peg"]:List Str).Nodup from by decide +kernel)) (yx 1) (fun _ _ _=>vb (wz (hu20 hr) (zv (zd (pv 1)) (zh)) (zd (pv 0)))) (fun _ _ _=>zv (zd (pv 1)) (zh))) (zD))) (zG)))))))
  (zu (zF (zd (pv 1))))),hm,F.kp,F.binds (ps:=["_law_pegs_here"]) fun _ _ _ _ _ _ us hl=>match us,hl with | [_],_=>rfl⟩ zgg
theorem zjG (F:Fun K "_law_gate" "_law_gate" zfk f fd) (hm:mg "_law_gate" = some (.ref f))  (b_len:mg "len" = none):ziD P w K mg base (k+1):=by
 have nd:=(zgW).nd
 exact Cal.imp (m:=runD 8 zdC) ⟨f,fd,y0 (N:=["_law_line","_law_number","_law_way","_law_x","_law_heights","_law_at","_law_low","_law_high"]) F zgW fun cdv A outer s G H E hr =>
  zl (zkh (zd (pv 0)) (ve rfl (zO (i:=3) nd (zO (i:=4) nd (xW)))))
  (zl (zA (i:=5) true nd (yw (zd (pv 1)) (yb (zS zK xy b_len PySem.boot_len (zn (zd (pv 4)) (zD))) (zh))))
  (zl (zA (i:=6) true nd (yL))
  (zl (zA (i:=7) true nd (yL))
  (zl (zW (zcv (zd (pv 5)) (zh))
  (zu (zA (i:=6) true nd (zv (zd (pv 4)) (zP (zd (pv 5)) (zh)))))
  (zE))
  (zl (zW (zcu (zd (pv 5)) (zS zK xy b_len PySem.boot_len (zn (zd (pv 4)) (zD))))
  (zu (zA (i:=7) true nd (zv (zd (pv 4)) (zd (pv 5)))))
  (zE))
  (zu (zF (zX (zw (zd (pv 3)) (zw (zd (pv 6)) (zw (zd (pv 7)) (zw (zd (pv 2)) (zG))))))))))))),hm,F.kp,F.binds (ps:=["_law_line","_law_number","_law_way"]) fun _ _ _ _ _ _ us hl=>match us,hl with | [_,_,_],_=>rfl⟩ zhr
theorem zlE (F:Fun K "_law_row" "_law_row" ziP f fd) (hm:mg "_law_row" = some (.ref f)) (c_gate:ziD P w K mg base k) (b_len:mg "len" = none) (b_int:mg "int" = none) (b_min:mg "min" = none):zlP P w K mg base (k+1):=by
 have nd:=(zjW).nd
 exact Cal.imp (m:=runD 8 zhU) ⟨f,fd,y0 (N:=["_law_lines_here","_law_start","_law_cells","_law_found","_law_at","_law_cell","_law_way","_law_gate_here"]) F zjW fun cdv A outer s G H E hr =>
  zl (zA (i:=3) false nd (ym (zG)))
  (zl (zA (i:=4) true nd (zd (pv 1)))
  (zl (xV PassesOwn.never (yg (zd (pv 2))) (z6 (i:=5) nd)
  (zl (zA (i:=6) true nd (zh))
  (zl (zW (dt_w (vS (wz (hu20 hr) (zd (pv 4)) (zS zK xy b_len PySem.boot_len (zn (zd (pv 0)) (zD)))) (wP (dt_w (uB (zcv (zd (pv 4)) (zh)) (wH (wz (hu20 hr) (yw (zd (pv 5)) (zh)) (zh))))))))
  (zu (zA (i:=6) true nd (xX (zh))))
  (zE))
  (zl (zA (i:=7) true nd (zU c_gate hr (zn (zv (zd (pv 0)) (zS (uG rfl) zcA b_min boot_min (zn (zd (pv 4)) (zn (zP (yb (zd (pv 4)) (zd (pv 6))) (zcw zdO zkl b_int boot_int (zn (zh9 (hu20 hr) (zd (pv 6)) (zh)) (zD)))) (zD))))) (zn (zbQ (zd (pv 5)) (zh)) (zn (zd (pv 6)) (zD)))) (zo (zo (zo (zL))))))
  (zl (zA (i:=4) true nd (yb (zd (pv 4)) (zd (pv 6))))
  (zu (zW (dt_w (uB (tm (hu20 hr) (zd (pv 3)) (ym (zG))) (wH (wz (hu20 hr) (zv (zd (pv 3)) (xX (zh))) (zlB (zbh (zd (pv 7)) (vd) (yM (zh))) (zX (zw (zP (zh) (zd (pv 6))) (zG))))))))
  (zu (zm8 (pv 3)))
  (zu (yt (pv 3) (zd (pv 7)))))))))))
  (zlx 3 (zu (zF (zX (zw (zd (pv 3)) (zw (zd (pv 4)) (zG))))))))),hm,F.kp,F.binds (ps:=["_law_lines_here","_law_start","_law_cells"]) fun _ _ _ _ _ _ us hl=>match us,hl with | [_,_,_],_=>rfl⟩ zi5
theorem zjC (F:Fun K "_law_spot" "_law_spot" zfg f fd) (hm:mg "_law_spot" = some (.ref f))  (b_len:mg "len" = none):ziz P w K mg base (k+1):=by
 have nd:=(zgS).nd
 exact Cal.imp (m:=runD 3 tW) ⟨f,fd,y0 (N:=["_law_lines_here","_law_at","_law_number"]) F zgS fun cdv A outer s G H E hr =>
  zl (zW (wz (hu20 hr) (zd (pv 0)) (ym (zG)))
  (zu (zF (zX (zw (yw (zd (pv 2)) (zh)) (zw (zP (yw (zbQ (zd (pv 2)) (zh)) (zh)) (zh)) (zG))))))
  (zE))
  (zl (zW (zcu (zd (pv 1)) (zS zK xy b_len PySem.boot_len (zn (zd (pv 0)) (zD))))
  (zu (zF (zX (zw (zP (zv (zv (zd (pv 0)) (zd (pv 1))) (zh)) (zh)) (zw (zP (yw (zd (pv 2)) (zh)) (zh)) (zG))))))
  (zE))
  (zu (zF (zX (zw (yb (zv (zv (zd (pv 0)) (xX (zh))) (zh)) (zh)) (zw (zP (yw (zd (pv 2)) (zh)) (zh)) (zG))))))),hm,F.kp,F.binds (ps:=["_law_lines_here","_law_at","_law_number"]) fun _ _ _ _ _ _ us hl=>match us,hl with | [_,_,_],_=>rfl⟩ zhn
theorem zgo (F:Fun K "_law_scaled" "_law_scaled" zad f fd) (hm:mg "_law_scaled" = some (.ref f))   : zcQ P w K mg base (k+1):=by
 have nd:=(zc5).nd
 exact Cal.imp (m:=runD 8 uv) ⟨f,fd,y0 (N:=["_law_row_here","_law_by","_law_far","_law_found","_law_x","_law_low","_law_high","_law_way"]) F zc5 fun cdv A outer s G H E hr =>
  zl (zA (i:=3) false nd (ym (zG)))
  (zl (xV PassesOwn.never (yg (zd (pv 0))) (ve rfl (zO (i:=4) nd (zO (i:=5) nd (zO (i:=6) nd (zO (i:=7) nd (xW))))))
  (zl (zW (vc (zd (pv 5)) (yL))
  (zu (zA (i:=5) true nd (yb (ya (zd (pv 5)) (zd (pv 1))) (zv (zd (pv 2)) (zh)))))
  (zE))
  (zl (zW (vc (zd (pv 6)) (yL))
  (zu (zA (i:=6) true nd (yb (ya (zd (pv 6)) (zd (pv 1))) (zv (zd (pv 2)) (zh)))))
  (zE))
  (zu (yt (pv 3) (zX (zw (yb (zd (pv 4)) (zv (zd (pv 2)) (zh))) (zw (zd (pv 5)) (zw (zd (pv 6)) (zw (zd (pv 7)) (zG)))))))))))
  (zu (zF (zd (pv 3))))),hm,F.kp,F.binds (ps:=["_law_row_here","_law_by","_law_far"]) fun _ _ _ _ _ _ us hl=>match us,hl with | [_,_,_],_=>rfl⟩ zef
theorem t8 (F:Fun K "unrepeated" "unrepeated" xq f fd) (hm:mg "unrepeated" = some (.ref f))   : wf P w K mg base (k+1):=by
 have nd:=(wV).nd
 exact Cal.imp (m:=runD 3 yQ) ⟨f,fd,y0 (N:=["pegs","kept","peg"]) F wV fun cdv A outer s G H E hr =>
  zl (zA (i:=1) false nd (ym (zG)))
  (zl (xV PassesOwn.never (yg (zd (pv 0))) (z6 (i:=2) nd)
  (zu (zW (dt_w (vS (vM (xC (zd (pv 1)))) (wP (tm (hu20 hr) (zv (zd (pv 1)) (xX (zh))) (zd (pv 2))))))
  (zu (yt (pv 1) (zd (pv 2))))
  (zE))))
  (zu (zF (zd (pv 1))))),hm,F.kp,F.binds (ps:=["pegs"]) fun _ _ _ _ _ _ us hl=>match us,hl with | [_],_=>rfl⟩ uR
theorem zaa (F:Fun K "lies_below" "lies_below" xt f fd) (hm:mg "lies_below" = some (.ref f))   : wk P w K mg base (k+1):=by
 have nd:=(wX).nd
 exact Cal.imp (m:=runD 2 yS) ⟨f,fd,y0 (N:=["gate","later"]) F wX fun cdv A outer s G H E hr =>
  zu (zF (zdJ (zh7 (zv (zd (pv 0)) (zh)) (yL)) (zdJ (zh7 (zv (zd (pv 1)) (zh)) (yL)) (za0 (znb (zv (zd (pv 0)) (zh)) (zv (zd (pv 1)) (zh))))))),hm,F.kp,F.binds (ps:=["gate","later"]) fun _ _ _ _ _ _ us hl=>match us,hl with | [_,_],_=>rfl⟩ uT
theorem uH (F:Fun K "turning_pegs" "turning_pegs" yV f fd) (hm:mg "turning_pegs" = some (.ref f)) (c_p_lies_below:wk P w K mg base k)  : xA P w K mg base (k+1):=by
 have nd:=(wn).nd
 exact Cal.imp (m:=runD 3 yr) ⟨f,fd,y0 (N:=["gate","later","x"]) F wn fun cdv A outer s G H E hr =>
  zl (zA (i:=2) true nd (zv (zd (pv 0)) (zh)))
  (zl (zW (xC (zU c_p_lies_below hr (zn (zd (pv 0)) (zn (zd (pv 1)) (zD))) (zo (zo (zL)))))
  (zu (zF (zX (zw (zX (zw (zd (pv 2)) (zw (zv (zd (pv 0)) (zh)) (zG)))) (zw (zX (zw (zd (pv 2)) (zw (zv (zd (pv 1)) (zh)) (zG)))) (zG))))))
  (zE))
  (zu (zF (zX (zw (zX (zw (zd (pv 2)) (zw (zv (zd (pv 0)) (zh)) (zG)))) (zw (zX (zw (zd (pv 2)) (zw (zv (zd (pv 1)) (zh)) (zG)))) (zG))))))),hm,F.kp,F.binds (ps:=["gate","later"]) fun _ _ _ _ _ _ us hl=>match us,hl with | [_,_],_=>rfl⟩ vQ
theorem zcD (F:Fun K "crossed" "crossed" wF f fd) (hm:mg "crossed" = some (.ref f))  (b_reversed:mg "reversed" = none):vW P w K mg base (k+1):=by
 have nd:=(tP).nd
 exact Cal.imp (m:=runD 4 xo) ⟨f,fd,y0 (N:=["board","stretch","start","end"]) F tP fun cdv A outer s G H E hr =>
  zl (zA (i:=2) true nd (zv (zv (zd (pv 1)) (zh)) (zh)))
  (zl (zA (i:=3) true nd (zv (zv (zd (pv 1)) (zh)) (zh)))
  (zl (zW (zcu (zd (pv 2)) (zd (pv 3)))
  (zu (zF (xz (cap:=[2,3]) (own:=["line"]) ⟨rfl,by decide +kernel,by decide +kernel,rfl,rfl⟩ (yg (zd (pv 0))) (fun _ _ _=>z6 (i:=2) (show (["start","end","line"]:List Str).Nodup from by decide +kernel)) (yx 2) (fun _ _ _=>vb (zh2 (zd (pv 0)) (zv (zd (pv 2)) (zh)) (zd (pv 1)))) (fun _ _ _=>zd (pv 2)))))
  (zE))
  (zu (zF (xz (cap:=[3,2]) (own:=["line"]) ⟨rfl,by decide +kernel,by decide +kernel,rfl,rfl⟩ (zm9 b_reversed (zd (pv 0))) (fun _ _ _=>z6 (i:=2) (show (["end","start","line"]:List Str).Nodup from by decide +kernel)) (yx 2) (fun _ _ _=>vb (zh2 (zd (pv 0)) (zv (zd (pv 2)) (zh)) (zd (pv 1)))) (fun _ _ _=>zd (pv 2))))))),hm,F.kp,F.binds (ps:=["board","stretch"]) fun _ _ _ _ _ _ us hl=>match us,hl with | [_,_],_=>rfl⟩ zbf
theorem zcC (F:Fun K "side_of" "side_of" wE f fd) (hm:mg "side_of" = some (.ref f))   : vV P w K mg base (k+1):=by
 have nd:=(tN).nd
 exact Cal.imp (m:=runD 6 xn) ⟨f,fd,y0 (N:=["stretch","peg","start","end","across","turn"]) F tN fun cdv A outer s G H E hr =>
  zl (zA (i:=2) true nd (zv (zd (pv 0)) (zh)))
  (zl (zA (i:=3) true nd (zv (zd (pv 0)) (zh)))
  (zl (zA (i:=4) true nd (zP (zv (zd (pv 3)) (zh)) (zv (zd (pv 2)) (zh))))
  (zl (zA (i:=5) true nd (zP (ya (zd (pv 4)) (zP (zv (zd (pv 1)) (zh)) (zv (zd (pv 2)) (zh)))) (ya (zP (zv (zd (pv 3)) (zh)) (zv (zd (pv 2)) (zh))) (zP (zv (zd (pv 1)) (zh)) (zv (zd (pv 2)) (zh))))))
  (zu (zF (de_if (zcv (zd (pv 4)) (zh)) (zd (pv 5)) (xX (zd (pv 5))))))))),hm,F.kp,F.binds (ps:=["stretch","peg"]) fun _ _ _ _ _ _ us hl=>match us,hl with | [_,_],_=>rfl⟩ zbe
theorem tB (F:Fun K "pegs_beyond" "pegs_beyond" xh f fd) (hm:mg "pegs_beyond" = some (.ref f)) (c_p_side_of:vV P w K mg base k)  : x3 P w K mg base (k+1):=by
 have nd:=(wK).nd
 exact Cal.imp (m:=runD 5 yJ) ⟨f,fd,y0 (N:=["stretch","gate","told","low","high"]) F wK fun cdv A outer s G H E hr =>
  zl (zA (i:=2) false nd (ym (zG)))
  (zl (zW (vc (zv (zd (pv 1)) (zh)) (yL))
  (zl (zA (i:=3) true nd (zX (zw (zv (zd (pv 1)) (zh)) (zw (zv (zd (pv 1)) (zh)) (zG)))))
  (zu (yt (pv 2) (zX (zw (zU c_p_side_of hr (zn (zd (pv 0)) (zn (zd (pv 3)) (zD))) (zo (zo (zL)))) (zw (zd (pv 3)) (zG)))))))
  (zE))
  (zl (zW (vc (zv (zd (pv 1)) (zh)) (yL))
  (zl (zA (i:=4) true nd (zX (zw (zv (zd (pv 1)) (zh)) (zw (zv (zd (pv 1)) (zh)) (zG)))))
  (zu (yt (pv 2) (zX (zw (xX (zU c_p_side_of hr (zn (zd (pv 0)) (zn (zd (pv 4)) (zD))) (zo (zo (zL))))) (zw (zd (pv 4)) (zG)))))))
  (zE))
  (zu (zF (zd (pv 2)))))),hm,F.kp,F.binds (ps:=["stretch","gate"]) fun _ _ _ _ _ _ us hl=>match us,hl with | [_,_],_=>rfl⟩ uq
theorem vf (F:Fun K "farthest_beyond" "farthest_beyond" yn f fd) (hm:mg "farthest_beyond" = some (.ref f)) (c_p_crossed:vW P w K mg base k) (c_p_pegs_beyond:x3 P w K mg base k)  : y8 P w K mg base (k+1):=by
 have nd:=(xB).nd
 exact Cal.imp (m:=runD 7 z9) ⟨f,fd,y0 (N:=["stretch","run","farthest","most","gate","beyond","peg"]) F xB fun cdv A outer s G H E hr =>
  zl (zA (i:=2) true nd (yL))
  (zl (zA (i:=3) true nd (zh))
  (zl (xV PassesOwn.never (yg (zU c_p_crossed hr (zn (zd (pv 1)) (zn (zd (pv 0)) (zD))) (zo (zo (zL))))) (z6 (i:=4) nd)
  (zu (xV PassesOwn.never (yg (zU c_p_pegs_beyond hr (zn (zd (pv 0)) (zn (zd (pv 4)) (zD))) (zo (zo (zL))))) (ve rfl (zO (i:=5) nd (zO (i:=6) nd (xW))))
  (zu (zW (zcv (zd (pv 5)) (zd (pv 3)))
  (zl (zA (i:=2) true nd (zd (pv 6)))
  (zu (zA (i:=3) true nd (zd (pv 5)))))
  (zE))))))
  (zu (zF (zd (pv 2)))))),hm,F.kp,F.binds (ps:=["stretch","run"]) fun _ _ _ _ _ _ us hl=>match us,hl with | [_,_],_=>rfl⟩ wR
theorem t9 (F:Fun K "run_pulled" "run_pulled" xr f fd) (hm:mg "run_pulled" = some (.ref f)) (c_p_farthest_beyond:y8 P w K mg base k)  : wj P w K mg base (k+1):=by
 have nd:=(wW).nd
 exact Cal.imp (m:=runD 6 yR) ⟨f,fd,y0 (N:=["start","run","goal","reached","goals","peg"]) F wW fun cdv A outer s G H E hr =>
  zl (zA (i:=3) false nd (ym (zw (zd (pv 0)) (zG))))
  (zl (zA (i:=4) false nd (ym (zw (zd (pv 2)) (zG))))
  (zl (zjs 100 PassesOwn.never (xC (zd (pv 4)))
  (zl (zA (i:=5) true nd (zU c_p_farthest_beyond hr (zn (zX (zw (zv (zd (pv 3)) (xX (zh))) (zw (zv (zd (pv 4)) (xX (zh))) (zG)))) (zn (zd (pv 1)) (zD))) (zo (zo (zL)))))
  (zu (zW (zh1 (zd (pv 5)) (yL))
  (zu (zh3 (pv 3) (pv 4)))
  (zu (yt (pv 4) (zd (pv 5))))))))
  (zu (zF (zbh (zd (pv 3)) (yM (zh)) (vd)))))),hm,F.kp,F.binds (ps:=["start","run","goal"]) fun _ _ _ _ _ _ us hl=>match us,hl with | [_,_,_],_=>rfl⟩ uS
theorem zcB (F:Fun K "touched" "touched" wD f fd) (hm:mg "touched" = some (.ref f)) (c_p_turning_pegs:xA P w K mg base k) (c_p_run_pulled:wj P w K mg base k)  : vU P w K mg base (k+1):=by
 have nd:=(tM).nd
 exact Cal.imp (m:=runD 7 xQ) ⟨f,fd,y0 (N:=["start","row","end","spots","run","gate","turn"]) F tM fun cdv A outer s G H E hr =>
  zl (zA (i:=3) false nd (ym (zw (zd (pv 0)) (zG))))
  (zl (zA (i:=4) false nd (ym (zG)))
  (zl (xV PassesOwn.never (yg (zd (pv 1))) (z6 (i:=5) nd)
  (zl (zW (dt_w (uB (xC (zd (pv 4))) (wH (tm (hu20 hr) (zv (zv (zd (pv 4)) (xX (zh))) (zh)) (zv (zd (pv 5)) (zh))))))
  (zl (zA (i:=6) true nd (zU c_p_turning_pegs hr (zn (zv (zd (pv 4)) (xX (zh))) (zn (zd (pv 5)) (zD))) (zo (zo (zL)))))
  (zl (zdG (pv 3) (zU c_p_run_pulled hr (zn (zv (zd (pv 3)) (xX (zh))) (zn (zd (pv 4)) (zn (zv (zd (pv 6)) (zh)) (zD)))) (zo (zo (zo (zL))))))
  (zl (yt (pv 3) (zv (zd (pv 6)) (zh)))
  (zu (zA (i:=4) false nd (ym (zG)))))))
  (zE))
  (zu (yt (pv 4) (zd (pv 5))))))
  (zl (zdG (pv 3) (zU c_p_run_pulled hr (zn (zv (zd (pv 3)) (xX (zh))) (zn (zd (pv 4)) (zn (zd (pv 2)) (zD)))) (zo (zo (zo (zL))))))
  (zu (zF (zbh (zd (pv 3)) (yM (zh)) (yM (xX (zh))))))))),hm,F.kp,F.binds (ps:=["start","row","end"]) fun _ _ _ _ _ _ us hl=>match us,hl with | [_,_,_],_=>rfl⟩ zbd
theorem tz (F:Fun K "straight_on" "straight_on" xg f fd) (hm:mg "straight_on" = some (.ref f))   : xZ P w K mg base (k+1):=by
 have nd:=(wJ).nd
 exact Cal.imp (m:=runD 7 yI) ⟨f,fd,y0 (N:=["one","middle","other","across","up","next_across","next_up"]) F wJ fun cdv A outer s G H E hr =>
  zl (zA (i:=3) true nd (zP (zv (zd (pv 1)) (zh)) (zv (zd (pv 0)) (zh))))
  (zl (zA (i:=4) true nd (zP (zv (zd (pv 1)) (zh)) (zv (zd (pv 0)) (zh))))
  (zl (zA (i:=5) true nd (zP (zv (zd (pv 2)) (zh)) (zv (zd (pv 1)) (zh))))
  (zl (zA (i:=6) true nd (zP (zv (zd (pv 2)) (zh)) (zv (zd (pv 1)) (zh))))
  (zu (zF (zdJ (zh9 (hu20 hr) (ya (zd (pv 3)) (zd (pv 6))) (ya (zd (pv 4)) (zd (pv 5)))) (za0 (zh8 (yb (ya (zd (pv 3)) (zd (pv 5))) (ya (zd (pv 4)) (zd (pv 6)))) (zh))))))))),hm,F.kp,F.binds (ps:=["one","middle","other"]) fun _ _ _ _ _ _ us hl=>match us,hl with | [_,_,_],_=>rfl⟩ uo
theorem zdP (F:Fun K "pulled" "pulled" vn f fd) (hm:mg "pulled" = some (.ref f)) (c_p_unrepeated:wf P w K mg base k) (c_p_touched:vU P w K mg base k) (c_p_straight_on:xZ P w K mg base k) (b_zip:mg "zip" = none):tK P w K mg base (k+1):=by
 have nd:=(zau).nd
 exact Cal.imp (m:=runD 5 wx) ⟨f,fd,y0 (N:=["start","row","end","way","bends"]) F zau fun cdv A outer s G H E hr =>
  zl (zA (i:=3) true nd (yb (yb (ym (zw (zd (pv 0)) (zG))) (zU c_p_unrepeated hr (zn (zU c_p_touched hr (zn (zd (pv 0)) (zn (zd (pv 1)) (zn (zd (pv 2)) (zD)))) (zo (zo (zo (zL))))) (zD)) (zo (zL)))) (ym (zw (zd (pv 2)) (zG)))))
  (zl ((by first | exact tp (i:=4) true nd (cap:=[]) (own:=["one","middle","other"]) ⟨rfl,by decide +kernel,by decide +kernel,rfl,rfl⟩ (zh5 b_zip (zd (pv 3)) (zbh (zd (pv 3)) (yM (zh)) (vd)) (zbh (zd (pv 3)) (yM (zh)) (vd))) (fun _ _ _=>ve rfl (zO (i:=0) (show (["one","middle","other"]:List Str).Nodup from by decide +kernel) (zO (i:=1) (show (["one","middle","other"]:List Str).Nodup from by decide +kernel) (zO (i:=2) (show (["one","middle","other"]:List Str).Nodup from by decide +kernel) (xW))))) (vD [0,1,2]) (fun _ _ _=>vb (vM (xC (zU c_p_straight_on hr (zn (zd (pv 0)) (zn (zd (pv 1)) (zn (zd (pv 2)) (zD)))) (zo (zo (zo (zL)))))))) (fun _ _ _=>zd (pv 1)) | exact zA (i:=4) true nd (xz (cap:=[]) (own:=["one","middle","other"]) ⟨rfl,by decide +kernel,by decide +kernel,rfl,rfl⟩ (zh5 b_zip (zd (pv 3)) (zbh (zd (pv 3)) (yM (zh)) (vd)) (zbh (zd (pv 3)) (yM (zh)) (vd))) (fun _ _ _=>ve rfl (zO (i:=0) (show (["one","middle","other"]:List Str).Nodup from by decide +kernel) (zO (i:=1) (show (["one","middle","other"]:List Str).Nodup from by decide +kernel) (zO (i:=2) (show (["one","middle","other"]:List Str).Nodup from by decide +kernel) (xW))))) (vD [0,1,2]) (fun _ _ _=>vb (vM (xC (zU c_p_straight_on hr (zn (zd (pv 0)) (zn (zd (pv 1)) (zn (zd (pv 2)) (zD)))) (zo (zo (zo (zL)))))))) (fun _ _ _=>zd (pv 1)))))
  (zu (zF (yb (yb (ym (zw (zd (pv 0)) (zG))) (zd (pv 4))) (ym (zw (zd (pv 2)) (zG))))))),hm,F.kp,F.binds (ps:=["start","row","end"]) fun _ _ _ _ _ _ us hl=>match us,hl with | [_,_,_],_=>rfl⟩ zcf
theorem zij (F:Fun K "_law_whole" "_law_whole" zb5 f fd) (hm:mg "_law_whole" = some (.ref f))  (b_isinstance:mg "isinstance" = none) (b_int:mg "int" = none) (b_bool:mg "bool" = none):zeW P w K mg base (k+1):=by
 have nd:=(zfb).nd
 exact Cal.imp (m:=runD 1 zeD) ⟨f,fd,y0 (N:=["_law_found"]) F zfb fun cdv A outer s G H E hr =>
  zu (zF (zdJ (zfS zln (zd (pv 0)) b_isinstance b_int boot_int) (za0 (zna (zfS zjk (zd (pv 0)) b_isinstance b_bool boot_bool))))),hm,F.kp,F.binds (ps:=["_law_found"]) fun _ _ _ _ _ _ us hl=>match us,hl with | [_],_=>rfl⟩ zgf
theorem zeN (F:Fun K "_law_is_path" "_law_is_path" ua f fd) (hm:mg "_law_is_path" = some (.ref f)) (c_whole:zeW P w K mg base k) (b_isinstance:mg "isinstance" = none) (b_list:mg "list" = none) (b_len:mg "len" = none) (b_tuple:mg "tuple" = none) (b_range:mg "range" = none):zba P w K mg base (k+1):=by
 have nd:=(zbq).nd
 exact Cal.imp (m:=runD 6 va) ⟨f,fd,y0 (N:=["_law_found","_law_pegs_here","_law_start","_law_end","_law_spot_here","_law_k"]) F zbq fun cdv A outer s G H E hr =>
  zl (zW (dt_w (vS (vM (xC (zfS zjj (zd (pv 0)) b_isinstance b_list boot_list))) (wP (zcu (zS zK xy b_len PySem.boot_len (zn (zd (pv 0)) (zD))) (zh)))))
  (zu (zF (tq)))
  (zE))
  (zl (xV PassesOwn.never (yg (zd (pv 0))) (z6 (i:=4) nd)
  (zu (zW (dt_w (vS (vM (xC (zfS zhK (zd (pv 4)) b_isinstance b_tuple boot_tuple))) (vS (tm (hu20 hr) (zS zK xy b_len PySem.boot_len (zn (zd (pv 4)) (zD))) (zh)) (vS (vM (xC (zU c_whole hr (zn (zv (zd (pv 4)) (zh)) (zD)) (zo (zL))))) (wP (vM (xC (zU c_whole hr (zn (zv (zd (pv 4)) (zh)) (zD)) (zo (zL))))))))))
  (zu (zF (tq)))
  (zE))))
  (zl (xV PassesOwn.never (zaY b_range (zn (zh) (zn (zS zK xy b_len PySem.boot_len (zn (zd (pv 0)) (zD))) (zD)))) (z6 (i:=5) nd)
  (zu (zW (dt_w (uB (wz (hu20 hr) (zv (zd (pv 0)) (zd (pv 5))) (zv (zd (pv 0)) (zP (zd (pv 5)) (zh)))) (wH (zcv (zS zK xy b_len PySem.boot_len (zn (zd (pv 0)) (zD))) (zh)))))
  (zu (zF (tq)))
  (zE))))
  (zl (zW (dt_w (vS (tm (hu20 hr) (zv (zd (pv 0)) (zh)) (zd (pv 2))) (wP (tm (hu20 hr) (zv (zd (pv 0)) (xX (zh))) (zd (pv 3))))))
  (zu (zF (tq)))
  (zE))
  (zu (zF (zh9 (hu20 hr) (xz (cap:=[1]) (own:=["_law_spot_here"]) ⟨rfl,by decide +kernel,by decide +kernel,rfl,rfl⟩ (yg (zbh (zd (pv 0)) (yM (zh)) (yM (xX (zh))))) (fun _ _ _=>z6 (i:=1) (show (["_law_pegs_here","_law_spot_here"]:List Str).Nodup from by decide +kernel)) (yx 1) (fun _ _ _=>vb (zkg (hu20 hr) (zd (pv 1)) (zd (pv 0)))) (fun _ _ _=>zd (pv 1))) (ym (zG)))))))),hm,F.kp,F.binds (ps:=["_law_found","_law_pegs_here","_law_start","_law_end"]) fun _ _ _ _ _ _ us hl=>match us,hl with | [_,_,_,_],_=>rfl⟩ zdh
theorem zgn (F:Fun K "_law_within" "_law_within" zac f fd) (hm:mg "_law_within" = some (.ref f))   : uM P w K mg base (k+1):=by
 have nd:=(zc4).nd
 exact Cal.imp (m:=runD 3 vz) ⟨f,fd,y0 (N:=["_law_gate_here","_law_up","_law_wide"]) F zc4 fun cdv A outer s G H E hr =>
  zl (zW (dt_w (uB (vc (zv (zd (pv 0)) (zh)) (yL)) (wH (zcu (zd (pv 1)) (ya (zv (zd (pv 0)) (zh)) (zd (pv 2)))))))
  (zu (zF (tq)))
  (zE))
  (zu (zF (zlz (znc (zv (zd (pv 0)) (zh)) (yL)) (za0 (znb (zd (pv 1)) (ya (zv (zd (pv 0)) (zh)) (zd (pv 2)))))))),hm,F.kp,F.binds (ps:=["_law_gate_here","_law_up","_law_wide"]) fun _ _ _ _ _ _ us hl=>match us,hl with | [_,_,_],_=>rfl⟩ zee
theorem zeK (F:Fun K "_law_upright" "_law_upright" v6 f fd) (hm:mg "_law_upright" = some (.ref f)) (c_within:uM P w K mg base k) (b_max:mg "max" = none) (b_min:mg "min" = none):za7 P w K mg base (k+1):=by
 have nd:=(zbn).nd
 exact Cal.imp (m:=runD 6 ww) ⟨f,fd,y0 (N:=["_law_k","_law_one","_law_other","_law_gate_here","_law_begin","_law_up"]) F zbn fun cdv A outer s G H E hr =>
  zl (zW (dt_w (vS (tm (hu20 hr) (zv (zd (pv 1)) (zh)) (zv (zd (pv 3)) (zh))) (wP (tm (hu20 hr) (zv (zd (pv 2)) (zh)) (zv (zd (pv 3)) (zh))))))
  (zu (zF (yL)))
  (zE))
  (zl (zA (i:=5) true nd (zd (pv 4)))
  (zl (zW (dt_w (uB (zcv (zv (zd (pv 2)) (zh)) (zv (zd (pv 1)) (zh))) (wH (vc (zv (zd (pv 3)) (zh)) (yL)))))
  (zu (zA (i:=5) true nd (zS (zdM rfl) zif b_max boot_max (zn (zd (pv 5)) (zn (zv (zd (pv 3)) (zh)) (zD))))))
  (zE))
  (zl (zW (dt_w (uB (zcu (zv (zd (pv 2)) (zh)) (zv (zd (pv 1)) (zh))) (wH (vc (zv (zd (pv 3)) (zh)) (yL)))))
  (zu (zA (i:=5) true nd (zS (uG rfl) zcA b_min boot_min (zn (zd (pv 5)) (zn (zv (zd (pv 3)) (zh)) (zD))))))
  (zE))
  (zl (zW (dt_w (vS (vM (xC (zU c_within hr (zn (zd (pv 3)) (zn (zd (pv 5)) (zn (zh) (zD)))) (zo (zo (zo (zL))))))) (wP (zcu (ya (zP (zv (zd (pv 2)) (zh)) (zd (pv 5))) (zP (zv (zd (pv 2)) (zh)) (zv (zd (pv 1)) (zh)))) (zh)))))
  (zu (zF (yL)))
  (zE))
  (zl (zW (wz (hu20 hr) (zd (pv 5)) (zv (zd (pv 2)) (zh)))
  (zu (zF (zX (zw (yb (zd (pv 0)) (zh)) (zw (zh) (zw (zh) (zG)))))))
  (zE))
  (zu (zF (zX (zw (zd (pv 0)) (zw (zh) (zw (zd (pv 5)) (zG)))))))))))),hm,F.kp,F.binds (ps:=["_law_k","_law_one","_law_other","_law_gate_here","_law_begin"]) fun _ _ _ _ _ _ us hl=>match us,hl with | [_,_,_,_,_],_=>rfl⟩ zde
theorem zeO (F:Fun K "_law_crossed" "_law_crossed" ud f fd) (hm:mg "_law_crossed" = some (.ref f)) (c_within:uM P w K mg base k)  : zbb P w K mg base (k+1):=by
 have nd:=(zbr).nd
 exact Cal.imp (m:=runD 5 xx) ⟨f,fd,y0 (N:=["_law_one","_law_other","_law_gate_here","_law_wide","_law_up"]) F zbr fun cdv A outer s G H E hr =>
  zl (zA (i:=3) true nd (zP (zv (zd (pv 1)) (zh)) (zv (zd (pv 0)) (zh))))
  (zl (zW (dt_w (vS (zm5 (ya (zP (zv (zd (pv 2)) (zh)) (zv (zd (pv 0)) (zh))) (zd (pv 3))) (zh)) (wP (zm5 (ya (zP (zv (zd (pv 1)) (zh)) (zv (zd (pv 2)) (zh))) (zd (pv 3))) (zh)))))
  (zu (zF (tq)))
  (zE))
  (zl (zA (i:=4) true nd (yb (ya (zv (zd (pv 0)) (zh)) (zd (pv 3))) (ya (zP (zv (zd (pv 1)) (zh)) (zv (zd (pv 0)) (zh))) (zP (zv (zd (pv 2)) (zh)) (zv (zd (pv 0)) (zh))))))
  (zl (zW (zcu (zd (pv 3)) (zh))
  (zu (zF (zU c_within hr (zn (zd (pv 2)) (zn (zP (zh) (zd (pv 4))) (zn (zP (zh) (zd (pv 3))) (zD)))) (zo (zo (zo (zL)))))))
  (zE))
  (zu (zF (zU c_within hr (zn (zd (pv 2)) (zn (zd (pv 4)) (zn (zd (pv 3)) (zD)))) (zo (zo (zo (zL)))))))))),hm,F.kp,F.binds (ps:=["_law_one","_law_other","_law_gate_here"]) fun _ _ _ _ _ _ us hl=>match us,hl with | [_,_,_],_=>rfl⟩ zdi
theorem zeL (F:Fun K "_law_on_edge" "_law_on_edge" v8 f fd) (hm:mg "_law_on_edge" = some (.ref f)) (c_upright:za7 P w K mg base k) (c_crossed:zbb P w K mg base k) (b_int:mg "int" = none):za8 P w K mg base (k+1):=by
 have nd:=(zbo).nd
 exact Cal.imp (m:=runD 7 xR) ⟨f,fd,y0 (N:=["_law_path","_law_k","_law_gate_here","_law_at","_law_one","_law_other","_law_later"]) F zbo fun cdv A outer s G H E hr =>
  zl (zA (i:=4) true nd (zv (zd (pv 0)) (zd (pv 1))))
  (zl (zA (i:=5) true nd (zv (zd (pv 0)) (yb (zd (pv 1)) (zh))))
  (zl (zA (i:=6) true nd (zlz (zh8 (zd (pv 1)) (zv (zd (pv 3)) (zh))) (za0 (zh9 (hu20 hr) (zv (zd (pv 3)) (zh)) (zh)))))
  (zl (zW (wz (hu20 hr) (zv (zd (pv 4)) (zh)) (zv (zd (pv 5)) (zh)))
  (zu (zF (zU c_upright hr (zn (zd (pv 1)) (zn (zd (pv 4)) (zn (zd (pv 5)) (zn (zd (pv 2)) (zn (zv (ym (zw (zv (zd (pv 3)) (zh)) (zw (zv (zd (pv 4)) (zh)) (zG)))) (zcw zdO zkl b_int boot_int (zn (zd (pv 6)) (zD)))) (zD)))))) (zo (zo (zo (zo (zo (zL)))))))))
  (zE))
  (zl (zW (dt_w (uB (xC (zU c_crossed hr (zn (zd (pv 4)) (zn (zd (pv 5)) (zn (zd (pv 2)) (zD)))) (zo (zo (zo (zL)))))) (wH (dt_w (vS (xC (zd (pv 6))) (wP (zm6 (ya (zP (zv (zd (pv 2)) (zh)) (zv (zd (pv 3)) (zh))) (zP (zv (zd (pv 5)) (zh)) (zv (zd (pv 4)) (zh)))) (zh))))))))
  (zu (zF (zX (zw (zd (pv 1)) (zw (zh) (zw (zv (zd (pv 2)) (zh)) (zG)))))))
  (zE))
  (zu (zF (yL))))))),hm,F.kp,F.binds (ps:=["_law_path","_law_k","_law_gate_here","_law_at"]) fun _ _ _ _ _ _ us hl=>match us,hl with | [_,_,_,_],_=>rfl⟩ zdf
theorem zjE (F:Fun K "_law_next" "_law_next" zfi f fd) (hm:mg "_law_next" = some (.ref f)) (c_within:uM P w K mg base k) (c_on_edge:za8 P w K mg base k) (b_len:mg "len" = none) (b_range:mg "range" = none):ziB P w K mg base (k+1):=by
 have nd:=(zgU).nd
 exact Cal.imp (m:=runD 5 zdB) ⟨f,fd,y0 (N:=["_law_path","_law_gate_here","_law_at","_law_k","_law_found"]) F zgU fun cdv A outer s G H E hr =>
  zl (xV PassesOwn.never (zaY b_range (zn (zv (zd (pv 2)) (zh)) (zn (zS zK xy b_len PySem.boot_len (zn (zd (pv 0)) (zD))) (zD)))) (z6 (i:=3) nd)
  (zl (zW (dt_w (vS (zcv (zd (pv 3)) (zv (zd (pv 2)) (zh))) (wP (wz (hu20 hr) (zv (zd (pv 2)) (zh)) (zh)))))
  (zu (zW (dt_w (uB (wz (hu20 hr) (zv (zv (zd (pv 0)) (zd (pv 3))) (zh)) (zv (zd (pv 1)) (zh))) (wH (xC (zU c_within hr (zn (zd (pv 1)) (zn (zv (zv (zd (pv 0)) (zd (pv 3))) (zh)) (zn (zh) (zD)))) (zo (zo (zo (zL)))))))))
  (zu (zF (zX (zw (zd (pv 3)) (zw (zh) (zw (zh) (zG)))))))
  (zE)))
  (zE))
  (zu (zW (zcu (yb (zd (pv 3)) (zh)) (zS zK xy b_len PySem.boot_len (zn (zd (pv 0)) (zD))))
  (zl (zA (i:=4) true nd (zU c_on_edge hr (zn (zd (pv 0)) (zn (zd (pv 3)) (zn (zd (pv 1)) (zn (zd (pv 2)) (zD))))) (zo (zo (zo (zo (zL)))))))
  (zu (zW (vc (zd (pv 4)) (yL))
  (zu (zF (zd (pv 4))))
  (zE))))
  (zE)))))
  (zu (zF (yL))),hm,F.kp,F.binds (ps:=["_law_path","_law_gate_here","_law_at"]) fun _ _ _ _ _ _ us hl=>match us,hl with | [_,_,_],_=>rfl⟩ zhp
theorem zgp (F:Fun K "_law_places" "_law_places" zae f fd) (hm:mg "_law_places" = some (.ref f)) (c_next:ziB P w K mg base k)  : zcR P w K mg base (k+1):=by
 have nd:=(zc6).nd
 exact Cal.imp (m:=runD 5 uw) ⟨f,fd,y0 (N:=["_law_path","_law_row_here","_law_found","_law_at","_law_gate_here"]) F zc6 fun cdv A outer s G H E hr =>
  zl (zA (i:=2) false nd (ym (zG)))
  (zl (zA (i:=3) true nd (zX (zw (zh) (zw (zh) (zw (zh) (zG))))))
  (zl (xV PassesOwn.never (yg (zd (pv 1))) (z6 (i:=4) nd)
  (zl (zA (i:=3) true nd (zU c_next hr (zn (zd (pv 0)) (zn (zd (pv 4)) (zn (zd (pv 3)) (zD)))) (zo (zo (zo (zL))))))
  (zl (zW (zh1 (zd (pv 3)) (yL))
  (zu (zF (yL)))
  (zE))
  (zu (yt (pv 2) (zd (pv 3)))))))
  (zu (zF (zd (pv 2)))))),hm,F.kp,F.binds (ps:=["_law_path","_law_row_here"]) fun _ _ _ _ _ _ us hl=>match us,hl with | [_,_],_=>rfl⟩ zeg
theorem zjF (F:Fun K "_law_hand" "_law_hand" zfj f fd) (hm:mg "_law_hand" = some (.ref f))   : ziC P w K mg base (k+1):=by
 have nd:=(zgV).nd
 exact Cal.imp (m:=runD 2 zbM) ⟨f,fd,y0 (N:=["_law_peg","_law_gate_here"]) F zgV fun cdv A outer s G H E hr =>
  zl (zW (tm (hu20 hr) (zv (zd (pv 1)) (zh)) (zv (zd (pv 0)) (zh)))
  (zu (zF (zh)))
  (zE))
  (zl (zW (wz (hu20 hr) (zv (zd (pv 1)) (zh)) (zv (zd (pv 0)) (zh)))
  (zu (zF (zv (zd (pv 1)) (zh))))
  (zE))
  (zl (zW (wz (hu20 hr) (zv (zd (pv 1)) (zh)) (zv (zd (pv 0)) (zh)))
  (zu (zF (zP (zh) (zv (zd (pv 1)) (zh)))))
  (zE))
  (zu (zF (zh))))),hm,F.kp,F.binds (ps:=["_law_peg","_law_gate_here"]) fun _ _ _ _ _ _ us hl=>match us,hl with | [_,_],_=>rfl⟩ zhq
theorem zjA (F:Fun K "_law_turn" "_law_turn" zfe f fd) (hm:mg "_law_turn" = some (.ref f))   : zix P w K mg base (k+1):=by
 have nd:=(zgQ).nd
 exact Cal.imp (m:=runD 4 zdy) ⟨f,fd,y0 (N:=["_law_one","_law_two","_law_three","_law_found"]) F zgQ fun cdv A outer s G H E hr =>
  zl (zA (i:=3) true nd (ya (zP (zv (zd (pv 1)) (zh)) (zv (zd (pv 0)) (zh))) (zP (zv (zd (pv 2)) (zh)) (zv (zd (pv 1)) (zh)))))
  (zu (zF (zP (zd (pv 3)) (ya (zP (zv (zd (pv 1)) (zh)) (zv (zd (pv 0)) (zh))) (zP (zv (zd (pv 2)) (zh)) (zv (zd (pv 1)) (zh))))))),hm,F.kp,F.binds (ps:=["_law_one","_law_two","_law_three"]) fun _ _ _ _ _ _ us hl=>match us,hl with | [_,_,_],_=>rfl⟩ zhl
theorem zjH (F:Fun K "_law_bend" "_law_bend" zfl f fd) (hm:mg "_law_bend" = some (.ref f)) (c_hand:ziC P w K mg base k) (c_turn:zix P w K mg base k) (b_len:mg "len" = none):ziE P w K mg base (k+1):=by
 have nd:=(zgX).nd
 exact Cal.imp (m:=runD 8 zbN) ⟨f,fd,y0 (N:=["_law_one","_law_two","_law_three","_law_gates","_law_hands","_law_bent","_law_right","_law_over"]) F zgX fun cdv A outer s G H E hr =>
  zl ((by first | exact tp (i:=4) true nd (cap:=[1]) (own:=["_law_gate_here"]) ⟨rfl,by decide +kernel,by decide +kernel,rfl,rfl⟩ (yg (zd (pv 3))) (fun _ _ _=>z6 (i:=1) (show (["_law_two","_law_gate_here"]:List Str).Nodup from by decide +kernel)) (yx 1) (fun _ _ _=>we) (fun _ _ _=>zU c_hand hr (zn (zd (pv 0)) (zn (zd (pv 1)) (zD))) (zo (zo (zL)))) | exact zA (i:=4) true nd (xz (cap:=[1]) (own:=["_law_gate_here"]) ⟨rfl,by decide +kernel,by decide +kernel,rfl,rfl⟩ (yg (zd (pv 3))) (fun _ _ _=>z6 (i:=1) (show (["_law_two","_law_gate_here"]:List Str).Nodup from by decide +kernel)) (yx 1) (fun _ _ _=>we) (fun _ _ _=>zU c_hand hr (zn (zd (pv 0)) (zn (zd (pv 1)) (zD))) (zo (zo (zL)))))))
  (zl (zW (dt_w (vS (wz (hu20 hr) (zd (pv 4)) (ym (zG))) (vS (wz (hu20 hr) (zv (zd (pv 4)) (zh)) (zh)) (wP (tm (hu20 hr) (zd (pv 4)) (xz (cap:=[4]) (own:=["_law_hand_here"]) ⟨rfl,by decide +kernel,by decide +kernel,rfl,rfl⟩ (yg (zd (pv 4))) (fun _ _ _=>z6 (i:=1) (show (["_law_hands","_law_hand_here"]:List Str).Nodup from by decide +kernel)) (yx 1) (fun _ _ _=>we) (fun _ _ _=>zv (zd (pv 0)) (zh))))))))
  (zu (zF (tq)))
  (zE))
  (zl (zA (i:=5) true nd (zU c_turn hr (zn (zd (pv 0)) (zn (zd (pv 1)) (zn (zd (pv 2)) (zD)))) (zo (zo (zo (zL))))))
  (zl (zW (tm (hu20 hr) (zd (pv 5)) (zh))
  (zu (zF (zlz (zh8 (zS zK xy b_len PySem.boot_len (zn (zd (pv 4)) (zD))) (zh)) (za0 (zh8 (ya (zd (pv 5)) (zv (zd (pv 4)) (zh))) (zh))))))
  (zE))
  (zl (zA (i:=6) true nd (ya (zP (zv (zd (pv 1)) (zh)) (zv (zd (pv 0)) (zh))) (zP (zv (zd (pv 2)) (zh)) (zv (zd (pv 1)) (zh)))))
  (zl (zW (zm6 (yb (zd (pv 6)) (ya (zP (zv (zd (pv 1)) (zh)) (zv (zd (pv 0)) (zh))) (zP (zv (zd (pv 2)) (zh)) (zv (zd (pv 1)) (zh))))) (zh))
  (zu (zF (tq)))
  (zE))
  (zl (zW (zcv (zS zK xy b_len PySem.boot_len (zn (zd (pv 4)) (zD))) (zh))
  (zu (zF (tq)))
  (zE))
  (zl (zA (i:=7) true nd (zP (zv (zd (pv 0)) (zh)) (zv (zd (pv 1)) (zh))))
  (zl (zW (wz (hu20 hr) (zv (zv (zd (pv 3)) (zh)) (zh)) (zv (zd (pv 1)) (zh)))
  (zu (zA (i:=7) true nd (zP (zh) (zd (pv 7)))))
  (zE))
  (zu (zF (zdJ (zh9 (hu20 hr) (zv (zd (pv 0)) (zh)) (zv (zd (pv 1)) (zh))) (za0 (zh8 (zd (pv 7)) (zh)))))))))))))),hm,F.kp,F.binds (ps:=["_law_one","_law_two","_law_three","_law_gates"]) fun _ _ _ _ _ _ us hl=>match us,hl with | [_,_,_,_],_=>rfl⟩ zhs
theorem zjB (F:Fun K "_law_taut" "_law_taut" zff f fd) (hm:mg "_law_taut" = some (.ref f)) (c_places:zcR P w K mg base k) (c_bend:ziE P w K mg base k) (b_len:mg "len" = none) (b_range:mg "range" = none) (b_zip:mg "zip" = none):ziy P w K mg base (k+1):=by
 have nd:=(zgR).nd
 exact Cal.imp (m:=runD 5 zdz) ⟨f,fd,y0 (N:=["_law_path","_law_row_here","_law_places_here","_law_k","_law_gates"]) F zgR fun cdv A outer s G H E hr =>
  zl (zA (i:=2) true nd (zU c_places hr (zn (zd (pv 0)) (zn (zd (pv 1)) (zD))) (zo (zo (zL)))))
  (zl (zW (zh1 (zd (pv 2)) (yL))
  (zu (zF (tq)))
  (zE))
  (zl (xV PassesOwn.never (zaY b_range (zn (zh) (zn (zP (zS zK xy b_len PySem.boot_len (zn (zd (pv 0)) (zD))) (zh)) (zD)))) (z6 (i:=3) nd)
  (zl ((by first | exact tp (i:=4) true nd (cap:=[3]) (own:=["_law_gate_here","_law_place"]) ⟨rfl,by decide +kernel,by decide +kernel,rfl,rfl⟩ (zh6 b_zip (zd (pv 1)) (zd (pv 2))) (fun _ _ _=>ve rfl (zO (i:=1) (show (["_law_k","_law_gate_here","_law_place"]:List Str).Nodup from by decide +kernel) (zO (i:=2) (show (["_law_k","_law_gate_here","_law_place"]:List Str).Nodup from by decide +kernel) (xW)))) (vD [1,2]) (fun _ _ _=>vb (wz (hu20 hr) (zbh (zd (pv 2)) (vd) (yM (zh))) (zX (zw (zd (pv 0)) (zw (zh) (zG)))))) (fun _ _ _=>zd (pv 1)) | exact zA (i:=4) true nd (xz (cap:=[3]) (own:=["_law_gate_here","_law_place"]) ⟨rfl,by decide +kernel,by decide +kernel,rfl,rfl⟩ (zh6 b_zip (zd (pv 1)) (zd (pv 2))) (fun _ _ _=>ve rfl (zO (i:=1) (show (["_law_k","_law_gate_here","_law_place"]:List Str).Nodup from by decide +kernel) (zO (i:=2) (show (["_law_k","_law_gate_here","_law_place"]:List Str).Nodup from by decide +kernel) (xW)))) (vD [1,2]) (fun _ _ _=>vb (wz (hu20 hr) (zbh (zd (pv 2)) (vd) (yM (zh))) (zX (zw (zd (pv 0)) (zw (zh) (zG)))))) (fun _ _ _=>zd (pv 1)))))
  (zu (zW (vM (xC (zU c_bend hr (zn (zv (zd (pv 0)) (zP (zd (pv 3)) (zh))) (zn (zv (zd (pv 0)) (zd (pv 3))) (zn (zv (zd (pv 0)) (yb (zd (pv 3)) (zh))) (zn (zd (pv 4)) (zD))))) (zo (zo (zo (zo (zL))))))))
  (zu (zF (tq)))
  (zE)))))
  (zu (zF (tq))))),hm,F.kp,F.binds (ps:=["_law_path","_law_row_here"]) fun _ _ _ _ _ _ us hl=>match us,hl with | [_,_],_=>rfl⟩ zhm
theorem zmG (F:Fun K "law" "law" zd7 f fd) (c_numbers:za9 P w K mg base k) (c_pegs:ziA P w K mg base k) (c_lines:zeX P w K mg base k) (c_row:zlP P w K mg base k) (c_spot:ziz P w K mg base k) (c_scaled:zcQ P w K mg base k) (c_p_pulled:tK P w K mg base k) (c_is_path:zba P w K mg base k) (c_taut:ziy P w K mg base k) (b_len:mg "len" = none) (b_list:mg "list" = none)  : FnOk P w K mg base CX0 (k+1) f fd ["_law_script"] (spD K (runD 15 zcp) 1):=by
 have nd:=(zjY).nd
 exact y0 (N:=["_law_script","_law_head","_law_pegs_here","_law_board","_law_start","_law_cells","_law_row_here","_law_last","_law_by","_law_far","_law_ends","_law_x","_law_y","_law_handed","_law_found"]) F zjY fun cdv A outer s G H E hr =>
  zl (zA (i:=1) true nd (zU c_numbers hr (zn (zd (pv 0)) (zn (zh) (zD))) (zo (zo (zL)))))
  (zl (zA (i:=2) true nd (zU c_pegs hr (zn (zd (pv 1)) (zD)) (zo (zL))))
  (zl (zA (i:=3) true nd (zU c_lines hr (zn (zd (pv 2)) (zD)) (zo (zL))))
  (zl (zA (i:=4) true nd (yw (zv (zd (pv 1)) (zh)) (yb (zS zK xy b_len PySem.boot_len (zn (zd (pv 3)) (zD))) (zh))))
  (zl (zA (i:=5) true nd (ym (zG)))
  (zl (zW (tm (hu20 hr) (zd (pv 3)) (ym (zG)))
  (zu ((by first | exact tp (i:=5) true nd (cap:=[]) (own:=["_law_cell"]) ⟨rfl,by decide +kernel,by decide +kernel,rfl,rfl⟩ (yg (zkj (zd (pv 0)) (yM (zh)) (yM (zh)))) (fun _ _ _=>z6 (i:=0) (show (["_law_cell"]:List Str).Nodup from by decide +kernel)) (yx 0) (fun _ _ _=>we) (fun _ _ _=>yw (zd (pv 0)) (uE (zh) (zh))) | exact zA (i:=5) true nd (xz (cap:=[]) (own:=["_law_cell"]) ⟨rfl,by decide +kernel,by decide +kernel,rfl,rfl⟩ (yg (zkj (zd (pv 0)) (yM (zh)) (yM (zh)))) (fun _ _ _=>z6 (i:=0) (show (["_law_cell"]:List Str).Nodup from by decide +kernel)) (yx 0) (fun _ _ _=>we) (fun _ _ _=>yw (zd (pv 0)) (uE (zh) (zh)))))))
  (zE))
  (zl (zkh (zU c_row hr (zn (zd (pv 3)) (zn (zd (pv 4)) (zn (zd (pv 5)) (zD)))) (zo (zo (zo (zL))))) (ve rfl (zO (i:=6) nd (zO (i:=7) nd (xW)))))
  (zl (zA (i:=8) true nd (zv (ym (zw (zh) (zw (yb (zh) (yw (zv (zd (pv 1)) (zh)) (uE (zh) (zh)))) (zG)))) (yw (zbQ (zv (zd (pv 1)) (zh)) (zh)) (zh))))
  (zl (zA (i:=9) true nd (zX (zw (zh) (zw (zh) (zG)))))
  (zl (zW (wz (hu20 hr) (yw (zbQ (zv (zd (pv 1)) (zh)) (zh)) (zh)) (zh))
  (zu (zA (i:=9) true nd (zX (zw (zP (yw (zv (zd (pv 1)) (zh)) (uE (zh) (zh))) (ya (zh) (uE (zh) (zh)))) (zw (zP (yw (zv (zd (pv 1)) (zh)) (uE (zh) (zh))) (ya (zh) (uE (zh) (zh)))) (zG))))))
  (zE))
  (zl (zA (i:=10) false nd (ym (zG)))
  (zl (xV PassesOwn.never (yg (ym (zw (zU c_spot hr (zn (zd (pv 3)) (zn (zd (pv 4)) (zn (zv (zd (pv 1)) (zh)) (zD)))) (zo (zo (zo (zL))))) (zw (zU c_spot hr (zn (zd (pv 3)) (zn (zd (pv 7)) (zn (zv (zd (pv 1)) (zh)) (zD)))) (zo (zo (zo (zL))))) (zG))))) (ve rfl (zO (i:=11) nd (zO (i:=12) nd (xW))))
  (zu (yt (pv 10) (zX (zw (yb (zd (pv 11)) (zv (zd (pv 9)) (zh))) (zw (yb (ya (zd (pv 12)) (zd (pv 8))) (zv (zd (pv 9)) (zh))) (zG)))))))
  (zl (zA (i:=6) true nd (zU c_scaled hr (zn (zd (pv 6)) (zn (zd (pv 8)) (zn (zd (pv 9)) (zD)))) (zo (zo (zo (zL))))))
  (zl ((by first | exact tp (i:=2) true nd (cap:=[9,8]) (own:=["_law_x","_law_y"]) ⟨rfl,by decide +kernel,by decide +kernel,rfl,rfl⟩ (yg (zd (pv 2))) (fun _ _ _=>ve rfl (zO (i:=2) (show (["_law_far","_law_by","_law_x","_law_y"]:List Str).Nodup from by decide +kernel) (zO (i:=3) (show (["_law_far","_law_by","_law_x","_law_y"]:List Str).Nodup from by decide +kernel) (xW)))) (vD [2,3]) (fun _ _ _=>we) (fun _ _ _=>zX (zw (yb (zd (pv 2)) (zv (zd (pv 0)) (zh))) (zw (yb (ya (zd (pv 3)) (zd (pv 1))) (zv (zd (pv 0)) (zh))) (zG)))) | exact zA (i:=2) true nd (xz (cap:=[9,8]) (own:=["_law_x","_law_y"]) ⟨rfl,by decide +kernel,by decide +kernel,rfl,rfl⟩ (yg (zd (pv 2))) (fun _ _ _=>ve rfl (zO (i:=2) (show (["_law_far","_law_by","_law_x","_law_y"]:List Str).Nodup from by decide +kernel) (zO (i:=3) (show (["_law_far","_law_by","_law_x","_law_y"]:List Str).Nodup from by decide +kernel) (xW)))) (vD [2,3]) (fun _ _ _=>we) (fun _ _ _=>zX (zw (yb (zd (pv 2)) (zv (zd (pv 0)) (zh))) (zw (yb (ya (zd (pv 3)) (zd (pv 1))) (zv (zd (pv 0)) (zh))) (zG)))))))
  (zl (zA (i:=13) true nd (zcw zdN zlD b_list boot_list (zn (zd (pv 6)) (zD))))
  (zl (zA (i:=14) true nd (zU c_p_pulled hr (zn (zv (zd (pv 10)) (zh)) (zn (zd (pv 13)) (zn (zv (zd (pv 10)) (zh)) (zD)))) (zo (zo (zo (zL))))))
  (zl (zW (dt_w (vS (vM (xC (zU c_is_path hr (zn (zd (pv 14)) (zn (zd (pv 2)) (zn (zv (zd (pv 10)) (zh)) (zn (zv (zd (pv 10)) (zh)) (zD))))) (zo (zo (zo (zo (zL)))))))) (wP (tm (hu20 hr) (zd (pv 13)) (zd (pv 6))))))
  (zu (zF (tq)))
  (zE))
  (zu (zF (zU c_taut hr (zn (zd (pv 14)) (zn (zd (pv 6)) (zD))) (zo (zo (zL))))))))))))))))))))))
end
end My
namespace My
open PySem PySem.Spec PyProof.Rows L2 DL
noncomputable abbrev A_ (K:PySem.W.Frag) (x:Str) (f:Addr):Prop:=PySem.W.nsIn K mainGlobals x=some (some (.ref f))
noncomputable abbrev L_ (K:PySem.W.Frag) (f:Addr) (x:Str) (s:Stmt) (oc kV dc pm cd ct:Value) (od an:Option Addr) (sl:Array (Option Value)):Prop:=K.lookup f=some ⟨oc,od,.func (PySem.W.fnOf x x (defArgs s) (defBody s) (defScope s) .none kV dc pm an cd ct),sl⟩
noncomputable abbrev D_ (K:PySem.W.Frag) (cd:Value) (x:Str):Prop:=PySem.W.codeIn K cd x=true
noncomputable abbrev P_ (K:PySem.W.Frag) (f:Addr):Prop:=PySem.W.keepIn K (.ref f)=true
theorem znh {l:PySem.W.OpenLaw} {w:World} {K:PySem.W.Frag} {h:Heap} {mg:Str→Option Value} {fa f1 f2 f3 f4 f5 f6 f7 f8 f9 f10 f11 f12 f13 f14 f15 f16 f17 f18 f19 f20 f21 f22 f23 f24 f25 f26 f27 f28 f29 f30 f31:Addr} (X:K.In h) (G:h.Ns mainGlobals mg) (hfa:mg "law" = some (.ref fa))
 {od1 an1 od2 an2 od3 an3 od4 an4 od5 an5 od6 an6 od7 an7 od8 an8 od9 an9 od10 an10 od11 an11 od12 an12 od13 an13 od14 an14 od15 an15 od16 an16 od17 an17 od18 an18 od19 an19 od20 an20 od21 an21 od22 an22 od23 an23 od24 an24 od25 an25 od26 an26 od27 an27 od28 an28 od29 an29 od30 an30 od31 an31:Option Addr} {sl1 sl2 sl3 sl4 sl5 sl6 sl7 sl8 sl9 sl10 sl11 sl12 sl13 sl14 sl15 sl16 sl17 sl18 sl19 sl20 sl21 sl22 sl23 sl24 sl25 sl26 sl27 sl28 sl29 sl30 sl31:Array (Option Value)} {oc1 kV1 dc1 pm1 cd1 ct1 oc2 kV2 dc2 pm2 cd2 ct2 oc3 kV3 dc3 pm3 cd3 ct3 oc4 kV4 dc4 pm4 cd4 ct4 oc5 kV5 dc5 pm5 cd5 ct5 oc6 kV6 dc6 pm6 cd6 ct6 oc7 kV7 dc7 pm7 cd7 ct7 oc8 kV8 dc8 pm8 cd8 ct8 oc9 kV9 dc9 pm9 cd9 ct9 oc10 kV10 dc10 pm10 cd10 ct10 oc11 kV11 dc11 pm11 cd11 ct11 oc12 kV12 dc12 pm12 cd12 ct12 oc13 kV13 dc13 pm13 cd13 ct13 oc14 kV14 dc14 pm14 cd14 ct14 oc15 kV15 dc15 pm15 cd15 ct15 oc16 kV16 dc16 pm16 cd16 ct16 oc17 kV17 dc17 pm17 cd17 ct17 oc18 kV18 dc18 pm18 cd18 ct18 oc19 kV19 dc19 pm19 cd19 ct19 oc20 kV20 dc20 pm20 cd20 ct20 oc21 kV21 dc21 pm21 cd21 ct21 oc22 kV22 dc22 pm22 cd22 ct22 oc23 kV23 dc23 pm23 cd23 ct23 oc24 kV24 dc24 pm24 cd24 ct24 oc25 kV25 dc25 pm25 cd25 ct25 oc26 kV26 dc26 pm26 cd26 ct26 oc27 kV27 dc27 pm27 cd27 ct27 oc28 kV28 dc28 pm28 cd28 ct28 oc29 kV29 dc29 pm29 cd29 ct29 oc30 kV30 dc30 pm30 cd30 ct30 oc31 kV31 dc31 pm31 cd31 ct31:Value}
 (a1:A_ K "_law_numbers" f1) (l1:L_ K f1 "_law_numbers" v9 oc1 kV1 dc1 pm1 cd1 ct1 od1 an1 sl1) (c1:D_ K cd1 "_law_numbers") (k1:P_ K f1)
 (a2:A_ K "_law_pegs" f2) (l2:L_ K f2 "_law_pegs" zfh oc2 kV2 dc2 pm2 cd2 ct2 od2 an2 sl2) (c2:D_ K cd2 "_law_pegs") (k2:P_ K f2)
 (a3:A_ K "_law_lines" f3) (l3:L_ K f3 "_law_lines" zb6 oc3 kV3 dc3 pm3 cd3 ct3 od3 an3 sl3) (c3:D_ K cd3 "_law_lines") (k3:P_ K f3)
 (a4:A_ K "_law_gate" f4) (l4:L_ K f4 "_law_gate" zfk oc4 kV4 dc4 pm4 cd4 ct4 od4 an4 sl4) (c4:D_ K cd4 "_law_gate") (k4:P_ K f4)
 (a5:A_ K "_law_row" f5) (l5:L_ K f5 "_law_row" ziP oc5 kV5 dc5 pm5 cd5 ct5 od5 an5 sl5) (c5:D_ K cd5 "_law_row") (k5:P_ K f5)
 (a6:A_ K "_law_spot" f6) (l6:L_ K f6 "_law_spot" zfg oc6 kV6 dc6 pm6 cd6 ct6 od6 an6 sl6) (c6:D_ K cd6 "_law_spot") (k6:P_ K f6)
 (a7:A_ K "_law_scaled" f7) (l7:L_ K f7 "_law_scaled" zad oc7 kV7 dc7 pm7 cd7 ct7 od7 an7 sl7) (c7:D_ K cd7 "_law_scaled") (k7:P_ K f7)
 (a8:A_ K "unrepeated" f8) (l8:L_ K f8 "unrepeated" xq oc8 kV8 dc8 pm8 cd8 ct8 od8 an8 sl8) (c8:D_ K cd8 "unrepeated") (k8:P_ K f8)
 (a9:A_ K "lies_below" f9) (l9:L_ K f9 "lies_below" xt oc9 kV9 dc9 pm9 cd9 ct9 od9 an9 sl9) (c9:D_ K cd9 "lies_below") (k9:P_ K f9)
 (a10:A_ K "turning_pegs" f10) (l10:L_ K f10 "turning_pegs" yV oc10 kV10 dc10 pm10 cd10 ct10 od10 an10 sl10) (c10:D_ K cd10 "turning_pegs") (k10:P_ K f10)
 (a11:A_ K "crossed" f11) (l11:L_ K f11 "crossed" wF oc11 kV11 dc11 pm11 cd11 ct11 od11 an11 sl11) (c11:D_ K cd11 "crossed") (k11:P_ K f11)
 (a12:A_ K "side_of" f12) (l12:L_ K f12 "side_of" wE oc12 kV12 dc12 pm12 cd12 ct12 od12 an12 sl12) (c12:D_ K cd12 "side_of") (k12:P_ K f12)
 (a13:A_ K "pegs_beyond" f13) (l13:L_ K f13 "pegs_beyond" xh oc13 kV13 dc13 pm13 cd13 ct13 od13 an13 sl13) (c13:D_ K cd13 "pegs_beyond") (k13:P_ K f13)
 (a14:A_ K "farthest_beyond" f14) (l14:L_ K f14 "farthest_beyond" yn oc14 kV14 dc14 pm14 cd14 ct14 od14 an14 sl14) (c14:D_ K cd14 "farthest_beyond") (k14:P_ K f14)
 (a15:A_ K "run_pulled" f15) (l15:L_ K f15 "run_pulled" xr oc15 kV15 dc15 pm15 cd15 ct15 od15 an15 sl15) (c15:D_ K cd15 "run_pulled") (k15:P_ K f15)
 (a16:A_ K "touched" f16) (l16:L_ K f16 "touched" wD oc16 kV16 dc16 pm16 cd16 ct16 od16 an16 sl16) (c16:D_ K cd16 "touched") (k16:P_ K f16)
 (a17:A_ K "straight_on" f17) (l17:L_ K f17 "straight_on" xg oc17 kV17 dc17 pm17 cd17 ct17 od17 an17 sl17) (c17:D_ K cd17 "straight_on") (k17:P_ K f17)
 (a18:A_ K "pulled" f18) (l18:L_ K f18 "pulled" vn oc18 kV18 dc18 pm18 cd18 ct18 od18 an18 sl18) (c18:D_ K cd18 "pulled") (k18:P_ K f18)
 (a19:A_ K "_law_whole" f19) (l19:L_ K f19 "_law_whole" zb5 oc19 kV19 dc19 pm19 cd19 ct19 od19 an19 sl19) (c19:D_ K cd19 "_law_whole") (k19:P_ K f19)
 (a20:A_ K "_law_is_path" f20) (l20:L_ K f20 "_law_is_path" ua oc20 kV20 dc20 pm20 cd20 ct20 od20 an20 sl20) (c20:D_ K cd20 "_law_is_path") (k20:P_ K f20)
 (a21:A_ K "_law_within" f21) (l21:L_ K f21 "_law_within" zac oc21 kV21 dc21 pm21 cd21 ct21 od21 an21 sl21) (c21:D_ K cd21 "_law_within") (k21:P_ K f21)
 (a22:A_ K "_law_upright" f22) (l22:L_ K f22 "_law_upright" v6 oc22 kV22 dc22 pm22 cd22 ct22 od22 an22 sl22) (c22:D_ K cd22 "_law_upright") (k22:P_ K f22)
 (a23:A_ K "_law_crossed" f23) (l23:L_ K f23 "_law_crossed" ud oc23 kV23 dc23 pm23 cd23 ct23 od23 an23 sl23) (c23:D_ K cd23 "_law_crossed") (k23:P_ K f23)
 (a24:A_ K "_law_on_edge" f24) (l24:L_ K f24 "_law_on_edge" v8 oc24 kV24 dc24 pm24 cd24 ct24 od24 an24 sl24) (c24:D_ K cd24 "_law_on_edge") (k24:P_ K f24)
 (a25:A_ K "_law_next" f25) (l25:L_ K f25 "_law_next" zfi oc25 kV25 dc25 pm25 cd25 ct25 od25 an25 sl25) (c25:D_ K cd25 "_law_next") (k25:P_ K f25)
 (a26:A_ K "_law_places" f26) (l26:L_ K f26 "_law_places" zae oc26 kV26 dc26 pm26 cd26 ct26 od26 an26 sl26) (c26:D_ K cd26 "_law_places") (k26:P_ K f26)
 (a27:A_ K "_law_hand" f27) (l27:L_ K f27 "_law_hand" zfj oc27 kV27 dc27 pm27 cd27 ct27 od27 an27 sl27) (c27:D_ K cd27 "_law_hand") (k27:P_ K f27)
 (a28:A_ K "_law_turn" f28) (l28:L_ K f28 "_law_turn" zfe oc28 kV28 dc28 pm28 cd28 ct28 od28 an28 sl28) (c28:D_ K cd28 "_law_turn") (k28:P_ K f28)
 (a29:A_ K "_law_bend" f29) (l29:L_ K f29 "_law_bend" zfl oc29 kV29 dc29 pm29 cd29 ct29 od29 an29 sl29) (c29:D_ K cd29 "_law_bend") (k29:P_ K f29)
 (a30:A_ K "_law_taut" f30) (l30:L_ K f30 "_law_taut" zff oc30 kV30 dc30 pm30 cd30 ct30 od30 an30 sl30) (c30:D_ K cd30 "_law_taut") (k30:P_ K f30)
 (a31:A_ K "law" f31) (l31:L_ K f31 "law" zd7 oc31 kV31 dc31 pm31 cd31 ct31 od31 an31 sl31) (c31:D_ K cd31 "law") (k31:P_ K f31)
 (z_range:PySem.W.nsIn K mainGlobals "range" = some none)
 (z_len:PySem.W.nsIn K mainGlobals "len" = some none)
 (z_min:PySem.W.nsIn K mainGlobals "min" = some none)
 (z_max:PySem.W.nsIn K mainGlobals "max" = some none)
 (z_sorted:PySem.W.nsIn K mainGlobals "sorted" = some none)
 (z_set:PySem.W.nsIn K mainGlobals "set" = some none)
 (z_int:PySem.W.nsIn K mainGlobals "int" = some none)
 (z_reversed:PySem.W.nsIn K mainGlobals "reversed" = some none)
 (z_zip:PySem.W.nsIn K mainGlobals "zip" = some none)
 (z_isinstance:PySem.W.nsIn K mainGlobals "isinstance" = some none)
 (z_bool:PySem.W.nsIn K mainGlobals "bool" = some none)
 (z_list:PySem.W.nsIn K mainGlobals "list" = some none)
 (z_tuple:PySem.W.nsIn K mainGlobals "tuple" = some none) :
 ∃ fd:FuncData,(∀ (s:Shared) (v:Value),BindsTo s fd ⟨[v],[]⟩ [("_law_script",v)])∧∀ base:Heap,K.In base→base.Ns mainGlobals mg→FnOk l.prog w K mg base CX0 7 fa fd ["_law_script"] (spD K (runD 15 zcp) 1):=by
 have e:=hfa.symm.trans (PySem.W.mg_of X G a31)
 cases e
 have b_range:=PySem.W.mg_none_of X G z_range
 have b_len:=PySem.W.mg_none_of X G z_len
 have b_min:=PySem.W.mg_none_of X G z_min
 have b_max:=PySem.W.mg_none_of X G z_max
 have b_sorted:=PySem.W.mg_none_of X G z_sorted
 have b_set:=PySem.W.mg_none_of X G z_set
 have b_int:=PySem.W.mg_none_of X G z_int
 have b_reversed:=PySem.W.mg_none_of X G z_reversed
 have b_zip:=PySem.W.mg_none_of X G z_zip
 have b_isinstance:=PySem.W.mg_none_of X G z_isinstance
 have b_bool:=PySem.W.mg_none_of X G z_bool
 have b_list:=PySem.W.mg_none_of X G z_list
 have b_tuple:=PySem.W.mg_none_of X G z_tuple
 have F1:=z8 (st:=v9) l1 c1 k1
 have F2:=z8 (st:=zfh) l2 c2 k2
 have F3:=z8 (st:=zb6) l3 c3 k3
 have F4:=z8 (st:=zfk) l4 c4 k4
 have F5:=z8 (st:=ziP) l5 c5 k5
 have F6:=z8 (st:=zfg) l6 c6 k6
 have F7:=z8 (st:=zad) l7 c7 k7
 have F8:=z8 (st:=xq) l8 c8 k8
 have F9:=z8 (st:=xt) l9 c9 k9
 have F10:=z8 (st:=yV) l10 c10 k10
 have F11:=z8 (st:=wF) l11 c11 k11
 have F12:=z8 (st:=wE) l12 c12 k12
 have F13:=z8 (st:=xh) l13 c13 k13
 have F14:=z8 (st:=yn) l14 c14 k14
 have F15:=z8 (st:=xr) l15 c15 k15
 have F16:=z8 (st:=wD) l16 c16 k16
 have F17:=z8 (st:=xg) l17 c17 k17
 have F18:=z8 (st:=vn) l18 c18 k18
 have F19:=z8 (st:=zb5) l19 c19 k19
 have F20:=z8 (st:=ua) l20 c20 k20
 have F21:=z8 (st:=zac) l21 c21 k21
 have F22:=z8 (st:=v6) l22 c22 k22
 have F23:=z8 (st:=ud) l23 c23 k23
 have F24:=z8 (st:=v8) l24 c24 k24
 have F25:=z8 (st:=zfi) l25 c25 k25
 have F26:=z8 (st:=zae) l26 c26 k26
 have F27:=z8 (st:=zfj) l27 c27 k27
 have F28:=z8 (st:=zfe) l28 c28 k28
 have F29:=z8 (st:=zfl) l29 c29 k29
 have F30:=z8 (st:=zff) l30 c30 k30
 have F31:=z8 (st:=zd7) l31 c31 k31
 refine ⟨PySem.W.fnOf "law" "law" (defArgs zd7) (defBody zd7) (defScope zd7) .none kV31 dc31 pm31 an31 cd31 ct31,fun s v=>.of_eq rfl,fun base _ _ => ?run⟩
 case run =>
  have q_numbers:za9 l.prog w K mg base 1:=zeM (k:=0) F1 (PySem.W.mg_of X G a1)  b_range b_len b_min b_max
  have q_pegs:ziA l.prog w K mg base 1:=zjD (k:=0) F2 (PySem.W.mg_of X G a2)  b_range
  have q_lines:zeX l.prog w K mg base 1:=zik (k:=0) F3 (PySem.W.mg_of X G a3)  b_sorted b_set
  have q_gate:ziD l.prog w K mg base 1:=zjG (k:=0) F4 (PySem.W.mg_of X G a4)  b_len
  have q_row:zlP l.prog w K mg base 2:=zlE (k:=1) F5 (PySem.W.mg_of X G a5) (q_gate.mono (by decide)) b_len b_int b_min
  have q_spot:ziz l.prog w K mg base 1:=zjC (k:=0) F6 (PySem.W.mg_of X G a6)  b_len
  have q_scaled:zcQ l.prog w K mg base 1:=zgo (k:=0) F7 (PySem.W.mg_of X G a7)
  have q_p_unrepeated:wf l.prog w K mg base 1:=t8 (k:=0) F8 (PySem.W.mg_of X G a8)
  have q_p_lies_below:wk l.prog w K mg base 1:=zaa (k:=0) F9 (PySem.W.mg_of X G a9)
  have q_p_turning_pegs:xA l.prog w K mg base 2:=uH (k:=1) F10 (PySem.W.mg_of X G a10) (q_p_lies_below.mono (by decide))
  have q_p_crossed:vW l.prog w K mg base 1:=zcD (k:=0) F11 (PySem.W.mg_of X G a11)  b_reversed
  have q_p_side_of:vV l.prog w K mg base 1:=zcC (k:=0) F12 (PySem.W.mg_of X G a12)
  have q_p_pegs_beyond:x3 l.prog w K mg base 2:=tB (k:=1) F13 (PySem.W.mg_of X G a13) (q_p_side_of.mono (by decide))
  have q_p_farthest_beyond:y8 l.prog w K mg base 3:=vf (k:=2) F14 (PySem.W.mg_of X G a14) (q_p_crossed.mono (by decide)) (q_p_pegs_beyond.mono (by decide))
  have q_p_run_pulled:wj l.prog w K mg base 4:=t9 (k:=3) F15 (PySem.W.mg_of X G a15) (q_p_farthest_beyond.mono (by decide))
  have q_p_touched:vU l.prog w K mg base 5:=zcB (k:=4) F16 (PySem.W.mg_of X G a16) (q_p_turning_pegs.mono (by decide)) (q_p_run_pulled.mono (by decide))
  have q_p_straight_on:xZ l.prog w K mg base 1:=tz (k:=0) F17 (PySem.W.mg_of X G a17)
  have q_p_pulled:tK l.prog w K mg base 6:=zdP (k:=5) F18 (PySem.W.mg_of X G a18) (q_p_unrepeated.mono (by decide)) (q_p_touched.mono (by decide)) (q_p_straight_on.mono (by decide)) b_zip
  have q_whole:zeW l.prog w K mg base 1:=zij (k:=0) F19 (PySem.W.mg_of X G a19)  b_isinstance b_int b_bool
  have q_is_path:zba l.prog w K mg base 2:=zeN (k:=1) F20 (PySem.W.mg_of X G a20) (q_whole.mono (by decide)) b_isinstance b_list b_len b_tuple b_range
  have q_within:uM l.prog w K mg base 1:=zgn (k:=0) F21 (PySem.W.mg_of X G a21)
  have q_upright:za7 l.prog w K mg base 2:=zeK (k:=1) F22 (PySem.W.mg_of X G a22) (q_within.mono (by decide)) b_max b_min
  have q_crossed:zbb l.prog w K mg base 2:=zeO (k:=1) F23 (PySem.W.mg_of X G a23) (q_within.mono (by decide))
  have q_on_edge:za8 l.prog w K mg base 3:=zeL (k:=2) F24 (PySem.W.mg_of X G a24) (q_upright.mono (by decide)) (q_crossed.mono (by decide)) b_int
  have q_next:ziB l.prog w K mg base 4:=zjE (k:=3) F25 (PySem.W.mg_of X G a25) (q_within.mono (by decide)) (q_on_edge.mono (by decide)) b_len b_range
  have q_places:zcR l.prog w K mg base 5:=zgp (k:=4) F26 (PySem.W.mg_of X G a26) (q_next.mono (by decide))
  have q_hand:ziC l.prog w K mg base 1:=zjF (k:=0) F27 (PySem.W.mg_of X G a27)
  have q_turn:zix l.prog w K mg base 1:=zjA (k:=0) F28 (PySem.W.mg_of X G a28)
  have q_bend:ziE l.prog w K mg base 2:=zjH (k:=1) F29 (PySem.W.mg_of X G a29) (q_hand.mono (by decide)) (q_turn.mono (by decide)) b_len
  have q_taut:ziy l.prog w K mg base 6:=zjB (k:=5) F30 (PySem.W.mg_of X G a30) (q_places.mono (by decide)) (q_bend.mono (by decide)) b_len b_range b_zip
  exact zmG (k:=6) F31 (q_numbers.mono (by decide)) (q_pegs.mono (by decide)) (q_lines.mono (by decide)) (q_row.mono (by decide)) (q_spot.mono (by decide)) (q_scaled.mono (by decide)) (q_p_pulled.mono (by decide)) (q_is_path.mono (by decide)) (q_taut.mono (by decide)) b_len b_list
theorem zmQ (main:∀ ns:List Int,ns.length≤63→runD 15 zcp [.scr ns]=.ok (.pers (.bl true))) (K:PySem.W.Frag) (H:Hp) (a:Addr) (ns:List Int) (hl:ns.length≤63) (hS:SqL K H a (ns.map V.int)) :
 spD K (runD 15 zcp) 1 [.ref a] H (fun v _=>v=.bl true) fun _ _ _=>False :=
 ⟨H,[.scr ns],_,rfl,Same.refl _,⟨_,_,rfl,⟨a,rfl,hS⟩,rfl⟩,main ns hl,fun v G' H' _ _ h=>h⟩
end My
namespace My
open PySem PySem.Spec PyProof.Rows L2 DL
end My
open PySem PySem.W PyProof.Rows
set_option maxRecDepth 100000 in
set_option maxHeartbeats 0 in
theorem PySem.Challenge.cw_tautline_k31_whole_pulled_tight_holds : PySem.Challenge.rw_tautline_k31_whole_pulled_tight.Holds := by
 w_on; o_law; k_head; (case hw=>w_witness2)
 k_fill
 refine L2.ziG (l:=PySem.Challenge.rw_tautline_k31_whole_pulled_tight) (n:=63) (k:=7) (x := "_law_script") (CX:=L2.CX0) (sp:=fun K=>DL.spD K (DL.runD 15 My.zcp) 1) rfl (by decide) rfl ⟨rfl,by decide,by decide⟩ (fun w h Y=>PySem.W.kIn_of Y) ?F ?S ?C
 case F =>
  intro w mg fa h KX G hmg
  refine' My.znh KX G hmg ?a1 ?l1 ?c1 ?k1 ?a2 ?l2 ?c2 ?k2 ?a3 ?l3 ?c3 ?k3 ?a4 ?l4 ?c4 ?k4 ?a5 ?l5 ?c5 ?k5 ?a6 ?l6 ?c6 ?k6 ?a7 ?l7 ?c7 ?k7 ?a8 ?l8 ?c8 ?k8 ?a9 ?l9 ?c9 ?k9 ?a10 ?l10 ?c10 ?k10 ?a11 ?l11 ?c11 ?k11 ?a12 ?l12 ?c12 ?k12 ?a13 ?l13 ?c13 ?k13 ?a14 ?l14 ?c14 ?k14 ?a15 ?l15 ?c15 ?k15 ?a16 ?l16 ?c16 ?k16 ?a17 ?l17 ?c17 ?k17 ?a18 ?l18 ?c18 ?k18 ?a19 ?l19 ?c19 ?k19 ?a20 ?l20 ?c20 ?k20 ?a21 ?l21 ?c21 ?k21 ?a22 ?l22 ?c22 ?k22 ?a23 ?l23 ?c23 ?k23 ?a24 ?l24 ?c24 ?k24 ?a25 ?l25 ?c25 ?k25 ?a26 ?l26 ?c26 ?k26 ?a27 ?l27 ?c27 ?k27 ?a28 ?l28 ?c28 ?k28 ?a29 ?l29 ?c29 ?k29 ?a30 ?l30 ?c30 ?k30 ?a31 ?l31 ?c31 ?k31 ?z_range ?z_len ?z_min ?z_max ?z_sorted ?z_set ?z_int ?z_reversed ?z_zip ?z_isinstance ?z_bool ?z_list ?z_tuple
  (case a1=>unfold My.A_; k_is); (case l1=>unfold My.L_; k_is); (case c1=>unfold My.D_; k_is); (case k1=>unfold My.P_; k_is)
  (case a2=>unfold My.A_; k_is); (case l2=>unfold My.L_; k_is); (case c2=>unfold My.D_; k_is); (case k2=>unfold My.P_; k_is)
  (case a3=>unfold My.A_; k_is); (case l3=>unfold My.L_; k_is); (case c3=>unfold My.D_; k_is); (case k3=>unfold My.P_; k_is)
  (case a4=>unfold My.A_; k_is); (case l4=>unfold My.L_; k_is); (case c4=>unfold My.D_; k_is); (case k4=>unfold My.P_; k_is)
  (case a5=>unfold My.A_; k_is); (case l5=>unfold My.L_; k_is); (case c5=>unfold My.D_; k_is); (case k5=>unfold My.P_; k_is)
  (case a6=>unfold My.A_; k_is); (case l6=>unfold My.L_; k_is); (case c6=>unfold My.D_; k_is); (case k6=>unfold My.P_; k_is)
  (case a7=>unfold My.A_; k_is); (case l7=>unfold My.L_; k_is); (case c7=>unfold My.D_; k_is); (case k7=>unfold My.P_; k_is)
  (case a8=>unfold My.A_; k_is); (case l8=>unfold My.L_; k_is); (case c8=>unfold My.D_; k_is); (case k8=>unfold My.P_; k_is)
  (case a9=>unfold My.A_; k_is); (case l9=>unfold My.L_; k_is); (case c9=>unfold My.D_; k_is); (case k9=>unfold My.P_; k_is)
  (case a10=>unfold My.A_; k_is); (case l10=>unfold My.L_; k_is); (case c10=>unfold My.D_; k_is); (case k10=>unfold My.P_; k_is)
  (case a11=>unfold My.A_; k_is); (case l11=>unfold My.L_; k_is); (case c11=>unfold My.D_; k_is); (case k11=>unfold My.P_; k_is)
  (case a12=>unfold My.A_; k_is); (case l12=>unfold My.L_; k_is); (case c12=>unfold My.D_; k_is); (case k12=>unfold My.P_; k_is)
  (case a13=>unfold My.A_; k_is); (case l13=>unfold My.L_; k_is); (case c13=>unfold My.D_; k_is); (case k13=>unfold My.P_; k_is)
  (case a14=>unfold My.A_; k_is); (case l14=>unfold My.L_; k_is); (case c14=>unfold My.D_; k_is); (case k14=>unfold My.P_; k_is)
  (case a15=>unfold My.A_; k_is); (case l15=>unfold My.L_; k_is); (case c15=>unfold My.D_; k_is); (case k15=>unfold My.P_; k_is)
  (case a16=>unfold My.A_; k_is); (case l16=>unfold My.L_; k_is); (case c16=>unfold My.D_; k_is); (case k16=>unfold My.P_; k_is)
  (case a17=>unfold My.A_; k_is); (case l17=>unfold My.L_; k_is); (case c17=>unfold My.D_; k_is); (case k17=>unfold My.P_; k_is)
  (case a18=>unfold My.A_; k_is); (case l18=>unfold My.L_; k_is); (case c18=>unfold My.D_; k_is); (case k18=>unfold My.P_; k_is)
  (case a19=>unfold My.A_; k_is); (case l19=>unfold My.L_; k_is); (case c19=>unfold My.D_; k_is); (case k19=>unfold My.P_; k_is)
  (case a20=>unfold My.A_; k_is); (case l20=>unfold My.L_; k_is); (case c20=>unfold My.D_; k_is); (case k20=>unfold My.P_; k_is)
  (case a21=>unfold My.A_; k_is); (case l21=>unfold My.L_; k_is); (case c21=>unfold My.D_; k_is); (case k21=>unfold My.P_; k_is)
  (case a22=>unfold My.A_; k_is); (case l22=>unfold My.L_; k_is); (case c22=>unfold My.D_; k_is); (case k22=>unfold My.P_; k_is)
  (case a23=>unfold My.A_; k_is); (case l23=>unfold My.L_; k_is); (case c23=>unfold My.D_; k_is); (case k23=>unfold My.P_; k_is)
  (case a24=>unfold My.A_; k_is); (case l24=>unfold My.L_; k_is); (case c24=>unfold My.D_; k_is); (case k24=>unfold My.P_; k_is)
  (case a25=>unfold My.A_; k_is); (case l25=>unfold My.L_; k_is); (case c25=>unfold My.D_; k_is); (case k25=>unfold My.P_; k_is)
  (case a26=>unfold My.A_; k_is); (case l26=>unfold My.L_; k_is); (case c26=>unfold My.D_; k_is); (case k26=>unfold My.P_; k_is)
  (case a27=>unfold My.A_; k_is); (case l27=>unfold My.L_; k_is); (case c27=>unfold My.D_; k_is); (case k27=>unfold My.P_; k_is)
  (case a28=>unfold My.A_; k_is); (case l28=>unfold My.L_; k_is); (case c28=>unfold My.D_; k_is); (case k28=>unfold My.P_; k_is)
  (case a29=>unfold My.A_; k_is); (case l29=>unfold My.L_; k_is); (case c29=>unfold My.D_; k_is); (case k29=>unfold My.P_; k_is)
  (case a30=>unfold My.A_; k_is); (case l30=>unfold My.L_; k_is); (case c30=>unfold My.D_; k_is); (case k30=>unfold My.P_; k_is)
  (case a31=>unfold My.A_; k_is); (case l31=>unfold My.L_; k_is); (case c31=>unfold My.D_; k_is); (case k31=>unfold My.P_; k_is)
  (case z_range=>k_is)
  (case z_len=>k_is)
  (case z_min=>k_is)
  (case z_max=>k_is)
  (case z_sorted=>k_is)
  (case z_set=>k_is)
  (case z_int=>k_is)
  (case z_reversed=>k_is)
  (case z_zip=>k_is)
  (case z_isinstance=>k_is)
  (case z_bool=>k_is)
  (case z_list=>k_is)
  (case z_tuple=>k_is)
 case S=>exact fun K H a ns hl hO hS=>My.zmQ My.main K H a ns hl hS
 case C=>exact fun _ _ _ _ z=>z
