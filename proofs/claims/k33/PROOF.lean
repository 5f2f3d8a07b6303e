import PyProof.Rows.All
import Wide.All
import OpenK.AllK
import Wide.FinOn
import Lean
import PyProof.EqAt
import PyProof.EqKinds
import PyProof.TupleCall
import KE.KItemsList
import KE.KMinBuiltin
import KE.KRevIter
import KE.KTryMore
import PyProof.ExcArgs
import PyProof.ExcAttrAll.ValueError
import PyProof.NsDelKeeps
import PyProof.InstStoreFacts
import PySem.Challenge.RW_tautline_k33_wound_round_all_pegs
set_option bootstrap.genMatcherCode false
set_option compiler.extract_closed false
set_option genSizeOfSpec false
set_option Elab.async false
set_option linter.all false
set_option maxRecDepth 100000
namespace L2
open PySem PySem.Spec PyProof.Rows
noncomputable abbrev Key:=Sum Int Str
noncomputable def zfm:Key→Value→Bool
 | .inl k,v=>Value.isInt k v
 | .inr x,v=>Value.isStrOf x v
noncomputable def keyH (w:World):Key→Int
 | .inl k=>hashInt k
 | .inr x=>hashStr w x
theorem ye:∀ {k:Key} {v:Value},zfm k v=true→(∃ i t,k=Sum.inl i∧v=Value.int i t)∨(∃ x t,k=Sum.inr x∧v=Value.str x t)
 | .inl i,v,h=>by
   obtain ⟨t,e⟩:=Value.isInt_shape (k:=i) (v:=v) h
   exact .inl ⟨i,t,rfl,e⟩
 | .inr x,v,h=>by
   obtain ⟨t,e⟩:=Value.isStrOf_shape (x:=x) (v:=v) h
   exact .inr ⟨x,t,rfl,e⟩
theorem zgJ (i:Int) (t:Tok):zfm (.inl i) (.int i t)=true:=by simp [zfm,Value.isInt]
theorem zgI (x:Str) (t:Tok):zfm (.inr x) (.str x t)=true:=by simp [zfm,Value.isStrOf]
theorem zlq (a b:Int):decide ((Sum.inl a:Key)=Sum.inl b)=(a == b):=by
 by_cases e:a=b
 ·subst e; simp
 ·have h:¬ (Sum.inl a:Key)=Sum.inl b:=fun q=>e (Sum.inl.inj q)
  rw [decide_eq_false h]
  exact (beq_eq_false_iff_ne.mpr e).symm
theorem zln (a b:Str):decide ((Sum.inr a:Key)=Sum.inr b)=decide (a=b):=by
 by_cases e:a=b
 ·subst e; simp
 ·have h:¬ (Sum.inr a:Key)=Sum.inr b:=fun q=>e (Sum.inr.inj q)
  rw [decide_eq_false h,decide_eq_false e]
theorem zlp (a:Int) (b:Str):decide ((Sum.inl a:Key)=Sum.inr b)=false:=decide_eq_false (fun q=>nomatch q)
theorem zlo (a:Str) (b:Int):decide ((Sum.inr a:Key)=Sum.inl b)=false:=decide_eq_false (fun q=>nomatch q)
noncomputable def yy (prog:Program) (w:World):PySem.KeyKind prog w Key where
 is:=zfm
 hash:=keyH w
 inj:=fun v a b ha hb=>by
  rcases ye ha with ⟨i,t,rfl,rfl⟩ | ⟨x,t,rfl,rfl⟩
  ·rcases ye hb with ⟨j,u,rfl,e⟩ | ⟨y,u,rfl,e⟩
   ·injection e with e1 _; rw [e1]
   ·exact nomatch e
  ·rcases ye hb with ⟨j,u,rfl,e⟩ | ⟨y,u,rfl,e⟩
   ·exact nomatch e
   ·injection e with e1 _; rw [e1]
 byValue:=fun k v h=>by
  rcases ye h with ⟨i,t,rfl,rfl⟩ | ⟨x,t,rfl,rfl⟩ <;> rfl
 pyHash:=fun hv h=>by
  rcases ye hv with ⟨i,t,rfl,rfl⟩ | ⟨x,t,rfl,rfl⟩
  ·exact wpAny_pyHash_int h
  ·exact wpAny_pyHash_str h
 eqBool:=fun hu hv h=>by
  rcases ye hu with ⟨i,t,rfl,rfl⟩ | ⟨x,t,rfl,rfl⟩
  ·rcases ye hv with ⟨j,u,rfl,rfl⟩ | ⟨y,u,rfl,rfl⟩
   ·rw [zlq] at h; exact wpAny_eqBool_int h
   ·rw [zlp] at h; exact SeqAt.EqAt.int_str i t y u _ _ _ _ h
  ·rcases ye hv with ⟨j,u,rfl,rfl⟩ | ⟨y,u,rfl,rfl⟩
   ·rw [zlo] at h; exact SeqAt.EqAt.str_int x t j u _ _ _ _ h
   ·rw [zln] at h; exact wpAny_eqBool_str h
 «strs» := fun k x t v h=>by
  rcases ye h with ⟨i,u,rfl,e⟩ | ⟨y,u,rfl,e⟩
  ·exact nomatch e
  ·injection e with e1 _
   subst e1
   cases v <;> rfl
theorem zdp (prog:Program) (w:World) (i:Int) (t:Tok):(yy prog w).is (.inl i) (.int i t)=true:=zgJ i t
theorem zdo (prog:Program) (w:World) (x:Str) (t:Tok):(yy prog w).is (.inr x) (.str x t)=true:=zgI x t
end L2
namespace L2
open PySem PySem.Spec PyProof.Rows
inductive V where
 | non | bl (b:Bool) | int (i:Int) | str (x:Str) | byt (b:Array UInt8) | flt (b:UInt64) | ref (a:Addr) | ty (n:String)
 deriving DecidableEq
noncomputable def RelV:V→Value→Prop
 | .non,u=>u=Value.none
 | .bl b,u=>u=Value.bool b
 | .int i,u=>∃ t,u=Value.int i t
 | .str x,u=>∃ t,u=Value.str x t
 | .byt b,u=>∃ t,u=Value.bytes b t
 | .flt b,u=>∃ t,u=Value.float b t
 | .ref a,u=>u=Value.ref a
 | .ty n,u=>u=Value.type n
noncomputable abbrev Vals:List V→List Value→Prop:=Paired RelV
theorem Vals.length {xs:List V} {us:List Value} (r:Vals xs us):xs.length=us.length:=Paired.length r
theorem Vals.get:∀ {xs:List V} {us:List Value} {i:Nat} {x:V},Vals xs us→xs[i]?=some x→∃ u,us[i]?=some u∧RelV x u
 | _,_,_,_,.nil,e=>by simp at e
 | _,_,0,_,.cons r _,e=>by simp at e; subst e; exact ⟨_,rfl,r⟩
 | _,_,i+1,x,.cons _ t,e=>by
   obtain ⟨u,h1,h2⟩:=Vals.get (i:=i) (x:=x) t (by simpa using e)
   exact ⟨u,by simpa using h1,h2⟩
theorem Vals.set {x:V} {u:Value} (r:RelV x u):∀ {xs:List V} {us:List Value} (i:Nat),Vals xs us→Vals (xs.set i x) (us.set i u)
 | _,_,_,.nil=>.nil
 | _,_,0,.cons _ t=>.cons r t
 | _,_,i+1,.cons q t=>.cons q (Vals.set r i t)
theorem Vals.append:∀ {xs ys:List V} {us ws:List Value},Vals xs us→Vals ys ws→Vals (xs++ys) (us++ws)
 | _,_,_,_,.nil,s=>s
 | _,_,_,_,.cons r t,s=>.cons r (Vals.append t s)
theorem Vals.take:∀ {xs:List V} {us:List Value} (n:Nat),Vals xs us→Vals (xs.take n) (us.take n)
 | _,_,0,_=>.nil
 | _,_,_+1,.nil=>.nil
 | _,_,n+1,.cons r t=>.cons r (Vals.take n t)
theorem Vals.drop:∀ {xs:List V} {us:List Value} (n:Nat),Vals xs us→Vals (xs.drop n) (us.drop n)
 | _,_,0,r=>r
 | _,_,_+1,.nil=>.nil
 | _,_,n+1,.cons _ t=>Vals.drop n t
noncomputable def RelO:Option V→Option Value→Prop
 | some v,some u=>RelV v u
 | none,none=>True
 | _,_=>False
noncomputable def KV {κ:Type}:List (κ×V)→List (κ×Value)→Prop:=Paired fun (p:κ×V) (q:κ×Value)=>p.1=q.1∧RelV p.2 q.2
noncomputable def kV:Key→V
 | .inl i=>.int i
 | .inr x=>.str x
inductive HO where
 | lst (xs:List V)
 | tup (xs:List V)
 | dK (kvs:List (Key×V)) | dT (kvs:List (List Key×V))
 | set (S:Int→Bool) (n:Nat)
 | ins (C dx:Addr) (fs:List (Str×V))
 | own (x:Addr)
 | xd (fs:List (Str×V))
 | met (f x:Addr)
 | rng (lo hi:Int)
 | frz (o:Obj) (u:HO)
 | tbl (ps:Array Value)
 | ext (φ:Heap→Prop)
noncomputable abbrev Hp:=Addr→Option HO
noncomputable def upd (H:Hp) (a:Addr) (o:HO):Hp:=fun b=>if b=a then some o else H b
theorem zX {H:Hp} {a:Addr} {o:HO}:upd H a o a=some o:=by unfold upd; rw [if_pos rfl]
theorem zJ {H:Hp} {a b:Addr} {o:HO} (h:b≠a):upd H a o b=H b:=by unfold upd; rw [if_neg h]
theorem ne_of {H:Hp} {a b:Addr} {o u:HO} (h:H a=some o) (h':H b=some u) (d:o≠u):a≠b:=by
 intro e; subst e; rw [h] at h'; exact d (Option.some.inj h')
theorem zH {H:Hp} {a b:Addr} {o:HO} (h:H a=some o) (h':H b=none):a≠b:=by
 intro e; subst e; rw [h] at h'; cases h'
section
variable (P:Program) (w:World)
noncomputable def y2 (H:Hp) (h:Heap) (a:Addr):HO→Prop
 | .lst xs=>xs.length≤sizeLine∧∃ (its:List Value) (n:Nat),Vals xs its∧h.get? a=some { cls:=.type "list",data:=.seq its.toArray n }
 | .tup xs=>xs.length≤sizeLine∧∃ its:List Value,Vals xs its∧IsTup h a its.toArray
 | .dK kvs=>kvs.length≤sizeLine∧(a == sysModules)=false∧∃ vs,KV kvs vs∧h.DictOf (yy P w) a vs
 | .dT kvs=>kvs.length≤sizeLine∧(a == sysModules)=false∧∃ xs:List (List Key×Addr×Value),
  Paired (fun (p:List Key×V) (q:List Key×Addr×Value)=>p.1=q.1∧H q.2.1=some (.tup (p.1.map kV))∧RelV p.2 q.2.2) kvs xs ∧
  ∃ o es ep,h.get? a=some o∧o.ExactDict∧o.data=.dict es ep∧es.toList=xs.map (entryOfKey (tupleKind (yy P w)))∧(xs.map (·.1)).Nodup
 | .set S n=>h.SetOf (intKind P w) a S n
 | .ins C dx fs=>H dx=some (.own a)∧fs.length≤1000∧dx≠a∧h.get? a=some (PySem.W.instObj C dx) ∧
  ∃ mA,h.Ns1 dx mA∧(∀ f,RelO (fs.lookup f) (mA f))∧PySem.Within mA (fs.map (·.1))
 | .own _=>∃ o,h.get? a=some o
 | .xd fs=>∃ mA,h.Ns1 a mA∧∀ f,RelO (fs.lookup f) (mA f)
 | .rng lo hi=>∃ t u v,h.get? a=some { cls:=.type "range",data:=.fields #[.int lo t,.int hi u,.int 1 v] }
 | .frz o u=>h.get? a=some o∧y2 H h a u
 | .tbl ps=>h.get? a=some { cls:=.none,data:=.fields ps }
 | .met f x=>h.get? a=some (PySem.W.methodObj (.ref f) (.ref x))
 | .ext φ=>φ h∧(∃ o,h.get? a=some o)∧∀ h1 h2:Heap,φ h1→(∀ o,h1.get? a=some o→h2.get? a=some o)→φ h2
noncomputable def HOk (H:Hp) (h:Heap):Prop:=∀ a o,H a=some o→y2 P w H h a o
end
section
variable {P:Program} {w:World} {H H':Hp} {h h':Heap} {a:Addr} {o:HO}
theorem y2.lt (x:y2 P w H h a o):a<h.objs.size:=by
 cases o with
 | lst xs=>obtain ⟨_,_,_,_,e⟩:=x; exact Heap.lt_size e
 | tup xs=>obtain ⟨_,_,_,p⟩:=x; exact p.lt
 | dK kvs=>obtain ⟨_,_,_,_,o,_,_,e,_⟩:=x; exact Heap.lt_size e
 | dT kvs=>obtain ⟨_,_,_,_,o,_,_,e,_⟩:=x; exact Heap.lt_size e
 | set S n=>obtain ⟨o,_,_,_,e,_⟩:=x; exact Heap.lt_size e
 | ins C dx fs=>obtain ⟨_,_,_,e,_⟩:=x; exact Heap.lt_size e
 | own y=>obtain ⟨_,e⟩:=x; exact Heap.lt_size e
 | xd fs=>obtain ⟨_,⟨_,_,_,e,_⟩,_⟩:=x; exact Heap.lt_size e
 | rng lo hi=>obtain ⟨_,_,_,e⟩:=x; exact Heap.lt_size e
 | frz ob u=>obtain ⟨e,_⟩:=x; exact Heap.lt_size e
 | tbl ps=>exact Heap.lt_size (show h.get? a=some _ from x)
 | met f y=>exact Heap.lt_size (show h.get? a=some _ from x)
 | ext φ=>obtain ⟨_,⟨_,e⟩,_⟩:=x; exact Heap.lt_size e
theorem Paired.mapP {α β:Type} {F G:α→β→Prop}:∀ {l₁:List α} {l₂:List β},Paired F l₁ l₂→(∀ a b,F a b→G a b)→Paired G l₁ l₂
 | _,_,.nil,_=>.nil
 | _,_,.cons r t,f=>.cons (f _ _ r) (Paired.mapP t f)
theorem y2.stay (x:y2 P w H h a o) (k:∀ b u,(b=a∨H b=some (.own a))→h.get? b=some u→h'.get? b=some u)
 (ho:∀ b,H b=some (.own a)→H' b=some (.own a)) (ht:∀ b xs,H b=some (.tup xs)→H' b=some (.tup xs)):y2 P w H' h' a o:=by
 induction o with
 | lst xs=>obtain ⟨z,its,n,r,e⟩:=x; exact ⟨z,its,n,r,k _ _ (.inl rfl) e⟩
 | tup xs=>obtain ⟨z,its,r,ob,e,c⟩:=x; exact ⟨z,its,r,ob,k _ _ (.inl rfl) e,c⟩
 | dK kvs=>obtain ⟨z,y,vs,r,ob,es,ep,e,c⟩:=x; exact ⟨z,y,vs,r,ob,es,ep,k _ _ (.inl rfl) e,c⟩
 | dT kvs =>
   obtain ⟨z,y,xs,r,ob,es,ep,e,c⟩:=x
   exact ⟨z,y,xs,Paired.mapP r fun p q z=>⟨z.1,ht _ _ z.2.1,z.2.2⟩,ob,es,ep,k _ _ (.inl rfl) e,c⟩
 | set S n=>obtain ⟨ob,es,ep,t,e,c⟩:=x; exact ⟨ob,es,ep,t,k _ _ (.inl rfl) e,c⟩
 | ins C dx fs =>
   obtain ⟨d,z,ne,e,mA,⟨od,es,ep,e2,c⟩,r⟩:=x
   exact ⟨ho _ d,z,ne,k _ _ (.inl rfl) e,mA,⟨od,es,ep,k _ _ (.inr d) e2,c⟩,r⟩
 | own y=>obtain ⟨ob,e⟩:=x; exact ⟨ob,k _ _ (.inl rfl) e⟩
 | xd fs=>obtain ⟨mA,⟨od,es,ep,e,c⟩,r⟩:=x; exact ⟨mA,⟨od,es,ep,k _ _ (.inl rfl) e,c⟩,r⟩
 | rng lo hi=>obtain ⟨t,u,v,e⟩:=x; exact ⟨t,u,v,k _ _ (.inl rfl) e⟩
 | frz ob u ih=>obtain ⟨e,q⟩:=x; exact ⟨k _ _ (.inl rfl) e,ih q⟩
 | tbl ps =>
   have e:h.get? a=some { cls:=.none,data:=.fields ps }:=x
   show h'.get? a=some { cls:=.none,data:=.fields ps }
   exact k a _ (.inl rfl) e
 | met f y =>
   have e:h.get? a=some (PySem.W.methodObj (.ref f) (.ref y)):=x
   show h'.get? a=some (PySem.W.methodObj (.ref f) (.ref y))
   exact k a _ (.inl rfl) e
 | ext φ=>obtain ⟨p,⟨o,e⟩,st⟩:=x; exact ⟨st _ _ p fun o q=>k _ _ (.inl rfl) q,⟨o,k _ _ (.inl rfl) e⟩,st⟩
theorem HOk.lt (x:HOk P w H h) (e:H a=some o):a<h.objs.size:=(x a o e).lt
theorem HOk.fresh (x:HOk P w H h) (e:h.objs.size≤a):H a=none:=by
 cases q:H a with
 | none=>rfl
 | some u=>exact absurd (Nat.lt_of_lt_of_le (x.lt q) e) (Nat.lt_irrefl _)
theorem HOk.kept (x:HOk P w H h) (k:∀ b u,h.get? b=some u→h'.get? b=some u):HOk P w H h':=fun a o e =>
 (x a o e).stay (fun b u _ q=>k b u q) (fun _ q=>q) fun _ _ q=>q
theorem HOk.laid (x:HOk P w H h) (k:∀ b u,h.get? b=some u→h'.get? b=some u) (hp:h.objs.size≤a) (new:y2 P w (upd H a o) h' a o):HOk P w (upd H a o) h':=fun b u e=>by
 have hn:=x.fresh hp
 by_cases hb:b=a
 ·subst hb; rw [zX] at e; cases e; exact new
 ·rw [zJ hb] at e
  exact (x b u e).stay (fun c v _ q=>k c v q) (fun c q=>by rw [zJ (zH q hn)]; exact q) fun c xs q=>by rw [zJ (zH q hn)]; exact q
end
noncomputable def Rd (H:Hp) (a:Addr) (u:HO):Prop:=H a=some u∨∃ o,H a=some (.frz o u)
theorem Rd.ok {P:Program} {w:World} {H:Hp} {h:Heap} {a:Addr} {u:HO} (r:Rd H a u) (x:HOk P w H h):y2 P w H h a u:=by
 rcases r with r | ⟨o,r⟩
 ·exact x a u r
 ·obtain ⟨_,q⟩:=x a _ r
  exact q
noncomputable def Mut:Option HO→Prop
 | some (.lst _)=>True
 | some (.dK _)=>True
 | some (.dT _)=>True
 | some (.set _ _)=>True
 | some (.ins _ _ _)=>True
 | some (.ext _)=>True
 | _=>False
section
variable {P:Program} {w:World} {H:Hp} {h h':Heap} {x e:Addr} {o':HO}
theorem HOk.write (ok:HOk P w H h) (mu:Mut (H x)) (he:e=x∨H e=some (.own x)) (k:∀ b u,b≠e→h.get? b=some u→h'.get? b=some u) (heo:∃ u,h'.get? e=some u)
 (new:y2 P w (upd H x o') h' x o'):HOk P w (upd H x o') h':=fun b u q=>by
 have nown:∀ c y,H c=some (.own y)→c≠x:=fun c y r z=>by subst z; rw [r] at mu; exact mu
 have ntup:∀ c xs,H c=some (.tup xs)→c≠x:=fun c xs r z=>by subst z; rw [r] at mu; exact mu
 by_cases hb:b=x
 ·subst hb; rw [zX] at q; cases q; exact new
 ·rw [zJ hb] at q
  by_cases hbe:b=e
  ·have q':H b=some (.own x):=by
    rcases he with z | z
    ·exact absurd (hbe.trans z) hb
    ·rw [hbe]; exact z
   rw [q] at q'; cases q'
   obtain ⟨v,hv⟩:=heo
   exact ⟨v,by rw [hbe]; exact hv⟩
  ·refine (ok b u q).stay (fun c v hc r=>k c v ?_ r) (fun c r=>by rw [zJ (nown c b r)]; exact r) fun c xs r=>by rw [zJ (ntup c xs r)]; exact r
   rcases hc with rfl | hc
   ·exact hbe
   ·rintro rfl
    rcases he with z | z
    ·exact nown c b hc z
    ·rw [hc] at z; cases z; exact hb rfl
end
structure Un (fs ex:List Addr) (H H':Hp) (h h':Heap):Prop where
 keep:∀ b o,h.get? b=some o→H b=none→b∉fs→b∉ex→h'.get? b=some o
 slot:∀ b o,h.get? b=some o→H b=none→b∈fs→b∉ex→∃ sl,h'.get? b=some { o with slots:=sl }
 free:∀ b o,h.get? b=some o→H b=none→b∉ex→H' b=none
 there:∀ b o,h.get? b=some o→b∉ex→∃ o',h'.get? b=some o'
 tups:∀ b xs,H b=some (.tup xs)→H' b=some (.tup xs)
 frzs:∀ b o u,H b=some (.frz o u)→H' b=some (.frz o u)
 tbls:∀ b ps,H b=some (.tbl ps)→∃ more,H' b=some (.tbl (ps++more))
section
variable {fs fs' ex ex':List Addr} {H H1 H2:Hp} {h h1 h2 h':Heap} {a x e:Addr} {o:HO}
theorem Un.any (u:Un fs ex H H1 h h1) {b:Addr} {ob:Obj} (q:h.get? b=some ob) (n:H b=none) (hx:b∉ex):∃ sl,h1.get? b=some { ob with slots:=sl }:=by
 by_cases hb:b∈fs
 ·exact u.slot b ob q n hb hx
 ·exact ⟨ob.slots,u.keep b ob q n hb hx⟩
theorem Un.kept (k:∀ b u,h.get? b=some u→h'.get? b=some u):Un fs ex H H h h' :=
 ⟨fun b ob q _ _ _=>k b ob q,fun b ob q _ _ _=>⟨ob.slots,k b ob q⟩,fun _ _ _ n _=>n,fun b ob q _=>⟨ob,k b ob q⟩,fun _ _ q=>q,fun _ _ _ q=>q,fun _ ps q=>⟨#[],by rw [q]; simp⟩⟩
theorem Un.refl:Un fs ex H H h h:=Un.kept fun _ _ q=>q
theorem Un.laid (k:∀ b u,h.get? b=some u→h'.get? b=some u) (hp:h.objs.size≤a) (hn:H a=none):Un fs ex H (upd H a o) h h' where
 keep:=fun b u q _ _ _=>k b u q
 slot:=fun b u q _ _ _=>⟨u.slots,k b u q⟩
 free:=fun b u q n _=>by rw [zJ (Nat.ne_of_lt (Nat.lt_of_lt_of_le (Heap.lt_size q) hp))]; exact n
 there:=fun b u q _=>⟨u,k b u q⟩
 tups:=fun b xs q=>by rw [zJ (zH q hn)]; exact q
 frzs:=fun b u xs q=>by rw [zJ (zH q hn)]; exact q
 tbls:=fun b ps q=>⟨#[],by rw [zJ (zH q hn),q]; simp⟩
theorem Un.write (mu:Mut (H x)) (he:e=x∨H e=some (.own x)) (k:∀ b u,b≠e→h.get? b=some u→h'.get? b=some u) (heo:∃ u,h'.get? e=some u):Un fs ex H (upd H x o) h h':=by
 have hx:∀ b,H b=none→b≠x:=fun b n z=>by subst z; rw [n] at mu; exact mu
 have hb:∀ b,H b=none→b≠e:=fun b n z=>by
  subst z
  rcases he with r | r
  ·exact hx b n r
  ·rw [n] at r; cases r
 have hm:∀ b u,H b=some u→¬ Mut (some u)→b≠x:=fun b u q nm z=>by subst z; rw [q] at mu; exact nm mu
 refine ⟨fun b u q n _ _=>k b u (hb b n) q,fun b u q n _ _=>⟨u.slots,k b u (hb b n) q⟩,fun b u q n _=>by rw [zJ (hx b n)]; exact n,fun b u q _ => ?_,
  fun b xs q=>by rw [zJ (hm b _ q fun z=>z)]; exact q,fun b u xs q=>by rw [zJ (hm b _ q fun z=>z)]; exact q,fun b ps q=>⟨#[],by rw [zJ (hm b _ q fun z=>z),q]; simp⟩⟩
 by_cases hbe:b=e
 ·subst hbe; exact heo
 ·exact ⟨u,k b u hbe q⟩
end
noncomputable def trk (h:Heap) (H:Hp):List Addr:=(List.range h.objs.size).filter fun a=>(H a).isSome
noncomputable def hidT (h:Heap) (H:Hp):Heap:=PySem.W.hideAll h (trk h H)
theorem zgU (h:Heap) (H:Hp):(hidT h H).objs.size=h.objs.size:=PySem.W.hideAll_size _ _
theorem zic {h:Heap} {H:Hp} {b:Addr} {o:Obj} (e:h.get? b=some o) (n:H b=none):(hidT h H).get? b=some o :=
 PySem.W.hideAll_get _ e fun hm=>by
  have q:(H b).isSome=true:=(List.mem_filter.mp hm).2
  rw [n] at q; simp at q
theorem zjH {h:Heap} {H:Hp} {b:Addr} {o:Obj} (e:(hidT h H).get? b=some o):h.get? b=some o∧H b=none:=by
 have e':h.get? b=some o:=PySem.W.of_hideAll (trk h H) e
 refine ⟨e',?_⟩
 cases q:H b with
 | none=>rfl
 | some x =>
   have hm:b∈trk h H:=List.mem_filter.mpr ⟨List.mem_range.mpr (Heap.lt_size e'),by simp [q]⟩
   have z:(hidT h H).get? b=none:=PySem.W.hideAll_none (trk h H) hm
   rw [z] at e; cases e
noncomputable def zko (g h:Heap) (L:Addr):List (Addr×Obj):=(List.range h.objs.size).filterMap fun a=>if a=L∨(g.get? a).isSome=true then none else (h.get? a).map fun o=>(a,o)
noncomputable def rest (g h:Heap) (L d:Addr):List (Addr×Obj):=(zko g h L).filter fun p=>decide (p.1≠d)
end L2
namespace L2
open PySem PySem.Spec PyProof.Rows
structure Mod (K:PySem.W.Frag) (mg:Str→Option Value) (base:Heap):Prop where
 kin:K.In base
 glob:base.Ns mainGlobals mg
 blt:∃ mb,base.Ns builtinsNs mb∧∀ x:Str,x ≠ "__name__" → mb x=bootBuiltins x
 nolimit:base.NoLimit
structure Cx where
 prog:Program
 w:World
 K:PySem.W.Frag
 mg:Str→Option Value
 base:Heap
 A:Around
 N:List Str
 s₀:Shared
 H₀:Hp
 env:Env
 outer:List Env
 stack:List Env
 ex:List Addr
 fn:Str→Bool
 calm:Bool
 pn:List (Addr×Obj)
 xe:Value→Shared→Prop
noncomputable def frs (l:List Env):List Addr:=l.filterMap (·.frame)
noncomputable abbrev Cx.fs (X:Cx):List Addr:=frs X.outer
noncomputable def Vis (sc:Scope) (x:Str):Prop:=sc.names.lookup x=some .local∨sc.names.lookup x=some .cell∨sc.names.lookup x=some .free
noncomputable def Loc (sc:Scope) (x:Str):Prop:=sc.names.lookup x=some .local∨sc.names.lookup x=some .cell
noncomputable def Look (env:Env) (h:Heap) (m:Str→Option Value) (x:Str) (u:Value):Prop :=
 (env.kindOf x=some .local∧m x=some u)∨((env.kindOf x=some .cell∨env.kindOf x=some .free)∧∃ c,env.cells.lookup x=some c∧h.IsCell c (some u))
structure Cx.Ok (X:Cx):Prop where
 mod:Mod X.K X.mg X.base
 kind:X.env.scope.kind=.function
 glob:X.env.globals=mainGlobals
 blt:X.env.builtins=builtinsNs
 above:X.s₀.heap.objs.size≤X.env.locals
 inj:∀ x y c,X.env.cells.lookup x=some c→X.env.cells.lookup y=some c→x=y
 has:∀ x,(X.env.kindOf x=some .cell∨X.env.kindOf x=some .free)→∃ c,X.env.cells.lookup x=some c
 cab:∀ x c,X.fn x=true→X.env.cells.lookup x=some c→X.s₀.heap.objs.size≤c
 hd:X.calm=true→X.A.handled=none
 frames:X.A.frames=some X.stack
 stk:X.stack=X.outer∨(X.stack=X.env::X.outer∧X.env.frame=some X.env.locals)
 exf:∀ b∈X.ex,b≠X.env.locals∧∀ x c,X.env.cells.lookup x=some c→c≠b
 bs:∀ b o,X.base.get? b=some o→X.s₀.heap.get? b=some o∧X.H₀ b=none
 bsz:X.base.objs.size≤X.s₀.heap.objs.size
 noex:∀ b o,X.base.get? b=some o→b∉X.ex
 exfs:∀ b∈X.ex,b∉X.fs
 funs:X.s₀.heap.FunFrames X.base X.outer
 frf:∀ b∈X.fs,X.H₀ b=none
structure Inv (X:Cx) (pins:List (Addr×Obj)) (σ:List (Option V)) (H:Hp) (s:Shared):Prop where
 ok:X.Ok
 os:s.os=X.s₀.os
 bare:AllBare s.gens
 base:Un X.fs X.ex X.H₀ H X.s₀.heap s.heap
 loc:∃ m,s.heap.Ns X.env.locals m∧∀ (i:Nat) (x:Str) (v:V),X.N[i]?=some x→σ[i]?=some (some v)→Vis X.env.scope x→∃ u,RelV v u∧Look X.env s.heap m x u
 cell:∀ x c,X.env.cells.lookup x=some c→∃ v,s.heap.IsCell c v
 free:H X.env.locals=none
 freeC:∀ x c,X.env.cells.lookup x=some c→H c=none
 pin:∀ p∈X.pn++pins,s.heap.get? p.1=some p.2∧H p.1=none∧p.1≠X.env.locals∧p.1∉X.fs∧∀ v,p.2.data≠.cell v
 hok:HOk X.prog X.w H s.heap
 len:σ.length=X.N.length
section
variable {X:Cx} {pins:List (Addr×Obj)} {σ:List (Option V)} {H H':Hp} {s:Shared} {h':Heap}
theorem Cx.Ok.nofr (ok:X.Ok) {b:Addr} {o:Obj} (e:X.base.get? b=some o):b∉X.fs:=fun hb=>by
 have:=(ok.funs.mem hb).1
 rw [e] at this; cases this
theorem Inv.bs (I:Inv X pins σ H s):∀ b o,X.base.get? b=some o→s.heap.get? b=some o∧H b=none:=fun b o e =>
 ⟨I.base.keep b o (I.ok.bs b o e).1 (I.ok.bs b o e).2 (I.ok.nofr e) (I.ok.noex b o e),I.base.free b o (I.ok.bs b o e).1 (I.ok.bs b o e).2 (I.ok.noex b o e)⟩
theorem Inv.bk (I:Inv X pins σ H s):∀ b o,X.base.get? b=some o→s.heap.get? b=some o:=fun b o e=>(I.bs b o e).1
theorem Inv.mod (I:Inv X pins σ H s):Mod X.K X.mg X.base:=I.ok.mod
theorem Inv.kIn (I:Inv X pins σ H s):X.K.In s.heap:=I.ok.mod.kin.keeps I.bk
theorem Inv.lt (I:Inv X pins σ H s):X.env.locals<s.heap.objs.size:=let ⟨_,hn,_⟩:=I.loc; hn.lt
theorem Inv.sz (I:Inv X pins σ H s):X.s₀.heap.objs.size≤s.heap.objs.size:=Nat.le_trans I.ok.above (Nat.le_of_lt I.lt)
theorem Inv.nofs (I:Inv X pins σ H s) {a:Addr} (h:s.heap.objs.size≤a):a∉X.fs:=fun hb=>by
 obtain ⟨_,o,ho,_⟩:=I.ok.funs.mem hb
 exact absurd (Nat.lt_of_lt_of_le (Heap.lt_size ho) (Nat.le_trans I.sz h)) (Nat.lt_irrefl _)
theorem Inv.cne (I:Inv X pins σ H s):∀ x c,X.env.cells.lookup x=some c→c≠X.env.locals:=fun x c e z=>by
 obtain ⟨v,o,ho,hd⟩:=I.cell x c e
 obtain ⟨m,⟨o',es,ep,ho',hd',_⟩,_⟩:=I.loc
 rw [z,ho'] at ho; cases ho; rw [hd'] at hd; cases hd
theorem Inv.funs (I:Inv X pins σ H s):s.heap.FunFrames X.base X.outer:=by
 have all:∀ (l:List Env),(∀ b∈frs l,b∈X.fs)→X.s₀.heap.FunFrames X.base l→s.heap.FunFrames X.base l:=by
  intro l
  induction l with
  | nil=>intro _ _; trivial
  | cons env r ih =>
    intro hs hl
    obtain ⟨hk,⟨L,o,hf,hn,ho,hd⟩,hr⟩:=hl
    have hL:L∈X.fs:=hs L (by unfold frs; rw [List.filterMap_cons,hf]; exact List.mem_cons_self)
    obtain ⟨sl,e⟩:=I.base.slot L o ho (I.ok.frf L hL) hL fun z=>I.ok.exfs L z hL
    exact ⟨hk,⟨L,_,hf,hn,e,hd⟩,ih (fun b hb=>hs b (by unfold frs; rw [List.filterMap_cons,hf]; exact List.mem_cons_of_mem _ hb)) hr⟩
 exact all X.outer (fun _ hb=>hb) I.ok.funs
theorem Inv.stack (I:Inv X pins σ H s):s.heap.FunFrames X.base X.stack:=by
 rcases I.ok.stk with e | ⟨e,hf⟩
 ·rw [e]; exact I.funs
 ·rw [e]
  obtain ⟨m,hn,_⟩:=I.loc
  refine .cons (by rw [I.ok.kind]; decide) hf hn ?_ I.funs
  exact Heap.get?_none_of_le (Nat.le_trans I.ok.bsz I.ok.above)
theorem Inv.stkSub (I:Inv X pins σ H s):∀ b∈frs X.stack,b∈X.env.locals::X.fs:=fun b hb=>by
 rcases I.ok.stk with e | ⟨e,hf⟩
 ·rw [e] at hb; exact List.mem_cons_of_mem _ hb
 ·rw [e] at hb
  unfold frs at hb
  rw [List.filterMap_cons,hf] at hb
  exact hb
theorem Inv.stkFree (I:Inv X pins σ H s):∀ b∈frs X.stack,H b=none:=fun b hb=>by
 rcases List.mem_cons.mp (I.stkSub b hb) with e | hb
 ·rw [e]; exact I.free
 ·obtain ⟨_,o,ho,_⟩:=I.ok.funs.mem hb
  exact I.base.free b o ho (I.ok.frf b hb) fun z=>I.ok.exfs b z hb
theorem Inv.step {g':Array GenState} {t':Nat} {d':Drawn} {ch:List Addr} (I:Inv X pins σ H s)
 (hch:∀ b∈ch,(b∈X.ex∨X.s₀.heap.objs.size≤b)∧b≠X.env.locals∧(∀ x c,X.env.cells.lookup x=some c→c≠b)∧∀ p∈X.pn++pins,p.1≠b)
 (keep:∀ b o,b≠X.env.locals→b∉X.fs→b∉ch→s.heap.get? b=some o→H b=none→h'.get? b=some o)
 (slot:∀ b o,b≠X.env.locals→b∈X.fs→b∉ch→s.heap.get? b=some o→H b=none→∃ sl,h'.get? b=some { o with slots:=sl }) (free:∀ b o,b∉ch→s.heap.get? b=some o→H b=none→H' b=none)
 (there:∀ b o,b∉ch→s.heap.get? b=some o→∃ o',h'.get? b=some o')
 (tups:∀ b xs,H b=some (.tup xs)→H' b=some (.tup xs)) (frzs:∀ b o u,H b=some (.frz o u)→H' b=some (.frz o u)) (tbls:∀ b ps,H b=some (.tbl ps)→∃ more,H' b=some (.tbl (ps++more)))
 (ns:∀ m,s.heap.Ns X.env.locals m→h'.Ns X.env.locals m) (hok:HOk X.prog X.w H' h') (hg:AllBare g') :
 Inv X pins σ H' { s with heap:=h',gens:=g',drawn:=d',toks:=t' }:=by
 have neL:∀ b o,X.s₀.heap.get? b=some o→b≠X.env.locals:=fun b o e=>Nat.ne_of_lt (Nat.lt_of_lt_of_le (Heap.lt_size e) I.ok.above)
 have neC:∀ b o,X.s₀.heap.get? b=some o→b∉X.ex→b∉ch:=fun b o e hx hb=>by
  rcases (hch b hb).1 with z | z
  ·exact hx z
  ·exact absurd (Nat.lt_of_lt_of_le (Heap.lt_size e) z) (Nat.lt_irrefl _)
 have cellK:∀ x c,X.env.cells.lookup x=some c→∀ v,s.heap.IsCell c v→h'.IsCell c v:=fun x c e v ⟨o,ho,hd⟩=>by
  have nch:c∉ch:=fun z=>(hch c z).2.2.1 x c e rfl
  by_cases hc:c∈X.fs
  ·obtain ⟨sl,q⟩:=slot c o (I.cne x c e) hc nch ho (I.freeC x c e)
   exact ⟨_,q,hd⟩
  ·exact ⟨o,keep c o (I.cne x c e) hc nch ho (I.freeC x c e),hd⟩
 refine ⟨I.ok,I.os,hg,⟨fun b o e n hb hx => ?_,fun b o e n hb hx => ?_,fun b o e n hx => ?_,fun b o e hx => ?_,fun b xs e=>tups b xs (I.base.tups b xs e),fun b o xs e=>frzs b o xs (I.base.frzs b o xs e),fun b ps e => ?_⟩,?_,fun x c e => ?_,?_,fun x c e => ?_,fun p hp => ?_,hok,I.len⟩
 ·exact keep b o (neL b o e) hb (neC b o e hx) (I.base.keep b o e n hb hx) (I.base.free b o e n hx)
 ·obtain ⟨sl,e1⟩:=I.base.slot b o e n hb hx
  obtain ⟨sl',e2⟩:=slot b _ (neL b o e) hb (neC b o e hx) e1 (I.base.free b o e n hx)
  exact ⟨sl',e2⟩
 ·obtain ⟨o',e1⟩:=I.base.there b o e hx
  exact free b o' (neC b o e hx) e1 (I.base.free b o e n hx)
 ·obtain ⟨o',e1⟩:=I.base.there b o e hx
  exact there b o' (neC b o e hx) e1
 ·obtain ⟨m1,e1⟩:=I.base.tbls b ps e
  obtain ⟨m2,e2⟩:=tbls b _ e1
  exact ⟨m1++m2,by rw [e2,Array.append_assoc]⟩
 ·obtain ⟨m,hn,hl⟩:=I.loc
  refine ⟨m,ns m hn,fun i x v e1 e2 e3 => ?_⟩
  obtain ⟨u,r,l⟩:=hl i x v e1 e2 e3
  refine ⟨u,r,?_⟩
  rcases l with l | ⟨k,c,e,z⟩
  ·exact .inl l
  ·exact .inr ⟨k,c,e,cellK x c e _ z⟩
 ·obtain ⟨v,z⟩:=I.cell x c e
  exact ⟨v,cellK x c e v z⟩
 ·obtain ⟨m,⟨o,_,_,ho,_⟩,_⟩:=I.loc
  exact free _ o (fun z=>(hch _ z).2.1 rfl) ho I.free
 ·obtain ⟨v,o,ho,hd⟩:=I.cell x c e
  exact free c o (fun z=>(hch c z).2.2.1 x c e rfl) ho (I.freeC x c e)
 ·obtain ⟨e,n,ne,nf,d⟩:=I.pin p hp
  have nch:p.1∉ch:=fun z=>(hch p.1 z).2.2.2 p hp rfl
  exact ⟨keep p.1 p.2 ne nf nch e n,free p.1 p.2 nch e n,ne,nf,d⟩
theorem Inv.un {t':Nat} (I:Inv X pins σ H s) (u:Un X.fs [] H H' s.heap h') (hok:HOk X.prog X.w H' h'):Inv X pins σ H' { s with heap:=h',toks:=t' }:=by
 obtain ⟨m,⟨o,es,ep,ho,r⟩,_⟩:=id I.loc
 obtain ⟨sl,hL⟩:=u.any ho I.free (by simp)
 exact I.step (g':=s.gens) (d':=s.drawn) (ch:=[]) (fun _ z=>nomatch z) (fun b o _ hb _ e n=>u.keep b o e n hb (by simp)) (fun b o _ hb _ e n=>u.slot b o e n hb (by simp)) (fun b o _ e n=>u.free b o e n (by simp)) (fun b o _ e=>u.there b o e (by simp)) u.tups u.frzs u.tbls (fun m' hm=>by
  obtain ⟨o',es',ep',ho',r'⟩:=hm
  rw [ho] at ho'; cases ho'
  exact ⟨_,es',ep',hL,r'⟩) hok I.bare
theorem Inv.call {g':Array GenState} {t':Nat} {d':Drawn} {ch:List Addr} (I:Inv X pins σ H s) (u:Un (frs X.stack) ch H H' s.heap h') (hok:HOk X.prog X.w H' h') (hg:AllBare g')
 (hch:∀ b∈ch,(b∈X.ex∨X.s₀.heap.objs.size≤b)∧b≠X.env.locals∧(∀ x c,X.env.cells.lookup x=some c→c≠b)∧∀ p∈X.pn++pins,p.1≠b) :
 Inv X pins σ H' { s with heap:=h',gens:=g',drawn:=d',toks:=t' }:=by
 obtain ⟨m,⟨o,es,ep,ho,r⟩,_⟩:=id I.loc
 obtain ⟨sl,hL⟩:=u.any ho I.free fun z=>(hch _ z).2.1 rfl
 exact I.step (ch:=ch) hch (fun b o hL hb hc e n=>u.keep b o e n (fun z=>(List.mem_cons.mp (I.stkSub b z)).elim hL hb) hc) (fun b o _ _ hc e n=>u.any e n hc) (fun b o hc e n=>u.free b o e n hc) (fun b o hc e=>u.there b o e hc) u.tups u.frzs u.tbls (fun m' hm=>by
  obtain ⟨o',es',ep',ho',r'⟩:=hm
  rw [ho] at ho'; cases ho'
  exact ⟨_,es',ep',hL,r'⟩) hok hg
theorem Inv.turned {t':Nat} {it:Addr} (I:Inv X pins σ H s) (k:∀ b o,b≠it→s.heap.get? b=some o→h'.get? b=some o) (hn:H it=none) (hL:it≠X.env.locals)
 (h1:it∈X.ex∨X.s₀.heap.objs.size≤it) (h2:∀ x c,X.env.cells.lookup x=some c→c≠it) (h3:∀ p∈X.pn++pins,p.1≠it):Inv X pins σ H { s with heap:=h',toks:=t' }:=by
 have nit:∀ b u,H b=some u→b≠it:=fun b u e z=>by rw [z,hn] at e; cases e
 refine I.step (g':=s.gens) (d':=s.drawn) (ch:=[it]) (fun b hb => ?_) (fun b o _ _ hc e _=>k b o (fun z=>hc (by simp [z])) e) (fun b o _ _ hc e _=>⟨o.slots,k b o (fun z=>hc (by simp [z])) e⟩) (fun _ _ _ _ n=>n)
  (fun b o hc e=>⟨o,k b o (fun z=>hc (by simp [z])) e⟩) (fun _ _ e=>e) (fun _ _ _ e=>e) (fun b ps e=>⟨#[],by rw [e]; simp⟩) (fun m hm => ?_) (fun b u e => ?_) I.bare
 ·have e:b=it:=by simpa using hb
  subst e
  exact ⟨h1,hL,h2,h3⟩
 ·obtain ⟨o,es,ep,ho,r⟩:=hm
  exact ⟨o,es,ep,k _ o (Ne.symm hL) ho,r⟩
 ·refine (I.hok b u e).stay (fun c v hc q=>k c v ?_ q) (fun _ q=>q) fun _ _ q=>q
  rcases hc with z | z
  ·rw [z]; exact nit b u e
  ·exact nit c _ z
theorem Inv.tok (I:Inv X pins σ H s) (t:Nat):Inv X pins σ H { s with toks:=t }:=I.un (h':=s.heap) (t':=t) Un.refl I.hok
theorem Inv.kept {t':Nat} (I:Inv X pins σ H s) (k:∀ b u,s.heap.get? b=some u→h'.get? b=some u):Inv X pins σ H { s with heap:=h',toks:=t' }:=I.un (Un.kept k) (I.hok.kept k)
theorem Inv.laid {a:Addr} {o:HO} {t':Nat} (I:Inv X pins σ H s) (k:∀ b u,s.heap.get? b=some u→h'.get? b=some u) (hp:s.heap.objs.size≤a) (new:y2 X.prog X.w (upd H a o) h' a o) :
 Inv X pins σ (upd H a o) { s with heap:=h',toks:=t' }:=I.un (Un.laid k hp (I.hok.fresh hp)) (I.hok.laid k hp new)
theorem Inv.write {x e:Addr} {o:HO} {t':Nat} (I:Inv X pins σ H s) (mu:Mut (H x)) (he:e=x∨H e=some (.own x)) (k:∀ b u,b≠e→s.heap.get? b=some u→h'.get? b=some u) (heo:∃ u,h'.get? e=some u)
 (new:y2 X.prog X.w (upd H x o) h' x o):Inv X pins σ (upd H x o) { s with heap:=h',toks:=t' }:=I.un (Un.write mu he k heo) (I.hok.write mu he k heo new)
theorem Inv.pins_of {pins':List (Addr×Obj)} (I:Inv X pins σ H s) (h:∀ p∈pins',s.heap.get? p.1=some p.2∧H p.1=none∧p.1≠X.env.locals∧p.1∉X.fs∧∀ v,p.2.data≠.cell v):Inv X pins' σ H s :=
 ⟨I.ok,I.os,I.bare,I.base,I.loc,I.cell,I.free,I.freeC,fun p hp=>(List.mem_append.mp hp).elim (fun z=>I.pin p (List.mem_append_left _ z)) (h p),I.hok,I.len⟩
theorem zeE {N:List Str} (hN:N.Nodup) {i j:Nat} {x:Str} (a:N[i]?=some x) (b:N[j]?=some x):i=j:=by
 obtain ⟨h1,e1⟩:=List.getElem?_eq_some_iff.mp a
 obtain ⟨h2,e2⟩:=List.getElem?_eq_some_iff.mp b
 exact (List.getElem_inj hN).mp (e1.trans e2.symm)
theorem zcj {M:Model} {A:Around} {E:Value→Shared→Prop} {i:Nat} {x:Str} {v:V} {u:Value} {Q:Unit→Shared→Prop} (I:Inv X pins σ H s) (hN:X.N.Nodup) (hi:X.N[i]?=some x) (hx:Loc X.env.scope x) (r:RelV v u)
 (h:∀ s',Inv X pins (σ.set i (some v)) H s'→(∃ a,Heap.SameBut a s.heap s'.heap∧(a=X.env.locals∨X.env.cells.lookup x=some a))→Q () s') (hf:X.fn x=true∨X.env.scope.names.lookup x=some .local:=by first | exact .inl rfl | exact .inr rfl | assumption):wpAny M A (storeName X.env x u) Q E s:=by
 obtain ⟨m,hn,hl⟩:=id I.loc
 have hcls:(X.env.scope.kind == .class || (X.env.scope.kind == .module&&X.env.locals != X.env.globals))=false:=by rw [I.ok.kind]; rfl
 have hiσ:i < σ.length:=by rw [I.len]; exact (List.getElem?_eq_some_iff.mp hi).1
 have cne:=I.cne
 have tracked:∀ {a:Addr} {h':Heap},(∃ o,s.heap.get? a=some o∧H a=none)→Heap.SameBut a s.heap h'→HOk X.prog X.w H h':=fun {a h'} ha hs b ob e=>by
  obtain ⟨_,_,hfree⟩:=ha
  refine (I.hok b ob e).stay (fun c w' hc q=>(hs.2 c ?_).trans q) (fun _ q=>q) fun _ _ q=>q
  rintro rfl
  rcases hc with rfl | hc
  ·rw [hfree] at e; cases e
  ·rw [hfree] at hc; cases hc
 rcases hx with hk | hk
 ·refine wpAny_storeName_local hk hn (fun h' hn' hs => ?_) hcls
  obtain ⟨oL,_,_,hoL,_⟩:=id hn
  refine h _ ⟨I.ok,I.os,I.bare,⟨fun b o e n hb hx => ?_,fun b o e n hb hx => ?_,I.base.free,fun b o e hx => ?_,I.base.tups,I.base.frzs,I.base.tbls⟩,⟨_,hn',fun j y v' e1 e2 e3 => ?_⟩,fun y c e => ?_,I.free,I.freeC,fun p hp => ?_,tracked ⟨oL,hoL,I.free⟩ hs,by simpa using I.len⟩ ⟨_,hs,.inl rfl⟩
  ·exact (hs.2 b (Nat.ne_of_lt (Nat.lt_of_lt_of_le (Heap.lt_size e) I.ok.above))).trans (I.base.keep b o e n hb hx)
  ·obtain ⟨sl,e1⟩:=I.base.slot b o e n hb hx
   exact ⟨sl,(hs.2 b (Nat.ne_of_lt (Nat.lt_of_lt_of_le (Heap.lt_size e) I.ok.above))).trans e1⟩
  ·obtain ⟨o',e1⟩:=I.base.there b o e hx
   exact ⟨o',(hs.2 b (Nat.ne_of_lt (Nat.lt_of_lt_of_le (Heap.lt_size e) I.ok.above))).trans e1⟩
  ·by_cases hj:j=i
   ·subst hj
    rw [hi] at e1; cases e1
    rw [List.getElem?_set_self hiσ] at e2
    cases e2
    exact ⟨u,r,.inl ⟨hk,by simp⟩⟩
   ·rw [List.getElem?_set_ne (Ne.symm hj)] at e2
    obtain ⟨u',r',q⟩:=hl j y v' e1 e2 e3
    refine ⟨u',r',?_⟩
    rcases q with ⟨k,e⟩ | ⟨k,c,e,z⟩
    ·refine .inl ⟨k,?_⟩
     have:y≠x:=fun e=>hj (zeE hN e1 (e ▸ hi))
     simp [this,e]
    ·exact .inr ⟨k,c,e,z.sameBut hs (cne y c e)⟩
  ·obtain ⟨w',z⟩:=I.cell y c e
   exact ⟨w',z.sameBut hs (cne y c e)⟩
  ·obtain ⟨e,n,ne,nf,d⟩:=I.pin p hp
   exact ⟨(hs.2 p.1 ne).trans e,n,ne,nf,d⟩
 ·have hfn:X.fn x=true:=by
   rcases hf with z | z
   ·exact z
   ·rw [z] at hk; cases hk
  obtain ⟨c,hc⟩:=I.ok.has x (.inl hk)
  obtain ⟨w',z⟩:=I.cell x c hc
  refine wpAny_storeName_cell I.ok.kind hk hc z (fun h' hc' hs => ?_)
  obtain ⟨oc,hoc,hocd⟩:=id z
  refine h { s with heap:=h' } ⟨I.ok,I.os,I.bare,⟨fun b o e n hb hx => ?_,fun b o e n hb hx => ?_,I.base.free,fun b o e hx => ?_,I.base.tups,I.base.frzs,I.base.tbls⟩,⟨m,hn.sameBut hs (Ne.symm (cne x c hc)),fun j y v' e1 e2 e3 => ?_⟩,fun y c' e => ?_,I.free,I.freeC,fun p hp => ?_,tracked ⟨oc,hoc,I.freeC x c hc⟩ hs,by simpa using I.len⟩ ⟨c,hs,.inr hc⟩
  ·exact (hs.2 b (Nat.ne_of_lt (Nat.lt_of_lt_of_le (Heap.lt_size e) (I.ok.cab x c hfn hc)))).trans (I.base.keep b o e n hb hx)
  ·obtain ⟨sl,e1⟩:=I.base.slot b o e n hb hx
   exact ⟨sl,(hs.2 b (Nat.ne_of_lt (Nat.lt_of_lt_of_le (Heap.lt_size e) (I.ok.cab x c hfn hc)))).trans e1⟩
  ·obtain ⟨o',e1⟩:=I.base.there b o e hx
   exact ⟨o',(hs.2 b (Nat.ne_of_lt (Nat.lt_of_lt_of_le (Heap.lt_size e) (I.ok.cab x c hfn hc)))).trans e1⟩
  ·by_cases hj:j=i
   ·subst hj
    rw [hi] at e1; cases e1
    rw [List.getElem?_set_self hiσ] at e2
    cases e2
    exact ⟨u,r,.inr ⟨.inl hk,c,hc,hc'⟩⟩
   ·rw [List.getElem?_set_ne (Ne.symm hj)] at e2
    obtain ⟨u',r',q⟩:=hl j y v' e1 e2 e3
    refine ⟨u',r',?_⟩
    rcases q with q | ⟨k,c',e,z'⟩
    ·exact .inl q
    ·refine .inr ⟨k,c',e,z'.sameBut hs ?_⟩
     rintro rfl
     exact hj (zeE hN e1 (I.ok.inj _ _ _ e hc ▸ hi))
  ·by_cases hcc:c'=c
   ·subst hcc; exact ⟨_,hc'⟩
   ·obtain ⟨w2,z2⟩:=I.cell y c' e
    exact ⟨w2,z2.sameBut hs hcc⟩
  ·obtain ⟨e,n,ne,nf,d⟩:=I.pin p hp
   refine ⟨(hs.2 p.1 ?_).trans e,n,ne,nf,d⟩
   intro q
   rw [q,hoc] at e
   have q':oc=p.2:=Option.some.inj e
   exact d w' (by rw [←q']; exact hocd)
theorem zea {M:Model} {A:Around} {E:Value→Shared→Prop} {i:Nat} {x:Str} {v:V} {u:Value} {Q:Unit→Shared→Prop} (I:Inv X pins σ H s) (hN:X.N.Nodup) (hi:X.N[i]?=some x) (hx:Loc X.env.scope x) (r:RelV v u)
 (h:∀ s',Inv X pins (σ.set i (some v)) H s'→Q () s') (hf:X.fn x=true∨X.env.scope.names.lookup x=some .local:=by first | exact .inl rfl | exact .inr rfl | assumption):wpAny M A (storeName X.env x u) Q E s :=
 zcj I hN hi hx r (fun s' I' _=>h s' I') hf
theorem Inv.call' {s':Shared} {ch:List Addr} (I:Inv X pins σ H s) (ho:s'.os=s.os) (u:Un (frs X.stack) ch H H' s.heap s'.heap) (hok:HOk X.prog X.w H' s'.heap) (hg:AllBare s'.gens)
 (hch:∀ b∈ch,(b∈X.ex∨X.s₀.heap.objs.size≤b)∧b≠X.env.locals∧(∀ x c,X.env.cells.lookup x=some c→c≠b)∧∀ p∈X.pn++pins,p.1≠b):Inv X pins σ H' s':=by
 obtain ⟨h',g',d',t',o'⟩:=s'
 have e:o'=s.os:=ho
 subst e
 exact I.call (g':=g') (t':=t') (d':=d') u hok hg hch
end
noncomputable abbrev XK:=Value→Option Addr→Hp→Prop
noncomputable abbrev St:=List (Option V)
noncomputable abbrev VK:=V→Hp→Prop
noncomputable abbrev TE:=St→Hp→VK→Prop
noncomputable abbrev TT:=St→Hp→(Bool→Hp→Prop)→Prop
noncomputable abbrev TA:=St→Hp→(List V→Hp→Prop)→Prop
structure Ends where
 nx:St→Hp→Prop
 rt:VK
 bk:St→Hp→Prop:=fun _ _=>False
 ct:St→Hp→Prop:=fun _ _=>False
noncomputable abbrev TS:=Ends→St→Hp→Prop
noncomputable def EP (X:Cx) (pins:List (Addr×Obj)) (σ:St) (Q:VK) (u:Value) (s':Shared):Prop:=∃ v H',Inv X pins σ H' s'∧RelV v u∧Q v H'
noncomputable def TP (X:Cx) (pins:List (Addr×Obj)) (σ:St) (Q:Bool→Hp→Prop) (b:Bool) (s':Shared):Prop:=∃ H',Inv X pins σ H' s'∧Q b H'
noncomputable def AP (X:Cx) (pins:List (Addr×Obj)) (σ:St) (Q:List V→Hp→Prop) (us:List Value) (s':Shared):Prop:=∃ vs H',Inv X pins σ H' s'∧Vals vs us∧Q vs H'
noncomputable def SP (X:Cx) (pins:List (Addr×Obj)) (D:Ends) (f:Flow) (s':Shared):Prop :=
 match f with
 | .next=>∃ σ' H',Inv X pins σ' H' s'∧D.nx σ' H'
 | .brk=>∃ σ' H',Inv X pins σ' H' s'∧D.bk σ' H'
 | .cont=>∃ σ' H',Inv X pins σ' H' s'∧D.ct σ' H'
 | .ret u=>∃ v σ' H',Inv X pins σ' H' s'∧RelV v u∧D.rt v H'
noncomputable def PE (X:Cx) (e:Expr) (t:TE):Prop :=
 ∀ (pins:List (Addr×Obj)) (s:Shared) (σ:St) (H:Hp) (Q:VK),Inv X pins σ H s→t σ H Q→wpAny (model X.prog X.w) X.A (eval e X.env) (EP X pins σ Q) X.xe s
noncomputable def PT (X:Cx) (e:Expr) (t:TT):Prop :=
 ∀ (pins:List (Addr×Obj)) (s:Shared) (σ:St) (H:Hp) (Q:Bool→Hp→Prop),Inv X pins σ H s→t σ H Q→wpAny (model X.prog X.w) X.A (isTrue e X.env (eval e X.env)) (TP X pins σ Q) X.xe s
noncomputable def PW (X:Cx) (e:Expr) (t:TT):Prop :=
 ∀ (whole:Sem Value) (pins:List (Addr×Obj)) (s:Shared) (σ:St) (H:Hp) (Q:Bool→Hp→Prop),Inv X pins σ H s→t σ H Q→wpAny (model X.prog X.w) X.A (isTrue e X.env whole) (TP X pins σ Q) X.xe s
theorem PW.pt {X:Cx} {e:Expr} {t:TT} (h:PW X e t):PT X e t:=h _
noncomputable def PA (X:Cx) (es:List Expr) (t:TA):Prop :=
 ∀ (pos:Pos) (pins:List (Addr×Obj)) (s:Shared) (σ:St) (H:Hp) (Q:List V→Hp→Prop),Inv X pins σ H s→t σ H Q→wpAny (model X.prog X.w) X.A (spliced (backTo pos (starEach es X.env))) (AP X pins σ Q) X.xe s
noncomputable def PS (X:Cx) (st:Stmt) (t:TS):Prop :=
 ∀ (pins:List (Addr×Obj)) (s:Shared) (σ:St) (H:Hp) (D:Ends),Inv X pins σ H s→t D σ H→wpAny (model X.prog X.w) X.A (exec st X.env) (SP X pins D) X.xe s
noncomputable def PSs (X:Cx) (st:List Stmt) (t:TS):Prop :=
 ∀ (pins:List (Addr×Obj)) (s:Shared) (σ:St) (H:Hp) (D:Ends),Inv X pins σ H s→t D σ H→wpAny (model X.prog X.w) X.A (execs st X.env) (SP X pins D) X.xe s
theorem thn {α:Type} {t:Sem α} {Q Q':α→Shared→Prop} {M:Model} {A:Around} {E:Value→Shared→Prop} {s:Shared} (h:wpAny M A t Q E s) (hQ:∀ a s,Q a s→Q' a s):wpAny M A t Q' E s:=wpAny_mono h hQ fun _ _ x=>x
end L2
namespace L2
open PySem PySem.Spec PyProof.Rows
section
variable {X:Cx}
theorem bin {a b:Expr} {ta tb:TE} (ha:PE X a ta) (hb:PE X b tb) {pins:List (Addr×Obj)} {s:Shared} {σ:St} {H:Hp} {R:V→V→Hp→Prop} (I:Inv X pins σ H s) (h:ta σ H fun x H1=>tb σ H1 fun y H2=>R x y H2)
 {α:Type} {Q:α→Shared→Prop} {f:Value→Value→Sem α}
 (hf:∀ v u s2 x y H2,Inv X pins σ H2 s2→RelV x v→RelV y u→R x y H2→wpAny (model X.prog X.w) X.A (f v u) Q X.xe s2) :
 wpAny (model X.prog X.w) X.A (eval a X.env) (fun v s₁=>wpAny (model X.prog X.w) X.A (eval b X.env) (fun u s₂=>wpAny (model X.prog X.w) X.A (f v u) Q X.xe s₂) X.xe s₁) X.xe s:=by
 refine thn (ha pins s σ H _ I h) fun v s1 ⟨x,H1,I1,r1,q1⟩ => ?_
 refine thn (hb pins s1 σ H1 _ I1 q1) fun u s2 ⟨y,H2,I2,r2,q2⟩ => ?_
 exact hf v u s2 x y H2 I2 r1 r2 q2
noncomputable def tVar (i:Nat):TE:=fun σ H Q=>∃ v,σ[i]?=some (some v)∧Q v H
noncomputable def tC (v:V):TE:=fun _ H Q=>Q v H
theorem zkR {i:Nat} {x:Str} {pos:Pos} (hN:X.N[i]?=some x) (hv:Vis X.env.scope x) (hd:(x == ("__debug__" : Str))=false:=by decide) (hcd:(x == ("__classdict__" : Str))=false:=by decide):PE X (.Name x pos) (tVar i):=by
 intro pins s σ H Q I h
 obtain ⟨v,e,h⟩:=h
 obtain ⟨m,hn,hl⟩:=I.loc
 obtain ⟨u,r,l⟩:=hl i x v hN e hv
 have fin:EP X pins σ Q u s:=⟨v,H,I,r,h⟩
 rcases l with ⟨hk,hm⟩ | ⟨hk,c,hc,hcell⟩
 ·exact wpAny_Name (wpAny_loadName_local I.ok.kind hk hn hm fin) hd
 ·rcases hk with hk | hk
  ·exact wpAny_Name (wpAny_loadName_cell I.ok.kind hk hc hcell fin) hd
  ·exact wpAny_Name (wpAny_loadName_free I.ok.kind hk hc hcell fin hcd) hd
theorem zkY {i j pos}:PE X (.Constant (.int i) j pos) (tC (.int i)):=fun _ _ _ H _ I h=>wpAny_Constant_int ⟨.int i,H,I.tok _,⟨_,rfl⟩,h⟩
theorem pe_bl {b j pos}:PE X (.Constant (.bool b) j pos) (tC (.bl b)):=fun _ _ _ H _ I h=>Constant_bool ⟨.bl b,H,I,rfl,h⟩
theorem zkW {j pos}:PE X (.Constant .none j pos) (tC .non):=fun _ _ _ H _ I h=>Constant_none ⟨.non,H,I,rfl,h⟩
noncomputable def Gl (X:Cx) (x:Str):Prop:=X.env.kindOf x=some .globalImplicit
theorem zjR {E:Value→Shared→Prop} {pins:List (Addr×Obj)} {s:Shared} {σ:St} {H:Hp} {x:Str} {u:Value} {pos:Pos} {Q:Value→Shared→Prop} (I:Inv X pins σ H s) (hg:Gl X x) (hm:X.mg x=some u) (h:Q u s)
 (hd:(x == ("__debug__" : Str))=false:=by decide):wpAny (model X.prog X.w) X.A (eval (.Name x pos) X.env) Q E s :=
 Calls.Name_function_global I.ok.kind hg (Calls.loadGlobal_global (by rw [I.ok.glob]; exact I.mod.glob.keeps I.bk) hm h) hd
theorem uU {E:Value→Shared→Prop} {pins:List (Addr×Obj)} {s:Shared} {σ:St} {H:Hp} {x:Str} {u:Value} {pos:Pos} {Q:Value→Shared→Prop} (I:Inv X pins σ H s) (hg:Gl X x) (hm:X.mg x=none) (hv:bootBuiltins x=some u) (h:Q u s)
 (hn:x ≠ "__name__" := by decide) (hd:(x == ("__debug__" : Str))=false:=by decide):wpAny (model X.prog X.w) X.A (eval (.Name x pos) X.env) Q E s:=by
 obtain ⟨mb,h1,h2⟩:=I.mod.blt
 exact Calls.Name_function_global I.ok.kind hg (Calls.loadGlobal_builtin (by rw [I.ok.glob]; exact I.mod.glob.keeps I.bk) hm (by rw [I.ok.blt]; exact h1.keeps I.bk) ((h2 x hn).trans hv) h) hd
theorem zjC {x:Str} {v:V} {u:Value} {pos:Pos} (hg:Gl X x) (hm:X.mg x=none) (hv:bootBuiltins x=some u) (r:RelV v u) (hn:x ≠ "__name__" := by decide) (hd:(x == ("__debug__" : Str))=false:=by decide):PE X (.Name x pos) (tC v) :=
 fun _ _ _ H _ I h=>uU I hg hm hv ⟨v,H,I,r,h⟩ hn hd
variable {a b:Expr} {ta tb:TE} {pos:Pos}
noncomputable def PC (X:Cx) (op:CmpOp) (a b:Expr) (t:TE):Prop :=
 ∀ (pins:List (Addr×Obj)) (s:Shared) (σ:St) (H:Hp) (Q:VK),Inv X pins σ H s→t σ H Q →
   wpAny (model X.prog X.w) X.A (eval a X.env) (fun v s₁=>wpAny (model X.prog X.w) X.A (eval b X.env) (fun u s₂=>wpAny (model X.prog X.w) X.A (compareOp op v u) (EP X pins σ Q) X.xe s₂) X.xe s₁) X.xe s
theorem zh1 (b:Expr) {op:CmpOp} (h:op≠.In) (h2:op≠.NotIn):behindInMarks op b=false:=by
 have e1:(op == CmpOp.In)=false:=by cases op <;> first | rfl | exact absurd rfl h
 have e2:(op == CmpOp.NotIn)=false:=by cases op <;> first | rfl | exact absurd rfl h2
 cases b <;> simp [behindInMarks,e1,e2]
noncomputable def tB (t:TE):TT:=fun σ H Q=>t σ H fun x H1=>∃ c,x=.bl c∧Q c H1
theorem pt_cmp {op:CmpOp} {t:TE} (h:PC X op a b t) (h1:behindInMarks op b=false:=by first | exact zh1 _ (by decide) (by decide) | rfl):PT X (.Compare a [op] [b] pos) (tB t):=by
 intro pins s σ H Q I hw
 refine wpAny_isTrue_Compare1 (thn (h pins s σ H _ I hw) fun v s1 h1=>thn h1 fun u s2 h2=>thn h2 fun c s3 ⟨x,H1,I1,r1,q1⟩ => ?_) h1
 obtain ⟨d,rfl,q⟩:=q1
 cases r1
 exact wpAny_truthy_bool ⟨H1,I1,q⟩
theorem zkM {e:Expr} {t:TE} (h:PE X e t) (he:∀ whole,isTrue e X.env whole=(do let v ← whole; standAt e.pos; holding [v] (truthy v)):=by intro _; rfl):PT X e (tB t):=by
 intro pins s σ H Q I hw
 refine isTrue_plain (thn (h pins s σ H _ I hw) fun v s1 ⟨x,H1,I1,r1,q1⟩ => ?_) (he _)
 obtain ⟨d,rfl,q⟩:=q1
 cases r1
 exact wpAny_truthy_bool ⟨H1,I1,q⟩
variable {tA tB':TT} {rest:List Expr}
noncomputable def tAnd (t u:TT):TT:=fun σ H Q=>t σ H fun c H1=>if c=true then u σ H1 Q else Q false H1
noncomputable def tOr (t u:TT):TT:=fun σ H Q=>t σ H fun c H1=>if c=true then Q true H1 else u σ H1 Q
noncomputable def tNot (t:TT):TT:=fun σ H Q=>t σ H fun c H1=>Q (!c) H1
theorem zjn (ha:PT X a tA):PW X (.BoolOp .And [a] pos) tA:=by
 intro wh pins s σ H Q I h
 refine isTrue_and (thn (ha pins s σ H Q I h) fun c s1 e => ?_)
 cases c with
 | true=>exact isTrue_and_nil e
 | false=>exact e
theorem zkJ (ha:PT X a tA):PW X (.BoolOp .Or [a] pos) tA:=by
 intro wh pins s σ H Q I h
 refine isTrue_or (thn (ha pins s σ H Q I h) fun c s1 e => ?_)
 cases c with
 | false=>exact isTrue_or_nil e
 | true=>exact e
theorem zkK (ha:PT X a tA) (hb:PW X (.BoolOp .And (b::rest) pos) tB'):PW X (.BoolOp .And (a::b::rest) pos) (tAnd tA tB'):=by
 intro wh pins s σ H Q I h
 refine isTrue_and (thn (ha pins s σ H _ I h) fun c s1 ⟨H1,I1,q1⟩ => ?_)
 cases c with
 | true=>exact hb wh pins s1 σ H1 Q I1 q1
 | false=>exact ⟨H1,I1,q1⟩
theorem pw_or (ha:PT X a tA) (hb:PW X (.BoolOp .Or (b::rest) pos) tB'):PW X (.BoolOp .Or (a::b::rest) pos) (tOr tA tB'):=by
 intro wh pins s σ H Q I h
 refine isTrue_or (thn (ha pins s σ H _ I h) fun c s1 ⟨H1,I1,q1⟩ => ?_)
 cases c with
 | true=>exact ⟨H1,I1,q1⟩
 | false=>exact hb wh pins s1 σ H1 Q I1 q1
theorem ziL (ha:PT X a tA):PT X (.UnaryOp .Not a pos) (tNot tA):=by
 intro pins s σ H Q I h
 exact isTrue_not (ha pins s σ H (fun c H1=>Q (!c) H1) I h)
noncomputable def tAndV (ta tb:TE):TE:=fun σ H Q=>ta σ H fun x H1=>∃ c,x=.bl c∧if c=true then tb σ H1 Q else Q (.bl false) H1
noncomputable def tOrV (ta tb:TE):TE:=fun σ H Q=>ta σ H fun x H1=>∃ c,x=.bl c∧if c=true then Q (.bl true) H1 else tb σ H1 Q
noncomputable def tNotV (ta:TE):TE:=fun σ H Q=>ta σ H fun x H1=>∃ c,x=.bl c∧Q (.bl (!c)) H1
theorem zkU {op} {t:TE} (h:PE X a t):PE X (.BoolOp op [a] pos) t:=fun pins s σ H Q I hw=>BoolOp_one (h pins s σ H Q I hw)
theorem zkZ (ha:PE X a ta) (hb:PE X (.BoolOp .And (b::rest) pos) tb):PE X (.BoolOp .And (a::b::rest) pos) (tAndV ta tb):=by
 intro pins s σ H Q I h
 refine BoolOp_and (thn (ha pins s σ H _ I h) fun v s1 ⟨x,H1,I1,r1,q1⟩ => ?_)
 obtain ⟨c,rfl,q1⟩:=q1
 cases r1
 refine wpAny_truthy_bool ?_
 cases c with
 | true=>exact hb pins s1 σ H1 Q I1 q1
 | false=>exact ⟨.bl false,H1,I1,rfl,q1⟩
theorem pe_or (ha:PE X a ta) (hb:PE X (.BoolOp .Or (b::rest) pos) tb):PE X (.BoolOp .Or (a::b::rest) pos) (tOrV ta tb):=by
 intro pins s σ H Q I h
 refine BoolOp_or (thn (ha pins s σ H _ I h) fun v s1 ⟨x,H1,I1,r1,q1⟩ => ?_)
 obtain ⟨c,rfl,q1⟩:=q1
 cases r1
 refine wpAny_truthy_bool ?_
 cases c with
 | false=>exact hb pins s1 σ H1 Q I1 q1
 | true=>exact ⟨.bl true,H1,I1,rfl,q1⟩
theorem zkV (ha:PE X a ta):PE X (.UnaryOp .Not a pos) (tNotV ta):=by
 intro pins s σ H Q I h
 refine UnaryOp_ (thn (ha pins s σ H _ I h) fun v s1 ⟨x,H1,I1,r1,q1⟩ => ?_)
 obtain ⟨c,rfl,q1⟩:=q1
 cases r1
 exact not_of (wpAny_truthy_bool ⟨.bl (!c),H1,I1,rfl,q1⟩)
noncomputable def tIf (t:TT) (ta tb:TE):TE:=fun σ H Q=>t σ H fun c H1=>if c=true then ta σ H1 Q else tb σ H1 Q
theorem zhU {c:Expr} (hc:PT X c tA) (ha:PE X a ta) (hb:PE X b tb):PE X (.IfExp c a b pos) (tIf tA ta tb):=by
 intro pins s σ H Q I h
 refine wpAny_IfExp (thn (hc pins s σ H _ I h) fun d s1 ⟨H1,I1,q1⟩ => ?_)
 cases d with
 | true=>exact ha pins s1 σ H1 Q I1 q1
 | false=>exact hb pins s1 σ H1 Q I1 q1
end
end L2
namespace L2
open PySem PySem.Spec PyProof.Rows
noncomputable def SqL (K:PySem.W.Frag) (H:Hp) (a:Addr) (xs:List V):Prop :=
 Rd H a (.lst xs) ∨
  ∃ (o:Obj) (its:Array Value) (n:Nat),K.lookup a=some o∧o.cls=.type "list" ∧ o.dict=none∧o.data=.seq its n∧its.size≤sizeLine∧Vals xs its.toList
noncomputable def SqT (K:PySem.W.Frag) (H:Hp) (a:Addr) (xs:List V):Prop :=
 Rd H a (.tup xs) ∨
  ∃ (o:Obj) (its:Array Value) (n:Nat),K.lookup a=some o∧o.cls=.type "tuple" ∧ o.data=.seq its n∧its.size≤sizeLine∧Vals xs its.toList
noncomputable def absV:Value→Option V
 | .none=>some .non
 | .bool b=>some (.bl b)
 | .int i _=>some (.int i)
 | .str x _=>some (.str x)
 | .bytes b _=>some (.byt b)
 | .float b _=>some (.flt b)
 | .ref a=>some (.ref a)
 | .type n=>some (.ty n)
 | _=>none
theorem RelV.abs {x:V} {u:Value} (r:RelV x u):absV u=some x:=by
 cases x with
 | non=>cases r; rfl
 | bl _=>cases r; rfl
 | int _=>obtain ⟨t,rfl⟩:=r; rfl
 | str _=>obtain ⟨t,rfl⟩:=r; rfl
 | byt _=>obtain ⟨t,rfl⟩:=r; rfl
 | flt _=>obtain ⟨t,rfl⟩:=r; rfl
 | ref _=>cases r; rfl
 | ty _=>cases r; rfl
theorem RelV.inj {x y:V} {u:Value} (r:RelV x u) (q:RelV y u):x=y:=Option.some.inj (r.abs.symm.trans q.abs)
theorem Vals.inj:∀ {xs ys:List V} {us:List Value},Vals xs us→Vals ys us→xs=ys
 | _,_,_,.nil,.nil=>rfl
 | _,_,_,.cons r t,.cons r' t'=>by rw [r.inj r',Vals.inj t t']
section
variable {X:Cx} {pins:List (Addr×Obj)} {σ:St} {H:Hp} {s:Shared} {a:Addr} {xs ys:List V}
theorem SqL.of {K:PySem.W.Frag} (h:H a=some (.lst xs)):SqL K H a xs:=.inl (.inl h)
theorem SqT.of {K:PySem.W.Frag} (h:H a=some (.tup xs)):SqT K H a xs:=.inl (.inl h)
theorem Inv.list (I:Inv X pins σ H s) (h:SqL X.K H a xs):∃ its:List Value,Vals xs its∧PlainL s.heap a its.toArray∧xs.length≤sizeLine:=by
 rcases h with h | ⟨o,its,n,hk,hc,hd,hs,hz,r⟩
 ·obtain ⟨z,its,n,r,e⟩:=h.ok I.hok
  exact ⟨its,r,⟨_,n,e,rfl,rfl,rfl⟩,z⟩
 ·refine ⟨its.toList,r,⟨o,n,I.kIn a o hk,hc,hd,by simpa using hs⟩,?_⟩
  have e:=r.length
  simp only [Array.length_toList] at e
  lia
theorem Inv.tuple (I:Inv X pins σ H s) (h:SqT X.K H a xs):∃ its:List Value,Vals xs its∧IsTup s.heap a its.toArray∧xs.length≤sizeLine:=by
 rcases h with h | ⟨o,its,n,hk,hc,hs,hz,r⟩
 ·obtain ⟨z,its,r,p⟩:=h.ok I.hok
  exact ⟨its,r,p,z⟩
 ·refine ⟨its.toList,r,⟨o,I.kIn a o hk,hc,n,by simpa using hs⟩,?_⟩
  have e:=r.length
  simp only [Array.length_toList] at e
  lia
theorem Inv.list_inj (I:Inv X pins σ H s) (h:SqL X.K H a xs) (h':SqL X.K H a ys):xs=ys:=by
 obtain ⟨its,r,⟨o,n,e,_,_,d⟩,_⟩:=I.list h
 obtain ⟨its',r',⟨o',n',e',_,_,d'⟩,_⟩:=I.list h'
 rw [e] at e'; cases e'
 rw [d] at d'
 injection d' with d1 _
 have:its=its':=by simpa using congrArg Array.toList d1
 subst this
 exact r.inj r'
end
noncomputable abbrev Cx.wish (X:Cx) (E:Value→Shared→Prop):Cx:={ X with xe:=E }
noncomputable abbrev Cx.nox (X:Cx):Cx:=X.wish fun _ _=>False
theorem Cx.Ok.wish {X:Cx} (ok:X.Ok) (E:Value→Shared→Prop):(X.wish E).Ok :=
 ⟨ok.mod,ok.kind,ok.glob,ok.blt,ok.above,ok.inj,ok.has,ok.cab,ok.hd,ok.frames,ok.stk,ok.exf,ok.bs,ok.bsz,ok.noex,ok.exfs,ok.funs,ok.frf⟩
theorem Cx.Ok.unwish {X:Cx} {E:Value→Shared→Prop} (ok:(X.wish E).Ok):X.Ok :=
 ⟨ok.mod,ok.kind,ok.glob,ok.blt,ok.above,ok.inj,ok.has,ok.cab,ok.hd,ok.frames,ok.stk,ok.exf,ok.bs,ok.bsz,ok.noex,ok.exfs,ok.funs,ok.frf⟩
section
variable {X:Cx} {pins:List (Addr×Obj)} {σ:St} {H:Hp} {s:Shared} {E:Value→Shared→Prop}
theorem Inv.wish (I:Inv X pins σ H s) (E:Value→Shared→Prop):Inv (X.wish E) pins σ H s:=⟨I.ok.wish E,I.os,I.bare,I.base,I.loc,I.cell,I.free,I.freeC,I.pin,I.hok,I.len⟩
theorem Inv.unwish (I:Inv (X.wish E) pins σ H s):Inv X pins σ H s:=⟨I.ok.unwish,I.os,I.bare,I.base,I.loc,I.cell,I.free,I.freeC,I.pin,I.hok,I.len⟩
theorem SP.unwish {D:Ends} {f:Flow} {s':Shared} (h:SP (X.wish E) pins D f s'):SP X pins D f s':=by
 cases f with
 | next=>obtain ⟨σ',H',I,q⟩:=h; exact ⟨σ',H',I.unwish,q⟩
 | brk=>obtain ⟨σ',H',I,q⟩:=h; exact ⟨σ',H',I.unwish,q⟩
 | cont=>obtain ⟨σ',H',I,q⟩:=h; exact ⟨σ',H',I.unwish,q⟩
 | ret u=>obtain ⟨v,σ',H',I,r,q⟩:=h; exact ⟨v,σ',H',I.unwish,r,q⟩
theorem PSs.nox {st:List Stmt} {t:TS} (h:PSs X.nox st t):PSs X st t:=fun pins s σ H D I hw =>
 wpAny_mono (h pins s σ H D (I.wish _) hw) (fun _ _ q=>q.unwish) fun _ _ z=>False.elim z
end
section
variable {X:Cx} {st:Stmt} {rest:List Stmt} {t u:TS} {e:Expr} {te:TE} {pos:Pos}
noncomputable def zjf:TS:=fun D σ H=>D.nx σ H
noncomputable def tSeq (t u:TS):TS:=fun D σ H=>t { D with nx:=u D } σ H
theorem zdh:PSs X [] zjf:=fun _ _ σ H _ I h=>wpAny_execs_nil ⟨σ,H,I,h⟩
theorem tu (h1:PS X st t) (h2:PSs X rest u):PSs X (st::rest) (tSeq t u):=by
 intro pins s σ H D I h
 refine wpAny_execs_cons (thn (h1 pins s σ H { D with nx:=u D } I h) fun f s1 q => ?_)
 cases f with
 | next =>
   obtain ⟨σ',H',I',q⟩:=q
   exact h2 pins s1 σ' H' D I' q
 | ret v=>exact q
 | brk=>exact q
 | cont=>exact q
theorem uo (h1:PS X st t):PSs X [st] t:=by
 intro pins s σ H D I h
 refine wpAny_execs_cons (thn (h1 pins s σ H D I h) fun f s1 q => ?_)
 cases f with
 | next=>exact wpAny_execs_nil q
 | ret v=>exact q
 | brk=>exact q
 | cont=>exact q
theorem Inv.quiet {pins:List (Addr×Obj)} {σ:St} {H:Hp} {s:Shared} (I:Inv X pins σ H s):interactive X.env=false:=by simp [interactive,I.ok.kind]
noncomputable def zkB (te:TE):TS:=fun D σ H=>te σ H fun _ H1=>D.nx σ H1
theorem zbF (he:PE X e te) (hs:swapsWith e none pos.line X.env=pure false:=by rfl):PS X (.Expr e pos) (zkB te):=by
 intro pins s σ H D I h
 exact wpAny_Expr_any (thn (he pins s σ H _ I h) fun v s1 ⟨x,H1,I1,r1,q1⟩=>⟨σ,H1,I1,q1⟩) I.quiet hs
noncomputable def tRet (te:TE):TS:=fun D σ H=>te σ H D.rt
theorem zgc (he:PE X e te):PS X (.Return (some e) pos) (tRet te):=by
 intro pins s σ H D I h
 exact wpAny_Return_some (thn (he pins s σ H _ I h) fun v s1 ⟨x,H1,I1,r1,q1⟩=>⟨x,σ,H1,I1,r1,q1⟩)
noncomputable def tIfS (c:TT) (t u:TS):TS:=fun D σ H=>c σ H fun b H1=>if b=true then t D σ H1 else u D σ H1
theorem zjq {c:Expr} {a b:List Stmt} {tc:TT} (hc:PT X c tc) (ha:PSs X a t) (hb:PSs X b u):PS X (.If c a b pos) (tIfS tc t u):=by
 intro pins s σ H D I h
 refine wpAny_If (thn (hc pins s σ H _ I h) fun d s1 ⟨H1,I1,q1⟩ => ?_)
 cases d with
 | true=>exact ha pins s1 σ H1 D I1 q1
 | false=>exact hb pins s1 σ H1 D I1 q1
end
noncomputable abbrev TG:=V→St→Hp→(St→Hp→Prop)→Prop
noncomputable abbrev TGs:=List V→St→Hp→(St→Hp→Prop)→Prop
noncomputable def PG (X:Cx) (target:Expr) (t:TG):Prop :=
 ∀ (pins:List (Addr×Obj)) (s:Shared) (σ:St) (H:Hp) (v:V) (u:Value) (Q:St→Hp→Prop),Inv X pins σ H s→RelV v u→t v σ H Q →
   wpAny (model X.prog X.w) X.A (assign target X.env u) (fun _ s'=>∃ σ' H',Inv X pins σ' H' s'∧Q σ' H') X.xe s
noncomputable def PGs (X:Cx) (ts:List Expr) (t:TGs):Prop :=
 ∀ (pins:List (Addr×Obj)) (s:Shared) (σ:St) (H:Hp) (vs:List V) (us:List Value) (Q:St→Hp→Prop),Inv X pins σ H s→Vals vs us→t vs σ H Q →
   wpAny (model X.prog X.w) X.A (assignInOrder ((assignEach ts X.env).map (·.2)) us) (fun _ s'=>∃ σ' H',Inv X pins σ' H' s'∧Q σ' H') X.xe s
noncomputable abbrev TSet:=V→V→V→Hp→(Hp→Prop)→Prop
noncomputable def PSet (X:Cx) (t:TSet):Prop :=
 ∀ (pins:List (Addr×Obj)) (s:Shared) (σ:St) (H:Hp) (o i v:V) (ov iv u:Value) (Q:Hp→Prop),Inv X pins σ H s→RelV o ov→RelV i iv→RelV v u→t o i v H Q →
   wpAny (model X.prog X.w) X.A (setItem ov iv u) (fun _ s'=>∃ H',Inv X pins σ H' s'∧Q H') X.xe s
section
variable {X:Cx} {pos:Pos}
noncomputable def zfr (i:Nat):TG:=fun v σ H Q=>Q (σ.set i (some v)) H
theorem tX {i:Nat} {x:Str} (hN:X.N.Nodup) (hi:X.N[i]?=some x) (hx:Loc X.env.scope x) (hf:X.fn x=true∨X.env.scope.names.lookup x=some .local:=by first | exact .inl rfl | exact .inr rfl | assumption):PG X (.Name x pos) (zfr i):=by
 intro pins s σ H v u Q I r h
 exact wpAny_assign_Name (zea I hN hi hx r (fun s' I'=>⟨_,H,I',h⟩) hf)
noncomputable def gNil:TGs:=fun vs σ H Q=>vs=[]∧Q σ H
noncomputable def zj2 (t:TG) (u:TGs):TGs:=fun vs σ H Q=>∃ v r,vs=v::r∧t v σ H fun σ' H'=>u r σ' H' Q
theorem zgi:PGs X [] gNil:=by
 intro pins s σ H vs us Q I r h
 obtain ⟨e,h⟩:=h
 subst e
 cases r
 exact assignInOrder_nil ⟨σ,H,I,h⟩
theorem zbG {e:Expr} {es:List Expr} {t:TG} {u:TGs} (h1:PG X e t) (h2:PGs X es u)
 (hs:(assignEach (e::es) X.env).map (·.2)=assign e X.env::(assignEach es X.env).map (·.2):=by rfl):PGs X (e::es) (zj2 t u):=by
 intro pins s σ H vs us Q I r h
 obtain ⟨v,vr,e1,h⟩:=h
 subst e1
 cases r with
 | cons r rr =>
   rw [hs]
   refine assignInOrder_cons (thn (h1 pins s σ H _ _ _ I r h) fun _ s1 ⟨σ1,H1,I1,q1⟩ => ?_)
   exact h2 pins s1 σ1 H1 _ _ Q I1 rr q1
noncomputable def gTup (K:PySem.W.Frag) (n:Nat) (t:TGs):TG:=fun v σ H Q=>∃ a xs,v=.ref a∧SqT K H a xs∧xs.length=n∧t xs σ H Q
theorem ziN {es:List Expr} {k:Nat} {t:TGs} {n:Nat} (hc:X.calm=true) (h:PGs X es t)
 (hn:(assignEach es X.env).length=n:=by rfl) (hst:(assignEach es X.env).findIdx? (·.1)=none:=by rfl):PG X (.Tuple es k pos) (gTup X.K n t):=by
 intro pins s σ H v u Q I r hw
 obtain ⟨a,xs,e1,hq,hl,hw⟩:=hw
 subst e1
 cases r
 obtain ⟨its,rv,ht,hz⟩:=I.tuple hq
 refine assign_Tuple_tuple (I.ok.hd hc) ht (by simp [hn,←hl,rv.length]) hst fun h' hx => ?_
 have I1:Inv X pins σ H { s with heap:=h' }:=I.kept (t':=s.toks) fun b o e=>hx b o (Nat.ne_of_lt (Heap.lt_size e)) e
 exact h pins _ σ H xs _ Q I1 (by simpa using rv) hw
noncomputable def gSub (to ti:TE) (t:TSet):TG:=fun v σ H Q=>to σ H fun o H1=>ti σ H1 fun i H2=>t o i v H2 fun H3=>Q σ H3
theorem zkQ {o i:Expr} {to ti:TE} {t:TSet} (ho:PE X o to) (hi:PE X i ti) (hs:PSet X t)
 (ha:∀ v,assign (.Subscript o i pos) X.env v=(do
  let ov ← holding [v] (eval o X.env)
  let iv ← holding [v,ov] (eval i X.env)
  standAt pos
  holding [v,ov,iv] (setItem ov iv v)
  release [v,ov,iv] []):=by intro _; rfl):PG X (.Subscript o i pos) (gSub to ti t):=by
 intro pins s σ H v u Q I r h
 rw [ha]
 refine wpAny_bind (wpAny_holding (thn (ho pins s σ H _ I h) fun ov s1 ⟨x,H1,I1,r1,q1⟩ => ?_))
 refine wpAny_bind (wpAny_holding (thn (hi pins s1 σ H1 _ I1 q1) fun iv s2 ⟨y,H2,I2,r2,q2⟩ => ?_))
 refine wpAny_bind (wpAny_standAt (wpAny_bind (wpAny_holding (thn (hs pins s2 σ H2 x y v ov iv u _ I2 r1 r2 r q2) fun _ s3 ⟨H3,I3,q3⟩ => ?_))))
 exact wpAny_release ⟨σ,H3,I3,q3⟩
noncomputable def tAsg (te:TE) (g:TG):TS:=fun D σ H=>te σ H fun x H1=>g x σ H1 D.nx
theorem zkN {tg e:Expr} {te:TE} {g:TG} (he:PE X e te) (hg:PG X tg g) (hs:swapsWithSole [tg] e pos.line X.env=pure false:=by rfl) (hw:swappedStores [tg] e X.env=pure none:=by rfl)
 (h1:(assignEach [tg] X.env).map (·.2)=[assign tg X.env]:=by rfl):PS X (.Assign [tg] e pos) (tAsg te g):=by
 intro pins s σ H D I h
 refine wpAny_Assign_stores (thn (he pins s σ H _ I h) fun v s1 ⟨x,H1,I1,r1,q1⟩ => ?_) hs hw
 rw [h1]
 exact thn (hg pins s1 σ H1 x v _ I1 r1 q1) fun _ s2 q=>q
theorem ziM {i:Nat} {x:Str} {e:Expr} {te:TE} {pos':Pos} (hN:X.N.Nodup) (hi:X.N[i]?=some x) (hx:Loc X.env.scope x) (he:PE X e te) (hs:swapsWith e (some (.Name x pos')) pos.line X.env=pure false:=by rfl) (hf:X.fn x=true∨X.env.scope.names.lookup x=some .local:=by first | exact .inl rfl | exact .inr rfl | assumption) :
 PS X (.Assign [.Name x pos'] e pos) (tAsg te (zfr i)):=by
 intro pins s σ H D I h
 refine wpAny_Assign_Name (thn (he pins s σ H _ I h) fun v s1 ⟨y,H1,I1,r1,q1⟩ => ?_) hs
 exact zea I1 hN hi hx r1 (fun s2 I2=>⟨_,H1,I2,q1⟩) hf
end
section
variable {X:Cx} {pos:Pos}
noncomputable def zkz (c:TT) (tb:TS):TS:=fun D σ H=>∃ W:Nat→St→Hp→Prop,(∃ m,W m σ H)∧∀ m σ H,W m σ H →
 c σ H fun b H1=>if b=true then ∃ N:St→Hp→Prop,(∀ σ' H',N σ' H'→∃ m',m' < m∧W m' σ' H')∧tb { D with nx:=N,ct:=N,bk:=D.nx } σ H1 else D.nx σ H1
theorem zhR {c:Expr} {body:List Stmt} {tc:TT} {tb:TS} (hp:PassesOwn (model X.prog X.w) X.A X.env X.xe) (hc:PT X c tc) (hb:PSs X body tb):PS X (.While c body [] pos) (zkz tc tb):=by
 intro pins s σ H D I h
 obtain ⟨W,⟨m0,w0⟩,turn⟩:=h
 refine wpAny_While (codeAny_whileLoop (fun n s'=>∃ σ' H',Inv X pins σ' H' s'∧W n σ' H') ?_ m0 ⟨σ,H,I,w0⟩)
 rintro n s1 ⟨σ1,H1,I1,w1⟩
 refine wpAny_passesOwn hp (thn (hc pins s1 σ1 H1 _ I1 (turn n σ1 H1 w1)) fun b s2 ⟨H2,I2,q2⟩ => ?_)
 cases b with
 | true =>
   obtain ⟨N,hN,q2⟩:=q2
   rw [if_pos rfl]
   refine wpAny_passesOwn hp (thn (hb pins s2 σ1 H2 _ I2 q2) fun f s3 q3 => ?_)
   cases f with
   | next =>
     obtain ⟨σ3,H3,I3,n3⟩:=q3
     obtain ⟨m',hm,w3⟩:=hN σ3 H3 n3
     exact ⟨m',hm,σ3,H3,I3,w3⟩
   | cont =>
     obtain ⟨σ3,H3,I3,n3⟩:=q3
     obtain ⟨m',hm,w3⟩:=hN σ3 H3 n3
     exact ⟨m',hm,σ3,H3,I3,w3⟩
   | brk=>exact q3
   | ret v=>exact q3
 | false =>
   rw [if_neg Bool.false_ne_true]
   exact wpAny_execs_nil ⟨σ1,H2,I2,q2⟩
end
structure It where
 go:Nat→Hp→Prop
 yld:Nat→Hp→V→Hp→Prop
 stop:Nat→Hp→Prop
noncomputable def FpOk (X:Cx) (pins:List (Addr×Obj)) (H:Hp) (b:Addr):Prop :=
 H b=none∧b≠X.env.locals∧b∉X.fs∧(b∈X.ex∨X.s₀.heap.objs.size≤b)∧(∀ x c,X.env.cells.lookup x=some c→c≠b)∧∀ p∈X.pn++pins,p.1≠b
theorem Inv.fpOk {X:Cx} {pins:List (Addr×Obj)} {σ:St} {H H':Hp} {s:Shared} {b:Addr} (I:Inv X pins σ H s) (hb:s.heap.objs.size≤b) (hn:H' b=none):FpOk X pins H' b:=by
 refine ⟨hn,Nat.ne_of_gt (Nat.lt_of_lt_of_le I.lt hb),I.nofs hb,.inr (Nat.le_trans I.sz hb),fun x c e z => ?_,fun p hp z => ?_⟩
 ·obtain ⟨v,q⟩:=I.cell x c e
  exact absurd (Nat.lt_of_lt_of_le q.lt (by rw [z]; exact hb)) (Nat.lt_irrefl _)
 ·exact absurd (Nat.lt_of_lt_of_le (Heap.lt_size (I.pin p hp).1) (by rw [z]; exact hb)) (Nat.lt_irrefl _)
structure Turn (P:Program) (w:World) (K:PySem.W.Frag) (tg:Expr) (J:It) (fp:List Addr) (it:Addr) (tn:Nat→Heap→Prop):Prop where
 mem:it∈fp
 obj:∀ i h,tn i h→∀ b∈fp,∃ o,h.get? b=some o∧∀ v,o.data≠.cell v
 keep:∀ i h h',tn i h→(∀ b∈fp,∀ o,h.get? b=some o→h'.get? b=some o)→tn i h'
 item:∀ (X:Cx),X.prog=P→X.w=w→X.K=K→X.calm=true→∀ (i:Nat) (pins:List (Addr×Obj)) (s:Shared) (σ:St) (H:Hp) (E:Value→Shared→Prop),Inv X pins σ H s→(∀ b∈fp,FpOk X pins H b)→tn i s.heap→J.go i H →
  wpAny (model P w) X.A (pyNext (.ref it)) (fun r s1=>∃ u,r=some u ∧
   wpAny (model P w) X.A (letOwnedTupleGo tg (.ref it) u) (fun _ s2=>∃ x H',Inv X pins σ H' s2∧RelV x u∧J.yld i H x H'∧tn (i+1) s2.heap∧∀ b∈fp,H' b=none) E s1) E s
 done:∀ (X:Cx),X.prog=P→X.w=w→X.K=K→X.calm=true→∀ (i:Nat) (pins:List (Addr×Obj)) (s:Shared) (σ:St) (H:Hp) (E:Value→Shared→Prop),Inv X pins σ H s→(∀ b∈fp,FpOk X pins H b)→tn i s.heap→J.stop i H →
  wpAny (model P w) X.A (pyNext (.ref it)) (fun r s1=>r=none∧Inv X pins σ H s1) E s
 self:∀ (A:Around) (i:Nat) (s:Shared) (Q:Value→Shared→Prop) (E:Value→Shared→Prop),tn i s.heap→Q (.ref it) s→wpAny (model P w) A (pyIter (.ref it)) Q E s
noncomputable abbrev TI:=St→Hp→(It→Hp→Prop)→Prop
noncomputable def PIE (X:Cx) (pins:List (Addr×Obj)) (σ:St) (tg:Expr) (R:It→Hp→Prop) (itv:Value) (s2:Shared):Prop :=
 ∃ (it:Addr) (fp:List Addr) (tn:Nat→Heap→Prop) (J:It) (H':Hp),itv=.ref it∧Inv X pins σ H' s2∧Turn X.prog X.w X.K tg J fp it tn∧tn 0 s2.heap∧(∀ b∈fp,FpOk X pins H' b)∧R J H'
noncomputable def PI (X:Cx) (tg iter:Expr) (wi:TI):Prop :=
 ∀ (pins:List (Addr×Obj)) (s:Shared) (σ:St) (H:Hp) (R:It→Hp→Prop),Inv X pins σ H s→wi σ H R →
   wpAny (model X.prog X.w) X.A (eval iter X.env) (fun v s1=>wpAny (model X.prog X.w) X.A (pyIter v) (PIE X pins σ tg R) X.xe s1) X.xe s
theorem zj0 {M:Model} {A:Around} {E:Value→Shared→Prop} {s:Shared} {tg:Expr} {it:Addr} {u:Value} {o:Obj} {n:String} {vs:Array Value} {Q:Unit→Shared→Prop} (ho:s.heap.get? it=some o) (hc:o.cls=.type n) (hd:o.data=.fields vs)
 (hn:["enumerate","zip","dict_itemiterator","dict_reverseitemiterator","odict_iterator","itertools.zip_longest","itertools.pairwise"].contains n=false) (hQ:Q () s):wpAny M A (letOwnedTupleGo tg (.ref it) u) Q E s:=by
 unfold letOwnedTupleGo
 cases tg <;> first
  | exact wpAny_pure hQ
  | (cases u <;> first
   | exact wpAny_pure hQ
   | (refine wpAny_bind (wpAny_load ho ?_)
      rw [hc,hd]
      show wpAny M A (if (["enumerate","zip","dict_itemiterator","dict_reverseitemiterator","odict_iterator","itertools.zip_longest","itertools.pairwise"].contains n&&vs[0]? == some (rawInt _))=true then _ else _) Q E s
      rw [if_neg (by intro h; rw [hn,Bool.false_and] at h; cases h)]
      exact wpAny_pure hQ))
noncomputable def Itl (K:PySem.W.Frag) (a:Addr):It :=
 ⟨fun i H=>∃ xs x,SqL K H a xs∧xs[i]?=some x,fun i H x H'=>H'=H∧∀ xs,SqL K H a xs→xs[i]?=some x,fun i H=>∃ xs,SqL K H a xs∧xs.length≤i⟩
noncomputable def Itr (lo:Int) (n:Nat):It:=⟨fun i _=>i<n,fun i H x H'=>H'=H∧x=.int (lo+i),fun i _=>n≤i⟩
theorem zfN {P:Program} {w:World} {K:PySem.W.Frag} {tg:Expr} (a it:Addr):Turn P w K tg (Itl K a) [it] it (fun i h=>h.IsListIter it a i) where
 mem:=by simp
 obj:=fun i h st b hb=>by
  have e:b=it:=by simpa using hb
  subst e
  obtain ⟨o,e,c,d⟩:=st
  exact ⟨o,e,fun v z=>by rw [d] at z; cases z⟩
 keep:=fun i h h' st k=>st.at fun o e=>k it (by simp) o e
 item:=by
  intro X hP hw hK hc i pins s σ H E I hf st hg
  subst hP hw hK
  obtain ⟨xs,x,hq,hx⟩:=hg
  obtain ⟨its,rv,p,hz⟩:=I.list hq
  obtain ⟨u,hu,ru⟩:=rv.get hx
  obtain ⟨f0,f1,f2,f3,f4,f5⟩:=hf it (by simp)
  refine wpAny_pyNext_list_item st p.isList (x:=u) (by simpa using hu) fun h' st' sb => ?_
  have I1:Inv X pins σ H { s with heap:=h' }:=I.turned (t':=s.toks) (fun b o hb e=>(sb.2 b hb).trans e) f0 f1 f3 f4 f5
  obtain ⟨o,e,c,d⟩:=id st'
  exact ⟨u,rfl,zj0 (s:={ s with heap:=h' }) e c d (by decide) ⟨x,H,I1,ru,⟨rfl,fun ys hy=>by rw [I.list_inj hy hq]; exact hx⟩,st',fun b hb=>(hf b hb).1⟩⟩
 done:=by
  intro X hP hw hK hc i pins s σ H E I hf st hg
  subst hP hw hK
  obtain ⟨xs,hq,hx⟩:=hg
  obtain ⟨its,rv,p,hz⟩:=I.list hq
  obtain ⟨f0,f1,f2,f3,f4,f5⟩:=hf it (by simp)
  have hl:=rv.length
  exact wpAny_pyNext_list_end (I.ok.hd hc) st p.isList (by simp; lia) fun h' eb=>⟨rfl,I.turned (t':=s.toks) (fun b o hb e=>eb b o hb e) f0 f1 f3 f4 f5⟩
 self:=fun _ _ _ _ _ st h=>wpAny_pyIter_listiter st h
theorem ze8 {P:Program} {w:World} {K:PySem.W.Frag} {tg:Expr} (it:Addr) (lo:Int) (n:Nat):Turn P w K tg (Itr lo n) [it] it (fun i h=>IsRangeIter h it (lo+(i:Nat)*1) ((n:Int) - (i:Nat)) 1) where
 mem:=by simp
 obj:=fun i h st b hb=>by
  have e:b=it:=by simpa using hb
  subst e
  exact ⟨_,st,fun v z=>by
   have z':Data.fields _=Data.cell v:=z
   cases z'⟩
 keep:=fun i h h' st k=>k it (by simp) _ st
 item:=by
  intro X hP hw hK hc i pins s σ H E I hf st hg
  subst hP hw hK
  obtain ⟨f0,f1,f2,f3,f4,f5⟩:=hf it (by simp)
  have W:=Walks.range (prog:=X.prog) (w:=X.w) (I.ok.hd hc) it lo 1 n
  refine W.item i s _ _ hg st fun v h' tk hv st' kk => ?_
  obtain ⟨t,rfl⟩:=hv
  have I1:Inv X pins σ H { s with heap:=h',toks:=tk }:=I.turned (fun b o hb e=>kk b o (by simpa using hb) e) f0 f1 f3 f4 f5
  refine ⟨_,rfl,zj0 (s:={ s with heap:=h',toks:=tk }) (n := "range_iterator") st' rfl rfl (by decide) ⟨.int (lo+i),H,I1,⟨t,?_⟩,⟨rfl,rfl⟩,st',fun b hb=>(hf b hb).1⟩⟩
  rw [Int.mul_one]
 done:=by
  intro X hP hw hK hc i pins s σ H E I hf st hg
  subst hP hw hK
  obtain ⟨f0,f1,f2,f3,f4,f5⟩:=hf it (by simp)
  exact wpAny_pyNext_range_end (I.ok.hd hc) st (by have:n≤i:=hg; lia) fun h' eb=>⟨rfl,I.turned (t':=s.toks) (fun b o hb e=>eb b o hb e) f0 f1 f3 f4 f5⟩
 self:=fun _ _ _ _ _ st h=>wpAny_pyIter_rangeiter st h
end L2
namespace L2
open PySem PySem.Spec PyProof.Rows
section
variable {X:Cx} {tg:Expr}
noncomputable def iList (K:PySem.W.Frag) (tl:TE):TI:=fun σ H R=>tl σ H fun x H1=>∃ a,x=.ref a∧(∃ xs,SqL K H1 a xs)∧R (Itl K a) H1
theorem zjw {l:Expr} {tl:TE} (hl:PE X l tl):PI X tg l (iList X.K tl):=by
 intro pins s σ H R I h
 refine thn (hl pins s σ H _ I h) fun v s1 ⟨x,H1,I1,r1,q1⟩ => ?_
 obtain ⟨a,e,⟨xs,hq⟩,q⟩:=q1
 subst e
 cases r1
 obtain ⟨its,rv,p,hz⟩:=I1.list hq
 refine wpAny_pyIter_list p.isList ?_
 refine ⟨s1.heap.objs.size,[s1.heap.objs.size],_,_,H1,rfl,I1.kept (t':=s1.toks) fun b o e=>Heap.get?_push_of_some _ e,zfN a _,⟨_,Heap.get?_push_size _ rfl,rfl,rfl⟩,fun b hb => ?_,q⟩
 have e:b=s1.heap.objs.size:=by simpa using hb
 subst e
 exact I1.fpOk (Nat.le_refl _) (I1.hok.fresh (Nat.le_refl _))
theorem zet {pins:List (Addr×Obj)} {σ:St} {H:Hp} {s:Shared} {R:It→Hp→Prop} {E:Value→Shared→Prop} {lo hi:Int} {t u v:Tok} {tk:Nat} (I:Inv X pins σ H s) (h1 : -(2^62)≤lo) (h2:lo<2^62) (h3 : -(2^62)≤hi) (h4:hi<2^62)
 (q:R (Itr lo (hi - lo).toNat) H):wpAny (model X.prog X.w) X.A (pyIter (.ref s.heap.objs.size)) (PIE X pins σ tg R) E { s with heap:=s.heap.push { cls:=.type "range",data:=.fields #[.int lo t,.int hi u,.int 1 v] },toks:=tk }:=by
 refine wpAny_pyIter_range (IsRange.new ..) (small_one h1 h2 h3 h4) ?_
 have I1:Inv X pins σ H { s with heap:=s.heap.push { cls:=.type "range",data:=.fields #[.int lo t,.int hi u,.int 1 v] },toks:=tk }:=I.kept fun b o e=>Heap.get?_push_of_some _ e
 refine ⟨(s.heap.push { cls:=.type "range",data:=.fields #[.int lo t,.int hi u,.int 1 v] }).objs.size,[(s.heap.push { cls:=.type "range",data:=.fields #[.int lo t,.int hi u,.int 1 v] }).objs.size],_,_,H,rfl,
  I1.kept (t':=tk) fun b o e=>Heap.get?_push_of_some _ e,ze8 _ lo (hi - lo).toNat,?_,fun b hb => ?_,q⟩
 ·have e1:lo+((0:Nat):Int)*1=lo:=by simp
  have e2:(((hi - lo).toNat:Nat):Int) - ((0:Nat):Int)=Builtin.Range.rangeSize lo hi 1:=by rw [rangeSize_one]; split <;> lia
  show IsRangeIter _ _ (lo+((0:Nat):Int)*1) ((((hi - lo).toNat:Nat):Int) - ((0:Nat):Int)) 1
  rw [e1,e2]
  exact Heap.get?_push_size _ rfl
 ·have e:b=(s.heap.push { cls:=.type "range",data:=.fields #[.int lo t,.int hi u,.int 1 v] }).objs.size:=by simpa using hb
  subst e
  exact I1.fpOk (Nat.le_refl _) (I1.hok.fresh (Nat.le_refl _))
noncomputable def iRng1 (ta:TA):TI:=fun σ H R=>ta σ H fun vs H1=>∃ j:Int,vs=[.int j] ∧ -(2^62)≤j∧j<2^62∧R (Itr 0 j.toNat) H1
noncomputable def iRng2 (ta:TA):TI:=fun σ H R=>ta σ H fun vs H1=>∃ i j:Int,vs=[.int i,.int j]∧(-(2^62)≤i∧i<2^62 ∧ -(2^62)≤j∧j<2^62)∧R (Itr i (j - i).toNat) H1
theorem zgh {a:Expr} {ta:TA} {p pos:Pos} (hg:Gl X "range") (hm:X.mg "range" = none) (ha:PA X [a] ta) (hs:starEach [a] X.env=[(false,eval a X.env)]:=by rfl):PI X tg (.Call (.Name "range" p) [a] [] pos) (iRng1 ta):=by
 intro pins s σ H R I h
 refine Call_ (uU I hg hm boot_range (PyProof.Rows.callWith_type1 (thn (ha pos pins s σ H _ I h) fun us s1 ⟨vs,H1,I1,r1,q1⟩ => ?_) hs rfl))
 obtain ⟨j,e,q1,q2,q⟩:=q1
 subst e
 cases r1 with
 | cons r rr =>
   cases rr
   obtain ⟨t,rfl⟩:=r
   exact call_range_1 (zet I1 (by lia) (by lia) q1 q2 (by simpa using q))
theorem zgg {a b:Expr} {ta:TA} {p pos:Pos} (hg:Gl X "range") (hm:X.mg "range" = none) (ha:PA X [a,b] ta) (hs:starEach [a,b] X.env=[(false,eval a X.env),(false,eval b X.env)]:=by rfl) (hs2:starEach [b] X.env=[(false,eval b X.env)]:=by rfl) :
 PI X tg (.Call (.Name "range" p) [a,b] [] pos) (iRng2 ta):=by
 intro pins s σ H R I h
 refine Call_ (uU I hg hm boot_range (PyProof.Rows.callWith_type1 (thn (ha pos pins s σ H _ I h) fun us s1 ⟨vs,H1,I1,r1,q1⟩ => ?_) (by rw [hs,hs2]) (by rw [hs2]; rfl)))
 obtain ⟨i,j,e,⟨q1,q2,q3,q4⟩,q⟩:=q1
 subst e
 cases r1 with
 | cons r rr =>
   cases rr with
   | cons r' rr =>
     cases rr
     obtain ⟨t,rfl⟩:=r
     obtain ⟨t',rfl⟩:=r'
     exact call_range_2 (zet I1 q1 q2 q3 q4 q)
noncomputable def tFor (wi:TI) (g:TG) (tb:TS):TS:=fun D σ H=>wi σ H fun J H1=>∃ W:Nat→Nat→St→Hp→Prop,(∃ m,W 0 m σ H1)∧∀ i m σ H,W i m σ H →
 (J.stop i H∧D.nx σ H)∨(J.go i H∧∃ N:St→Hp→Prop,(∀ σ' H',N σ' H'→∃ m',m' < m∧W (i+1) m' σ' H')∧∀ x H',J.yld i H x H'→g x σ H' fun σ2 H2=>tb { D with nx:=N,ct:=N,bk:=D.nx } σ2 H2)
noncomputable def zcq (fp:List Addr) (h:Heap):List (Addr×Obj):=fp.filterMap fun b=>(h.get? b).map fun o=>(b,o)
theorem w8 {fp:List Addr} {h:Heap} {b:Addr} {o:Obj} (hb:b∈fp) (e:h.get? b=some o):(b,o)∈zcq fp h:=List.mem_filterMap.mpr ⟨b,hb,by rw [e]; rfl⟩
theorem zgo {fp:List Addr} {h:Heap} {p:Addr×Obj} (hp:p∈zcq fp h):p.1∈fp∧h.get? p.1=some p.2:=by
 obtain ⟨b,hb,e⟩:=List.mem_filterMap.mp hp
 cases q:h.get? b with
 | none=>rw [q] at e; cases e
 | some o =>
   rw [q] at e
   have e':(b,o)=p:=Option.some.inj e
   subst e'
   exact ⟨hb,q⟩
theorem Inv.pinned {pins:List (Addr×Obj)} {σ:St} {H:Hp} {s:Shared} {fp:List Addr} (I:Inv X pins σ H s) (hf:∀ b∈fp,FpOk X pins H b) (ho:∀ b∈fp,∃ o,s.heap.get? b=some o∧∀ v,o.data≠.cell v):Inv X (pins++zcq fp s.heap) σ H s :=
 I.pins_of fun p hp=>(List.mem_append.mp hp).elim (fun z=>I.pin p (List.mem_append_right _ z)) fun z=>by
  obtain ⟨hb,e⟩:=zgo z
  obtain ⟨f0,f1,f2,_⟩:=hf p.1 hb
  obtain ⟨o,e',d⟩:=ho p.1 hb
  rw [e] at e'; cases e'
  exact ⟨e,f0,f1,f2,d⟩
theorem Inv.unpinned {pins pl:List (Addr×Obj)} {σ:St} {H:Hp} {s:Shared} (I:Inv X (pins++pl) σ H s):Inv X pins σ H s:=I.pins_of fun p hp=>I.pin p (List.mem_append_right _ (List.mem_append_left _ hp))
theorem zgd {iter:Expr} {body:List Stmt} {wi:TI} {g:TG} {tb:TS} {pos:Pos} (hp:PassesOwn (model X.prog X.w) X.A X.env X.xe) (hc:X.calm=true) (hi:PI X tg iter wi) (hg:PG X tg g) (hb:PSs X body tb)
 (hs:∀ x,foldedSetIterable iter X.env x=pure x:=by intro _; rfl):PS X (.For tg iter body [] pos) (tFor wi g tb):=by
 intro pins s σ H D I h
 refine wpAny_For (thn (hi pins s σ H _ I h) fun v s1 h1=>thn h1 fun itv s2 h2 => ?_) hs
 obtain ⟨it,fp,tn,J,H2,e,I2,T,st2,f2,W,⟨m0,w0⟩,turn⟩:=h2
 subst e
 have stat:∀ {H':Hp},(∀ b∈fp,H' b=none)→∀ b∈fp,FpOk X pins H' b:=fun hn b hb=>⟨hn b hb,(f2 b hb).2⟩
 refine codeAny_forLoop_any (fun n s'=>∃ i σ' H',Inv X pins σ' H' s'∧tn i s'.heap∧(∀ b∈fp,H' b=none)∧W i n σ' H') ?_ m0 ⟨0,σ,H2,I2,st2,fun b hb=>(f2 b hb).1,w0⟩
 rintro n s3 ⟨i,σ3,H3,I3,st3,fr3,w3⟩
 rcases turn i n σ3 H3 w3 with ⟨stop,qn⟩ | ⟨go,N,hN,step⟩
 ·refine wpAny_passesOwn hp (thn (T.done X rfl rfl rfl hc i pins s3 σ3 H3 X.xe I3 (stat fr3) st3 stop) fun r s4 ⟨hr,I4⟩ => ?_)
  subst hr
  exact wpAny_execs_nil ⟨σ3,H3,I4,qn⟩
 ·refine wpAny_passesOwn hp (thn (T.item X rfl rfl rfl hc i pins s3 σ3 H3 X.xe I3 (stat fr3) st3 go) fun r s4 ⟨u,hr,h4⟩ => ?_)
  subst hr
  refine wpAny_passesOwn hp (thn h4 fun _ s5 ⟨x,H5,I5,r5,y5,st5,fr5⟩ => ?_)
  have I5':=I5.pinned (stat fr5) (T.obj _ _ st5)
  refine wpAny_passesOwn hp (thn (hg _ s5 σ3 H5 x u _ I5' r5 (step x H5 y5)) fun _ s6 ⟨σ6,H6,I6,q6⟩ => ?_)
  refine wpAny_passesOwn hp (thn (hb _ s6 σ6 H6 _ I6 q6) fun f s7 q7 => ?_)
  have again:∀ {σ7:St} {H7:Hp},Inv X (pins++zcq fp s5.heap) σ7 H7 s7→N σ7 H7→∃ m,m<n∧∃ i σ' H',Inv X pins σ' H' s7∧tn i s7.heap∧(∀ b∈fp,H' b=none)∧W i m σ' H':=fun {σ7 H7} I7 n7=>by
   obtain ⟨m',hm,w7⟩:=hN σ7 H7 n7
   refine ⟨m',hm,i+1,σ7,H7,I7.unpinned,T.keep _ _ _ st5 fun b hb o e=>(I7.pin (b,o) (List.mem_append_right _ (List.mem_append_right _ (w8 hb e)))).1,fun b hb => ?_,w7⟩
   obtain ⟨o,e,d⟩:=T.obj _ _ st5 b hb
   exact (I7.pin (b,o) (List.mem_append_right _ (List.mem_append_right _ (w8 hb e)))).2.1
  cases f with
  | next=>obtain ⟨σ7,H7,I7,n7⟩:=q7; exact again I7 n7
  | cont=>obtain ⟨σ7,H7,I7,n7⟩:=q7; exact again I7 n7
  | brk=>obtain ⟨σ7,H7,I7,q7⟩:=q7; exact ⟨σ7,H7,I7.unpinned,q7⟩
  | ret v=>obtain ⟨x7,σ7,H7,I7,r7,q7⟩:=q7; exact ⟨x7,σ7,H7,I7.unpinned,r7,q7⟩
end
end L2
namespace L2
open PySem PySem.Spec PyProof.Rows
noncomputable abbrev R2:=V→V→Hp→VK→Prop
noncomputable def OpR (X:Cx) (f:Value→Value→Sem Value) (r:R2):Prop :=
 ∀ (pins:List (Addr×Obj)) (s:Shared) (σ:St) (H:Hp) (x y:V) (v u:Value) (Q:VK),Inv X pins σ H s→RelV x v→RelV y u→r x y H Q →
   wpAny (model X.prog X.w) X.A (f v u) (EP X pins σ Q) X.xe s
noncomputable def UnR (X:Cx) (f:Value→Sem Value) (r:V→Hp→VK→Prop):Prop :=
 ∀ (pins:List (Addr×Obj)) (s:Shared) (σ:St) (H:Hp) (x:V) (v:Value) (Q:VK),Inv X pins σ H s→RelV x v→r x H Q →
   wpAny (model X.prog X.w) X.A (f v) (EP X pins σ Q) X.xe s
noncomputable def zaT (X:Cx) (f:Value) (r:List V→Hp→VK→Prop):Prop :=
 ∀ (pins:List (Addr×Obj)) (s:Shared) (σ:St) (H:Hp) (xs:List V) (us:List Value) (Q:VK),Inv X pins σ H s→Vals xs us→r xs H Q →
   wpAny (model X.prog X.w) X.A (call f us) (EP X pins σ Q) X.xe s
noncomputable def TruR (X:Cx) (r:V→Hp→(Bool→Hp→Prop)→Prop):Prop :=
 ∀ (pins:List (Addr×Obj)) (s:Shared) (σ:St) (H:Hp) (x:V) (v:Value) (Q:Bool→Hp→Prop),Inv X pins σ H s→RelV x v→r x H Q →
   wpAny (model X.prog X.w) X.A (truthy v) (TP X pins σ Q) X.xe s
noncomputable def tOp (r:R2) (ta tb:TE):TE:=fun σ H Q=>ta σ H fun x H1=>tb σ H1 fun y H2=>r x y H2 Q
noncomputable def tUn (r:V→Hp→VK→Prop) (ta:TE):TE:=fun σ H Q=>ta σ H fun x H1=>r x H1 Q
noncomputable def rI (C:Int→Int→Prop) (g:Int→Int→V):R2:=fun x y H Q=>∃ i j,x=.int i∧y=.int j∧C i j∧Q (g i j) H
noncomputable def rI0 (g:Int→Int→V):R2:=fun x y H Q=>∃ i j,x=.int i∧y=.int j∧Q (g i j) H
noncomputable def rU (g:Int→V):V→Hp→VK→Prop:=fun x H Q=>∃ i,x=.int i∧Q (g i) H
section
variable {X:Cx} {a b c:Expr} {ta tb tc:TE} {pos:Pos}
theorem binT (ha:PE X a ta) (hb:PE X b tb) {pins:List (Addr×Obj)} {s:Shared} {σ:St} {H:Hp} {R:V→V→Hp→Prop} (I:Inv X pins σ H s)
 (h:ta σ H fun x H1=>tb σ H1 fun y H2=>R x y H2) {Q:Value→Shared→Prop} {f:Value→Value→Sem Value}
 (hf:∀ v u s2 x y H2,Inv X pins σ H2 s2→RelV x v→RelV y u→R x y H2→wpAny (model X.prog X.w) X.A (f v u) Q X.xe s2) :
 wpAny (model X.prog X.w) X.A (eval a X.env) (fun v s₁=>wpAny (model X.prog X.w) X.A (eval b X.env) (fun u s₂=>wpAny (model X.prog X.w) X.A (f v u) Q X.xe s₂) X.xe s₁) X.xe s:=by
 refine thn (ha pins s σ H _ I h) fun v s1 ⟨x,H1,I1,r1,q1⟩ => ?_
 refine thn (hb pins s1 σ H1 _ I1 q1) fun u s2 ⟨y,H2,I2,r2,q2⟩ => ?_
 exact hf v u s2 x y H2 I2 r1 r2 q2
theorem zkT {op:Operator} {r:R2} (ho:OpR X (binaryOp op) r) (ha:PE X a ta) (hb:PE X b tb):PE X (.BinOp a op b pos) (tOp r ta tb):=by
 intro pins s σ H Q I h
 exact wpAny_BinOp (binT ha hb I h fun v u s2 x y H2 I2 rx ry q=>ho pins s2 σ H2 x y v u Q I2 rx ry q)
theorem pe_un {op:UnaryOp} {r:V→Hp→VK→Prop} (ho:UnR X (unaryOp op) r) (ha:PE X a ta):PE X (.UnaryOp op a pos) (tUn r ta):=by
 intro pins s σ H Q I h
 exact UnaryOp_ (thn (ha pins s σ H _ I h) fun v s1 ⟨x,H1,I1,r1,q1⟩=>ho pins s1 σ H1 x v Q I1 r1 q1)
theorem opI {f:Value→Value→Sem Value} {C:Int→Int→Prop} {g:Int→Int→Int}
 (rule:∀ (i j:Int) (t u:Tok) (s:Shared) (Q:Value→Shared→Prop) (E:Value→Shared→Prop),C i j→Q (.int (g i j) s.toks) { s with toks:=s.toks+1 }→wpAny (model X.prog X.w) X.A (f (.int i t) (.int j u)) Q E s) :
 OpR X f (rI C fun i j=>.int (g i j)):=by
 intro pins s σ H x y v u Q I rx ry h
 obtain ⟨i,j,rfl,rfl,hc,q⟩:=h
 obtain ⟨t,rfl⟩:=rx
 obtain ⟨t',rfl⟩:=ry
 exact rule i j t t' s _ _ hc ⟨.int (g i j),H,I.tok _,⟨_,rfl⟩,q⟩
theorem opI0 {f:Value→Value→Sem Value} {g:Int→Int→Int}
 (rule:∀ (i j:Int) (t u:Tok) (s:Shared) (Q:Value→Shared→Prop) (E:Value→Shared→Prop),Q (.int (g i j) s.toks) { s with toks:=s.toks+1 }→wpAny (model X.prog X.w) X.A (f (.int i t) (.int j u)) Q E s) :
 OpR X f (rI0 fun i j=>.int (g i j)):=by
 intro pins s σ H x y v u Q I rx ry h
 obtain ⟨i,j,rfl,rfl,q⟩:=h
 obtain ⟨t,rfl⟩:=rx
 obtain ⟨t',rfl⟩:=ry
 exact rule i j t t' s _ _ ⟨.int (g i j),H,I.tok _,⟨_,rfl⟩,q⟩
theorem opB0 {f:Value→Value→Sem Value} {g:Int→Int→Bool}
 (rule:∀ (i j:Int) (t u:Tok) (s:Shared) (Q:Value→Shared→Prop) (E:Value→Shared→Prop),Q (.bool (g i j)) s→wpAny (model X.prog X.w) X.A (f (.int i t) (.int j u)) Q E s) :
 OpR X f (rI0 fun i j=>.bl (g i j)):=by
 intro pins s σ H x y v u Q I rx ry h
 obtain ⟨i,j,rfl,rfl,q⟩:=h
 obtain ⟨t,rfl⟩:=rx
 obtain ⟨t',rfl⟩:=ry
 exact rule i j t t' s _ _ ⟨.bl (g i j),H,I,rfl,q⟩
noncomputable def CPow (i j:Int):Prop:=0≤j∧j≤1000000∧i.natAbs<2^64
noncomputable def CMul (i j:Int):Prop:=(-(2^64)<i∧i<2^64)∨(-(2^64)<j∧j<2^64)
theorem CMul.ok {i j:Int} (h:CMul i j):IntMulOk i j:=by
 rcases h with ⟨h1,h2⟩ | ⟨h1,h2⟩
 ·exact .of_left (intBits_le_64 h1 h2)
 ·exact .of_right (intBits_le_64 h1 h2)
theorem zk8:OpR X (binaryOp .Add) (rI0 fun i j=>.int (i+j)):=opI0 fun _ _ _ _ _ _ _ q=>add_int q
theorem zk1:OpR X (binaryOp .Sub) (rI0 fun i j=>.int (i - j)):=opI0 fun _ _ _ _ _ _ _ q=>sub_int q
theorem zk4:OpR X (binaryOp .Mult) (rI CMul fun i j=>.int (i*j)):=opI fun _ _ _ _ _ _ _ hc q=>mul_int q hc.ok
theorem zk5:OpR X (binaryOp .Mod) (rI (fun _ j=>0<j) fun i j=>.int (i%j)):=opI fun i j _ _ _ _ _ hc q=>by
 have h1:(0:Int)<j:=hc
 exact mod_int' (by lia) (by rw [Int.fmod_eq_emod_of_nonneg i (by lia)]; exact q)
theorem zk2:OpR X (binaryOp .Pow) (rI CPow fun i j=>.int (i^j.toNat)):=opI fun _ _ _ _ _ _ _ hc q=>pow_int_small hc.1 hc.2.1 hc.2.2 q
theorem unI {f:Value→Sem Value} {g:Int→Int}
 (rule:∀ (i:Int) (t:Tok) (s:Shared) (Q:Value→Shared→Prop) (E:Value→Shared→Prop),Q (.int (g i) s.toks) { s with toks:=s.toks+1 }→wpAny (model X.prog X.w) X.A (f (.int i t)) Q E s) :
 UnR X f (rU fun i=>.int (g i)):=by
 intro pins s σ H x v Q I rx h
 obtain ⟨i,rfl,q⟩:=h
 obtain ⟨t,rfl⟩:=rx
 exact rule i t s _ _ ⟨.int (g i),H,I.tok _,⟨_,rfl⟩,q⟩
theorem zku:UnR X (unaryOp .USub) (rU fun i=>.int (-i)):=unI fun _ _ _ _ _ q=>neg_int q
end
section
variable {X:Cx} {a b c:Expr} {ta tb tc:TE} {pos:Pos}
theorem ziZ {pins:List (Addr×Obj)} {σ:St} {H:Hp} {s:Shared} {Q:VK} {k k':Bool} (I:Inv X pins σ H s) (q:Q (.bl k) H) (e:k=k'):EP X pins σ Q (.bool k') s:=by
 subst e
 exact ⟨.bl k,H,I,rfl,q⟩
theorem zjF:OpR X (compareOp .Lt) (rI0 fun i j=>.bl (decide (i<j))):=opB0 fun _ _ _ _ _ _ _ q=>lt_int q
theorem zk6:OpR X (compareOp .LtE) (rI0 fun i j=>.bl (decide (i≤j))):=opB0 fun _ _ _ _ _ _ _ q=>le_int q
theorem zk7:OpR X (compareOp .Gt) (rI0 fun i j=>.bl (decide (j<i))):=opB0 fun _ _ _ _ _ _ _ q=>gt_int q
theorem op_ge:OpR X (compareOp .GtE) (rI0 fun i j=>.bl (decide (j≤i))):=opB0 fun _ _ _ _ _ _ _ q=>ge_int q
theorem ziQ:OpR X (compareOp .Is) (fun x y H Q=>y=.non∧Q (.bl (decide (x=.non))) H):=by
 intro pins s σ H x y v u Q I rx ry h
 obtain ⟨rfl,q⟩:=h
 cases ry
 refine is_none_gen (ziZ I q ?_)
 cases x <;> first
  | (cases rx; rfl)
  | (obtain ⟨t,rfl⟩:=rx; rfl)
theorem zgn:OpR X (compareOp .IsNot) (fun x y H Q=>y=.non∧Q (.bl (!decide (x=.non))) H):=by
 intro pins s σ H x y v u Q I rx ry h
 obtain ⟨rfl,q⟩:=h
 cases ry
 refine isnot_none_gen (ziZ I q ?_)
 cases x <;> first
  | (cases rx; rfl)
  | (obtain ⟨t,rfl⟩:=rx; rfl)
theorem OpR.or {f:Value→Value→Sem Value} {r r':R2} (h:OpR X f r) (h':OpR X f r'):OpR X f (fun x y H Q=>r x y H Q∨r' x y H Q):=by
 intro pins s σ H x y v u Q I rx ry q
 rcases q with q | q
 ·exact h pins s σ H x y v u Q I rx ry q
 ·exact h' pins s σ H x y v u Q I rx ry q
theorem wa (b:Expr) {op:CmpOp} (h:op≠.In:=by decide) (h2:op≠.NotIn:=by decide):behindInMarks op b=false:=by
 have e1:(op == CmpOp.In)=false:=by cases op <;> first | rfl | exact absurd rfl h
 have e2:(op == CmpOp.NotIn)=false:=by cases op <;> first | rfl | exact absurd rfl h2
 cases b <;> simp [behindInMarks,e1,e2]
theorem zjz {op:CmpOp} {r:R2} (ho:OpR X (compareOp op) r) (ha:PE X a ta) (hb:PE X b tb) (hm:behindInMarks op b=false):PE X (.Compare a [op] [b] pos) (tOp r ta tb):=by
 intro pins s σ H Q I h
 exact wpAny_Compare1 (binT ha hb I h fun v u s2 x y H2 I2 rx ry q=>ho pins s2 σ H2 x y v u Q I2 rx ry q) hm
noncomputable def zkA (t:TE):TT:=fun σ H Q=>t σ H fun x H'=>∃ k,x=.bl k∧Q k H'
theorem zjp {op:CmpOp} {r:R2} (ho:OpR X (compareOp op) r) (ha:PE X a ta) (hb:PE X b tb) (hm:behindInMarks op b=false):PT X (.Compare a [op] [b] pos) (zkA (tOp r ta tb)):=by
 intro pins s σ H Q I h
 refine wpAny_isTrue_Compare1 (thn (ha pins s σ H _ I h) fun v s1 ⟨x,H1,I1,r1,q1⟩=>thn (hb pins s1 σ H1 _ I1 q1) fun u s2 ⟨y,H2,I2,r2,q2⟩ =>
  thn (ho pins s2 σ H2 x y v u _ I2 r1 r2 q2) fun c s3 ⟨z,H3,I3,r3,k,e,q3⟩ => ?_) hm
 subst e
 cases r3
 exact wpAny_truthy_bool ⟨H3,I3,q3⟩
noncomputable def ziG (r r':R2) (ta tb tc:TE):TE:=fun σ H Q=>ta σ H fun x H1=>tb σ H1 fun y H2=>r x y H2 fun z H3=>∃ k,z=.bl k ∧
 (if k=true then tc σ H3 fun w' H4=>r' y w' H4 Q else Q (.bl false) H3)
theorem zhQ {op op':CmpOp} {r r':R2} (ho:OpR X (compareOp op) r) (ho':OpR X (compareOp op') r') (ha:PE X a ta) (hb:PE X b tb) (hc:PE X c tc)
 (hm:lastMarks [op,op'] [b,c]=false:=by with_unfolding_all rfl):PT X (.Compare a [op,op'] [b,c] pos) (zkA (ziG r r' ta tb tc)):=by
 intro pins s σ H Q I h
 refine isTrue_chain (thn (ha pins s σ H _ I h) fun v s1 ⟨x,H1,I1,r1,q1⟩=>test_link (thn (hb pins s1 σ H1 _ I1 q1) fun u s2 ⟨y,H2,I2,r2,q2⟩ =>
  thn (ho pins s2 σ H2 x y v u _ I2 r1 r2 q2) fun d s3 ⟨z,H3,I3,r3,k,e,q3⟩ => ?_)) hm
 subst e
 cases r3
 refine wpAny_truthy_bool ?_
 cases k with
 | false =>
   obtain ⟨k',e',q'⟩:=q3
   cases e'
   exact ite_ff ⟨H3,I3,q'⟩
 | true =>
   refine ite_tt (test_last (thn (hc pins s3 σ H3 _ I3 q3) fun w' s4 ⟨z',H4,I4,r4,q4⟩=>thn (ho' pins s4 σ H4 y z' u w' _ I4 r2 r4 q4) fun d' s5 ⟨z2,H5,I5,r5,k2,e2,q5⟩ => ?_))
   subst e2
   cases r5
   exact wpAny_truthy_bool ⟨H5,I5,q5⟩
noncomputable def TruV (K:PySem.W.Frag) (x:V) (H:Hp) (k:Bool):Prop :=
 match x with
 | .non=>k=false
 | .bl b=>k=b
 | .int i=>k=(i != 0)
 | .str y=>y.length≤sizeLine∧k=((y.length:Int) != 0)
 | .byt y=>y.size≤sizeLine∧k=((y.size:Int) != 0)
 | .ref p=>(∃ xs,SqL K H p xs∧k = !xs.isEmpty)∨(∃ xs,SqT K H p xs∧k = !xs.isEmpty)∨∃ kvs,H p=some (.dK kvs)∧k = !kvs.isEmpty
 | _=>False
theorem zfp {κ:Type} {kvs:List (κ×V)} {vs:List (κ×Value)} (r:KV kvs vs):(!vs.isEmpty) = !kvs.isEmpty:=by
 cases r <;> rfl
theorem zbc {xs:List V} {its:List Value} (r:Vals xs its):(!its.toArray.isEmpty) = !xs.isEmpty:=by
 cases r <;> simp
theorem zba:(sizeLine:Nat)<2^63:=by rw [sizeLine_eq]; decide
theorem zkw:TruR X (fun x H Q=>∃ k,TruV X.K x H k∧Q k H):=by
 intro pins s σ H x v Q I rx h
 obtain ⟨k,e,q⟩:=h
 have hl:=zba
 have hs:sizeLine=16777216:=sizeLine_eq
 cases x with
 | non =>
   cases rx
   have e':k=false:=e
   subst e'
   exact truthy_none ⟨H,I,q⟩
 | bl b =>
   cases rx
   have e':k=b:=e
   subst e'
   exact wpAny_truthy_bool ⟨H,I,q⟩
 | int i =>
   obtain ⟨t,rfl⟩:=rx
   have e':k=(i != 0):=e
   subst e'
   exact PySem.P.truthy_int ⟨H,I,q⟩
 | str y =>
   obtain ⟨t,rfl⟩:=rx
   obtain ⟨hy,e'⟩:y.length≤sizeLine∧k=((y.length:Int) != 0):=e
   subst e'
   exact PySem.P.truthy_str (by lia) ⟨H,I.tok _,q⟩
 | byt y =>
   obtain ⟨t,rfl⟩:=rx
   obtain ⟨hy,e'⟩:y.size≤sizeLine∧k=((y.size:Int) != 0):=e
   subst e'
   exact PySem.W.truthy_bytes (by lia) ⟨H,I.tok _,q⟩
 | ref p =>
   cases rx
   have e':(∃ xs,SqL X.K H p xs∧k = !xs.isEmpty)∨(∃ xs,SqT X.K H p xs∧k = !xs.isEmpty)∨∃ kvs,H p=some (.dK kvs)∧k = !kvs.isEmpty:=e
   rcases e' with ⟨xs,hx,e'⟩ | ⟨xs,hx,e'⟩ | ⟨kvs,hx,e'⟩
   ·subst e'
    obtain ⟨its,r,pl,hz⟩:=I.list hx
    have hlen:=r.length
    exact wpAny_truthy_list pl.isList (by simp only [List.size_toArray]; lia) ⟨H,I.tok _,by rw [zbc r]; exact q⟩
   ·subst e'
    obtain ⟨its,r,pl,hz⟩:=I.tuple hx
    have hlen:=r.length
    exact truthy_tuple pl (by simp only [List.size_toArray]; lia) ⟨H,I.tok _,by rw [zbc r]; exact q⟩
   ·subst e'
    obtain ⟨hz,hS,vs,r,m⟩:kvs.length≤sizeLine∧(p == sysModules)=false∧∃ vs,KV kvs vs∧s.heap.DictOf (yy X.prog X.w) p vs:=I.hok p _ hx
    have hlen:kvs.length=vs.length:=Paired.length r
    exact wpAny_truthy_dict hS m (by lia) ⟨H,I.tok _,by rw [zfp r]; exact q⟩
 | _=>exact (show False from e).elim
theorem zhP (ha:PE X a ta) (he:∀ whole,isTrue a X.env whole=(do let v ← whole; standAt a.pos; holding [v] (truthy v))) :
 PT X a (fun σ H Q=>ta σ H fun x H'=>∃ k,TruV X.K x H' k∧Q k H'):=by
 intro pins s σ H Q I h
 exact isTrue_plain (thn (ha pins s σ H _ I h) fun v s1 ⟨x,H1,I1,r1,q1⟩=>zkw pins s1 σ H1 x v Q I1 r1 q1) (he _)
theorem zfG {x:V} {us:List Value} (r:Vals [x] us):∃ u,us=[u]∧RelV x u:=by
 cases r with
 | cons r1 r2=>cases r2; exact ⟨_,rfl,r1⟩
theorem zfF {x y:V} {us:List Value} (r:Vals [x,y] us):∃ u w',us=[u,w']∧RelV x u∧RelV y w':=by
 cases r with
 | cons r1 r2 =>
   cases r2 with
   | cons r3 r4=>cases r4; exact ⟨_,_,rfl,r1,r3⟩
theorem zcW (hc:X.calm=true):zaT X (.builtin "max") (fun xs H Q=>∃ i j,xs=[.int i,.int j]∧Q (.int (if j>i then j else i)) H):=by
 intro pins s σ H xs us Q I r h
 obtain ⟨i,j,rfl,q⟩:=h
 obtain ⟨u,w',rfl,⟨t,rfl⟩,⟨t',rfl⟩⟩:=zfF r
 refine max_two_ints (I.ok.hd hc) fun h' tk k=>⟨_,H,I.kept k,?_,q⟩
 by_cases hj:j>i
 ·rw [if_pos hj,if_pos hj]; exact ⟨_,rfl⟩
 ·rw [if_neg hj,if_neg hj]; exact ⟨_,rfl⟩
theorem zaB (hc:X.calm=true):zaT X (.builtin "min") (fun xs H Q=>∃ i j,xs=[.int i,.int j]∧Q (.int (if j<i then j else i)) H):=by
 intro pins s σ H xs us Q I r h
 obtain ⟨i,j,rfl,q⟩:=h
 obtain ⟨u,w',rfl,⟨t,rfl⟩,⟨t',rfl⟩⟩:=zfF r
 refine min_two_ints (I.ok.hd hc) fun h' tk k=>⟨_,H,I.kept k,?_,q⟩
 by_cases hj:j<i
 ·rw [if_pos hj,if_pos hj]; exact ⟨_,rfl⟩
 ·rw [if_neg hj,if_neg hj]; exact ⟨_,rfl⟩
theorem zhl:zaT X (.type "int") (fun xs H Q=>(∃ i,xs=[.int i]∧Q (.int i) H)∨∃ k,xs=[.bl k]∧Q (.int (if k then 1 else 0)) H):=by
 intro pins s σ H xs us Q I r h
 rcases h with ⟨i,rfl,q⟩ | ⟨k,rfl,q⟩
 ·obtain ⟨u,rfl,t,rfl⟩:=zfG r
  exact call_int_int ⟨.int i,H,I,⟨_,rfl⟩,q⟩
 ·obtain ⟨u,rfl,r1⟩:=zfG r
  cases r1
  exact call_int_bool ⟨.int (if k then 1 else 0),H,I.tok _,⟨_,rfl⟩,q⟩
end
end L2
namespace L2
open PySem PySem.Spec PyProof.Rows
structure ObjM (h:Heap) (x dx C:Addr) (mA:Str→Option Value):Prop where
 obj:h.get? x=some (PySem.W.instObj C dx)
 ns:h.Ns1 dx mA
 ne:dx≠x
theorem zgB {h:Heap} {dx:Addr} {mA:Str→Option Value} (n:h.Ns1 dx mA):∃ od,h.get? dx=some od∧∀ name,PySem.W.lookIn name od=some (mA name):=by
 obtain ⟨o,es,ep,ho,hd,hk,_,hm⟩:=n
 refine ⟨o,ho,fun name => ?_⟩
 have e:=hm name
 unfold nsFind findBy at e
 rw [←Array.find?_toList] at e
 unfold PySem.W.lookIn
 rw [hd]
 dsimp only
 split
 ·rename_i y q
  rw [q] at e
  exact congrArg some e
 ·rename_i q
  rw [q] at e
  have a:es.toList.any (·.refKey)=false:=by
   rw [List.any_eq_false]
   intro y hy
   obtain ⟨z,t,hkey⟩:=hk y (Array.mem_toList_iff.mp hy)
   simp [DictEntry.refKey,hkey]
  have a':¬ es.toList.any (·.refKey)=true:=by rw [a]; exact Bool.false_ne_true
  rw [if_neg a']
  exact congrArg some e
theorem ObjM.look {h:Heap} {x dx C:Addr} {mA:Str→Option Value} (I:ObjM h x dx C mA):∃ od,PySem.W.InstAt h x (PySem.W.instObj C dx) C (some od)∧∀ name,PySem.W.lookIn name od=some (mA name) :=
 let ⟨od,ho,hl⟩:=zgB I.ns
 ⟨od,⟨I.obj,rfl,rfl,ho⟩,hl⟩
section
variable {prog:Program} {w:World} {A:Around} {E:Value→Shared→Prop} {s:Shared} {K:PySem.W.Frag} {x dx C f:Addr} {mA:Str→Option Value} {name:Str} {v:Value}
end
section
variable {P:Program} {w:World} {H H':Hp} {h h':Heap} {a C dx:Addr} {fs fs':List (Str×V)}
theorem zjY (hok:HOk P w H h) (e:H a=some (.ins C dx fs)):∃ mA,ObjM h a dx C mA∧(∀ f,RelO (fs.lookup f) (mA f))∧PySem.Within mA (fs.map (·.1))∧fs.length≤1000∧H dx=some (.own a):=by
 obtain ⟨d,z,ne,ob,mA,n,r,q⟩:=(show y2 P w H h a (.ins C dx fs) from hok a _ e)
 exact ⟨mA,⟨ob,n,ne⟩,r,q,z,d⟩
end
structure Cls (K:PySem.W.Frag) (C:Addr):Prop where
 pg:PySem.W.plainGet K C Str.empty=true
 hd:PySem.W.hasDictIn K C=true
 po:PySem.W.plainOver K C=true
 sa:PySem.W.findIn K (.ref C) "__setattr__" = some (some (.builtin "object.__setattr__"))
theorem Cls.get {K:PySem.W.Frag} {C:Addr} (c:Cls K C) (f:Str):PySem.W.plainGet K C f=true:=c.pg
section
variable {X:Cx} {pins:List (Addr×Obj)} {σ:St} {H:Hp} {s:Shared} {a C dx:Addr} {fs:List (Str×V)} {f:Str} {v:V} {A:Around} {E:Value→Shared→Prop}
end
section
variable {X:Cx} {o e value:Expr} {f:Str} {pos pos' tpos:Pos} {ta tv:TE}
end
section
variable {X:Cx} {pins:List (Addr×Obj)} {σ:St} {H:Hp} {s:Shared} {A:Around} {E:Value→Shared→Prop} {Q:Value→Shared→Prop} {c:Value} {b:Bool}
inductive TyOf (K:PySem.W.Frag) (H:Hp):V→Value→Prop where
 | non:TyOf K H .non (.type "NoneType")
 | bl (x:Bool):TyOf K H (.bl x) (.type "bool")
 | int (i:Int):TyOf K H (.int i) (.type "int")
 | str (x:Str):TyOf K H (.str x) (.type "str")
 | flt (x:UInt64):TyOf K H (.flt x) (.type "float")
 | lst {a:Addr} {xs:List V} (e:H a=some (.lst xs)):TyOf K H (.ref a) (.type "list")
 | frz {a:Addr} {o:Obj} {xs:List V} (e:H a=some (.frz o (.lst xs))):TyOf K H (.ref a) (.type "list")
 | tup {a:Addr} {xs:List V} (e:H a=some (.tup xs)):TyOf K H (.ref a) (.type "tuple")
 | dK {a:Addr} {kvs:List (Key×V)} (e:H a=some (.dK kvs)):TyOf K H (.ref a) (.type "dict")
 | dT {a:Addr} {kvs:List (List Key×V)} (e:H a=some (.dT kvs)):TyOf K H (.ref a) (.type "dict")
 | ins {a C dx:Addr} {fs:List (Str×V)} (e:H a=some (.ins C dx fs)) (cl:Cls K C) (ha:PySem.W.findIn K (.ref C) "__class__" = some (some (.builtin "object.__class__")))
  (hn:PySem.W.specialIn K (.builtin "object.__class__") "__get__" = some (some (.builtin "getset_descriptor.__get__"))) (htk:PySem.W.takesIn K (.builtin "object.__class__")=some true)
  (hm:PySem.W.mroIn K C (.type "object")=some true):TyOf K H (.ref a) (.ref C)
theorem zgM {x:V} {u t:Value} (I:Inv X pins σ H s) (rx:RelV x u) (ty:TyOf X.K H x t) (e:PySem.W.kitOne X.K t c=some b) (h:∀ tk,Q (.bool b) { s with toks:=tk }) :
 wpAny (model X.prog X.w) A (call (.builtin "isinstance") [u,c]) Q E s:=by
 cases ty with
 | non=>cases (show u=Value.none from rx); exact PySem.W.kia_one PySem.W.kitx_none I.kIn True.intro e (fun z=>nomatch z) h
 | bl y=>cases (show u=Value.bool y from rx); exact PySem.W.kia_one PySem.W.kitx_bool I.kIn True.intro e (fun z=>nomatch z) h
 | int i=>obtain ⟨t,q⟩:=(show ∃ t,u=Value.int i t from rx); cases q; exact PySem.W.kia_one PySem.W.kitx_int I.kIn True.intro e (fun z=>nomatch z) h
 | str y=>obtain ⟨t,q⟩:=(show ∃ t,u=Value.str y t from rx); cases q; exact PySem.W.kia_one PySem.W.kitx_str I.kIn True.intro e (fun z=>nomatch z) h
 | flt y=>obtain ⟨t,q⟩:=(show ∃ t,u=Value.float y t from rx); cases q; exact PySem.W.kia_one PySem.W.kitx_float I.kIn True.intro e (fun z=>nomatch z) h
 | @lst a xs ea =>
   cases (show u=Value.ref a from rx)
   obtain ⟨_,_,n,_,h1⟩:=(show y2 X.prog X.w H s.heap a (.lst xs) from I.hok a _ ea)
   exact PySem.W.kia_one PySem.W.kitx_list I.kIn ⟨_,h1,rfl⟩ e (fun z=>nomatch z) h
 | @frz a ob xs ea =>
   cases (show u=Value.ref a from rx)
   obtain ⟨_,_,_,n,_,h1⟩:=(show y2 X.prog X.w H s.heap a (.frz ob (.lst xs)) from I.hok a _ ea)
   exact PySem.W.kia_one PySem.W.kitx_list I.kIn ⟨_,h1,rfl⟩ e (fun z=>nomatch z) h
 | @tup a xs ea =>
   cases (show u=Value.ref a from rx)
   obtain ⟨_,_,_,p⟩:=(show y2 X.prog X.w H s.heap a (.tup xs) from I.hok a _ ea)
   obtain ⟨o,h1,h2,_⟩:=p
   exact PySem.W.kia_one PySem.W.kitx_tuple I.kIn ⟨o,h1,h2⟩ e (fun z=>nomatch z) h
 | @dK a kvs ea =>
   cases (show u=Value.ref a from rx)
   obtain ⟨_,_,vs,_,p⟩:=(show y2 X.prog X.w H s.heap a (.dK kvs) from I.hok a _ ea)
   obtain ⟨o,es,ep,h1,h2,_⟩:=p
   exact PySem.W.kia_one PySem.W.kitx_dict I.kIn ⟨o,h1,h2.1⟩ e (fun z=>nomatch z) h
 | @dT a kvs ea =>
   cases (show u=Value.ref a from rx)
   obtain ⟨_,_,xs,_,o,es,ep,h1,h2,_⟩:=(show y2 X.prog X.w H s.heap a (.dT kvs) from I.hok a _ ea)
   exact PySem.W.kia_one PySem.W.kitx_dict I.kIn ⟨o,h1,h2.1⟩ e (fun z=>nomatch z) h
 | @ins a C dx fs ea cl ha hn htk hm =>
   cases (show u=Value.ref a from rx)
   obtain ⟨mA,O,_⟩:=zjY I.hok ea
   obtain ⟨od,J,_⟩:=O.look
   exact PySem.W.kia_one (PySem.W.kitx_own (cl.get _) cl.hd ha hn htk hm) I.kIn J e (fun z=>nomatch z) h
end
end L2
namespace L2
open PySem PySem.Spec PyProof.Rows
structure Room (k:Nat) (A:Around):Prop where
 hd:A.handled=none
 dp:A.depth+3*k+5<recursionLimit
 un:A.units+16*k+200<cLine
theorem Room.mono {j k:Nat} {A:Around} (r:Room k A) (h:j≤k):Room j A:=⟨r.hd,by have:=r.dp; lia,by have:=r.un; lia⟩
theorem Room.deeper {k:Nat} {A:Around} (r:Room (k+1) A) (env:Env):Room k (A.deeper env) :=
 ⟨r.hd,by have:=r.dp; show A.depth+1+3*k+5<_; lia,by have:=r.un; show A.units+3+16*k+200<_; lia⟩
theorem Room.depth {k:Nat} {A:Around} (r:Room k A):A.depth<recursionLimit:=by have:=r.dp; lia
theorem Room.units {k:Nat} {A:Around} (r:Room k A):A.units+64<cLine:=by have:=r.un; lia
noncomputable def tNil:TA:=fun _ H Q=>Q [] H
noncomputable def zfc (ta:TE) (tr:TA):TA:=fun σ H Q=>ta σ H fun x H1=>tr σ H1 fun xs H2=>Q (x::xs) H2
section
variable {X:Cx} {e:Expr} {es:List Expr} {te:TE} {t:TA} {pos:Pos}
theorem vo:PA X [] tNil:=fun _ _ _ _ H Q I h=>Calls.spliced_nil ⟨[],H,I,.nil,h⟩
theorem yn (ha:PE X e te) (hr:PA X es t) (hs:starEach (e::es) X.env=(false,eval e X.env)::starEach es X.env:=by rfl):PA X (e::es) (zfc te t):=by
 intro pos pins s σ H Q I h
 rw [hs]
 show wpAny _ _ (spliced ((false,eval e X.env)::backTo pos (starEach es X.env))) _ _ s
 refine Calls.spliced_cons (thn (ha pins s σ H _ I h) fun u s1 ⟨x,H1,I1,r1,q1⟩ => ?_)
 exact thn (hr pos pins s1 σ H1 _ I1 q1) fun us s2 ⟨xs,H2,I2,r2,q2⟩=>⟨x::xs,H2,I2,.cons r1 r2,q2⟩
noncomputable def tTup (t:TA):TE:=fun σ H Q=>t σ H fun xs H1=>xs.length≤sizeLine∧∀ p,H1 p=none→Q (.ref p) (upd H1 p (.tup xs))
noncomputable def tLst (t:TA):TE:=fun σ H Q=>t σ H fun xs H1=>xs.length≤sizeLine∧∀ p,H1 p=none→Q (.ref p) (upd H1 p (.lst xs))
theorem zkS {x1} (h:PA X es t):PE X (.Tuple es x1 pos) (tTup t):=by
 intro pins s σ H Q I hq
 refine wpAny_Tuple_spliced (thn (h pos pins s σ H _ I hq) fun us s1 ⟨xs,H1,I1,r,z,q⟩=>⟨by rw [←r.length]; exact z,?_⟩)
 have hf:H1 s1.heap.objs.size=none:=I1.hok.fresh (Nat.le_refl _)
 refine ⟨.ref s1.heap.objs.size,upd H1 s1.heap.objs.size (.tup xs),I1.laid (t':=s1.toks) (fun b u e=>Heap.get?_push_of_some _ e) (Nat.le_refl _) ?_,rfl,q _ hf⟩
 exact ⟨z,us,r,⟨_,Heap.get?_push_size _ rfl,rfl,_,rfl⟩⟩
theorem zkX (h:PA X es t):PE X (.List es pos) (tLst t):=by
 intro pins s σ H Q I hq
 refine wpAny_List_spliced (thn (h pos pins s σ H _ I hq) fun us s1 ⟨xs,H1,I1,r,z,q⟩=>⟨by rw [←r.length]; exact z,?_⟩)
 have hf:H1 s1.heap.objs.size=none:=I1.hok.fresh (Nat.le_refl _)
 refine ⟨.ref s1.heap.objs.size,upd H1 s1.heap.objs.size (.lst xs),I1.laid (t':=s1.toks) (fun b u e=>Heap.get?_push_of_some _ e) (Nat.le_refl _) ?_,rfl,q _ hf⟩
 exact ⟨z,us,0,r,Heap.get?_push_size _ rfl⟩
end
noncomputable abbrev Sp:=List V→Hp→VK→XK→Prop
noncomputable abbrev CXT:=List Env→Hp→Shared→XK→Value→Shared→Prop
structure Env0 (P:Program) (w:World) (K:PySem.W.Frag) (mg:Str→Option Value) (base:Heap) (A:Around) (outer:List Env) (s:Shared) (H:Hp):Prop where
 frames:A.frames=some outer
 mod:Mod K mg base
 bs:∀ b o,base.get? b=some o→s.heap.get? b=some o∧H b=none
 bsz:base.objs.size≤s.heap.objs.size
 funs:s.heap.FunFrames base outer
 frf:∀ b∈frs outer,H b=none
 hok:HOk P w H s.heap
 bare:AllBare s.gens
noncomputable def CE (outer:List Env) (P:Program) (w:World) (H:Hp) (s:Shared) (Q:VK) (u:Value) (s':Shared):Prop :=
 ∃ v H',s'.os=s.os∧AllBare s'.gens∧Un (frs outer) [] H H' s.heap s'.heap∧HOk P w H' s'.heap∧RelV v u∧Q v H'
noncomputable def CR (CX:CXT) (outer:List Env) (P:Program) (w:World) (H:Hp) (s:Shared) (Q:VK) (E:XK) (r:Result) (s':Shared):Prop :=
 match r with
 | .ok (.ret u)=>CE outer P w H s Q u s'
 | .ok _=>False
 | .error e=>CX outer H s E e s'
structure FnOk (P:Program) (w:World) (K:PySem.W.Frag) (mg:Str→Option Value) (base:Heap) (CX:CXT) (k:Nat) (f:Addr) (fd:FuncData) (ps:List Str) (sp:Sp):Prop where
 len:∀ vs H Q E,sp vs H Q E→vs.length=ps.length
 run:∀ (A:Around) (outer:List Env) (s:Shared) (H:Hp) (args:Args) (us:List Value) (vs:List V) (Q:VK) (E:XK),Room k A→Env0 P w K mg base A outer s H→BindsTo s fd args (ps.zip us)→Vals vs us→sp vs H Q E →
  codeAny (model P w) A (.call (.ref f) args) (CR CX outer P w H s Q E) s
theorem FnOk.mono {P:Program} {w:World} {K:PySem.W.Frag} {mg:Str→Option Value} {base:Heap} {CX:CXT} {j k:Nat} {f:Addr} {fd:FuncData} {ps:List Str} {sp:Sp} (F:FnOk P w K mg base CX j f fd ps sp) (h:j≤k) :
 FnOk P w K mg base CX k f fd ps sp:=⟨F.len,fun A outer s H args us vs Q E hr=>F.run A outer s H args us vs Q E (hr.mono h)⟩
theorem FnOk.imp {P:Program} {w:World} {K:PySem.W.Frag} {mg:Str→Option Value} {base:Heap} {CX:CXT} {k:Nat} {f:Addr} {fd:FuncData} {ps:List Str} {sp sp':Sp} (F:FnOk P w K mg base CX k f fd ps sp)
 (h:∀ vs H Q E,sp' vs H Q E→sp vs H Q E):FnOk P w K mg base CX k f fd ps sp' :=
 ⟨fun vs H Q E q=>F.len vs H Q E (h _ _ _ _ q),fun A outer s H args us vs Q E hr he hb hv hs=>F.run A outer s H args us vs Q E hr he hb hv (h _ _ _ _ hs)⟩
section
variable {X:Cx} {pins:List (Addr×Obj)} {σ:St} {H:Hp} {s s':Shared}
theorem Inv.env0 (I:Inv X pins σ H s):Env0 X.prog X.w X.K X.mg X.base X.A X.stack s H :=
 ⟨I.ok.frames,I.ok.mod,I.bs,Nat.le_trans I.ok.bsz I.sz,I.stack,I.stkFree,I.hok,I.bare⟩
theorem Inv.after {Q:VK} {u:Value} (I:Inv X pins σ H s) (h:CE X.stack X.prog X.w H s Q u s'):EP X pins σ Q u s':=by
 obtain ⟨v,H',os,bare,un,hok,r,q⟩:=h
 obtain ⟨hh,g,d,t,os'⟩:=s'
 obtain rfl:os'=s.os:=os
 exact ⟨v,H',I.call (h':=hh) (g':=g) (d':=d) (t':=t) (ch:=[]) un hok bare (fun b z=>absurd z (by simp)),r,q⟩
end
noncomputable def zjg (sp:Sp) (dvs:List V) (E:XK) (t:TA):TE:=fun σ H Q=>t σ H fun vs H1=>sp (vs++dvs) H1 Q E
noncomputable def Binds (K:PySem.W.Frag) (fd:FuncData) (ps:List Str) (ds:List Value):Prop :=
 ∀ (s:Shared) (us:List Value),K.In s.heap→(us++ds).length=ps.length→BindsTo s fd ⟨us,[]⟩ (ps.zip (us++ds))
theorem Binds.all {K:PySem.W.Frag} {fd:FuncData} {ps:List Str} (h:∀ us:List Value,us.length=ps.length→bindArgs fd ⟨us,[]⟩=pure (ps.zip us)):Binds K fd ps []:=fun s us _ hl=>by
 rw [List.append_nil] at hl ⊢
 exact .of_eq (h us hl)
noncomputable def zhx (CX:CXT) (X:Cx) (E:XK):Prop:=∀ (pins:List (Addr×Obj)) (σ:St) (H:Hp) (s:Shared) (e:Value) (s':Shared),Inv X pins σ H s→CX X.stack H s E e s'→X.xe e s'
section
variable {X:Cx} {CX:CXT} {k:Nat} {f C:Addr} {fd:FuncData} {ps:List Str} {sp:Sp} {dvs:List V} {ds:List Value} {E:XK} {x m:Str} {p pos apos:Pos} {e o:Expr} {es:List Expr} {ta:TE} {t:TA}
theorem zkH {pins:List (Addr×Obj)} {σ:St} {H:Hp} {s:Shared} {Q:VK} {us:List Value} {vs:List V} (F:FnOk X.prog X.w X.K X.mg X.base CX k f fd ps sp) (hr:Room k X.A) (hb:Binds X.K fd ps ds) (hd:Vals dvs ds) (hx:zhx CX X E)
 (I:Inv X pins σ H s) (r:Vals vs us) (h:sp (vs++dvs) H Q E):wpAny (model X.prog X.w) X.A (call (.ref f) us) (EP X pins σ Q) X.xe s:=by
 have r2:Vals (vs++dvs) (us++ds):=r.append hd
 have hl:(us++ds).length=ps.length:=by rw [←r2.length]; exact F.len _ _ _ _ h
 refine wpAny_call (codeAny_mono (F.run X.A X.stack s H ⟨us,[]⟩ (us++ds) (vs++dvs) Q E hr I.env0 (hb s us I.kIn hl) r2 h) fun r s' hq => ?_)
 cases r with
 | error e=>exact hx pins σ H s e s' I hq
 | ok fl =>
   cases fl with
   | ret u=>exact I.after hq
   | next=>exact False.elim hq
   | brk=>exact False.elim hq
   | cont=>exact False.elim hq
theorem zgl (F:FnOk X.prog X.w X.K X.mg X.base CX k f fd ps sp) (hr:Room k X.A) (hg:Gl X x) (hm:X.mg x=some (.ref f)) (hk:PySem.W.keepIn X.K (.ref f)=true) (hb:Binds X.K fd ps ds) (hd:Vals dvs ds) (hx:zhx CX X E)
 (ha:PA X (e::es) t) (hdb:(x == ("__debug__" : Str))=false:=by decide) (he:starEach (e::es) X.env=(false,eval e X.env)::starEach es X.env:=by rfl) (hpl:(backTo pos (starEach es X.env)).any (·.1)=false:=by rfl) :
 PE X (.Call (.Name x p) (e::es) [] pos) (zjg sp dvs E t):=by
 intro pins s σ H Q I h
 refine wpAny_Call_Name_kw (zjR I hg hm ?_ hdb)
 refine PySem.W.callWith_K (h₀:=X.base) I.ok.mod.kin hk (thn (ha pos pins s σ H _ I h) fun us s1 ⟨vs,H1,I1,r,q⟩=>⟨I1.kIn,?_⟩) he hpl
 exact zkH F hr hb hd hx I1 r q
end
section
variable {X:Cx} {CX:CXT} {k:Nat} {f C:Addr} {fd:FuncData} {ps ks:List Str} {sp:Sp} {E:XK} {x m:Str} {p pos apos kpos:Pos} {e o:Expr} {es:List Expr} {kws:List Keyword} {te ta:TE} {t tk:TA} {nm:Option Str}
variable {g:List Value→List Value→List Value} {gV:List V→List V→List V}
end
structure FnScope (N P:List Str) (sc:Scope):Prop where
 kind:sc.kind=.function
 co:sc.isCoroutine=false
 gen:sc.isGenerator=false
 nd:N.Nodup
 pre:N.take P.length=P
 par:∀ x∈P,sc.names.lookup x=some .local∨sc.names.lookup x=some .cell
 nofree:∀ y∈sc.names,y.2≠.free
theorem zcZ {kindOf:Str→Option NameKind} {x:Str}:∀ {binds:List (Str×Value)} {m:Str→Option Value},(∀ v,(x,v)∉binds)→bindL kindOf binds m x=m x
 | [],_,_=>rfl
 | (n,v)::r,m,h=>by
   unfold bindL
   rw [zcZ fun w hw=>h w (List.mem_cons_of_mem _ hw)]
   split
   ·have:x≠n:=by rintro rfl; exact h v List.mem_cons_self
    simp [this]
   ·rfl
theorem zc1 {kindOf:Str→Option NameKind} {x:Str}:∀ {binds:List (Str×Value)} {m:Str→Option Value},(∀ v,(x,v)∉binds)→bindC kindOf binds m x=m x
 | [],_,_=>rfl
 | (n,v)::r,m,h=>by
   unfold bindC
   rw [zc1 fun w hw=>h w (List.mem_cons_of_mem _ hw)]
   split
   ·rfl
   ·have:x≠n:=by rintro rfl; exact h v List.mem_cons_self
    simp [this]
theorem zc0 {kindOf:Str→Option NameKind} {x:Str} {v:Value}:∀ {P:List Str} {vs:List Value} {i:Nat} {m:Str→Option Value},P.Nodup→P[i]?=some x→vs[i]?=some v→kindOf x=some .local →
 bindL kindOf (P.zip vs) m x=some v
 | [],_,_,_,_,h,_,_=>by simp at h
 | _::_,[],_,_,_,_,h,_=>by simp at h
 | p::P,w::vs,0,m,nd,h1,h2,hk=>by
   simp at h1 h2; subst h1; subst h2
   show bindL kindOf ((p,w)::P.zip vs) m p=_
   unfold bindL
   rw [zcZ fun v hv=>(List.nodup_cons.mp nd).1 (List.of_mem_zip hv).1,if_pos hk]
   simp
 | p::P,w::vs,i+1,m,nd,h1,h2,hk=>by
   show bindL kindOf ((p,w)::P.zip vs) m x=_
   unfold bindL
   exact zc0 (i:=i) (List.nodup_cons.mp nd).2 (by simpa using h1) (by simpa using h2) hk
theorem zc2 {kindOf:Str→Option NameKind} {x:Str} {v:Value}:∀ {P:List Str} {vs:List Value} {i:Nat} {m:Str→Option Value},P.Nodup→P[i]?=some x→vs[i]?=some v→kindOf x≠some .local →
 bindC kindOf (P.zip vs) m x=some v
 | [],_,_,_,_,h,_,_=>by simp at h
 | _::_,[],_,_,_,_,h,_=>by simp at h
 | p::P,w::vs,0,m,nd,h1,h2,hk=>by
   simp at h1 h2; subst h1; subst h2
   show bindC kindOf ((p,w)::P.zip vs) m p=_
   unfold bindC
   rw [zc1 fun v hv=>(List.nodup_cons.mp nd).1 (List.of_mem_zip hv).1,if_neg hk]
   simp
 | p::P,w::vs,i+1,m,nd,h1,h2,hk=>by
   show bindC kindOf ((p,w)::P.zip vs) m x=_
   unfold bindC
   exact zc2 (i:=i) (List.nodup_cons.mp nd).2 (by simpa using h1) (by simpa using h2) hk
noncomputable def tP (N:List Str) (vs:List V):St:=vs.map some++List.replicate (N.length - vs.length) none
noncomputable def cxOf (CX:CXT) (P:Program) (w:World) (K:PySem.W.Frag) (mg:Str→Option Value) (base:Heap) (N:List Str) (qual:Str) (scope:Scope) (f:Addr) (cd:Value) (A:Around) (outer:List Env) (s:Shared) (H:Hp) (E:XK):Cx where
 prog:=P
 w:=w
 K:=K
 mg:=mg
 base:=base
 A:=A.deeper (envOfC qual scope s.heap.objs.size f cd)
 N:=N
 s₀:=s
 H₀:=H
 env:=envOfC qual scope s.heap.objs.size f cd
 outer:=outer
 stack:=envOfC qual scope s.heap.objs.size f cd::outer
 ex:=[]
 calm:=true
 fn:=fun _=>true
 pn:=[]
 xe:=fun e s'=>wpAny (model P w) (A.deeper (envOfC qual scope s.heap.objs.size f cd)) (leaving (envOfC qual scope s.heap.objs.size f cd) e) (fun _ s''=>CX outer H s E e s'') (fun e' s''=>CX outer H s E e' s'') s'
theorem tD {sc:Scope} {n:Nat} {x:Str} (h:sc.names.lookup x=some .cell):∃ c,(cellsFrom n sc.names []).lookup x=some c:=by
 have q:=PySem.W.cellsFrom_some sc.names n [] (.inl h)
 exact Option.isSome_iff_exists.mp q
theorem zgO {CX:CXT} {P:Program} {w:World} {K:PySem.W.Frag} {mg:Str→Option Value} {base:Heap} {N ps:List Str} {qual:Str} {scope:Scope} {f:Addr} {cd:Value} {A:Around} {outer:List Env} {s s1:Shared} {H:Hp} {E:XK} {us:List Value} {vs:List V}
 (S:FnScope N ps scope) (hd:A.handled=none) (e0:Env0 P w K mg base A outer s H) (hl:vs.length=ps.length) (r:Vals vs us)
 (x:InCallC s s.heap.objs.size (bindL (envOfC qual scope s.heap.objs.size f cd).kindOf (ps.zip us) fun _=>none) (cellsFrom (s.heap.objs.size+1) scope.names []) (bindC (envOfC qual scope s.heap.objs.size f cd).kindOf (ps.zip us) fun _=>none) s1) :
 Inv (cxOf CX P w K mg base N qual scope f cd A outer s H E) [] (tP N vs) H s1:=by
 have hpl:ps.length≤N.length:=by have:=congrArg List.length S.pre; rw [List.length_take] at this; lia
 obtain ⟨h1,tk,rfl,hk⟩:=x.done
 have noA:∀ b:Addr,b∉(cxOf CX P w K mg base N qual scope f cd A outer s H E).ex:=fun b z=>absurd (show b∈([]:List Addr) from z) (by simp)
 refine ⟨⟨e0.mod,S.kind,rfl,rfl,Nat.le_refl _,fun y z c h1 h2 => ?_,fun y hy => ?_,fun y c _ h => ?_,fun _=>hd,Around.frames_deeper e0.frames,.inr ⟨rfl,rfl⟩,fun b z=>absurd z (noA b),e0.bs,e0.bsz,fun b _ _=>noA b,fun b z=>absurd z (noA b),e0.funs,e0.frf⟩,
  rfl,e0.bare,Un.kept hk,⟨_,x.toInCall.ns,fun i y v h1 h2 h3 => ?_⟩,fun y c h=>⟨_,x.cell y c h⟩,e0.hok.fresh (Nat.le_refl _),fun y c h => ?_,fun p hp=>absurd (show p∈([]:List (Addr×Obj)) from hp) (by simp),e0.hok.kept hk,?_⟩
 ·exact name_of_addr x.apart (PySem.mem_of_lookup h1) (PySem.mem_of_lookup h2)
 ·have hy:scope.names.lookup y=some .cell∨scope.names.lookup y=some .free:=hy
  rcases hy with hy | hy
  ·exact tD hy
  ·exact absurd rfl (S.nofree _ (PySem.mem_of_lookup hy))
 ·exact Nat.le_of_lt (x.above y c (PySem.mem_of_lookup h))
 ·have hi:i<vs.length:=by
   unfold tP at h2
   by_cases hi:i<vs.length
   ·exact hi
   ·rw [List.getElem?_append_right (by simpa using hi)] at h2
    rw [List.getElem?_replicate] at h2
    split at h2 <;> cases h2
  have ha:vs[i]?=some v:=by
   unfold tP at h2
   rw [List.getElem?_append_left (by simpa using hi),List.getElem?_map] at h2
   cases e:vs[i]? with
   | none=>rw [e] at h2; cases h2
   | some a=>rw [e] at h2; cases h2; rfl
  obtain ⟨u,hu,rv⟩:=r.get ha
  have hp:ps[i]?=some y:=by
   rw [←S.pre,List.getElem?_take_of_lt (by lia)]; exact h1
  have ndP:ps.Nodup:=by rw [←S.pre]; exact S.nd.sublist (List.take_sublist _ _)
  refine ⟨u,rv,?_⟩
  rcases S.par y (List.mem_of_getElem? hp) with k | k
  ·exact .inl ⟨k,zc0 ndP hp hu k⟩
  ·obtain ⟨c,e⟩:=tD (n:=s.heap.objs.size+1) k
   refine .inr ⟨.inl k,c,e,?_⟩
   have q:=x.cell y c e
   rw [zc2 ndP hp hu (by show scope.names.lookup y≠_; rw [k]; decide)] at q
   exact q
 ·exact e0.hok.fresh (Nat.le_of_lt (x.above y c (PySem.mem_of_lookup h)))
 ·unfold tP
  show _=N.length
  rw [List.length_append,List.length_map,List.length_replicate]
  lia
theorem fn_of {CX:CXT} {P:Program} {w:World} {K:PySem.W.Frag} {mg:Str→Option Value} {base:Heap} {k:Nat} {f:Addr} {name qual:Str} {params:Arguments} {body:List Stmt} {scope:Scope} {dV kV doc pm cdv ct oc:Value} {an od:Option Addr}
 {osl:Array (Option Value)} {N ps:List Str} {sp:Sp} (lk:K.lookup f=some ⟨oc,od,.func (PySem.W.fnOf name qual params body scope dV kV doc pm an cdv ct),osl⟩) (hcd:PySem.W.codeIn K cdv qual=true) (S:FnScope N ps scope)
 (len:∀ vs H Q E,sp vs H Q E→vs.length=ps.length)
 (hbody:∀ (A:Around) (outer:List Env) (s:Shared) (H:Hp) (vs:List V) (Q:VK) (E:XK),Room k (A.deeper (envOfC qual scope s.heap.objs.size f cdv))→sp vs H Q E →
  ∃ t,PSs (cxOf CX P w K mg base N qual scope f cdv A outer s H E) body t∧t { nx:=fun _ H'=>Q .non H',rt:=Q } (tP N vs) H) :
 FnOk P w K mg base CX (k+1) f (PySem.W.fnOf name qual params body scope dV kV doc pm an cdv ct) ps sp:=by
 refine ⟨len,fun A outer s H args us vs Q E hr e0 hb r hsp => ?_⟩
 have hl:=len _ _ _ _ hsp
 have KX:K.In s.heap:=e0.mod.kin.keeps fun b o e=>(e0.bs b o e).1
 have lim:s.heap.NoLimit:=e0.mod.nolimit.keeps fun b o e=>(e0.bs b o e).1
 have hkind:∀ y∈ps.zip us,scope.names.lookup y.1=some .local∨(scope.names.lookup y.1=some .cell∧((cellsFrom (s.heap.objs.size+1) scope.names []).lookup y.1).isSome=true):=fun ⟨n,v⟩ hy=>by
  rcases S.par n (List.of_mem_zip hy).1 with q | q
  ·exact .inl q
  ·exact .inr ⟨q,PySem.W.cellsFrom_some _ _ _ (.inl q)⟩
 refine codeAny_call_function hr.depth (KX _ _ lk) rfl S.co S.gen rfl (PySem.W.codeRec_of KX hcd) (hb _ _ _ _ ?_)
 refine wpAny_newFunctionEnv_cells S.kind hkind fun env he s1 x => ?_
 subst he
 refine ⟨lim.keeps x.toInCall.keep,codeAny_func ?_⟩
 obtain ⟨t,ht,hq⟩:=hbody A outer s H vs Q E (hr.deeper _) hsp
 have I:Inv (cxOf CX P w K mg base N qual scope f cdv A outer s H E) [] (tP N vs) H s1:=zgO S hr.hd e0 hl r x
 refine wpAny_mono (ht [] s1 (tP N vs) H _ I hq) (fun fl s' hs => ?_) fun e s' hs=>hs
 have fin:∀ {σ':St} {H':Hp} {v:V} {u:Value},Inv (cxOf CX P w K mg base N qual scope f cdv A outer s H E) [] σ' H' s'→RelV v u→Q v H'→CE outer P w H s Q u s' :=
  fun {σ' H' v u} J rv q=>⟨v,H',J.os,J.bare,J.base,J.hok,rv,q⟩
 cases fl with
 | ret u =>
   obtain ⟨v,σ',H',J,rv,q⟩:=hs
   exact fin J rv q
 | next =>
   obtain ⟨σ',H',J,q⟩:=hs
   exact fin (v:=V.non) (u:=Value.none) J rfl q
 | brk =>
   obtain ⟨_,_,_,q⟩:=hs
   exact False.elim q
 | cont =>
   obtain ⟨_,_,_,q⟩:=hs
   exact False.elim q
end L2
namespace L2
open PySem PySem.Spec PyProof.Rows
section
variable {X:Cx} {x:Str} {p pos:Pos} {e:Expr} {es:List Expr} {t:TA} {id T:String} {r:List V→Hp→VK→Prop}
noncomputable def tCB (r:List V→Hp→VK→Prop) (t:TA):TE:=fun σ H Q=>t σ H fun vs H1=>r vs H1 Q
theorem zey (hc:zaT X (.builtin id) r) (hg:Gl X x) (hm:X.mg x=none) (hv:bootBuiltins x=some (.builtin id)) (ha:PA X (e::es) t) (hn:x ≠ "__name__" := by decide) (hdb:(x == ("__debug__" : Str))=false:=by decide)
 (he:starEach (e::es) X.env=(false,eval e X.env)::starEach es X.env:=by rfl) (hpl:(backTo pos (starEach es X.env)).any (·.1)=false:=by rfl):PE X (.Call (.Name x p) (e::es) [] pos) (tCB r t):=by
 intro pins s σ H Q I h
 refine wpAny_Call_Name_kw (uU I hg hm hv ?_ hn hdb)
 exact PyProof.Rows.callWith_builtin1 (thn (ha pos pins s σ H _ I h) fun us s1 ⟨vs,H1,I1,r1,q1⟩=>hc pins s1 σ H1 vs us Q I1 r1 q1) he hpl
theorem zgk (hc:zaT X (.type T) r) (hg:Gl X x) (hm:X.mg x=none) (hv:bootBuiltins x=some (.type T)) (ha:PA X (e::es) t) (hn:x ≠ "__name__" := by decide) (hdb:(x == ("__debug__" : Str))=false:=by decide)
 (he:starEach (e::es) X.env=(false,eval e X.env)::starEach es X.env:=by rfl) (hpl:(backTo pos (starEach es X.env)).any (·.1)=false:=by rfl):PE X (.Call (.Name x p) (e::es) [] pos) (tCB r t):=by
 intro pins s σ H Q I h
 refine wpAny_Call_Name_kw (uU I hg hm hv ?_ hn hdb)
 exact PyProof.Rows.callWith_type1 (thn (ha pos pins s σ H _ I h) fun us s1 ⟨vs,H1,I1,r1,q1⟩=>hc pins s1 σ H1 vs us Q I1 r1 q1) he hpl
end
end L2
namespace HT
open PySem PyProof.Rows
section
open PySem.SeqAt
open PySem.AutoSeq1 (wpAny_loadPart')
open PySem.MeetsSeq PySem.MeetsSeq2 PySem.MeetsSeq3
end
section
variable {prog:Program} {w:World} {A:Around} {E:Value→Shared→Prop} {s:Shared}
noncomputable def sIx (n d:Nat):Option Int→Nat
 | none=>d
 | some v=>if v<0 then (v+(n:Int)).toNat else min v.toNat n
theorem zkF (n d:Nat) (hd:d≤n) (o:Option Int):sIx n d o≤n:=by
 cases o with
 | none=>exact hd
 | some v =>
   show (if v<0 then (v+(n:Int)).toNat else min v.toNat n)≤n
   by_cases hv:v<0
   ·rw [if_pos hv]; lia
   ·rw [if_neg hv]; exact Nat.min_le_right _ _
theorem zhh (v:Int) (n d:Nat):(if v<0 then max (v+(n:Int)) 0 else min v (n:Int))=((sIx n d (some v):Nat):Int):=by
 show (if v<0 then max (v+(n:Int)) 0 else min v (n:Int))=(((if v<0 then (v+(n:Int)).toNat else min v.toNat n):Nat):Int)
 by_cases hv:v<0
 ·simp only [if_pos hv]; lia
 ·simp only [if_neg hv]; lia
theorem zfA (lo hi:Option Int) (n:Nat):Builtin.Slice.sliceAdjust lo hi 1 (n:Int)=(((sIx n 0 lo:Nat):Int),((sIx n n hi:Nat):Int)):=by
 have h1:¬ ((1:Int)<0):=by lia
 unfold Builtin.Slice.sliceAdjust
 simp only [h1,if_false]
 refine Prod.ext ?_ ?_
 ·cases lo with
  | none=>rfl
  | some v=>exact zhh v n 0
 ·cases hi with
  | none=>rfl
  | some v=>exact zhh v n n
theorem zff (i j:Nat):Builtin.Slice.slicePlaces (i:Int) (j:Int) 1=j - i:=by
 unfold Builtin.Slice.slicePlaces
 have h1:(1:Int)>0:=by lia
 simp only [h1,if_true,Int.ediv_one]
 split <;> lia
theorem zaW {v:Value} {o:Option Int} {Q:Option Int→Shared→Prop} (p:IsPart v o) (h:Q o s):wpAny (model prog w) A (Builtin.Slice.slicePartIndex v) Q E s:=by
 cases p with
 | none=>exact slicePart_none h
 | int i t=>exact slicePart_int h
theorem uX {sl:Addr} {vl vu:Value} {lo hi:Option Int} {n:Nat} {Q:Int×Int×Nat→Shared→Prop} (hs:s.heap.IsSliceOf sl vl vu .none) (pl:IsPart vl lo) (pu:IsPart vu hi)
 (h:Q (((sIx n 0 lo:Nat):Int),1,sIx n n hi - sIx n 0 lo) s):wpAny (model prog w) A (Builtin.Slice.sliceApplied (.ref sl) (pure (n:Int))) Q E s:=by
 obtain ⟨os,hos,hcs,hds⟩:=id hs
 unfold Builtin.Slice.sliceApplied Builtin.Slice.sliceFields
 refine wpAny_bind (wpAny_bind (wpAny_field hos hds (x:=vl) rfl (wpAny_bind (wpAny_field hos hds (x:=vu) rfl (wpAny_bind (wpAny_field hos hds (x:=.none) rfl (wpAny_pure ?_)))))))
 refine wpAny_bind (slicePart_none ?_)
 show wpAny _ _ (if ((1:Int) == 0)=true then _ else _) _ _ s
 rw [if_neg (by decide)]
 refine wpAny_bind (zaW pl (wpAny_bind (zaW pu (wpAny_bind (wpAny_pure ?_)))))
 show wpAny _ _ (match Builtin.Slice.sliceAdjust lo hi 1 (n:Int) with | (lo,hi)=>pure (lo,(1:Int),Builtin.Slice.slicePlaces lo hi 1)) _ _ s
 rw [zfA lo hi n]
 show wpAny _ _ (pure (((sIx n 0 lo:Nat):Int),(1:Int),Builtin.Slice.slicePlaces ((sIx n 0 lo:Nat):Int) ((sIx n n hi:Nat):Int) 1)) _ _ s
 rw [zff]
 exact wpAny_pure h
theorem zhS (xs:Array Value) (i k:Nat):((List.range k).filterMap fun (m:Nat)=>xs[((i:Int)+(m:Int)*1).toNat]?).toArray=((xs.toList.drop i).take k).toArray:=by
 have e:(fun (m:Nat)=>xs[((i:Int)+(m:Int)*1).toNat]?)=fun m=>xs[i+m]?:=by
  funext m
  have:((i:Int)+(m:Int)*1).toNat=i+m:=by lia
  rw [this]
 rw [e]
 have:=pick_run xs i k
 rw [List.filterMap_map] at this
 have e2:((fun x=>xs[x]?) ∘ fun x=>i+x)=fun m=>xs[i+m]?:=rfl
 rw [e2] at this
 rw [this]
theorem getItem_tuple_cut {t sl:Addr} {items:Array Value} {vl vu:Value} {lo hi:Option Int} {Q:Value→Shared→Prop} (ht:IsTup s.heap t items) (hs:s.heap.IsSliceOf sl vl vu .none) (pl:IsPart vl lo) (pu:IsPart vu hi)
 (hw:¬ (sIx items.size 0 lo=0∧sIx items.size items.size hi=items.size))
 (h:Q (.ref s.heap.objs.size) { s with heap:=s.heap.push { cls:=.type "tuple",data:=.seq ((items.toList.drop (sIx items.size 0 lo)).take (sIx items.size items.size hi - sIx items.size 0 lo)).toArray } })
 (hsz:items.size≤sizeLine):wpAny (model prog w) A (getItem (.ref t) (.ref sl)) Q E s:=by
 have htake:sizeOk (.seq ((items.toList.drop (sIx items.size 0 lo)).take (sIx items.size items.size hi - sIx items.size 0 lo)).toArray):=by
  show ((items.toList.drop (sIx items.size 0 lo)).take (sIx items.size items.size hi - sIx items.size 0 lo)).toArray.size≤sizeLine
  rw [List.size_toArray,List.length_take,List.length_drop,Array.length_toList]
  lia
 have hj:sIx items.size items.size hi≤items.size:=zkF _ _ (Nat.le_refl _) hi
 obtain ⟨os,hos,hcs,hds⟩:=id hs
 have hTs:s.TypeIs (.ref sl) "slice" := ⟨os,hos,hcs⟩
 unfold getItem
 try with_reducible refine wpAny_holding ?_
 first | refine wpAny_bind (wpAny_pure ?_) | skip
 refine wpAny_bind (wpAny_sequenceKey ht.typeIs (by decide) ?_)
 refine wpAny_bind (wpAny_callSpecial?_slot (name:=Str.ofString "__getitem__") ht.typeIs PyProof.Rows.slot_tuple_getitem
  (wpAny_call_entry PyProof.Rows.slot_tuple_getitem ht.typeIs entry_tuple_getitem ?_ (args_tuple_getitem _ _)))
 show wpAny _ _ (Builtin.Tuple.tupleItemsOf (.ref t) >>= _) _ _ s
 refine wpAny_bind (tupleItemsOf_ ht ?_)
 refine wpAny_bind (wpAny_typeOf hTs ?_)
 rw [if_pos (by decide)]
 refine wpAny_bind (uX hs pl pu ?_)
 have hno:¬ ((((sIx items.size 0 lo:Nat):Int) == 0&&(1:Int) == 1&&(sIx items.size items.size hi - sIx items.size 0 lo) == items.size)=true):=by
  intro q
  rw [Bool.and_eq_true,Bool.and_eq_true] at q
  have q1:((sIx items.size 0 lo:Nat):Int)=0:=eq_of_beq q.1.1
  have q2:sIx items.size items.size hi - sIx items.size 0 lo=items.size:=eq_of_beq q.2
  exact hw ⟨by lia,by lia⟩
 show wpAny _ _ (if (((sIx items.size 0 lo:Nat):Int) == 0&&(1:Int) == 1&&(sIx items.size items.size hi - sIx items.size 0 lo) == items.size)=true then _ else _) _ _ s
 rw [if_neg hno,zhS]
 first
  | exact wpAny_bind (m:=Builtin.Tuple.tupleExact _) (wpAny_newObj_type (wpAny_pure ⟨_,rfl,wpAny_pure h⟩) htake)
  | exact wpAny_bind (m:=Builtin.Tuple.tupleExact _) (wpAny_newObj_type (wpAny_bind (wpAny_pure (wpAny_pure ⟨_,rfl,wpAny_pure h⟩))) htake)
  | exact wpAny_bind (wpAny_bind (m:=Builtin.Tuple.tupleExact _) (wpAny_newObj_type (wpAny_pure (wpAny_pure ⟨_,rfl,wpAny_pure h⟩)) htake))
  | exact wpAny_bind (wpAny_bind (m:=Builtin.Tuple.tupleExact _) (wpAny_newObj_type (wpAny_pure ⟨_,rfl,wpAny_pure h⟩) htake))
end
end HT
namespace L2
open PySem PySem.Spec PyProof.Rows
noncomputable abbrev TO:=St→Hp→(Option Int→Hp→Prop)→Prop
noncomputable def PO (X:Cx) (e:Option Expr) (t:TO):Prop :=
 ∀ (pins:List (Addr×Obj)) (s:Shared) (σ:St) (H:Hp) (Q:Option Int→Hp→Prop),Inv X pins σ H s→t σ H Q →
   wpAny (model X.prog X.w) X.A (evalPart e X.env) (fun u s'=>∃ o H',Inv X pins σ H' s'∧IsPart u o∧Q o H') X.xe s
noncomputable def zje:TO:=fun _ H Q=>Q none H
noncomputable def tPart (t:TE):TO:=fun σ H Q=>t σ H fun x H1=>∃ i,x=.int i∧Q (some i) H1
section
variable {X:Cx} {e:Expr} {te:TE} {lo hi:Option Expr} {tl th:TO} {pos p2:Pos}
theorem zjt:PO X none zje:=by
 intro pins s σ H Q I h
 rw [evalPart_none]
 exact wpAny_pure ⟨none,H,I,.none,h⟩
theorem zjs (h:PE X e te):PO X (some e) (tPart te):=by
 intro pins s σ H Q I hw
 rw [evalPart_some]
 refine thn (h pins s σ H _ I hw) fun u s1 ⟨x,H1,I1,r1,q1⟩ => ?_
 obtain ⟨i,rfl,q⟩:=q1
 obtain ⟨t,rfl⟩:=r1
 exact ⟨some i,H1,I1,.int i t,q⟩
noncomputable def SlR (X:Cx) (r:V→Option Int→Option Int→Hp→VK→Prop):Prop :=
 ∀ (pins:List (Addr×Obj)) (s:Shared) (σ:St) (H:Hp) (x:V) (v vl vu:Value) (lo hi:Option Int) (sl:Addr) (Q:VK),Inv X pins σ H s→RelV x v→s.heap.IsSliceOf sl vl vu .none→IsPart vl lo→IsPart vu hi→r x lo hi H Q →
   ∃ T id,typeLookup (.type T) "__getitem__" = pure (some (.builtin id))∧s.TypeIs v T∧wpAny (model X.prog X.w) X.A (getItem v (.ref sl)) (EP X pins σ Q) X.xe s
theorem SlR.or {r r':V→Option Int→Option Int→Hp→VK→Prop} (h:SlR X r) (h':SlR X r'):SlR X (fun x lo hi H Q=>r x lo hi H Q∨r' x lo hi H Q):=by
 intro pins s σ H x v vl vu lo hi sl Q I rx hs pl pu q
 rcases q with q | q
 ·exact h pins s σ H x v vl vu lo hi sl Q I rx hs pl pu q
 ·exact h' pins s σ H x v vl vu lo hi sl Q I rx hs pl pu q
noncomputable def tSl (r:V→Option Int→Option Int→Hp→VK→Prop) (te:TE) (tl th:TO):TE:=fun σ H Q=>te σ H fun x H1=>tl σ H1 fun l H2=>th σ H2 fun u H3=>r x l u H3 Q
theorem zhT {r:V→Option Int→Option Int→Hp→VK→Prop} (hr:SlR X r) (he:PE X e te) (hl:PO X lo tl) (hu:PO X hi th):PE X (.Subscript e (.Slice lo hi none p2) pos) (tSl r te tl th):=by
 intro pins s σ H Q I h
 refine Subscript_ (thn (he pins s σ H _ I h) fun v s1 ⟨x,H1,I1,r1,q1⟩ => ?_)
 refine wpAny_Slice (thn (hl pins s1 σ H1 _ I1 q1) fun vl s2 ⟨l,H2,I2,pl,q2⟩=>thn (hu pins s2 σ H2 _ I2 q2) fun vu s3 ⟨u,H3,I3,pu,q3⟩ => ?_)
 rw [evalPart_none]
 refine wpAny_pure ?_
 have I4:Inv X pins σ H3 { s3 with heap:=s3.heap.push { cls:=.type "slice",data:=.fields #[vl,vu,.none] } }:=I3.kept (t':=s3.toks) fun b ob q=>Heap.get?_push_of_some _ q
 obtain ⟨T,id,hT,ht,hg⟩:=hr pins { s3 with heap:=s3.heap.push { cls:=.type "slice",data:=.fields #[vl,vu,.none] } } σ H3 x v vl vu l u s3.heap.objs.size Q I4 r1 (Heap.IsSliceOf.new ..) pl pu q3
 show wpAny (model X.prog X.w) X.A (subscriptTail e (.Slice lo hi none p2) v (.ref s3.heap.objs.size)) (EP X pins σ Q) X.xe { s3 with heap:=s3.heap.push { cls:=.type "slice",data:=.fields #[vl,vu,.none] } }
 exact tail_any (ops:=[.ref s3.heap.objs.size,v]) ht hT hg (by with_unfolding_all rfl)
noncomputable def cutV (xs:List V) (lo hi:Option Int):List V:=(xs.drop (HT.sIx xs.length 0 lo)).take (HT.sIx xs.length xs.length hi - HT.sIx xs.length 0 lo)
theorem zaA (xs:List V) (lo hi:Option Int):(cutV xs lo hi).length≤xs.length:=by
 unfold cutV
 rw [List.length_take,List.length_drop]
 lia
noncomputable def rSlT (K:PySem.W.Frag):V→Option Int→Option Int→Hp→VK→Prop:=fun x lo hi H Q=>∃ a xs,x=.ref a∧SqT K H a xs ∧
 ¬ (HT.sIx xs.length 0 lo=0∧HT.sIx xs.length xs.length hi=xs.length)∧∀ p,H p=none→Q (.ref p) (upd H p (.tup (cutV xs lo hi)))
theorem zkD:SlR X (rSlT X.K):=by
 intro pins s σ H x v vl vu lo hi sl Q I rx hs pl pu h
 obtain ⟨a,xs,rfl,hx,hw,q⟩:=h
 cases rx
 obtain ⟨its,r,ht,hz⟩:=I.tuple hx
 have hlen:its.toArray.size=xs.length:=by rw [List.size_toArray]; exact r.length.symm
 refine ⟨"tuple",_,PyProof.Rows.slot_tuple_getitem.lookup,ht.typeIs,?_⟩
 refine HT.getItem_tuple_cut ht hs pl pu (by rw [hlen]; exact hw) ?_ (by rw [hlen]; exact hz)
 rw [hlen]
 refine ⟨.ref s.heap.objs.size,_,I.laid (t':=s.toks) (o:=.tup (cutV xs lo hi)) (fun b ob q=>Heap.get?_push_of_some _ q) (Nat.le_refl _) ?_,rfl,q _ (I.hok.fresh (Nat.le_refl _))⟩
 exact ⟨Nat.le_trans (zaA xs lo hi) hz,_,(r.drop (HT.sIx xs.length 0 lo)).take (HT.sIx xs.length xs.length hi - HT.sIx xs.length 0 lo),IsTup.new _ _⟩
end
end L2
namespace L2
open PySem PySem.Spec PyProof.Rows
noncomputable def ixN (n:Nat) (i:Int):Option Nat:=if 0≤i then (if i<n then some i.toNat else none) else if -(n:Int)≤i then some (i+n).toNat else none
noncomputable def atI {α:Type} (xs:List α) (i:Int):Option α:=(ixN xs.length i).bind fun j=>xs[j]?
theorem zgL {n:Nat} {i:Int} {j:Nat} (h:ixN n i=some j):seqIndex? i n=some j∧j<n ∧ -(n:Int)≤i∧i<n:=by
 unfold ixN at h
 by_cases h0:0≤i
 ·rw [if_pos h0] at h
  by_cases h1:i<n
  ·rw [if_pos h1] at h
   have e:i.toNat=j:=Option.some.inj h
   exact ⟨by rw [seqIndex_of h0 h1,e],by lia,by lia,h1⟩
  ·rw [if_neg h1] at h; cases h
 ·rw [if_neg h0] at h
  by_cases h1 : -(n:Int)≤i
  ·rw [if_pos h1] at h
   have e:(i+n).toNat=j:=Option.some.inj h
   exact ⟨by rw [seqIndex_neg (by lia) h1,e],by lia,h1,by lia⟩
  ·rw [if_neg h1] at h; cases h
theorem zdR {α:Type} {xs:List α} {i:Int} {v:α} (h:atI xs i=some v):∃ j,seqIndex? i xs.length=some j∧xs[j]?=some v∧j<xs.length ∧ -(xs.length:Int)≤i∧i<xs.length:=by
 unfold atI at h
 cases e:ixN xs.length i with
 | none=>rw [e] at h; cases h
 | some j =>
   rw [e] at h
   obtain ⟨h1,h2,h3,h4⟩:=zgL e
   exact ⟨j,h1,h,h2,h3,h4⟩
noncomputable def zdW (b:Expr):Prop:=∀ o i,subscripted b false o i=operate [o,i] (getItem o i)
noncomputable def IxR (X:Cx) (r:R2):Prop :=
 ∀ (value slice:Expr) (pins:List (Addr×Obj)) (s:Shared) (σ:St) (H:Hp) (x y:V) (v u:Value) (Q:VK),Inv X pins σ H s→RelV x v→RelV y u→r x y H Q →
   subscripted slice false v u=operate [v,u] (getItem v u)→wpAny (model X.prog X.w) X.A (subscriptTail value slice v u) (EP X pins σ Q) X.xe s
noncomputable def MtR (X:Cx) (id:String) (r:V→List V→Hp→VK→Prop):Prop :=
 ∀ (pins:List (Addr×Obj)) (s:Shared) (σ:St) (H:Hp) (x:V) (xs:List V) (v:Value) (us:List Value) (Q:VK),Inv X pins σ H s→RelV x v→Vals xs us→r x xs H Q →
   wpAny (model X.prog X.w) X.A (call (.builtin id) (v::us)) (EP X pins σ Q) X.xe s
section
variable {X:Cx} {a b:Expr} {ta tb:TE} {pos:Pos}
theorem IxR.or {r r':R2} (h:IxR X r) (h':IxR X r'):IxR X (fun x y H Q=>r x y H Q∨r' x y H Q):=by
 intro value slice pins s σ H x y v u Q I rx ry q hs
 rcases q with q | q
 ·exact h value slice pins s σ H x y v u Q I rx ry q hs
 ·exact h' value slice pins s σ H x y v u Q I rx ry q hs
theorem pe_ix {r:R2} (hr:IxR X r) (ha:PE X a ta) (hb:PE X b tb) (hs:zdW b):PE X (.Subscript a b pos) (tOp r ta tb):=by
 intro pins s σ H Q I h
 exact Subscript_ (binT ha hb I h fun v u s2 x y H2 I2 rx ry q=>hr a b pins s2 σ H2 x y v u Q I2 rx ry q (hs _ _))
noncomputable def rIxL (K:PySem.W.Frag):R2:=fun x y H Q=>∃ p xs i v,x=.ref p∧y=.int i∧SqL K H p xs∧atI xs i=some v∧Q v H
noncomputable def rIxT (K:PySem.W.Frag):R2:=fun x y H Q=>∃ p xs i v,x=.ref p∧y=.int i∧SqT K H p xs∧atI xs i=some v∧Q v H
noncomputable def rIxS:R2:=fun x y H Q=>∃ z i c,x=.str z∧y=.int i∧z.length≤sizeLine∧atI z.cps.toList i=some c∧Q (.str ⟨#[c]⟩) H
theorem zjU:IxR X (rIxL X.K):=by
 intro value slice pins s σ H x y v u Q I rx ry h hs
 obtain ⟨p,xs,i,z,rfl,rfl,hq,he,q⟩:=h
 cases rx
 obtain ⟨t,rfl⟩:=ry
 obtain ⟨its,r,pl,hz⟩:=I.list hq
 obtain ⟨j,h1,h2,h3,h4,h5⟩:=zdR he
 obtain ⟨w,ew,rw'⟩:=r.get h2
 have hl:=r.length
 have hn:=zba
 have fin:EP X pins σ Q w s:=⟨z,H,I,rw',q⟩
 by_cases h0:0≤i
 ·have hj:i.toNat=j:=by
   rw [seqIndex_of h0 h5] at h1
   exact Option.some.inj h1
  exact item_listR pl.isList h0 (by lia) (by rw [hj]; simpa using ew) fin hs
 ·have hj:(i+(its.toArray.size:Int)).toNat=j:=by
   rw [seqIndex_neg (by lia) h4] at h1
   rw [List.size_toArray,←hl]
   exact Option.some.inj h1
  exact subscriptTail_builtinR (x:=w) pl.isList.typeIs slot_list_getitem.lookup
   (wpAny_getItem_list_neg (Q:=fun r s'=>r=w∧EP X pins σ Q r s') pl.isList (by lia) (by rw [List.size_toArray] <;> lia) (by lia) (by rw [hj]; simpa using ew) ⟨rfl,fin⟩) hs
theorem zls:IxR X (rIxT X.K):=by
 intro value slice pins s σ H x y v u Q I rx ry h hs
 obtain ⟨p,xs,i,z,rfl,rfl,hq,he,q⟩:=h
 cases rx
 obtain ⟨t,rfl⟩:=ry
 obtain ⟨its,r,pl,hz⟩:=I.tuple hq
 obtain ⟨j,h1,h2,h3,h4,h5⟩:=zdR he
 obtain ⟨w,ew,rw'⟩:=r.get h2
 have hl:=r.length
 have hn:=zba
 have fin:EP X pins σ Q w s:=⟨z,H,I,rw',q⟩
 exact subscriptTail_builtinR (x:=w) pl.typeIs slot_tuple_getitem.lookup
  (getItem_tuple (j:=j) (Q:=fun r s'=>r=w∧EP X pins σ Q r s') pl (by lia) (by lia) (by rw [List.size_toArray,←hl]; exact h1) (by simpa using ew) ⟨rfl,fin⟩) hs
theorem zlt:IxR X rIxS:=by
 intro value slice pins s σ H x y v u Q I rx ry h hs
 obtain ⟨z,i,c,rfl,rfl,hz,he,q⟩:=h
 obtain ⟨t,rfl⟩:=rx
 obtain ⟨t',rfl⟩:=ry
 obtain ⟨j,h1,h2,h3,h4,h5⟩:=zdR he
 have hl:z.cps.toList.length=z.length:=by simp [Str.length]
 rw [hl] at h1 h4 h5
 have hn:=zba
 exact tail_any (typeIs_str s z t) slot_str_getitem.lookup (getItem_str (c:=c) (by
  have e1:decide (i < -(2^63:Int))=false:=decide_eq_false (by lia)
  have e2:decide (i≥2^63)=false:=decide_eq_false (by lia)
  rw [e1,e2,Bool.or_false]) (by rw [h1]; simpa using h2) ⟨.str ⟨#[c]⟩,H,I.tok _,⟨_,rfl⟩,q⟩) hs
noncomputable def rIx (K:PySem.W.Frag):R2:=fun x y H Q=>rIxL K x y H Q∨rIxT K x y H Q∨rIxS x y H Q
theorem zlu:IxR X (rIx X.K):=zjU.or (zls.or zlt)
theorem zfl (its:List Value) (n j:Nat) (u:Value):Obj.mapSeq (·.setIfInBounds j u) { cls:=.type "list",data:=.seq its.toArray n }={ cls:=.type "list",data:=.seq (its.set j u).toArray n }:=by
 simp [Obj.mapSeq]
theorem Inv.lst {pins:List (Addr×Obj)} {σ:St} {H:Hp} {s:Shared} {p:Addr} {xs:List V} (I:Inv X pins σ H s) (h:H p=some (.lst xs)) :
 ∃ (its:List Value) (n:Nat),Vals xs its∧s.heap.get? p=some { cls:=.type "list",data:=.seq its.toArray n }∧xs.length≤sizeLine:=by
 obtain ⟨z,its,n,r,e⟩:=I.hok p _ h
 exact ⟨its,n,r,e,z⟩
theorem Inv.lstUpd {pins:List (Addr×Obj)} {σ:St} {H:Hp} {s:Shared} {p:Addr} {xs ys:List V} {its its':List Value} {n n':Nat} {f:Obj→Obj} (I:Inv X pins σ H s) (h:H p=some (.lst xs))
 (ho:s.heap.get? p=some { cls:=.type "list",data:=.seq its.toArray n }) (hf:f { cls:=.type "list",data:=.seq its.toArray n }={ cls:=.type "list",data:=.seq its'.toArray n' }) (r:Vals ys its') (hz:ys.length≤sizeLine) (t:Nat) :
 Inv X pins σ (upd H p (.lst ys)) { s with heap:=s.heap.update p f,toks:=t }:=by
 have e:(s.heap.update p f).get? p=some { cls:=.type "list",data:=.seq its'.toArray n' }:=by
  rw [Heap.get?_update_self f ho (by rw [hf] <;> rfl),hf]
 refine I.write (x:=p) (e:=p) (by rw [h]; trivial) (.inl rfl) (fun b u hb q=>(Heap.get?_update_other _ _ (Ne.symm hb)).trans q) ⟨_,e⟩ ?_
 exact ⟨hz,its',n',r,e⟩
noncomputable def rSetL:V→V→V→Hp→(Hp→Prop)→Prop:=fun o i v H Q=>∃ p xs k j,o=.ref p∧i=.int k∧H p=some (.lst xs)∧ixN xs.length k=some j∧Q (upd H p (.lst (xs.set j v)))
theorem zhL:PSet X rSetL:=by
 intro pins s σ H o i v ov iv u Q I ro ri rv h
 obtain ⟨p,xs,k,j,rfl,rfl,hp,hj,q⟩:=h
 cases ro
 obtain ⟨t,rfl⟩:=ri
 obtain ⟨its,n,r,ho,hz⟩:=I.lst hp
 obtain ⟨h1,h2,h3,h4⟩:=zgL hj
 have hl:=r.length
 have hn:=zba
 have I':Inv X pins σ (upd H p (.lst (xs.set j v))) { s with heap:=s.heap.update p (Obj.mapSeq (·.setIfInBounds j u)) } :=
  I.lstUpd hp ho (zfl its n j u) (r.set rv j) (by rw [List.length_set]; exact hz) s.toks
 by_cases h0:0≤k
 ·have hk:k.toNat=j:=by
   rw [seqIndex_of h0 h4] at h1
   exact Option.some.inj h1
  exact PySem.W.ki_setAt ho h0 (by lia) (by rw [List.size_toArray,←hl]; exact h4) (by rw [hk]; exact ⟨_,I',q⟩)
 ·have hk:(k+(its.toArray.size:Int)).toNat=j:=by
   rw [seqIndex_neg (by lia) h3] at h1
   rw [List.size_toArray,←hl]
   exact Option.some.inj h1
  exact PySem.W.ki_setBack ho (by lia) (by rw [List.size_toArray,←hl]; exact h3) (by lia) (by rw [hk]; exact ⟨_,I',q⟩)
theorem zcl (lo hi:Option Int) (n:Nat):(sliceBounds lo hi none n).1=((HT.sIx n 0 lo:Nat):Int)∧(sliceBounds lo hi none n).2.1=((HT.sIx n n hi:Nat):Int)∧(sliceBounds lo hi none n).2.2=1:=by
 refine ⟨?_,?_,rfl⟩
 ·cases lo with
  | none=>simp [sliceBounds,HT.sIx]
  | some i =>
    simp only [sliceBounds,HT.sIx,Option.getD_none,show (1:Int)>0 by decide,if_true]
    by_cases h:i<0
    ·simp only [h,if_true] <;> lia
    ·simp only [h,if_false] <;> lia
 ·cases hi with
  | none=>simp [sliceBounds,HT.sIx]
  | some i =>
    simp only [sliceBounds,HT.sIx,Option.getD_none,show (1:Int)>0 by decide,if_true]
    by_cases h:i<0
    ·simp only [h,if_true] <;> lia
    ·simp only [h,if_false] <;> lia
theorem zbx (its:List Value) (lo hi:Option Int):slicePick its.toArray lo hi none=((its.drop (HT.sIx its.length 0 lo)).take (HT.sIx its.length its.length hi - HT.sIx its.length 0 lo)).toArray:=by
 obtain ⟨h1,h2,h3⟩:=zcl lo hi its.toArray.size
 unfold slicePick
 rw [h1,h2,h3]
 simp only [sliceRange_one,pick_run,List.size_toArray] <;> rfl
noncomputable def rSlL (K:PySem.W.Frag):V→Option Int→Option Int→Hp→VK→Prop:=fun x lo hi H Q=>∃ a xs,x=.ref a∧SqL K H a xs∧∀ p,H p=none→Q (.ref p) (upd H p (.lst (cutV xs lo hi)))
theorem zji:SlR X (rSlL X.K):=by
 intro pins s σ H x v vl vu lo hi sl Q I rx hs pl pu h
 obtain ⟨a,xs,rfl,hx,q⟩:=h
 cases rx
 obtain ⟨its,r,ht,hz⟩:=I.list hx
 have hlen:=r.length
 refine ⟨"list",_,slot_list_getitem.lookup,ht.isList.typeIs,?_⟩
 refine wpAny_getItem_list_slice ht.isList hs pl pu .none (by simp) ?_ (by rw [List.size_toArray] <;> lia)
 rw [zbx,←hlen]
 refine ⟨.ref s.heap.objs.size,_,I.laid (t':=s.toks) (o:=.lst (cutV xs lo hi)) (fun b ob q=>Heap.get?_push_of_some _ q) (Nat.le_refl _) ?_,rfl,q _ (I.hok.fresh (Nat.le_refl _))⟩
 exact ⟨Nat.le_trans (zaA xs lo hi) hz,_,0,(r.drop (HT.sIx xs.length 0 lo)).take (HT.sIx xs.length xs.length hi - HT.sIx xs.length 0 lo),Heap.get?_push_size _ rfl⟩
theorem zO:zaT X (.builtin "len") (fun xs H Q=>∃ p ys,xs=[.ref p]∧(SqL X.K H p ys∨SqT X.K H p ys)∧Q (.int ys.length) H):=by
 intro pins s σ H xs us Q I r h
 obtain ⟨p,ys,rfl,hq,q⟩:=h
 obtain ⟨u,rfl,rx⟩:=zfG r
 cases rx
 have hn:=zba
 rcases hq with hq | hq
 ·obtain ⟨its,r',pl,hz⟩:=I.list hq
  have hlen:=r'.length
  exact Calls.call_len_list pl.isList (by simp only [List.size_toArray] <;> lia) ⟨.int ys.length,H,I.tok _,⟨s.toks+1,by rw [List.size_toArray,hlen]⟩,q⟩
 ·obtain ⟨its,r',pl,hz⟩:=I.tuple hq
  have hlen:=r'.length
  exact len_tuple pl (by simp only [List.size_toArray] <;> lia) ⟨.int ys.length,H,I.tok _,⟨s.toks+1,by rw [List.size_toArray,hlen]⟩,q⟩
theorem zcX:zaT X (.type "list") (fun xs H Q=>∃ p ys,xs=[.ref p]∧(SqL X.K H p ys∨SqT X.K H p ys)∧∀ l,H l=none→Q (.ref l) (upd H l (.lst ys))):=by
 intro pins s σ H xs us Q I r h
 obtain ⟨p,ys,rfl,hq,q⟩:=h
 obtain ⟨u,rfl,rx⟩:=zfG r
 cases rx
 have fin:∀ (its:List Value),Vals ys its→ys.length≤sizeLine→∀ (h':Heap) (c':Nat),(∀ b o',s.heap.get? b=some o'→h'.get? b=some o') →
  h'.get? s.heap.objs.size=some { cls:=.type "list",dict:=none,data:=.seq its.toArray c',slots:=#[] }→EP X pins σ Q (.ref s.heap.objs.size) { s with heap:=h' }:=fun its r' hz h' c' kp e =>
  ⟨.ref s.heap.objs.size,_,I.laid (t':=s.toks) kp (Nat.le_refl _) (show y2 X.prog X.w _ h' _ (.lst ys) from ⟨hz,its,c',r',e⟩),rfl,q _ (I.hok.fresh (Nat.le_refl _))⟩
 rcases hq with hq | hq
 ·obtain ⟨its,r',pl,hz⟩:=I.list hq
  have hlen:=r'.length
  obtain ⟨o,ho,hc,n,hd⟩:=pl.isList
  exact call_list_seq p (.inl rfl) ho hc hd (fun h' c' kp e=>fin its r' hz h' c' kp e) (by simp only [List.size_toArray] <;> lia)
 ·obtain ⟨its,r',pl,hz⟩:=I.tuple hq
  have hlen:=r'.length
  obtain ⟨o,ho,hc,n,hd⟩:=pl
  exact call_list_seq p (.inr rfl) ho hc hd (fun h' c' kp e=>fin its r' hz h' c' kp e) (by simp only [List.size_toArray] <;> lia)
noncomputable def tyV (K:PySem.W.Frag) (T:String) (x:V) (H:Hp):Prop:=match x with
 | .str _=>T = "str"
 | .int _=>T = "int"
 | .ref p=>(T = "list" ∧ ∃ xs,SqL K H p xs)∨(T = "tuple" ∧ ∃ o,K.lookup p=some o∧o.cls=.type "tuple" ∧ o.dict=none) ∨
  (T = "dict" ∧ ((∃ kvs,H p=some (.dK kvs))∨∃ kvs,H p=some (.dT kvs)))∨(T = "set" ∧ ∃ S n,H p=some (.set S n))
 | _=>False
theorem ziC {pins:List (Addr×Obj)} {σ:St} {H:Hp} {s:Shared} {T:String} {x:V} {v:Value} (I:Inv X pins σ H s) (r:RelV x v) (ty:tyV X.K T x H) :
 s.TypeIs v T∧∀ a,v=.ref a→∃ ob,s.heap.get? a=some ob∧ob.dict=none:=by
 cases x with
 | str z =>
   obtain ⟨t,rfl⟩:=r
   cases (show T = "str" from ty)
   exact ⟨typeIs_str s z t,fun _ e=>nomatch e⟩
 | int i =>
   obtain ⟨t,rfl⟩:=r
   cases (show T = "int" from ty)
   exact ⟨typeIs_int s i t,fun _ e=>nomatch e⟩
 | ref p =>
   cases r
   rcases ty with ⟨rfl,xs,hq⟩ | ⟨rfl,o,hk,hc,hd⟩ | ⟨rfl,hk⟩ | ⟨rfl,S,n,hk⟩
   ·obtain ⟨its,_,pl,_⟩:=I.list hq
    refine ⟨pl.isList.typeIs,fun a e => ?_⟩
    cases e
    obtain ⟨o,n,e,c,hd,_⟩:=pl
    exact ⟨o,e,hd⟩
   ·refine ⟨⟨o,I.kIn p o hk,hc⟩,fun a e => ?_⟩
    cases e
    exact ⟨o,I.kIn _ o hk,hd⟩
   ·have z:∃ o,s.heap.get? p=some o∧o.ExactDict:=by
     rcases hk with ⟨kvs,hk⟩ | ⟨kvs,hk⟩
     ·obtain ⟨_,_,_,_,o,_,_,e,ex,_⟩:=I.hok p _ hk
      exact ⟨o,e,ex⟩
     ·obtain ⟨_,_,_,_,o,_,_,e,ex,_⟩:=I.hok p _ hk
      exact ⟨o,e,ex⟩
    obtain ⟨o,e,ex⟩:=z
    refine ⟨⟨o,e,ex.1⟩,fun a e2 => ?_⟩
    cases e2
    exact ⟨o,e,ex.2.1⟩
   ·obtain ⟨o,_,_,_,e,ex,_⟩:=I.hok p _ hk
    refine ⟨⟨o,e,ex.1⟩,fun a e2 => ?_⟩
    cases e2
    exact ⟨o,e,ex.2.1⟩
 | _=>exact False.elim ty
noncomputable def tBM0 (K:PySem.W.Frag) (T:String) (r:V→List V→Hp→VK→Prop) (to:TE):TE:=fun σ H Q=>to σ H fun x H1=>tyV K T x H1∧r x [] H1 Q
noncomputable def tBM (K:PySem.W.Frag) (T:String) (r:V→List V→Hp→VK→Prop) (to:TE) (t:TA):TE:=fun σ H Q=>to σ H fun x H1=>tyV K T x H1∧t σ H1 fun xs H2=>r x xs H2 Q
variable {o e:Expr} {es:List Expr} {to:TE} {t:TA} {name:Str} {apos cpos:Pos} {T id:String} {r:V→List V→Hp→VK→Prop}
theorem ziO (pa:PlainAttrs T) (slot:Slot T name id) (hty:typeOf (.builtin id)=pure (.type "method_descriptor")) (hm:MtR X id r) (ho:PE X o to)
 (hbase:attributeBase o name X.env (eval o X.env)=eval o X.env:=by rfl) (hline:(apos.endLine == cpos.line)=true:=by rfl):PE X (.Call (.Attribute o name apos) [] [] cpos) (tBM0 X.K T r to):=by
 intro pins s σ H Q I h
 refine wpAny_Call_method0_late hbase hline (thn (ho pins s σ H _ I h) fun v s1 ⟨x,H1,I1,r1,ty,q1⟩ => ?_)
 obtain ⟨h1,h2⟩:=ziC I1 r1 ty
 exact ⟨T,id,pa,slot,hty,h1,h2,Calls.callWith_builtin rfl (PySem.evalArgs_none (hm pins s1 σ H1 x [] v [] Q I1 r1 .nil q1))⟩
theorem zjB (pa:PlainAttrs T) (slot:Slot T name id) (hty:typeOf (.builtin id)=pure (.type "method_descriptor")) (hm:MtR X id r) (ho:PE X o to) (ha:PA X (e::es) t)
 (hbase:attributeBase o name X.env (eval o X.env)=eval o X.env:=by rfl)
 (hfew:((backTo cpos (starEach (e::es) X.env)).all (fun x => !x.1)&&(backToKw cpos (keywordEach [] X.env)).all (fun x=>x.1.isSome)
  && decide ((e::es).length+([]:List Keyword).length+(if ([]:List Keyword).isEmpty then 0 else 1)<30))=true:=by rfl)
 (hline:(apos.endLine == cpos.line)=true:=by rfl) (hs:starEach (e::es) X.env=(false,eval e X.env)::starEach es X.env:=by rfl) (hplain:(backTo cpos (starEach es X.env)).any (·.1)=false:=by rfl) :
 PE X (.Call (.Attribute o name apos) (e::es) [] cpos) (tBM X.K T r to t):=by
 intro pins s σ H Q I h
 refine wpAny_Call_method_late hbase hfew hline rfl (thn (ho pins s σ H _ I h) fun v s1 ⟨x,H1,I1,r1,ty,q1⟩ => ?_)
 obtain ⟨h1,h2⟩:=ziC I1 r1 ty
 refine ⟨T,id,pa,slot,hty,h1,h2,?_⟩
 have hA:=ha cpos pins s1 σ H1 _ I1 q1
 rw [hs] at hA ⊢
 refine Calls.callWith_builtin (by show (false || (backTo cpos (starEach es X.env)).any (·.1))=false; rw [hplain] <;> rfl) (Calls.evalArgs_plain ?_)
 exact thn hA fun us s2 ⟨vs,H2,I2,r2,q2⟩=>hm pins s2 σ H2 x vs v us Q I2 r1 r2 q2
end
end L2
namespace L2
open PySem PySem.Spec PyProof.Rows
noncomputable def MtM (X:Cx) (id:String) (r:V→List V→Hp→VK→Prop):Prop :=
 ∀ (pins:List (Addr×Obj)) (s:Shared) (σ:St) (H:Hp) (x:V) (xs:List V) (v:Value) (us:List Value) (Q:VK),Inv X pins σ H s→RelV x v→Vals xs us→r x xs H Q →
   wpAny (model X.prog X.w) X.A (call (.builtin id) (v::us)) (EP X pins σ Q) X.xe s
theorem Vals.one:∀ {x:V} {us:List Value},Vals [x] us→∃ u,us=[u]∧RelV x u
 | _,_,.cons r .nil=>⟨_,rfl,r⟩
theorem Vals.zero:∀ {us:List Value},Vals [] us→us=[]
 | _,.nil=>rfl
theorem Vals.dropLast {xs:List V} {us:List Value} (h:Vals xs us):Vals xs.dropLast us.dropLast:=by
 induction h with
 | nil=>exact .nil
 | cons r t ih =>
   cases t with
   | nil=>exact .nil
   | cons q t'=>exact .cons r ih
theorem Vals.reverse {xs:List V} {us:List Value} (h:Vals xs us):Vals xs.reverse us.reverse:=by
 induction h with
 | nil=>exact .nil
 | cons r t ih=>rw [List.reverse_cons,List.reverse_cons]; exact Vals.append ih (.cons r .nil)
theorem zfs {α:Type} (l:List α):l.eraseIdx (l.length - 1)=l.dropLast:=by
 induction l with
 | nil=>rfl
 | cons a r ih =>
   cases r with
   | nil=>rfl
   | cons b r =>
     have e:(a::b::r).length - 1=((b::r).length - 1)+1:=by
      have h1:(a::b::r).length=r.length+2:=rfl
      have h2:(b::r).length=r.length+1:=rfl
      lia
     rw [e,List.eraseIdx_cons_succ,ih]
     all_goals rfl
section
variable {X:Cx} {pins:List (Addr×Obj)} {σ:St} {H:Hp} {s:Shared} {l b:Addr} {xs ys zs:List V}
theorem Inv.lset {its its':List Value} {n:Nat} {f:Array Value→Array Value} {t':Nat} (I:Inv X pins σ H s) (hH:H l=some (.lst xs))
 (e:s.heap.get? l=some { cls:=.type "list",data:=.seq its.toArray n }) (hf:f its.toArray=its'.toArray) (hv:Vals ys its') (hz:ys.length≤sizeLine) :
 Inv X pins σ (upd H l (.lst ys)) { s with heap:=s.heap.update l (Obj.mapSeq f),toks:=t' }:=by
 have q:=PySem.IsL.update e f
 rw [hf] at q
 refine I.write (x:=l) (e:=l) (by rw [hH]; exact trivial) (.inl rfl) (fun b' u hb hu=>(Heap.get?_update_other s.heap (Obj.mapSeq f) (Ne.symm hb)).trans hu) ⟨_,q⟩ ?_
 exact ⟨hz,its',_,hv,q⟩
theorem Inv.lnew {its:List Value} {t':Nat} (I:Inv X pins σ H s) (hv:Vals ys its) (hz:ys.length≤sizeLine) :
 Inv X pins σ (upd H s.heap.objs.size (.lst ys)) { s with heap:=s.heap.push { cls:=.type "list",data:=.seq its.toArray },toks:=t' } :=
 I.laid (fun _ _ q=>Heap.get?_push_of_some _ q) (Nat.le_refl _) ⟨hz,its,0,hv,Heap.get?_push_size _ rfl⟩
theorem Inv.fresh (I:Inv X pins σ H s):H s.heap.objs.size=none:=I.hok.fresh (Nat.le_refl _)
theorem Inv.lstM (I:Inv X pins σ H s) (hH:H l=some (.lst xs)):xs.length≤sizeLine∧∃ (its:List Value) (n:Nat),Vals xs its∧xs.length=its.length∧s.heap.get? l=some { cls:=.type "list",data:=.seq its.toArray n }:=by
 obtain ⟨z,its,n,r,e⟩:=I.hok l _ hH
 exact ⟨z,its,n,r,r.length,e⟩
theorem zh0 {n:Nat} (h:n≤sizeLine):Builtin.List.listTooLong n=false:=by
 unfold Builtin.List.listTooLong
 exact decide_eq_false (by lia)
end
section
variable {X:Cx}
noncomputable def zjm:V→List V→Hp→VK→Prop:=fun x vs H Q=>∃ l xs y,x=.ref l∧vs=[y]∧H l=some (.lst xs)∧xs.length<sizeLine∧Q .non (upd H l (.lst (xs++[y])))
theorem zaa:MtM X "list.append" zjm:=by
 intro pins s σ H x vs v us Q I rx rv h
 obtain ⟨l,xs,y,rfl,rfl,hH,hz,q⟩:=h
 cases rx
 obtain ⟨u,rfl,ru⟩:=rv.one
 obtain ⟨z,its,n,r,hl,e⟩:=I.lstM hH
 refine call_meets F.slot_list_append ⟨_,e,rfl⟩ F.entry_list_append (F.args_list_append_2 _ _) (PySem.list_append l its.toArray n u (by rw [List.size_toArray]; lia)) ⟨e,?_⟩
 refine ⟨.non,_,I.lset (its':=its++[u]) hH e (by simp) (r.append (.cons ru .nil)) ?_,rfl,q⟩
 rw [List.length_append,List.length_singleton]
 lia
noncomputable def zf8:V→List V→Hp→VK→Prop:=fun x vs H Q=>∃ l b xs zs,x=.ref l∧vs=[.ref b]∧H l=some (.lst xs)∧H b=some (.lst zs)∧xs.length+zs.length≤sizeLine∧Q .non (upd H l (.lst (xs++zs)))
theorem zgz:MtM X "list.extend" zf8:=by
 intro pins s σ H x vs v us Q I rx rv h
 obtain ⟨l,b,xs,zs,rfl,rfl,hH,hB,hz,q⟩:=h
 cases rx
 obtain ⟨u,rfl,ru⟩:=rv.one
 cases ru
 obtain ⟨z,its,n,r,hl,e⟩:=I.lstM hH
 obtain ⟨z2,its2,n2,r2,hl2,e2⟩:=I.lstM hB
 have hsz:its.toArray.size+its2.toArray.size≤sizeLine:=by rw [List.size_toArray,List.size_toArray]; lia
 have hlong:¬ (!its.toArray.isEmpty&&Builtin.List.listTooLong (its.toArray.size+its2.toArray.size))=true:=by
  rw [zh0 hsz,Bool.and_false]
  exact Bool.false_ne_true
 refine call_meets F.slot_list_extend ⟨_,e,rfl⟩ F.entry_list_extend (F.args_list_extend_2 _ _)
  (AutoSeq1.list_extend_list_list_0 l its.toArray n b its2.toArray n2 hlong (by rw [List.size_toArray]; lia) (by lia)) ⟨e,e2,?_⟩
 refine ⟨.non,_,I.lset (its':=its++its2) hH e (by simp) (r.append r2) ?_,rfl,q⟩
 rw [List.length_append]
 lia
noncomputable def rPop:V→List V→Hp→VK→Prop:=fun x vs H Q=>∃ l xs y,x=.ref l∧vs=[]∧H l=some (.lst xs)∧xs[xs.length - 1]?=some y∧Q y (upd H l (.lst xs.dropLast))
theorem zlf:MtM X "list.pop" rPop:=by
 intro pins s σ H x vs v us Q I rx rv h
 obtain ⟨l,xs,y,rfl,rfl,hH,hy,q⟩:=h
 cases rx
 have hus:=rv.zero
 subst hus
 obtain ⟨z,its,n,r,hl,e⟩:=I.lstM hH
 obtain ⟨u,hu,ru⟩:=r.get hy
 have hy':its.toArray[its.toArray.size - 1]?=some u:=by
  show its.toArray[its.length - 1]?=some u
  rw [←Array.getElem?_toList,←hl]
  exact hu
 refine call_meets F.slot_list_pop ⟨_,e,rfl⟩ F.entry_list_pop (F.args_list_pop_1 _) (MeetsSeq.list_pop_last l its.toArray n u hy' (by rw [List.size_toArray]; lia)) ⟨e,?_⟩
 refine ⟨y,_,I.lset (its':=its.dropLast) hH e ?_ r.dropLast ?_,ru,q⟩
 ·show its.toArray.eraseIdxIfInBounds (its.toArray.size - 1)=its.dropLast.toArray
  rw [List.size_toArray,List.eraseIdxIfInBounds_toArray,zfs]
 ·rw [List.length_dropLast]
  lia
noncomputable def zhN:V→List V→Hp→VK→Prop:=fun x vs H Q=>∃ l xs,x=.ref l∧vs=[]∧H l=some (.lst xs)∧Q .non (upd H l (.lst xs.reverse))
theorem zfk:MtM X "list.reverse" zhN:=by
 intro pins s σ H x vs v us Q I rx rv h
 obtain ⟨l,xs,rfl,rfl,hH,q⟩:=h
 cases rx
 have hus:=rv.zero
 subst hus
 obtain ⟨z,its,n,r,hl,e⟩:=I.lstM hH
 refine call_meets F.slot_list_reverse ⟨_,e,rfl⟩ F.entry_list_reverse (F.args_list_reverse_1 _) (AutoSeq1.list_reverse_list_0 l its.toArray n (by rw [List.size_toArray]; lia)) ⟨e,?_⟩
 refine ⟨.non,_,I.lset (its':=its.reverse) hH e (by simp) r.reverse ?_,rfl,q⟩
 rw [List.length_reverse]
 lia
noncomputable def rCat:R2:=fun x y H Q=>∃ l b xs zs,x=.ref l∧y=.ref b∧H l=some (.lst xs)∧H b=some (.lst zs)∧xs.length+zs.length≤sizeLine∧∀ p,H p=none→Q (.ref p) (upd H p (.lst (xs++zs)))
theorem ziS:OpR X (binaryOp .Add) rCat:=by
 intro pins s σ H x y v u Q I rx ry h
 obtain ⟨l,b,xs,zs,rfl,rfl,hH,hB,hz,q⟩:=h
 cases rx
 cases ry
 obtain ⟨z,its,n,r,hl,e⟩:=I.lstM hH
 obtain ⟨z2,its2,n2,r2,hl2,e2⟩:=I.lstM hB
 refine PySem.P.add_list e e2 ?_ (by rw [List.size_toArray,List.size_toArray]; lia)
 have ea:its.toArray++its2.toArray=(its++its2).toArray:=by simp
 rw [ea]
 exact ⟨.ref _,_,I.lnew (t':=s.toks) (r.append r2) (by rw [List.length_append]; lia),rfl,q _ I.fresh⟩
end
section
variable {prog:Program} {w:World} {A:Around} {E:Value→Shared→Prop} {s:Shared}
end
section
variable {X:Cx}
end
end L2
namespace Att
open PySem PySem.W PySem.Calls PyProof.Rows
theorem zai {P:Params} {h:Heap}:∀ (ns:List Int) (vs:List Value),WellAll P h vs (ns.map WData.int)→IntsAre vs ns:=by
 intro ns
 induction ns with
 | nil =>
   intro vs w
   rw [List.map_nil] at w
   cases w
   exact .nil
 | cons n ns ih =>
   intro vs w
   rw [List.map_cons] at w
   cases w with
   | cons a b =>
     cases a
     exact .cons _ _ (ih _ b)
theorem zfX {l:OpenLaw} {n:Nat} (hn:l.most=some n) {P:Params} {h:Heap} {args:List WData} {vals:List Value}
 (hpre:l.row.toRowW.claim.pre args=true) (hwl:WellAll P h vals args) :
 ∃ a vs ns,vals=[Value.ref a]∧args=[WData.list (ns.map WData.int)]∧h.get? a=some { cls:=.type "list",data:=.seq vs.toArray }∧IntsAre vs ns∧ns.length≤n:=by
 have hsh:WShape.hasAll [] args [.list .int]=true:=(pre_splitW hpre).1
 have hc:l.pre.holds [] { args:=args }=true:=(pre_splitW hpre).2
 obtain ⟨d,r,rfl,h1,h2⟩:=hasAllW_cons hsh
 obtain rfl:=hasAllW_nil h2
 obtain ⟨xs,rfl,h3⟩:=hasW_list h1
 obtain ⟨ns,rfl⟩:=items_int h3
 have hlen:ns.length≤n:=by
  unfold OpenLaw.pre at hc
  have h4:(WTm.not (.lt (.lit (.int (n:Int))) (.len (.arg 0)))).holds [] { args:=[.list (ns.map .int)] }=true:=by
   have h4:=(holds_andW hc).1
   rw [hn] at h4
   exact h4
  have h5:=condW_of h4 (w_not (w_lt w_lit (w_len_list (w_arg rfl))))
  rw [List.length_map] at h5
  refine Nat.le_of_not_lt fun q => ?_
  have q':(n:Int)<((ns.length:Nat):Int):=by lia
  first
   | (rw [decide_eq_true q'] at h5; exact absurd h5 (by decide))
   | (simp at h5; lia)
 cases hwl with
 | cons w1 w2 =>
   cases w2
   cases w1 with
   | list ho hall=>exact ⟨_,_,ns,rfl,rfl,ho,zai ns _ hall,hlen⟩
theorem zge (l:OpenLaw) (args:List WData):l.row.toRowW.claim.post args (.bool true) args=true :=
 postW_of (r:=l.row.toRowW) (X:=(true == true))
  (show WShape.has [] (.bool true) .bool=true by first | rfl | decide | simp [WShape.has,WShape.arms,WShape.armsAll])
  (show (WTm.eq .res (.lit (.bool true))).value [] { args:=args,res:=some (.bool true),after:=args }=some (.bool (true == true)) from w_eq_bool (w_res rfl) w_lit) rfl
theorem attach_call {l:OpenLaw} {n:Nat} {q:Program} {loose:List Str} {XP:(Str→Option Value)→Heap→Prop} {YP:World→Heap→Prop} {d:DefRec}
 (hn:l.most=some n) (hdf:d.params.defaults=[])
 (call:∀ (w:World) (s₀ s₁:Shared) (mg mb:Str→Option Value) (fa:Addr) (o:Obj) (pm cd doc:Value) (a:Addr) (vs:List Value) (ns:List Int),
  Ground q loose [] XP w s₀ mg mb s₁.heap→YP w s₁.heap →
  s₁.heap.get? fa=some o→o.data=.func (docDef d.name d.params d.body d.scope pm cd doc)→s₁.heap.CodeRec cd d.name→mg d.name=some (.ref fa) →
  s₁.heap.get? a=some { cls:=.type "list",data:=.seq vs.toArray }→IntsAre vs ns→ns.length≤n→s₁.gens=#[] →
  codeAny (model l.prog w) callerA (.call (.ref fa) ⟨[.ref a],[]⟩) (fun r s'=>r=.ok (.ret (.bool true))∧OldK s₁.heap s'.heap∧s'.os=s₁.os∧AllBare s'.gens) s₁) :
 WalkO q loose XP YP l.row.toRowW d [] (fun f vs=>PySem.call f vs):=by
 intro w s₀ s₁ mg mb G Y fa o pm cd doc dV kV ho hd hcd hD hmg hg args vals as hpre hlay hrd hwl hlo
 obtain rfl:dV=.none:=Dflts.none hD hdf
 obtain rfl:kV=.none:=Dflts.noKw hD
 obtain ⟨a,vs,ns,rfl,rfl,hobj,hints,hlen⟩:=zfX hn hpre hwl
 refine enter_call (codeAny_mono (call w s₀ s₁ mg mb fa o pm cd doc a vs ns G Y ho (fd_plain hd) hcd hmg hobj hints hlen hg) fun r s' hq => ?_)
 obtain ⟨rfl,h2,h3,h4⟩:=hq
 exact ⟨.inl ⟨.bool true,.bool true,[],rfl,fun _=>rfl,.bool true,zge l _,fun _=>⟨List.Pairwise.nil,fun _ hm=>(nomatch hm)⟩⟩,h2,h3,h4⟩
section
variable {prog:Program} {w:World} {A:Around} {E:Value→Shared→Prop} {s:Shared} {K:Frag}
end
end Att
namespace L2
open PySem PySem.Spec PyProof.Rows
theorem zcd:∀ {vs:List Value} {ns:List Int},IntsAre vs ns→Vals (ns.map V.int) vs
 | _,_,.nil=>.nil
 | _,_,.cons n t h=>.cons ⟨t,rfl⟩ (zcd h)
noncomputable def Only (H:Hp):Prop:=∀ b,H b=none∨∃ o xs,H b=some (.frz o (.lst xs))
theorem zh6 {P:Program} {w:World} {K:PySem.W.Frag} {mg mb:Str→Option Value} {CX:CXT} {k:Nat} {fa a:Addr} {fd:FuncData} {x:Str} {sp:Sp} {s₁:Shared} {vs:List Value} {ns:List Int}
 (KX:K.In s₁.heap) (hns:s₁.heap.Ns mainGlobals mg) (hb:s₁.heap.Ns builtinsNs mb) (hbb:∀ x:Str,x ≠ "__name__" → mb x=bootBuiltins x) (hlim:s₁.heap.NoLimit) (hg:s₁.gens=#[])
 (ha:s₁.heap.get? a=some { cls:=.type "list",data:=.seq vs.toArray }) (hi:IntsAre vs ns) (hl:ns.length≤sizeLine) (hr:Room k callerA)
 (F:∀ base:Heap,K.In base→base.Ns mainGlobals mg→FnOk P w K mg base CX k fa fd [x] sp) (hbind:∀ (s:Shared) (u:Value),BindsTo s fd ⟨[u],[]⟩ [(x,u)])
 (hsp:∀ H:Hp,Only H→SqL K H a (ns.map V.int)→sp [.ref a] H (fun v _=>v=.bl true) fun _ _ _=>False)
 (hCX:∀ H e s',CX [] H s₁ (fun _ _ _=>False) e s'→False) :
 codeAny (model P w) callerA (.call (.ref fa) ⟨[.ref a],[]⟩) (fun r s'=>r=.ok (.ret (.bool true))∧OldK s₁.heap s'.heap∧s'.os=s₁.os∧AllBare s'.gens) s₁:=by
 have rv:=zcd hi
 have lenV:=hi.length
 have core:∀ H:Hp,Only H→SqL K H a (ns.map V.int)→HOk P w H s₁.heap→(∀ b,H b≠none→b=a)→(H a≠none→K.lookup a=none) →
  codeAny (model P w) callerA (.call (.ref fa) ⟨[.ref a],[]⟩) (fun r s'=>r=.ok (.ret (.bool true))∧OldK s₁.heap s'.heap∧s'.os=s₁.os∧AllBare s'.gens) s₁:=by
  intro H hO hS hok hA hK
  have base_of:∀ {b:Addr} {o:Obj},s₁.heap.get? b=some o→H b=none→(hidT s₁.heap H).get? b=some o:=fun e n=>zic e n
  have noA:∀ {b:Addr} {o:Obj} {es:Array DictEntry} {ep:Nat},s₁.heap.get? b=some o→o.data=.dict es ep→H b=none:=fun {b o es ep} e d=>by
   cases q:H b with
   | none=>rfl
   | some u =>
     have e':b=a:=hA b (by rw [q]; simp)
     subst e'
     rw [ha] at e; cases e
     have d':Data.seq vs.toArray _=Data.dict es ep:=d
     cases d'
  have nsK:∀ {b:Addr} {m:Str→Option Value},s₁.heap.Ns b m→(hidT s₁.heap H).Ns b m:=fun {b m} ⟨o,es,ep,e,d,r⟩=>⟨o,es,ep,base_of e (noA e d),d,r⟩
  have hKb:K.In (hidT s₁.heap H):=fun b o e=>base_of (KX b o e) (by
   cases q:H b with
   | none=>rfl
   | some u =>
     have e':b=a:=hA b (by rw [q]; simp)
     subst e'
     rw [hK (by rw [q]; simp)] at e; cases e)
  have hM:Mod K mg (hidT s₁.heap H):=⟨hKb,nsK hns,⟨mb,nsK hb,hbb⟩,let ⟨mc,h1,h2⟩:=hlim; ⟨mc,nsK h1,h2⟩⟩
  have e0:Env0 P w K mg (hidT s₁.heap H) callerA [] s₁ H:=⟨rfl,hM,fun b o e=>zjH e,Nat.le_of_eq (zgU _ _),trivial,fun b hb=>absurd (show b∈([]:List Addr) from hb) (by simp),hok,.of_eq hg⟩
  refine codeAny_mono ((F _ hKb (nsK hns)).run callerA [] s₁ H ⟨[.ref a],[]⟩ [.ref a] [.ref a] _ _ hr e0 (hbind s₁ (.ref a)) (.cons rfl .nil) (hsp H hO hS)) fun r s' h => ?_
  cases r with
  | error e=>exact (hCX H e s' h).elim
  | ok fl =>
    cases fl with
    | next=>exact False.elim h
    | brk=>exact False.elim h
    | cont=>exact False.elim h
    | ret u =>
      obtain ⟨v,H',os,bare,un,hok',r',q⟩:=h
      have q':v=.bl true:=q
      subst q'
      obtain rfl:u=Value.bool true:=r'
      refine ⟨rfl,OldK.of_keep fun b o e => ?_,os,bare⟩
      cases q:H b with
      | none=>exact un.keep b o e q (by intro z; exact absurd (show b∈([]:List Addr) from z) (by simp)) (by simp)
      | some u =>
        rcases hO b with z | ⟨ob,xs,z⟩
        ·rw [q] at z; cases z
        ·have z2:=un.frzs b ob _ z
         obtain ⟨e1,_⟩:=hok b _ z
         obtain ⟨e2,_⟩:=hok' b _ z2
         rw [e] at e1; cases e1
         exact e2
 cases hk:K.lookup a with
 | some o =>
   have e:=KX a o hk
   rw [ha] at e
   cases e
   refine core (fun _=>none) (fun _=>.inl rfl) (.inr ⟨_,vs.toArray,_,hk,rfl,rfl,rfl,by rw [List.size_toArray,lenV]; exact hl,by simpa using rv⟩) (fun b u z=>by have z':(none:Option HO)=some u:=z; cases z') (fun b z=>absurd rfl z) fun z=>absurd rfl z
 | none =>
   refine core (fun b=>if b=a then some (.frz { cls:=.type "list",data:=.seq vs.toArray } (.lst (ns.map V.int))) else none) (fun b => ?_) (.inl (.inr ⟨{ cls:=.type "list",data:=.seq vs.toArray },if_pos rfl⟩)) (fun b u z => ?_) (fun b z => ?_) fun _=>hk
   ·by_cases hb:b=a
    ·exact .inr ⟨_,_,if_pos hb⟩
    ·exact .inl (if_neg hb)
   ·by_cases hb:b=a
    ·have z':=(if_pos hb).symm.trans z
     cases z'
     subst hb
     exact ⟨ha,by rw [List.length_map]; exact hl,vs,_,rv,ha⟩
    ·have z':=(if_neg hb).symm.trans z
     cases z'
   ·by_cases hb:b=a
    ·exact hb
    ·exact absurd (if_neg hb) z
end L2
namespace L2
open PySem PySem.Spec PyProof.Rows
theorem zbq {l:PySem.W.OpenLaw} {n k:Nat} {q:Program} {loose:List Str} {XP:(Str→Option Value)→Heap→Prop} {YP:World→Heap→Prop} {d:DefRec} {K:Params→PySem.W.Frag} {CX:World→CXT} {sp:World→Sp} {x:Str}
 (hn:l.most=some n) (hn2:n≤sizeLine) (hdf:d.params.defaults=[]) (hr:Room k callerA)
 (hY:∀ (w:World) (h:Heap),YP w h→(K w.params).In h)
 (F:∀ (w:World) (mg:Str→Option Value) (fa:Addr) (h:Heap),(K w.params).In h→h.Ns mainGlobals mg→mg d.name=some (.ref fa) →
  ∃ fd:FuncData,(∀ (s:Shared) (u:Value),BindsTo s fd ⟨[u],[]⟩ [(x,u)]) ∧
    ∀ base:Heap,(K w.params).In base→base.Ns mainGlobals mg→FnOk l.prog w (K w.params) mg base (CX w) k fa fd [x] (sp w))
 (hsp:∀ (w:World) (H:Hp) (a:Addr) (ns:List Int),ns.length≤n→Only H→SqL (K w.params) H a (ns.map V.int)→sp w [.ref a] H (fun v _=>v=.bl true) fun _ _ _=>False)
 (hCX:∀ (w:World) (H:Hp) (s:Shared) (e:Value) (s':Shared),CX w [] H s (fun _ _ _=>False) e s'→False) :
 PySem.W.WalkO q loose XP YP l.row.toRowW d [] (fun f vs=>PySem.call f vs):=by
 refine Att.attach_call hn hdf fun w s₀ s₁ mg mb fa o pm cd doc a vs ns G Y ho hd hcd hmg hobj hints hlen hg => ?_
 have KX:=hY w _ Y
 obtain ⟨fd,hb,hF⟩:=F w mg fa _ KX G.T.g hmg
 exact zh6 KX G.T.g G.T.b G.T.builtins G.T.nolimit hg hobj hints (Nat.le_trans hlen hn2) hr hF hb (fun H hO hS=>hsp w H a ns hlen hO hS) fun H e s'=>hCX w H s₁ e s'
theorem zhF {l:PySem.W.OpenLaw} {n k:Nat} {q:Program} {loose:List Str} {XP:(Str→Option Value)→Heap→Prop} {YP:World→Heap→Prop} {d:DefRec} {K:Params→PySem.W.Frag} {CX:CXT} {sp:PySem.W.Frag→Sp} {x:Str}
 (hn:l.most=some n) (hn2:n≤sizeLine) (hdf:d.params.defaults=[]) (hr:Room k callerA)
 (hY:∀ (w:World) (h:Heap),YP w h→(K w.params).In h)
 (F:∀ (w:World) (mg:Str→Option Value) (fa:Addr) (h:Heap),(K w.params).In h→h.Ns mainGlobals mg→mg d.name=some (.ref fa) →
  ∃ fd:FuncData,(∀ (s:Shared) (u:Value),BindsTo s fd ⟨[u],[]⟩ [(x,u)]) ∧
    ∀ base:Heap,(K w.params).In base→base.Ns mainGlobals mg→FnOk l.prog w (K w.params) mg base CX k fa fd [x] (sp (K w.params)))
 (hsp:∀ (K:PySem.W.Frag) (H:Hp) (a:Addr) (ns:List Int),ns.length≤n→Only H→SqL K H a (ns.map V.int)→sp K [.ref a] H (fun v _=>v=.bl true) fun _ _ _=>False)
 (hCX:∀ (H:Hp) (s:Shared) (e:Value) (s':Shared),CX [] H s (fun _ _ _=>False) e s'→False) :
 PySem.W.WalkO q loose XP YP l.row.toRowW d [] (fun f vs=>PySem.call f vs) :=
 zbq (K:=K) (CX:=fun _=>CX) (sp:=fun w=>sp (K w.params)) hn hn2 hdf hr hY F (fun w H a ns h1 h2 h3=>hsp (K w.params) H a ns h1 h2 h3) fun _ H s e s'=>hCX H s e s'
end L2
namespace L2
open PySem PySem.Spec PyProof.Rows
noncomputable def defArgs (s:Stmt):Arguments:=match s with
 | .FunctionDef _ a _ _ _ _ _ _ _ _=>a
 | _=>{ posonlyargs:=[],args:=[],vararg:=none,kwonlyargs:=[],kw_defaults:=[],kwarg:=none,defaults:=[] }
noncomputable def defBody (s:Stmt):List Stmt:=match s with
 | .FunctionDef _ _ b _ _ _ _ _ _ _=>b
 | _=>[]
noncomputable def defScope (s:Stmt):Scope:=match s with
 | .FunctionDef _ _ _ _ _ _ sc _ _ _=>sc
 | _=>{ kind:=.function,names:=[],isGenerator:=false,isCoroutine:=false }
noncomputable abbrev CX0:CXT:=fun _ _ _ _ _ _=>False
noncomputable abbrev E0:XK:=fun _ _ _=>False
theorem zk0 {X:Cx}:zhx CX0 X E0:=fun _ _ _ _ _ _ _ h=>h.elim
structure Fun (K:PySem.W.Frag) (x qual:Str) (st:Stmt) (f:Addr) (fd:FuncData):Prop where
 ex:∃ (oc:Value) (od:Option Addr) (kV doc pm:Value) (an:Option Addr) (cdv ct:Value) (osl:Array (Option Value)),
  fd=PySem.W.fnOf x qual (defArgs st) (defBody st) (defScope st) .none kV doc pm an cdv ct∧K.lookup f=some ⟨oc,od,.func fd,osl⟩∧PySem.W.codeIn K cdv qual=true
 kp:PySem.W.keepIn K (.ref f)=true
section
variable {P:Program} {w:World} {K:PySem.W.Frag} {mg:Str→Option Value} {base:Heap}
theorem Fun.ok {x qual:Str} {st:Stmt} {f:Addr} {fd:FuncData} {N ps:List Str} {k:Nat} {sp:Sp} (F:Fun K x qual st f fd) (S:FnScope N ps (defScope st)) (len:∀ vs H Q E,sp vs H Q E→vs.length=ps.length)
 (hbody:∀ (cdv:Value) (A:Around) (outer:List Env) (s:Shared) (H:Hp) (vs:List V) (Q:VK) (E:XK),Room k (A.deeper (envOfC qual (defScope st) s.heap.objs.size f cdv))→sp vs H Q E →
  ∃ t,PSs (cxOf CX0 P w K mg base N qual (defScope st) f cdv A outer s H E).nox (defBody st) t∧t { nx:=fun _ H'=>Q .non H',rt:=Q } (tP N vs) H):FnOk P w K mg base CX0 (k+1) f fd ps sp:=by
 obtain ⟨oc,od,kV,doc,pm,an,cdv,ct,osl,rfl,lk,hcd⟩:=F.ex
 refine fn_of lk hcd S len fun A outer s H vs Q E hr hsp => ?_
 obtain ⟨t,h,q⟩:=hbody cdv A outer s H vs Q E hr hsp
 exact ⟨t,h.nox,q⟩
theorem Fun.binds {x qual:Str} {st:Stmt} {f:Addr} {fd:FuncData} {ps:List Str} (F:Fun K x qual st f fd)
 (h:∀ (kV doc pm:Value) (an:Option Addr) (cdv ct:Value) (us:List Value),us.length=ps.length→bindArgs (PySem.W.fnOf x qual (defArgs st) (defBody st) (defScope st) .none kV doc pm an cdv ct) ⟨us,[]⟩=pure (ps.zip us)):Binds K fd ps []:=by
 obtain ⟨oc,od,kV,doc,pm,an,cdv,ct,osl,rfl,lk,hcd⟩:=F.ex
 exact .all (h kV doc pm an cdv ct)
theorem z8 {x qual:Str} {st:Stmt} {f:Addr} {oc:Value} {od an:Option Addr} {osl:Array (Option Value)} {kV doc pm cdv ct:Value} (l:K.lookup f=some ⟨oc,od,.func (PySem.W.fnOf x qual (defArgs st) (defBody st) (defScope st) .none kV doc pm an cdv ct),osl⟩)
 (c:PySem.W.codeIn K cdv qual=true) (k:PySem.W.keepIn K (.ref f)=true):Fun K x qual st f (PySem.W.fnOf x qual (defArgs st) (defBody st) (defScope st) .none kV doc pm an cdv ct):=⟨⟨oc,od,kV,doc,pm,an,cdv,ct,osl,rfl,l,c⟩,k⟩
end
section
variable {X:Cx}
theorem pv (i:Nat) {x:Str} {pos:Pos} (hN:X.N[i]?=some x:=by rfl) (hv:Vis X.env.scope x:=by first | exact Or.inl rfl | exact Or.inr (Or.inl rfl) | exact Or.inr (Or.inr rfl)) (hd:(x == ("__debug__" : Str))=false:=by decide)
 (hcd:(x == ("__classdict__" : Str))=false:=by decide):PE X (.Name x pos) (tVar i):=zkR hN hv hd hcd
end
theorem iteF {A B:Prop} (h:B):if false=true then A else B:=by
 rw [if_neg Bool.false_ne_true]
 exact h
theorem iteT {A B:Prop} (h:A):if true=true then A else B:=by
 rw [if_pos rfl]
 exact h
noncomputable def Same (H H':Hp):Prop:=∀ b o,H b=some o→H' b=some o
theorem Same.refl (H:Hp):Same H H:=fun _ _ h=>h
theorem Same.trans {H H1 H2:Hp} (a:Same H H1) (b:Same H1 H2):Same H H2:=fun c o h=>b c o (a c o h)
theorem Same.free {H H':Hp} (e:Same H H') {l:Addr} (h:H' l=Option.none):H l=Option.none:=by
 cases q:H l with
 | none=>rfl
 | some o =>
   rw [e l o q] at h
   cases h
theorem Same.seq {K:PySem.W.Frag} {H H':Hp} {a:Addr} {xs:List V} (e:Same H H') (h:SqL K H a xs):SqL K H' a xs:=by
 rcases h with (h | ⟨o,h⟩) | h
 ·exact .inl (.inl (e _ _ h))
 ·exact .inl (.inr ⟨o,e _ _ h⟩)
 ·exact .inr h
end L2
set_option maxHeartbeats 4000000
namespace DL
open PySem PySem.Spec PyProof.Rows L2
noncomputable abbrev St:=L2.St
inductive D where
 | non
 | bl (b:Bool)
 | int (i:Int)
 | tup (ds:List D)
 | lst (ds:List D)
 | scr (ns:List Int)
 | exc (c:Str) (p:Option Int)
inductive Out (α:Type) where
 | bad
 | ok (a:α)
 | exc (c:Str) (p:Option Int)
noncomputable def Out.bind {α β:Type} (x:Out α) (f:α→Out β):Out β :=
 match x with
 | .bad=>.bad
 | .ok a=>f a
 | .exc c p=>.exc c p
@[simp] theorem zm {α β:Type} (a:α) (f:α→Out β):(Out.ok a).bind f=f a:=rfl
@[simp] theorem bind_bad {α β:Type} (f:α→Out β):(Out.bad:Out α).bind f=.bad:=rfl
@[simp] theorem bind_exc {α β:Type} (c:Str) (p:Option Int) (f:α→Out β):(Out.exc c p:Out α).bind f=.exc c p:=rfl
theorem zq {α β:Type} {x:Out α} {f:α→Out β} {b:β} (h:x.bind f=.ok b):∃ a,x=.ok a∧f a=.ok b:=by
 cases x with
 | bad=>cases h
 | ok a=>exact ⟨a,rfl,h⟩
 | exc c p=>cases h
inductive Val where
 | pers (d:D)
 | fresh (ds:List D)
 | brw (i:Nat) (ds:List D)
@[simp] noncomputable def Val.d:Val→D
  | .pers d=>d
  | .fresh ds=>.lst ds
  | .brw _ ds=>.lst ds
@[simp] noncomputable def Val.hold:Val→Out D
  | .pers d=>.ok d
  | .fresh ds=>.ok (.lst ds)
  | .brw _ _=>.bad
inductive Slot where
 | un
 | pers (d:D)
 | own (ds:List D)
noncomputable abbrev Ev:=List Slot
noncomputable abbrev FE:=Ev→Out Val
noncomputable abbrev FT:=Ev→Out Bool
inductive Res where
 | next (env:Ev)
 | ret (v:Val)
noncomputable abbrev FS:=Ev→Out Res
mutual
noncomputable def Rep (K:PySem.W.Frag) (G:Hp):D→V→Prop
 | .non,v=>v=.non
 | .bl b,v=>v=.bl b
 | .int i,v=>v=.int i
 | .tup ds,v=>∃ a vs,v=.ref a∧G a=some (.tup vs)∧RepL K G ds vs
 | .lst ds,v=>∃ a vs,v=.ref a∧G a=some (.lst vs)∧RepL K G ds vs
 | .scr ns,v=>∃ a,v=.ref a∧SqL K G a (ns.map V.int)
 | .exc _ _,_=>False
noncomputable def RepL (K:PySem.W.Frag) (G:Hp):List D→List V→Prop
 | [],vs=>vs=[]
 | d::ds,vs=>∃ v r,vs=v::r∧Rep K G d v∧RepL K G ds r
end
section
variable {K:PySem.W.Frag} {G G':Hp}
mutual
theorem Rep.mono (s:Same G G'):∀ {d:D} {v:V},Rep K G d v→Rep K G' d v
 | .non,_,h=>h
 | .bl _,_,h=>h
 | .int _,_,h=>h
 | .tup ds,v,h=>by
   obtain ⟨a,vs,e,g,r⟩:=h
   exact ⟨a,vs,e,s _ _ g,RepL.mono s r⟩
 | .lst ds,v,h=>by
   obtain ⟨a,vs,e,g,r⟩:=h
   exact ⟨a,vs,e,s _ _ g,RepL.mono s r⟩
 | .scr ns,v,h=>by
   obtain ⟨a,e,g⟩:=h
   exact ⟨a,e,s.seq g⟩
 | .exc _ _,_,h=>h
theorem RepL.mono (s:Same G G'):∀ {ds:List D} {vs:List V},RepL K G ds vs→RepL K G' ds vs
 | [],_,h=>h
 | d::ds,vs,h=>by
   obtain ⟨v,r,e,h1,h2⟩:=h
   exact ⟨v,r,e,Rep.mono s h1,RepL.mono s h2⟩
end
theorem RepL.nil:RepL K G [] []:=rfl
theorem RepL.cons {d:D} {v:V} {ds:List D} {vs:List V} (h:Rep K G d v) (r:RepL K G ds vs):RepL K G (d::ds) (v::vs):=⟨v,vs,rfl,h,r⟩
theorem RepL.length:∀ {ds:List D} {vs:List V},RepL K G ds vs→ds.length=vs.length
 | [],_,h=>by cases (show _=[] from h); rfl
 | d::ds,vs,h=>by
   obtain ⟨v,r,rfl,_,h2⟩:=h
   simp [RepL.length h2]
theorem RepL.get:∀ {ds:List D} {vs:List V} {i:Nat} {d:D},RepL K G ds vs→ds[i]?=some d→∃ v,vs[i]?=some v∧Rep K G d v
 | [],_,i,d,h,e=>by simp at e
 | d'::ds,vs,0,d,h,e=>by
   obtain ⟨v,r,rfl,h1,h2⟩:=h
   simp at e
   subst e
   exact ⟨v,rfl,h1⟩
 | d'::ds,vs,i+1,d,h,e=>by
   obtain ⟨v,r,rfl,h1,h2⟩:=h
   obtain ⟨u,h3,h4⟩:=RepL.get (i:=i) h2 (by simpa using e)
   exact ⟨u,by simpa using h3,h4⟩
theorem RepL.get':∀ {ds:List D} {vs:List V} {i:Nat} {v:V},RepL K G ds vs→vs[i]?=some v→∃ d,ds[i]?=some d∧Rep K G d v
 | [],_,i,d,h,e=>by cases (show _=[] from h); simp at e
 | d'::ds,vs,0,d,h,e=>by
   obtain ⟨v,r,rfl,h1,h2⟩:=h
   simp at e
   subst e
   exact ⟨d',rfl,h1⟩
 | d'::ds,vs,i+1,d,h,e=>by
   obtain ⟨v,r,rfl,h1,h2⟩:=h
   obtain ⟨u,h3,h4⟩:=RepL.get' (i:=i) h2 (by simpa using e)
   exact ⟨u,by simpa using h3,h4⟩
theorem RepL.append:∀ {ds es:List D} {vs us:List V},RepL K G ds vs→RepL K G es us→RepL K G (ds++es) (vs++us)
 | [],es,vs,us,h,h'=>by cases (show _=[] from h); exact h'
 | d::ds,es,vs,us,h,h'=>by
   obtain ⟨v,r,rfl,h1,h2⟩:=h
   exact ⟨v,r++us,rfl,h1,RepL.append h2 h'⟩
theorem RepL.take:∀ {ds:List D} {vs:List V} (n:Nat),RepL K G ds vs→RepL K G (ds.take n) (vs.take n)
 | ds,vs,0,h=>by simp only [List.take_zero]; exact rfl
 | [],vs,n+1,h=>by cases (show _=[] from h); exact rfl
 | d::ds,vs,n+1,h=>by
   obtain ⟨v,r,rfl,h1,h2⟩:=h
   exact ⟨v,r.take n,rfl,h1,RepL.take n h2⟩
theorem RepL.drop:∀ {ds:List D} {vs:List V} (n:Nat),RepL K G ds vs→RepL K G (ds.drop n) (vs.drop n)
 | ds,vs,0,h=>by simpa using h
 | [],vs,n+1,h=>by cases (show _=[] from h); exact rfl
 | d::ds,vs,n+1,h=>by
   obtain ⟨v,r,rfl,h1,h2⟩:=h
   exact RepL.drop n h2
theorem RepL.reverse {ds:List D}:∀ {vs:List V},RepL K G ds vs→RepL K G ds.reverse vs.reverse:=by
 induction ds with
 | nil=>intro vs h; cases (show _=[] from h); exact rfl
 | cons d ds ih =>
   intro vs h
   obtain ⟨v,r,rfl,h1,h2⟩:=h
   rw [List.reverse_cons,List.reverse_cons]
   exact RepL.append (ih h2) (RepL.cons h1 RepL.nil)
theorem RepL.dropLast {ds:List D} {vs:List V} (h:RepL K G ds vs):RepL K G ds.dropLast vs.dropLast:=by
 rw [List.dropLast_eq_take,List.dropLast_eq_take,←h.length]
 exact h.take _
theorem RepL.set {d:D} {v:V} (hd:Rep K G d v):∀ {ds:List D} {vs:List V} (i:Nat),RepL K G ds vs→RepL K G (ds.set i d) (vs.set i v)
 | [],vs,i,h=>by cases (show _=[] from h); exact rfl
 | d'::ds,vs,0,h=>by
   obtain ⟨u,r,rfl,h1,h2⟩:=h
   exact ⟨v,r,rfl,hd,h2⟩
 | d'::ds,vs,i+1,h=>by
   obtain ⟨u,r,rfl,h1,h2⟩:=h
   exact ⟨u,r.set i v,rfl,h1,RepL.set hd i h2⟩
theorem RepL.ints:∀ (ns:List Int),RepL K G (ns.map D.int) (ns.map V.int)
 | []=>rfl
 | n::ns=>⟨.int n,ns.map V.int,rfl,rfl,RepL.ints ns⟩
end
structure Grow (G H G' H':Hp):Prop where
 g:Same G G'
 h:Same H H'
 n:∀ b,H b≠none→G b=none→G' b=none
theorem Grow.refl (G H:Hp):Grow G H G H:=⟨Same.refl _,Same.refl _,fun _ _ h=>h⟩
theorem Same.some_of {H H':Hp} (s:Same H H') {b:Addr} (h:H b≠none):H' b≠none:=by
 cases q:H b with
 | none=>exact absurd q h
 | some o=>rw [s b o q]; simp
theorem Grow.trans {G H G1 H1 G2 H2:Hp} (a:Grow G H G1 H1) (b:Grow G1 H1 G2 H2):Grow G H G2 H2 :=
 ⟨a.g.trans b.g,a.h.trans b.h,fun c h1 h2=>b.n c (Same.some_of a.h h1) (a.n c h1 h2)⟩
theorem uR {H H':Hp} (s:Same H H') {b:Addr} (h:H' b=none):H b=none:=s.free h
structure SlotOwn (K:PySem.W.Frag) (H₀:Hp) (σ:St) (G H:Hp) (i:Nat) (ds:List D) (a:Addr) (vs:List V):Prop where
 at_:σ[i]?=some (some (.ref a))
 hp:H a=some (.lst vs)
 gn:G a=none
 new:H₀ a=none
 rep:RepL K G ds vs
noncomputable def SlotOk (K:PySem.W.Frag) (H₀:Hp) (σ:St) (G H:Hp) (i:Nat):Slot→Prop
 | .un=>True
 | .pers d=>∃ v,σ[i]?=some (some v)∧Rep K G d v
 | .own ds=>∃ a vs,SlotOwn K H₀ σ G H i ds a vs
structure DI (K:PySem.W.Frag) (G₀ H₀:Hp) (env:Ev) (σ:St) (G H:Hp):Prop where
 le:Same G H
 gr:Grow G₀ H₀ G H
 len:env.length=σ.length
 slot:∀ (i:Nat) (s:Slot),env[i]?=some s→SlotOk K H₀ σ G H i s
 apart:∀ (i j:Nat) (ds es:List D) (a:Addr),i≠j→env[i]?=some (.own ds)→env[j]?=some (.own es)→σ[i]?=some (some (.ref a))→σ[j]?≠some (some (.ref a))
section
variable {K:PySem.W.Frag} {G₀ H₀ G H G' H':Hp} {env:Ev} {σ:St}
theorem DI.grow (I:DI K G₀ H₀ env σ G H) (g:Grow G H G' H') (l:Same G' H'):DI K G₀ H₀ env σ G' H' where
 le:=l
 gr:=I.gr.trans g
 len:=I.len
 slot:=fun i s e=>by
  have q:=I.slot i s e
  cases s with
  | un=>trivial
  | pers d=>obtain ⟨v,h1,h2⟩:=q; exact ⟨v,h1,h2.mono g.g⟩
  | own ds =>
    obtain ⟨a,vs,o⟩:=q
    exact ⟨a,vs,o.at_,g.h _ _ o.hp,g.n a (by rw [o.hp]; simp) o.gn,o.new,o.rep.mono g.g⟩
 apart:=I.apart
theorem DI.own (I:DI K G₀ H₀ env σ G H) {i:Nat} {ds:List D} (e:env[i]?=some (.own ds)):∃ a vs,SlotOwn K H₀ σ G H i ds a vs:=I.slot i _ e
theorem DI.pers (I:DI K G₀ H₀ env σ G H) {i:Nat} {d:D} (e:env[i]?=some (.pers d)):∃ v,σ[i]?=some (some v)∧Rep K G d v:=I.slot i _ e
end
noncomputable def uf (K:PySem.W.Frag) (H:Hp) (env:Ev) (σ:St) (G' H':Hp) (v:V):Val→Prop
 | .pers d=>Rep K G' d v
 | .fresh ds=>∃ a vs,v=.ref a∧H a=none∧H' a=some (.lst vs)∧G' a=none∧RepL K G' ds vs
 | .brw i ds=>∃ a,v=.ref a∧env[i]?=some (.own ds)∧σ[i]?=some (some (.ref a))
theorem uf.base {K:PySem.W.Frag} {H H1:Hp} {env:Ev} {σ:St} {G' H':Hp} {v:V} {val:Val} (s:Same H H1) (h:uf K H1 env σ G' H' v val):uf K H env σ G' H' v val:=by
 cases val with
 | pers d=>exact h
 | fresh ds =>
   obtain ⟨a,vs,e,h1,h2,h3,h4⟩:=h
   exact ⟨a,vs,e,s.free h1,h2,h3,h4⟩
 | brw i ds=>exact h
noncomputable def Opd (K:PySem.W.Frag) (env:Ev) (σ:St) (G:Hp) (v:V) (d:D):Prop :=
 Rep K G d v∨∃ (i:Nat) (ds:List D) (a:Addr),d=.lst ds∧v=.ref a∧env[i]?=some (.own ds)∧σ[i]?=some (some (.ref a))
theorem Opd.mono {K:PySem.W.Frag} {env:Ev} {σ:St} {G G':Hp} {v:V} {d:D} (h:Opd K env σ G v d) (s:Same G G'):Opd K env σ G' v d :=
 h.elim (fun x=>.inl (x.mono s)) .inr
section
variable {K:PySem.W.Frag} {G₀ H₀ G H G' H':Hp} {env:Ev} {σ:St} {v:V}
theorem Opd.lst {ds:List D} (I:DI K G₀ H₀ env σ G H) (h:Opd K env σ G v (.lst ds)):∃ a vs,v=.ref a∧H a=some (.lst vs)∧RepL K G ds vs:=by
 rcases h with h | ⟨i,es,a,e1,e2,e3,e4⟩
 ·obtain ⟨a,vs,e,g,r⟩:=h
  exact ⟨a,vs,e,I.le _ _ g,r⟩
 ·cases e1
  obtain ⟨b,vs,o⟩:=I.own e3
  have q:=o.at_
  rw [e4] at q
  cases q
  exact ⟨a,vs,e2,o.hp,o.rep⟩
theorem Opd.tup {ds:List D} (I:DI K G₀ H₀ env σ G H) (h:Opd K env σ G v (.tup ds)):∃ a vs,v=.ref a∧H a=some (.tup vs)∧RepL K G ds vs:=by
 rcases h with h | ⟨i,es,a,e1,e2,e3,e4⟩
 ·obtain ⟨a,vs,e,g,r⟩:=h
  exact ⟨a,vs,e,I.le _ _ g,r⟩
 ·cases e1
theorem Opd.int {i:Int} (h:Opd K env σ G v (.int i)):v=.int i:=by
 rcases h with h | ⟨_,_,_,e,_⟩
 ·exact h
 ·cases e
theorem Opd.bl {b:Bool} (h:Opd K env σ G v (.bl b)):v=.bl b:=by
 rcases h with h | ⟨_,_,_,e,_⟩
 ·exact h
 ·cases e
theorem Opd.non (h:Opd K env σ G v .non):v=.non:=by
 rcases h with h | ⟨_,_,_,e,_⟩
 ·exact h
 ·cases e
theorem Opd.scr {ns:List Int} (I:DI K G₀ H₀ env σ G H) (h:Opd K env σ G v (.scr ns)):∃ a,v=.ref a∧SqL K H a (ns.map V.int):=by
 rcases h with h | ⟨_,_,_,e,_⟩
 ·obtain ⟨a,e,q⟩:=h
  exact ⟨a,e,I.le.seq q⟩
 ·cases e
theorem opd {val:Val} (g:Grow G H G' H') (l:Same G' H') (h:uf K H env σ G' H' v val):∃ G'',Grow G H G'' H'∧Same G'' H'∧Opd K env σ G'' v val.d:=by
 cases val with
 | pers d=>exact ⟨G',g,l,.inl h⟩
 | brw i ds =>
   obtain ⟨a,e1,e2,e3⟩:=h
   exact ⟨G',g,l,.inr ⟨i,ds,a,rfl,e1,e2,e3⟩⟩
 | fresh ds =>
   obtain ⟨a,vs,e,h1,h2,h3,h4⟩:=h
   have s':Same G' (upd G' a (.lst vs)):=fun b o q=>by rw [zJ (zH q h3)]; exact q
   refine ⟨upd G' a (.lst vs),⟨g.g.trans s',g.h,fun b q1 q2 => ?_⟩,fun b o q => ?_,.inl ⟨a,vs,e,zX,h4.mono s'⟩⟩
   ·have hb:b≠a:=fun z=>q1 (z ▸ h1)
    rw [zJ hb]
    exact g.n b q1 q2
   ·by_cases hb:b=a
    ·subst hb; rw [zX] at q; cases q; exact h2
    ·rw [zJ hb] at q; exact l b o q
theorem held {val:Val} {d:D} (g:Grow G H G' H') (l:Same G' H') (h:uf K H env σ G' H' v val) (e:val.hold=.ok d):∃ G'',Grow G H G'' H'∧Same G'' H'∧Rep K G'' d v:=by
 obtain ⟨G2,g2,l2,o⟩:=opd g l h
 cases val with
 | pers d'=>cases e; exact ⟨G',g,l,h⟩
 | brw i ds=>cases e
 | fresh ds =>
   cases e
   rcases o with o | ⟨i,es,a,e1,e2,e3,e4⟩
   ·exact ⟨G2,g2,l2,o⟩
   ·obtain ⟨a',vs,e,h1,h2,h3,h4⟩:=h
    have s':Same G' (upd G' a' (.lst vs)):=fun b o q=>by rw [zJ (zH q h3)]; exact q
    refine ⟨upd G' a' (.lst vs),⟨g.g.trans s',g.h,fun b q1 q2 => ?_⟩,fun b o q => ?_,⟨a',vs,e,zX,h4.mono s'⟩⟩
    ·have hb:b≠a':=fun z=>q1 (z ▸ h1)
     rw [zJ hb]
     exact g.n b q1 q2
    ·by_cases hb:b=a'
     ·subst hb; rw [zX] at q; cases q; exact h2
     ·rw [zJ hb] at q; exact l b o q
theorem Grow.laidT {p:Addr} {o:HO} (l:Same G H) (hp:H p=none):Grow G H (upd G p o) (upd H p o)∧Same (upd G p o) (upd H p o):=by
 have gp:=l.free hp
 refine ⟨⟨fun b u q=>by rw [zJ (zH q gp)]; exact q,fun b u q=>by rw [zJ (zH q hp)]; exact q,fun b h1 h2 => ?_⟩,fun b u q => ?_⟩
 ·have hb:b≠p:=fun z=>h1 (z ▸ hp)
  rw [zJ hb]; exact h2
 ·by_cases hb:b=p
  ·subst hb; rw [zX] at q ⊢; exact q
  ·rw [zJ hb] at q ⊢; exact l b u q
theorem Grow.laidL {p:Addr} {o:HO} (l:Same G H) (hp:H p=none):Grow G H G (upd H p o)∧Same G (upd H p o) :=
 ⟨⟨Same.refl _,fun b u q=>by rw [zJ (zH q hp)]; exact q,fun _ _ h=>h⟩,fun b u q=>by rw [zJ (zH q (l.free hp))]; exact l b u q⟩
theorem vE {p:Addr} {ds:List D} {vs:List V} {G1 H1:Hp} (l:Same G1 H1) (hp:H1 p=none) (r:RepL K G1 ds vs):uf K H1 env σ G1 (upd H1 p (.lst vs)) (.ref p) (.fresh ds) :=
 ⟨p,vs,rfl,hp,zX,l.free hp,r⟩
theorem ziz {p:Addr} {ds:List D} {vs:List V} {G1 H1:Hp} (l:Same G1 H1) (hp:H1 p=none) (r:RepL K G1 ds vs):uf K H1 env σ (upd G1 p (.tup vs)) (upd H1 p (.tup vs)) (.ref p) (.pers (.tup ds)):=by
 have gp:=l.free hp
 exact ⟨p,vs,rfl,zX,r.mono fun b u q=>by rw [zJ (zH q gp)]; exact q⟩
end
section
variable (K:PySem.W.Frag) (G₀ H₀:Hp)
noncomputable def tE (f:FE):TE:=fun σ H Q=>∃ env G val,DI K G₀ H₀ env σ G H∧f env=.ok val ∧
 ∀ v G' H',Grow G H G' H'→Same G' H'→uf K H env σ G' H' v val→Q v H'
noncomputable def tT (f:FT):TT:=fun σ H Q=>∃ env G b,DI K G₀ H₀ env σ G H∧f env=.ok b∧∀ G' H',Grow G H G' H'→Same G' H'→Q b H'
noncomputable def zd1 (env:Ev) (σ:St) (G:Hp) (v:V):Val→Prop
 | .pers d=>Rep K G d v
 | .fresh _=>False
 | .brw i ds=>∃ a,v=.ref a∧env[i]?=some (.own ds)∧σ[i]?=some (some (.ref a))
noncomputable def zaL (env:Ev) (σ:St) (G:Hp):List V→List Val→Prop
 | [],vals=>vals=[]
 | v::vs,vals=>∃ x r,vals=x::r∧zd1 K env σ G v x∧zaL env σ G vs r
noncomputable def tA (f:Ev→Out (List Val)):TA:=fun σ H Q=>∃ env G vals,DI K G₀ H₀ env σ G H∧f env=.ok vals ∧
 ∀ vs G' H',Grow G H G' H'→Same G' H'→zaL K env σ G' vs vals→Q vs H'
noncomputable def tH (f:Ev→Out (List D)):TA:=fun σ H Q=>∃ env G ds,DI K G₀ H₀ env σ G H∧f env=.ok ds ∧
 ∀ vs G' H',Grow G H G' H'→Same G' H'→RepL K G' ds vs→Q vs H'
noncomputable def zaS (G:Hp) (D:Ends):Res→Prop
 | .next env'=>∀ σ' G' H',Same G G'→DI K G₀ H₀ env' σ' G' H'→D.nx σ' H'
 | .ret val=>∀ v G' H',Grow G₀ H₀ G' H'→Same G' H'→uf K H₀ [] [] G' H' v val→D.rt v H'
noncomputable def tS (f:FS):TS:=fun D σ H=>∃ env G r,DI K G₀ H₀ env σ G H∧f env=.ok r∧zaS K G₀ H₀ G D r
end
noncomputable def DE (X:Cx) (G₀ H₀:Hp) (e:Expr) (f:FE):Prop:=PE X e (tE X.K G₀ H₀ f)
noncomputable def DT (X:Cx) (G₀ H₀:Hp) (e:Expr) (f:FT):Prop:=PT X e (tT X.K G₀ H₀ f)
noncomputable def DW (X:Cx) (G₀ H₀:Hp) (e:Expr) (f:FT):Prop:=PW X e (tT X.K G₀ H₀ f)
noncomputable def DA (X:Cx) (G₀ H₀:Hp) (es:List Expr) (f:Ev→Out (List Val)):Prop:=PA X es (tA X.K G₀ H₀ f)
noncomputable def DH (X:Cx) (G₀ H₀:Hp) (es:List Expr) (f:Ev→Out (List D)):Prop:=PA X es (tH X.K G₀ H₀ f)
noncomputable def DS (X:Cx) (G₀ H₀:Hp) (st:Stmt) (f:FS):Prop:=PS X st (tS X.K G₀ H₀ f)
noncomputable def DSs (X:Cx) (G₀ H₀:Hp) (st:List Stmt) (f:FS):Prop:=PSs X st (tS X.K G₀ H₀ f)
theorem _root_.L2.PE.imp {X:Cx} {e:Expr} {t t':TE} (h:PE X e t) (i:∀ σ H Q,t' σ H Q→t σ H Q):PE X e t':=fun pins s σ H Q I q=>h pins s σ H Q I (i σ H Q q)
theorem _root_.L2.PT.imp {X:Cx} {e:Expr} {t t':TT} (h:PT X e t) (i:∀ σ H Q,t' σ H Q→t σ H Q):PT X e t':=fun pins s σ H Q I q=>h pins s σ H Q I (i σ H Q q)
theorem _root_.L2.PW.imp {X:Cx} {e:Expr} {t t':TT} (h:PW X e t) (i:∀ σ H Q,t' σ H Q→t σ H Q):PW X e t':=fun wh pins s σ H Q I q=>h wh pins s σ H Q I (i σ H Q q)
theorem _root_.L2.PA.imp {X:Cx} {e:List Expr} {t t':TA} (h:PA X e t) (i:∀ σ H Q,t' σ H Q→t σ H Q):PA X e t':=fun pos pins s σ H Q I q=>h pos pins s σ H Q I (i σ H Q q)
theorem _root_.L2.PS.imp {X:Cx} {e:Stmt} {t t':TS} (h:PS X e t) (i:∀ D σ H,t' D σ H→t D σ H):PS X e t':=fun pins s σ H D I q=>h pins s σ H D I (i D σ H q)
theorem _root_.L2.PSs.imp {X:Cx} {e:List Stmt} {t t':TS} (h:PSs X e t) (i:∀ D σ H,t' D σ H→t D σ H):PSs X e t':=fun pins s σ H D I q=>h pins s σ H D I (i D σ H q)
section
variable {K:PySem.W.Frag} {G₀ H₀ G H:Hp} {env:Ev} {σ:St}
theorem x8 {f:FE} {x:Val} {P:V→Hp→Prop} (I:DI K G₀ H₀ env σ G H) (e:f env=.ok x)
 (k:∀ v G' H',Grow G H G' H'→Same G' H'→DI K G₀ H₀ env σ G' H'→Opd K env σ G' v x.d→P v H'):tE K G₀ H₀ f σ H P :=
 ⟨env,G,x,I,e,fun v G' H' g l h=>by
  obtain ⟨G2,g2,l2,o⟩:=opd g l h
  exact k v G2 H' g2 l2 (I.grow g2 l2) o⟩
theorem ziE {f g:FE} {x y:Val} {P:V→V→Hp→Prop} (I:DI K G₀ H₀ env σ G H) (e:f env=.ok x) (e':g env=.ok y)
 (k:∀ v u G' H',Grow G H G' H'→Same G' H'→DI K G₀ H₀ env σ G' H'→Opd K env σ G' v x.d→Opd K env σ G' u y.d→P v u H') :
 tE K G₀ H₀ f σ H fun v H1=>tE K G₀ H₀ g σ H1 fun u H2=>P v u H2 :=
 x8 I e fun v G1 H1 g1 l1 I1 o1=>x8 I1 e' fun u G2 H2 g2 l2 I2 o2=>k v u G2 H2 (g1.trans g2) l2 I2 (o1.mono g2.g) o2
end
@[simp] noncomputable def fVar (i:Nat):FE:=fun env=>match env[i]? with
  | some (.pers d)=>.ok (.pers d)
  | some (.own ds)=>.ok (.brw i ds)
  | _=>.bad
@[simp] noncomputable def fC (d:D):FE:=fun _=>.ok (.pers d)
section
variable {X:Cx} {G₀ H₀:Hp} {pos:Pos}
theorem zd {i:Nat} {x:Str} (h:PE X (.Name x pos) (tVar i)):DE X G₀ H₀ (.Name x pos) (fVar i):=h.imp fun σ H Q q=>by
 obtain ⟨env,G,val,I,e,k⟩:=q
 unfold fVar at e
 cases q:env[i]? with
 | none=>rw [q] at e; cases e
 | some s =>
   rw [q] at e
   cases s with
   | un=>cases e
   | pers d =>
     cases e
     obtain ⟨v,h1,h2⟩:=I.pers q
     exact ⟨v,h1,k v G H (Grow.refl _ _) I.le h2⟩
   | own ds =>
     cases e
     obtain ⟨a,vs,o⟩:=I.own q
     exact ⟨.ref a,o.at_,k _ G H (Grow.refl _ _) I.le ⟨a,rfl,q,o.at_⟩⟩
theorem de_c {e:Expr} {v:V} {d:D} (h:PE X e (tC v)) (r:∀ G,Rep X.K G d v):DE X G₀ H₀ e (fC d):=h.imp fun σ H Q q=>by
 obtain ⟨env,G,val,I,e,k⟩:=q
 cases e
 exact k v G H (Grow.refl _ _) I.le (r G)
theorem zh {i j}:DE X G₀ H₀ (.Constant (.int i) j pos) (fC (.int i)):=de_c zkY fun _=>rfl
theorem uF {b j}:DE X G₀ H₀ (.Constant (.bool b) j pos) (fC (.bl b)):=de_c pe_bl fun _=>rfl
theorem yQ {j}:DE X G₀ H₀ (.Constant .none j pos) (fC .non):=de_c zkW fun _=>rfl
end
@[simp] noncomputable def f2 (g:D→D→Out Val) (fa fb:FE):FE:=fun env=>(fa env).bind fun x=>(fb env).bind fun y=>g x.d y.d
@[simp] noncomputable def f1 (g:D→Out Val) (fa:FE):FE:=fun env=>(fa env).bind fun x=>g x.d
noncomputable def OpD (K:PySem.W.Frag) (r:R2) (g:D→D→Out Val):Prop :=
 ∀ (G₀ H₀:Hp) (env:Ev) (σ:St) (G H:Hp) (v u:V) (d1 d2:D) (val:Val) (Q:VK),DI K G₀ H₀ env σ G H→Opd K env σ G v d1→Opd K env σ G u d2→g d1 d2=.ok val →
   (∀ w G' H',Grow G H G' H'→Same G' H'→uf K H env σ G' H' w val→Q w H')→r v u H Q
noncomputable def UnD (K:PySem.W.Frag) (r:V→Hp→VK→Prop) (g:D→Out Val):Prop :=
 ∀ (G₀ H₀:Hp) (env:Ev) (σ:St) (G H:Hp) (v:V) (d1:D) (val:Val) (Q:VK),DI K G₀ H₀ env σ G H→Opd K env σ G v d1→g d1=.ok val →
   (∀ w G' H',Grow G H G' H'→Same G' H'→uf K H env σ G' H' w val→Q w H')→r v H Q
section
variable {X:Cx} {G₀ H₀:Hp} {pos:Pos} {a b:Expr} {fa fb:FE}
theorem imp2 {r:R2} {g:D→D→Out Val} (hd:OpD X.K r g) (σ:St) (H:Hp) (Q:VK) (q:tE X.K G₀ H₀ (f2 g fa fb) σ H Q):tOp r (tE X.K G₀ H₀ fa) (tE X.K G₀ H₀ fb) σ H Q:=by
 obtain ⟨env,G,val,I,e,k⟩:=q
 obtain ⟨x,e1,e⟩:=zq e
 obtain ⟨y,e2,e⟩:=zq e
 exact ziE I e1 e2 fun v u G' H' g1 l1 I1 o1 o2=>hd G₀ H₀ env σ G' H' v u _ _ val Q I1 o1 o2 e fun w G2 H2 g2 l2 h2=>k w G2 H2 (g1.trans g2) l2 (h2.base g1.h)
theorem imp1 {r:V→Hp→VK→Prop} {g:D→Out Val} (hd:UnD X.K r g) (σ:St) (H:Hp) (Q:VK) (q:tE X.K G₀ H₀ (f1 g fa) σ H Q):tUn r (tE X.K G₀ H₀ fa) σ H Q:=by
 obtain ⟨env,G,val,I,e,k⟩:=q
 obtain ⟨x,e1,e⟩:=zq e
 exact x8 I e1 fun v G' H' g1 l1 I1 o1=>hd G₀ H₀ env σ G' H' v _ val Q I1 o1 e fun w G2 H2 g2 l2 h2=>k w G2 H2 (g1.trans g2) l2 (h2.base g1.h)
theorem zfu {op:Operator} {r:R2} {g:D→D→Out Val} (ho:OpR X (binaryOp op) r) (hd:OpD X.K r g) (ha:DE X G₀ H₀ a fa) (hb:DE X G₀ H₀ b fb):DE X G₀ H₀ (.BinOp a op b pos) (f2 g fa fb) :=
 (zkT ho ha hb).imp (imp2 hd)
theorem de_un {op:UnaryOp} {r:V→Hp→VK→Prop} {g:D→Out Val} (ho:UnR X (unaryOp op) r) (hd:UnD X.K r g) (ha:DE X G₀ H₀ a fa):DE X G₀ H₀ (.UnaryOp op a pos) (f1 g fa) :=
 (pe_un ho ha).imp (imp1 hd)
theorem zcT {op:CmpOp} {r:R2} {g:D→D→Out Val} (ho:OpR X (compareOp op) r) (hd:OpD X.K r g) (ha:DE X G₀ H₀ a fa) (hb:DE X G₀ H₀ b fb) (hm:behindInMarks op b=false):DE X G₀ H₀ (.Compare a [op] [b] pos) (f2 g fa fb) :=
 (zjz ho ha hb hm).imp (imp2 hd)
theorem de_ix {r:R2} {g:D→D→Out Val} (hr:IxR X r) (hd:OpD X.K r g) (ha:DE X G₀ H₀ a fa) (hb:DE X G₀ H₀ b fb) (hs:zdW b):DE X G₀ H₀ (.Subscript a b pos) (f2 g fa fb) :=
 (pe_ix hr ha hb hs).imp (imp2 hd)
end
@[simp] noncomputable def gI (C:Int→Int→Bool) (g:Int→Int→Int):D→D→Out Val
  | .int i,.int j=>if C i j then .ok (.pers (.int (g i j))) else .bad
  | _,_=>.bad
@[simp] noncomputable def gIB (g:Int→Int→Bool):D→D→Out Val
  | .int i,.int j=>.ok (.pers (.bl (g i j)))
  | _,_=>.bad
section
variable {K:PySem.W.Frag}
theorem zeC {C:Int→Int→Bool} {C':Int→Int→Prop} {g:Int→Int→Int} (hC:∀ i j,C i j=true→C' i j):OpD K (rI C' fun i j=>.int (g i j)) (gI C g):=by
 intro G₀ H₀ env σ G H v u d1 d2 val Q I o1 o2 e k
 unfold gI at e
 split at e
 ·rename_i i j
  split at e
  ·rename_i hc
   cases e
   exact ⟨i,j,o1.int,o2.int,hC i j hc,k _ G H (Grow.refl _ _) I.le rfl⟩
  ·cases e
 ·cases e
theorem zjI {g:Int→Int→Int}:OpD K (rI0 fun i j=>.int (g i j)) (gI (fun _ _=>true) g):=by
 intro G₀ H₀ env σ G H v u d1 d2 val Q I o1 o2 e k
 unfold gI at e
 split at e
 ·rename_i i j
  rw [if_pos rfl] at e
  cases e
  exact ⟨i,j,o1.int,o2.int,k _ G H (Grow.refl _ _) I.le rfl⟩
 ·cases e
theorem wM {g:Int→Int→Bool}:OpD K (rI0 fun i j=>.bl (g i j)) (gIB g):=by
 intro G₀ H₀ env σ G H v u d1 d2 val Q I o1 o2 e k
 unfold gIB at e
 split at e
 ·rename_i i j
  cases e
  exact ⟨i,j,o1.int,o2.int,k _ G H (Grow.refl _ _) I.le rfl⟩
 ·cases e
end
noncomputable def tR (i:Int):Bool:=decide (-(2^64)<i)&&decide (i<2^64)
noncomputable def cMul (i j:Int):Bool:=tR i || tR j
noncomputable def cPow (i j:Int):Bool:=decide (0≤j)&&decide (j≤1000000)&&decide (i.natAbs<2^64)
@[simp] noncomputable def gSub:=gI (fun _ _=>true) (· - ·)
@[simp] noncomputable def gMul:=gI cMul (· * ·)
@[simp] noncomputable def gMod:=gI (fun _ j=>decide (0<j)) (· % ·)
@[simp] noncomputable def gPow:=gI cPow (fun i j=>i^j.toNat)
@[simp] noncomputable def gLt:=gIB fun i j=>decide (i<j)
@[simp] noncomputable def gLe:=gIB fun i j=>decide (i≤j)
@[simp] noncomputable def gGt:=gIB fun i j=>decide (j<i)
@[simp] noncomputable def gGe:=gIB fun i j=>decide (j≤i)
@[simp] noncomputable def gNeg:D→Out Val
  | .int i=>.ok (.pers (.int (-i)))
  | _=>.bad
section
variable {X:Cx} {G₀ H₀:Hp} {pos:Pos} {a b:Expr} {fa fb:FE}
theorem zQ (ha:DE X G₀ H₀ a fa) (hb:DE X G₀ H₀ b fb):DE X G₀ H₀ (.BinOp a .Sub b pos) (f2 gSub fa fb):=zfu zk1 zjI ha hb
theorem yk (ha:DE X G₀ H₀ a fa) (hb:DE X G₀ H₀ b fb):DE X G₀ H₀ (.BinOp a .Mult b pos) (f2 gMul fa fb) :=
 zfu zk4 (zeC fun i j h=>by
  simp only [cMul,tR,Bool.or_eq_true,Bool.and_eq_true,decide_eq_true_eq] at h
  exact h) ha hb
theorem yX (ha:DE X G₀ H₀ a fa) (hb:DE X G₀ H₀ b fb):DE X G₀ H₀ (.BinOp a .Mod b pos) (f2 gMod fa fb):=zfu zk5 (zeC fun i j h=>of_decide_eq_true h) ha hb
theorem zi1 (ha:DE X G₀ H₀ a fa) (hb:DE X G₀ H₀ b fb):DE X G₀ H₀ (.BinOp a .Pow b pos) (f2 gPow fa fb) :=
 zfu zk2 (zeC fun i j h=>by
  simp only [cPow,Bool.and_eq_true,decide_eq_true_eq] at h
  exact ⟨h.1.1,h.1.2,h.2⟩) ha hb
theorem zlH (ha:DE X G₀ H₀ a fa) (hb:DE X G₀ H₀ b fb):DE X G₀ H₀ (.Compare a [.LtE] [b] pos) (f2 gLe fa fb):=zcT zk6 wM ha hb (wa _)
theorem zg9 (ha:DE X G₀ H₀ a fa) (hb:DE X G₀ H₀ b fb):DE X G₀ H₀ (.Compare a [.Gt] [b] pos) (f2 gGt fa fb):=zcT zk7 wM ha hb (wa _)
theorem xO (ha:DE X G₀ H₀ a fa):DE X G₀ H₀ (.UnaryOp .USub a pos) (f1 gNeg fa):=de_un zku (by
 intro G₀ H₀ env σ G H v d1 val Q I o1 e k
 unfold gNeg at e
 split at e
 ·rename_i i
  cases e
  exact ⟨i,o1.int,k _ G H (Grow.refl _ _) I.le rfl⟩
 ·cases e) ha
end
end DL
namespace DL
open PySem PySem.Spec PyProof.Rows L2
noncomputable def cDiv (_ j:Int):Bool:=decide (0<j)&&decide (j<2^250)
theorem zhX {X:Cx}:OpR X (binaryOp .FloorDiv) (rI (fun _ j=>0<j∧j<2^250) fun i j=>.int (i / j)):=opI fun i j t u s Q E hc q=>by
 have hne:j≠0:=by lia
 refine floordiv_int hne ?_ (.inl (PyProof.noPylong_of_log2 ?_))
 ·rw [Int.fdiv_eq_ediv_of_nonneg _ (by lia)]
  exact q
 ·have h1:j.natAbs<2^9000:=Nat.lt_of_lt_of_le (m:=2^250) (by have:=hc.2; lia) (Nat.pow_le_pow_right (by decide) (by decide))
  exact (Nat.log2_lt (by lia)).mpr h1
@[simp] noncomputable def gDiv:=gI cDiv (· / ·)
theorem zha {X:Cx} {G₀ H₀:Hp} {pos:Pos} {a b:Expr} {fa fb:FE} (ha:DE X G₀ H₀ a fa) (hb:DE X G₀ H₀ b fb):DE X G₀ H₀ (.BinOp a .FloorDiv b pos) (f2 gDiv fa fb) :=
 zfu zhX (zeC fun i j h=>by
  simp only [cDiv,Bool.and_eq_true,decide_eq_true_eq] at h
  exact h) ha hb
mutual
noncomputable def toPy:D→PyData
 | .non=>.none
 | .bl b=>.bool b
 | .int i=>.int i
 | .tup ds=>.tuple (xC ds)
 | .lst ds=>.list (xC ds)
 | .scr ns=>.list (ns.map .int)
 | .exc _ _=>.none
noncomputable def xC:List D→List PyData
 | []=>[]
 | d::ds=>toPy d::xC ds
end
noncomputable def eqD (x y:D):Bool:=PyData.eqv (toPy x) (toPy y)
noncomputable def eqDL (xs ys:List D):Bool:=PyData.eqvAll (xC xs) (xC ys)
noncomputable def shal:Nat→D→Bool
 | 0,.tup _=>false
 | 0,.lst _=>false
 | 0,_=>true
 | n+1,.tup ds=>ds.all (shal n)
 | n+1,.lst ds=>ds.all (shal n)
 | _+1,_=>true
theorem zeI:∀ ns:List Int,PyData.canLayAll0 (ns.map .int)=true
 | []=>by simp [PyData.canLayAll0]
 | n::ns=>by simp only [List.map_cons,PyData.canLayAll0,PyData.canLay0,zeI ns,Bool.and_self]
mutual
theorem zaf:∀ d:D,(toPy d).canLay0=true
 | .non=>by simp only [toPy,PyData.canLay0]
 | .bl _=>by simp only [toPy,PyData.canLay0]
 | .int _=>by simp only [toPy,PyData.canLay0]
 | .tup ds=>by simp only [toPy,PyData.canLay0,zag ds]
 | .lst ds=>by simp only [toPy,PyData.canLay0,zag ds]
 | .scr ns=>by simp only [toPy,PyData.canLay0,zeI ns]
 | .exc _ _=>by simp only [toPy,PyData.canLay0]
theorem zag:∀ ds:List D,PyData.canLayAll0 (xC ds)=true
 | []=>by simp only [xC,PyData.canLayAll0]
 | d::ds=>by simp only [xC,PyData.canLayAll0,zaf d,zag ds,Bool.and_self]
end
theorem zbk:∀ ns:List Int,PyData.depthAll (ns.map .int)=0
 | []=>by simp [PyData.depthAll]
 | n::ns=>by simp [PyData.depthAll,PyData.depth,zbk ns]
theorem zay {n:Nat}:∀ ds:List D,(∀ d∈ds,(toPy d).depth≤n)→PyData.depthAll (xC ds)≤n
 | [],_=>by simp [xC,PyData.depthAll]
 | d::ds,h=>by
   simp only [xC,PyData.depthAll]
   exact Nat.max_le.mpr ⟨h d (by simp),zay ds fun x hx=>h x (by simp [hx])⟩
theorem vc:∀ (n:Nat) (d:D),shal n d=true→(toPy d).depth≤n+1
 | n,.non,_=>by simp [toPy,PyData.depth]
 | n,.bl _,_=>by simp [toPy,PyData.depth]
 | n,.int _,_=>by simp [toPy,PyData.depth]
 | n,.scr ns,_=>by simp [toPy,PyData.depth,zbk ns]
 | n,.exc _ _,_=>by simp [toPy,PyData.depth]
 | 0,.tup ds,h=>by simp [shal] at h
 | 0,.lst ds,h=>by simp [shal] at h
 | n+1,.tup ds,h=>by
   simp only [toPy,PyData.depth]
   have:=zay (n:=n+1) ds fun d hd=>vc n d (List.all_eq_true.mp (by simpa [shal] using h) d hd)
   lia
 | n+1,.lst ds,h=>by
   simp only [toPy,PyData.depth]
   have:=zay (n:=n+1) ds fun d hd=>vc n d (List.all_eq_true.mp (by simpa [shal] using h) d hd)
   lia
section
variable {X:Cx} {pins:List (Addr×Obj)} {σ:St} {G H:Hp} {s:Shared}
theorem za2 {h:Heap}:∀ {ns:List Int} {us:List Value},Vals (ns.map V.int) us→∃ as,ReadsAll h us (ns.map .int) as
 | [],us,r=>by cases r; exact ⟨[],.nil⟩
 | n::ns,us,r=>by
   cases r with
   | cons r1 r2 =>
     obtain ⟨t,rfl⟩:=r1
     obtain ⟨as,q⟩:=za2 r2
     exact ⟨_,.cons (.int n t) q⟩
mutual
theorem zes (I:Inv X pins σ H s) (l:Same G H):∀ {d:D} {v:V} {u:Value},Rep X.K G d v→RelV v u→∃ as,Reads s.heap u (toPy d) as
 | .non,v,u,h,r=>by cases (show v=.non from h); cases (show u=.none from r); exact ⟨[],by simp only [toPy]; exact .none⟩
 | .bl b,v,u,h,r=>by cases (show v=.bl b from h); cases (show u=.bool b from r); exact ⟨[],by simp only [toPy]; exact .bool b⟩
 | .int i,v,u,h,r=>by
   cases (show v=.int i from h)
   obtain ⟨t,rfl⟩:=(show ∃ t,u=.int i t from r)
   exact ⟨[],by simp only [toPy]; exact .int i t⟩
 | .tup ds,v,u,h,r=>by
   obtain ⟨a,vs,rfl,g,q⟩:=h
   cases (show u=.ref a from r)
   obtain ⟨_,its,rv,ob,e,c,n,dd⟩:=I.hok a _ (l _ _ g)
   obtain ⟨as,z⟩:=vP I l q rv
   exact ⟨as,by simp only [toPy]; exact .tuple e c dd (by simpa using z)⟩
 | .lst ds,v,u,h,r=>by
   obtain ⟨a,vs,rfl,g,q⟩:=h
   cases (show u=.ref a from r)
   obtain ⟨_,its,n,rv,e⟩:=I.hok a _ (l _ _ g)
   obtain ⟨as,z⟩:=vP I l q rv
   exact ⟨a::as,by simp only [toPy]; exact .list e rfl rfl (by simpa using z)⟩
 | .scr ns,v,u,h,r=>by
   obtain ⟨a,rfl,q⟩:=h
   cases (show u=.ref a from r)
   obtain ⟨its,rv,⟨o,n,e,c,_,dd⟩,_⟩:=I.list (l.seq q)
   obtain ⟨as,z⟩:=za2 (h:=s.heap) rv
   exact ⟨a::as,by simp only [toPy]; exact .list e c dd (by simpa using z)⟩
 | .exc _ _,_,_,h,_=>h.elim
theorem vP (I:Inv X pins σ H s) (l:Same G H):∀ {ds:List D} {vs:List V} {us:List Value},RepL X.K G ds vs→Vals vs us→∃ as,ReadsAll s.heap us (xC ds) as
 | [],vs,us,h,r=>by
   cases (show vs=[] from h)
   cases r
   exact ⟨[],by simp only [xC]; exact .nil⟩
 | d::ds,vs,us,h,r=>by
   obtain ⟨v,vr,rfl,h1,h2⟩:=h
   cases r with
   | cons r1 r2 =>
     obtain ⟨as,q1⟩:=zes I l h1 r1
     obtain ⟨bs,q2⟩:=vP I l h2 r2
     exact ⟨as++bs,by simp only [xC]; exact .cons q1 q2⟩
end
end
noncomputable def RdV (K:PySem.W.Frag) (H:Hp) (v:V) (d:D):Prop:=(∃ G,Same G H∧Rep K G d v)∨∃ a vs G ds,d=.lst ds∧v=.ref a∧H a=some (.lst vs)∧Same G H∧RepL K G ds vs
theorem Opd.rdv {K:PySem.W.Frag} {G₀ H₀ G H:Hp} {env:Ev} {σ:St} {v:V} {d:D} (I:DI K G₀ H₀ env σ G H) (h:Opd K env σ G v d):RdV K H v d:=by
 rcases h with h | ⟨i,ds,a,e1,e2,e3,e4⟩
 ·exact .inl ⟨G,I.le,h⟩
 ·subst e1
  obtain ⟨a',vs,e,h1,h2⟩:=Opd.lst I (.inr ⟨i,ds,a,rfl,e2,e3,e4⟩)
  exact .inr ⟨a',vs,G,ds,rfl,e,h1,I.le,h2⟩
theorem xn {X:Cx} {pins:List (Addr×Obj)} {σ:St} {H:Hp} {s:Shared} {v:V} {u:Value} {d:D} (I:Inv X pins σ H s) (h:RdV X.K H v d) (r:RelV v u):∃ as,Reads s.heap u (toPy d) as:=by
 rcases h with ⟨G,l,h⟩ | ⟨a,vs,G,ds,rfl,rfl,g,l,q⟩
 ·exact zes I l h r
 ·cases (show u=.ref a from r)
  obtain ⟨_,its,n,rv,e⟩:=I.hok a _ g
  obtain ⟨as,z⟩:=vP I l q rv
  exact ⟨a::as,by simp only [toPy]; exact .list e rfl rfl (by simpa using z)⟩
noncomputable def rEqD (K:PySem.W.Frag) (neg:Bool):R2:=fun x y H Q=>∃ d1 d2,RdV K H x d1∧RdV K H y d2∧(shal 4 d1 || shal 4 d2)=true∧Q (.bl (if neg then !eqD d1 d2 else eqD d1 d2)) H
theorem zf5 {u:Nat} {d1 d2:D} (hu:u+20<cLine) (hs:(shal 4 d1 || shal 4 d2)=true):u+min (toPy d1).depth (toPy d2).depth<cLine:=by
 rw [Bool.or_eq_true] at hs
 rcases hs with h | h
 ·have:=vc 4 d1 h
  have:=Nat.min_le_left (toPy d1).depth (toPy d2).depth
  lia
 ·have:=vc 4 d2 h
  have:=Nat.min_le_right (toPy d1).depth (toPy d2).depth
  lia
theorem ziR {X:Cx} (hu:X.A.units+20<cLine):OpR X (compareOp .Eq) (rEqD X.K false):=by
 intro pins s σ H x y v u Q I rx ry h
 obtain ⟨d1,d2,h1,h2,hs,q⟩:=h
 obtain ⟨as,ra⟩:=xn I h1 rx
 obtain ⟨bs,rb⟩:=xn I h2 ry
 exact SeqAt.compareEq_reads ra rb (zaf d1) (zaf d2) (zf5 hu hs) ⟨.bl _,H,I,rfl,q⟩
theorem zk3 {X:Cx} (hu:X.A.units+20<cLine):OpR X (compareOp .NotEq) (rEqD X.K true):=by
 intro pins s σ H x y v u Q I rx ry h
 obtain ⟨d1,d2,h1,h2,hs,q⟩:=h
 obtain ⟨as,ra⟩:=xn I h1 rx
 obtain ⟨bs,rb⟩:=xn I h2 ry
 exact SeqAt.compareNe_reads ra rb (zaf d1) (zaf d2) (zf5 hu hs) ⟨.bl _,H,I,rfl,q⟩
@[simp] noncomputable def gEq:D→D→Out Val:=fun x y=>if (shal 4 x || shal 4 y)=true then .ok (.pers (.bl (eqD x y))) else .bad
@[simp] noncomputable def gNe:D→D→Out Val:=fun x y=>if (shal 4 x || shal 4 y)=true then .ok (.pers (.bl (!eqD x y))) else .bad
theorem zlc {K:PySem.W.Frag}:OpD K (rEqD K false) gEq:=by
 intro G₀ H₀ env σ G H v u d1 d2 val Q I o1 o2 e k
 unfold gEq at e
 split at e
 ·rename_i hs
  cases e
  exact ⟨d1,d2,o1.rdv I,o2.rdv I,hs,k _ G H (Grow.refl _ _) I.le rfl⟩
 ·cases e
theorem od_ne {K:PySem.W.Frag}:OpD K (rEqD K true) gNe:=by
 intro G₀ H₀ env σ G H v u d1 d2 val Q I o1 o2 e k
 unfold gNe at e
 split at e
 ·rename_i hs
  cases e
  exact ⟨d1,d2,o1.rdv I,o2.rdv I,hs,k _ G H (Grow.refl _ _) I.le rfl⟩
 ·cases e
noncomputable def rInD (K:PySem.W.Frag) (neg:Bool):R2:=fun x y H Q=>∃ d ds,RdV K H x d∧RdV K H y (.lst ds)∧shal 4 d=true∧Q (.bl (if neg then !ds.any (fun z=>eqD z d) else ds.any (fun z=>eqD z d))) H
theorem zaD (d:D):∀ ds:List D,(xC ds).any (fun y=>PyData.eqv y (toPy d))=ds.any (fun z=>eqD z d)
 | []=>by simp [xC]
 | x::ds=>by simp only [xC,List.any_cons,zaD d ds]; rfl
theorem op_inD {X:Cx} (hu:X.A.units+20<cLine):OpR X (compareOp .In) (rInD X.K false):=by
 intro pins s σ H x y v u Q I rx ry h
 obtain ⟨d,ds,h1,h2,hs,q⟩:=h
 obtain ⟨as,ra⟩:=xn I h1 rx
 obtain ⟨bs,rb⟩:=xn I h2 ry
 simp only [toPy] at rb
 refine SeqAt.in_list_reads rb ra (zag ds) (zaf d) ?_ ⟨.bl _,H,I,rfl,?_⟩
 ·have:=vc 4 d hs
  have:=Nat.min_le_right (PyData.depthAll (xC ds)) (toPy d).depth
  lia
 ·rw [zaD]; exact q
theorem zjE {X:Cx} (hu:X.A.units+20<cLine):OpR X (compareOp .NotIn) (rInD X.K true):=by
 intro pins s σ H x y v u Q I rx ry h
 obtain ⟨d,ds,h1,h2,hs,q⟩:=h
 obtain ⟨as,ra⟩:=xn I h1 rx
 obtain ⟨bs,rb⟩:=xn I h2 ry
 simp only [toPy] at rb
 refine SeqAt.notIn_list_reads rb ra (zag ds) (zaf d) ?_ ⟨.bl _,H,I,rfl,?_⟩
 ·have:=vc 4 d hs
  have:=Nat.min_le_right (PyData.depthAll (xC ds)) (toPy d).depth
  lia
 ·rw [zaD]; exact q
@[simp] noncomputable def gIn:D→D→Out Val
  | x,.lst ds=>if shal 4 x=true then .ok (.pers (.bl (ds.any fun z=>eqD z x))) else .bad
  | _,_=>.bad
@[simp] noncomputable def gNin:D→D→Out Val
  | x,.lst ds=>if shal 4 x=true then .ok (.pers (.bl (!ds.any fun z=>eqD z x))) else .bad
  | _,_=>.bad
theorem zlb {K:PySem.W.Frag}:OpD K (rInD K true) gNin:=by
 intro G₀ H₀ env σ G H v u d1 d2 val Q I o1 o2 e k
 unfold gNin at e
 split at e
 ·split at e
  ·rename_i hs
   cases e
   exact ⟨_,_,o1.rdv I,o2.rdv I,hs,k _ G H (Grow.refl _ _) I.le rfl⟩
  ·cases e
 ·cases e
@[simp] noncomputable def gIsN:D→D→Out Val
  | .non,.non=>.ok (.pers (.bl true))
  | .int _,.non=>.ok (.pers (.bl false))
  | .bl _,.non=>.ok (.pers (.bl false))
  | .tup _,.non=>.ok (.pers (.bl false))
  | .lst _,.non=>.ok (.pers (.bl false))
  | _,_=>.bad
@[simp] noncomputable def xY:D→D→Out Val
  | .non,.non=>.ok (.pers (.bl false))
  | .int _,.non=>.ok (.pers (.bl true))
  | .bl _,.non=>.ok (.pers (.bl true))
  | .tup _,.non=>.ok (.pers (.bl true))
  | .lst _,.non=>.ok (.pers (.bl true))
  | _,_=>.bad
theorem ziT {K:PySem.W.Frag}:OpD K (fun x y H Q=>y=.non∧Q (.bl (decide (x=.non))) H) gIsN:=by
 intro G₀ H₀ env σ G H v u d1 d2 val Q I o1 o2 e k
 unfold gIsN at e
 split at e
 ·cases e; refine ⟨o2.non,?_⟩; rw [o1.non]; exact k _ G H (Grow.refl _ _) I.le rfl
 ·cases e; refine ⟨o2.non,?_⟩; rw [o1.int]; exact k _ G H (Grow.refl _ _) I.le rfl
 ·cases e; refine ⟨o2.non,?_⟩; rw [o1.bl]; exact k _ G H (Grow.refl _ _) I.le rfl
 ·cases e; refine ⟨o2.non,?_⟩; obtain ⟨a,_,rfl,_⟩:=Opd.tup I o1; exact k _ G H (Grow.refl _ _) I.le rfl
 ·cases e; refine ⟨o2.non,?_⟩; obtain ⟨a,_,rfl,_⟩:=Opd.lst I o1; exact k _ G H (Grow.refl _ _) I.le rfl
 ·cases e
theorem zgr {K:PySem.W.Frag}:OpD K (fun x y H Q=>y=.non∧Q (.bl (!decide (x=.non))) H) xY:=by
 intro G₀ H₀ env σ G H v u d1 d2 val Q I o1 o2 e k
 unfold xY at e
 split at e
 ·cases e; refine ⟨o2.non,?_⟩; rw [o1.non]; exact k _ G H (Grow.refl _ _) I.le rfl
 ·cases e; refine ⟨o2.non,?_⟩; rw [o1.int]; exact k _ G H (Grow.refl _ _) I.le rfl
 ·cases e; refine ⟨o2.non,?_⟩; rw [o1.bl]; exact k _ G H (Grow.refl _ _) I.le rfl
 ·cases e; refine ⟨o2.non,?_⟩; obtain ⟨a,_,rfl,_⟩:=Opd.tup I o1; exact k _ G H (Grow.refl _ _) I.le rfl
 ·cases e; refine ⟨o2.non,?_⟩; obtain ⟨a,_,rfl,_⟩:=Opd.lst I o1; exact k _ G H (Grow.refl _ _) I.le rfl
 ·cases e
section
variable {X:Cx} {G₀ H₀:Hp} {pos:Pos} {a b:Expr} {fa fb:FE}
theorem zfv (hu:X.A.units+20<cLine) (ha:DE X G₀ H₀ a fa) (hb:DE X G₀ H₀ b fb):DE X G₀ H₀ (.Compare a [.Eq] [b] pos) (f2 gEq fa fb):=zcT (ziR hu) zlc ha hb (wa _)
theorem zlI (ha:DE X G₀ H₀ a fa) (hb:DE X G₀ H₀ b fb):DE X G₀ H₀ (.Compare a [.Is] [b] pos) (f2 gIsN fa fb):=zcT ziQ ziT ha hb (wa _)
theorem zg8 (ha:DE X G₀ H₀ a fa) (hb:DE X G₀ H₀ b fb):DE X G₀ H₀ (.Compare a [.IsNot] [b] pos) (f2 xY fa fb):=zcT zgn zgr ha hb (wa _)
end
@[simp] noncomputable def gAdd:D→D→Out Val
  | .int i,.int j=>.ok (.pers (.int (i+j)))
  | .lst xs,.lst ys=>if xs.length+ys.length≤100000 then .ok (.fresh (xs++ys)) else .bad
  | _,_=>.bad
theorem zae {n:Nat} (h:n≤100000):n≤sizeLine:=by rw [sizeLine_eq]; lia
theorem zld {K:PySem.W.Frag}:OpD K (fun x y H Q=>rI0 (fun i j=>.int (i+j)) x y H Q∨rCat x y H Q) gAdd:=by
 intro G₀ H₀ env σ G H v u d1 d2 val Q I o1 o2 e k
 unfold gAdd at e
 split at e
 ·rename_i i j
  cases e
  exact .inl ⟨i,j,o1.int,o2.int,k _ G H (Grow.refl _ _) I.le rfl⟩
 ·rename_i xs ys
  split at e
  ·rename_i hz
   cases e
   obtain ⟨a,vs,e1,h1,r1⟩:=Opd.lst I o1
   obtain ⟨b,us,e2,h2,r2⟩:=Opd.lst I o2
   refine .inr ⟨a,b,vs,us,e1,e2,h1,h2,zae (by rw [←r1.length,←r2.length]; exact hz),fun p hp => ?_⟩
   have g:=Grow.laidL (o:=.lst (vs++us)) I.le hp
   exact k _ G _ g.1 g.2 (vE I.le hp (r1.append r2))
  ·cases e
 ·cases e
theorem yR {X:Cx} {G₀ H₀:Hp} {pos:Pos} {a b:Expr} {fa fb:FE} (ha:DE X G₀ H₀ a fa) (hb:DE X G₀ H₀ b fb):DE X G₀ H₀ (.BinOp a .Add b pos) (f2 gAdd fa fb):=zfu (zk8.or ziS) zld ha hb
@[simp] noncomputable def gIx:D→D→Out Val
  | .tup ds,.int i=>match atI ds i with | some d=>.ok (.pers d) | none=>.bad
  | .lst ds,.int i=>match atI ds i with | some d=>.ok (.pers d) | none=>.bad
  | .scr ns,.int i=>match atI ns i with | some n=>.ok (.pers (.int n)) | none=>.bad
  | _,_=>.bad
theorem zhr {K:PySem.W.Frag} {G:Hp} {ds:List D} {vs:List V} {i:Int} {d:D} (r:RepL K G ds vs) (h:atI ds i=some d):∃ v,atI vs i=some v∧Rep K G d v:=by
 unfold atI at h ⊢
 rw [←r.length]
 cases q:ixN ds.length i with
 | none=>rw [q] at h; cases h
 | some j =>
   rw [q] at h
   obtain ⟨v,h1,h2⟩:=r.get (i:=j) (d:=d) h
   exact ⟨v,h1,h2⟩
theorem zkl {α β:Type} (f:α→β) (xs:List α) (i:Int):atI (xs.map f) i=(atI xs i).map f:=by
 unfold atI
 rw [List.length_map]
 cases ixN xs.length i with
 | none=>rfl
 | some j=>simp
theorem od_ix {K:PySem.W.Frag}:OpD K (fun x y H Q=>rIxL K x y H Q∨rIxT K x y H Q∨rIxS x y H Q) gIx:=by
 intro G₀ H₀ env σ G H v u d1 d2 val Q I o1 o2 e k
 unfold gIx at e
 split at e
 ·rename_i ds i
  split at e
  ·rename_i d hd
   cases e
   obtain ⟨a,vs,e1,h1,r1⟩:=Opd.tup I o1
   obtain ⟨w,hw,rw'⟩:=zhr r1 hd
   exact .inr (.inl ⟨a,vs,i,w,e1,o2.int,SqT.of h1,hw,k w G H (Grow.refl _ _) I.le rw'⟩)
  ·cases e
 ·rename_i ds i
  split at e
  ·rename_i d hd
   cases e
   obtain ⟨a,vs,e1,h1,r1⟩:=Opd.lst I o1
   obtain ⟨w,hw,rw'⟩:=zhr r1 hd
   exact .inl ⟨a,vs,i,w,e1,o2.int,SqL.of h1,hw,k w G H (Grow.refl _ _) I.le rw'⟩
  ·cases e
 ·rename_i ns i
  split at e
  ·rename_i n hn
   cases e
   obtain ⟨a,e1,h1⟩:=Opd.scr I o1
   exact .inl ⟨a,ns.map V.int,i,.int n,e1,o2.int,h1,by rw [zkl,hn]; rfl,k (.int n) G H (Grow.refl _ _) I.le rfl⟩
  ·cases e
 ·cases e
theorem zv {X:Cx} {G₀ H₀:Hp} {pos:Pos} {a b:Expr} {fa fb:FE} (ha:DE X G₀ H₀ a fa) (hb:DE X G₀ H₀ b fb) (hs:zdW b:=by intro _ _; rfl):DE X G₀ H₀ (.Subscript a b pos) (f2 gIx fa fb):=de_ix zlu od_ix ha hb hs
noncomputable def cutD (xs:List D) (lo hi:Option Int):List D:=(xs.drop (HT.sIx xs.length 0 lo)).take (HT.sIx xs.length xs.length hi - HT.sIx xs.length 0 lo)
theorem zhd {K:PySem.W.Frag} {G:Hp} {ds:List D} {vs:List V} (lo hi:Option Int) (r:RepL K G ds vs):RepL K G (cutD ds lo hi) (cutV vs lo hi):=by
 unfold cutD cutV
 rw [r.length]
 exact (r.drop _).take _
noncomputable abbrev FO:=Ev→Out (Option Int)
@[simp] noncomputable def fNo:FO:=fun _=>.ok none
@[simp] noncomputable def fSo (f:FE):FO:=fun env=>(f env).bind fun v=>match v.d with
  | .int i=>.ok (some i)
  | _=>.bad
noncomputable def tO (K:PySem.W.Frag) (G₀ H₀:Hp) (f:FO):TO:=fun σ H Q=>∃ env G o,DI K G₀ H₀ env σ G H∧f env=.ok o∧∀ G' H',Grow G H G' H'→Same G' H'→Q o H'
noncomputable def DO (X:Cx) (G₀ H₀:Hp) (e:Option Expr) (f:FO):Prop:=PO X e (tO X.K G₀ H₀ f)
section
variable {X:Cx} {G₀ H₀:Hp} {pos p2:Pos} {a e:Expr} {lo hi:Option Expr} {fa f:FE} {fl fh:FO}
theorem zaw:DO X G₀ H₀ none fNo:=fun pins s σ H Q I q=>zjt pins s σ H Q I (by
 obtain ⟨env,G,o,J,h,k⟩:=q
 cases h
 exact k G H (Grow.refl _ _) J.le)
theorem ww (h:DE X G₀ H₀ e f):DO X G₀ H₀ (some e) (fSo f):=fun pins s σ H Q I q=>zjs h pins s σ H Q I (by
 obtain ⟨env,G,o,J,h,k⟩:=q
 obtain ⟨x,e1,h⟩:=zq h
 refine x8 J e1 fun v G' H' g l J' ov => ?_
 split at h
 ·rename_i i hi
  cases h
  rw [hi] at ov
  exact ⟨i,ov.int,k G' H' g l⟩
 ·cases h)
@[simp] noncomputable def gSl:D→Option Int→Option Int→Out Val
  | .lst ds,lo,hi=>.ok (.fresh (cutD ds lo hi))
  | .tup ds,lo,hi=>if HT.sIx ds.length 0 lo=0∧HT.sIx ds.length ds.length hi=ds.length then .bad else .ok (.pers (.tup (cutD ds lo hi)))
  | _,_,_=>.bad
@[simp] noncomputable def fSl (fa:FE) (fl fh:FO):FE:=fun env=>(fa env).bind fun x=>(fl env).bind fun l=>(fh env).bind fun h=>gSl x.d l h
theorem zdK (ha:DE X G₀ H₀ a fa) (hl:DO X G₀ H₀ lo fl) (hh:DO X G₀ H₀ hi fh):DE X G₀ H₀ (.Subscript a (.Slice lo hi none p2) pos) (fSl fa fl fh) :=
 (zhT (zji.or zkD) ha hl hh).imp fun σ H Q q=>by
  obtain ⟨env,G,val,I,e,k⟩:=q
  obtain ⟨x,e1,e⟩:=zq e
  obtain ⟨l,e2,e⟩:=zq e
  obtain ⟨h,e3,e⟩:=zq e
  refine x8 I e1 fun v G1 H1 g1 l1 I1 o1=>⟨env,G1,l,I1,e2,fun G2 H2 g2 l2=>⟨env,G2,h,I1.grow g2 l2,e3,fun G3 H3 g3 l3 => ?_⟩⟩
  have I3:=(I1.grow g2 l2).grow g3 l3
  have o3:=(o1.mono g2.g).mono g3.g
  have g03:=(g1.trans g2).trans g3
  generalize x.d=dx at e o3
  cases dx with
  | lst ds =>
    cases e
    obtain ⟨a',vs,ev,h1,r1⟩:=Opd.lst I3 o3
    refine .inl ⟨a',vs,ev,SqL.of h1,fun p hp => ?_⟩
    have g:=Grow.laidL (o:=.lst (cutV vs l h)) l3 hp
    exact k _ G3 _ (g03.trans g.1) g.2 ((vE l3 hp (zhd l h r1)).base g03.h)
  | tup ds =>
    have e':(if HT.sIx ds.length 0 l=0∧HT.sIx ds.length ds.length h=ds.length then Out.bad else Out.ok (.pers (.tup (cutD ds l h))))=Out.ok val:=e
    split at e'
    ·cases e'
    ·rename_i hw
     cases e'
     obtain ⟨a',vs,ev,h1,r1⟩:=Opd.tup I3 o3
     refine .inr ⟨a',vs,ev,SqT.of h1,by rw [←r1.length]; exact hw,fun p hp => ?_⟩
     have g:=Grow.laidT (o:=.tup (cutV vs l h)) l3 hp
     exact k _ _ _ (g03.trans g.1) g.2 ((ziz l3 hp (zhd l h r1)).base g03.h)
  | non=>cases e
  | bl b=>cases e
  | int i=>cases e
  | scr ns=>cases e
  | exc c p=>cases e
end
@[simp] noncomputable def fNil:Ev→Out (List Val):=fun _=>.ok []
@[simp] noncomputable def frz:Val→Val
  | .fresh ds=>.pers (.lst ds)
  | v=>v
@[simp] noncomputable def zl (f:FE) (r:Ev→Out (List Val)):Ev→Out (List Val):=fun env=>(f env).bind fun x=>(r env).bind fun xs=>.ok (frz x::xs)
@[simp] noncomputable def hNil:Ev→Out (List D):=fun _=>.ok []
@[simp] noncomputable def zB (f:FE) (r:Ev→Out (List D)):Ev→Out (List D):=fun env=>(f env).bind fun x=>x.hold.bind fun d=>(r env).bind fun xs=>.ok (d::xs)
section
variable {K:PySem.W.Frag} {env:Ev} {σ:St} {G G':Hp}
theorem zd1.mono {v:V} {x:Val} (h:zd1 K env σ G v x) (s:Same G G'):zd1 K env σ G' v x:=by
 cases x with
 | pers d=>exact Rep.mono s h
 | fresh ds=>exact h
 | brw i ds=>exact h
theorem ziv {val:Val} {v:V} {H H':Hp} (g:Grow G H G' H') (l:Same G' H') (h:uf K H env σ G' H' v val):∃ G'',Grow G H G'' H'∧Same G'' H'∧zd1 K env σ G'' v (frz val):=by
 cases val with
 | pers d=>exact ⟨G',g,l,h⟩
 | brw i ds=>exact ⟨G',g,l,h⟩
 | fresh ds=>exact held g l h rfl
theorem zd1.opd {v:V} {x:Val} (h:zd1 K env σ G v x):Opd K env σ G v x.d:=by
 cases x with
 | pers d=>exact .inl h
 | fresh ds=>exact h.elim
 | brw i ds=>obtain ⟨a,e1,e2,e3⟩:=h; exact .inr ⟨i,ds,a,rfl,e1,e2,e3⟩
end
section
variable {X:Cx} {G₀ H₀:Hp} {pos:Pos} {e:Expr} {es:List Expr} {f:FE} {r:Ev→Out (List Val)} {rh:Ev→Out (List D)}
theorem zC:DA X G₀ H₀ [] fNil:=vo.imp fun σ H Q q=>by
 obtain ⟨env,G,vals,I,h,k⟩:=q
 cases h
 exact k [] G H (Grow.refl _ _) I.le rfl
theorem zn (he:DE X G₀ H₀ e f) (hr:DA X G₀ H₀ es r) (hs:starEach (e::es) X.env=(false,eval e X.env)::starEach es X.env:=by rfl):DA X G₀ H₀ (e::es) (zl f r) :=
 (yn he hr hs).imp fun σ H Q q=>by
  obtain ⟨env,G,vals,I,h,k⟩:=q
  obtain ⟨x,e1,h⟩:=zq h
  obtain ⟨xs,e2,h⟩:=zq h
  cases h
  refine ⟨env,G,x,I,e1,fun v G1 H1 g1 l1 o1 => ?_⟩
  obtain ⟨G2,g2,l2,a2⟩:=ziv g1 l1 o1
  exact ⟨env,G2,xs,I.grow g2 l2,e2,fun vs G3 H3 g3 l3 a3=>k (v::vs) G3 H3 (g2.trans g3) l3 ⟨_,_,rfl,a2.mono g3.g,a3⟩⟩
theorem zM:DH X G₀ H₀ [] hNil:=vo.imp fun σ H Q q=>by
 obtain ⟨env,G,vals,I,h,k⟩:=q
 cases h
 exact k [] G H (Grow.refl _ _) I.le rfl
theorem zw (he:DE X G₀ H₀ e f) (hr:DH X G₀ H₀ es rh) (hs:starEach (e::es) X.env=(false,eval e X.env)::starEach es X.env:=by rfl):DH X G₀ H₀ (e::es) (zB f rh) :=
 (yn he hr hs).imp fun σ H Q q=>by
  obtain ⟨env,G,vals,I,h,k⟩:=q
  obtain ⟨x,e1,h⟩:=zq h
  obtain ⟨d,ed,h⟩:=zq h
  obtain ⟨xs,e2,h⟩:=zq h
  cases h
  refine ⟨env,G,x,I,e1,fun v G1 H1 g1 l1 o1 => ?_⟩
  obtain ⟨G2,g2,l2,a2⟩:=held g1 l1 o1 ed
  exact ⟨env,G2,xs,I.grow g2 l2,e2,fun vs G3 H3 g3 l3 a3=>k (v::vs) G3 H3 (g2.trans g3) l3 (RepL.cons (a2.mono g3.g) a3)⟩
@[simp] noncomputable def fTup (r:Ev→Out (List D)):FE:=fun env=>(r env).bind fun ds=>if ds.length≤1000 then .ok (.pers (.tup ds)) else .bad
@[simp] noncomputable def fLst (r:Ev→Out (List D)):FE:=fun env=>(r env).bind fun ds=>if ds.length≤1000 then .ok (.fresh ds) else .bad
theorem yx {x1} (h:DH X G₀ H₀ es rh):DE X G₀ H₀ (.Tuple es x1 pos) (fTup rh):=(zkS h).imp fun σ H Q q=>by
 obtain ⟨env,G,val,I,e,k⟩:=q
 obtain ⟨ds,e1,e⟩:=zq e
 split at e
 ·rename_i hz
  cases e
  refine ⟨env,G,ds,I,e1,fun vs G1 H1 g1 l1 r1=>⟨zae (by rw [←r1.length]; lia),fun p hp => ?_⟩⟩
  have g:=Grow.laidT (o:=.tup vs) l1 hp
  exact k _ _ _ (g1.trans g.1) g.2 ((ziz l1 hp r1).base g1.h)
 ·cases e
theorem yF (h:DH X G₀ H₀ es rh):DE X G₀ H₀ (.List es pos) (fLst rh):=(zkX h).imp fun σ H Q q=>by
 obtain ⟨env,G,val,I,e,k⟩:=q
 obtain ⟨ds,e1,e⟩:=zq e
 split at e
 ·rename_i hz
  cases e
  refine ⟨env,G,ds,I,e1,fun vs G1 H1 g1 l1 r1=>⟨zae (by rw [←r1.length]; lia),fun p hp => ?_⟩⟩
  have g:=Grow.laidL (o:=.lst vs) l1 hp
  exact k _ _ _ (g1.trans g.1) g.2 ((vE l1 hp r1).base g1.h)
 ·cases e
end
noncomputable def zc5 (K:PySem.W.Frag) (r:List V→Hp→VK→Prop) (g:List D→Out Val):Prop :=
 ∀ (G₀ H₀:Hp) (env:Ev) (σ:St) (G H:Hp) (vs:List V) (xs:List Val) (val:Val) (Q:VK),DI K G₀ H₀ env σ G H→zaL K env σ G vs xs→g (xs.map Val.d)=.ok val →
   (∀ w G' H',Grow G H G' H'→Same G' H'→uf K H env σ G' H' w val→Q w H')→r vs H Q
@[simp] noncomputable def fB (g:List D→Out Val) (r:Ev→Out (List Val)):FE:=fun env=>(r env).bind fun xs=>g (xs.map Val.d)
section
variable {X:Cx} {G₀ H₀:Hp} {x:Str} {p pos:Pos} {e:Expr} {es:List Expr} {f:Ev→Out (List Val)} {id T:String} {r:List V→Hp→VK→Prop} {g:List D→Out Val}
theorem impB (hd:zc5 X.K r g) (σ:St) (H:Hp) (Q:VK) (q:tE X.K G₀ H₀ (fB g f) σ H Q):tCB r (tA X.K G₀ H₀ f) σ H Q:=by
 obtain ⟨env,G,val,I,e,k⟩:=q
 obtain ⟨xs,e1,e⟩:=zq e
 exact ⟨env,G,xs,I,e1,fun vs G1 H1 g1 l1 a1=>hd G₀ H₀ env σ G1 H1 vs xs val Q (I.grow g1 l1) a1 e fun w G2 H2 g2 l2 h2=>k w G2 H2 (g1.trans g2) l2 (h2.base g1.h)⟩
theorem zY (hc:zaT X (.builtin id) r) (hd:zc5 X.K r g) (hm:X.mg x=none) (hv:bootBuiltins x=some (.builtin id)) (ha:DA X G₀ H₀ (e::es) f) (hg:Gl X x:=by rfl) (hn:x ≠ "__name__" := by decide) (hdb:(x == ("__debug__" : Str))=false:=by decide)
 (he:starEach (e::es) X.env=(false,eval e X.env)::starEach es X.env:=by rfl) (hpl:(backTo pos (starEach es X.env)).any (·.1)=false:=by rfl):DE X G₀ H₀ (.Call (.Name x p) (e::es) [] pos) (fB g f) :=
 (zey hc hg hm hv ha hn hdb he hpl).imp (impB hd)
theorem zeU (hc:zaT X (.type T) r) (hd:zc5 X.K r g) (hm:X.mg x=none) (hv:bootBuiltins x=some (.type T)) (ha:DA X G₀ H₀ (e::es) f) (hg:Gl X x:=by rfl) (hn:x ≠ "__name__" := by decide) (hdb:(x == ("__debug__" : Str))=false:=by decide)
 (he:starEach (e::es) X.env=(false,eval e X.env)::starEach es X.env:=by rfl) (hpl:(backTo pos (starEach es X.env)).any (·.1)=false:=by rfl):DE X G₀ H₀ (.Call (.Name x p) (e::es) [] pos) (fB g f) :=
 (zgk hc hg hm hv ha hn hdb he hpl).imp (impB hd)
end
theorem zb7 {K:PySem.W.Frag} {env:Ev} {σ:St} {G:Hp} {vs:List V} {xs:List Val} {d:D} (h:zaL K env σ G vs xs) (e:xs.map Val.d=[d]):∃ v,vs=[v]∧Opd K env σ G v d:=by
 cases vs with
 | nil=>cases (show xs=[] from h); cases e
 | cons v vs =>
   obtain ⟨x,r,rfl,h1,h2⟩:=h
   simp only [List.map_cons,List.cons.injEq,List.map_eq_nil_iff] at e
   obtain ⟨rfl,rfl⟩:=e
   cases vs with
   | nil=>exact ⟨v,rfl,h1.opd⟩
   | cons v' vs=>obtain ⟨_,_,e,_⟩:=h2; cases e
theorem zkn {K:PySem.W.Frag} {env:Ev} {σ:St} {G:Hp} {vs:List V} {xs:List Val} {d d':D} (h:zaL K env σ G vs xs) (e:xs.map Val.d=[d,d']):∃ v v',vs=[v,v']∧Opd K env σ G v d∧Opd K env σ G v' d':=by
 cases vs with
 | nil=>cases (show xs=[] from h); cases e
 | cons v vs =>
   obtain ⟨x,r,rfl,h1,h2⟩:=h
   simp only [List.map_cons,List.cons.injEq] at e
   obtain ⟨rfl,e⟩:=e
   obtain ⟨v',rfl,o⟩:=zb7 h2 e
   exact ⟨v,v',rfl,h1.opd,o⟩
@[simp] noncomputable def gLen:List D→Out Val
  | [.lst ds]=>.ok (.pers (.int ds.length))
  | [.tup ds]=>.ok (.pers (.int ds.length))
  | [.scr ns]=>.ok (.pers (.int ns.length))
  | _=>.bad
theorem wo {K:PySem.W.Frag}:zc5 K (fun xs H Q=>∃ p ys,xs=[.ref p]∧(SqL K H p ys∨SqT K H p ys)∧Q (.int ys.length) H) gLen:=by
 intro G₀ H₀ env σ G H vs xs val Q I a e k
 unfold gLen at e
 split at e
 ·rename_i ds hx
  cases e
  obtain ⟨v,rfl,o⟩:=zb7 a hx
  obtain ⟨p,us,rfl,h1,r1⟩:=Opd.lst I o
  refine ⟨p,us,rfl,.inl (SqL.of h1),?_⟩
  rw [←r1.length]
  exact k _ G H (Grow.refl _ _) I.le rfl
 ·rename_i ds hx
  cases e
  obtain ⟨v,rfl,o⟩:=zb7 a hx
  obtain ⟨p,us,rfl,h1,r1⟩:=Opd.tup I o
  refine ⟨p,us,rfl,.inr (SqT.of h1),?_⟩
  rw [←r1.length]
  exact k _ G H (Grow.refl _ _) I.le rfl
 ·rename_i ns hx
  cases e
  obtain ⟨v,rfl,o⟩:=zb7 a hx
  obtain ⟨p,rfl,h1⟩:=Opd.scr I o
  refine ⟨p,_,rfl,.inl h1,?_⟩
  rw [List.length_map]
  exact k _ G H (Grow.refl _ _) I.le rfl
 ·cases e
@[simp] noncomputable def zao:List D→Out Val
  | [.int i,.int j]=>.ok (.pers (.int (if j<i then j else i)))
  | _=>.bad
@[simp] noncomputable def zdC:List D→Out Val
  | [.int i,.int j]=>.ok (.pers (.int (if j>i then j else i)))
  | _=>.bad
theorem zdL {K:PySem.W.Frag}:zc5 K (fun xs H Q=>∃ i j,xs=[.int i,.int j]∧Q (.int (if j<i then j else i)) H) zao:=by
 intro G₀ H₀ env σ G H vs xs val Q I a e k
 unfold zao at e
 split at e
 ·rename_i i j hx
  cases e
  obtain ⟨v,v',rfl,o,o'⟩:=zkn a hx
  exact ⟨i,j,by rw [o.int,o'.int],k _ G H (Grow.refl _ _) I.le rfl⟩
 ·cases e
theorem zhi {K:PySem.W.Frag}:zc5 K (fun xs H Q=>∃ i j,xs=[.int i,.int j]∧Q (.int (if j>i then j else i)) H) zdC:=by
 intro G₀ H₀ env σ G H vs xs val Q I a e k
 unfold zdC at e
 split at e
 ·rename_i i j hx
  cases e
  obtain ⟨v,v',rfl,o,o'⟩:=zkn a hx
  exact ⟨i,j,by rw [o.int,o'.int],k _ G H (Grow.refl _ _) I.le rfl⟩
 ·cases e
@[simp] noncomputable def gInt:List D→Out Val
  | [.int i]=>.ok (.pers (.int i))
  | [.bl b]=>.ok (.pers (.int (if b then 1 else 0)))
  | _=>.bad
theorem zlK {K:PySem.W.Frag}:zc5 K (fun xs H Q=>(∃ i,xs=[.int i]∧Q (.int i) H)∨∃ k,xs=[.bl k]∧Q (.int (if k then 1 else 0)) H) gInt:=by
 intro G₀ H₀ env σ G H vs xs val Q I a e k
 unfold gInt at e
 split at e
 ·rename_i i hx
  cases e
  obtain ⟨v,rfl,o⟩:=zb7 a hx
  exact .inl ⟨i,by rw [o.int],k _ G H (Grow.refl _ _) I.le rfl⟩
 ·rename_i b hx
  cases e
  obtain ⟨v,rfl,o⟩:=zb7 a hx
  exact .inr ⟨b,by rw [o.bl],k _ G H (Grow.refl _ _) I.le rfl⟩
 ·cases e
@[simp] noncomputable def zj1:List D→Out Val
  | [.lst ds]=>.ok (.fresh ds)
  | [.tup ds]=>.ok (.fresh ds)
  | _=>.bad
theorem zke {K:PySem.W.Frag}:zc5 K (fun xs H Q=>∃ p ys,xs=[.ref p]∧(SqL K H p ys∨SqT K H p ys)∧∀ l,H l=none→Q (.ref l) (upd H l (.lst ys))) zj1:=by
 intro G₀ H₀ env σ G H vs xs val Q I a e k
 unfold zj1 at e
 split at e
 ·rename_i ds hx
  cases e
  obtain ⟨v,rfl,o⟩:=zb7 a hx
  obtain ⟨p,us,rfl,h1,r1⟩:=Opd.lst I o
  refine ⟨p,us,rfl,.inl (SqL.of h1),fun l hl => ?_⟩
  have g:=Grow.laidL (o:=.lst us) I.le hl
  exact k _ G _ g.1 g.2 (vE I.le hl r1)
 ·rename_i ds hx
  cases e
  obtain ⟨v,rfl,o⟩:=zb7 a hx
  obtain ⟨p,us,rfl,h1,r1⟩:=Opd.tup I o
  refine ⟨p,us,rfl,.inr (SqT.of h1),fun l hl => ?_⟩
  have g:=Grow.laidL (o:=.lst us) I.le hl
  exact k _ G _ g.1 g.2 (vE I.le hl r1)
 ·cases e
end DL
namespace DL
open PySem PySem.Spec PyProof.Rows L2
@[simp] noncomputable def trD:D→Out Bool
  | .non=>.ok false
  | .bl b=>.ok b
  | .int i=>.ok (i != 0)
  | .lst ds=>.ok (!ds.isEmpty)
  | .tup ds=>.ok (!ds.isEmpty)
  | _=>.bad
@[simp] noncomputable def fTr (f:FE):FT:=fun env=>(f env).bind fun x=>trD x.d
@[simp] noncomputable def fTrB (f:FE):FT:=fun env=>(f env).bind fun x=>match x.d with
  | .bl b=>.ok b
  | _=>.bad
@[simp] noncomputable def fAnd (f g:FT):FT:=fun env=>(f env).bind fun c=>if c=true then g env else .ok false
@[simp] noncomputable def fOr (f g:FT):FT:=fun env=>(f env).bind fun c=>if c=true then .ok true else g env
@[simp] noncomputable def fNot (f:FT):FT:=fun env=>(f env).bind fun c=>.ok (!c)
theorem zah {K:PySem.W.Frag} {G:Hp} {ds:List D} {vs:List V} (r:RepL K G ds vs):ds.isEmpty=vs.isEmpty:=by
 have:=r.length
 cases ds <;> cases vs <;> simp_all
section
variable {X:Cx} {G₀ H₀:Hp} {pos:Pos} {a b:Expr} {fa fb:FE} {ft fu:FT} {rest:List Expr}
theorem xN (ha:DE X G₀ H₀ a fa) (he:∀ whole,isTrue a X.env whole=(do let v ← whole; standAt a.pos; holding [v] (truthy v)):=by intro _; rfl):DT X G₀ H₀ a (fTr fa) :=
 (zhP ha he).imp fun σ H Q q=>by
  obtain ⟨env,G,c,I,e,k⟩:=q
  obtain ⟨x,e1,e⟩:=zq e
  refine x8 I e1 fun v G' H' g l I' o=>⟨c,?_,k G' H' g l⟩
  unfold trD at e
  split at e
  ·rename_i hd; rw [hd] at o; cases e; rw [o.non]; exact rfl
  ·rename_i b hd; rw [hd] at o; cases e; rw [o.bl]; exact rfl
  ·rename_i i hd; rw [hd] at o; cases e; rw [o.int]; exact rfl
  ·rename_i ds hd; rw [hd] at o; cases e
   obtain ⟨p,vs,rfl,h1,r1⟩:=Opd.lst I' o
   exact .inl ⟨vs,SqL.of h1,by rw [zah r1]⟩
  ·rename_i ds hd; rw [hd] at o; cases e
   obtain ⟨p,vs,rfl,h1,r1⟩:=Opd.tup I' o
   exact .inr (.inl ⟨vs,SqT.of h1,by rw [zah r1]⟩)
  ·cases e
theorem zfS {f:FE} {K:PySem.W.Frag} {σ:St} {H:Hp} {Q:Bool→Hp→Prop} (q:tT K G₀ H₀ (fTrB f) σ H Q):tE K G₀ H₀ f σ H fun x H'=>∃ k,x=.bl k∧Q k H':=by
 obtain ⟨env,G,c,I,e,k⟩:=q
 obtain ⟨x,e1,e⟩:=zq e
 refine x8 I e1 fun v G' H' g l I' o => ?_
 split at e
 ·rename_i b hd
  cases e
  rw [hd] at o
  exact ⟨c,o.bl,k G' H' g l⟩
 ·cases e
theorem vZ {op:CmpOp} {r:R2} {g:D→D→Out Val} (ho:OpR X (compareOp op) r) (hd:OpD X.K r g) (ha:DE X G₀ H₀ a fa) (hb:DE X G₀ H₀ b fb) (hm:behindInMarks op b=false):DT X G₀ H₀ (.Compare a [op] [b] pos) (fTrB (f2 g fa fb)) :=
 (zjp ho ha hb hm).imp fun σ H Q q=>imp2 hd σ H _ (zfS q)
theorem zdH (ha:DE X G₀ H₀ a fa) (hb:DE X G₀ H₀ b fb):DT X G₀ H₀ (.Compare a [.Lt] [b] pos) (fTrB (f2 gLt fa fb)):=vZ zjF wM ha hb (wa _)
theorem zlB (ha:DE X G₀ H₀ a fa) (hb:DE X G₀ H₀ b fb):DT X G₀ H₀ (.Compare a [.LtE] [b] pos) (fTrB (f2 gLe fa fb)):=vZ zk6 wM ha hb (wa _)
theorem zdI (ha:DE X G₀ H₀ a fa) (hb:DE X G₀ H₀ b fb):DT X G₀ H₀ (.Compare a [.Gt] [b] pos) (fTrB (f2 gGt fa fb)):=vZ zk7 wM ha hb (wa _)
theorem zlC (ha:DE X G₀ H₀ a fa) (hb:DE X G₀ H₀ b fb):DT X G₀ H₀ (.Compare a [.GtE] [b] pos) (fTrB (f2 gGe fa fb)):=vZ op_ge wM ha hb (wa _)
theorem vm (hu:X.A.units+20<cLine) (ha:DE X G₀ H₀ a fa) (hb:DE X G₀ H₀ b fb):DT X G₀ H₀ (.Compare a [.Eq] [b] pos) (fTrB (f2 gEq fa fb)):=vZ (ziR hu) zlc ha hb (wa _)
theorem zav (hu:X.A.units+20<cLine) (ha:DE X G₀ H₀ a fa) (hb:DE X G₀ H₀ b fb):DT X G₀ H₀ (.Compare a [.NotEq] [b] pos) (fTrB (f2 gNe fa fb)):=vZ (zk3 hu) od_ne ha hb (wa _)
theorem zlA (hu:X.A.units+20<cLine) (ha:DE X G₀ H₀ a fa) (hb:DE X G₀ H₀ b fb) (hm:behindInMarks .NotIn b=false:=by with_unfolding_all rfl):DT X G₀ H₀ (.Compare a [.NotIn] [b] pos) (fTrB (f2 gNin fa fb)):=vZ (zjE hu) zlb ha hb hm
theorem zg2 (ha:DE X G₀ H₀ a fa) (hb:DE X G₀ H₀ b fb):DT X G₀ H₀ (.Compare a [.Is] [b] pos) (fTrB (f2 gIsN fa fb)):=vZ ziQ ziT ha hb (wa _)
theorem uE (ha:DE X G₀ H₀ a fa) (hb:DE X G₀ H₀ b fb):DT X G₀ H₀ (.Compare a [.IsNot] [b] pos) (fTrB (f2 xY fa fb)):=vZ zgn zgr ha hb (wa _)
theorem vz (ha:DT X G₀ H₀ a ft):DW X G₀ H₀ (.BoolOp .And [a] pos) ft:=zjn ha
theorem wU (ha:DT X G₀ H₀ a ft):DW X G₀ H₀ (.BoolOp .Or [a] pos) ft:=zkJ ha
theorem zat (ha:DT X G₀ H₀ a ft) (hb:DW X G₀ H₀ (.BoolOp .And (b::rest) pos) fu):DW X G₀ H₀ (.BoolOp .And (a::b::rest) pos) (fAnd ft fu) :=
 (zkK ha hb).imp fun σ H Q q=>by
  obtain ⟨env,G,c,I,e,k⟩:=q
  obtain ⟨x,e1,e⟩:=zq e
  refine ⟨env,G,x,I,e1,fun G' H' g l => ?_⟩
  cases x with
  | true=>exact ⟨env,G',c,I.grow g l,e,fun G2 H2 g2 l2=>k G2 H2 (g.trans g2) l2⟩
  | false=>cases e; exact k G' H' g l
theorem vX (ha:DT X G₀ H₀ a ft) (hb:DW X G₀ H₀ (.BoolOp .Or (b::rest) pos) fu):DW X G₀ H₀ (.BoolOp .Or (a::b::rest) pos) (fOr ft fu) :=
 (pw_or ha hb).imp fun σ H Q q=>by
  obtain ⟨env,G,c,I,e,k⟩:=q
  obtain ⟨x,e1,e⟩:=zq e
  refine ⟨env,G,x,I,e1,fun G' H' g l => ?_⟩
  cases x with
  | true=>cases e; exact k G' H' g l
  | false=>exact ⟨env,G',c,I.grow g l,e,fun G2 H2 g2 l2=>k G2 H2 (g.trans g2) l2⟩
theorem dt_w (h:DW X G₀ H₀ a ft):DT X G₀ H₀ a ft:=PW.pt h
theorem vY (ha:DT X G₀ H₀ a ft):DT X G₀ H₀ (.UnaryOp .Not a pos) (fNot ft):=(ziL ha).imp fun σ H Q q=>by
 obtain ⟨env,G,c,I,e,k⟩:=q
 obtain ⟨x,e1,e⟩:=zq e
 cases e
 exact ⟨env,G,x,I,e1,fun G' H' g l=>k G' H' g l⟩
@[simp] noncomputable def zbS (f g:FE):FE:=fun env=>(f env).bind fun x=>match x.d with
  | .bl true=>g env
  | .bl false=>.ok (.pers (.bl false))
  | _=>.bad
@[simp] noncomputable def fOrV (f g:FE):FE:=fun env=>(f env).bind fun x=>match x.d with
  | .bl false=>g env
  | .bl true=>.ok (.pers (.bl true))
  | _=>.bad
@[simp] noncomputable def zlz (f:FE):FE:=fun env=>(f env).bind fun x=>match x.d with
  | .bl c=>.ok (.pers (.bl (!c)))
  | _=>.bad
theorem zaz {op} (h:DE X G₀ H₀ a fa):DE X G₀ H₀ (.BoolOp op [a] pos) fa:=zkU h
theorem zcU (ha:DE X G₀ H₀ a fa) (hb:DE X G₀ H₀ (.BoolOp .And (b::rest) pos) fb):DE X G₀ H₀ (.BoolOp .And (a::b::rest) pos) (zbS fa fb) :=
 (zkZ ha hb).imp fun σ H Q q=>by
  obtain ⟨env,G,val,I,e,k⟩:=q
  obtain ⟨x,e1,e⟩:=zq e
  refine x8 I e1 fun v G' H' g l I' o => ?_
  split at e
  ·rename_i hd; rw [hd] at o
   exact ⟨true,o.bl,iteT ⟨env,G',val,I',e,fun w G2 H2 g2 l2 h2=>k w G2 H2 (g.trans g2) l2 (h2.base g.h)⟩⟩
  ·rename_i hd; rw [hd] at o; cases e
   exact ⟨false,o.bl,iteF (k _ G' H' g l rfl)⟩
  ·cases e
theorem zkb (ha:DE X G₀ H₀ a fa) (hb:DE X G₀ H₀ (.BoolOp .Or (b::rest) pos) fb):DE X G₀ H₀ (.BoolOp .Or (a::b::rest) pos) (fOrV fa fb) :=
 (pe_or ha hb).imp fun σ H Q q=>by
  obtain ⟨env,G,val,I,e,k⟩:=q
  obtain ⟨x,e1,e⟩:=zq e
  refine x8 I e1 fun v G' H' g l I' o => ?_
  split at e
  ·rename_i hd; rw [hd] at o
   exact ⟨false,o.bl,iteF ⟨env,G',val,I',e,fun w G2 H2 g2 l2 h2=>k w G2 H2 (g.trans g2) l2 (h2.base g.h)⟩⟩
  ·rename_i hd; rw [hd] at o; cases e
   exact ⟨true,o.bl,iteT (k _ G' H' g l rfl)⟩
  ·cases e
theorem zlG (ha:DE X G₀ H₀ a fa):DE X G₀ H₀ (.UnaryOp .Not a pos) (zlz fa) :=
 (zkV ha).imp fun σ H Q q=>by
  obtain ⟨env,G,val,I,e,k⟩:=q
  obtain ⟨x,e1,e⟩:=zq e
  refine x8 I e1 fun v G' H' g l I' o => ?_
  split at e
  ·rename_i c hd; rw [hd] at o; cases e
   exact ⟨c,o.bl,k _ G' H' g l rfl⟩
  ·cases e
@[simp] noncomputable def fIf (ft:FT) (fa fb:FE):FE:=fun env=>(ft env).bind fun c=>if c=true then fa env else fb env
theorem de_if {c:Expr} (hc:DT X G₀ H₀ c ft) (ha:DE X G₀ H₀ a fa) (hb:DE X G₀ H₀ b fb):DE X G₀ H₀ (.IfExp c a b pos) (fIf ft fa fb) :=
 (zhU hc ha hb).imp fun σ H Q q=>by
  obtain ⟨env,G,val,I,e,k⟩:=q
  obtain ⟨x,e1,e⟩:=zq e
  refine ⟨env,G,x,I,e1,fun G' H' g l => ?_⟩
  cases x with
  | true=>exact iteT ⟨env,G',val,I.grow g l,e,fun w G2 H2 g2 l2 h2=>k w G2 H2 (g.trans g2) l2 (h2.base g.h)⟩
  | false=>exact iteF ⟨env,G',val,I.grow g l,e,fun w G2 H2 g2 l2 h2=>k w G2 H2 (g.trans g2) l2 (h2.base g.h)⟩
@[simp] noncomputable def fCh (g g':D→D→Out Val) (fa fb fc:FE):FE:=fun env=>(fa env).bind fun x=>(fb env).bind fun y=>(g x.d y.d).bind fun z=>match z.d with
  | .bl true=>(fc env).bind fun w=>g' y.d w.d
  | .bl false=>.ok (.pers (.bl false))
  | _=>.bad
theorem zlw {c:Expr} {fc:FE} {r r':R2} {g g':D→D→Out Val} (hd:OpD X.K r g) (hd':OpD X.K r' g') (σ:St) (H:Hp) (Q:VK) (q:tE X.K G₀ H₀ (fCh g g' fa fb fc) σ H Q) :
 ziG r r' (tE X.K G₀ H₀ fa) (tE X.K G₀ H₀ fb) (tE X.K G₀ H₀ fc) σ H Q:=by
 obtain ⟨env,G,val,I,e,k⟩:=q
 obtain ⟨x,e1,e⟩:=zq e
 obtain ⟨y,e2,e⟩:=zq e
 obtain ⟨z,e3,e⟩:=zq e
 refine ziE I e1 e2 fun v u G1 H1 g1 l1 I1 o1 o2=>hd G₀ H₀ env σ G1 H1 v u _ _ z _ I1 o1 o2 e3 fun w G2 H2 g2 l2 h2 => ?_
 obtain ⟨G3,g3,l3,o3⟩:=opd g2 l2 h2
 split at e
 ·rename_i hz
  rw [hz] at o3
  obtain ⟨w',e4,e⟩:=zq e
  refine ⟨true,o3.bl,iteT (x8 (I1.grow g3 l3) e4 fun t G4 H4 g4 l4 I4 o4=>hd' G₀ H₀ env σ G4 H4 u t _ _ val Q I4 ((o2.mono g3.g).mono g4.g) o4 e fun s G5 H5 g5 l5 h5 => ?_)⟩
  have g04:=(g1.trans g3).trans g4
  exact k s G5 H5 (g04.trans g5) l5 (h5.base g04.h)
 ·rename_i hz
  rw [hz] at o3
  cases e
  exact ⟨false,o3.bl,iteF (k _ G3 H2 (g1.trans g3) l3 rfl)⟩
 ·cases e
theorem zg3 {c:Expr} {fc:FE} (ha:DE X G₀ H₀ a fa) (hb:DE X G₀ H₀ b fb) (hc:DE X G₀ H₀ c fc) (hm:lastMarks [.Lt,.Lt] [b,c]=false:=by with_unfolding_all rfl):DT X G₀ H₀ (.Compare a [.Lt,.Lt] [b,c] pos) (fTrB (fCh gLt gLt fa fb fc)) :=
 (zhQ zjF zjF ha hb hc hm).imp fun σ H Q q=>zlw (c:=c) wM wM σ H _ (zfS q)
end
theorem xp {α:Type} {l:List α} {i:Nat} {x s:α} (h:(l.set i x)[i]?=some s):s=x∧i<l.length:=by
 rw [List.getElem?_set] at h
 simp at h
 exact ⟨h.2.symm,h.1⟩
section
variable {K:PySem.W.Frag} {G₀ H₀ G H:Hp} {env:Ev} {σ:St}
theorem DI.setP (I:DI K G₀ H₀ env σ G H) {d:D} {v:V} (i:Nat) (r:Rep K G d v):DI K G₀ H₀ (env.set i (.pers d)) (σ.set i (some v)) G H where
 le:=I.le
 gr:=I.gr
 len:=by simp [I.len]
 slot:=fun j s e=>by
  by_cases hj:i=j
  ·subst hj
   obtain ⟨rfl,hl⟩:=xp e
   exact ⟨v,by rw [List.getElem?_set]; simp [I.len ▸ hl],r⟩
  ·rw [List.getElem?_set_ne hj] at e
   have q:=I.slot j s e
   cases s with
   | un=>trivial
   | pers d'=>obtain ⟨u,h1,h2⟩:=q; exact ⟨u,by rw [List.getElem?_set_ne hj]; exact h1,h2⟩
   | own ds=>obtain ⟨a,vs,o⟩:=q; exact ⟨a,vs,by rw [List.getElem?_set_ne hj]; exact o.at_,o.hp,o.gn,o.new,o.rep⟩
 apart:=fun j k ds es a hjk e1 e2 s1 s2=>by
  have nj:i≠j:=fun z=>by subst z; cases (xp e1).1
  have nk:i≠k:=fun z=>by subst z; cases (xp e2).1
  rw [List.getElem?_set_ne nj] at e1 s1
  rw [List.getElem?_set_ne nk] at e2 s2
  exact I.apart j k ds es a hjk e1 e2 s1 s2
theorem DI.setO (I:DI K G₀ H₀ env σ G H) {ds:List D} {vs:List V} {a:Addr} (i:Nat) (ha:H a=some (.lst vs)) (hg:G a=none) (h0:H₀ a=none) (r:RepL K G ds vs)
 (ne:∀ (j:Nat) (es:List D),env[j]?=some (.own es)→σ[j]?≠some (some (.ref a))):DI K G₀ H₀ (env.set i (.own ds)) (σ.set i (some (.ref a))) G H where
 le:=I.le
 gr:=I.gr
 len:=by simp [I.len]
 slot:=fun j s e=>by
  by_cases hj:i=j
  ·subst hj
   obtain ⟨rfl,hl⟩:=xp e
   exact ⟨a,vs,by rw [List.getElem?_set]; simp [I.len ▸ hl],ha,hg,h0,r⟩
  ·rw [List.getElem?_set_ne hj] at e
   have q:=I.slot j s e
   cases s with
   | un=>trivial
   | pers d'=>obtain ⟨u,h1,h2⟩:=q; exact ⟨u,by rw [List.getElem?_set_ne hj]; exact h1,h2⟩
   | own ds=>obtain ⟨a,vs,o⟩:=q; exact ⟨a,vs,by rw [List.getElem?_set_ne hj]; exact o.at_,o.hp,o.gn,o.new,o.rep⟩
 apart:=fun j k ds' es b hjk e1 e2 s1 s2=>by
  by_cases hj:i=j
  ·subst hj
   have hl:=(xp e1).2
   rw [List.getElem?_set] at s1
   simp [I.len ▸ hl] at s1
   subst s1
   rw [List.getElem?_set_ne hjk] at e2 s2
   exact ne k es e2 s2
  ·by_cases hk:i=k
   ·subst hk
    have hl:=(xp e2).2
    rw [List.getElem?_set] at s2
    simp [I.len ▸ hl] at s2
    subst s2
    rw [List.getElem?_set_ne hj] at e1 s1
    exact ne j ds' e1 s1
   ·rw [List.getElem?_set_ne hj] at e1 s1
    rw [List.getElem?_set_ne hk] at e2 s2
    exact I.apart j k ds' es b hjk e1 e2 s1 s2
theorem DI.mut (I:DI K G₀ H₀ env σ G H) {i:Nat} {ds ds':List D} {a:Addr} {vs vs':List V} (e:env[i]?=some (.own ds)) (o:SlotOwn K H₀ σ G H i ds a vs) (r:RepL K G ds' vs') :
 DI K G₀ H₀ (env.set i (.own ds')) σ G (upd H a (.lst vs')) where
 le:=fun b u q=>by rw [zJ (zH q o.gn)]; exact I.le b u q
 gr:=⟨I.gr.g,fun b u q=>by rw [zJ (zH q o.new)]; exact I.gr.h b u q,I.gr.n⟩
 len:=by simp [I.len]
 slot:=fun j s e'=>by
  by_cases hj:i=j
  ·subst hj
   obtain ⟨rfl,hl⟩:=xp e'
   exact ⟨a,vs',o.at_,zX,o.gn,o.new,r⟩
  ·rw [List.getElem?_set_ne hj] at e'
   have q:=I.slot j s e'
   cases s with
   | un=>trivial
   | pers d'=>exact q
   | own es =>
     obtain ⟨b,us,p⟩:=q
     have hb:b≠a:=fun z=>by subst z; exact I.apart i j ds es b hj e e' o.at_ p.at_
     exact ⟨b,us,p.at_,by rw [zJ hb]; exact p.hp,p.gn,p.new,p.rep⟩
 apart:=fun j k ds' es b hjk e1 e2 s1 s2=>by
  have h1:∃ ds1,env[j]?=some (.own ds1):=by
   by_cases hj:i=j
   ·subst hj; exact ⟨_,e⟩
   ·rw [List.getElem?_set_ne hj] at e1; exact ⟨_,e1⟩
  have h2:∃ ds1,env[k]?=some (.own ds1):=by
   by_cases hk:i=k
   ·subst hk; exact ⟨_,e⟩
   ·rw [List.getElem?_set_ne hk] at e2; exact ⟨_,e2⟩
  obtain ⟨x1,h1⟩:=h1
  obtain ⟨x2,h2⟩:=h2
  exact I.apart j k x1 x2 b hjk h1 h2 s1 s2
end
theorem zaS.mono {K:PySem.W.Frag} {G₀ H₀ G G':Hp} {D:Ends} {r:Res} (h:zaS K G₀ H₀ G D r) (s:Same G G'):zaS K G₀ H₀ G' D r:=by
 cases r with
 | next env=>exact fun σ' G2 H2 s2 I2=>h σ' G2 H2 (s.trans s2) I2
 | ret v=>exact h
@[simp] noncomputable def setS (i:Nat) (fz:Bool) (f:FE):FS:=fun env=>(f env).bind fun x=>match x with
  | .pers d=>.ok (.next (env.set i (.pers d)))
  | .fresh ds=>.ok (.next (env.set i (if fz then .pers (.lst ds) else .own ds)))
  | .brw _ _=>.bad
section
variable {K:PySem.W.Frag} {G₀ H₀:Hp}
theorem zck {i:Nat} {fz:Bool} {f:FE} {D:Ends} {σ:St} {H:Hp} (q:tS K G₀ H₀ (setS i fz f) D σ H):tE K G₀ H₀ f σ H fun x H1=>D.nx (σ.set i (some x)) H1:=by
 obtain ⟨env,G,r,I,e,k⟩:=q
 obtain ⟨x,e1,e⟩:=zq e
 refine ⟨env,G,x,I,e1,fun v G' H' g l h => ?_⟩
 have I':=I.grow g l
 cases x with
 | pers d =>
   cases e
   exact k _ G' H' g.g (I'.setP i h)
 | brw j ds=>cases e
 | fresh ds =>
   cases e
   cases fz with
   | true =>
     obtain ⟨G2,g2,l2,h2⟩:=held g l h rfl
     exact k _ G2 H' g2.g ((I.grow g2 l2).setP i h2)
   | false =>
     obtain ⟨a,vs,rfl,h1,h2,h3,h4⟩:=h
     refine k _ G' H' g.g (I'.setO i h2 h3 (I.gr.h.free h1) h4 fun j es e2 s2 => ?_)
     obtain ⟨b,us,o⟩:=I.own e2
     have z:=o.at_
     rw [s2] at z
     cases z
     have z:=o.hp
     rw [h1] at z
     cases z
end
section
variable {X:Cx} {G₀ H₀:Hp} {pos:Pos}
theorem zA {i:Nat} {x:Str} {e:Expr} {f:FE} {pos':Pos} (fz:Bool) (hN:X.N.Nodup) (he:DE X G₀ H₀ e f) (hi:X.N[i]?=some x:=by rfl) (hx:Loc X.env.scope x:=by first | exact Or.inl rfl | exact Or.inr rfl)
 (hs:swapsWith e (some (.Name x pos')) pos.line X.env=pure false:=by rfl) (hf:X.fn x=true∨X.env.scope.names.lookup x=some .local:=by first | exact .inl rfl | exact .inr rfl) :
 DS X G₀ H₀ (.Assign [.Name x pos'] e pos) (setS i fz f):=(ziM hN hi hx he hs hf).imp fun D σ H q=>zck q
end
noncomputable def tG (K:PySem.W.Frag) (G₀ H₀:Hp) (g:D→Ev→Out Ev):TG:=fun v σ H Q=>∃ env G d env',DI K G₀ H₀ env σ G H∧Rep K G d v∧g d env=.ok env'∧∀ σ',DI K G₀ H₀ env' σ' G H→Q σ' H
@[simp] noncomputable def setAll:List Nat→List D→Ev→Ev
  | i::is,d::ds,env=>setAll is ds (env.set i (.pers d))
  | _,_,env=>env
noncomputable def tGs (K:PySem.W.Frag) (G₀ H₀:Hp) (is:List Nat):TGs:=fun vs σ H Q=>∃ env G ds,DI K G₀ H₀ env σ G H∧RepL K G ds vs∧ds.length=is.length∧∀ σ',DI K G₀ H₀ (setAll is ds env) σ' G H→Q σ' H
noncomputable def DG (X:Cx) (G₀ H₀:Hp) (tg:Expr) (g:D→Ev→Out Ev):Prop:=PG X tg (tG X.K G₀ H₀ g)
noncomputable def DGs (X:Cx) (G₀ H₀:Hp) (ts:List Expr) (is:List Nat):Prop:=PGs X ts (tGs X.K G₀ H₀ is)
@[simp] noncomputable def gN (i:Nat):D→Ev→Out Ev:=fun d env=>.ok (env.set i (.pers d))
@[simp] noncomputable def gT (is:List Nat):D→Ev→Out Ev:=fun d env=>match d with
  | .tup ds=>if ds.length=is.length then .ok (setAll is ds env) else .bad
  | _=>.bad
section
variable {X:Cx} {G₀ H₀:Hp} {pos:Pos}
theorem yf {i:Nat} {x:Str} (hN:X.N.Nodup) (hi:X.N[i]?=some x:=by rfl) (hx:Loc X.env.scope x:=by first | exact Or.inl rfl | exact Or.inr rfl) (hf:X.fn x=true∨X.env.scope.names.lookup x=some .local:=by first | exact .inl rfl | exact .inr rfl) :
 DG X G₀ H₀ (.Name x pos) (gN i):=fun pins s σ H v u Q I r q=>tX hN hi hx hf pins s σ H v u Q I r (by
 obtain ⟨env,G,d,env',J,h,e,k⟩:=q
 cases e
 exact k _ (J.setP i h))
theorem zbW:DGs X G₀ H₀ [] []:=fun pins s σ H vs us Q I r q=>zgi pins s σ H vs us Q I r (by
 obtain ⟨env,G,ds,J,h,e,k⟩:=q
 cases ds with
 | nil=>cases (show vs=[] from h); exact ⟨rfl,k σ J⟩
 | cons d ds=>cases e)
theorem xl {i:Nat} {x:Str} {es:List Expr} {is:List Nat} (hN:X.N.Nodup) (hr:DGs X G₀ H₀ es is) (hi:X.N[i]?=some x:=by rfl) (hx:Loc X.env.scope x:=by first | exact Or.inl rfl | exact Or.inr rfl) (hf:X.fn x=true∨X.env.scope.names.lookup x=some .local:=by first | exact .inl rfl | exact .inr rfl)
 (hs:(assignEach (.Name x pos::es) X.env).map (·.2)=assign (.Name x pos) X.env::(assignEach es X.env).map (·.2):=by rfl) :
 DGs X G₀ H₀ (.Name x pos::es) (i::is):=fun pins s σ H vs us Q I r q=>zbG (tX hN hi hx hf) hr hs pins s σ H vs us Q I r (by
 obtain ⟨env,G,ds,J,h,e,k⟩:=q
 cases ds with
 | nil=>cases e
 | cons d ds =>
   obtain ⟨v,vr,rfl,h1,h2⟩:=h
   exact ⟨v,vr,rfl,env.set i (.pers d),G,ds,J.setP i h1,h2,by simpa using e,k⟩)
theorem zeS {es:List Expr} {k:Nat} {is:List Nat} (hc:X.calm=true) (h:DGs X G₀ H₀ es is) (hn:(assignEach es X.env).length=is.length:=by rfl) (hst:(assignEach es X.env).findIdx? (·.1)=none:=by rfl) :
 DG X G₀ H₀ (.Tuple es k pos) (gT is):=fun pins s σ H v u Q I r q=>ziN hc h hn hst pins s σ H v u Q I r (by
 obtain ⟨env,G,d,env',J,h,e,k⟩:=q
 unfold gT at e
 split at e
 ·rename_i ds
  split at e
  ·rename_i hl
   cases e
   obtain ⟨a,vs,e1,h1,r1⟩:=h
   exact ⟨a,vs,e1,SqT.of (J.le _ _ h1),by rw [←r1.length]; exact hl,env,G,ds,J,r1,hl,k⟩
  ·cases e
 ·cases e)
end
@[simp] noncomputable def retS (f:FE):FS:=fun env=>(f env).bind fun x=>match x with
  | .brw _ ds=>.ok (.ret (.fresh ds))
  | x=>.ok (.ret x)
@[simp] noncomputable def nxtS:FS:=fun env=>.ok (.next env)
@[simp] noncomputable def ifS (ft:FT) (f g:FS):FS:=fun env=>(ft env).bind fun c=>if c=true then f env else g env
@[simp] noncomputable def seqS (f g:FS):FS:=fun env=>(f env).bind fun r=>match r with
  | .next env'=>g env'
  | .ret v=>.ok (.ret v)
section
variable {X:Cx} {G₀ H₀:Hp} {pos:Pos}
theorem zG {e:Expr} {f:FE} (he:DE X G₀ H₀ e f):DS X G₀ H₀ (.Return (some e) pos) (retS f):=(zgc he).imp fun D σ H q=>by
 obtain ⟨env,G,r,I,e,k⟩:=q
 obtain ⟨x,e1,e⟩:=zq e
 refine ⟨env,G,x,I,e1,fun v G' H' g l h => ?_⟩
 cases x with
 | pers d=>cases e; exact k v G' H' (I.gr.trans g) l h
 | fresh ds =>
   cases e
   obtain ⟨a,vs,rfl,h1,h2⟩:=h
   exact k _ G' H' (I.gr.trans g) l ⟨a,vs,rfl,I.gr.h.free h1,h2⟩
 | brw i ds =>
   cases e
   obtain ⟨a,rfl,e2,e3⟩:=h
   obtain ⟨b,vs,o⟩:=(I.grow g l).own e2
   have z:=o.at_
   rw [e3] at z
   cases z
   exact k _ G' H' (I.gr.trans g) l ⟨a,vs,rfl,o.new,o.hp,o.gn,o.rep⟩
theorem z7 {c:Expr} {a b:List Stmt} {ft:FT} {f g:FS} (hc:DT X G₀ H₀ c ft) (ha:DSs X G₀ H₀ a f) (hb:DSs X G₀ H₀ b g):DS X G₀ H₀ (.If c a b pos) (ifS ft f g):=(zjq hc ha hb).imp fun D σ H q=>by
 obtain ⟨env,G,r,I,e,k⟩:=q
 obtain ⟨x,e1,e⟩:=zq e
 refine ⟨env,G,x,I,e1,fun G' H' g l => ?_⟩
 cases x with
 | true=>exact iteT ⟨env,G',r,I.grow g l,e,k.mono g.g⟩
 | false=>exact iteF ⟨env,G',r,I.grow g l,e,k.mono g.g⟩
theorem zE:DSs X G₀ H₀ [] nxtS:=zdh.imp fun D σ H q=>by
 obtain ⟨env,G,r,I,e,k⟩:=q
 cases e
 exact k σ G H (Same.refl _) I
theorem zk {st:Stmt} {rest:List Stmt} {f g:FS} (h1:DS X G₀ H₀ st f) (h2:DSs X G₀ H₀ rest g):DSs X G₀ H₀ (st::rest) (seqS f g):=(tu h1 h2).imp fun D σ H q=>by
 obtain ⟨env,G,r,I,e,k⟩:=q
 obtain ⟨x,e1,e⟩:=zq e
 refine ⟨env,G,x,I,e1,?_⟩
 cases x with
 | next env'=>exact fun σ' G' H' s I'=>⟨env',G',r,I',e,k.mono s⟩
 | ret v=>cases e; exact k
theorem zu {st:Stmt} {f:FS} (h1:DS X G₀ H₀ st f):DSs X G₀ H₀ [st] f:=uo h1
end
@[simp] noncomputable def appS (i:Nat) (f:FE):FS:=fun env=>match env[i]? with
  | some (.own ds)=>if ds.length<100000 then (f env).bind fun x=>x.hold.bind fun d=>.ok (.next (env.set i (.own (ds++[d])))) else .bad
  | _=>.bad
@[simp] noncomputable def revS (i:Nat):FS:=fun env=>match env[i]? with
  | some (.own ds)=>.ok (.next (env.set i (.own ds.reverse)))
  | _=>.bad
@[simp] noncomputable def extS (i:Nat) (f:FE):FS:=fun env=>match env[i]? with
  | some (.own ds)=>(f env).bind fun x=>match x with
    | .pers (.lst es)=>if ds.length+es.length≤100000 then .ok (.next (env.set i (.own (ds++es)))) else .bad
    | .fresh es=>if ds.length+es.length≤100000 then .ok (.next (env.set i (.own (ds++es)))) else .bad
    | _=>.bad
  | _=>.bad
@[simp] noncomputable def putS (i:Nat) (fk f:FE):FS:=fun env=>match env[i]? with
  | some (.own ds)=>(f env).bind fun x=>x.hold.bind fun d=>(fk env).bind fun y=>match y.d with
    | .int k=>match ixN ds.length k with
      | some j=>.ok (.next (env.set i (.own (ds.set j d))))
      | none=>.bad
    | _=>.bad
  | _=>.bad
section
variable {X:Cx} {G₀ H₀:Hp} {pos p1 apos cpos:Pos} {i:Nat} {x:Str} {e:Expr} {f:FE}
theorem yW (hv:PE X (.Name x p1) (tVar i)) (he:DE X G₀ H₀ e f) (hfew:((backTo cpos (starEach [e] X.env)).all (fun x => !x.1)&&(backToKw cpos (keywordEach [] X.env)).all (fun x=>x.1.isSome)
 && decide ([e].length+([]:List Keyword).length+(if ([]:List Keyword).isEmpty then 0 else 1)<30))=true:=by rfl)
 (hline:(apos.endLine == cpos.line)=true:=by rfl) (hs:starEach [e] X.env=[(false,eval e X.env)]:=by rfl) :
 DS X G₀ H₀ (.Expr (.Call (.Attribute (.Name x p1) "append" apos) [e] [] cpos) pos) (appS i f) :=
 (zbF (zjB PySem.F.plainAttrs_list PySem.F.slot_list_append PySem.F.type_list_append zaa hv (yn he vo hs) rfl hfew hline hs rfl) rfl).imp fun D σ H q=>by
  obtain ⟨env,G,r,I,e,k⟩:=q
  unfold appS at e
  split at e
  ·rename_i ds hd
   split at e
   ·rename_i hz
    obtain ⟨y,e1,e⟩:=zq e
    obtain ⟨d,e2,e⟩:=zq e
    cases e
    obtain ⟨a,vs,o⟩:=I.own hd
    refine ⟨.ref a,o.at_,.inl ⟨rfl,vs,SqL.of o.hp⟩,env,G,y,I,e1,fun v G' H' g l h => ?_⟩
    obtain ⟨G2,g2,l2,h2⟩:=held g l h e2
    have I2:=I.grow g2 l2
    obtain ⟨b,us,o2⟩:=I2.own hd
    have z:=o2.at_
    rw [o.at_] at z
    cases z
    exact ⟨a,us,v,rfl,rfl,o2.hp,by rw [←o2.rep.length,sizeLine_eq]; lia,k σ G2 _ g2.g (I2.mut hd o2 (o2.rep.append (RepL.cons h2 RepL.nil)))⟩
   ·cases e
  ·cases e
theorem zft (hv:PE X (.Name x p1) (tVar i)) (hline:(apos.endLine == cpos.line)=true:=by rfl) :
 DS X G₀ H₀ (.Expr (.Call (.Attribute (.Name x p1) "reverse" apos) [] [] cpos) pos) (revS i) :=
 (zbF (ziO PySem.F.plainAttrs_list PySem.F.slot_list_reverse PySem.F.type_list_reverse zfk hv rfl hline) rfl).imp fun D σ H q=>by
  obtain ⟨env,G,r,I,e,k⟩:=q
  unfold revS at e
  split at e
  ·rename_i ds hd
   cases e
   obtain ⟨a,vs,o⟩:=I.own hd
   exact ⟨.ref a,o.at_,.inl ⟨rfl,vs,SqL.of o.hp⟩,a,vs,rfl,rfl,o.hp,k σ G _ (Same.refl _) (I.mut hd o o.rep.reverse)⟩
  ·cases e
theorem zcS (hv:PE X (.Name x p1) (tVar i)) (he:DE X G₀ H₀ e f) (hfew:((backTo cpos (starEach [e] X.env)).all (fun x => !x.1)&&(backToKw cpos (keywordEach [] X.env)).all (fun x=>x.1.isSome)
 && decide ([e].length+([]:List Keyword).length+(if ([]:List Keyword).isEmpty then 0 else 1)<30))=true:=by rfl)
 (hline:(apos.endLine == cpos.line)=true:=by rfl) (hs:starEach [e] X.env=[(false,eval e X.env)]:=by rfl) :
 DS X G₀ H₀ (.Expr (.Call (.Attribute (.Name x p1) "extend" apos) [e] [] cpos) pos) (extS i f) :=
 (zbF (zjB PySem.F.plainAttrs_list PySem.F.slot_list_extend PySem.F.type_list_extend zgz hv (yn he vo hs) rfl hfew hline hs rfl) rfl).imp fun D σ H q=>by
  obtain ⟨env,G,r,I,e,k⟩:=q
  have main:∀ ds es y,env[i]?=some (.own ds)→f env=.ok y→y.hold=.ok (.lst es)→ds.length+es.length≤100000→r=.next (env.set i (.own (ds++es))) →
   zkB (tBM X.K "list" zf8 (tVar i) (zfc (tE X.K G₀ H₀ f) tNil)) D σ H:=by
   intro ds es y hd e1 e2 hz hr
   subst hr
   obtain ⟨a,vs,o⟩:=I.own hd
   refine ⟨.ref a,o.at_,.inl ⟨rfl,vs,SqL.of o.hp⟩,env,G,y,I,e1,fun v G' H' g l h => ?_⟩
   obtain ⟨G2,g2,l2,h2⟩:=held g l h e2
   have I2:=I.grow g2 l2
   obtain ⟨b,us,o2⟩:=I2.own hd
   have z:=o2.at_
   rw [o.at_] at z
   cases z
   obtain ⟨c,ws,rfl,h3,r3⟩:=h2
   exact ⟨a,c,us,ws,rfl,rfl,o2.hp,l2 _ _ h3,by rw [←o2.rep.length,←r3.length]; exact zae hz,k σ G2 _ g2.g (I2.mut hd o2 (o2.rep.append r3))⟩
  unfold extS at e
  split at e
  ·rename_i ds hd
   obtain ⟨y,e1,e⟩:=zq e
   split at e
   ·rename_i es
    split at e
    ·rename_i hz
     exact main ds es _ hd e1 rfl hz (by cases e; rfl)
    ·cases e
   ·rename_i es
    split at e
    ·rename_i hz
     exact main ds es _ hd e1 rfl hz (by cases e; rfl)
    ·cases e
   ·cases e
  ·cases e
theorem zlD {tpos:Pos} {ek:Expr} {fk:FE} (hv:PE X (.Name x p1) (tVar i)) (hk:DE X G₀ H₀ ek fk) (he:DE X G₀ H₀ e f)
 (ha:∀ v,assign (.Subscript (.Name x p1) ek tpos) X.env v=(do
  let ov ← holding [v] (eval (.Name x p1) X.env)
  let iv ← holding [v,ov] (eval ek X.env)
  standAt tpos
  holding [v,ov,iv] (setItem ov iv v)
  release [v,ov,iv] []):=by intro _; rfl)
 (hs:swapsWithSole [.Subscript (.Name x p1) ek tpos] e pos.line X.env=pure false:=by rfl) (hw:swappedStores [.Subscript (.Name x p1) ek tpos] e X.env=pure none:=by rfl)
 (h1:(assignEach [.Subscript (.Name x p1) ek tpos] X.env).map (·.2)=[assign (.Subscript (.Name x p1) ek tpos) X.env]:=by rfl) :
 DS X G₀ H₀ (.Assign [.Subscript (.Name x p1) ek tpos] e pos) (putS i fk f) :=
 (zkN he (zkQ hv hk zhL ha) hs hw h1).imp fun D σ H q=>by
  obtain ⟨env,G,r,I,e,k⟩:=q
  unfold putS at e
  split at e
  ·rename_i ds hd
   obtain ⟨y,e1,e⟩:=zq e
   obtain ⟨d,e2,e⟩:=zq e
   obtain ⟨z,e3,e⟩:=zq e
   split at e
   ·rename_i kk hkk
    split at e
    ·rename_i j hj
     cases e
     refine ⟨env,G,y,I,e1,fun v G' H' g l h => ?_⟩
     obtain ⟨G2,g2,l2,h2⟩:=held g l h e2
     have I2:=I.grow g2 l2
     obtain ⟨b,us,o2⟩:=I2.own hd
     refine ⟨.ref b,o2.at_,x8 I2 e3 fun w G3 H3 g3 l3 I3 o3 => ?_⟩
     rw [hkk] at o3
     obtain ⟨c,ws,o4⟩:=I3.own hd
     have z:=o4.at_
     rw [o2.at_] at z
     cases z
     exact ⟨b,ws,kk,j,rfl,o3.int,o4.hp,by rw [←o4.rep.length]; exact hj,k σ G3 _ (g2.g.trans g3.g) (I3.mut hd o4 (o4.rep.set (h2.mono g3.g) j))⟩
    ·cases e
   ·cases e
  ·cases e
end
structure JOk (K:PySem.W.Frag) (J:It) (G:Hp) (ds:List D):Prop where
 go:∀ i G' H',Same G G'→Same G' H'→i<ds.length→J.go i H'
 stop:∀ i G' H',Same G G'→Same G' H'→ds.length≤i→J.stop i H'
 yld:∀ i G' H' x H1,Same G G'→Same G' H'→i<ds.length→J.yld i H' x H1→∃ d G1,ds[i]?=some d∧Grow G' H' G1 H1∧Same G1 H1∧Rep K G1 d x
noncomputable abbrev FI:=Ev→Out (List D)
noncomputable def tI (K:PySem.W.Frag) (G₀ H₀:Hp) (f:FI):TI:=fun σ H R=>∃ env G ds,DI K G₀ H₀ env σ G H∧f env=.ok ds∧∀ J G' H',Grow G H G' H'→Same G' H'→JOk K J G' ds→R J H'
noncomputable def DIt (X:Cx) (G₀ H₀:Hp) (tg iter:Expr) (f:FI):Prop:=PI X tg iter (tI X.K G₀ H₀ f)
theorem _root_.L2.PI.imp {X:Cx} {tg e:Expr} {t t':TI} (h:PI X tg e t) (i:∀ σ H Q,t' σ H Q→t σ H Q):PI X tg e t':=fun pins s σ H Q I q=>h pins s σ H Q I (i σ H Q q)
@[simp] noncomputable def fItL (f:FE):FI:=fun env=>(f env).bind fun x=>x.hold.bind fun d=>match d with
  | .lst ds=>.ok ds
  | .scr ns=>.ok (ns.map .int)
  | _=>.bad
noncomputable def rngD (lo:Int) (n:Nat):List D:=(List.range n).map fun (i:Nat)=>.int (lo+i)
@[simp] noncomputable def uz (f:Ev→Out (List Val)):FI:=fun env=>(f env).bind fun xs=>match xs.map Val.d with
  | [.int j]=>if -1000000≤j∧j≤1000000 then .ok (rngD 0 j.toNat) else .bad
  | _=>.bad
@[simp] noncomputable def zbR (f:Ev→Out (List Val)):FI:=fun env=>(f env).bind fun xs=>match xs.map Val.d with
  | [.int i,.int j]=>if -1000000≤i∧i≤1000000 ∧ -1000000≤j∧j≤1000000 then .ok (rngD i (j - i).toNat) else .bad
  | _=>.bad
theorem zeN {K:PySem.W.Frag} {G:Hp} {a:Addr} {ds:List D} {vs:List V} (h:SqL K G a vs) (r:RepL K G ds vs):JOk K (Itl K a) G ds where
 go:=fun i G' H' s l hi=>⟨vs,vs[i]'(by rw [←r.length]; exact hi),l.seq (s.seq h),List.getElem?_eq_getElem _⟩
 stop:=fun i G' H' s l hi=>⟨vs,l.seq (s.seq h),by rw [←r.length]; exact hi⟩
 yld:=fun i G' H' x H1 s l hi y=>by
  obtain ⟨e,y⟩:=y
  subst e
  have hx:=y vs (l.seq (s.seq h))
  obtain ⟨d,h1,h2⟩:=r.get' hx
  exact ⟨d,G',h1,Grow.refl _ _,l,h2.mono s⟩
theorem zcE {K:PySem.W.Frag} {G:Hp} (lo:Int) (n:Nat):JOk K (Itr lo n) G (rngD lo n) where
 go := fun i G' H' s l hi => by have h : i < n := by simpa [rngD] using hi
                                exact h
 stop := fun i G' H' s l hi => by have h : n ≤ i := by simpa [rngD] using hi
                                  exact h
 yld:=fun i G' H' x H1 s l hi y=>by
  obtain ⟨e,y⟩:=y
  subst e
  have hi':i<n:=by simpa [rngD] using hi
  exact ⟨.int (lo+i),G',by simp [rngD,hi'],Grow.refl _ _,l,y⟩
section
variable {X:Cx} {G₀ H₀:Hp} {tg:Expr}
theorem xt {l:Expr} {f:FE} (h:DE X G₀ H₀ l f):DIt X G₀ H₀ tg l (fItL f):=(zjw h).imp fun σ H R q=>by
 obtain ⟨env,G,ds,I,e,k⟩:=q
 obtain ⟨x,e1,e⟩:=zq e
 obtain ⟨d,e2,e⟩:=zq e
 refine ⟨env,G,x,I,e1,fun v G' H' g l h => ?_⟩
 obtain ⟨G2,g2,l2,h2⟩:=held g l h e2
 split at e
 ·cases e
  obtain ⟨a,vs,rfl,h3,r3⟩:=h2
  exact ⟨a,rfl,⟨vs,SqL.of (l2 _ _ h3)⟩,k _ G2 H' g2 l2 (zeN (SqL.of h3) r3)⟩
 ·rename_i ns
  cases e
  obtain ⟨a,rfl,h3⟩:=h2
  exact ⟨a,rfl,⟨_,l2.seq h3⟩,k _ G2 H' g2 l2 (zeN h3 (RepL.ints ns))⟩
 ·cases e
theorem wm {a:Expr} {f:Ev→Out (List Val)} {p pos:Pos} (hm:X.mg "range" = none) (ha:DA X G₀ H₀ [a] f) (hg:Gl X "range" := by rfl) (hs:starEach [a] X.env=[(false,eval a X.env)]:=by rfl) :
 DIt X G₀ H₀ tg (.Call (.Name "range" p) [a] [] pos) (uz f):=(zgh hg hm ha hs).imp fun σ H R q=>by
 obtain ⟨env,G,ds,I,e,k⟩:=q
 obtain ⟨xs,e1,e⟩:=zq e
 refine ⟨env,G,xs,I,e1,fun vs G' H' g l h => ?_⟩
 split at e
 ·rename_i j hj
  split at e
  ·rename_i hb
   cases e
   obtain ⟨v,rfl,o⟩:=zb7 h hj
   exact ⟨j,by rw [o.int],by lia,by lia,k _ G' H' g l (zcE 0 _)⟩
  ·cases e
 ·cases e
theorem zax {a b:Expr} {f:Ev→Out (List Val)} {p pos:Pos} (hm:X.mg "range" = none) (ha:DA X G₀ H₀ [a,b] f) (hg:Gl X "range" := by rfl) (hs:starEach [a,b] X.env=[(false,eval a X.env),(false,eval b X.env)]:=by rfl) (hs2:starEach [b] X.env=[(false,eval b X.env)]:=by rfl) :
 DIt X G₀ H₀ tg (.Call (.Name "range" p) [a,b] [] pos) (zbR f):=(zgg hg hm ha hs hs2).imp fun σ H R q=>by
 obtain ⟨env,G,ds,I,e,k⟩:=q
 obtain ⟨xs,e1,e⟩:=zq e
 refine ⟨env,G,xs,I,e1,fun vs G' H' g l h => ?_⟩
 split at e
 ·rename_i i j hj
  split at e
  ·rename_i hb
   cases e
   obtain ⟨v,v',rfl,o,o'⟩:=zkn h hj
   exact ⟨i,j,by rw [o.int,o'.int],by lia,k _ G' H' g l (zcE i _)⟩
  ·cases e
 ·cases e
end
noncomputable def forD (g:D→Ev→Out Ev) (fb:FS):List D→Ev→Out Res
 | [],env=>.ok (.next env)
 | d::ds,env=>(g d env).bind fun env1=>(fb env1).bind fun r=>match r with
   | .next env2=>forD g fb ds env2
   | .ret v=>.ok (.ret v)
@[simp] noncomputable def forS (fi:FI) (g:D→Ev→Out Ev) (fb:FS):FS:=fun env=>(fi env).bind fun ds=>forD g fb ds env
noncomputable def whlD (ft:FT) (fb:FS):Nat→Ev→Out Res
 | 0,_=>.bad
 | n+1,env=>(ft env).bind fun c=>if c=true then (fb env).bind fun r=>match r with
   | .next env2=>whlD ft fb n env2
   | .ret v=>.ok (.ret v)
   else .ok (.next env)
section
variable {X:Cx} {G₀ H₀:Hp} {tg:Expr} {pos:Pos}
theorem wD {iter:Expr} {body:List Stmt} {fi:FI} {g:D→Ev→Out Ev} {fb:FS} (hp:PassesOwn (model X.prog X.w) X.A X.env X.xe) (hi:DIt X G₀ H₀ tg iter fi) (hg:DG X G₀ H₀ tg g) (hb:DSs X G₀ H₀ body fb) (hc:X.calm=true:=by rfl)
 (hs:∀ x,foldedSetIterable iter X.env x=pure x:=by intro _; rfl):DS X G₀ H₀ (.For tg iter body [] pos) (forS fi g fb):=(zgd hp hc hi hg hb hs).imp fun D σ H q=>by
 obtain ⟨env,G,r,I,e,k⟩:=q
 obtain ⟨ds,e1,e⟩:=zq e
 refine ⟨env,G,ds,I,e1,fun J G1 H1 g1 l1 jok => ?_⟩
 refine ⟨fun i m σ H=>m=ds.length - i∧i≤ds.length∧∃ env' G',Same G1 G'∧DI X.K G₀ H₀ env' σ G' H∧forD g fb (ds.drop i) env'=.ok r,⟨ds.length,by simp,Nat.zero_le _,env,G1,Same.refl _,I.grow g1 l1,by simpa using e⟩,?_⟩
 rintro i m σ' H' ⟨rfl,hi',env',G',s',I',e'⟩
 by_cases hlt:i<ds.length
 ·have hd:ds.drop i=ds[i]::ds.drop (i+1):=List.drop_eq_getElem_cons hlt
  rw [hd] at e'
  obtain ⟨env1,e2,e'⟩:=zq e'
  obtain ⟨r1,e3,e'⟩:=zq e'
  refine .inr ⟨jok.go i G' H' s' I'.le hlt,fun σ2 H2=>∃ env2 G2,Same G1 G2∧DI X.K G₀ H₀ env2 σ2 G2 H2∧forD g fb (ds.drop (i+1)) env2=.ok r,fun σ2 H2 ⟨env2,G2,s2,I2,e2⟩=>⟨ds.length - (i+1),by lia,rfl,hlt,env2,G2,s2,I2,e2⟩,fun x H2 y => ?_⟩
  obtain ⟨d,G2,hd2,g2,l2,r2⟩:=jok.yld i G' H' x H2 s' I'.le hlt y
  have hde:d=ds[i]:=by rw [List.getElem?_eq_getElem hlt] at hd2; exact (Option.some.inj hd2).symm
  subst hde
  refine ⟨env',G2,_,env1,I'.grow g2 l2,r2,e2,fun σ2 I2=>⟨env1,G2,r1,I2,e3,?_⟩⟩
  cases r1 with
  | next env2=>exact fun σ3 G3 H3 s3 I3=>⟨env2,G3,(s'.trans g2.g).trans s3,I3,e'⟩
  | ret v=>cases e'; exact k
 ·have hi2:i=ds.length:=by lia
  subst hi2
  rw [List.drop_length] at e'
  cases e'
  exact .inl ⟨jok.stop _ G' H' s' I'.le (Nat.le_refl _),k σ' G' H' (g1.g.trans s') I'⟩
theorem zii {c:Expr} {body:List Stmt} {ft:FT} {fb:FS} (n:Nat) (hp:PassesOwn (model X.prog X.w) X.A X.env X.xe) (hc:DT X G₀ H₀ c ft) (hb:DSs X G₀ H₀ body fb):DS X G₀ H₀ (.While c body [] pos) (whlD ft fb n) :=
 (zhR hp hc hb).imp fun D σ H q=>by
  obtain ⟨env,G,r,I,e,k⟩:=q
  refine ⟨fun m σ H=>∃ env' G',Same G G'∧DI X.K G₀ H₀ env' σ G' H∧whlD ft fb m env'=.ok r,⟨n,env,G,Same.refl _,I,e⟩,?_⟩
  rintro m σ' H' ⟨env',G',s',I',e'⟩
  cases m with
  | zero=>cases e'
  | succ m =>
    obtain ⟨c',e1,e'⟩:=zq e'
    refine ⟨env',G',c',I',e1,fun G2 H2 g2 l2 => ?_⟩
    cases c' with
    | true =>
      rw [if_pos rfl] at e' ⊢
      obtain ⟨r1,e2,e'⟩:=zq e'
      refine ⟨fun σ2 H2=>∃ env' G',Same G G'∧DI X.K G₀ H₀ env' σ2 G' H2∧whlD ft fb m env'=.ok r,fun σ3 H3 h3=>⟨m,Nat.lt_succ_self _,h3⟩,env',G2,r1,I'.grow g2 l2,e2,?_⟩
      cases r1 with
      | next env2=>exact fun σ3 G3 H3 s3 I3=>⟨env2,G3,(s'.trans g2.g).trans s3,I3,e'⟩
      | ret v=>cases e'; exact k
    | false =>
      rw [if_neg Bool.false_ne_true] at e' ⊢
      cases e'
      exact k σ' G2 H2 (s'.trans g2.g) (I'.grow g2 l2)
end
noncomputable def spD (K:PySem.W.Frag) (m:List D→Out Val) (n:Nat):Sp:=fun vs H Q _=>∃ G ds val,ds.length=n∧Same G H∧RepL K G ds vs∧m ds=.ok val ∧
 ∀ v G' H',Grow G H G' H'→Same G' H'→uf K H [] [] G' H' v val→Q v H'
@[simp] noncomputable def runD (n:Nat) (f:FS) (ds:List D):Out Val:=(f (ds.map Slot.pers++List.replicate (n - ds.length) .un)).bind fun r=>match r with
  | .ret v=>.ok v
  | .next _=>.ok (.pers .non)
theorem zhJ {K:PySem.W.Frag} {G H:Hp} {ds:List D} {vs:List V} {N:List Str} (l:Same G H) (r:RepL K G ds vs) (hl:ds.length≤N.length) :
 DI K G H (ds.map Slot.pers++List.replicate (N.length - ds.length) .un) (L2.tP N vs) G H where
 le:=l
 gr:=Grow.refl _ _
 len:=by unfold L2.tP; simp [r.length]
 slot:=fun i s e=>by
  by_cases hi:i<ds.length
  ·rw [List.getElem?_append_left (by simpa using hi),List.getElem?_map,List.getElem?_eq_getElem hi] at e
   cases e
   obtain ⟨v,h1,h2⟩:=r.get (List.getElem?_eq_getElem hi)
   refine ⟨v,?_,h2⟩
   unfold L2.tP
   rw [List.getElem?_append_left (by simp [←r.length,hi]),List.getElem?_map,h1]
   rfl
  ·rw [List.getElem?_append_right (by simpa using hi),List.getElem?_replicate] at e
   split at e
   ·cases e; trivial
   ·cases e
 apart:=fun i j es fs a _ e _ _ _=>by
  by_cases hi:i<ds.length
  ·rw [List.getElem?_append_left (by simpa using hi),List.getElem?_map,List.getElem?_eq_getElem hi] at e
   cases e
  ·rw [List.getElem?_append_right (by simpa using hi),List.getElem?_replicate] at e
   split at e <;> cases e
theorem y0 {P:Program} {w:World} {K:PySem.W.Frag} {mg:Str→Option Value} {base:Heap} {x qual:Str} {st:Stmt} {f:Addr} {fd:FuncData} {N ps:List Str} {k:Nat} {fb:FS} (F:Fun K x qual st f fd) (S:FnScope N ps (defScope st))
 (hb:∀ (cdv:Value) (A:Around) (outer:List Env) (s:Shared) (G H:Hp) (E:XK),Room k (A.deeper (envOfC qual (defScope st) s.heap.objs.size f cdv)) →
  DSs (cxOf CX0 P w K mg base N qual (defScope st) f cdv A outer s H E).nox G H (defBody st) fb):FnOk P w K mg base CX0 (k+1) f fd ps (spD K (runD N.length fb) ps.length):=by
 have hpl:ps.length≤N.length:=by have:=congrArg List.length S.pre; rw [List.length_take] at this; lia
 refine F.ok S (fun vs H Q E h => ?_) fun cdv A outer s H vs Q E hr h => ?_
 ·obtain ⟨G,ds,val,hl,_,r,_⟩:=h
  rw [←r.length]; exact hl
 ·obtain ⟨G,ds,val,hl,l,r,hm,k'⟩:=h
  refine ⟨_,hb cdv A outer s G H E hr,?_⟩
  obtain ⟨r',e1,e2⟩:=zq hm
  refine ⟨_,G,r',zhJ l r (by lia),e1,?_⟩
  cases r' with
  | next env=>cases e2; exact fun σ' G' H' s' I'=>k' _ G' H' I'.gr I'.le rfl
  | ret v=>cases e2; exact fun v' G' H' g' l' h'=>k' v' G' H' g' l' h'
mutual
noncomputable def zdl:D→Bool
 | .tup ds=>tZ ds
 | .lst _=>false
 | .scr _=>false
 | .exc _ _=>false
 | _=>true
noncomputable def tZ:List D→Bool
 | []=>true
 | d::ds=>zdl d&&tZ ds
end
@[simp] noncomputable def Val.calm:Val→Bool
  | .pers d=>zdl d
  | .fresh ds=>tZ ds
  | .brw _ _=>false
@[simp] noncomputable def Val.isPers:Val→Bool
  | .pers _=>true
  | _=>false
@[simp] noncomputable def callG (m:List D→Out Val) (xs:List Val):Out Val:=(m (xs.map Val.d)).bind fun v=>if (xs.all Val.isPers || v.calm)=true then .ok v else .bad
@[simp] noncomputable def zL (m:List D→Out Val) (r:Ev→Out (List Val)):FE:=fun env=>(r env).bind fun xs=>callG m xs
theorem zhu {K:PySem.W.Frag} {env:Ev} {σ:St} {G:Hp}:∀ {vs:List V} {xs:List Val},zaL K env σ G vs xs→xs.all Val.isPers=true→RepL K G (xs.map Val.d) vs
 | [],xs,h,_=>by cases (show xs=[] from h); rfl
 | v::vs,xs,h,hp=>by
   obtain ⟨x,r,rfl,h1,h2⟩:=h
   rw [List.all_cons,Bool.and_eq_true] at hp
   cases x with
   | pers d=>exact RepL.cons h1 (zhu h2 hp.2)
   | fresh ds=>cases hp.1
   | brw i ds=>cases hp.1
noncomputable def vq (env:Ev) (σ:St) (b:Addr):Prop:=∃ (i:Nat) (ds:List D),env[i]?=some (.own ds)∧σ[i]?=some (some (.ref b))
open Classical in
noncomputable def lend (env:Ev) (σ:St) (G H:Hp):Hp:=fun b=>if vq env σ b then H b else G b
open Classical in
noncomputable def vn (env:Ev) (σ:St) (G:Hp):Hp:=fun b=>if vq env σ b then none else G b
section
variable {K:PySem.W.Frag} {G₀ H₀ G H:Hp} {env:Ev} {σ:St}
theorem DI.lent (I:DI K G₀ H₀ env σ G H) {b:Addr} (h:vq env σ b):G b=none∧∃ vs,H b=some (.lst vs):=by
 obtain ⟨i,ds,e1,e2⟩:=h
 obtain ⟨a,vs,o⟩:=I.own e1
 have z:=o.at_
 rw [e2] at z
 cases z
 exact ⟨o.gn,vs,o.hp⟩
theorem zdq (I:DI K G₀ H₀ env σ G H):Same G (lend env σ G H):=fun b o q=>by
 unfold lend
 by_cases h:vq env σ b
 ·rw [(I.lent h).1] at q; cases q
 ·rw [if_neg h]; exact q
theorem zjP (I:DI K G₀ H₀ env σ G H):Same (lend env σ G H) H:=fun b o q=>by
 unfold lend at q
 by_cases h:vq env σ b
 ·rw [if_pos h] at q; exact q
 ·rw [if_neg h] at q; exact I.le b o q
theorem zcC (I:DI K G₀ H₀ env σ G H):∀ {vs:List V} {xs:List Val},zaL K env σ G vs xs→RepL K (lend env σ G H) (xs.map Val.d) vs
 | [],xs,h=>by cases (show xs=[] from h); rfl
 | v::vs,xs,h=>by
   obtain ⟨x,r,rfl,h1,h2⟩:=h
   refine RepL.cons ?_ (zcC I h2)
   cases x with
   | pers d=>exact Rep.mono (zdq I) h1
   | fresh ds=>exact h1.elim
   | brw i ds =>
     obtain ⟨a,rfl,e1,e2⟩:=h1
     obtain ⟨b,us,o⟩:=I.own e1
     have z:=o.at_
     rw [e2] at z
     cases z
     exact ⟨a,us,rfl,by unfold lend; rw [if_pos ⟨i,ds,e1,e2⟩]; exact o.hp,o.rep.mono (zdq I)⟩
mutual
theorem zaU (I:DI K G₀ H₀ env σ G H) {G':Hp} (s:Same (lend env σ G H) G'):∀ {d:D} {v:V},zdl d=true→Rep K G' d v→Rep K (vn env σ G') d v
 | .non,_,_,h=>h
 | .bl _,_,_,h=>h
 | .int _,_,_,h=>h
 | .tup ds,v,n,h=>by
   obtain ⟨a,vs,e,g,r⟩:=h
   refine ⟨a,vs,e,?_,vw I s (by simpa [zdl] using n) r⟩
   unfold vn
   by_cases hl:vq env σ a
   ·obtain ⟨_,us,q⟩:=I.lent hl
    have z:lend env σ G H a=some (.lst us):=by unfold lend; rw [if_pos hl]; exact q
    rw [s _ _ z] at g
    cases g
   ·rw [if_neg hl]; exact g
 | .lst _,_,n,_=>by simp [zdl] at n
 | .scr _,_,n,_=>by simp [zdl] at n
 | .exc _ _,_,n,_=>by simp [zdl] at n
theorem vw (I:DI K G₀ H₀ env σ G H) {G':Hp} (s:Same (lend env σ G H) G'):∀ {ds:List D} {vs:List V},tZ ds=true→RepL K G' ds vs→RepL K (vn env σ G') ds vs
 | [],_,_,h=>h
 | d::ds,vs,n,h=>by
   obtain ⟨v,r,e,h1,h2⟩:=h
   simp only [tZ,Bool.and_eq_true] at n
   exact ⟨v,r,e,zaU I s n.1 h1,vw I s n.2 h2⟩
end
end
section
variable {X:Cx} {G₀ H₀:Hp} {k:Nat} {f:Addr} {fd:FuncData} {ps:List Str} {x:Str} {p pos:Pos} {e:Expr} {es:List Expr} {r:Ev→Out (List Val)} {m:List D→Out Val}
theorem zkc (F:FnOk X.prog X.w X.K X.mg X.base CX0 k f fd ps (spD X.K m ps.length)) (hr:Room k X.A) (hm:X.mg x=some (.ref f)) (hk:PySem.W.keepIn X.K (.ref f)=true) (hb:Binds X.K fd ps []) (ha:DA X G₀ H₀ (e::es) r)
 (hlen:∀ env xs,r env=.ok xs→xs.length=ps.length) (hg:Gl X x:=by rfl) (hdb:(x == ("__debug__" : Str))=false:=by decide) (he:starEach (e::es) X.env=(false,eval e X.env)::starEach es X.env:=by rfl) (hpl:(backTo pos (starEach es X.env)).any (·.1)=false:=by rfl) :
 DE X G₀ H₀ (.Call (.Name x p) (e::es) [] pos) (zL m r):=(zgl F hr hg hm hk hb .nil zk0 ha hdb he hpl).imp fun σ H Q q=>by
 obtain ⟨env,G,val,I,e,k'⟩:=q
 obtain ⟨xs,e1,e⟩:=zq e
 obtain ⟨v,e2,e⟩:=zq e
 split at e
 ·rename_i hc
  have ev:v=val:=by cases e; rfl
  subst ev
  refine ⟨env,G,xs,I,e1,fun vs G1 H1 g1 l1 a1 => ?_⟩
  show spD X.K m ps.length (vs++[]) H1 Q E0
  rw [List.append_nil]
  have I1:=I.grow g1 l1
  have hl:(xs.map Val.d).length=ps.length:=by rw [List.length_map]; exact hlen env xs e1
  by_cases hp:xs.all Val.isPers=true
  ·refine ⟨G1,_,v,hl,l1,zhu a1 hp,e2,fun w G2 H2 g2 l2 h2=>k' w G2 H2 (g1.trans g2) l2 ?_⟩
   cases v with
   | pers d=>exact h2
   | fresh ds =>
     obtain ⟨a,us,rfl,h3,h4⟩:=h2
     exact ⟨a,us,rfl,g1.h.free h3,h4⟩
   | brw i ds=>obtain ⟨a,rfl,h3,_⟩:=h2; simp at h3
  ·have hcv:v.calm=true:=by simpa [hp] using hc
   refine ⟨lend env σ G1 H1,_,v,hl,zjP I1,zcC I1 a1,e2,fun w G2 H2 g2 l2 h2 => ?_⟩
   have gu:Grow G1 H1 (vn env σ G2) H2:=by
    refine ⟨fun b o q => ?_,g2.h,fun b q1 q2 => ?_⟩
    ·unfold vn
     by_cases hl:vq env σ b
     ·rw [(I1.lent hl).1] at q; cases q
     ·rw [if_neg hl]; exact g2.g b o (zdq I1 b o q)
    ·unfold vn
     by_cases hl:vq env σ b
     ·rw [if_pos hl]
     ·rw [if_neg hl]
      refine g2.n b q1 ?_
      unfold lend
      rw [if_neg hl]; exact q2
   have lu:Same (vn env σ G2) H2:=fun b o q=>by
    unfold vn at q
    by_cases hl:vq env σ b
    ·rw [if_pos hl] at q; cases q
    ·rw [if_neg hl] at q; exact l2 b o q
   refine k' w (vn env σ G2) H2 (g1.trans gu) lu ?_
   cases v with
   | pers d=>exact zaU I1 g2.g hcv h2
   | fresh ds =>
     obtain ⟨a,us,rfl,h3,h4,h5,h6⟩:=h2
     refine ⟨a,us,rfl,g1.h.free h3,h4,?_,vw I1 g2.g hcv h6⟩
     unfold vn
     by_cases hl:vq env σ a
     ·rw [if_pos hl]
     ·rw [if_neg hl]; exact h5
   | brw i ds=>cases hcv
 ·cases e
end
end DL
namespace DL
open PySem PySem.Spec PyProof.Rows L2
theorem yg:∀ (names:List (Str×NameKind)) (n:Nat) (acc:List (Str×Addr)),cellsFrom n names acc=cellsFrom n names []++acc
 | [],n,acc=>rfl
 | (x,k)::r,n,acc=>by
   unfold cellsFrom
   split
   ·rw [yg r (n+1) ((x,n)::acc),yg r (n+1) [(x,n)]]
    simp
   ·exact yg r n acc
theorem wx:∀ (names:List (Str×NameKind)) (n:Nat) (x:Str),(x,NameKind.cell)∉names→(cellsFrom n names []).lookup x=none
 | [],n,x,_=>rfl
 | (y,k)::r,n,x,h=>by
   have hr:(x,NameKind.cell)∉r:=fun z=>h (List.mem_cons_of_mem _ z)
   unfold cellsFrom
   split
   ·rename_i hk
    rw [yg,List.lookup_append,wx r (n+1) x hr]
    have hxy:(x == y)=false:=by
     rw [beq_eq_false_iff_ne]
     rintro rfl
     have:k=.cell:=by simpa using hk
     subst this
     exact h List.mem_cons_self
    simp [List.lookup_cons,hxy]
   ·exact wx r n x hr
noncomputable def xa (cells:List (Str×Addr)):List (Str×NameKind)→List (Str×Addr)→List (Str×Addr)
 | [],acc=>acc
 | (n,k)::r,acc=>if (k == .free)=true then xa cells r ((n,(cells.lookup n).getD 0)::acc) else xa cells r acc
theorem zbn {env:Env}:∀ (names:List (Str×NameKind)) (acc:List (Str×Addr)),(∀ n,(n,NameKind.free)∈names→∃ c,env.cells.lookup n=some c) →
 (forIn names acc fun x r=>if (x.2 == NameKind.free)=true then do let a ← cellOf env x.1; pure (ForInStep.yield ((x.1,a)::r)) else pure (ForInStep.yield r):Sem (List (Str×Addr)))=pure (xa env.cells names acc)
 | [],acc,_=>rfl
 | (n,k)::r,acc,h=>by
   have ih:=fun acc=>zbn (env:=env) r acc fun m hm=>h m (List.mem_cons_of_mem _ hm)
   rw [List.forIn_cons]
   unfold xa
   by_cases hk:(k == NameKind.free)=true
   ·have:k=.free:=by simpa using hk
    subst this
    obtain ⟨c,hc⟩:=h n List.mem_cons_self
    rw [if_pos hk,if_pos hk]
    unfold cellOf
    rw [hc]
    simp only [pure_bind,Option.getD_some]
    exact ih _
   ·rw [if_neg hk,if_neg hk]
    simp only [pure_bind]
    exact ih _
theorem v6 {scope:Scope} {env:Env} (h:∀ n,(n,NameKind.free)∈scope.names→∃ c,env.cells.lookup n=some c):closureFor scope env=pure (xa env.cells scope.names []):=by
 have:=zbn (env:=env) scope.names [] h
 unfold closureFor
 simp only [bind_pure]
 exact this
theorem xz {cells:List (Str×Addr)}:∀ (names:List (Str×NameKind)) (acc:List (Str×Addr)) (x:Str) (c:Addr),(∀ n,(n,NameKind.free)∈names→∃ c,cells.lookup n=some c) →
 (xa cells names acc).lookup x=some c→cells.lookup x=some c∨acc.lookup x=some c
 | [],acc,x,c,_,h=>.inr h
 | (n,k)::r,acc,x,c,hn,h=>by
   have hr:∀ m,(m,NameKind.free)∈r→∃ c,cells.lookup m=some c:=fun m hm=>hn m (List.mem_cons_of_mem _ hm)
   unfold xa at h
   split at h
   ·rename_i hk
    have:k=.free:=by simpa using hk
    subst this
    rcases xz r _ x c hr h with q | q
    ·exact .inl q
    ·rw [List.lookup_cons] at q
     cases hx:x == n with
     | true =>
       rw [hx] at q
       obtain ⟨c',hc⟩:=hn n List.mem_cons_self
       rw [hc] at q
       cases q
       rw [beq_iff_eq.mp hx]
       exact .inl hc
     | false=>rw [hx] at q; exact .inr q
   ·exact xz r _ x c hr h
theorem ve {cells:List (Str×Addr)}:∀ (names:List (Str×NameKind)) (acc:List (Str×Addr)) (x:Str),((x,NameKind.free)∈names∨(acc.lookup x).isSome=true)→((xa cells names acc).lookup x).isSome=true
 | [],acc,x,h=>by
   rcases h with h | h
   ·simp at h
   ·exact h
 | (n,k)::r,acc,x,h=>by
   unfold xa
   split
   ·refine ve r _ x ?_
    rcases h with h | h
    ·rcases List.mem_cons.mp h with e | e
     ·cases e
      exact .inr (by simp [List.lookup_cons])
     ·exact .inl e
    ·refine .inr ?_
     rw [List.lookup_cons]
     cases x == n with
     | true=>rfl
     | false=>exact h
   ·rename_i hk
    refine ve r _ x ?_
    rcases h with h | h
    ·rcases List.mem_cons.mp h with e | e
     ·cases e
      exact absurd rfl hk
     ·exact .inl e
    ·exact .inr h
theorem xX {env:Env}:∀ (names:List (Str×NameKind)) (x:Str) (k:NameKind),
 (names.map fun (n,k)=>if (k == NameKind.free&&env.scope.kind == .function&&env.kindOf n == some .cell) then (n,NameKind.cell) else (n,k)).lookup x=some k →
  names.lookup x=some k∨(k=.cell∧names.lookup x=some .free)
 | [],x,k,h=>by simp at h
 | (n,j)::r,x,k,h=>by
   have ih:=xX (env:=env) r x k
   rw [List.map_cons] at h
   by_cases hc:(j == NameKind.free&&env.scope.kind == .function&&env.kindOf n == some .cell)=true
   ·simp only [hc,if_true] at h
    rw [List.lookup_cons] at h ⊢
    cases hx:x == n with
    | true =>
      rw [hx] at h
      cases h
      have:j=.free:=by simp at hc; exact hc.1.1
      exact .inr ⟨rfl,by rw [this]⟩
    | false=>rw [hx] at h; exact ih h
   ·simp only [hc,Bool.false_eq_true,if_false] at h
    rw [List.lookup_cons] at h ⊢
    cases hx:x == n with
    | true=>rw [hx] at h; exact .inl h
    | false=>rw [hx] at h; exact ih h
theorem uQ {env:Env}:∀ (names:List (Str×NameKind)) (x:Str),names.lookup x=some .free →
 ((names.map fun (n,k)=>if (k == NameKind.free&&env.scope.kind == .function&&env.kindOf n == some .cell) then (n,NameKind.cell) else (n,k)).lookup x=some .cell ∨
  (names.map fun (n,k)=>if (k == NameKind.free&&env.scope.kind == .function&&env.kindOf n == some .cell) then (n,NameKind.cell) else (n,k)).lookup x=some .free)
 | [],x,h=>by simp at h
 | (n,j)::r,x,h=>by
   have ih:=uQ (env:=env) r x
   rw [List.map_cons]
   rw [List.lookup_cons] at h
   by_cases hc:(j == NameKind.free&&env.scope.kind == .function&&env.kindOf n == some .cell)=true
   ·simp only [hc,if_true]
    rw [List.lookup_cons]
    cases hx:x == n with
    | true=>exact .inl rfl
    | false=>rw [hx] at h; exact ih h
   ·simp only [hc,Bool.false_eq_true,if_false]
    rw [List.lookup_cons]
    cases hx:x == n with
    | true=>rw [hx] at h; exact .inr h
    | false=>rw [hx] at h; exact ih h
theorem ze4 {M:Model} {A:Around} {E:Value→Shared→Prop} {s:Shared} {scope:Scope} {env:Env} {cl:List (Str×Addr)} {Q:Env→Shared→Prop}
 (h:Q { scope:=scope,locals:=s.heap.objs.size,globals:=env.globals,cells:=cellsFrom (s.heap.objs.size+1) scope.names cl,qual:=env.qual,func:=none,code:=env.code,frame:=env.frame,builtins:=env.builtins }
  { s with heap:=pushCells (s.heap.push { cls:=.type "dict",data:=.dict #[] }) scope.names }) :
 wpAny M A (newFunctionEnv scope env.globals cl [] env.qual none .none (some env)) Q E s:=by
 simp only [newFunctionEnv,Option.isSome_some,if_true]
 refine wpAny_bind (wpAny_alloc ?_)
 refine wpAny_bind (wpAny_layCells _ (fun name kind cells=>by cases hkc:kind == NameKind.cell <;> simp [hkc]) _ _ _ _ ?_)
 rw [show ({ s with heap:=s.heap.push { cls:=.type "dict",data:=.dict #[] } }:Shared).heap.objs.size=s.heap.objs.size+1 from Heap.size_push ..]
 exact wpAny_bind (wpAny_pure (wpAny_pure h))
noncomputable def y9 (X:Cx) (N':List Str) (scope:Scope) (ex:List Addr) (s:Shared) (H:Hp):Cx :=
 { X with
   N:=N'
   s₀:=s
   H₀:=H
   env:=compEnvC scope (cellsFrom (s.heap.objs.size+1) scope.names (xa X.env.cells scope.names [])) s.heap.objs.size X.env
   outer:=X.stack
   stack:=X.stack
   ex:=ex
   fn:=fun x=>scope.names.lookup x == some .cell
   pn:=[]
   xe:=fun _ _=>False }
structure CompOk (X:Cx) (scope:Scope) (cap:List Nat) (own:List Str):Prop where
 kind:scope.kind=.function
 locals:∀ x∈scope.names,x.2=.local→scope.names.lookup x.1=some .local
 nd:(scope.names.map (·.1)).Nodup
 frees:(scope.names.all fun x=>x.2 != .free || (X.env.scope.names.lookup x.1 == some .cell || X.env.scope.names.lookup x.1 == some .free))=true
 caps:(cap.all fun i=>match X.N[i]? with | some x=>scope.names.lookup x == some .free | none=>false)=true
noncomputable def capN (X:Cx) (cap:List Nat) (own:List Str):List Str:=cap.map (fun i=>X.N.getD i "")++own
noncomputable def capS (cap:List Nat) (n:Nat) (σ:St):St:=cap.map (fun i=>σ.getD i none)++List.replicate n none
@[simp] noncomputable def capE (cap:List Nat) (n:Nat) (env:Ev):Ev:=cap.map (fun i=>match env[i]? with | some (.pers d)=>.pers d | _=>.un)++List.replicate n .un
noncomputable def NoOwn (env:Ev):Prop:=∀ (i:Nat) (ds:List D),env[i]?≠some (.own ds)
theorem tY (cap:List Nat) (n:Nat) (env:Ev):NoOwn (capE cap n env):=by
 intro i ds h
 unfold capE at h
 by_cases hi:i<cap.length
 ·rw [List.getElem?_append_left (by simpa using hi),List.getElem?_map,List.getElem?_eq_getElem hi] at h
  simp only [Option.map_some] at h
  split at h <;> cases h
 ·rw [List.getElem?_append_right (by simpa using hi),List.getElem?_replicate] at h
  split at h <;> cases h
theorem zlL {K:PySem.W.Frag} {G₀ H₀ G H:Hp} {env:Ev} {σ:St} (I:DI K G₀ H₀ env σ G H) (cap:List Nat) (n:Nat):DI K G₀ H₀ (capE cap n env) (capS cap n σ) G H where
 le:=I.le
 gr:=I.gr
 len:=by simp [capE,capS]
 slot:=fun i s e=>by
  cases s with
  | un=>trivial
  | own ds=>exact absurd e (tY cap n env i ds)
  | pers d =>
    unfold capE at e
    by_cases hi:i<cap.length
    ·rw [List.getElem?_append_left (by simpa using hi),List.getElem?_map,List.getElem?_eq_getElem hi] at e
     simp only [Option.map_some] at e
     split at e
     ·rename_i d' hd
      cases e
      obtain ⟨v,h1,h2⟩:=I.pers hd
      refine ⟨v,?_,h2⟩
      unfold capS
      rw [List.getElem?_append_left (by simpa using hi),List.getElem?_map,List.getElem?_eq_getElem hi]
      simp [List.getD_eq_getElem?_getD,h1]
     ·cases e
    ·rw [List.getElem?_append_right (by simpa using hi),List.getElem?_replicate] at e
     split at e <;> cases e
 apart:=fun i j ds es a _ e _ _ _=>tY cap n env i ds e
section
variable {X:Cx} {pins:List (Addr×Obj)} {σ:St} {H:Hp} {s:Shared} {scope:Scope} {cap:List Nat} {own:List Str}
theorem CompOk.free (C:CompOk X scope cap own) {n:Str} (h:(n,NameKind.free)∈scope.names):X.env.kindOf n=some .cell∨X.env.kindOf n=some .free:=by
 have q:=List.all_eq_true.mp C.frees _ h
 simp at q
 exact q
theorem CompOk.cells (C:CompOk X scope cap own) (I:Inv X pins σ H s):∀ n,(n,NameKind.free)∈scope.names→∃ c,X.env.cells.lookup n=some c:=fun n h=>I.ok.has n (C.free h)
theorem zil {fp:List Addr} (C:CompOk X scope cap own) (I:Inv X pins σ H s) (hf:∀ b∈fp,FpOk X pins H b) (hex:∀ b∈fp,b<s.heap.objs.size) :
 Inv (y9 X (capN X cap own) scope fp s H) [] (capS cap own.length σ) H { s with heap:=pushCells (s.heap.push { cls:=.type "dict",data:=.dict #[] }) scope.names }:=by
 have hcl:=C.cells I
 have keep:∀ b o,s.heap.get? b=some o→(pushCells (s.heap.push { cls:=.type "dict",data:=.dict #[] }) scope.names).get? b=some o:=fun b o e=>pushCells_keeps _ _ b o (Heap.get?_push_of_some _ e)
 have ok:=cellsFrom_ok scope.names (s.heap.push { cls:=.type "dict",data:=.dict #[] }) (s.heap.objs.size+1) [] ⟨fun _ _ hm=>(nomatch hm),List.Pairwise.nil⟩ (by rw [Heap.size_push]; exact Nat.le_refl _)
 rw [Heap.size_push] at ok
 have cases_cell:∀ x c,(cellsFrom (s.heap.objs.size+1) scope.names (xa X.env.cells scope.names [])).lookup x=some c →
  ((cellsFrom (s.heap.objs.size+1) scope.names []).lookup x=some c)∨((cellsFrom (s.heap.objs.size+1) scope.names []).lookup x=none∧X.env.cells.lookup x=some c):=fun x c h=>by
  rw [yg,List.lookup_append] at h
  cases q:(cellsFrom (s.heap.objs.size+1) scope.names []).lookup x with
  | some c'=>rw [q] at h; exact .inl h
  | none =>
    rw [q] at h
    simp at h
    rcases xz scope.names [] x c hcl h with z | z
    ·exact .inr ⟨rfl,z⟩
    ·simp at z
 have ownC:∀ x c,(cellsFrom (s.heap.objs.size+1) scope.names []).lookup x=some c→(pushCells (s.heap.push { cls:=.type "dict",data:=.dict #[] }) scope.names).IsCell c none∧s.heap.objs.size+1≤c:=fun x c h=>ok.empty x c (PySem.mem_of_lookup h)
 have oldC:∀ x c,X.env.cells.lookup x=some c→c<s.heap.objs.size:=fun x c h=>let ⟨_,z⟩:=I.cell x c h; z.lt
 have kindX:∀ x,(compEnvC scope (cellsFrom (s.heap.objs.size+1) scope.names (xa X.env.cells scope.names [])) s.heap.objs.size X.env).kindOf x=(relabel scope X.env).names.lookup x:=fun _=>rfl
 refine ⟨⟨I.ok.mod,C.kind,I.ok.glob,I.ok.blt,Nat.le_refl _,fun x y c h1 h2 => ?_,fun x hx => ?_,fun x c hx h => ?_,I.ok.hd,I.ok.frames,.inl rfl,fun b hb => ?_,I.bs,Nat.le_trans I.ok.bsz I.sz,fun b o e hb => ?_,fun b hb hs => ?_,I.stack,I.stkFree⟩,
  rfl,I.bare,Un.kept keep,⟨_,(Heap.Ns.new s.heap (.type "dict")).keeps (pushCells_keeps _ _),fun i x v e1 e2 e3 => ?_⟩,fun x c h => ?_,I.hok.fresh (Nat.le_refl _),fun x c h => ?_,fun p hp=>absurd (show p∈([]:List (Addr×Obj)) from hp) (by simp),I.hok.kept keep,?_⟩
 ·rcases cases_cell x c h1 with z1 | ⟨_,z1⟩
  ·rcases cases_cell y c h2 with z2 | ⟨_,z2⟩
   ·exact name_of_addr ok.apart (PySem.mem_of_lookup z1) (PySem.mem_of_lookup z2)
   ·exact absurd (Nat.lt_of_lt_of_le (Nat.lt_succ_of_lt (oldC y c z2)) (ownC x c z1).2) (Nat.lt_irrefl _)
  ·rcases cases_cell y c h2 with z2 | ⟨_,z2⟩
   ·exact absurd (Nat.lt_of_lt_of_le (Nat.lt_succ_of_lt (oldC x c z1)) (ownC y c z2).2) (Nat.lt_irrefl _)
   ·exact I.ok.inj x y c z1 z2
 ·show ∃ c,(cellsFrom (s.heap.objs.size+1) scope.names (xa X.env.cells scope.names [])).lookup x=some c
  rw [yg,List.lookup_append]
  cases q:(cellsFrom (s.heap.objs.size+1) scope.names []).lookup x with
  | some c'=>exact ⟨c',rfl⟩
  | none =>
    have fr:scope.names.lookup x=some .free→∃ c,(none.or ((xa X.env.cells scope.names []).lookup x))=some c:=fun z=>by
     have:=ve (cells:=X.env.cells) scope.names [] x (.inl (PySem.mem_of_lookup z))
     exact Option.isSome_iff_exists.mp (by simpa using this)
    have hx':(relabel scope X.env).names.lookup x=some .cell∨(relabel scope X.env).names.lookup x=some .free:=hx
    rcases hx' with z | z
    ·rcases xX scope.names x .cell z with z | ⟨_,z⟩
     ·obtain ⟨c,z2⟩:=tD (n:=s.heap.objs.size+1) (sc:=scope) z
      rw [z2] at q; cases q
     ·exact fr z
    ·rcases xX scope.names x .free z with z | ⟨z,_⟩
     ·exact fr z
     ·cases z
 ·have hx':scope.names.lookup x=some .cell:=by simpa using (show (scope.names.lookup x == some .cell)=true from hx)
  rcases cases_cell x c h with z | ⟨z,_⟩
  ·exact Nat.le_of_lt (ownC x c z).2
  ·obtain ⟨c',z2⟩:=tD (n:=s.heap.objs.size+1) (sc:=scope) hx'
   rw [z2] at z; cases z
 ·refine ⟨Nat.ne_of_lt (hex b hb),fun x c h z => ?_⟩
  rcases cases_cell x c h with q | ⟨_,q⟩
  ·exact absurd (Nat.lt_of_lt_of_le (Nat.lt_succ_of_lt (hex b hb)) (z ▸ (ownC x c q).2)) (Nat.lt_irrefl _)
  ·exact (hf b hb).2.2.2.2.1 x c q z
 ·rcases (hf b hb).2.2.2.1 with z | z
  ·exact I.ok.noex b o e z
  ·exact absurd (Nat.lt_of_lt_of_le (Heap.lt_size e) (Nat.le_trans I.ok.bsz z)) (Nat.lt_irrefl _)
 ·rcases List.mem_cons.mp (I.stkSub b hs) with z | z
  ·exact (hf b hb).2.1 z
  ·exact (hf b hb).2.2.1 z
 ·
  have e1':(capN X cap own)[i]?=some x:=e1
  unfold capN at e1'
  unfold capS at e2
  by_cases hi:i<cap.length
  ·rw [List.getElem?_append_left (by simpa using hi),List.getElem?_map,List.getElem?_eq_getElem hi] at e1' e2
   simp only [Option.map_some,Option.some.injEq] at e1' e2
   have hcap:=List.all_eq_true.mp C.caps cap[i] (List.getElem_mem hi)
   cases q:X.N[cap[i]]? with
   | none=>rw [q] at hcap; cases hcap
   | some y =>
     rw [q] at hcap
     have hy:scope.names.lookup y=some .free:=by simpa using hcap
     have hxy:x=y:=by rw [←e1',List.getD_eq_getElem?_getD,q]; rfl
     subst hxy
     have hs:σ[cap[i]]?=some (some v):=by
      rw [List.getD_eq_getElem?_getD] at e2
      cases z:σ[cap[i]]? with
      | none=>rw [z] at e2; cases e2
      | some w=>rw [z] at e2; simp at e2; rw [e2]
     have hk:=C.free (PySem.mem_of_lookup hy)
     obtain ⟨m,hn,hl⟩:=I.loc
     obtain ⟨u,ru,lk⟩:=hl cap[i] x v q hs (hk.elim (fun z=>.inr (.inl z)) fun z=>.inr (.inr z))
     refine ⟨u,ru,.inr ⟨?_,?_⟩⟩
     ·exact uQ scope.names x hy
     ·rcases lk with ⟨z,_⟩ | ⟨_,c,hc,hcell⟩
      ·rcases hk with z' | z' <;> (rw [z] at z'; cases z')
      ·refine ⟨c,?_,hcell.keeps keep⟩
       show (cellsFrom (s.heap.objs.size+1) scope.names (xa X.env.cells scope.names [])).lookup x=some c
       rw [yg,List.lookup_append]
       have hno:(cellsFrom (s.heap.objs.size+1) scope.names []).lookup x=none:=wx _ _ _ fun hm=>by
        have m1:=PySem.mem_of_lookup hy
        have:=C.nd
        rw [List.nodup_iff_pairwise_ne,List.pairwise_map] at this
        have:=List.Pairwise.forall_of_forall_of_flip (R:=fun a b:Str×NameKind=>a.1≠b.1∨a=b) (l:=scope.names) (fun _ _=>.inr rfl) (this.imp fun h=>.inl h) (this.imp fun h=>.inl h.symm)
        rcases this m1 hm with z | z
        ·exact z rfl
        ·cases z
       rw [hno]
       have hsome:=ve (cells:=X.env.cells) scope.names [] x (.inl (PySem.mem_of_lookup hy))
       obtain ⟨c',hc'⟩:=Option.isSome_iff_exists.mp hsome
       rcases xz scope.names [] x c' hcl hc' with z | z
       ·rw [hc] at z; cases z; simpa using hc'
       ·simp at z
  ·rw [List.getElem?_append_right (by simpa using hi),List.getElem?_replicate] at e2
   split at e2 <;> cases e2
 ·rcases cases_cell x c h with z | ⟨_,z⟩
  ·exact ⟨_,(ownC x c z).1⟩
  ·obtain ⟨v,q⟩:=I.cell x c z
   exact ⟨v,q.keeps keep⟩
 ·rcases cases_cell x c h with z | ⟨_,z⟩
  ·exact I.hok.fresh (Nat.le_of_lt (ownC x c z).2)
  ·exact I.freeC x c z
 ·show (capS cap own.length σ).length=(capN X cap own).length
  simp [capS,capN]
end
end DL
namespace DL
open PySem PySem.Spec PyProof.Rows L2
theorem zcV {prog:Program} {w:World} {A:Around} {R:Result→Shared→Prop} {s:Shared} {elt target iter:Expr} {ifs:List Expr} {scope:Scope} {pos:Pos} {it acc:Value} {env:Env} (I:Nat→Shared→Prop)
 (turn:∀ n s,I n s→wpAny (model prog w) A (pyNext it) (fun r s₁=>match r with
  | none=>R (.ok .next) s₁
  | some v=>wpAny (model prog w) A (letOwnedTupleGo target it v) (fun _ s₁'=>wpAny (model prog w) A (assign target env v) (fun _ s₂ =>
   wpAny (model prog w) A (forIn ifs true fun c r=>if r=true then do let ok ← isTrue c env (eval c env); pure (ForInStep.yield ok) else pure (ForInStep.yield r)) (fun ok s₃ =>
    if ok=true then wpAny (model prog w) A (eval elt env) (fun x s₄ =>
     wpAny (model prog w) A (call (.builtin "list.append") [acc,x]) (fun _ s₅=>∃ m,m<n∧I m s₅) (fun _ _=>False) s₄) (fun _ _=>False) s₃
    else ∃ m,m<n∧I m s₃) (fun _ _=>False) s₂) (fun _ _=>False) s₁') (fun _ _=>False) s₁) (fun _ _=>False) s)
 (n:Nat) (h:I n s) :
 codeAny (model prog w) A (.compLoop (.ListComp elt [⟨target,iter,ifs,0⟩] scope pos) 0 it acc env) R s:=by
 refine codeAny_loop rfl I (fun n s hI => ?_) n h
 show wpAny _ A ((compTurn (.ListComp elt [⟨target,iter,ifs,0⟩] scope pos) 0 it acc env).onRaise (fun x=>do noteFrame x env; theTreesLotGoes x)) _ _ s
 refine wpAny_noted ?_
 rw [compTurn_list]
 refine wpAny_bind (wpAny_standAt (wpAny_bind (wpAny_mono (turn n s hI) (fun r s₁ h₁ => ?_) fun _ _ h'=>h'.elim)))
 cases r with
 | none=>exact wpAny_pure h₁
 | some v =>
   refine wpAny_bind (wpAny_mono h₁ (fun _ s₁' h₁' => ?_) fun _ _ h'=>h'.elim)
   refine wpAny_bind (wpAny_mono h₁' (fun _ s₂ h₂=>wpAny_bind (wpAny_mono h₂ (fun ok s₃ h₃ => ?_) fun _ _ h'=>h'.elim)) fun _ _ h'=>h'.elim)
   cases ok with
   | false=>exact wpAny_pure ⟨rfl,h₃⟩
   | true =>
     exact wpAny_bind (wpAny_bind (wpAny_mono h₃ (fun x s₄ h₄=>wpAny_bind (wpAny_mono h₄ (fun _ s₅ h₅=>wpAny_pure (wpAny_pure ⟨rfl,h₅⟩)) fun _ _ h'=>h'.elim)) fun _ _ h'=>h'.elim))
noncomputable def compD (g:D→Ev→Out Ev) (ft:FT) (fe:FE):List D→Ev→Out (List D)
 | [],_=>.ok []
 | d::ds,env=>(g d env).bind fun env1=>(ft env1).bind fun c=>if c=true then (fe env1).bind fun x=>x.hold.bind fun y=>(compD g ft fe ds env1).bind fun r=>.ok (y::r) else compD g ft fe ds env1
@[simp] noncomputable def xL (cap:List Nat) (n:Nat) (fi:FI) (g:D→Ev→Out Ev) (ft:FT) (fe:FE):FE:=fun env=>(fi env).bind fun ds=>if ds.length≤100000 then (compD g ft fe ds (capE cap n env)).bind fun out=>.ok (.fresh out) else .bad
noncomputable def DTs (X:Cx) (G₀ H₀:Hp) (ifs:List Expr) (ft:FT):Prop:=∀ (pins:List (Addr×Obj)) (s:Shared) (σ:St) (H:Hp) (Q:Bool→Hp→Prop),Inv X pins σ H s→tT X.K G₀ H₀ ft σ H Q →
 wpAny (model X.prog X.w) X.A (forIn ifs true fun c r=>if r=true then do let ok ← isTrue c X.env (eval c X.env); pure (ForInStep.yield ok) else pure (ForInStep.yield r)) (TP X pins σ Q) X.xe s
@[simp] noncomputable def fYes:FT:=fun _=>.ok true
theorem uD {X:Cx} {G₀ H₀:Hp}:DTs X G₀ H₀ [] fYes:=fun pins s σ H Q I q=>wpAny_tests_nil (by
 obtain ⟨env,G,b,J,e,k⟩:=q
 cases e
 exact ⟨H,I,k G H (Grow.refl _ _) J.le⟩)
theorem zau {X:Cx} {G₀ H₀:Hp} {c:Expr} {ft:FT} (h:DT X G₀ H₀ c ft):DTs X G₀ H₀ [c] ft:=fun pins s σ H Q I q=>wpAny_tests_one (h pins s σ H Q I q)
noncomputable def Calm (g:D→Ev→Out Ev):Prop:=∀ d env env',g d env=.ok env'→NoOwn env→NoOwn env'
theorem NoOwn.set {env:Ev} (h:NoOwn env) (i:Nat) (d:D):NoOwn (env.set i (.pers d)):=fun j ds e=>by
 by_cases hj:i=j
 ·subst hj; cases (xp e).1
 ·rw [List.getElem?_set_ne hj] at e; exact h j ds e
theorem yY (i:Nat):Calm (gN i):=fun d env env' e h=>by cases e; exact h.set i d
theorem NoOwn.setAll:∀ (is:List Nat) (ds:List D) {env:Ev},NoOwn env→NoOwn (setAll is ds env)
 | [],_,_,h=>h
 | _::_,[],_,h=>h
 | i::is,d::ds,env,h=>NoOwn.setAll is ds (h.set i d)
theorem zeY (is:List Nat):Calm (gT is):=fun d env env' e h=>by
 unfold gT at e
 split at e
 ·split at e
  ·cases e; exact NoOwn.setAll is _ h
  ·cases e
 ·cases e
theorem DI.other {K:PySem.W.Frag} {G₀ H₀ G H:Hp} {env:Ev} {σ:St} (I:DI K G₀ H₀ env σ G H) (h:NoOwn env) {p:Addr} {o:HO} (hg:G p=none) (h0:H₀ p=none):DI K G₀ H₀ env σ G (upd H p o) where
 le:=fun b u q=>by rw [zJ (zH q hg)]; exact I.le b u q
 gr:=⟨I.gr.g,fun b u q=>by rw [zJ (zH q h0)]; exact I.gr.h b u q,I.gr.n⟩
 len:=I.len
 slot:=fun i s e=>by
  cases s with
  | un=>trivial
  | pers d=>exact I.slot i _ e
  | own ds=>exact absurd e (h i ds)
 apart:=I.apart
section
variable {X:Cx} {G₀ H₀:Hp} {elt iter tg:Expr} {ifs:List Expr} {scope:Scope} {pos:Pos} {fi:FI} {g:D→Ev→Out Ev} {ft:FT} {fe:FE} {cap:List Nat} {own:List Str}
structure CLoop (Iv:St→Hp→Shared→Prop) (K:PySem.W.Frag) (G₀ H₀ G2 H2:Hp) (g:D→Ev→Out Ev) (ft:FT) (fe:FE) (ds out:List D) (fp:List Addr) (a:Addr) (tn:Nat→Heap→Prop) (k:Nat) (s':Shared) (i:Nat) (σ':St) (H' G':Hp) (env':Ev) (accD:List D) (accV:List V) (rest:List D):Prop where
 hk:k=ds.length+1 - i
 hi:i≤ds.length
 iv:Iv σ' H' s'
 st:tn i s'.heap
 fr:∀ b∈fp,H' b=none
 di:DI K G₀ H₀ env' σ' G' H'
 no:NoOwn env'
 gr:Grow G2 H2 G' H'
 ha:H' a=some (.lst accV)
 ga:G' a=none
 ra:RepL K G' accD accV
 la:accD.length≤i
 ec:compD g ft fe (ds.drop i) env'=.ok rest
 eo:out=accD++rest
theorem zbm (C:CompOk X scope cap own) (hc:X.calm=true)
 (hg:∀ ex s H,DG (y9 X (capN X cap own) scope ex s H) G₀ H₀ tg g) (hgc:Calm g) (ht:∀ ex s H,DTs (y9 X (capN X cap own) scope ex s H) G₀ H₀ ifs ft) (he:∀ ex s H,DE (y9 X (capN X cap own) scope ex s H) G₀ H₀ elt fe)
 {pins:List (Addr×Obj)} {σ:St} {H2 G2:Hp} {s2:Shared} {env:Ev} {it:Addr} {fp:List Addr} {tn:Nat→Heap→Prop} {J:It} {ds out:List D}
 (I2:Inv X pins σ H2 s2) (D2:DI X.K G₀ H₀ env σ G2 H2) (T:Turn X.prog X.w X.K tg J fp it tn) (st2:tn 0 s2.heap) (f2:∀ b∈fp,FpOk X pins H2 b) (jok:JOk X.K J G2 ds) (hz:ds.length≤100000)
 (e:compD g ft fe ds (capE cap own.length env)=.ok out) {RR:Value→Addr→Result→Shared→Prop} {E:Value→Shared→Prop}
 (fin:∀ (D C:Addr) (vs:List V) (G' H':Hp) (s':Shared),s2.heap.objs.size≤C∧H' C=none→H2 D=none→H' D=some (.lst vs)→G' D=none→RepL X.K G' out vs→Grow G2 H2 G' H'→Same G' H' →
  (∃ m,s'.heap.Ns C m)→(∀ h',Heap.SameBut C s'.heap h'→Inv X pins σ H' { s' with heap:=h' })→RR (.ref D) C (.ok .next) s') :
 wpAny (model X.prog X.w) X.A (newList []) (fun acc s₃=>wpAny (model X.prog X.w) X.A (newFunctionEnv scope X.env.globals (xa X.env.cells scope.names []) [] X.env.qual none .none (some X.env)) (fun cenv s₄ =>
  codeAny (model X.prog X.w) X.A (.compStart (.ListComp elt [⟨tg,iter,ifs,0⟩] scope pos) 0 (.ref it) acc { cenv with scope:=relabel scope X.env }) (RR acc cenv.locals) s₄) E s₃) E s2:=by
 have hlt:∀ b∈fp,b<s2.heap.objs.size:=fun b hb=>let ⟨o,eo,_⟩:=T.obj _ _ st2 b hb; Heap.lt_size eo
 refine wpAny_newObj_type (ze4 ?_)
 dsimp only
 generalize hD:s2.heap.objs.size=D
 have fD:H2 D=none:=by rw [←hD]; exact I2.fresh
 have I3:Inv X pins σ (upd H2 D (.lst [])) { s2 with heap:=s2.heap.push { cls:=.type "list",data:=.seq ([]:List Value).toArray } }:=by
  have:=I2.lnew (t':=s2.toks) (ys:=[]) (its:=[]) .nil (Nat.zero_le _)
  rw [hD] at this
  exact this
 generalize hs3:({ s2 with heap:=s2.heap.push { cls:=.type "list",data:=.seq ([]:List Value).toArray } }:Shared)=s3 at I3
 have hs3':s3.heap=s2.heap.push { cls:=.type "list",data:=.seq ([]:List Value).toArray }:=by rw [←hs3]
 have f3:∀ b∈fp,FpOk X pins (upd H2 D (.lst [])) b:=fun b hb=>⟨by rw [zJ (by rw [←hD]; exact Nat.ne_of_lt (hlt b hb))]; exact (f2 b hb).1,(f2 b hb).2⟩
 have hlt3:∀ b∈fp,b<s3.heap.objs.size:=fun b hb=>by rw [hs3',Heap.size_push]; exact Nat.lt_succ_of_lt (hlt b hb)
 have I4:=zil C I3 f3 hlt3
 have st4:tn 0 (pushCells (s3.heap.push { cls:=.type "dict",data:=.dict #[] }) scope.names):=T.keep _ _ _ st2 fun b hb o eo=>pushCells_keeps _ _ b o (Heap.get?_push_of_some _ (by rw [hs3']; exact Heap.get?_push_of_some _ eo))
 have g3:Grow G2 H2 G2 (upd H2 D (.lst []))∧Same G2 (upd H2 D (.lst [])):=Grow.laidL D2.le fD
 have D4:DI X.K G₀ H₀ (capE cap own.length env) (capS cap own.length σ) G2 (upd H2 D (.lst [])):=zlL (D2.grow g3.1 g3.2) cap own.length
 have stat:∀ {H':Hp},(∀ b∈fp,H' b=none)→∀ b∈fp,FpOk (y9 X (capN X cap own) scope fp s3 (upd H2 D (.lst []))) [] H' b:=fun {H'} hn b hb =>
  ⟨hn b hb,(I4.ok.exf b hb).1,I4.ok.exfs b hb,.inl hb,(I4.ok.exf b hb).2,fun p hp=>absurd (show p∈([]:List (Addr×Obj)) from hp) (by simp)⟩
 have hG2D:G2 D=none:=D2.le.free fD
 have h0D:H₀ D=none:=D2.gr.h.free fD
 have loop:∀ s4:Shared,s4={ s3 with heap:=pushCells (s3.heap.push { cls:=.type "dict",data:=.dict #[] }) scope.names } →
  codeAny (model X.prog X.w) X.A (.compLoop (.ListComp elt [⟨tg,iter,ifs,0⟩] scope pos) 0 (.ref it) (.ref D) (y9 X (capN X cap own) scope fp s3 (upd H2 D (.lst []))).env) (RR (.ref D) s3.heap.objs.size) s4:=by
  rintro s4 rfl
  refine zcV (fun k s'=>∃ i σ' H' G' env' accD accV rest,CLoop (fun σ H s=>Inv (y9 X (capN X cap own) scope fp s3 (upd H2 D (.lst []))) [] σ H s) X.K G₀ H₀ G2 H2 g ft fe ds out fp D tn k s' i σ' H' G' env' accD accV rest) ?_ (ds.length+1)
   ⟨0,_,_,G2,_,[],[],out,rfl,Nat.zero_le _,I4,st4,fun b hb=>(f3 b hb).1,D4,tY _ _ _,g3.1,zX,hG2D,RepL.nil,Nat.zero_le _,by simpa using e,rfl⟩
  rintro k s5 ⟨i,σ5,H5,G5,env5,accD,accV,rest,rfl,hi,I5,st5,fr5,D5,no5,gr5,hD5,gD5,ra5,la5,e5,eo⟩
  by_cases hlt5:i<ds.length
  ·have hd:ds.drop i=ds[i]::ds.drop (i+1):=List.drop_eq_getElem_cons hlt5
   rw [hd] at e5
   obtain ⟨env6,e6,e5⟩:=zq e5
   obtain ⟨c,e7,e5⟩:=zq e5
   refine thn (T.item (y9 X (capN X cap own) scope fp s3 (upd H2 D (.lst []))) rfl rfl rfl hc i [] s5 σ5 H5 (fun _ _=>False) I5 (stat fr5) st5 (jok.go i G5 H5 gr5.g D5.le hlt5)) fun r s6 ⟨u,hr,h6⟩ => ?_
   subst hr
   refine thn h6 fun _ s7 ⟨x,H7,I7,r7,y7,st7,fr7⟩ => ?_
   obtain ⟨d,G7,hd7,g7,l7,rx7⟩:=jok.yld i G5 H5 x H7 gr5.g D5.le hlt5 y7
   have hde:d=ds[i]:=by rw [List.getElem?_eq_getElem hlt5] at hd7; exact (Option.some.inj hd7).symm
   subst hde
   have D7:=D5.grow g7 l7
   have I7':=I7.pinned (stat fr7) (T.obj _ _ st7)
   refine thn (hg fp s3 (upd H2 D (.lst [])) _ s7 σ5 H7 x u (fun σ8 H8=>H8=H7∧DI X.K G₀ H₀ env6 σ8 G7 H7) I7' r7 ⟨env5,G7,_,env6,D7,rx7,e6,fun σ8 D8=>⟨rfl,D8⟩⟩) fun _ s8 ⟨σ8,H8,I8,hH8,D8⟩ => ?_
   subst hH8
   have no8:NoOwn env6:=hgc _ _ _ e6 no5
   have hD7:H8 D=some (.lst accV):=g7.h _ _ hD5
   have gD7:G7 D=none:=g7.n D (by rw [hD5]; simp) gD5
   refine thn (ht fp s3 (upd H2 D (.lst [])) _ s8 σ8 H8 (fun b H9=>b=c∧∃ G9,Grow G7 H8 G9 H9∧Same G9 H9) I8 ⟨env6,G7,c,D8,e7,fun G9 H9 g9 l9=>⟨rfl,G9,g9,l9⟩⟩) fun ok s9 ⟨H9,I9,hok,G9,g9,l9⟩ => ?_
   subst hok
   have D9:=D8.grow g9 l9
   have back:∀ {s10:Shared} {σ10:St} {H10:Hp},Inv (y9 X (capN X cap own) scope fp s3 (upd H2 D (.lst []))) ([]++zcq fp s7.heap) σ10 H10 s10 →
    Inv (y9 X (capN X cap own) scope fp s3 (upd H2 D (.lst []))) [] σ10 H10 s10∧tn (i+1) s10.heap∧(∀ b∈fp,H10 b=none):=fun {s10 σ10 H10} I10=>by
    refine ⟨I10.unpinned,T.keep _ _ _ st7 fun b hb o eb=>(I10.pin (b,o) (List.mem_append_right _ (List.mem_append_right _ (w8 hb eb)))).1,fun b hb => ?_⟩
    obtain ⟨o,eb,d⟩:=T.obj _ _ st7 b hb
    exact (I10.pin (b,o) (List.mem_append_right _ (List.mem_append_right _ (w8 hb eb)))).2.1
   have gr9:Grow G2 H2 G9 H9:=(gr5.trans g7).trans g9
   cases ok with
   | false =>
     rw [if_neg Bool.false_ne_true] at e5 ⊢
     obtain ⟨I10,st10,fr10⟩:=back I9
     exact ⟨ds.length+1 - (i+1),by lia,i+1,σ8,H9,G9,env6,accD,accV,rest,rfl,hlt5,I10,st10,fr10,D9,no8,gr9,g9.h _ _ hD7,g9.n D (by rw [hD7]; simp) gD7,(ra5.mono g7.g).mono g9.g,by lia,e5,eo⟩
   | true =>
     rw [if_pos rfl] at e5 ⊢
     obtain ⟨xv,e8,e5⟩:=zq e5
     obtain ⟨y,e9,e5⟩:=zq e5
     obtain ⟨rest',e10,e5⟩:=zq e5
     cases e5
     refine thn (he fp s3 (upd H2 D (.lst [])) _ s9 σ8 H9 (fun v H10=>∃ G10,Grow G9 H9 G10 H10∧Same G10 H10∧Rep X.K G10 y v) I9 ⟨env6,G9,xv,D9,e8,fun v G10 H10 g10 l10 h10=>held g10 l10 h10 e9⟩) fun u10 s10 ⟨v10,H10,I10,r10,G10,g10,l10,rep10⟩ => ?_
     have D10:=D9.grow g10 l10
     have hD10:H10 D=some (.lst accV):=g10.h _ _ (g9.h _ _ hD7)
     have gD10:G10 D=none:=g10.n D (by rw [g9.h _ _ hD7]; simp) (g9.n D (by rw [hD7]; simp) gD7)
     have ra10:=((ra5.mono g7.g).mono g9.g).mono g10.g
     refine thn (zaa (X:=y9 X (capN X cap own) scope fp s3 (upd H2 D (.lst []))) _ s10 σ8 H10 (.ref D) [v10] (.ref D) [u10] (fun _ H11=>H11=upd H10 D (.lst (accV++[v10]))) I10 rfl (.cons r10 .nil)
      ⟨D,accV,v10,rfl,rfl,hD10,by rw [←ra10.length,sizeLine_eq]; lia,rfl⟩) fun _ s11 ⟨_,H11,I11,_,hH11⟩ => ?_
     subst hH11
     obtain ⟨I12,st12,fr12⟩:=back I11
     have gr10:Grow G2 H2 G10 (upd H10 D (.lst (accV++[v10]))):=by
      have q:=gr9.trans g10
      exact ⟨q.g,fun b o z=>by rw [zJ (zH z fD)]; exact q.h b o z,q.n⟩
     exact ⟨ds.length+1 - (i+1),by lia,i+1,σ8,_,G10,env6,accD++[y],accV++[v10],rest',rfl,hlt5,I12,st12,fr12,D10.other no8 gD10 h0D,no8,gr10,zX,gD10,ra10.append (RepL.cons rep10 RepL.nil),by simp; lia,e10,by rw [eo]; simp⟩
  ·have hi5:i=ds.length:=by lia
   subst hi5
   refine thn (T.done (y9 X (capN X cap own) scope fp s3 (upd H2 D (.lst []))) rfl rfl rfl hc _ [] s5 σ5 H5 (fun _ _=>False) I5 (stat fr5) st5 (jok.stop _ G5 H5 gr5.g D5.le (Nat.le_refl _))) fun r s6 ⟨hr,I6⟩ => ?_
   subst hr
   rw [List.drop_length] at e5
   cases e5
   have eo':out=accD:=by rw [eo]; simp
   refine fin D s3.heap.objs.size accV G5 H5 s6 ?_ fD hD5 gD5 (by rw [eo']; exact ra5) gr5 D5.le ?_ fun h' sb => ?_
   ·exact ⟨by rw [hs3',Heap.size_push]; exact Nat.le_succ _,I6.free⟩
   ·obtain ⟨m,hm,_⟩:=I6.loc
    exact ⟨m,hm⟩
   ·have ne:∀ b o,s3.heap.get? b=some o→b≠s3.heap.objs.size:=fun b o eb=>Nat.ne_of_lt (Heap.lt_size eb)
    have frC:H5 s3.heap.objs.size=none:=I6.free
    have up:∀ b o,b≠s3.heap.objs.size→s6.heap.get? b=some o→h'.get? b=some o:=fun b o hb eb=>sb.extBut b o hb eb
    have ub:=I6.base
    have U:Un (frs X.stack) fp (upd H2 D (.lst [])) H5 s3.heap h' :=
     ⟨fun b o eb n hb hx=>up b o (ne b o eb) (ub.keep b o eb n hb hx),fun b o eb n hb hx=>let ⟨sl,q⟩:=ub.slot b o eb n hb hx; ⟨sl,up b _ (ne b o eb) q⟩,ub.free,fun b o eb hx=>let ⟨o',q⟩:=ub.there b o eb hx; ⟨o',up b _ (ne b o eb) q⟩,ub.tups,ub.frzs,ub.tbls⟩
    have hok:HOk X.prog X.w H5 h':=fun b u eb=>(I6.hok b u eb).stay (fun c v hc' q=>up c v (by
     rcases hc' with rfl | hc'
     ·intro z; rw [z,frC] at eb; cases eb
     ·intro z; rw [z,frC] at hc'; cases hc') q) (fun _ q=>q) fun _ _ q=>q
    exact I3.call' (s':={ s6 with heap:=h' }) I6.os U hok I6.bare fun b hb=>let ⟨a0,a1,a2,a3,a4,a5⟩:=f3 b hb; ⟨a3,a1,a4,a5⟩
 subst hs3
 exact codeAny_compStart_list (loop _ rfl) (T.self _ 0 _ _ _ st4 (loop _ rfl))
theorem wV (C:CompOk X scope cap own) (hi:DIt X G₀ H₀ tg iter fi)
 (hg:∀ ex s H,DG (y9 X (capN X cap own) scope ex s H) G₀ H₀ tg g) (hgc:Calm g) (ht:∀ ex s H,DTs (y9 X (capN X cap own) scope ex s H) G₀ H₀ ifs ft) (he:∀ ex s H,DE (y9 X (capN X cap own) scope ex s H) G₀ H₀ elt fe)
 (hc:X.calm=true:=by rfl) (hs:∀ x,foldedSetIterable iter X.env x=pure x:=by intro _; rfl):DE X G₀ H₀ (.ListComp elt [⟨tg,iter,ifs,0⟩] scope pos) (xL cap own.length fi g ft fe):=by
 intro pins s σ H Q I q
 obtain ⟨env,G,val,D0,e,k⟩:=q
 obtain ⟨ds,e1,e⟩:=zq e
 split at e
 ·rename_i hz
  obtain ⟨out,e2,e⟩:=zq e
  cases e
  rw [eval_ListComp]
  refine wpAny_comprehension_free (use:=none) (cl:=xa X.env.cells scope.names []) rfl hs (v6 (C.cells I)) C.kind C.locals ?_
  refine thn (hi pins s σ H (fun J H2=>∃ G2,Grow G H G2 H2∧Same G2 H2∧JOk X.K J G2 ds) I ⟨env,G,ds,D0,e1,fun J G2 H2 g2 l2 jok=>⟨G2,g2,l2,jok⟩⟩) fun v s1 h1=>thn h1 fun itv s2 h2 => ?_
  obtain ⟨it,fp,tn,J,H2,rfl,I2,T,st2,f2,G2,g2,l2,jok⟩:=h2
  refine zbm (RR:=fun acc C=>compPost (model X.prog X.w) X.A X.xe none (EP X pins σ Q) acc C) C hc hg hgc ht he I2 (D0.grow g2 l2) T st2 f2 jok hz e2 fun D C' vs G' H' s' hC fD hD gD r gr l hm hI => ?_
  obtain ⟨m,hm⟩:=hm
  exact ⟨m,hm,fun h' sb=>⟨.ref D,H',hI h' sb,rfl,k _ G' H' (g2.trans gr) l ⟨D,vs,rfl,g2.h.free fD,hD,gD,r⟩⟩⟩
 ·cases e
end
end DL
namespace DL
open PySem PySem.Spec PyProof.Rows L2
theorem zim {X:Cx}:zaT X (.builtin "isinstance") (fun xs H Q=>∃ x t T b,xs=[x,.ty T]∧TyOf X.K H x t∧PySem.W.kitOne X.K t (.type T)=some b∧Q (.bl b) H):=by
 intro pins s σ H xs us Q I r h
 obtain ⟨x,t,T,b,rfl,ty,e,q⟩:=h
 obtain ⟨u,w',rfl,r1,r2⟩:=zfF r
 cases (show w'=.type T from r2)
 exact zgM I r1 ty e fun tk=>⟨.bl b,H,I.tok _,rfl,q⟩
@[simp] noncomputable def isiD (T:String):D→Option Bool
  | .non=>some false
  | .bl _=>some (decide (T = "int") || decide (T = "bool"))
  | .int _=>some (decide (T = "int"))
  | .lst _=>some (decide (T = "list"))
  | .tup _=>some (decide (T = "tuple"))
  | _=>none
@[simp] noncomputable def gIsi (T:String) (x:D):Out Val:=match isiD T x with
  | some b=>.ok (.pers (.bl b))
  | none=>.bad
structure IsiT (T:String):Prop where
 mem:T = "int" ∨ T = "bool" ∨ T = "list" ∨ T = "tuple"
theorem zjV {K:PySem.W.Frag} {T:String} (h:IsiT T) {G₀ H₀:Hp} {env:Ev} {σ:St} {G H:Hp} {v:V} {d:D} {b:Bool} (I:DI K G₀ H₀ env σ G H) (o:Opd K env σ G v d) (e:isiD T d=some b) :
 ∃ t,TyOf K H v t∧PySem.W.kitOne K t (.type T)=some b:=by
 cases d with
 | non =>
   cases e; rw [o.non]; refine ⟨_,.non,?_⟩
   rcases h.mem with rfl | rfl | rfl | rfl <;> kernel_rfl
 | bl c =>
   cases e; rw [o.bl]; refine ⟨_,.bl c,?_⟩
   rcases h.mem with rfl | rfl | rfl | rfl <;> kernel_rfl
 | int i =>
   cases e; rw [o.int]; refine ⟨_,.int i,?_⟩
   rcases h.mem with rfl | rfl | rfl | rfl <;> kernel_rfl
 | lst ds =>
   cases e
   obtain ⟨a,vs,rfl,h1,_⟩:=Opd.lst I o
   refine ⟨_,.lst h1,?_⟩
   rcases h.mem with rfl | rfl | rfl | rfl <;> kernel_rfl
 | tup ds =>
   cases e
   obtain ⟨a,vs,rfl,h1,_⟩:=Opd.tup I o
   refine ⟨_,.tup h1,?_⟩
   rcases h.mem with rfl | rfl | rfl | rfl <;> kernel_rfl
 | scr ns=>cases e
 | exc c p=>cases e
theorem zeT {X:Cx} {G₀ H₀:Hp} {p p2 pos:Pos} {e:Expr} {f:FE} {xT:Str} {T:String} (hT:IsiT T) (he:DE X G₀ H₀ e f) (hm:X.mg "isinstance" = none) (hmT:X.mg xT=none) (hvT:bootBuiltins xT=some (.type T))
 (hg:Gl X "isinstance" := by rfl) (hgT:Gl X xT:=by rfl) (hn:xT ≠ "__name__" := by decide) (hd:(xT == ("__debug__" : Str))=false:=by decide)
 (hs:starEach [e,.Name xT p2] X.env=(false,eval e X.env)::starEach [.Name xT p2] X.env:=by rfl) (hs2:starEach [.Name xT p2] X.env=[(false,eval (.Name xT p2) X.env)]:=by rfl) (hpl:(backTo pos (starEach [.Name xT p2] X.env)).any (·.1)=false:=by rfl) :
 DE X G₀ H₀ (.Call (.Name "isinstance" p) [e,.Name xT p2] [] pos) (f1 (gIsi T) f) :=
 (zey zim hg hm boot_isinstance (yn he (yn (zjC (v:=.ty T) hgT hmT hvT rfl hn hd) vo hs2) hs) (by decide) (by decide) hs hpl).imp fun σ H Q q=>by
  obtain ⟨env,G,val,I,e,k⟩:=q
  obtain ⟨x,e1,e⟩:=zq e
  refine x8 I e1 fun v G' H' g l I' o => ?_
  unfold gIsi at e
  split at e
  ·rename_i b hb
   cases e
   obtain ⟨t,h1,h2⟩:=zjV hT I' o hb
   exact ⟨v,t,T,b,rfl,h1,h2,k _ G' H' g l rfl⟩
  ·cases e
theorem zjW:IsiT "int" := ⟨.inl rfl⟩
theorem zib:IsiT "bool" := ⟨.inr (.inl rfl)⟩
theorem zia:IsiT "list" := ⟨.inr (.inr (.inl rfl))⟩
theorem zgN:IsiT "tuple" := ⟨.inr (.inr (.inr rfl))⟩
noncomputable def ins (n:Int):List Int→List Int
 | []=>[n]
 | m::r=>if n≤m then n::m::r else m::ins n r
structure Cal (P:Program) (w:World) (K:PySem.W.Frag) (mg:Str→Option Value) (base:Heap) (k:Nat) (x:Str) (ps:List Str) (m:List D→Out Val):Prop where
 ex:∃ (f:Addr) (fd:FuncData),FnOk P w K mg base CX0 k f fd ps (spD K m ps.length)∧mg x=some (.ref f)∧PySem.W.keepIn K (.ref f)=true∧Binds K fd ps []
theorem Cal.mono {P:Program} {w:World} {K:PySem.W.Frag} {mg:Str→Option Value} {base:Heap} {j k:Nat} {x:Str} {ps:List Str} {m:List D→Out Val} (c:Cal P w K mg base j x ps m) (h:j≤k):Cal P w K mg base k x ps m:=by
 obtain ⟨f,fd,F,r⟩:=c.ex
 exact ⟨f,fd,F.mono h,r⟩
theorem Cal.imp {P:Program} {w:World} {K:PySem.W.Frag} {mg:Str→Option Value} {base:Heap} {k:Nat} {x:Str} {ps:List Str} {m m':List D→Out Val} (c:Cal P w K mg base k x ps m) (h:∀ ds v,ds.length=ps.length→m' ds=.ok v→m ds=.ok v):Cal P w K mg base k x ps m':=by
 obtain ⟨f,fd,F,r⟩:=c.ex
 refine ⟨f,fd,F.imp fun vs H Q E q => ?_,r⟩
 obtain ⟨G,ds,val,h1,h2,h3,h4,h5⟩:=q
 exact ⟨G,ds,val,h1,h2,h3,h ds val h1 h4,h5⟩
section
variable {X:Cx} {G₀ H₀:Hp} {k:Nat} {ps:List Str} {x:Str} {p pos:Pos} {e:Expr} {es:List Expr} {r:Ev→Out (List Val)} {m:List D→Out Val}
theorem zS (C:Cal X.prog X.w X.K X.mg X.base k x ps m) (hr:Room k X.A) (ha:DA X G₀ H₀ (e::es) r)
 (hlen:∀ env xs,r env=.ok xs→xs.length=ps.length) (hg:Gl X x:=by rfl) (hdb:(x == ("__debug__" : Str))=false:=by decide) (he:starEach (e::es) X.env=(false,eval e X.env)::starEach es X.env:=by rfl) (hpl:(backTo pos (starEach es X.env)).any (·.1)=false:=by rfl) :
 DE X G₀ H₀ (.Call (.Name x p) (e::es) [] pos) (zL m r):=by
 obtain ⟨f,fd,F,hm,hk,hb⟩:=C.ex
 exact zkc F hr hm hk hb ha hlen hg hdb he hpl
end
theorem zI:∀ env xs,fNil env=.ok xs→xs.length=0:=fun env xs h=>by cases h; rfl
theorem zo {f:FE} {r:Ev→Out (List Val)} {n:Nat} (h:∀ env xs,r env=.ok xs→xs.length=n):∀ env xs,zl f r env=.ok xs→xs.length=n+1:=fun env xs e=>by
 obtain ⟨x,_,e⟩:=zq e
 obtain ⟨ys,e2,e⟩:=zq e
 cases e
 simp [h env ys e2]
theorem hu20 {A:Around} {k:Nat} (hr:Room k A):A.units+20<cLine:=by have:=hr.units; lia
end DL
namespace DL
open PySem PySem.Spec PyProof.Rows L2
noncomputable def advN (t:SetTable):Nat→SetTable.Probe→SetTable.Probe
 | 0,p=>p
 | n+1,p=>advN t n (t.advance p)
structure TabOk (t:SetTable) (n:Nat):Prop where
 plain:t.plain=true
 dummies:t.dummies=#[]
 size:t.place.size=n
 rise:t.place.toList.Pairwise (· < ·)
 mask:(t.mask=7∧n<5)∨(t.mask=31∧n<19)
end DL
namespace DL
open PySem PySem.Spec PyProof.Rows L2
end DL
namespace DL
open PySem PySem.Spec PyProof.Rows L2
structure SetAt (w:World) (h:Heap) (a:Addr) (es:Array (Int×Value)) (ep:Nat) (t:SetTable):Prop where
 ex:∃ o:Obj,h.get? a=some o∧o.ExactSet∧o.data=.set es ep t
 tab:TabOk t es.size
 led:t.led = !w.params.followText "set-order"
section
variable {prog:Program} {w:World} {A:Around} {E:Value→Shared→Prop} {s:Shared}
end
end DL
namespace DL
open PySem PySem.Spec PyProof.Rows L2
noncomputable def met (ns:List Int):List Int:=ns.foldl (fun σ k=>if k∈σ then σ else σ++[k]) []
section
variable {prog:Program} {w:World} {A:Around} {R:Result→Shared→Prop} {I:Addr} {fp wr:List Addr} {G:Array GenState→Array GenState→Prop} {P:Nat→Value→Prop} {St:Nat→Shared→Prop}
end
section
variable {prog:Program} {w:World} {A:Around} {E:Value→Shared→Prop} {s:Shared}
end
end DL
namespace DL
open PySem PySem.Spec PyProof.Rows L2
section
variable {prog:Program} {w:World} {A:Around} {E:Value→Shared→Prop} {s:Shared} {a:Addr} {es:Array (Int×Value)} {ep:Nat} {tb:SetTable}
end
end DL
namespace DL
open PySem PySem.Spec PyProof.Rows L2
end DL
namespace DL
open PySem PySem.Spec PyProof.Rows L2
end DL
namespace DL
open PySem PySem.Spec PyProof.Rows L2
noncomputable def pth (t:SetTable) (h:Int) (n:Nat):SetTable.Probe:=advN t n (t.probeStart h)
noncomputable def RI (t:SetTable) (hs:List Int):Prop:=∀ q∈hs.zip t.place.toList,∃ m,(pth t q.1 m).j=q.2∧∀ m',m' < m→(pth t q.1 m').j∈t.place.toList
end DL
namespace DL
open PySem PySem.Spec PyProof.Rows L2
end DL
namespace DL
open PySem PySem.Spec PyProof.Rows L2
section
variable {prog:Program} {w:World} {A:Around} {E:Value→Shared→Prop} {s:Shared}
noncomputable abbrev PKey (prog:Program) (w:World) (h:Heap) (k:List Int) (a:Addr):Prop:=IsTupleKey (intKind prog w) h k a
noncomputable def pHash (prog:Program) (w:World) (k:List Int):Int:=(tupleKind (intKind prog w)).hash k
end
structure EsP (prog:Program) (w:World) (h:Heap) (es:List (Int×Value)) (S:List (List Int)):Prop where
 all:∀ e∈es,∃ k a,e=(pHash prog w k,.ref a)∧PKey prog w h k a
 mem:∀ k,k∈S↔∃ e∈es,∃ a,e=(pHash prog w k,.ref a)∧PKey prog w h k a
 len:es.length=S.length
structure PSet (prog:Program) (w:World) (h:Heap) (sa:Addr) (S:List (List Int)) (es:Array (Int×Value)) (ep:Nat) (tb:SetTable):Prop where
 at_:SetAt w h sa es ep tb
 ri:RI tb (es.toList.map (·.1))
 es:EsP prog w h es.toList S
section
variable {prog:Program} {w:World} {A:Around} {E:Value→Shared→Prop} {s:Shared}
end
end DL
namespace DL
open PySem PySem.Spec PyProof.Rows L2
section
variable {prog:Program} {w:World} {A:Around} {R:Result→Shared→Prop} {I:Addr} {fp wr:List Addr} {G:Array GenState→Array GenState→Prop} {P:Nat→Value→Prop} {St:Nat→Shared→Prop}
end
section
variable {prog:Program} {w:World} {A:Around} {E:Value→Shared→Prop} {s:Shared}
end
end DL
namespace DL
open PySem PySem.Spec PyProof.Rows L2 PySem.W
structure LtOk (n:Nat) (lt:Nat→Nat→Bool):Prop where
 irr:∀ i,lt i i=false
 tr:∀ i j k,lt i j=true→lt j k=true→lt i k=true
 tot:∀ i j,i<n→j<n→i≠j→lt i j=true∨lt j i=true
section
variable {n:Nat} {lt:Nat→Nat→Bool}
noncomputable def PermOk (n:Nat) (p:Array Nat):Prop:=p.toList.Perm (List.range n)
end
end DL
namespace DL
open PySem PySem.Spec PyProof.Rows L2 PySem.W
section
variable {prog:Program} {w:World} {A:Around} {E:Value→Shared→Prop} {s:Shared}
end
end DL
namespace DL
open PySem PySem.Spec PyProof.Rows L2
noncomputable def zf (p:Int×Int):D:=.tup [.int p.1,.int p.2]
end DL
namespace DL
open PySem PySem.Spec PyProof.Rows L2
section
variable {prog:Program} {w:World} {K:Type} [DecidableEq K] {knd:PySem.KeyKind prog w K} {A:Around} {E:Value→Shared→Prop} {s:Shared}
end
end DL
namespace DL
open PySem PySem.Spec PyProof.Rows L2
theorem I_big {X:Cx} {pins:List (Addr×Obj)} {σ:St} {H:Hp} {s:Shared} (I:Inv X pins σ H s):∀ {a:Addr},s.heap.objs.size≤a→(a == sysModules)=false:=by
 intro a ha
 have h:mainGlobals<s.heap.objs.size:=(I.mod.glob.keeps I.bk).lt
 exact beq_eq_false_iff_ne.mpr (Ne.symm (Nat.ne_of_lt (Nat.lt_of_lt_of_le (Nat.lt_trans (by decide) h) ha)))
noncomputable def ziF:TE:=fun _ H Q=>∀ p,H p=none→Q (.ref p) (upd H p (.dK []))
theorem zhV {X:Cx} {pos:Pos}:PE X (.Dict [] [] pos) ziF:=fun pins s σ H Q I h =>
 wpAny_Dict_empty ⟨.ref s.heap.objs.size,_,I.laid (a:=s.heap.objs.size) (o:=.dK []) (t':=s.toks) (fun _ _ q=>Heap.get?_push_of_some _ q) (Nat.le_refl _) ⟨Nat.zero_le _,I_big I (Nat.le_refl _),[],.nil,Heap.DictOf.new _⟩,rfl,h _ (I.hok.fresh (Nat.le_refl _))⟩
end DL
namespace DL
open PySem PySem.Spec PyProof.Rows L2
end DL
namespace DL
open PySem PySem.Spec PyProof.Rows L2
end DL
namespace DL
open PySem PySem.Spec PyProof.Rows L2
end DL
namespace DL
open PySem PySem.Spec PyProof.Rows L2
theorem Inv.turnedL {X:Cx} {pins:List (Addr×Obj)} {σ:St} {H:Hp} {s:Shared} {h':Heap} {t':Nat} {fp:List Addr} {T:Addr} {o:HO} (I:Inv X pins σ H s) (hf:∀ b∈fp,FpOk X pins H b) (k:∀ b u,b∉fp→s.heap.get? b=some u→h'.get? b=some u)
 (hT:s.heap.objs.size≤T) (new:y2 X.prog X.w (upd H T o) h' T o):Inv X pins σ (upd H T o) { s with heap:=h',toks:=t' }:=by
 have hn:=I.hok.fresh hT
 have nit:∀ b u,H b=some u→b∉fp:=fun b u e hb=>by rw [(hf b hb).1] at e; cases e
 have neT:∀ b u,s.heap.get? b=some u→b≠T:=fun b u e=>Nat.ne_of_lt (Nat.lt_of_lt_of_le (Heap.lt_size e) hT)
 refine I.step (g':=s.gens) (d':=s.drawn) (ch:=fp) (fun b hb=>let ⟨_,a1,_,a3,a4,a5⟩:=hf b hb; ⟨a3,a1,a4,a5⟩) (fun b u _ _ hc e _=>k b u hc e) (fun b u _ _ hc e _=>⟨u.slots,k b u hc e⟩) (fun b u _ e n=>by rw [zJ (neT b u e)]; exact n)
  (fun b u hc e=>⟨u,k b u hc e⟩) (fun b xs e=>by rw [zJ (zH e hn)]; exact e) (fun b u x e=>by rw [zJ (zH e hn)]; exact e) (fun b ps e=>⟨#[],by rw [zJ (zH e hn),e]; simp⟩) (fun m hm => ?_) (fun b u e => ?_) I.bare
 ·obtain ⟨ob,es,ep,ho,r⟩:=hm
  exact ⟨ob,es,ep,k _ ob (fun hb=>(hf _ hb).2.1 rfl) ho,r⟩
 ·by_cases hb:b=T
  ·subst hb; rw [zX] at e; cases e; exact new
  ·rw [zJ hb] at e
   refine (I.hok b u e).stay (fun c v hc q=>k c v ?_ q) (fun c q=>by rw [zJ (zH q hn)]; exact q) fun c xs q=>by rw [zJ (zH q hn)]; exact q
   rcases hc with z | z
   ·rw [z]; exact nit b u e
   ·exact nit c _ z
theorem Inv.turnedF {X:Cx} {pins:List (Addr×Obj)} {σ:St} {H:Hp} {s:Shared} {h':Heap} {t':Nat} {fp:List Addr} (I:Inv X pins σ H s) (hf:∀ b∈fp,FpOk X pins H b) (k:∀ b u,b∉fp→s.heap.get? b=some u→h'.get? b=some u):Inv X pins σ H { s with heap:=h',toks:=t' }:=by
 have nit:∀ b u,H b=some u→b∉fp:=fun b u e hb=>by rw [(hf b hb).1] at e; cases e
 refine I.step (g':=s.gens) (d':=s.drawn) (ch:=fp) (fun b hb=>let ⟨_,a1,_,a3,a4,a5⟩:=hf b hb; ⟨a3,a1,a4,a5⟩) (fun b u _ _ hc e _=>k b u hc e) (fun b u _ _ hc e _=>⟨u.slots,k b u hc e⟩) (fun b u _ e n=>n)
  (fun b u hc e=>⟨u,k b u hc e⟩) (fun b xs e=>e) (fun b u x e=>e) (fun b ps e=>⟨#[],by rw [e]; simp⟩) (fun m hm => ?_) (fun b u e => ?_) I.bare
 ·obtain ⟨ob,es,ep,ho,r⟩:=hm
  exact ⟨ob,es,ep,k _ ob (fun hb=>(hf _ hb).2.1 rfl) ho,r⟩
 ·refine (I.hok b u e).stay (fun c v hc q=>k c v ?_ q) (fun c q=>q) fun c xs q=>q
  rcases hc with z | z
  ·rw [z]; exact nit b u e
  ·exact nit c _ z
end DL
namespace DL
open PySem PySem.Spec PyProof.Rows L2
section
variable {prog:Program} {w:World} {A:Around} {E:Value→Shared→Prop} {s:Shared}
end
end DL
namespace DL
open PySem PySem.Spec PyProof.Rows L2
section
variable {prog:Program} {w:World} {A:Around} {s:Shared} {R:Result→Shared→Prop} {xs ys:Array Value}
end
section
variable {prog:Program} {w:World} {A:Around} {E:Value→Shared→Prop} {s:Shared} {xs ys:Array Value}
end
end DL
namespace DL
open PySem PySem.Spec PyProof.Rows L2
end DL
namespace DL
open PySem PySem.Spec PyProof.Rows L2
noncomputable def Itv (K:PySem.W.Frag) (l:Addr) (n:Nat):It :=
 ⟨fun i H=>∃ xs,SqL K H l xs∧xs.length=n∧i<n,fun i H x H'=>H'=H∧∀ xs,SqL K H l xs→xs[n - 1 - i]?=some x,fun i _=>n≤i⟩
theorem zd8 {P:Program} {w:World} {K:PySem.W.Frag} {tg:Expr} (l it:Addr) (n:Nat):Turn P w K tg (Itv K l n) [it] it (fun i h=>i≤n∧h.IsRevIter it l ((n:Int) - 1 - (i:Int))) where
 mem:=by simp
 obj:=fun i h st b hb=>by
  have e:b=it:=by simpa using hb
  subst e
  obtain ⟨_,o,e,c,d⟩:=st
  exact ⟨o,e,fun v z=>by rw [d] at z; cases z⟩
 keep:=fun i h h' st k=>⟨st.1,st.2.at fun o e=>k it (by simp) o e⟩
 item:=by
  intro X hP hw hK hc i pins s σ H E I hf st hg
  subst hP hw hK
  obtain ⟨xs,hq,hn,hi⟩:=hg
  have hx:xs[n - 1 - i]?=some (xs[n - 1 - i]'(by lia)):=List.getElem?_eq_getElem _
  obtain ⟨its,rv,p,hz⟩:=I.list hq
  obtain ⟨u,hu,ru⟩:=rv.get hx
  obtain ⟨f0,f1,f2,f3,f4,f5⟩:=hf it (by simp)
  have en:(n:Int) - 1 - (i:Int)=((n - 1 - i:Nat):Int):=by lia
  have hit:=st.2
  rw [en] at hit
  refine wpAny_pyNext_rev_item hit p.isList (x:=u) (by simpa using hu) fun h' st' sb => ?_
  have en2:((n - 1 - i:Nat):Int) - 1=(n:Int) - 1 - ((i+1:Nat):Int):=by lia
  rw [en2] at st'
  have I1:Inv X pins σ H { s with heap:=h' }:=I.turned (t':=s.toks) (fun b o hb e=>(sb.2 b hb).trans e) f0 f1 f3 f4 f5
  obtain ⟨o,e,c,d⟩:=id st'
  exact ⟨u,rfl,zj0 (s:={ s with heap:=h' }) e c d (by decide) ⟨_,H,I1,ru,⟨rfl,fun ys hy=>by rw [I.list_inj hy hq]; exact hx⟩,⟨hi,st'⟩,fun b hb=>(hf b hb).1⟩⟩
 done:=by
  intro X hP hw hK hc i pins s σ H E I hf st hg
  subst hP hw hK
  obtain ⟨f0,f1,f2,f3,f4,f5⟩:=hf it (by simp)
  have hn:n≤i:=hg
  have en:(n:Int) - 1 - (i:Int) = -1:=by have:=st.1; lia
  have hit:=st.2
  rw [en] at hit
  exact wpAny_pyNext_rev_end (I.ok.hd hc) hit fun h' eb=>⟨rfl,I.turned (t':=s.toks) (fun b o hb e=>eb b o hb e) f0 f1 f3 f4 f5⟩
 self:=fun _ _ _ _ _ st h=>wpAny_pyIter_revIter st.2 h
noncomputable def iRev (K:PySem.W.Frag) (ta:TA):TI:=fun σ H R=>ta σ H fun vs H1=>∃ a xs,vs=[.ref a]∧H1 a=some (.lst xs)∧R (Itv K a xs.length) H1
theorem zkO {X:Cx} {tg:Expr} {p cpos:Pos} {l:Expr} {ta:TA} (hm:X.mg "reversed" = none) (ha:PA X [l] ta) (hg:Gl X "reversed" := by rfl) (hs:starEach [l] X.env=[(false,eval l X.env)]:=by rfl):PI X tg (.Call (.Name "reversed" p) [l] [] cpos) (iRev X.K ta):=by
 intro pins s σ H R I h
 refine Call_ (uU I hg hm boot_reversed (PyProof.Rows.callWith_type1 (thn (ha cpos pins s σ H _ I h) fun us s1 ⟨vs,H1,I1,r1,q1⟩ => ?_) hs rfl))
 obtain ⟨a,xs,rfl,hH,q⟩:=q1
 obtain ⟨u,rfl,r2⟩:=zfG r1
 cases (show u=.ref a from r2)
 obtain ⟨z,its,n,rv,hlen,e⟩:=I1.lstM hH
 have hl:s1.heap.IsList a its.toArray:=⟨_,e,rfl,_,rfl⟩
 refine call_reversed_list hl ?_
 have I2:Inv X pins σ H1 { s1 with heap:=s1.heap.push (revObj a ((its.toArray.size:Int) - 1)),toks:=s1.toks }:=I1.kept (t':=s1.toks) fun b o e=>Heap.get?_push_of_some _ e
 have hit:(s1.heap.push (revObj a ((its.toArray.size:Int) - 1))).IsRevIter s1.heap.objs.size a ((xs.length:Int) - 1 - ((0:Nat):Int)):=⟨_,Heap.get?_push_size _ rfl,rfl,by simp [revObj,hlen]⟩
 refine wpAny_pyIter_revIter hit ?_
 refine ⟨s1.heap.objs.size,[s1.heap.objs.size],_,Itv X.K a xs.length,H1,rfl,I2,zd8 a _ xs.length,⟨Nat.zero_le _,hit⟩,fun b hb => ?_,q⟩
 have e:b=s1.heap.objs.size:=by simpa using hb
 subst e
 exact I1.fpOk (Nat.le_refl _) (I1.hok.fresh (Nat.le_refl _))
theorem zjT {K:PySem.W.Frag} {G:Hp} {a:Addr} {ds:List D} {vs:List V} (h:SqL K G a vs) (r:RepL K G ds vs):JOk K (Itv K a vs.length) G ds.reverse where
 go:=fun i G' H' s l hi=>by
  rw [List.length_reverse,r.length] at hi
  exact ⟨vs,l.seq (s.seq h),rfl,hi⟩
 stop:=fun i G' H' s l hi=>by
  rw [List.length_reverse,r.length] at hi
  exact hi
 yld:=fun i G' H' x H1 s l hi y=>by
  obtain ⟨e,y⟩:=y
  subst e
  rw [List.length_reverse] at hi
  have hx:=y vs (l.seq (s.seq h))
  rw [←r.length] at hx
  obtain ⟨d,h1,h2⟩:=r.get' hx
  exact ⟨d,G',by rw [List.getElem?_reverse hi]; exact h1,Grow.refl _ _,l,h2.mono s⟩
@[simp] noncomputable def fRev (f:FE):FI:=fun env=>(f env).bind fun x=>x.hold.bind fun d=>match d with
  | .lst ds=>.ok ds.reverse
  | _=>.bad
theorem zlF {X:Cx} {G₀ H₀:Hp} {tg:Expr} {p cpos:Pos} {l:Expr} {f:FE} (hm:X.mg "reversed" = none) (hl:DE X G₀ H₀ l f) (hg:Gl X "reversed" := by rfl) (hs:starEach [l] X.env=[(false,eval l X.env)]:=by rfl) :
 DIt X G₀ H₀ tg (.Call (.Name "reversed" p) [l] [] cpos) (fRev f):=(zkO hm (yn hl vo hs) hg hs).imp fun σ H R q=>by
 obtain ⟨env,G,ds,I,e,k⟩:=q
 obtain ⟨x,e1,e⟩:=zq e
 obtain ⟨d,e2,e⟩:=zq e
 refine ⟨env,G,x,I,e1,fun v G' H' g l h => ?_⟩
 obtain ⟨G2,g2,l2,h2⟩:=held g l h e2
 split at e
 ·cases e
  obtain ⟨a,vs,rfl,h3,r3⟩:=h2
  exact ⟨a,vs,rfl,l2 _ _ h3,k _ G2 H' g2 l2 (zjT (SqL.of h3) r3)⟩
 ·cases e
end DL
namespace DL
open PySem PySem.Spec PyProof.Rows L2
section
variable {prog:Program} {w:World} {A:Around} {s:Shared} {R:Result→Shared→Prop} {I l S:Addr} {its:List Value} {ns:List Int}
end
section
variable {prog:Program} {w:World} {A:Around} {s:Shared} {R:Result→Shared→Prop} {I l S:Addr} {its:List Value} {ns:List Int}
end
end DL
namespace DL
open PySem PySem.Spec PyProof.Rows L2
end DL
namespace DL
open PySem PySem.Spec PyProof.Rows L2
section
variable {X:Cx} {G₀ H₀:Hp} {elt iter tg:Expr} {ifs:List Expr} {scope:Scope} {pos:Pos} {fi:FI} {g:D→Ev→Out Ev} {ft:FT} {fe:FE} {cap:List Nat} {own:List Str}
theorem zdJ {i:Nat} {x:Str} {pos' spos:Pos} (fz:Bool) (hN:X.N.Nodup) (C:CompOk X scope cap own) (hi:DIt X G₀ H₀ tg iter fi)
 (hg:∀ ex s H,DG (y9 X (capN X cap own) scope ex s H) G₀ H₀ tg g) (hgc:Calm g) (ht:∀ ex s H,DTs (y9 X (capN X cap own) scope ex s H) G₀ H₀ ifs ft) (he:∀ ex s H,DE (y9 X (capN X cap own) scope ex s H) G₀ H₀ elt fe)
 (hc:X.calm=true:=by rfl) (hs:∀ x,foldedSetIterable iter X.env x=pure x:=by intro _; rfl) (hix:X.N[i]?=some x:=by rfl) (hx:Loc X.env.scope x:=by first | exact Or.inl rfl | exact Or.inr rfl)
 (hsw:swapsWith (.ListComp elt [⟨tg,iter,ifs,0⟩] scope pos) (some (.Name x pos')) spos.line X.env=pure true:=by rfl) (hf:X.fn x=true∨X.env.scope.names.lookup x=some .local:=by first | exact .inl rfl | exact .inr rfl) :
 DS X G₀ H₀ (.Assign [.Name x pos'] (.ListComp elt [⟨tg,iter,ifs,0⟩] scope pos) spos) (setS i fz (xL cap own.length fi g ft fe)):=by
 intro pins s σ H D I q
 obtain ⟨env,G,val,D0,e,k⟩:=zck q
 obtain ⟨ds,e1,e⟩:=zq e
 split at e
 rotate_left
 ·cases e
 rename_i hz
 obtain ⟨out,e2,e⟩:=zq e
 cases e
 rw [exec_Assign_Name_used _ _ _ _ hsw]
 refine wpAny_bind (wpAny_standAt (wpAny_bind ?_))
 show wpAny _ X.A (do let _ ← comprehension (.ListComp elt [⟨tg,iter,ifs,0⟩] scope pos) scope X.env _ (newList []) false (eval iter X.env) (some (assign (.Name x pos') X.env))) _ _ s
 refine wpAny_bind (wpAny_mono (wpAny_comprehension_free (use:=some (assign (.Name x pos') X.env)) (Q:=fun _ s'=>SP X pins D .next s') (cl:=xa X.env.cells scope.names []) rfl hs (v6 (C.cells I)) C.kind C.locals ?_) (fun _ s' hq=>wpAny_pure (wpAny_pure hq)) fun _ _ e=>e)
 refine thn (hi pins s σ H (fun J H2=>∃ G2,Grow G H G2 H2∧Same G2 H2∧JOk X.K J G2 ds) I ⟨env,G,ds,D0,e1,fun J G2 H2 g2 l2 jok=>⟨G2,g2,l2,jok⟩⟩) fun v s1 h1=>thn h1 fun itv s2 h2 => ?_
 obtain ⟨it,fp,tn,J,H2,rfl,I2,T,st2,f2,G2,g2,l2,jok⟩:=h2
 refine zbm (RR:=fun acc C=>compPost (model X.prog X.w) X.A X.xe (some (assign (.Name x pos') X.env)) (fun _ s'=>SP X pins D .next s') acc C) C hc hg hgc ht he I2 (D0.grow g2 l2) T st2 f2 jok hz e2 fun L C' vs G' H' s' hC fD hD gD r gr l hm hI => ?_
 obtain ⟨m,hm⟩:=hm
 have I':Inv X pins σ H' s':=hI s'.heap (Heap.SameBut.refl _ _)
 have fC:FpOk X pins H' C':=I2.fpOk hC.1 hC.2
 show wpAny _ X.A (assign (.Name x pos') X.env (.ref L)) _ _ s'
 refine wpAny_assign_Name (zcj I' hN hix hx (v:=.ref L) rfl (fun s3 I3 ⟨a,sb,ha⟩ => ?_) hf)
 have hne:C'≠a:=fun z=>by
  rcases ha with ha | ha
  ·exact fC.2.1 (z.trans ha)
  ·exact fC.2.2.2.2.1 x a ha z.symm
 refine ⟨m,hm.sameBut sb hne,fun h' sb' => ?_⟩
 have I4:Inv X pins (σ.set i (some (.ref L))) H' { s3 with heap:=h' }:=Inv.turnedF (fp:=[C']) (t':=s3.toks) I3 (fun b hb=>by rw [List.mem_singleton.mp hb]; exact fC) fun b u hb e=>sb'.extBut b u (fun z=>hb (by simp [z])) e
 exact ⟨_,H',I4,k _ G' H' (g2.trans gr) l ⟨L,vs,rfl,g2.h.free fD,hD,gD,r⟩⟩
end
end DL
namespace DL
open PySem PySem.Spec PyProof.Rows L2
section
variable {prog:Program} {w:World} {A:Around} {E:Value→Shared→Prop} {s:Shared}
end
end DL
namespace DL
open PySem PySem.Spec PyProof.Rows L2
end DL
namespace DL
open PySem PySem.Spec PyProof.Rows L2
end DL
namespace DL
open PySem PySem.Spec PyProof.Rows L2
structure Fly (P:Program) (w:World) (outer:List Env) (H H':Hp) (s s':Shared) (e:Addr) (cls:Value):Prop where
 os:s'.os=s.os
 bare:AllBare s'.gens
 same:Same H H'
 un:Un (frs outer) [] H H' s.heap s'.heap
 hok:HOk P w H' s'.heap
 fly:∃ (B:Heap) (a0:Value),Heap.FlyingW B outer e cls a0 s'.heap∧(∀ b o,s.heap.get? b=some o→H b=none→b∉frs outer→B.get? b=some o)∧(∀ b u o,H' b=some u→s'.heap.get? b=some o→B.get? b=some o)
section
variable {X:Cx} {pins:List (Addr×Obj)} {σ:St} {H H1:Hp} {s s1:Shared} {B h':Heap} {e:Addr} {cls a0:Value}
end
end DL
namespace DL
open PySem PySem.Spec PyProof.Rows L2
noncomputable abbrev SS:=Ev→St→Hp→Hp→Prop
noncomputable def Wish (mk:Bool) (X:Cx) (pins:List (Addr×Obj)) (S:SS) (c:Str):Prop :=
 (mk=true→∀ (σ:St) (H G:Hp) (env:Ev) (s:Shared) (e:Addr) (h1:Heap) (vs:List Value) (C:Addr),Inv X pins σ H s→S env σ G H→X.mg c=some (.ref C)→Heap.MadeExcOf s.heap h1 e (.ref C) vs→X.xe (.ref e) { s with heap:=h1 }) ∧
 (∀ (σ:St) (H G H1 G1:Hp) (env:Ev) (s s1:Shared) (e C:Addr),Inv X pins σ H s→S env σ G H→X.mg c=some (.ref C)→Fly X.prog X.w X.stack H H1 s s1 e (.ref C)→Grow G H G1 H1→Same G1 H1→X.xe (.ref e) s1)
noncomputable abbrev RR:=Ev→Str→Prop
section
variable (mk:Bool) (X:Cx) (G₀ H₀:Hp)
noncomputable def RW (α:Type) (m:Sem α) (R:RR):Prop:=∀ (pins:List (Addr×Obj)) (s:Shared) (σ:St) (H:Hp) (env:Ev) (G:Hp) (c:Str) (Q:α→Shared→Prop) (S:SS),Inv X pins σ H s→DI X.K G₀ H₀ env σ G H→R env c→(∀ G' H',Grow G H G' H'→Same G' H'→S env σ G' H')→Wish mk X pins S c→wpAny (model X.prog X.w) X.A m Q X.xe s
noncomputable def RE (e:Expr) (R:RR):Prop:=RW mk X G₀ H₀ Value (eval e X.env) R
end
section
variable {mk:Bool} {X:Cx} {G₀ H₀:Hp} {pos:Pos} {R:RR}
end
end DL
namespace DL
open PySem PySem.Spec PyProof.Rows L2 PySem.W PySem.Builtin PySem.Builtin.ObjectAttr PySem.Builtin.Getset_descriptor
section
variable {prog:Program} {w:World} {A:Around} {E:Value→Shared→Prop} {s:Shared} {K:PySem.W.Frag} {e C:Addr}
end
end DL
namespace DL
open PySem PySem.Spec PyProof.Rows L2
section
variable {X:Cx} {pins:List (Addr×Obj)} {σ:St} {H H1:Hp} {s s1:Shared} {B h':Heap} {e C:Addr} {cls a0:Value}
end
end DL
namespace DL
open PySem PySem.Spec PyProof.Rows L2
section
variable {X:Cx} {pins:List (Addr×Obj)} {σ:St} {H H1:Hp} {s s1:Shared} {e C:Addr}
end
end DL
namespace DL
open PySem PySem.Spec PyProof.Rows L2
section
variable {mk:Bool} {X:Cx} {G₀ H₀:Hp} {pos:Pos} {R:RR}
end
end DL
namespace DL
open PySem PySem.Spec PyProof.Rows L2
end DL
namespace DL
open PySem PySem.Spec PyProof.Rows L2
end DL
namespace DL
open PySem PySem.Spec PyProof.Rows L2
end DL
namespace DL
open PySem PySem.Spec PyProof.Rows L2
end DL
namespace DL
open PySem PySem.Spec PyProof.Rows L2
end DL
namespace DL
open PySem
end DL
namespace DL
open PySem
section
variable {prog:Program} {w:World} {A:Around} {E:Value→Shared→Prop} {h:Heap} {g:Array GenState} {d:Drawn} {t:Nat} {os:OsState}
variable {nm q:Str} {C N:Addr} {bs bm bmB:List Value} {hdct:Bool} {sn:List Str} {sub:List Value} {ab:Bool} {col:Option Bool} {dd:Option Addr} {k0 k1 k2 k3 k5:Option Value} {B newId initId:String}
end
section
variable {prog:Program} {w:World} {A:Around} {E:Value→Shared→Prop} {s:Shared} {env:Env}
variable {nm q:Str} {C N:Addr} {bs bm bmB:List Value} {hdct:Bool} {sn:List Str} {sub:List Value} {ab:Bool} {col:Option Bool} {dd:Option Addr} {k0 k1 k2 k3 k5:Option Value} {B newId initId:String}
end
end DL
namespace DL
open PySem PySem.Spec PyProof.Rows L2 PySem.W PySem.Builtin PySem.Builtin.ObjectAttr
section
variable {prog:Program} {w:World} {A:Around} {E:Value→Shared→Prop} {s:Shared} {K:PySem.W.Frag} {e C t:Addr} {f:Str} {v:Value}
end
end DL
namespace DL
open PySem PySem.Spec PyProof.Rows L2
noncomputable abbrev Xc:=Str×Option Int
noncomputable abbrev RX:=Ev→Xc→Prop
section
variable {X:Cx} {pins:List (Addr×Obj)} {σ:St} {H H1:Hp} {s s1:Shared} {e C:Addr} {dq:Option Addr} {cls:Value}
end
section
variable (mk:Bool) (X:Cx) (G₀ H₀:Hp)
end
section
variable {mk:Bool} {X:Cx} {G₀ H₀:Hp} {pos:Pos} {R:RX}
end
end DL
namespace DL
open PySem PySem.Spec PyProof.Rows L2
section
variable {X:Cx} {o value:Expr} {f:Str} {pos pos':Pos} {ta tv:TE}
end
section
variable {X:Cx} {G₀ H₀:Hp} {pos:Pos} {pins:List (Addr×Obj)} {σ:St} {H:Hp} {s:Shared} {e C:Addr}
end
end DL
namespace DL
open PySem PySem.Spec PyProof.Rows L2
section
variable {X:Cx} {pins:List (Addr×Obj)} {σ:St} {H H1:Hp} {s s1:Shared} {e C:Addr} {dq:Option Addr}
end
end DL
namespace DL
open PySem PySem.Spec PyProof.Rows L2
end DL
namespace DL
open PySem PySem.Spec PyProof.Rows L2
end DL
namespace DL
open PySem PySem.Spec PyProof.Rows L2
noncomputable abbrev Tri (h:Heap) (T:Addr) (a b c:Value):Prop:=h.get? T=some { cls:=.type "tuple",data:=.seq #[a,b,c] }
theorem nq {a b:Nat} (h:a≠b):@Ne Addr a b:=h
section
variable {prog:Program} {w:World} {A:Around} {E:Value→Shared→Prop} {s:Shared}
theorem tW {T:Addr} {a b c x:Value} {k:Nat} {Q:Unit→Shared→Prop} (hT:Tri s.heap T a b c)
 (h:∀ h',h'.get? T=some { cls:=.type "tuple",data:=.seq ((#[a,b,c]:Array Value).setIfInBounds k x) }→Heap.SameBut T s.heap h'→Q () { s with heap:=h' }) :
 wpAny (model prog w) A (updateSeq T (·.setIfInBounds k x)) Q E s:=by
 refine wpAny_updateSeq hT rfl (h _ ?_ (Heap.SameBut.update ..))
 rw [Heap.get?_update_self _ hT rfl]
 simp [Obj.mapSeq]
structure Z3 (h:Heap) (m l1 l2 l3:Nat) (f:Value) (i:Nat):Prop where
 z:IsZip h (m+5) (m+3) (m+4) f
 ti:Tri h (m+3) (.ref m) (.ref (m+1)) (.ref (m+2))
 to:∃ a b c,Tri h (m+4) a b c
 p1:h.IsListIter m l1 i
 p2:h.IsListIter (m+1) l2 i
 p3:h.IsListIter (m+2) l3 i
noncomputable def fp3 (m:Nat):List Addr:=[m+5,m+4,m+3,m,m+1,m+2]
theorem zi7 {m l1 l2 l3:Nat} {k:Nat} {xs ys zs:Array Value} {x y v:Value} {Q:Value→Shared→Prop} (st:Z3 s.heap m l1 l2 l3 .none k) (n1:l1<m) (n2:l2<m) (n3:l3<m)
 (hl1:s.heap.IsList l1 xs) (hl2:s.heap.IsList l2 ys) (hl3:s.heap.IsList l3 zs) (hx:xs[k]?=some x) (hy:ys[k]?=some y) (hv:zs[k]?=some v)
 (hQ:∀ h',Z3 h' m l1 l2 l3 (rawInt s.heap.objs.size) (k+1)→Tri h' s.heap.objs.size x y v→h'.objs.size=s.heap.objs.size+1 →
  (∀ c o,c∉fp3 m→s.heap.get? c=some o→h'.get? c=some o)→Q (.ref s.heap.objs.size) { s with heap:=h' }) :
 wpAny (model prog w) A (Builtin.«zip.__next__» ⟨[.ref (m+5)],[]⟩) (fun fin s'=>∃ v,fin=.done (.ret v)∧Q v s') E s:=by
 obtain ⟨hz,hTI,⟨a,b,c,hTO⟩,h1,h2,h3⟩:=st
 show wpAny _ _ (field (.ref (m+5)) 2 >>= _) _ _ _
 refine wpAny_bind (wpAny_field hz rfl (x:=.bool false) rfl ?_)
 show wpAny _ _ (field (.ref (m+5)) 3 >>= _) _ _ _
 refine wpAny_bind (wpAny_field hz rfl (x:=.ref (m+3)) rfl ?_)
 refine wpAny_bind (wpAny_seqItems hTI rfl ?_)
 show wpAny _ _ (Builtin.SmallTypes.ownedTupleIsFree (.ref (m+5)) >>= _) _ _ _
 refine wpAny_bind ?_
 unfold Builtin.SmallTypes.ownedTupleIsFree
 refine wpAny_bind (wpAny_field hz rfl (x:=.none) rfl (wpAny_pure ?_))
 simp only [if_true]
 refine wpAny_bind (wpAny_rule ?_)
 refine wpAny_bind (wpAny_field hz rfl (x:=.ref (m+4)) rfl ?_)
 refine wpAny_bind (wpAny_setField_rec hz (by simp) fun ha za sa => ?_)
 replace za:IsZip ha (m+5) (m+3) (m+4) .ellipsis:=za
 refine wpAny_bind ?_
 simp only [List.zipIdx_cons,List.zipIdx_nil,List.forIn_cons,List.forIn_nil]
 refine wpAny_bind (wpAny_bind (wpAny_onRaise ?_))
 show wpAny _ _ (Builtin.SmallTypes.nextOf (.ref m) >>= _) _ _ _
 refine wpAny_bind (wpAny_nextOf_list_item (h1.extBut sa.extBut (nq (by lia))) (hl1.extBut sa.extBut (nq (by lia))) hx fun hb ib sb=>wpAny_pure ?_)
 have tb:Tri hb (m+4) a b c:=sb.extBut _ _ (nq (by lia)) (sa.extBut _ _ (nq (by lia)) hTO)
 refine wpAny_bind (wpAny_seqItems tb rfl ?_)
 refine wpAny_bind (tW tb fun hc tc sc => ?_)
 replace tc:Tri hc (m+4) x b c:=tc
 refine wpAny_bind (wpAny_letGo (wpAny_pure ?_))
 have k1:∀ u o,u∉fp3 m→s.heap.get? u=some o→hc.get? u=some o:=fun u o hu e=>by
  simp only [fp3,List.mem_cons,List.not_mem_nil,or_false,not_or] at hu
  exact sc.extBut _ _ hu.2.1 (sb.extBut _ _ hu.2.2.2.1 (sa.extBut _ _ hu.1 e))
 have j2:hc.IsListIter (m+1) l2 k:=((h2.extBut sa.extBut (nq (by lia))).extBut sb.extBut (nq (by lia))).extBut sc.extBut (nq (by lia))
 have j3:hc.IsListIter (m+2) l3 k:=((h3.extBut sa.extBut (nq (by lia))).extBut sb.extBut (nq (by lia))).extBut sc.extBut (nq (by lia))
 have L2:hc.IsList l2 ys:=((hl2.extBut sa.extBut (nq (by lia))).extBut sb.extBut (nq (by lia))).extBut sc.extBut (nq (by lia))
 have L3:hc.IsList l3 zs:=((hl3.extBut sa.extBut (nq (by lia))).extBut sb.extBut (nq (by lia))).extBut sc.extBut (nq (by lia))
 have zc:IsZip hc (m+5) (m+3) (m+4) .ellipsis:=sc.extBut _ _ (nq (by lia)) (sb.extBut _ _ (nq (by lia)) za)
 have uc:Tri hc (m+3) (.ref m) (.ref (m+1)) (.ref (m+2)):=sc.extBut _ _ (nq (by lia)) (sb.extBut _ _ (nq (by lia)) (sa.extBut _ _ (nq (by lia)) hTI))
 have ic:hc.IsListIter m l1 (k+1):=ib.extBut sc.extBut (nq (by lia))
 have zsz:hc.objs.size=s.heap.objs.size:=by rw [sc.1,sb.1,sa.1]
 clear sa sb sc tb ib za hTO h1 h2 h3
 refine wpAny_bind (wpAny_bind (wpAny_onRaise ?_))
 show wpAny _ _ (Builtin.SmallTypes.nextOf (.ref (m+1)) >>= _) _ _ _
 refine wpAny_bind (wpAny_nextOf_list_item j2 L2 hy fun hd id sd=>wpAny_pure ?_)
 have td:Tri hd (m+4) x b c:=sd.extBut _ _ (nq (by lia)) tc
 refine wpAny_bind (wpAny_seqItems td rfl ?_)
 refine wpAny_bind (tW td fun he te se => ?_)
 replace te:Tri he (m+4) x y c:=te
 refine wpAny_bind (wpAny_letGo (wpAny_pure ?_))
 have k2:∀ u o,u∉fp3 m→s.heap.get? u=some o→he.get? u=some o:=fun u o hu e=>by
  have e:=k1 u o hu e
  simp only [fp3,List.mem_cons,List.not_mem_nil,or_false,not_or] at hu
  exact se.extBut _ _ hu.2.1 (sd.extBut _ _ hu.2.2.2.2.1 e)
 have q3:he.IsListIter (m+2) l3 k:=(j3.extBut sd.extBut (nq (by lia))).extBut se.extBut (nq (by lia))
 have M3:he.IsList l3 zs:=(L3.extBut sd.extBut (nq (by lia))).extBut se.extBut (nq (by lia))
 have ze:IsZip he (m+5) (m+3) (m+4) .ellipsis:=se.extBut _ _ (nq (by lia)) (sd.extBut _ _ (nq (by lia)) zc)
 have ue:Tri he (m+3) (.ref m) (.ref (m+1)) (.ref (m+2)):=se.extBut _ _ (nq (by lia)) (sd.extBut _ _ (nq (by lia)) uc)
 have ie:he.IsListIter m l1 (k+1):=(ic.extBut sd.extBut (nq (by lia))).extBut se.extBut (nq (by lia))
 have je:he.IsListIter (m+1) l2 (k+1):=id.extBut se.extBut (nq (by lia))
 have zsz2:he.objs.size=s.heap.objs.size:=by rw [se.1,sd.1]; exact zsz
 clear sd se td id zc uc ic tc j2 j3 L2 L3 zsz
 refine wpAny_bind (wpAny_bind (wpAny_onRaise ?_))
 show wpAny _ _ (Builtin.SmallTypes.nextOf (.ref (m+2)) >>= _) _ _ _
 refine wpAny_bind (wpAny_nextOf_list_item q3 M3 hv fun hf jf sf=>wpAny_pure ?_)
 have tf:Tri hf (m+4) x y c:=sf.extBut _ _ (nq (by lia)) te
 refine wpAny_bind (wpAny_seqItems tf rfl ?_)
 refine wpAny_bind (tW tf fun hg tg sg => ?_)
 replace tg:Tri hg (m+4) x y v:=tg
 refine wpAny_bind (wpAny_letGo (wpAny_pure (wpAny_pure ?_)))
 have k3:∀ u o,u∉fp3 m→s.heap.get? u=some o→hg.get? u=some o:=fun u o hu e=>by
  have e:=k2 u o hu e
  simp only [fp3,List.mem_cons,List.not_mem_nil,or_false,not_or] at hu
  exact sg.extBut _ _ hu.2.1 (sf.extBut _ _ hu.2.2.2.2.2 e)
 have zg:IsZip hg (m+5) (m+3) (m+4) .ellipsis:=sg.extBut _ _ (nq (by lia)) (sf.extBut _ _ (nq (by lia)) ze)
 have ug:Tri hg (m+3) (.ref m) (.ref (m+1)) (.ref (m+2)):=sg.extBut _ _ (nq (by lia)) (sf.extBut _ _ (nq (by lia)) ue)
 have ig:hg.IsListIter m l1 (k+1):=(ie.extBut sf.extBut (nq (by lia))).extBut sg.extBut (nq (by lia))
 have jg:hg.IsListIter (m+1) l2 (k+1):=(je.extBut sf.extBut (nq (by lia))).extBut sg.extBut (nq (by lia))
 have qg:hg.IsListIter (m+2) l3 (k+1):=jf.extBut sg.extBut (nq (by lia))
 have hsz:hg.objs.size=s.heap.objs.size:=by rw [sg.1,sf.1]; exact zsz2
 refine wpAny_bind (wpAny_seqItems tg rfl ?_)
 refine wpAny_bind (wpAny_newTuple ?_)
 have lt:m+5<hg.objs.size:=Heap.lt_size zg
 show wpAny _ _ (Builtin.SmallTypes.ownedTupleHandOut (.ref (m+5)) (.ref hg.objs.size) >>= _) _ _ _
 refine wpAny_bind ?_
 unfold Builtin.SmallTypes.ownedTupleHandOut
 have zp:IsZip (hg.push { cls:=.type "tuple",data:=.seq #[x,y,v] }) (m+5) (m+3) (m+4) .ellipsis:=Heap.get?_push_of_some _ zg
 refine wpAny_bind (wpAny_setField_rec zp (by simp) fun hr zr sr => ?_)
 replace zr:IsZip hr (m+5) (m+3) (m+4) (rawInt hg.objs.size):=zr
 refine wpAny_setField_rec zr (by simp) fun ht zt st => ?_
 replace zt:IsZip ht (m+5) (m+3) (m+4) (rawInt hg.objs.size):=zt
 have up:∀ u o,u≠m+5→hg.get? u=some o→ht.get? u=some o:=fun u o hu e=>st.extBut _ _ hu (sr.extBut _ _ hu (Heap.get?_push_of_some _ e))
 have nt:Tri ht hg.objs.size x y v:=st.extBut _ _ (Nat.ne_of_gt lt) (sr.extBut _ _ (Nat.ne_of_gt lt) (Heap.get?_push_size _ rfl))
 have tsz:ht.objs.size=hg.objs.size+1:=by rw [st.1,sr.1,Heap.size_push]
 rw [hsz] at zt nt tsz
 refine wpAny_pure ⟨_,rfl,?_⟩
 show Q (.ref hg.objs.size) _
 rw [hsz]
 refine hQ ht ⟨zt,up _ _ (nq (by lia)) ug,⟨x,y,v,up _ _ (nq (by lia)) tg⟩,ig.at fun o e=>up _ o (nq (by lia)) e,jg.at fun o e=>up _ o (nq (by lia)) e,qg.at fun o e=>up _ o (nq (by lia)) e⟩ nt tsz fun u o hu e=>up u o (fun q=>hu (by simp [fp3,q])) (k3 u o hu e)
theorem zkp {m l1 l2 l3:Nat} {k:Nat} {xs ys zs:Array Value} {Q:Fin→Shared→Prop} (hh:A.handled=none) (st:Z3 s.heap m l1 l2 l3 .none k) (n1:l1<m) (n2:l2<m) (n3:l3<m)
 (hl1:s.heap.IsList l1 xs) (hl2:s.heap.IsList l2 ys) (hl3:s.heap.IsList l3 zs) (hend:xs[k]?=none∨ys[k]?=none∨zs[k]?=none)
 (hE:∀ h' e,(∀ c o,c∉fp3 m→s.heap.get? c=some o→h'.get? c=some o)→(∃ o,h'.get? e=some o∧o.cls=.type "StopIteration")→E (.ref e) { s with heap:=h' }) :
 wpAny (model prog w) A (Builtin.«zip.__next__» ⟨[.ref (m+5)],[]⟩) Q E s:=by
 obtain ⟨hz,hTI,⟨a,b,c,hTO⟩,h1,h2,h3⟩:=st
 have stop:∀ (hp:Heap) (e:Addr) (k0:∀ u o,u∉fp3 m→s.heap.get? u=some o→hp.get? u=some o) (ze:IsZip hp (m+5) (m+3) (m+4) .ellipsis) (oe:Obj) (hoe:hp.get? e=some oe) (hce:oe.cls=.type "StopIteration") (Q':Unit→Shared→Prop) (hq:∀ h',(∀ c o,c∉fp3 m→s.heap.get? c=some o→h'.get? c=some o)→(∃ o,h'.get? e=some o∧o.cls=.type "StopIteration")→Q' () { s with heap:=h' }),
  wpAny (model prog w) A (setField (.ref (m+5)) 0 .none) Q' E { s with heap:=hp }:=by
  intro hp e k0 ze oe hoe hce Q' hq
  have hez:e≠m+5:=fun x=>by subst x; rw [ze] at hoe; cases hoe; simp at hce
  refine wpAny_setField_rec ze (by simp) fun hr _ sr=>hq hr (fun u o hu q => ?_) ⟨oe,sr.extBut _ _ hez hoe,hce⟩
  refine sr.extBut _ _ (fun z=>hu (by simp [fp3,z])) (k0 u o hu q)
 show wpAny _ _ (field (.ref (m+5)) 2 >>= _) _ _ _
 refine wpAny_bind (wpAny_field hz rfl (x:=.bool false) rfl ?_)
 show wpAny _ _ (field (.ref (m+5)) 3 >>= _) _ _ _
 refine wpAny_bind (wpAny_field hz rfl (x:=.ref (m+3)) rfl ?_)
 refine wpAny_bind (wpAny_seqItems hTI rfl ?_)
 show wpAny _ _ (Builtin.SmallTypes.ownedTupleIsFree (.ref (m+5)) >>= _) _ _ _
 refine wpAny_bind ?_
 unfold Builtin.SmallTypes.ownedTupleIsFree
 refine wpAny_bind (wpAny_field hz rfl (x:=.none) rfl (wpAny_pure ?_))
 simp only [if_true]
 refine wpAny_bind (wpAny_rule ?_)
 refine wpAny_bind (wpAny_field hz rfl (x:=.ref (m+4)) rfl ?_)
 refine wpAny_bind (wpAny_setField_rec hz (by simp) fun ha za sa => ?_)
 replace za:IsZip ha (m+5) (m+3) (m+4) .ellipsis:=za
 refine wpAny_bind ?_
 simp only [List.zipIdx_cons,List.zipIdx_nil,List.forIn_cons,List.forIn_nil]
 refine wpAny_bind (wpAny_bind (wpAny_onRaise ?_))
 show wpAny _ _ (Builtin.SmallTypes.nextOf (.ref m) >>= _) _ _ _
 have g1:ha.IsListIter m l1 k:=h1.extBut sa.extBut (nq (by lia))
 have gl:ha.IsList l1 xs:=hl1.extBut sa.extBut (nq (by lia))
 have ka:∀ u o,u∉fp3 m→s.heap.get? u=some o→ha.get? u=some o:=fun u o hu e=>sa.extBut _ _ (fun z=>hu (by simp [fp3,z])) e
 cases hx:xs[k]? with
 | none =>
   refine wpAny_bind (wpAny_nextOf_list_end hh g1 gl hx fun hb e sb ⟨oe,hoe,hce⟩ => ?_)
   exact stop hb e (fun u o hu q=>sb _ _ (fun z=>hu (by simp [fp3,z])) (ka u o hu q)) (sb _ _ (nq (by lia)) za) oe hoe hce _ fun h' p q=>hE h' e p q
 | some x =>
   refine wpAny_bind (wpAny_nextOf_list_item g1 gl hx fun hb ib sb=>wpAny_pure ?_)
   have tb:Tri hb (m+4) a b c:=sb.extBut _ _ (nq (by lia)) (sa.extBut _ _ (nq (by lia)) hTO)
   refine wpAny_bind (wpAny_seqItems tb rfl ?_)
   refine wpAny_bind (tW tb fun hc tc sc => ?_)
   replace tc:Tri hc (m+4) x b c:=tc
   refine wpAny_bind (wpAny_letGo (wpAny_pure ?_))
   have kc:∀ u o,u∉fp3 m→s.heap.get? u=some o→hc.get? u=some o:=fun u o hu e=>sc.extBut _ _ (fun z=>hu (by simp [fp3,z])) (sb.extBut _ _ (fun z=>hu (by simp [fp3,z])) (ka u o hu e))
   have zc:IsZip hc (m+5) (m+3) (m+4) .ellipsis:=sc.extBut _ _ (nq (by lia)) (sb.extBut _ _ (nq (by lia)) za)
   have j2:hc.IsListIter (m+1) l2 k:=((h2.extBut sa.extBut (nq (by lia))).extBut sb.extBut (nq (by lia))).extBut sc.extBut (nq (by lia))
   have j3:hc.IsListIter (m+2) l3 k:=((h3.extBut sa.extBut (nq (by lia))).extBut sb.extBut (nq (by lia))).extBut sc.extBut (nq (by lia))
   have L2:hc.IsList l2 ys:=((hl2.extBut sa.extBut (nq (by lia))).extBut sb.extBut (nq (by lia))).extBut sc.extBut (nq (by lia))
   have L3:hc.IsList l3 zs:=((hl3.extBut sa.extBut (nq (by lia))).extBut sb.extBut (nq (by lia))).extBut sc.extBut (nq (by lia))
   refine wpAny_bind (wpAny_bind (wpAny_onRaise ?_))
   show wpAny _ _ (Builtin.SmallTypes.nextOf (.ref (m+1)) >>= _) _ _ _
   cases hy:ys[k]? with
   | none =>
     refine wpAny_bind (wpAny_nextOf_list_end hh j2 L2 hy fun hd e sd ⟨oe,hoe,hce⟩ => ?_)
     exact stop hd e (fun u o hu q=>sd _ _ (fun z=>hu (by simp [fp3,z])) (kc u o hu q)) (sd _ _ (nq (by lia)) zc) oe hoe hce _ fun h' p q=>hE h' e p q
   | some y =>
     have hv:zs[k]?=none:=by
      rcases hend with h | h | h
      ·rw [hx] at h; cases h
      ·rw [hy] at h; cases h
      ·exact h
     refine wpAny_bind (wpAny_nextOf_list_item j2 L2 hy fun hd id sd=>wpAny_pure ?_)
     have td:Tri hd (m+4) x b c:=sd.extBut _ _ (nq (by lia)) tc
     refine wpAny_bind (wpAny_seqItems td rfl ?_)
     refine wpAny_bind (tW td fun he te se => ?_)
     refine wpAny_bind (wpAny_letGo (wpAny_pure ?_))
     have ke:∀ u o,u∉fp3 m→s.heap.get? u=some o→he.get? u=some o:=fun u o hu e=>se.extBut _ _ (fun z=>hu (by simp [fp3,z])) (sd.extBut _ _ (fun z=>hu (by simp [fp3,z])) (kc u o hu e))
     have ze:IsZip he (m+5) (m+3) (m+4) .ellipsis:=se.extBut _ _ (nq (by lia)) (sd.extBut _ _ (nq (by lia)) zc)
     refine wpAny_bind (wpAny_bind (wpAny_onRaise ?_))
     show wpAny _ _ (Builtin.SmallTypes.nextOf (.ref (m+2)) >>= _) _ _ _
     refine wpAny_bind (wpAny_nextOf_list_end hh ((j3.extBut sd.extBut (nq (by lia))).extBut se.extBut (nq (by lia))) ((L3.extBut sd.extBut (nq (by lia))).extBut se.extBut (nq (by lia))) hv fun hf e sf ⟨oe,hoe,hce⟩ => ?_)
     exact stop hf e (fun u o hu q=>sf _ _ (fun z=>hu (by simp [fp3,z])) (ke u o hu q)) (sf _ _ (nq (by lia)) ze) oe hoe hce _ fun h' p q=>hE h' e p q
end
end DL
namespace DL
open PySem PySem.Spec PyProof.Rows L2
section
variable {prog:Program} {w:World} {A:Around} {E:Value→Shared→Prop} {s:Shared}
theorem zi6 {m l1 l2 l3:Nat} {k:Nat} {xs ys zs:Array Value} {x y v:Value} {Q:Option Value→Shared→Prop} (st:Z3 s.heap m l1 l2 l3 .none k) (n1:l1<m) (n2:l2<m) (n3:l3<m)
 (hl1:s.heap.IsList l1 xs) (hl2:s.heap.IsList l2 ys) (hl3:s.heap.IsList l3 zs) (hx:xs[k]?=some x) (hy:ys[k]?=some y) (hv:zs[k]?=some v)
 (hQ:∀ h',Z3 h' m l1 l2 l3 (rawInt s.heap.objs.size) (k+1)→Tri h' s.heap.objs.size x y v→h'.objs.size=s.heap.objs.size+1 →
  (∀ c o,c∉fp3 m→s.heap.get? c=some o→h'.get? c=some o)→Q (some (.ref s.heap.objs.size)) { s with heap:=h' }):wpAny (model prog w) A (pyNext (.ref (m+5))) Q E s:=by
 have hT:s.TypeIs (.ref (m+5)) "zip" := ⟨_,st.z,rfl⟩
 unfold pyNext
 exact wpAny_bind (wpAny_attempt (wpAny_callSpecial?_slot (name:=Str.ofString "__next__") hT PySem.F.slot_zip_next (wpAny_call_entry PySem.F.slot_zip_next hT PySem.F.entry_zip_next (zi7 st n1 n2 n3 hl1 hl2 hl3 hx hy hv fun h' a1 a2 a3 a4=>wpAny_pure (hQ h' a1 a2 a3 a4)) (PySem.F.args_zip_next_1 _))))
theorem zi5 {m l1 l2 l3:Nat} {k:Nat} {xs ys zs:Array Value} {Q:Option Value→Shared→Prop} (hh:A.handled=none) (st:Z3 s.heap m l1 l2 l3 .none k) (n1:l1<m) (n2:l2<m) (n3:l3<m)
 (hl1:s.heap.IsList l1 xs) (hl2:s.heap.IsList l2 ys) (hl3:s.heap.IsList l3 zs) (hend:xs[k]?=none∨ys[k]?=none∨zs[k]?=none)
 (hQ:∀ h',(∀ c o,c∉fp3 m→s.heap.get? c=some o→h'.get? c=some o)→Q none { s with heap:=h' }):wpAny (model prog w) A (pyNext (.ref (m+5))) Q E s:=by
 have hT:s.TypeIs (.ref (m+5)) "zip" := ⟨_,st.z,rfl⟩
 unfold pyNext
 refine wpAny_bind (wpAny_attempt (wpAny_callSpecial?_slot (name:=Str.ofString "__next__") hT PySem.F.slot_zip_next (wpAny_call_entry PySem.F.slot_zip_next hT PySem.F.entry_zip_next (zkp hh st n1 n2 n3 hl1 hl2 hl3 hend fun h' e hk he => ?_) (PySem.F.args_zip_next_1 _))))
 obtain ⟨o,ho,hc⟩:=he
 refine wpAny_bind (wpAny_isInstance (T := "StopIteration") (b:=true) ⟨o,ho,hc⟩ isSubtype_stop ?_)
 exact wpAny_pure (hQ _ hk)
end
noncomputable def It3 (K:PySem.W.Frag) (l1 l2 l3:Addr):It :=
 ⟨fun i H=>∃ xs ys zs x y z,SqL K H l1 xs∧SqL K H l2 ys∧SqL K H l3 zs∧xs[i]?=some x∧ys[i]?=some y∧zs[i]?=some z,
  fun i H x H'=>∃ T a b c,x=.ref T∧H T=none∧H'=upd H T (.tup [a,b,c])∧(∀ xs,SqL K H l1 xs→xs[i]?=some a)∧(∀ xs,SqL K H l2 xs→xs[i]?=some b)∧(∀ xs,SqL K H l3 xs→xs[i]?=some c),
  fun i H=>∃ xs ys zs,SqL K H l1 xs∧SqL K H l2 ys∧SqL K H l3 zs∧(xs.length≤i∨ys.length≤i∨zs.length≤i)⟩
theorem zfK {P:Program} {w:World} {K:PySem.W.Frag} {elts:List Expr} {kk:Nat} {pos:Pos} {m l1 l2 l3:Nat} (n1:l1<m) (n2:l2<m) (n3:l3<m):Turn P w K (.Tuple elts kk pos) (It3 K l1 l2 l3) (fp3 m) (m+5) (fun i h=>Z3 h m l1 l2 l3 .none i) where
 mem:=by simp [fp3]
 obj:=fun i h st b hb=>by
  obtain ⟨hz,hTI,⟨a,b',c,hTO⟩,⟨o1,e1,c1,d1⟩,⟨o2,e2,c2,d2⟩,⟨o3,e3,c3,d3⟩⟩:=st
  simp only [fp3,List.mem_cons,List.not_mem_nil,or_false] at hb
  rcases hb with rfl | rfl | rfl | rfl | rfl | rfl
  ·exact ⟨_,hz,fun v z=>by cases (show Data.fields _=Data.cell v from z)⟩
  ·exact ⟨_,hTO,fun v z=>by cases (show Data.seq _ _=Data.cell v from z)⟩
  ·exact ⟨_,hTI,fun v z=>by cases (show Data.seq _ _=Data.cell v from z)⟩
  ·exact ⟨o1,e1,fun v z=>by rw [d1] at z; cases z⟩
  ·exact ⟨o2,e2,fun v z=>by rw [d2] at z; cases z⟩
  ·exact ⟨o3,e3,fun v z=>by rw [d3] at z; cases z⟩
 keep:=fun i h h' st k=>by
  obtain ⟨hz,hTI,⟨a,b,c,hTO⟩,h1,h2,h3⟩:=st
  exact ⟨k _ (by simp [fp3]) _ hz,k _ (by simp [fp3]) _ hTI,⟨a,b,c,k _ (by simp [fp3]) _ hTO⟩,h1.at fun o x=>k _ (by simp [fp3]) o x,h2.at fun o x=>k _ (by simp [fp3]) o x,h3.at fun o x=>k _ (by simp [fp3]) o x⟩
 item:=by
  intro X hP hw hK hc i pins s σ H E I hf st hg
  subst hP hw hK
  obtain ⟨xs,ys,zs,x,y,z,q1,q2,q3,hx,hy,hz⟩:=hg
  obtain ⟨is1,rv1,p1,_⟩:=I.list q1
  obtain ⟨is2,rv2,p2,_⟩:=I.list q2
  obtain ⟨is3,rv3,p3,_⟩:=I.list q3
  obtain ⟨u1,hu1,ru1⟩:=rv1.get hx
  obtain ⟨u2,hu2,ru2⟩:=rv2.get hy
  obtain ⟨u3,hu3,ru3⟩:=rv3.get hz
  refine zi6 st n1 n2 n3 p1.isList p2.isList p3.isList (by simpa using hu1) (by simpa using hu2) (by simpa using hu3) fun h' z' t' sz' k' => ?_
  have hzlt:m+5<s.heap.objs.size:=Heap.lt_size st.z
  refine ⟨.ref s.heap.objs.size,rfl,wpAny_letOwnedTupleGo_zip z'.z fun h3 hz3 hs3 => ?_⟩
  have hTw:s.heap.objs.size∉fp3 m:=fun q=>by
   simp only [fp3,List.mem_cons,List.not_mem_nil,or_false] at q
   have q:s.heap.objs.size=m+5∨s.heap.objs.size=m+4∨s.heap.objs.size=m+3∨s.heap.objs.size=m∨s.heap.objs.size=m+1∨s.heap.objs.size=m+2:=q
   lia
  have hne:∀ {b:Addr},b∉fp3 m→b≠m+5:=fun hb q=>hb (by simp [fp3,q])
  have hkeep:∀ b o,b∉fp3 m→s.heap.get? b=some o→h3.get? b=some o:=fun b o hb eb=>hs3.extBut _ _ (hne hb) (k' b o hb eb)
  have hnew:y2 X.prog X.w (upd H s.heap.objs.size (.tup [x,y,z])) h3 s.heap.objs.size (.tup [x,y,z]):=⟨by show 3≤sizeLine; rw [sizeLine_eq]; lia,[u1,u2,u3],.cons ru1 (.cons ru2 (.cons ru3 .nil)),_,hs3.extBut _ _ (hne hTw) t',rfl,_,rfl⟩
  have hHT:H s.heap.objs.size=none:=I.hok.fresh (Nat.le_refl _)
  have z4:Z3 h3 m l1 l2 l3 .none (i+1):=by
   obtain ⟨_,b1,⟨a,b,c,b2⟩,b3,b4,b5⟩:=z'
   exact ⟨hz3,hs3.extBut _ _ (nq (by lia)) b1,⟨a,b,c,hs3.extBut _ _ (nq (by lia)) b2⟩,b3.extBut hs3.extBut (nq (by lia)),b4.extBut hs3.extBut (nq (by lia)),b5.extBut hs3.extBut (nq (by lia))⟩
  refine ⟨.ref s.heap.objs.size,_,Inv.turnedL (s:=s) (h':=h3) (t':=s.toks) I hf hkeep (Nat.le_refl _) hnew,rfl,⟨_,x,y,z,rfl,hHT,rfl,fun vs hv=>by rw [I.list_inj hv q1]; exact hx,fun vs hv=>by rw [I.list_inj hv q2]; exact hy,fun vs hv=>by rw [I.list_inj hv q3]; exact hz⟩,z4,fun b hb => ?_⟩
  have hbT:b≠s.heap.objs.size:=fun z=>by rw [z] at hb; exact hTw hb
  rw [zJ hbT]
  exact (hf b hb).1
 done:=by
  intro X hP hw hK hc i pins s σ H E I hf st hg
  subst hP hw hK
  obtain ⟨xs,ys,zs,q1,q2,q3,hend⟩:=hg
  obtain ⟨is1,rv1,p1,_⟩:=I.list q1
  obtain ⟨is2,rv2,p2,_⟩:=I.list q2
  obtain ⟨is3,rv3,p3,_⟩:=I.list q3
  have e1:=rv1.length
  have e2:=rv2.length
  have e3:=rv3.length
  refine zi5 (I.ok.hd hc) st n1 n2 n3 p1.isList p2.isList p3.isList ?_ fun h' k'=>⟨rfl,Inv.turnedF (t':=s.toks) I hf k'⟩
  rcases hend with q | q | q
  ·exact .inl (Array.getElem?_eq_none (by simp; lia))
  ·exact .inr (.inl (Array.getElem?_eq_none (by simp; lia)))
  ·exact .inr (.inr (Array.getElem?_eq_none (by simp; lia)))
 self:=fun _ _ _ _ _ st h=>wpAny_pyIter_zip st.z h
noncomputable def ui:List D→List D→List D→List D
 | a::x,b::y,c::z=>.tup [a,b,c]::ui x y z
 | _,_,_=>[]
theorem zcb {a b c:D}:∀ {x y z:List D} {i:Nat},x[i]?=some a→y[i]?=some b→z[i]?=some c→(ui x y z)[i]?=some (.tup [a,b,c])
 | [],_,_,_,h,_,_=>by simp at h
 | _::_,[],_,_,_,h,_=>by simp at h
 | _::_,_::_,[],_,_,_,h=>by simp at h
 | p::x,q::y,r::z,0,h1,h2,h3=>by
   simp at h1 h2 h3
   rw [h1,h2,h3]
   rfl
 | p::x,q::y,r::z,i+1,h1,h2,h3=>by
   simp only [List.getElem?_cons_succ] at h1 h2 h3
   simp only [ui,List.getElem?_cons_succ]
   exact zcb h1 h2 h3
theorem tJ:∀ x y z:List D,(ui x y z).length=min x.length (min y.length z.length)
 | [],y,z=>by simp [ui]
 | p::x,[],z=>by simp [ui]
 | p::x,q::y,[]=>by simp [ui]
 | p::x,q::y,r::z=>by
   have:=tJ x y z
   simp only [ui,List.length_cons]
   lia
theorem zh8 {K:PySem.W.Frag} {G:Hp} {a b c:Addr} {ds es fs:List D} {xs ys zs:List V} (ha:SqL K G a xs) (hb:SqL K G b ys) (hc:SqL K G c zs) (ra:RepL K G ds xs) (rb:RepL K G es ys) (rc:RepL K G fs zs):JOk K (It3 K a b c) G (ui ds es fs) where
 go:=fun i G' H' s l hi=>by
  rw [tJ,ra.length,rb.length,rc.length] at hi
  exact ⟨xs,ys,zs,xs[i]'(by lia),ys[i]'(by lia),zs[i]'(by lia),l.seq (s.seq ha),l.seq (s.seq hb),l.seq (s.seq hc),List.getElem?_eq_getElem _,List.getElem?_eq_getElem _,List.getElem?_eq_getElem _⟩
 stop:=fun i G' H' s l hi=>by
  rw [tJ,ra.length,rb.length,rc.length] at hi
  exact ⟨xs,ys,zs,l.seq (s.seq ha),l.seq (s.seq hb),l.seq (s.seq hc),by lia⟩
 yld:=fun i G' H' x H1 s l hi y=>by
  obtain ⟨T,p,q,r,rfl,hT,rfl,hp,hq,hr⟩:=y
  obtain ⟨d1,k1,j1⟩:=ra.get' (hp xs (l.seq (s.seq ha)))
  obtain ⟨d2,k2,j2⟩:=rb.get' (hq ys (l.seq (s.seq hb)))
  obtain ⟨d3,k3,j3⟩:=rc.get' (hr zs (l.seq (s.seq hc)))
  have g:=Grow.laidT (o:=.tup [p,q,r]) l hT
  exact ⟨.tup [d1,d2,d3],_,zcb k1 k2 k3,g.1,g.2,T,_,rfl,zX,RepL.cons ((j1.mono s).mono g.1.g) (RepL.cons ((j2.mono s).mono g.1.g) (RepL.cons ((j3.mono s).mono g.1.g) RepL.nil))⟩
end DL
namespace DL
open PySem PySem.Spec PyProof.Rows L2
theorem zjc (a b c:Value):checkTypeCall "zip" ⟨[a,b,c],[]⟩=pure ():=by kernel_rfl
theorem zjM (a b c:Value):checkBuiltinCall "zip.__new__" ⟨[.type "zip",a,b,c],[]⟩=pure ():=by kernel_rfl
theorem zjG (a b c d:Value):argsOk "object.__init__" ⟨[a,b,c,d],[]⟩:=by
 unfold argsOk
 rw [signature?_of (id := "object.__init__") (n:=['_','_','t','i','n','i','_','_']) (o:=['t','c','e','j','b','o']) (by kernel_rfl) PySem.F.owner_object]
 kernel_rfl
noncomputable abbrev y1 (h:Heap) (l:Addr):Heap:=h.push { cls:=.type "list_iterator",data:=.fields #[.ref l,.int 0 0] }
noncomputable abbrev y3 (h:Heap) (a b c:Addr):Heap:=y1 (y1 (y1 h a) b) c
noncomputable abbrev y4 (h:Heap) (a b c:Addr):Heap:=(y3 h a b c).push { cls:=.type "tuple",data:=.seq #[.ref h.objs.size,.ref (y1 h a).objs.size,.ref (y1 (y1 h a) b).objs.size] }
noncomputable abbrev y5 (h:Heap) (a b c:Addr):Heap:=(y4 h a b c).push { cls:=.type "tuple",data:=.seq #[.none,.none,.none] }
noncomputable abbrev y6 (h:Heap) (a b c:Addr):Heap:=(y5 h a b c).push { cls:=.type "zip",data:=.fields #[.none,.bool false,.bool false,.ref (y3 h a b c).objs.size,.ref (y4 h a b c).objs.size] }
theorem zh2 (a b c:Addr) (xs ys zs:Array Value) :
 Meets (Builtin.«zip.__new__» ⟨[.type "zip",.ref a,.ref b,.ref c],[]⟩) (fun _ R s=>s.heap.IsList a xs∧s.heap.IsList b ys∧s.heap.IsList c zs∧R (.ok (.ret (.ref (y5 s.heap a b c).objs.size))) { s with heap:=y6 s.heap a b c }) :=
 .of_wp fun prog w A R s h=>by
  obtain ⟨hp,g,d,tk,os⟩:=s
  obtain ⟨hl1,hl2,hl3,h⟩:=h
  have hsub:=sub_zip
  have e1:Heap.IsList (Shared.heap ⟨hp,g,d,tk,os⟩) a xs:=hl1
  have e2:Heap.IsList (Shared.heap ⟨y1 hp a,g,d,tk,os⟩) b ys:=Heap.IsList.push hl2 _
  have e3:Heap.IsList (Shared.heap ⟨y1 (y1 hp a) b,g,d,tk,os⟩) c zs:=Heap.IsList.push (Heap.IsList.push hl3 _) _
  wp_walk using wpAny_pyIter_list e1,wpAny_pyIter_list e2,wpAny_pyIter_list e3
  exact ⟨_,rfl,h⟩
section
variable {prog:Program} {w:World} {A:Around} {E:Value→Shared→Prop} {s:Shared}
theorem zhj {a b c:Addr} {xs ys zs:Array Value} {Q:Value→Shared→Prop} (hl1:s.heap.IsList a xs) (hl2:s.heap.IsList b ys) (hl3:s.heap.IsList c zs)
 (h:∀ h',Z3 h' s.heap.objs.size a b c .none 0→(∀ u o,s.heap.get? u=some o→h'.get? u=some o)→Q (.ref (s.heap.objs.size+5)) { s with heap:=h' }) :
 wpAny (model prog w) A (call (.type "zip") [.ref a,.ref b,.ref c]) Q E s:=by
 refine callType_new PySem.F.called_zip (by decide) (zjc _ _ _) (zjM _ _ _) (fun obj=>zjG obj _ _ _) PySem.F.entry_zip_new (zh2 a b c xs ys zs) ⟨hl1,hl2,hl3,?_⟩
 have z1:(y1 s.heap a).objs.size=s.heap.objs.size+1:=Heap.size_push ..
 have z2:(y1 (y1 s.heap a) b).objs.size=s.heap.objs.size+2:=by rw [Heap.size_push,z1]
 have z3:(y3 s.heap a b c).objs.size=s.heap.objs.size+3:=by rw [Heap.size_push,z2]
 have z4:(y4 s.heap a b c).objs.size=s.heap.objs.size+4:=by rw [Heap.size_push,z3]
 have z5:(y5 s.heap a b c).objs.size=s.heap.objs.size+5:=by rw [Heap.size_push,z4]
 have g6:(y6 s.heap a b c).get? (y5 s.heap a b c).objs.size=some _:=Heap.get?_push_size _ rfl
 have g5:(y6 s.heap a b c).get? (y4 s.heap a b c).objs.size=some _:=Heap.get?_push_of_some _ (Heap.get?_push_size _ rfl)
 have g4:(y6 s.heap a b c).get? (y3 s.heap a b c).objs.size=some _:=Heap.get?_push_of_some _ (Heap.get?_push_of_some _ (Heap.get?_push_size _ rfl))
 have g3:(y6 s.heap a b c).get? (y1 (y1 s.heap a) b).objs.size=some _:=Heap.get?_push_of_some _ (Heap.get?_push_of_some _ (Heap.get?_push_of_some _ (Heap.get?_push_size _ rfl)))
 have g2:(y6 s.heap a b c).get? (y1 s.heap a).objs.size=some _:=Heap.get?_push_of_some _ (Heap.get?_push_of_some _ (Heap.get?_push_of_some _ (Heap.get?_push_of_some _ (Heap.get?_push_size _ rfl))))
 have g1:(y6 s.heap a b c).get? s.heap.objs.size=some _:=Heap.get?_push_of_some _ (Heap.get?_push_of_some _ (Heap.get?_push_of_some _ (Heap.get?_push_of_some _ (Heap.get?_push_of_some _ (Heap.get?_push_size _ rfl)))))
 show _∧_
 rw [z3,z4,z5] at g6
 rw [z4] at g5
 rw [z1,z2,z3] at g4
 rw [z2] at g3
 rw [z1] at g2
 rw [z5]
 exact ⟨⟨_,g6,rfl⟩,h _ ⟨g6,g4,⟨_,_,_,g5⟩,⟨_,g1,rfl,rfl⟩,⟨_,g2,rfl,rfl⟩,⟨_,g3,rfl,rfl⟩⟩ fun u o x=>Heap.get?_push_of_some _ (Heap.get?_push_of_some _ (Heap.get?_push_of_some _ (Heap.get?_push_of_some _ (Heap.get?_push_of_some _ (Heap.get?_push_of_some _ x)))))⟩
end
theorem vals3 {x y z:V} {us:List Value} (r:Vals [x,y,z] us):∃ u v t,us=[u,v,t]∧RelV x u∧RelV y v∧RelV z t:=by
 cases r with
 | cons r1 r2 =>
   obtain ⟨u,v,rfl,h1,h2⟩:=zfF r2
   exact ⟨_,u,v,rfl,r1,h1,h2⟩
noncomputable def iZip3 (K:PySem.W.Frag) (ta:TA):TI:=fun σ H R=>ta σ H fun vs H1=>∃ a b c,vs=[.ref a,.ref b,.ref c]∧(∃ xs,SqL K H1 a xs)∧(∃ xs,SqL K H1 b xs)∧(∃ xs,SqL K H1 c xs)∧R (It3 K a b c) H1
theorem zju {X:Cx} {elts:List Expr} {kk:Nat} {pos p cpos:Pos} {e1 e2 e3:Expr} {ta:TA} (hm:X.mg "zip" = none) (ha:PA X [e1,e2,e3] ta) (hg:Gl X "zip" := by rfl) (hs:starEach [e1,e2,e3] X.env=(false,eval e1 X.env)::starEach [e2,e3] X.env:=by rfl)
 (hs2:starEach [e2,e3] X.env=(false,eval e2 X.env)::starEach [e3] X.env:=by rfl) (hs3:starEach [e3] X.env=[(false,eval e3 X.env)]:=by rfl):PI X (.Tuple elts kk pos) (.Call (.Name "zip" p) [e1,e2,e3] [] cpos) (iZip3 X.K ta):=by
 intro pins s σ H R I h
 refine Call_ (uU I hg hm boot_zip (PyProof.Rows.callWith_type1 (thn (ha cpos pins s σ H _ I h) fun us s1 ⟨vs,H1,I1,r1,q1⟩ => ?_) hs (by rw [hs2,hs3]; rfl)))
 obtain ⟨a,b,c,rfl,⟨xs,qa⟩,⟨ys,qb⟩,⟨zs,qc⟩,q⟩:=q1
 obtain ⟨u,v,t,rfl,ra,rb,rc⟩:=vals3 r1
 cases (show u=.ref a from ra)
 cases (show v=.ref b from rb)
 cases (show t=.ref c from rc)
 obtain ⟨is1,_,p1,_⟩:=I1.list qa
 obtain ⟨is2,_,p2,_⟩:=I1.list qb
 obtain ⟨is3,_,p3,_⟩:=I1.list qc
 have lt1:a<s1.heap.objs.size:=by obtain ⟨o,ho,_⟩:=p1.isList; exact Heap.lt_size ho
 have lt2:b<s1.heap.objs.size:=by obtain ⟨o,ho,_⟩:=p2.isList; exact Heap.lt_size ho
 have lt3:c<s1.heap.objs.size:=by obtain ⟨o,ho,_⟩:=p3.isList; exact Heap.lt_size ho
 refine zhj p1.isList p2.isList p3.isList fun h' hz hk => ?_
 refine wpAny_pyIter_zip hz.z ?_
 have I2:Inv X pins σ H1 { s1 with heap:=h',toks:=s1.toks }:=I1.kept (t':=s1.toks) hk
 refine ⟨s1.heap.objs.size+5,fp3 s1.heap.objs.size,_,It3 X.K a b c,H1,rfl,I2,zfK lt1 lt2 lt3,hz,fun b hb => ?_,q⟩
 have hb':s1.heap.objs.size≤b:=by
  simp only [fp3,List.mem_cons,List.not_mem_nil,or_false] at hb
  rcases hb with rfl | rfl | rfl | rfl | rfl | rfl <;> first | exact Nat.le_add_right _ _ | exact Nat.le_refl _
 exact I1.fpOk hb' (I1.hok.fresh hb')
@[simp] noncomputable def zih (f g h:FE):FI:=fun env=>(f env).bind fun x=>x.hold.bind fun d=>(g env).bind fun y=>y.hold.bind fun e=>(h env).bind fun z=>z.hold.bind fun c=>match d,e,c with
  | .lst ds,.lst es,.lst cs=>.ok (ui ds es cs)
  | _,_,_=>.bad
theorem zg7 {X:Cx} {G₀ H₀:Hp} {elts:List Expr} {kk:Nat} {pos p cpos:Pos} {e1 e2 e3:Expr} {f g h:FE} (hm:X.mg "zip" = none) (h1:DE X G₀ H₀ e1 f) (h2:DE X G₀ H₀ e2 g) (h3:DE X G₀ H₀ e3 h) (hg:Gl X "zip" := by rfl) (hs:starEach [e1,e2,e3] X.env=(false,eval e1 X.env)::starEach [e2,e3] X.env:=by rfl)
 (hs2:starEach [e2,e3] X.env=(false,eval e2 X.env)::starEach [e3] X.env:=by rfl) (hs3:starEach [e3] X.env=[(false,eval e3 X.env)]:=by rfl) :
 DIt X G₀ H₀ (.Tuple elts kk pos) (.Call (.Name "zip" p) [e1,e2,e3] [] cpos) (zih f g h):=(zju hm (yn h1 (yn h2 (yn h3 vo hs3) hs2) hs) hg hs hs2 hs3).imp fun σ H R q=>by
 obtain ⟨env,G,ds,I,e,k⟩:=q
 obtain ⟨x,ex,e⟩:=zq e
 obtain ⟨d,hx,e⟩:=zq e
 obtain ⟨y,ey,e⟩:=zq e
 obtain ⟨d',hy,e⟩:=zq e
 obtain ⟨z,ez,e⟩:=zq e
 obtain ⟨d'',hz,e⟩:=zq e
 refine ⟨env,G,x,I,ex,fun v1 G1 H1 g1 l1 o1 => ?_⟩
 obtain ⟨G2,g2,l2,r2⟩:=held g1 l1 o1 hx
 have I2:=I.grow g2 l2
 refine ⟨env,G2,y,I2,ey,fun v2 G3 H3 g3 l3 o3 => ?_⟩
 obtain ⟨G4,g4,l4,r4⟩:=held g3 l3 o3 hy
 have I4:=I2.grow g4 l4
 refine ⟨env,G4,z,I4,ez,fun v3 G5 H5 g5 l5 o5 => ?_⟩
 obtain ⟨G6,g6,l6,r6⟩:=held g5 l5 o5 hz
 split at e
 ·cases e
  obtain ⟨a,xs,rfl,ha,ra⟩:=(r2.mono g4.g).mono g6.g
  obtain ⟨b,ys,rfl,hb,rb⟩:=r4.mono g6.g
  obtain ⟨c,zs,rfl,hc,rc⟩:=r6
  exact ⟨a,b,c,rfl,⟨xs,SqL.of (l6 _ _ ha)⟩,⟨ys,SqL.of (l6 _ _ hb)⟩,⟨zs,SqL.of (l6 _ _ hc)⟩,k _ G6 _ ((g2.trans g4).trans g6) l6 (zh8 (SqL.of ha) (SqL.of hb) (SqL.of hc) ra rb rc)⟩
 ·cases e
end DL
namespace DL
open PySem PySem.Spec PyProof.Rows L2
@[simp] noncomputable def zb8 (i j:Nat):FS:=fun env=>match env[i]?,env[j]? with
  | some (.own ds),some (.own es)=>if ds.length<100000∧i≠j then (match es[es.length - 1]? with
    | some d=>.ok (.next ((env.set j (.own es.dropLast)).set i (.own (ds++[d]))))
    | none=>.bad) else .bad
  | _,_=>.bad
section
variable {X:Cx} {G₀ H₀:Hp} {pos apos cpos p1 apos' cpos' p2:Pos} {i j:Nat} {x y:Str}
theorem zg5 (hv:PE X (.Name x p1) (tVar i)) (hw:PE X (.Name y p2) (tVar j)) (hfew:((backTo cpos (starEach [.Call (.Attribute (.Name y p2) "pop" apos') [] [] cpos'] X.env)).all (fun x => !x.1)&&(backToKw cpos (keywordEach [] X.env)).all (fun x=>x.1.isSome)
 && decide ([Expr.Call (.Attribute (.Name y p2) "pop" apos') [] [] cpos'].length+([]:List Keyword).length+(if ([]:List Keyword).isEmpty then 0 else 1)<30))=true:=by rfl)
 (hline:(apos.endLine == cpos.line)=true:=by rfl) (hline':(apos'.endLine == cpos'.line)=true:=by rfl) (hs:starEach [.Call (.Attribute (.Name y p2) "pop" apos') [] [] cpos'] X.env=[(false,eval (.Call (.Attribute (.Name y p2) "pop" apos') [] [] cpos') X.env)]:=by rfl) :
 DS X G₀ H₀ (.Expr (.Call (.Attribute (.Name x p1) "append" apos) [.Call (.Attribute (.Name y p2) "pop" apos') [] [] cpos'] [] cpos) pos) (zb8 i j) :=
 (zbF (zjB PySem.F.plainAttrs_list PySem.F.slot_list_append PySem.F.type_list_append zaa hv (yn (ziO PySem.F.plainAttrs_list PySem.F.slot_list_pop PySem.F.type_list_pop zlf hw rfl hline') vo hs) rfl hfew hline hs rfl) rfl).imp fun D σ H q=>by
  obtain ⟨env,G,r,I,e,k⟩:=q
  unfold zb8 at e
  split at e
  ·rename_i ds es hd he
   split at e
   ·rename_i hz
    split at e
    ·rename_i d hl
     cases e
     obtain ⟨a,vs,o⟩:=I.own hd
     obtain ⟨b,us,o2⟩:=I.own he
     have hlen:=o2.rep.length
     have hlt:es.length - 1<es.length:=(List.getElem?_eq_some_iff.mp hl).1
     have hu:us[us.length - 1]?=some (us[us.length - 1]'(by lia)):=List.getElem?_eq_getElem (by lia)
     obtain ⟨d',hd',rd⟩:=o2.rep.get' hu
     have ed:d'=d:=by
      rw [←hlen,hl] at hd'
      exact (Option.some.inj hd').symm
     subst ed
     have I1:=I.mut he o2 o2.rep.dropLast
     have hd1:(env.set j (.own es.dropLast))[i]?=some (.own ds):=by rw [List.getElem?_set_ne (fun q=>hz.2 q.symm)]; exact hd
     obtain ⟨a',vs',o'⟩:=I1.own hd1
     have z:=o'.at_
     rw [o.at_] at z
     cases z
     exact ⟨.ref a,o.at_,.inl ⟨rfl,vs,SqL.of o.hp⟩,.ref b,o2.at_,.inl ⟨rfl,us,SqL.of o2.hp⟩,b,us,_,rfl,rfl,o2.hp,hu,a,vs',_,rfl,rfl,o'.hp,by rw [←o'.rep.length,sizeLine_eq]; lia,k σ G _ (Same.refl _) (I1.mut hd1 o' (o'.rep.append (RepL.cons rd RepL.nil)))⟩
    ·cases e
   ·cases e
  ·cases e
end
end DL
namespace DL
open PySem PySem.Spec PyProof.Rows L2
end DL
namespace DL
open PySem PySem.Spec PyProof.Rows L2
noncomputable abbrev Duo (h:Heap) (T:Addr) (a b:Value):Prop:=h.get? T=some { cls:=.type "tuple",data:=.seq #[a,b] }
section
variable {prog:Program} {w:World} {A:Around} {E:Value→Shared→Prop} {s:Shared}
theorem zdf {T:Addr} {a b x:Value} {k:Nat} {Q:Unit→Shared→Prop} (hT:Duo s.heap T a b)
 (h:∀ h',h'.get? T=some { cls:=.type "tuple",data:=.seq ((#[a,b]:Array Value).setIfInBounds k x) }→Heap.SameBut T s.heap h'→Q () { s with heap:=h' }) :
 wpAny (model prog w) A (updateSeq T (·.setIfInBounds k x)) Q E s:=by
 refine wpAny_updateSeq hT rfl (h _ ?_ (Heap.SameBut.update ..))
 rw [Heap.get?_update_self _ hT rfl]
 simp [Obj.mapSeq]
structure Z2 (h:Heap) (m l1 l2:Nat) (f:Value) (i:Nat):Prop where
 z:IsZip h (m+4) (m+2) (m+3) f
 ti:Duo h (m+2) (.ref m) (.ref (m+1))
 to:∃ a b,Duo h (m+3) a b
 p1:h.IsListIter m l1 i
 p2:h.IsListIter (m+1) l2 i
noncomputable def fp2 (m:Nat):List Addr:=[m+4,m+3,m+2,m,m+1]
theorem zja {m l1 l2:Nat} {k:Nat} {xs ys:Array Value} {x y:Value} {Q:Value→Shared→Prop} (st:Z2 s.heap m l1 l2 .none k) (n1:l1<m) (n2:l2<m)
 (hl1:s.heap.IsList l1 xs) (hl2:s.heap.IsList l2 ys) (hx:xs[k]?=some x) (hy:ys[k]?=some y)
 (hQ:∀ h',Z2 h' m l1 l2 (rawInt s.heap.objs.size) (k+1)→Duo h' s.heap.objs.size x y→h'.objs.size=s.heap.objs.size+1 →
  (∀ c o,c∉fp2 m→s.heap.get? c=some o→h'.get? c=some o)→Q (.ref s.heap.objs.size) { s with heap:=h' }) :
 wpAny (model prog w) A (Builtin.«zip.__next__» ⟨[.ref (m+4)],[]⟩) (fun fin s'=>∃ v,fin=.done (.ret v)∧Q v s') E s:=by
 obtain ⟨hz,hTI,⟨a,b,hTO⟩,h1,h2⟩:=st
 show wpAny _ _ (field (.ref (m+4)) 2 >>= _) _ _ _
 refine wpAny_bind (wpAny_field hz rfl (x:=.bool false) rfl ?_)
 show wpAny _ _ (field (.ref (m+4)) 3 >>= _) _ _ _
 refine wpAny_bind (wpAny_field hz rfl (x:=.ref (m+2)) rfl ?_)
 refine wpAny_bind (wpAny_seqItems hTI rfl ?_)
 show wpAny _ _ (Builtin.SmallTypes.ownedTupleIsFree (.ref (m+4)) >>= _) _ _ _
 refine wpAny_bind ?_
 unfold Builtin.SmallTypes.ownedTupleIsFree
 refine wpAny_bind (wpAny_field hz rfl (x:=.none) rfl (wpAny_pure ?_))
 simp only [if_true]
 refine wpAny_bind (wpAny_rule ?_)
 refine wpAny_bind (wpAny_field hz rfl (x:=.ref (m+3)) rfl ?_)
 refine wpAny_bind (wpAny_setField_rec hz (by simp) fun ha za sa => ?_)
 replace za:IsZip ha (m+4) (m+2) (m+3) .ellipsis:=za
 refine wpAny_bind ?_
 simp only [List.zipIdx_cons,List.zipIdx_nil,List.forIn_cons,List.forIn_nil]
 refine wpAny_bind (wpAny_bind (wpAny_onRaise ?_))
 show wpAny _ _ (Builtin.SmallTypes.nextOf (.ref m) >>= _) _ _ _
 refine wpAny_bind (wpAny_nextOf_list_item (h1.extBut sa.extBut (nq (by lia))) (hl1.extBut sa.extBut (nq (by lia))) hx fun hb ib sb=>wpAny_pure ?_)
 have tb:Duo hb (m+3) a b:=sb.extBut _ _ (nq (by lia)) (sa.extBut _ _ (nq (by lia)) hTO)
 refine wpAny_bind (wpAny_seqItems tb rfl ?_)
 refine wpAny_bind (zdf tb fun hc tc sc => ?_)
 replace tc:Duo hc (m+3) x b:=tc
 refine wpAny_bind (wpAny_letGo (wpAny_pure ?_))
 have k1:∀ u o,u∉fp2 m→s.heap.get? u=some o→hc.get? u=some o:=fun u o hu e=>by
  simp only [fp2,List.mem_cons,List.not_mem_nil,or_false,not_or] at hu
  exact sc.extBut _ _ hu.2.1 (sb.extBut _ _ hu.2.2.2.1 (sa.extBut _ _ hu.1 e))
 have j2:hc.IsListIter (m+1) l2 k:=((h2.extBut sa.extBut (nq (by lia))).extBut sb.extBut (nq (by lia))).extBut sc.extBut (nq (by lia))
 have L2:hc.IsList l2 ys:=((hl2.extBut sa.extBut (nq (by lia))).extBut sb.extBut (nq (by lia))).extBut sc.extBut (nq (by lia))
 have zc:IsZip hc (m+4) (m+2) (m+3) .ellipsis:=sc.extBut _ _ (nq (by lia)) (sb.extBut _ _ (nq (by lia)) za)
 have uc:Duo hc (m+2) (.ref m) (.ref (m+1)):=sc.extBut _ _ (nq (by lia)) (sb.extBut _ _ (nq (by lia)) (sa.extBut _ _ (nq (by lia)) hTI))
 have ic:hc.IsListIter m l1 (k+1):=ib.extBut sc.extBut (nq (by lia))
 have zsz:hc.objs.size=s.heap.objs.size:=by rw [sc.1,sb.1,sa.1]
 clear sa sb sc tb ib za hTO h1 h2
 refine wpAny_bind (wpAny_bind (wpAny_onRaise ?_))
 show wpAny _ _ (Builtin.SmallTypes.nextOf (.ref (m+1)) >>= _) _ _ _
 refine wpAny_bind (wpAny_nextOf_list_item j2 L2 hy fun hd id sd=>wpAny_pure ?_)
 have td:Duo hd (m+3) x b:=sd.extBut _ _ (nq (by lia)) tc
 refine wpAny_bind (wpAny_seqItems td rfl ?_)
 refine wpAny_bind (zdf td fun hg tg sg => ?_)
 replace tg:Duo hg (m+3) x y:=tg
 refine wpAny_bind (wpAny_letGo (wpAny_pure (wpAny_pure ?_)))
 have k3:∀ u o,u∉fp2 m→s.heap.get? u=some o→hg.get? u=some o:=fun u o hu e=>by
  have e:=k1 u o hu e
  simp only [fp2,List.mem_cons,List.not_mem_nil,or_false,not_or] at hu
  exact sg.extBut _ _ hu.2.1 (sd.extBut _ _ hu.2.2.2.2 e)
 have zg:IsZip hg (m+4) (m+2) (m+3) .ellipsis:=sg.extBut _ _ (nq (by lia)) (sd.extBut _ _ (nq (by lia)) zc)
 have ug:Duo hg (m+2) (.ref m) (.ref (m+1)):=sg.extBut _ _ (nq (by lia)) (sd.extBut _ _ (nq (by lia)) uc)
 have ig:hg.IsListIter m l1 (k+1):=(ic.extBut sd.extBut (nq (by lia))).extBut sg.extBut (nq (by lia))
 have jg:hg.IsListIter (m+1) l2 (k+1):=id.extBut sg.extBut (nq (by lia))
 have hsz:hg.objs.size=s.heap.objs.size:=by rw [sg.1,sd.1]; exact zsz
 refine wpAny_bind (wpAny_seqItems tg rfl ?_)
 refine wpAny_bind (wpAny_newTuple ?_)
 have lt:m+4<hg.objs.size:=Heap.lt_size zg
 show wpAny _ _ (Builtin.SmallTypes.ownedTupleHandOut (.ref (m+4)) (.ref hg.objs.size) >>= _) _ _ _
 refine wpAny_bind ?_
 unfold Builtin.SmallTypes.ownedTupleHandOut
 have zp:IsZip (hg.push { cls:=.type "tuple",data:=.seq #[x,y] }) (m+4) (m+2) (m+3) .ellipsis:=Heap.get?_push_of_some _ zg
 refine wpAny_bind (wpAny_setField_rec zp (by simp) fun hr zr sr => ?_)
 replace zr:IsZip hr (m+4) (m+2) (m+3) (rawInt hg.objs.size):=zr
 refine wpAny_setField_rec zr (by simp) fun ht zt st => ?_
 replace zt:IsZip ht (m+4) (m+2) (m+3) (rawInt hg.objs.size):=zt
 have up:∀ u o,u≠m+4→hg.get? u=some o→ht.get? u=some o:=fun u o hu e=>st.extBut _ _ hu (sr.extBut _ _ hu (Heap.get?_push_of_some _ e))
 have nt:Duo ht hg.objs.size x y:=st.extBut _ _ (Nat.ne_of_gt lt) (sr.extBut _ _ (Nat.ne_of_gt lt) (Heap.get?_push_size _ rfl))
 have tsz:ht.objs.size=hg.objs.size+1:=by rw [st.1,sr.1,Heap.size_push]
 rw [hsz] at zt nt tsz
 refine wpAny_pure ⟨_,rfl,?_⟩
 show Q (.ref hg.objs.size) _
 rw [hsz]
 refine hQ ht ⟨zt,up _ _ (nq (by lia)) ug,⟨x,y,up _ _ (nq (by lia)) tg⟩,ig.at fun o e=>up _ o (nq (by lia)) e,jg.at fun o e=>up _ o (nq (by lia)) e⟩ nt tsz fun u o hu e=>up u o (fun q=>hu (by simp [fp2,q])) (k3 u o hu e)
theorem zkq {m l1 l2:Nat} {k:Nat} {xs ys:Array Value} {Q:Fin→Shared→Prop} (hh:A.handled=none) (st:Z2 s.heap m l1 l2 .none k) (n1:l1<m) (n2:l2<m)
 (hl1:s.heap.IsList l1 xs) (hl2:s.heap.IsList l2 ys) (hend:xs[k]?=none∨ys[k]?=none)
 (hE:∀ h' e,(∀ c o,c∉fp2 m→s.heap.get? c=some o→h'.get? c=some o)→(∃ o,h'.get? e=some o∧o.cls=.type "StopIteration")→E (.ref e) { s with heap:=h' }) :
 wpAny (model prog w) A (Builtin.«zip.__next__» ⟨[.ref (m+4)],[]⟩) Q E s:=by
 obtain ⟨hz,hTI,⟨a,b,hTO⟩,h1,h2⟩:=st
 have stop:∀ (hp:Heap) (e:Addr) (k0:∀ u o,u∉fp2 m→s.heap.get? u=some o→hp.get? u=some o) (ze:IsZip hp (m+4) (m+2) (m+3) .ellipsis) (oe:Obj) (hoe:hp.get? e=some oe) (hce:oe.cls=.type "StopIteration") (Q':Unit→Shared→Prop) (hq:∀ h',(∀ c o,c∉fp2 m→s.heap.get? c=some o→h'.get? c=some o)→(∃ o,h'.get? e=some o∧o.cls=.type "StopIteration")→Q' () { s with heap:=h' }),
  wpAny (model prog w) A (setField (.ref (m+4)) 0 .none) Q' E { s with heap:=hp }:=by
  intro hp e k0 ze oe hoe hce Q' hq
  have hez:e≠m+4:=fun x=>by subst x; rw [ze] at hoe; cases hoe; simp at hce
  refine wpAny_setField_rec ze (by simp) fun hr _ sr=>hq hr (fun u o hu q => ?_) ⟨oe,sr.extBut _ _ hez hoe,hce⟩
  refine sr.extBut _ _ (fun z=>hu (by simp [fp2,z])) (k0 u o hu q)
 show wpAny _ _ (field (.ref (m+4)) 2 >>= _) _ _ _
 refine wpAny_bind (wpAny_field hz rfl (x:=.bool false) rfl ?_)
 show wpAny _ _ (field (.ref (m+4)) 3 >>= _) _ _ _
 refine wpAny_bind (wpAny_field hz rfl (x:=.ref (m+2)) rfl ?_)
 refine wpAny_bind (wpAny_seqItems hTI rfl ?_)
 show wpAny _ _ (Builtin.SmallTypes.ownedTupleIsFree (.ref (m+4)) >>= _) _ _ _
 refine wpAny_bind ?_
 unfold Builtin.SmallTypes.ownedTupleIsFree
 refine wpAny_bind (wpAny_field hz rfl (x:=.none) rfl (wpAny_pure ?_))
 simp only [if_true]
 refine wpAny_bind (wpAny_rule ?_)
 refine wpAny_bind (wpAny_field hz rfl (x:=.ref (m+3)) rfl ?_)
 refine wpAny_bind (wpAny_setField_rec hz (by simp) fun ha za sa => ?_)
 replace za:IsZip ha (m+4) (m+2) (m+3) .ellipsis:=za
 refine wpAny_bind ?_
 simp only [List.zipIdx_cons,List.zipIdx_nil,List.forIn_cons,List.forIn_nil]
 refine wpAny_bind (wpAny_bind (wpAny_onRaise ?_))
 show wpAny _ _ (Builtin.SmallTypes.nextOf (.ref m) >>= _) _ _ _
 have g1:ha.IsListIter m l1 k:=h1.extBut sa.extBut (nq (by lia))
 have gl:ha.IsList l1 xs:=hl1.extBut sa.extBut (nq (by lia))
 have ka:∀ u o,u∉fp2 m→s.heap.get? u=some o→ha.get? u=some o:=fun u o hu e=>sa.extBut _ _ (fun z=>hu (by simp [fp2,z])) e
 cases hx:xs[k]? with
 | none =>
   refine wpAny_bind (wpAny_nextOf_list_end hh g1 gl hx fun hb e sb ⟨oe,hoe,hce⟩ => ?_)
   exact stop hb e (fun u o hu q=>sb _ _ (fun z=>hu (by simp [fp2,z])) (ka u o hu q)) (sb _ _ (nq (by lia)) za) oe hoe hce _ fun h' p q=>hE h' e p q
 | some x =>
   have hy:ys[k]?=none:=by
    rcases hend with h | h
    ·rw [hx] at h; cases h
    ·exact h
   refine wpAny_bind (wpAny_nextOf_list_item g1 gl hx fun hb ib sb=>wpAny_pure ?_)
   have tb:Duo hb (m+3) a b:=sb.extBut _ _ (nq (by lia)) (sa.extBut _ _ (nq (by lia)) hTO)
   refine wpAny_bind (wpAny_seqItems tb rfl ?_)
   refine wpAny_bind (zdf tb fun hc tc sc => ?_)
   replace tc:Duo hc (m+3) x b:=tc
   refine wpAny_bind (wpAny_letGo (wpAny_pure ?_))
   have kc:∀ u o,u∉fp2 m→s.heap.get? u=some o→hc.get? u=some o:=fun u o hu e=>sc.extBut _ _ (fun z=>hu (by simp [fp2,z])) (sb.extBut _ _ (fun z=>hu (by simp [fp2,z])) (ka u o hu e))
   have zc:IsZip hc (m+4) (m+2) (m+3) .ellipsis:=sc.extBut _ _ (nq (by lia)) (sb.extBut _ _ (nq (by lia)) za)
   have j2:hc.IsListIter (m+1) l2 k:=((h2.extBut sa.extBut (nq (by lia))).extBut sb.extBut (nq (by lia))).extBut sc.extBut (nq (by lia))
   have L2:hc.IsList l2 ys:=((hl2.extBut sa.extBut (nq (by lia))).extBut sb.extBut (nq (by lia))).extBut sc.extBut (nq (by lia))
   refine wpAny_bind (wpAny_bind (wpAny_onRaise ?_))
   show wpAny _ _ (Builtin.SmallTypes.nextOf (.ref (m+1)) >>= _) _ _ _
   refine wpAny_bind (wpAny_nextOf_list_end hh j2 L2 hy fun hd e sd ⟨oe,hoe,hce⟩ => ?_)
   exact stop hd e (fun u o hu q=>sd _ _ (fun z=>hu (by simp [fp2,z])) (kc u o hu q)) (sd _ _ (nq (by lia)) zc) oe hoe hce _ fun h' p q=>hE h' e p q
end
end DL
namespace DL
open PySem PySem.Spec PyProof.Rows L2
section
variable {prog:Program} {w:World} {A:Around} {E:Value→Shared→Prop} {s:Shared}
theorem zi9 {m l1 l2:Nat} {k:Nat} {xs ys:Array Value} {x y:Value} {Q:Option Value→Shared→Prop} (st:Z2 s.heap m l1 l2 .none k) (n1:l1<m) (n2:l2<m)
 (hl1:s.heap.IsList l1 xs) (hl2:s.heap.IsList l2 ys) (hx:xs[k]?=some x) (hy:ys[k]?=some y)
 (hQ:∀ h',Z2 h' m l1 l2 (rawInt s.heap.objs.size) (k+1)→Duo h' s.heap.objs.size x y→h'.objs.size=s.heap.objs.size+1 →
  (∀ c o,c∉fp2 m→s.heap.get? c=some o→h'.get? c=some o)→Q (some (.ref s.heap.objs.size)) { s with heap:=h' }):wpAny (model prog w) A (pyNext (.ref (m+4))) Q E s:=by
 have hT:s.TypeIs (.ref (m+4)) "zip" := ⟨_,st.z,rfl⟩
 unfold pyNext
 exact wpAny_bind (wpAny_attempt (wpAny_callSpecial?_slot (name:=Str.ofString "__next__") hT PySem.F.slot_zip_next (wpAny_call_entry PySem.F.slot_zip_next hT PySem.F.entry_zip_next (zja st n1 n2 hl1 hl2 hx hy fun h' a1 a2 a3 a4=>wpAny_pure (hQ h' a1 a2 a3 a4)) (PySem.F.args_zip_next_1 _))))
theorem zi8 {m l1 l2:Nat} {k:Nat} {xs ys:Array Value} {Q:Option Value→Shared→Prop} (hh:A.handled=none) (st:Z2 s.heap m l1 l2 .none k) (n1:l1<m) (n2:l2<m)
 (hl1:s.heap.IsList l1 xs) (hl2:s.heap.IsList l2 ys) (hend:xs[k]?=none∨ys[k]?=none)
 (hQ:∀ h',(∀ c o,c∉fp2 m→s.heap.get? c=some o→h'.get? c=some o)→Q none { s with heap:=h' }):wpAny (model prog w) A (pyNext (.ref (m+4))) Q E s:=by
 have hT:s.TypeIs (.ref (m+4)) "zip" := ⟨_,st.z,rfl⟩
 unfold pyNext
 refine wpAny_bind (wpAny_attempt (wpAny_callSpecial?_slot (name:=Str.ofString "__next__") hT PySem.F.slot_zip_next (wpAny_call_entry PySem.F.slot_zip_next hT PySem.F.entry_zip_next (zkq hh st n1 n2 hl1 hl2 hend fun h' e hk he => ?_) (PySem.F.args_zip_next_1 _))))
 obtain ⟨o,ho,hc⟩:=he
 refine wpAny_bind (wpAny_isInstance (T := "StopIteration") (b:=true) ⟨o,ho,hc⟩ isSubtype_stop ?_)
 exact wpAny_pure (hQ _ hk)
end
noncomputable def It2 (K:PySem.W.Frag) (l1 l2:Addr):It :=
 ⟨fun i H=>∃ xs ys x y,SqL K H l1 xs∧SqL K H l2 ys∧xs[i]?=some x∧ys[i]?=some y,
  fun i H x H'=>∃ T a b,x=.ref T∧H T=none∧H'=upd H T (.tup [a,b])∧(∀ xs,SqL K H l1 xs→xs[i]?=some a)∧(∀ xs,SqL K H l2 xs→xs[i]?=some b),
  fun i H=>∃ xs ys,SqL K H l1 xs∧SqL K H l2 ys∧(xs.length≤i∨ys.length≤i)⟩
theorem zfL {P:Program} {w:World} {K:PySem.W.Frag} {elts:List Expr} {kk:Nat} {pos:Pos} {m l1 l2:Nat} (n1:l1<m) (n2:l2<m):Turn P w K (.Tuple elts kk pos) (It2 K l1 l2) (fp2 m) (m+4) (fun i h=>Z2 h m l1 l2 .none i) where
 mem:=by simp [fp2]
 obj:=fun i h st b hb=>by
  obtain ⟨hz,hTI,⟨a,b',hTO⟩,⟨o1,e1,c1,d1⟩,⟨o2,e2,c2,d2⟩⟩:=st
  simp only [fp2,List.mem_cons,List.not_mem_nil,or_false] at hb
  rcases hb with rfl | rfl | rfl | rfl | rfl
  ·exact ⟨_,hz,fun v z=>by cases (show Data.fields _=Data.cell v from z)⟩
  ·exact ⟨_,hTO,fun v z=>by cases (show Data.seq _ _=Data.cell v from z)⟩
  ·exact ⟨_,hTI,fun v z=>by cases (show Data.seq _ _=Data.cell v from z)⟩
  ·exact ⟨o1,e1,fun v z=>by rw [d1] at z; cases z⟩
  ·exact ⟨o2,e2,fun v z=>by rw [d2] at z; cases z⟩
 keep:=fun i h h' st k=>by
  obtain ⟨hz,hTI,⟨a,b,hTO⟩,h1,h2⟩:=st
  exact ⟨k _ (by simp [fp2]) _ hz,k _ (by simp [fp2]) _ hTI,⟨a,b,k _ (by simp [fp2]) _ hTO⟩,h1.at fun o x=>k _ (by simp [fp2]) o x,h2.at fun o x=>k _ (by simp [fp2]) o x⟩
 item:=by
  intro X hP hw hK hc i pins s σ H E I hf st hg
  subst hP hw hK
  obtain ⟨xs,ys,x,y,q1,q2,hx,hy⟩:=hg
  obtain ⟨is1,rv1,p1,_⟩:=I.list q1
  obtain ⟨is2,rv2,p2,_⟩:=I.list q2
  obtain ⟨u1,hu1,ru1⟩:=rv1.get hx
  obtain ⟨u2,hu2,ru2⟩:=rv2.get hy
  refine zi9 st n1 n2 p1.isList p2.isList (by simpa using hu1) (by simpa using hu2) fun h' z' t' sz' k' => ?_
  have hzlt:m+4<s.heap.objs.size:=Heap.lt_size st.z
  refine ⟨.ref s.heap.objs.size,rfl,wpAny_letOwnedTupleGo_zip z'.z fun h3 hz3 hs3 => ?_⟩
  have hTw:s.heap.objs.size∉fp2 m:=fun q=>by
   simp only [fp2,List.mem_cons,List.not_mem_nil,or_false] at q
   have q:s.heap.objs.size=m+4∨s.heap.objs.size=m+3∨s.heap.objs.size=m+2∨s.heap.objs.size=m∨s.heap.objs.size=m+1:=q
   lia
  have hne:∀ {b:Addr},b∉fp2 m→b≠m+4:=fun hb q=>hb (by simp [fp2,q])
  have hkeep:∀ b o,b∉fp2 m→s.heap.get? b=some o→h3.get? b=some o:=fun b o hb eb=>hs3.extBut _ _ (hne hb) (k' b o hb eb)
  have hnew:y2 X.prog X.w (upd H s.heap.objs.size (.tup [x,y])) h3 s.heap.objs.size (.tup [x,y]):=⟨by show 2≤sizeLine; rw [sizeLine_eq]; lia,[u1,u2],.cons ru1 (.cons ru2 .nil),_,hs3.extBut _ _ (hne hTw) t',rfl,_,rfl⟩
  have hHT:H s.heap.objs.size=none:=I.hok.fresh (Nat.le_refl _)
  have z4:Z2 h3 m l1 l2 .none (i+1):=by
   obtain ⟨_,b1,⟨a,b,b2⟩,b3,b4⟩:=z'
   exact ⟨hz3,hs3.extBut _ _ (nq (by lia)) b1,⟨a,b,hs3.extBut _ _ (nq (by lia)) b2⟩,b3.extBut hs3.extBut (nq (by lia)),b4.extBut hs3.extBut (nq (by lia))⟩
  refine ⟨.ref s.heap.objs.size,_,Inv.turnedL (s:=s) (h':=h3) (t':=s.toks) I hf hkeep (Nat.le_refl _) hnew,rfl,⟨_,x,y,rfl,hHT,rfl,fun vs hv=>by rw [I.list_inj hv q1]; exact hx,fun vs hv=>by rw [I.list_inj hv q2]; exact hy⟩,z4,fun b hb => ?_⟩
  have hbT:b≠s.heap.objs.size:=fun z=>by rw [z] at hb; exact hTw hb
  rw [zJ hbT]
  exact (hf b hb).1
 done:=by
  intro X hP hw hK hc i pins s σ H E I hf st hg
  subst hP hw hK
  obtain ⟨xs,ys,q1,q2,hend⟩:=hg
  obtain ⟨is1,rv1,p1,_⟩:=I.list q1
  obtain ⟨is2,rv2,p2,_⟩:=I.list q2
  have e1:=rv1.length
  have e2:=rv2.length
  refine zi8 (I.ok.hd hc) st n1 n2 p1.isList p2.isList ?_ fun h' k'=>⟨rfl,Inv.turnedF (t':=s.toks) I hf k'⟩
  rcases hend with q | q
  ·exact .inl (Array.getElem?_eq_none (by simp; lia))
  ·exact .inr (Array.getElem?_eq_none (by simp; lia))
 self:=fun _ _ _ _ _ st h=>wpAny_pyIter_zip st.z h
noncomputable def tL:List D→List D→List D
 | a::x,b::y=>.tup [a,b]::tL x y
 | _,_=>[]
theorem zcc {a b:D}:∀ {x y:List D} {i:Nat},x[i]?=some a→y[i]?=some b→(tL x y)[i]?=some (.tup [a,b])
 | [],_,_,h,_=>by simp at h
 | _::_,[],_,_,h=>by simp at h
 | p::x,q::y,0,h1,h2=>by
   simp at h1 h2
   rw [h1,h2]
   rfl
 | p::x,q::y,i+1,h1,h2=>by
   simp only [List.getElem?_cons_succ] at h1 h2
   simp only [tL,List.getElem?_cons_succ]
   exact zcc h1 h2
theorem tK:∀ x y:List D,(tL x y).length=min x.length y.length
 | [],y=>by simp [tL]
 | p::x,[]=>by simp [tL]
 | p::x,q::y=>by
   have:=tK x y
   simp only [tL,List.length_cons]
   lia
theorem zh9 {K:PySem.W.Frag} {G:Hp} {a b:Addr} {ds es:List D} {xs ys:List V} (ha:SqL K G a xs) (hb:SqL K G b ys) (ra:RepL K G ds xs) (rb:RepL K G es ys):JOk K (It2 K a b) G (tL ds es) where
 go:=fun i G' H' s l hi=>by
  rw [tK,ra.length,rb.length] at hi
  exact ⟨xs,ys,xs[i]'(by lia),ys[i]'(by lia),l.seq (s.seq ha),l.seq (s.seq hb),List.getElem?_eq_getElem _,List.getElem?_eq_getElem _⟩
 stop:=fun i G' H' s l hi=>by
  rw [tK,ra.length,rb.length] at hi
  exact ⟨xs,ys,l.seq (s.seq ha),l.seq (s.seq hb),by lia⟩
 yld:=fun i G' H' x H1 s l hi y=>by
  obtain ⟨T,p,q,rfl,hT,rfl,hp,hq⟩:=y
  obtain ⟨d1,k1,j1⟩:=ra.get' (hp xs (l.seq (s.seq ha)))
  obtain ⟨d2,k2,j2⟩:=rb.get' (hq ys (l.seq (s.seq hb)))
  have g:=Grow.laidT (o:=.tup [p,q]) l hT
  exact ⟨.tup [d1,d2],_,zcc k1 k2,g.1,g.2,T,_,rfl,zX,RepL.cons ((j1.mono s).mono g.1.g) (RepL.cons ((j2.mono s).mono g.1.g) RepL.nil)⟩
theorem zjd (a b:Value):checkTypeCall "zip" ⟨[a,b],[]⟩=pure ():=by kernel_rfl
theorem zjN (a b:Value):checkBuiltinCall "zip.__new__" ⟨[.type "zip",a,b],[]⟩=pure ():=by kernel_rfl
theorem zhZ (a b c:Value):argsOk "object.__init__" ⟨[a,b,c],[]⟩:=by
 unfold argsOk
 rw [signature?_of (id := "object.__init__") (n:=['_','_','t','i','n','i','_','_']) (o:=['t','c','e','j','b','o']) (by kernel_rfl) PySem.F.owner_object]
 kernel_rfl
noncomputable abbrev q3 (h:Heap) (a b:Addr):Heap:=y1 (y1 h a) b
noncomputable abbrev q4 (h:Heap) (a b:Addr):Heap:=(q3 h a b).push { cls:=.type "tuple",data:=.seq #[.ref h.objs.size,.ref (y1 h a).objs.size] }
noncomputable abbrev q5 (h:Heap) (a b:Addr):Heap:=(q4 h a b).push { cls:=.type "tuple",data:=.seq #[.none,.none] }
noncomputable abbrev q6 (h:Heap) (a b:Addr):Heap:=(q5 h a b).push { cls:=.type "zip",data:=.fields #[.none,.bool false,.bool false,.ref (q3 h a b).objs.size,.ref (q4 h a b).objs.size] }
theorem zh3 (a b:Addr) (xs ys:Array Value) :
 Meets (Builtin.«zip.__new__» ⟨[.type "zip",.ref a,.ref b],[]⟩) (fun _ R s=>s.heap.IsList a xs∧s.heap.IsList b ys∧R (.ok (.ret (.ref (q5 s.heap a b).objs.size))) { s with heap:=q6 s.heap a b }) :=
 .of_wp fun prog w A R s h=>by
  obtain ⟨hp,g,d,tk,os⟩:=s
  obtain ⟨hl1,hl2,h⟩:=h
  have hsub:=sub_zip
  have e1:Heap.IsList (Shared.heap ⟨hp,g,d,tk,os⟩) a xs:=hl1
  have e2:Heap.IsList (Shared.heap ⟨y1 hp a,g,d,tk,os⟩) b ys:=Heap.IsList.push hl2 _
  wp_walk using wpAny_pyIter_list e1,wpAny_pyIter_list e2
  exact ⟨_,rfl,h⟩
section
variable {prog:Program} {w:World} {A:Around} {E:Value→Shared→Prop} {s:Shared}
theorem zhk {a b:Addr} {xs ys:Array Value} {Q:Value→Shared→Prop} (hl1:s.heap.IsList a xs) (hl2:s.heap.IsList b ys)
 (h:∀ h',Z2 h' s.heap.objs.size a b .none 0→(∀ u o,s.heap.get? u=some o→h'.get? u=some o)→Q (.ref (s.heap.objs.size+4)) { s with heap:=h' }) :
 wpAny (model prog w) A (call (.type "zip") [.ref a,.ref b]) Q E s:=by
 refine callType_new PySem.F.called_zip (by decide) (zjd _ _) (zjN _ _) (fun obj=>zhZ obj _ _) PySem.F.entry_zip_new (zh3 a b xs ys) ⟨hl1,hl2,?_⟩
 have z1:(y1 s.heap a).objs.size=s.heap.objs.size+1:=Heap.size_push ..
 have z3:(q3 s.heap a b).objs.size=s.heap.objs.size+2:=by rw [Heap.size_push,z1]
 have z4:(q4 s.heap a b).objs.size=s.heap.objs.size+3:=by rw [Heap.size_push,z3]
 have z5:(q5 s.heap a b).objs.size=s.heap.objs.size+4:=by rw [Heap.size_push,z4]
 have g6:(q6 s.heap a b).get? (q5 s.heap a b).objs.size=some _:=Heap.get?_push_size _ rfl
 have g5:(q6 s.heap a b).get? (q4 s.heap a b).objs.size=some _:=Heap.get?_push_of_some _ (Heap.get?_push_size _ rfl)
 have g4:(q6 s.heap a b).get? (q3 s.heap a b).objs.size=some _:=Heap.get?_push_of_some _ (Heap.get?_push_of_some _ (Heap.get?_push_size _ rfl))
 have g2:(q6 s.heap a b).get? (y1 s.heap a).objs.size=some _:=Heap.get?_push_of_some _ (Heap.get?_push_of_some _ (Heap.get?_push_of_some _ (Heap.get?_push_size _ rfl)))
 have g1:(q6 s.heap a b).get? s.heap.objs.size=some _:=Heap.get?_push_of_some _ (Heap.get?_push_of_some _ (Heap.get?_push_of_some _ (Heap.get?_push_of_some _ (Heap.get?_push_size _ rfl))))
 show _∧_
 rw [z3,z4,z5] at g6
 rw [z4] at g5
 rw [z1,z3] at g4
 rw [z1] at g2
 rw [z5]
 exact ⟨⟨_,g6,rfl⟩,h _ ⟨g6,g4,⟨_,_,g5⟩,⟨_,g1,rfl,rfl⟩,⟨_,g2,rfl,rfl⟩⟩ fun u o x=>Heap.get?_push_of_some _ (Heap.get?_push_of_some _ (Heap.get?_push_of_some _ (Heap.get?_push_of_some _ (Heap.get?_push_of_some _ x))))⟩
end
noncomputable def iZip2 (K:PySem.W.Frag) (ta:TA):TI:=fun σ H R=>ta σ H fun vs H1=>∃ a b,vs=[.ref a,.ref b]∧(∃ xs,SqL K H1 a xs)∧(∃ xs,SqL K H1 b xs)∧R (It2 K a b) H1
theorem zjv {X:Cx} {elts:List Expr} {kk:Nat} {pos p cpos:Pos} {e1 e2:Expr} {ta:TA} (hm:X.mg "zip" = none) (ha:PA X [e1,e2] ta) (hg:Gl X "zip" := by rfl) (hs:starEach [e1,e2] X.env=(false,eval e1 X.env)::starEach [e2] X.env:=by rfl)
 (hs2:starEach [e2] X.env=[(false,eval e2 X.env)]:=by rfl):PI X (.Tuple elts kk pos) (.Call (.Name "zip" p) [e1,e2] [] cpos) (iZip2 X.K ta):=by
 intro pins s σ H R I h
 refine Call_ (uU I hg hm boot_zip (PyProof.Rows.callWith_type1 (thn (ha cpos pins s σ H _ I h) fun us s1 ⟨vs,H1,I1,r1,q1⟩ => ?_) hs (by rw [hs2]; rfl)))
 obtain ⟨a,b,rfl,⟨xs,qa⟩,⟨ys,qb⟩,q⟩:=q1
 obtain ⟨u,v,rfl,ra,rb⟩:=zfF r1
 cases (show u=.ref a from ra)
 cases (show v=.ref b from rb)
 obtain ⟨is1,_,p1,_⟩:=I1.list qa
 obtain ⟨is2,_,p2,_⟩:=I1.list qb
 have lt1:a<s1.heap.objs.size:=by obtain ⟨o,ho,_⟩:=p1.isList; exact Heap.lt_size ho
 have lt2:b<s1.heap.objs.size:=by obtain ⟨o,ho,_⟩:=p2.isList; exact Heap.lt_size ho
 refine zhk p1.isList p2.isList fun h' hz hk => ?_
 refine wpAny_pyIter_zip hz.z ?_
 have I2:Inv X pins σ H1 { s1 with heap:=h',toks:=s1.toks }:=I1.kept (t':=s1.toks) hk
 refine ⟨s1.heap.objs.size+4,fp2 s1.heap.objs.size,_,It2 X.K a b,H1,rfl,I2,zfL lt1 lt2,hz,fun b hb => ?_,q⟩
 have hb':s1.heap.objs.size≤b:=by
  simp only [fp2,List.mem_cons,List.not_mem_nil,or_false] at hb
  rcases hb with rfl | rfl | rfl | rfl | rfl <;> first | exact Nat.le_add_right _ _ | exact Nat.le_refl _
 exact I1.fpOk hb' (I1.hok.fresh hb')
@[simp] noncomputable def zj4 (f g:FE):FI:=fun env=>(f env).bind fun x=>x.hold.bind fun d=>(g env).bind fun y=>y.hold.bind fun e=>match d,e with
  | .lst ds,.lst es=>.ok (tL ds es)
  | _,_=>.bad
theorem zka {X:Cx} {G₀ H₀:Hp} {elts:List Expr} {kk:Nat} {pos p cpos:Pos} {e1 e2:Expr} {f g:FE} (hm:X.mg "zip" = none) (h1:DE X G₀ H₀ e1 f) (h2:DE X G₀ H₀ e2 g) (hg:Gl X "zip" := by rfl) (hs:starEach [e1,e2] X.env=(false,eval e1 X.env)::starEach [e2] X.env:=by rfl)
 (hs2:starEach [e2] X.env=[(false,eval e2 X.env)]:=by rfl) :
 DIt X G₀ H₀ (.Tuple elts kk pos) (.Call (.Name "zip" p) [e1,e2] [] cpos) (zj4 f g):=(zjv hm (yn h1 (yn h2 vo hs2) hs) hg hs hs2).imp fun σ H R q=>by
 obtain ⟨env,G,ds,I,e,k⟩:=q
 obtain ⟨x,ex,e⟩:=zq e
 obtain ⟨d,hx,e⟩:=zq e
 obtain ⟨y,ey,e⟩:=zq e
 obtain ⟨d',hy,e⟩:=zq e
 refine ⟨env,G,x,I,ex,fun v1 G1 H1 g1 l1 o1 => ?_⟩
 obtain ⟨G2,g2,l2,r2⟩:=held g1 l1 o1 hx
 have I2:=I.grow g2 l2
 refine ⟨env,G2,y,I2,ey,fun v2 G3 H3 g3 l3 o3 => ?_⟩
 obtain ⟨G4,g4,l4,r4⟩:=held g3 l3 o3 hy
 split at e
 ·cases e
  obtain ⟨a,xs,rfl,ha,ra⟩:=r2.mono g4.g
  obtain ⟨b,ys,rfl,hb,rb⟩:=r4
  exact ⟨a,b,rfl,⟨xs,SqL.of (l4 _ _ ha)⟩,⟨ys,SqL.of (l4 _ _ hb)⟩,k _ G4 _ (g2.trans g4) l4 (zh9 (SqL.of ha) (SqL.of hb) ra rb)⟩
 ·cases e
end DL
namespace L2
open PySem PySem.Spec PyProof.Rows
section
variable {κ:Type} [DecidableEq κ]
noncomputable def valV (kvs:List (κ×V)) (k:κ):Option V:=(kvs.find? fun kv=>decide (kv.1=k)).map (·.2)
noncomputable def putK (kvs:List (κ×V)) (k:κ) (v:V):List (κ×V) :=
 if (kvs.any fun kv=>decide (kv.1=k))=true then kvs.map (fun kv=>if kv.1=k then (kv.1,v) else kv) else kvs++[(k,v)]
theorem zbr {p:κ×V} {r:List (κ×V)} {k:κ} (e:p.1=k):valV (p::r) k=some p.2:=by simp [valV,List.find?_cons,e]
theorem zbs {p:κ×V} {r:List (κ×V)} {k:κ} (e:¬ p.1=k):valV (p::r) k=valV r k:=by simp [valV,List.find?_cons,e]
theorem zd5 (k:κ):∀ kvs:List (κ×V),(kvs.any fun kv=>decide (kv.1=k))=(valV kvs k).isSome
 | []=>rfl
 | p::r=>by
   rw [List.any_cons]
   by_cases e:p.1=k
   ·simp only [zbr e,decide_eq_true e,Bool.true_or,Option.isSome_some]
   ·rw [zbs e,decide_eq_false e,Bool.false_or]; exact zd5 k r
theorem zab (kvs:List (κ×V)) (k:κ) (v:V):(putK kvs k v).length≤kvs.length+1:=by
 unfold putK
 split
 ·rw [List.length_map]; lia
 ·rw [List.length_append,List.length_cons,List.length_nil]; lia
theorem RelO.isSome_eq {o:Option V} {u:Option Value} (r:RelO o u):o.isSome=u.isSome:=by
 cases o with
 | none=>cases u with
   | none=>rfl
   | some _=>exact (show False from r).elim
 | some _=>cases u with
   | none=>exact (show False from r).elim
   | some _=>rfl
theorem RelO.getD {o:Option V} {u:Option Value} {d:V} {d':Value} (r:RelO o u) (rd:RelV d d'):RelV (o.getD d) (u.getD d'):=by
 cases o with
 | none=>cases u with
   | none=>exact rd
   | some _=>exact (show False from r).elim
 | some _=>cases u with
   | none=>exact (show False from r).elim
   | some _=>exact r
theorem KV.val {kvs:List (κ×V)} {vs:List (κ×Value)} (r:KV kvs vs) (k:κ):RelO (valV kvs k) (valueAt vs k):=by
 unfold KV at r
 induction r with
 | nil=>exact True.intro
 | @cons p q ps qs h t ih =>
   obtain ⟨h1,h2⟩:=h
   by_cases e:p.1=k
   ·have e':q.1=k:=h1.symm.trans e
    have b:valueAt (q::qs) k=some q.2:=by simp [valueAt,List.find?_cons,e']
    rw [zbr e,b]; exact h2
   ·have e':¬ q.1=k:=fun z=>e (h1.trans z)
    have b:valueAt (q::qs) k=valueAt qs k:=by simp [valueAt,List.find?_cons,e']
    rw [zbs e,b]; exact ih
theorem KV.any {kvs:List (κ×V)} {vs:List (κ×Value)} (r:KV kvs vs) (k:κ):(kvs.any fun kv=>decide (kv.1=k))=vs.any fun kv=>decide (kv.1=k):=by
 unfold KV at r
 induction r with
 | nil=>rfl
 | cons h t ih=>rw [List.any_cons,List.any_cons,ih,h.1]
theorem KV.repl {kvs:List (κ×V)} {vs:List (κ×Value)} (r:KV kvs vs) (k:κ) {y:V} {u:Value} (ry:RelV y u) :
 KV (kvs.map fun kv=>if kv.1=k then (kv.1,y) else kv) (vs.map fun kv=>if kv.1=k then (kv.1,u) else kv):=by
 unfold KV at r ⊢
 induction r with
 | nil=>exact .nil
 | @cons p q ps qs h t ih =>
   rw [List.map_cons,List.map_cons]
   refine .cons ?_ ih
   obtain ⟨h1,h2⟩:=h
   by_cases e:p.1=k
   ·rw [if_pos e,if_pos (h1.symm.trans e)]; exact ⟨h1,ry⟩
   ·rw [if_neg e,if_neg (fun z=>e (h1.trans z))]; exact ⟨h1,h2⟩
theorem KV.put {kvs:List (κ×V)} {vs:List (κ×Value)} (r:KV kvs vs) (k:κ) {y:V} {u:Value} (ry:RelV y u):KV (putK kvs k y) (stored vs k u):=by
 unfold putK stored
 rw [r.any k]
 by_cases e:(vs.any fun kv=>decide (kv.1=k))=true
 ·rw [if_pos e,if_pos e]; exact r.repl k ry
 ·rw [if_neg e,if_neg e]; exact Paired.snoc r ⟨rfl,ry⟩
theorem KV.length {kvs:List (κ×V)} {vs:List (κ×Value)} (r:KV kvs vs):kvs.length=vs.length:=Paired.length r
end
theorem zjS {P:Program} {w:World} {k:Key} {u:Value} (r:RelV (kV k) u):(yy P w).is k u=true:=by
 cases k with
 | inl i=>obtain ⟨t,e⟩:=(show ∃ t,u=Value.int i t from r); subst e; exact zdp P w i t
 | inr x=>obtain ⟨t,e⟩:=(show ∃ t,u=Value.str x t from r); subst e; exact zdo P w x t
theorem zcF {P:Program} {w:World}:∀ {ks:List Key} {us:List Value},Vals (ks.map kV) us→ItemsAre (yy P w) ks us
 | [],_,r=>by rw [List.map_nil] at r; cases r; exact .nil
 | k::ks,_,r=>by
   rw [List.map_cons] at r
   cases r with
   | cons h t=>exact .cons (zjS h) (zcF t)
noncomputable abbrev KT (H:Hp):List (List Key×V)→List (List Key×Addr×Value)→Prop:=Paired fun p q=>p.1=q.1∧H q.2.1=some (.tup (p.1.map kV))∧RelV p.2 q.2.2
theorem KT.val {H:Hp} {kvs:List (List Key×V)} {xs:List (List Key×Addr×Value)} (r:KT H kvs xs) (k:List Key):RelO (valV kvs k) ((atKey xs k).map (·.2)):=by
 induction r with
 | nil=>exact True.intro
 | @cons p q ps qs h t ih =>
   obtain ⟨h1,_,h2⟩:=h
   by_cases e:p.1=k
   ·have e':q.1=k:=h1.symm.trans e
    have b:atKey (q::qs) k=some q.2:=by simp [atKey,List.find?_cons,e']
    rw [zbr e,b]; exact h2
   ·have e':¬ q.1=k:=fun z=>e (h1.trans z)
    have b:atKey (q::qs) k=atKey qs k:=by simp [atKey,List.find?_cons,e']
    rw [zbs e,b]; exact ih
theorem KT.repl {H:Hp} {kvs:List (List Key×V)} {xs:List (List Key×Addr×Value)} (r:KT H kvs xs) (k:List Key) {y:V} {u:Value} (ry:RelV y u) :
 KT H (kvs.map fun kv=>if kv.1=k then (kv.1,y) else kv) (xs.map (putAt k u)):=by
 induction r with
 | nil=>exact .nil
 | @cons p q ps qs h t ih =>
   rw [List.map_cons,List.map_cons]
   refine .cons ?_ ih
   obtain ⟨h1,h2,h3⟩:=h
   unfold putAt
   by_cases e:p.1=k
   ·rw [if_pos e,if_pos (h1.symm.trans e)]; exact ⟨h1,h2,ry⟩
   ·rw [if_neg e,if_neg (fun z=>e (h1.trans z))]; exact ⟨h1,h2,h3⟩
theorem KT.put {H:Hp} {kvs:List (List Key×V)} {xs:List (List Key×Addr×Value)} (r:KT H kvs xs) (k:List Key) {b:Addr} {y:V} {u:Value} (hb:H b=some (.tup (k.map kV))) (ry:RelV y u) :
 KT H (putK kvs k y) (storedH xs k b u):=by
 have e:(kvs.any fun kv=>decide (kv.1=k))=(atKey xs k).isSome:=by
  rw [zd5,(r.val k).isSome_eq,Option.isSome_map]
 unfold putK storedH
 rw [e]
 by_cases q:(atKey xs k).isSome=true
 ·rw [if_pos q,if_pos q]; exact r.repl k ry
 ·rw [if_neg q,if_neg q]; exact Paired.snoc r ⟨rfl,hb,ry⟩
theorem KT.keeps {H H':Hp} {kvs:List (List Key×V)} {xs:List (List Key×Addr×Value)} (r:KT H kvs xs) (ht:∀ b ys,H b=some (.tup ys)→H' b=some (.tup ys)):KT H' kvs xs :=
 Paired.mapP r fun _ _ z=>⟨z.1,ht _ _ z.2.1,z.2.2⟩
section
variable {P:Program} {w:World} {H:Hp} {h:Heap} {a:Addr}
theorem zkI {u:HO} (ok:HOk P w H h) (e:Rd H a u):y2 P w H h a u:=e.ok ok
theorem zj8 {kvs:List (Key×V)} (ok:HOk P w H h) (e:Rd H a (.dK kvs)):kvs.length≤sizeLine∧(a == sysModules)=false∧∃ vs,KV kvs vs∧h.DictOf (yy P w) a vs :=
 show y2 P w H h a (.dK kvs) from zkI ok e
theorem dk_of {kvs:List (Key×V)} (ok:HOk P w H h) (e:H a=some (.dK kvs)):kvs.length≤sizeLine∧(a == sysModules)=false∧∃ vs,KV kvs vs∧h.DictOf (yy P w) a vs:=zj8 ok (.inl e)
theorem zgH {ks:List Key} (ok:HOk P w H h) (e:H a=some (.tup (ks.map kV))):(tupleKind (yy P w)).is h ks a:=by
 obtain ⟨_,its,r,o,h1,h2,n,h3⟩:=(show y2 P w H h a (.tup (ks.map kV)) from ok a _ e)
 exact ⟨o,its.toArray,n,h1,h2,h3,by simpa using zcF r⟩
theorem zj7 {kvs:List (List Key×V)} (ok:HOk P w H h) (e:Rd H a (.dT kvs)):kvs.length≤sizeLine∧(a == sysModules)=false ∧
 ∃ xs,KT H kvs xs∧h.DictOfH (tupleKind (yy P w)) a xs:=by
 obtain ⟨z,y,xs,r,o,es,ep,h1,h2,h3,h4,h5⟩:=(show y2 P w H h a (.dT kvs) from zkI ok e)
 refine ⟨z,y,xs,r,o,es,ep,h1,h2,h3,h4,fun x hx => ?_,h5⟩
 have all:∀ {l:List (List Key×V)} {m:List (List Key×Addr×Value)},KT H l m→∀ x∈m,(tupleKind (yy P w)).is h x.1 x.2.1:=by
  intro l m q
  induction q with
  | nil=>intro x hx; exact nomatch hx
  | @cons p q ps qs hq t ih =>
    intro x hx
    rcases List.mem_cons.mp hx with e | hx
    ·subst e
     exact zgH ok (by rw [←hq.1]; exact hq.2.1)
    ·exact ih x hx
 exact all r x hx
theorem dt_of {kvs:List (List Key×V)} (ok:HOk P w H h) (e:H a=some (.dT kvs)):kvs.length≤sizeLine∧(a == sysModules)=false ∧
 ∃ xs,KT H kvs xs∧h.DictOfH (tupleKind (yy P w)) a xs:=zj7 ok (.inl e)
end
noncomputable def DGet (H:Hp) (a:Addr) (y:V) (r:Option V):Prop :=
 (∃ kvs k,Rd H a (.dK kvs)∧y=kV k∧r=valV kvs k)∨∃ kvs k b,Rd H a (.dT kvs)∧y=.ref b∧H b=some (.tup (k.map kV))∧r=valV kvs k
noncomputable def DPut (H:Hp) (a:Addr) (y v:V) (H':Hp):Prop :=
 (∃ kvs k,H a=some (.dK kvs)∧y=kV k∧kvs.length<sizeLine∧H'=upd H a (.dK (putK kvs k v))) ∨
 ∃ kvs k b,H a=some (.dT kvs)∧y=.ref b∧H b=some (.tup (k.map kV))∧kvs.length<sizeLine∧H'=upd H a (.dT (putK kvs k v))
section
variable {X:Cx} {pins:List (Addr×Obj)} {σ:St} {H:Hp} {s:Shared} {a:Addr} {y v:V} {u r:Value} {o:Option V} {A:Around} {E:Value→Shared→Prop}
theorem zhb {h':Heap} {t':Nat} {ob:HO} (I:Inv X pins σ H s) (mu:Mut (H a)) (hs:Heap.SameBut a s.heap h') (he:∃ q,h'.get? a=some q) (new:y2 X.prog X.w (upd H a ob) h' a ob) :
 Inv X pins σ (upd H a ob) { s with heap:=h',toks:=t' } :=
 I.write (x:=a) (e:=a) mu (.inl rfl) (fun b q hb z=>(hs.2 b hb).trans z) he new
theorem zlE {P:Program} {w:World} {H':Hp} {h':Heap} {kvs:List (Key×V)} {vs:List (Key×Value)} (z:kvs.length≤sizeLine) (hd:(a == sysModules)=false) (rel:KV kvs vs) (dd:h'.DictOf (yy P w) a vs) :
 y2 P w H' h' a (.dK kvs):=⟨z,hd,vs,rel,dd⟩
theorem zhc {H':Hp} {Q:Unit→Shared→Prop} (hu:A.units+1<cLine) (I:Inv X pins σ H s) (g:DPut H a y v H') (ry:RelV y u) (rv:RelV v r) (h:∀ s',Inv X pins σ H' s'→Q () s') :
 wpAny (model X.prog X.w) A (setItem (.ref a) u r) Q E s:=by
 rcases g with ⟨kvs,k,e,ey,l,eH⟩ | ⟨kvs,k,b,e,ey,eb,l,eH⟩
 ·subst ey eH
  obtain ⟨z,hd,vs,rel,dd⟩:=dk_of I.hok e
  have hz:vs.length≤sizeLine:=by rw [←rel.length]; exact z
  have hl:(putK kvs k v).length≤sizeLine:=by have:=zab kvs k v; lia
  refine wpAny_setItem_pairs (hsz:=hz) (zjS ry) dd fun h' dd' hs=>h _ ?_
  have he:∃ q,h'.get? a=some q:=let ⟨q,_,_,hq,_⟩:=dd'; ⟨q,hq⟩
  exact zhb I (by rw [e]; exact True.intro) hs he (zlE hl hd (rel.put k rv) dd')
 ·subst ey eH
  cases (show u=Value.ref b from ry)
  obtain ⟨z,hd,xs,rel,dd⟩:=dt_of I.hok e
  have hz:xs.length≤sizeLine:=by rw [←Paired.length rel]; exact z
  have hl:(putK kvs k v).length≤sizeLine:=by have:=zab kvs k v; lia
  refine wpAny_setItem_heap (hsz:=hz) (tupleKind_room_in1 hu) (zgH I.hok eb) dd fun h' dd' hs=>h _ ?_
  obtain ⟨q,es,ep,hq,h2,h3,h4,_,h5⟩:=dd'
  refine zhb I (by rw [e]; exact True.intro) hs ⟨q,hq⟩ ⟨hl,hd,_,(rel.put k eb rv).keeps fun c ys ec => ?_,q,es,ep,hq,h2,h3,h4,h5⟩
  rw [zJ (ne_of ec e (fun z=>nomatch z))]
  exact ec
end
noncomputable def zhM (td ty tv:TE):TS:=fun D σ H=>tv σ H fun v H1=>td σ H1 fun x H2=>ty σ H2 fun y H3=>∃ a H4,x=.ref a∧DPut H3 a y v H4∧D.nx σ H4
section
variable {X:Cx} {o i e value:Expr} {pos pos' tpos:Pos} {td ty tv:TE}
theorem zjr (hu:X.A.units+1<cLine) (ho:PE X o td) (hi:PE X i ty) (hv:PE X value tv) (hs:swapsWith value (some (.Subscript o i pos')) pos.line X.env=pure false) :
 PS X (.Assign [.Subscript o i pos'] value pos) (zhM td ty tv):=by
 intro pins s σ H D I h
 refine wpAny_Assign_Subscript (thn (hv pins s σ H _ I h) fun r s1 ⟨v,H1,I1,rv,q1⟩=>thn (ho pins s1 σ H1 _ I1 q1) fun u s2 ⟨x,H2,I2,rx,q2⟩=>thn (hi pins s2 σ H2 _ I2 q2) fun iv s3 ⟨y,H3,I3,ry,a,H4,ex,g,q3⟩ => ?_) hs
 subst ex
 obtain rfl:u=Value.ref a:=rx
 exact zhc hu I3 g ry rv fun s4 I4=>⟨σ,H4,I4,q3⟩
end
structure M2 (X:Cx) (o:Expr) (m:Str) (apos:Pos) (e f:Expr) (cpos:Pos):Prop where
 base:attributeBase o m X.env (eval o X.env)=eval o X.env
 few:((backTo cpos (starEach [e,f] X.env)).all (fun x => !x.1)&&(backToKw cpos (keywordEach [] X.env)).all (fun x=>x.1.isSome)
  && decide (([e,f]:List Expr).length+([]:List Keyword).length+(if ([]:List Keyword).isEmpty then 0 else 1)<30))=true
 line:(apos.endLine == cpos.line)=true
 trees:backTo cpos (starEach [e,f] X.env)=[(false,eval e X.env),(false,eval f X.env)]
noncomputable def IsD (H:Hp) (a:Addr):Prop:=(∃ kvs,Rd H a (.dK kvs))∨∃ kvs,Rd H a (.dT kvs)
theorem zlv {X:Cx} {pins:List (Addr×Obj)} {σ:St} {H:Hp} {s:Shared} {a:Addr} (I:Inv X pins σ H s) (d:IsD H a) :
 s.TypeIs (.ref a) "dict" ∧ (∀ b,Value.ref a=.ref b→∃ ob,s.heap.get? b=some ob∧ob.dict=none)∧(a == sysModules)=false:=by
 rcases d with ⟨kvs,e⟩ | ⟨kvs,e⟩
 ·obtain ⟨_,hd,vs,_,dd⟩:=zj8 I.hok e
  refine ⟨dd.typeIs,fun b q => ?_,hd⟩
  cases q
  obtain ⟨ob,_,_,h1,h2,_⟩:=dd
  exact ⟨ob,h1,h2.2.1⟩
 ·obtain ⟨_,hd,xs,_,dd⟩:=zj7 I.hok e
  refine ⟨dd.typeIs,fun b q => ?_,hd⟩
  cases q
  obtain ⟨ob,_,_,h1,h2,_⟩:=dd
  exact ⟨ob,h1,h2.2.1⟩
section
variable {X:Cx} {pins:List (Addr×Obj)} {σ:St} {H:Hp} {s:Shared} {a:Addr} {y d:V} {u r:Value} {o:Option V} {A:Around} {E:Value→Shared→Prop}
theorem zlJ {Q:Value→Shared→Prop} (hu:A.units+1<cLine) (I:Inv X pins σ H s) (g:DGet H a y o) (ry:RelV y u) (rd:RelV d r) (h:∀ w' s',Inv X pins σ H s'→RelV (o.getD d) w'→Q w' s') :
 wpAny (model X.prog X.w) A (call (.builtin "dict.get") [.ref a,u,r]) Q E s:=by
 rcases g with ⟨kvs,k,e,ey,l⟩ | ⟨kvs,k,b,e,ey,eb,l⟩
 ·subst ey
  obtain ⟨z,hd,vs,rel,dd⟩:=zj8 I.hok e
  refine call_meetsIn PySem.F.slot_dict_get dd.typeIs PySem.F.entry_dict_get (PySem.F.args_dict_get_3 _ _ _) (meets_dict_get_default (yy X.prog X.w) a (zjS ry) hd r) ⟨_,dd.mapOf,h _ _ (I.tok _) ?_⟩
  rw [l]
  exact (rel.val k).getD rd
 ·subst ey
  cases (show u=Value.ref b from ry)
  obtain ⟨z,hd,xs,rel,dd⟩:=zj7 I.hok e
  refine call_meetsIn PySem.F.slot_dict_get dd.typeIs PySem.F.entry_dict_get (PySem.F.args_dict_get_3 _ _ _) (meetsH_dict_get_default (tupleKind (yy X.prog X.w)) a b hd r) ⟨tupleKind_room_in1 hu,k,xs,zgH I.hok eb,dd,h _ _ (I.tok _) ?_⟩
  rw [l]
  exact (rel.val k).getD rd
end
noncomputable def zch (td ty tx:TE):TE:=fun σ H Q=>td σ H fun x H1=>∃ a,x=.ref a∧IsD H1 a∧ty σ H1 fun y H2=>tx σ H2 fun z H3=>∃ o,DGet H3 a y o∧Q (o.getD z) H3
section
variable {X:Cx} {o e f:Expr} {apos cpos:Pos} {td ty tx:TE}
theorem zex (hu:X.A.units+1<cLine) (ho:PE X o td) (he:PE X e ty) (hf:PE X f tx) (m:M2 X o "get" apos e f cpos):PE X (.Call (.Attribute o "get" apos) [e,f] [] cpos) (zch td ty tx):=by
 intro pins s σ H Q I h
 refine wpAny_Call_method m.base m.few m.line PySem.F.plainAttrs_dict PySem.F.slot_dict_get PySem.F.type_dict_get (thn (ho pins s σ H _ I h) fun u s1 ⟨x,H1,I1,rx,a,ex,d,q1⟩ => ?_)
 subst ex
 obtain rfl:u=Value.ref a:=rx
 obtain ⟨t1,t2,_⟩:=zlv I1 d
 refine ⟨t1,t2,?_⟩
 rw [m.trees]
 refine Calls.callWith_builtin rfl (Calls.evalArgs_plain (Calls.spliced_cons (thn (he pins s1 σ H1 _ I1 q1) fun iv s2 ⟨y,H2,I2,ry,q2⟩ =>
  Calls.spliced_cons (thn (hf pins s2 σ H2 _ I2 q2) fun fv s3 ⟨z,H3,I3,rz,ov,g,q3⟩=>Calls.spliced_nil ?_))))
 exact zlJ hu I3 g ry rz fun w' s4 I4 rw'=>⟨_,H3,I4,rw',q3⟩
end
end L2
namespace DL
open PySem PySem.Spec PyProof.Rows L2
noncomputable abbrev Kvs:=List (Int×List D)
noncomputable def KRep (K:PySem.W.Frag) (G:Hp):Kvs→List (Key×V)→Prop
 | [],ws=>ws=[]
 | (k,ds)::r,ws=>∃ v r',ws=(Sum.inl k,v)::r'∧Rep K G (.lst ds) v∧KRep K G r r'
noncomputable def yj (kvs:Kvs) (k:Int):List D:=((kvs.find? fun kv=>decide (kv.1=k)).map (·.2)).getD []
noncomputable def kPut (kvs:Kvs) (k:Int) (ds:List D):Kvs:=if (kvs.any fun kv=>decide (kv.1=k))=true then kvs.map (fun kv=>if kv.1=k then (kv.1,ds) else kv) else kvs++[(k,ds)]
section
variable {K:PySem.W.Frag} {G G':Hp}
theorem KRep.mono (s:Same G G'):∀ {kvs:Kvs} {ws:List (Key×V)},KRep K G kvs ws→KRep K G' kvs ws
 | [],_,h=>h
 | (k,ds)::r,ws,h=>by
   obtain ⟨v,r',e,h1,h2⟩:=h
   exact ⟨v,r',e,h1.mono s,KRep.mono s h2⟩
theorem KRep.len:∀ {kvs:Kvs} {ws:List (Key×V)},KRep K G kvs ws→ws.length=kvs.length
 | [],_,h=>by rw [show _=[] from h]; rfl
 | (k,ds)::r,ws,h=>by
   obtain ⟨v,r',rfl,h1,h2⟩:=h
   simp only [List.length_cons,KRep.len h2]
theorem zdr (a b:Int):((Sum.inl a:Key)=Sum.inl b)↔a=b:=⟨fun h=>Sum.inl.inj h,fun h=>by rw [h]⟩
theorem KRep.val {k:Int}:∀ {kvs:Kvs} {ws:List (Key×V)},KRep K G kvs ws→(valV ws (Sum.inl k:Key)=none∧yj kvs k=[])∨∃ v,valV ws (Sum.inl k:Key)=some v∧Rep K G (.lst (yj kvs k)) v
 | [],_,h=>by
   rw [show _=[] from h]
   exact .inl ⟨rfl,rfl⟩
 | (j,ds)::r,ws,h=>by
   obtain ⟨v,r',rfl,h1,h2⟩:=h
   by_cases z:j=k
   ·right
    refine ⟨v,?_,?_⟩
    ·simp [valV,z]
    ·simpa [yj,z] using h1
   ·have e1:valV ((Sum.inl j,v)::r') (Sum.inl k:Key)=valV r' (Sum.inl k:Key):=by
     have:¬ ((Sum.inl j:Key)=Sum.inl k):=fun q=>z ((zdr j k).mp q)
     simp [valV,this]
    have e2:yj ((j,ds)::r) k=yj r k:=by simp [yj,z]
    rw [e1,e2]
    exact KRep.val h2
theorem KRep.any {k:Int}:∀ {kvs:Kvs} {ws:List (Key×V)},KRep K G kvs ws→(ws.any fun kv=>decide (kv.1=(Sum.inl k:Key)))=kvs.any fun kv=>decide (kv.1=k)
 | [],_,h=>by rw [show _=[] from h]; rfl
 | (j,ds)::r,ws,h=>by
   obtain ⟨v,r',rfl,h1,h2⟩:=h
   rw [List.any_cons,List.any_cons,KRep.any h2]
   congr 1
   exact decide_eq_decide.mpr (zdr j k)
theorem KRep.over {k:Int} {ds:List D} {v:V} (hv:Rep K G (.lst ds) v):∀ {kvs:Kvs} {ws:List (Key×V)},KRep K G kvs ws→KRep K G (kvs.map fun kv=>if kv.1=k then (kv.1,ds) else kv) (ws.map fun kv=>if kv.1=(Sum.inl k:Key) then (kv.1,v) else kv)
 | [],_,h=>by rw [show _=[] from h]; rfl
 | (j,es)::r,ws,h=>by
   obtain ⟨u,r',rfl,h1,h2⟩:=h
   rw [List.map_cons,List.map_cons]
   by_cases z:j=k
   ·have z':(Sum.inl j:Key)=Sum.inl k:=by rw [z]
    simp only [z,if_true]
    exact ⟨v,_,rfl,hv,KRep.over hv h2⟩
   ·have z':¬ ((Sum.inl j:Key)=Sum.inl k):=fun q=>z ((zdr j k).mp q)
    simp only [z,z',if_false]
    exact ⟨u,_,rfl,h1,KRep.over hv h2⟩
theorem KRep.snoc {k:Int} {ds:List D} {v:V} (hv:Rep K G (.lst ds) v):∀ {kvs:Kvs} {ws:List (Key×V)},KRep K G kvs ws→KRep K G (kvs++[(k,ds)]) (ws++[(Sum.inl k,v)])
 | [],_,h=>by
   rw [show _=[] from h]
   exact ⟨v,[],rfl,hv,rfl⟩
 | (j,es)::r,ws,h=>by
   obtain ⟨u,r',rfl,h1,h2⟩:=h
   exact ⟨u,_,rfl,h1,KRep.snoc hv h2⟩
theorem KRep.put {k:Int} {ds:List D} {v:V} {kvs:Kvs} {ws:List (Key×V)} (h:KRep K G kvs ws) (hv:Rep K G (.lst ds) v):KRep K G (kPut kvs k ds) (putK ws (Sum.inl k:Key) v):=by
 unfold kPut putK
 rw [h.any]
 split
 ·exact KRep.over hv h
 ·exact KRep.snoc hv h
end
theorem zh7 (kvs:Kvs) (k:Int) (ds:List D):(kPut kvs k ds).length≤kvs.length+1:=by
 unfold kPut
 split <;> simp
theorem zeG {k j:Int} {ds:List D}:∀ {kvs:Kvs},yj (kPut kvs k ds) j=if j=k then ds else yj kvs j
 | []=>by
   by_cases z:j=k
   ·simp [yj,kPut,z]
   ·have:¬ k=j:=fun q=>z q.symm
    simp [yj,kPut,z,this]
 | (i,es)::r=>by
   have ih:=zeG (k:=k) (j:=j) (ds:=ds) (kvs:=r)
   unfold kPut at ih ⊢
   by_cases a:i=k
   ·subst a
    have e:((i,es)::r).any (fun kv=>decide (kv.1=i))=true:=by simp
    rw [if_pos e,List.map_cons]
    by_cases b:j=i
    ·subst b; simp [yj]
    ·have b':¬ i=j:=fun q=>b q.symm
     have e1:yj (r.map fun kv=>if kv.1=i then (kv.1,ds) else kv) j=yj r j:=by
      by_cases c:(r.any fun kv=>decide (kv.1=i))=true
      ·rw [if_pos c,if_neg b] at ih; exact ih
      ·have:(r.map fun kv=>if kv.1=i then (kv.1,ds) else kv)=r:=by
        refine (List.map_congr_left fun x hx => ?_).trans (List.map_id r)
        rw [if_neg]
        ·rfl
        ·intro q
         exact c (List.any_eq_true.mpr ⟨x,hx,decide_eq_true q⟩)
       rw [this]
     rw [if_neg b]
     have e2:yj ((if (i,es).1=i then ((i,es).1,ds) else (i,es))::r.map fun kv=>if kv.1=i then (kv.1,ds) else kv) j=yj (r.map fun kv=>if kv.1=i then (kv.1,ds) else kv) j:=by simp [yj,b']
     have e3:yj ((i,es)::r) j=yj r j:=by simp [yj,b']
     rw [e2,e3,e1]
   ·have e:((i,es)::r).any (fun kv=>decide (kv.1=k))=r.any fun kv=>decide (kv.1=k):=by simp [a]
    rw [e]
    by_cases b:j=i
    ·subst b
     have b':¬ j=k:=a
     rw [if_neg b']
     split <;> simp [yj,a]
    ·have b':¬ i=j:=fun q=>b q.symm
     have e3:yj ((i,es)::r) j=yj r j:=by simp [yj,b']
     rw [e3]
     rw [←ih]
     split
     ·rw [List.map_cons]; simp [yj,a,b']
     ·simp [yj,b']
noncomputable def zaQ (kvs:Kvs) (q:D×Int×Int):Kvs:=if q.2.2=0 then kPut kvs q.2.1 (yj kvs q.2.1++[q.1]) else kvs
theorem zfn (kvs:Kvs) (q:D×Int×Int) (j:Int):yj (zaQ kvs q) j=yj kvs j++(if q.2.1=j∧q.2.2=0 then [q.1] else []):=by
 unfold zaQ
 by_cases f:q.2.2=0
 ·rw [if_pos f,zeG]
  by_cases z:j=q.2.1
  ·subst z; simp [f]
  ·have z':¬ q.2.1=j:=fun w=>z w.symm
   simp [z,z']
 ·simp [f]
theorem zgK (kvs:Kvs) (q:D×Int×Int):(zaQ kvs q).length≤kvs.length+1:=by
 unfold zaQ
 split
 ·exact zh7 _ _ _
 ·lia
noncomputable def wG (qs:List (D×Int×Int)):Kvs:=qs.foldl zaQ []
theorem zbb (qs:List (D×Int×Int)) (j:Int):yj (wG qs) j=(qs.filter fun q=>decide (q.2.1=j)&&decide (q.2.2=0)).map (·.1):=by
 have gen:∀ (qs:List (D×Int×Int)) (kvs:Kvs),yj (qs.foldl zaQ kvs) j=yj kvs j++(qs.filter fun q=>decide (q.2.1=j)&&decide (q.2.2=0)).map (·.1):=by
  intro qs
  induction qs with
  | nil=>intro kvs; simp
  | cons q qs ih =>
    intro kvs
    rw [List.foldl_cons,ih,zfn,List.append_assoc,List.filter_cons]
    congr 1
    by_cases c:q.2.1=j∧q.2.2=0
    ·simp [c]
    ·rw [if_neg c]
     by_cases c1:q.2.1=j
     ·have c2:¬ q.2.2=0:=fun w=>c ⟨c1,w⟩
      simp [c2]
     ·simp [c1]
 have:=gen qs []
 rw [show yj [] j=[] from rfl,List.nil_append] at this
 exact this
theorem zfo (qs:List (D×Int×Int)) (q:D×Int×Int):wG (qs++[q])=zaQ (wG qs) q:=by
 unfold wG
 rw [List.foldl_append]
 rfl
noncomputable def plD (q:D×Int×Int) (x:D):D:=.tup [.int q.2.1,.int q.2.2,x]
end DL
namespace DL
open PySem PySem.Spec PyProof.Rows L2
structure DicAt (K:PySem.W.Frag) (σ:St) (G H:Hp) (d:Addr) (kvs:Kvs):Prop where
 at_:σ[3]?=some (some (.ref d))
 gn:G d=none
 hp:∃ ws,H d=some (.dK ws)∧KRep K G kvs ws
section
variable {K:PySem.W.Frag} {G₀ H₀ G H G' H':Hp} {env:Ev} {σ:St} {d:Addr} {kvs:Kvs}
theorem DicAt.grow (J:DicAt K σ G H d kvs) (g:Grow G H G' H'):DicAt K σ G' H' d kvs:=by
 obtain ⟨a,b,ws,c,e⟩:=J
 exact ⟨a,g.n d (by rw [c]; simp) b,ws,g.h _ _ c,e.mono g.g⟩
theorem ziY {f1:FE} {k:Int} (I:DI K G₀ H₀ env σ G H) (J:DicAt K σ G H d kvs) (e1:f1 env=.ok (.pers (.int k))) {Q:V→Hp→Prop} (h:∀ x G' H',Grow G H G' H'→Same G' H'→Rep K G' (.lst (yj kvs k)) x→Q x H') :
 zch (tVar 3) (tE K G₀ H₀ f1) (tE K G₀ H₀ (fLst (hNil))) σ H Q:=by
 obtain ⟨ws,hw,kr⟩:=J.hp
 refine ⟨.ref d,J.at_,d,rfl,.inl ⟨ws,.inl hw⟩,env,G,_,I,e1,fun y G1 H1 g1 l1 o1 => ?_⟩
 cases (show y=.int k from o1)
 have I1:=I.grow g1 l1
 refine ⟨env,G1,.fresh [],I1,rfl,fun z G2 H2 g2 l2 o2 => ?_⟩
 have g02:=g1.trans g2
 refine ⟨valV ws (Sum.inl k:Key),.inl ⟨ws,Sum.inl k,.inl (g02.h _ _ hw),rfl,rfl⟩,?_⟩
 rcases (kr.mono g02.g).val (k:=k) with ⟨q1,q2⟩ | ⟨v,q1,q2⟩
 ·obtain ⟨G3,g3,l3,r3⟩:=held g2 l2 o2 (d:=.lst []) rfl
  rw [q1]
  refine h _ G3 H2 (g1.trans g3) l3 ?_
  rw [q2]
  exact r3
 ·rw [q1]
  exact h _ G2 H2 g02 l2 q2
theorem zkL {f1 f2:FE} {k:Int} {g:D} (I:DI K G₀ H₀ env σ G H) (no:NoOwn env) (J:DicAt K σ G H d kvs) (hd0:H₀ d=none) (e1:f1 env=.ok (.pers (.int k))) (e2:f2 env=.ok (.fresh [g])) (hl:(yj kvs k).length+1≤100000) (hk:kvs.length<100000) {EN:Ends}
 (h:∀ G' H',Same G G'→DI K G₀ H₀ env σ G' H'→DicAt K σ G' H' d (kPut kvs k (yj kvs k++[g]))→EN.nx σ H') :
 zhM (tVar 3) (tE K G₀ H₀ f1) (tOp rCat (zch (tVar 3) (tE K G₀ H₀ f1) (tE K G₀ H₀ (fLst (hNil)))) (tE K G₀ H₀ f2)) EN σ H:=by
 unfold zhM tOp
 refine ziY I J e1 fun x G1 H1 g1 l1 r1 => ?_
 have I1:=I.grow g1 l1
 have J1:=J.grow g1
 refine ⟨env,G1,_,I1,e2,fun u G2 H2 g2 l2 o2 => ?_⟩
 obtain ⟨b,zs,rfl,hb0,hb,hbg,rz⟩:=o2
 obtain ⟨l,xs,rfl,gl,rx⟩:=r1.mono g2.g
 have I2:=I1.grow g2 l2
 have J2:=J1.grow g2
 refine ⟨l,b,xs,zs,rfl,rfl,l2 _ _ gl,hb,zae (by
  have h1:=rx.length
  have h2:=rz.length
  simp only [List.length_cons,List.length_nil] at h2
  lia),fun p hp => ?_⟩
 have gp:=Grow.laidT (o:=.lst (xs++zs)) l2 hp
 have I3:=I2.grow gp.1 gp.2
 have J3:=J2.grow gp.1
 have r3:Rep K (upd G2 p (.lst (xs++zs))) (.lst (yj kvs k++[g])) (.ref p):=⟨p,xs++zs,rfl,zX,(rx.append rz).mono gp.1.g⟩
 refine ⟨.ref d,J3.at_,env,_,_,I3,e1,fun y G4 H4 g4 l4 o4 => ?_⟩
 cases (show y=.int k from o4)
 have I4:=I3.grow g4 l4
 have J4:=J3.grow g4
 obtain ⟨ws,hw,kr⟩:=J4.hp
 have hlen:=kr.len
 refine ⟨d,_,rfl,.inl ⟨ws,Sum.inl k,hw,rfl,by rw [sizeLine_eq]; lia,rfl⟩,h G4 _ (((g1.g.trans g2.g).trans gp.1.g).trans g4.g) (I4.other no J4.gn hd0) ⟨J4.at_,J4.gn,_,zX,kr.put (r3.mono g4.g)⟩⟩
end
noncomputable abbrev Pq:=(D×Int×Int)×D
noncomputable def plq (q:Pq):D:=plD q.1 q.2
open Classical in
noncomputable def zaV (m:List D→Out Val):FS:=fun env=>if ∃ (P:List D) (qs:List Pq),env=[.pers (.lst P),.pers (.lst (qs.map (·.1.1))),.pers (.lst (qs.map plq)),.un,.un,.un,.un]∧qs.length≤40000∧P.length≤100000∧1≤P.length ∧
 ∀ j:Nat,1≤j→j+1<P.length→∃ o z n,P[j - 1]?=some o∧P[j]?=some z∧P[j+1]?=some n∧m [o,z,n,.lst ((qs.filter fun q=>decide (q.1.2.1=(j:Int))&&decide (q.1.2.2=0)).map (·.1.1))]=.ok (.pers (.bl true)) then .ok (.ret (.pers (.bl true))) else .bad
@[reducible] noncomputable def f50:FE:=f2 gIx (fVar 5) (fC (.int 0))
@[reducible] noncomputable def zlx (K:PySem.W.Frag) (G₀ H₀:Hp):TS:=tFor (tI K G₀ H₀ (zj4 (fVar 1) (fVar 2))) (gTup K 2 (zj2 (zfr 4) (zj2 (zfr 5) gNil)))
  (tIfS (tT K G₀ H₀ (fTrB (f2 gEq (f2 gIx (fVar 5) (fC (.int 1))) (fC (.int 0))))) (zhM (tVar 3) (tE K G₀ H₀ f50) (tOp rCat (zch (tVar 3) (tE K G₀ H₀ f50) (tE K G₀ H₀ (fLst (hNil)))) (tE K G₀ H₀ (fLst (zB (fVar 4) (hNil)))))) zjf)
@[reducible] noncomputable def ask2 (K:PySem.W.Frag) (G₀ H₀:Hp) (m:List D→Out Val):TS:=tFor (tI K G₀ H₀ (zbR (zl (fC (.int 1)) (zl (f2 gSub (fB gLen (zl (fVar 0) (fNil))) (fC (.int 1))) (fNil))))) (zfr 6)
  (tIfS (tNot (tB (zjg (spD K m 4) [] E0 (zfc (tE K G₀ H₀ (f2 gIx (fVar 0) (f2 gSub (fVar 6) (fC (.int 1))))) (zfc (tE K G₀ H₀ (f2 gIx (fVar 0) (fVar 6))) (zfc (tE K G₀ H₀ (f2 gIx (fVar 0) (f2 gAdd (fVar 6) (fC (.int 1))))) (zfc (zch (tVar 3) (tE K G₀ H₀ (fVar 6)) (tE K G₀ H₀ (fLst (hNil)))) tNil))))))) (tRet (tE K G₀ H₀ (fC (.bl false)))) zjf)
noncomputable def zky (K:PySem.W.Frag) (G₀ H₀:Hp) (m:List D→Out Val):TS:=tSeq (tAsg ziF (zfr 3)) (tSeq (zlx K G₀ H₀) (tSeq (ask2 K G₀ H₀ m) (tRet (tE K G₀ H₀ (fC (.bl true))))))
theorem ziw:∀ qs:List Pq,tL (qs.map (·.1.1)) (qs.map plq)=qs.map fun q=>.tup [q.1.1,plq q]
 | []=>rfl
 | q::qs=>by
   have:=ziw qs
   simp only [List.map_cons,tL,this]
theorem at_ix {xs:List D} {k:Nat} {x:D} (h:xs[k]?=some x):atI xs (k:Int)=some x:=by
 unfold atI ixN
 have hk:=(List.getElem?_eq_some_iff.mp h).1
 rw [if_pos (by lia),if_pos (by lia)]
 simpa using h
section
variable {K:PySem.W.Frag} {G₀ H₀:Hp}
theorem zj3 {P:List D} {qs:List Pq} {σ:St} {G H:Hp} {d:Addr} (I:DI K G₀ H₀ [.pers (.lst P),.pers (.lst (qs.map (·.1.1))),.pers (.lst (qs.map plq)),.un,.un,.un,.un] σ G H) (J:DicAt K σ G H d []) (hd0:H₀ d=none) (hq:qs.length≤40000) {EN:Ends}
 (h:∀ σ' G' H' s4 s5,DI K G₀ H₀ [.pers (.lst P),.pers (.lst (qs.map (·.1.1))),.pers (.lst (qs.map plq)),.un,s4,s5,.un] σ' G' H'→NoOwn [.pers (.lst P),.pers (.lst (qs.map (·.1.1))),.pers (.lst (qs.map plq)),.un,s4,s5,.un]→DicAt K σ' G' H' d (wG (qs.map (·.1)))→EN.nx σ' H'):zlx K G₀ H₀ EN σ H:=by
 have hz:zj4 (fVar 1) (fVar 2) [.pers (.lst P),.pers (.lst (qs.map (·.1.1))),.pers (.lst (qs.map plq)),.un,.un,.un,.un]=.ok (qs.map fun q=>.tup [q.1.1,plq q]):=by
  rw [←ziw]
  rfl
 refine ⟨_,G,_,I,hz,fun It G1 H1 g1 l1 jok => ?_⟩
 have nw:∀ {x y:D},NoOwn [.pers (.lst P),.pers (.lst (qs.map (·.1.1))),.pers (.lst (qs.map plq)),.un,.pers x,.pers y,.un]:=fun {x y} i ds e=>by
  match i,e with
  | 0,e=>cases e
  | 1,e=>cases e
  | 2,e=>cases e
  | 3,e=>cases e
  | 4,e=>cases e
  | 5,e=>cases e
  | 6,e=>cases e
  | i+7,e=>simp at e
 refine ⟨fun i m σ' H'=>m=qs.length - i∧i≤qs.length∧∃ G' s4 s5,Same G1 G'∧DI K G₀ H₀ [.pers (.lst P),.pers (.lst (qs.map (·.1.1))),.pers (.lst (qs.map plq)),.un,s4,s5,.un] σ' G' H'∧NoOwn [.pers (.lst P),.pers (.lst (qs.map (·.1.1))),.pers (.lst (qs.map plq)),.un,s4,s5,.un]∧DicAt K σ' G' H' d (wG ((qs.take i).map (·.1)))∧(wG ((qs.take i).map (·.1))).length≤i,⟨qs.length,by simp,Nat.zero_le _,G1,.un,.un,Same.refl _,I.grow g1 l1,fun i ds e=>by
  match i,e with
  | 0,e=>cases e
  | 1,e=>cases e
  | 2,e=>cases e
  | 3,e=>cases e
  | 4,e=>cases e
  | 5,e=>cases e
  | 6,e=>cases e
  | i+7,e=>simp at e,J.grow g1,Nat.zero_le _⟩,?_⟩
 rintro i m σ' H' ⟨rfl,hi,G',s4,s5,s',I',no,J',hkl⟩
 by_cases hlt:i<qs.length
 ·refine .inr ⟨jok.go i G' H' s' I'.le (by rw [List.length_map]; exact hlt),fun σ2 H2=>∃ G2 s4 s5,Same G1 G2∧DI K G₀ H₀ [.pers (.lst P),.pers (.lst (qs.map (·.1.1))),.pers (.lst (qs.map plq)),.un,s4,s5,.un] σ2 G2 H2∧NoOwn [.pers (.lst P),.pers (.lst (qs.map (·.1.1))),.pers (.lst (qs.map plq)),.un,s4,s5,.un]∧DicAt K σ2 G2 H2 d (wG ((qs.take (i+1)).map (·.1)))∧(wG ((qs.take (i+1)).map (·.1))).length≤i+1,fun σ2 H2 a=>⟨qs.length - (i+1),by lia,rfl,hlt,a⟩,fun x H2 y => ?_⟩
  obtain ⟨dd,G2,e1,g2,l2,r2⟩:=jok.yld i G' H' x H2 s' I'.le (by rw [List.length_map]; exact hlt) y
  rw [List.getElem?_map,List.getElem?_eq_getElem hlt] at e1
  obtain rfl:.tup [qs[i].1.1,plq qs[i]]=dd:=by simpa using e1
  have ht:(qs.take (i+1)).map (·.1)=(qs.take i).map (·.1)++[qs[i].1]:=by rw [List.take_succ_eq_append_getElem hlt,List.map_append]; rfl
  generalize hqi:qs[i]=q at r2 ht
  obtain ⟨a,vs,rfl,ga,rv⟩:=r2
  obtain ⟨vg,r',rfl,rg,rv⟩:=rv
  obtain ⟨vp,r'',rfl,rp,rv⟩:=rv
  cases (show r''=[] from rv)
  refine ⟨a,[vg,vp],rfl,SqT.of (l2 _ _ ga),rfl,vg,[vp],rfl,vp,[],rfl,rfl,?_⟩
  have I2:DI K G₀ H₀ [.pers (.lst P),.pers (.lst (qs.map (·.1.1))),.pers (.lst (qs.map plq)),.un,.pers q.1.1,.pers (plq q),.un] ((σ'.set 4 (some vg)).set 5 (some vp)) G2 H2:=((I'.grow g2 l2).setP 4 rg).setP 5 rp
  have J2:DicAt K ((σ'.set 4 (some vg)).set 5 (some vp)) G2 H2 d (wG ((qs.take i).map (·.1))):=by
   have:=J'.grow g2
   exact ⟨by rw [List.getElem?_set_ne (by lia),List.getElem?_set_ne (by lia)]; exact this.at_,this.gn,this.hp⟩
  refine ⟨_,G2,decide (q.1.2.2=0),I2,?_,fun G3 H3 g3 l3 => ?_⟩
  ·show Out.ok (q.1.2.2 == 0)=_
   rfl
  have I3:=I2.grow g3 l3
  have J3:=J2.grow g3
  have ss:Same G1 G3:=(s'.trans g2.g).trans g3.g
  have fs:wG ((qs.take (i+1)).map (·.1))=zaQ (wG ((qs.take i).map (·.1))) q.1:=by rw [ht,zfo]
  have fl:=zgK (wG ((qs.take i).map (·.1))) q.1
  by_cases f0:q.1.2.2=0
  ·rw [decide_eq_true f0]
   dsimp only
   rw [if_pos rfl]
   have ll:(yj (wG ((qs.take i).map (·.1))) q.1.2.1).length+1≤100000:=by
    rw [zbb,List.length_map]
    have h1:=List.length_filter_le (fun q':D×Int×Int=>decide (q'.2.1=q.1.2.1)&&decide (q'.2.2=0)) ((qs.take i).map (·.1))
    rw [List.length_map,List.length_take] at h1
    lia
   refine zkL I3 nw J3 hd0 (k:=q.1.2.1) (g:=q.1.1) rfl rfl ll (by lia) fun G4 H4 s4' I4 J4 => ?_
   refine ⟨G4,_,_,ss.trans s4',I4,nw,?_,by rw [fs]; lia⟩
   rw [fs]
   unfold zaQ
   rw [if_pos f0]
   exact J4
  ·rw [decide_eq_false f0]
   dsimp only
   rw [if_neg (by decide)]
   refine ⟨G3,_,_,ss,I3,nw,?_,by rw [fs]; lia⟩
   rw [fs]
   unfold zaQ
   rw [if_neg f0]
   exact J3
 ·have hie:i=qs.length:=by lia
  subst hie
  rw [List.take_of_length_le (Nat.le_refl _)] at J'
  exact .inl ⟨jok.stop _ G' H' s' I'.le (by rw [List.length_map]; exact Nat.le_refl _),h σ' G' H' s4 s5 I' no J'⟩
theorem zlO {m:List D→Out Val} {P:List D} {qs:List Pq} {σ:St} {G H:Hp} {d:Addr} {s4 s5:Slot} (I:DI K G₀ H₀ [.pers (.lst P),.pers (.lst (qs.map (·.1.1))),.pers (.lst (qs.map plq)),.un,s4,s5,.un] σ G H) (J:DicAt K σ G H d (wG (qs.map (·.1)))) (hP:P.length≤100000) (hP1:1≤P.length)
 (hm:∀ j:Nat,1≤j→j+1<P.length→∃ o z n,P[j - 1]?=some o∧P[j]?=some z∧P[j+1]?=some n∧m [o,z,n,.lst ((qs.filter fun q=>decide (q.1.2.1=(j:Int))&&decide (q.1.2.2=0)).map (·.1.1))]=.ok (.pers (.bl true))) {EN:Ends}
 (h:∀ σ' G' H' s6,DI K G₀ H₀ [.pers (.lst P),.pers (.lst (qs.map (·.1.1))),.pers (.lst (qs.map plq)),.un,s4,s5,s6] σ' G' H'→EN.nx σ' H'):ask2 K G₀ H₀ m EN σ H:=by
 have hr:zbR (zl (fC (.int 1)) (zl (f2 gSub (fB gLen (zl (fVar 0) (fNil))) (fC (.int 1))) (fNil))) [.pers (.lst P),.pers (.lst (qs.map (·.1.1))),.pers (.lst (qs.map plq)),.un,s4,s5,.un]=.ok (rngD 1 (P.length - 2)):=by
  show (if -1000000≤(1:Int)∧(1:Int)≤1000000 ∧ -1000000≤(P.length:Int) - 1∧(P.length:Int) - 1≤1000000 then Out.ok (rngD 1 ((P.length:Int) - 1 - 1).toNat) else .bad)=_
  rw [if_pos (by lia)]
  congr 2
  lia
 refine ⟨_,G,_,I,hr,fun It G1 H1 g1 l1 jok => ?_⟩
 have rl:(rngD 1 (P.length - 2)).length=P.length - 2:=by simp [rngD]
 refine ⟨fun i mm σ' H'=>mm=P.length - 2 - i∧i≤P.length - 2∧∃ G' s6,Same G1 G'∧DI K G₀ H₀ [.pers (.lst P),.pers (.lst (qs.map (·.1.1))),.pers (.lst (qs.map plq)),.un,s4,s5,s6] σ' G' H'∧DicAt K σ' G' H' d (wG (qs.map (·.1))),⟨P.length - 2,by simp,Nat.zero_le _,G1,.un,Same.refl _,I.grow g1 l1,J.grow g1⟩,?_⟩
 rintro i mm σ' H' ⟨rfl,hi,G',s6,s',I',J'⟩
 by_cases hlt:i<P.length - 2
 ·refine .inr ⟨jok.go i G' H' s' I'.le (by rw [rl]; exact hlt),fun σ2 H2=>∃ G2 s6,Same G1 G2∧DI K G₀ H₀ [.pers (.lst P),.pers (.lst (qs.map (·.1.1))),.pers (.lst (qs.map plq)),.un,s4,s5,s6] σ2 G2 H2∧DicAt K σ2 G2 H2 d (wG (qs.map (·.1))),fun σ2 H2 a=>⟨P.length - 2 - (i+1),by lia,rfl,by lia,a⟩,fun x H2 y => ?_⟩
  obtain ⟨dd,G2,e1,g2,l2,r2⟩:=jok.yld i G' H' x H2 s' I'.le (by rw [rl]; exact hlt) y
  have ed:dd=.int ((i+1:Nat):Int):=by
   simp [rngD,hlt] at e1
   rw [←e1]
   congr 1
   lia
  subst ed
  cases (show x=.int ((i+1:Nat):Int) from r2)
  have I2:DI K G₀ H₀ [.pers (.lst P),.pers (.lst (qs.map (·.1.1))),.pers (.lst (qs.map plq)),.un,s4,s5,.pers (.int ((i+1:Nat):Int))] (σ'.set 6 (some (.int ((i+1:Nat):Int)))) G2 H2:=(I'.grow g2 l2).setP 6 r2
  have J2:DicAt K (σ'.set 6 (some (.int ((i+1:Nat):Int)))) G2 H2 d (wG (qs.map (·.1))):=by
   have:=J'.grow g2
   exact ⟨by rw [List.getElem?_set_ne (by lia)]; exact this.at_,this.gn,this.hp⟩
  obtain ⟨o,z,n,ho,hz,hn,hmm⟩:=hm (i+1) (by lia) (by lia)
  have ix:∀ {k:Int} {j:Nat} {w:D},k=j→P[j]?=some w→gIx (.lst P) (.int k)=.ok (.pers w):=fun {k j w} ek hw=>by
   rw [ek]
   show (match atI P (j:Int) with | some d=>Out.ok (Val.pers d) | none=>.bad)=_
   rw [at_ix hw]
  refine ⟨_,G2,.pers o,I2,ix (by show ((i+1:Nat):Int) - 1=((i+1 - 1:Nat):Int); lia) ho,fun v1 G3 H3 g3 l3 o3 => ?_⟩
  have I3:=I2.grow g3 l3
  refine ⟨_,G3,.pers z,I3,ix rfl hz,fun v2 G4 H4 g4 l4 o4 => ?_⟩
  have I4:=I3.grow g4 l4
  refine ⟨_,G4,.pers n,I4,ix (j:=i+1+1) (by show ((i+1:Nat):Int)+1=((i+1+1:Nat):Int); lia) hn,fun v3 G5 H5 g5 l5 o5 => ?_⟩
  have I5:=I4.grow g5 l5
  refine ziY I5 (((J2.grow g3).grow g4).grow g5) (k:=((i+1:Nat):Int)) rfl fun v4 G6 H6 g6 l6 r6 => ?_
  have I6:=I5.grow g6 l6
  rw [zbb] at r6
  have r6':Rep K G6 (.lst ((qs.filter fun q=>decide (q.1.2.1=((i+1:Nat):Int))&&decide (q.1.2.2=0)).map (·.1.1))) v4:=by
   rw [List.filter_map,List.map_map] at r6
   exact r6
  refine ⟨G6,_,_,rfl,l6,RepL.cons (((show Rep K G3 o v1 from o3).mono ((g4.trans g5).trans g6).g)) (RepL.cons ((show Rep K G4 z v2 from o4).mono (g5.trans g6).g) (RepL.cons ((show Rep K G5 n v3 from o5).mono g6.g) (RepL.cons r6' RepL.nil))),hmm,fun v G7 H7 g7 l7 o7 => ?_⟩
  cases (show v=.bl true from o7)
  refine ⟨true,rfl,?_⟩
  show (if (!true)=true then _ else _)
  rw [if_neg (by decide)]
  exact ⟨G7,_,((s'.trans g2.g).trans (((g3.trans g4).trans g5).trans g6).g).trans g7.g,I6.grow g7 l7,((((J2.grow g3).grow g4).grow g5).grow g6).grow g7⟩
 ·have hie:i=P.length - 2:=by lia
  subst hie
  exact .inl ⟨jok.stop _ G' H' s' I'.le (by rw [rl]; exact Nat.le_refl _),h σ' G' H' s6 I'⟩
theorem zfb {m:List D→Out Val} {EN:Ends} {σ:St} {Hs:Hp} (q:tS K G₀ H₀ (zaV m) EN σ Hs):zky K G₀ H₀ m EN σ Hs:=by
 obtain ⟨env,G,r,I,e,k⟩:=q
 unfold zaV at e
 split at e
 rotate_left
 ·cases e
 rename_i hc
 cases e
 obtain ⟨P,qs,rfl,hq,hP,hP1,hm⟩:=hc
 intro d hd
 have hg:G d=none:=uR I.le hd
 have h0:H₀ d=none:=uR I.gr.h hd
 have hl:=I.len
 have I1:DI K G₀ H₀ [.pers (.lst P),.pers (.lst (qs.map (·.1.1))),.pers (.lst (qs.map plq)),.un,.un,.un,.un] (σ.set 3 (some (.ref d))) G (upd Hs d (.dK [])):=by
  have no:NoOwn [.pers (.lst P),.pers (.lst (qs.map (·.1.1))),.pers (.lst (qs.map plq)),.un,.un,.un,.un]:=fun i ds e=>by
   match i,e with
   | 0,e=>cases e
   | 1,e=>cases e
   | 2,e=>cases e
   | 3,e=>cases e
   | 4,e=>cases e
   | 5,e=>cases e
   | 6,e=>cases e
   | i+7,e=>simp at e
  have I0:=I.other no (o:=.dK []) hg h0
  refine ⟨I0.le,I0.gr,by rw [List.length_set]; exact I0.len,fun i s e => ?_,fun i j ds es a hij e1=>absurd e1 (no i ds)⟩
  have:=I0.slot i s e
  by_cases hi:3=i
  ·subst hi
   cases e
   trivial
  ·cases s with
   | un=>trivial
   | pers d'=>obtain ⟨u,a1,a2⟩:=this; exact ⟨u,by rw [List.getElem?_set_ne hi]; exact a1,a2⟩
   | own ds=>exact absurd e (no i ds)
 refine zj3 I1 ⟨by rw [List.getElem?_set]; simp at hl ⊢; lia,hg,[],zX,rfl⟩ h0 hq fun σ2 G2 H2 s4 s5 I2 no2 J2 => ?_
 refine zlO I2 J2 hP hP1 hm fun σ3 G3 H3 s6 I3 => ?_
 refine ⟨_,G3,.pers (.bl true),I3,rfl,fun v G4 H4 g4 l4 o4 => ?_⟩
 exact k v G4 H4 (I3.gr.trans g4) l4 o4
end
theorem hu1 {A:Around} {k:Nat} (hr:Room k A):A.units+1<cLine:=by have:=hr.units; lia
theorem zg4 {X:Cx} {G₀ H₀:Hp} {body:List Stmt} {m:List D→Out Val} (h:PSs X body (zky X.K G₀ H₀ m)):DSs X G₀ H₀ body (zaV m):=fun pins s σ H D I q=>h pins s σ H D I (zfb q)
theorem zjA {X:Cx} {k:Nat} {x p1 p2 p3 p4:Str} {m:List D→Out Val} {p pos:Pos} {e:Expr} {es:List Expr} {t:TA} (C:Cal X.prog X.w X.K X.mg X.base k x [p1,p2,p3,p4] m) (hr:Room k X.A) (ha:PA X (e::es) t)
 (hg:Gl X x:=by rfl) (hdb:(x == ("__debug__" : Str))=false:=by decide) (he:starEach (e::es) X.env=(false,eval e X.env)::starEach es X.env:=by rfl) (hpl:(backTo pos (starEach es X.env)).any (·.1)=false:=by rfl) :
 PE X (.Call (.Name x p) (e::es) [] pos) (zjg (spD X.K m 4) [] E0 t):=by
 obtain ⟨f,fd,F,hm,hk,hb⟩:=C.ex
 exact zgl F hr hg hm hk hb .nil zk0 ha hdb he hpl
end DL
namespace My
open PySem PySem.Spec PyProof.Rows L2 DL
theorem zi4 {α:Type} (xs:List α) (i:Int) (h:0≤i):atI xs i=xs[i.toNat]?:=by
 unfold atI ixN
 rw [if_pos h]
 split
 ·rfl
 ·rename_i h2
  rw [List.getElem?_eq_none (by lia)]
  rfl
theorem ze2 {α:Type} (xs:List α):atI xs (-1)=xs[xs.length - 1]?:=by
 unfold atI ixN
 by_cases h:xs.length=0
 ·have:xs=[]:=List.eq_nil_of_length_eq_zero h
  subst this
  simp
 ·rw [if_neg (by lia),if_pos (by lia)]
  show xs[(-1+(xs.length:Int)).toNat]?=_
  congr 1
  lia
theorem v8 {i j:Int} (h1 : -(2^64)<i) (h2:i<2^64):cMul i j=true:=by
 unfold cMul tR
 rw [decide_eq_true h1,decide_eq_true h2]
 rfl
theorem wp {i j:Int} (h1 : -(2^64)<j) (h2:j<2^64):cMul i j=true:=by
 unfold cMul tR
 rw [decide_eq_true h1,decide_eq_true h2]
 simp
theorem zkg {i j:Int} (h1:0<j) (h2:j<2^250):cDiv i j=true:=by
 unfold cDiv
 rw [decide_eq_true h1,decide_eq_true h2]
 rfl
@[simp] theorem zkf (j:Int) (h1:0≤j) (h2:j≤1000000):cPow 10 j=true:=by
  unfold cPow
  rw [decide_eq_true h1,decide_eq_true h2]
  decide
@[simp] theorem zar (i j:Int):eqD (.int i) (.int j)=(i == j):=rfl
@[simp] theorem eqD_nn:eqD .non .non=true:=rfl
@[simp] theorem eqD_ni (i:Int):eqD .non (.int i)=false:=rfl
@[simp] theorem eqD_in (i:Int):eqD (.int i) .non=false:=rfl
@[simp] theorem eqD_bb (a b:Bool):eqD (.bl a) (.bl b)=(a == b):=rfl
@[simp] theorem zhK (n:Nat) (i:Int):shal n (.int i)=true:=by cases n <;> rfl
@[simp] theorem shal_non (n:Nat):shal n .non=true:=by cases n <;> rfl
@[simp] theorem shal_bl (n:Nat) (b:Bool):shal n (.bl b)=true:=by cases n <;> rfl
@[simp] theorem shal_tup (n:Nat) (ds:List D):shal (n+1) (.tup ds)=ds.all (shal n):=rfl
@[simp] theorem zee (n:Nat) (ds:List D):shal (n+1) (.lst ds)=ds.all (shal n):=rfl
theorem zgY (xs ys:List D):eqD (.tup xs) (.tup ys)=eqDL xs ys:=by simp only [eqD,eqDL,toPy,PyData.eqv]
theorem zdF (xs ys:List D):eqD (.lst xs) (.lst ys)=eqDL xs ys:=by simp only [eqD,eqDL,toPy,PyData.eqv]
theorem zbU:eqDL [] []=true:=by simp only [eqDL,xC,PyData.eqvAll]
theorem xM (x y:D) (xs ys:List D):eqDL (x::xs) (y::ys)=(eqD x y&&eqDL xs ys):=by simp only [eqDL,eqD,xC,PyData.eqvAll]
theorem zj6 (y:D) (ys:List D):eqDL [] (y::ys)=false:=by simp only [eqDL,xC,PyData.eqvAll]
theorem zgZ (y:D) (ys:List D):eqDL (y::ys) []=false:=by simp only [eqDL,xC,PyData.eqvAll]
theorem zbV {α:Type} [DecidableEq α] (f:α→D) (h:∀ x y,eqD (f x) (f y)=decide (x=y)):∀ xs ys:List α,eqDL (xs.map f) (ys.map f)=decide (xs=ys)
 | [],[]=>by simp [zbU]
 | [],y::ys=>by simp [zj6]
 | x::xs,[]=>by simp [zgZ]
 | x::xs,y::ys=>by
   rw [List.map_cons,List.map_cons,xM,h,zbV f h xs ys]
   by_cases h1:x=y <;> by_cases h2:xs=ys <;> simp [h1,h2]
theorem vV {g:D→Ev→Out Ev} {fb:FS} (P:Nat→Ev→Prop):∀ (ds:List D) (i:Nat) (env:Ev),P i env →
 (∀ (j:Nat) (d:D) (env:Ev),i≤j→ds[j - i]?=some d→P j env→∃ env1 env2,g d env=.ok env1∧fb env1=.ok (.next env2)∧P (j+1) env2) →
 ∃ env',forD g fb ds env=.ok (.next env')∧P (i+ds.length) env'
 | [],i,env,h,_=>⟨env,rfl,h⟩
 | d::ds,i,env,h,step=>by
   obtain ⟨env1,env2,e1,e2,h2⟩:=step i d env (Nat.le_refl _) (by simp) h
   obtain ⟨env',e3,h3⟩:=vV P ds (i+1) env2 h2 fun j d' env hj hd hp=>step j d' env (by lia) (by
    have:j - i=(j - (i+1))+1:=by lia
    rw [this]; simpa using hd) hp
   refine ⟨env',?_,?_⟩
   ·simp only [forD,e1,zm,e2]
    exact e3
   ·have:i+(d::ds).length=i+1+ds.length:=by simp; lia
    rw [this]; exact h3
theorem zde {lo:Int} {n j:Nat} {d:D} (h:(rngD lo n)[j]?=some d):j<n∧d=.int (lo+j):=by
 have hj:j<n:=by
  have:=(List.getElem?_eq_some_iff.mp h).1
  simpa [rngD] using this
 refine ⟨hj,?_⟩
 simp [rngD,hj] at h
 exact h.symm
@[simp] theorem zbE (lo:Int) (n:Nat):(rngD lo n).length=n:=by simp [rngD]
theorem wn {α:Type} {g:D→Ev→Out Ev} {ft:FT} {fe:FE} (P:Ev→Prop) (f:α→D) (h:α→Option D):∀ (xs:List α) (env:Ev),P env →
 (∀ x env,x∈xs→P env→∃ env1,g (f x) env=.ok env1∧P env1∧((h x=none∧ft env1=.ok false)∨∃ y v,h x=some y∧ft env1=.ok true∧fe env1=.ok v∧v.hold=.ok y)) →
 compD g ft fe (xs.map f) env=.ok (xs.filterMap h)
 | [],env,_,_=>rfl
 | x::xs,env,hp,step=>by
   obtain ⟨env1,e1,p1,r⟩:=step x env (by simp) hp
   have ih:=wn P f h xs env1 p1 fun x env hx=>step x env (by simp [hx])
   rcases r with ⟨h1,h2⟩ | ⟨y,v,h1,h2,h3,h4⟩
   ·simp only [List.map_cons,compD,e1,zm,h2,List.filterMap_cons,h1]
    exact ih
   ·simp only [List.map_cons,compD,e1,zm,h2,List.filterMap_cons,h1,if_true,h3,h4,ih]
theorem zbT (p q:Int×Int):eqD (zf p) (zf q)=decide (p=q):=by
 unfold zf
 rw [zgY,xM,xM,zbU,zar,zar]
 obtain ⟨a,b⟩:=p
 obtain ⟨c,d⟩:=q
 by_cases h1:a=c <;> by_cases h2:b=d <;> simp [h1,h2]
theorem ze3 (p:Int×Int):∀ ps:List (Int×Int),(ps.map zf).any (fun z=>eqD z (zf p))=decide (p∈ps)
 | []=>by simp
 | q::ps=>by
   rw [List.map_cons,List.any_cons,ze3 p ps,zbT]
   by_cases h1:q=p
   ·simp [h1]
   ·have:¬ p=q:=fun h=>h1 h.symm
    simp [h1,this]
theorem vF (n:Nat) (p:Int×Int):shal (n+1) (zf p)=true:=by simp [zf]
theorem cut_take (l:List D) (i:Int) (n:Nat) (hi:i=n):cutD l none (some i)=l.take n:=by
 subst hi
 show (l.drop 0).take ((if (n:Int)<0 then ((n:Int)+(l.length:Int)).toNat else min (n:Int).toNat l.length) - 0)=l.take n
 rw [if_neg (by lia),Int.toNat_natCast,List.drop_zero,Nat.sub_zero]
 by_cases h:n≤l.length
 ·rw [Nat.min_eq_left h]
 ·rw [Nat.min_eq_right (by lia),List.take_of_length_le (Nat.le_refl _),List.take_of_length_le (by lia)]
theorem zbX (l:List D) (i:Int) (n:Nat) (hi:i=n):cutD l (some i) none=l.drop n:=by
 subst hi
 show (l.drop (if (n:Int)<0 then ((n:Int)+(l.length:Int)).toNat else min (n:Int).toNat l.length)).take (l.length - (if (n:Int)<0 then ((n:Int)+(l.length:Int)).toNat else min (n:Int).toNat l.length))=l.drop n
 rw [if_neg (by lia),Int.toNat_natCast,List.take_of_length_le (by rw [List.length_drop]; exact Nat.le_refl _)]
 by_cases h:n≤l.length
 ·rw [Nat.min_eq_left h]
 ·rw [Nat.min_eq_right (by lia),List.drop_of_length_le (Nat.le_refl _),List.drop_of_length_le (by lia)]
end My
namespace My
open PySem PySem.Spec PyProof.Rows L2 DL
structure Gate where
 x:Int
 lo:Option Int
 hi:Option Int
 w:Int
deriving DecidableEq
noncomputable def optD:Option Int→D
 | none=>.non
 | some i=>.int i
noncomputable def zi (g:Gate):D:=.tup [.int g.x,optD g.lo,optD g.hi,.int g.w]
theorem zgX (a b:Option Int):eqD (optD a) (optD b)=decide (a=b):=by
 cases a with
 | none=>cases b <;> simp [optD]
 | some i =>
   cases b with
   | none=>simp [optD]
   | some j=>by_cases h:i=j <;> simp [optD,h]
theorem zed (n:Nat) (a:Option Int):shal n (optD a)=true:=by cases a <;> simp [optD]
theorem zj5 (g h:Gate):eqD (zi g) (zi h)=decide (g=h):=by
 unfold zi
 rw [zgY,xM,xM,xM,xM,zbU,zar,zar,zgX,zgX]
 obtain ⟨a,b,c,d⟩:=g
 obtain ⟨a',b',c',d'⟩:=h
 by_cases h1:a=a' <;> by_cases h2:b=b' <;> by_cases h3:c=c' <;> by_cases h4:d=d' <;> simp [h1,h2,h3,h4]
theorem zfW (n:Nat) (g:Gate):shal (n+1) (zi g)=true:=by simp [zi,zed]
theorem zfe (n:Nat) (gs:List Gate):shal (n+2) (.lst (gs.map zi))=true:=by
 rw [zee,List.all_map,List.all_eq_true]
 intro g _
 exact zfW n g
noncomputable def zkm:D→Option (Option Int)
 | .non=>some none
 | .int i=>some (some i)
 | _=>none
noncomputable def zht:D→Option Gate
 | .tup [.int x,lo,hi,.int w]=>match zkm lo,zkm hi with
   | some l,some h=>some ⟨x,l,h,w⟩
   | _,_=>none
 | _=>none
theorem zhs (a:Option Int):zkm (optD a)=some a:=by cases a <;> rfl
theorem zdU (g:Gate):zht (zi g)=some g:=by
 simp [zht,zi,zhs]
noncomputable def zdT:List D→Option (List Gate)
 | []=>some []
 | d::ds=>match zht d,zdT ds with
   | some g,some gs=>some (g::gs)
   | _,_=>none
theorem zdS:∀ gs:List Gate,zdT (gs.map zi)=some gs
 | []=>rfl
 | g::gs=>by simp [zdT,zdU,zdS gs]
theorem zj {f g:FS} {env env':Ev} (h:f env=.ok (.next env')):seqS f g env=g env':=by
 simp only [seqS,h,zm]
theorem yJ {f g:FS} {env:Ev} {v:Val} (h:f env=.ok (.ret v)):seqS f g env=.ok (.ret v):=by
 simp only [seqS,h,zm]
noncomputable def Path (n:Nat):Int→List Gate→Prop
 | h,[]=>0≤h∧h≤n
 | h,g::gs=>0≤h∧h≤n∧Path n (h+g.w) gs
noncomputable abbrev Spot:=Int×Int
noncomputable def near (a b:Spot):Prop := -(2^64)<b.1 - a.1∧b.1 - a.1<2^64
theorem at0 (p:Spot):atI [D.int p.1,D.int p.2] 0=some (.int p.1):=rfl
theorem at1 (p:Spot):atI [D.int p.1,D.int p.2] 1=some (.int p.2):=rfl
noncomputable def strD (q:Spot×Spot):D:=.tup [zf q.1,zf q.2]
noncomputable def yZ (a b p:Spot):Int:=(b.1 - a.1)*(p.2 - a.2) - (b.2 - a.2)*(p.1 - a.1)
noncomputable def yS (a b p:Spot):Int:=if 0<b.1 - a.1 then yZ a b p else -yZ a b p
theorem ats0 (q:Spot×Spot):atI [zf q.1,zf q.2] 0=some (zf q.1):=rfl
theorem ats1 (q:Spot×Spot):atI [zf q.1,zf q.2] 1=some (zf q.2):=rfl
theorem uV {α β:Type} (p:α→Bool) (f:α→β):∀ l:List α,l.filterMap (fun x=>if p x=true then some (f x) else none)=(l.filter p).map f
 | []=>rfl
 | x::l=>by
   cases h:p x <;> simp [List.filterMap_cons,List.filter_cons,h,uV p f l]
theorem zd9 (h:Int→Int) (a:Int):∀ n:Nat,∃ m:Nat,m≤n∧(∀ k:Nat,k≤n→h (a+k)≤h (a+m))∧(∀ k:Nat,k<m→h (a+k)<h (a+m))
 | 0=>⟨0,by lia,fun k hk=>by rw [show k=0 by lia]; exact Int.le_refl _,fun k hk=>by lia⟩
 | n+1=>by
   obtain ⟨m,h1,h2,h3⟩:=zd9 h a n
   by_cases hh:h (a+m)<h (a+(n+1:Nat))
   ·refine ⟨n+1,by lia,fun k hk => ?_,fun k hk => ?_⟩
    ·by_cases z:k≤n
     ·have:=h2 k z; lia
     ·rw [show k=n+1 by lia]; exact Int.le_refl _
    ·have:=h2 k (by lia); lia
   ·refine ⟨m,by lia,fun k hk => ?_,h3⟩
    by_cases z:k≤n
    ·exact h2 k z
    ·rw [show k=n+1 by lia]; lia
noncomputable def dd (F:Int→Int) (x:Int):Int:=F (x+1)+F (x - 1) - 2*F x
theorem cmp {F G:Int→Int} {a b:Int} (ha:F a≤G a) (hb:F b≤G b) (hf:∀ x,a<x→x<b→dd F x<0→F x≤G x) (hg:∀ x,a<x→x<b→0<dd G x→F x≤G x) {x:Int} (h1:a≤x) (h2:x≤b):F x≤G x:=by
 obtain ⟨m,e1,e2,e3⟩:=zd9 (fun x=>F x - G x) a (b - a).toNat
 have hx:=e2 (x - a).toNat (by lia)
 rw [show a+((x - a).toNat:Int)=x by lia] at hx
 by_cases z:F x≤G x
 ·exact z
 have hm:0<F (a+m) - G (a+m):=by lia
 have m0:m≠0:=by
  intro z
  subst z
  simp at hm
  lia
 have mb:a+m≠b:=by
  intro z
  rw [z] at hm
  lia
 have l:=e3 (m - 1) (by lia)
 rw [show a+((m - 1:Nat):Int)=a+m - 1 by lia] at l
 have r:=e2 (m+1) (by lia)
 rw [show a+((m+1:Nat):Int)=a+m+1 by lia] at r
 have k1:=hf (a+m) (by lia) (by lia)
 have k2:=hg (a+m) (by lia) (by lia)
 unfold dd at k1 k2
 lia
structure Curve (D:Int) (run:List Gate) (a b:Spot) (F:Int→Int):Prop where
 at_a:F a.1=D*a.2
 at_b:F b.1=D*b.2
 lo:∀ g∈run,a.1<g.x→g.x<b.1→∀ y,g.lo=some y→D*y≤F g.x
 hi:∀ g∈run,a.1<g.x→g.x<b.1→∀ y,g.hi=some y→F g.x≤D*y
 dn:∀ x,a.1<x→x<b.1→dd F x<0→∃ g∈run,g.x=x∧∃ y,g.lo=some y∧F x=D*y
 up:∀ x,a.1<x→x<b.1→0<dd F x→∃ g∈run,g.x=x∧∃ y,g.hi=some y∧F x=D*y
theorem Curve.below {D W:Int} {run:List Gate} {a b:Spot} {F A:Int→Int} (hW:0<W) (h:Curve D run a b F) (ha:W*(D*a.2)≤A a.1) (hb:W*(D*b.2)≤A b.1) (hA:∀ x,dd A x=0) (hl:∀ g∈run,a.1<g.x→g.x<b.1→∀ y,g.lo=some y→W*(D*y)≤A g.x) {x:Int} (h1:a.1≤x) (h2:x≤b.1):W*F x≤A x:=by
 refine cmp (F:=fun x=>W*F x) (G:=A) (a:=a.1) (b:=b.1) (by simp only [h.at_a]; exact ha) (by simp only [h.at_b]; exact hb) (fun x q1 q2 q => ?_) (fun x q1 q2 q => ?_) h1 h2
 ·have q':dd F x<0:=by
   have e:dd (fun x=>W*F x) x=W*dd F x:=by unfold dd; grind
   rw [e] at q
   by_cases z:dd F x<0
   ·exact z
   ·have:=Int.mul_nonneg (Int.le_of_lt hW) (Int.not_lt.mp z); lia
  obtain ⟨g,hg,rfl,y,e,e'⟩:=h.dn x q1 q2 q'
  simp only [e']
  exact hl g hg q1 q2 y e
 ·have:=hA x; lia
theorem Curve.above {D W:Int} {run:List Gate} {a b:Spot} {F A:Int→Int} (hW:0<W) (h:Curve D run a b F) (ha:A a.1≤W*(D*a.2)) (hb:A b.1≤W*(D*b.2)) (hA:∀ x,dd A x=0) (hl:∀ g∈run,a.1<g.x→g.x<b.1→∀ y,g.hi=some y→A g.x≤W*(D*y)) {x:Int} (h1:a.1≤x) (h2:x≤b.1):A x≤W*F x:=by
 refine cmp (G:=fun x=>W*F x) (F:=A) (a:=a.1) (b:=b.1) (by simp only [h.at_a]; exact ha) (by simp only [h.at_b]; exact hb) (fun x q1 q2 q => ?_) (fun x q1 q2 q => ?_) h1 h2
 ·have:=hA x; lia
 ·have q':0<dd F x:=by
   have e:dd (fun x=>W*F x) x=W*dd F x:=by unfold dd; grind
   rw [e] at q
   by_cases z:0<dd F x
   ·exact z
   ·have:=Int.mul_nonneg (Int.le_of_lt hW) (show 0 ≤ - dd F x by lia)
    rw [Int.mul_neg] at this; lia
  obtain ⟨g,hg,rfl,y,e,e'⟩:=h.up x q1 q2 q'
  simp only [e']
  exact hl g hg q1 q2 y e
noncomputable def bw (a b:Spot) (x:Int):Prop:=(a.1<x∧x<b.1)∨(b.1<x∧x<a.1)
noncomputable def Bey (a b:Spot) (g:Gate) (p:Spot) (d:Int):Prop:=p.1=g.x∧((g.lo=some p.2∧d=yS a b p)∨(g.hi=some p.2∧d = -yS a b p))
inductive Pul (run:List Gate):Spot→Spot→List Spot→Prop
 | stop {a b:Spot}:(∀ g∈run,bw a b g.x→∀ p d,Bey a b g p d→d≤0)→Pul run a b [b]
 | split {a b p:Spot} {d:Int} {g:Gate} {l1 l2:List Spot}:g∈run→bw a b g.x→Bey a b g p d→0<d→(∀ g'∈run,bw a b g'.x→∀ p' d',Bey a b g' p' d'→d'≤d)→Pul run a p l1→Pul run p b l2→Pul run a b (l1++l2)
noncomputable def Lin (D:Int) (F:Int→Int) (u v:Spot):Prop:=u.1<v.1∧F u.1=D*u.2∧F v.1=D*v.2∧∀ x,u.1<x→x<v.1→dd F x=0
noncomputable def Pth (D:Int) (F:Int→Int):Spot→List Spot→Spot→Prop
 | a,[],b=>a=b
 | a,v::r,b=>Lin D F a v∧Pth D F v r b
theorem Pth.app {D:Int} {F:Int→Int} {p b:Spot} {l2:List Spot} (h2:Pth D F p l2 b):∀ {l1:List Spot} {a:Spot},Pth D F a l1 p→Pth D F a (l1++l2) b
 | [],a,h=>by cases (show a=p from h); exact h2
 | v::r,a,h=>⟨h.1,Pth.app h2 h.2⟩
theorem Pth.le {D:Int} {F:Int→Int} {b:Spot}:∀ {l:List Spot} {a:Spot},Pth D F a l b→a.1≤b.1
 | [],a,h=>by cases (show a=b from h); exact Int.le_refl _
 | v::r,a,h=>by have:=Pth.le h.2; have:=h.1.1; lia
theorem Lin.congr {D:Int} {F F':Int→Int} {u v:Spot} (h:Lin D F u v) (e:∀ x,u.1≤x→x≤v.1→F' x=F x):Lin D F' u v:=by
 obtain ⟨h1,h2,h3,h4⟩:=h
 refine ⟨h1,by rw [e _ (by lia) (by lia),h2],by rw [e _ (by lia) (by lia),h3],fun x q1 q2 => ?_⟩
 have:=h4 x q1 q2
 unfold dd at this ⊢
 rw [e _ (by lia) (by lia),e _ (by lia) (by lia),e _ (by lia) (by lia)]
 exact this
theorem Pth.congr {D:Int} {F F':Int→Int} {b:Spot}:∀ {l:List Spot} {a:Spot},Pth D F a l b→(∀ x,a.1≤x→x≤b.1→F' x=F x)→Pth D F' a l b
 | [],a,h,_=>h
 | v::r,a,h,e=>by
   have:=Pth.le h.2
   have:=h.1.1
   exact ⟨h.1.congr fun x q1 q2=>e x q1 (by lia),Pth.congr h.2 fun x q1 q2=>e x (by lia) q2⟩
noncomputable def zhw (run:List Gate):Prop:=∀ g∈run,∀ g'∈run,g.x=g'.x→∀ u v,g.lo=some u→g'.hi=some v→u≤v
theorem uM {a b p:Spot} (h:a.1<b.1):yS a b p=yZ a b p:=by
 unfold yS
 rw [if_pos (by lia)]
theorem za9 {k x y:Int} (hk:0<k) (h:x≤y):k*x≤k*y:=Int.mul_le_mul_of_nonneg_left h (Int.le_of_lt hk)
theorem xG {k x y:Int} (hk:0<k) (h:k*x≤k*y):x≤y:=Int.le_of_mul_le_mul_left h hk
theorem zfd {D:Int} {run:List Gate} {a b:Spot} (hab:a.1<b.1) (hD:0<D) (hd:(b.1 - a.1)∣D) (h:∀ g∈run,bw a b g.x→∀ p d,Bey a b g p d→d≤0):∃ F,Curve D run a b F∧Pth D F a [b] b:=by
 obtain ⟨k,hk⟩:=hd
 have hk0:0<k:=by
  by_cases z:0<k
  ·exact z
  ·have:=Int.mul_nonneg (show 0≤b.1 - a.1 by lia) (show 0 ≤ -k by lia)
   rw [Int.mul_neg] at this; lia
 have hdd:∀ x,dd (fun x=>D*a.2+k*((b.2 - a.2)*(x - a.1))) x=0:=by intro x; unfold dd; grind
 have ea:D*a.2+k*((b.2 - a.2)*(a.1 - a.1))=D*a.2:=by grind
 have eb:D*a.2+k*((b.2 - a.2)*(b.1 - a.1))=D*b.2:=by grind
 refine ⟨fun x=>D*a.2+k*((b.2 - a.2)*(x - a.1)),⟨ea,eb,fun g hg q1 q2 y e => ?_,fun g hg q1 q2 y e => ?_,fun x _ _ q => ?_,fun x _ _ q => ?_⟩,⟨hab,ea,eb,fun x _ _=>hdd x⟩,rfl⟩
 ·have:=h g hg (.inl ⟨q1,q2⟩) (g.x,y) _ ⟨rfl,.inl ⟨e,rfl⟩⟩
  rw [uM hab] at this
  have:=za9 hk0 this
  unfold yZ at this
  simp only at this
  rw [hk]
  grind
 ·have:=h g hg (.inl ⟨q1,q2⟩) (g.x,y) _ ⟨rfl,.inr ⟨e,rfl⟩⟩
  rw [uM hab] at this
  have:=za9 hk0 this
  unfold yZ at this
  simp only at this
  rw [hk]
  grind
 ·have:=hdd x; lia
 ·have:=hdd x; lia
noncomputable def glue (c:Int) (F1 F2:Int→Int) (x:Int):Int:=if x≤c then F1 x else F2 x
theorem wR {c:Int} {F1 F2:Int→Int} {x:Int} (h:x≤c):glue c F1 F2 x=F1 x:=if_pos h
theorem vt {c:Int} {F1 F2:Int→Int} {x:Int} (e:F1 c=F2 c) (h:c≤x):glue c F1 F2 x=F2 x:=by
 unfold glue
 split
 ·rw [show x=c by lia,e]
 ·rfl
theorem zeV {F G:Int→Int} {x:Int} (h1:F (x+1)=G (x+1)) (h2:F (x - 1)=G (x - 1)) (h3:F x=G x):dd F x=dd G x:=by
 unfold dd
 rw [h1,h2,h3]
theorem Curve.glue {D:Int} {run:List Gate} {a p b:Spot} {F1 F2:Int→Int} (h:Curve D run a p F1) (k:Curve D run p b F2) (hap:a.1<p.1) (hpb:p.1<b.1)
 (hlo:∀ g∈run,g.x=p.1→∀ y,g.lo=some y→y≤p.2) (hhi:∀ g∈run,g.x=p.1→∀ y,g.hi=some y→p.2≤y) (hD:0<D)
 (hp:(F2 (p.1+1)+F1 (p.1 - 1) - 2*(D*p.2)≤0∧∃ g∈run,g.x=p.1∧g.lo=some p.2)∨(0≤F2 (p.1+1)+F1 (p.1 - 1) - 2*(D*p.2)∧∃ g∈run,g.x=p.1∧g.hi=some p.2)) :
 Curve D run a b (My.glue p.1 F1 F2):=by
 have e:F1 p.1=F2 p.1:=by rw [h.at_b,k.at_a]
 have hat:My.glue p.1 F1 F2 p.1=D*p.2:=by rw [wR (Int.le_refl _),h.at_b]
 have hdl:∀ x,x<p.1→dd (My.glue p.1 F1 F2) x=dd F1 x:=fun x q=>zeV (wR (by lia)) (wR (by lia)) (wR (by lia))
 have hdr:∀ x,p.1<x→dd (My.glue p.1 F1 F2) x=dd F2 x:=fun x q=>zeV (vt e (by lia)) (vt e (by lia)) (vt e (by lia))
 have hdm:dd (My.glue p.1 F1 F2) p.1=F2 (p.1+1)+F1 (p.1 - 1) - 2*(D*p.2):=by
  unfold dd
  rw [hat,vt e (by lia),wR (by lia)]
 refine ⟨by rw [wR (by lia),h.at_a],by rw [vt e (by lia),k.at_b],fun g hg q1 q2 y ey => ?_,fun g hg q1 q2 y ey => ?_,fun x q1 q2 q => ?_,fun x q1 q2 q => ?_⟩
 ·rcases Int.lt_trichotomy g.x p.1 with z | z | z
  ·rw [wR (by lia)]; exact h.lo g hg q1 z y ey
  ·rw [z,hat]; exact za9 hD (hlo g hg z y ey)
  ·rw [vt e (by lia)]; exact k.lo g hg z q2 y ey
 ·rcases Int.lt_trichotomy g.x p.1 with z | z | z
  ·rw [wR (by lia)]; exact h.hi g hg q1 z y ey
  ·rw [z,hat]; exact za9 hD (hhi g hg z y ey)
  ·rw [vt e (by lia)]; exact k.hi g hg z q2 y ey
 ·rcases Int.lt_trichotomy x p.1 with z | z | z
  ·rw [hdl x z] at q; rw [wR (by lia)]; exact h.dn x q1 z q
  ·subst z
   rw [hdm] at q
   rcases hp with ⟨_,g,hg,hx,hy⟩ | ⟨q',_⟩
   ·exact ⟨g,hg,hx,p.2,hy,hat⟩
   ·lia
  ·rw [hdr x z] at q; rw [vt e (by lia)]; exact k.dn x z q2 q
 ·rcases Int.lt_trichotomy x p.1 with z | z | z
  ·rw [hdl x z] at q; rw [wR (by lia)]; exact h.up x q1 z q
  ·subst z
   rw [hdm] at q
   rcases hp with ⟨q',_⟩ | ⟨_,g,hg,hx,hy⟩
   ·lia
   ·exact ⟨g,hg,hx,p.2,hy,hat⟩
  ·rw [hdr x z] at q; rw [vt e (by lia)]; exact k.up x z q2 q
noncomputable def vj (D d:Int) (a b:Spot) (x:Int):Int:=D*((b.1 - a.1)*a.2+(b.2 - a.2)*(x - a.1)+d)
theorem uH (D d:Int) (a b:Spot) (x:Int):dd (vj D d a b) x=0:=by
 unfold dd vj
 grind
theorem zbL {D d:Int} {a b q:Spot}:vj D d a b q.1=(b.1 - a.1)*(D*q.2)+D*(d - yZ a b q):=by
 unfold vj yZ
 grind
theorem ziV {D d:Int} {a b:Spot}:vj D d a b a.1=(b.1 - a.1)*(D*a.2)+D*d:=by
 unfold vj
 grind
theorem ziU {D d:Int} {a b:Spot}:vj D d a b b.1=(b.1 - a.1)*(D*b.2)+D*d:=by
 unfold vj
 grind
theorem za5 {k x:Int} (hk:0<k) (h:k*x≤0):x≤0:=xG hk (by lia)
theorem zdc {D:Int} {run:List Gate} (ok:zhw run) {a b p:Spot} {d:Int} {g:Gate} {F1 F2:Int→Int} (hg:g∈run) (hap:a.1<p.1) (hpb:p.1<b.1) (hB:Bey a b g p d) (hd:0<d)
 (far:∀ g'∈run,bw a b g'.x→∀ p' d',Bey a b g' p' d'→d'≤d) (hD:0<D) (h:Curve D run a p F1) (k:Curve D run p b F2):Curve D run a b (glue p.1 F1 F2):=by
 have hab:a.1<b.1:=by lia
 have hW:0<b.1 - a.1:=by lia
 obtain ⟨hx,hB⟩:=hB
 have hDd:0<D*d:=Int.mul_pos hD hd
 have farL:∀ g'∈run,a.1<g'.x→g'.x<b.1→∀ y,g'.lo=some y→yZ a b (g'.x,y)≤d:=fun g' hg' q1 q2 y ey=>by
  have:=far g' hg' (.inl ⟨q1,q2⟩) (g'.x,y) _ ⟨rfl,.inl ⟨ey,rfl⟩⟩
  rwa [uM hab] at this
 have farH:∀ g'∈run,a.1<g'.x→g'.x<b.1→∀ y,g'.hi=some y → -yZ a b (g'.x,y)≤d:=fun g' hg' q1 q2 y ey=>by
  have:=far g' hg' (.inl ⟨q1,q2⟩) (g'.x,y) _ ⟨rfl,.inr ⟨ey,rfl⟩⟩
  rwa [uM hab] at this
 rcases hB with ⟨hy,hdE⟩ | ⟨hy,hdE⟩
 ·rw [uM hab] at hdE
  have lowA:∀ g'∈run,a.1<g'.x→g'.x<b.1→∀ y,g'.lo=some y→(b.1 - a.1)*(D*y)≤vj D d a b g'.x:=fun g' hg' q1 q2 y ey=>by
   have:=farL g' hg' q1 q2 y ey
   have e:=zbL (D:=D) (d:=d) (a:=a) (b:=b) (q:=(g'.x,y))
   simp only at e
   have:0≤D*(d - yZ a b (g'.x,y)):=Int.mul_nonneg (by lia) (by lia)
   lia
  have hpA:vj D d a b p.1=(b.1 - a.1)*(D*p.2):=by
   rw [zbL,hdE,Int.sub_self,Int.mul_zero,Int.add_zero]
  have l:=h.below hW (A:=vj D d a b) (by rw [ziV]; lia) (by rw [hpA]; exact Int.le_refl _) (uH D d a b) (fun g' hg' q1 q2=>lowA g' hg' q1 (by lia)) (x:=p.1 - 1) (by lia) (by lia)
  have r:=k.below hW (A:=vj D d a b) (by rw [hpA]; exact Int.le_refl _) (by rw [ziU]; lia) (uH D d a b) (fun g' hg' q1 q2=>lowA g' hg' (by lia) q2) (x:=p.1+1) (by lia) (by lia)
  have m:=uH D d a b p.1
  unfold dd at m
  refine h.glue k hap hpb (fun g' hg' z y ey => ?_) (fun g' hg' z y ey=>ok g hg g' hg' (by lia) _ _ hy ey) hD (.inl ⟨za5 hW ?_,g,hg,hx.symm,hy⟩)
  ·have:=farL g' hg' (by lia) (by lia) y ey
   rw [hdE,z] at this
   unfold yZ at this
   simp only at this
   have:(b.1 - a.1)*(y - a.2)≤(b.1 - a.1)*(p.2 - a.2):=by lia
   have:=xG hW this
   lia
  ·have e:(b.1 - a.1)*(F2 (p.1+1)+F1 (p.1 - 1) - 2*(D*p.2))=(b.1 - a.1)*F2 (p.1+1)+(b.1 - a.1)*F1 (p.1 - 1) - 2*((b.1 - a.1)*(D*p.2)):=by grind
   lia
 ·rw [uM hab] at hdE
  have hiA:∀ g'∈run,a.1<g'.x→g'.x<b.1→∀ y,g'.hi=some y→vj D (-d) a b g'.x≤(b.1 - a.1)*(D*y):=fun g' hg' q1 q2 y ey=>by
   have:=farH g' hg' q1 q2 y ey
   have e:=zbL (D:=D) (d := -d) (a:=a) (b:=b) (q:=(g'.x,y))
   simp only at e
   have:0≤D*(d+yZ a b (g'.x,y)):=Int.mul_nonneg (by lia) (by lia)
   have:D*(-d - yZ a b (g'.x,y)) = - (D*(d+yZ a b (g'.x,y))):=by grind
   lia
  have hpA:vj D (-d) a b p.1=(b.1 - a.1)*(D*p.2):=by
   rw [zbL,hdE,Int.neg_neg,Int.sub_self,Int.mul_zero,Int.add_zero]
  have hn:D * -d = - (D*d):=Int.mul_neg _ _
  have l:=h.above hW (A:=vj D (-d) a b) (by rw [ziV]; lia) (by rw [hpA]; exact Int.le_refl _) (uH D (-d) a b) (fun g' hg' q1 q2=>hiA g' hg' q1 (by lia)) (x:=p.1 - 1) (by lia) (by lia)
  have r:=k.above hW (A:=vj D (-d) a b) (by rw [hpA]; exact Int.le_refl _) (by rw [ziU]; lia) (uH D (-d) a b) (fun g' hg' q1 q2=>hiA g' hg' (by lia) q2) (x:=p.1+1) (by lia) (by lia)
  have m:=uH D (-d) a b p.1
  unfold dd at m
  refine h.glue k hap hpb (fun g' hg' z y ey=>ok g' hg' g hg (by lia) _ _ ey hy) (fun g' hg' z y ey => ?_) hD (.inr ⟨?_,g,hg,hx.symm,hy⟩)
  ·have:=farH g' hg' (by lia) (by lia) y ey
   rw [hdE,z] at this
   unfold yZ at this
   simp only at this
   have:(b.1 - a.1)*(p.2 - a.2)≤(b.1 - a.1)*(y - a.2):=by lia
   have:=xG hW this
   lia
  ·have e:(b.1 - a.1)*(F2 (p.1+1)+F1 (p.1 - 1) - 2*(D*p.2))=(b.1 - a.1)*F2 (p.1+1)+(b.1 - a.1)*F1 (p.1 - 1) - 2*((b.1 - a.1)*(D*p.2)):=by grind
   have:=za5 hW (x := -(F2 (p.1+1)+F1 (p.1 - 1) - 2*(D*p.2))) (by rw [Int.mul_neg]; lia)
   lia
theorem zgb {run:List Gate} (ok:zhw run) {a b:Spot} {l:List Spot} (h:Pul run a b l) {D:Int} (hD:0<D):a.1<b.1→(∀ k,0<k→k≤b.1 - a.1→k∣D)→∃ F,Curve D run a b F∧Pth D F a l b:=by
 induction h with
 | stop h=>exact fun hab hd=>zfd hab hD (hd _ (by lia) (Int.le_refl _)) h
 | @split a b p d g l1 l2 hg hb hB hd far _ _ ih1 ih2 =>
   intro hab hdv
   have hx:=hB.1
   have h1:a.1<p.1∧p.1<b.1:=by
    rcases hb with z | z <;> lia
   obtain ⟨F1,C1,P1⟩:=ih1 h1.1 fun k q1 q2=>hdv k q1 (by lia)
   obtain ⟨F2,C2,P2⟩:=ih2 h1.2 fun k q1 q2=>hdv k q1 (by lia)
   have e:F1 p.1=F2 p.1:=by rw [C1.at_b,C2.at_a]
   exact ⟨glue p.1 F1 F2,zdc ok hg h1.1 h1.2 hB hd far hD C1 C2,Pth.app (P2.congr fun x q1 q2=>vt e q1) (P1.congr fun x q1 q2=>wR q2)⟩
noncomputable def straight (o m n:Spot):Bool:=decide ((m.1 - o.1)*(n.2 - m.2)=(m.2 - o.2)*(n.1 - m.1))&&decide (0<(m.1 - o.1)*(n.1 - m.1)+(m.2 - o.2)*(n.2 - m.2))
theorem yc {o m n:Spot}:straight o m n=true↔(m.1 - o.1)*(n.2 - m.2)=(m.2 - o.2)*(n.1 - m.1)∧0<(m.1 - o.1)*(n.1 - m.1)+(m.2 - o.2)*(n.2 - m.2):=by
 unfold straight
 rw [Bool.and_eq_true,decide_eq_true_eq,decide_eq_true_eq]
noncomputable def yT:List Spot→List Spot
 | o::m::n::r=>(if straight o m n=true then [] else [m])++yT (m::n::r)
 | _=>[]
theorem zfq (o m n:Spot):∀ l:List Spot,yT (l++[o,m,n])=yT (l++[o,m])++(if straight o m n=true then [] else [m])
 | []=>by simp [yT]
 | [x]=>by simp [yT]
 | [x,y]=>by simp [yT]
 | x::y::z::r=>by
   have ih:=zfq o m n (y::z::r)
   simp only [List.cons_append] at ih ⊢
   rw [yT,yT,ih,List.append_assoc]
noncomputable def hdS (o:Spot):List Spot→Bool
 | a::v::_=>straight o a v
 | _=>true
theorem zgD {F:Int→Int} {u v:Int} (h:∀ x,u<x→x<v→dd F x=0):∀ k:Nat,u+k<v→F (u+k+1) - F (u+k)=F (u+1) - F u
 | 0,_=>by simp
 | k+1,hk=>by
   have ih:=zgD h k (by lia)
   have:=h (u+(k+1:Nat)) (by lia) hk
   unfold dd at this
   rw [show u+((k+1:Nat):Int) - 1=u+k by lia] at this
   rw [show u+((k+1:Nat):Int)=u+k+1 by lia] at this ⊢
   lia
theorem zgC {F:Int→Int} {u v:Int} (h:∀ x,u<x→x<v→dd F x=0):∀ k:Nat,u+k≤v→F (u+k)=F u+k*(F (u+1) - F u)
 | 0,_=>by simp
 | k+1,hk=>by
   have ih:=zgC h k (by lia)
   have:=zgD h k (by lia)
   rw [show u+((k+1:Nat):Int)=u+k+1 by lia]
   have e:((k+1:Nat):Int)*(F (u+1) - F u)=k*(F (u+1) - F u)+(F (u+1) - F u):=by
    rw [show ((k+1:Nat):Int)=(k:Int)+1 by lia,Int.add_mul,Int.one_mul]
   lia
theorem Lin.first {D:Int} {F:Int→Int} {u v:Spot} (h:Lin D F u v):D*(v.2 - u.2)=(v.1 - u.1)*(F (u.1+1) - F u.1):=by
 obtain ⟨h1,h2,h3,h4⟩:=h
 have:=zgC h4 (v.1 - u.1).toNat (by lia)
 rw [show u.1+((v.1 - u.1).toNat:Int)=v.1 by lia,show (((v.1 - u.1).toNat:Nat):Int)=v.1 - u.1 by lia,h3] at this
 rw [Int.mul_sub,←h2]
 lia
theorem Lin.last {D:Int} {F:Int→Int} {u v:Spot} (h:Lin D F u v):F v.1 - F (v.1 - 1)=F (u.1+1) - F u.1:=by
 obtain ⟨h1,h2,h3,h4⟩:=h
 have:=zgD h4 (v.1 - 1 - u.1).toNat (by lia)
 rw [show u.1+((v.1 - 1 - u.1).toNat:Int)=v.1 - 1 by lia,show v.1 - 1+1=v.1 by lia] at this
 exact this
theorem yL {k x y:Int} (hk:0<k):k*x=k*y↔x=y:=⟨fun h=>Int.eq_of_mul_eq_mul_left (by lia) h,fun h=>by rw [h]⟩
theorem zK {k x:Int} (hk:0<k):0<k*x↔0<x:=by
 constructor
 ·intro h
  by_cases z:0<x
  ·exact z
  ·have:=Int.mul_nonneg (Int.le_of_lt hk) (show 0 ≤ -x by lia)
   rw [Int.mul_neg] at this; lia
 ·exact Int.mul_pos hk
theorem str_out {D:Int} {F:Int→Int} {o m n:Spot} (hD:0<D) (h:Lin D F m n):straight o m n=true↔(m.1 - o.1)*(F (m.1+1) - F m.1)=(m.2 - o.2)*D∧0<(m.1 - o.1)*D+(m.2 - o.2)*(F (m.1+1) - F m.1):=by
 have e:=h.first
 have hk:0<n.1 - m.1:=by have:=h.1; lia
 generalize F (m.1+1) - F m.1=s at *
 rw [yc,←yL hD,←zK (x:=(m.1 - o.1)*(n.1 - m.1)+(m.2 - o.2)*(n.2 - m.2)) hD,←yL (x:=(m.1 - o.1)*s) hk,←zK (x:=(m.1 - o.1)*D+(m.2 - o.2)*s) hk]
 have e1:D*((m.1 - o.1)*(n.2 - m.2))=(n.1 - m.1)*((m.1 - o.1)*s):=by
  rw [Int.mul_left_comm D,e,Int.mul_left_comm]
 have e2:D*((m.2 - o.2)*(n.1 - m.1))=(n.1 - m.1)*((m.2 - o.2)*D):=by grind
 have e3:D*((m.1 - o.1)*(n.1 - m.1)+(m.2 - o.2)*(n.2 - m.2))=(n.1 - m.1)*((m.1 - o.1)*D+(m.2 - o.2)*s):=by
  rw [Int.mul_add,Int.mul_left_comm D (m.2 - o.2),e]
  grind
 rw [e1,e2,e3]
theorem zkC {D:Int} {F:Int→Int} {o m n:Spot} (hD:0<D) (h:Lin D F o m):straight o m n=true↔(n.1 - m.1)*(F m.1 - F (m.1 - 1))=(n.2 - m.2)*D∧0<(n.1 - m.1)*D+(n.2 - m.2)*(F m.1 - F (m.1 - 1)):=by
 have e:=h.first
 rw [←h.last] at e
 have hk:0<m.1 - o.1:=by have:=h.1; lia
 generalize F m.1 - F (m.1 - 1)=s at *
 rw [yc,←yL hD,←zK (x:=(m.1 - o.1)*(n.1 - m.1)+(m.2 - o.2)*(n.2 - m.2)) hD,←yL (x:=(n.1 - m.1)*s) hk,←zK (x:=(n.1 - m.1)*D+(n.2 - m.2)*s) hk]
 have e1:D*((m.2 - o.2)*(n.1 - m.1))=(m.1 - o.1)*((n.1 - m.1)*s):=by
  rw [←Int.mul_assoc,e]
  grind
 have e2:D*((m.1 - o.1)*(n.2 - m.2))=(m.1 - o.1)*((n.2 - m.2)*D):=by grind
 have e3:D*((m.1 - o.1)*(n.1 - m.1)+(m.2 - o.2)*(n.2 - m.2))=(m.1 - o.1)*((n.1 - m.1)*D+(n.2 - m.2)*s):=by
  rw [Int.mul_add,←Int.mul_assoc D (m.2 - o.2),e]
  grind
 rw [e1,e2,e3]
 exact ⟨fun h=>⟨h.1.symm,h.2⟩,fun h=>⟨h.1.symm,h.2⟩⟩
theorem xD (s:Int):0≤s*s:=by
 rcases Int.le_total 0 s with z | z
 ·exact Int.mul_nonneg z z
 ·have:=Int.mul_nonneg (show 0 ≤ -s by lia) (show 0 ≤ -s by lia)
  rwa [Int.neg_mul_neg] at this
theorem zjh {D:Int} {F:Int→Int} {o m n:Spot} (hD:0<D) (h:Lin D F o m) (k:Lin D F m n):straight o m n=true↔dd F m.1=0:=by
 have e:=k.first
 have hk:0<n.1 - m.1:=by have:=k.1; lia
 rw [zkC hD h]
 have hdd:dd F m.1=(F (m.1+1) - F m.1) - (F m.1 - F (m.1 - 1)):=by unfold dd; lia
 rw [hdd]
 generalize F (m.1+1) - F m.1=s2 at *
 generalize F m.1 - F (m.1 - 1)=s1 at *
 have e':(n.2 - m.2)*D=(n.1 - m.1)*s2:=by rw [Int.mul_comm,e]
 rw [e',yL hk]
 constructor
 ·rintro ⟨h1,_⟩; lia
 ·intro h1
  have h1:s1=s2:=by lia
  subst h1
  refine ⟨rfl,?_⟩
  rw [←zK hD]
  have:D*((n.1 - m.1)*D+(n.2 - m.2)*s1)=(n.1 - m.1)*(D*D+s1*s1):=by
   rw [Int.mul_add,←Int.mul_assoc D (n.2 - m.2),e]
   grind
  rw [this]
  have:=Int.mul_pos hD hD
  have:=xD s1
  exact Int.mul_pos hk (by lia)
noncomputable def kk (D:Int) (F:Int→Int):Nat→Int→List Spot
 | 0,_=>[]
 | n+1,x=>(if dd F (x+1)=0 then [] else [(x+1,F (x+1) / D)])++kk D F n (x+1)
theorem zew {D:Int} {F:Int→Int} {b:Spot}:∀ {l:List Spot} {a:Spot},Pth D F a l b→l≠[]→∃ q r,(a::l).reverse=b::q::r∧Lin D F q b
 | [],a,_,z=>absurd rfl z
 | [v],a,h,_=>by
   cases (show v=b from h.2)
   exact ⟨a,[],rfl,h.1⟩
 | v::w::r,a,h,_=>by
   obtain ⟨q,r',e,k⟩:=zew h.2 (by simp)
   exact ⟨q,r'++[a],by rw [List.reverse_cons,e]; rfl,k⟩
theorem zit {a b:Spot} {x:Int} (h:bw a b x):a.1≠b.1:=by
 rcases h with z | z <;> lia
theorem zga {run:List Gate} {a b:Spot} {l:List Spot} (h:Pul run a b l) (e:a.1=b.1):l=[b]:=by
 cases h with
 | stop _=>rfl
 | split hg hb _ _ _ _ _=>exact absurd e (zit hb)
noncomputable def fac:Nat→Int
 | 0=>1
 | n+1=>((n+1:Nat):Int)*fac n
theorem zdD:∀ n,0<fac n
 | 0=>by decide
 | n+1=>Int.mul_pos (by lia) (zdD n)
theorem zg1 {k:Int} (h:0<k):∀ n:Nat,k≤n→k∣fac n
 | 0,z=>by lia
 | n+1,z=>by
   by_cases q:k≤n
   ·exact Int.dvd_trans (zg1 h n q) (Int.dvd_mul_left _ _)
   ·rw [show k=((n+1:Nat):Int) by lia]
    exact Int.dvd_mul_right _ _
theorem ziK {D:Int} {F:Int→Int} {b:Spot}:∀ {l:List Spot} {a:Spot},Pth D F a l b→(a::l).Pairwise fun u v=>u.1<v.1
 | [],a,_=>by simp
 | v::r,a,h=>by
   have ih:=ziK h.2
   have h1:=h.1.1
   refine List.pairwise_cons.mpr ⟨fun u hu => ?_,ih⟩
   rcases List.mem_cons.mp hu with rfl | hu
   ·exact h1
   ·have:=(List.pairwise_cons.mp ih).1 u hu
    lia
theorem zcp {run:List Gate} (ok:zhw run) {a b:Spot} {l:List Spot} (h:Pul run a b l) (hab:a.1<b.1):∃ F,Curve (fac (b.1 - a.1).toNat) run a b F∧Pth (fac (b.1 - a.1).toNat) F a l b :=
 zgb ok h (zdD _) hab fun k q1 q2=>zg1 q1 _ (by lia)
structure Leg (a b:Spot) (l:List Spot):Prop where
 ne:(a::l).Pairwise fun u v=>u.1≠v.1
 last:∃ q r,(a::l).reverse=b::q::r
theorem Leg.right {run:List Gate} (ok:zhw run) {a b:Spot} {l:List Spot} (h:Pul run a b l) (hab:a.1<b.1):Leg a b l:=by
 obtain ⟨F,_,P⟩:=zcp ok h hab
 have n1:l≠[]:=fun z=>by rw [z] at P; cases (show a=b from P); lia
 obtain ⟨q,r,e,_⟩:=zew P n1
 exact ⟨(ziK P).imp fun h=>by lia,q,r,e⟩
noncomputable def co:Option Spot→List Spot→List Spot
 | none,_=>[]
 | some o,L=>if hdS o L=true then [] else L.take 1
noncomputable def bnd:Option Spot→Spot→List Spot→List Spot
 | _,_,[]=>[]
 | o,a,v::r=>if v=a then bnd o a r else co o [a,v]++bnd (some a) v r
inductive Tot:Spot→List (List Gate×Spot)→List Spot→Prop
 | nil {a:Spot}:Tot a [] []
 | cons {a b:Spot} {run:List Gate} {l l':List Spot} {legs:List (List Gate×Spot)}:Pul run a b l→Tot b legs l'→Tot a ((run,b)::legs) (l++l')
structure Mp (f:Spot→Spot) (g:Gate→Gate):Prop where
 bwp:∀ a b G,bw (f a) (f b) (g G).x↔bw a b G.x
 bey:∀ a b G p d,a.1≠b.1→Bey a b G p d→Bey (f a) (f b) (g G) (f p) d
 inv:∀ a b G p' d,a.1≠b.1→Bey (f a) (f b) (g G) p' d→∃ p,p'=f p∧Bey a b G p d
 inj:∀ a b,f a=f b→a=b
 str:∀ o m n,o≠m→m≠n→straight (f o) (f m) (f n)=straight o m n
theorem zjo {f:Spot→Spot} {g:Gate→Gate} (M:Mp f g) {run:List Gate} {a b:Spot} {l:List Spot} (h:Pul run a b l):Pul (run.map g) (f a) (f b) (l.map f):=by
 induction h with
 | @stop a b h =>
   refine .stop fun G' hG' hb p' d k => ?_
   obtain ⟨G,hG,rfl⟩:=List.mem_map.mp hG'
   have hb':=(M.bwp a b G).mp hb
   obtain ⟨p,_,k'⟩:=M.inv a b G p' d (zit hb') k
   exact h G hG hb' p d k'
 | @split a b p d G l1 l2 hg hb hB hd far _ _ ih1 ih2 =>
   rw [List.map_append]
   refine .split (List.mem_map_of_mem hg) ((M.bwp a b G).mpr hb) (M.bey a b G p d (zit hb) hB) hd (fun G' hG' hb' p' d' k => ?_) ih1 ih2
   obtain ⟨G1,hG1,rfl⟩:=List.mem_map.mp hG'
   have hb1:=(M.bwp a b G1).mp hb'
   obtain ⟨p1,_,k'⟩:=M.inv a b G1 p' d' (zit hb1) k
   exact far G1 hG1 hb1 p1 d' k'
noncomputable def mirS (p:Spot):Spot:=(-p.1,p.2)
noncomputable def mirG (g:Gate):Gate:=⟨-g.x,g.lo,g.hi,-g.w⟩
theorem tz {a b p:Spot} (h:a.1≠b.1):yS (mirS a) (mirS b) (mirS p)=yS a b p:=by
 unfold yS
 have e:yZ (mirS a) (mirS b) (mirS p) = -yZ a b p:=by unfold yZ mirS; simp only; grind
 rw [e]
 unfold mirS
 simp only
 by_cases z:0<b.1 - a.1
 ·rw [if_pos z,if_neg (by lia),Int.neg_neg]
 ·rw [if_neg z,if_pos (by lia)]
theorem zlg:Mp mirS mirG where
 bwp:=fun a b G=>by unfold bw mirS mirG; simp only; lia
 bey:=fun a b G p d h ⟨k1,k2⟩=>by
  refine ⟨by unfold mirS mirG; simp only; lia,?_⟩
  rw [tz h]
  exact k2
 inv:=fun a b G p' d h ⟨k1,k2⟩=>by
  have e:p'=mirS (mirS p'):=by unfold mirS; simp
  rw [e,tz h] at k2
  exact ⟨mirS p',e,by unfold mirS mirG at *; simp only at *; lia,k2⟩
 inj:=fun a b h=>by
  unfold mirS at h
  simp only [Prod.mk.injEq] at h
  exact Prod.ext (by lia) h.2
 str:=fun o m n _ _=>by
  rw [Bool.eq_iff_iff,yc,yc]
  unfold mirS
  simp only
  constructor <;> rintro ⟨h1,h2⟩ <;> constructor <;> grind
noncomputable def negG (g:Gate):Gate:=⟨g.x,g.lo,g.hi,-g.w⟩
noncomputable def yl (g h:Gate):Bool:=match g.hi,h.lo with
 | some u,some v=>decide (u≤v)
 | _,_=>false
noncomputable def zF (g h:Gate):Spot×Spot:=if yl g h=true then ((g.x,g.hi.getD 0),(g.x,h.lo.getD 0)) else ((g.x,g.lo.getD 0),(g.x,h.hi.getD 0))
noncomputable def zD (R:List Gate):Gate:=R.getLastD ⟨0,none,none,0⟩
noncomputable def wP (R:List Gate):Gate:=R.headD ⟨0,none,none,0⟩
noncomputable def uT:List (List Gate)→Spot→List (List Gate×Spot)
 | [],e=>[([],e)]
 | [R],e=>[(R,e)]
 | R::S::rs,e=>(R,(zF (zD R) (wP S)).1)::([],(zF (zD R) (wP S)).2)::uT (S::rs) e
structure TurnOk (t g:Gate):Prop where
 x:t.x=g.x
 one:(∃ u v,t.hi=some u∧g.lo=some v∧u≤v)∨(∃ u v,g.hi=some u∧t.lo=some v∧u≤v)
 tw:∀ u v,t.lo=some u→t.hi=some v→u<v
 gw:∀ u v,g.lo=some u→g.hi=some v→u<v
theorem zd8 {t g:Gate} (h:TurnOk t g):zF (negG g) (negG t)=((zF t g).2,(zF t g).1):=by
 have e1:yl (negG g) (negG t)=yl g t:=rfl
 have n:yl t g=true→yl g t=false:=by
  intro q
  cases hh:yl g t with
  | false=>rfl
  | true =>
    unfold yl at q hh
    cases a:t.hi with
    | none=>rw [a] at q; cases q
    | some u =>
      cases b:g.lo with
      | none=>rw [a,b] at q; cases q
      | some v =>
        cases c:g.hi with
        | none=>rw [c] at hh; cases hh
        | some u' =>
          cases d:t.lo with
          | none=>rw [c,d] at hh; cases hh
          | some v' =>
            rw [a,b] at q
            rw [c,d] at hh
            have q:=of_decide_eq_true q
            have hh:=of_decide_eq_true hh
            have:=h.tw _ _ d a
            have:=h.gw _ _ b c
            lia
 have y:yl t g=true∨yl g t=true:=by
  rcases h.one with ⟨u,v,e,e',l⟩ | ⟨u,v,e,e',l⟩
  ·left; unfold yl; rw [e,e']; exact decide_eq_true l
  ·right; unfold yl; rw [e,e']; exact decide_eq_true l
 unfold zF
 rw [e1]
 cases q:yl t g with
 | true =>
   rw [n q,if_neg Bool.false_ne_true,if_pos rfl]
   show ((g.x,g.lo.getD 0),(g.x,t.hi.getD 0))=_
   rw [←h.x]
 | false =>
   rw [q] at y
   rcases y with y | y
   ·cases y
   ·rw [y,if_pos rfl,if_neg Bool.false_ne_true]
    show ((g.x,g.hi.getD 0),(g.x,t.lo.getD 0))=_
    rw [←h.x]
noncomputable def zdV:List (List Gate)→Prop
 | R::S::rs=>TurnOk (zD R) (wP S)∧R≠[]∧S≠[]∧zdV (S::rs)
 | _=>True
noncomputable def unr:List Spot→List Spot
 | []=>[]
 | [a]=>[a]
 | a::b::r=>if b=a then unr (a::r) else a::unr (b::r)
termination_by l=>l.length
theorem yG (a:Spot) (r:List Spot):unr (a::a::r)=unr (a::r):=by rw [unr,if_pos rfl]
theorem x6 {a b:Spot} (r:List Spot) (h:b≠a):unr (a::b::r)=a::unr (b::r):=by rw [unr,if_neg h]
theorem xW (a:Spot):unr [a]=[a]:=by rw [unr]
theorem zd6:∀ (r:List Spot) (a:Spot),∃ t,unr (a::r)=a::t
 | [],a=>⟨[],xW a⟩
 | b::r,a=>by
   by_cases z:b=a
   ·subst z
    obtain ⟨t,e⟩:=zd6 r b
    exact ⟨t,by rw [yG,e]⟩
   ·exact ⟨_,x6 r z⟩
theorem zb3:∀ (l:List Spot) (o a:Spot),bnd (some o) a l=yT (o::unr (a::l))
 | [],o,a=>by rw [xW]; rfl
 | v::r,o,a=>by
   show (if v=a then bnd (some o) a r else co (some o) [a,v]++bnd (some a) v r)=_
   by_cases z:v=a
   ·subst z
    rw [if_pos rfl,zb3 r o v,yG]
   ·rw [if_neg z,zb3 r a v,x6 r z]
    obtain ⟨t,e⟩:=zd6 r v
    rw [e,yT]
    rfl
theorem zeZ:∀ (l:List Spot) (a:Spot),bnd none a l=yT (unr (a::l))
 | [],a=>by rw [xW]; rfl
 | v::r,a=>by
   show (if v=a then bnd none a r else []++bnd (some a) v r)=_
   by_cases z:v=a
   ·subst z
    rw [if_pos rfl,zeZ r v,yG]
   ·rw [if_neg z,List.nil_append,zb3,x6 r z]
theorem u9 (b:Spot):∀ (l:List Spot) (a:Spot),unr (l++[a,b])=if b=a then unr (l++[a]) else unr (l++[a])++[b]
 | [],a=>by
   by_cases z:b=a
   ·subst z
    rw [if_pos rfl]
    exact yG b []
   ·rw [if_neg z]
    show unr (a::b::[])=unr [a]++[b]
    rw [x6 [] z,xW,xW]
    rfl
 | [x],a=>by
   show unr (x::a::[b])=if b=a then unr (x::a::[]) else unr (x::a::[])++[b]
   have ih:=u9 b [] a
   simp only [List.nil_append] at ih
   by_cases q:a=x
   ·subst q
    rw [yG,yG,ih]
   ·rw [x6 _ q,x6 _ q,ih]
    split <;> simp
 | x::y::l,a=>by
   simp only [List.cons_append]
   by_cases q:y=x
   ·subst q
    rw [yG,yG]
    exact u9 b (y::l) a
   ·have ih:=u9 b (y::l) a
    simp only [List.cons_append] at ih
    rw [x6 _ q,x6 _ q,ih]
    split <;> simp
termination_by l=>l.length
noncomputable def zb9 (s:Spot) (rs:List (List Gate)) (e:Spot) (out:List Spot):Prop:=∃ T,Tot s (uT rs e) T∧out=s::(bnd none s T++[e])
noncomputable def xm:List Gate→List (List Gate)
 | []=>[]
 | g::r=>match xm r with
   | (h::R)::rs=>if g.w=h.w then (g::h::R)::rs else [g]::(h::R)::rs
   | _=>[[g]]
noncomputable def Up (a b:Gate):Prop:=a.w=b.w∧(a.w=1→a.x<b.x)∧(a.w≠1→b.x<a.x)
theorem Up.trans {a b c:Gate} (h:Up a b) (k:Up b c):Up a c:=by
 obtain ⟨h1,h2,h3⟩:=h
 obtain ⟨k1,k2,k3⟩:=k
 refine ⟨h1.trans k1,fun z => ?_,fun z => ?_⟩
 ·have:=h2 z; have:=k2 (by rw [←h1]; exact z); lia
 ·have:=h3 z; have:=k3 (by rw [←h1]; exact z); lia
noncomputable def Walk:List Gate→Prop
 | t::g::r=>(t.w=g.w→Up t g)∧(t.w≠g.w→TurnOk t g)∧Walk (g::r)
 | _=>True
noncomputable def GateOk (g:Gate):Prop:=∀ u v,g.lo=some u→g.hi=some v→u<v
noncomputable def Spl:List (List Gate)→Prop
 | []=>True
 | [R]=>R≠[]∧R.Pairwise Up
 | R::S::rs=>R≠[]∧R.Pairwise Up∧(zD R).w≠(wP S).w∧TurnOk (zD R) (wP S)∧Spl (S::rs)
theorem vO {g h:Gate} {r R:List Gate} {rs:List (List Gate)} (e:xm r=(h::R)::rs):xm (g::r)=if g.w=h.w then (g::h::R)::rs else [g]::(h::R)::rs:=by
 rw [xm,e]
theorem vN:∀ row:List Gate,(xm row).flatten=row
 | []=>rfl
 | g::r=>by
   have ih:=vN r
   cases hr:xm r with
   | nil =>
     rw [hr] at ih
     rw [xm,hr,←ih]
     rfl
   | cons R rs =>
     cases R with
     | nil =>
       rw [hr] at ih
       exfalso
       cases r with
       | nil=>cases hr
       | cons x r =>
         rw [xm] at hr
         split at hr
         ·split at hr <;> cases hr
         ·cases hr
     | cons h R =>
       rw [hr] at ih
       rw [vO hr]
       split
       ·rw [List.flatten_cons,List.cons_append,←ih,List.flatten_cons]
       ·rw [List.flatten_cons,←ih]
        rfl
theorem vM:∀ (g:Gate) (r:List Gate),∃ R rs,xm (g::r)=(g::R)::rs:=by
 intro g r
 rw [xm]
 split
 ·split
  ·exact ⟨_,_,rfl⟩
  ·exact ⟨_,_,rfl⟩
 ·exact ⟨_,_,rfl⟩
theorem tp:∀ row:List Gate,Walk row→Spl (xm row)
 | [],_=>trivial
 | [g],_=>⟨by simp,by simp⟩
 | g::h::r,⟨w1,w2,w3⟩=>by
   have ih:=tp (h::r) w3
   obtain ⟨R,rs,e⟩:=vM h r
   rw [vO e]
   rw [e] at ih
   split
   ·rename_i hw
    have u:=w1 hw
    have pw:∀ Q:List Gate,(h::Q).Pairwise Up→(g::h::Q).Pairwise Up:=fun Q hQ=>List.pairwise_cons.mpr ⟨fun x hx=>by
     rcases List.mem_cons.mp hx with rfl | hx
     ·exact u
     ·exact u.trans ((List.pairwise_cons.mp hQ).1 x hx),hQ⟩
    cases rs with
    | nil=>exact ⟨by simp,pw R ih.2⟩
    | cons S rs =>
      obtain ⟨_,i2,i3,i4,i5⟩:=ih
      have el:zD (g::h::R)=zD (h::R):=by
       unfold zD
       rw [List.getLastD_eq_getLast?,List.getLastD_eq_getLast?,List.getLast?_cons_cons]
      exact ⟨by simp,pw R i2,by rw [el]; exact i3,by rw [el]; exact i4,i5⟩
   ·rename_i hw
    exact ⟨by simp,by simp,hw,w2 hw,ih⟩
theorem tQ:∀ rs:List (List Gate),Spl rs→zdV rs
 | [],_=>trivial
 | [R],_=>trivial
 | R :: S :: rs,⟨h1,_,_,h4,h5⟩ => ⟨h4,h1,by
     cases rs with
     | nil=>exact h5.1
     | cons _ _=>exact h5.1,tQ (S::rs) h5⟩
theorem zbv:∀ {rs:List (List Gate)},Spl rs→∀ R∈rs,R≠[]∧R.Pairwise Up
 | [],_,R,h=>absurd h (by simp)
 | [Q],s,R,h=>by rw [List.mem_singleton.mp h]; exact s
 | Q::S::rs,s,R,h=>by
   rcases List.mem_cons.mp h with rfl | h
   ·exact ⟨s.1,s.2.1⟩
   ·exact zbv s.2.2.2.2 R h
theorem up_ok {R:List Gate} (h:R.Pairwise Up) (k:∀ g∈R,GateOk g):zhw R:=by
 intro g hg g' hg' hx u v e1 e2
 have:g=g':=by
  by_cases z:g=g'
  ·exact z
  ·exfalso
   have hne:∀ a b:Gate,Up a b→a.x≠b.x:=fun a b ⟨_,h2,h3⟩=>by
    by_cases q:a.w=1
    ·have:=h2 q; lia
    ·have:=h3 q; lia
   have h':R.Pairwise fun a b=>a.x≠b.x:=h.imp fun {a b} q=>hne a b q
   rw [List.pairwise_iff_getElem] at h'
   obtain ⟨i,hi,rfl⟩:=List.getElem_of_mem hg
   obtain ⟨j,hj,rfl⟩:=List.getElem_of_mem hg'
   rcases Nat.lt_trichotomy i j with q | q | q
   ·exact h' i j hi hj q hx
   ·subst q; exact z rfl
   ·exact h' j i hj hi q hx.symm
 subst this
 have:=k g hg u v e1 e2
 lia
theorem zen {R:List Gate} (hu:R.Pairwise Up):∀ (hR:R≠[]) {r:List Gate},(∀ h∈r.head?,(zD R).w≠h.w)→xm (R++r)=R::xm r:=by
 induction R with
 | nil=>exact fun z=>absurd rfl z
 | cons g R ih =>
   intro _ r hr
   cases R with
   | nil =>
     cases r with
     | nil=>rfl
     | cons h r =>
       obtain ⟨Q,rs,e⟩:=vM h r
       show xm (g::h::r)=_
       rw [vO e,if_neg (show ¬ g.w=h.w from hr h (by simp)),e]
   | cons g' R =>
     have el:zD (g::g'::R)=zD (g'::R):=by
      unfold zD
      rw [List.getLastD_eq_getLast?,List.getLastD_eq_getLast?,List.getLast?_cons_cons]
     rw [el] at hr
     have:=ih (List.pairwise_cons.mp hu).2 (by simp) hr
     have hw:=((List.pairwise_cons.mp hu).1 g' (by simp)).1
     show xm (g::(g'::R++r))=_
     rw [vO this,if_pos hw]
noncomputable def PegOf (row:List Gate) (p:Spot):Prop:=∃ g∈row,p.1=g.x∧(g.lo=some p.2∨g.hi=some p.2)
theorem PegOf.mono {row row':List Gate} {p:Spot} (h:PegOf row p) (k:∀ g∈row,g∈row'):PegOf row' p:=by
 obtain ⟨g,hg,e⟩:=h
 exact ⟨g,k g hg,e⟩
theorem vQ {run:List Gate} {a b:Spot} {l:List Spot} (h:Pul run a b l):∃ m,l=m++[b]∧∀ p∈m,PegOf run p:=by
 induction h with
 | stop _=>exact ⟨[],rfl,by simp⟩
 | @split a b p d g l1 l2 hg hb hB _ _ _ _ ih1 ih2 =>
   obtain ⟨m1,rfl,h1⟩:=ih1
   obtain ⟨m2,rfl,h2⟩:=ih2
   refine ⟨m1++[p]++m2,by simp,fun q hq => ?_⟩
   simp only [List.mem_append,List.mem_singleton] at hq
   rcases hq with (hq | rfl) | hq
   ·exact h1 q hq
   ·exact ⟨g,hg,hB.1,hB.2.imp (·.1) (·.1)⟩
   ·exact h2 q hq
theorem zfM {t g:Gate} (h:TurnOk t g):PegOf [t] (zF t g).1∧PegOf [g] (zF t g).2:=by
 unfold zF
 by_cases z:yl t g=true
 ·rw [if_pos z]
  unfold yl at z
  cases a:t.hi with
  | none=>rw [a] at z; cases z
  | some u =>
    cases b:g.lo with
    | none=>rw [a,b] at z; cases z
    | some v=>exact ⟨⟨t,by simp,rfl,.inr (by simpa using a)⟩,⟨g,by simp,h.x,.inl (by simpa using b)⟩⟩
 ·rw [if_neg z]
  rcases h.one with ⟨u,v,e1,e2,l⟩ | ⟨u,v,e1,e2,l⟩
  ·unfold yl at z
   rw [e1,e2] at z
   exact absurd (decide_eq_true l) z
  ·exact ⟨⟨t,by simp,rfl,.inl (by rw [e2]; rfl)⟩,⟨g,by simp,h.x,.inr (by rw [e1]; rfl)⟩⟩
theorem zac:∀ (rs:List (List Gate)) (s e:Spot) (T:List Spot),zdV rs→Tot s (uT rs e) T→∃ m,T=m++[e]∧∀ p∈m,PegOf rs.flatten p
 | [],s,e,T,_,h=>by
   cases h with
   | cons P t =>
     cases t
     obtain ⟨m,rfl,k⟩:=vQ P
     exact ⟨m,by simp,fun p hp=>k p hp⟩
 | [R],s,e,T,_,h=>by
   cases h with
   | cons P t =>
     cases t
     obtain ⟨m,rfl,k⟩:=vQ P
     exact ⟨m,by simp,fun p hp=>(k p hp).mono fun g hg=>by simpa using hg⟩
 | R::S::rs,s,e,T,⟨k1,k2,k3,k4⟩,h=>by
   cases h with
   | cons P t =>
     cases t with
     | cons P2 t =>
       obtain ⟨m1,rfl,h1⟩:=vQ P
       obtain ⟨m2,rfl,h2⟩:=vQ P2
       obtain ⟨m3,rfl,h3⟩:=zac (S::rs) _ e _ k4 t
       obtain ⟨q1,q2⟩:=zfM k1
       have lm:zD R∈R:=by
        unfold zD
        rw [List.getLastD_eq_getLast?,List.getLast?_eq_some_getLast k2]
        exact List.getLast_mem k2
       have hm:wP S∈S:=by
        cases S with
        | nil=>exact absurd rfl k3
        | cons z r=>exact List.mem_cons_self
       refine ⟨m1++[(zF (zD R) (wP S)).1]++m2++[(zF (zD R) (wP S)).2]++m3,by simp,fun p hp => ?_⟩
       simp only [List.mem_append,List.mem_singleton] at hp
       rcases hp with (((hp | rfl) | hp) | rfl) | hp
       ·exact (h1 p hp).mono fun g hg=>List.mem_flatten.mpr ⟨R,by simp,hg⟩
       ·exact q1.mono fun g hg=>by rw [List.mem_singleton.mp hg]; exact List.mem_flatten.mpr ⟨R,by simp,lm⟩
       ·obtain ⟨g,hg,_⟩:=h2 p hp
        simp at hg
       ·exact q2.mono fun g hg=>by rw [List.mem_singleton.mp hg]; exact List.mem_flatten.mpr ⟨S,by simp,hm⟩
       ·exact (h3 p hp).mono fun g hg=>by
         obtain ⟨Q,hQ,hg⟩:=List.mem_flatten.mp hg
         exact List.mem_flatten.mpr ⟨Q,by simp [List.mem_cons.mp hQ],hg⟩
noncomputable def vv (k:List Spot) (p:Spot):List Spot:=match k.getLast? with
 | some t=>if t=p then k else k++[p]
 | none=>k++[p]
theorem uj:∀ (l k:List Spot) (a:Spot),l.foldl vv (k++[a])=k++unr (a::l)
 | [],k,a=>by rw [xW]; rfl
 | p::l,k,a=>by
   have e:vv (k++[a]) p=if a=p then k++[a] else k++[a]++[p]:=by
    unfold vv
    rw [List.getLast?_concat]
   rw [List.foldl_cons,e]
   by_cases z:a=p
   ·subst z
    rw [if_pos rfl,uj l k a,yG]
   ·rw [if_neg z,uj l (k++[a]) p,x6 l (fun q=>z q.symm),List.append_assoc]
    rfl
theorem tM (l:List Spot):l.foldl vv []=unr l:=by
 cases l with
 | nil=>rw [unr]; rfl
 | cons a l=>exact uj l [] a
theorem zc7:∀ (l:List Spot) (a p:Spot),p∈unr (a::l)→p∈a::l
 | [],a,p,h=>by rw [xW] at h; exact h
 | b::l,a,p,h=>by
   by_cases z:b=a
   ·subst z
    rw [yG] at h
    exact List.mem_cons_of_mem _ (zc7 l b p h)
   ·rw [x6 l z] at h
    rcases List.mem_cons.mp h with rfl | h
    ·simp
    ·exact List.mem_cons_of_mem _ (zc7 l b p h)
theorem zce {l:List Spot} {p:Spot} (h:p∈l.foldl vv []):p∈l:=by
 rw [tM] at h
 cases l with
 | nil=>rw [unr] at h; exact h
 | cons a l=>exact zc7 l a p h
theorem zc8:∀ (l:List Spot) (a:Spot),(unr (a::l)).length≤l.length+1
 | [],a=>by rw [xW]; simp
 | b::l,a=>by
   by_cases z:b=a
   ·subst z
    rw [yG]
    have:=zc8 l b
    simp only [List.length_cons]
    lia
   ·rw [x6 l z]
    have:=zc8 l b
    simp only [List.length_cons]
    lia
theorem zie (l:List Spot):(l.foldl vv []).length≤l.length:=by
 rw [tM]
 cases l with
 | nil=>rw [unr]; simp
 | cons a l=>exact zc8 l a
theorem zfC {s e:Spot} {m:List Spot} (h1:∀ p∈m,p≠s) (h2:∀ p∈m,p≠e):yT (s::(m.foldl vv []++[e]))=bnd none s (m++[e]):=by
 rw [zeZ,tM]
 cases m with
 | nil =>
   have e0:unr []=[]:=by rw [unr]
   rw [e0]
   show yT [s,e]=yT (unr [s,e])
   by_cases z:e=s
   ·subst z
    rw [yG,xW]
    rfl
   ·rw [x6 _ z,xW]
 | cons p r =>
   rw [List.cons_append,x6 _ (h1 p (by simp))]
   have hne:p::r≠[]:=by simp
   obtain ⟨q,z,hq⟩:∃ q z,p::r=q++[z]:=⟨(p::r).dropLast,(p::r).getLast hne,(List.dropLast_concat_getLast hne).symm⟩
   have e1:p::(r++[e])=q++[z,e]:=by
    rw [←List.cons_append,hq,List.append_assoc]
    rfl
   have hz:e≠z:=fun w=>h2 z (by rw [hq]; simp) w.symm
   rw [e1,u9,if_neg hz,hq]
noncomputable def yI:List Spot→List (Spot×Spot×Spot)
 | o::m::n::r=>(o,m,n)::yI (m::n::r)
 | _=>[]
theorem zcG:∀ l:List Spot,yT l=(yI l).filterMap fun t=>if straight t.1 t.2.1 t.2.2=true then none else some t.2.1
 | []=>rfl
 | [_]=>rfl
 | [_,_]=>rfl
 | o::m::n::r=>by
   rw [yT,yI,List.filterMap_cons,zcG (m::n::r)]
   cases straight o m n <;> rfl
theorem zfP:∀ {l:List Spot} {t:Spot×Spot×Spot},t∈yI l→t.1∈l∧t.2.1∈l∧t.2.2∈l
 | [],_,h=>by simp [yI] at h
 | [_],_,h=>by simp [yI] at h
 | [_,_],_,h=>by simp [yI] at h
 | o::m::n::r,t,h=>by
   rcases List.mem_cons.mp h with rfl | h
   ·simp
   ·obtain ⟨a,b,c⟩:=zfP h
    exact ⟨List.mem_cons_of_mem _ a,List.mem_cons_of_mem _ b,List.mem_cons_of_mem _ c⟩
theorem zaj:∀ l:List Spot,(yT l).length≤l.length
 | []=>Nat.le_refl _
 | [_]=>by simp [yT]
 | [_,_]=>by simp [yT]
 | o::m::n::r=>by
   rw [yT,List.length_append]
   have:=zaj (m::n::r)
   simp only [List.length_cons] at this ⊢
   split <;> simp <;> lia
theorem zeD:∀ {l xs:List Int},l.Nodup→(∀ x∈l,x∈xs)→l.length≤xs.length
 | [],xs,_,_=>Nat.zero_le _
 | a::l,xs,h,k=>by
   have ha:=k a (by simp)
   obtain ⟨h1,h2⟩:=List.nodup_cons.mp h
   have:=zeD (l:=l) (xs:=xs.erase a) h2 (fun x hx=>(List.mem_erase_of_ne (show x≠a from fun e=>h1 (by rw [←e]; exact hx))).mpr (k x (by simp [hx])))
   rw [List.length_erase_of_mem ha] at this
   have:=List.length_pos_of_mem ha
   simp only [List.length_cons]
   lia
theorem ziA {R:List Gate} {xs:List Int} (h:R.Pairwise Up) (k:∀ g∈R,g.x∈xs):R.length≤xs.length:=by
 rw [←List.length_map (f:=Gate.x)]
 refine zeD ?_ fun x hx => ?_
 ·rw [List.Nodup,List.pairwise_map]
  refine h.imp fun {a b} u => ?_
  obtain ⟨_,u1,u2⟩:=u
  by_cases z:a.w=1
  ·have:=u1 z; lia
  ·have:=u2 z; lia
 ·obtain ⟨g,hg,rfl⟩:=List.mem_map.mp hx
  exact k g hg
noncomputable def zaF (l:Int×List Int) (g:Gate):Prop:=g.x=l.1∧∃ k,k≤l.2.length∧g.lo=(if k=0 then none else l.2[k - 1]?)∧g.hi=l.2[k]?
noncomputable def zc4 (B:List (Int×List Int)) (h:Int) (g:Gate):Prop:=∃ l,zaF l g∧∃ i:Nat,B[i]?=some l∧((g.w=1∧(i:Int)=h)∨(g.w = -1∧(i:Int)=h - 1))
noncomputable def zaE (B:List (Int×List Int)):Int→List Gate→Prop
 | _,[]=>True
 | h,g::gs=>zc4 B h g∧zaE B (h+g.w) gs
noncomputable def Red:List Gate→Prop
 | t::g::r=>g≠negG t∧Red (g::r)
 | _=>True
structure BoardOk (B:List (Int×List Int)):Prop where
 up:B.Pairwise fun a b=>a.1<b.1
 hs:∀ l∈B,l.2.Pairwise (· < ·)
theorem zeu {α:Type} {R:α→α→Prop} {l:List α} (h:l.Pairwise R) {i j:Nat} {a b:α} (ha:l[i]?=some a) (hb:l[j]?=some b) (hij:i<j):R a b:=by
 obtain ⟨h1,rfl⟩:=List.getElem?_eq_some_iff.mp ha
 obtain ⟨h2,rfl⟩:=List.getElem?_eq_some_iff.mp hb
 exact List.pairwise_iff_getElem.mp h i j h1 h2 hij
theorem zaF.ok {l:Int×List Int} {g:Gate} (h:zaF l g) (s:l.2.Pairwise (· < ·)):GateOk g:=by
 obtain ⟨_,k,hk,e1,e2⟩:=h
 intro u v h1 h2
 rw [e1] at h1
 rw [e2] at h2
 by_cases z:k=0
 ·rw [if_pos z] at h1; cases h1
 ·rw [if_neg z] at h1
  exact zeu s h1 h2 (by lia)
theorem zaF.turn {l:Int×List Int} {t g:Gate} (h:zaF l t) (h':zaF l g) (s:l.2.Pairwise (· < ·)) (hw:t.w≠g.w) (w1:t.w=1∨t.w = -1) (w2:g.w=1∨g.w = -1) (n:g≠negG t):TurnOk t g:=by
 refine ⟨h.1.trans h'.1.symm,?_,h.ok s,h'.ok s⟩
 obtain ⟨x1,k,hk,e1,e2⟩:=h
 obtain ⟨x2,j,hj,f1,f2⟩:=h'
 have hkj:k≠j:=fun z=>n (by
  subst z
  obtain ⟨a,b,c,d⟩:=t
  obtain ⟨a',b',c',d'⟩:=g
  simp only [negG,Gate.mk.injEq] at *
  refine ⟨x2.trans x1.symm,f1.trans e1.symm,f2.trans e2.symm,?_⟩
  lia)
 have le:∀ {i j:Nat} {u v:Int},l.2[i]?=some u→l.2[j]?=some v→i≤j→u≤v:=fun {i j u v} a b hij=>by
  rcases Nat.lt_or_eq_of_le hij with q | q
  ·exact Int.le_of_lt (zeu s a b q)
  ·subst q; rw [a] at b; cases b; exact Int.le_refl _
 rcases Nat.lt_or_gt_of_ne hkj with q | q
 ·left
  have a:k<l.2.length:=by lia
  have b:j - 1<l.2.length:=by lia
  refine ⟨l.2[k],l.2[j - 1],by rw [e2,List.getElem?_eq_getElem a],by rw [f1,if_neg (by lia),List.getElem?_eq_getElem b],?_⟩
  exact le (List.getElem?_eq_getElem a) (List.getElem?_eq_getElem b) (by lia)
 ·right
  have a:j<l.2.length:=by lia
  have b:k - 1<l.2.length:=by lia
  refine ⟨l.2[j],l.2[k - 1],by rw [f2,List.getElem?_eq_getElem a],by rw [e1,if_neg (by lia),List.getElem?_eq_getElem b],?_⟩
  exact le (List.getElem?_eq_getElem a) (List.getElem?_eq_getElem b) (by lia)
theorem zc4.way {B:List (Int×List Int)} {h:Int} {g:Gate} (s:zc4 B h g):g.w=1∨g.w = -1:=by
 obtain ⟨l,_,i,_,k⟩:=s
 exact k.imp (·.1) (·.1)
theorem zc4.ok {B:List (Int×List Int)} (ok:BoardOk B) {h:Int} {g:Gate} (s:zc4 B h g):GateOk g:=by
 obtain ⟨l,q,i,e,_⟩:=s
 exact q.ok (ok.hs l (List.mem_of_getElem? e))
theorem zfU {B:List (Int×List Int)} (ok:BoardOk B) {h:Int} {t g:Gate} (s:zc4 B h t) (s':zc4 B (h+t.w) g) (n:g≠negG t):(t.w=g.w→Up t g)∧(t.w≠g.w→TurnOk t g):=by
 have w1:=s.way
 have w2:=s'.way
 obtain ⟨l,q,i,e,k⟩:=s
 obtain ⟨l',q',i',e',k'⟩:=s'
 refine ⟨fun z => ?_,fun z => ?_⟩
 ·refine ⟨z,fun w => ?_,fun w => ?_⟩
  ·rw [q.1,q'.1]
   exact zeu ok.up e e' (by lia)
  ·rw [q.1,q'.1]
   exact zeu ok.up e' e (by lia)
 ·have hi:i=i':=by lia
  subst hi
  rw [e] at e'
  cases e'
  exact q.turn q' (ok.hs l (List.mem_of_getElem? e)) z w1 w2 n
theorem zbq {B:List (Int×List Int)} (ok:BoardOk B):∀ (gs:List Gate) (h:Int),zaE B h gs→Red gs→Walk gs
 | [],_,_,_=>trivial
 | [_],_,_,_=>trivial
 | t::g::r,h,⟨p1,p2,p3⟩,⟨r1,r2⟩=>by
   obtain ⟨a,b⟩:=zfU ok p1 p2 r1
   exact ⟨a,b,zbq ok (g::r) (h+t.w) ⟨p2,p3⟩ r2⟩
noncomputable def sumG:List Gate→Int
 | []=>0
 | g::gs=>g.w+sumG gs
theorem zez {B:List (Int×List Int)} {g:Gate}:∀ {gs:List Gate} {h:Int},zaE B h gs→g∈gs→∃ h',zc4 B h' g
 | t::gs,h,⟨p1,p2⟩,hg=>by
   rcases List.mem_cons.mp hg with rfl | hg
   ·exact ⟨h,p1⟩
   ·exact zez p2 hg
theorem zhG:∀ {gs:List Gate},(∀ g∈gs,g.w=1∨g.w = -1)→Walk gs→Walk (gs.map mirG)
 | [],_,_=>trivial
 | [_],_,_=>trivial
 | t::g::r,w,⟨a,b,c⟩=>by
   have w1:=w t (by simp)
   have w2:=w g (by simp)
   refine ⟨fun z => ?_,fun z => ?_,zhG (gs:=g::r) (fun x hx=>w x (List.mem_cons_of_mem _ hx)) c⟩
   ·have z':t.w=g.w:=by simp only [mirG] at z; lia
    obtain ⟨_,u1,u2⟩:=a z'
    refine ⟨z,fun q => ?_,fun q => ?_⟩
    ·simp only [mirG] at q ⊢
     have:=u2 (by lia)
     lia
    ·simp only [mirG] at q ⊢
     have:=u1 (by lia)
     lia
   ·have z':t.w≠g.w:=by simp only [mirG] at z; lia
    have T:=b z'
    exact ⟨by simp only [mirG,T.x],T.one,T.tw,T.gw⟩
noncomputable def SD (u v:Int×Int):Prop:=∃ a b:Int,0<a∧0<b∧a*u.1=b*v.1∧a*u.2=b*v.2
noncomputable def vec (p q:Spot):Int×Int:=(q.1 - p.1,q.2 - p.2)
theorem SD.refl (u:Int×Int):SD u u:=⟨1,1,by omega,by omega,rfl,rfl⟩
theorem SD.symm {u v:Int×Int} (h:SD u v):SD v u:=by
 obtain ⟨a,b,ha,hb,e1,e2⟩:=h
 exact ⟨b,a,hb,ha,e1.symm,e2.symm⟩
theorem SD.trans {u v w:Int×Int} (h:SD u v) (k:SD v w):SD u w:=by
 obtain ⟨a,b,ha,hb,e1,e2⟩:=h
 obtain ⟨c,d,hc,hd,f1,f2⟩:=k
 refine ⟨c*a,b*d,Int.mul_pos hc ha,Int.mul_pos hb hd,?_,?_⟩
 ·calc c*a*u.1=c*(a*u.1):=by rw [Int.mul_assoc]
   _=c*(b*v.1):=by rw [e1]
   _=b*(c*v.1):=by rw [←Int.mul_assoc,Int.mul_comm c b,Int.mul_assoc]
   _=b*d*w.1:=by rw [f1,Int.mul_assoc]
 ·calc c*a*u.2=c*(a*u.2):=by rw [Int.mul_assoc]
   _=c*(b*v.2):=by rw [e2]
   _=b*(c*v.2):=by rw [←Int.mul_assoc,Int.mul_comm c b,Int.mul_assoc]
   _=b*d*w.2:=by rw [f2,Int.mul_assoc]
theorem SD.add {p z n:Spot} (h:SD (vec p z) (vec z n)):SD (vec p n) (vec z n):=by
 obtain ⟨a,b,ha,hb,e1,e2⟩:=h
 simp only [vec] at e1 e2
 refine ⟨a,a+b,ha,by omega,?_,?_⟩
 ·simp only [vec]
  calc a*(n.1 - p.1)=a*(n.1 - z.1)+a*(z.1 - p.1):=by rw [←Int.mul_add]; congr 1; omega
   _=(a+b)*(n.1 - z.1):=by rw [e1,Int.add_mul]
 ·simp only [vec]
  calc a*(n.2 - p.2)=a*(n.2 - z.2)+a*(z.2 - p.2):=by rw [←Int.mul_add]; congr 1; omega
   _=(a+b)*(n.2 - z.2):=by rw [e2,Int.add_mul]
noncomputable def crs (u v:Int×Int):Int:=u.1*v.2 - u.2*v.1
noncomputable def dot (u v:Int×Int):Int:=u.1*v.1+u.2*v.2
noncomputable def tn (o z n:Spot):Int:=crs (vec o z) (vec z n)
theorem xS {o z n:Spot}:straight o z n=true↔crs (vec o z) (vec z n)=0∧0<dot (vec o z) (vec z n):=by
 rw [yc]
 simp only [crs,dot,vec]
 constructor <;> rintro ⟨a,b⟩ <;> exact ⟨by omega,b⟩
theorem ul {x:Int} (h:x*x=0):x=0:=by
 rcases Int.mul_eq_zero.mp h with h | h <;> exact h
theorem sd_of {u v:Int×Int} (c:crs u v=0) (d:0<dot u v):SD u v:=by
 obtain ⟨u1,u2⟩:=u
 obtain ⟨v1,v2⟩:=v
 simp only [crs,dot] at c d
 have hu:0<u1*u1+u2*u2:=by
  have h1:=xD u1
  have h2:=xD u2
  rcases Int.lt_or_eq_of_le (Int.add_nonneg h1 h2) with h | h
  ·exact h
  ·exfalso
   have z1:u1*u1=0:=by omega
   have z2:u2*u2=0:=by omega
   have z1:=ul z1
   have z2:=ul z2
   subst z1 z2
   simp at d
 refine ⟨u1*v1+u2*v2,u1*u1+u2*u2,d,hu,?_,?_⟩
 ·simp only
  grind
 ·simp only
  grind
theorem SD.crs_l {u v:Int×Int} (h:SD u v) (w:Int×Int):(0<crs u w↔0<crs v w)∧(crs u w<0↔crs v w<0):=by
 obtain ⟨a,b,ha,hb,e1,e2⟩:=h
 have e:a*crs u w=b*crs v w:=by
  simp only [crs]
  rw [Int.mul_sub,Int.mul_sub,←Int.mul_assoc,←Int.mul_assoc,←Int.mul_assoc,←Int.mul_assoc,e1,e2]
 refine ⟨?_,?_⟩
 ·rw [←zK ha,e,zK hb]
 ·have h1:crs u w<0↔0<a * -crs u w:=by rw [zK ha]; omega
  have h2:crs v w<0↔0<b * -crs v w:=by rw [zK hb]; omega
  rw [h1,h2,Int.mul_neg,Int.mul_neg,e]
theorem SD.dot_l {u v:Int×Int} (h:SD u v) (w:Int×Int):dot u w<0↔dot v w<0:=by
 obtain ⟨a,b,ha,hb,e1,e2⟩:=h
 have e:a*dot u w=b*dot v w:=by
  simp only [dot]
  rw [Int.mul_add,Int.mul_add,←Int.mul_assoc,←Int.mul_assoc,←Int.mul_assoc,←Int.mul_assoc,e1,e2]
 have h1:dot u w<0↔0<a * -dot u w:=by rw [zK ha]; omega
 have h2:dot v w<0↔0<b * -dot v w:=by rw [zK hb]; omega
 rw [h1,h2,Int.mul_neg,Int.mul_neg,e]
theorem zeW (u v:Int×Int):crs u v = -crs v u:=by simp only [crs]; grind
theorem zeR (u v:Int×Int):dot u v=dot v u:=by simp only [dot]; grind
theorem SD.crs_r {u v:Int×Int} (h:SD u v) (w:Int×Int):(0<crs w u↔0<crs w v)∧(crs w u<0↔crs w v<0):=by
 have:=h.crs_l w
 rw [zeW w u,zeW w v]
 omega
theorem SD.dot_r {u v:Int×Int} (h:SD u v) (w:Int×Int):dot w u<0↔dot w v<0:=by
 rw [zeR w u,zeR w v]
 exact h.dot_l w
theorem SD.sg {u v:Int×Int} (h:SD u v):(0<u.1↔0<v.1)∧(u.1<0↔v.1<0)∧(0<u.2↔0<v.2)∧(u.2<0↔v.2<0):=by
 obtain ⟨a,b,ha,hb,e1,e2⟩:=h
 have f:∀ {x y:Int},a*x=b*y→(0<x↔0<y)∧(x<0↔y<0):=fun {x y} e=>by
  refine ⟨by rw [←zK ha,e,zK hb],?_⟩
  have h1:x<0↔0<a * -x:=by rw [zK ha]; omega
  have h2:y<0↔0<b * -y:=by rw [zK hb]; omega
  rw [h1,h2,Int.mul_neg,Int.mul_neg,e]
 exact ⟨(f e1).1,(f e1).2,(f e2).1,(f e2).2⟩
noncomputable def Wi (g:Gate) (y:Int):Prop:=(∀ l,g.lo=some l→l≤y)∧∀ h,g.hi=some h→y≤h
noncomputable def Cr (p z:Spot) (g:Gate):Prop:=bw p z g.x∧(∀ y,g.lo=some y→yS p z (g.x,y)≤0)∧∀ y,g.hi=some y→0≤yS p z (g.x,y)
noncomputable def hand (p:Spot) (g:Gate):Int:=if g.x≠p.1 then 0 else if g.hi=some p.2 then g.w else if g.lo=some p.2 then -g.w else 0
structure BendOk (o z n:Spot) (V:List Gate):Prop where
 ne:V≠[]
 h:∃ t:Int,(t=1∨t = -1)∧(∀ g∈V,hand z g=t)∧(V.length=1→0<tn o z n*t∨(tn o z n=0∧o.1=z.1∧∀ g∈V,if g.lo=some z.2 then 0<z.2 - o.2 else 0<o.2 - z.2))
 back:tn o z n=0→dot (vec o z) (vec z n)<0
theorem zle {x t:Int} (ht:t=1∨t = -1):0<x*t↔(t=1∧0<x)∨(t = -1∧x<0):=by
 rcases ht with rfl | rfl <;> omega
theorem zc6 {a b:Int} (p:0<a↔0<b) (n:a<0↔b<0) (h:a=0):b=0:=by omega
theorem BendOk.dir {o z n p m:Spot} {V:List Gate} (b:BendOk o z n V) (h1:SD (vec o z) (vec p z)) (h2:SD (vec z n) (vec z m)):BendOk p z m V:=by
 have pos:0<tn o z n↔0<tn p z m:=(h1.crs_l (vec z n)).1.trans (h2.crs_r (vec p z)).1
 have neg:tn o z n<0↔tn p z m<0:=(h1.crs_l (vec z n)).2.trans (h2.crs_r (vec p z)).2
 obtain ⟨s1,s2,s3,s4⟩:=h1.sg
 have s1:0<z.1 - o.1↔0<z.1 - p.1:=s1
 have s2:z.1 - o.1<0↔z.1 - p.1<0:=s2
 have s3:0<z.2 - o.2↔0<z.2 - p.2:=s3
 have s4:z.2 - o.2<0↔z.2 - p.2<0:=s4
 obtain ⟨ne,⟨t,ht,hh,one⟩,back⟩:=b
 refine ⟨ne,⟨t,ht,hh,fun l => ?_⟩,fun e=>(h2.dot_r _).mp ((h1.dot_l _).mp (back (zc6 pos.symm neg.symm e)))⟩
 rcases one l with k | ⟨k1,k2,k3⟩
 ·left
  rw [zle ht] at k ⊢
  exact k.imp (fun q=>⟨q.1,pos.mp q.2⟩) fun q=>⟨q.1,neg.mp q.2⟩
 ·right
  refine ⟨zc6 pos neg k1,?_,fun g hg => ?_⟩
  ·have:=zc6 s1 s2 (show z.1 - o.1=0 by rw [k2,Int.sub_self])
   exact (Int.eq_of_sub_eq_zero this).symm
  ·have:=k3 g hg
   split
   ·rename_i q
    rw [if_pos q] at this
    exact s3.mp this
   ·rename_i q
    rw [if_neg q] at this
    have:=s4.mp (by clear s1 s2 s3 s4 pos neg; omega)
    clear s1 s2 s3 s4 pos neg
    omega
theorem zkk {o z n:Spot} (h1:o≠z) (h2:n≠z) (s:¬ straight o z n=true):tn o z n=0→dot (vec o z) (vec z n)<0:=by
 intro c
 rcases Int.lt_trichotomy (dot (vec o z) (vec z n)) 0 with d | d | d
 ·exact d
 ·exfalso
  unfold tn at c
  obtain ⟨o1,o2⟩:=o
  obtain ⟨z1,z2⟩:=z
  obtain ⟨n1,n2⟩:=n
  simp only [crs,dot,vec] at c d
  have key:((z1 - o1)*(z1 - o1)+(z2 - o2)*(z2 - o2))*((n1 - z1)*(n1 - z1)+(n2 - z2)*(n2 - z2))=0:=by grind
  rcases Int.mul_eq_zero.mp key with k | k
  ·have a1:=xD (z1 - o1)
   have a2:=xD (z2 - o2)
   have b1:=ul (show (z1 - o1)*(z1 - o1)=0 by omega)
   have b2:=ul (show (z2 - o2)*(z2 - o2)=0 by omega)
   exact h1 (Prod.ext (by show o1=z1; omega) (by show o2=z2; omega))
  ·have a1:=xD (n1 - z1)
   have a2:=xD (n2 - z2)
   have b1:=ul (show (n1 - z1)*(n1 - z1)=0 by omega)
   have b2:=ul (show (n2 - z2)*(n2 - z2)=0 by omega)
   exact h2 (Prod.ext (by show n1=z1; omega) (by show n2=z2; omega))
 ·exact absurd (xS.mpr ⟨c,d⟩) s
noncomputable def nearE (s:Int) (g:Gate):Option Int:=if s=1 then g.lo else g.hi
noncomputable def VS (s x zy:Int):Int→Bool→List Gate→Prop
 | _,_,[]=>True
 | b,st,g::r=>∃ y,g.x=x∧Wi g y∧s*y<s*zy∧s*b≤s*y∧(nearE s g=some y∨(y=b∧st=false))∧(st=true→s*b<s*y)∧VS s x zy y false r
structure Upr (p:Spot) (E:List Gate) (z:Spot) (V:List Gate) (s:Int):Prop where
 x:p.1=z.1
 s1:s=1∨s = -1
 up:s*p.2<s*z.2
 vs:VS s p.1 z.2 p.2 true E
 fst:∃ g r,V=g::r∧nearE s g=some z.2
structure Slp (p:Spot) (E:List Gate) (z:Spot):Prop where
 x:p.1≠z.1
 cr:∀ g∈E,Cr p z g
 pw:E.Pairwise fun g h=>0≤(h.x - g.x)*(z.1 - p.1)
structure EdgeOk (p:Spot) (E:List Gate) (z:Spot) (V:List Gate):Prop where
 at_z:∀ g∈V,g.x=z.1∧Wi g z.2
 e:Slp p E z∨∃ s,Upr p E z V s
theorem EdgeOk.ne {p z:Spot} {E V:List Gate} (h:EdgeOk p E z V):p≠z:=by
 intro q
 subst q
 rcases h.e with k | ⟨s,k⟩
 ·exact k.x rfl
 ·have:=k.up; omega
theorem zfE {s x zy y:Int} (h:s*y<s*zy):∀ (V:List Gate),(∀ g∈V,g.x=x∧Wi g y)→VS s x zy y false V
 | [],_=>trivial
 | g::r,k=>⟨y,(k g (by simp)).1,(k g (by simp)).2,h,Int.le_refl _,.inr ⟨rfl,rfl⟩,(fun z=>nomatch z),zfE h r fun t ht=>k t (by simp [ht])⟩
theorem ziy {s x y zy:Int} (h:s*y<s*zy) {V:List Gate} (k:∀ g∈V,g.x=x∧Wi g y) (f:∃ g r,V=g::r∧nearE s g=some y):∀ (E:List Gate) (b:Int) (st:Bool),VS s x y b st E→s*b≤s*y→(st=true→s*b<s*y)→VS s x zy b st (E++V)
 | [],b,st,_,hb,hst=>by
   obtain ⟨g,r,rfl,e⟩:=f
   exact ⟨y,(k g (by simp)).1,(k g (by simp)).2,h,hb,.inl e,hst,zfE h r fun t ht=>k t (by simp [ht])⟩
 | g::E,b,st,⟨y',h1,h2,h3,h4,h5,h6,h7⟩,hb,hst=>⟨y',h1,h2,by omega,h4,h5,h6,ziy h k f E y' false h7 (by omega) (fun z=>nomatch z)⟩
theorem zgG {a b:Int} (p:0<a↔0<b) (n:a<0↔b<0):(a≤0↔b≤0)∧(0≤a↔0≤b)∧(-a≤0 ↔ -b≤0)∧(0 ≤ -a↔0 ≤ -b):=by omega
theorem w4 {p z q r:Spot} (h:SD (vec p z) (vec q r)) (c:crs (vec p z) (vec q p)=0) (g:Spot):(yS p z g≤0↔yS q r g≤0)∧(0≤yS p z g↔0≤yS q r g):=by
 have e1:yZ p z g=crs (vec p z) (vec p g):=rfl
 have e2:yZ q r g=crs (vec q r) (vec q g):=rfl
 have e3:crs (vec p z) (vec q g)=crs (vec p z) (vec p g):=by
  simp only [crs,vec] at c ⊢
  grind
 have k:=h.crs_l (vec q g)
 rw [e3,←e1,←e2] at k
 obtain ⟨l1,l2,l3,l4⟩:=zgG k.1 k.2
 have s1:0<z.1 - p.1↔0<r.1 - q.1:=h.sg.1
 unfold yS
 by_cases w:0<z.1 - p.1
 ·rw [if_pos w,if_pos (s1.mp w)]
  exact ⟨l1,l2⟩
 ·rw [if_neg w,if_neg fun q=>w (s1.mpr q)]
  exact ⟨l3,l4⟩
theorem zfV {p z:Spot} (y:Int):(y≤z.2→yS p z (z.1,y)≤0)∧(z.2≤y→0≤yS p z (z.1,y)):=by
 have key:yZ p z (z.1,y)=(z.1 - p.1)*(y - z.2):=by
  unfold yZ
  simp only
  grind
 unfold yS
 rw [key]
 refine ⟨fun h => ?_,fun h => ?_⟩
 ·by_cases q:0<z.1 - p.1
  ·rw [if_pos q]
   have:=Int.mul_nonneg (Int.le_of_lt q) (show 0≤z.2 - y by omega)
   have e:(z.1 - p.1)*(y - z.2) = -((z.1 - p.1)*(z.2 - y)):=by grind
   rw [e]
   exact Int.neg_nonpos_of_nonneg this
  ·rw [if_neg q]
   have:=Int.mul_nonneg (show 0≤p.1 - z.1 by omega) (show 0≤z.2 - y by omega)
   have e : -((z.1 - p.1)*(y - z.2)) = -((p.1 - z.1)*(z.2 - y)):=by grind
   rw [e]
   exact Int.neg_nonpos_of_nonneg this
 ·by_cases q:0<z.1 - p.1
  ·rw [if_pos q]
   exact Int.mul_nonneg (Int.le_of_lt q) (by omega)
  ·rw [if_neg q]
   have:=Int.mul_nonneg (show 0≤p.1 - z.1 by omega) (show 0≤y - z.2 by omega)
   have e : -((z.1 - p.1)*(y - z.2))=(p.1 - z.1)*(y - z.2):=by grind
   rw [e]
   exact this
theorem zj9 {p z n:Spot} (d:SD (vec p z) (vec z n)) (x:p.1≠z.1):(p.1<z.1∧z.1<n.1)∨(n.1<z.1∧z.1<p.1):=by
 obtain ⟨s1,s2,_⟩:=d.sg
 rcases Int.lt_or_gt_of_ne x with q | q
 ·exact .inl ⟨q,Int.lt_of_sub_pos (s1.mp (Int.sub_pos_of_lt q))⟩
 ·exact .inr ⟨Int.lt_of_sub_neg (s2.mp (Int.sub_neg_of_lt q)),q⟩
theorem bw_l {p z n:Spot} {x:Int} (d:(p.1<z.1∧z.1<n.1)∨(n.1<z.1∧z.1<p.1)):(bw p z x→bw p n x)∧(bw z n x→bw p n x)∧bw p n z.1:=by
 rcases d with ⟨d1,d2⟩ | ⟨d1,d2⟩
 ·refine ⟨fun h => ?_,fun h => ?_,.inl ⟨d1,d2⟩⟩
  ·rcases h with ⟨a,b⟩ | ⟨a,b⟩
   ·exact .inl ⟨a,Int.lt_trans b d2⟩
   ·exact absurd (Int.lt_trans b (Int.lt_trans d1 a)) (Int.lt_irrefl _)
  ·rcases h with ⟨a,b⟩ | ⟨a,b⟩
   ·exact .inl ⟨Int.lt_trans d1 a,b⟩
   ·exact absurd (Int.lt_trans b (Int.lt_trans d2 a)) (Int.lt_irrefl _)
 ·refine ⟨fun h => ?_,fun h => ?_,.inr ⟨d1,d2⟩⟩
  ·rcases h with ⟨a,b⟩ | ⟨a,b⟩
   ·exact absurd (Int.lt_trans b (Int.lt_trans d2 a)) (Int.lt_irrefl _)
   ·exact .inr ⟨Int.lt_trans d1 a,b⟩
  ·rcases h with ⟨a,b⟩ | ⟨a,b⟩
   ·exact absurd (Int.lt_trans b (Int.lt_trans d1 a)) (Int.lt_irrefl _)
   ·exact .inr ⟨a,Int.lt_trans b d2⟩
theorem zgy {a w:Int} (h:(0<w∧0≤a)∨(w<0∧a≤0)):0≤a*w:=by
 rcases h with ⟨h1,h2⟩ | ⟨h1,h2⟩
 ·exact Int.mul_nonneg h2 (Int.le_of_lt h1)
 ·have:=Int.mul_nonneg (Int.neg_nonneg_of_nonpos h2) (Int.le_of_lt (Int.neg_pos_of_neg h1))
  rw [Int.neg_mul_neg] at this
  exact this
theorem zgp {a w:Int} (h:0≤a*w):(0<w→0≤a)∧(w<0→a≤0):=by
 refine ⟨fun k => ?_,fun k => ?_⟩
 ·rcases Int.lt_or_le a 0 with z | z
  ·exact absurd (Int.mul_neg_of_neg_of_pos z k) (Int.not_lt.mpr h)
  ·exact z
 ·rcases Int.lt_or_le 0 a with z | z
  ·exact absurd (Int.mul_neg_of_pos_of_neg z k) (Int.not_lt.mpr h)
  ·exact z
theorem ziP {w w':Int} (s:(0<w∧0<w')∨(w<0∧w' < 0)) {F:List Gate} (h:F.Pairwise fun g h=>0≤(h.x - g.x)*w):F.Pairwise fun g h=>0≤(h.x - g.x)*w' :=
 h.imp fun {g h} k=>zgy (s.imp (fun q=>⟨q.2,(zgp k).1 q.1⟩) fun q=>⟨q.2,(zgp k).2 q.1⟩)
theorem zhH {s s' a b c:Int} (h1:s=1∨s = -1) (h2:s'=1∨s' = -1) (u1:s*a<s*b) (u2:s'*b<s'*c) (e1:0<b - a↔0<c - b):s=s':=by
 rcases h1 with rfl | rfl <;> rcases h2 with rfl | rfl <;> omega
theorem zkh {p z:Spot} {x:Int} (h:bw p z x):(p.1<z.1→x≤z.1∧p.1≤x)∧(z.1<p.1→z.1≤x∧x≤p.1):=by
 unfold bw at h
 omega
theorem EdgeOk.merge {p z n:Spot} {E V E1 V1:List Gate} (h:EdgeOk p E z V) (k:EdgeOk z E1 n V1) (d:SD (vec p z) (vec z n)) (u:z.1=n.1→E1=[]):EdgeOk p (E++V++E1) n V1:=by
 refine ⟨k.at_z,?_⟩
 have d2:=d.add
 rcases h.e with a | ⟨s,a⟩
 ·have ds:=zj9 d a.x
  rcases k.e with b | ⟨s',b⟩
  ·left
   have dpn:SD (vec p n) (vec p z):=d2.trans d.symm
   have cpp:crs (vec p n) (vec p p)=0:=by simp only [crs,vec]; grind
   have c0:crs (vec z n) (vec p z)=0:=by
    obtain ⟨α,β,ha,hb,e1,e2⟩:=d
    simp only [crs,vec] at e1 e2 ⊢
    have:α*((n.1 - z.1)*(z.2 - p.2) - (n.2 - z.2)*(z.1 - p.1))=0:=by
     have f1:α*((n.1 - z.1)*(z.2 - p.2) - (n.2 - z.2)*(z.1 - p.1))=(n.1 - z.1)*(α*(z.2 - p.2)) - (n.2 - z.2)*(α*(z.1 - p.1)):=by grind
     rw [f1,e1,e2]
     grind
    exact (Int.mul_eq_zero.mp this).resolve_left fun q=>by rw [q] at ha; exact absurd ha (by decide)
   have sw:(0<z.1 - p.1∧0<n.1 - p.1)∨(z.1 - p.1<0∧n.1 - p.1<0):=by clear d d2 dpn cpp c0; omega
   have sw2:(0<n.1 - z.1∧0<n.1 - p.1)∨(n.1 - z.1<0∧n.1 - p.1<0):=by clear d d2 dpn cpp c0; omega
   have hx:p.1≠n.1:=by clear d d2 dpn cpp c0 sw sw2; omega
   refine ⟨hx,fun g hg => ?_,?_⟩
   ·rcases List.mem_append.mp hg with hg | hg
    ·rcases List.mem_append.mp hg with hg | hg
     ·obtain ⟨g1,g2,g3⟩:=a.cr g hg
      exact ⟨(bw_l ds).1 g1,fun y hy=>(w4 dpn cpp (g.x,y)).1.mpr (g2 y hy),fun y hy=>(w4 dpn cpp (g.x,y)).2.mpr (g3 y hy)⟩
     ·obtain ⟨gx,w1,w2⟩:=h.at_z g hg
      rw [←gx] at ds
      refine ⟨by rw [gx]; exact (bw_l (x:=0) (by rw [gx] at ds; exact ds)).2.2,fun y hy=>(w4 dpn cpp (g.x,y)).1.mpr ?_,fun y hy=>(w4 dpn cpp (g.x,y)).2.mpr ?_⟩
      ·rw [gx]; exact (zfV y).1 (w1 y hy)
      ·rw [gx]; exact (zfV y).2 (w2 y hy)
    ·obtain ⟨g1,g2,g3⟩:=b.cr g hg
     exact ⟨(bw_l ds).2.1 g1,fun y hy=>(w4 (p:=z) (z:=n) (q:=p) (r:=n) d2.symm c0 (g.x,y)).1.mp (g2 y hy),fun y hy=>(w4 (p:=z) (z:=n) (q:=p) (r:=n) d2.symm c0 (g.x,y)).2.mp (g3 y hy)⟩
   ·have le:∀ {u v:Int},((p.1<z.1→u≤v)∧(z.1<p.1→v≤u))→0≤(v - u)*(n.1 - p.1):=fun {u v} w=>zgy (sw.imp (fun q=>⟨q.2,Int.sub_nonneg_of_le (w.1 (Int.lt_of_sub_pos q.1))⟩) fun q=>⟨q.2,Int.sub_nonpos_of_le (w.2 (Int.lt_of_sub_neg q.1))⟩)
    have inE:∀ g∈E,(p.1<z.1→g.x≤z.1)∧(z.1<p.1→z.1≤g.x):=fun g hg=>⟨fun q=>((zkh (a.cr g hg).1).1 q).1,fun q=>((zkh (a.cr g hg).1).2 q).1⟩
    have in1:∀ g∈E1,(p.1<z.1→z.1≤g.x)∧(z.1<p.1→g.x≤z.1):=fun g hg=>by
     have q:=zkh (b.cr g hg).1
     clear d d2 dpn cpp c0 sw sw2 hx
     omega
    rw [List.pairwise_append,List.pairwise_append]
    refine ⟨⟨ziP sw a.pw,?_,fun g hg g' hg' => ?_⟩,ziP sw2 b.pw,fun g hg g' hg' => ?_⟩
    ·refine List.Pairwise.imp_of_mem ?_ (List.pairwise_of_forall (R:=fun _ _=>True) (fun _ _=>trivial))
     intro g g' hg hg' _
     rw [(h.at_z g hg).1,(h.at_z g' hg').1,Int.sub_self,Int.zero_mul]
     exact Int.le_refl _
    ·rw [(h.at_z g' hg').1]
     exact le (inE g hg)
    ·have e2:=in1 g' hg'
     rcases List.mem_append.mp hg with hg | hg
     ·have e1:=inE g hg
      exact le ⟨fun q=>Int.le_trans (e1.1 q) (e2.1 q),fun q=>Int.le_trans (e2.2 q) (e1.2 q)⟩
     ·rw [(h.at_z g hg).1]
      exact le e2
  ·exact absurd b.x (by clear d d2; omega)
 ·rcases k.e with b | ⟨s',b⟩
  ·exfalso
   have q:=d.sg
   have e:=a.x
   have e2:=b.x
   obtain ⟨q1,q2,_⟩:=q
   simp only [vec] at q1 q2
   clear d d2
   omega
  ·right
   have e1:=u b.x
   subst e1
   have hs:s=s':=zhH a.s1 b.s1 a.up b.up d.sg.2.2.1
   subst hs
   refine ⟨s,a.x.trans b.x,a.s1,Int.lt_trans a.up b.up,?_,b.fst⟩
   rw [List.append_nil]
   exact ziy b.up (fun g hg=>⟨(h.at_z g hg).1.trans a.x.symm,(h.at_z g hg).2⟩) a.fst E p.2 true a.vs (Int.le_of_lt a.up) (fun _=>a.up)
noncomputable abbrev Itm:=List Gate×Spot×List Gate
noncomputable def AOk:Spot→(Spot→Prop)→List Itm→Prop
 | _,_,[]=>False
 | p,need,[(E,z,V)]=>EdgeOk p E z V∧need z∧V=[]
 | p,need,(E,z,V)::i::r=>EdgeOk p E z V∧need z∧AOk z (fun n=>BendOk p z n V) (i::r)
noncomputable def yN (L:List Itm):List Spot:=L.map fun i=>i.2.1
noncomputable def xI (L:List Itm):List Gate:=L.flatMap fun i=>i.1++i.2.2
theorem AOk.cons {p z:Spot} {need:Spot→Prop} {E V:List Gate} {L:List Itm} (h:EdgeOk p E z V) (k:need z) (a:AOk z (fun n=>BendOk p z n V) L):AOk p need ((E,z,V)::L):=by
 cases L with
 | nil=>exact a.elim
 | cons i r=>exact ⟨h,k,a⟩
structure St (p o z:Spot) (E V:List Gate):Prop where
 e:EdgeOk p E z V
 d:SD (vec o z) (vec p z)
 ne:o≠z
structure BendH (o z n:Spot) (V:List Gate):Prop where
 ne:V≠[]
 h:∃ t:Int,(t=1∨t = -1)∧(∀ g∈V,hand z g=t)∧(V.length=1→0<tn o z n*t∨(tn o z n=0∧o.1=z.1∧∀ g∈V,if g.lo=some z.2 then 0<z.2 - o.2 else 0<o.2 - z.2))
theorem BendH.ok {o z n:Spot} {V:List Gate} (b:BendH o z n V) (h1:o≠z) (h2:n≠z) (s:¬ straight o z n=true):BendOk o z n V:=⟨b.ne,b.h,zkk h1 h2 s⟩
noncomputable def Fut (n m:Spot) (E1 V1:List Gate) (B:List Spot) (G:List Gate):Prop:=∀ (p:Spot) (need:Spot→Prop) (E:List Gate),St p m n (E++E1) V1→(∀ x,SD (vec p x) (vec p n)→need x)→∃ L,AOk p need L∧yN L=B∧xI L=E++E1++G
theorem zbY (o z n:Spot):co (some o) [z,n]=if straight o z n=true then [] else [z]:=by
 unfold co
 rfl
theorem zjQ {p o z n:Spot} {E V E1 V1:List Gate} {need:Spot→Prop} {B:List Spot} {G:List Gate} (s:St p o z E V) (hneed:∀ x,SD (vec p x) (vec p z)→need x) (k:EdgeOk z E1 n V1) (u:z.1=n.1→E1=[])
 (b:¬ straight o z n=true→BendH o z n V) (f:Fut n z E1 V1 B G):∃ L,AOk p need L∧yN L=co (some o) [z,n]++B∧xI L=E++V++E1++G:=by
 have nz:n≠z:=fun q=>k.ne q.symm
 rw [zbY]
 by_cases c:straight o z n=true
 ·rw [if_pos c]
  obtain ⟨c1,c2⟩:=xS.mp c
  have d1:SD (vec p z) (vec z n):=s.d.symm.trans (sd_of c1 c2)
  have d2:=d1.add
  obtain ⟨L,a,e1,e2⟩:=f p need (E++V) ⟨by rw [List.append_assoc] at *; simpa using s.e.merge k d1 u,d2.symm,fun q=>nz q.symm⟩ (fun x hx=>hneed x (hx.trans (d2.trans d1.symm)))
  exact ⟨L,a,e1,e2⟩
 ·rw [if_neg c]
  obtain ⟨L,a,e1,e2⟩:=f z (fun x=>BendOk p z x V) [] ⟨by simpa using k,SD.refl _,fun q=>nz q.symm⟩ (fun x hx=>((b c).ok s.ne nz c).dir s.d hx.symm)
  refine ⟨(E,z,V)::L,AOk.cons s.e (hneed z (SD.refl _)) a,?_,?_⟩
  ·show z::yN L=_
   rw [e1]
   rfl
  ·show (E++V)++xI L=_
   rw [e2]
   simp
inductive LA (w:Int):Spot→List Spot→List Gate→List Gate→Prop
 | last {a b:Spot} {E V:List Gate}:EdgeOk a E b V→0<w*(b.1 - a.1)→LA w a [b] E V
 | cons {a v v':Spot} {r:List Spot} {E V G W:List Gate}:EdgeOk a E v V→0<w*(v.1 - a.1)→(¬ straight a v v'=true→BendH a v v' V)→LA w v (v'::r) G W→LA w a (v::v'::r) (E++V++G) W
theorem xV {o:Option Spot} {a v:Spot} {r:List Spot} (h:a≠v):bnd o a (v::r)=co o [a,v]++bnd (some a) v r:=by
 show (if v=a then bnd o a r else co o [a,v]++bnd (some a) v r)=_
 rw [if_neg fun q=>h q.symm]
theorem v9 {o:Option Spot} {a:Spot} {r:List Spot}:bnd o a (a::r)=bnd o a r:=by
 show (if a=a then bnd o a r else co o [a,a]++bnd (some a) a r)=_
 rw [if_pos rfl]
noncomputable def Fin (w:Int) (b:Spot) (W:List Gate) (rest:List Spot) (e:Spot) (G':List Gate):Prop:=∀ (p m:Spot) (need:Spot→Prop) (E:List Gate),St p m b E W→(∀ x,SD (vec p x) (vec p b)→need x)→0<w*(b.1 - m.1)→∃ L,AOk p need L∧yN L=bnd (some m) b rest++[e]∧xI L=E++G'
theorem zgE {w:Int} {rest:List Spot} {b e:Spot} {G' W:List Gate} (fin:Fin w b W rest e G') {l:List Spot} {a:Spot} {G:List Gate} (la:LA w a l G W) (hb:l.getLast?=some b):∀ {p o:Spot} {E V:List Gate} {need:Spot→Prop},St p o a E V→(∀ x,SD (vec p x) (vec p a)→need x)→(∀ v,l.head?=some v→0<w*(v.1 - a.1)→¬ straight o a v=true→BendH o a v V) →
 ∃ L,AOk p need L∧yN L=bnd (some o) a (l++rest)++[e]∧xI L=E++V++G++G':=by
 induction la with
 | @last a b' E1 V1 k hw =>
   intro p o E V need s hneed hbend
   have:b'=b:=by simpa using hb
   subst this
   obtain ⟨L,A,e1,e2⟩:=zjQ (n:=b') (E1:=E1) (V1:=V1) (B:=bnd (some a) b' rest++[e]) (G:=G') s hneed k (fun q=>by rw [q,Int.sub_self,Int.mul_zero] at hw; omega) (hbend b' rfl hw) (fun p' need' E' st hn=>fin p' a need' (E'++E1) st hn hw)
   refine ⟨L,A,?_,e2⟩
   rw [e1,List.cons_append,List.nil_append,xV k.ne,List.append_assoc]
 | @cons a v v' r E1 V1 G1 W1 k hw hk la ih =>
   intro p o E V need s hneed hbend
   have hb':(v'::r).getLast?=some b:=by rw [List.getLast?_cons_cons] at hb; exact hb
   have ih':=fun {p o E V need}=>ih fin hb' (p:=p) (o:=o) (E:=E) (V:=V) (need:=need)
   obtain ⟨L,A,e1,e2⟩:=zjQ (n:=v) (E1:=E1) (V1:=V1) (B:=bnd (some a) v (v'::r++rest)++[e]) (G:=V1++G1++G') s hneed k (fun q=>by rw [q,Int.sub_self,Int.mul_zero] at hw; omega) (hbend v rfl hw) (fun p' need' E' st hn=>by
    obtain ⟨L,A,e1,e2⟩:=ih' st hn (fun x hx _ hs=>by
     have:v'=x:=by simpa using hx
     subst this
     exact hk hs)
    exact ⟨L,A,e1,by rw [e2]; simp⟩)
   refine ⟨L,A,?_,by rw [e2]; simp⟩
   rw [e1]
   simp only [List.cons_append]
   rw [xV k.ne,List.append_assoc]
theorem zcD {w:Int} {rest:List Spot} {b e:Spot} {G' W:List Gate} (fin:Fin w b W rest e G') {l:List Spot} {a:Spot} {G:List Gate} (la:LA w a l G W) (hb:l.getLast?=some b) :
 ∃ L,AOk a (fun _=>True) L∧yN L=bnd none a (l++rest)++[e]∧xI L=G++G':=by
 cases la with
 | @last _ b' _ _ k hw =>
   have:b'=b:=by simpa using hb
   subst this
   obtain ⟨L,A,e1,e2⟩:=fin a a (fun _=>True) G ⟨k,SD.refl _,k.ne⟩ (fun _ _=>trivial) hw
   refine ⟨L,A,?_,e2⟩
   rw [e1,List.cons_append,xV k.ne]
   rfl
 | @cons _ v v' r E1 V1 G1 _ k hw hk la =>
   have hb':(v'::r).getLast?=some b:=by rw [List.getLast?_cons_cons] at hb; exact hb
   obtain ⟨L,A,e1,e2⟩:=zgE fin la hb' (p:=a) (o:=a) (E:=E1) (V:=V1) (need:=fun _=>True) ⟨k,SD.refl _,k.ne⟩ (fun _ _=>trivial) (fun x hx _ hs=>by
    have:v'=x:=by simpa using hx
    subst this
    exact hk hs)
   refine ⟨L,A,?_,by rw [e2]⟩
   rw [e1]
   simp only [List.cons_append]
   rw [xV k.ne]
   rfl
theorem zgV {f:Gate→Int} (c:Int):∀ G:List Gate,G.Pairwise (fun g h=>f g<f h)→G=G.filter (fun g=>decide (f g<c))++G.filter (fun g=>decide (f g=c))++G.filter (fun g=>decide (c<f g))
 | [],_=>rfl
 | g::G,h=>by
   obtain ⟨h1,h2⟩:=List.pairwise_cons.mp h
   have ih:=zgV c G h2
   rcases Int.lt_trichotomy (f g) c with z | z | z
   ·simp only [List.filter_cons,decide_eq_true z,decide_eq_false (show ¬ f g=c by omega),decide_eq_false (show ¬ c<f g by omega),if_true,Bool.false_eq_true,if_false,List.cons_append]
    rw [←ih]
   ·have e1:G.filter (fun g=>decide (f g<c))=[]:=List.filter_eq_nil_iff.mpr fun x hx=>by have:=h1 x hx; simp; omega
    rw [e1] at ih
    simp only [List.filter_cons,decide_eq_true z,decide_eq_false (show ¬ f g<c by omega),decide_eq_false (show ¬ c<f g by omega),if_true,Bool.false_eq_true,if_false,e1,List.nil_append,List.cons_append]
    rw [List.nil_append] at ih
    rw [←ih]
   ·have e1:G.filter (fun g=>decide (f g<c))=[]:=List.filter_eq_nil_iff.mpr fun x hx=>by have:=h1 x hx; simp; omega
    have e2:G.filter (fun g=>decide (f g=c))=[]:=List.filter_eq_nil_iff.mpr fun x hx=>by have:=h1 x hx; simp; omega
    rw [e1,e2] at ih
    simp only [List.filter_cons,decide_eq_true z,decide_eq_false (show ¬ f g<c by omega),decide_eq_false (show ¬ f g=c by omega),if_true,Bool.false_eq_true,if_false,e1,e2,List.nil_append]
    rw [List.nil_append,List.nil_append] at ih
    rw [←ih]
theorem Lin.at {D:Int} {F:Int→Int} {u v:Spot} (h:Lin D F u v) {x:Int} (h1:u.1<x) (h2:x<v.1):(v.1 - u.1)*F x=D*((v.1 - u.1)*u.2+(x - u.1)*(v.2 - u.2)):=by
 have f:=h.first
 obtain ⟨huv,fu,fv,hd⟩:=h
 have k:=zgC hd (x - u.1).toNat (by omega)
 have ex:u.1+((x - u.1).toNat:Int)=x:=by omega
 have ek:((x - u.1).toNat:Int)=x - u.1:=by omega
 rw [ex,ek] at k
 rw [k]
 generalize F (u.1+1) - F u.1=s at f ⊢
 rw [fu]
 generalize v.1 - u.1=W at f ⊢
 generalize x - u.1=X
 have:W*(X*s)=X*(D*(v.2 - u.2)):=by rw [f]; grind
 rw [Int.mul_add,this]
 grind
theorem ziW {D:Int} {F:Int→Int} {u v:Spot} {g:Gate} (hD:0<D) (h:Lin D F u v) (h1:u.1<g.x) (h2:g.x<v.1) (lo:∀ y,g.lo=some y→D*y≤F g.x) (hi:∀ y,g.hi=some y→F g.x≤D*y):Cr u v g:=by
 have huv:=h.1
 have k:=h.at h1 h2
 have hW:0<v.1 - u.1:=by omega
 refine ⟨.inl ⟨h1,h2⟩,fun y hy => ?_,fun y hy => ?_⟩
 ·rw [uM huv]
  have a:=za9 hW (lo y hy)
  rw [k] at a
  have b:D*((v.1 - u.1)*y)≤D*((v.1 - u.1)*u.2+(g.x - u.1)*(v.2 - u.2)):=by
   have:(v.1 - u.1)*(D*y)=D*((v.1 - u.1)*y):=by grind
   omega
  have c:=xG hD b
  unfold yZ
  simp only
  have:(v.1 - u.1)*(y - u.2)=(v.1 - u.1)*y - (v.1 - u.1)*u.2:=Int.mul_sub ..
  have:(v.2 - u.2)*(g.x - u.1)=(g.x - u.1)*(v.2 - u.2):=Int.mul_comm ..
  omega
 ·rw [uM huv]
  have a:=za9 hW (hi y hy)
  rw [k] at a
  have b:D*((v.1 - u.1)*u.2+(g.x - u.1)*(v.2 - u.2))≤D*((v.1 - u.1)*y):=by
   have:(v.1 - u.1)*(D*y)=D*((v.1 - u.1)*y):=by grind
   omega
  have c:=xG hD b
  unfold yZ
  simp only
  have:(v.1 - u.1)*(y - u.2)=(v.1 - u.1)*y - (v.1 - u.1)*u.2:=Int.mul_sub ..
  have:(v.2 - u.2)*(g.x - u.1)=(g.x - u.1)*(v.2 - u.2):=Int.mul_comm ..
  omega
theorem zll {D:Int} {F:Int→Int} {o m n:Spot} (hD:0<D) (h:Lin D F o m) (k:Lin D F m n):(0<dd F m.1→0<tn o m n)∧(dd F m.1<0→tn o m n<0):=by
 have f1:=h.first
 have f2:=h.last
 have f3:=k.first
 have p1:=h.1
 have p2:=k.1
 have e:D*tn o m n=(m.1 - o.1)*(n.1 - m.1)*dd F m.1:=by
  have q:dd F m.1=(F (m.1+1) - F m.1) - (F m.1 - F (m.1 - 1)):=by unfold dd; omega
  rw [q,f2]
  unfold tn crs vec
  simp only
  generalize F (m.1+1) - F m.1=s2 at f3
  generalize F (o.1+1) - F o.1=s1 at f1
  generalize m.1 - o.1=a at *
  generalize n.1 - m.1=b at *
  generalize m.2 - o.2=c at *
  generalize n.2 - m.2=d at *
  have:D*(a*d - c*b)=a*(D*d) - (D*c)*b:=by grind
  rw [this,f3,f1]
  grind
 have hp:0<(m.1 - o.1)*(n.1 - m.1):=Int.mul_pos (by omega) (by omega)
 refine ⟨fun z => ?_,fun z => ?_⟩
 ·rw [←zK hD,e,zK hp]
  exact z
 ·have:0<D * -tn o m n:=by
   rw [Int.mul_neg,e,←Int.mul_neg,zK hp]
   omega
  rw [zK hD] at this
  omega
structure GC (D:Int) (F:Int→Int) (g:Gate):Prop where
 w:g.w=1
 ok:GateOk g
 lo:∀ y,g.lo=some y→D*y≤F g.x
 hi:∀ y,g.hi=some y→F g.x≤D*y
theorem zdA {z:Spot} {g:Gate} (ok:GateOk g) (hx:g.x=z.1) (h:g.lo=some z.2):hand z g = -g.w:=by
 unfold hand
 rw [if_neg (fun q=>q hx),if_neg,if_pos h]
 intro q
 have:=ok _ _ h q
 omega
theorem zdB {z:Spot} {g:Gate} (hx:g.x=z.1) (h:g.hi=some z.2):hand z g=g.w:=by
 unfold hand
 rw [if_neg (fun q=>q hx),if_pos h]
theorem zeM {D:Int} {F:Int→Int} (hD:0<D) {b:Spot} {W:List Gate} (hW:∀ g∈W,g.x=b.1∧Wi g b.2):∀ {l:List Spot} {a:Spot} {G:List Gate},Pth D F a l b→l≠[]→G.Pairwise (fun g h=>g.x<h.x)→(∀ g∈G,a.1<g.x∧g.x<b.1∧GC D F g) →
 (∀ x,a.1<x→x<b.1→dd F x<0→∃ g∈G,g.x=x∧∃ y,g.lo=some y∧F x=D*y)→(∀ x,a.1<x→x<b.1→0<dd F x→∃ g∈G,g.x=x∧∃ y,g.hi=some y∧F x=D*y)→LA 1 a l G W
 | [],a,G,_,h,_,_,_,_=>absurd rfl h
 | [v],a,G,⟨h1,h2⟩,_,hs,hg,_,_=>by
   cases (show v=b from h2)
   have:=h1.1
   refine .last ⟨hW,.inl ⟨by omega,fun g k => ?_,hs.imp fun {g h} k => ?_⟩⟩ (by omega)
   ·obtain ⟨g1,g2,c⟩:=hg g k
    exact ziW hD h1 g1 g2 c.lo c.hi
   ·exact Int.mul_nonneg (by omega) (by omega)
 | v::v'::r,a,G,⟨h1,h2,h3⟩,_,hs,hg,dn,up=>by
   have p1:=h1.1
   have p2:=h2.1
   have p3:=h3.le
   have fv:F v.1=D*v.2:=h2.2.1
   have ih:=zeM hD hW (l:=v'::r) (a:=v) (G:=G.filter fun g=>decide (v.1<g.x)) ⟨h2,h3⟩ (by simp) (hs.filter _) (fun g k=>by
    obtain ⟨k1,k2⟩:=List.mem_filter.mp k
    obtain ⟨g1,g2,c⟩:=hg g k1
    exact ⟨by simpa using k2,g2,c⟩) (fun x x1 x2 d=>by
    obtain ⟨g,k,e,q⟩:=dn x (by omega) x2 d
    exact ⟨g,List.mem_filter.mpr ⟨k,by rw [e]; exact decide_eq_true x1⟩,e,q⟩) (fun x x1 x2 d=>by
    obtain ⟨g,k,e,q⟩:=up x (by omega) x2 d
    exact ⟨g,List.mem_filter.mpr ⟨k,by rw [e]; exact decide_eq_true x1⟩,e,q⟩)
   rw [zgV (f:=Gate.x) v.1 G hs]
   have mem2:∀ {g:Gate},g∈G.filter (fun g=>decide (g.x=v.1))→g∈G∧g.x=v.1:=fun {g} k=>by
    obtain ⟨k1,k2⟩:=List.mem_filter.mp k
    exact ⟨k1,by simpa using k2⟩
   refine .cons ⟨fun g k => ?_,.inl ⟨by omega,fun g k => ?_,(hs.filter _).imp fun {g h} k => ?_⟩⟩ (by omega) (fun st => ?_) ih
   ·obtain ⟨k1,k2⟩:=mem2 k
    obtain ⟨_,_,c⟩:=hg g k1
    refine ⟨k2,fun y hy => ?_,fun y hy => ?_⟩
    ·have:=c.lo y hy
     rw [k2,fv] at this
     exact xG hD this
    ·have:=c.hi y hy
     rw [k2,fv] at this
     exact xG hD this
   ·obtain ⟨k1,k2⟩:=List.mem_filter.mp k
    obtain ⟨g1,g2,c⟩:=hg g k1
    exact ziW hD h1 g1 (by simpa using k2) c.lo c.hi
   ·exact Int.mul_nonneg (by omega) (by omega)
   ·have nd:dd F v.1≠0:=fun q=>st ((zjh hD h1 h2).mpr q)
    obtain ⟨t1,t2⟩:=zll hD h1 h2
    have uni:∀ {g h:Gate},g∈G→h∈G→g.x=v.1→h.x=v.1→g=h:=fun {g h} hg hh e1 e2=>by
     obtain ⟨i,hi,rfl⟩:=List.getElem_of_mem hg
     obtain ⟨j,hj,rfl⟩:=List.getElem_of_mem hh
     rcases Nat.lt_trichotomy i j with z | z | z
     ·have:=List.pairwise_iff_getElem.mp hs i j hi hj z; omega
     ·subst z; rfl
     ·have:=List.pairwise_iff_getElem.mp hs j i hj hi z; omega
    rcases Int.lt_or_gt_of_ne nd with z | z
    ·obtain ⟨g,k,e,y,q1,q2⟩:=dn v.1 (by omega) (by omega) z
     have ey:y=v.2:=by
      rw [fv] at q2
      exact ((yL hD).mp q2).symm
     subst ey
     have c:=(hg g k).2.2
     have hm:g∈G.filter (fun g=>decide (g.x=v.1)):=List.mem_filter.mpr ⟨k,decide_eq_true e⟩
     refine ⟨fun w=>(by rw [w] at hm; exact absurd hm (by simp)),-1,.inr rfl,fun g' k' => ?_,fun _=>.inl ?_⟩
     ·obtain ⟨k1,k2⟩:=mem2 k'
      rw [uni k1 k k2 e,zdA c.ok e q1,c.w]
     ·have:=t2 z; omega
    ·obtain ⟨g,k,e,y,q1,q2⟩:=up v.1 (by omega) (by omega) z
     have ey:y=v.2:=by
      rw [fv] at q2
      exact ((yL hD).mp q2).symm
     subst ey
     have c:=(hg g k).2.2
     have hm:g∈G.filter (fun g=>decide (g.x=v.1)):=List.mem_filter.mpr ⟨k,decide_eq_true e⟩
     refine ⟨fun w=>(by rw [w] at hm; exact absurd hm (by simp)),1,.inl rfl,fun g' k' => ?_,fun _=>.inl ?_⟩
     ·obtain ⟨k1,k2⟩:=mem2 k'
      rw [uni k1 k k2 e,zdB e q1,c.w]
     ·have:=t1 z; omega
theorem zli (p:Spot):mirS (mirS p)=p:=by
 obtain ⟨a,b⟩:=p
 simp [mirS]
theorem mirG2 (g:Gate):mirG (mirG g)=g:=by
 obtain ⟨a,b,c,d⟩:=g
 simp [mirG]
theorem zgA (l:List Spot):(l.map mirS).map mirS=l:=by
 rw [List.map_map]
 exact (List.map_congr_left fun x _=>zli x).trans (List.map_id l)
theorem zcB (l:List Gate):(l.map mirG).map mirG=l:=by
 rw [List.map_map]
 exact (List.map_congr_left fun x _=>mirG2 x).trans (List.map_id l)
theorem zid (z:Spot) (g:Gate):hand (mirS z) (mirG g) = -hand z g:=by
 unfold hand mirS mirG
 simp only
 by_cases a:g.x=z.1
 ·rw [if_neg (show ¬ (-g.x ≠ -z.1) by omega),if_neg (show ¬ (g.x≠z.1) by omega)]
  by_cases b:g.hi=some z.2
  ·rw [if_pos b,if_pos b]
  ·rw [if_neg b,if_neg b]
   by_cases c:g.lo=some z.2
   ·rw [if_pos c,if_pos c]
   ·rw [if_neg c,if_neg c]; rfl
 ·rw [if_pos (show -g.x ≠ -z.1 by omega),if_pos (show g.x≠z.1 by omega)]; rfl
theorem zkx (o z n:Spot):tn (mirS o) (mirS z) (mirS n) = -tn o z n:=by
 simp only [tn,crs,vec,mirS]
 grind
theorem zci (o z n:Spot):straight (mirS o) (mirS z) (mirS n)=straight o z n:=by
 rw [Bool.eq_iff_iff,yc,yc]
 simp only [mirS]
 constructor <;> rintro ⟨a,b⟩ <;> constructor <;> grind
theorem BendH.mir {o z n:Spot} {V:List Gate} (b:BendH o z n V):BendH (mirS o) (mirS z) (mirS n) (V.map mirG):=by
 obtain ⟨ne,t,ht,hh,one⟩:=b
 refine ⟨by simpa using ne,-t,by omega,fun g hg => ?_,fun l => ?_⟩
 ·obtain ⟨g',k,rfl⟩:=List.mem_map.mp hg
  rw [zid,hh g' k]
 ·rw [List.length_map] at l
  rw [zkx]
  rcases one l with k | ⟨k1,k2,k3⟩
  ·left
   rw [Int.neg_mul_neg]
   exact k
  ·right
   refine ⟨by omega,by simp only [mirS]; omega,fun g hg => ?_⟩
   obtain ⟨g',k,rfl⟩:=List.mem_map.mp hg
   exact k3 g' k
theorem EdgeOk.mir {p z:Spot} {E V:List Gate} (h:EdgeOk p E z V) (hx:p.1≠z.1):EdgeOk (mirS p) (E.map mirG) (mirS z) (V.map mirG):=by
 refine ⟨fun g hg => ?_,?_⟩
 ·obtain ⟨g',k,rfl⟩:=List.mem_map.mp hg
  obtain ⟨a,b⟩:=h.at_z g' k
  exact ⟨by simp only [mirG,mirS,a],b⟩
 ·rcases h.e with a | ⟨s,a⟩
  ·left
   refine ⟨by simp only [mirS]; omega,fun g hg => ?_,?_⟩
   ·obtain ⟨g',k,rfl⟩:=List.mem_map.mp hg
    obtain ⟨c1,c2,c3⟩:=a.cr g' k
    refine ⟨by unfold bw at c1 ⊢; simp only [mirS,mirG]; omega,fun y hy => ?_,fun y hy => ?_⟩
    ·have:=c2 y hy
     rw [←tz hx] at this
     exact this
    ·have:=c3 y hy
     rw [←tz hx] at this
     exact this
   ·rw [List.pairwise_map]
    refine a.pw.imp fun {g h} k => ?_
    simp only [mirG,mirS]
    have:(-h.x - -g.x)*(-z.1 - -p.1)=(h.x - g.x)*(z.1 - p.1):=by grind
    rw [this]
    exact k
  ·exact absurd a.x hx
theorem zi0 {w a b:Int} (h:0<w*(b - a)):a≠b:=fun q=>by rw [q,Int.sub_self,Int.mul_zero] at h; omega
theorem LA.mir {w:Int} {a:Spot} {l:List Spot} {G W:List Gate} (h:LA w a l G W):LA (-w) (mirS a) (l.map mirS) (G.map mirG) (W.map mirG):=by
 induction h with
 | @last a b E V k hw=>exact .last (k.mir (zi0 hw)) (by simp only [mirS]; rw [show -b.1 - -a.1 = -(b.1 - a.1) by omega,Int.neg_mul_neg]; exact hw)
 | @cons a v v' r E V G W k hw hk _ ih =>
   rw [List.map_append,List.map_append]
   refine .cons (k.mir (zi0 hw)) (by simp only [mirS]; rw [show -v.1 - -a.1 = -(v.1 - a.1) by omega,Int.neg_mul_neg]; exact hw) (fun s => ?_) ih
   rw [zci] at s
   exact (hk s).mir
structure LegIn (w:Int) (R:List Gate) (a b:Spot) (G W:List Gate):Prop where
 up:R.Pairwise Up
 ok:∀ g∈R,GateOk g
 ways:∀ g∈R,g.w=w
 dir:0<w*(b.1 - a.1)
 sub:∀ g∈G,g∈R
 all:∀ g∈R,w*g.x≤w*a.1∨g∈G∨w*b.1≤w*g.x
 bet:∀ g∈G,w*a.1<w*g.x∧w*g.x<w*b.1
 pw:G.Pairwise fun g h=>w*g.x<w*h.x
 atb:∀ g∈W,g.x=b.1∧Wi g b.2
theorem zeK {R:List Gate} {a b:Spot} {l:List Spot} {G W:List Gate} (L:LegIn 1 R a b G W) (h:Pul R a b l):LA 1 a l G W:=by
 have hab:a.1<b.1:=by have:=L.dir; omega
 obtain ⟨F,C,P⟩:=zcp (up_ok L.up L.ok) h hab
 refine zeM (zdD _) L.atb P (fun q=>by rw [q] at P; cases (show a=b from P); omega) (L.pw.imp fun {g h} k=>by omega) (fun g hg => ?_) (fun x x1 x2 d => ?_) (fun x x1 x2 d => ?_)
 ·have b1:=L.bet g hg
  have hR:=L.sub g hg
  exact ⟨by omega,by omega,L.ways g hR,L.ok g hR,C.lo g hR (by omega) (by omega),C.hi g hR (by omega) (by omega)⟩
 ·obtain ⟨g,hg,e,q⟩:=C.dn x x1 x2 d
  have:=L.all g hg
  exact ⟨g,by rcases this with k | k | k; omega; exact k; omega,e,q⟩
 ·obtain ⟨g,hg,e,q⟩:=C.up x x1 x2 d
  have:=L.all g hg
  exact ⟨g,by rcases this with k | k | k; omega; exact k; omega,e,q⟩
theorem zeL {w:Int} (hw:w=1∨w = -1) {R:List Gate} {a b:Spot} {l:List Spot} {G W:List Gate} (L:LegIn w R a b G W) (h:Pul R a b l):LA w a l G W:=by
 rcases hw with rfl | rfl
 ·exact zeK L h
 ·have M:LegIn 1 (R.map mirG) (mirS a) (mirS b) (G.map mirG) (W.map mirG):=by
   refine ⟨?_,fun g hg => ?_,fun g hg => ?_,?_,fun g hg => ?_,fun g hg => ?_,fun g hg => ?_,?_,fun g hg => ?_⟩
   ·rw [List.pairwise_map]
    refine List.Pairwise.imp_of_mem ?_ L.up
    intro g h hg hh u
    obtain ⟨u1,u2,u3⟩:=u
    have e1:=L.ways g hg
    have e2:=L.ways h hh
    refine ⟨by simp only [mirG]; omega,fun _ => ?_,fun q => ?_⟩
    ·simp only [mirG]
     have:=u3 (by omega)
     omega
    ·simp only [mirG] at q
     omega
   ·obtain ⟨g',k,rfl⟩:=List.mem_map.mp hg
    exact L.ok g' k
   ·obtain ⟨g',k,rfl⟩:=List.mem_map.mp hg
    simp only [mirG,L.ways g' k]
    rfl
   ·have:=L.dir
    simp only [mirS]
    omega
   ·obtain ⟨g',k,rfl⟩:=List.mem_map.mp hg
    exact List.mem_map.mpr ⟨g',L.sub g' k,rfl⟩
   ·obtain ⟨g',k,rfl⟩:=List.mem_map.mp hg
    simp only [mirG,mirS]
    rcases L.all g' k with q | q | q
    ·left; omega
    ·right; left; exact List.mem_map.mpr ⟨g',q,rfl⟩
    ·right; right; omega
   ·obtain ⟨g',k,rfl⟩:=List.mem_map.mp hg
    have:=L.bet g' k
    simp only [mirG,mirS]
    omega
   ·rw [List.pairwise_map]
    refine L.pw.imp fun {g h} k => ?_
    simp only [mirG]
    omega
   ·obtain ⟨g',k,rfl⟩:=List.mem_map.mp hg
    obtain ⟨e1,e2⟩:=L.atb g' k
    exact ⟨by simp only [mirG,mirS,e1],e2⟩
  have:=(zeK M (zjo zlg h)).mir
  rw [zli,zgA,zcB,zcB] at this
  exact this
structure Arr (o z:Spot) (V:List Gate) (h:Gate):Prop where
 hands:∃ t:Int,(t=1∨t = -1)∧∀ g∈V++[h],hand z g=t
 one:V=[]→o.1=z.1∧((o.2<z.2∧h.lo=some z.2)∨(z.2<o.2∧h.hi=some z.2))
theorem Arr.end {o z:Spot} {V:List Gate} {h:Gate} (a:Arr o z V h):h.x=z.1∧(h.lo=some z.2∨h.hi=some z.2):=by
 obtain ⟨t,ht,hh⟩:=a.hands
 have:=hh h (by simp)
 unfold hand at this
 by_cases c:h.x=z.1
 ·refine ⟨c,?_⟩
  rw [if_neg (fun q=>q c)] at this
  by_cases d:h.hi=some z.2
  ·exact .inr d
  ·rw [if_neg d] at this
   by_cases e:h.lo=some z.2
   ·exact .inl e
   ·rw [if_neg e] at this; omega
 ·rw [if_pos c] at this; omega
theorem EdgeOk.addV {p z:Spot} {E V:List Gate} {g:Gate} (h:EdgeOk p E z V) (k:g.x=z.1∧Wi g z.2):EdgeOk p E z (V++[g]):=by
 refine ⟨fun x hx => ?_,?_⟩
 ·rcases List.mem_append.mp hx with hx | hx
  ·exact h.at_z x hx
  ·rw [List.mem_singleton.mp hx]; exact k
 ·rcases h.e with a | ⟨s,a⟩
  ·exact .inl a
  ·refine .inr ⟨s,a.x,a.s1,a.up,a.vs,?_⟩
   obtain ⟨f,r,e,q⟩:=a.fst
   exact ⟨f,r++[g],by rw [e]; rfl,q⟩
theorem wi_lo {g:Gate} (ok:GateOk g) {y:Int} (h:g.lo=some y):Wi g y:=⟨fun l e=>by rw [h] at e; cases e; exact Int.le_refl _,fun u e=>Int.le_of_lt (ok _ _ h e)⟩
theorem wi_hi {g:Gate} (ok:GateOk g) {y:Int} (h:g.hi=some y):Wi g y:=⟨fun l e=>Int.le_of_lt (ok _ _ e h),fun u e=>by rw [h] at e; cases e; exact Int.le_refl _⟩
theorem wZ {h h':Gate} (tk:TurnOk h h'):∃ (s yu yv:Int),(s=1∨s = -1)∧zF h h'=((h.x,yu),(h.x,yv))∧s*yu≤s*yv∧nearE s h'=some yv∧nearE (-s) h=some yu:=by
 unfold zF
 by_cases z:yl h h'=true
 ·rw [if_pos z]
  unfold yl at z
  cases a:h.hi with
  | none=>rw [a] at z; cases z
  | some u =>
    cases b:h'.lo with
    | none=>rw [a,b] at z; cases z
    | some v =>
      rw [a,b] at z
      refine ⟨1,u,v,.inl rfl,rfl,?_,by simp [nearE,b],by simp [nearE,a]⟩
      have:=of_decide_eq_true z
      omega
 ·rw [if_neg z]
  rcases tk.one with ⟨u,v,e1,e2,l⟩ | ⟨u,v,e1,e2,l⟩
  ·unfold yl at z
   rw [e1,e2] at z
   exact absurd (decide_eq_true l) z
  ·rw [e1,e2]
   exact ⟨-1,v,u,.inr rfl,rfl,by omega,by simp [nearE,e1],by simp [nearE,e2]⟩
theorem vU {s:Int} (hs:s=1∨s = -1) {g:Gate} {y:Int} (h:nearE s g=some y):(s=1∧g.lo=some y)∨(s = -1∧g.hi=some y):=by
 rcases hs with rfl | rfl
 ·exact .inl ⟨rfl,by simpa [nearE] using h⟩
 ·exact .inr ⟨rfl,by simpa [nearE] using h⟩
theorem wQ {s:Int} (hs:s=1∨s = -1) {z:Spot} {g:Gate} (ok:GateOk g) (hx:g.x=z.1) (h:nearE s g=some z.2):hand z g = -(s*g.w):=by
 rcases vU hs h with ⟨rfl,k⟩ | ⟨rfl,k⟩
 ·rw [zdA ok hx k]; omega
 ·rw [zdB hx k]; omega
theorem zbo {s:Int} (hs:s=1∨s = -1) {g:Gate} (ok:GateOk g) {y:Int} (h:nearE s g=some y):Wi g y:=by
 rcases vU hs h with ⟨rfl,k⟩ | ⟨rfl,k⟩
 ·exact wi_lo ok k
 ·exact wi_hi ok k
theorem zks {x m z v:Int} (s:Int) (hs:s=1∨s = -1) (h1:s*m<s*v) (h2:s*z<s*v):SD (vec (x,m) (x,v)) (vec (x,z) (x,v)):=by
 refine ⟨s*(v - z),s*(v - m),by rw [Int.mul_sub]; omega,by rw [Int.mul_sub]; omega,?_,?_⟩
 ·simp only [vec,Int.sub_self,Int.mul_zero]
 ·simp only [vec]
  grind
theorem zc9 {s x a b c:Int} (hs:s=1∨s = -1) (h1:s*a<s*b) (h2:s*b<s*c):straight (x,a) (x,b) (x,c)=true:=by
 rw [yc]
 simp only [Int.sub_self,Int.zero_mul,Int.mul_zero,Int.zero_add,true_and]
 rcases hs with rfl | rfl
 ·exact Int.mul_pos (by omega) (by omega)
 ·have:=Int.mul_pos (show 0 < -(b - a) by omega) (show 0 < -(c - b) by omega)
  rw [Int.neg_mul_neg] at this
  exact this
theorem zda {o z n m:Spot} (h:SD (vec z n) (vec z m)):straight o z n=straight o z m:=by
 have c:=h.crs_r (vec o z)
 have d:0<dot (vec o z) (vec z n)↔0<dot (vec o z) (vec z m):=by
  obtain ⟨a,b,ha,hb,e1,e2⟩:=h
  have e:a*dot (vec o z) (vec z n)=b*dot (vec o z) (vec z m):=by
   simp only [dot]
   have f1:a*((vec o z).1*(vec z n).1)=(vec o z).1*(a*(vec z n).1):=by grind
   have f2:a*((vec o z).2*(vec z n).2)=(vec o z).2*(a*(vec z n).2):=by grind
   rw [Int.mul_add,f1,f2,e1,e2]
   grind
  rw [←zK ha,e,zK hb]
 rw [Bool.eq_iff_iff,xS,xS]
 constructor <;> rintro ⟨k1,k2⟩
 ·exact ⟨by omega,d.mp k2⟩
 ·exact ⟨by omega,d.mpr k2⟩
theorem zjk {s a b:Int} (hs:s=1∨s = -1) (h:s*a≤s*b) (n:a≠b):s*a<s*b:=by
 rcases hs with rfl | rfl <;> omega
theorem zkE {s a b c:Int} (hs:s=1∨s = -1) (h1:s*a≤s*b) (h2:s*b≤s*c) (e:a=c):a=b:=by
 rcases hs with rfl | rfl <;> omega
theorem sg_pm {s w w':Int} (hs:s=1∨s = -1) (hw:w=1∨w = -1) (e:w' = -w) : -(s*w')=1 ∨ -(s*w') = -1:=by
 rcases hs with rfl | rfl <;> omega
theorem ziI {a b:Int}:(1*a<1*b→a<b)∧(-1*a < -1*b→b<a):=by omega
theorem zfO {h h':Gate} (tk:TurnOk h h') (ok:GateOk h') (w2:h'.w = -h.w) (w1:h.w=1∨h.w = -1) {p o z:Spot} {E V:List Gate} {need:Spot→Prop} (s:St p o z E (V++[h])) (hands:∃ t:Int,(t=1∨t = -1)∧∀ g∈V++[h],hand z g=t) (okh:GateOk h)
 (hz:h.x=z.1) (hneed:∀ x,SD (vec p x) (vec p z)→need x) (ord:∀ s yu:Int,(s=1∨s = -1)→nearE (-s) h=some yu→(zF h h').1.2=yu→s*z.2≤s*yu)
 (bend:∀ (s:Int) (v:Spot),(s=1∨s = -1)→v=(zF h h').2→nearE (-s) h=some (zF h h').1.2→v.1=z.1→s*z.2<s*v.2→¬ straight o z v=true→BendH o z v (V++[h])) {T':List Spot} {e:Spot} {G':List Gate}
 (IH:∀ {p o z:Spot} {E V:List Gate} {need:Spot→Prop},St p o z E (V++[h'])→Arr o z V h'→(∀ x,SD (vec p x) (vec p z)→need x)→z=(zF h h').2→∃ L,AOk p need L∧yN L=bnd (some o) z T'++[e]∧xI L=E++V++G') :
 ∃ L,AOk p need L∧yN L=bnd (some o) z ((zF h h').1::(zF h h').2::T')++[e]∧xI L=E++(V++[h])++G':=by
 obtain ⟨sg,yu,yv,hs,et,le,n1,n2⟩:=wZ tk
 rw [et] at bend IH ord ⊢
 have hx':h'.x=h.x:=tk.x.symm
 have o1:=ord sg yu hs n2 rfl
 obtain ⟨zx,zy⟩:=z
 simp only at hz o1 bend IH ⊢
 subst hz
 by_cases c:zy=yv
 ·have c2:zy=yu:=zkE hs o1 le c
  subst c
  subst c2
  rw [v9,v9]
  obtain ⟨t,ht,hh⟩:=hands
  have a1:hand (h.x,zy) h=t:=hh h (by simp)
  have a2:=wQ (s := -sg) (by omega) (z:=(h.x,zy)) okh rfl n2
  have a3:=wQ hs (z:=(h.x,zy)) ok hx' n1
  exact IH (V:=V++[h]) ⟨s.e.addV ⟨hx',zbo hs ok n1⟩,s.d,s.ne⟩ ⟨⟨t,ht,fun g hg=>by
   rcases List.mem_append.mp hg with hg | hg
   ·exact hh g hg
   ·rw [List.mem_singleton.mp hg,a3,w2]
    rw [a2] at a1
    rw [←a1,Int.mul_neg,Int.neg_mul]⟩,fun q=>by simp at q⟩ hneed rfl
 ·have lt:sg*zy<sg*yv:=zjk hs (Int.le_trans o1 le) c
  have nzv:((h.x,zy):Spot)≠(h.x,yv):=fun q=>c (congrArg Prod.snd q)
  obtain ⟨my,hm1,hm2⟩:∃ my,sg*my<sg*yv∧bnd (some o) (h.x,zy) ((h.x,yu)::(h.x,yv)::T')=co (some o) [(h.x,zy),(h.x,yv)]++bnd (some (h.x,my)) (h.x,yv) T':=by
   by_cases c1:zy=yu
   ·subst c1
    exact ⟨zy,lt,by rw [v9,xV nzv]⟩
   ·have n3:((h.x,zy):Spot)≠(h.x,yu):=fun q=>c1 (congrArg Prod.snd q)
    by_cases c2:yu=yv
    ·subst c2
     exact ⟨zy,lt,by rw [xV n3,v9]⟩
    ·have n4:((h.x,yu):Spot)≠(h.x,yv):=fun q=>c2 (congrArg Prod.snd q)
     have l1:sg*zy<sg*yu:=zjk hs o1 c1
     have l2:sg*yu<sg*yv:=zjk hs le c2
     refine ⟨yu,l2,?_⟩
     rw [xV n3,xV n4,zbY,zbY,zbY,if_pos (zc9 hs l1 l2),List.nil_append]
     have:straight o (h.x,zy) (h.x,yu)=straight o (h.x,zy) (h.x,yv):=by
      refine zda ?_
      refine ⟨sg*(yv - zy),sg*(yu - zy),by rw [Int.mul_sub]; omega,by rw [Int.mul_sub]; omega,?_,?_⟩
      ·simp only [vec,Int.sub_self,Int.mul_zero]
      ·simp only [vec]; grind
     rw [this]
  rw [hm2]
  have kE:EdgeOk (h.x,zy) [] (h.x,yv) [h']:=by
   refine ⟨fun g hg => ?_,.inr ⟨sg,rfl,hs,lt,trivial,h',[],rfl,n1⟩⟩
   rw [List.mem_singleton.mp hg]
   exact ⟨hx',zbo hs ok n1⟩
  have f:Fut (h.x,yv) (h.x,zy) [] [h'] (bnd (some (h.x,my)) (h.x,yv) T'++[e]) G':=by
   intro p' need' E' st hn
   rw [List.append_nil] at st
   obtain ⟨L,A,e1,e2⟩:=IH (p:=p') (o:=(h.x,my)) (z:=(h.x,yv)) (E:=E') (V:=[]) (need:=need') ⟨by simpa using st.e,(zks sg hs hm1 lt).trans st.d,fun q=>by
    have:=congrArg Prod.snd q
    simp only at this
    rw [this] at hm1
    omega⟩ ⟨⟨-(sg*h'.w),sg_pm hs w1 w2,fun g hg=>by
    have hg':g=h':=by simpa using hg
    rw [hg']
    exact wQ hs ok hx' n1⟩,fun _=>⟨rfl,by
    rcases vU hs n1 with ⟨q1,q2⟩ | ⟨q1,q2⟩
    ·rw [q1] at hm1
     exact .inl ⟨ziI.1 hm1,q2⟩
    ·rw [q1] at hm1
     exact .inr ⟨ziI.2 hm1,q2⟩⟩⟩ hn rfl
   exact ⟨L,A,e1,by rw [e2]⟩
  obtain ⟨L,A,e1,e2⟩:=zjQ s hneed kE (fun _=>rfl) (bend sg (h.x,yv) hs rfl n2 rfl lt) f
  refine ⟨L,A,?_,by rw [e2]; simp⟩
  rw [e1,List.append_assoc]
noncomputable def zaS (e:Spot):List (List Gate)→Prop
 | []=>True
 | [R]=>0<(zD R).w*(e.1 - (zD R).x)
 | _::S::rs=>zaS e (S::rs)
theorem zbu {a b:Gate} {w:Int} (hw:w=1∨w = -1) (ha:a.w=w) (u:Up a b):w*a.x<w*b.x:=by
 obtain ⟨_,u1,u2⟩:=u
 rcases hw with rfl | rfl
 ·have:=u1 ha; omega
 ·have:=u2 (by omega); omega
theorem zbt {h:Gate} {R:List Gate} (u:(h::R).Pairwise Up):∀ g∈h::R,g.w=h.w:=by
 intro g hg
 rcases List.mem_cons.mp hg with rfl | hg
 ·rfl
 ·exact ((List.pairwise_cons.mp u).1 g hg).1.symm
theorem we (R:List Gate) (t:Gate):zD (R++[t])=t:=by
 unfold zD
 rw [List.getLastD_eq_getLast?,List.getLast?_concat]
 rfl
theorem ze0 {o z v:Spot} {V:List Gate} {h:Gate} {w:Int} (hw:w=1∨w = -1) (a:Arr o z V h) (ok:GateOk h) (e:h.w=w) (d:0<w*(v.1 - z.1)):BendH o z v (V++[h]):=by
 obtain ⟨t,ht,hh⟩:=a.hands
 obtain ⟨hx,_⟩:=a.end
 refine ⟨by simp,t,ht,hh,fun l => ?_⟩
 have hV:V=[]:=by
  rw [List.length_append] at l
  simp at l
  exact l
 left
 obtain ⟨ox,k⟩:=a.one hV
 have th:=hh h (by simp)
 have et:tn o z v = -((z.2 - o.2)*(v.1 - z.1)):=by
  simp only [tn,crs,vec]
  rw [ox,Int.sub_self,Int.zero_mul,Int.zero_sub]
 rw [et]
 rcases k with ⟨k1,k2⟩ | ⟨k1,k2⟩
 ·rw [zdA ok hx k2,e] at th
  rw [←th]
  have:=Int.mul_pos (show 0<z.2 - o.2 by omega) d
  have q : -((z.2 - o.2)*(v.1 - z.1)) * -w=(z.2 - o.2)*(w*(v.1 - z.1)):=by grind
  rw [q]
  exact this
 ·rw [zdB hx k2,e] at th
  rw [←th]
  have:=Int.mul_pos (show 0<o.2 - z.2 by omega) d
  have q : -((z.2 - o.2)*(v.1 - z.1))*w=(o.2 - z.2)*(w*(v.1 - z.1)):=by grind
  rw [q]
  exact this
theorem zki {o z v:Spot} {V:List Gate} {h:Gate} {s:Int} (hs:s=1∨s = -1) (a:Arr o z V h) (ok:GateOk h) (vx:v.1=z.1) (d:s*z.2<s*v.2) (ns:¬ straight o z v=true):BendH o z v (V++[h]):=by
 obtain ⟨t,ht,hh⟩:=a.hands
 refine ⟨by simp,t,ht,hh,fun l => ?_⟩
 have hV:V=[]:=by
  rw [List.length_append] at l
  simp at l
  exact l
 subst hV
 obtain ⟨ox,k⟩:=a.one rfl
 right
 have et:tn o z v=0:=by
  simp only [tn,crs,vec]
  rw [ox,vx,Int.sub_self,Int.zero_mul,Int.mul_zero,Int.sub_self]
 refine ⟨et,ox,fun g hg => ?_⟩
 have hg':g=h:=by simpa using hg
 subst hg'
 obtain ⟨o1,o2⟩:=o
 obtain ⟨z1,z2⟩:=z
 obtain ⟨v1,v2⟩:=v
 simp only at ox vx k d ns ⊢
 subst ox
 subst vx
 rcases k with ⟨k1,k2⟩ | ⟨k1,k2⟩
 ·rw [if_pos k2]; omega
 ·rw [if_neg fun q=>by have:=ok _ _ q k2; omega]; omega
theorem zeQ (w:Int) (e:Spot):Fin w e [] [] e []:=fun p m need E st hn _=>⟨[(E,e,[])],⟨st.e,hn e (SD.refl _),rfl⟩,rfl,by simp [xI]⟩
noncomputable def Go (e:Spot) (h:Gate) (v:Spot) (T':List Spot) (G':List Gate):Prop:=∀ {p o z:Spot} {E V:List Gate} {need:Spot→Prop},St p o z E (V++[h])→Arr o z V h→(∀ x,SD (vec p x) (vec p z)→need x)→z=v→∃ L,AOk p need L∧yN L=bnd (some o) z T'++[e]∧xI L=E++V++G'
theorem pm2 {s w:Int} (hs:s=1∨s = -1) (hw:w=1∨w = -1):s*w=1∨s*w = -1:=by
 rcases hs with rfl | rfl <;> omega
theorem zeP {t h':Gate} (tk:TurnOk t h') (ok:GateOk h') (okt:GateOk t) (w1:t.w=1∨t.w = -1) (w2:h'.w = -t.w) {e:Spot} {T':List Spot} {G':List Gate} (IH:Go e h' (zF t h').2 T' G'):Fin t.w (zF t h').1 [t] ((zF t h').2::T') e ([t]++G'):=by
 intro p m need E st hn hd
 have u1:(zF t h').1.1=t.x:=by unfold zF; split <;> rfl
 obtain ⟨s0,yu,yv,hs0,et,_,_,n2⟩:=wZ tk
 have hyu:(zF t h').1.2=yu:=by rw [et]
 have h1:hand (zF t h').1 t=s0*t.w:=by
  rw [wQ (s := -s0) (by omega) okt u1.symm (by rw [hyu]; exact n2),Int.neg_mul,Int.neg_neg]
 obtain ⟨L,A,e1,e2⟩:=zfO tk ok w2 w1 (p:=p) (o:=m) (z:=(zF t h').1) (E:=E) (V:=[]) (need:=need) (by simpa using st) ⟨s0*t.w,pm2 hs0 w1,fun g hg=>by
  have hg':g=t:=by simpa using hg
  rw [hg',h1]⟩ okt u1.symm hn (fun s y _ _ q=>by rw [q]; exact Int.le_refl _) (fun s v hs ev ne vx lt _=>by
  have h2:hand (zF t h').1 t=s*t.w:=by
   rw [wQ (s := -s) (by omega) okt u1.symm ne,Int.neg_mul,Int.neg_neg]
  refine ⟨by simp,s*t.w,pm2 hs w1,fun g hg=>by
   have hg':g=t:=by simpa using hg
   rw [hg',h2],fun _=>.inl ?_⟩
  have et:tn m (zF t h').1 v=((zF t h').1.1 - m.1)*(v.2 - (zF t h').1.2):=by
   simp only [tn,crs,vec]
   rw [vx,Int.sub_self,Int.mul_zero,Int.sub_zero]
  rw [et]
  have:=Int.mul_pos hd (show 0<s*(v.2 - (zF t h').1.2) by rw [Int.mul_sub]; omega)
  have q:((zF t h').1.1 - m.1)*(v.2 - (zF t h').1.2)*(s*t.w)=t.w*((zF t h').1.1 - m.1)*(s*(v.2 - (zF t h').1.2)):=by grind
  rw [q]
  exact this) (T':=T') (e:=e) (G':=G') IH
 rw [v9] at e1
 exact ⟨L,A,e1,by rw [e2]; simp⟩
theorem zbp {a b:Gate} (h1:a.w=1∨a.w = -1) (h2:b.w=1∨b.w = -1) (n:a.w≠b.w):b.w = -a.w:=by omega
theorem vR {run:List Gate} {a b:Spot} {l:List Spot} (h:Pul run a b l):l.getLast?=some b:=by
 obtain ⟨m,rfl,_⟩:=vQ h
 exact List.getLast?_concat
theorem zeH {R:List Gate} {t:Gate} {a b:Spot} (u:(R++[t]).Pairwise Up) (ok:∀ g∈R++[t],GateOk g) (w1:t.w=1∨t.w = -1) {G:List Gate} (hG:∀ g∈R,t.w*g.x≤t.w*a.1∨g∈G) (sub:∀ g∈G,g∈R∧t.w*a.1<t.w*g.x) (pw:G.Pairwise Up) (hd:t.w*a.1<t.w*t.x) (hb:b.1=t.x) (wb:Wi t b.2):LegIn t.w (R++[t]) a b G [t]:=by
 have hall:∀ g∈R,Up g t:=fun g hg=>(List.pairwise_append.mp u).2.2 g hg t (by simp)
 have hw:∀ g∈R++[t],g.w=t.w:=fun g hg=>by
  rcases List.mem_append.mp hg with hg | hg
  ·exact (hall g hg).1
  ·rw [List.mem_singleton.mp hg]
 refine ⟨u,ok,hw,by rw [Int.mul_sub,hb]; omega,fun g hg=>by simp [(sub g hg).1],fun g hg => ?_,fun g hg => ?_,?_,fun g hg => ?_⟩
 ·rcases List.mem_append.mp hg with hg | hg
  ·exact (hG g hg).imp id .inl
  ·rw [List.mem_singleton.mp hg,hb]
   exact .inr (.inr (Int.le_refl _))
 ·obtain ⟨k1,k2⟩:=sub g hg
  refine ⟨k2,?_⟩
  rw [hb]
  exact zbu w1 (hw g (by simp [k1])) (hall g k1)
 ·refine List.Pairwise.imp_of_mem ?_ pw
  intro g h hg hh k
  exact zbu w1 (hw g (by simp [(sub g hg).1])) k
 ·rw [List.mem_singleton.mp hg]
  exact ⟨hb.symm,wb⟩
theorem zgF {R:List Gate} {a e:Spot} {w:Int} (w1:w=1∨w = -1) (u:R.Pairwise Up) (ok:∀ g∈R,GateOk g) (hw:∀ g∈R,g.w=w) {G:List Gate} (hG:∀ g∈R,w*g.x≤w*a.1∨g∈G) (sub:∀ g∈G,g∈R∧w*a.1<w*g.x) (pw:G.Pairwise Up) (hd:w*a.1<w*e.1) (he:∀ g∈R,w*g.x<w*e.1):LegIn w R a e G []:=by
 refine ⟨u,ok,hw,by rw [Int.mul_sub]; omega,fun g hg=>(sub g hg).1,fun g hg=>(hG g hg).imp id .inl,fun g hg=>⟨(sub g hg).2,he g (sub g hg).1⟩,?_,fun g hg=>by simp at hg⟩
 refine List.Pairwise.imp_of_mem ?_ pw
 intro g h hg hh k
 exact zbu w1 (hw g (sub g hg).1) k
theorem zbw {R:List Gate} (h:R≠[]):∃ R' t,R=R'++[t]:=⟨R.dropLast,R.getLast h,(List.dropLast_concat_getLast h).symm⟩
theorem zg0 {R:List Gate} {e:Spot} {w:Int} (w1:w=1∨w = -1) (hne:R≠[]) (u:R.Pairwise Up) (hw:∀ g∈R,g.w=w) (h:0<(zD R).w*(e.1 - (zD R).x)):∀ g∈R,w*g.x<w*e.1:=by
 obtain ⟨R',t,rfl⟩:=zbw hne
 rw [we] at h
 rw [hw t (by simp),Int.mul_sub] at h
 intro g hg
 rcases List.mem_append.mp hg with hg' | hg'
 ·have:=zbu w1 (hw g hg) ((List.pairwise_append.mp u).2.2 g hg' t (by simp))
  omega
 ·rw [List.mem_singleton.mp hg']
  omega
theorem zf3 {e:Spot}:∀ (rs:List (List Gate)) (h:Gate) (R':List Gate),Spl ((h::R')::rs)→(∀ R∈(h::R')::rs,∀ g∈R,GateOk g∧(g.w=1∨g.w = -1))→zaS e ((h::R')::rs)→∀ (z:Spot) (T:List Spot),Tot z (uT ((h::R')::rs) e) T→Go e h z T (h::R'++rs.flatten)
 | [],h,R',sp,gk,he,z0,T,tt=>by
   rename_i p o z E V need
   intro st a hn hz
   subst hz
   obtain ⟨_,u⟩:=sp
   have hw:=zbt u
   have gh:=gk (h::R') (by simp) h (by simp)
   have ends:=zg0 gh.2 (by simp) u hw he
   obtain ⟨hx,_⟩:=a.end
   cases tt with
   | cons P t =>
     cases t
     rw [List.append_nil]
     have la:=zeL gh.2 (zgF (a:=z) (G:=R') gh.2 u (fun g hg=>(gk _ (by simp) g hg).1) hw (fun g hg=>by
      rcases List.mem_cons.mp hg with rfl | hg
      ·left; rw [hx]; exact Int.le_refl _
      ·exact .inr hg) (fun g hg=>⟨by simp [hg],by rw [←hx]; exact zbu gh.2 rfl ((List.pairwise_cons.mp u).1 g hg)⟩) (List.pairwise_cons.mp u).2 (by rw [←hx]; exact ends h (by simp)) ends) P
     obtain ⟨L,A,e1,e2⟩:=zgE (zeQ h.w e) la (vR P) st hn (fun v _ hv _=>ze0 gh.2 a gh.1 rfl hv)
     rw [List.append_nil] at e1
     exact ⟨L,A,e1,by rw [e2]; simp⟩
 | S::rs,h,R',sp,gk,he,z0,T,tt=>by
   obtain ⟨hne,u,nw,tk,sp'⟩:=sp
   have hS:S≠[]:=(zbv sp' S (by simp)).1
   obtain ⟨h',S',rfl⟩:∃ h' S',S=h'::S':=by
    cases S with
    | nil=>exact absurd rfl hS
    | cons a b=>exact ⟨a,b,rfl⟩
   have ih:=zf3 rs h' S' sp' (fun R hR=>gk R (List.mem_cons_of_mem _ hR)) he
   rename_i p o z E V need
   intro st a hn hz
   subst hz
   have hw:=zbt u
   have gh:=gk (h::R') (by simp) h (by simp)
   have gh':=gk (h'::S') (by simp) h' (by simp)
   obtain ⟨hx,hend⟩:=a.end
   have hh':wP (h'::S')=h':=rfl
   rw [hh'] at nw tk
   cases tt with
   | cons P t =>
     cases t with
     | cons P2 t =>
       rw [hh'] at P P2 t
       have l2:=zga P2 (by rw [(show ∀ g k:Gate,(zF g k).1.1=g.x from fun g k=>by unfold zF; split <;> rfl),(show ∀ g k:Gate,(zF g k).2.1=g.x from fun g k=>by unfold zF; split <;> rfl)])
       subst l2
       cases R' with
       | nil =>
         have el:zD [h]=h:=rfl
         rw [el] at nw tk P P2 t
         have w2:=zbp gh.2 gh'.2 nw
         have l1:=zga P (by rw [(show ∀ g k:Gate,(zF g k).1.1=g.x from fun g k=>by unfold zF; split <;> rfl)]; exact hx.symm)
         subst l1
         obtain ⟨L,A,e1,e2⟩:=zfO tk gh'.1 w2 gh.2 st a.hands gh.1 hx hn (fun s yu hs ne _=>by
          rcases hs with rfl | rfl
          ·have k:h.hi=some yu:=by simpa [nearE] using ne
           rcases hend with q | q
           ·have:=gh.1 _ _ q k; omega
           ·rw [q] at k; cases k; exact Int.le_refl _
          ·have k:h.lo=some yu:=by simpa [nearE] using ne
           rcases hend with q | q
           ·rw [q] at k; cases k; exact Int.le_refl _
           ·have:=gh.1 _ _ k q; omega) (fun s v hs _ _ vx lt ns=>zki hs a gh.1 vx lt ns) (ih _ _ t)
         exact ⟨L,A,e1,by rw [e2]; simp⟩
       | cons g1 R1 =>
         obtain ⟨R2,t1,e2⟩:=zbw (show g1::R1≠[] by simp)
         rw [e2] at gk hw u nw tk P P2 t ⊢
         have el:zD (h::(R2++[t1]))=t1:=we (h::R2) t1
         rw [el] at nw tk P P2 t ⊢
         have gt:=gk (h::(R2++[t1])) (by simp) t1 (by simp)
         have et:t1.w=h.w:=hw t1 (by simp)
         have w2:=zbp gt.2 gh'.2 nw
         obtain ⟨s0,yu,yv,hs0,eT,_,_,n2⟩:=wZ tk
         have ux:(zF t1 h').1.1=t1.x:=by rw [eT]
         have lg:=zeH (R:=h::R2) (t:=t1) (a:=z) (b:=(zF t1 h').1) (G:=R2) u (fun g hg=>(gk _ (by simp) g hg).1) gt.2 (fun g hg=>by
          rcases List.mem_cons.mp hg with rfl | hg
          ·left; rw [hx]; exact Int.le_refl _
          ·exact .inr hg) (fun g hg=>⟨by simp [hg],by rw [←hx,et]; exact zbu gh.2 rfl ((List.pairwise_cons.mp u).1 g (by simp [hg]))⟩) ((List.pairwise_append.mp (List.pairwise_cons.mp u).2).1) (by rw [←hx,et]; exact zbu gh.2 rfl ((List.pairwise_cons.mp u).1 t1 (by simp))) ux (by
           rw [eT]
           exact zbo (s := -s0) (by omega) gt.1 n2)
         have la:=zeL gt.2 lg P
         obtain ⟨L,A,e1,e3⟩:=zgE (zeP tk gh'.1 gt.1 gt.2 w2 (ih _ _ t)) la (vR P) st hn (fun v _ hv _=>ze0 gh.2 a gh.1 rfl (by rw [←et]; exact hv))
         exact ⟨L,A,e1,by rw [e3]; simp⟩
theorem zco {s e:Spot} {row:List Gate} {out:List Spot} (hne:row≠[]) (w:Walk row) (gk:∀ g∈row,GateOk g∧(g.w=1∨g.w = -1)) (hs:0<(wP row).w*((wP row).x - s.1)) (he:0<(zD row).w*(e.1 - (zD row).x)) (h:zb9 s (xm row) e out) :
 ∃ L,AOk s (fun _=>True) L∧out=s::yN L∧xI L=row:=by
 obtain ⟨T,tt,rfl⟩:=h
 have sp:=tp row w
 have fl:=vN row
 obtain ⟨h0,r0,rfl⟩:∃ h0 r0,row=h0::r0:=by
  cases row with
  | nil=>exact absurd rfl hne
  | cons a b=>exact ⟨a,b,rfl⟩
 obtain ⟨R1,rs,er⟩:=vM h0 r0
 rw [er] at tt sp fl
 have gk':∀ R∈(h0::R1)::rs,∀ g∈R,GateOk g∧(g.w=1∨g.w = -1):=fun R hR g hg=>gk g (by rw [←fl]; exact List.mem_flatten.mpr ⟨R,hR,hg⟩)
 have hend:∀ (rs:List (List Gate)) (R:List Gate),(∀ Q∈R::rs,Q≠[])→(R::rs).flatten≠[]→0<(zD (R::rs).flatten).w*(e.1 - (zD (R::rs).flatten).x)→zaS e (R::rs):=by
  intro rs
  induction rs with
  | nil =>
    intro R _ _ k
    simpa [zaS] using k
  | cons S rs ih =>
    intro R hq _ k
    show zaS e (S::rs)
    have hS:(S::rs).flatten≠[]:=by
     have:=hq S (by simp)
     simp [this]
    refine ih S (fun Q hQ=>hq Q (List.mem_cons_of_mem _ hQ)) hS ?_
    obtain ⟨m,t,em⟩:=zbw hS
    have:(R::S::rs).flatten=R++m++[t]:=by rw [List.flatten_cons,em,List.append_assoc]
    rw [this,we] at k
    rw [em,we]
    exact k
 have hE:=hend rs (h0::R1) (fun Q hQ=>(zbv sp Q hQ).1) (by simp) (by rw [fl]; exact he)
 have hh:wP (h0::r0)=h0:=rfl
 rw [hh] at hs
 have g0:=gk' (h0::R1) (by simp) h0 (by simp)
 cases rs with
 | nil =>
   obtain ⟨_,u⟩:=sp
   have hw:=zbt u
   have ends:=zg0 g0.2 (by simp) u hw hE
   have s0:h0.w*s.1<h0.w*h0.x:=by rw [Int.mul_sub] at hs; omega
   cases tt with
   | cons P t =>
     cases t
     rw [List.append_nil]
     have la:=zeL g0.2 (zgF (a:=s) (G:=h0::R1) g0.2 u (fun g hg=>(gk' _ (by simp) g hg).1) hw (fun g hg=>.inr hg) (fun g hg=>⟨hg,by
      rcases List.mem_cons.mp hg with rfl | hg
      ·exact s0
      ·have:=zbu g0.2 rfl ((List.pairwise_cons.mp u).1 g hg); omega⟩) u (Int.lt_trans s0 (ends h0 (by simp))) ends) P
     obtain ⟨L,A,e1,e2⟩:=zcD (zeQ h0.w e) la (vR P)
     rw [List.append_nil] at e1
     refine ⟨L,A,by rw [e1],?_⟩
     rw [e2,←fl]
     simp
 | cons S rs =>
   obtain ⟨_,u,nw,tk,sp'⟩:=sp
   have hS:S≠[]:=(zbv sp' S (by simp)).1
   obtain ⟨h',S',rfl⟩:∃ h' S',S=h'::S':=by
    cases S with
    | nil=>exact absurd rfl hS
    | cons a b=>exact ⟨a,b,rfl⟩
   have ih:=zf3 rs h' S' sp' (fun R hR=>gk' R (List.mem_cons_of_mem _ hR)) hE
   have hw:=zbt u
   have gh':=gk' (h'::S') (by simp) h' (by simp)
   have hh':wP (h'::S')=h':=rfl
   rw [hh'] at nw tk
   cases tt with
   | cons P t =>
     cases t with
     | cons P2 t =>
       rw [hh'] at P P2 t
       have l2:=zga P2 (by rw [(show ∀ g k:Gate,(zF g k).1.1=g.x from fun g k=>by unfold zF; split <;> rfl),(show ∀ g k:Gate,(zF g k).2.1=g.x from fun g k=>by unfold zF; split <;> rfl)])
       subst l2
       obtain ⟨R2,t1,e2⟩:=zbw (show h0::R1≠[] by simp)
       have m0:h0∈R2++[t1]:=by rw [←e2]; simp
       have hfst:∀ g∈R2++[t1],h0.w*s.1<h0.w*g.x:=fun g hg=>by
        have s0:h0.w*s.1<h0.w*h0.x:=by rw [Int.mul_sub] at hs; omega
        rw [←e2] at hg
        rcases List.mem_cons.mp hg with rfl | hg
        ·exact s0
        ·have:=zbu g0.2 rfl ((List.pairwise_cons.mp u).1 g hg); omega
       rw [e2] at gk' hw u nw tk P P2 t fl ⊢
       have el:zD (R2++[t1])=t1:=we R2 t1
       rw [el] at nw tk P P2 t ⊢
       have gt:=gk' (R2++[t1]) (by simp) t1 (by simp)
       have et:t1.w=h0.w:=hw t1 (by simp)
       have w2:=zbp gt.2 gh'.2 nw
       obtain ⟨s0,yu,yv,hs0,eT,_,_,n2⟩:=wZ tk
       have ux:(zF t1 h').1.1=t1.x:=by rw [eT]
       have lg:=zeH (R:=R2) (t:=t1) (a:=s) (b:=(zF t1 h').1) (G:=R2) u (fun g hg=>(gk' _ (by simp) g hg).1) gt.2 (fun g hg=>.inr hg) (fun g hg=>⟨hg,by rw [et]; exact hfst g (by simp [hg])⟩) (List.pairwise_append.mp u).1 (by rw [et]; exact hfst t1 (by simp)) ux (by
        rw [eT]
        exact zbo (s := -s0) (by omega) gt.1 n2)
       have la:=zeL gt.2 lg P
       obtain ⟨L,A,e1,e3⟩:=zcD (zeP tk gh'.1 gt.1 gt.2 w2 (ih _ _ t)) la (vR P)
       refine ⟨L,A,by rw [e1]; simp,?_⟩
       rw [e3,←fl]
       simp
theorem ag0 (a b c d:D):atI [a,b,c,d] 0=some a:=rfl
theorem ag1 (a b c d:D):atI [a,b,c,d] 1=some b:=rfl
theorem ag2 (a b c d:D):atI [a,b,c,d] 2=some c:=rfl
noncomputable def wE (R:List Gate) (a b:Spot):List Gate :=
 if a.1<b.1 then R.filter fun l=>decide (a.1<l.x)&&decide (l.x<b.1) else R.reverse.filter fun l=>decide (b.1<l.x)&&decide (l.x<a.1)
theorem vd {R:List Gate} {a b:Spot} {g:Gate}:g∈wE R a b↔g∈R∧bw a b g.x:=by
 unfold wE bw
 split
 ·rw [List.mem_filter,Bool.and_eq_true,decide_eq_true_eq,decide_eq_true_eq]
  refine and_congr_right fun _ => ?_
  lia
 ·rw [List.mem_filter,List.mem_reverse,Bool.and_eq_true,decide_eq_true_eq,decide_eq_true_eq]
  refine and_congr_right fun _ => ?_
  lia
noncomputable def beyV (a b:Spot) (g:Gate):List (Int×Spot):=(match g.lo with | some y=>[(yS a b (g.x,y),(g.x,y))] | none=>[])++(match g.hi with | some y=>[(-yS a b (g.x,y),(g.x,y))] | none=>[])
theorem zb4 {a b:Spot} {g:Gate} {d:Int} {p:Spot}:(d,p)∈beyV a b g↔Bey a b g p d:=by
 unfold beyV Bey
 rw [List.mem_append]
 constructor
 ·rintro (h | h)
  ·split at h
   ·rename_i y e
    simp only [List.mem_singleton,Prod.mk.injEq] at h
    obtain ⟨rfl,rfl⟩:=h
    exact ⟨rfl,.inl ⟨e,rfl⟩⟩
   ·simp at h
  ·split at h
   ·rename_i y e
    simp only [List.mem_singleton,Prod.mk.injEq] at h
    obtain ⟨rfl,rfl⟩:=h
    exact ⟨rfl,.inr ⟨e,rfl⟩⟩
   ·simp at h
 ·obtain ⟨p1,p2⟩:=p
  rintro ⟨e,⟨h1,h2⟩ | ⟨h1,h2⟩⟩
  ·left
   simp only at e h1
   subst e h2
   rw [h1]
   simp
  ·right
   simp only at e h1
   subst e h2
   rw [h1]
   simp
noncomputable def wq (st:Option Spot×Int) (q:Int×Spot):Option Spot×Int:=if st.2<q.1 then (some q.2,q.1) else st
noncomputable def farV (R:List Gate) (a b:Spot):Option Spot:=(((wE R a b).flatMap (beyV a b)).foldl wq (none,0)).1
theorem zbP:∀ (l:List (Int×Spot)) (st:Option Spot×Int),st.2≤(l.foldl wq st).2∧(∀ q∈l,q.1≤(l.foldl wq st).2)∧(l.foldl wq st=st∨∃ q∈l,st.2<q.1∧l.foldl wq st=(some q.2,q.1))
 | [],st=>⟨Int.le_refl _,by simp,.inl rfl⟩
 | q::l,st=>by
   obtain ⟨h1,h2,h3⟩:=zbP l (wq st q)
   rw [List.foldl_cons]
   unfold wq at h1 h3 ⊢
   by_cases z:st.2<q.1
   ·simp only [z,if_true] at h1 h2 h3 ⊢
    refine ⟨by lia,fun r hr => ?_,.inr ?_⟩
    ·rcases List.mem_cons.mp hr with rfl | hr
     ·exact h1
     ·have:=h2 r hr
      unfold wq at this
      simpa [z] using this
    ·rcases h3 with e | ⟨r,hr,lt,e⟩
     ·exact ⟨q,by simp,z,e⟩
     ·exact ⟨r,by simp [hr],by lia,e⟩
   ·simp only [z,if_false] at h1 h2 h3 ⊢
    refine ⟨h1,fun r hr => ?_,?_⟩
    ·rcases List.mem_cons.mp hr with rfl | hr
     ·lia
     ·have:=h2 r hr
      unfold wq at this
      simpa [z] using this
    ·rcases h3 with e | ⟨r,hr,lt,e⟩
     ·exact .inl e
     ·exact .inr ⟨r,by simp [hr],lt,e⟩
theorem zig {R:List Gate} {a b:Spot} (h:farV R a b=none):∀ g∈R,bw a b g.x→∀ p d,Bey a b g p d→d≤0:=by
 intro g hg hb p d k
 unfold farV at h
 obtain ⟨_,h2,h3⟩:=zbP ((wE R a b).flatMap (beyV a b)) (none,0)
 have hm:=h2 (d,p) (List.mem_flatMap.mpr ⟨g,vd.mpr ⟨hg,hb⟩,zb4.mpr k⟩)
 rcases h3 with e | ⟨q,_,_,e⟩
 ·rw [e] at hm; exact hm
 ·rw [e] at h; cases h
theorem zif {R:List Gate} {a b p:Spot} (h:farV R a b=some p):∃ g d,g∈R∧bw a b g.x∧Bey a b g p d∧0<d∧∀ g'∈R,bw a b g'.x→∀ p' d',Bey a b g' p' d'→d'≤d:=by
 unfold farV at h
 obtain ⟨_,h2,h3⟩:=zbP ((wE R a b).flatMap (beyV a b)) (none,0)
 rcases h3 with e | ⟨q,hq,lt,e⟩
 ·rw [e] at h; cases h
 ·rw [e] at h h2
  cases h
  obtain ⟨g,hg,hm⟩:=List.mem_flatMap.mp hq
  obtain ⟨k1,k2⟩:=vd.mp hg
  refine ⟨g,q.1,k1,k2,zb4.mp hm,lt,fun g' hg' hb' p' d' k' => ?_⟩
  exact h2 (d',p') (List.mem_flatMap.mpr ⟨g',vd.mpr ⟨hg',hb'⟩,zb4.mpr k'⟩)
@[reducible] noncomputable def uC:FE :=
 fC (.int 0)
@[reducible] noncomputable def uv:FS :=
 ifS (fTrB (f2 gGt (fB gLen (zl (fVar 0) (fNil))) (fC (.int 0))))
 (setS 4 true (f2 gMod (f2 gIx (fVar 0) (f2 gMod (fVar 3) (fB zao (zl (fB gLen (zl (fVar 0) (fNil))) (zl (fC (.int 63)) (fNil)))))) (f2 gAdd (f2 gPow (fC (.int 10)) (fC (.int 60))) (fC (.int 7)))))
 (nxtS)
@[reducible] noncomputable def vh:FS :=
 seqS (setS 4 true (fC (.int 0)))
 (seqS (uv)
 (seqS (setS 5 true (f2 gMod (fVar 3) (fVar 1)))
 (putS 2 (fVar 5) (f2 gMod (f2 gAdd (f2 gAdd (f2 gMul (f2 gIx (fVar 2) (fVar 5)) (fC (.int 48271))) (fVar 4)) (f2 gMul (fVar 3) (fVar 3))) (f2 gAdd (f2 gPow (fC (.int 10)) (fC (.int 60))) (fC (.int 7)))))))
noncomputable def wS:FS :=
 seqS (setS 2 false (xL [] 1 (uz (zl (fVar 1) (fNil))) (gN 0) (fYes) (uC)))
 (seqS (forS (uz (zl (fB zdC (zl (fVar 1) (zl (fB zao (zl (fB gLen (zl (fVar 0) (fNil))) (zl (fC (.int 63)) (fNil)))) (fNil)))) (fNil))) (gN 3)
 (vh))
 (retS (fVar 2)))
noncomputable def wd:List D→Out Val:=runD 6 wS
theorem zcx:∀ ds v,ds.length=2→wd ds=.ok v→runD 6 wS ds=.ok v:=fun _ _ _ h=>h
@[reducible] noncomputable def zb5:FS :=
 setS 0 true (f2 gDiv (fVar 0) (fVar 1))
noncomputable def zaq:FS :=
 seqS (forS (uz (zl (fVar 2) (fNil))) (gN 3)
 (zb5))
 (retS (f2 gMod (fVar 0) (fVar 1)))
noncomputable def wN:List D→Out Val:=runD 4 zaq
theorem zfj:∀ ds v,ds.length=3→wN ds=.ok v→runD 4 zaq ds=.ok v:=fun _ _ _ h=>h
@[reducible] noncomputable def xx:FS :=
 ifS (fTrB (f2 gEq (f2 gMod (f2 gIx (fVar 0) (fC (.int 1))) (fC (.int 16))) (fC (.int 1))))
 (setS 1 true (f2 gAdd (fC (.int 9)) (f2 gMod (f2 gIx (fVar 0) (fC (.int 0))) (fC (.int 4)))))
 (nxtS)
@[reducible] noncomputable def xy:FE :=
 fTup (zB (f2 gMul (fC (.int 2)) (fVar 2)) (zB (f2 gMod (zL wN (zl (f2 gIx (fVar 0) (fC (.int 3))) (zl (fC (.int 4)) (zl (fVar 2) (fNil))))) (fVar 1)) (hNil)))
noncomputable def xq:FS :=
 seqS (setS 1 true (f2 gAdd (fC (.int 2)) (f2 gMod (f2 gIx (fVar 0) (fC (.int 0))) (fC (.int 11)))))
 (seqS (xx)
 (seqS (setS 2 true (f2 gIx (fLst (zB (fC (.int 1)) (zB (fC (.int 4)) (hNil)))) (f2 gMod (f2 gIx (fVar 0) (fC (.int 2))) (fC (.int 2)))))
 (retS (xL [0,2] 1 (uz (zl (fVar 1) (fNil))) (gN 2) (fYes) (xy)))))
noncomputable def yP:List D→Out Val:=runD 3 xq
theorem t3:∀ ds v,ds.length=1→yP ds=.ok v→runD 3 xq ds=.ok v:=fun _ _ _ h=>h
@[reducible] noncomputable def zbO:FS :=
 ifS (fTrB (f2 gEq (f2 gEq (f2 gMod (fVar 4) (fC (.int 2))) (fC (.int 0))) (fVar 2)))
 (appS 6 (fTup (zB (fVar 7) (zB (fC .non) (zB (fVar 8) (zB (fVar 5) (hNil)))))))
 (appS 6 (fTup (zB (fVar 7) (zB (fVar 8) (zB (fC .non) (zB (fVar 5) (hNil)))))))
@[reducible] noncomputable def ua:FS :=
 zbO
@[reducible] noncomputable def zbM:FS :=
 ifS (fTrB (f2 gEq (fVar 5) (f1 gNeg (fC (.int 1)))))
 (revS 6)
 (nxtS)
@[reducible] noncomputable def tF:FS :=
 seqS (setS 5 true (f2 gSub (fC (.int 1)) (f2 gMul (fC (.int 2)) (f2 gMod (fVar 4) (fC (.int 2))))))
 (seqS (setS 6 false (fLst (hNil)))
 (seqS (forS (fItL (fVar 0)) (gT [7,8])
 (ua))
 (seqS (zbM)
 (setS 3 true (f2 gAdd (fVar 3) (fVar 6))))))
noncomputable def zap:FS :=
 seqS (setS 3 true (fLst (hNil)))
 (seqS (forS (uz (zl (fVar 1) (fNil))) (gN 4)
 (tF))
 (retS (fVar 3)))
noncomputable def uu:List D→Out Val:=runD 9 zap
theorem zfh:∀ ds v,ds.length=3→uu ds=.ok v→runD 9 zap ds=.ok v:=fun _ _ _ h=>h
@[reducible] noncomputable def zan:FS :=
 ifS (fOr (fNot (fTr (fVar 1))) (fTrB (f2 gNe (f2 gIx (fVar 1) (f1 gNeg (fC (.int 1)))) (fVar 2))))
 (appS 1 (fVar 2))
 (nxtS)
@[reducible] noncomputable def xP:FS :=
 zan
noncomputable def yC:FS :=
 seqS (setS 1 false (fLst (hNil)))
 (seqS (forS (fItL (fVar 0)) (gN 2)
 (xP))
 (retS (fVar 1)))
noncomputable def zZ:List D→Out Val:=runD 3 yC
theorem uq:∀ ds v,ds.length=1→zZ ds=.ok v→runD 3 yC ds=.ok v:=fun _ _ _ h=>h
theorem zfH (k:List Spot) (p:Spot):(vv k p).length≤k.length+1:=by
 unfold vv
 split
 ·split
  ·lia
  ·simp
 ·simp
theorem zcf (s0:Slot):∀ (ps k:List Spot) (s2:Slot),k.length+ps.length≤10000→∃ s2',forD (gN 2) xP (ps.map zf) [s0,.own (k.map zf),s2]=.ok (.next [s0,.own ((ps.foldl vv k).map zf),s2'])
 | [],k,s2,_=>⟨s2,rfl⟩
 | p::ps,k,s2,hl=>by
   have hu:=zfH k p
   obtain ⟨s2',e⟩:=zcf s0 ps (vv k p) (.pers (zf p)) (by simp at hl; lia)
   refine ⟨s2',?_⟩
   have hg:gN 2 (zf p) [s0,.own (k.map zf),s2]=.ok [s0,.own (k.map zf),.pers (zf p)]:=rfl
   have hlt:k.length<100000:=by simp at hl; lia
   have hb:xP [s0,.own (k.map zf),.pers (zf p)]=.ok (.next [s0,.own ((vv k p).map zf),.pers (zf p)]):=by
    have hap:appS 1 (fVar 2) [s0,.own (k.map zf),.pers (zf p)]=.ok (.next [s0,.own ((k++[p]).map zf),.pers (zf p)]):=by simp [hlt]
    unfold vv
    cases q:k.getLast? with
    | none =>
      have:k=[]:=List.getLast?_eq_none_iff.mp q
      subst this
      rfl
    | some t =>
      have hne:k≠[]:=fun z=>by subst z; cases q
      have hat:atI (k.map zf) (-1)=some (zf t):=by
       rw [ze2,List.length_map,List.getElem?_map,←List.getLast?_eq_getElem?,q]
       rfl
      have c:fOr (fNot (fTr (fVar 1))) (fTrB (f2 gNe (f2 gIx (fVar 1) (f1 gNeg (fC (.int 1)))) (fVar 2))) [s0,.own (k.map zf),.pers (zf p)]=.ok (decide (t≠p)):=by
       have t1:fTr (fVar 1) [s0,.own (k.map zf),.pers (zf p)]=.ok true:=by
        cases k with
        | nil=>exact absurd rfl hne
        | cons x r=>rfl
       have t2:fTrB (f2 gNe (f2 gIx (fVar 1) (f1 gNeg (fC (.int 1)))) (fVar 2)) [s0,.own (k.map zf),.pers (zf p)]=.ok (decide (t≠p)):=by
        have:f2 gNe (f2 gIx (fVar 1) (f1 gNeg (fC (.int 1)))) (fVar 2) [s0,.own (k.map zf),.pers (zf p)]=gNe (zf t) (zf p):=by
         have e1:f2 gIx (fVar 1) (f1 gNeg (fC (.int 1))) [s0,.own (k.map zf),.pers (zf p)]=.ok (.pers (zf t)):=by
          show gIx (.lst (k.map zf)) (.int (-1))=_
          simp only [gIx,hat]
         show ((f2 gIx (fVar 1) (f1 gNeg (fC (.int 1))) [s0,.own (k.map zf),.pers (zf p)]).bind _)=_
         rw [e1]
         rfl
        unfold fTrB
        rw [this]
        simp [vF,zbT]
       simp only [fOr,fNot,t1,t2,zm]
       rfl
      by_cases z:t=p
      ·rw [decide_eq_false (fun w=>w z)] at c
       simp only [ifS,c,zm,Bool.false_eq_true,if_false,z,if_true]
       rfl
      ·rw [decide_eq_true z] at c
       simp only [ifS,c,zm,if_true,z,if_false]
       exact hap
   rw [List.map_cons,forD,hg,zm,hb,zm]
   exact e
theorem zhI {ps:List Spot} (hl:ps.length≤10000):zZ [.lst (ps.map zf)]=.ok (.fresh ((ps.foldl vv []).map zf)):=by
 obtain ⟨s2,e⟩:=zcf (.pers (.lst (ps.map zf))) ps [] .un (by simpa using hl)
 unfold zZ
 show ((yC [.pers (.lst (ps.map zf)),.un,.un]).bind _)=_
 unfold yC
 rw [zj (env':=[.pers (.lst (ps.map zf)),.own [],.un]) rfl]
 rw [zj (by
  have hi:fItL (fVar 0) [.pers (.lst (ps.map zf)),.own [],.un]=.ok (ps.map zf):=rfl
  simp only [forS,hi,zm]
  exact e)]
 rfl
noncomputable def yE:FS :=
 retS (zbS (f2 xY (f2 gIx (fVar 0) (fC (.int 2))) (fC .non)) (zbS (f2 xY (f2 gIx (fVar 1) (fC (.int 1))) (fC .non)) (f2 gLe (f2 gIx (fVar 0) (fC (.int 2))) (f2 gIx (fVar 1) (fC (.int 1))))))
noncomputable def z6:List D→Out Val:=runD 2 yE
theorem ut:∀ ds v,ds.length=2→z6 ds=.ok v→runD 2 yE ds=.ok v:=fun _ _ _ h=>h
theorem ziu (g h:Gate):z6 [zi g,zi h]=.ok (.pers (.bl (yl g h))):=by
 unfold z6
 show ((yE [.pers (zi g),.pers (zi h)]).bind _)=_
 unfold yE yl
 have e1:f2 gIx (fVar 0) (fC (.int 2)) [.pers (zi g),.pers (zi h)]=.ok (.pers (optD g.hi)):=rfl
 have e2:f2 gIx (fVar 1) (fC (.int 1)) [.pers (zi g),.pers (zi h)]=.ok (.pers (optD h.lo)):=rfl
 have n1:f2 xY (f2 gIx (fVar 0) (fC (.int 2))) (fC .non) [.pers (zi g),.pers (zi h)]=xY (optD g.hi) .non:=rfl
 have n2:f2 xY (f2 gIx (fVar 1) (fC (.int 1))) (fC .non) [.pers (zi g),.pers (zi h)]=xY (optD h.lo) .non:=rfl
 have n3:f2 gLe (f2 gIx (fVar 0) (fC (.int 2))) (f2 gIx (fVar 1) (fC (.int 1))) [.pers (zi g),.pers (zi h)]=gLe (optD g.hi) (optD h.lo):=rfl
 simp only [retS,zbS,n1,n2,n3]
 cases g.hi with
 | none=>rfl
 | some u =>
   cases h.lo with
   | none=>rfl
   | some v=>rfl
@[reducible] noncomputable def xc:FS :=
 ifS (fTr (zL z6 (zl (fVar 0) (zl (fVar 1) (fNil)))))
 (retS (fTup (zB (fTup (zB (fVar 2) (zB (f2 gIx (fVar 0) (fC (.int 2))) (hNil)))) (zB (fTup (zB (fVar 2) (zB (f2 gIx (fVar 1) (fC (.int 1))) (hNil)))) (hNil)))))
 (nxtS)
noncomputable def yi:FS :=
 seqS (setS 2 true (f2 gIx (fVar 0) (fC (.int 0))))
 (seqS (xc)
 (retS (fTup (zB (fTup (zB (fVar 2) (zB (f2 gIx (fVar 0) (fC (.int 1))) (hNil)))) (zB (fTup (zB (fVar 2) (zB (f2 gIx (fVar 1) (fC (.int 2))) (hNil)))) (hNil))))))
noncomputable def zT:List D→Out Val:=runD 3 yi
theorem vy:∀ ds v,ds.length=2→zT ds=.ok v→runD 3 yi ds=.ok v:=fun _ _ _ h=>h
theorem ze7 {g h:Gate} (ok:TurnOk g h):zT [zi g,zi h]=.ok (.pers (.tup [zf (zF g h).1,zf (zF g h).2])):=by
 have hb:zL z6 (zl (fVar 0) (zl (fVar 1) (fNil))) [.pers (zi g),.pers (zi h),.pers (.int g.x)]=.ok (.pers (.bl (yl g h))):=by
  show ((z6 [zi g,zi h]).bind _)=_
  rw [ziu]
  rfl
 unfold zT
 show ((yi [.pers (zi g),.pers (zi h),.un]).bind _)=_
 unfold yi zF
 rw [zj (env':=[.pers (zi g),.pers (zi h),.pers (.int g.x)]) rfl]
 cases q:yl g h with
 | true =>
   rw [q] at hb
   unfold yl at q
   cases a:g.hi with
   | none=>rw [a] at q; cases q
   | some u =>
     cases b:h.lo with
     | none=>rw [a,b] at q; cases q
     | some v =>
       rw [yJ (v:=.pers (.tup [zf (g.x,u),zf (g.x,v)])) (by
        simp only [xc,ifS,fTr,hb,zm,Val.d,trD,if_true]
        show Out.ok (Res.ret (Val.pers (.tup [.tup [.int g.x,optD g.hi],.tup [.int g.x,optD h.lo]])))=_
        rw [a,b]
        rfl)]
       rfl
 | false =>
   rw [q] at hb
   rcases ok.one with ⟨u,v,e1,e2,l⟩ | ⟨u,v,e1,e2,l⟩
   ·unfold yl at q
    rw [e1,e2] at q
    exact absurd l (of_decide_eq_false q)
   ·rw [zj (env':=[.pers (zi g),.pers (zi h),.pers (.int g.x)]) (by
     simp only [xc,ifS,fTr,hb,zm,Val.d,trD]
     rfl)]
    show Out.ok (Val.pers (.tup [.tup [.int g.x,optD g.lo],.tup [.int g.x,optD h.hi]]))=_
    rw [e1,e2]
    rfl
@[reducible] noncomputable def wI:FT :=
 fTrB (fCh gLt gLt (fVar 0) (f2 gIx (fVar 2) (fC (.int 0))) (fVar 1))
@[reducible] noncomputable def zcR:FE :=
 fVar 2
@[reducible] noncomputable def zcI:FS :=
 ifS (fTrB (f2 gLt (fVar 2) (fVar 3)))
 (retS (xL [2,3] 1 (fItL (fVar 0)) (gN 2) (wI) (zcR)))
 (nxtS)
@[reducible] noncomputable def wH:FT :=
 fTrB (fCh gLt gLt (fVar 0) (f2 gIx (fVar 2) (fC (.int 0))) (fVar 1))
@[reducible] noncomputable def zcQ:FE :=
 fVar 2
noncomputable def xg:FS :=
 seqS (setS 2 true (f2 gIx (f2 gIx (fVar 1) (fC (.int 0))) (fC (.int 0))))
 (seqS (setS 3 true (f2 gIx (f2 gIx (fVar 1) (fC (.int 1))) (fC (.int 0))))
 (seqS (zcI)
 (retS (xL [3,2] 1 (fRev (fVar 0)) (gN 2) (wH) (zcQ)))))
noncomputable def yp:List D→Out Val:=runD 4 xg
theorem zaO:∀ ds v,ds.length=2→yp ds=.ok v→runD 4 xg ds=.ok v:=fun _ _ _ h=>h
theorem uW {ft:FT} (x y:Int) (p:Gate→Bool) (hp:∀ l,ft [.pers (.int x),.pers (.int y),.pers (zi l)]=.ok (p l)) (B:List Gate) :
 compD (gN 2) ft (fVar 2) (B.map zi) [.pers (.int x),.pers (.int y),.un]=.ok ((B.filter p).map zi):=by
 rw [wn (fun env=>∃ s2,env=[.pers (.int x),.pers (.int y),s2]) zi (fun l=>if p l=true then some (zi l) else none) B [.pers (.int x),.pers (.int y),.un] ⟨_,rfl⟩ (fun l env _ ⟨s2,he⟩=>by
  subst he
  refine ⟨[.pers (.int x),.pers (.int y),.pers (zi l)],rfl,⟨_,rfl⟩,?_⟩
  have h:=hp l
  cases q:p l with
  | true=>rw [q] at h; exact .inr ⟨zi l,.pers (zi l),by simp,h,rfl,rfl⟩
  | false=>rw [q] at h; exact .inl ⟨by simp,h⟩)]
 rw [uV]
theorem zfw {B:List Gate} (hl:B.length≤1000) (q:Spot×Spot):yp [.lst (B.map zi),strD q]=.ok (.fresh ((wE B q.1 q.2).map zi)):=by
 unfold yp
 show (xg [.pers (.lst (B.map zi)),.pers (strD q),.un,.un]).bind _=_
 have h0:xg [.pers (.lst (B.map zi)),.pers (strD q),.un,.un]=.ok (.ret (.fresh ((wE B q.1 q.2).map zi))):=by
  unfold xg
  rw [zj (env':=[.pers (.lst (B.map zi)),.pers (strD q),.pers (.int q.1.1),.un]) (by simp [strD,ats0,zf,at0]; rfl)]
  rw [zj (env':=[.pers (.lst (B.map zi)),.pers (strD q),.pers (.int q.1.1),.pers (.int q.2.1)]) (by simp [strD,ats1,zf,at0]; rfl)]
  have hl2:B.length≤100000:=by lia
  unfold wE
  by_cases hlt:q.1.1<q.2.1
  ·rw [if_pos hlt]
   have hc:=uW (ft:=wI) q.1.1 q.2.1 (fun l=>decide (q.1.1<l.x)&&decide (l.x<q.2.1)) (fun l=>by
    by_cases h1:q.1.1<l.x
    ·simp [zi,ag0,h1]
    ·simp [zi,ag0,h1]) B
   refine yJ ?_
   simp only [ifS]
   have ht:fTrB (f2 gLt (fVar 2) (fVar 3)) [.pers (.lst (B.map zi)),.pers (strD q),.pers (.int q.1.1),.pers (.int q.2.1)]=.ok true:=by simp [hlt]
   rw [ht,zm,if_pos rfl]
   simp only [retS,xL,fItL,fVar,List.getElem?_cons_zero,zm,Val.hold,List.length_map,hl2,if_true]
   show ((compD (gN 2) wI (fVar 2) (B.map zi) [.pers (.int q.1.1),.pers (.int q.2.1),.un]).bind _).bind _=_
   rw [hc]
   rfl
  ·rw [if_neg hlt]
   have hc:=uW (ft:=wH) q.2.1 q.1.1 (fun l=>decide (q.2.1<l.x)&&decide (l.x<q.1.1)) (fun l=>by
    by_cases h1:q.2.1<l.x
    ·simp [zi,ag0,h1]
    ·simp [zi,ag0,h1]) B.reverse
   have ht:fTrB (f2 gLt (fVar 2) (fVar 3)) [.pers (.lst (B.map zi)),.pers (strD q),.pers (.int q.1.1),.pers (.int q.2.1)]=.ok false:=by simp [hlt]
   rw [zj (env':=[.pers (.lst (B.map zi)),.pers (strD q),.pers (.int q.1.1),.pers (.int q.2.1)]) (by simp only [ifS]; rw [ht,zm]; rfl)]
   simp only [retS,xL,fRev,fVar,List.getElem?_cons_zero,zm,Val.hold,List.length_reverse,List.length_map,hl2,if_true]
   rw [←List.map_reverse]
   show ((compD (gN 2) wH (fVar 2) (B.reverse.map zi) [.pers (.int q.2.1),.pers (.int q.1.1),.un]).bind _).bind _=_
   rw [hc]
   rfl
 rw [h0]
 rfl
noncomputable def xf:FS :=
 seqS (setS 2 true (f2 gIx (fVar 0) (fC (.int 0))))
 (seqS (setS 3 true (f2 gIx (fVar 0) (fC (.int 1))))
 (seqS (setS 4 true (f2 gSub (f2 gIx (fVar 3) (fC (.int 0))) (f2 gIx (fVar 2) (fC (.int 0)))))
 (seqS (setS 5 true (f2 gSub (f2 gMul (fVar 4) (f2 gSub (f2 gIx (fVar 1) (fC (.int 1))) (f2 gIx (fVar 2) (fC (.int 1))))) (f2 gMul (f2 gSub (f2 gIx (fVar 3) (fC (.int 1))) (f2 gIx (fVar 2) (fC (.int 1)))) (f2 gSub (f2 gIx (fVar 1) (fC (.int 0))) (f2 gIx (fVar 2) (fC (.int 0)))))))
 (retS (fIf (fTrB (f2 gGt (fVar 4) (fC (.int 0)))) (fVar 5) (f1 gNeg (fVar 5)))))))
noncomputable def yK:List D→Out Val:=runD 6 xf
theorem zaN:∀ ds v,ds.length=2→yK ds=.ok v→runD 6 xf ds=.ok v:=fun _ _ _ h=>h
theorem zjj {q:Spot×Spot} {p:Spot} (hn:near q.1 q.2) (hx : -(2^64)<p.1 - q.1.1∧p.1 - q.1.1<2^64):yK [strD q,zf p]=.ok (.pers (.int (yS q.1 q.2 p))):=by
 have c1:∀ j,cMul (q.2.1 - q.1.1) j=true:=fun j=>v8 hn.1 hn.2
 have c2:∀ j,cMul j (p.1 - q.1.1)=true:=fun j=>wp hx.1 hx.2
 unfold yK
 show (xf [.pers (strD q),.pers (zf p),.un,.un,.un,.un]).bind _=_
 have h0:xf [.pers (strD q),.pers (zf p),.un,.un,.un,.un]=.ok (.ret (.pers (.int (yS q.1 q.2 p)))):=by
  unfold xf
  rw [zj (env':=[.pers (strD q),.pers (zf p),.pers (zf q.1),.un,.un,.un]) (by simp [strD,ats0])]
  rw [zj (env':=[.pers (strD q),.pers (zf p),.pers (zf q.1),.pers (zf q.2),.un,.un]) (by simp [strD,ats1])]
  rw [zj (env':=[.pers (strD q),.pers (zf p),.pers (zf q.1),.pers (zf q.2),.pers (.int (q.2.1 - q.1.1)),.un]) (by simp [zf,at0])]
  rw [zj (env':=[.pers (strD q),.pers (zf p),.pers (zf q.1),.pers (zf q.2),.pers (.int (q.2.1 - q.1.1)),.pers (.int (yZ q.1 q.2 p))]) (by simp [zf,at0,at1,c1,c2,yZ])]
  unfold yS
  by_cases hp:0<q.2.1 - q.1.1
  ·have hp':q.1.1<q.2.1:=by lia
   simp [hp']
  ·have hp':¬ q.1.1<q.2.1:=by lia
   simp [hp']
 rw [h0]
 rfl
@[reducible] noncomputable def wC:FS :=
 ifS (fTrB (f2 xY (f2 gIx (fVar 1) (fC (.int 1))) (fC .non)))
 (seqS (setS 3 true (fTup (zB (f2 gIx (fVar 1) (fC (.int 0))) (zB (f2 gIx (fVar 1) (fC (.int 1))) (hNil)))))
 (appS 2 (fTup (zB (zL yK (zl (fVar 0) (zl (fVar 3) (fNil)))) (zB (fVar 3) (hNil))))))
 (nxtS)
@[reducible] noncomputable def wB:FS :=
 ifS (fTrB (f2 xY (f2 gIx (fVar 1) (fC (.int 2))) (fC .non)))
 (seqS (setS 4 true (fTup (zB (f2 gIx (fVar 1) (fC (.int 0))) (zB (f2 gIx (fVar 1) (fC (.int 2))) (hNil)))))
 (appS 2 (fTup (zB (f1 gNeg (zL yK (zl (fVar 0) (zl (fVar 4) (fNil))))) (zB (fVar 4) (hNil))))))
 (nxtS)
noncomputable def yt:FS :=
 seqS (setS 2 false (fLst (hNil)))
 (seqS (wC)
 (seqS (wB)
 (retS (fVar 2))))
noncomputable def zR:List D→Out Val:=runD 5 yt
theorem vT:∀ ds v,ds.length=2→zR ds=.ok v→runD 5 yt ds=.ok v:=fun _ _ _ h=>h
noncomputable def bD (q:Int×Spot):D:=.tup [.int q.1,zf q.2]
theorem zhp {a b:Spot} {g:Gate} (hn:near a b) (hx : -(2^64)<g.x - a.1∧g.x - a.1<2^64):zR [strD (a,b),zi g]=.ok (.fresh ((beyV a b g).map bD)):=by
 have sd:∀ y,yK [strD (a,b),.tup [.int g.x,.int y]]=.ok (.pers (.int (yS a b (g.x,y)))):=fun y=>zjj (q:=(a,b)) (p:=(g.x,y)) hn hx
 have i1:∃ s3,wC [.pers (strD (a,b)),.pers (zi g),.own [],.un,.un]=.ok (.next [.pers (strD (a,b)),.pers (zi g),.own ((match g.lo with | some y=>[(yS a b (g.x,y),(g.x,y))] | none=>[]).map bD),s3,.un]):=by
  cases h:g.lo with
  | none=>exact ⟨.un,by simp [zi,optD,h,ag1]⟩
  | some y=>exact ⟨.pers (.tup [.int g.x,.int y]),by simp [zi,optD,h,ag0,ag1,sd,bD,zf]⟩
 obtain ⟨s3,i1⟩:=i1
 generalize hL:(match g.lo with | some y=>[(yS a b (g.x,y),(g.x,y))] | none=>[])=L at i1
 have hl:L.length<100000:=by rw [←hL]; split <;> simp
 have i2:∃ s4,wB [.pers (strD (a,b)),.pers (zi g),.own (L.map bD),s3,.un]=.ok (.next [.pers (strD (a,b)),.pers (zi g),.own ((L++(match g.hi with | some y=>[(-yS a b (g.x,y),(g.x,y))] | none=>[])).map bD),s3,s4]):=by
  cases h:g.hi with
  | none=>exact ⟨.un,by simp [zi,optD,h,ag2]⟩
  | some y=>exact ⟨.pers (.tup [.int g.x,.int y]),by simp [zi,optD,h,ag0,ag2,sd,bD,zf,hl]⟩
 obtain ⟨s4,i2⟩:=i2
 unfold zR
 show ((yt [.pers (strD (a,b)),.pers (zi g),.un,.un,.un]).bind _)=_
 unfold yt
 rw [zj (env':=[.pers (strD (a,b)),.pers (zi g),.own [],.un,.un]) rfl,zj i1,zj i2]
 unfold beyV
 rw [hL]
 rfl
@[reducible] noncomputable def vk:FS :=
 ifS (fTrB (f2 gGt (fVar 5) (fVar 3)))
 (seqS (setS 2 true (fVar 6))
 (setS 3 true (fVar 5)))
 (nxtS)
@[reducible] noncomputable def yA:FS :=
 vk
@[reducible] noncomputable def yz:FS :=
 forS (fItL (zL zR (zl (fVar 0) (zl (fVar 4) (fNil))))) (gT [5,6])
 (yA)
noncomputable def zW:FS :=
 seqS (setS 2 true (fC .non))
 (seqS (setS 3 true (fC (.int 0)))
 (seqS (forS (fItL (zL yp (zl (fVar 1) (zl (fVar 0) (fNil))))) (gN 4)
 (yz))
 (retS (fVar 2))))
noncomputable def zN:List D→Out Val:=runD 7 zW
theorem wF:∀ ds v,ds.length=2→zN ds=.ok v→runD 7 zW ds=.ok v:=fun _ _ _ h=>h
noncomputable def optS:Option Spot→D
 | some p=>zf p
 | none=>.non
theorem zcL {q g:D} (run:D):∀ (l:List (Int×Spot)) (st:Option Spot×Int) (s5 s6:Slot),∃ s5' s6',forD (gT [5,6]) yA (l.map bD) [.pers q,.pers run,.pers (optS st.1),.pers (.int st.2),.pers g,s5,s6]=.ok (.next [.pers q,.pers run,.pers (optS (l.foldl wq st).1),.pers (.int (l.foldl wq st).2),.pers g,s5',s6'])
 | [],st,s5,s6=>⟨s5,s6,rfl⟩
 | x::l,st,s5,s6=>by
   obtain ⟨s5',s6',e⟩:=zcL (q:=q) (g:=g) run l (wq st x) (.pers (.int x.1)) (.pers (zf x.2))
   refine ⟨s5',s6',?_⟩
   have hg:gT [5,6] (bD x) [.pers q,.pers run,.pers (optS st.1),.pers (.int st.2),.pers g,s5,s6]=.ok [.pers q,.pers run,.pers (optS st.1),.pers (.int st.2),.pers g,.pers (.int x.1),.pers (zf x.2)]:=rfl
   have hb:yA [.pers q,.pers run,.pers (optS st.1),.pers (.int st.2),.pers g,.pers (.int x.1),.pers (zf x.2)]=.ok (.next [.pers q,.pers run,.pers (optS (wq st x).1),.pers (.int (wq st x).2),.pers g,.pers (.int x.1),.pers (zf x.2)]):=by
    unfold wq
    by_cases z:st.2<x.1
    ·simp [z,optS]
    ·simp [z]
   rw [List.map_cons,forD,hg,zm,hb,zm]
   exact e
theorem zcK {a b:Spot} {run:D} (hn:near a b):∀ (l:List Gate) (st:Option Spot×Int) (s4 s5 s6:Slot),(∀ g∈l,-(2^64)<g.x - a.1∧g.x - a.1<2^64) →
 ∃ s4' s5' s6',forD (gN 4) yz (l.map zi) [.pers (strD (a,b)),.pers run,.pers (optS st.1),.pers (.int st.2),s4,s5,s6]=.ok (.next [.pers (strD (a,b)),.pers run,.pers (optS ((l.flatMap (beyV a b)).foldl wq st).1),.pers (.int ((l.flatMap (beyV a b)).foldl wq st).2),s4',s5',s6'])
 | [],st,s4,s5,s6,_=>⟨s4,s5,s6,rfl⟩
 | g::l,st,s4,s5,s6,hx=>by
   obtain ⟨t5,t6,e1⟩:=zcL (q:=strD (a,b)) (g:=zi g) run (beyV a b g) st s5 s6
   obtain ⟨u4,u5,u6,e2⟩:=zcK (run:=run) hn l ((beyV a b g).foldl wq st) (.pers (zi g)) t5 t6 (fun x hm=>hx x (by simp [hm]))
   refine ⟨u4,u5,u6,?_⟩
   have hi:fItL (zL zR (zl (fVar 0) (zl (fVar 4) (fNil)))) [.pers (strD (a,b)),.pers run,.pers (optS st.1),.pers (.int st.2),.pers (zi g),s5,s6]=.ok ((beyV a b g).map bD):=by
    have:zL zR (zl (fVar 0) (zl (fVar 4) (fNil))) [.pers (strD (a,b)),.pers run,.pers (optS st.1),.pers (.int st.2),.pers (zi g),s5,s6]=.ok (.fresh ((beyV a b g).map bD)):=by
     show ((zR [strD (a,b),zi g]).bind _)=_
     rw [zhp hn (hx g (by simp))]
     rfl
    simp only [fItL,this,zm]
    rfl
   have hb:yz [.pers (strD (a,b)),.pers run,.pers (optS st.1),.pers (.int st.2),.pers (zi g),s5,s6]=.ok (.next [.pers (strD (a,b)),.pers run,.pers (optS ((beyV a b g).foldl wq st).1),.pers (.int ((beyV a b g).foldl wq st).2),.pers (zi g),t5,t6]):=by
    simp only [forS,hi,zm]
    exact e1
   have hg:gN 4 (zi g) [.pers (strD (a,b)),.pers run,.pers (optS st.1),.pers (.int st.2),s4,s5,s6]=.ok [.pers (strD (a,b)),.pers run,.pers (optS st.1),.pers (.int st.2),.pers (zi g),s5,s6]:=rfl
   rw [List.map_cons,forD,hg,zm,hb,zm,List.flatMap_cons,List.foldl_append]
   exact e2
theorem zly {a b:Spot} {run:List Gate} (hn:near a b) (hl:run.length≤1000):zN [strD (a,b),.lst (run.map zi)]=.ok (.pers (optS (farV run a b))):=by
 have hc:=zfw hl (a,b)
 have hx:∀ g∈wE run a b,-(2^64)<g.x - a.1∧g.x - a.1<2^64:=fun g hg=>by
  obtain ⟨_,hb⟩:=vd.mp hg
  obtain ⟨h1,h2⟩:=hn
  rcases hb with z | z <;> lia
 obtain ⟨s4,s5,s6,e⟩:=zcK (run:=.lst (run.map zi)) hn (wE run a b) (none,0) .un .un .un hx
 have hi:fItL (zL yp (zl (fVar 1) (zl (fVar 0) (fNil)))) [.pers (strD (a,b)),.pers (.lst (run.map zi)),.pers .non,.pers (.int 0),.un,.un,.un]=.ok ((wE run a b).map zi):=by
  have:zL yp (zl (fVar 1) (zl (fVar 0) (fNil))) [.pers (strD (a,b)),.pers (.lst (run.map zi)),.pers .non,.pers (.int 0),.un,.un,.un]=.ok (.fresh ((wE run a b).map zi)):=by
   show ((yp [.lst (run.map zi),strD (a,b)]).bind _)=_
   rw [hc]
   rfl
  simp only [fItL,this,zm]
  rfl
 unfold zN
 show ((zW [.pers (strD (a,b)),.pers (.lst (run.map zi)),.un,.un,.un,.un,.un]).bind _)=_
 unfold zW
 rw [zj (env':=[.pers (strD (a,b)),.pers (.lst (run.map zi)),.pers .non,.un,.un,.un,.un]) rfl,zj (env':=[.pers (strD (a,b)),.pers (.lst (run.map zi)),.pers .non,.pers (.int 0),.un,.un,.un]) rfl]
 rw [zj (by
  simp only [forS,hi,zm]
  exact e)]
 rfl
@[reducible] noncomputable def ya:FT :=
 fTr (fVar 4)
@[reducible] noncomputable def zak:FS :=
 ifS (fTrB (f2 gIsN (fVar 5) (fC .non)))
 (zb8 3 4)
 (appS 4 (fVar 5))
@[reducible] noncomputable def yb:FS :=
 seqS (setS 5 true (zL zN (zl (fTup (zB (f2 gIx (fVar 3) (f1 gNeg (fC (.int 1)))) (zB (f2 gIx (fVar 4) (f1 gNeg (fC (.int 1)))) (hNil)))) (zl (fVar 1) (fNil)))))
 (zak)
noncomputable def yD:FS :=
 seqS (setS 3 false (fLst (zB (fVar 0) (hNil))))
 (seqS (setS 4 false (fLst (zB (fVar 2) (hNil))))
 (seqS (whlD (ya)
 (yb) 100)
 (retS (fSl (fVar 3) (fSo (fC (.int 1))) (fNo)))))
noncomputable def zP:List D→Out Val:=runD 6 yD
theorem ur:∀ ds v,ds.length=3→zP ds=.ok v→runD 6 yD ds=.ok v:=fun _ _ _ h=>h
noncomputable def cnt (R:List Gate) (a b:Int):Nat:=R.countP fun g=>decide ((a<g.x∧g.x<b)∨(b<g.x∧g.x<a))
theorem zi2 {a p b:Int} (h:(a<p∧p<b)∨(b<p∧p<a)):∀ R:List Gate,cnt R a p+cnt R p b+R.countP (fun g=>decide (g.x=p))≤cnt R a b
 | []=>by simp [cnt]
 | g::R=>by
   have ih:=zi2 h R
   unfold cnt at ih ⊢
   simp only [List.countP_cons,decide_eq_true_eq]
   split <;> split <;> split <;> split <;> lia
theorem zhg {R:List Gate} {a p b:Int} {g:Gate} (hg:g∈R) (hx:g.x=p) (h:(a<p∧p<b)∨(b<p∧p<a)):cnt R a p+cnt R p b+1≤cnt R a b:=by
 have:=zi2 h R
 have:0<R.countP (fun g=>decide (g.x=p)):=List.countP_pos_iff.mpr ⟨g,hg,decide_eq_true hx⟩
 lia
theorem zev {run:List Gate} {a b:Spot} {l:List Spot} (h:Pul run a b l):∃ m,l=m++[b]:=by
 induction h with
 | stop _=>exact ⟨[],rfl⟩
 | @split a b p d g l1 l2 _ _ _ _ _ _ _ _ ih2 =>
   obtain ⟨m,rfl⟩:=ih2
   exact ⟨l1++m,by rw [List.append_assoc]⟩
noncomputable def RE (a g:D) (run:List Gate) (r gs:List Spot) (s:Slot):Ev:=[.pers a,.pers (.lst (run.map zi)),.pers g,.own (r.map zf),.own (gs.map zf),s]
theorem zkd (l:List Spot):cutD (l.map zf) (some 1) none=(l.tail).map zf:=by
 rw [zbX _ 1 1 rfl,List.drop_one,List.map_tail]
theorem zhq (l:List Spot) (c:Spot):atI ((l++[c]).map zf) (-1)=some (zf c):=by
 rw [ze2,List.length_map,List.length_append,List.map_append]
 simp
theorem zeo {A Z:D} {run:List Gate} {pre gs:List Spot} {a b:Spot} {s:Slot} (hn:near a b) (hl:run.length≤1000) (hp:pre.length<50000) (hg:gs.length<50000) :
 yb (RE A Z run (pre++[a]) (gs++[b]) s)=.ok (.next (match farV run a b with
  | none=>RE A Z run (pre++[a]++[b]) gs (.pers .non)
  | some p=>RE A Z run (pre++[a]) (gs++[b]++[p]) (.pers (zf p)))):=by
 have hf:=zly (run:=run) hn hl
 have ht:fTup (zB (f2 gIx (fVar 3) (f1 gNeg (fC (.int 1)))) (zB (f2 gIx (fVar 4) (f1 gNeg (fC (.int 1)))) (hNil))) (RE A Z run (pre++[a]) (gs++[b]) s)=.ok (.pers (strD (a,b))):=by
  have e1:f2 gIx (fVar 3) (f1 gNeg (fC (.int 1))) (RE A Z run (pre++[a]) (gs++[b]) s)=.ok (.pers (zf a)):=by
   show gIx (.lst ((pre++[a]).map zf)) (.int (-1))=_
   simp only [gIx,zhq]
  have e2:f2 gIx (fVar 4) (f1 gNeg (fC (.int 1))) (RE A Z run (pre++[a]) (gs++[b]) s)=.ok (.pers (zf b)):=by
   show gIx (.lst ((gs++[b]).map zf)) (.int (-1))=_
   simp only [gIx,zhq]
  simp only [fTup,zB,hNil,e1,e2,zm]
  rfl
 have hv:fVar 1 (RE A Z run (pre++[a]) (gs++[b]) s)=.ok (.pers (.lst (run.map zi))):=rfl
 have hc:zL zN (zl (fTup (zB (f2 gIx (fVar 3) (f1 gNeg (fC (.int 1)))) (zB (f2 gIx (fVar 4) (f1 gNeg (fC (.int 1)))) (hNil)))) (zl (fVar 1) (fNil))) (RE A Z run (pre++[a]) (gs++[b]) s)=.ok (.pers (optS (farV run a b))):=by
  simp only [zL,zl,fNil,ht,hv,zm]
  show ((zN [strD (a,b),.lst (run.map zi)]).bind _)=_
  rw [hf]
  rfl
 unfold yb
 rw [zj (env':=RE A Z run (pre++[a]) (gs++[b]) (.pers (optS (farV run a b)))) (by
  simp only [setS,hc,zm]
  rfl)]
 cases q:farV run a b with
 | none =>
   have c:fTrB (f2 gIsN (fVar 5) (fC .non)) (RE A Z run (pre++[a]) (gs++[b]) (.pers (optS none)))=.ok true:=rfl
   simp only [ifS,c,zm,if_true]
   have hz:(pre++[a]).length<100000:=by simp; lia
   simp [RE,zb8,optS,hz]
   lia
 | some p =>
   have c:fTrB (f2 gIsN (fVar 5) (fC .non)) (RE A Z run (pre++[a]) (gs++[b]) (.pers (optS (some p))))=.ok false:=rfl
   simp only [ifS,c,zm,Bool.false_eq_true,if_false]
   simp [RE,optS]
   lia
theorem zbB {A Z:D} {run:List Gate} (hl:run.length≤1000):∀ (n:Nat) (a b:Spot),near a b→cnt run a.1 b.1≤n→∃ l k,Pul run a b l∧k≤2*cnt run a.1 b.1+1∧l.length≤cnt run a.1 b.1+1 ∧
 ∀ (pre gs:List Spot) (s:Slot) (fu:Nat),pre.length+cnt run a.1 b.1<40000→gs.length+cnt run a.1 b.1<40000→∃ s',whlD ya yb (fu+k) (RE A Z run (pre++[a]) (gs++[b]) s)=whlD ya yb fu (RE A Z run (pre++[a]++l) gs s')
 | n,a,b,hn,hc=>by
   have ht:∀ (r g:List Spot) (c:Spot) (s:Slot),ya (RE A Z run r (g++[c]) s)=.ok true:=fun r g c s=>by
    simp [RE]
   cases q:farV run a b with
   | none =>
     refine ⟨[b],1,.stop (zig q),by lia,by simp,fun pre gs s fu h1 h2=>⟨.pers .non,?_⟩⟩
     have hb:=zeo (A:=A) (Z:=Z) (s:=s) (pre:=pre) (gs:=gs) hn hl (by lia) (by lia)
     rw [q] at hb
     rw [whlD,ht,zm,if_pos rfl,hb,zm]
   | some p =>
     obtain ⟨g,d,hg,hbw,hB,hd,far⟩:=zif q
     have hx:=hB.1
     have hs:(a.1<p.1∧p.1<b.1)∨(b.1<p.1∧p.1<a.1):=by rw [hx]; exact hbw
     have hcs:=zhg hg hx.symm hs
     have hn':=hn
     obtain ⟨m1,m2⟩:=hn'
     have n1:near a p:=by unfold near; lia
     have n2:near p b:=by unfold near; lia
     match n,hc with
     | 0,hc=>lia
     | n+1,hc =>
       obtain ⟨l1,k1,P1,b1,c1,w1⟩:=zbB hl n a p n1 (by lia)
       obtain ⟨l2,k2,P2,b2,c2,w2⟩:=zbB hl n p b n2 (by lia)
       refine ⟨l1++l2,k2+k1+1,.split hg hbw hB hd far P1 P2,by lia,by simp; lia,fun pre gs s fu h1 h2 => ?_⟩
       have hb:=zeo (A:=A) (Z:=Z) (s:=s) (pre:=pre) (gs:=gs) hn hl (by lia) (by lia)
       rw [q] at hb
       obtain ⟨s1,e1⟩:=w1 pre (gs++[b]) (.pers (zf p)) (fu+k2) (by lia) (by simp; lia)
       obtain ⟨t,rfl⟩:=zev P1
       obtain ⟨s2,e2⟩:=w2 (pre++[a]++t) gs s1 fu (by simp at c1 ⊢; lia) (by lia)
       refine ⟨s2,?_⟩
       rw [←Nat.add_assoc,←Nat.add_assoc,whlD,ht,zm,if_pos rfl,hb,zm]
       simp only
       rw [e1]
       simp only [List.append_assoc] at e2 ⊢
       exact e2
theorem zkG {run:List Gate} {a b:Spot} (hn:near a b) (hl:run.length≤40):∃ l,Pul run a b l∧l.length≤run.length+1∧zP [zf a,.lst (run.map zi),zf b]=.ok (.fresh (l.map zf)):=by
 have hcl:cnt run a.1 b.1≤run.length:=List.countP_le_length
 obtain ⟨l,k,P,hk,hl2,w⟩:=zbB (A:=zf a) (Z:=zf b) (run:=run) (by lia) _ a b hn (Nat.le_refl _)
 obtain ⟨s,e⟩:=w [] [] .un (100 - k) (by simp; lia) (by simp; lia)
 rw [show 100 - k+k=100 by lia] at e
 obtain ⟨j,hj⟩:∃ j,100 - k=j+1:=⟨100 - k - 1,by lia⟩
 have ht:ya (RE (zf a) (zf b) run ([]++[a]++l) [] s)=.ok false:=by simp [RE]
 have e0:whlD ya yb (j+1) (RE (zf a) (zf b) run ([]++[a]++l) [] s)=.ok (.next (RE (zf a) (zf b) run ([]++[a]++l) [] s)):=by
  rw [whlD,ht,zm,if_neg Bool.false_ne_true]
 rw [hj,e0] at e
 refine ⟨l,P,by lia,?_⟩
 unfold zP
 show ((yD [.pers (zf a),.pers (.lst (run.map zi)),.pers (zf b),.un,.un,.un]).bind _)=_
 unfold yD
 rw [zj (env':=[.pers (zf a),.pers (.lst (run.map zi)),.pers (zf b),.own [zf a],.un,.un]) rfl]
 rw [zj (env':=RE (zf a) (zf b) run ([]++[a]) ([]++[b]) .un) rfl]
 rw [zj e]
 have hcut:fSl (fVar 3) (fSo (fC (.int 1))) (fNo) (RE (zf a) (zf b) run ([]++[a]++l) [] s)=.ok (.fresh (l.map zf)):=by
  show Out.ok (Val.fresh (cutD ((a::l).map zf) (some 1) none))=_
  rw [zkd]
  rfl
 simp only [retS,hcut,zm]
@[reducible] noncomputable def wO:FS :=
 ifS (fAnd (fTr (fVar 4)) (fTrB (f2 gNe (f2 gIx (f2 gIx (fVar 4) (f1 gNeg (fC (.int 1)))) (fC (.int 3))) (f2 gIx (fVar 5) (fC (.int 3))))))
 (seqS (setS 6 true (zL zT (zl (f2 gIx (fVar 4) (f1 gNeg (fC (.int 1)))) (zl (fVar 5) (fNil)))))
 (seqS (extS 3 (zL zP (zl (f2 gIx (fVar 3) (f1 gNeg (fC (.int 1)))) (zl (fVar 4) (zl (f2 gIx (fVar 6) (fC (.int 0))) (fNil))))))
 (seqS (appS 3 (f2 gIx (fVar 6) (fC (.int 1))))
 (setS 4 false (fLst (hNil))))))
 (nxtS)
@[reducible] noncomputable def yw:FS :=
 seqS (wO)
 (appS 4 (fVar 5))
noncomputable def xJ:FS :=
 seqS (setS 3 false (fLst (zB (fVar 0) (hNil))))
 (seqS (setS 4 false (fLst (hNil)))
 (seqS (forS (fItL (fVar 1)) (gN 5)
 (yw))
 (seqS (extS 3 (zL zP (zl (f2 gIx (fVar 3) (f1 gNeg (fC (.int 1)))) (zl (fVar 4) (zl (fVar 2) (fNil))))))
 (retS (fSl (fVar 3) (fSo (fC (.int 1))) (fSo (f1 gNeg (fC (.int 1)))))))))
noncomputable def yo:List D→Out Val:=runD 7 xJ
theorem zaM:∀ ds v,ds.length=3→yo ds=.ok v→runD 7 xJ ds=.ok v:=fun _ _ _ h=>h
theorem uI:∀ l:List Spot,tZ (l.map zf)=true
 | []=>rfl
 | p::l=>by
   have:=uI l
   simp only [List.map_cons,tZ,this,Bool.and_true]
   rfl
noncomputable def TE (s e:Spot) (row:List Gate) (sp:List Spot) (R:List Gate) (s5 s6:Slot):Ev:=[.pers (zf s),.pers (.lst (row.map zi)),.pers (zf e),.own (sp.map zf),.own (R.map zi),s5,s6]
theorem zcg {s e a:Spot} {row:List Gate} {pre:List Spot} {R:List Gate} {s5 s6:Slot} {X:FE} {b:Spot} (hX:X (TE s e row (pre++[a]) R s5 s6)=.ok (.pers (zf b))) (hn:near a b) (hl:R.length≤40) (hp:pre.length<10000) :
 ∃ l,Pul R a b l∧l.length≤R.length+1∧extS 3 (zL zP (zl (f2 gIx (fVar 3) (f1 gNeg (fC (.int 1)))) (zl (fVar 4) (zl X (fNil))))) (TE s e row (pre++[a]) R s5 s6)=.ok (.next (TE s e row (pre++[a]++l) R s5 s6)):=by
 obtain ⟨l,P,hll,h⟩:=zkG (run:=R) hn hl
 refine ⟨l,P,hll,?_⟩
 have e1:f2 gIx (fVar 3) (f1 gNeg (fC (.int 1))) (TE s e row (pre++[a]) R s5 s6)=.ok (.pers (zf a)):=by
  show gIx (.lst ((pre++[a]).map zf)) (.int (-1))=_
  simp only [gIx,zhq]
 have e2:fVar 4 (TE s e row (pre++[a]) R s5 s6)=.ok (.brw 4 (R.map zi)):=rfl
 have hc:zL zP (zl (f2 gIx (fVar 3) (f1 gNeg (fC (.int 1)))) (zl (fVar 4) (zl X (fNil)))) (TE s e row (pre++[a]) R s5 s6)=.ok (.fresh (l.map zf)):=by
  simp only [zL,zl,fNil,e1,e2,hX,zm]
  show ((zP [zf a,.lst (R.map zi),zf b]).bind _)=_
  rw [h,zm,if_pos (by
   rw [Bool.or_eq_true]
   exact .inr (uI l))]
 have hz:(pre++[a]).length+l.length≤100000:=by simp; lia
 show ((zL zP (zl (f2 gIx (fVar 3) (f1 gNeg (fC (.int 1)))) (zl (fVar 4) (zl X (fNil)))) (TE s e row (pre++[a]) R s5 s6)).bind _)=_
 rw [hc,zm]
 show (if ((pre++[a]).map zf).length+(l.map zf).length≤100000 then _ else _)=_
 rw [if_pos (by rw [List.length_map,List.length_map]; exact hz)]
 rw [←List.map_append]
 rfl
noncomputable def zaP:List Gate→List Gate→Spot→List (List Gate×Spot)
 | R,[],e=>[(R,e)]
 | R,g::r,e=>if R≠[]∧(zD R).w≠g.w then (R,(zF (zD R) g).1)::([],(zF (zD R) g).2)::zaP [g] r e else zaP (R++[g]) r e
theorem zfI {R:List Gate} {g:Gate} (h:R.Pairwise Up) (hR:R≠[]) (u:Up (zD R) g):(R++[g]).Pairwise Up:=by
 rw [List.pairwise_append]
 refine ⟨h,by simp,fun x hx y hy => ?_⟩
 rw [List.mem_singleton.mp hy]
 obtain ⟨m,z,rfl⟩:∃ m z,R=m++[z]:=⟨R.dropLast,R.getLast hR,(List.dropLast_concat_getLast hR).symm⟩
 have el:zD (m++[z])=z:=by
  unfold zD
  rw [List.getLastD_eq_getLast?,List.getLast?_concat]
  rfl
 rw [el] at u
 rcases List.mem_append.mp hx with hx | hx
 ·exact ((List.pairwise_append.mp h).2.2 x hx z (by simp)).trans u
 ·rw [List.mem_singleton.mp hx]; exact u
theorem zad:∀ (r R:List Gate) (e:Spot),R≠[]→R.Pairwise Up→Walk (zD R::r)→zaP R r e=uT (xm (R++r)) e
 | [],R,e,hR,hu,_=>by
   have:=zen (r:=[]) hu hR (by simp)
   rw [this]
   rfl
 | g::r,R,e,hR,hu,⟨w1,w2,w3⟩=>by
   by_cases z:(zD R).w=g.w
   ·have u:=w1 z
    have el:zD (R++[g])=g:=by
     unfold zD
     rw [List.getLastD_eq_getLast?,List.getLast?_concat]
     rfl
    have ih:=zad r (R++[g]) e (by simp) (zfI hu hR u) (by rw [el]; exact w3)
    rw [zaP,if_neg fun q=>q.2 z,ih,List.append_assoc]
    rfl
   ·have ih:=zad r [g] e (by simp) (by simp) w3
    rw [zaP,if_pos ⟨hR,z⟩,ih,zen (r:=g::r) hu hR (fun h hh=>by simp at hh; rw [←hh]; exact z)]
    obtain ⟨Q,rs,er⟩:=vM g r
    show _=uT (R::xm (g::r)) e
    have e2:xm ([g]++r)=xm (g::r):=rfl
    rw [e2,er]
    rfl
theorem zh5 {row:List Gate} (e:Spot) (h:Walk row):zaP [] row e=uT (xm row) e:=by
 cases row with
 | nil=>rfl
 | cons g r =>
   rw [zaP,if_neg fun q=>q.1 rfl]
   exact zad r [g] e (by simp) (by simp) h
noncomputable def Bx (x:Int):Prop := -(2^60)<x∧x<2^60
theorem zaC {a b:Spot} (h:Bx a.1) (k:Bx b.1):near a b:=by
 unfold Bx at h k
 unfold near
 lia
theorem ziD (g h:Gate):(zF g h).1.1=g.x∧(zF g h).2.1=g.x:=by
 unfold zF
 split <;> exact ⟨rfl,rfl⟩
theorem zfa {s e u:Spot} {row:List Gate} {pre:List Spot} {R:List Gate} {g:Gate} {s6:Slot} (bu:Bx u.1) (bR:∀ x∈R,Bx x.x) (hl:R.length≤40) (hp:pre.length<9000) (ht:R≠[]→(zD R).w≠g.w→TurnOk (zD R) g) :
 (if R≠[]∧(zD R).w≠g.w then ∃ l s6',Pul R u (zF (zD R) g).1 l∧l.length≤R.length+1∧yw (TE s e row (pre++[u]) R (.pers (zi g)) s6)=.ok (.next (TE s e row (pre++[u]++l++[(zF (zD R) g).2]) [g] (.pers (zi g)) s6'))
  else yw (TE s e row (pre++[u]) R (.pers (zi g)) s6)=.ok (.next (TE s e row (pre++[u]) (R++[g]) (.pers (zi g)) s6))):=by
 have hap:∀ (sp:List Spot) (Q:List Gate) (z:Slot),Q.length<1000→appS 4 (fVar 5) (TE s e row sp Q (.pers (zi g)) z)=.ok (.next (TE s e row sp (Q++[g]) (.pers (zi g)) z)):=fun sp Q z hQ=>by
  have:Q.length<100000:=by lia
  simp [TE,this]
 by_cases hR:R=[]
 ·subst hR
  rw [if_neg fun q=>q.1 rfl]
  unfold yw
  rw [zj (env':=TE s e row (pre++[u]) [] (.pers (zi g)) s6) rfl]
  exact hap _ _ _ (by simp)
 have lg:atI (R.map zi) (-1)=some (zi (zD R)):=by
  unfold zD
  rw [ze2,List.length_map,List.getElem?_map,←List.getLast?_eq_getElem?,List.getLastD_eq_getLast?,List.getLast?_eq_some_getLast hR]
  rfl
 have hlast:f2 gIx (fVar 4) (f1 gNeg (fC (.int 1))) (TE s e row (pre++[u]) R (.pers (zi g)) s6)=.ok (.pers (zi (zD R))):=by
  show gIx (.lst (R.map zi)) (.int (-1))=_
  simp only [gIx,lg]
 have c:fAnd (fTr (fVar 4)) (fTrB (f2 gNe (f2 gIx (f2 gIx (fVar 4) (f1 gNeg (fC (.int 1)))) (fC (.int 3))) (f2 gIx (fVar 5) (fC (.int 3))))) (TE s e row (pre++[u]) R (.pers (zi g)) s6)=.ok (decide ((zD R).w≠g.w)):=by
  have t1:fTr (fVar 4) (TE s e row (pre++[u]) R (.pers (zi g)) s6)=.ok true:=by
   cases R with
   | nil=>exact absurd rfl hR
   | cons x r=>rfl
  have t2:f2 gNe (f2 gIx (f2 gIx (fVar 4) (f1 gNeg (fC (.int 1)))) (fC (.int 3))) (f2 gIx (fVar 5) (fC (.int 3))) (TE s e row (pre++[u]) R (.pers (zi g)) s6)=gNe (.int (zD R).w) (.int g.w):=by
   have e3:f2 gIx (f2 gIx (fVar 4) (f1 gNeg (fC (.int 1)))) (fC (.int 3)) (TE s e row (pre++[u]) R (.pers (zi g)) s6)=.ok (.pers (.int (zD R).w)):=by
    show ((f2 gIx (fVar 4) (f1 gNeg (fC (.int 1))) (TE s e row (pre++[u]) R (.pers (zi g)) s6)).bind _)=_
    rw [hlast]
    rfl
   show ((f2 gIx (f2 gIx (fVar 4) (f1 gNeg (fC (.int 1)))) (fC (.int 3)) (TE s e row (pre++[u]) R (.pers (zi g)) s6)).bind _)=_
   rw [e3]
   rfl
  simp only [fAnd,t1,zm,if_true,fTrB,t2]
  by_cases z:(zD R).w=g.w <;> simp [z]
 by_cases z:(zD R).w=g.w
 ·rw [if_neg fun q=>q.2 z]
  unfold yw
  rw [decide_eq_false (fun w=>w z)] at c
  rw [zj (env':=TE s e row (pre++[u]) R (.pers (zi g)) s6) (by
   simp only [wO,ifS,c,zm]
   rfl)]
  exact hap _ _ _ (by lia)
 ·rw [if_pos ⟨hR,z⟩]
  rw [decide_eq_true z] at c
  have hT:=ze7 (ht hR z)
  have hm:zD R∈R:=by
   unfold zD
   rw [List.getLastD_eq_getLast?,List.getLast?_eq_some_getLast hR]
   exact List.getLast_mem hR
  obtain ⟨tx1,tx2⟩:=ziD (zD R) g
  have b1:Bx (zF (zD R) g).1.1:=by rw [tx1]; exact bR _ hm
  obtain ⟨l,P,hll,hx⟩:=zcg (s:=s) (e:=e) (row:=row) (pre:=pre) (R:=R) (s5:=.pers (zi g)) (s6:=.pers (.tup [zf (zF (zD R) g).1,zf (zF (zD R) g).2])) (X:=f2 gIx (fVar 6) (fC (.int 0))) (b:=(zF (zD R) g).1) rfl (zaC bu b1) hl (by lia)
  refine ⟨l,.pers (.tup [zf (zF (zD R) g).1,zf (zF (zD R) g).2]),P,hll,?_⟩
  have hc6:zL zT (zl (f2 gIx (fVar 4) (f1 gNeg (fC (.int 1)))) (zl (fVar 5) (fNil))) (TE s e row (pre++[u]) R (.pers (zi g)) s6)=.ok (.pers (.tup [zf (zF (zD R) g).1,zf (zF (zD R) g).2])):=by
   have e5:fVar 5 (TE s e row (pre++[u]) R (.pers (zi g)) s6)=.ok (.pers (zi g)):=rfl
   simp only [zL,zl,fNil,hlast,e5,zm]
   show ((zT [zi (zD R),zi g]).bind _)=_
   rw [hT]
   rfl
  have hap3:appS 3 (f2 gIx (fVar 6) (fC (.int 1))) (TE s e row (pre++[u]++l) R (.pers (zi g)) (.pers (.tup [zf (zF (zD R) g).1,zf (zF (zD R) g).2])))=.ok (.next (TE s e row (pre++[u]++l++[(zF (zD R) g).2]) R (.pers (zi g)) (.pers (.tup [zf (zF (zD R) g).1,zf (zF (zD R) g).2])))):=by
   have hlen:((pre++[u]++l).map zf).length<100000:=by simp; lia
   show (if ((pre++[u]++l).map zf).length<100000 then _ else _)=_
   rw [if_pos hlen]
   unfold TE
   rw [List.map_append (l₂:=[(zF (zD R) g).2])]
   rfl
  unfold yw
  rw [zj (env':=TE s e row (pre++[u]++l++[(zF (zD R) g).2]) [] (.pers (zi g)) (.pers (.tup [zf (zF (zD R) g).1,zf (zF (zD R) g).2]))) (by
   simp only [wO,ifS,c,zm,if_true]
   rw [zj (env':=TE s e row (pre++[u]) R (.pers (zi g)) (.pers (.tup [zf (zF (zD R) g).1,zf (zF (zD R) g).2]))) (by
    simp only [setS,hc6,zm]
    rfl),zj hx,zj hap3]
   rfl)]
  exact hap _ [] _ (by simp)
theorem zhO (a b:Spot):Pul [] a b [b]:=.stop fun g hg=>absurd hg (by simp)
theorem tN {s e:Spot} {row:List Gate} {xs:List Int} (hxs:xs.length≤40):∀ (rest R:List Gate) (pre:List Spot) (u:Spot) (s5 s6:Slot),Bx u.1→(∀ x∈R,Bx x.x∧x.x∈xs)→(∀ x∈rest,Bx x.x∧x.x∈xs)→R.Pairwise Up→pre.length+R.length+3*rest.length<9000→(R=[]→Walk rest)→(R≠[]→Walk (zD R::rest)) →
 ∃ (pre':List Spot) (u':Spot) (R':List Gate) (T:List Spot) (s5' s6':Slot),forD (gN 5) yw (rest.map zi) (TE s e row (pre++[u]) R s5 s6)=.ok (.next (TE s e row (pre'++[u']) R' s5' s6'))∧pre'++[u']=pre++[u]++T∧Bx u'.1∧R'.length≤40∧pre'.length<9000∧∀ l,Pul R' u' e l→Tot u (zaP R rest e) (T++l)
 | [],R,pre,u,s5,s6,bu,bR,_,hu,hp,_,_=>⟨pre,u,R,[],s5,s6,rfl,by simp,bu,Nat.le_trans (ziA hu fun g hg=>(bR g hg).2) hxs,by lia,fun l P=>by
  have:=Tot.cons P (Tot.nil (a:=e))
  rw [List.append_nil] at this
  exact this⟩
 | g::rest,R,pre,u,s5,s6,bu,bR,bg,hu,hp,w0,w1=>by
   simp only [List.length_cons] at hp
   have ht:R≠[]→(zD R).w≠g.w→TurnOk (zD R) g:=fun h z=>(w1 h).2.1 z
   have hR40:R.length≤40:=Nat.le_trans (ziA hu fun g hg=>(bR g hg).2) hxs
   have st:=zfa (s:=s) (e:=e) (row:=row) (pre:=pre) (R:=R) (g:=g) (s6:=s6) bu (fun x hx=>(bR x hx).1) hR40 (by lia) ht
   have hg:gN 5 (zi g) (TE s e row (pre++[u]) R s5 s6)=.ok (TE s e row (pre++[u]) R (.pers (zi g)) s6):=rfl
   have bg':∀ x∈rest,Bx x.x∧x.x∈xs:=fun x hx=>bg x (by simp [hx])
   have wg:Walk (g::rest):=by
    by_cases h:R=[]
    ·exact w0 h
    ·exact (w1 h).2.2
   by_cases c:R≠[]∧(zD R).w≠g.w
   ·rw [if_pos c] at st
    obtain ⟨l1,s6',P1,hl1,hb⟩:=st
    have hm:zD R∈R:=by
     unfold zD
     rw [List.getLastD_eq_getLast?,List.getLast?_eq_some_getLast c.1]
     exact List.getLast_mem c.1
    have b2:Bx (zF (zD R) g).2.1:=by rw [(ziD (zD R) g).2]; exact (bR _ hm).1
    obtain ⟨pre',u',R',T,s5',s6'',e1,e2,b',k1,k2,tot⟩:=tN (s:=s) (e:=e) (row:=row) hxs rest [g] (pre++[u]++l1) (zF (zD R) g).2 (.pers (zi g)) s6' b2 (fun x hx=>by rw [List.mem_singleton.mp hx]; exact bg g (by simp)) bg' (by simp) (by simp; lia) (fun z=>by simp at z) (fun _=>wg)
    refine ⟨pre',u',R',l1++([(zF (zD R) g).2]++T),s5',s6'',?_,by rw [e2]; simp,b',k1,k2,fun l P => ?_⟩
    ·rw [List.map_cons,forD,hg,zm,hb,zm]
     exact e1
    ·rw [zaP,if_pos c,List.append_assoc,List.append_assoc]
     exact .cons P1 (.cons (zhO _ _) (tot l P))
   ·rw [if_neg c] at st
    have el:zD (R++[g])=g:=by
     unfold zD
     rw [List.getLastD_eq_getLast?,List.getLast?_concat]
     rfl
    have hu':(R++[g]).Pairwise Up:=by
     by_cases h:R=[]
     ·subst h; simp
     ·have hw:(zD R).w=g.w:=Decidable.byContradiction fun z=>c ⟨h,z⟩
      exact zfI hu h ((w1 h).1 hw)
    obtain ⟨pre',u',R',T,s5',s6'',e1,e2,b',k1,k2,tot⟩:=tN (s:=s) (e:=e) (row:=row) hxs rest (R++[g]) pre u (.pers (zi g)) s6 bu (fun x hx=>by
     rcases List.mem_append.mp hx with hx | hx
     ·exact bR x hx
     ·rw [List.mem_singleton.mp hx]; exact bg g (by simp)) bg' hu' (by simp; lia) (fun z=>by simp at z) (fun _=>by rw [el]; exact wg)
    refine ⟨pre',u',R',T,s5',s6'',?_,e2,b',k1,k2,fun l P => ?_⟩
    ·rw [List.map_cons,forD,hg,zm,st,zm]
     exact e1
    ·rw [zaP,if_neg c]
     exact tot l P
theorem zhe (a:Spot) (m:List Spot) (e:Spot):cutD ((a::(m++[e])).map zf) (some 1) (some (-1))=m.map zf:=by
 have hl:((a::(m++[e])).map zf).length=m.length+2:=by simp
 unfold DL.cutD
 rw [hl]
 show (((a::(m++[e])).map zf).drop (if (1:Int)<0 then ((1:Int)+((m.length+2:Nat):Int)).toNat else min (1:Int).toNat (m.length+2))).take ((if (-1:Int)<0 then ((-1:Int)+((m.length+2:Nat):Int)).toNat else min (-1:Int).toNat (m.length+2)) - (if (1:Int)<0 then ((1:Int)+((m.length+2:Nat):Int)).toNat else min (1:Int).toNat (m.length+2)))=_
 rw [if_pos (show (-1:Int)<0 by lia),if_neg (show ¬ (1:Int)<0 by lia)]
 have e1:min (1:Int).toNat (m.length+2)=1:=by
  show min 1 (m.length+2)=1
  lia
 have e2:((-1:Int)+((m.length+2:Nat):Int)).toNat=m.length+1:=by lia
 rw [e1,e2]
 simp
theorem ze9 {s e:Spot} {row:List Gate} {xs:List Int} (bs:Bx s.1) (be:Bx e.1) (bg:∀ g∈row,Bx g.x∧g.x∈xs) (hxs:xs.length≤40) (hl:row.length≤2500) (w:Walk row) :
 ∃ m,Tot s (uT (xm row) e) (m++[e])∧m.length≤9100∧yo [zf s,.lst (row.map zi),zf e]=.ok (.fresh (m.map zf)):=by
 obtain ⟨pre,u,R,T,s5,s6,ef,ep,bu,hR,hp,tot⟩:=tN (s:=s) (e:=e) (row:=row) hxs row [] [] s .un .un bs (by simp) bg (by simp) (by simp; lia) (fun _=>w) (fun z=>absurd rfl z)
 obtain ⟨l,P,hll,hx⟩:=zcg (s:=s) (e:=e) (a:=u) (row:=row) (pre:=pre) (R:=R) (s5:=s5) (s6:=s6) (X:=fVar 2) (b:=e) rfl (zaC bu be) hR (by lia)
 obtain ⟨z,rfl⟩:=zev P
 have tt:=tot _ P
 rw [zh5 e w,←List.append_assoc] at tt
 have hlen:=congrArg List.length ep
 simp only [List.length_append,List.length_cons,List.length_nil] at hlen hll
 refine ⟨T++z,tt,by rw [List.length_append]; lia,?_⟩
 have e4:pre++[u]++(z++[e])=s::((T++z)++[e]):=by rw [ep]; simp
 have hcut:fSl (fVar 3) (fSo (fC (.int 1))) (fSo (f1 gNeg (fC (.int 1)))) (TE s e row (s::((T++z)++[e])) R s5 s6)=.ok (.fresh ((T++z).map zf)):=by
  show Out.ok (Val.fresh (cutD ((s::((T++z)++[e])).map zf) (some 1) (some (-1))))=_
  rw [zhe]
 unfold yo
 show ((xJ [.pers (zf s),.pers (.lst (row.map zi)),.pers (zf e),.un,.un,.un,.un]).bind _)=_
 unfold xJ
 rw [zj (env':=[.pers (zf s),.pers (.lst (row.map zi)),.pers (zf e),.own [zf s],.un,.un,.un]) rfl]
 rw [zj (env':=TE s e row ([]++[s]) [] .un .un) rfl]
 rw [zj (by
  have hi:fItL (fVar 1) (TE s e row ([]++[s]) [] .un .un)=.ok (row.map zi):=rfl
  simp only [forS,hi,zm]
  exact ef)]
 rw [zj hx,e4]
 simp only [retS,hcut,zm]
noncomputable def yr:FS :=
 seqS (setS 3 true (f2 gSub (f2 gIx (fVar 1) (fC (.int 0))) (f2 gIx (fVar 0) (fC (.int 0)))))
 (seqS (setS 4 true (f2 gSub (f2 gIx (fVar 1) (fC (.int 1))) (f2 gIx (fVar 0) (fC (.int 1)))))
 (seqS (setS 5 true (f2 gSub (f2 gIx (fVar 2) (fC (.int 0))) (f2 gIx (fVar 1) (fC (.int 0)))))
 (seqS (setS 6 true (f2 gSub (f2 gIx (fVar 2) (fC (.int 1))) (f2 gIx (fVar 1) (fC (.int 1)))))
 (retS (zbS (f2 gEq (f2 gMul (fVar 3) (fVar 6)) (f2 gMul (fVar 4) (fVar 5))) (f2 gGt (f2 gAdd (f2 gMul (fVar 3) (fVar 5)) (f2 gMul (fVar 4) (fVar 6))) (fC (.int 0))))))))
noncomputable def zV:List D→Out Val:=runD 7 yr
theorem vS:∀ ds v,ds.length=3→zV ds=.ok v→runD 7 yr ds=.ok v:=fun _ _ _ h=>h
theorem zdb {o m n:Spot} (h1:near o m) (h2:near m n) (h3 : -(2^64)<m.2 - o.2∧m.2 - o.2<2^64):zV [zf o,zf m,zf n]=.ok (.pers (.bl (straight o m n))):=by
 have c1:∀ j,cMul (m.1 - o.1) j=true:=fun j=>v8 h1.1 h1.2
 have c2:∀ j,cMul j (n.1 - m.1)=true:=fun j=>wp h2.1 h2.2
 have c3:∀ j,cMul (m.2 - o.2) j=true:=fun j=>v8 h3.1 h3.2
 unfold zV
 show ((yr [.pers (zf o),.pers (zf m),.pers (zf n),.un,.un,.un,.un]).bind _)=_
 unfold yr
 rw [zj (env':=[.pers (zf o),.pers (zf m),.pers (zf n),.pers (.int (m.1 - o.1)),.un,.un,.un]) rfl]
 rw [zj (env':=[.pers (zf o),.pers (zf m),.pers (zf n),.pers (.int (m.1 - o.1)),.pers (.int (m.2 - o.2)),.un,.un]) rfl]
 rw [zj (env':=[.pers (zf o),.pers (zf m),.pers (zf n),.pers (.int (m.1 - o.1)),.pers (.int (m.2 - o.2)),.pers (.int (n.1 - m.1)),.un]) rfl]
 rw [zj (env':=[.pers (zf o),.pers (zf m),.pers (zf n),.pers (.int (m.1 - o.1)),.pers (.int (m.2 - o.2)),.pers (.int (n.1 - m.1)),.pers (.int (n.2 - m.2))]) rfl]
 unfold straight
 by_cases z:(m.1 - o.1)*(n.2 - m.2)=(m.2 - o.2)*(n.1 - m.1)
 ·simp [c1,c2,c3,z]
 ·have zb:((m.1 - o.1)*(n.2 - m.2) == (m.2 - o.2)*(n.1 - m.1))=false:=beq_eq_false_iff_ne.mpr z
  simp [c1,c2,c3,zb,z]
@[reducible] noncomputable def ym:FT :=
 fNot (fTr (zL zV (zl (fVar 0) (zl (fVar 1) (zl (fVar 2) (fNil))))))
@[reducible] noncomputable def xh:FE :=
 fVar 1
noncomputable def wl:FS :=
 seqS (setS 3 true (f2 gAdd (f2 gAdd (fLst (zB (fVar 0) (hNil))) (zL zZ (zl (zL yo (zl (fVar 0) (zl (fVar 1) (zl (fVar 2) (fNil))))) (fNil)))) (fLst (zB (fVar 2) (hNil)))))
 (seqS (setS 4 true (xL [] 3 (zih (fVar 3) (fSl (fVar 3) (fSo (fC (.int 1))) (fNo)) (fSl (fVar 3) (fSo (fC (.int 2))) (fNo))) (gT [0,1,2]) (ym) (xh)))
 (retS (f2 gAdd (f2 gAdd (fLst (zB (fVar 0) (hNil))) (fVar 4)) (fLst (zB (fVar 2) (hNil))))))
noncomputable def yO:List D→Out Val:=runD 5 wl
theorem zbJ:∀ ds v,ds.length=3→yO ds=.ok v→runD 5 wl ds=.ok v:=fun _ _ _ h=>h
noncomputable def triD (t:Spot×Spot×Spot):D:=.tup [zf t.1,zf t.2.1,zf t.2.2]
theorem zfB:∀ l:List Spot,ui (l.map zf) (l.tail.map zf) (l.tail.tail.map zf)=(yI l).map triD
 | []=>rfl
 | [_]=>rfl
 | [_,_]=>rfl
 | o::m::n::r=>by
   have ih:=zfB (m::n::r)
   simp only [List.tail_cons,List.map_cons] at ih ⊢
   rw [ui,yI,List.map_cons,←ih]
   rfl
theorem zfQ:∀ l:List Spot,(yI l).length≤l.length
 | []=>Nat.le_refl _
 | [_]=>Nat.zero_le _
 | [_,_]=>Nat.zero_le _
 | o::m::n::r=>by
   have:=zfQ (m::n::r)
   rw [yI,List.length_cons,List.length_cons]
   lia
theorem zeX:∀ (ts:List (Spot×Spot×Spot)) (a b c:Slot),(∀ t∈ts,near t.1 t.2.1∧near t.2.1 t.2.2 ∧ -(2^64)<t.2.1.2 - t.1.2∧t.2.1.2 - t.1.2<2^64)→compD (gT [0,1,2]) ym xh (ts.map triD) [a,b,c]=.ok ((ts.filterMap fun t=>if straight t.1 t.2.1 t.2.2=true then none else some t.2.1).map zf)
 | [],_,_,_,_=>rfl
 | t::ts,a,b,c,h=>by
   obtain ⟨h1,h2,h3⟩:=h t (by simp)
   have st:=zdb h1 h2 h3
   have ih:=zeX ts (.pers (zf t.1)) (.pers (zf t.2.1)) (.pers (zf t.2.2)) (fun x hx=>h x (by simp [hx]))
   have hg:gT [0,1,2] (triD t) [a,b,c]=.ok [.pers (zf t.1),.pers (zf t.2.1),.pers (zf t.2.2)]:=rfl
   have ht:ym [.pers (zf t.1),.pers (zf t.2.1),.pers (zf t.2.2)]=.ok (!straight t.1 t.2.1 t.2.2):=by
    have hc:zL zV (zl (fVar 0) (zl (fVar 1) (zl (fVar 2) (fNil)))) [.pers (zf t.1),.pers (zf t.2.1),.pers (zf t.2.2)]=.ok (.pers (.bl (straight t.1 t.2.1 t.2.2))):=by
     show ((zV [zf t.1,zf t.2.1,zf t.2.2]).bind _)=_
     rw [st]
     rfl
    simp only [ym,fNot,fTr,hc,zm,Val.d,trD]
   rw [List.map_cons,compD,hg,zm,ht,zm,List.filterMap_cons]
   cases straight t.1 t.2.1 t.2.2 with
   | true=>exact ih
   | false =>
     show ((compD (gT [0,1,2]) ym xh (ts.map triD) [.pers (zf t.1),.pers (zf t.2.1),.pers (zf t.2.2)]).bind _)=_
     rw [ih]
     rfl
structure PullOk (s e:Spot) (row:List Gate):Prop where
 bs:Bx s.1
 be:Bx e.1
 bg:∀ g∈row,Bx g.x
 xs:∃ xs:List Int,xs.length≤40∧∀ g∈row,g.x∈xs
 len:row.length≤2500
 walk:Walk row
 sx:∀ g∈row,g.x≠s.1
 ex:∀ g∈row,g.x≠e.1
 hh:∃ c:Int,∀ p,p=s∨p=e∨PegOf row p→c≤p.2∧p.2<c+2^64
theorem zf9 {s e:Spot} {row:List Gate} (ok:PullOk s e row):∃ out,zb9 s (xm row) e out∧out.length≤9200∧yO [zf s,.lst (row.map zi),zf e]=.ok (.fresh (out.map zf)):=by
 obtain ⟨xs,hxs,hx⟩:=ok.xs
 obtain ⟨m,tot,hm,ht⟩:=ze9 ok.bs ok.be (fun g hg=>⟨ok.bg g hg,hx g hg⟩) hxs ok.len ok.walk
 have tn:=tQ _ (tp row ok.walk)
 obtain ⟨m',em,hp⟩:=zac (xm row) s e (m++[e]) tn tot
 obtain rfl:m=m':=(List.append_inj' em rfl).1
 rw [vN] at hp
 have n1:∀ p∈m,p≠s:=fun p k q=>by
  obtain ⟨g,hg,w,_⟩:=hp p k
  exact ok.sx g hg (by rw [←w,q])
 have n2:∀ p∈m,p≠e:=fun p k q=>by
  obtain ⟨g,hg,w,_⟩:=hp p k
  exact ok.ex g hg (by rw [←w,q])
 have hu:=zhI (ps:=m) (by lia)
 have hul:=zie m
 generalize hU:m.foldl vv []=U at hu hul
 have hin:∀ p∈s::(U++[e]),p=s∨p=e∨PegOf row p:=fun p k=>by
  rcases List.mem_cons.mp k with k | k
  ·exact .inl k
  ·rcases List.mem_append.mp k with k | k
   ·rw [←hU] at k
    exact .inr (.inr (hp p (zce k)))
   ·exact .inr (.inl (List.mem_singleton.mp k))
 have hbx:∀ p∈s::(U++[e]),Bx p.1:=fun p k=>by
  rcases hin p k with rfl | rfl | ⟨g,hg,w,_⟩
  ·exact ok.bs
  ·exact ok.be
  ·rw [w]; exact ok.bg g hg
 obtain ⟨c,hc⟩:=ok.hh
 have hwl:(s::(U++[e])).length≤9102:=by simp; lia
 refine ⟨s::(yT (s::(U++[e]))++[e]),⟨m++[e],tot,by rw [←hU,zfC n1 n2]⟩,by
  have:=zaj (s::(U++[e]))
  simp only [List.length_cons,List.length_append,List.length_nil] at this hwl ⊢
  lia,?_⟩
 have E0:∀ s4:Slot,∃ E:Ev,E=[.pers (zf s),.pers (.lst (row.map zi)),.pers (zf e),s4,.un]:=fun s4=>⟨_,rfl⟩
 have ct:zL yo (zl (fVar 0) (zl (fVar 1) (zl (fVar 2) (fNil)))) [.pers (zf s),.pers (.lst (row.map zi)),.pers (zf e),.un,.un]=.ok (.fresh (m.map zf)):=by
  show ((yo [zf s,.lst (row.map zi),zf e]).bind _)=_
  rw [ht]
  rfl
 have cu:zL zZ (zl (zL yo (zl (fVar 0) (zl (fVar 1) (zl (fVar 2) (fNil))))) (fNil)) [.pers (zf s),.pers (.lst (row.map zi)),.pers (zf e),.un,.un]=.ok (.fresh (U.map zf)):=by
  rw [zL,zl,ct,zm]
  show ((zZ [.lst (m.map zf)]).bind _)=_
  rw [hu,zm,if_pos (by
   rw [Bool.or_eq_true]
   exact .inr (uI U))]
 have add3:∀ (L:List Spot),L.length≤9102→∀ (X:FE) (E:Ev),X E=.ok (.fresh (L.map zf))∨X E=.ok (.pers (.lst (L.map zf)))→E[0]?=some (.pers (zf s))→E[2]?=some (.pers (zf e))→f2 gAdd (f2 gAdd (fLst (zB (fVar 0) (hNil))) X) (fLst (zB (fVar 2) (hNil))) E=.ok (.fresh ((s::(L++[e])).map zf)):=by
  intro L hL X E hX h0 h2
  have v0:fLst (zB (fVar 0) (hNil)) E=.ok (.fresh [zf s]):=by
   simp only [fLst,zB,hNil,fVar,h0,zm]
   rfl
  have v2:fLst (zB (fVar 2) (hNil)) E=.ok (.fresh [zf e]):=by
   simp only [fLst,zB,hNil,fVar,h2,zm]
   rfl
  have a1:f2 gAdd (fLst (zB (fVar 0) (hNil))) X E=.ok (.fresh ((s::L).map zf)):=by
   have:f2 gAdd (fLst (zB (fVar 0) (hNil))) X E=gAdd (.lst [zf s]) (.lst (L.map zf)):=by
    rcases hX with hX | hX <;> simp only [f2,v0,hX,zm,Val.d]
   rw [this,gAdd,if_pos (by simp only [List.length_cons,List.length_nil,List.length_map]; lia)]
   rfl
  have:f2 gAdd (f2 gAdd (fLst (zB (fVar 0) (hNil))) X) (fLst (zB (fVar 2) (hNil))) E=gAdd (.lst ((s::L).map zf)) (.lst [zf e]):=by
   show ((f2 gAdd (fLst (zB (fVar 0) (hNil))) X E).bind _)=_
   rw [a1,zm,v2,zm]
   rfl
  rw [this,gAdd,if_pos (by simp only [List.length_cons,List.length_nil,List.length_map]; lia)]
  simp only [List.map_cons,List.map_append,List.map_nil,List.cons_append]
 have hway:=add3 U (by lia) _ [.pers (zf s),.pers (.lst (row.map zi)),.pers (zf e),.un,.un] (.inl cu) rfl rfl
 generalize hW:s::(U++[e])=W at hway hin hbx hwl
 have hcomp:compD (gT [0,1,2]) ym xh ((yI W).map triD) [.un,.un,.un]=.ok ((yT W).map zf):=by
  rw [zeX _ _ _ _ fun t k => ?_,zcG]
  obtain ⟨k1,k2,k3⟩:=zfP k
  have q1:=hc _ (hin _ k1)
  have q2:=hc _ (hin _ k2)
  exact ⟨zaC (hbx _ k1) (hbx _ k2),zaC (hbx _ k2) (hbx _ k3),by lia,by lia⟩
 have hz:zih (fVar 3) (fSl (fVar 3) (fSo (fC (.int 1))) (fNo)) (fSl (fVar 3) (fSo (fC (.int 2))) (fNo)) [.pers (zf s),.pers (.lst (row.map zi)),.pers (zf e),.pers (.lst (W.map zf)),.un]=.ok ((yI W).map triD):=by
  show Out.ok (ui (W.map zf) (cutD (W.map zf) (some 1) none) (cutD (W.map zf) (some 2) none))=_
  rw [zbX _ 1 1 rfl,zbX _ 2 2 rfl,←zfB,List.map_tail,List.map_tail,List.map_tail,←List.drop_one,←List.drop_one,List.drop_drop]
 have hb:xL [] 3 (zih (fVar 3) (fSl (fVar 3) (fSo (fC (.int 1))) (fNo)) (fSl (fVar 3) (fSo (fC (.int 2))) (fNo))) (gT [0,1,2]) (ym) (xh) [.pers (zf s),.pers (.lst (row.map zi)),.pers (zf e),.pers (.lst (W.map zf)),.un]=.ok (.fresh ((yT W).map zf)):=by
  have hl:((yI W).map triD).length≤100000:=by
   rw [List.length_map]
   have:=zfQ W
   lia
  rw [xL,hz,zm,if_pos hl]
  show ((compD (gT [0,1,2]) ym xh ((yI W).map triD) [.un,.un,.un]).bind _)=_
  rw [hcomp]
  rfl
 have hil:=zaj W
 have hlast:=add3 (yT W) (by lia) (fVar 4) [.pers (zf s),.pers (.lst (row.map zi)),.pers (zf e),.pers (.lst (W.map zf)),.pers (.lst ((yT W).map zf))] (.inr rfl) rfl rfl
 unfold yO
 show ((wl [.pers (zf s),.pers (.lst (row.map zi)),.pers (zf e),.un,.un]).bind _)=_
 unfold wl
 rw [zj (env':=[.pers (zf s),.pers (.lst (row.map zi)),.pers (zf e),.pers (.lst (W.map zf)),.un]) (by
  rw [setS,hway]
  rfl)]
 rw [zj (env':=[.pers (zf s),.pers (.lst (row.map zi)),.pers (zf e),.pers (.lst (W.map zf)),.pers (.lst ((yT W).map zf))]) (by
  rw [setS,hb]
  rfl)]
 rw [retS,hlast]
 rfl
noncomputable def zdE:FS :=
 retS (zbS (f1 (gIsi "int") (fVar 0)) (zlz (f1 (gIsi "bool") (fVar 0))))
noncomputable def zbK:List D→Out Val:=runD 1 zdE
theorem zfi:∀ ds v,ds.length=1→zbK ds=.ok v→runD 1 zdE ds=.ok v:=fun _ _ _ h=>h
@[reducible] noncomputable def zbh:FS :=
 ifS (fOr (fNot (fTr (f1 (gIsi "list") (fVar 0)))) (fTrB (f2 gLt (fB gLen (zl (fVar 0) (fNil))) (fC (.int 2)))))
 (retS (fC (.bl false)))
 (nxtS)
@[reducible] noncomputable def zbf:FS :=
 ifS (fOr (fNot (fTr (f1 (gIsi "tuple") (fVar 4)))) (fOr (fTrB (f2 gNe (fB gLen (zl (fVar 4) (fNil))) (fC (.int 2)))) (fOr (fNot (fTr (zL zbK (zl (f2 gIx (fVar 4) (fC (.int 0))) (fNil))))) (fNot (fTr (zL zbK (zl (f2 gIx (fVar 4) (fC (.int 1))) (fNil))))))))
 (retS (fC (.bl false)))
 (nxtS)
@[reducible] noncomputable def vi:FS :=
 zbf
@[reducible] noncomputable def zbe:FS :=
 ifS (fAnd (fTrB (f2 gEq (f2 gIx (fVar 0) (fVar 5)) (f2 gIx (fVar 0) (f2 gSub (fVar 5) (fC (.int 1)))))) (fTrB (f2 gGt (fB gLen (zl (fVar 0) (fNil))) (fC (.int 2)))))
 (retS (fC (.bl false)))
 (nxtS)
@[reducible] noncomputable def vf:FS :=
 zbe
@[reducible] noncomputable def zbd:FS :=
 ifS (fOr (fTrB (f2 gNe (f2 gIx (fVar 0) (fC (.int 0))) (fVar 2))) (fTrB (f2 gNe (f2 gIx (fVar 0) (f1 gNeg (fC (.int 1)))) (fVar 3))))
 (retS (fC (.bl false)))
 (nxtS)
@[reducible] noncomputable def uk:FT :=
 fTrB (f2 gNin (fVar 1) (fVar 0))
@[reducible] noncomputable def uB:FE :=
 fVar 1
noncomputable def wT:FS :=
 seqS (zbh)
 (seqS (forS (fItL (fVar 0)) (gN 4)
 (vi))
 (seqS (forS (zbR (zl (fC (.int 1)) (zl (fB gLen (zl (fVar 0) (fNil))) (fNil)))) (gN 5)
 (vf))
 (seqS (zbd)
 (retS (f2 gEq (xL [1] 1 (fItL (fSl (fVar 0) (fSo (fC (.int 1))) (fSo (f1 gNeg (fC (.int 1)))))) (gN 1) (uk) (uB)) (fLst (hNil)))))))
noncomputable def yB:List D→Out Val:=runD 6 wT
theorem zcy:∀ ds v,ds.length=4→yB ds=.ok v→runD 6 wT ds=.ok v:=fun _ _ _ h=>h
@[reducible] noncomputable def zam:FS :=
 ifS (fAnd (fTrB (f2 xY (f2 gIx (fVar 0) (fC (.int 1))) (fC .non))) (fTrB (f2 gLt (fVar 1) (f2 gMul (f2 gIx (fVar 0) (fC (.int 1))) (fVar 2)))))
 (retS (fC (.bl false)))
 (nxtS)
noncomputable def vb:FS :=
 seqS (zam)
 (retS (fOrV (f2 gIsN (f2 gIx (fVar 0) (fC (.int 2))) (fC .non)) (f2 gLe (fVar 1) (f2 gMul (f2 gIx (fVar 0) (fC (.int 2))) (fVar 2)))))
noncomputable def zU:List D→Out Val:=runD 3 vb
theorem zdm:∀ ds v,ds.length=3→zU ds=.ok v→runD 3 vb ds=.ok v:=fun _ _ _ h=>h
@[reducible] noncomputable def zbg:FS :=
 ifS (fOr (fTrB (f2 gNe (f2 gIx (fVar 1) (fC (.int 0))) (f2 gIx (fVar 3) (fC (.int 0))))) (fTrB (f2 gNe (f2 gIx (fVar 2) (fC (.int 0))) (f2 gIx (fVar 3) (fC (.int 0))))))
 (retS (fC .non))
 (nxtS)
@[reducible] noncomputable def xB:FS :=
 ifS (fAnd (fTrB (f2 gGt (f2 gIx (fVar 2) (fC (.int 1))) (f2 gIx (fVar 1) (fC (.int 1))))) (fTrB (f2 xY (f2 gIx (fVar 3) (fC (.int 1))) (fC .non))))
 (setS 5 true (fB zdC (zl (fVar 5) (zl (f2 gIx (fVar 3) (fC (.int 1))) (fNil)))))
 (nxtS)
@[reducible] noncomputable def xA:FS :=
 ifS (fAnd (fTrB (f2 gLt (f2 gIx (fVar 2) (fC (.int 1))) (f2 gIx (fVar 1) (fC (.int 1))))) (fTrB (f2 xY (f2 gIx (fVar 3) (fC (.int 2))) (fC .non))))
 (setS 5 true (fB zao (zl (fVar 5) (zl (f2 gIx (fVar 3) (fC (.int 2))) (fNil)))))
 (nxtS)
@[reducible] noncomputable def w9:FS :=
 ifS (fOr (fNot (fTr (zL zU (zl (fVar 3) (zl (fVar 5) (zl (fC (.int 1)) (fNil))))))) (fTrB (f2 gLt (f2 gMul (f2 gSub (f2 gIx (fVar 2) (fC (.int 1))) (fVar 5)) (f2 gSub (f2 gIx (fVar 2) (fC (.int 1))) (f2 gIx (fVar 1) (fC (.int 1))))) (fC (.int 0)))))
 (retS (fC .non))
 (nxtS)
@[reducible] noncomputable def wf:FS :=
 ifS (fTrB (f2 gEq (fVar 5) (f2 gIx (fVar 2) (fC (.int 1)))))
 (retS (fTup (zB (f2 gAdd (fVar 0) (fC (.int 1))) (zB (fC (.int 0)) (zB (fC (.int 0)) (hNil))))))
 (nxtS)
noncomputable def wk:FS :=
 seqS (zbg)
 (seqS (setS 5 true (fVar 4))
 (seqS (xB)
 (seqS (xA)
 (seqS (w9)
 (seqS (wf)
 (retS (fTup (zB (fVar 0) (zB (fC (.int 1)) (zB (fVar 5) (hNil)))))))))))
noncomputable def wc:List D→Out Val:=runD 6 wk
theorem zcv:∀ ds v,ds.length=5→wc ds=.ok v→runD 6 wk ds=.ok v:=fun _ _ _ h=>h
@[reducible] noncomputable def uy:FS :=
 ifS (fOr (fTrB (f2 gLe (f2 gMul (f2 gSub (f2 gIx (fVar 2) (fC (.int 0))) (f2 gIx (fVar 0) (fC (.int 0)))) (fVar 3)) (fC (.int 0)))) (fTrB (f2 gLe (f2 gMul (f2 gSub (f2 gIx (fVar 1) (fC (.int 0))) (f2 gIx (fVar 2) (fC (.int 0)))) (fVar 3)) (fC (.int 0)))))
 (retS (fC (.bl false)))
 (nxtS)
@[reducible] noncomputable def uw:FS :=
 ifS (fTrB (f2 gLt (fVar 3) (fC (.int 0))))
 (retS (zL zU (zl (fVar 2) (zl (f2 gSub (fC (.int 0)) (fVar 4)) (zl (f2 gSub (fC (.int 0)) (fVar 3)) (fNil))))))
 (nxtS)
noncomputable def xr:FS :=
 seqS (setS 3 true (f2 gSub (f2 gIx (fVar 1) (fC (.int 0))) (f2 gIx (fVar 0) (fC (.int 0)))))
 (seqS (uy)
 (seqS (setS 4 true (f2 gAdd (f2 gMul (f2 gIx (fVar 0) (fC (.int 1))) (fVar 3)) (f2 gMul (f2 gSub (f2 gIx (fVar 1) (fC (.int 1))) (f2 gIx (fVar 0) (fC (.int 1)))) (f2 gSub (f2 gIx (fVar 2) (fC (.int 0))) (f2 gIx (fVar 0) (fC (.int 0)))))))
 (seqS (uw)
 (retS (zL zU (zl (fVar 2) (zl (fVar 4) (zl (fVar 3) (fNil)))))))))
noncomputable def yq:List D→Out Val:=runD 5 xr
theorem zcz:∀ ds v,ds.length=3→yq ds=.ok v→runD 5 xr ds=.ok v:=fun _ _ _ h=>h
@[reducible] noncomputable def wj:FS :=
 ifS (fTrB (f2 gEq (f2 gIx (fVar 4) (fC (.int 0))) (f2 gIx (fVar 5) (fC (.int 0)))))
 (retS (zL wc (zl (fVar 1) (zl (fVar 4) (zl (fVar 5) (zl (fVar 2) (zl (f2 gIx (fLst (zB (f2 gIx (fVar 3) (fC (.int 2))) (zB (f2 gIx (fVar 4) (fC (.int 1))) (hNil)))) (fB gInt (zl (fVar 6) (fNil)))) (fNil))))))))
 (nxtS)
@[reducible] noncomputable def va:FS :=
 ifS (fAnd (fTr (zL yq (zl (fVar 4) (zl (fVar 5) (zl (fVar 2) (fNil)))))) (fOr (fTr (fVar 6)) (fTrB (f2 gGe (f2 gMul (f2 gSub (f2 gIx (fVar 2) (fC (.int 0))) (f2 gIx (fVar 3) (fC (.int 2)))) (f2 gSub (f2 gIx (fVar 5) (fC (.int 0))) (f2 gIx (fVar 4) (fC (.int 0))))) (fC (.int 0))))))
 (retS (fTup (zB (fVar 1) (zB (fC (.int 1)) (zB (f2 gIx (fVar 2) (fC (.int 0))) (hNil))))))
 (nxtS)
noncomputable def xK:FS :=
 seqS (setS 4 true (f2 gIx (fVar 0) (fVar 1)))
 (seqS (setS 5 true (f2 gIx (fVar 0) (f2 gAdd (fVar 1) (fC (.int 1)))))
 (seqS (setS 6 true (fOrV (f2 gGt (fVar 1) (f2 gIx (fVar 3) (fC (.int 0)))) (f2 gEq (f2 gIx (fVar 3) (fC (.int 1))) (fC (.int 0)))))
 (seqS (wj)
 (seqS (va)
 (retS (fC .non))))))
noncomputable def yh:List D→Out Val:=runD 7 xK
theorem zcw:∀ ds v,ds.length=4→yh ds=.ok v→runD 7 xK ds=.ok v:=fun _ _ _ h=>h
@[reducible] noncomputable def zdy:FS :=
 ifS (fAnd (fTrB (f2 gEq (f2 gIx (f2 gIx (fVar 0) (fVar 3)) (fC (.int 0))) (f2 gIx (fVar 1) (fC (.int 0))))) (fTr (zL zU (zl (fVar 1) (zl (f2 gIx (f2 gIx (fVar 0) (fVar 3)) (fC (.int 1))) (zl (fC (.int 1)) (fNil)))))))
 (retS (fTup (zB (fVar 3) (zB (fC (.int 0)) (zB (fC (.int 0)) (hNil))))))
 (nxtS)
@[reducible] noncomputable def zal:FS :=
 ifS (fOr (fTrB (f2 gGt (fVar 3) (f2 gIx (fVar 2) (fC (.int 0))))) (fTrB (f2 gEq (f2 gIx (fVar 2) (fC (.int 1))) (fC (.int 0)))))
 (zdy)
 (nxtS)
@[reducible] noncomputable def zbN:FS :=
 ifS (fTrB (f2 xY (fVar 4) (fC .non)))
 (retS (fVar 4))
 (nxtS)
@[reducible] noncomputable def zdu:FS :=
 ifS (fTrB (f2 gLt (f2 gAdd (fVar 3) (fC (.int 1))) (fB gLen (zl (fVar 0) (fNil)))))
 (seqS (setS 4 true (zL yh (zl (fVar 0) (zl (fVar 3) (zl (fVar 1) (zl (fVar 2) (fNil)))))))
 (zbN))
 (nxtS)
@[reducible] noncomputable def wX:FS :=
 seqS (zal)
 (zdu)
noncomputable def zcO:FS :=
 seqS (forS (zbR (zl (f2 gIx (fVar 2) (fC (.int 0))) (zl (fB gLen (zl (fVar 0) (fNil))) (fNil)))) (gN 3)
 (wX))
 (retS (fC .non))
noncomputable def t9:List D→Out Val:=runD 5 zcO
theorem zgv:∀ ds v,ds.length=3→t9 ds=.ok v→runD 5 zcO ds=.ok v:=fun _ _ _ h=>h
@[reducible] noncomputable def zcJ:FS :=
 ifS (fTrB (f2 gIsN (fVar 3) (fC .non)))
 (retS (fC .non))
 (nxtS)
@[reducible] noncomputable def ud:FS :=
 seqS (setS 3 true (zL t9 (zl (fVar 0) (zl (fVar 4) (zl (fVar 3) (fNil))))))
 (seqS (zcJ)
 (appS 2 (fVar 3)))
noncomputable def vW:FS :=
 seqS (setS 2 false (fLst (hNil)))
 (seqS (setS 3 true (fTup (zB (fC (.int 0)) (zB (fC (.int 0)) (zB (fC (.int 0)) (hNil))))))
 (seqS (forS (fItL (fVar 1)) (gN 4)
 (ud))
 (retS (fVar 2))))
noncomputable def w6:List D→Out Val:=runD 5 vW
theorem zdn:∀ ds v,ds.length=2→w6 ds=.ok v→runD 5 vW ds=.ok v:=fun _ _ _ h=>h
@[reducible] noncomputable def zdz:FS :=
 ifS (fTrB (f2 gNe (f2 gIx (fVar 1) (fC (.int 0))) (f2 gIx (fVar 0) (fC (.int 0)))))
 (retS (fC (.int 0)))
 (nxtS)
@[reducible] noncomputable def zdx:FS :=
 ifS (fTrB (f2 gEq (f2 gIx (fVar 1) (fC (.int 2))) (f2 gIx (fVar 0) (fC (.int 1)))))
 (retS (f2 gIx (fVar 1) (fC (.int 3))))
 (nxtS)
@[reducible] noncomputable def zdw:FS :=
 ifS (fTrB (f2 gEq (f2 gIx (fVar 1) (fC (.int 1))) (f2 gIx (fVar 0) (fC (.int 1)))))
 (retS (f2 gSub (fC (.int 0)) (f2 gIx (fVar 1) (fC (.int 3)))))
 (nxtS)
noncomputable def zbi:FS :=
 seqS (zdz)
 (seqS (zdx)
 (seqS (zdw)
 (retS (fC (.int 0)))))
noncomputable def za7:List D→Out Val:=runD 2 zbi
theorem zgw:∀ ds v,ds.length=2→za7 ds=.ok v→runD 2 zbi ds=.ok v:=fun _ _ _ h=>h
noncomputable def zcM:FS :=
 seqS (setS 3 true (f2 gMul (f2 gSub (f2 gIx (fVar 1) (fC (.int 0))) (f2 gIx (fVar 0) (fC (.int 0)))) (f2 gSub (f2 gIx (fVar 2) (fC (.int 1))) (f2 gIx (fVar 1) (fC (.int 1))))))
 (retS (f2 gSub (fVar 3) (f2 gMul (f2 gSub (f2 gIx (fVar 1) (fC (.int 1))) (f2 gIx (fVar 0) (fC (.int 1)))) (f2 gSub (f2 gIx (fVar 2) (fC (.int 0))) (f2 gIx (fVar 1) (fC (.int 0)))))))
noncomputable def za6:List D→Out Val:=runD 4 zcM
theorem zgt:∀ ds v,ds.length=3→za6 ds=.ok v→runD 4 zcM ds=.ok v:=fun _ _ _ h=>h
@[reducible] noncomputable def zdG:FE :=
 zL za7 (zl (fVar 0) (zl (fVar 1) (fNil)))
@[reducible] noncomputable def zas:FE :=
 f2 gIx (fVar 0) (fC (.int 0))
@[reducible] noncomputable def zgR:FS :=
 ifS (fOr (fTrB (f2 gEq (fVar 4) (fLst (hNil)))) (fOr (fTrB (f2 gEq (f2 gIx (fVar 4) (fC (.int 0))) (fC (.int 0)))) (fTrB (f2 gNe (fVar 4) (xL [4] 1 (fItL (fVar 4)) (gN 1) (fYes) (zas))))))
 (retS (fC (.bl false)))
 (nxtS)
@[reducible] noncomputable def zdv:FS :=
 ifS (fTrB (f2 gNe (fVar 5) (fC (.int 0))))
 (retS (fOrV (f2 gGt (fB gLen (zl (fVar 4) (fNil))) (fC (.int 1))) (f2 gGt (f2 gMul (fVar 5) (f2 gIx (fVar 4) (fC (.int 0)))) (fC (.int 0)))))
 (nxtS)
@[reducible] noncomputable def zgQ:FS :=
 ifS (fTrB (f2 gGe (f2 gAdd (fVar 6) (f2 gMul (f2 gSub (f2 gIx (fVar 1) (fC (.int 1))) (f2 gIx (fVar 0) (fC (.int 1)))) (f2 gSub (f2 gIx (fVar 2) (fC (.int 1))) (f2 gIx (fVar 1) (fC (.int 1)))))) (fC (.int 0))))
 (retS (fC (.bl false)))
 (nxtS)
@[reducible] noncomputable def zdt:FS :=
 ifS (fTrB (f2 gGt (fB gLen (zl (fVar 4) (fNil))) (fC (.int 1))))
 (retS (fC (.bl true)))
 (nxtS)
@[reducible] noncomputable def zds:FS :=
 ifS (fTrB (f2 gEq (f2 gIx (f2 gIx (fVar 3) (fC (.int 0))) (fC (.int 1))) (f2 gIx (fVar 1) (fC (.int 1)))))
 (setS 7 true (f2 gSub (fC (.int 0)) (fVar 7)))
 (nxtS)
noncomputable def zbj:FS :=
 seqS (setS 4 true (xL [1] 1 (fItL (fVar 3)) (gN 1) (fYes) (zdG)))
 (seqS (zgR)
 (seqS (setS 5 true (zL za6 (zl (fVar 0) (zl (fVar 1) (zl (fVar 2) (fNil))))))
 (seqS (zdv)
 (seqS (setS 6 true (f2 gMul (f2 gSub (f2 gIx (fVar 1) (fC (.int 0))) (f2 gIx (fVar 0) (fC (.int 0)))) (f2 gSub (f2 gIx (fVar 2) (fC (.int 0))) (f2 gIx (fVar 1) (fC (.int 0))))))
 (seqS (zgQ)
 (seqS (zdt)
 (seqS (setS 7 true (f2 gSub (f2 gIx (fVar 0) (fC (.int 1))) (f2 gIx (fVar 1) (fC (.int 1)))))
 (seqS (zds)
 (retS (zbS (f2 gEq (f2 gIx (fVar 0) (fC (.int 0))) (f2 gIx (fVar 1) (fC (.int 0)))) (f2 gGt (fVar 7) (fC (.int 0)))))))))))))
noncomputable def za8:List D→Out Val:=runD 8 zbj
theorem zgx:∀ ds v,ds.length=4→za8 ds=.ok v→runD 8 zbj ds=.ok v:=fun _ _ _ h=>h
@[reducible] noncomputable def zgT:FS :=
 ifS (fTrB (f2 gIsN (fVar 2) (fC .non)))
 (retS (fC (.bl false)))
 (nxtS)
noncomputable def zcN:FS :=
 seqS (setS 2 true (zL w6 (zl (fVar 0) (zl (fVar 1) (fNil)))))
 (seqS (zgT)
 (zaV za8))
noncomputable def uS:List D→Out Val:=runD 7 zcN
theorem zgu:∀ ds v,ds.length=2→uS ds=.ok v→runD 7 zcN ds=.ok v:=fun _ _ _ h=>h
@[reducible] noncomputable def zeO:FS :=
 ifS (fTrB (f2 gEq (f2 gMod (f2 gIx (fVar 1) (fC (.int 1))) (fC (.int 16))) (fC (.int 1))))
 (setS 3 true (f2 gAdd (fC (.int 100)) (f2 gMod (f2 gIx (fVar 1) (fC (.int 4))) (fC (.int 81)))))
 (nxtS)
@[reducible] noncomputable def zgS:FS :=
 ifS (fTrB (f2 gEq (f2 gMod (fVar 3) (fC (.int 2))) (fC (.int 1))))
 (setS 6 true (fTup (zB (f2 gSub (f2 gMul (fC (.int 2)) (fB gLen (zl (fVar 2) (fNil)))) (fC (.int 1))) (zB (f2 gIx (fVar 6) (fC (.int 1))) (hNil)))))
 (nxtS)
@[reducible] noncomputable def ziX:FS :=
 ifS (fOr (fNot (fTr (zL yB (zl (fVar 8) (zl (fVar 2) (zl (fVar 5) (zl (fVar 6) (fNil)))))))) (fTrB (f2 gNe (fVar 7) (fVar 4))))
 (retS (fC (.bl false)))
 (nxtS)
noncomputable def zbQ:FS :=
 seqS (setS 1 true (zL wd (zl (fVar 0) (zl (fC (.int 6)) (fNil)))))
 (seqS (setS 2 true (zL yP (zl (fVar 1) (fNil))))
 (seqS (setS 3 true (f2 gAdd (fC (.int 1)) (f2 gMod (f2 gIx (fVar 1) (fC (.int 4))) (fC (.int 20)))))
 (seqS (zeO)
 (seqS (setS 4 true (zL uu (zl (fVar 2) (zl (fVar 3) (zl (f2 gEq (f2 gMod (f2 gDiv (f2 gIx (fVar 1) (fC (.int 2))) (fC (.int 2))) (fC (.int 2))) (fC (.int 1))) (fNil))))))
 (seqS (setS 5 true (fTup (zB (f1 gNeg (fC (.int 1))) (zB (f2 gSub (f2 gMod (f2 gIx (fVar 1) (fC (.int 5))) (fC (.int 6))) (fC (.int 1))) (hNil)))))
 (seqS (setS 6 true (fTup (zB (f1 gNeg (fC (.int 1))) (zB (f2 gSub (f2 gMod (f2 gDiv (f2 gIx (fVar 1) (fC (.int 5))) (fC (.int 6))) (fC (.int 6))) (fC (.int 1))) (hNil)))))
 (seqS (zgS)
 (seqS (setS 7 true (fB zj1 (zl (fVar 4) (fNil))))
 (seqS (setS 8 true (zL yO (zl (fVar 5) (zl (fVar 7) (zl (fVar 6) (fNil))))))
 (seqS (ziX)
 (retS (zL uS (zl (fVar 8) (zl (fVar 4) (fNil)))))))))))))))
end My
namespace My
open PySem PySem.Spec PyProof.Rows L2 DL
theorem tV {f:Ev→Out (List Val)} {env:Ev} {n:Int} (h:f env=.ok [.pers (.int n)]) (hn : -1000000≤n∧n≤1000000):uz f env=.ok (rngD 0 n.toNat):=by
 simp only [uz,h,zm,List.map_cons,List.map_nil,Val.d]
 rw [if_pos hn]
theorem zz {g:D→D→Out Val} {fa fb:FE} {E:Ev} {x y:Val} (ha:fa E=.ok x) (hb:fb E=.ok y):f2 g fa fb E=g x.d y.d:=by
 rw [f2,ha,zm,hb,zm]
theorem zhv (i j:Int):gAdd (.int i) (.int j)=.ok (.pers (.int (i+j))):=rfl
theorem xo {i j:Int} (h:0<j):gMod (.int i) (.int j)=.ok (.pers (.int (i%j))):=by
 show (if decide (0<j)=true then _ else _)=_
 rw [if_pos (decide_eq_true h)]
theorem y8 {i j:Int} (h:cMul i j=true):gMul (.int i) (.int j)=.ok (.pers (.int (i*j))):=by
 show (if cMul i j=true then _ else _)=_
 rw [if_pos h]
theorem zg6 {i j:Int} (h1:0<j) (h2:j<2^250):gDiv (.int i) (.int j)=.ok (.pers (.int (i / j))):=by
 show (if cDiv i j=true then _ else _)=_
 rw [if_pos (zkg h1 h2)]
theorem uY {ds:List D} {i:Int} {d:D} (h:atI ds i=some d):gIx (.lst ds) (.int i)=.ok (.pers d):=by
 show (match atI ds i with | some d=>Out.ok (Val.pers d) | none=>.bad)=_
 rw [h]
theorem zlr {ns:List Int} {i n:Int} (h:atI ns i=some n):gIx (.scr ns) (.int i)=.ok (.pers (.int n)):=by
 show (match atI ns i with | some n=>Out.ok (Val.pers (.int n)) | none=>.bad)=_
 rw [h]
theorem ze1 {α:Type} {xs:List α} {k:Nat} (h:k<xs.length):atI xs (k:Int)=some xs[k]:=by
 rw [zi4 _ _ (by lia),Int.toNat_natCast,List.getElem?_eq_getElem h]
theorem zlh:∃ M:Int,0<M∧∀ E:Ev,f2 gAdd (f2 gPow (fC (.int 10)) (fC (.int 60))) (fC (.int 7)) E=.ok (.pers (.int M)):=by
 refine ⟨10^(60:Int).toNat+7,by decide,fun E => ?_⟩
 have h:gPow (.int 10) (.int 60)=.ok (.pers (.int (10^(60:Int).toNat))):=by
  show (if cPow 10 60=true then Out.ok (Val.pers (.int (10^(60:Int).toNat))) else .bad)=_
  rw [if_pos (zkf 60 (by lia) (by lia))]
 rw [zz (x:=.pers (.int (10^(60:Int).toNat))) (y:=.pers (.int 7)) (by
  rw [zz (x:=.pers (.int 10)) (y:=.pers (.int 60)) rfl rfl]
  exact h) rfl]
 exact zhv _ _
theorem zlj {ns:List Int} (hl:ns.length≤63) {E:Ev} (h:E[0]?=some (.pers (.scr ns))):fB zao (zl (fB gLen (zl (fVar 0) (fNil))) (zl (fC (.int 63)) (fNil))) E=.ok (.pers (.int ns.length)):=by
 have h1:fB gLen (zl (fVar 0) (fNil)) E=.ok (.pers (.int ns.length)):=by
  simp only [fB,zl,fNil,fVar,h,zm]
  rfl
 rw [fB,zl,h1,zm]
 show Out.ok (Val.pers (.int (if (63:Int)<(ns.length:Int) then 63 else ns.length)))=_
 rw [if_neg (by lia)]
theorem zct {ns:List Int} (hl:ns.length≤63) (k:Nat) (o s5:Slot):∃ c:Int,uv [.pers (.scr ns),.pers (.int 6),o,.pers (.int k),.pers (.int 0),s5]=.ok (.next [.pers (.scr ns),.pers (.int 6),o,.pers (.int k),.pers (.int c),s5]):=by
 by_cases h0:ns.length=0
 ·have:ns=[]:=List.eq_nil_of_length_eq_zero h0
  subst this
  exact ⟨0,rfl⟩
 ·have hp:0<ns.length:=by lia
  obtain ⟨M,hM,e3⟩:=zlh
  have hm:=zlj hl (E:=[.pers (.scr ns),.pers (.int 6),o,.pers (.int k),.pers (.int 0),s5]) rfl
  have hk:(k:Int)%(ns.length:Int)=((k%ns.length:Nat):Int):=(Int.natCast_emod k ns.length).symm
  have e1:f2 gMod (fVar 3) (fB zao (zl (fB gLen (zl (fVar 0) (fNil))) (zl (fC (.int 63)) (fNil)))) [.pers (.scr ns),.pers (.int 6),o,.pers (.int k),.pers (.int 0),s5]=.ok (.pers (.int ((k%ns.length:Nat):Int))):=by
   rw [zz (x:=.pers (.int k)) rfl hm]
   show gMod (.int k) (.int ns.length)=_
   rw [xo (by lia),hk]
  have e2:f2 gIx (fVar 0) (f2 gMod (fVar 3) (fB zao (zl (fB gLen (zl (fVar 0) (fNil))) (zl (fC (.int 63)) (fNil))))) [.pers (.scr ns),.pers (.int 6),o,.pers (.int k),.pers (.int 0),s5]=.ok (.pers (.int (ns[k%ns.length]'(Nat.mod_lt _ hp)))):=by
   rw [zz (x:=.pers (.scr ns)) rfl e1]
   exact zlr (ze1 (Nat.mod_lt _ hp))
  refine ⟨(ns[k%ns.length]'(Nat.mod_lt _ hp))%M,?_⟩
  have c:fTrB (f2 gGt (fB gLen (zl (fVar 0) (fNil))) (fC (.int 0))) [.pers (.scr ns),.pers (.int 6),o,.pers (.int k),.pers (.int 0),s5]=.ok true:=by
   show Out.ok (decide ((0:Int)<(ns.length:Int)))=_
   rw [decide_eq_true (by lia)]
  rw [uv,ifS,c,zm,if_pos rfl,setS,zz e2 (e3 _)]
  show ((gMod (.int _) (.int M)).bind _)=_
  rw [xo hM]
  rfl
theorem zcu {ns:List Int} (hl:ns.length≤63) (k:Nat) (hk:k<64) (hs:List Int) (h14:hs.length=6) (s4 s5:Slot):∃ (hs':List Int) (t4 t5:Slot),hs'.length=6∧vh [.pers (.scr ns),.pers (.int 6),.own (hs.map .int),.pers (.int k),s4,s5]=.ok (.next [.pers (.scr ns),.pers (.int 6),.own (hs'.map .int),.pers (.int k),t4,t5]):=by
 obtain ⟨c,hc⟩:=zct hl k (.own (hs.map .int)) s5
 obtain ⟨M,hM,e3⟩:=zlh
 have hm:(k:Int)%6=((k%6:Nat):Int):=by lia
 have hlt:k%6<hs.length:=by lia
 have hat:atI (hs.map D.int) ((k%6:Nat):Int)=some (.int hs[k%6]):=by
  rw [ze1 (by rw [List.length_map]; exact hlt),List.getElem_map]
 generalize hv:hs[k%6]=v at hat
 have m0:f2 gIx (fVar 2) (fVar 5) [.pers (.scr ns),.pers (.int 6),.own (hs.map .int),.pers (.int k),.pers (.int c),.pers (.int ((k%6:Nat):Int))]=.ok (.pers (.int v)):=by
  rw [zz (x:=.brw 2 (hs.map .int)) (y:=.pers (.int ((k%6:Nat):Int))) rfl rfl]
  exact uY hat
 have m1:f2 gMul (f2 gIx (fVar 2) (fVar 5)) (fC (.int 48271)) [.pers (.scr ns),.pers (.int 6),.own (hs.map .int),.pers (.int k),.pers (.int c),.pers (.int ((k%6:Nat):Int))]=.ok (.pers (.int (v*48271))):=by
  rw [zz m0 (y:=.pers (.int 48271)) rfl]
  exact y8 (wp (by lia) (by lia))
 have m2:f2 gMul (fVar 3) (fVar 3) [.pers (.scr ns),.pers (.int 6),.own (hs.map .int),.pers (.int k),.pers (.int c),.pers (.int ((k%6:Nat):Int))]=.ok (.pers (.int ((k:Int)*k))):=by
  rw [zz (x:=.pers (.int k)) (y:=.pers (.int k)) rfl rfl]
  exact y8 (wp (by lia) (by lia))
 have m3:f2 gAdd (f2 gAdd (f2 gMul (f2 gIx (fVar 2) (fVar 5)) (fC (.int 48271))) (fVar 4)) (f2 gMul (fVar 3) (fVar 3)) [.pers (.scr ns),.pers (.int 6),.own (hs.map .int),.pers (.int k),.pers (.int c),.pers (.int ((k%6:Nat):Int))]=.ok (.pers (.int (v*48271+c+(k:Int)*k))):=by
  rw [zz (x:=.pers (.int (v*48271+c))) (by
   rw [zz m1 (y:=.pers (.int c)) rfl]
   exact zhv _ _) m2]
  exact zhv _ _
 refine ⟨hs.set (k%6) ((v*48271+c+(k:Int)*k)%M),.pers (.int c),.pers (.int ((k%6:Nat):Int)),by rw [List.length_set]; exact h14,?_⟩
 rw [vh,zj (env':=[.pers (.scr ns),.pers (.int 6),.own (hs.map .int),.pers (.int k),.pers (.int 0),s5]) rfl,zj hc]
 rw [zj (env':=[.pers (.scr ns),.pers (.int 6),.own (hs.map .int),.pers (.int k),.pers (.int c),.pers (.int ((k%6:Nat):Int))]) (by
  rw [setS,zz (x:=.pers (.int k)) (y:=.pers (.int 6)) rfl rfl]
  show ((gMod (.int k) (.int 6)).bind _)=_
  rw [xo (by lia),hm]
  rfl)]
 have hix:ixN (hs.map D.int).length ((k%6:Nat):Int)=some (k%6):=by
  unfold ixN
  rw [if_pos (by lia),if_pos (by rw [List.length_map]; lia),Int.toNat_natCast]
 have hput:∀ (f:FE) (x:Int),f [.pers (.scr ns),.pers (.int 6),.own (hs.map .int),.pers (.int k),.pers (.int c),.pers (.int ((k%6:Nat):Int))]=.ok (.pers (.int x))→putS 2 (fVar 5) f [.pers (.scr ns),.pers (.int 6),.own (hs.map .int),.pers (.int k),.pers (.int c),.pers (.int ((k%6:Nat):Int))]=.ok (.next [.pers (.scr ns),.pers (.int 6),.own ((hs.set (k%6) x).map .int),.pers (.int k),.pers (.int c),.pers (.int ((k%6:Nat):Int))]):=by
  intro f x hx
  show ((f [.pers (.scr ns),.pers (.int 6),.own (hs.map .int),.pers (.int k),.pers (.int c),.pers (.int ((k%6:Nat):Int))]).bind _)=_
  rw [hx,zm]
  show (match ixN (hs.map D.int).length ((k%6:Nat):Int) with | some j=>Out.ok (Res.next [.pers (.scr ns),.pers (.int 6),.own ((hs.map D.int).set j (.int x)),.pers (.int k),.pers (.int c),.pers (.int ((k%6:Nat):Int))]) | none=>.bad)=_
  rw [hix,List.map_set]
 refine hput _ _ ?_
 rw [zz m3 (e3 _)]
 exact xo hM
theorem zfg {ns:List Int} (hl:ns.length≤63):∃ hs:List Int,hs.length=6∧wd [.scr ns,.int 6]=.ok (.fresh (hs.map .int)):=by
 have hz:compD (gN 0) fYes uC (rngD 0 6) [.un]=.ok ((List.replicate 6 (0:Int)).map .int):=rfl
 have hm:=zlj hl (E:=[.pers (.scr ns),.pers (.int 6),.own ((List.replicate 6 (0:Int)).map .int),.un,.un,.un]) rfl
 obtain ⟨N,hN,e4⟩:∃ N:Nat,N≤64∧uz (zl (fB zdC (zl (fVar 1) (zl (fB zao (zl (fB gLen (zl (fVar 0) (fNil))) (zl (fC (.int 63)) (fNil)))) (fNil)))) (fNil)) [.pers (.scr ns),.pers (.int 6),.own ((List.replicate 6 (0:Int)).map .int),.un,.un,.un]=.ok (rngD 0 N):=by
  refine ⟨(if (ns.length:Int)>6 then (ns.length:Int) else 6).toNat,by split <;> lia,?_⟩
  refine tV ?_ (by split <;> lia)
  have:fB zdC (zl (fVar 1) (zl (fB zao (zl (fB gLen (zl (fVar 0) (fNil))) (zl (fC (.int 63)) (fNil)))) (fNil))) [.pers (.scr ns),.pers (.int 6),.own ((List.replicate 6 (0:Int)).map .int),.un,.un,.un]=.ok (.pers (.int (if (ns.length:Int)>6 then (ns.length:Int) else 6))):=by
   have e1:fVar 1 [.pers (.scr ns),.pers (.int 6),.own ((List.replicate 6 (0:Int)).map .int),.un,.un,.un]=.ok (.pers (.int 6)):=rfl
   rw [fB,zl,e1,zm,zl,hm,zm]
   rfl
  rw [zl,this,zm]
  rfl
 obtain ⟨env',ef,hs,s3,s4,s5,h14,rfl⟩:=vV (g:=gN 3) (fb:=vh) (fun _ env=>∃ (hs:List Int) (s3 s4 s5:Slot),hs.length=6∧env=[.pers (.scr ns),.pers (.int 6),.own (hs.map .int),s3,s4,s5]) (rngD 0 N) 0 [.pers (.scr ns),.pers (.int 6),.own ((List.replicate 6 (0:Int)).map .int),.un,.un,.un] ⟨_,_,_,_,rfl,rfl⟩ (by
  rintro j d env _ hd ⟨hs,s3,s4,s5,h14,rfl⟩
  obtain ⟨hj,rfl⟩:=zde hd
  obtain ⟨hs',t4,t5,l',e⟩:=zcu hl j (by lia) hs h14 s4 s5
  refine ⟨[.pers (.scr ns),.pers (.int 6),.own (hs.map .int),.pers (.int j),s4,s5],_,?_,e,hs',_,t4,t5,l',rfl⟩
  rw [Nat.sub_zero,Int.zero_add]
  rfl)
 refine ⟨hs,h14,?_⟩
 unfold wd
 show ((wS [.pers (.scr ns),.pers (.int 6),.un,.un,.un,.un]).bind _)=_
 unfold wS
 rw [zj (env':=[.pers (.scr ns),.pers (.int 6),.own ((List.replicate 6 (0:Int)).map .int),.un,.un,.un]) (by
  have hr:uz (zl (fVar 1) (fNil)) [.pers (.scr ns),.pers (.int 6),.un,.un,.un,.un]=.ok (rngD 0 6):=tV (n:=6) rfl (by lia)
  rw [setS,xL,hr,zm,if_pos (by rw [zbE]; lia)]
  show (((compD (gN 0) fYes uC (rngD 0 6) [.un]).bind _).bind _)=_
  rw [hz]
  rfl)]
 rw [zj (by
  rw [forS,e4,zm]
  exact ef)]
 rfl
noncomputable abbrev Plc:=Int×Int×Int
noncomputable def plcD (a:Plc):D:=.tup [.int a.1,.int a.2.1,.int a.2.2]
noncomputable def loB (g:Gate) (u w:Int):Bool:=match g.lo with | some l=>decide (l*w≤u) | none=>true
noncomputable def hiB (g:Gate) (u w:Int):Bool:=match g.hi with | some h=>decide (u≤h*w) | none=>true
theorem z9 {f:FE} {E:Ev} {b:Bool} (h:f E=.ok (.pers (.bl b))):fTrB f E=.ok b:=by
 rw [fTrB,h]
 rfl
theorem if_t {ft:FT} {f g:FS} {E:Ev} (h:ft E=.ok true):ifS ft f g E=f E:=by
 rw [ifS,h,zm,if_pos rfl]
theorem if_f {ft:FT} {f g:FS} {E:Ev} (h:ft E=.ok false):ifS ft f g E=g E:=by
 rw [ifS,h,zm,if_neg (by decide)]
theorem zc3 {f g:FT} {E:Ev} (h:f E=.ok true):fAnd f g E=g E:=by
 rw [fAnd,h,zm,if_pos rfl]
theorem zfz {f g:FT} {E:Ev} (h:f E=.ok false):fAnd f g E=.ok false:=by
 rw [fAnd,h,zm,if_neg (by decide)]
theorem or_t {f g:FT} {E:Ev} (h:f E=.ok true):fOr f g E=.ok true:=by
 rw [fOr,h,zm,if_pos rfl]
theorem or_f {f g:FT} {E:Ev} (h:f E=.ok false):fOr f g E=g E:=by
 rw [fOr,h,zm,if_neg (by decide)]
theorem vD (g:Gate) (u:Int) {w:Int} (h1 : -(2^64)<w) (h2:w<2^64):zU [zi g,.int u,.int w]=.ok (.pers (.bl (loB g u w&&hiB g u w))):=by
 unfold zU
 show ((vb [.pers (zi g),.pers (.int u),.pers (.int w)]).bind _)=_
 have e1:f2 gIx (fVar 0) (fC (.int 1)) [.pers (zi g),.pers (.int u),.pers (.int w)]=.ok (.pers (optD g.lo)):=rfl
 have e2:f2 gIx (fVar 0) (fC (.int 2)) [.pers (zi g),.pers (.int u),.pers (.int w)]=.ok (.pers (optD g.hi)):=rfl
 have last:retS (fOrV (f2 gIsN (f2 gIx (fVar 0) (fC (.int 2))) (fC .non)) (f2 gLe (fVar 1) (f2 gMul (f2 gIx (fVar 0) (fC (.int 2))) (fVar 2)))) [.pers (zi g),.pers (.int u),.pers (.int w)]=.ok (.ret (.pers (.bl (hiB g u w)))):=by
  unfold hiB
  cases q:g.hi with
  | none =>
    rw [q] at e2
    rw [retS,fOrV,zz e2 (y:=.pers .non) rfl]
    rfl
  | some h =>
    rw [q] at e2
    have m:f2 gMul (f2 gIx (fVar 0) (fC (.int 2))) (fVar 2) [.pers (zi g),.pers (.int u),.pers (.int w)]=.ok (.pers (.int (h*w))):=by
     rw [zz e2 (y:=.pers (.int w)) rfl]
     exact y8 (wp h1 h2)
    rw [retS,fOrV,zz e2 (y:=.pers .non) rfl]
    show ((f2 gLe (fVar 1) (f2 gMul (f2 gIx (fVar 0) (fC (.int 2))) (fVar 2)) [.pers (zi g),.pers (.int u),.pers (.int w)]).bind _)=_
    rw [zz (x:=.pers (.int u)) rfl m]
    rfl
 have h0:vb [.pers (zi g),.pers (.int u),.pers (.int w)]=.ok (.ret (.pers (.bl (loB g u w&&hiB g u w)))):=by
  unfold vb loB
  cases q:g.lo with
  | none =>
    rw [q] at e1
    rw [zj (env':=[.pers (zi g),.pers (.int u),.pers (.int w)]) (if_f (zfz (z9 (by rw [zz e1 (y:=.pers .non) rfl]; rfl))))]
    exact last
  | some l =>
    rw [q] at e1
    have m:f2 gMul (f2 gIx (fVar 0) (fC (.int 1))) (fVar 2) [.pers (zi g),.pers (.int u),.pers (.int w)]=.ok (.pers (.int (l*w))):=by
     rw [zz e1 (y:=.pers (.int w)) rfl]
     exact y8 (wp h1 h2)
    have c:fAnd (fTrB (f2 xY (f2 gIx (fVar 0) (fC (.int 1))) (fC .non))) (fTrB (f2 gLt (fVar 1) (f2 gMul (f2 gIx (fVar 0) (fC (.int 1))) (fVar 2)))) [.pers (zi g),.pers (.int u),.pers (.int w)]=.ok (decide (u<l*w)):=by
     rw [zc3 (z9 (by rw [zz e1 (y:=.pers .non) rfl]; rfl))]
     exact z9 (by rw [zz (x:=.pers (.int u)) rfl m]; rfl)
    by_cases z:u<l*w
    ·rw [decide_eq_true z] at c
     show _=Out.ok (Res.ret (.pers (.bl (decide (l*w≤u)&&hiB g u w))))
     rw [yJ (v:=.pers (.bl false)) (by rw [zam,if_t c]; rfl),decide_eq_false (by lia)]
     rfl
    ·rw [decide_eq_false z] at c
     show _=Out.ok (Res.ret (.pers (.bl (decide (l*w≤u)&&hiB g u w))))
     rw [zj (env':=[.pers (zi g),.pers (.int u),.pers (.int w)]) (by rw [zam,if_f c]; rfl),decide_eq_true (by lia)]
     exact last
 rw [h0]
 rfl
theorem wi_B {g:Gate} {y:Int}:(loB g y 1&&hiB g y 1)=true↔Wi g y:=by
 rw [Bool.and_eq_true]
 unfold loB hiB Wi
 refine and_congr ?_ ?_
 ·cases g.lo with
  | none=>simp
  | some l=>simp
 ·cases g.hi with
  | none=>simp
  | some h=>simp
theorem zd4 {g:Gate} {y:Int} (h:Wi g y):zU [zi g,.int y,.int 1]=.ok (.pers (.bl true)):=by
 rw [vD g y (by lia) (by lia),wi_B.mpr h]
theorem zhE {g:Gate} {y:Int} (h:¬ Wi g y):zU [zi g,.int y,.int 1]=.ok (.pers (.bl false)):=by
 rw [vD g y (by lia) (by lia)]
 cases q:(loB g y 1&&hiB g y 1) with
 | false=>rfl
 | true=>exact absurd (wi_B.mp q) h
noncomputable def CE (p z:Spot) (g:Gate) (a b:Slot):Ev:=[.pers (zf p),.pers (zf z),.pers (zi g),a,b]
theorem zbl {p z:Spot} {g:Gate} (n:near p z) (c:Bool) (hc:(decide ((g.x - p.1)*(z.1 - p.1)≤0) || decide ((z.1 - g.x)*(z.1 - p.1)≤0))=c):fOr (fTrB (f2 gLe (f2 gMul (f2 gSub (f2 gIx (fVar 2) (fC (.int 0))) (f2 gIx (fVar 0) (fC (.int 0)))) (fVar 3)) (fC (.int 0)))) (fTrB (f2 gLe (f2 gMul (f2 gSub (f2 gIx (fVar 1) (fC (.int 0))) (f2 gIx (fVar 2) (fC (.int 0)))) (fVar 3)) (fC (.int 0)))) (CE p z g (.pers (.int (z.1 - p.1))) .un)=.ok c:=by
 have cm:∀ j,cMul j (z.1 - p.1)=true:=fun j=>wp n.1 n.2
 have t1:fTrB (f2 gLe (f2 gMul (f2 gSub (f2 gIx (fVar 2) (fC (.int 0))) (f2 gIx (fVar 0) (fC (.int 0)))) (fVar 3)) (fC (.int 0))) (CE p z g (.pers (.int (z.1 - p.1))) .un)=.ok (decide ((g.x - p.1)*(z.1 - p.1)≤0)):=by
  refine z9 ?_
  rw [zz (x:=.pers (.int ((g.x - p.1)*(z.1 - p.1)))) (y:=.pers (.int 0)) (by
   rw [zz (x:=.pers (.int (g.x - p.1))) (y:=.pers (.int (z.1 - p.1))) rfl rfl]
   exact y8 (cm _)) rfl]
  rfl
 have t2:fTrB (f2 gLe (f2 gMul (f2 gSub (f2 gIx (fVar 1) (fC (.int 0))) (f2 gIx (fVar 2) (fC (.int 0)))) (fVar 3)) (fC (.int 0))) (CE p z g (.pers (.int (z.1 - p.1))) .un)=.ok (decide ((z.1 - g.x)*(z.1 - p.1)≤0)):=by
  refine z9 ?_
  rw [zz (x:=.pers (.int ((z.1 - g.x)*(z.1 - p.1)))) (y:=.pers (.int 0)) (by
   rw [zz (x:=.pers (.int (z.1 - g.x))) (y:=.pers (.int (z.1 - p.1))) rfl rfl]
   exact y8 (cm _)) rfl]
  rfl
 rw [←hc]
 cases q:decide ((g.x - p.1)*(z.1 - p.1)≤0) with
 | true=>rw [q] at t1; rw [or_t t1]; rfl
 | false=>rw [q] at t1; rw [or_f t1,t2]; rfl
theorem zik {p z:Spot} {g:Gate} (n:near p z) (h:¬ bw p z g.x):yq [zf p,zf z,zi g]=.ok (.pers (.bl false)):=by
 have hc:(decide ((g.x - p.1)*(z.1 - p.1)≤0) || decide ((z.1 - g.x)*(z.1 - p.1)≤0))=true:=by
  rw [Bool.or_eq_true,decide_eq_true_eq,decide_eq_true_eq]
  unfold bw at h
  rcases Int.lt_trichotomy p.1 z.1 with q | q | q
  ·by_cases k:p.1<g.x
   ·right
    have:=Int.mul_nonneg (show 0 ≤ -(z.1 - g.x) by lia) (show 0≤z.1 - p.1 by lia)
    rw [Int.neg_mul] at this
    lia
   ·left
    have:=Int.mul_nonneg (show 0 ≤ -(g.x - p.1) by lia) (show 0≤z.1 - p.1 by lia)
    rw [Int.neg_mul] at this
    lia
  ·left
   rw [q,Int.sub_self,Int.mul_zero]
   exact Int.le_refl _
  ·by_cases k:g.x<p.1
   ·right
    have:=Int.mul_nonneg (show 0≤z.1 - g.x by lia) (show 0 ≤ -(z.1 - p.1) by lia)
    rw [Int.mul_neg] at this
    lia
   ·left
    have:=Int.mul_nonneg (show 0≤g.x - p.1 by lia) (show 0 ≤ -(z.1 - p.1) by lia)
    rw [Int.mul_neg] at this
    lia
 unfold yq
 show ((xr (CE p z g .un .un)).bind _)=_
 unfold xr
 rw [zj (env':=CE p z g (.pers (.int (z.1 - p.1))) .un) rfl,yJ (v:=.pers (.bl false)) (by rw [uy,if_t (zbl n true hc)]; rfl)]
 rfl
theorem zhf {p z:Spot} {g:Gate} (n:near p z) (h:Cr p z g):yq [zf p,zf z,zi g]=.ok (.pers (.bl true)):=by
 obtain ⟨b,lo,hi⟩:=h
 have hx : -(2^64)<g.x - p.1∧g.x - p.1<2^64:=by
  obtain ⟨n1,n2⟩:=n
  unfold bw at b
  lia
 have hc:(decide ((g.x - p.1)*(z.1 - p.1)≤0) || decide ((z.1 - g.x)*(z.1 - p.1)≤0))=false:=by
  rw [Bool.or_eq_false_iff,decide_eq_false_iff_not,decide_eq_false_iff_not]
  unfold bw at b
  rcases b with ⟨b1,b2⟩ | ⟨b1,b2⟩
  ·have k1:=Int.mul_pos (show 0<g.x - p.1 by lia) (show 0<z.1 - p.1 by lia)
   have k2:=Int.mul_pos (show 0<z.1 - g.x by lia) (show 0<z.1 - p.1 by lia)
   lia
  ·have k1:=Int.mul_pos (show 0 < -(g.x - p.1) by lia) (show 0 < -(z.1 - p.1) by lia)
   have k2:=Int.mul_pos (show 0 < -(z.1 - g.x) by lia) (show 0 < -(z.1 - p.1) by lia)
   rw [Int.neg_mul_neg] at k1 k2
   lia
 generalize hu:p.2*(z.1 - p.1)+(z.2 - p.2)*(g.x - p.1)=u
 have key:∀ y,yZ p z (g.x,y)=y*(z.1 - p.1) - u:=fun y=>by
  rw [←hu]
  unfold yZ
  simp only
  grind
 have up:setS 4 true (f2 gAdd (f2 gMul (f2 gIx (fVar 0) (fC (.int 1))) (fVar 3)) (f2 gMul (f2 gSub (f2 gIx (fVar 1) (fC (.int 1))) (f2 gIx (fVar 0) (fC (.int 1)))) (f2 gSub (f2 gIx (fVar 2) (fC (.int 0))) (f2 gIx (fVar 0) (fC (.int 0)))))) (CE p z g (.pers (.int (z.1 - p.1))) .un)=.ok (.next (CE p z g (.pers (.int (z.1 - p.1))) (.pers (.int u)))):=by
  rw [setS,zz (x:=.pers (.int (p.2*(z.1 - p.1)))) (y:=.pers (.int ((z.2 - p.2)*(g.x - p.1)))) (by
   rw [zz (x:=.pers (.int p.2)) (y:=.pers (.int (z.1 - p.1))) rfl rfl]
   exact y8 (wp n.1 n.2)) (by
   rw [zz (x:=.pers (.int (z.2 - p.2))) (y:=.pers (.int (g.x - p.1))) rfl rfl]
   exact y8 (wp hx.1 hx.2)),←hu]
  rfl
 unfold yq
 show ((xr (CE p z g .un .un)).bind _)=_
 have h0:xr (CE p z g .un .un)=.ok (.ret (.pers (.bl true))):=by
  unfold xr
  rw [zj (env':=CE p z g (.pers (.int (z.1 - p.1))) .un) rfl,zj (env':=CE p z g (.pers (.int (z.1 - p.1))) .un) (by rw [uy,if_f (zbl n false hc)]; rfl),zj up]
  have c:fTrB (f2 gLt (fVar 3) (fC (.int 0))) (CE p z g (.pers (.int (z.1 - p.1))) (.pers (.int u)))=.ok (decide (z.1 - p.1<0)):=rfl
  by_cases q:z.1 - p.1<0
  ·rw [decide_eq_true q] at c
   refine yJ ?_
   rw [uw,if_t c]
   have w:zU [zi g,.int (0 - u),.int (0 - (z.1 - p.1))]=.ok (.pers (.bl true)):=by
    rw [vD g (0 - u) (by have:=n.2; lia) (by have:=n.1; lia)]
    have e:(loB g (0 - u) (0 - (z.1 - p.1))&&hiB g (0 - u) (0 - (z.1 - p.1)))=true:=by
     rw [Bool.and_eq_true]
     unfold loB hiB
     refine ⟨?_,?_⟩
     ·cases k:g.lo with
      | none=>rfl
      | some l =>
        have:=lo l k
        unfold yS at this
        rw [if_neg (by lia),key] at this
        refine decide_eq_true ?_
        rw [Int.zero_sub (z.1 - p.1),Int.mul_neg]
        lia
     ·cases k:g.hi with
      | none=>rfl
      | some l =>
        have:=hi l k
        unfold yS at this
        rw [if_neg (by lia),key] at this
        refine decide_eq_true ?_
        rw [Int.zero_sub (z.1 - p.1),Int.mul_neg]
        lia
    rw [e]
   rw [retS]
   show (((zU [zi g,.int (0 - u),.int (0 - (z.1 - p.1))]).bind _).bind _)=_
   rw [w]
   rfl
  ·rw [decide_eq_false q] at c
   have pos:0<z.1 - p.1:=by unfold bw at b; lia
   rw [zj (env':=CE p z g (.pers (.int (z.1 - p.1))) (.pers (.int u))) (by rw [uw,if_f c]; rfl)]
   have w:zU [zi g,.int u,.int (z.1 - p.1)]=.ok (.pers (.bl true)):=by
    rw [vD g u n.1 n.2]
    have e:(loB g u (z.1 - p.1)&&hiB g u (z.1 - p.1))=true:=by
     rw [Bool.and_eq_true]
     unfold loB hiB
     refine ⟨?_,?_⟩
     ·cases k:g.lo with
      | none=>rfl
      | some l =>
        have:=lo l k
        unfold yS at this
        rw [if_pos pos,key] at this
        exact decide_eq_true (by lia)
     ·cases k:g.hi with
      | none=>rfl
      | some l =>
        have:=hi l k
        unfold yS at this
        rw [if_pos pos,key] at this
        exact decide_eq_true (by lia)
    rw [e]
   rw [retS]
   show (((zU [zi g,.int u,.int (z.1 - p.1)]).bind _).bind _)=_
   rw [w]
   rfl
 rw [h0]
 rfl
noncomputable def UE (k:Int) (p z:Spot) (g:Gate) (b:Int) (u:Slot):Ev:=[.pers (.int k),.pers (zf p),.pers (zf z),.pers (zi g),.pers (.int b),u]
theorem ze6 {p z:Spot} {g:Gate} {k b y s:Int} (hs:s=1∨s = -1) (px:p.1=z.1) (gx:g.x=p.1) (up:s*p.2<s*z.2) (hb:s*b≤s*y) (hn:nearE s g=some y∨(y=b∧Wi g b)) (wy:Wi g y) (hz:s*y≤s*z.2) (hd : -(2^64)<z.2 - p.2∧z.2 - p.2<2^64) :
 wc [.int k,zf p,zf z,zi g,.int b]=.ok (.pers (if y=z.2 then plcD (k+1,0,0) else plcD (k,1,y))):=by
 unfold wc
 show ((wk (UE k p z g b .un)).bind _)=_
 have c1:fOr (fTrB (f2 gNe (f2 gIx (fVar 1) (fC (.int 0))) (f2 gIx (fVar 3) (fC (.int 0))))) (fTrB (f2 gNe (f2 gIx (fVar 2) (fC (.int 0))) (f2 gIx (fVar 3) (fC (.int 0))))) (UE k p z g b .un)=.ok false:=by
  have t1:fTrB (f2 gNe (f2 gIx (fVar 1) (fC (.int 0))) (f2 gIx (fVar 3) (fC (.int 0)))) (UE k p z g b .un)=.ok false:=by
   show Out.ok (!(p.1 == g.x))=_
   rw [beq_iff_eq.mpr gx.symm]
   rfl
  rw [or_f t1]
  show Out.ok (!(z.1 == g.x))=_
  rw [beq_iff_eq.mpr (show z.1=g.x by lia)]
  rfl
 have e5:∀ u,setS 5 true (fVar 4) (UE k p z g b u)=.ok (.next (UE k p z g b (.pers (.int b)))):=fun _=>rfl
 have tUp:∀ v,fTrB (f2 gGt (f2 gIx (fVar 2) (fC (.int 1))) (f2 gIx (fVar 1) (fC (.int 1)))) (UE k p z g b v)=.ok (decide (p.2<z.2)):=fun _=>rfl
 have tDn:∀ v,fTrB (f2 gLt (f2 gIx (fVar 2) (fC (.int 1))) (f2 gIx (fVar 1) (fC (.int 1)))) (UE k p z g b v)=.ok (decide (z.2<p.2)):=fun _=>rfl
 have i23:seqS xB (seqS xA (seqS w9 (seqS wf (retS (fTup (zB (fVar 0) (zB (fC (.int 1)) (zB (fVar 5) (hNil))))))))) (UE k p z g b (.pers (.int b)))=seqS w9 (seqS wf (retS (fTup (zB (fVar 0) (zB (fC (.int 1)) (zB (fVar 5) (hNil))))))) (UE k p z g b (.pers (.int y))):=by
  rcases hs with rfl | rfl
  ·have u1:=tUp (.pers (.int b))
   rw [decide_eq_true (by lia)] at u1
   have d1:=tDn (.pers (.int y))
   rw [decide_eq_false (by lia)] at d1
   have s2:xB (UE k p z g b (.pers (.int b)))=.ok (.next (UE k p z g b (.pers (.int y)))):=by
    cases q:g.lo with
    | none =>
      have ey:y=b:=by
       rcases hn with n | n
       ·simp [nearE,q] at n
       ·exact n.1
      have t2:fTrB (f2 xY (f2 gIx (fVar 3) (fC (.int 1))) (fC .non)) (UE k p z g b (.pers (.int b)))=.ok false:=by
       refine z9 ?_
       rw [zz (x:=.pers (optD g.lo)) (y:=.pers .non) rfl rfl,q]
       rfl
      rw [xB,if_f (by rw [zc3 u1]; exact t2),ey]
      rfl
    | some l =>
      have t2:fTrB (f2 xY (f2 gIx (fVar 3) (fC (.int 1))) (fC .non)) (UE k p z g b (.pers (.int b)))=.ok true:=by
       refine z9 ?_
       rw [zz (x:=.pers (optD g.lo)) (y:=.pers .non) rfl rfl,q]
       rfl
      have em:(if l>b then l else b)=y:=by
       rcases hn with n | ⟨n1,n2⟩
       ·have:l=y:=by simpa [nearE,q] using n
        split <;> lia
       ·have:=n2.1 l q
        rw [if_neg (by lia),n1]
      have ml:fB zdC (zl (fVar 5) (zl (f2 gIx (fVar 3) (fC (.int 1))) (fNil))) (UE k p z g b (.pers (.int b)))=.ok (.pers (.int y)):=by
       have v5:fVar 5 (UE k p z g b (.pers (.int b)))=.ok (.pers (.int b)):=rfl
       have v3:f2 gIx (fVar 3) (fC (.int 1)) (UE k p z g b (.pers (.int b)))=.ok (.pers (.int l)):=by
        show Out.ok (Val.pers (optD g.lo))=_
        rw [q]
        rfl
       rw [fB,zl,v5,zm,zl,v3,zm,←em]
       rfl
      rw [xB,if_t (by rw [zc3 u1]; exact t2),setS,ml]
      rfl
   rw [zj s2,zj (env':=UE k p z g b (.pers (.int y))) (by rw [xA,if_f (zfz d1)]; rfl)]
  ·have u1:=tUp (.pers (.int b))
   rw [decide_eq_false (by lia)] at u1
   have d1:=tDn (.pers (.int b))
   rw [decide_eq_true (by lia)] at d1
   have s3:xA (UE k p z g b (.pers (.int b)))=.ok (.next (UE k p z g b (.pers (.int y)))):=by
    cases q:g.hi with
    | none =>
      have ey:y=b:=by
       rcases hn with n | n
       ·simp [nearE,q] at n
       ·exact n.1
      have t2:fTrB (f2 xY (f2 gIx (fVar 3) (fC (.int 2))) (fC .non)) (UE k p z g b (.pers (.int b)))=.ok false:=by
       refine z9 ?_
       rw [zz (x:=.pers (optD g.hi)) (y:=.pers .non) rfl rfl,q]
       rfl
      rw [xA,if_f (by rw [zc3 d1]; exact t2),ey]
      rfl
    | some l =>
      have t2:fTrB (f2 xY (f2 gIx (fVar 3) (fC (.int 2))) (fC .non)) (UE k p z g b (.pers (.int b)))=.ok true:=by
       refine z9 ?_
       rw [zz (x:=.pers (optD g.hi)) (y:=.pers .non) rfl rfl,q]
       rfl
      have em:(if l<b then l else b)=y:=by
       rcases hn with n | ⟨n1,n2⟩
       ·have:l=y:=by simpa [nearE,q] using n
        split <;> lia
       ·have:=n2.2 l q
        rw [if_neg (by lia),n1]
      have ml:fB zao (zl (fVar 5) (zl (f2 gIx (fVar 3) (fC (.int 2))) (fNil))) (UE k p z g b (.pers (.int b)))=.ok (.pers (.int y)):=by
       have v5:fVar 5 (UE k p z g b (.pers (.int b)))=.ok (.pers (.int b)):=rfl
       have v3:f2 gIx (fVar 3) (fC (.int 2)) (UE k p z g b (.pers (.int b)))=.ok (.pers (.int l)):=by
        show Out.ok (Val.pers (optD g.hi))=_
        rw [q]
        rfl
       rw [fB,zl,v5,zm,zl,v3,zm,←em]
       rfl
      rw [xA,if_t (by rw [zc3 d1]; exact t2),setS,ml]
      rfl
   rw [zj (env':=UE k p z g b (.pers (.int b))) (by rw [xB,if_f (zfz u1)]; rfl),zj s3]
 have c4:fOr (fNot (fTr (zL zU (zl (fVar 3) (zl (fVar 5) (zl (fC (.int 1)) (fNil))))))) (fTrB (f2 gLt (f2 gMul (f2 gSub (f2 gIx (fVar 2) (fC (.int 1))) (fVar 5)) (f2 gSub (f2 gIx (fVar 2) (fC (.int 1))) (f2 gIx (fVar 1) (fC (.int 1))))) (fC (.int 0)))) (UE k p z g b (.pers (.int y)))=.ok false:=by
  have t1:fNot (fTr (zL zU (zl (fVar 3) (zl (fVar 5) (zl (fC (.int 1)) (fNil)))))) (UE k p z g b (.pers (.int y)))=.ok false:=by
   show ((((zU [zi g,.int y,.int 1]).bind _).bind _).bind _)=_
   rw [zd4 wy]
   rfl
  rw [or_f t1]
  have t2:fTrB (f2 gLt (f2 gMul (f2 gSub (f2 gIx (fVar 2) (fC (.int 1))) (fVar 5)) (f2 gSub (f2 gIx (fVar 2) (fC (.int 1))) (f2 gIx (fVar 1) (fC (.int 1))))) (fC (.int 0))) (UE k p z g b (.pers (.int y)))=.ok (decide ((z.2 - y)*(z.2 - p.2)<0)):=by
   refine z9 ?_
   rw [zz (x:=.pers (.int ((z.2 - y)*(z.2 - p.2)))) (y:=.pers (.int 0)) (by
    rw [zz (x:=.pers (.int (z.2 - y))) (y:=.pers (.int (z.2 - p.2))) rfl rfl]
    exact y8 (wp hd.1 hd.2)) rfl]
   rfl
  rw [t2,decide_eq_false]
  have:0≤(z.2 - y)*(z.2 - p.2):=by
   rcases hs with rfl | rfl
   ·exact Int.mul_nonneg (by lia) (by lia)
   ·have:=Int.mul_nonneg (show 0 ≤ -(z.2 - y) by lia) (show 0 ≤ -(z.2 - p.2) by lia)
    rw [Int.neg_mul_neg] at this
    exact this
  lia
 have h0:wk (UE k p z g b .un)=.ok (.ret (.pers (if y=z.2 then plcD (k+1,0,0) else plcD (k,1,y)))):=by
  unfold wk
  rw [zj (env':=UE k p z g b .un) (by rw [zbg,if_f c1]; rfl),zj (e5 _),i23,zj (env':=UE k p z g b (.pers (.int y))) (by rw [w9,if_f c4]; rfl)]
  have c5:fTrB (f2 gEq (fVar 5) (f2 gIx (fVar 2) (fC (.int 1)))) (UE k p z g b (.pers (.int y)))=.ok (y == z.2):=rfl
  by_cases q:y=z.2
  ·rw [beq_iff_eq.mpr q] at c5
   rw [if_pos q]
   refine yJ ?_
   rw [wf,if_t c5]
   rfl
  ·rw [beq_eq_false_iff_ne.mpr q] at c5
   rw [if_neg q,zj (env':=UE k p z g b (.pers (.int y))) (by rw [wf,if_f c5]; rfl)]
   rfl
 rw [h0]
 rfl
theorem um {P:List Spot} {k:Nat} {p:Spot} (h:P[k]?=some p):atI (P.map zf) (k:Int)=some (zf p):=by
 rw [zi4 _ _ (by lia),Int.toNat_natCast,List.getElem?_map,h]
 rfl
noncomputable def OE (P:List Spot) (k:Int) (g:Gate) (a:Plc) (s4 s5 s6:Slot):Ev:=[.pers (.lst (P.map zf)),.pers (.int k),.pers (zi g),.pers (plcD a),s4,s5,s6]
noncomputable def latB (k:Int) (a:Plc):Bool:=decide (a.1<k) || (a.2.1 == 0)
theorem zbI {P:List Spot} {k:Nat} {p z:Spot} {g:Gate} {a:Plc} (hp:P[k]?=some p) (hz:P[k+1]?=some z):xK (OE P k g a .un .un .un)=seqS wj (seqS va (retS (fC .non))) (OE P k g a (.pers (zf p)) (.pers (zf z)) (.pers (.bl (latB k a)))):=by
 unfold xK
 rw [zj (env':=OE P k g a (.pers (zf p)) .un .un) (by
  rw [setS,zz (x:=.pers (.lst (P.map zf))) (y:=.pers (.int k)) rfl rfl]
  show ((gIx (.lst (P.map zf)) (.int k)).bind _)=_
  rw [uY (um hp)]
  rfl)]
 rw [zj (env':=OE P k g a (.pers (zf p)) (.pers (zf z)) .un) (by
  rw [setS,zz (x:=.pers (.lst (P.map zf))) (y:=.pers (.int ((k:Int)+1))) rfl rfl]
  show ((gIx (.lst (P.map zf)) (.int ((k:Int)+1))).bind _)=_
  rw [show (k:Int)+1=((k+1:Nat):Int) by lia,uY (um hz)]
  rfl)]
 rw [zj (env':=OE P k g a (.pers (zf p)) (.pers (zf z)) (.pers (.bl (latB k a)))) (by
  have c:f2 gGt (fVar 1) (f2 gIx (fVar 3) (fC (.int 0))) (OE P k g a (.pers (zf p)) (.pers (zf z)) .un)=.ok (.pers (.bl (decide (a.1<(k:Int))))):=rfl
  have d:f2 gEq (f2 gIx (fVar 3) (fC (.int 1))) (fC (.int 0)) (OE P k g a (.pers (zf p)) (.pers (zf z)) .un)=.ok (.pers (.bl (a.2.1 == 0))):=rfl
  unfold latB
  rw [setS,fOrV,c,zm]
  cases decide (a.1<(k:Int)) with
  | true=>rfl
  | false =>
    show ((f2 gEq (f2 gIx (fVar 3) (fC (.int 1))) (fC (.int 0)) (OE P k g a (.pers (zf p)) (.pers (zf z)) .un)).bind _)=_
    rw [d]
    rfl)]
theorem zgq {P:List Spot} {k:Nat} {g:Gate} {a:Plc} {v:Val} (h:xK (OE P k g a .un .un .un)=.ok (.ret v)):yh [.lst (P.map zf),.int k,zi g,plcD a]=.ok v:=by
 unfold yh
 show ((xK (OE P k g a .un .un .un)).bind _)=_
 rw [h]
 rfl
theorem zeB {P:List Spot} {k:Nat} {p z:Spot} {g:Gate} {a:Plc} (x:p.1≠z.1):wj (OE P k g a (.pers (zf p)) (.pers (zf z)) (.pers (.bl (latB k a))))=.ok (.next (OE P k g a (.pers (zf p)) (.pers (zf z)) (.pers (.bl (latB k a))))):=by
 have c:fTrB (f2 gEq (f2 gIx (fVar 4) (fC (.int 0))) (f2 gIx (fVar 5) (fC (.int 0)))) (OE P k g a (.pers (zf p)) (.pers (zf z)) (.pers (.bl (latB k a))))=.ok false:=by
  show Out.ok (p.1 == z.1)=_
  rw [beq_eq_false_iff_ne.mpr x]
 rw [wj,if_f c]
 rfl
theorem zhY {P:List Spot} {k:Nat} {p z:Spot} {g:Gate} {a:Plc} (hp:P[k]?=some p) (hz:P[k+1]?=some z) (x:p.1≠z.1) (n:near p z) (c:Cr p z g) (l:latB k a=true∨0≤(g.x - a.2.2)*(z.1 - p.1)):yh [.lst (P.map zf),.int k,zi g,plcD a]=.ok (.pers (plcD (k,1,g.x))):=by
 refine zgq ?_
 rw [zbI hp hz,zj (zeB x)]
 refine yJ ?_
 have t1:fTr (zL yq (zl (fVar 4) (zl (fVar 5) (zl (fVar 2) (fNil))))) (OE P k g a (.pers (zf p)) (.pers (zf z)) (.pers (.bl (latB k a))))=.ok true:=by
  show (((yq [zf p,zf z,zi g]).bind _).bind _)=_
  rw [zhf n c]
  rfl
 have t2:fOr (fTr (fVar 6)) (fTrB (f2 gGe (f2 gMul (f2 gSub (f2 gIx (fVar 2) (fC (.int 0))) (f2 gIx (fVar 3) (fC (.int 2)))) (f2 gSub (f2 gIx (fVar 5) (fC (.int 0))) (f2 gIx (fVar 4) (fC (.int 0))))) (fC (.int 0)))) (OE P k g a (.pers (zf p)) (.pers (zf z)) (.pers (.bl (latB k a))))=.ok true:=by
  have u:fTr (fVar 6) (OE P k g a (.pers (zf p)) (.pers (zf z)) (.pers (.bl (latB k a))))=.ok (latB k a):=rfl
  cases q:latB k a with
  | true=>rw [q] at u; exact or_t u
  | false =>
    rw [q] at u
    rw [or_f u]
    have l':0≤(g.x - a.2.2)*(z.1 - p.1):=by
     rcases l with l | l
     ·rw [q] at l; cases l
     ·exact l
    refine z9 ?_
    rw [zz (x:=.pers (.int ((g.x - a.2.2)*(z.1 - p.1)))) (y:=.pers (.int 0)) (by
     rw [zz (x:=.pers (.int (g.x - a.2.2))) (y:=.pers (.int (z.1 - p.1))) rfl rfl]
     exact y8 (wp n.1 n.2)) rfl]
    show Out.ok (Val.pers (.bl (decide (0≤(g.x - a.2.2)*(z.1 - p.1)))))=_
    rw [decide_eq_true l']
 rw [va,if_t (by rw [zc3 t1]; exact t2)]
 rfl
theorem zdj {P:List Spot} {k:Nat} {p z:Spot} {g:Gate} {a:Plc} (hp:P[k]?=some p) (hz:P[k+1]?=some z) (x:p.1≠z.1) (n:near p z) (c:¬ bw p z g.x):yh [.lst (P.map zf),.int k,zi g,plcD a]=.ok (.pers .non):=by
 refine zgq ?_
 rw [zbI hp hz,zj (zeB x)]
 have t1:fTr (zL yq (zl (fVar 4) (zl (fVar 5) (zl (fVar 2) (fNil))))) (OE P k g a (.pers (zf p)) (.pers (zf z)) (.pers (.bl (latB k a))))=.ok false:=by
  show (((yq [zf p,zf z,zi g]).bind _).bind _)=_
  rw [zik n c]
  rfl
 rw [zj (env':=OE P k g a (.pers (zf p)) (.pers (zf z)) (.pers (.bl (latB k a)))) (by rw [va,if_f (zfz t1)]; rfl)]
 rfl
theorem zk9 {P:List Spot} {k:Nat} {p z:Spot} {g:Gate} {a:Plc} {b y s:Int} (hp:P[k]?=some p) (hz:P[k+1]?=some z) (hb0:(if latB k a=true then p.2 else a.2.2)=b) (hs:s=1∨s = -1) (px:p.1=z.1) (gx:g.x=p.1) (up:s*p.2<s*z.2) (hb:s*b≤s*y) (hn:nearE s g=some y∨(y=b∧Wi g b)) (wy:Wi g y) (hzz:s*y≤s*z.2) (hd : -(2^64)<z.2 - p.2∧z.2 - p.2<2^64) :
 yh [.lst (P.map zf),.int k,zi g,plcD a]=.ok (.pers (if y=z.2 then plcD (k+1,0,0) else plcD (k,1,y))):=by
 refine zgq ?_
 rw [zbI hp hz]
 refine yJ ?_
 have c:fTrB (f2 gEq (f2 gIx (fVar 4) (fC (.int 0))) (f2 gIx (fVar 5) (fC (.int 0)))) (OE P k g a (.pers (zf p)) (.pers (zf z)) (.pers (.bl (latB k a))))=.ok true:=by
  show Out.ok (p.1 == z.1)=_
  rw [beq_iff_eq.mpr px]
 have e:f2 gIx (fLst (zB (f2 gIx (fVar 3) (fC (.int 2))) (zB (f2 gIx (fVar 4) (fC (.int 1))) (hNil)))) (fB gInt (zl (fVar 6) (fNil))) (OE P k g a (.pers (zf p)) (.pers (zf z)) (.pers (.bl (latB k a))))=.ok (.pers (.int b)):=by
  rw [←hb0]
  cases latB k a <;> rfl
 have v1:fVar 1 (OE P k g a (.pers (zf p)) (.pers (zf z)) (.pers (.bl (latB k a))))=.ok (.pers (.int k)):=rfl
 have v4:fVar 4 (OE P k g a (.pers (zf p)) (.pers (zf z)) (.pers (.bl (latB k a))))=.ok (.pers (zf p)):=rfl
 have v5:fVar 5 (OE P k g a (.pers (zf p)) (.pers (zf z)) (.pers (.bl (latB k a))))=.ok (.pers (zf z)):=rfl
 have v2:fVar 2 (OE P k g a (.pers (zf p)) (.pers (zf z)) (.pers (.bl (latB k a))))=.ok (.pers (zi g)):=rfl
 rw [wj,if_t c,retS,zL,zl,v1,zm,zl,v4,zm,zl,v5,zm,zl,v2,zm,zl,e,zm,fNil]
 show (((wc [.int k,zf p,zf z,zi g,.int b]).bind _).bind _)=_
 rw [ze6 hs px gx up hb hn wy hzz hd]
 rfl
noncomputable def NE (P:List Spot) (g:Gate) (a:Plc) (s3 s4:Slot):Ev:=[.pers (.lst (P.map zf)),.pers (zi g),.pers (plcD a),s3,s4]
noncomputable def NXT (P:List Spot) (g:Gate) (a b:Plc):Prop:=t9 [.lst (P.map zf),zi g,plcD a]=.ok (.pers (plcD b))
theorem zeJ {P:List Spot} {k:Nat} {g:Gate} {a:Plc} {s4:Slot}:fOr (fTrB (f2 gGt (fVar 3) (f2 gIx (fVar 2) (fC (.int 0))))) (fTrB (f2 gEq (f2 gIx (fVar 2) (fC (.int 1))) (fC (.int 0)))) (NE P g a (.pers (.int k)) s4)=.ok (latB k a):=by
 have c:fTrB (f2 gGt (fVar 3) (f2 gIx (fVar 2) (fC (.int 0)))) (NE P g a (.pers (.int k)) s4)=.ok (decide (a.1<(k:Int))):=rfl
 have d:fTrB (f2 gEq (f2 gIx (fVar 2) (fC (.int 1))) (fC (.int 0))) (NE P g a (.pers (.int k)) s4)=.ok (a.2.1 == 0):=rfl
 unfold latB
 cases q:decide (a.1<(k:Int)) with
 | true=>rw [q] at c; rw [or_t c]; rfl
 | false=>rw [q] at c; rw [or_f c,d]; rfl
theorem vx_at {P:List Spot} {k:Nat} {p:Spot} {g:Gate} {a:Plc} {s4:Slot} (hp:P[k]?=some p):f2 gIx (fVar 0) (fVar 3) (NE P g a (.pers (.int k)) s4)=.ok (.pers (zf p)):=by
 rw [zz (x:=.pers (.lst (P.map zf))) (y:=.pers (.int k)) rfl rfl]
 exact uY (um hp)
theorem zfD {P:List Spot} {k:Nat} {p:Spot} {g:Gate} {a:Plc} {s4:Slot} (hp:P[k]?=some p) (c:Bool) (hc:c=true↔(p.1=g.x∧Wi g p.2)):fAnd (fTrB (f2 gEq (f2 gIx (f2 gIx (fVar 0) (fVar 3)) (fC (.int 0))) (f2 gIx (fVar 1) (fC (.int 0))))) (fTr (zL zU (zl (fVar 1) (zl (f2 gIx (f2 gIx (fVar 0) (fVar 3)) (fC (.int 1))) (zl (fC (.int 1)) (fNil)))))) (NE P g a (.pers (.int k)) s4)=.ok c:=by
 have v:=vx_at (g:=g) (a:=a) (s4:=s4) hp
 have t1:fTrB (f2 gEq (f2 gIx (f2 gIx (fVar 0) (fVar 3)) (fC (.int 0))) (f2 gIx (fVar 1) (fC (.int 0)))) (NE P g a (.pers (.int k)) s4)=.ok (p.1 == g.x):=by
  refine z9 ?_
  rw [zz (x:=.pers (.int p.1)) (y:=.pers (.int g.x)) (by
   rw [zz v (y:=.pers (.int 0)) rfl]
   rfl) rfl]
  rfl
 by_cases q:p.1=g.x
 ·rw [beq_iff_eq.mpr q] at t1
  rw [zc3 t1]
  have v1:fVar 1 (NE P g a (.pers (.int k)) s4)=.ok (.pers (zi g)):=rfl
  have v2:f2 gIx (f2 gIx (fVar 0) (fVar 3)) (fC (.int 1)) (NE P g a (.pers (.int k)) s4)=.ok (.pers (.int p.2)):=by
   rw [zz v (y:=.pers (.int 1)) rfl]
   rfl
  rw [fTr,zL,zl,v1,zm,zl,v2,zm]
  show (((zU [zi g,.int p.2,.int 1]).bind _).bind _)=_
  by_cases w:Wi g p.2
  ·rw [zd4 w,hc.mpr ⟨q,w⟩]
   rfl
  ·have:c=false:=by
    cases c with
    | false=>rfl
    | true=>exact absurd (hc.mp rfl).2 w
   rw [zhE w,this]
   rfl
 ·have:c=false:=by
   cases c with
   | false=>rfl
   | true=>exact absurd (hc.mp rfl).1 q
  rw [beq_eq_false_iff_ne.mpr q] at t1
  rw [zfz t1,this]
theorem zix {P:List Spot} {k:Nat} {p:Spot} {g:Gate} {a:Plc} {s4:Slot} (hp:P[k]?=some p) (l:latB k a=true) (h:p.1=g.x∧Wi g p.2):wX (NE P g a (.pers (.int k)) s4)=.ok (.ret (.pers (plcD (k,0,0)))):=by
 have c:=zeJ (P:=P) (k:=k) (g:=g) (a:=a) (s4:=s4)
 rw [l] at c
 refine yJ ?_
 rw [zal,if_t c,zdy,if_t (zfD hp true (iff_of_true rfl h))]
 rfl
theorem zkr {P:List Spot} {k:Nat} {p:Spot} {g:Gate} {a:Plc} {s4:Slot} (hp:P[k]?=some p) (h:latB k a=true→¬ (p.1=g.x∧Wi g p.2)):zal (NE P g a (.pers (.int k)) s4)=.ok (.next (NE P g a (.pers (.int k)) s4)):=by
 have c:=zeJ (P:=P) (k:=k) (g:=g) (a:=a) (s4:=s4)
 cases l:latB k a with
 | false =>
   rw [l] at c
   rw [zal,if_f c]
   rfl
 | true =>
   rw [l] at c
   rw [zal,if_t c,zdy,if_f (zfD hp false (by
    constructor
    ·intro z; cases z
    ·intro z; exact absurd z (h l)))]
   rfl
theorem zcP {P:List Spot} {k:Nat} {z:Spot} {g:Gate} {a:Plc} {s4:Slot} {r:D} (hz:P[k+1]?=some z) (e:yh [.lst (P.map zf),.int k,zi g,plcD a]=.ok (.pers r)):zdu (NE P g a (.pers (.int k)) s4)=zbN (NE P g a (.pers (.int k)) (.pers r)):=by
 have hl:k+1<P.length:=(List.getElem?_eq_some_iff.mp hz).1
 have c:fTrB (f2 gLt (f2 gAdd (fVar 3) (fC (.int 1))) (fB gLen (zl (fVar 0) (fNil)))) (NE P g a (.pers (.int k)) s4)=.ok true:=by
  show Out.ok (decide ((k:Int)+1<((P.map zf).length:Int)))=_
  rw [List.length_map,decide_eq_true (by lia)]
 rw [zdu,if_t c,zj (env':=NE P g a (.pers (.int k)) (.pers r)) (by
  rw [setS]
  show (((yh [.lst (P.map zf),.int k,zi g,plcD a]).bind _).bind _)=_
  rw [e]
  rfl)]
theorem tq (lo:Int) (n:Nat):rngD lo (n+1)=.int lo::rngD (lo+1) n:=by
 unfold rngD
 rw [List.range_succ_eq_map,List.map_cons,List.map_map]
 simp only [Function.comp_def]
 congr 1
 ·simp
 ·refine List.map_congr_left fun i _ => ?_
  congr 1
  lia
theorem zjl {f:Ev→Out (List Val)} {env:Ev} {i j:Int} (h:f env=.ok [.pers (.int i),.pers (.int j)]) (hn : -1000000≤i∧i≤1000000 ∧ -1000000≤j∧j≤1000000):zbR f env=.ok (rngD i (j - i).toNat):=by
 simp only [zbR,h,zm,List.map_cons,List.map_nil,Val.d]
 rw [if_pos hn]
theorem zgs {P:List Spot} {g:Gate} {a:Plc} {k:Nat} {v:Val} (ha:a.1=k) (hk:k≤P.length) (hl:P.length≤100000) (h:forD (gN 3) wX (rngD k (P.length - k)) (NE P g a .un .un)=.ok (.ret v)):t9 [.lst (P.map zf),zi g,plcD a]=.ok v:=by
 unfold t9
 show ((zcO (NE P g a .un .un)).bind _)=_
 unfold zcO
 have hr:zbR (zl (f2 gIx (fVar 2) (fC (.int 0))) (zl (fB gLen (zl (fVar 0) (fNil))) (fNil))) (NE P g a .un .un)=.ok (rngD k (P.length - k)):=by
  show (if -1000000≤a.1∧a.1≤1000000 ∧ -1000000≤((P.map zf).length:Int)∧((P.map zf).length:Int)≤1000000 then Out.ok (rngD a.1 (((P.map zf).length:Int) - a.1).toNat) else .bad)=_
  rw [List.length_map,ha,if_pos (by lia)]
  congr 2
  lia
 rw [yJ (v:=v) (by
  rw [forS,hr,zm]
  exact h)]
 rfl
theorem zjK {P:List Spot} {g:Gate} {k:Nat} {p:Spot} (hl:P.length≤100000) (hp:P[k]?=some p) (h:p.1=g.x∧Wi g p.2):NXT P g (k,0,0) (k,0,0):=by
 have hk:k<P.length:=(List.getElem?_eq_some_iff.mp hp).1
 refine zgs rfl (by lia) hl ?_
 rw [show P.length - k=(P.length - k - 1)+1 by lia,tq,forD]
 have hg:gN 3 (.int k) (NE P g (k,0,0) .un .un)=.ok (NE P g (k,0,0) (.pers (.int k)) .un):=rfl
 rw [hg,zm,zix hp (by simp [latB]) h]
 rfl
theorem zdk {P:List Spot} {g:Gate} {a b:Plc} {k:Nat} {p z:Spot} (hl:P.length≤100000) (ha:a.1=k) (hp:P[k]?=some p) (hz:P[k+1]?=some z) (h:latB k a=true→¬ (p.1=g.x∧Wi g p.2)) (e:yh [.lst (P.map zf),.int k,zi g,plcD a]=.ok (.pers (plcD b))):NXT P g a b:=by
 have hk:k<P.length:=(List.getElem?_eq_some_iff.mp hp).1
 refine zgs ha (by lia) hl ?_
 rw [show P.length - k=(P.length - k - 1)+1 by lia,tq,forD]
 have hg:gN 3 (.int k) (NE P g a .un .un)=.ok (NE P g a (.pers (.int k)) .un):=rfl
 have hb:wX (NE P g a (.pers (.int k)) .un)=.ok (.ret (.pers (plcD b))):=by
  rw [wX,zj (zkr hp h),zcP hz e,zbN,if_t rfl]
  rfl
 rw [hg,zm,hb]
 rfl
theorem zjJ {P:List Spot} {g:Gate} {a:Plc} {k:Nat} {p z:Spot} (hl:P.length≤100000) (ha:a.1=k) (hp:P[k]?=some p) (hz:P[k+1]?=some z) (h:latB k a=true→¬ (p.1=g.x∧Wi g p.2)) (e:yh [.lst (P.map zf),.int k,zi g,plcD a]=.ok (.pers .non)) (hh:z.1=g.x∧Wi g z.2):NXT P g a (k+1,0,0):=by
 have hk:k+1<P.length:=(List.getElem?_eq_some_iff.mp hz).1
 refine zgs ha (by lia) hl ?_
 rw [show P.length - k=(P.length - k - 2)+1+1 by lia,tq,tq,forD]
 have hg:gN 3 (.int k) (NE P g a .un .un)=.ok (NE P g a (.pers (.int k)) .un):=rfl
 have hb:wX (NE P g a (.pers (.int k)) .un)=.ok (.next (NE P g a (.pers (.int k)) (.pers .non))):=by
  rw [wX,zj (zkr hp h),zcP hz e,zbN,if_f rfl]
  rfl
 rw [hg,zm,hb,zm]
 show forD (gN 3) wX (.int ((k:Int)+1)::_) _=_
 have hg2:gN 3 (.int ((k:Int)+1)) (NE P g a (.pers (.int k)) (.pers .non))=.ok (NE P g a (.pers (.int ((k+1:Nat):Int))) (.pers .non)):=rfl
 rw [forD,hg2,zm,zix hz (by
  unfold latB
  rw [decide_eq_true (by lia)]
  rfl) hh]
 rfl
noncomputable def Chn (P:List Spot):Plc→List (Gate×Plc)→Prop
 | _,[]=>True
 | a,(g,b)::r=>NXT P g a b∧Chn P b r
structure Fit (P:List Spot):Prop where
 len:P.length≤100000
 bx:∀ p∈P,Bx p.1
 hh:∃ c:Int,∀ p∈P,c≤p.2∧p.2<c+2^64
theorem Fit.near {P:List Spot} (F:Fit P) {i j:Nat} {p z:Spot} (hp:P[i]?=some p) (hz:P[j]?=some z):near p z ∧ -(2^64)<z.2 - p.2∧z.2 - p.2<2^64:=by
 obtain ⟨c,h⟩:=F.hh
 have h1:=h p (List.mem_of_getElem? hp)
 have h2:=h z (List.mem_of_getElem? hz)
 exact ⟨zaC (F.bx p (List.mem_of_getElem? hp)) (F.bx z (List.mem_of_getElem? hz)),by lia,by lia⟩
theorem zbZ {P:List Spot} (F:Fit P) {k:Nat} {z:Spot} (hz:P[k]?=some z) {R:List (Gate×Plc)} (hR:Chn P (k,0,0) R):∀ V:List Gate,(∀ g∈V,g.x=z.1∧Wi g z.2)→Chn P (k,0,0) (V.map (fun g=>(g,((k:Int),0,0)))++R)
 | [],_=>hR
 | g::V,h=>⟨zjK F.len hz ⟨(h g (by simp)).1.symm,(h g (by simp)).2⟩,zbZ F hz hR V fun x hx=>h x (by simp [hx])⟩
noncomputable def OnE (k:Int) (Q:List (Gate×Plc)):Prop:=∀ q∈Q,q.2.1=k∧q.2.2.1=1
theorem zec {P:List Spot} (F:Fit P) {k:Nat} {p z:Spot} (hp:P[k]?=some p) (hz:P[k+1]?=some z) (x:p.1≠z.1) {V:List Gate} (hV:∀ g∈V,g.x=z.1∧Wi g z.2) {R:List (Gate×Plc)} (hR:V=[]→R=[]) (hR2:Chn P ((k+1:Nat),0,0) R):∀ (E:List Gate) (f v:Int),(∀ g∈E,Cr p z g)→E.Pairwise (fun g h=>0≤(h.x - g.x)*(z.1 - p.1))→(f=0∨(f=1∧∀ g∈E,0≤(g.x - v)*(z.1 - p.1))) →
 ∃ Q,OnE k Q∧Q.map (·.1)=E∧Chn P (k,f,v) (Q++(V.map (fun g=>(g,(((k+1:Nat):Int),0,0)))++R))
 | [],f,v,_,_,hf=>by
   refine ⟨[],fun q hq=>by simp at hq,rfl,?_⟩
   cases V with
   | nil =>
     rw [hR rfl]
     exact trivial
   | cons g V =>
     have n:=(F.near hp hz).1
     have hg:=hV g (by simp)
     refine ⟨zjJ F.len rfl hp hz (fun _ q=>x (q.1.trans hg.1)) (zdj hp hz x n (by rw [hg.1]; unfold bw; lia)) ⟨hg.1.symm,hg.2⟩,?_⟩
     exact zbZ F hz hR2 V fun t ht=>hV t (by simp [ht])
 | g::E,f,v,hc,pw,hf=>by
   obtain ⟨pw1,pw2⟩:=List.pairwise_cons.mp pw
   obtain ⟨Q,q1,q2,q3⟩:=zec F hp hz x hV hR hR2 E 1 g.x (fun t ht=>hc t (by simp [ht])) pw2 (.inr ⟨rfl,pw1⟩)
   have c:=hc g (by simp)
   have n:=(F.near hp hz).1
   refine ⟨(g,((k:Int),1,g.x))::Q,fun q hq => ?_,by rw [List.map_cons,q2],⟨zdk F.len rfl hp hz (fun _ q => ?_) (zhY hp hz x n c ?_),q3⟩⟩
   ·rcases List.mem_cons.mp hq with rfl | hq
    ·exact ⟨rfl,rfl⟩
    ·exact q1 q hq
   ·have:=c.1
    unfold bw at this
    lia
   ·rcases hf with rfl | ⟨rfl,hf⟩
    ·left
     simp [latB]
    ·exact .inr (hf g (by simp))
theorem zeF {s:Int} (hs:s=1∨s = -1) {g:Gate} {b y:Int} (h:nearE s g=some y) (l:s*b<s*y):¬ Wi g b:=by
 intro w
 rcases vU hs h with ⟨rfl,k⟩ | ⟨rfl,k⟩
 ·have:=w.1 _ k; lia
 ·have:=w.2 _ k; lia
theorem zkt {P:List Spot} (F:Fit P) {k:Nat} {p z:Spot} {s:Int} (hp:P[k]?=some p) (hz:P[k+1]?=some z) (x:p.1=z.1) (hs:s=1∨s = -1) (up:s*p.2<s*z.2) {V:List Gate} (hV:∀ g∈V,g.x=z.1∧Wi g z.2) (fst:∃ g r,V=g::r∧nearE s g=some z.2) {R:List (Gate×Plc)} (hR2:Chn P ((k+1:Nat),0,0) R):∀ (E:List Gate) (b:Int) (st:Bool) (f v:Int),VS s p.1 z.2 b st E→(st=true→f=0∧b=p.2)→(st=false→f=1∧v=b)→s*b<s*z.2 →
 ∃ Q,OnE k Q∧Q.map (·.1)=E∧Chn P (k,f,v) (Q++(V.map (fun g=>(g,(((k+1:Nat):Int),0,0)))++R))
 | [],b,st,f,v,_,h1,h2,hb=>by
   obtain ⟨g,V',rfl,nr⟩:=fst
   have hg:=hV g (by simp)
   have d:=(F.near hp hz).2
   have hb0:(if latB k ((k:Int),f,v)=true then p.2 else v)=b:=by
    cases st with
    | true =>
      obtain ⟨rfl,rfl⟩:=h1 rfl
      simp [latB]
    | false =>
      obtain ⟨rfl,rfl⟩:=h2 rfl
      simp [latB]
   refine ⟨[],fun q hq=>by simp at hq,rfl,?_,zbZ F hz hR2 V' fun t ht=>hV t (by simp [ht])⟩
   refine zdk F.len rfl hp hz (fun _ q=>zeF hs nr up q.2) ?_
   have:=zk9 (a:=((k:Int),f,v)) hp hz hb0 hs x (hg.1.trans x.symm) up (Int.le_of_lt hb) (.inl nr) hg.2 (Int.le_refl _) d
   rw [if_pos rfl] at this
   exact this
 | g::E,b,st,f,v,⟨y,gx,wy,hy,hby,nr,hst,rest⟩,h1,h2,hb=>by
   obtain ⟨Q,q1,q2,q3⟩:=zkt F hp hz x hs up hV fst hR2 E y false 1 y rest (fun z=>by cases z) (fun _=>⟨rfl,rfl⟩) hy
   have d:=(F.near hp hz).2
   have hb0:(if latB k ((k:Int),f,v)=true then p.2 else v)=b:=by
    cases st with
    | true =>
      obtain ⟨rfl,rfl⟩:=h1 rfl
      simp [latB]
    | false =>
      obtain ⟨rfl,rfl⟩:=h2 rfl
      simp [latB]
   refine ⟨(g,((k:Int),1,y))::Q,fun q hq => ?_,by rw [List.map_cons,q2],?_,q3⟩
   ·rcases List.mem_cons.mp hq with rfl | hq
    ·exact ⟨rfl,rfl⟩
    ·exact q1 q hq
   ·refine zdk F.len rfl hp hz (fun l q => ?_) ?_
    ·cases st with
     | true =>
       obtain ⟨rfl,rfl⟩:=h1 rfl
       have lt:=hst rfl
       rcases nr with nr | ⟨_,nr⟩
       ·exact zeF hs nr lt q.2
       ·cases nr
     | false =>
       obtain ⟨rfl,rfl⟩:=h2 rfl
       simp [latB] at l
    ·have ny:y≠z.2:=fun q=>by rw [q] at hy; lia
     have:=zk9 (a:=((k:Int),f,v)) hp hz hb0 hs x gx up hby (by
      rcases nr with nr | ⟨e,nr⟩
      ·exact .inl nr
      ·exact .inr ⟨e,by rw [←e]; exact wy⟩) wy (Int.le_of_lt hy) d
     rw [if_neg ny] at this
     exact this
noncomputable def atJ (Q:List (Gate×Plc)) (j:Int):List Gate:=(Q.filter fun q=>decide (q.2.1=j)&&decide (q.2.2.1=0)).map (·.1)
theorem zb6 (Q R:List (Gate×Plc)) (j:Int):atJ (Q++R) j=atJ Q j++atJ R j:=by
 unfold atJ
 rw [List.filter_append,List.map_append]
theorem zi3 {k:Int} {Q:List (Gate×Plc)} (h:OnE k Q) (j:Int):atJ Q j=[]:=by
 unfold atJ
 rw [List.filter_eq_nil_iff.mpr fun q hq=>by
  have:=(h q hq).2
  simp
  lia]
 rfl
theorem zlN (V:List Gate) (k j:Int):atJ (V.map fun g=>(g,(k,0,0))) j=if j=k then V else []:=by
 unfold atJ
 by_cases z:j=k
 ·rw [if_pos z]
  subst z
  rw [List.filter_map]
  simp [Function.comp_def]
 ·rw [if_neg z]
  rw [List.filter_eq_nil_iff.mpr fun q hq=>by
   obtain ⟨g,_,rfl⟩:=List.mem_map.mp hq
   simp
   lia]
  rfl
noncomputable def zd0 (P:List Spot) (at_:Int→List Gate) (k:Nat):Prop:=∀ j:Nat,k<j→∀ o z n,P[j - 1]?=some o→P[j]?=some z→P[j+1]?=some n→BendOk o z n (at_ j)
theorem ziH {P:List Spot} (F:Fit P):∀ (L:List Itm) (k:Nat) (p:Spot) (need:Spot→Prop),AOk p need L→P.drop k=p::yN L→∃ Q,Q.map (·.1)=xI L∧Chn P ((k:Int),0,0) Q∧(∀ j:Int,j≤k→atJ Q j=[])∧zd0 P (atJ Q) k
 | [],_,_,_,h,_=>h.elim
 | (E,z,V)::L,k,p,need,h,hP=>by
   have hp:P[k]?=some p:=by
    have:=congrArg (fun l=>l[0]?) hP
    simpa using this
   have hd:P.drop (k+1)=z::yN L:=by
    have:=congrArg List.tail hP
    rw [List.tail_drop] at this
    exact this
   have hz:P[k+1]?=some z:=by
    have:=congrArg (fun l=>l[0]?) hd
    simpa using this
   have he:EdgeOk p E z V:=by
    cases L with
    | nil=>exact h.1
    | cons i r=>exact h.1
   obtain ⟨R,r1,r2,r3,r4,r5⟩:∃ R,R.map (·.1)=xI L∧Chn P (((k+1:Nat):Int),0,0) R∧(∀ j:Int,j≤(k+1:Nat)→atJ R j=[])∧zd0 P (atJ R) (k+1)∧(V=[]→R=[]):=by
    cases L with
    | nil=>exact ⟨[],rfl,trivial,fun _ _=>rfl,fun j hj o z' n _ h2 h3=>by
     exfalso
     have e1:P.length≤k+2:=by
      have:=congrArg List.length hd
      simp [yN] at this
      lia
     have:=(List.getElem?_eq_some_iff.mp h3).1
     lia,fun _=>rfl⟩
    | cons i r =>
      obtain ⟨R,r1,r2,r3,r4⟩:=ziH F (i::r) (k+1) z _ h.2.2 hd
      refine ⟨R,r1,r2,r3,r4,fun q => ?_⟩
      exfalso
      have b:BendOk p z i.2.1 V:=by
       have:=h.2.2
       cases r with
       | nil=>exact this.2.1
       | cons _ _=>exact this.2.1
      exact b.ne q
   have key:∃ Q,OnE k Q∧Q.map (·.1)=E∧Chn P ((k:Int),0,0) (Q++(V.map (fun g=>(g,(((k+1:Nat):Int),0,0)))++R)):=by
    rcases he.e with a | ⟨s,a⟩
    ·exact zec F hp hz a.x he.at_z r5 r2 E 0 0 a.cr a.pw (.inl rfl)
    ·exact zkt F hp hz a.x a.s1 a.up he.at_z a.fst r2 E p.2 true 0 0 a.vs (fun _=>⟨rfl,rfl⟩) (fun z=>by cases z) a.up
   obtain ⟨Q,q1,q2,q3⟩:=key
   refine ⟨Q++(V.map (fun g=>(g,(((k+1:Nat):Int),0,0)))++R),?_,q3,fun j hj => ?_,fun j hj o w n h1 h2 h3 => ?_⟩
   ·rw [List.map_append,List.map_append,q2,r1,List.map_map]
    show E++(V.map id++xI L)=(E++V)++xI L
    rw [List.map_id,List.append_assoc]
   ·rw [zb6,zb6,zi3 q1,zlN,if_neg (by lia),r3 j (by lia)]
    rfl
   ·rw [zb6,zb6,zi3 q1,zlN,List.nil_append]
    by_cases c:j=k+1
    ·subst c
     rw [if_pos rfl,r3 _ (Int.le_refl _),List.append_nil]
     rw [Nat.add_sub_cancel] at h1
     rw [hp] at h1
     rw [hz] at h2
     cases h1
     cases h2
     cases L with
     | nil =>
       exfalso
       have e1:P.length≤k+2:=by
        have:=congrArg List.length hd
        simp [yN] at this
        lia
       have:=(List.getElem?_eq_some_iff.mp h3).1
       lia
     | cons i r =>
       have hn:P[k+1+1]?=some i.2.1:=by
        have:=congrArg (fun l=>l[1]?) hd
        simpa [yN] using this
       rw [hn] at h3
       cases h3
       have:=h.2.2
       cases r with
       | nil=>exact this.2.1
       | cons _ _=>exact this.2.1
    ·rw [if_neg (by lia),List.nil_append]
     exact r4 j (by lia) o w n h1 h2 h3
noncomputable def PE (P:List Spot) (r:D) (acc:List Plc) (a:Plc) (s4:Slot):Ev:=[.pers (.lst (P.map zf)),.pers r,.own (acc.map plcD),.pers (plcD a),s4]
theorem za3 {P:List Spot} {r:D}:∀ (Q:List (Gate×Plc)) (acc:List Plc) (a:Plc) (s4:Slot),Chn P a Q→acc.length+Q.length≤50000→∃ a' s4',forD (gN 4) ud ((Q.map (·.1)).map zi) (PE P r acc a s4)=.ok (.next (PE P r (acc++Q.map (·.2)) a' s4'))
 | [],acc,a,s4,_,_=>⟨a,s4,by simp [forD]⟩
 | (g,b)::Q,acc,a,s4,⟨h1,h2⟩,hl=>by
   simp only [List.length_cons] at hl
   obtain ⟨a',s4',e⟩:=za3 (P:=P) (r:=r) Q (acc++[b]) b (.pers (zi g)) h2 (by simp; lia)
   refine ⟨a',s4',?_⟩
   have hg:gN 4 (zi g) (PE P r acc a s4)=.ok (PE P r acc a (.pers (zi g))):=rfl
   have hb:ud (PE P r acc a (.pers (zi g)))=.ok (.next (PE P r (acc++[b]) b (.pers (zi g)))):=by
    rw [ud,zj (env':=PE P r acc b (.pers (zi g))) (by
     rw [setS]
     show (((t9 [.lst (P.map zf),zi g,plcD a]).bind _).bind _)=_
     rw [h1]
     rfl),zj (env':=PE P r acc b (.pers (zi g))) (by rw [zcJ,if_f rfl]; rfl)]
    show (if (acc.map plcD).length<100000 then Out.ok (Res.next [.pers (.lst (P.map zf)),.pers r,.own (acc.map plcD++[plcD b]),.pers (plcD b),.pers (zi g)]) else .bad)=_
    rw [if_pos (by rw [List.length_map]; lia)]
    unfold PE
    rw [List.map_append]
    rfl
   rw [List.map_cons,List.map_cons,forD,hg,zm,hb,zm]
   simp only [List.append_assoc,List.singleton_append] at e
   exact e
theorem zgf {P:List Spot} {Q:List (Gate×Plc)} (h:Chn P (0,0,0) Q) (hl:Q.length≤40000):w6 [.lst (P.map zf),.lst ((Q.map (·.1)).map zi)]=.ok (.fresh ((Q.map (·.2)).map plcD)):=by
 obtain ⟨a',s4',e⟩:=za3 (P:=P) (r:=.lst ((Q.map (·.1)).map zi)) Q [] (0,0,0) .un h (by simp; lia)
 unfold w6
 show ((vW [.pers (.lst (P.map zf)),.pers (.lst ((Q.map (·.1)).map zi)),.un,.un,.un]).bind _)=_
 unfold vW
 rw [zj (env':=[.pers (.lst (P.map zf)),.pers (.lst ((Q.map (·.1)).map zi)),.own [],.un,.un]) rfl]
 rw [zj (env':=PE P (.lst ((Q.map (·.1)).map zi)) [] (0,0,0) .un) rfl]
 rw [zj (by
  have hi:fItL (fVar 1) (PE P (.lst ((Q.map (·.1)).map zi)) [] (0,0,0) .un)=.ok ((Q.map (·.1)).map zi):=rfl
  rw [forS,hi,zm]
  exact e)]
 rfl
theorem uA (a:Option Int) (y:Int):gEq (optD a) (.int y)=.ok (.pers (.bl (decide (a=some y)))):=by
 show (if (shal 4 (optD a) || shal 4 (optD (some y)))=true then Out.ok (Val.pers (.bl (eqD (optD a) (optD (some y))))) else .bad)=_
 rw [zed,Bool.true_or,if_pos rfl,zgX]
theorem zjZ (p:Spot) (g:Gate):za7 [zf p,zi g]=.ok (.pers (.int (hand p g))):=by
 unfold za7
 show ((zbi [.pers (zf p),.pers (zi g)]).bind _)=_
 have h0:zbi [.pers (zf p),.pers (zi g)]=.ok (.ret (.pers (.int (hand p g)))):=by
  unfold zbi hand
  have c1:fTrB (f2 gNe (f2 gIx (fVar 1) (fC (.int 0))) (f2 gIx (fVar 0) (fC (.int 0)))) [.pers (zf p),.pers (zi g)]=.ok (!(g.x == p.1)):=rfl
  by_cases x:g.x=p.1
  ·rw [beq_iff_eq.mpr x] at c1
   rw [if_neg (fun q=>q x),zj (env':=[.pers (zf p),.pers (zi g)]) (by rw [zdz,if_f c1]; rfl)]
   have c2:fTrB (f2 gEq (f2 gIx (fVar 1) (fC (.int 2))) (f2 gIx (fVar 0) (fC (.int 1)))) [.pers (zf p),.pers (zi g)]=.ok (decide (g.hi=some p.2)):=z9 (by
    rw [zz (x:=.pers (optD g.hi)) (y:=.pers (.int p.2)) rfl rfl]
    exact uA _ _)
   by_cases u:g.hi=some p.2
   ·rw [decide_eq_true u] at c2
    rw [if_pos u]
    refine yJ ?_
    rw [zdx,if_t c2]
    rfl
   ·rw [decide_eq_false u] at c2
    rw [if_neg u,zj (env':=[.pers (zf p),.pers (zi g)]) (by rw [zdx,if_f c2]; rfl)]
    have c3:fTrB (f2 gEq (f2 gIx (fVar 1) (fC (.int 1))) (f2 gIx (fVar 0) (fC (.int 1)))) [.pers (zf p),.pers (zi g)]=.ok (decide (g.lo=some p.2)):=z9 (by
     rw [zz (x:=.pers (optD g.lo)) (y:=.pers (.int p.2)) rfl rfl]
     exact uA _ _)
    by_cases v:g.lo=some p.2
    ·rw [decide_eq_true v] at c3
     rw [if_pos v]
     refine yJ ?_
     rw [zdw,if_t c3]
     show Out.ok (Res.ret (Val.pers (.int (0 - g.w))))=_
     rw [Int.zero_sub]
    ·rw [decide_eq_false v] at c3
     rw [if_neg v,zj (env':=[.pers (zf p),.pers (zi g)]) (by rw [zdw,if_f c3]; rfl)]
     rfl
  ·rw [beq_eq_false_iff_ne.mpr x] at c1
   rw [if_pos x]
   refine yJ ?_
   rw [zdz,if_t c1]
   rfl
 rw [h0]
 rfl
theorem zjb {o z n:Spot} (h1:near o z) (h2:near z n):za6 [zf o,zf z,zf n]=.ok (.pers (.int (tn o z n))):=by
 unfold za6
 show ((zcM [.pers (zf o),.pers (zf z),.pers (zf n),.un]).bind _)=_
 unfold zcM
 rw [zj (env':=[.pers (zf o),.pers (zf z),.pers (zf n),.pers (.int ((z.1 - o.1)*(n.2 - z.2)))]) (by
  rw [setS,zz (x:=.pers (.int (z.1 - o.1))) (y:=.pers (.int (n.2 - z.2))) rfl rfl]
  show ((gMul (.int (z.1 - o.1)) (.int (n.2 - z.2))).bind _)=_
  rw [y8 (v8 h1.1 h1.2)]
  rfl)]
 rw [retS,zz (x:=.pers (.int ((z.1 - o.1)*(n.2 - z.2)))) (y:=.pers (.int ((z.2 - o.2)*(n.1 - z.1)))) rfl (by
  rw [zz (x:=.pers (.int (z.2 - o.2))) (y:=.pers (.int (n.1 - z.1))) rfl rfl]
  exact y8 (wp h2.1 h2.2))]
 rfl
theorem zlM {α:Type} (x:α) (l:List α):atI (x::l) 0=some x:=ze1 (xs:=x::l) (k:=0) (by simp)
theorem zjX (xs:List Int):eqD (.lst (xs.map .int)) (.lst (xs.map .int))=true:=by
 rw [zdF,zbV D.int (fun x y=>by rw [zar]; rfl),decide_eq_true rfl]
theorem zgP (xs:List Int):shal 4 (.lst (xs.map .int))=true:=by
 rw [zee,List.all_map,List.all_eq_true]
 intro i _
 exact zhK _ i
theorem zjL (xs:List Int):gNe (.lst (xs.map .int)) (.lst (xs.map .int))=.ok (.pers (.bl false)):=by
 show (if (shal 4 (.lst (xs.map .int)) || shal 4 (.lst (xs.map .int)))=true then Out.ok (Val.pers (.bl (!eqD (.lst (xs.map .int)) (.lst (xs.map .int))))) else .bad)=_
 rw [zgP,Bool.true_or,if_pos rfl,zjX]
 rfl
noncomputable def BE (o z n:Spot) (V:List Gate) (s4 s5 s6 s7:Slot):Ev:=[.pers (zf o),.pers (zf z),.pers (zf n),.pers (.lst (V.map zi)),s4,s5,s6,s7]
theorem zkj {o z n:Spot} {V:List Gate} (b:BendOk o z n V) (h1:near o z) (h2:near z n) (h3 : -(2^64)<z.2 - o.2∧z.2 - o.2<2^64) (hl:V.length≤50000):za8 [zf o,zf z,zf n,.lst (V.map zi)]=.ok (.pers (.bl true)):=by
 obtain ⟨ne,⟨t,ht,hh,one⟩,back⟩:=b
 obtain ⟨g0,V',rfl⟩:∃ g0 V',V=g0::V':=by
  cases V with
  | nil=>exact absurd rfl ne
  | cons a b=>exact ⟨a,b,rfl⟩
 generalize hV:g0::V'=V at *
 have hlen:V.length=V'.length+1:=by rw [←hV]; rfl
 have hm:V.map (hand z)=V.map fun _=>t:=List.map_congr_left hh
 have hc:xL [1] 1 (fItL (fVar 3)) (gN 1) (fYes) (zdG) (BE o z n V .un .un .un .un)=.ok (.fresh ((V.map fun _=>t).map .int)):=by
  have hi:fItL (fVar 3) (BE o z n V .un .un .un .un)=.ok (V.map zi):=rfl
  rw [xL,hi,zm,if_pos (by rw [List.length_map]; lia)]
  show ((compD (gN 1) fYes zdG (V.map zi) [.pers (zf z),.un]).bind _)=_
  rw [wn (fun env=>∃ s1,env=[.pers (zf z),s1]) zi (fun g=>some (.int (hand z g))) V [.pers (zf z),.un] ⟨_,rfl⟩ (fun g env _ ⟨s1,he⟩=>by
   subst he
   refine ⟨[.pers (zf z),.pers (zi g)],rfl,⟨_,rfl⟩,.inr ⟨_,.pers (.int (hand z g)),rfl,rfl,?_,rfl⟩⟩
   show ((za7 [zf z,zi g]).bind _)=_
   rw [zjZ]
   rfl),List.filterMap_eq_map',←hm,List.map_map]
  rfl
 have h0:atI ((V.map fun _=>t).map D.int) 0=some (.int t):=by rw [←hV]; exact zlM _ _
 have x0:∀ s5 s6 s7,f2 gIx (fVar 4) (fC (.int 0)) (BE o z n V (.pers (.lst ((V.map fun _=>t).map .int))) s5 s6 s7)=.ok (.pers (.int t)):=fun s5 s6 s7=>by
  rw [zz (x:=.pers (.lst ((V.map fun _=>t).map .int))) (y:=.pers (.int 0)) rfl rfl]
  exact uY h0
 have c3:fOr (fTrB (f2 gEq (fVar 4) (fLst (hNil)))) (fOr (fTrB (f2 gEq (f2 gIx (fVar 4) (fC (.int 0))) (fC (.int 0)))) (fTrB (f2 gNe (fVar 4) (xL [4] 1 (fItL (fVar 4)) (gN 1) (fYes) (zas))))) (BE o z n V (.pers (.lst ((V.map fun _=>t).map .int))) .un .un .un)=.ok false:=by
  have a1:fTrB (f2 gEq (fVar 4) (fLst (hNil))) (BE o z n V (.pers (.lst ((V.map fun _=>t).map .int))) .un .un .un)=.ok false:=by
   refine z9 ?_
   rw [zz (x:=.pers (.lst ((V.map fun _=>t).map .int))) (y:=.fresh []) rfl rfl]
   show (if (shal 4 (.lst ((V.map fun _=>t).map .int)) || true)=true then Out.ok (Val.pers (.bl (eqD (.lst ((V.map fun _=>t).map .int)) (.lst [])))) else .bad)=_
   rw [Bool.or_true,if_pos rfl,zdF,←hV]
   rw [List.map_cons,List.map_cons,zgZ]
  have a2:fTrB (f2 gEq (f2 gIx (fVar 4) (fC (.int 0))) (fC (.int 0))) (BE o z n V (.pers (.lst ((V.map fun _=>t).map .int))) .un .un .un)=.ok false:=by
   refine z9 ?_
   rw [zz (x0 _ _ _) (y:=.pers (.int 0)) rfl]
   show Out.ok (Val.pers (.bl (t == 0)))=_
   rw [beq_eq_false_iff_ne.mpr (by lia)]
  have a3:xL [4] 1 (fItL (fVar 4)) (gN 1) (fYes) (zas) (BE o z n V (.pers (.lst ((V.map fun _=>t).map .int))) .un .un .un)=.ok (.fresh ((V.map fun _=>t).map .int)):=by
   have hi:fItL (fVar 4) (BE o z n V (.pers (.lst ((V.map fun _=>t).map .int))) .un .un .un)=.ok ((V.map fun _=>t).map .int):=rfl
   rw [xL,hi,zm,if_pos (by rw [List.length_map,List.length_map]; lia)]
   show ((compD (gN 1) fYes zas ((V.map fun _=>t).map .int) [.pers (.lst ((V.map fun _=>t).map .int)),.un]).bind _)=_
   rw [wn (fun env=>∃ s1,env=[.pers (.lst ((V.map fun _=>t).map .int)),s1]) D.int (fun _=>some (.int t)) (V.map fun _=>t) [.pers (.lst ((V.map fun _=>t).map .int)),.un] ⟨_,rfl⟩ (fun g env _ ⟨s1,he⟩=>by
    subst he
    refine ⟨[.pers (.lst ((V.map fun _=>t).map .int)),.pers (.int g)],rfl,⟨_,rfl⟩,.inr ⟨_,.pers (.int t),rfl,rfl,?_,rfl⟩⟩
    rw [zas,zz (x:=.pers (.lst ((V.map fun _=>t).map .int))) (y:=.pers (.int 0)) rfl rfl]
    exact uY h0),List.filterMap_eq_map',List.map_map]
   rw [List.map_map]
   rfl
  rw [or_f a1,or_f a2]
  refine z9 ?_
  rw [zz (x:=.pers (.lst ((V.map fun _=>t).map .int))) rfl a3]
  exact zjL _
 have ln:∀ s5 s6 s7,fTrB (f2 gGt (fB gLen (zl (fVar 4) (fNil))) (fC (.int 1))) (BE o z n V (.pers (.lst ((V.map fun _=>t).map .int))) s5 s6 s7)=.ok (decide (1<V.length)):=fun s5 s6 s7=>by
  show Out.ok (decide ((1:Int)<(((V.map fun _=>t).map D.int).length:Int)))=_
  rw [List.length_map,List.length_map]
  congr 1
  exact decide_eq_decide.mpr (by lia)
 unfold za8
 show ((zbj (BE o z n V .un .un .un .un)).bind _)=_
 have hf:zbj (BE o z n V .un .un .un .un)=.ok (.ret (.pers (.bl true))):=by
  unfold zbj
  rw [zj (env':=BE o z n V (.pers (.lst ((V.map fun _=>t).map .int))) .un .un .un) (by
   rw [setS,hc]
   rfl),zj (env':=BE o z n V (.pers (.lst ((V.map fun _=>t).map .int))) .un .un .un) (by rw [zgR,if_f c3]; rfl)]
  rw [zj (env':=BE o z n V (.pers (.lst ((V.map fun _=>t).map .int))) (.pers (.int (tn o z n))) .un .un) (by
   rw [setS]
   show (((za6 [zf o,zf z,zf n]).bind _).bind _)=_
   rw [zjb h1 h2]
   rfl)]
  have c4:fTrB (f2 gNe (fVar 5) (fC (.int 0))) (BE o z n V (.pers (.lst ((V.map fun _=>t).map .int))) (.pers (.int (tn o z n))) .un .un)=.ok (!(tn o z n == 0)):=rfl
  by_cases q:tn o z n=0
  ·rw [beq_iff_eq.mpr q] at c4
   have bk:=back q
   have ev:(z.1 - o.1)*(n.1 - z.1)+(z.2 - o.2)*(n.2 - z.2)<0:=bk
   rw [zj (env':=BE o z n V (.pers (.lst ((V.map fun _=>t).map .int))) (.pers (.int (tn o z n))) .un .un) (by rw [zdv,if_f c4]; rfl)]
   rw [zj (env':=BE o z n V (.pers (.lst ((V.map fun _=>t).map .int))) (.pers (.int (tn o z n))) (.pers (.int ((z.1 - o.1)*(n.1 - z.1)))) .un) (by
    rw [setS,zz (x:=.pers (.int (z.1 - o.1))) (y:=.pers (.int (n.1 - z.1))) rfl rfl]
    show ((gMul (.int (z.1 - o.1)) (.int (n.1 - z.1))).bind _)=_
    rw [y8 (v8 h1.1 h1.2)]
    rfl)]
   have c5:fTrB (f2 gGe (f2 gAdd (fVar 6) (f2 gMul (f2 gSub (f2 gIx (fVar 1) (fC (.int 1))) (f2 gIx (fVar 0) (fC (.int 1)))) (f2 gSub (f2 gIx (fVar 2) (fC (.int 1))) (f2 gIx (fVar 1) (fC (.int 1)))))) (fC (.int 0))) (BE o z n V (.pers (.lst ((V.map fun _=>t).map .int))) (.pers (.int (tn o z n))) (.pers (.int ((z.1 - o.1)*(n.1 - z.1)))) .un)=.ok false:=by
    refine z9 ?_
    rw [zz (x:=.pers (.int ((z.1 - o.1)*(n.1 - z.1)+(z.2 - o.2)*(n.2 - z.2)))) (y:=.pers (.int 0)) (by
     rw [zz (x:=.pers (.int ((z.1 - o.1)*(n.1 - z.1)))) (y:=.pers (.int ((z.2 - o.2)*(n.2 - z.2)))) rfl (by
      rw [zz (x:=.pers (.int (z.2 - o.2))) (y:=.pers (.int (n.2 - z.2))) rfl rfl]
      exact y8 (v8 h3.1 h3.2))]
     rfl) rfl]
    show Out.ok (Val.pers (.bl (decide (0≤(z.1 - o.1)*(n.1 - z.1)+(z.2 - o.2)*(n.2 - z.2)))))=_
    rw [decide_eq_false (by lia)]
   rw [zj (env':=BE o z n V (.pers (.lst ((V.map fun _=>t).map .int))) (.pers (.int (tn o z n))) (.pers (.int ((z.1 - o.1)*(n.1 - z.1)))) .un) (by rw [zgQ,if_f c5]; rfl)]
   have c6:=ln (.pers (.int (tn o z n))) (.pers (.int ((z.1 - o.1)*(n.1 - z.1)))) .un
   by_cases l1:1<V.length
   ·rw [decide_eq_true l1] at c6
    refine yJ ?_
    rw [zdt,if_t c6]
    rfl
   ·rw [decide_eq_false l1] at c6
    rw [zj (env':=BE o z n V (.pers (.lst ((V.map fun _=>t).map .int))) (.pers (.int (tn o z n))) (.pers (.int ((z.1 - o.1)*(n.1 - z.1)))) .un) (by rw [zdt,if_f c6]; rfl)]
    rw [zj (env':=BE o z n V (.pers (.lst ((V.map fun _=>t).map .int))) (.pers (.int (tn o z n))) (.pers (.int ((z.1 - o.1)*(n.1 - z.1)))) (.pers (.int (o.2 - z.2)))) rfl]
    obtain ⟨ox,ov⟩:o.1=z.1∧(if g0.lo=some z.2 then 0<z.2 - o.2 else 0<o.2 - z.2):=by
     rcases one (by lia) with k | ⟨_,k2,k3⟩
     ·rw [q,Int.zero_mul] at k
      lia
     ·exact ⟨k2,k3 g0 (by rw [←hV]; simp)⟩
    have e0:f2 gIx (f2 gIx (fVar 3) (fC (.int 0))) (fC (.int 1)) (BE o z n V (.pers (.lst ((V.map fun _=>t).map .int))) (.pers (.int (tn o z n))) (.pers (.int ((z.1 - o.1)*(n.1 - z.1)))) (.pers (.int (o.2 - z.2))))=.ok (.pers (optD g0.lo)):=by
     have e3:f2 gIx (fVar 3) (fC (.int 0)) (BE o z n V (.pers (.lst ((V.map fun _=>t).map .int))) (.pers (.int (tn o z n))) (.pers (.int ((z.1 - o.1)*(n.1 - z.1)))) (.pers (.int (o.2 - z.2))))=.ok (.pers (zi g0)):=by
      rw [zz (x:=.pers (.lst (V.map zi))) (y:=.pers (.int 0)) rfl rfl]
      refine uY ?_
      rw [←hV]
      exact zlM _ _
     rw [zz e3 (y:=.pers (.int 1)) rfl]
     rfl
    have c7:fTrB (f2 gEq (f2 gIx (f2 gIx (fVar 3) (fC (.int 0))) (fC (.int 1))) (f2 gIx (fVar 1) (fC (.int 1)))) (BE o z n V (.pers (.lst ((V.map fun _=>t).map .int))) (.pers (.int (tn o z n))) (.pers (.int ((z.1 - o.1)*(n.1 - z.1)))) (.pers (.int (o.2 - z.2))))=.ok (decide (g0.lo=some z.2)):=z9 (by
     rw [zz e0 (y:=.pers (.int z.2)) rfl]
     exact uA _ _)
    have fin:∀ v:Int,0<v→retS (zbS (f2 gEq (f2 gIx (fVar 0) (fC (.int 0))) (f2 gIx (fVar 1) (fC (.int 0)))) (f2 gGt (fVar 7) (fC (.int 0)))) (BE o z n V (.pers (.lst ((V.map fun _=>t).map .int))) (.pers (.int (tn o z n))) (.pers (.int ((z.1 - o.1)*(n.1 - z.1)))) (.pers (.int v)))=.ok (.ret (.pers (.bl true))):=fun v hv=>by
     have e1:f2 gEq (f2 gIx (fVar 0) (fC (.int 0))) (f2 gIx (fVar 1) (fC (.int 0))) (BE o z n V (.pers (.lst ((V.map fun _=>t).map .int))) (.pers (.int (tn o z n))) (.pers (.int ((z.1 - o.1)*(n.1 - z.1)))) (.pers (.int v)))=.ok (.pers (.bl true)):=by
      show Out.ok (Val.pers (.bl (o.1 == z.1)))=_
      rw [beq_iff_eq.mpr ox]
     have e2:f2 gGt (fVar 7) (fC (.int 0)) (BE o z n V (.pers (.lst ((V.map fun _=>t).map .int))) (.pers (.int (tn o z n))) (.pers (.int ((z.1 - o.1)*(n.1 - z.1)))) (.pers (.int v)))=.ok (.pers (.bl true)):=by
      show Out.ok (Val.pers (.bl (decide (0<v))))=_
      rw [decide_eq_true hv]
     rw [retS,zbS,e1,zm]
     show ((f2 gGt (fVar 7) (fC (.int 0)) (BE o z n V (.pers (.lst ((V.map fun _=>t).map .int))) (.pers (.int (tn o z n))) (.pers (.int ((z.1 - o.1)*(n.1 - z.1)))) (.pers (.int v)))).bind _)=_
     rw [e2]
     rfl
    by_cases lo:g0.lo=some z.2
    ·rw [decide_eq_true lo] at c7
     rw [if_pos lo] at ov
     rw [zj (env':=BE o z n V (.pers (.lst ((V.map fun _=>t).map .int))) (.pers (.int (tn o z n))) (.pers (.int ((z.1 - o.1)*(n.1 - z.1)))) (.pers (.int (0 - (o.2 - z.2))))) (by rw [zds,if_t c7]; rfl)]
     exact fin _ (by lia)
    ·rw [decide_eq_false lo] at c7
     rw [if_neg lo] at ov
     rw [zj (env':=BE o z n V (.pers (.lst ((V.map fun _=>t).map .int))) (.pers (.int (tn o z n))) (.pers (.int ((z.1 - o.1)*(n.1 - z.1)))) (.pers (.int (o.2 - z.2)))) (by rw [zds,if_f c7]; rfl)]
     exact fin _ ov
  ·rw [beq_eq_false_iff_ne.mpr q] at c4
   refine yJ ?_
   rw [zdv,if_t c4]
   have l0:f2 gGt (fB gLen (zl (fVar 4) (fNil))) (fC (.int 1)) (BE o z n V (.pers (.lst ((V.map fun _=>t).map .int))) (.pers (.int (tn o z n))) .un .un)=.ok (.pers (.bl (decide (1<V.length)))):=by
    show Out.ok (Val.pers (.bl (decide ((1:Int)<(((V.map fun _=>t).map D.int).length:Int)))))=_
    rw [List.length_map,List.length_map]
    congr 3
    exact decide_eq_decide.mpr (by lia)
   rw [retS,fOrV,l0,zm]
   by_cases l1:1<V.length
   ·rw [decide_eq_true l1]
    rfl
   ·rw [decide_eq_false l1]
    have pos:0<tn o z n*t:=by
     rcases one (by lia) with k | ⟨k,_⟩
     ·exact k
     ·exact absurd k q
    have m1:f2 gGt (f2 gMul (fVar 5) (f2 gIx (fVar 4) (fC (.int 0)))) (fC (.int 0)) (BE o z n V (.pers (.lst ((V.map fun _=>t).map .int))) (.pers (.int (tn o z n))) .un .un)=.ok (.pers (.bl true)):=by
     rw [zz (x:=.pers (.int (tn o z n*t))) (y:=.pers (.int 0)) (by
      rw [zz (x:=.pers (.int (tn o z n))) rfl (x0 _ _ _)]
      exact y8 (wp (by lia) (by lia))) rfl]
     show Out.ok (Val.pers (.bl (decide (0<tn o z n*t))))=_
     rw [decide_eq_true pos]
    show ((f2 gGt (f2 gMul (fVar 5) (f2 gIx (fVar 4) (fC (.int 0)))) (fC (.int 0)) (BE o z n V (.pers (.lst ((V.map fun _=>t).map .int))) (.pers (.int (tn o z n))) .un .un)).bind _)=_
    rw [m1]
    rfl
 rw [hf]
 rfl
theorem zfR {P:List Spot} (F:Fit P) {Q:List (Gate×Plc)} (h:Chn P (0,0,0) Q) (hl:Q.length≤40000) (hP:2≤P.length) (hb:zd0 P (atJ Q) 0):uS [.lst (P.map zf),.lst ((Q.map (·.1)).map zi)]=.ok (.pers (.bl true)):=by
 have hp:=zgf h hl
 let qf:Gate×Plc→Pq:=fun q=>((zi q.1,q.2.1,q.2.2.1),.int q.2.2.2)
 have e1:(Q.map (·.1)).map zi=(Q.map qf).map (·.1.1):=by rw [List.map_map,List.map_map]; rfl
 have e2:(Q.map (·.2)).map plcD=(Q.map qf).map plq:=by rw [List.map_map,List.map_map]; rfl
 have ht:zaV za8 [.pers (.lst (P.map zf)),.pers (.lst ((Q.map (·.1)).map zi)),.pers (.lst ((Q.map (·.2)).map plcD)),.un,.un,.un,.un]=.ok (.ret (.pers (.bl true))):=by
  unfold zaV
  rw [if_pos]
  refine ⟨P.map zf,Q.map qf,by rw [e1,e2],by rw [List.length_map]; exact hl,by rw [List.length_map]; exact F.len,by rw [List.length_map]; lia,fun j j1 j2 => ?_⟩
  rw [List.length_map] at j2
  have a1:P[j - 1]?=some P[j - 1]:=List.getElem?_eq_getElem (by lia)
  have a2:P[j]?=some P[j]:=List.getElem?_eq_getElem (by lia)
  have a3:P[j+1]?=some P[j+1]:=List.getElem?_eq_getElem (by lia)
  generalize P[j - 1]=o at a1
  generalize P[j]=z at a2
  generalize P[j+1]=n at a3
  have B:=hb j (by lia) o z n a1 a2 a3
  have n1:=F.near a1 a2
  have n2:=F.near a2 a3
  have al:(atJ Q j).length≤50000:=by
   unfold atJ
   rw [List.length_map]
   have:=List.length_filter_le (fun q:Gate×Plc=>decide (q.2.1=(j:Int))&&decide (q.2.2.1=0)) Q
   lia
  have bi:=zkj B n1.1 n2.1 n1.2 al
  refine ⟨zf o,zf z,zf n,by rw [List.getElem?_map,a1]; rfl,by rw [List.getElem?_map,a2]; rfl,by rw [List.getElem?_map,a3]; rfl,?_⟩
  have e3:((Q.map qf).filter fun q=>decide (q.1.2.1=(j:Int))&&decide (q.1.2.2=0)).map (·.1.1)=(atJ Q j).map zi:=by
   unfold atJ
   rw [List.filter_map,List.map_map,List.map_map]
   rfl
  rw [e3]
  exact bi
 unfold uS
 show ((zcN [.pers (.lst (P.map zf)),.pers (.lst ((Q.map (·.1)).map zi)),.un,.un,.un,.un,.un]).bind _)=_
 unfold zcN
 rw [zj (env':=[.pers (.lst (P.map zf)),.pers (.lst ((Q.map (·.1)).map zi)),.pers (.lst ((Q.map (·.2)).map plcD)),.un,.un,.un,.un]) (by
  rw [setS]
  show (((w6 [.lst (P.map zf),.lst ((Q.map (·.1)).map zi)]).bind _).bind _)=_
  rw [hp]
  rfl),zj (env':=[.pers (.lst (P.map zf)),.pers (.lst ((Q.map (·.1)).map zi)),.pers (.lst ((Q.map (·.2)).map plcD)),.un,.un,.un,.un]) (by rw [zgT,if_f rfl]; rfl),ht]
 rfl
noncomputable def IE (P:List Spot) (pegs:List Spot) (s e:Spot) (s4 s5:Slot):Ev:=[.pers (.lst (P.map zf)),.pers (.lst (pegs.map zf)),.pers (zf s),.pers (zf e),s4,s5]
theorem zgW (p q:Spot):gEq (zf p) (zf q)=.ok (.pers (.bl (decide (p=q)))):=by
 show (if (shal 4 (zf p) || shal 4 (zf q))=true then Out.ok (Val.pers (.bl (eqD (zf p) (zf q)))) else .bad)=_
 rw [vF,Bool.true_or,if_pos rfl,zbT]
theorem zcA (p:Spot):gNe (zf p) (zf p)=.ok (.pers (.bl false)):=by
 show (if (shal 4 (zf p) || shal 4 (zf p))=true then Out.ok (Val.pers (.bl (!eqD (zf p) (zf p)))) else .bad)=_
 rw [vF,Bool.true_or,if_pos rfl,zbT,decide_eq_true rfl]
 rfl
theorem zcs {P pegs:List Spot} {s e:Spot} {s5:Slot}:∀ (l:List Spot) (s4:Slot),∃ t4,forD (gN 4) vi (l.map zf) (IE P pegs s e s4 s5)=.ok (.next (IE P pegs s e t4 s5))
 | [],s4=>⟨s4,rfl⟩
 | p::l,s4=>by
   obtain ⟨t4,h⟩:=zcs (P:=P) (pegs:=pegs) (s:=s) (e:=e) (s5:=s5) l (.pers (zf p))
   refine ⟨t4,?_⟩
   have hg:gN 4 (zf p) (IE P pegs s e s4 s5)=.ok (IE P pegs s e (.pers (zf p)) s5):=rfl
   have hb:vi (IE P pegs s e (.pers (zf p)) s5)=.ok (.next (IE P pegs s e (.pers (zf p)) s5)):=by
    rw [vi,zbf,if_f rfl]
    rfl
   rw [List.map_cons,forD,hg,zm,hb,zm]
   exact h
theorem zjD {m pegs:List Spot} {s e:Spot} (hl:m.length≤50000) (hd:∀ (j:Nat) p q,(s::(m++[e]))[j]?=some p→(s::(m++[e]))[j+1]?=some q→m≠[]→p≠q) (hm:∀ p∈m,p∈pegs):yB [.lst ((s::(m++[e])).map zf),.lst (pegs.map zf),zf s,zf e]=.ok (.pers (.bl true)):=by
 generalize hP:s::(m++[e])=P at *
 have hlen:P.length=m.length+2:=by rw [←hP]; simp
 have a0:P[0]?=some s:=by rw [←hP]; rfl
 have aL:atI (P.map zf) (-1)=some (zf e):=by
  rw [ze2,List.length_map,List.getElem?_map,←List.getLast?_eq_getElem?,←hP,←List.cons_append,List.getLast?_concat]
  rfl
 obtain ⟨t4,w1⟩:=zcs (P:=P) (pegs:=pegs) (s:=s) (e:=e) (s5:=.un) P .un
 have step:∀ j:Nat,1≤j→j<P.length→vf (IE P pegs s e t4 (.pers (.int j)))=.ok (.next (IE P pegs s e t4 (.pers (.int j)))):=by
  intro j j1 j2
  have b1:P[j - 1]?=some P[j - 1]:=List.getElem?_eq_getElem (by lia)
  have b2:P[j]?=some P[j]:=List.getElem?_eq_getElem (by lia)
  generalize P[j - 1]=p at b1
  generalize P[j]=q at b2
  have t1:fTrB (f2 gEq (f2 gIx (fVar 0) (fVar 5)) (f2 gIx (fVar 0) (f2 gSub (fVar 5) (fC (.int 1))))) (IE P pegs s e t4 (.pers (.int j)))=.ok (decide (q=p)):=by
   refine z9 ?_
   rw [zz (x:=.pers (zf q)) (y:=.pers (zf p)) (by
    rw [zz (x:=.pers (.lst (P.map zf))) (y:=.pers (.int (j:Int))) rfl rfl]
    exact uY (um b2)) (by
    rw [zz (x:=.pers (.lst (P.map zf))) (y:=.pers (.int ((j:Int) - 1))) rfl rfl]
    refine uY ?_
    rw [show (j:Int) - 1=((j - 1:Nat):Int) by lia]
    exact um b1)]
   exact zgW q p
  have c:fAnd (fTrB (f2 gEq (f2 gIx (fVar 0) (fVar 5)) (f2 gIx (fVar 0) (f2 gSub (fVar 5) (fC (.int 1)))))) (fTrB (f2 gGt (fB gLen (zl (fVar 0) (fNil))) (fC (.int 2)))) (IE P pegs s e t4 (.pers (.int j)))=.ok false:=by
   by_cases z:q=p
   ·rw [decide_eq_true z] at t1
    rw [zc3 t1]
    have:m=[]:=by
     cases m with
     | nil=>rfl
     | cons x y=>exact absurd z.symm (hd (j - 1) p q b1 (by rw [Nat.sub_add_cancel j1]; exact b2) (by simp))
    show Out.ok (decide ((2:Int)<((P.map zf).length:Int)))=_
    rw [List.length_map,hlen,this,decide_eq_false (by simp)]
   ·rw [decide_eq_false z] at t1
    exact zfz t1
  rw [vf,zbe,if_f c]
  rfl
 obtain ⟨env',f2',s5,rfl⟩:=vV (g:=gN 5) (fb:=vf) (fun _ env=>∃ s5:Slot,env=IE P pegs s e t4 s5) (rngD 1 (P.length - 1)) 0 (IE P pegs s e t4 .un) ⟨_,rfl⟩ (by
  rintro i d env _ hd' ⟨s5,rfl⟩
  rw [Nat.sub_zero] at hd'
  obtain ⟨hi,rfl⟩:=zde hd'
  refine ⟨IE P pegs s e t4 (.pers (.int ((i+1:Nat):Int))),_,?_,step (i+1) (by lia) (by lia),_,rfl⟩
  rw [show ((1:Int)+(i:Int))=((i+1:Nat):Int) by lia]
  rfl)
 unfold yB
 show ((wT (IE P pegs s e .un .un)).bind _)=_
 unfold wT
 rw [zj (env':=IE P pegs s e .un .un) (by
  have c:fOr (fNot (fTr (f1 (gIsi "list") (fVar 0)))) (fTrB (f2 gLt (fB gLen (zl (fVar 0) (fNil))) (fC (.int 2)))) (IE P pegs s e .un .un)=.ok false:=by
   have t1:fNot (fTr (f1 (gIsi "list") (fVar 0))) (IE P pegs s e .un .un)=.ok false:=rfl
   rw [or_f t1]
   show Out.ok (decide (((P.map zf).length:Int)<2))=_
   rw [List.length_map,hlen,decide_eq_false (by lia)]
  rw [zbh,if_f c]
  rfl)]
 rw [zj (by
  have hi:fItL (fVar 0) (IE P pegs s e .un .un)=.ok (P.map zf):=rfl
  rw [forS,hi,zm]
  exact w1)]
 rw [zj (by
  have hr:zbR (zl (fC (.int 1)) (zl (fB gLen (zl (fVar 0) (fNil))) (fNil))) (IE P pegs s e t4 .un)=.ok (rngD 1 (P.length - 1)):=by
   rw [zjl (i:=1) (j:=(P.length:Int)) (by
    have v:fB gLen (zl (fVar 0) (fNil)) (IE P pegs s e t4 .un)=.ok (.pers (.int (P.length:Int))):=by
     show Out.ok (Val.pers (.int ((P.map zf).length:Int)))=_
     rw [List.length_map]
    have v1:fC (.int 1) (IE P pegs s e t4 .un)=.ok (.pers (.int 1)):=rfl
    rw [zl,v1,zm,zl,v,zm]
    rfl) (by lia)]
   congr 2
   lia
  rw [forS,hr,zm]
  exact f2')]
 rw [zj (env':=IE P pegs s e t4 s5) (by
  have c:fOr (fTrB (f2 gNe (f2 gIx (fVar 0) (fC (.int 0))) (fVar 2))) (fTrB (f2 gNe (f2 gIx (fVar 0) (f1 gNeg (fC (.int 1)))) (fVar 3))) (IE P pegs s e t4 s5)=.ok false:=by
   have t1:fTrB (f2 gNe (f2 gIx (fVar 0) (fC (.int 0))) (fVar 2)) (IE P pegs s e t4 s5)=.ok false:=by
    refine z9 ?_
    rw [zz (x:=.pers (zf s)) (y:=.pers (zf s)) (by
     rw [zz (x:=.pers (.lst (P.map zf))) (y:=.pers (.int 0)) rfl rfl]
     exact uY (um (k:=0) a0)) rfl]
    exact zcA s
   rw [or_f t1]
   refine z9 ?_
   rw [zz (x:=.pers (zf e)) (y:=.pers (zf e)) (by
    rw [zz (x:=.pers (.lst (P.map zf))) (y:=.pers (.int (-1))) rfl rfl]
    exact uY aL) rfl]
   exact zcA e
  rw [zbd,if_f c]
  rfl)]
 have hc:xL [1] 1 (fItL (fSl (fVar 0) (fSo (fC (.int 1))) (fSo (f1 gNeg (fC (.int 1)))))) (gN 1) (uk) (uB) (IE P pegs s e t4 s5)=.ok (.fresh []):=by
  have hi:fItL (fSl (fVar 0) (fSo (fC (.int 1))) (fSo (f1 gNeg (fC (.int 1))))) (IE P pegs s e t4 s5)=.ok (m.map zf):=by
   show Out.ok (cutD (P.map zf) (some 1) (some (-1)))=_
   rw [←hP,zhe]
  rw [xL,hi,zm,if_pos (by rw [List.length_map]; lia)]
  show ((compD (gN 1) uk uB (m.map zf) [.pers (.lst (pegs.map zf)),.un]).bind _)=_
  rw [wn (fun env=>∃ s1,env=[.pers (.lst (pegs.map zf)),s1]) zf (fun _=>none) m [.pers (.lst (pegs.map zf)),.un] ⟨_,rfl⟩ (fun p env hpm ⟨s1,he⟩=>by
   subst he
   refine ⟨[.pers (.lst (pegs.map zf)),.pers (zf p)],rfl,⟨_,rfl⟩,.inl ⟨rfl,?_⟩⟩
   refine z9 ?_
   rw [zz (x:=.pers (zf p)) (y:=.pers (.lst (pegs.map zf))) rfl rfl]
   show (if shal 4 (zf p)=true then Out.ok (Val.pers (.bl (!(pegs.map zf).any fun z=>eqD z (zf p)))) else .bad)=_
   rw [if_pos (vF 3 p),ze3,decide_eq_true (hm p hpm)]
   rfl)]
  have:m.filterMap (fun _=>(none:Option D))=[]:=List.filterMap_eq_nil_iff.mpr fun _ _=>rfl
  rw [this]
  rfl
 rw [retS,zz hc (y:=.fresh []) rfl]
 rfl
theorem zcH:∀ (l:List Spot) (o p:Spot),p∈yT (o::l)→p∈l.dropLast
 | [],_,_,h=>by simp [yT] at h
 | [_],_,_,h=>by simp [yT] at h
 | m::n::r,o,p,h=>by
   rw [yT] at h
   rw [List.dropLast_cons_cons]
   rcases List.mem_append.mp h with h | h
   ·split at h
    ·simp at h
    ·rw [List.mem_singleton.mp h]
     exact List.mem_cons_self
   ·exact List.mem_cons_of_mem _ (zcH (n::r) m p h)
theorem zdg {s e:Spot} {row:List Gate} {out:List Spot} (ok:PullOk s e row) (h:zb9 s (xm row) e out):∃ m,out=s::(m++[e])∧∀ p∈m,PegOf row p:=by
 obtain ⟨T,tt,rfl⟩:=h
 obtain ⟨m0,rfl,hp⟩:=zac (xm row) s e T (tQ _ (tp row ok.walk)) tt
 rw [vN] at hp
 have n1:∀ p∈m0,p≠s:=fun p k q=>by
  obtain ⟨g,hg,w,_⟩:=hp p k
  exact ok.sx g hg (by rw [←w,q])
 have n2:∀ p∈m0,p≠e:=fun p k q=>by
  obtain ⟨g,hg,w,_⟩:=hp p k
  exact ok.ex g hg (by rw [←w,q])
 refine ⟨_,rfl,fun p hm => ?_⟩
 rw [←zfC n1 n2] at hm
 have:=zcH _ _ _ hm
 rw [List.dropLast_concat] at this
 exact hp p (zce this)
theorem zeb:∀ (L:List Itm) (p:Spot) (need:Spot→Prop),AOk p need L→∀ (j:Nat) a b,(p::yN L)[j]?=some a→(p::yN L)[j+1]?=some b→a≠b
 | [],_,_,h,_,_,_,_,_=>h.elim
 | (E,z,V)::L,p,need,h,j,a,b,ha,hb=>by
   have he:EdgeOk p E z V:=by
    cases L with
    | nil=>exact h.1
    | cons i r=>exact h.1
   cases j with
   | zero =>
     have e1:p=a:=by simpa using ha
     have e2:z=b:=by simpa [yN] using hb
     rw [←e1,←e2]
     exact he.ne
   | succ j =>
     cases L with
     | nil =>
       have:(p::yN [(E,z,V)])[j+1+1]?=none:=List.getElem?_eq_none (by simp [yN])
       rw [this] at hb
       cases hb
     | cons i r=>exact zeb (i::r) z _ h.2.2 j a b ha hb
theorem zjO {s e:Spot} {row:List Gate} {pegs:List Spot} (ok:PullOk s e row) (gk:∀ g∈row,GateOk g∧(g.w=1∨g.w = -1)) (hs:row≠[]→0<(wP row).w*((wP row).x - s.1)) (he:row≠[]→0<(zD row).w*(e.1 - (zD row).x)) (hpg:∀ p,PegOf row p→p∈pegs) :
 ∃ out:List Spot,yO [zf s,.lst (row.map zi),zf e]=.ok (.fresh (out.map zf))∧yB [.lst (out.map zf),.lst (pegs.map zf),zf s,zf e]=.ok (.pers (.bl true))∧uS [.lst (out.map zf),.lst (row.map zi)]=.ok (.pers (.bl true)):=by
 obtain ⟨out,P,hlen,ep⟩:=zf9 ok
 obtain ⟨m,em,hm⟩:=zdg ok P
 refine ⟨out,ep,?_,?_⟩
 ·rw [em] at hlen ⊢
  simp only [List.length_cons,List.length_append,List.length_nil] at hlen
  refine zjD (by lia) (fun j p q h1 h2 hne => ?_) (fun p k=>hpg p (hm p k))
  have rn:row≠[]:=fun z=>by
   subst z
   cases m with
   | nil=>exact hne rfl
   | cons x y =>
     obtain ⟨g,hg,_⟩:=hm x (by simp)
     simp at hg
  obtain ⟨L,A,eL,_⟩:=zco rn ok.walk gk (hs rn) (he rn) P
  rw [←em,eL] at h1 h2
  exact zeb L s _ A j p q h1 h2
 ·have F:Fit out:=by
   obtain ⟨c,hc⟩:=ok.hh
   have hin:∀ p∈out,p=s∨p=e∨PegOf row p:=fun p k=>by
    rw [em] at k
    rcases List.mem_cons.mp k with k | k
    ·exact .inl k
    ·rcases List.mem_append.mp k with k | k
     ·exact .inr (.inr (hm p k))
     ·exact .inr (.inl (List.mem_singleton.mp k))
   refine ⟨by lia,fun p k => ?_,c,fun p k=>hc p (hin p k)⟩
   rcases hin p k with rfl | rfl | ⟨g,hg,w,_⟩
   ·exact ok.bs
   ·exact ok.be
   ·rw [w]; exact ok.bg g hg
  have h2:2≤out.length:=by rw [em]; simp
  by_cases rn:row=[]
  ·subst rn
   have mn:m=[]:=by
    cases m with
    | nil=>rfl
    | cons x y =>
      obtain ⟨g,hg,_⟩:=hm x (by simp)
      simp at hg
   refine zfR (Q:=[]) F trivial (by simp) h2 (fun j hj o z n _ _ h3 => ?_)
   exfalso
   have:=(List.getElem?_eq_some_iff.mp h3).1
   rw [em,mn] at this
   simp at this
   lia
  ·obtain ⟨L,A,eL,gL⟩:=zco rn ok.walk gk (hs rn) (he rn) P
   obtain ⟨Q,q1,q2,_,q4⟩:=ziH F L 0 s _ A (by rw [List.drop_zero]; exact eL)
   have:=zfR F q2 (by
    have:=congrArg List.length q1
    rw [List.length_map,gL] at this
    have:=ok.len
    lia) h2 q4
   rw [q1,gL] at this
   exact this
noncomputable def dv (n:Int):Nat→Int
 | 0=>n
 | p+1=>dv n p / 4
theorem zij (n:Int) (p:Nat) (hp:p≤1000):wN [.int n,.int 4,.int p]=.ok (.pers (.int (dv n p%4))):=by
 obtain ⟨env',ef,s3,rfl⟩:=vV (g:=gN 3) (fb:=zb5) (fun j env=>∃ s3:Slot,env=[.pers (.int (dv n j)),.pers (.int 4),.pers (.int p),s3]) (rngD 0 p) 0 [.pers (.int n),.pers (.int 4),.pers (.int p),.un] ⟨_,rfl⟩ (by
  rintro j d env _ hd ⟨s3,rfl⟩
  refine ⟨[.pers (.int (dv n j)),.pers (.int 4),.pers (.int p),.pers d],_,rfl,?_,.pers d,rfl⟩
  rw [zb5,setS,zz (x:=.pers (.int (dv n j))) (y:=.pers (.int 4)) rfl rfl]
  show ((gDiv (.int (dv n j)) (.int 4)).bind _)=_
  rw [zg6 (by lia) (by lia)]
  rfl)
 unfold wN
 show ((zaq [.pers (.int n),.pers (.int 4),.pers (.int p),.un]).bind _)=_
 unfold zaq
 rw [zj (by
  have hr:uz (zl (fVar 2) (fNil)) [.pers (.int n),.pers (.int 4),.pers (.int p),.un]=.ok (rngD 0 (p:Int).toNat):=tV (n:=p) rfl (by lia)
  rw [Int.toNat_natCast] at hr
  rw [forS,hr,zm]
  exact ef)]
 rw [retS,zz (x:=.pers (.int (dv n (0+(rngD 0 p).length)))) (y:=.pers (.int 4)) rfl rfl,zbE,Nat.zero_add]
 show ((gMod (.int (dv n p)) (.int 4)).bind _)=_
 rw [xo (by lia)]
 rfl
noncomputable def pgs (n:Nat) (y:Nat→Int):List Spot:=(List.range n).map fun (i:Nat)=>(2*(i:Int),y i)
theorem xH {hs:List Int} {E:Ev} {t:Nat} (h:E[t]?=some (.pers (.lst (hs.map .int)))) {i:Int} {j:Nat} (hi:i=j) (hj:j<hs.length):f2 gIx (fVar t) (fC (.int i)) E=.ok (.pers (.int hs[j])):=by
 subst hi
 have v:fVar t E=.ok (.pers (.lst (hs.map .int))):=by
  rw [fVar,h]
 rw [zz v (y:=.pers (.int j)) rfl]
 refine uY ?_
 rw [ze1 (by rw [List.length_map]; exact hj),List.getElem_map]
theorem zjy {hs:List Int} (h6:hs.length=6):∃ (n:Nat) (y:Nat→Int),2≤n∧n≤12∧(∀ i,0≤y i∧y i≤3)∧yP [.lst (hs.map .int)]=.ok (.fresh ((pgs n y).map zf)):=by
 have a0:=xH (hs:=hs) (E:=[.pers (.lst (hs.map .int)),.un,.un]) (t:=0) rfl (i:=0) (j:=0) rfl (by lia)
 have b0:=fun k=>xH (hs:=hs) (E:=[.pers (.lst (hs.map .int)),.pers (.int k),.un]) (t:=0) rfl (i:=0) (j:=0) rfl (by lia)
 have b1:=fun k=>xH (hs:=hs) (E:=[.pers (.lst (hs.map .int)),.pers (.int k),.un]) (t:=0) rfl (i:=1) (j:=1) rfl (by lia)
 have b2:=fun k=>xH (hs:=hs) (E:=[.pers (.lst (hs.map .int)),.pers (.int k),.un]) (t:=0) rfl (i:=2) (j:=2) rfl (by lia)
 have c3:=fun (k:Int) (w:Slot)=>xH (hs:=hs) (E:=[.pers (.lst (hs.map .int)),.pers (.int k),w]) (t:=0) rfl (i:=3) (j:=3) rfl (by lia)
 generalize hs[0]=u0 at a0 b0
 generalize hs[1]=u1 at b1
 generalize hs[2]=u2 at b2
 generalize hs[3]=u3 at c3
 have i1:∃ n:Nat,2≤n∧n≤12∧xx [.pers (.lst (hs.map .int)),.pers (.int (2+u0%11)),.un]=.ok (.next [.pers (.lst (hs.map .int)),.pers (.int (n:Int)),.un]):=by
  have c:fTrB (f2 gEq (f2 gMod (f2 gIx (fVar 0) (fC (.int 1))) (fC (.int 16))) (fC (.int 1))) [.pers (.lst (hs.map .int)),.pers (.int (2+u0%11)),.un]=.ok (u1%16 == 1):=by
   refine z9 ?_
   rw [zz (x:=.pers (.int (u1%16))) (y:=.pers (.int 1)) (by
    rw [zz (b1 _) (y:=.pers (.int 16)) rfl]
    exact xo (by lia)) rfl]
   rfl
  cases q:u1%16 == 1 with
  | false =>
    rw [q] at c
    refine ⟨(2+u0%11).toNat,by lia,by lia,?_⟩
    rw [xx,if_f c,show ((2+u0%11).toNat:Int)=2+u0%11 by lia]
    rfl
  | true =>
    rw [q] at c
    refine ⟨(9+u0%4).toNat,by lia,by lia,?_⟩
    rw [xx,if_t c,setS,zz (x:=.pers (.int 9)) (y:=.pers (.int (u0%4))) rfl (by
     rw [zz (b0 _) (y:=.pers (.int 4)) rfl]
     exact xo (by lia)),show ((9+u0%4).toNat:Int)=9+u0%4 by lia]
    rfl
 obtain ⟨n,n2,n12,i1⟩:=i1
 obtain ⟨w,hw,i2⟩:∃ w:Int,(w=1∨w=4)∧f2 gIx (fLst (zB (fC (.int 1)) (zB (fC (.int 4)) (hNil)))) (f2 gMod (f2 gIx (fVar 0) (fC (.int 2))) (fC (.int 2))) [.pers (.lst (hs.map .int)),.pers (.int (n:Int)),.un]=.ok (.pers (.int w)):=by
  have m:f2 gMod (f2 gIx (fVar 0) (fC (.int 2))) (fC (.int 2)) [.pers (.lst (hs.map .int)),.pers (.int (n:Int)),.un]=.ok (.pers (.int (u2%2))):=by
   rw [zz (b2 _) (y:=.pers (.int 2)) rfl]
   exact xo (by lia)
  rw [zz (x:=.fresh [.int 1,.int 4]) rfl m]
  rcases (show u2%2=0∨u2%2=1 by lia) with q | q
  ·rw [q]; exact ⟨1,.inl rfl,rfl⟩
  ·rw [q]; exact ⟨4,.inr rfl,rfl⟩
 refine ⟨n,fun i=>dv u3 i%4%w,n2,n12,fun i=>by show 0≤dv u3 i%4%w∧dv u3 i%4%w≤3; rcases hw with rfl | rfl <;> lia,?_⟩
 have hc:compD (gN 2) fYes xy (rngD 0 n) [.pers (.lst (hs.map .int)),.pers (.int w),.un]=.ok ((pgs n fun i=>dv u3 i%4%w).map zf):=by
  unfold rngD
  rw [wn (fun env=>∃ s2,env=[.pers (.lst (hs.map .int)),.pers (.int w),s2]) (fun (i:Nat)=>D.int (0+i)) (fun i=>some (zf (2*(i:Int),dv u3 i%4%w))) (List.range n) [.pers (.lst (hs.map .int)),.pers (.int w),.un] ⟨_,rfl⟩ (fun i env hi ⟨s2,he⟩=>by
   subst he
   have hin:=List.mem_range.mp hi
   refine ⟨[.pers (.lst (hs.map .int)),.pers (.int w),.pers (.int i)],by rw [Int.zero_add]; rfl,⟨_,rfl⟩,.inr ⟨_,.pers (zf (2*(i:Int),dv u3 i%4%w)),rfl,rfl,?_,rfl⟩⟩
   have x1:f2 gMul (fC (.int 2)) (fVar 2) [.pers (.lst (hs.map .int)),.pers (.int w),.pers (.int i)]=.ok (.pers (.int (2*(i:Int)))):=by
    rw [zz (x:=.pers (.int 2)) (y:=.pers (.int i)) rfl rfl]
    exact y8 (v8 (by lia) (by lia))
   have v4:fC (.int 4) [.pers (.lst (hs.map .int)),.pers (.int w),.pers (.int i)]=.ok (.pers (.int 4)):=rfl
   have v2:fVar 2 [.pers (.lst (hs.map .int)),.pers (.int w),.pers (.int i)]=.ok (.pers (.int i)):=rfl
   have x2:zL wN (zl (f2 gIx (fVar 0) (fC (.int 3))) (zl (fC (.int 4)) (zl (fVar 2) (fNil)))) [.pers (.lst (hs.map .int)),.pers (.int w),.pers (.int i)]=.ok (.pers (.int (dv u3 i%4))):=by
    rw [zL,zl,c3,zm,zl,v4,zm,zl,v2,zm,fNil]
    show ((wN [.int u3,.int 4,.int i]).bind _)=_
    rw [zij u3 i (by lia)]
    rfl
   have x3:f2 gMod (zL wN (zl (f2 gIx (fVar 0) (fC (.int 3))) (zl (fC (.int 4)) (zl (fVar 2) (fNil))))) (fVar 1) [.pers (.lst (hs.map .int)),.pers (.int w),.pers (.int i)]=.ok (.pers (.int (dv u3 i%4%w))):=by
    rw [zz x2 (y:=.pers (.int w)) rfl]
    exact xo (by lia)
   simp only [xy,fTup,zB,hNil,x1,x3,zm]
   rfl),List.filterMap_eq_map']
  unfold pgs
  rw [List.map_map]
  rfl
 unfold yP
 show ((xq [.pers (.lst (hs.map .int)),.un,.un]).bind _)=_
 unfold xq
 rw [zj (env':=[.pers (.lst (hs.map .int)),.pers (.int (2+u0%11)),.un]) (by
  rw [setS,zz (x:=.pers (.int 2)) (y:=.pers (.int (u0%11))) rfl (by
   rw [zz a0 (y:=.pers (.int 11)) rfl]
   exact xo (by lia))]
  rfl),zj i1,zj (env':=[.pers (.lst (hs.map .int)),.pers (.int (n:Int)),.pers (.int w)]) (by
  rw [setS,i2]
  rfl)]
 have hr:uz (zl (fVar 1) (fNil)) [.pers (.lst (hs.map .int)),.pers (.int (n:Int)),.pers (.int w)]=.ok (rngD 0 n):=by
  have:=tV (f:=zl (fVar 1) (fNil)) (env:=[.pers (.lst (hs.map .int)),.pers (.int (n:Int)),.pers (.int w)]) (n:=(n:Int)) rfl (by lia)
  rw [Int.toNat_natCast] at this
  exact this
 rw [retS,xL,hr,zm,if_pos (by rw [zbE]; lia)]
 show ((((compD (gN 2) fYes xy (rngD 0 n) [.pers (.lst (hs.map .int)),.pers (.int w),.un]).bind _).bind _).bind _)=_
 rw [hc]
 rfl
noncomputable def uG (under:Bool) (w:Int) (p:Spot):Gate:=if under=true then ⟨p.1,none,some p.2,w⟩ else ⟨p.1,some p.2,none,w⟩
noncomputable def wy (k:Nat):Int:=1 - 2*((k:Int)%2)
noncomputable def und (below:Bool) (k:Nat):Bool:=(((k:Int)%2 == 0) == below)
noncomputable def xb (ps:List Spot) (below:Bool) (k:Nat):List Gate:=if wy k = -1 then (ps.map (uG (und below k) (wy k))).reverse else ps.map (uG (und below k) (wy k))
noncomputable def rowW (ps:List Spot) (below:Bool) (m:Nat):List Gate:=(List.range m).flatMap (xb ps below)
noncomputable def WE (ps:List Spot) (t:Int) (b:Bool) (f:List Gate) (s4 s5 s6 s7 s8:Slot):Ev:=[.pers (.lst (ps.map zf)),.pers (.int t),.pers (.bl b),.pers (.lst (f.map zi)),s4,s5,s6,s7,s8]
theorem zd3 {ps:List Spot} {t:Int} {b:Bool} {f:List Gate} {k:Nat}:∀ (l:List Spot) (acc:List Gate) (s7 s8:Slot),acc.length+l.length≤1000→∃ t7 t8,forD (gT [7,8]) ua (l.map zf) (WE ps t b f (.pers (.int k)) (.pers (.int (wy k))) (.own (acc.map zi)) s7 s8)=.ok (.next (WE ps t b f (.pers (.int k)) (.pers (.int (wy k))) (.own ((acc++l.map (uG (und b k) (wy k))).map zi)) t7 t8))
 | [],acc,s7,s8,_=>⟨s7,s8,by rw [List.map_nil,List.map_nil,List.append_nil]; rfl⟩
 | p::l,acc,s7,s8,hl=>by
   simp only [List.length_cons] at hl
   obtain ⟨t7,t8,e⟩:=zd3 (ps:=ps) (t:=t) (b:=b) (f:=f) (k:=k) l (acc++[uG (und b k) (wy k) p]) (.pers (.int p.1)) (.pers (.int p.2)) (by simp; lia)
   refine ⟨t7,t8,?_⟩
   have hg:gT [7,8] (zf p) (WE ps t b f (.pers (.int k)) (.pers (.int (wy k))) (.own (acc.map zi)) s7 s8)=.ok (WE ps t b f (.pers (.int k)) (.pers (.int (wy k))) (.own (acc.map zi)) (.pers (.int p.1)) (.pers (.int p.2))):=rfl
   have c:fTrB (f2 gEq (f2 gEq (f2 gMod (fVar 4) (fC (.int 2))) (fC (.int 0))) (fVar 2)) (WE ps t b f (.pers (.int k)) (.pers (.int (wy k))) (.own (acc.map zi)) (.pers (.int p.1)) (.pers (.int p.2)))=.ok (und b k):=rfl
   have hb:ua (WE ps t b f (.pers (.int k)) (.pers (.int (wy k))) (.own (acc.map zi)) (.pers (.int p.1)) (.pers (.int p.2)))=.ok (.next (WE ps t b f (.pers (.int k)) (.pers (.int (wy k))) (.own ((acc++[uG (und b k) (wy k) p]).map zi)) (.pers (.int p.1)) (.pers (.int p.2)))):=by
    have hl2:(acc.map zi).length<100000:=by rw [List.length_map]; lia
    unfold uG
    cases q:und b k with
    | true =>
      rw [q] at c
      rw [ua,zbO,if_t c]
      show (if (acc.map zi).length<100000 then Out.ok (Res.next [.pers (.lst (ps.map zf)),.pers (.int t),.pers (.bl b),.pers (.lst (f.map zi)),.pers (.int k),.pers (.int (wy k)),.own (acc.map zi++[zi ⟨p.1,none,some p.2,wy k⟩]),.pers (.int p.1),.pers (.int p.2)]) else .bad)=_
      rw [if_pos hl2,List.map_append]
      rfl
    | false =>
      rw [q] at c
      rw [ua,zbO,if_f c]
      show (if (acc.map zi).length<100000 then Out.ok (Res.next [.pers (.lst (ps.map zf)),.pers (.int t),.pers (.bl b),.pers (.lst (f.map zi)),.pers (.int k),.pers (.int (wy k)),.own (acc.map zi++[zi ⟨p.1,some p.2,none,wy k⟩]),.pers (.int p.1),.pers (.int p.2)]) else .bad)=_
      rw [if_pos hl2,List.map_append]
      rfl
   rw [List.map_cons,forD,hg,zm,hb,zm]
   simp only [List.append_assoc,List.singleton_append] at e
   exact e
theorem ze5 {ps:List Spot} {t:Int} {b:Bool} {f:List Gate} {k:Nat} {s5 s6 s7 s8:Slot} (hp:ps.length≤12) (hf:f.length≤3000):∃ t5 t6 t7 t8,tF (WE ps t b f (.pers (.int k)) s5 s6 s7 s8)=.ok (.next (WE ps t b (f++xb ps b k) (.pers (.int k)) t5 t6 t7 t8)):=by
 obtain ⟨t7,t8,e⟩:=zd3 (ps:=ps) (t:=t) (b:=b) (f:=f) (k:=k) ps [] s7 s8 (by simp; lia)
 rw [List.nil_append] at e
 have hlen:(xb ps b k).length=ps.length:=by
  unfold xb
  split <;> simp
 refine ⟨.pers (.int (wy k)),.own ((xb ps b k).map zi),t7,t8,?_⟩
 rw [tF,zj (env':=WE ps t b f (.pers (.int k)) (.pers (.int (wy k))) s6 s7 s8) (by
  have m:f2 gMul (fC (.int 2)) (f2 gMod (fVar 4) (fC (.int 2))) (WE ps t b f (.pers (.int k)) s5 s6 s7 s8)=.ok (.pers (.int (2*((k:Int)%2)))):=by
   rw [zz (x:=.pers (.int 2)) (y:=.pers (.int ((k:Int)%2))) rfl rfl]
   exact y8 (v8 (by lia) (by lia))
  rw [setS,zz (x:=.pers (.int 1)) rfl m]
  rfl),zj (env':=WE ps t b f (.pers (.int k)) (.pers (.int (wy k))) (.own []) s7 s8) rfl]
 rw [zj (by
  have hi:fItL (fVar 0) (WE ps t b f (.pers (.int k)) (.pers (.int (wy k))) (.own []) s7 s8)=.ok (ps.map zf):=rfl
  rw [forS,hi,zm]
  exact e)]
 rw [zj (env':=WE ps t b f (.pers (.int k)) (.pers (.int (wy k))) (.own ((xb ps b k).map zi)) t7 t8) (by
  have c:fTrB (f2 gEq (fVar 5) (f1 gNeg (fC (.int 1)))) (WE ps t b f (.pers (.int k)) (.pers (.int (wy k))) (.own ((ps.map (uG (und b k) (wy k))).map zi)) t7 t8)=.ok (wy k == -1):=rfl
  unfold xb
  by_cases z:wy k = -1
  ·rw [beq_iff_eq.mpr z] at c
   rw [zbM,if_t c,if_pos z,List.map_reverse]
   rfl
  ·rw [beq_eq_false_iff_ne.mpr z] at c
   rw [zbM,if_f c,if_neg z]
   rfl)]
 rw [setS,zz (x:=.pers (.lst (f.map zi))) (y:=.brw 6 ((xb ps b k).map zi)) rfl rfl]
 show ((if (f.map zi).length+((xb ps b k).map zi).length≤100000 then Out.ok (Val.fresh (f.map zi++(xb ps b k).map zi)) else .bad).bind _)=_
 rw [if_pos (by rw [List.length_map,List.length_map,hlen]; lia),←List.map_append]
 rfl
theorem zeA (ps:List Spot) (b:Bool) (k:Nat):(xb ps b k).length=ps.length:=by
 unfold xb
 split <;> simp
theorem xE (ps:List Spot) (b:Bool) (m:Nat):rowW ps b (m+1)=rowW ps b m++xb ps b m:=by
 unfold rowW
 rw [List.range_succ,List.flatMap_append]
 simp
theorem zbD (ps:List Spot) (b:Bool):∀ m,(rowW ps b m).length=m*ps.length
 | 0=>by simp [rowW]
 | m+1=>by rw [xE,List.length_append,zbD ps b m,zeA,Nat.succ_mul]
theorem zhD {ps:List Spot} {m:Nat} {b:Bool} (hp:ps.length≤12) (hm:m≤180):uu [.lst (ps.map zf),.int m,.bl b]=.ok (.pers (.lst ((rowW ps b m).map zi))):=by
 obtain ⟨env',ef,s4,s5,s6,s7,s8,rfl⟩:=vV (g:=gN 4) (fb:=tF) (fun j env=>∃ s4 s5 s6 s7 s8:Slot,env=WE ps m b (rowW ps b j) s4 s5 s6 s7 s8) (rngD 0 m) 0 (WE ps m b [] .un .un .un .un .un) ⟨_,_,_,_,_,rfl⟩ (by
  rintro j d env _ hd ⟨s4,s5,s6,s7,s8,rfl⟩
  rw [Nat.sub_zero] at hd
  obtain ⟨hj,rfl⟩:=zde hd
  have hl:=zbD ps b j
  have:j*ps.length≤180*12:=Nat.mul_le_mul (by lia) hp
  obtain ⟨t5,t6,t7,t8,e⟩:=ze5 (ps:=ps) (t:=m) (b:=b) (f:=rowW ps b j) (k:=j) (s5:=s5) (s6:=s6) (s7:=s7) (s8:=s8) hp (by lia)
  refine ⟨WE ps m b (rowW ps b j) (.pers (.int j)) s5 s6 s7 s8,_,by rw [Int.zero_add]; rfl,e,_,_,_,_,_,by rw [xE]⟩)
 unfold uu
 show ((zap [.pers (.lst (ps.map zf)),.pers (.int m),.pers (.bl b),.un,.un,.un,.un,.un,.un]).bind _)=_
 unfold zap
 rw [zj (env':=WE ps m b [] .un .un .un .un .un) rfl]
 rw [zj (by
  have hr:uz (zl (fVar 1) (fNil)) (WE ps m b [] .un .un .un .un .un)=.ok (rngD 0 m):=by
   have:=tV (f:=zl (fVar 1) (fNil)) (env:=WE ps m b [] .un .un .un .un .un) (n:=(m:Int)) rfl (by lia)
   rw [Int.toNat_natCast] at this
   exact this
  rw [forS,hr,zm]
  exact ef)]
 rw [zbE,Nat.zero_add]
 rfl
noncomputable def bW (ps:List Spot):List (Int×List Int):=ps.map fun p=>(p.1,[p.2])
theorem uG_x (u:Bool) (w:Int) (p:Spot):(uG u w p).x=p.1:=by cases u <;> rfl
theorem uG_w (u:Bool) (w:Int) (p:Spot):(uG u w p).w=w:=by cases u <;> rfl
theorem zkv (u:Bool) (w:Int) (p:Spot):zaF (p.1,[p.2]) (uG u w p):=by
 cases u with
 | true=>exact ⟨rfl,0,by simp,rfl,rfl⟩
 | false=>exact ⟨rfl,1,by simp,rfl,rfl⟩
theorem ziB {u:Bool} {w:Int} {p:Spot} {y:Int} (h:(uG u w p).lo=some y∨(uG u w p).hi=some y):y=p.2:=by
 cases u with
 | true =>
   rcases h with h | h
   ·cases h
   ·exact (Option.some.inj h).symm
 | false =>
   rcases h with h | h
   ·exact (Option.some.inj h).symm
   ·cases h
theorem zfJ (u:Bool) (w w':Int) (p:Spot):uG (!u) w' p≠negG (uG u w p):=by
 intro h
 have:=congrArg Gate.lo h
 cases u <;> cases this
theorem zbH {B:List (Int×List Int)}:∀ {a b:List Gate} {h:Int},zaE B h (a++b)↔zaE B h a∧zaE B (h+sumG a) b
 | [],b,h=>by simp [zaE,sumG]
 | t::a,b,h=>by
   have:=zbH (B:=B) (a:=a) (b:=b) (h:=h+t.w)
   simp only [List.cons_append,zaE,this,sumG,Int.add_assoc,and_assoc]
theorem zfT (u:Bool) (w:Int):∀ l:List Spot,sumG (l.map (uG u w))=w*l.length
 | []=>by simp [sumG]
 | p::l=>by
   rw [List.map_cons,sumG,uG_w,zfT u w l,List.length_cons]
   rw [show ((l.length+1:Nat):Int)=(l.length:Int)+1 by lia,Int.mul_add,Int.mul_one,Int.add_comm]
theorem za4 {ps:List Spot} (u:Bool):∀ (l:List Spot) (i:Nat),ps.drop i=l→zaE (bW ps) (i:Int) (l.map (uG u 1))
 | [],_,_=>trivial
 | p::l,i,h=>by
   have hp:ps[i]?=some p:=by
    have:=congrArg (fun l=>l[0]?) h
    simpa using this
   have hd:ps.drop (i+1)=l:=by
    have:=congrArg List.tail h
    rw [List.tail_drop] at this
    exact this
   refine ⟨⟨(p.1,[p.2]),zkv u 1 p,i,by unfold bW; rw [List.getElem?_map,hp]; rfl,.inl ⟨uG_w u 1 p,rfl⟩⟩,?_⟩
   rw [uG_w]
   exact za4 u l (i+1) hd
theorem zcr {ps:List Spot} (u:Bool):∀ (i:Nat),i≤ps.length→zaE (bW ps) (i:Int) ((ps.take i).reverse.map (uG u (-1)))
 | 0,_=>by rw [List.take_zero]; trivial
 | i+1,h=>by
   have hi:i<ps.length:=by lia
   rw [List.take_succ_eq_append_getElem hi,List.reverse_append,List.map_append]
   refine ⟨⟨(ps[i].1,[ps[i].2]),zkv u (-1) _,i,by unfold bW; rw [List.getElem?_map,List.getElem?_eq_getElem hi]; rfl,.inr ⟨uG_w u (-1) _,by lia⟩⟩,?_⟩
   rw [uG_w,show (((i+1:Nat):Int) + -1)=(i:Int) by lia]
   exact zcr u i (by lia)
theorem zd2 (k:Nat):(wy k=1∧k%2=0)∨(wy k = -1∧k%2=1):=by
 unfold wy
 lia
theorem zep (ps:List Spot) (b:Bool):∀ m,zaE (bW ps) 0 (rowW ps b m)∧sumG (rowW ps b m)=if m%2=0 then 0 else (ps.length:Int)
 | 0=>⟨trivial,rfl⟩
 | m+1=>by
   obtain ⟨h1,h2⟩:=zep ps b m
   rw [xE]
   have sa:∀ a c:List Gate,sumG (a++c)=sumG a+sumG c:=by
    intro a
    induction a with
    | nil=>intro c; simp [sumG]
    | cons t a ih=>intro c; simp only [List.cons_append,sumG,ih]; lia
   rcases zd2 m with ⟨w,e⟩ | ⟨w,e⟩
   ·have ep:xb ps b m=ps.map (uG (und b m) 1):=by
     unfold xb
     rw [w,if_neg (by decide)]
    rw [if_pos e] at h2
    rw [ep]
    refine ⟨zbH.mpr ⟨h1,?_⟩,?_⟩
    ·rw [h2]
     exact za4 (und b m) ps 0 rfl
    ·rw [sa,h2,zfT,if_neg (by lia)]
     lia
   ·have ep:xb ps b m=ps.reverse.map (uG (und b m) (-1)):=by
     unfold xb
     rw [w,if_pos rfl,List.map_reverse]
    rw [if_neg (by lia)] at h2
    rw [ep]
    refine ⟨zbH.mpr ⟨h1,?_⟩,?_⟩
    ·rw [h2,Int.zero_add]
     have:=zcr (ps:=ps) (und b m) ps.length (Nat.le_refl _)
     rw [List.take_length] at this
     exact this
    ·rw [sa,h2,zfT,List.length_reverse,if_pos (by lia)]
     lia
theorem zf6:∀ {l:List Gate},l.Pairwise (fun a c=>a.x≠c.x)→Red l
 | [],_=>trivial
 | [_],_=>trivial
 | t::g::r,h=>by
   obtain ⟨h1,h2⟩:=List.pairwise_cons.mp h
   exact ⟨fun q=>h1 g (by simp) (by rw [q]; rfl),zf6 h2⟩
theorem zf7 {c:List Gate}:∀ {a:List Gate},Red a→Red c→(∀ t g,a.getLast?=some t→c.head?=some g→g≠negG t)→Red (a++c)
 | [],_,hc,_=>hc
 | [t],_,hc,h=>by
   cases c with
   | nil=>trivial
   | cons g r=>exact ⟨h t g rfl rfl,hc⟩
 | t::s::a,ha,hc,h=>⟨ha.1,zf7 (a:=s::a) ha.2 hc fun x g h1 h2=>h x g (by rw [List.getLast?_cons_cons]; exact h1) h2⟩
theorem zd7 (b:Bool) (k:Nat):und b (k+1) = !und b k:=by
 unfold und
 rcases (show k%2=0∨k%2=1 by lia) with q | q
 ·have e1:(((k:Nat):Int)%2 == 0)=true:=by rw [beq_iff_eq]; lia
  have e2:(((k+1:Nat):Int)%2 == 0)=false:=by rw [beq_eq_false_iff_ne]; lia
  rw [e1,e2]
  cases b <;> rfl
 ·have e1:(((k:Nat):Int)%2 == 0)=false:=by rw [beq_eq_false_iff_ne]; lia
  have e2:(((k+1:Nat):Int)%2 == 0)=true:=by rw [beq_iff_eq]; lia
  rw [e1,e2]
  cases b <;> rfl
theorem xF (ps:List Spot) (b:Bool) (k:Nat):(k%2=0∧xb ps b k=ps.map (uG (und b k) 1))∨(k%2=1∧xb ps b k=ps.reverse.map (uG (und b k) (-1))):=by
 rcases zd2 k with ⟨w,e⟩ | ⟨w,e⟩
 ·left
  refine ⟨e,?_⟩
  unfold xb
  rw [w,if_neg (by decide)]
 ·right
  refine ⟨e,?_⟩
  unfold xb
  rw [w,if_pos rfl,List.map_reverse]
theorem zgm {ps:List Spot} {b:Bool} {k:Nat} {t g:Gate} (h1:(xb ps b k).getLast?=some t) (h2:(xb ps b (k+1)).head?=some g):g≠negG t:=by
 rcases xF ps b k with ⟨e,p⟩ | ⟨e,p⟩
 ·rcases xF ps b (k+1) with ⟨e',p'⟩ | ⟨e',p'⟩
  ·lia
  ·rw [p,List.getLast?_map] at h1
   rw [p',List.head?_map,List.head?_reverse] at h2
   obtain ⟨x,hx,rfl⟩:=Option.map_eq_some_iff.mp h1
   obtain ⟨z,hz,rfl⟩:=Option.map_eq_some_iff.mp h2
   rw [hx] at hz
   cases hz
   rw [zd7]
   exact zfJ _ _ _ _
 ·rcases xF ps b (k+1) with ⟨e',p'⟩ | ⟨e',p'⟩
  ·rw [p,List.getLast?_map,List.getLast?_reverse] at h1
   rw [p',List.head?_map] at h2
   obtain ⟨x,hx,rfl⟩:=Option.map_eq_some_iff.mp h1
   obtain ⟨z,hz,rfl⟩:=Option.map_eq_some_iff.mp h2
   rw [hx] at hz
   cases hz
   rw [zd7]
   exact zfJ _ _ _ _
  ·lia
theorem zhW {ps:List Spot} (up:ps.Pairwise fun a c=>a.1<c.1) (b:Bool) (k:Nat):Red (xb ps b k):=by
 rcases xF ps b k with ⟨_,p⟩ | ⟨_,p⟩
 ·rw [p]
  refine zf6 ?_
  rw [List.pairwise_map]
  refine up.imp fun {x z} h => ?_
  rw [uG_x,uG_x]
  lia
 ·rw [p]
  refine zf6 ?_
  rw [List.pairwise_map,List.pairwise_reverse]
  refine up.imp fun {x z} h => ?_
  rw [uG_x,uG_x]
  lia
theorem zeq {ps:List Spot} (hp:ps≠[]) (b:Bool) (m:Nat):(rowW ps b (m+1)).getLast?=(xb ps b m).getLast?:=by
 rw [xE,List.getLast?_append]
 have:xb ps b m≠[]:=fun q=>by
  have:=zeA ps b m
  rw [q] at this
  exact hp (List.eq_nil_of_length_eq_zero this.symm)
 rw [List.getLast?_eq_some_getLast this]
 rfl
theorem zf4 {ps:List Spot} (hp:ps≠[]) (up:ps.Pairwise fun a c=>a.1<c.1) (b:Bool):∀ m,Red (rowW ps b m)
 | 0=>trivial
 | m+1=>by
   rw [xE]
   refine zf7 (zf4 hp up b m) (zhW up b m) fun t g h1 h2 => ?_
   cases m with
   | zero=>cases h1
   | succ m =>
     rw [zeq hp] at h1
     exact zgm h1 h2
theorem zgj (n:Nat) (y:Nat→Int) {i:Nat} (h:i<n):(pgs n y)[i]?=some (2*(i:Int),y i):=by
 unfold pgs
 rw [List.getElem?_map,List.getElem?_eq_getElem (by simpa using h)]
 simp
theorem zdi (n:Nat) (y:Nat→Int):(pgs n y).length=n:=by simp [pgs]
theorem zjx {n:Nat} {y:Nat→Int} {p:Spot} (h:p∈pgs n y):∃ i:Nat,i<n∧p=(2*(i:Int),y i):=by
 unfold pgs at h
 obtain ⟨i,hi,e⟩:=List.mem_map.mp h
 exact ⟨i,List.mem_range.mp hi,e.symm⟩
theorem zkP (n:Nat) (y:Nat→Int):(pgs n y).Pairwise fun a c=>a.1<c.1:=by
 unfold pgs
 rw [List.pairwise_map]
 exact List.pairwise_lt_range.imp fun {i j} h=>by simp only; lia
theorem zbC {ps:List Spot} {b:Bool}:∀ {m:Nat} {g:Gate},g∈rowW ps b m→∃ p∈ps,∃ u w,g=uG u w p:=by
 intro m g h
 unfold rowW at h
 obtain ⟨k,_,hg⟩:=List.mem_flatMap.mp h
 rcases xF ps b k with ⟨_,p⟩ | ⟨_,p⟩
 ·rw [p] at hg
  obtain ⟨q,hq,e⟩:=List.mem_map.mp hg
  exact ⟨q,hq,_,_,e.symm⟩
 ·rw [p] at hg
  obtain ⟨q,hq,e⟩:=List.mem_map.mp hg
  exact ⟨q,List.mem_reverse.mp hq,_,_,e.symm⟩
theorem zer {ps:List Spot} {b:Bool} {p:Spot} (h:ps.head?=some p):∀ m,(rowW ps b (m+1)).head?=some (uG (und b 0) 1 p)
 | 0=>by
   rw [xE]
   show (([]:List Gate)++xb ps b 0).head?=_
   rw [List.nil_append]
   rcases xF ps b 0 with ⟨_,q⟩ | ⟨e,_⟩
   ·rw [q,List.head?_map,h]
    rfl
   ·lia
 | m+1=>by
   rw [xE,List.head?_append,zer h m]
   rfl
theorem zlk {n m:Nat} {y:Nat→Int} {b:Bool} {a c:Int} (n2:2≤n) (n12:n≤12) (hy:∀ i,0≤y i∧y i≤3) (m1:1≤m) (m2:m≤180) (ha : -1≤a∧a≤4) (hc : -1≤c∧c≤4) :
 ∃ out:List Spot,yO [zf (-1,a),.lst ((rowW (pgs n y) b m).map zi),zf (if m%2=1 then 2*(n:Int) - 1 else -1,c)]=.ok (.fresh (out.map zf))∧yB [.lst (out.map zf),.lst ((pgs n y).map zf),zf (-1,a),zf (if m%2=1 then 2*(n:Int) - 1 else -1,c)]=.ok (.pers (.bl true))∧uS [.lst (out.map zf),.lst ((rowW (pgs n y) b m).map zi)]=.ok (.pers (.bl true)):=by
 have pl:=zdi n y
 have pne:pgs n y≠[]:=fun q=>by rw [q] at pl; simp at pl; lia
 have up:=zkP n y
 have bok:BoardOk (bW (pgs n y)):=⟨by unfold bW; rw [List.pairwise_map]; exact up,fun l hl=>by
  unfold bW at hl
  obtain ⟨p,_,rfl⟩:=List.mem_map.mp hl
  simp⟩
 obtain ⟨pth,_⟩:=zep (pgs n y) b m
 have red:=zf4 pne up b m
 have gx:∀ g∈rowW (pgs n y) b m,∃ i:Nat,i<n∧g.x=2*(i:Int)∧∀ z,g.lo=some z∨g.hi=some z→z=y i:=fun g hg=>by
  obtain ⟨p,hp,u,w,rfl⟩:=zbC hg
  obtain ⟨i,hi,rfl⟩:=zjx hp
  exact ⟨i,hi,uG_x _ _ _,fun z hz=>ziB hz⟩
 have rlen:=zbD (pgs n y) b m
 rw [pl] at rlen
 have hmn:m*n≤180*12:=Nat.mul_le_mul m2 n12
 have ex:(if m%2=1 then 2*(n:Int) - 1 else -1) = -1∨(if m%2=1 then 2*(n:Int) - 1 else -1)=2*(n:Int) - 1:=by
  split
  ·exact .inr rfl
  ·exact .inl rfl
 have h0:(pgs n y).head?=some (0,y 0):=by
  rw [List.head?_eq_getElem?,zgj n y (by lia)]
  rfl
 have hL:(pgs n y).getLast?=some (2*((n - 1:Nat):Int),y (n - 1)):=by
  rw [List.getLast?_eq_getElem?,pl,zgj n y (by lia)]
 refine zjO ⟨by unfold Bx; simp only; lia,by unfold Bx; simp only; lia,fun g hg => ?_,⟨(pgs n y).map (·.1),by rw [List.length_map,pl]; lia,fun g hg => ?_⟩,by lia,zbq bok _ 0 pth red,fun g hg => ?_,fun g hg => ?_,⟨-10,fun p hp => ?_⟩⟩ (fun g hg => ?_) (fun rn => ?_) (fun rn => ?_) (fun p hp => ?_)
 ·obtain ⟨i,hi,e,_⟩:=gx g hg
  unfold Bx
  lia
 ·obtain ⟨p,hp,u,w,rfl⟩:=zbC hg
  rw [uG_x]
  exact List.mem_map.mpr ⟨p,hp,rfl⟩
 ·obtain ⟨i,hi,e,_⟩:=gx g hg
  simp only
  lia
 ·obtain ⟨i,hi,e,_⟩:=gx g hg
  simp only
  lia
 ·rcases hp with rfl | rfl | ⟨g,hg,_,k⟩
  ·simp only; lia
  ·simp only; lia
  ·obtain ⟨i,hi,_,e⟩:=gx g hg
   have:=e p.2 k
   have:=hy i
   lia
 ·obtain ⟨h',k⟩:=zez pth hg
  exact ⟨k.ok bok,k.way⟩
 ·obtain ⟨m',rfl⟩:∃ m',m=m'+1:=⟨m - 1,by lia⟩
  have hh:=zer (b:=b) h0 m'
  have e:wP (rowW (pgs n y) b (m'+1))=uG (und b 0) 1 (0,y 0):=by
   unfold wP
   rw [List.headD_eq_head?_getD,hh]
   rfl
  rw [e,uG_w,uG_x]
  simp only
  lia
 ·obtain ⟨m',rfl⟩:∃ m',m=m'+1:=⟨m - 1,by lia⟩
  have hl:=zeq pne b m'
  rcases xF (pgs n y) b m' with ⟨q,p⟩ | ⟨q,p⟩
  ·rw [p,List.getLast?_map,hL] at hl
   have e:zD (rowW (pgs n y) b (m'+1))=uG (und b m') 1 (2*((n - 1:Nat):Int),y (n - 1)):=by
    unfold zD
    rw [List.getLastD_eq_getLast?,hl]
    rfl
   rw [e,uG_w,uG_x,if_pos (by lia)]
   simp only
   lia
  ·rw [p,List.getLast?_map,List.getLast?_reverse,h0] at hl
   have e:zD (rowW (pgs n y) b (m'+1))=uG (und b m') (-1) (0,y 0):=by
    unfold zD
    rw [List.getLastD_eq_getLast?,hl]
    rfl
   rw [e,uG_w,uG_x,if_neg (by lia)]
   simp only
   lia
 ·obtain ⟨g,hg,hx,k⟩:=hp
  obtain ⟨q,hq,u,w,rfl⟩:=zbC hg
  rw [uG_x] at hx
  have:=ziB k
  have:p=q:=Prod.ext hx this
  rw [this]
  exact hq
theorem zh4 (gs:List Gate):gNe (.lst (gs.map zi)) (.lst (gs.map zi))=.ok (.pers (.bl false)):=by
 show (if (shal 4 (.lst (gs.map zi)) || shal 4 (.lst (gs.map zi)))=true then Out.ok (Val.pers (.bl (!eqD (.lst (gs.map zi)) (.lst (gs.map zi))))) else .bad)=_
 rw [zfe 2,Bool.true_or,if_pos rfl,zdF,zbV zi zj5,decide_eq_true rfl]
 rfl
theorem main:∀ ns:List Int,ns.length≤63→runD 9 zbQ [.scr ns]=.ok (.pers (.bl true)):=by
 intro ns hns
 obtain ⟨hs,h6,en⟩:=zfg hns
 obtain ⟨n,y,n2,n12,hy,ep⟩:=zjy h6
 have a4:=xH (hs:=hs) (E:=[.pers (.scr ns),.pers (.lst (hs.map .int)),.pers (.lst ((pgs n y).map zf)),.un,.un,.un,.un,.un,.un]) (t:=1) rfl (i:=4) (j:=4) rfl (by lia)
 have b4:=fun k=>xH (hs:=hs) (E:=[.pers (.scr ns),.pers (.lst (hs.map .int)),.pers (.lst ((pgs n y).map zf)),.pers (.int k),.un,.un,.un,.un,.un]) (t:=1) rfl (i:=4) (j:=4) rfl (by lia)
 have b1:=fun k=>xH (hs:=hs) (E:=[.pers (.scr ns),.pers (.lst (hs.map .int)),.pers (.lst ((pgs n y).map zf)),.pers (.int k),.un,.un,.un,.un,.un]) (t:=1) rfl (i:=1) (j:=1) rfl (by lia)
 generalize hs[4]=u4 at a4 b4
 generalize hs[1]=u1 at b1
 obtain ⟨m,m1,m2,em⟩:∃ m:Nat,1≤m∧m≤180∧zeO [.pers (.scr ns),.pers (.lst (hs.map .int)),.pers (.lst ((pgs n y).map zf)),.pers (.int (1+u4%20)),.un,.un,.un,.un,.un]=.ok (.next [.pers (.scr ns),.pers (.lst (hs.map .int)),.pers (.lst ((pgs n y).map zf)),.pers (.int (m:Int)),.un,.un,.un,.un,.un]):=by
  have c:fTrB (f2 gEq (f2 gMod (f2 gIx (fVar 1) (fC (.int 1))) (fC (.int 16))) (fC (.int 1))) [.pers (.scr ns),.pers (.lst (hs.map .int)),.pers (.lst ((pgs n y).map zf)),.pers (.int (1+u4%20)),.un,.un,.un,.un,.un]=.ok (u1%16 == 1):=by
   refine z9 ?_
   rw [zz (x:=.pers (.int (u1%16))) (y:=.pers (.int 1)) (by
    rw [zz (b1 _) (y:=.pers (.int 16)) rfl]
    exact xo (by lia)) rfl]
   rfl
  cases q:u1%16 == 1 with
  | false =>
    rw [q] at c
    refine ⟨(1+u4%20).toNat,by lia,by lia,?_⟩
    rw [zeO,if_f c,show ((1+u4%20).toNat:Int)=1+u4%20 by lia]
    rfl
  | true =>
    rw [q] at c
    refine ⟨(100+u4%81).toNat,by lia,by lia,?_⟩
    rw [zeO,if_t c,setS,zz (x:=.pers (.int 100)) (y:=.pers (.int (u4%81))) rfl (by
     rw [zz (b4 _) (y:=.pers (.int 81)) rfl]
     exact xo (by lia)),show ((100+u4%81).toNat:Int)=100+u4%81 by lia]
    rfl
 have c2:=xH (hs:=hs) (E:=[.pers (.scr ns),.pers (.lst (hs.map .int)),.pers (.lst ((pgs n y).map zf)),.pers (.int (m:Int)),.un,.un,.un,.un,.un]) (t:=1) rfl (i:=2) (j:=2) rfl (by lia)
 generalize hs[2]=u2 at c2
 obtain ⟨b,eb⟩:∃ b:Bool,f2 gEq (f2 gMod (f2 gDiv (f2 gIx (fVar 1) (fC (.int 2))) (fC (.int 2))) (fC (.int 2))) (fC (.int 1)) [.pers (.scr ns),.pers (.lst (hs.map .int)),.pers (.lst ((pgs n y).map zf)),.pers (.int (m:Int)),.un,.un,.un,.un,.un]=.ok (.pers (.bl b)):=by
  refine ⟨u2 / 2%2 == 1,?_⟩
  rw [zz (x:=.pers (.int (u2 / 2%2))) (y:=.pers (.int 1)) (by
   rw [zz (x:=.pers (.int (u2 / 2))) (y:=.pers (.int 2)) (by
    rw [zz c2 (y:=.pers (.int 2)) rfl]
    exact zg6 (by lia) (by lia)) rfl]
   exact xo (by lia)) rfl]
  rfl
 have d5:=xH (hs:=hs) (E:=[.pers (.scr ns),.pers (.lst (hs.map .int)),.pers (.lst ((pgs n y).map zf)),.pers (.int (m:Int)),.pers (.lst ((rowW (pgs n y) b m).map zi)),.un,.un,.un,.un]) (t:=1) rfl (i:=5) (j:=5) rfl (by lia)
 have e5:=fun a=>xH (hs:=hs) (E:=[.pers (.scr ns),.pers (.lst (hs.map .int)),.pers (.lst ((pgs n y).map zf)),.pers (.int (m:Int)),.pers (.lst ((rowW (pgs n y) b m).map zi)),.pers (zf (-1,a)),.un,.un,.un]) (t:=1) rfl (i:=5) (j:=5) rfl (by lia)
 generalize hs[5]=u5 at d5 e5
 obtain ⟨a,ha,ea⟩:∃ a:Int,(-1≤a∧a≤4)∧a=u5%6 - 1:=⟨_,by lia,rfl⟩
 obtain ⟨c,hc,ecc⟩:∃ c:Int,(-1≤c∧c≤4)∧c=u5 / 6%6 - 1:=⟨_,by lia,rfl⟩
 obtain ⟨out,q1,q2,q3⟩:=zlk (b:=b) n2 n12 hy m1 m2 ha hc
 show ((zbQ [.pers (.scr ns),.un,.un,.un,.un,.un,.un,.un,.un]).bind _)=_
 have hf:zbQ [.pers (.scr ns),.un,.un,.un,.un,.un,.un,.un,.un]=.ok (.ret (.pers (.bl true))):=by
  unfold zbQ
  rw [zj (env':=[.pers (.scr ns),.pers (.lst (hs.map .int)),.un,.un,.un,.un,.un,.un,.un]) (by
   rw [setS]
   show (((wd [.scr ns,.int 6]).bind _).bind _)=_
   rw [en]
   rfl)]
  rw [zj (env':=[.pers (.scr ns),.pers (.lst (hs.map .int)),.pers (.lst ((pgs n y).map zf)),.un,.un,.un,.un,.un,.un]) (by
   rw [setS]
   show (((yP [.lst (hs.map .int)]).bind _).bind _)=_
   rw [ep]
   rfl)]
  rw [zj (env':=[.pers (.scr ns),.pers (.lst (hs.map .int)),.pers (.lst ((pgs n y).map zf)),.pers (.int (1+u4%20)),.un,.un,.un,.un,.un]) (by
   rw [setS,zz (x:=.pers (.int 1)) (y:=.pers (.int (u4%20))) rfl (by
    rw [zz a4 (y:=.pers (.int 20)) rfl]
    exact xo (by lia))]
   rfl),zj em]
  rw [zj (env':=[.pers (.scr ns),.pers (.lst (hs.map .int)),.pers (.lst ((pgs n y).map zf)),.pers (.int (m:Int)),.pers (.lst ((rowW (pgs n y) b m).map zi)),.un,.un,.un,.un]) (by
   have v2:fVar 2 [.pers (.scr ns),.pers (.lst (hs.map .int)),.pers (.lst ((pgs n y).map zf)),.pers (.int (m:Int)),.un,.un,.un,.un,.un]=.ok (.pers (.lst ((pgs n y).map zf))):=rfl
   have v3:fVar 3 [.pers (.scr ns),.pers (.lst (hs.map .int)),.pers (.lst ((pgs n y).map zf)),.pers (.int (m:Int)),.un,.un,.un,.un,.un]=.ok (.pers (.int (m:Int))):=rfl
   rw [setS,zL,zl,v2,zm,zl,v3,zm,zl,eb,zm,fNil]
   show (((uu [.lst ((pgs n y).map zf),.int m,.bl b]).bind _).bind _)=_
   rw [zhD (by rw [zdi]; exact n12) m2]
   rfl)]
  rw [zj (env':=[.pers (.scr ns),.pers (.lst (hs.map .int)),.pers (.lst ((pgs n y).map zf)),.pers (.int (m:Int)),.pers (.lst ((rowW (pgs n y) b m).map zi)),.pers (zf (-1,a)),.un,.un,.un]) (by
   have t:f2 gSub (f2 gMod (f2 gIx (fVar 1) (fC (.int 5))) (fC (.int 6))) (fC (.int 1)) [.pers (.scr ns),.pers (.lst (hs.map .int)),.pers (.lst ((pgs n y).map zf)),.pers (.int (m:Int)),.pers (.lst ((rowW (pgs n y) b m).map zi)),.un,.un,.un,.un]=.ok (.pers (.int a)):=by
    rw [zz (x:=.pers (.int (u5%6))) (y:=.pers (.int 1)) (by
     rw [zz d5 (y:=.pers (.int 6)) rfl]
     exact xo (by lia)) rfl,ea]
    rfl
   have t0:f1 gNeg (fC (.int 1)) [.pers (.scr ns),.pers (.lst (hs.map .int)),.pers (.lst ((pgs n y).map zf)),.pers (.int (m:Int)),.pers (.lst ((rowW (pgs n y) b m).map zi)),.un,.un,.un,.un]=.ok (.pers (.int (-1))):=rfl
   simp only [setS,fTup,zB,hNil,t,t0,zm]
   rfl)]
  rw [zj (env':=[.pers (.scr ns),.pers (.lst (hs.map .int)),.pers (.lst ((pgs n y).map zf)),.pers (.int (m:Int)),.pers (.lst ((rowW (pgs n y) b m).map zi)),.pers (zf (-1,a)),.pers (zf (-1,c)),.un,.un]) (by
   have t:f2 gSub (f2 gMod (f2 gDiv (f2 gIx (fVar 1) (fC (.int 5))) (fC (.int 6))) (fC (.int 6))) (fC (.int 1)) [.pers (.scr ns),.pers (.lst (hs.map .int)),.pers (.lst ((pgs n y).map zf)),.pers (.int (m:Int)),.pers (.lst ((rowW (pgs n y) b m).map zi)),.pers (zf (-1,a)),.un,.un,.un]=.ok (.pers (.int c)):=by
    rw [zz (x:=.pers (.int (u5 / 6%6))) (y:=.pers (.int 1)) (by
     rw [zz (x:=.pers (.int (u5 / 6))) (y:=.pers (.int 6)) (by
      rw [zz (e5 a) (y:=.pers (.int 6)) rfl]
      exact zg6 (by lia) (by lia)) rfl]
     exact xo (by lia)) rfl,ecc]
    rfl
   have t0:f1 gNeg (fC (.int 1)) [.pers (.scr ns),.pers (.lst (hs.map .int)),.pers (.lst ((pgs n y).map zf)),.pers (.int (m:Int)),.pers (.lst ((rowW (pgs n y) b m).map zi)),.pers (zf (-1,a)),.un,.un,.un]=.ok (.pers (.int (-1))):=rfl
   simp only [setS,fTup,zB,hNil,t,t0,zm]
   rfl)]
  rw [zj (env':=[.pers (.scr ns),.pers (.lst (hs.map .int)),.pers (.lst ((pgs n y).map zf)),.pers (.int (m:Int)),.pers (.lst ((rowW (pgs n y) b m).map zi)),.pers (zf (-1,a)),.pers (zf (if m%2=1 then 2*(n:Int) - 1 else -1,c)),.un,.un]) (by
   have ct:fTrB (f2 gEq (f2 gMod (fVar 3) (fC (.int 2))) (fC (.int 1))) [.pers (.scr ns),.pers (.lst (hs.map .int)),.pers (.lst ((pgs n y).map zf)),.pers (.int (m:Int)),.pers (.lst ((rowW (pgs n y) b m).map zi)),.pers (zf (-1,a)),.pers (zf (-1,c)),.un,.un]=.ok ((m:Int)%2 == 1):=by
    refine z9 ?_
    rw [zz (x:=.pers (.int ((m:Int)%2))) (y:=.pers (.int 1)) (by
     rw [zz (x:=.pers (.int (m:Int))) (y:=.pers (.int 2)) rfl rfl]
     exact xo (by lia)) rfl]
    rfl
   by_cases q:m%2=1
   ·have q':((m:Int)%2 == 1)=true:=by rw [beq_iff_eq]; lia
    rw [q'] at ct
    have hl:fB gLen (zl (fVar 2) (fNil)) [.pers (.scr ns),.pers (.lst (hs.map .int)),.pers (.lst ((pgs n y).map zf)),.pers (.int (m:Int)),.pers (.lst ((rowW (pgs n y) b m).map zi)),.pers (zf (-1,a)),.pers (zf (-1,c)),.un,.un]=.ok (.pers (.int (n:Int))):=by
     show Out.ok (Val.pers (.int (((pgs n y).map zf).length:Int)))=_
     rw [List.length_map,zdi]
    have t:f2 gSub (f2 gMul (fC (.int 2)) (fB gLen (zl (fVar 2) (fNil)))) (fC (.int 1)) [.pers (.scr ns),.pers (.lst (hs.map .int)),.pers (.lst ((pgs n y).map zf)),.pers (.int (m:Int)),.pers (.lst ((rowW (pgs n y) b m).map zi)),.pers (zf (-1,a)),.pers (zf (-1,c)),.un,.un]=.ok (.pers (.int (2*(n:Int) - 1))):=by
     rw [zz (x:=.pers (.int (2*(n:Int)))) (y:=.pers (.int 1)) (by
      rw [zz (x:=.pers (.int 2)) rfl hl]
      exact y8 (v8 (by lia) (by lia))) rfl]
     rfl
    have t1:f2 gIx (fVar 6) (fC (.int 1)) [.pers (.scr ns),.pers (.lst (hs.map .int)),.pers (.lst ((pgs n y).map zf)),.pers (.int (m:Int)),.pers (.lst ((rowW (pgs n y) b m).map zi)),.pers (zf (-1,a)),.pers (zf (-1,c)),.un,.un]=.ok (.pers (.int c)):=rfl
    rw [zgS,if_t ct,if_pos q]
    simp only [setS,fTup,zB,hNil,t,t1,zm]
    rfl
   ·have q':((m:Int)%2 == 1)=false:=by rw [beq_eq_false_iff_ne]; lia
    rw [q'] at ct
    rw [zgS,if_f ct,if_neg q]
    rfl)]
  rw [zj (env':=[.pers (.scr ns),.pers (.lst (hs.map .int)),.pers (.lst ((pgs n y).map zf)),.pers (.int (m:Int)),.pers (.lst ((rowW (pgs n y) b m).map zi)),.pers (zf (-1,a)),.pers (zf (if m%2=1 then 2*(n:Int) - 1 else -1,c)),.pers (.lst ((rowW (pgs n y) b m).map zi)),.un]) rfl]
  rw [zj (env':=[.pers (.scr ns),.pers (.lst (hs.map .int)),.pers (.lst ((pgs n y).map zf)),.pers (.int (m:Int)),.pers (.lst ((rowW (pgs n y) b m).map zi)),.pers (zf (-1,a)),.pers (zf (if m%2=1 then 2*(n:Int) - 1 else -1,c)),.pers (.lst ((rowW (pgs n y) b m).map zi)),.pers (.lst (out.map zf))]) (by
   rw [setS]
   show (((yO [zf (-1,a),.lst ((rowW (pgs n y) b m).map zi),zf (if m%2=1 then 2*(n:Int) - 1 else -1,c)]).bind _).bind _)=_
   rw [q1]
   rfl)]
  rw [zj (env':=[.pers (.scr ns),.pers (.lst (hs.map .int)),.pers (.lst ((pgs n y).map zf)),.pers (.int (m:Int)),.pers (.lst ((rowW (pgs n y) b m).map zi)),.pers (zf (-1,a)),.pers (zf (if m%2=1 then 2*(n:Int) - 1 else -1,c)),.pers (.lst ((rowW (pgs n y) b m).map zi)),.pers (.lst (out.map zf))]) (by
   have t1:fNot (fTr (zL yB (zl (fVar 8) (zl (fVar 2) (zl (fVar 5) (zl (fVar 6) (fNil))))))) [.pers (.scr ns),.pers (.lst (hs.map .int)),.pers (.lst ((pgs n y).map zf)),.pers (.int (m:Int)),.pers (.lst ((rowW (pgs n y) b m).map zi)),.pers (zf (-1,a)),.pers (zf (if m%2=1 then 2*(n:Int) - 1 else -1,c)),.pers (.lst ((rowW (pgs n y) b m).map zi)),.pers (.lst (out.map zf))]=.ok false:=by
    show ((((yB [.lst (out.map zf),.lst ((pgs n y).map zf),zf (-1,a),zf (if m%2=1 then 2*(n:Int) - 1 else -1,c)]).bind _).bind _).bind _)=_
    rw [q2]
    rfl
   have cc:fOr (fNot (fTr (zL yB (zl (fVar 8) (zl (fVar 2) (zl (fVar 5) (zl (fVar 6) (fNil)))))))) (fTrB (f2 gNe (fVar 7) (fVar 4))) [.pers (.scr ns),.pers (.lst (hs.map .int)),.pers (.lst ((pgs n y).map zf)),.pers (.int (m:Int)),.pers (.lst ((rowW (pgs n y) b m).map zi)),.pers (zf (-1,a)),.pers (zf (if m%2=1 then 2*(n:Int) - 1 else -1,c)),.pers (.lst ((rowW (pgs n y) b m).map zi)),.pers (.lst (out.map zf))]=.ok false:=by
    rw [or_f t1]
    refine z9 ?_
    rw [zz (x:=.pers (.lst ((rowW (pgs n y) b m).map zi))) (y:=.pers (.lst ((rowW (pgs n y) b m).map zi))) rfl rfl]
    exact zh4 _
   rw [ziX,if_f cc]
   rfl)]
  rw [retS]
  show (((uS [.lst (out.map zf),.lst ((rowW (pgs n y) b m).map zi)]).bind _).bind _)=_
  rw [q3]
  rfl
 rw [hf]
 rfl
end My
namespace My
open PySem PySem.Spec PyProof.Rows L2 DL
noncomputable def top (i:Nat):Stmt:=PySem.Challenge.pw_tautline_k33_wound_round_all_pegs.main.body.getD i (.Pass ⟨0,0,0,0⟩)
noncomputable abbrev vJ:Stmt:=top 15
theorem zaZ:FnScope ["_law_script","_law_many","_law_found","_law_k","_law_cell","_law_at"] ["_law_script","_law_many"] (defScope vJ):=⟨rfl,rfl,rfl,by decide +kernel,rfl,by decide +kernel,by decide +kernel⟩
noncomputable abbrev zbA:Stmt:=top 16
theorem zeh:FnScope ["_law_number","_law_base","_law_place","_law_k"] ["_law_number","_law_base","_law_place"] (defScope zbA):=⟨rfl,rfl,rfl,by decide +kernel,rfl,by decide +kernel,by decide +kernel⟩
noncomputable abbrev xU:Stmt:=top 28
theorem vG:FnScope ["_law_head","_law_many","_law_high"] ["_law_head"] (defScope xU):=⟨rfl,rfl,rfl,by decide +kernel,rfl,by decide +kernel,by decide +kernel⟩
noncomputable abbrev zby:Stmt:=top 29
theorem zef:FnScope ["_law_pegs","_law_times","_law_below","_law_found","_law_k","_law_way","_law_some","_law_x","_law_y"] ["_law_pegs","_law_times","_law_below"] (defScope zby):=⟨rfl,rfl,rfl,by decide +kernel,rfl,by decide +kernel,by decide +kernel⟩
noncomputable abbrev xi:Stmt:=top 11
theorem wJ:FnScope ["pegs","kept","peg"] ["pegs"] (defScope xi):=⟨rfl,rfl,rfl,by decide +kernel,rfl,by decide +kernel,by decide +kernel⟩
noncomputable abbrev xk:Stmt:=top 7
theorem wL:FnScope ["gate","later"] ["gate","later"] (defScope xk):=⟨rfl,rfl,rfl,by decide +kernel,rfl,by decide +kernel,by decide +kernel⟩
noncomputable abbrev yH:Stmt:=top 6
theorem x9:FnScope ["gate","later","x"] ["gate","later"] (defScope yH):=⟨rfl,rfl,rfl,by decide +kernel,rfl,by decide +kernel,by decide +kernel⟩
noncomputable abbrev wv:Stmt:=top 1
theorem uP:FnScope ["board","stretch","start","end"] ["board","stretch"] (defScope wv):=⟨rfl,rfl,rfl,by decide +kernel,rfl,by decide +kernel,by decide +kernel⟩
noncomputable abbrev wu:Stmt:=top 2
theorem uO:FnScope ["stretch","peg","start","end","across","turn"] ["stretch","peg"] (defScope wu):=⟨rfl,rfl,rfl,by decide +kernel,rfl,by decide +kernel,by decide +kernel⟩
noncomputable abbrev yV:Stmt:=top 10
theorem wA:FnScope ["stretch","gate","told","low","high"] ["stretch","gate"] (defScope yV):=⟨rfl,rfl,rfl,by decide +kernel,rfl,by decide +kernel,by decide +kernel⟩
noncomputable abbrev yd:Stmt:=top 9
theorem xw:FnScope ["stretch","run","farthest","most","gate","beyond","peg"] ["stretch","run"] (defScope yd):=⟨rfl,rfl,rfl,by decide +kernel,rfl,by decide +kernel,by decide +kernel⟩
noncomputable abbrev xj:Stmt:=top 8
theorem wK:FnScope ["start","run","goal","reached","goals","peg"] ["start","run","goal"] (defScope xj):=⟨rfl,rfl,rfl,by decide +kernel,rfl,by decide +kernel,by decide +kernel⟩
noncomputable abbrev wt:Stmt:=top 5
theorem uN:FnScope ["start","row","end","spots","run","gate","turn"] ["start","row","end"] (defScope wt):=⟨rfl,rfl,rfl,by decide +kernel,rfl,by decide +kernel,by decide +kernel⟩
noncomputable abbrev yU:Stmt:=top 12
theorem wz:FnScope ["one","middle","other","across","up","next_across","next_up"] ["one","middle","other"] (defScope yU):=⟨rfl,rfl,rfl,by decide +kernel,rfl,by decide +kernel,by decide +kernel⟩
noncomputable abbrev w5:Stmt:=top 4
theorem tU:FnScope ["start","row","end","way","bends"] ["start","row","end"] (defScope w5):=⟨rfl,rfl,rfl,by decide +kernel,rfl,by decide +kernel,by decide +kernel⟩
noncomputable abbrev zbz:Stmt:=top 14
theorem zeg:FnScope ["_law_found"] ["_law_found"] (defScope zbz):=⟨rfl,rfl,rfl,by decide +kernel,rfl,by decide +kernel,by decide +kernel⟩
noncomputable abbrev vK:Stmt:=top 27
theorem za0:FnScope ["_law_found","_law_pegs","_law_start","_law_end","_law_spot","_law_k"] ["_law_found","_law_pegs","_law_start","_law_end"] (defScope vK):=⟨rfl,rfl,rfl,by decide +kernel,rfl,by decide +kernel,by decide +kernel⟩
noncomputable abbrev tj:Stmt:=top 18
theorem zcm:FnScope ["_law_gate","_law_up","_law_wide"] ["_law_gate","_law_up","_law_wide"] (defScope tj):=⟨rfl,rfl,rfl,by decide +kernel,rfl,by decide +kernel,by decide +kernel⟩
noncomputable abbrev vH:Stmt:=top 20
theorem zaX:FnScope ["_law_k","_law_one","_law_other","_law_gate","_law_begin","_law_up"] ["_law_k","_law_one","_law_other","_law_gate","_law_begin"] (defScope vH):=⟨rfl,rfl,rfl,by decide +kernel,rfl,by decide +kernel,by decide +kernel⟩
noncomputable abbrev vL:Stmt:=top 19
theorem za1:FnScope ["_law_one","_law_other","_law_gate","_law_wide","_law_up"] ["_law_one","_law_other","_law_gate"] (defScope vL):=⟨rfl,rfl,rfl,by decide +kernel,rfl,by decide +kernel,by decide +kernel⟩
noncomputable abbrev vI:Stmt:=top 21
theorem zaY:FnScope ["_law_path","_law_k","_law_gate","_law_at","_law_one","_law_other","_law_later"] ["_law_path","_law_k","_law_gate","_law_at"] (defScope vI):=⟨rfl,rfl,rfl,by decide +kernel,rfl,by decide +kernel,by decide +kernel⟩
noncomputable abbrev zek:Stmt:=top 22
theorem zf0:FnScope ["_law_path","_law_gate","_law_at","_law_k","_law_found"] ["_law_path","_law_gate","_law_at"] (defScope zek):=⟨rfl,rfl,rfl,by decide +kernel,rfl,by decide +kernel,by decide +kernel⟩
noncomputable abbrev tm:Stmt:=top 23
theorem zcn:FnScope ["_law_path","_law_row","_law_found","_law_at","_law_gate"] ["_law_path","_law_row"] (defScope tm):=⟨rfl,rfl,rfl,by decide +kernel,rfl,by decide +kernel,by decide +kernel⟩
noncomputable abbrev zel:Stmt:=top 24
theorem zf1:FnScope ["_law_peg","_law_gate"] ["_law_peg","_law_gate"] (defScope zel):=⟨rfl,rfl,rfl,by decide +kernel,rfl,by decide +kernel,by decide +kernel⟩
noncomputable abbrev zei:Stmt:=top 17
theorem zfY:FnScope ["_law_one","_law_two","_law_three","_law_found"] ["_law_one","_law_two","_law_three"] (defScope zei):=⟨rfl,rfl,rfl,by decide +kernel,rfl,by decide +kernel,by decide +kernel⟩
noncomputable abbrev zem:Stmt:=top 25
theorem zf2:FnScope ["_law_one","_law_two","_law_three","_law_gates","_law_hands","_law_bent","_law_right","_law_over"] ["_law_one","_law_two","_law_three","_law_gates"] (defScope zem):=⟨rfl,rfl,rfl,by decide +kernel,rfl,by decide +kernel,by decide +kernel⟩
noncomputable abbrev zej:Stmt:=top 26
theorem zfZ:FnScope ["_law_path","_law_row","_law_places_here","_law_there","_law_gate","_law_place","_law_k"] ["_law_path","_law_row"] (defScope zej):=⟨rfl,rfl,rfl,by decide +kernel,rfl,by decide +kernel,by decide +kernel⟩
noncomputable abbrev zdd:Stmt:=top 30
theorem ziJ:FnScope ["_law_script","_law_head","_law_pegs","_law_times","_law_row","_law_start","_law_end","_law_handed","_law_found"] ["_law_script"] (defScope zdd):=⟨rfl,rfl,rfl,by decide +kernel,rfl,by decide +kernel,by decide +kernel⟩
section
variable (P:Program) (w:World) (K:PySem.W.Frag) (mg:Str→Option Value) (base:Heap) (k:Nat)
noncomputable abbrev zaI:Prop:=Cal P w K mg base k "_law_numbers" ["_law_script","_law_many"] wd
noncomputable abbrev zdZ:Prop:=Cal P w K mg base k "_law_digit" ["_law_number","_law_base","_law_place"] wN
noncomputable abbrev wY:Prop:=Cal P w K mg base k "_law_drawn_pegs" ["_law_head"] yP
noncomputable abbrev zdX:Prop:=Cal P w K mg base k "_law_wound" ["_law_pegs","_law_times","_law_below"] uu
noncomputable abbrev xZ:Prop:=Cal P w K mg base k "unrepeated" ["pegs"] zZ
noncomputable abbrev x5:Prop:=Cal P w K mg base k "lies_below" ["gate","later"] z6
noncomputable abbrev xu:Prop:=Cal P w K mg base k "turning_pegs" ["gate","later"] zT
noncomputable abbrev vC:Prop:=Cal P w K mg base k "crossed" ["board","stretch"] yp
noncomputable abbrev vB:Prop:=Cal P w K mg base k "side_of" ["stretch","peg"] yK
noncomputable abbrev xR:Prop:=Cal P w K mg base k "pegs_beyond" ["stretch","gate"] zR
noncomputable abbrev yM:Prop:=Cal P w K mg base k "farthest_beyond" ["stretch","run"] zN
noncomputable abbrev x4:Prop:=Cal P w K mg base k "run_pulled" ["start","run","goal"] zP
noncomputable abbrev vA:Prop:=Cal P w K mg base k "touched" ["start","row","end"] yo
noncomputable abbrev xQ:Prop:=Cal P w K mg base k "straight_on" ["one","middle","other"] zV
noncomputable abbrev uL:Prop:=Cal P w K mg base k "pulled" ["start","row","end"] yO
noncomputable abbrev zdY:Prop:=Cal P w K mg base k "_law_whole" ["_law_found"] zbK
noncomputable abbrev zaJ:Prop:=Cal P w K mg base k "_law_is_path" ["_law_found","_law_pegs","_law_start","_law_end"] yB
noncomputable abbrev uh:Prop:=Cal P w K mg base k "_law_within" ["_law_gate","_law_up","_law_wide"] zU
noncomputable abbrev zaG:Prop:=Cal P w K mg base k "_law_upright" ["_law_k","_law_one","_law_other","_law_gate","_law_begin"] wc
noncomputable abbrev zaK:Prop:=Cal P w K mg base k "_law_crossed" ["_law_one","_law_other","_law_gate"] yq
noncomputable abbrev zaH:Prop:=Cal P w K mg base k "_law_on_edge" ["_law_path","_law_k","_law_gate","_law_at"] yh
noncomputable abbrev zhA:Prop:=Cal P w K mg base k "_law_next" ["_law_path","_law_gate","_law_at"] t9
noncomputable abbrev zca:Prop:=Cal P w K mg base k "_law_places" ["_law_path","_law_row"] w6
noncomputable abbrev zhB:Prop:=Cal P w K mg base k "_law_hand" ["_law_peg","_law_gate"] za7
noncomputable abbrev zhy:Prop:=Cal P w K mg base k "_law_turn" ["_law_one","_law_two","_law_three"] za6
noncomputable abbrev zhC:Prop:=Cal P w K mg base k "_law_bend" ["_law_one","_law_two","_law_three","_law_gates"] za8
noncomputable abbrev zhz:Prop:=Cal P w K mg base k "_law_taut" ["_law_path","_law_row"] uS
end
section
variable {P:Program} {w:World} {K:PySem.W.Frag} {mg:Str→Option Value} {base:Heap} {k:Nat} {f:Addr} {fd:FuncData}
theorem zdO (F:Fun K "_law_numbers" "_law_numbers" vJ f fd) (hm:mg "_law_numbers" = some (.ref f))  (b_range:mg "range" = none) (b_len:mg "len" = none) (b_min:mg "min" = none) (b_max:mg "max" = none):zaI P w K mg base (k+1):=by
 have nd:=(zaZ).nd
 exact Cal.imp (m:=runD 6 wS) ⟨f,fd,y0 (N:=["_law_script","_law_many","_law_found","_law_k","_law_cell","_law_at"]) F zaZ fun cdv A outer s G H E hr =>
  zk ((by first | exact zdJ (i:=2) false nd (cap:=[]) (own:=["_law_k"]) ⟨rfl,by decide +kernel,by decide +kernel,rfl,rfl⟩ (wm b_range (zn (zd (pv 1)) (zC))) (fun _ _ _=>yf (i:=0) (show (["_law_k"]:List Str).Nodup from by decide +kernel)) (yY 0) (fun _ _ _=>uD) (fun _ _ _=>zh) | exact zA (i:=2) false nd (wV (cap:=[]) (own:=["_law_k"]) ⟨rfl,by decide +kernel,by decide +kernel,rfl,rfl⟩ (wm b_range (zn (zd (pv 1)) (zC))) (fun _ _ _=>yf (i:=0) (show (["_law_k"]:List Str).Nodup from by decide +kernel)) (yY 0) (fun _ _ _=>uD) (fun _ _ _=>zh))))
  (zk (wD PassesOwn.never (wm b_range (zn (zY (zcW rfl) zhi b_max boot_max (zn (zd (pv 1)) (zn (zY (zaB rfl) zdL b_min boot_min (zn (zY zO wo b_len PySem.boot_len (zn (zd (pv 0)) (zC))) (zn (zh) (zC)))) (zC)))) (zC))) (yf (i:=3) nd)
  (zk (zA (i:=4) true nd (zh))
  (zk (z7 (zdI (zY zO wo b_len PySem.boot_len (zn (zd (pv 0)) (zC))) (zh))
  (zu (zA (i:=4) true nd (yX (zv (zd (pv 0)) (yX (zd (pv 3)) (zY (zaB rfl) zdL b_min boot_min (zn (zY zO wo b_len PySem.boot_len (zn (zd (pv 0)) (zC))) (zn (zh) (zC)))))) (yR (zi1 (zh) (zh)) (zh)))))
  (zE))
  (zk (zA (i:=5) true nd (yX (zd (pv 3)) (zd (pv 1))))
  (zu (zlD (pv 2) (zd (pv 5)) (yX (yR (yR (yk (zv (zd (pv 2)) (zd (pv 5))) (zh)) (zd (pv 4))) (yk (zd (pv 3)) (zd (pv 3)))) (yR (zi1 (zh) (zh)) (zh)))))))))
  (zu (zG (zd (pv 2))))),hm,F.kp,F.binds (ps:=["_law_script","_law_many"]) fun _ _ _ _ _ _ us hl=>match us,hl with | [_,_],_=>rfl⟩ zcx
theorem zho (F:Fun K "_law_digit" "_law_digit" zbA f fd) (hm:mg "_law_digit" = some (.ref f))  (b_range:mg "range" = none):zdZ P w K mg base (k+1):=by
 have nd:=(zeh).nd
 exact Cal.imp (m:=runD 4 zaq) ⟨f,fd,y0 (N:=["_law_number","_law_base","_law_place","_law_k"]) F zeh fun cdv A outer s G H E hr =>
  zk (wD PassesOwn.never (wm b_range (zn (zd (pv 2)) (zC))) (yf (i:=3) nd)
  (zu (zA (i:=0) true nd (zha (zd (pv 0)) (zd (pv 1))))))
  (zu (zG (yX (zd (pv 0)) (zd (pv 1))))),hm,F.kp,F.binds (ps:=["_law_number","_law_base","_law_place"]) fun _ _ _ _ _ _ us hl=>match us,hl with | [_,_,_],_=>rfl⟩ zfj
theorem zaR (F:Fun K "_law_drawn_pegs" "_law_drawn_pegs" xU f fd) (hm:mg "_law_drawn_pegs" = some (.ref f)) (c_digit:zdZ P w K mg base k) (b_range:mg "range" = none):wY P w K mg base (k+1):=by
 have nd:=(vG).nd
 exact Cal.imp (m:=runD 3 xq) ⟨f,fd,y0 (N:=["_law_head","_law_many","_law_high"]) F vG fun cdv A outer s G H E hr =>
  zk (zA (i:=1) true nd (yR (zh) (yX (zv (zd (pv 0)) (zh)) (zh))))
  (zk (z7 (vm (hu20 hr) (yX (zv (zd (pv 0)) (zh)) (zh)) (zh))
  (zu (zA (i:=1) true nd (yR (zh) (yX (zv (zd (pv 0)) (zh)) (zh)))))
  (zE))
  (zk (zA (i:=2) true nd (zv (yF (zw (zh) (zw (zh) (zM)))) (yX (zv (zd (pv 0)) (zh)) (zh))))
  (zu (zG (wV (cap:=[0,2]) (own:=["_law_k"]) ⟨rfl,by decide +kernel,by decide +kernel,rfl,rfl⟩ (wm b_range (zn (zd (pv 1)) (zC))) (fun _ _ _=>yf (i:=2) (show (["_law_head","_law_high","_law_k"]:List Str).Nodup from by decide +kernel)) (yY 2) (fun _ _ _=>uD) (fun _ _ _=>yx (zw (yk (zh) (zd (pv 2))) (zw (yX (zS c_digit hr (zn (zv (zd (pv 0)) (zh)) (zn (zh) (zn (zd (pv 2)) (zC)))) (zo (zo (zo (zI))))) (zd (pv 1))) (zM))))))))),hm,F.kp,F.binds (ps:=["_law_head"]) fun _ _ _ _ _ _ us hl=>match us,hl with | [_],_=>rfl⟩ t3
theorem zhm (F:Fun K "_law_wound" "_law_wound" zby f fd) (hm:mg "_law_wound" = some (.ref f))  (b_range:mg "range" = none):zdX P w K mg base (k+1):=by
 have nd:=(zef).nd
 exact Cal.imp (m:=runD 9 zap) ⟨f,fd,y0 (N:=["_law_pegs","_law_times","_law_below","_law_found","_law_k","_law_way","_law_some","_law_x","_law_y"]) F zef fun cdv A outer s G H E hr =>
  zk (zA (i:=3) true nd (yF (zM)))
  (zk (wD PassesOwn.never (wm b_range (zn (zd (pv 1)) (zC))) (yf (i:=4) nd)
  (zk (zA (i:=5) true nd (zQ (zh) (yk (zh) (yX (zd (pv 4)) (zh)))))
  (zk (zA (i:=6) false nd (yF (zM)))
  (zk (wD PassesOwn.never (xt (zd (pv 0))) (zeS rfl (xl (i:=7) nd (xl (i:=8) nd (zbW))))
  (zu (z7 (vm (hu20 hr) (zfv (hu20 hr) (yX (zd (pv 4)) (zh)) (zh)) (zd (pv 2)))
  (zu (yW (pv 6) (yx (zw (zd (pv 7)) (zw (yQ) (zw (zd (pv 8)) (zw (zd (pv 5)) (zM))))))))
  (zu (yW (pv 6) (yx (zw (zd (pv 7)) (zw (zd (pv 8)) (zw (yQ) (zw (zd (pv 5)) (zM)))))))))))
  (zk (z7 (vm (hu20 hr) (zd (pv 5)) (xO (zh)))
  (zu (zft (pv 6)))
  (zE))
  (zu (zA (i:=3) true nd (yR (zd (pv 3)) (zd (pv 6))))))))))
  (zu (zG (zd (pv 3))))),hm,F.kp,F.binds (ps:=["_law_pegs","_law_times","_law_below"]) fun _ _ _ _ _ _ us hl=>match us,hl with | [_,_,_],_=>rfl⟩ zfh
theorem uZ (F:Fun K "unrepeated" "unrepeated" xi f fd) (hm:mg "unrepeated" = some (.ref f))   : xZ P w K mg base (k+1):=by
 have nd:=(wJ).nd
 exact Cal.imp (m:=runD 3 yC) ⟨f,fd,y0 (N:=["pegs","kept","peg"]) F wJ fun cdv A outer s G H E hr =>
  zk (zA (i:=1) false nd (yF (zM)))
  (zk (wD PassesOwn.never (xt (zd (pv 0))) (yf (i:=2) nd)
  (zu (z7 (dt_w (vX (vY (xN (zd (pv 1)))) (wU (zav (hu20 hr) (zv (zd (pv 1)) (xO (zh))) (zd (pv 2))))))
  (zu (yW (pv 1) (zd (pv 2))))
  (zE))))
  (zu (zG (zd (pv 1))))),hm,F.kp,F.binds (ps:=["pegs"]) fun _ _ _ _ _ _ us hl=>match us,hl with | [_],_=>rfl⟩ uq
theorem u8 (F:Fun K "lies_below" "lies_below" xk f fd) (hm:mg "lies_below" = some (.ref f))   : x5 P w K mg base (k+1):=by
 have nd:=(wL).nd
 exact Cal.imp (m:=runD 2 yE) ⟨f,fd,y0 (N:=["gate","later"]) F wL fun cdv A outer s G H E hr =>
  zu (zG (zcU (zg8 (zv (zd (pv 0)) (zh)) (yQ)) (zcU (zg8 (zv (zd (pv 1)) (zh)) (yQ)) (zaz (zlH (zv (zd (pv 0)) (zh)) (zv (zd (pv 1)) (zh))))))),hm,F.kp,F.binds (ps:=["gate","later"]) fun _ _ _ _ _ _ us hl=>match us,hl with | [_,_],_=>rfl⟩ ut
theorem v7 (F:Fun K "turning_pegs" "turning_pegs" yH f fd) (hm:mg "turning_pegs" = some (.ref f)) (c_p_lies_below:x5 P w K mg base k)  : xu P w K mg base (k+1):=by
 have nd:=(x9).nd
 exact Cal.imp (m:=runD 3 yi) ⟨f,fd,y0 (N:=["gate","later","x"]) F x9 fun cdv A outer s G H E hr =>
  zk (zA (i:=2) true nd (zv (zd (pv 0)) (zh)))
  (zk (z7 (xN (zS c_p_lies_below hr (zn (zd (pv 0)) (zn (zd (pv 1)) (zC))) (zo (zo (zI)))))
  (zu (zG (yx (zw (yx (zw (zd (pv 2)) (zw (zv (zd (pv 0)) (zh)) (zM)))) (zw (yx (zw (zd (pv 2)) (zw (zv (zd (pv 1)) (zh)) (zM)))) (zM))))))
  (zE))
  (zu (zG (yx (zw (yx (zw (zd (pv 2)) (zw (zv (zd (pv 0)) (zh)) (zM)))) (zw (yx (zw (zd (pv 2)) (zw (zv (zd (pv 1)) (zh)) (zM)))) (zM))))))),hm,F.kp,F.binds (ps:=["gate","later"]) fun _ _ _ _ _ _ us hl=>match us,hl with | [_,_],_=>rfl⟩ vy
theorem zb2 (F:Fun K "crossed" "crossed" wv f fd) (hm:mg "crossed" = some (.ref f))  (b_reversed:mg "reversed" = none):vC P w K mg base (k+1):=by
 have nd:=(uP).nd
 exact Cal.imp (m:=runD 4 xg) ⟨f,fd,y0 (N:=["board","stretch","start","end"]) F uP fun cdv A outer s G H E hr =>
  zk (zA (i:=2) true nd (zv (zv (zd (pv 1)) (zh)) (zh)))
  (zk (zA (i:=3) true nd (zv (zv (zd (pv 1)) (zh)) (zh)))
  (zk (z7 (zdH (zd (pv 2)) (zd (pv 3)))
  (zu (zG (wV (cap:=[2,3]) (own:=["line"]) ⟨rfl,by decide +kernel,by decide +kernel,rfl,rfl⟩ (xt (zd (pv 0))) (fun _ _ _=>yf (i:=2) (show (["start","end","line"]:List Str).Nodup from by decide +kernel)) (yY 2) (fun _ _ _=>zau (zg3 (zd (pv 0)) (zv (zd (pv 2)) (zh)) (zd (pv 1)))) (fun _ _ _=>zd (pv 2)))))
  (zE))
  (zu (zG (wV (cap:=[3,2]) (own:=["line"]) ⟨rfl,by decide +kernel,by decide +kernel,rfl,rfl⟩ (zlF b_reversed (zd (pv 0))) (fun _ _ _=>yf (i:=2) (show (["end","start","line"]:List Str).Nodup from by decide +kernel)) (yY 2) (fun _ _ _=>zau (zg3 (zd (pv 0)) (zv (zd (pv 2)) (zh)) (zd (pv 1)))) (fun _ _ _=>zd (pv 2))))))),hm,F.kp,F.binds (ps:=["board","stretch"]) fun _ _ _ _ _ _ us hl=>match us,hl with | [_,_],_=>rfl⟩ zaO
theorem zb1 (F:Fun K "side_of" "side_of" wu f fd) (hm:mg "side_of" = some (.ref f))   : vB P w K mg base (k+1):=by
 have nd:=(uO).nd
 exact Cal.imp (m:=runD 6 xf) ⟨f,fd,y0 (N:=["stretch","peg","start","end","across","turn"]) F uO fun cdv A outer s G H E hr =>
  zk (zA (i:=2) true nd (zv (zd (pv 0)) (zh)))
  (zk (zA (i:=3) true nd (zv (zd (pv 0)) (zh)))
  (zk (zA (i:=4) true nd (zQ (zv (zd (pv 3)) (zh)) (zv (zd (pv 2)) (zh))))
  (zk (zA (i:=5) true nd (zQ (yk (zd (pv 4)) (zQ (zv (zd (pv 1)) (zh)) (zv (zd (pv 2)) (zh)))) (yk (zQ (zv (zd (pv 3)) (zh)) (zv (zd (pv 2)) (zh))) (zQ (zv (zd (pv 1)) (zh)) (zv (zd (pv 2)) (zh))))))
  (zu (zG (de_if (zdI (zd (pv 4)) (zh)) (zd (pv 5)) (xO (zd (pv 5))))))))),hm,F.kp,F.binds (ps:=["stretch","peg"]) fun _ _ _ _ _ _ us hl=>match us,hl with | [_,_],_=>rfl⟩ zaN
theorem uK (F:Fun K "pegs_beyond" "pegs_beyond" yV f fd) (hm:mg "pegs_beyond" = some (.ref f)) (c_p_side_of:vB P w K mg base k)  : xR P w K mg base (k+1):=by
 have nd:=(wA).nd
 exact Cal.imp (m:=runD 5 yt) ⟨f,fd,y0 (N:=["stretch","gate","told","low","high"]) F wA fun cdv A outer s G H E hr =>
  zk (zA (i:=2) false nd (yF (zM)))
  (zk (z7 (uE (zv (zd (pv 1)) (zh)) (yQ))
  (zk (zA (i:=3) true nd (yx (zw (zv (zd (pv 1)) (zh)) (zw (zv (zd (pv 1)) (zh)) (zM)))))
  (zu (yW (pv 2) (yx (zw (zS c_p_side_of hr (zn (zd (pv 0)) (zn (zd (pv 3)) (zC))) (zo (zo (zI)))) (zw (zd (pv 3)) (zM)))))))
  (zE))
  (zk (z7 (uE (zv (zd (pv 1)) (zh)) (yQ))
  (zk (zA (i:=4) true nd (yx (zw (zv (zd (pv 1)) (zh)) (zw (zv (zd (pv 1)) (zh)) (zM)))))
  (zu (yW (pv 2) (yx (zw (xO (zS c_p_side_of hr (zn (zd (pv 0)) (zn (zd (pv 4)) (zC))) (zo (zo (zI))))) (zw (zd (pv 4)) (zM)))))))
  (zE))
  (zu (zG (zd (pv 2)))))),hm,F.kp,F.binds (ps:=["stretch","gate"]) fun _ _ _ _ _ _ us hl=>match us,hl with | [_,_],_=>rfl⟩ vT
theorem wW (F:Fun K "farthest_beyond" "farthest_beyond" yd f fd) (hm:mg "farthest_beyond" = some (.ref f)) (c_p_crossed:vC P w K mg base k) (c_p_pegs_beyond:xR P w K mg base k)  : yM P w K mg base (k+1):=by
 have nd:=(xw).nd
 exact Cal.imp (m:=runD 7 zW) ⟨f,fd,y0 (N:=["stretch","run","farthest","most","gate","beyond","peg"]) F xw fun cdv A outer s G H E hr =>
  zk (zA (i:=2) true nd (yQ))
  (zk (zA (i:=3) true nd (zh))
  (zk (wD PassesOwn.never (xt (zS c_p_crossed hr (zn (zd (pv 1)) (zn (zd (pv 0)) (zC))) (zo (zo (zI))))) (yf (i:=4) nd)
  (zu (wD PassesOwn.never (xt (zS c_p_pegs_beyond hr (zn (zd (pv 0)) (zn (zd (pv 4)) (zC))) (zo (zo (zI))))) (zeS rfl (xl (i:=5) nd (xl (i:=6) nd (zbW))))
  (zu (z7 (zdI (zd (pv 5)) (zd (pv 3)))
  (zk (zA (i:=2) true nd (zd (pv 6)))
  (zu (zA (i:=3) true nd (zd (pv 5)))))
  (zE))))))
  (zu (zG (zd (pv 2)))))),hm,F.kp,F.binds (ps:=["stretch","run"]) fun _ _ _ _ _ _ us hl=>match us,hl with | [_,_],_=>rfl⟩ wF
theorem u7 (F:Fun K "run_pulled" "run_pulled" xj f fd) (hm:mg "run_pulled" = some (.ref f)) (c_p_farthest_beyond:yM P w K mg base k)  : x4 P w K mg base (k+1):=by
 have nd:=(wK).nd
 exact Cal.imp (m:=runD 6 yD) ⟨f,fd,y0 (N:=["start","run","goal","reached","goals","peg"]) F wK fun cdv A outer s G H E hr =>
  zk (zA (i:=3) false nd (yF (zw (zd (pv 0)) (zM))))
  (zk (zA (i:=4) false nd (yF (zw (zd (pv 2)) (zM))))
  (zk (zii 100 PassesOwn.never (xN (zd (pv 4)))
  (zk (zA (i:=5) true nd (zS c_p_farthest_beyond hr (zn (yx (zw (zv (zd (pv 3)) (xO (zh))) (zw (zv (zd (pv 4)) (xO (zh))) (zM)))) (zn (zd (pv 1)) (zC))) (zo (zo (zI)))))
  (zu (z7 (zg2 (zd (pv 5)) (yQ))
  (zu (zg5 (pv 3) (pv 4)))
  (zu (yW (pv 4) (zd (pv 5))))))))
  (zu (zG (zdK (zd (pv 3)) (ww (zh)) (zaw)))))),hm,F.kp,F.binds (ps:=["start","run","goal"]) fun _ _ _ _ _ _ us hl=>match us,hl with | [_,_,_],_=>rfl⟩ ur
theorem zb0 (F:Fun K "touched" "touched" wt f fd) (hm:mg "touched" = some (.ref f)) (c_p_turning_pegs:xu P w K mg base k) (c_p_run_pulled:x4 P w K mg base k)  : vA P w K mg base (k+1):=by
 have nd:=(uN).nd
 exact Cal.imp (m:=runD 7 xJ) ⟨f,fd,y0 (N:=["start","row","end","spots","run","gate","turn"]) F uN fun cdv A outer s G H E hr =>
  zk (zA (i:=3) false nd (yF (zw (zd (pv 0)) (zM))))
  (zk (zA (i:=4) false nd (yF (zM)))
  (zk (wD PassesOwn.never (xt (zd (pv 1))) (yf (i:=5) nd)
  (zk (z7 (dt_w (zat (xN (zd (pv 4))) (vz (zav (hu20 hr) (zv (zv (zd (pv 4)) (xO (zh))) (zh)) (zv (zd (pv 5)) (zh))))))
  (zk (zA (i:=6) true nd (zS c_p_turning_pegs hr (zn (zv (zd (pv 4)) (xO (zh))) (zn (zd (pv 5)) (zC))) (zo (zo (zI)))))
  (zk (zcS (pv 3) (zS c_p_run_pulled hr (zn (zv (zd (pv 3)) (xO (zh))) (zn (zd (pv 4)) (zn (zv (zd (pv 6)) (zh)) (zC)))) (zo (zo (zo (zI))))))
  (zk (yW (pv 3) (zv (zd (pv 6)) (zh)))
  (zu (zA (i:=4) false nd (yF (zM)))))))
  (zE))
  (zu (yW (pv 4) (zd (pv 5))))))
  (zk (zcS (pv 3) (zS c_p_run_pulled hr (zn (zv (zd (pv 3)) (xO (zh))) (zn (zd (pv 4)) (zn (zd (pv 2)) (zC)))) (zo (zo (zo (zI))))))
  (zu (zG (zdK (zd (pv 3)) (ww (zh)) (ww (xO (zh))))))))),hm,F.kp,F.binds (ps:=["start","row","end"]) fun _ _ _ _ _ _ us hl=>match us,hl with | [_,_,_],_=>rfl⟩ zaM
theorem uJ (F:Fun K "straight_on" "straight_on" yU f fd) (hm:mg "straight_on" = some (.ref f))   : xQ P w K mg base (k+1):=by
 have nd:=(wz).nd
 exact Cal.imp (m:=runD 7 yr) ⟨f,fd,y0 (N:=["one","middle","other","across","up","next_across","next_up"]) F wz fun cdv A outer s G H E hr =>
  zk (zA (i:=3) true nd (zQ (zv (zd (pv 1)) (zh)) (zv (zd (pv 0)) (zh))))
  (zk (zA (i:=4) true nd (zQ (zv (zd (pv 1)) (zh)) (zv (zd (pv 0)) (zh))))
  (zk (zA (i:=5) true nd (zQ (zv (zd (pv 2)) (zh)) (zv (zd (pv 1)) (zh))))
  (zk (zA (i:=6) true nd (zQ (zv (zd (pv 2)) (zh)) (zv (zd (pv 1)) (zh))))
  (zu (zG (zcU (zfv (hu20 hr) (yk (zd (pv 3)) (zd (pv 6))) (yk (zd (pv 4)) (zd (pv 5)))) (zaz (zg9 (yR (yk (zd (pv 3)) (zd (pv 5))) (yk (zd (pv 4)) (zd (pv 6)))) (zh))))))))),hm,F.kp,F.binds (ps:=["one","middle","other"]) fun _ _ _ _ _ _ us hl=>match us,hl with | [_,_,_],_=>rfl⟩ vS
theorem zcY (F:Fun K "pulled" "pulled" w5 f fd) (hm:mg "pulled" = some (.ref f)) (c_p_unrepeated:xZ P w K mg base k) (c_p_touched:vA P w K mg base k) (c_p_straight_on:xQ P w K mg base k) (b_zip:mg "zip" = none):uL P w K mg base (k+1):=by
 have nd:=(tU).nd
 exact Cal.imp (m:=runD 5 wl) ⟨f,fd,y0 (N:=["start","row","end","way","bends"]) F tU fun cdv A outer s G H E hr =>
  zk (zA (i:=3) true nd (yR (yR (yF (zw (zd (pv 0)) (zM))) (zS c_p_unrepeated hr (zn (zS c_p_touched hr (zn (zd (pv 0)) (zn (zd (pv 1)) (zn (zd (pv 2)) (zC)))) (zo (zo (zo (zI))))) (zC)) (zo (zI)))) (yF (zw (zd (pv 2)) (zM)))))
  (zk ((by first | exact zdJ (i:=4) true nd (cap:=[]) (own:=["one","middle","other"]) ⟨rfl,by decide +kernel,by decide +kernel,rfl,rfl⟩ (zg7 b_zip (zd (pv 3)) (zdK (zd (pv 3)) (ww (zh)) (zaw)) (zdK (zd (pv 3)) (ww (zh)) (zaw))) (fun _ _ _=>zeS rfl (xl (i:=0) (show (["one","middle","other"]:List Str).Nodup from by decide +kernel) (xl (i:=1) (show (["one","middle","other"]:List Str).Nodup from by decide +kernel) (xl (i:=2) (show (["one","middle","other"]:List Str).Nodup from by decide +kernel) (zbW))))) (zeY [0,1,2]) (fun _ _ _=>zau (vY (xN (zS c_p_straight_on hr (zn (zd (pv 0)) (zn (zd (pv 1)) (zn (zd (pv 2)) (zC)))) (zo (zo (zo (zI)))))))) (fun _ _ _=>zd (pv 1)) | exact zA (i:=4) true nd (wV (cap:=[]) (own:=["one","middle","other"]) ⟨rfl,by decide +kernel,by decide +kernel,rfl,rfl⟩ (zg7 b_zip (zd (pv 3)) (zdK (zd (pv 3)) (ww (zh)) (zaw)) (zdK (zd (pv 3)) (ww (zh)) (zaw))) (fun _ _ _=>zeS rfl (xl (i:=0) (show (["one","middle","other"]:List Str).Nodup from by decide +kernel) (xl (i:=1) (show (["one","middle","other"]:List Str).Nodup from by decide +kernel) (xl (i:=2) (show (["one","middle","other"]:List Str).Nodup from by decide +kernel) (zbW))))) (zeY [0,1,2]) (fun _ _ _=>zau (vY (xN (zS c_p_straight_on hr (zn (zd (pv 0)) (zn (zd (pv 1)) (zn (zd (pv 2)) (zC)))) (zo (zo (zo (zI)))))))) (fun _ _ _=>zd (pv 1)))))
  (zu (zG (yR (yR (yF (zw (zd (pv 0)) (zM))) (zd (pv 4))) (yF (zw (zd (pv 2)) (zM))))))),hm,F.kp,F.binds (ps:=["start","row","end"]) fun _ _ _ _ _ _ us hl=>match us,hl with | [_,_,_],_=>rfl⟩ zbJ
theorem zhn (F:Fun K "_law_whole" "_law_whole" zbz f fd) (hm:mg "_law_whole" = some (.ref f))  (b_isinstance:mg "isinstance" = none) (b_int:mg "int" = none) (b_bool:mg "bool" = none):zdY P w K mg base (k+1):=by
 have nd:=(zeg).nd
 exact Cal.imp (m:=runD 1 zdE) ⟨f,fd,y0 (N:=["_law_found"]) F zeg fun cdv A outer s G H E hr =>
  zu (zG (zcU (zeT zjW (zd (pv 0)) b_isinstance b_int boot_int) (zaz (zlG (zeT zib (zd (pv 0)) b_isinstance b_bool boot_bool))))),hm,F.kp,F.binds (ps:=["_law_found"]) fun _ _ _ _ _ _ us hl=>match us,hl with | [_],_=>rfl⟩ zfi
theorem zdP (F:Fun K "_law_is_path" "_law_is_path" vK f fd) (hm:mg "_law_is_path" = some (.ref f)) (c_whole:zdY P w K mg base k) (b_isinstance:mg "isinstance" = none) (b_list:mg "list" = none) (b_len:mg "len" = none) (b_tuple:mg "tuple" = none) (b_range:mg "range" = none):zaJ P w K mg base (k+1):=by
 have nd:=(za0).nd
 exact Cal.imp (m:=runD 6 wT) ⟨f,fd,y0 (N:=["_law_found","_law_pegs","_law_start","_law_end","_law_spot","_law_k"]) F za0 fun cdv A outer s G H E hr =>
  zk (z7 (dt_w (vX (vY (xN (zeT zia (zd (pv 0)) b_isinstance b_list boot_list))) (wU (zdH (zY zO wo b_len PySem.boot_len (zn (zd (pv 0)) (zC))) (zh)))))
  (zu (zG (uF)))
  (zE))
  (zk (wD PassesOwn.never (xt (zd (pv 0))) (yf (i:=4) nd)
  (zu (z7 (dt_w (vX (vY (xN (zeT zgN (zd (pv 4)) b_isinstance b_tuple boot_tuple))) (vX (zav (hu20 hr) (zY zO wo b_len PySem.boot_len (zn (zd (pv 4)) (zC))) (zh)) (vX (vY (xN (zS c_whole hr (zn (zv (zd (pv 4)) (zh)) (zC)) (zo (zI))))) (wU (vY (xN (zS c_whole hr (zn (zv (zd (pv 4)) (zh)) (zC)) (zo (zI))))))))))
  (zu (zG (uF)))
  (zE))))
  (zk (wD PassesOwn.never (zax b_range (zn (zh) (zn (zY zO wo b_len PySem.boot_len (zn (zd (pv 0)) (zC))) (zC)))) (yf (i:=5) nd)
  (zu (z7 (dt_w (zat (vm (hu20 hr) (zv (zd (pv 0)) (zd (pv 5))) (zv (zd (pv 0)) (zQ (zd (pv 5)) (zh)))) (vz (zdI (zY zO wo b_len PySem.boot_len (zn (zd (pv 0)) (zC))) (zh)))))
  (zu (zG (uF)))
  (zE))))
  (zk (z7 (dt_w (vX (zav (hu20 hr) (zv (zd (pv 0)) (zh)) (zd (pv 2))) (wU (zav (hu20 hr) (zv (zd (pv 0)) (xO (zh))) (zd (pv 3))))))
  (zu (zG (uF)))
  (zE))
  (zu (zG (zfv (hu20 hr) (wV (cap:=[1]) (own:=["_law_spot"]) ⟨rfl,by decide +kernel,by decide +kernel,rfl,rfl⟩ (xt (zdK (zd (pv 0)) (ww (zh)) (ww (xO (zh))))) (fun _ _ _=>yf (i:=1) (show (["_law_pegs","_law_spot"]:List Str).Nodup from by decide +kernel)) (yY 1) (fun _ _ _=>zau (zlA (hu20 hr) (zd (pv 1)) (zd (pv 0)))) (fun _ _ _=>zd (pv 1))) (yF (zM)))))))),hm,F.kp,F.binds (ps:=["_law_found","_law_pegs","_law_start","_law_end"]) fun _ _ _ _ _ _ us hl=>match us,hl with | [_,_,_,_],_=>rfl⟩ zcy
theorem zfx (F:Fun K "_law_within" "_law_within" tj f fd) (hm:mg "_law_within" = some (.ref f))   : uh P w K mg base (k+1):=by
 have nd:=(zcm).nd
 exact Cal.imp (m:=runD 3 vb) ⟨f,fd,y0 (N:=["_law_gate","_law_up","_law_wide"]) F zcm fun cdv A outer s G H E hr =>
  zk (z7 (dt_w (zat (uE (zv (zd (pv 0)) (zh)) (yQ)) (vz (zdH (zd (pv 1)) (yk (zv (zd (pv 0)) (zh)) (zd (pv 2)))))))
  (zu (zG (uF)))
  (zE))
  (zu (zG (zkb (zlI (zv (zd (pv 0)) (zh)) (yQ)) (zaz (zlH (zd (pv 1)) (yk (zv (zd (pv 0)) (zh)) (zd (pv 2)))))))),hm,F.kp,F.binds (ps:=["_law_gate","_law_up","_law_wide"]) fun _ _ _ _ _ _ us hl=>match us,hl with | [_,_,_],_=>rfl⟩ zdm
theorem zdM (F:Fun K "_law_upright" "_law_upright" vH f fd) (hm:mg "_law_upright" = some (.ref f)) (c_within:uh P w K mg base k) (b_max:mg "max" = none) (b_min:mg "min" = none):zaG P w K mg base (k+1):=by
 have nd:=(zaX).nd
 exact Cal.imp (m:=runD 6 wk) ⟨f,fd,y0 (N:=["_law_k","_law_one","_law_other","_law_gate","_law_begin","_law_up"]) F zaX fun cdv A outer s G H E hr =>
  zk (z7 (dt_w (vX (zav (hu20 hr) (zv (zd (pv 1)) (zh)) (zv (zd (pv 3)) (zh))) (wU (zav (hu20 hr) (zv (zd (pv 2)) (zh)) (zv (zd (pv 3)) (zh))))))
  (zu (zG (yQ)))
  (zE))
  (zk (zA (i:=5) true nd (zd (pv 4)))
  (zk (z7 (dt_w (zat (zdI (zv (zd (pv 2)) (zh)) (zv (zd (pv 1)) (zh))) (vz (uE (zv (zd (pv 3)) (zh)) (yQ)))))
  (zu (zA (i:=5) true nd (zY (zcW rfl) zhi b_max boot_max (zn (zd (pv 5)) (zn (zv (zd (pv 3)) (zh)) (zC))))))
  (zE))
  (zk (z7 (dt_w (zat (zdH (zv (zd (pv 2)) (zh)) (zv (zd (pv 1)) (zh))) (vz (uE (zv (zd (pv 3)) (zh)) (yQ)))))
  (zu (zA (i:=5) true nd (zY (zaB rfl) zdL b_min boot_min (zn (zd (pv 5)) (zn (zv (zd (pv 3)) (zh)) (zC))))))
  (zE))
  (zk (z7 (dt_w (vX (vY (xN (zS c_within hr (zn (zd (pv 3)) (zn (zd (pv 5)) (zn (zh) (zC)))) (zo (zo (zo (zI))))))) (wU (zdH (yk (zQ (zv (zd (pv 2)) (zh)) (zd (pv 5))) (zQ (zv (zd (pv 2)) (zh)) (zv (zd (pv 1)) (zh)))) (zh)))))
  (zu (zG (yQ)))
  (zE))
  (zk (z7 (vm (hu20 hr) (zd (pv 5)) (zv (zd (pv 2)) (zh)))
  (zu (zG (yx (zw (yR (zd (pv 0)) (zh)) (zw (zh) (zw (zh) (zM)))))))
  (zE))
  (zu (zG (yx (zw (zd (pv 0)) (zw (zh) (zw (zd (pv 5)) (zM)))))))))))),hm,F.kp,F.binds (ps:=["_law_k","_law_one","_law_other","_law_gate","_law_begin"]) fun _ _ _ _ _ _ us hl=>match us,hl with | [_,_,_,_,_],_=>rfl⟩ zcv
theorem zdQ (F:Fun K "_law_crossed" "_law_crossed" vL f fd) (hm:mg "_law_crossed" = some (.ref f)) (c_within:uh P w K mg base k)  : zaK P w K mg base (k+1):=by
 have nd:=(za1).nd
 exact Cal.imp (m:=runD 5 xr) ⟨f,fd,y0 (N:=["_law_one","_law_other","_law_gate","_law_wide","_law_up"]) F za1 fun cdv A outer s G H E hr =>
  zk (zA (i:=3) true nd (zQ (zv (zd (pv 1)) (zh)) (zv (zd (pv 0)) (zh))))
  (zk (z7 (dt_w (vX (zlB (yk (zQ (zv (zd (pv 2)) (zh)) (zv (zd (pv 0)) (zh))) (zd (pv 3))) (zh)) (wU (zlB (yk (zQ (zv (zd (pv 1)) (zh)) (zv (zd (pv 2)) (zh))) (zd (pv 3))) (zh)))))
  (zu (zG (uF)))
  (zE))
  (zk (zA (i:=4) true nd (yR (yk (zv (zd (pv 0)) (zh)) (zd (pv 3))) (yk (zQ (zv (zd (pv 1)) (zh)) (zv (zd (pv 0)) (zh))) (zQ (zv (zd (pv 2)) (zh)) (zv (zd (pv 0)) (zh))))))
  (zk (z7 (zdH (zd (pv 3)) (zh))
  (zu (zG (zS c_within hr (zn (zd (pv 2)) (zn (zQ (zh) (zd (pv 4))) (zn (zQ (zh) (zd (pv 3))) (zC)))) (zo (zo (zo (zI)))))))
  (zE))
  (zu (zG (zS c_within hr (zn (zd (pv 2)) (zn (zd (pv 4)) (zn (zd (pv 3)) (zC)))) (zo (zo (zo (zI)))))))))),hm,F.kp,F.binds (ps:=["_law_one","_law_other","_law_gate"]) fun _ _ _ _ _ _ us hl=>match us,hl with | [_,_,_],_=>rfl⟩ zcz
theorem zdN (F:Fun K "_law_on_edge" "_law_on_edge" vI f fd) (hm:mg "_law_on_edge" = some (.ref f)) (c_upright:zaG P w K mg base k) (c_crossed:zaK P w K mg base k) (b_int:mg "int" = none):zaH P w K mg base (k+1):=by
 have nd:=(zaY).nd
 exact Cal.imp (m:=runD 7 xK) ⟨f,fd,y0 (N:=["_law_path","_law_k","_law_gate","_law_at","_law_one","_law_other","_law_later"]) F zaY fun cdv A outer s G H E hr =>
  zk (zA (i:=4) true nd (zv (zd (pv 0)) (zd (pv 1))))
  (zk (zA (i:=5) true nd (zv (zd (pv 0)) (yR (zd (pv 1)) (zh))))
  (zk (zA (i:=6) true nd (zkb (zg9 (zd (pv 1)) (zv (zd (pv 3)) (zh))) (zaz (zfv (hu20 hr) (zv (zd (pv 3)) (zh)) (zh)))))
  (zk (z7 (vm (hu20 hr) (zv (zd (pv 4)) (zh)) (zv (zd (pv 5)) (zh)))
  (zu (zG (zS c_upright hr (zn (zd (pv 1)) (zn (zd (pv 4)) (zn (zd (pv 5)) (zn (zd (pv 2)) (zn (zv (yF (zw (zv (zd (pv 3)) (zh)) (zw (zv (zd (pv 4)) (zh)) (zM)))) (zeU zhl zlK b_int boot_int (zn (zd (pv 6)) (zC)))) (zC)))))) (zo (zo (zo (zo (zo (zI)))))))))
  (zE))
  (zk (z7 (dt_w (zat (xN (zS c_crossed hr (zn (zd (pv 4)) (zn (zd (pv 5)) (zn (zd (pv 2)) (zC)))) (zo (zo (zo (zI)))))) (vz (dt_w (vX (xN (zd (pv 6))) (wU (zlC (yk (zQ (zv (zd (pv 2)) (zh)) (zv (zd (pv 3)) (zh))) (zQ (zv (zd (pv 5)) (zh)) (zv (zd (pv 4)) (zh)))) (zh))))))))
  (zu (zG (yx (zw (zd (pv 1)) (zw (zh) (zw (zv (zd (pv 2)) (zh)) (zM)))))))
  (zE))
  (zu (zG (yQ))))))),hm,F.kp,F.binds (ps:=["_law_path","_law_k","_law_gate","_law_at"]) fun _ _ _ _ _ _ us hl=>match us,hl with | [_,_,_,_],_=>rfl⟩ zcw
theorem ziq (F:Fun K "_law_next" "_law_next" zek f fd) (hm:mg "_law_next" = some (.ref f)) (c_within:uh P w K mg base k) (c_on_edge:zaH P w K mg base k) (b_len:mg "len" = none) (b_range:mg "range" = none):zhA P w K mg base (k+1):=by
 have nd:=(zf0).nd
 exact Cal.imp (m:=runD 5 zcO) ⟨f,fd,y0 (N:=["_law_path","_law_gate","_law_at","_law_k","_law_found"]) F zf0 fun cdv A outer s G H E hr =>
  zk (wD PassesOwn.never (zax b_range (zn (zv (zd (pv 2)) (zh)) (zn (zY zO wo b_len PySem.boot_len (zn (zd (pv 0)) (zC))) (zC)))) (yf (i:=3) nd)
  (zk (z7 (dt_w (vX (zdI (zd (pv 3)) (zv (zd (pv 2)) (zh))) (wU (vm (hu20 hr) (zv (zd (pv 2)) (zh)) (zh)))))
  (zu (z7 (dt_w (zat (vm (hu20 hr) (zv (zv (zd (pv 0)) (zd (pv 3))) (zh)) (zv (zd (pv 1)) (zh))) (vz (xN (zS c_within hr (zn (zd (pv 1)) (zn (zv (zv (zd (pv 0)) (zd (pv 3))) (zh)) (zn (zh) (zC)))) (zo (zo (zo (zI)))))))))
  (zu (zG (yx (zw (zd (pv 3)) (zw (zh) (zw (zh) (zM)))))))
  (zE)))
  (zE))
  (zu (z7 (zdH (yR (zd (pv 3)) (zh)) (zY zO wo b_len PySem.boot_len (zn (zd (pv 0)) (zC))))
  (zk (zA (i:=4) true nd (zS c_on_edge hr (zn (zd (pv 0)) (zn (zd (pv 3)) (zn (zd (pv 1)) (zn (zd (pv 2)) (zC))))) (zo (zo (zo (zo (zI)))))))
  (zu (z7 (uE (zd (pv 4)) (yQ))
  (zu (zG (zd (pv 4))))
  (zE))))
  (zE)))))
  (zu (zG (yQ))),hm,F.kp,F.binds (ps:=["_law_path","_law_gate","_law_at"]) fun _ _ _ _ _ _ us hl=>match us,hl with | [_,_,_],_=>rfl⟩ zgv
theorem zfy (F:Fun K "_law_places" "_law_places" tm f fd) (hm:mg "_law_places" = some (.ref f)) (c_next:zhA P w K mg base k)  : zca P w K mg base (k+1):=by
 have nd:=(zcn).nd
 exact Cal.imp (m:=runD 5 vW) ⟨f,fd,y0 (N:=["_law_path","_law_row","_law_found","_law_at","_law_gate"]) F zcn fun cdv A outer s G H E hr =>
  zk (zA (i:=2) false nd (yF (zM)))
  (zk (zA (i:=3) true nd (yx (zw (zh) (zw (zh) (zw (zh) (zM))))))
  (zk (wD PassesOwn.never (xt (zd (pv 1))) (yf (i:=4) nd)
  (zk (zA (i:=3) true nd (zS c_next hr (zn (zd (pv 0)) (zn (zd (pv 4)) (zn (zd (pv 3)) (zC)))) (zo (zo (zo (zI))))))
  (zk (z7 (zg2 (zd (pv 3)) (yQ))
  (zu (zG (yQ)))
  (zE))
  (zu (yW (pv 2) (zd (pv 3)))))))
  (zu (zG (zd (pv 2)))))),hm,F.kp,F.binds (ps:=["_law_path","_law_row"]) fun _ _ _ _ _ _ us hl=>match us,hl with | [_,_],_=>rfl⟩ zdn
theorem zir (F:Fun K "_law_hand" "_law_hand" zel f fd) (hm:mg "_law_hand" = some (.ref f))   : zhB P w K mg base (k+1):=by
 have nd:=(zf1).nd
 exact Cal.imp (m:=runD 2 zbi) ⟨f,fd,y0 (N:=["_law_peg","_law_gate"]) F zf1 fun cdv A outer s G H E hr =>
  zk (z7 (zav (hu20 hr) (zv (zd (pv 1)) (zh)) (zv (zd (pv 0)) (zh)))
  (zu (zG (zh)))
  (zE))
  (zk (z7 (vm (hu20 hr) (zv (zd (pv 1)) (zh)) (zv (zd (pv 0)) (zh)))
  (zu (zG (zv (zd (pv 1)) (zh))))
  (zE))
  (zk (z7 (vm (hu20 hr) (zv (zd (pv 1)) (zh)) (zv (zd (pv 0)) (zh)))
  (zu (zG (zQ (zh) (zv (zd (pv 1)) (zh)))))
  (zE))
  (zu (zG (zh))))),hm,F.kp,F.binds (ps:=["_law_peg","_law_gate"]) fun _ _ _ _ _ _ us hl=>match us,hl with | [_,_],_=>rfl⟩ zgw
theorem zin (F:Fun K "_law_turn" "_law_turn" zei f fd) (hm:mg "_law_turn" = some (.ref f))   : zhy P w K mg base (k+1):=by
 have nd:=(zfY).nd
 exact Cal.imp (m:=runD 4 zcM) ⟨f,fd,y0 (N:=["_law_one","_law_two","_law_three","_law_found"]) F zfY fun cdv A outer s G H E hr =>
  zk (zA (i:=3) true nd (yk (zQ (zv (zd (pv 1)) (zh)) (zv (zd (pv 0)) (zh))) (zQ (zv (zd (pv 2)) (zh)) (zv (zd (pv 1)) (zh)))))
  (zu (zG (zQ (zd (pv 3)) (yk (zQ (zv (zd (pv 1)) (zh)) (zv (zd (pv 0)) (zh))) (zQ (zv (zd (pv 2)) (zh)) (zv (zd (pv 1)) (zh))))))),hm,F.kp,F.binds (ps:=["_law_one","_law_two","_law_three"]) fun _ _ _ _ _ _ us hl=>match us,hl with | [_,_,_],_=>rfl⟩ zgt
theorem zis (F:Fun K "_law_bend" "_law_bend" zem f fd) (hm:mg "_law_bend" = some (.ref f)) (c_hand:zhB P w K mg base k) (c_turn:zhy P w K mg base k) (b_len:mg "len" = none):zhC P w K mg base (k+1):=by
 have nd:=(zf2).nd
 exact Cal.imp (m:=runD 8 zbj) ⟨f,fd,y0 (N:=["_law_one","_law_two","_law_three","_law_gates","_law_hands","_law_bent","_law_right","_law_over"]) F zf2 fun cdv A outer s G H E hr =>
  zk ((by first | exact zdJ (i:=4) true nd (cap:=[1]) (own:=["_law_gate"]) ⟨rfl,by decide +kernel,by decide +kernel,rfl,rfl⟩ (xt (zd (pv 3))) (fun _ _ _=>yf (i:=1) (show (["_law_two","_law_gate"]:List Str).Nodup from by decide +kernel)) (yY 1) (fun _ _ _=>uD) (fun _ _ _=>zS c_hand hr (zn (zd (pv 0)) (zn (zd (pv 1)) (zC))) (zo (zo (zI)))) | exact zA (i:=4) true nd (wV (cap:=[1]) (own:=["_law_gate"]) ⟨rfl,by decide +kernel,by decide +kernel,rfl,rfl⟩ (xt (zd (pv 3))) (fun _ _ _=>yf (i:=1) (show (["_law_two","_law_gate"]:List Str).Nodup from by decide +kernel)) (yY 1) (fun _ _ _=>uD) (fun _ _ _=>zS c_hand hr (zn (zd (pv 0)) (zn (zd (pv 1)) (zC))) (zo (zo (zI)))))))
  (zk (z7 (dt_w (vX (vm (hu20 hr) (zd (pv 4)) (yF (zM))) (vX (vm (hu20 hr) (zv (zd (pv 4)) (zh)) (zh)) (wU (zav (hu20 hr) (zd (pv 4)) (wV (cap:=[4]) (own:=["_law_hand_here"]) ⟨rfl,by decide +kernel,by decide +kernel,rfl,rfl⟩ (xt (zd (pv 4))) (fun _ _ _=>yf (i:=1) (show (["_law_hands","_law_hand_here"]:List Str).Nodup from by decide +kernel)) (yY 1) (fun _ _ _=>uD) (fun _ _ _=>zv (zd (pv 0)) (zh))))))))
  (zu (zG (uF)))
  (zE))
  (zk (zA (i:=5) true nd (zS c_turn hr (zn (zd (pv 0)) (zn (zd (pv 1)) (zn (zd (pv 2)) (zC)))) (zo (zo (zo (zI))))))
  (zk (z7 (zav (hu20 hr) (zd (pv 5)) (zh))
  (zu (zG (zkb (zg9 (zY zO wo b_len PySem.boot_len (zn (zd (pv 4)) (zC))) (zh)) (zaz (zg9 (yk (zd (pv 5)) (zv (zd (pv 4)) (zh))) (zh))))))
  (zE))
  (zk (zA (i:=6) true nd (yk (zQ (zv (zd (pv 1)) (zh)) (zv (zd (pv 0)) (zh))) (zQ (zv (zd (pv 2)) (zh)) (zv (zd (pv 1)) (zh)))))
  (zk (z7 (zlC (yR (zd (pv 6)) (yk (zQ (zv (zd (pv 1)) (zh)) (zv (zd (pv 0)) (zh))) (zQ (zv (zd (pv 2)) (zh)) (zv (zd (pv 1)) (zh))))) (zh))
  (zu (zG (uF)))
  (zE))
  (zk (z7 (zdI (zY zO wo b_len PySem.boot_len (zn (zd (pv 4)) (zC))) (zh))
  (zu (zG (uF)))
  (zE))
  (zk (zA (i:=7) true nd (zQ (zv (zd (pv 0)) (zh)) (zv (zd (pv 1)) (zh))))
  (zk (z7 (vm (hu20 hr) (zv (zv (zd (pv 3)) (zh)) (zh)) (zv (zd (pv 1)) (zh)))
  (zu (zA (i:=7) true nd (zQ (zh) (zd (pv 7)))))
  (zE))
  (zu (zG (zcU (zfv (hu20 hr) (zv (zd (pv 0)) (zh)) (zv (zd (pv 1)) (zh))) (zaz (zg9 (zd (pv 7)) (zh)))))))))))))),hm,F.kp,F.binds (ps:=["_law_one","_law_two","_law_three","_law_gates"]) fun _ _ _ _ _ _ us hl=>match us,hl with | [_,_,_,_],_=>rfl⟩ zgx
theorem zio (F:Fun K "_law_taut" "_law_taut" zej f fd) (hm:mg "_law_taut" = some (.ref f)) (c_places:zca P w K mg base k) (c_bend:zhC P w K mg base k) (b_zip:mg "zip" = none) (b_len:mg "len" = none) (b_range:mg "range" = none):zhz P w K mg base (k+1):=by
 have nd:=(zfZ).nd
 exact Cal.imp (m:=runD 7 zcN) ⟨f,fd,y0 (N:=["_law_path","_law_row","_law_places_here","_law_there","_law_gate","_law_place","_law_k"]) F zfZ fun cdv A outer s G H E hr =>
  zk (zA (i:=2) true nd (zS c_places hr (zn (zd (pv 0)) (zn (zd (pv 1)) (zC))) (zo (zo (zI)))))
  (zk (z7 (zg2 (zd (pv 2)) (yQ))
  (zu (zG (uF)))
  (zE))
  (zg4 (tu (ziM (i:=3) nd rfl (Or.inl rfl) zhV)
  (tu (zgd PassesOwn.never rfl (zka b_zip (zd (pv 1)) (zd (pv 2))) (ziN rfl (zbG (tX (i:=4) nd rfl (Or.inl rfl)) (zbG (tX (i:=5) nd rfl (Or.inl rfl)) zgi)))
  (uo (zjq (vm (hu20 hr) (zv (zd (pv 5)) (zh)) (zh)) (uo (zjr (hu1 hr) (pv 3) (zv (zd (pv 5)) (zh)) (zkT ziS (zex (hu1 hr) (pv 3) (zv (zd (pv 5)) (zh)) (yF (zM)) ⟨rfl,rfl,rfl,rfl⟩) (yF (zw (zd (pv 4)) (zM)))) rfl)) zdh)))
  (tu (zgd PassesOwn.never rfl (zax b_range (zn (zh) (zn (zQ (zY zO wo b_len PySem.boot_len (zn (zd (pv 0)) (zC))) (zh)) (zC)))) (tX (i:=6) nd rfl (Or.inl rfl))
  (uo (zjq (ziL (zkM (zjA c_bend hr (yn (zv (zd (pv 0)) (zQ (zd (pv 6)) (zh))) (yn (zv (zd (pv 0)) (zd (pv 6))) (yn (zv (zd (pv 0)) (yR (zd (pv 6)) (zh))) (yn (zex (hu1 hr) (pv 3) (zd (pv 6)) (yF (zM)) ⟨rfl,rfl,rfl,rfl⟩) vo))))))) (uo (zgc uF)) zdh)))
  (uo (zgc uF))))))),hm,F.kp,F.binds (ps:=["_law_path","_law_row"]) fun _ _ _ _ _ _ us hl=>match us,hl with | [_,_],_=>rfl⟩ zgu
theorem zla (F:Fun K "law" "law" zdd f fd) (c_numbers:zaI P w K mg base k) (c_drawn_pegs:wY P w K mg base k) (c_wound:zdX P w K mg base k) (c_p_pulled:uL P w K mg base k) (c_is_path:zaJ P w K mg base k) (c_taut:zhz P w K mg base k) (b_len:mg "len" = none) (b_list:mg "list" = none)  : FnOk P w K mg base CX0 (k+1) f fd ["_law_script"] (spD K (runD 9 zbQ) 1):=by
 have nd:=(ziJ).nd
 exact y0 (N:=["_law_script","_law_head","_law_pegs","_law_times","_law_row","_law_start","_law_end","_law_handed","_law_found"]) F ziJ fun cdv A outer s G H E hr =>
  zk (zA (i:=1) true nd (zS c_numbers hr (zn (zd (pv 0)) (zn (zh) (zC))) (zo (zo (zI)))))
  (zk (zA (i:=2) true nd (zS c_drawn_pegs hr (zn (zd (pv 1)) (zC)) (zo (zI))))
  (zk (zA (i:=3) true nd (yR (zh) (yX (zv (zd (pv 1)) (zh)) (zh))))
  (zk (z7 (vm (hu20 hr) (yX (zv (zd (pv 1)) (zh)) (zh)) (zh))
  (zu (zA (i:=3) true nd (yR (zh) (yX (zv (zd (pv 1)) (zh)) (zh)))))
  (zE))
  (zk (zA (i:=4) true nd (zS c_wound hr (zn (zd (pv 2)) (zn (zd (pv 3)) (zn (zfv (hu20 hr) (yX (zha (zv (zd (pv 1)) (zh)) (zh)) (zh)) (zh)) (zC)))) (zo (zo (zo (zI))))))
  (zk (zA (i:=5) true nd (yx (zw (xO (zh)) (zw (zQ (yX (zv (zd (pv 1)) (zh)) (zh)) (zh)) (zM)))))
  (zk (zA (i:=6) true nd (yx (zw (xO (zh)) (zw (zQ (yX (zha (zv (zd (pv 1)) (zh)) (zh)) (zh)) (zh)) (zM)))))
  (zk (z7 (vm (hu20 hr) (yX (zd (pv 3)) (zh)) (zh))
  (zu (zA (i:=6) true nd (yx (zw (zQ (yk (zh) (zY zO wo b_len PySem.boot_len (zn (zd (pv 2)) (zC)))) (zh)) (zw (zv (zd (pv 6)) (zh)) (zM))))))
  (zE))
  (zk (zA (i:=7) true nd (zeU zcX zke b_list boot_list (zn (zd (pv 4)) (zC))))
  (zk (zA (i:=8) true nd (zS c_p_pulled hr (zn (zd (pv 5)) (zn (zd (pv 7)) (zn (zd (pv 6)) (zC)))) (zo (zo (zo (zI))))))
  (zk (z7 (dt_w (vX (vY (xN (zS c_is_path hr (zn (zd (pv 8)) (zn (zd (pv 2)) (zn (zd (pv 5)) (zn (zd (pv 6)) (zC))))) (zo (zo (zo (zo (zI)))))))) (wU (zav (hu20 hr) (zd (pv 7)) (zd (pv 4))))))
  (zu (zG (uF)))
  (zE))
  (zu (zG (zS c_taut hr (zn (zd (pv 8)) (zn (zd (pv 4)) (zC))) (zo (zo (zI))))))))))))))))
end
end My
namespace My
open PySem PySem.Spec PyProof.Rows L2 DL
noncomputable abbrev A_ (K:PySem.W.Frag) (x:Str) (f:Addr):Prop:=PySem.W.nsIn K mainGlobals x=some (some (.ref f))
noncomputable abbrev L_ (K:PySem.W.Frag) (f:Addr) (x:Str) (s:Stmt) (oc kV dc pm cd ct:Value) (od an:Option Addr) (sl:Array (Option Value)):Prop:=K.lookup f=some ⟨oc,od,.func (PySem.W.fnOf x x (defArgs s) (defBody s) (defScope s) .none kV dc pm an cd ct),sl⟩
noncomputable abbrev D_ (K:PySem.W.Frag) (cd:Value) (x:Str):Prop:=PySem.W.codeIn K cd x=true
noncomputable abbrev P_ (K:PySem.W.Frag) (f:Addr):Prop:=PySem.W.keepIn K (.ref f)=true
theorem zlP {l:PySem.W.OpenLaw} {w:World} {K:PySem.W.Frag} {h:Heap} {mg:Str→Option Value} {fa f1 f2 f3 f4 f5 f6 f7 f8 f9 f10 f11 f12 f13 f14 f15 f16 f17 f18 f19 f20 f21 f22 f23 f24 f25 f26 f27 f28:Addr} (X:K.In h) (G:h.Ns mainGlobals mg) (hfa:mg "law" = some (.ref fa))
 {od1 an1 od2 an2 od3 an3 od4 an4 od5 an5 od6 an6 od7 an7 od8 an8 od9 an9 od10 an10 od11 an11 od12 an12 od13 an13 od14 an14 od15 an15 od16 an16 od17 an17 od18 an18 od19 an19 od20 an20 od21 an21 od22 an22 od23 an23 od24 an24 od25 an25 od26 an26 od27 an27 od28 an28:Option Addr} {sl1 sl2 sl3 sl4 sl5 sl6 sl7 sl8 sl9 sl10 sl11 sl12 sl13 sl14 sl15 sl16 sl17 sl18 sl19 sl20 sl21 sl22 sl23 sl24 sl25 sl26 sl27 sl28:Array (Option Value)} {oc1 kV1 dc1 pm1 cd1 ct1 oc2 kV2 dc2 pm2 cd2 ct2 oc3 kV3 dc3 pm3 cd3 ct3 oc4 kV4 dc4 pm4 cd4 ct4 oc5 kV5 dc5 pm5 cd5 ct5 oc6 kV6 dc6 pm6 cd6 ct6 oc7 kV7 dc7 pm7 cd7 ct7 oc8 kV8 dc8 pm8 cd8 ct8 oc9 kV9 dc9 pm9 cd9 ct9 oc10 kV10 dc10 pm10 cd10 ct10 oc11 kV11 dc11 pm11 cd11 ct11 oc12 kV12 dc12 pm12 cd12 ct12 oc13 kV13 dc13 pm13 cd13 ct13 oc14 kV14 dc14 pm14 cd14 ct14 oc15 kV15 dc15 pm15 cd15 ct15 oc16 kV16 dc16 pm16 cd16 ct16 oc17 kV17 dc17 pm17 cd17 ct17 oc18 kV18 dc18 pm18 cd18 ct18 oc19 kV19 dc19 pm19 cd19 ct19 oc20 kV20 dc20 pm20 cd20 ct20 oc21 kV21 dc21 pm21 cd21 ct21 oc22 kV22 dc22 pm22 cd22 ct22 oc23 kV23 dc23 pm23 cd23 ct23 oc24 kV24 dc24 pm24 cd24 ct24 oc25 kV25 dc25 pm25 cd25 ct25 oc26 kV26 dc26 pm26 cd26 ct26 oc27 kV27 dc27 pm27 cd27 ct27 oc28 kV28 dc28 pm28 cd28 ct28:Value}
 (a1:A_ K "_law_numbers" f1) (l1:L_ K f1 "_law_numbers" vJ oc1 kV1 dc1 pm1 cd1 ct1 od1 an1 sl1) (c1:D_ K cd1 "_law_numbers") (k1:P_ K f1)
 (a2:A_ K "_law_digit" f2) (l2:L_ K f2 "_law_digit" zbA oc2 kV2 dc2 pm2 cd2 ct2 od2 an2 sl2) (c2:D_ K cd2 "_law_digit") (k2:P_ K f2)
 (a3:A_ K "_law_drawn_pegs" f3) (l3:L_ K f3 "_law_drawn_pegs" xU oc3 kV3 dc3 pm3 cd3 ct3 od3 an3 sl3) (c3:D_ K cd3 "_law_drawn_pegs") (k3:P_ K f3)
 (a4:A_ K "_law_wound" f4) (l4:L_ K f4 "_law_wound" zby oc4 kV4 dc4 pm4 cd4 ct4 od4 an4 sl4) (c4:D_ K cd4 "_law_wound") (k4:P_ K f4)
 (a5:A_ K "unrepeated" f5) (l5:L_ K f5 "unrepeated" xi oc5 kV5 dc5 pm5 cd5 ct5 od5 an5 sl5) (c5:D_ K cd5 "unrepeated") (k5:P_ K f5)
 (a6:A_ K "lies_below" f6) (l6:L_ K f6 "lies_below" xk oc6 kV6 dc6 pm6 cd6 ct6 od6 an6 sl6) (c6:D_ K cd6 "lies_below") (k6:P_ K f6)
 (a7:A_ K "turning_pegs" f7) (l7:L_ K f7 "turning_pegs" yH oc7 kV7 dc7 pm7 cd7 ct7 od7 an7 sl7) (c7:D_ K cd7 "turning_pegs") (k7:P_ K f7)
 (a8:A_ K "crossed" f8) (l8:L_ K f8 "crossed" wv oc8 kV8 dc8 pm8 cd8 ct8 od8 an8 sl8) (c8:D_ K cd8 "crossed") (k8:P_ K f8)
 (a9:A_ K "side_of" f9) (l9:L_ K f9 "side_of" wu oc9 kV9 dc9 pm9 cd9 ct9 od9 an9 sl9) (c9:D_ K cd9 "side_of") (k9:P_ K f9)
 (a10:A_ K "pegs_beyond" f10) (l10:L_ K f10 "pegs_beyond" yV oc10 kV10 dc10 pm10 cd10 ct10 od10 an10 sl10) (c10:D_ K cd10 "pegs_beyond") (k10:P_ K f10)
 (a11:A_ K "farthest_beyond" f11) (l11:L_ K f11 "farthest_beyond" yd oc11 kV11 dc11 pm11 cd11 ct11 od11 an11 sl11) (c11:D_ K cd11 "farthest_beyond") (k11:P_ K f11)
 (a12:A_ K "run_pulled" f12) (l12:L_ K f12 "run_pulled" xj oc12 kV12 dc12 pm12 cd12 ct12 od12 an12 sl12) (c12:D_ K cd12 "run_pulled") (k12:P_ K f12)
 (a13:A_ K "touched" f13) (l13:L_ K f13 "touched" wt oc13 kV13 dc13 pm13 cd13 ct13 od13 an13 sl13) (c13:D_ K cd13 "touched") (k13:P_ K f13)
 (a14:A_ K "straight_on" f14) (l14:L_ K f14 "straight_on" yU oc14 kV14 dc14 pm14 cd14 ct14 od14 an14 sl14) (c14:D_ K cd14 "straight_on") (k14:P_ K f14)
 (a15:A_ K "pulled" f15) (l15:L_ K f15 "pulled" w5 oc15 kV15 dc15 pm15 cd15 ct15 od15 an15 sl15) (c15:D_ K cd15 "pulled") (k15:P_ K f15)
 (a16:A_ K "_law_whole" f16) (l16:L_ K f16 "_law_whole" zbz oc16 kV16 dc16 pm16 cd16 ct16 od16 an16 sl16) (c16:D_ K cd16 "_law_whole") (k16:P_ K f16)
 (a17:A_ K "_law_is_path" f17) (l17:L_ K f17 "_law_is_path" vK oc17 kV17 dc17 pm17 cd17 ct17 od17 an17 sl17) (c17:D_ K cd17 "_law_is_path") (k17:P_ K f17)
 (a18:A_ K "_law_within" f18) (l18:L_ K f18 "_law_within" tj oc18 kV18 dc18 pm18 cd18 ct18 od18 an18 sl18) (c18:D_ K cd18 "_law_within") (k18:P_ K f18)
 (a19:A_ K "_law_upright" f19) (l19:L_ K f19 "_law_upright" vH oc19 kV19 dc19 pm19 cd19 ct19 od19 an19 sl19) (c19:D_ K cd19 "_law_upright") (k19:P_ K f19)
 (a20:A_ K "_law_crossed" f20) (l20:L_ K f20 "_law_crossed" vL oc20 kV20 dc20 pm20 cd20 ct20 od20 an20 sl20) (c20:D_ K cd20 "_law_crossed") (k20:P_ K f20)
 (a21:A_ K "_law_on_edge" f21) (l21:L_ K f21 "_law_on_edge" vI oc21 kV21 dc21 pm21 cd21 ct21 od21 an21 sl21) (c21:D_ K cd21 "_law_on_edge") (k21:P_ K f21)
 (a22:A_ K "_law_next" f22) (l22:L_ K f22 "_law_next" zek oc22 kV22 dc22 pm22 cd22 ct22 od22 an22 sl22) (c22:D_ K cd22 "_law_next") (k22:P_ K f22)
 (a23:A_ K "_law_places" f23) (l23:L_ K f23 "_law_places" tm oc23 kV23 dc23 pm23 cd23 ct23 od23 an23 sl23) (c23:D_ K cd23 "_law_places") (k23:P_ K f23)
 (a24:A_ K "_law_hand" f24) (l24:L_ K f24 "_law_hand" zel oc24 kV24 dc24 pm24 cd24 ct24 od24 an24 sl24) (c24:D_ K cd24 "_law_hand") (k24:P_ K f24)
 (a25:A_ K "_law_turn" f25) (l25:L_ K f25 "_law_turn" zei oc25 kV25 dc25 pm25 cd25 ct25 od25 an25 sl25) (c25:D_ K cd25 "_law_turn") (k25:P_ K f25)
 (a26:A_ K "_law_bend" f26) (l26:L_ K f26 "_law_bend" zem oc26 kV26 dc26 pm26 cd26 ct26 od26 an26 sl26) (c26:D_ K cd26 "_law_bend") (k26:P_ K f26)
 (a27:A_ K "_law_taut" f27) (l27:L_ K f27 "_law_taut" zej oc27 kV27 dc27 pm27 cd27 ct27 od27 an27 sl27) (c27:D_ K cd27 "_law_taut") (k27:P_ K f27)
 (a28:A_ K "law" f28) (l28:L_ K f28 "law" zdd oc28 kV28 dc28 pm28 cd28 ct28 od28 an28 sl28) (c28:D_ K cd28 "law") (k28:P_ K f28)
 (z_range:PySem.W.nsIn K mainGlobals "range" = some none)
 (z_len:PySem.W.nsIn K mainGlobals "len" = some none)
 (z_min:PySem.W.nsIn K mainGlobals "min" = some none)
 (z_max:PySem.W.nsIn K mainGlobals "max" = some none)
 (z_reversed:PySem.W.nsIn K mainGlobals "reversed" = some none)
 (z_zip:PySem.W.nsIn K mainGlobals "zip" = some none)
 (z_isinstance:PySem.W.nsIn K mainGlobals "isinstance" = some none)
 (z_int:PySem.W.nsIn K mainGlobals "int" = some none)
 (z_bool:PySem.W.nsIn K mainGlobals "bool" = some none)
 (z_list:PySem.W.nsIn K mainGlobals "list" = some none)
 (z_tuple:PySem.W.nsIn K mainGlobals "tuple" = some none) :
 ∃ fd:FuncData,(∀ (s:Shared) (v:Value),BindsTo s fd ⟨[v],[]⟩ [("_law_script",v)])∧∀ base:Heap,K.In base→base.Ns mainGlobals mg→FnOk l.prog w K mg base CX0 7 fa fd ["_law_script"] (spD K (runD 9 zbQ) 1):=by
 have e:=hfa.symm.trans (PySem.W.mg_of X G a28)
 cases e
 have b_range:=PySem.W.mg_none_of X G z_range
 have b_len:=PySem.W.mg_none_of X G z_len
 have b_min:=PySem.W.mg_none_of X G z_min
 have b_max:=PySem.W.mg_none_of X G z_max
 have b_reversed:=PySem.W.mg_none_of X G z_reversed
 have b_zip:=PySem.W.mg_none_of X G z_zip
 have b_isinstance:=PySem.W.mg_none_of X G z_isinstance
 have b_int:=PySem.W.mg_none_of X G z_int
 have b_bool:=PySem.W.mg_none_of X G z_bool
 have b_list:=PySem.W.mg_none_of X G z_list
 have b_tuple:=PySem.W.mg_none_of X G z_tuple
 have F1:=z8 (st:=vJ) l1 c1 k1
 have F2:=z8 (st:=zbA) l2 c2 k2
 have F3:=z8 (st:=xU) l3 c3 k3
 have F4:=z8 (st:=zby) l4 c4 k4
 have F5:=z8 (st:=xi) l5 c5 k5
 have F6:=z8 (st:=xk) l6 c6 k6
 have F7:=z8 (st:=yH) l7 c7 k7
 have F8:=z8 (st:=wv) l8 c8 k8
 have F9:=z8 (st:=wu) l9 c9 k9
 have F10:=z8 (st:=yV) l10 c10 k10
 have F11:=z8 (st:=yd) l11 c11 k11
 have F12:=z8 (st:=xj) l12 c12 k12
 have F13:=z8 (st:=wt) l13 c13 k13
 have F14:=z8 (st:=yU) l14 c14 k14
 have F15:=z8 (st:=w5) l15 c15 k15
 have F16:=z8 (st:=zbz) l16 c16 k16
 have F17:=z8 (st:=vK) l17 c17 k17
 have F18:=z8 (st:=tj) l18 c18 k18
 have F19:=z8 (st:=vH) l19 c19 k19
 have F20:=z8 (st:=vL) l20 c20 k20
 have F21:=z8 (st:=vI) l21 c21 k21
 have F22:=z8 (st:=zek) l22 c22 k22
 have F23:=z8 (st:=tm) l23 c23 k23
 have F24:=z8 (st:=zel) l24 c24 k24
 have F25:=z8 (st:=zei) l25 c25 k25
 have F26:=z8 (st:=zem) l26 c26 k26
 have F27:=z8 (st:=zej) l27 c27 k27
 have F28:=z8 (st:=zdd) l28 c28 k28
 refine ⟨PySem.W.fnOf "law" "law" (defArgs zdd) (defBody zdd) (defScope zdd) .none kV28 dc28 pm28 an28 cd28 ct28,fun s v=>.of_eq rfl,fun base _ _ => ?run⟩
 case run =>
  have q_numbers:zaI l.prog w K mg base 1:=zdO (k:=0) F1 (PySem.W.mg_of X G a1)  b_range b_len b_min b_max
  have q_digit:zdZ l.prog w K mg base 1:=zho (k:=0) F2 (PySem.W.mg_of X G a2)  b_range
  have q_drawn_pegs:wY l.prog w K mg base 2:=zaR (k:=1) F3 (PySem.W.mg_of X G a3) (q_digit.mono (by decide)) b_range
  have q_wound:zdX l.prog w K mg base 1:=zhm (k:=0) F4 (PySem.W.mg_of X G a4)  b_range
  have q_p_unrepeated:xZ l.prog w K mg base 1:=uZ (k:=0) F5 (PySem.W.mg_of X G a5)
  have q_p_lies_below:x5 l.prog w K mg base 1:=u8 (k:=0) F6 (PySem.W.mg_of X G a6)
  have q_p_turning_pegs:xu l.prog w K mg base 2:=v7 (k:=1) F7 (PySem.W.mg_of X G a7) (q_p_lies_below.mono (by decide))
  have q_p_crossed:vC l.prog w K mg base 1:=zb2 (k:=0) F8 (PySem.W.mg_of X G a8)  b_reversed
  have q_p_side_of:vB l.prog w K mg base 1:=zb1 (k:=0) F9 (PySem.W.mg_of X G a9)
  have q_p_pegs_beyond:xR l.prog w K mg base 2:=uK (k:=1) F10 (PySem.W.mg_of X G a10) (q_p_side_of.mono (by decide))
  have q_p_farthest_beyond:yM l.prog w K mg base 3:=wW (k:=2) F11 (PySem.W.mg_of X G a11) (q_p_crossed.mono (by decide)) (q_p_pegs_beyond.mono (by decide))
  have q_p_run_pulled:x4 l.prog w K mg base 4:=u7 (k:=3) F12 (PySem.W.mg_of X G a12) (q_p_farthest_beyond.mono (by decide))
  have q_p_touched:vA l.prog w K mg base 5:=zb0 (k:=4) F13 (PySem.W.mg_of X G a13) (q_p_turning_pegs.mono (by decide)) (q_p_run_pulled.mono (by decide))
  have q_p_straight_on:xQ l.prog w K mg base 1:=uJ (k:=0) F14 (PySem.W.mg_of X G a14)
  have q_p_pulled:uL l.prog w K mg base 6:=zcY (k:=5) F15 (PySem.W.mg_of X G a15) (q_p_unrepeated.mono (by decide)) (q_p_touched.mono (by decide)) (q_p_straight_on.mono (by decide)) b_zip
  have q_whole:zdY l.prog w K mg base 1:=zhn (k:=0) F16 (PySem.W.mg_of X G a16)  b_isinstance b_int b_bool
  have q_is_path:zaJ l.prog w K mg base 2:=zdP (k:=1) F17 (PySem.W.mg_of X G a17) (q_whole.mono (by decide)) b_isinstance b_list b_len b_tuple b_range
  have q_within:uh l.prog w K mg base 1:=zfx (k:=0) F18 (PySem.W.mg_of X G a18)
  have q_upright:zaG l.prog w K mg base 2:=zdM (k:=1) F19 (PySem.W.mg_of X G a19) (q_within.mono (by decide)) b_max b_min
  have q_crossed:zaK l.prog w K mg base 2:=zdQ (k:=1) F20 (PySem.W.mg_of X G a20) (q_within.mono (by decide))
  have q_on_edge:zaH l.prog w K mg base 3:=zdN (k:=2) F21 (PySem.W.mg_of X G a21) (q_upright.mono (by decide)) (q_crossed.mono (by decide)) b_int
  have q_next:zhA l.prog w K mg base 4:=ziq (k:=3) F22 (PySem.W.mg_of X G a22) (q_within.mono (by decide)) (q_on_edge.mono (by decide)) b_len b_range
  have q_places:zca l.prog w K mg base 5:=zfy (k:=4) F23 (PySem.W.mg_of X G a23) (q_next.mono (by decide))
  have q_hand:zhB l.prog w K mg base 1:=zir (k:=0) F24 (PySem.W.mg_of X G a24)
  have q_turn:zhy l.prog w K mg base 1:=zin (k:=0) F25 (PySem.W.mg_of X G a25)
  have q_bend:zhC l.prog w K mg base 2:=zis (k:=1) F26 (PySem.W.mg_of X G a26) (q_hand.mono (by decide)) (q_turn.mono (by decide)) b_len
  have q_taut:zhz l.prog w K mg base 6:=zio (k:=5) F27 (PySem.W.mg_of X G a27) (q_places.mono (by decide)) (q_bend.mono (by decide)) b_zip b_len b_range
  exact zla (k:=6) F28 (q_numbers.mono (by decide)) (q_drawn_pegs.mono (by decide)) (q_wound.mono (by decide)) (q_p_pulled.mono (by decide)) (q_is_path.mono (by decide)) (q_taut.mono (by decide)) b_len b_list
theorem zlm (main:∀ ns:List Int,ns.length≤63→runD 9 zbQ [.scr ns]=.ok (.pers (.bl true))) (K:PySem.W.Frag) (H:Hp) (a:Addr) (ns:List Int) (hl:ns.length≤63) (hS:SqL K H a (ns.map V.int)) :
 spD K (runD 9 zbQ) 1 [.ref a] H (fun v _=>v=.bl true) fun _ _ _=>False :=
 ⟨H,[.scr ns],_,rfl,Same.refl _,⟨_,_,rfl,⟨a,rfl,hS⟩,rfl⟩,main ns hl,fun v G' H' _ _ h=>h⟩
end My
namespace My
open PySem PySem.Spec PyProof.Rows L2 DL
end My
open PySem PySem.W PyProof.Rows
set_option maxRecDepth 100000 in
set_option maxHeartbeats 0 in
theorem PySem.Challenge.cw_tautline_k33_wound_round_all_pegs_holds : PySem.Challenge.rw_tautline_k33_wound_round_all_pegs.Holds := by
 w_on; o_law; k_head; (case hw=>w_witness2)
 k_fill
 refine L2.zhF (l:=PySem.Challenge.rw_tautline_k33_wound_round_all_pegs) (n:=63) (k:=7) (x := "_law_script") (CX:=L2.CX0) (sp:=fun K=>DL.spD K (DL.runD 9 My.zbQ) 1) rfl (by decide) rfl ⟨rfl,by decide,by decide⟩ (fun w h Y=>PySem.W.kIn_of Y) ?F ?S ?C
 case F =>
  intro w mg fa h KX G hmg
  refine' My.zlP KX G hmg ?a1 ?l1 ?c1 ?k1 ?a2 ?l2 ?c2 ?k2 ?a3 ?l3 ?c3 ?k3 ?a4 ?l4 ?c4 ?k4 ?a5 ?l5 ?c5 ?k5 ?a6 ?l6 ?c6 ?k6 ?a7 ?l7 ?c7 ?k7 ?a8 ?l8 ?c8 ?k8 ?a9 ?l9 ?c9 ?k9 ?a10 ?l10 ?c10 ?k10 ?a11 ?l11 ?c11 ?k11 ?a12 ?l12 ?c12 ?k12 ?a13 ?l13 ?c13 ?k13 ?a14 ?l14 ?c14 ?k14 ?a15 ?l15 ?c15 ?k15 ?a16 ?l16 ?c16 ?k16 ?a17 ?l17 ?c17 ?k17 ?a18 ?l18 ?c18 ?k18 ?a19 ?l19 ?c19 ?k19 ?a20 ?l20 ?c20 ?k20 ?a21 ?l21 ?c21 ?k21 ?a22 ?l22 ?c22 ?k22 ?a23 ?l23 ?c23 ?k23 ?a24 ?l24 ?c24 ?k24 ?a25 ?l25 ?c25 ?k25 ?a26 ?l26 ?c26 ?k26 ?a27 ?l27 ?c27 ?k27 ?a28 ?l28 ?c28 ?k28 ?z_range ?z_len ?z_min ?z_max ?z_reversed ?z_zip ?z_isinstance ?z_int ?z_bool ?z_list ?z_tuple
  (case a1=>unfold My.A_; k_is); (case l1=>unfold My.L_; k_is); (case c1=>unfold My.D_; k_is); (case k1=>unfold My.P_; k_is)
  (case a2=>unfold My.A_; k_is); (case l2=>unfold My.L_; k_is); (case c2=>unfold My.D_; k_is); (case k2=>unfold My.P_; k_is)
  (case a3=>unfold My.A_; k_is); (case l3=>unfold My.L_; k_is); (case c3=>unfold My.D_; k_is); (case k3=>unfold My.P_; k_is)
  (case a4=>unfold My.A_; k_is); (case l4=>unfold My.L_; k_is); (case c4=>unfold My.D_; k_is); (case k4=>unfold My.P_; k_is)
  (case a5=>unfold My.A_; k_is); (case l5=>unfold My.L_; k_is); (case c5=>unfold My.D_; k_is); (case k5=>unfold My.P_; k_is)
  (case a6=>unfold My.A_; k_is); (case l6=>unfold My.L_; k_is); (case c6=>unfold My.D_; k_is); (case k6=>unfold My.P_; k_is)
  (case a7=>unfold My.A_; k_is); (case l7=>unfold My.L_; k_is); (case c7=>unfold My.D_; k_is); (case k7=>unfold My.P_; k_is)
  (case a8=>unfold My.A_; k_is); (case l8=>unfold My.L_; k_is); (case c8=>unfold My.D_; k_is); (case k8=>unfold My.P_; k_is)
  (case a9=>unfold My.A_; k_is); (case l9=>unfold My.L_; k_is); (case c9=>unfold My.D_; k_is); (case k9=>unfold My.P_; k_is)
  (case a10=>unfold My.A_; k_is); (case l10=>unfold My.L_; k_is); (case c10=>unfold My.D_; k_is); (case k10=>unfold My.P_; k_is)
  (case a11=>unfold My.A_; k_is); (case l11=>unfold My.L_; k_is); (case c11=>unfold My.D_; k_is); (case k11=>unfold My.P_; k_is)
  (case a12=>unfold My.A_; k_is); (case l12=>unfold My.L_; k_is); (case c12=>unfold My.D_; k_is); (case k12=>unfold My.P_; k_is)
  (case a13=>unfold My.A_; k_is); (case l13=>unfold My.L_; k_is); (case c13=>unfold My.D_; k_is); (case k13=>unfold My.P_; k_is)
  (case a14=>unfold My.A_; k_is); (case l14=>unfold My.L_; k_is); (case c14=>unfold My.D_; k_is); (case k14=>unfold My.P_; k_is)
  (case a15=>unfold My.A_; k_is); (case l15=>unfold My.L_; k_is); (case c15=>unfold My.D_; k_is); (case k15=>unfold My.P_; k_is)
  (case a16=>unfold My.A_; k_is); (case l16=>unfold My.L_; k_is); (case c16=>unfold My.D_; k_is); (case k16=>unfold My.P_; k_is)
  (case a17=>unfold My.A_; k_is); (case l17=>unfold My.L_; k_is); (case c17=>unfold My.D_; k_is); (case k17=>unfold My.P_; k_is)
  (case a18=>unfold My.A_; k_is); (case l18=>unfold My.L_; k_is); (case c18=>unfold My.D_; k_is); (case k18=>unfold My.P_; k_is)
  (case a19=>unfold My.A_; k_is); (case l19=>unfold My.L_; k_is); (case c19=>unfold My.D_; k_is); (case k19=>unfold My.P_; k_is)
  (case a20=>unfold My.A_; k_is); (case l20=>unfold My.L_; k_is); (case c20=>unfold My.D_; k_is); (case k20=>unfold My.P_; k_is)
  (case a21=>unfold My.A_; k_is); (case l21=>unfold My.L_; k_is); (case c21=>unfold My.D_; k_is); (case k21=>unfold My.P_; k_is)
  (case a22=>unfold My.A_; k_is); (case l22=>unfold My.L_; k_is); (case c22=>unfold My.D_; k_is); (case k22=>unfold My.P_; k_is)
  (case a23=>unfold My.A_; k_is); (case l23=>unfold My.L_; k_is); (case c23=>unfold My.D_; k_is); (case k23=>unfold My.P_; k_is)
  (case a24=>unfold My.A_; k_is); (case l24=>unfold My.L_; k_is); (case c24=>unfold My.D_; k_is); (case k24=>unfold My.P_; k_is)
  (case a25=>unfold My.A_; k_is); (case l25=>unfold My.L_; k_is); (case c25=>unfold My.D_; k_is); (case k25=>unfold My.P_; k_is)
  (case a26=>unfold My.A_; k_is); (case l26=>unfold My.L_; k_is); (case c26=>unfold My.D_; k_is); (case k26=>unfold My.P_; k_is)
  (case a27=>unfold My.A_; k_is); (case l27=>unfold My.L_; k_is); (case c27=>unfold My.D_; k_is); (case k27=>unfold My.P_; k_is)
  (case a28=>unfold My.A_; k_is); (case l28=>unfold My.L_; k_is); (case c28=>unfold My.D_; k_is); (case k28=>unfold My.P_; k_is)
  (case z_range=>k_is)
  (case z_len=>k_is)
  (case z_min=>k_is)
  (case z_max=>k_is)
  (case z_reversed=>k_is)
  (case z_zip=>k_is)
  (case z_isinstance=>k_is)
  (case z_int=>k_is)
  (case z_bool=>k_is)
  (case z_list=>k_is)
  (case z_tuple=>k_is)
 case S=>exact fun K H a ns hl hO hS=>My.zlm My.main K H a ns hl hS
 case C=>exact fun _ _ _ _ z=>z
