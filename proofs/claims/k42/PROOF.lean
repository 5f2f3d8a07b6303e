import PyProof.Rows.All
import Wide.All
import OpenK.AllK
import Wide.FinOn
import Lean
import PyProof.EqAt
import PyProof.EqKinds
import PyProof.TupleCall
import KE.KItemsList
import KE.KMinBuiltin
import KE.KRevIter
import KE.KTryMore
import PyProof.ExcArgs
import PyProof.ExcAttrAll.ValueError
import PyProof.NsDelKeeps
import PyProof.InstStoreFacts
import PySem.Challenge.RW_tautline_k42_whole_alike_ropes_are_one_w
set_option bootstrap.genMatcherCode false
set_option compiler.extract_closed false
set_option genSizeOfSpec false
set_option Elab.async false
set_option linter.all false
set_option maxRecDepth 100000
theorem saa:type_of% @PySem.wpAny_bind:=@PySem.wpAny_bind
theorem sab:type_of% @PySem.Heap.get?_push_of_some:=@PySem.Heap.get?_push_of_some
theorem sac:type_of% @PySem.wpAny_pure:=@PySem.wpAny_pure
theorem sad:type_of% @List.getElem?_eq_getElem:=@List.getElem?_eq_getElem
theorem sae:type_of% @List.length_map:=@List.length_map
theorem saf:type_of% @if_pos:=@if_pos
theorem sag:type_of% @List.mem_singleton:=@List.mem_singleton
theorem sah:type_of% @if_neg:=@if_neg
theorem sai:type_of% @PySem.Heap.lt_size:=@PySem.Heap.lt_size
theorem saj:type_of% @List.mem_cons:=@List.mem_cons
theorem sak:type_of% @List.getElem?_eq_some_iff:=@List.getElem?_eq_some_iff
theorem sal:type_of% @decide_eq_true:=@decide_eq_true
theorem sam:type_of% @List.getLastD_eq_getLast?:=@List.getLastD_eq_getLast?
theorem san:type_of% @List.mem_append:=@List.mem_append
theorem sao:type_of% @List.mem_cons_of_mem:=@List.mem_cons_of_mem
theorem sap:type_of% @decide_eq_true_eq:=@decide_eq_true_eq
theorem saq:type_of% @PySem.Heap.get?_push_size:=@PySem.Heap.get?_push_size
theorem sar:type_of% @Array.getElem?_eq_getElem:=@Array.getElem?_eq_getElem
theorem sas:type_of% @List.getElem?_set_ne:=@List.getElem?_set_ne
theorem sau:type_of% @PySem.W.mg_of:=@PySem.W.mg_of
theorem sav:type_of% @List.getElem?_map:=@List.getElem?_map
theorem saw:type_of% @decide_eq_false:=@decide_eq_false
theorem sax:type_of% @Bool.false_ne_true:=@Bool.false_ne_true
theorem saz:type_of% @List.mem_map:=@List.mem_map
theorem saA:type_of% @Nat.ne_of_lt:=@Nat.ne_of_lt
theorem saB:type_of% @List.mem_cons_self:=@List.mem_cons_self
theorem saC:type_of% @List.pairwise_cons:=@List.pairwise_cons
theorem saD:type_of% @List.mem_of_getElem?:=@List.mem_of_getElem?
theorem saE:type_of% @Nat.lt_of_lt_of_le:=@Nat.lt_of_lt_of_le
theorem saF:type_of% @List.append_assoc:=@List.append_assoc
theorem saG:type_of% @Array.getElem?_toList:=@Array.getElem?_toList
theorem saH:type_of% @Bool.false_eq_true:=@Bool.false_eq_true
theorem saI:type_of% @Option.some.inj:=@Option.some.inj
theorem saJ:type_of% @List.getLast?_eq_some_getLast:=@List.getLast?_eq_some_getLast
theorem saK:type_of% @List.mem_filter:=@List.mem_filter
theorem saL:type_of% @PySem.Heap.get?_update_other:=@PySem.Heap.get?_update_other
theorem saM:type_of% @List.map_append:=@List.map_append
theorem saN:type_of% @List.length_append:=@List.length_append
theorem saO:type_of% @List.reverse_cons:=@List.reverse_cons
theorem saP:type_of% @List.map_congr_left:=@List.map_congr_left
theorem saQ:type_of% @List.mem_append_right:=@List.mem_append_right
theorem saR:type_of% @List.foldl_append:=@List.foldl_append
theorem saS:type_of% @Bool.and_eq_true:=@Bool.and_eq_true
theorem saT:type_of% @List.getElem?_of_mem:=@List.getElem?_of_mem
theorem saU:type_of% @PySem.PassesOwn.never:=@PySem.PassesOwn.never
theorem saV:type_of% @PySem.Heap.get?_update_self:=@PySem.Heap.get?_update_self
theorem saW:type_of% @PyProof.Rows.callWith_type1:=@PyProof.Rows.callWith_type1
theorem saX:type_of% @Nat.zero_le:=@Nat.zero_le
theorem saY:type_of% @PySem.Heap.size_push:=@PySem.Heap.size_push
theorem saZ:type_of% @List.getElem?_append_left:=@List.getElem?_append_left
theorem sba:type_of% @List.drop_eq_getElem_cons:=@List.drop_eq_getElem_cons
theorem sbb:type_of% @List.mem_range:=@List.mem_range
theorem sbc:type_of% @PySem.mem_of_lookup:=@PySem.mem_of_lookup
theorem sbd:type_of% @Array.getElem?_eq_none:=@Array.getElem?_eq_none
theorem sbe:type_of% @List.any_eq_true:=@List.any_eq_true
theorem sbf:type_of% @Int.mul_nonpos_of_nonneg_of_nonpos:=@Int.mul_nonpos_of_nonneg_of_nonpos
theorem sbg:type_of% @List.eq_nil_of_length_eq_zero:=@List.eq_nil_of_length_eq_zero
theorem sbh:type_of% @List.filter_cons_of_pos:=@List.filter_cons_of_pos
theorem sbi:type_of% @List.filter_cons_of_neg:=@List.filter_cons_of_neg
theorem sbj:type_of% @PySem.wpAny_holding:=@PySem.wpAny_holding
theorem sbk:type_of% @List.length_reverse:=@List.length_reverse
theorem sbl:type_of% @List.nodup_cons:=@List.nodup_cons
theorem sbm:type_of% @PySem.wpAny_seqItems:=@PySem.wpAny_seqItems
theorem sbn:type_of% @List.filter_eq_nil_iff:=@List.filter_eq_nil_iff
theorem sbo:type_of% @PySem.W.mg_none_of:=@PySem.W.mg_none_of
theorem sbp:type_of% @List.map_map:=@List.map_map
theorem sbq:type_of% @List.append_nil:=@List.append_nil
theorem sbr:type_of% @List.mem_reverse:=@List.mem_reverse
theorem sbs:type_of% @List.getLast?_eq_getElem?:=@List.getLast?_eq_getElem?
theorem sbt:type_of% @PySem.wpAny_nextOf_list_item:=@PySem.wpAny_nextOf_list_item
theorem sbu:type_of% @PySem.wpAny_field:=@PySem.wpAny_field
theorem sbv:type_of% @PySem.F.slot_zip_next:=@PySem.F.slot_zip_next
theorem sbw:type_of% @List.take_succ_eq_append_getElem:=@List.take_succ_eq_append_getElem
theorem sbx:type_of% @List.getElem?_append_right:=@List.getElem?_append_right
theorem sby:type_of% @Array.getElem?_eq_some_iff:=@Array.getElem?_eq_some_iff
theorem sbz:type_of% @PySem.Around.under_plainId:=@PySem.Around.under_plainId
theorem sbA:type_of% @Int.mul_nonneg:=@Int.mul_nonneg
theorem sbB:type_of% @Nat.ne_of_gt:=@Nat.ne_of_gt
theorem sbC:type_of% @List.pairwise_iff_getElem:=@List.pairwise_iff_getElem
theorem sbD:type_of% @Nat.lt_succ_of_lt:=@Nat.lt_succ_of_lt
theorem sbE:type_of% @List.pairwise_map:=@List.pairwise_map
theorem sbF:type_of% @Int.le_refl:=@Int.le_refl
theorem sbG:type_of% @List.length_filter_le:=@List.length_filter_le
theorem sbH:type_of% @Nat.le_trans:=@Nat.le_trans
theorem sbI:type_of% @Bool.or_eq_true:=@Bool.or_eq_true
theorem sbJ:type_of% @PySem.wpAny_Call_Name_kw:=@PySem.wpAny_Call_Name_kw
theorem sbK:type_of% @List.getElem?_replicate:=@List.getElem?_replicate
theorem sbL:type_of% @List.all_eq_true:=@List.all_eq_true
theorem sbM:type_of% @PySem.F.plainAttrs_list:=@PySem.F.plainAttrs_list
theorem sbN:type_of% @List.not_mem_nil:=@List.not_mem_nil
theorem sbO:type_of% @List.reverse_reverse:=@List.reverse_reverse
theorem sbP:type_of% @List.getLast?_concat:=@List.getLast?_concat
theorem sbQ:type_of% @Nat.lt_irrefl:=@Nat.lt_irrefl
theorem sbR:type_of% @List.getElem?_set:=@List.getElem?_set
theorem sbS:type_of% @Int.emod_nonneg:=@Int.emod_nonneg
theorem sbT:type_of% @PySem.codeAny_builtin:=@PySem.codeAny_builtin
theorem sbU:type_of% @PySem.wpAny_updateSeq:=@PySem.wpAny_updateSeq
theorem sbV:type_of% @Bool.eq_iff_iff:=@Bool.eq_iff_iff
theorem sbW:type_of% @Int.mul_sub:=@Int.mul_sub
theorem sbX:type_of% @Int.mul_neg:=@Int.mul_neg
theorem sbY:type_of% @PySem.F.plain_extend_loop:=@PySem.F.plain_extend_loop
theorem sbZ:type_of% @List.getElem?_eq_none:=@List.getElem?_eq_none
theorem sca:type_of% @Int.emod_lt_of_pos:=@Int.emod_lt_of_pos
theorem scb:type_of% @Nat.le_of_lt:=@Nat.le_of_lt
theorem scd:type_of% @PySem.SetTable.toList_insertAt:=@PySem.SetTable.toList_insertAt
theorem sce:type_of% @List.mem_append_left:=@List.mem_append_left
theorem scf:type_of% @Int.mul_le_mul_of_nonneg_left:=@Int.mul_le_mul_of_nonneg_left
theorem scg:type_of% @PySem.wpAny_truthy_bool:=@PySem.wpAny_truthy_bool
theorem sch:type_of% @PySem.wpAny_pyIter_list:=@PySem.wpAny_pyIter_list
theorem sci:type_of% @PySem.wpAny_callSpecial?_slot:=@PySem.wpAny_callSpecial?_slot
theorem scj:type_of% @of_decide_eq_true:=@of_decide_eq_true
theorem sck:type_of% @List.length_range:=@List.length_range
theorem scl:type_of% @List.mem_map_of_mem:=@List.mem_map_of_mem
theorem scm:type_of% @List.filter_reverse:=@List.filter_reverse
theorem scn:type_of% @PySem.plainId_quiet:=@PySem.plainId_quiet
theorem sco:type_of% @PySem.wpAny_letGo:=@PySem.wpAny_letGo
theorem scp:type_of% @List.length_take:=@List.length_take
theorem scq:type_of% @List.getElem_mem:=@List.getElem_mem
theorem scs:type_of% @List.mem_flatten:=@List.mem_flatten
theorem sct:type_of% @List.map_reverse:=@List.map_reverse
theorem scu:type_of% @List.Perm.refl:=@List.Perm.refl
theorem scv:type_of% @PySem.wpAny_setField_rec:=@PySem.wpAny_setField_rec
theorem scw:type_of% @PySem.wpAny_nextOf_list_end:=@PySem.wpAny_nextOf_list_end
theorem scx:type_of% @Classical.byContradiction:=@Classical.byContradiction
theorem scy:type_of% @PySem.wpAny_passesOwn:=@PySem.wpAny_passesOwn
theorem scz:type_of% @PySem.wpAny_newObj_type:=@PySem.wpAny_newObj_type
theorem scA:type_of% @List.nodup_append:=@List.nodup_append
theorem scB:type_of% @List.any_eq_false:=@List.any_eq_false
theorem scC:type_of% @Int.mul_comm:=@Int.mul_comm
theorem scD:type_of% @Int.le_total:=@Int.le_total
theorem scE:type_of% @PySem.wpAny_mono:=@PySem.wpAny_mono
theorem scF:type_of% @List.map_tail:=@List.map_tail
theorem scG:type_of% @PySem.wpAny_call_entry:=@PySem.wpAny_call_entry
theorem scH:type_of% @PySem.F.args_zip_next_1:=@PySem.F.args_zip_next_1
theorem scI:type_of% @Int.mul_pos:=@Int.mul_pos
theorem scJ:type_of% @Ne.symm:=@Ne.symm
theorem scK:type_of% @PySem.F.called_set:=@PySem.F.called_set
theorem scL:type_of% @Int.lt_or_gt_of_ne:=@Int.lt_or_gt_of_ne
theorem scM:type_of% @Int.lt_trichotomy:=@Int.lt_trichotomy
theorem scN:type_of% @List.filter_congr:=@List.filter_congr
theorem scO:type_of% @List.getLast_mem:=@List.getLast_mem
theorem scP:type_of% @List.mem_flatMap:=@List.mem_flatMap
theorem scQ:type_of% @PySem.wpAny_onRaise:=@PySem.wpAny_onRaise
theorem scR:type_of% @Int.neg_mul:=@Int.neg_mul
open PySem.W(Frag)
namespace L2
open PySem PySem.Spec PyProof.Rows
noncomputable abbrev pR:=Sum Int Str
noncomputable def Yl:pR→Value→Bool
 | .inl k,v=>Value.isInt k v
 | .inr x,v=>Value.isStrOf x v
noncomputable def Pw (w:World):pR→Int
 | .inl k=>hashInt k
 | .inr x=>hashStr w x
theorem xa:∀{k:pR} {v:Value},Yl k v=true→(∃i t,k=Sum.inl i∧v=Value.int i t)∨(∃x t,k=Sum.inr x∧v=Value.str x t)
 | .inl i,v,h=>by
   obtain⟨t,e⟩:=Value.isInt_shape (k:=i) (v:=v) h;exact .inl ⟨i,t,rfl,e⟩
 | .inr x,v,h=>by
   obtain⟨t,e⟩:=Value.isStrOf_shape (x:=x) (v:=v) h;exact .inr ⟨x,t,rfl,e⟩
theorem Xt (i:Int)(t:Tok):Yl (.inl i) (.int i t)=true:=by simp[Yl,Value.isInt]
theorem Rc (a b:Int):decide ((Sum.inl a:pR)=Sum.inl b)=(a == b):=by
 by_cases e:a=b
 ·subst e;simp
 ·have h:¬(Sum.inl a:pR)=Sum.inl b:=fun q=>e (Sum.inl.inj q);rw[saw h];exact(beq_eq_false_iff_ne.mpr e).symm
theorem S9 (a b:Str):decide ((Sum.inr a:pR)=Sum.inr b)=decide (a=b):=by
 by_cases e:a=b
 ·subst e;simp
 ·have h:¬(Sum.inr a:pR)=Sum.inr b:=fun q=>e (Sum.inr.inj q);rw[saw h,saw e]
theorem Ra (a:Int)(b:Str):decide ((Sum.inl a:pR)=Sum.inr b)=false:=saw (fun q=>nomatch q)
theorem S_ (a:Str)(b:Int):decide ((Sum.inr a:pR)=Sum.inl b)=false:=saw (fun q=>nomatch q)
noncomputable def tX (prog:Program)(w:World):PySem.KeyKind prog w pR where
 is:=Yl
 hash:=Pw w
 inj:=fun v a b ha hb=>by
  rcases xa ha with⟨i,t,rfl,rfl⟩|⟨x,t,rfl,rfl⟩
  ·rcases xa hb with⟨j,u,rfl,e⟩|⟨y,u,rfl,e⟩
   ·injection e with e1 _;rw[e1]
   ·exact nomatch e
  ·rcases xa hb with⟨j,u,rfl,e⟩|⟨y,u,rfl,e⟩
   ·exact nomatch e
   ·injection e with e1 _;rw[e1]
 byValue:=fun k v h=>by
  rcases xa h with⟨i,t,rfl,rfl⟩|⟨x,t,rfl,rfl⟩ <;> rfl
 pyHash:=fun hv h=>by
  rcases xa hv with⟨i,t,rfl,rfl⟩|⟨x,t,rfl,rfl⟩
  ·exact wpAny_pyHash_int h
  ·exact wpAny_pyHash_str h
 eqBool:=fun hu hv h=>by
  rcases xa hu with⟨i,t,rfl,rfl⟩|⟨x,t,rfl,rfl⟩
  ·rcases xa hv with⟨j,u,rfl,rfl⟩|⟨y,u,rfl,rfl⟩
   ·rw[Rc]at h;exact wpAny_eqBool_int h
   ·rw[Ra]at h;exact SeqAt.EqAt.int_str i t y u _ _ _ _ h
  ·rcases xa hv with⟨j,u,rfl,rfl⟩|⟨y,u,rfl,rfl⟩
   ·rw[S_]at h;exact SeqAt.EqAt.str_int x t j u _ _ _ _ h
   ·rw[S9]at h;exact wpAny_eqBool_str h
 «strs» :=fun k x t v h=>by
  rcases xa h with⟨i,u,rfl,e⟩|⟨y,u,rfl,e⟩
  ·exact nomatch e
  ·injection e with e1 _
   subst e1
   cases v <;> rfl
inductive V where
 |non|bl (b:Bool)|int (i:Int)|str (x:Str)|byt (b:Array UInt8)|flt (b:UInt64)|ref (a:Addr)|ty (n:String)
 deriving DecidableEq
noncomputable def xm:V→Value→Prop
 | .non,u=>u=Value.none
 | .bl b,u=>u=Value.bool b
 | .int i,u=>∃t,u=Value.int i t
 | .str x,u=>∃t,u=Value.str x t
 | .byt b,u=>∃t,u=Value.bytes b t
 | .flt b,u=>∃t,u=Value.float b t
 | .ref a,u=>u=Value.ref a
 | .ty n,u=>u=Value.type n
noncomputable abbrev yt:List V→List Value→Prop:=Paired xm
theorem yt.length {xs:List V}{us:List Value}(r:yt xs us):xs.length=us.length:=Paired.length r
theorem yt.get:∀{xs:List V} {us:List Value} {i:Nat} {x:V},yt xs us→xs[i]?=some x→∃u,us[i]?=some u∧xm x u
 |_,_,_,_,.nil,e=>by simp at e
 |_,_,0,_,.cons r _,e=>by simp at e;subst e;exact⟨_,rfl,r⟩
 | _,_,i+1,x,.cons _ t,e=>by
   obtain⟨u,h1,h2⟩:=yt.get (i:=i) (x:=x) t (by simpa using e);exact⟨u,by simpa using h1,h2⟩
theorem yt.append:∀{xs ys:List V} {us ws:List Value},yt xs us→yt ys ws→yt (xs++ys) (us++ws)
 |_,_,_,_,.nil,s=>s
 |_,_,_,_,.cons r t,s=>.cons r (yt.append t s)
theorem yt.take:∀{xs:List V} {us:List Value} (n:Nat),yt xs us→yt (xs.take n) (us.take n)
 |_,_,0,_=>.nil
 |_,_,_+1,.nil=>.nil
 |_,_,n+1,.cons r t=>.cons r (yt.take n t)
theorem yt.drop:∀{xs:List V} {us:List Value} (n:Nat),yt xs us→yt (xs.drop n) (us.drop n)
 |_,_,0,r=>r
 |_,_,_+1,.nil=>.nil
 |_,_,n+1,.cons _ t=>yt.drop n t
noncomputable def RU:Option V→Option Value→Prop
 |some v,some u=>xm v u
 |none,none=>True
 |_,_=>False
noncomputable def KV {κ:Type}:List (κ×V)→List (κ×Value)→Prop:=Paired fun(p:κ×V) (q:κ×Value)=>p.1=q.1∧xm p.2 q.2
noncomputable def kV:pR→V
 | .inl i=>.int i
 | .inr x=>.str x
inductive HO where
 |l (xs:List V)
 |tup (xs:List V)
 |dK (kvs:List (pR×V))|dT (kvs:List (List pR×V))
 |set (S:Int→Bool) (n:Nat)
 |ins (C dx:Addr) (fs:List (Str×V))
 |own (x:Addr)
 |xd (fs:List (Str×V))
 |met (f x:Addr)
 |rng (lo hi:Int)
 |frz (o:Obj) (u:HO)
 |tbl (ps:Array Value)
 |ext (φ:Heap→Prop)
noncomputable abbrev Hp:=Addr→Option HO
noncomputable def yW (H:Hp)(a:Addr)(o:HO):Hp:=fun b=>if b=a then some o else H b
theorem zU {H:Hp}{a:Addr}{o:HO}:yW H a o a=some o:=by unfold yW;rw[saf rfl]
theorem zB {H:Hp}{a b:Addr}{o:HO}(h:b≠a):yW H a o b=H b:=by unfold yW;rw[sah h]
theorem Qy {H:Hp}{a b:Addr}{o u:HO}(h:H a=some o)(h':H b=some u)(d:o≠u):a≠b:=by
 intro e;subst e;rw[h]at h';exact d (saI h')
theorem zF {H:Hp}{a b:Addr}{o:HO}(h:H a=some o)(h':H b=none):a≠b:=by
 intro e;subst e;rw[h]at h';cases h'
section
variable (P:Program)(w:World)
noncomputable def vJ (H:Hp)(h:Heap)(a:Addr):HO→Prop
 | .l xs=>xs.length≤sizeLine∧∃(its:List Value) (n:Nat),yt xs its∧h.get? a=some {cls:=.type "list",data:=.seq its.toArray n}
 | .tup xs=>xs.length≤sizeLine∧∃its:List Value,yt xs its∧IsTup h a its.toArray
 | .dK kvs=>kvs.length≤sizeLine∧(a == sysModules)=false∧∃vs,KV kvs vs∧h.DictOf (tX P w) a vs
 | .dT kvs=>kvs.length≤sizeLine∧(a == sysModules)=false∧∃xs:List (List pR×Addr×Value),
  Paired (fun(p:List pR×V) (q:List pR×Addr×Value)=>p.1=q.1∧H q.2.1=some (.tup (p.1.map kV))∧xm p.2 q.2.2) kvs xs ∧
  ∃o es ep,h.get? a=some o∧o.ExactDict∧o.data=.dict es ep∧es.toList=xs.map (entryOfKey (tupleKind (tX P w)))∧(xs.map (·.1)).Nodup
 | .set S n=>h.SetOf (intKind P w) a S n
 | .ins C dx fs=>H dx=some (.own a)∧fs.length≤1000∧dx≠a∧h.get? a=some (PySem.W.instObj C dx) ∧
  ∃mA,h.Ns1 dx mA∧(∀f,RU (fs.lookup f) (mA f))∧PySem.Within mA (fs.map (·.1))
 | .own _=>∃o,h.get? a=some o
 | .xd fs=>∃mA,h.Ns1 a mA∧∀f,RU (fs.lookup f) (mA f)
 | .rng lo hi=>∃t u v,h.get? a=some {cls:=.type "range",data:=.fields #[.int lo t,.int hi u,.int 1 v]}
 | .frz o u=>h.get? a=some o∧vJ H h a u
 | .tbl ps=>h.get? a=some {cls:=.none,data:=.fields ps}
 | .met f x=>h.get? a=some (PySem.W.methodObj (.ref f) (.ref x))
 | .ext φ=>φ h∧(∃o,h.get? a=some o)∧∀h1 h2:Heap,φ h1→(∀o,h1.get? a=some o→h2.get? a=some o)→φ h2
noncomputable def kd (H:Hp)(h:Heap):Prop:=∀a o,H a=some o→vJ P w H h a o
end
section
variable {P:Program}{w:World}{H H':Hp}{h h':Heap}{a:Addr}{o:HO}
theorem vJ.lt (x:vJ P w H h a o):a<h.objs.size:=by
 cases o with
 |l xs=>obtain⟨_,_,_,_,e⟩:=x;exact sai e
 |tup xs=>obtain⟨_,_,_,p⟩:=x;exact p.lt
 |dK kvs=>obtain⟨_,_,_,_,o,_,_,e,_⟩:=x;exact sai e
 |dT kvs=>obtain⟨_,_,_,_,o,_,_,e,_⟩:=x;exact sai e
 |set S n=>obtain⟨o,_,_,_,e,_⟩:=x;exact sai e
 |ins C dx fs=>obtain⟨_,_,_,e,_⟩:=x;exact sai e
 |own y=>obtain⟨_,e⟩:=x;exact sai e
 |xd fs=>obtain⟨_,⟨_,_,_,e,_⟩,_⟩:=x;exact sai e
 |rng lo hi=>obtain⟨_,_,_,e⟩:=x;exact sai e
 |frz ob u=>obtain⟨e,_⟩:=x;exact sai e
 |tbl ps=>exact sai (show h.get? a=some _ from x)
 |met f y=>exact sai (show h.get? a=some _ from x)
 |ext φ=>obtain⟨_,⟨_,e⟩,_⟩:=x;exact sai e
theorem Paired.mapP {α β:Type}{F G:α→β→Prop}:∀{l₁:List α} {l₂:List β},Paired F l₁ l₂→(∀a b,F a b→G a b)→Paired G l₁ l₂
 |_,_,.nil,_=>.nil
 |_,_,.cons r t,f=>.cons (f _ _ r) (Paired.mapP t f)
theorem vJ.stay (x:vJ P w H h a o)(k:∀b u,(b=a∨H b=some (.own a))→h.get? b=some u→h'.get? b=some u)
 (ho:∀b,H b=some (.own a)→H' b=some (.own a)) (ht:∀b xs,H b=some (.tup xs)→H' b=some (.tup xs)):vJ P w H' h' a o:=by
 induction o with
 |l xs=>obtain⟨z,its,n,r,e⟩:=x;exact⟨z,its,n,r,k _ _ (.inl rfl) e⟩
 |tup xs=>obtain⟨z,its,r,ob,e,c⟩:=x;exact⟨z,its,r,ob,k _ _ (.inl rfl) e,c⟩
 |dK kvs=>obtain⟨z,y,vs,r,ob,es,ep,e,c⟩:=x;exact⟨z,y,vs,r,ob,es,ep,k _ _ (.inl rfl) e,c⟩
 | dT kvs=>
   obtain⟨z,y,xs,r,ob,es,ep,e,c⟩:=x;exact⟨z,y,xs,Paired.mapP r fun p q z=>⟨z.1,ht _ _ z.2.1,z.2.2⟩,ob,es,ep,k _ _ (.inl rfl) e,c⟩
 |set S n=>obtain⟨ob,es,ep,t,e,c⟩:=x;exact⟨ob,es,ep,t,k _ _ (.inl rfl) e,c⟩
 | ins C dx fs=>
   obtain⟨d,z,ne,e,mA,⟨od,es,ep,e2,c⟩,r⟩:=x;exact⟨ho _ d,z,ne,k _ _ (.inl rfl) e,mA,⟨od,es,ep,k _ _ (.inr d) e2,c⟩,r⟩
 |own y=>obtain⟨ob,e⟩:=x;exact⟨ob,k _ _ (.inl rfl) e⟩
 |xd fs=>obtain⟨mA,⟨od,es,ep,e,c⟩,r⟩:=x;exact⟨mA,⟨od,es,ep,k _ _ (.inl rfl) e,c⟩,r⟩
 |rng lo hi=>obtain⟨t,u,v,e⟩:=x;exact⟨t,u,v,k _ _ (.inl rfl) e⟩
 |frz ob u ih=>obtain⟨e,q⟩:=x;exact⟨k _ _ (.inl rfl) e,ih q⟩
 | tbl ps=>
   have e:h.get? a=some {cls:=.none,data:=.fields ps}:=x;show h'.get? a=some {cls:=.none,data:=.fields ps};exact k a _ (.inl rfl) e
 | met f y=>
   have e:h.get? a=some (PySem.W.methodObj (.ref f) (.ref y)):=x;show h'.get? a=some (PySem.W.methodObj (.ref f) (.ref y));exact k a _ (.inl rfl) e
 |ext φ=>obtain⟨p,⟨o,e⟩,st⟩:=x;exact⟨st _ _ p fun o q=>k _ _ (.inl rfl) q,⟨o,k _ _ (.inl rfl) e⟩,st⟩
theorem kd.lt (x:kd P w H h)(e:H a=some o):a<h.objs.size:=(x a o e).lt
theorem kd.fresh (x:kd P w H h)(e:h.objs.size≤a):H a=none:=by
 cases q:H a with
 |none=>rfl
 |some u=>exact absurd (saE (x.lt q) e) (sbQ _)
theorem kd.kept (x:kd P w H h)(k:∀b u,h.get? b=some u→h'.get? b=some u):kd P w H h':=fun a o e=>
 (x a o e).stay (fun b u _ q=>k b u q) (fun _ q=>q) fun _ _ q=>q
theorem kd.laid (x:kd P w H h)(k:∀b u,h.get? b=some u→h'.get? b=some u)(hp:h.objs.size≤a)(new:vJ P w (yW H a o) h' a o):kd P w (yW H a o) h':=fun b u e=>by
 have hn:=x.fresh hp;by_cases hb:b=a
 ·subst hb;rw[zU]at e;cases e;exact new
 ·rw[zB hb]at e;exact(x b u e).stay (fun c v _ q=>k c v q) (fun c q=>by rw[zB (zF q hn)];exact q) fun c xs q=>by rw[zB (zF q hn)];exact q
end
noncomputable def Rd (H:Hp)(a:Addr)(u:HO):Prop:=H a=some u∨∃o,H a=some (.frz o u)
theorem Rd.ok {P:Program}{w:World}{H:Hp}{h:Heap}{a:Addr}{u:HO}(r:Rd H a u)(x:kd P w H h):vJ P w H h a u:=by
 rcases r with r|⟨o,r⟩
 ·exact x a u r
 ·obtain⟨_,q⟩:=x a _ r;exact q
noncomputable def Pd:Option HO→Prop
 |some (.l _)=>True
 |some (.dK _)=>True
 |some (.dT _)=>True
 |some (.set _ _)=>True
 |some (.ins _ _ _)=>True
 |some (.ext _)=>True
 |_=>False
section
variable {P:Program}{w:World}{H:Hp}{h h':Heap}{x e:Addr}{o':HO}
theorem kd.write (ok:kd P w H h)(mu:Pd (H x))(he:e=x∨H e=some (.own x))(k:∀b u,b≠e→h.get? b=some u→h'.get? b=some u)(heo:∃u,h'.get? e=some u)
 (new:vJ P w (yW H x o') h' x o'):kd P w (yW H x o') h':=fun b u q=>by
 have nown:∀c y,H c=some (.own y)→c≠x:=fun c y r z=>by subst z;rw[r]at mu;exact mu
 have ntup:∀c xs,H c=some (.tup xs)→c≠x:=fun c xs r z=>by subst z;rw[r]at mu;exact mu
 by_cases hb:b=x
 ·subst hb;rw[zU]at q;cases q;exact new
 ·rw[zB hb]at q;by_cases hbe:b=e
  ·have q':H b=some (.own x):=by
    rcases he with z|z
    ·exact absurd (hbe.trans z) hb
    ·rw[hbe];exact z
   rw[q]at q';cases q';obtain⟨v,hv⟩:=heo;exact⟨v,by rw[hbe];exact hv⟩
  ·refine(ok b u q).stay (fun c v hc r=>k c v ?_ r) (fun c r=>by rw[zB (nown c b r)];exact r) fun c xs r=>by rw[zB (ntup c xs r)];exact r
   rcases hc with rfl|hc
   ·exact hbe
   ·rintro rfl
    rcases he with z|z
    ·exact nown c b hc z
    ·rw[hc]at z;cases z;exact hb rfl
end
structure Un (fs ex:List Addr)(H H':Hp)(h h':Heap):Prop where
 keep:∀b o,h.get? b=some o→H b=none→b∉fs→b∉ex→h'.get? b=some o
 slot:∀b o,h.get? b=some o→H b=none→b∈fs→b∉ex→∃sl,h'.get? b=some {o with slots:=sl}
 free:∀b o,h.get? b=some o→H b=none→b∉ex→H' b=none
 there:∀b o,h.get? b=some o→b∉ex→∃o',h'.get? b=some o'
 tups:∀b xs,H b=some (.tup xs)→H' b=some (.tup xs)
 frzs:∀b o u,H b=some (.frz o u)→H' b=some (.frz o u)
 tbls:∀b ps,H b=some (.tbl ps)→∃more,H' b=some (.tbl (ps++more))
section
variable {fs fs' ex ex':List Addr}{H H1 H2:Hp}{h h1 h2 h':Heap}{a x e:Addr}{o:HO}
theorem Un.any (u:Un fs ex H H1 h h1){b:Addr}{ob:Obj}(q:h.get? b=some ob)(n:H b=none)(hx:b∉ex):∃sl,h1.get? b=some {ob with slots:=sl}:=by
 by_cases hb:b∈fs
 ·exact u.slot b ob q n hb hx
 ·exact⟨ob.slots,u.keep b ob q n hb hx⟩
theorem Un.kept (k:∀b u,h.get? b=some u→h'.get? b=some u):Un fs ex H H h h' :=
 ⟨fun b ob q _ _ _=>k b ob q,fun b ob q _ _ _=>⟨ob.slots,k b ob q⟩,fun _ _ _ n _=>n,fun b ob q _=>⟨ob,k b ob q⟩,fun _ _ q=>q,fun _ _ _ q=>q,fun _ ps q=>⟨#[],by rw[q];simp⟩⟩
theorem Un.refl:Un fs ex H H h h:=Un.kept fun _ _ q=>q
theorem Un.laid (k:∀b u,h.get? b=some u→h'.get? b=some u)(hp:h.objs.size≤a)(hn:H a=none):Un fs ex H (yW H a o) h h' where
 keep:=fun b u q _ _ _=>k b u q
 slot:=fun b u q _ _ _=>⟨u.slots,k b u q⟩
 free:=fun b u q n _=>by rw[zB (saA (saE (sai q) hp))];exact n
 there:=fun b u q _=>⟨u,k b u q⟩
 tups:=fun b xs q=>by rw[zB (zF q hn)];exact q
 frzs:=fun b u xs q=>by rw[zB (zF q hn)];exact q
 tbls:=fun b ps q=>⟨#[],by rw[zB (zF q hn),q];simp⟩
theorem Un.write (mu:Pd (H x))(he:e=x∨H e=some (.own x))(k:∀b u,b≠e→h.get? b=some u→h'.get? b=some u)(heo:∃u,h'.get? e=some u):Un fs ex H (yW H x o) h h':=by
 have hx:∀b,H b=none→b≠x:=fun b n z=>by subst z;rw[n]at mu;exact mu
 have hb:∀b,H b=none→b≠e:=fun b n z=>by
  subst z
  rcases he with r|r
  ·exact hx b n r
  ·rw[n]at r;cases r
 have hm:∀b u,H b=some u→¬Pd (some u)→b≠x:=fun b u q nm z=>by subst z;rw[q]at mu;exact nm mu
 refine⟨fun b u q n _ _=>k b u (hb b n) q,fun b u q n _ _=>⟨u.slots,k b u (hb b n) q⟩,fun b u q n _=>by rw[zB (hx b n)];exact n,fun b u q _=>?_,
  fun b xs q=>by rw[zB (hm b _ q fun z=>z)];exact q,fun b u xs q=>by rw[zB (hm b _ q fun z=>z)];exact q,fun b ps q=>⟨#[],by rw[zB (hm b _ q fun z=>z),q];simp⟩⟩
 by_cases hbe:b=e
 ·subst hbe;exact heo
 ·exact⟨u,k b u hbe q⟩
end
noncomputable def Q5 (h:Heap)(H:Hp):List Addr:=(List.range h.objs.size).filter fun a=>(H a).isSome
noncomputable def eG (h:Heap)(H:Hp):Heap:=PySem.W.hideAll h (Q5 h H)
theorem Xy (h:Heap)(H:Hp):(eG h H).objs.size=h.objs.size:=PySem.W.hideAll_size _ _
theorem VD {h:Heap}{H:Hp}{b:Addr}{o:Obj}(e:h.get? b=some o)(n:H b=none):(eG h H).get? b=some o :=
 PySem.W.hideAll_get _ e fun hm=>by
  have q:(H b).isSome=true:=(saK.mp hm).2;rw[n]at q;simp at q
theorem UX {h:Heap}{H:Hp}{b:Addr}{o:Obj}(e:(eG h H).get? b=some o):h.get? b=some o∧H b=none:=by
 have e':h.get? b=some o:=PySem.W.of_hideAll (Q5 h H) e;refine⟨e',?_⟩
 cases q:H b with
 |none=>rfl
 | some x=>
   have hm:b∈Q5 h H:=saK.mpr ⟨sbb.mpr (sai e'),by simp[q]⟩;have z:(eG h H).get? b=none:=PySem.W.hideAll_none (Q5 h H) hm;rw[z]at e;cases e
noncomputable def TL (g h:Heap)(L:Addr):List (Addr×Obj):=(List.range h.objs.size).filterMap fun a=>if a=L∨(g.get? a).isSome=true then none else(h.get? a).map fun o=>(a,o)
noncomputable def rest (g h:Heap)(L d:Addr):List (Addr×Obj):=(TL g h L).filter fun p=>decide (p.1≠d)
structure Mod (K:Frag)(mg:Str→Option Value)(base:Heap):Prop where
 kin:K.In base
 glob:base.Ns mainGlobals mg
 blt:∃mb,base.Ns builtinsNs mb∧∀x:Str,x ≠ "__name__" → mb x=bootBuiltins x
 nolimit:base.NoLimit
structure Cx where
 prog:Program
 w:World
 K:Frag
 mg:Str→Option Value
 base:Heap
 A:Around
 N:List Str
 s₀:Shared
 H₀:Hp
 env:Env
 outer:List Env
 stack:List Env
 ex:List Addr
 fn:Str→Bool
 calm:Bool
 pn:List (Addr×Obj)
 xe:Value→Shared→Prop
noncomputable def Ys (l:List Env):List Addr:=l.filterMap (·.frame)
noncomputable abbrev Cx.fs (X:Cx):List Addr:=Ys X.outer
noncomputable def Pb (sc:Scope)(x:Str):Prop:=sc.names.lookup x=some .local∨sc.names.lookup x=some .cell∨sc.names.lookup x=some .free
noncomputable def Se (sc:Scope)(x:Str):Prop:=sc.names.lookup x=some .local∨sc.names.lookup x=some .cell
noncomputable def PR (env:Env)(h:Heap)(m:Str→Option Value)(x:Str)(u:Value):Prop :=
 (env.kindOf x=some .local∧m x=some u)∨((env.kindOf x=some .cell∨env.kindOf x=some .free)∧∃c,env.cells.lookup x=some c∧h.IsCell c (some u))
structure Cx.Ok (X:Cx):Prop where
 mod:Mod X.K X.mg X.base
 kind:X.env.scope.kind=.function
 glob:X.env.globals=mainGlobals
 blt:X.env.builtins=builtinsNs
 above:X.s₀.heap.objs.size≤X.env.locals
 inj:∀x y c,X.env.cells.lookup x=some c→X.env.cells.lookup y=some c→x=y
 has:∀x,(X.env.kindOf x=some .cell∨X.env.kindOf x=some .free)→∃c,X.env.cells.lookup x=some c
 cab:∀x c,X.fn x=true→X.env.cells.lookup x=some c→X.s₀.heap.objs.size≤c
 hd:X.calm=true→X.A.handled=none
 frames:X.A.frames=some X.stack
 stk:X.stack=X.outer∨(X.stack=X.env::X.outer∧X.env.frame=some X.env.locals)
 exf:∀b∈X.ex,b≠X.env.locals∧∀x c,X.env.cells.lookup x=some c→c≠b
 bs:∀b o,X.base.get? b=some o→X.s₀.heap.get? b=some o∧X.H₀ b=none
 bsz:X.base.objs.size≤X.s₀.heap.objs.size
 noex:∀b o,X.base.get? b=some o→b∉X.ex
 exfs:∀b∈X.ex,b∉X.fs
 funs:X.s₀.heap.FunFrames X.base X.outer
 frf:∀b∈X.fs,X.H₀ b=none
structure Inv (X:Cx)(pins:List (Addr×Obj))(σ:List (Option V))(H:Hp)(s:Shared):Prop where
 ok:X.Ok
 os:s.os=X.s₀.os
 bare:AllBare s.gens
 base:Un X.fs X.ex X.H₀ H X.s₀.heap s.heap
 loc:∃m,s.heap.Ns X.env.locals m∧∀(i:Nat) (x:Str) (v:V),X.N[i]?=some x→σ[i]?=some (some v)→Pb X.env.scope x→∃u,xm v u∧PR X.env s.heap m x u
 cell:∀x c,X.env.cells.lookup x=some c→∃v,s.heap.IsCell c v
 free:H X.env.locals=none
 freeC:∀x c,X.env.cells.lookup x=some c→H c=none
 pin:∀p∈X.pn++pins,s.heap.get? p.1=some p.2∧H p.1=none∧p.1≠X.env.locals∧p.1∉X.fs∧∀v,p.2.data≠.cell v
 hok:kd X.prog X.w H s.heap
 len:σ.length=X.N.length
section
variable {X:Cx}{pins:List (Addr×Obj)}{σ:List (Option V)}{H H':Hp}{s:Shared}{h':Heap}
theorem Cx.Ok.nofr (ok:X.Ok){b:Addr}{o:Obj}(e:X.base.get? b=some o):b∉X.fs:=fun hb=>by
 have:=(ok.funs.mem hb).1;rw[e]at this;cases this
theorem Inv.bs (I:Inv X pins σ H s):∀b o,X.base.get? b=some o→s.heap.get? b=some o∧H b=none:=fun b o e=>
 ⟨I.base.keep b o (I.ok.bs b o e).1 (I.ok.bs b o e).2 (I.ok.nofr e) (I.ok.noex b o e),I.base.free b o (I.ok.bs b o e).1 (I.ok.bs b o e).2 (I.ok.noex b o e)⟩
theorem Inv.bk (I:Inv X pins σ H s):∀b o,X.base.get? b=some o→s.heap.get? b=some o:=fun b o e=>(I.bs b o e).1
theorem Inv.mod (I:Inv X pins σ H s):Mod X.K X.mg X.base:=I.ok.mod
theorem Inv.kIn (I:Inv X pins σ H s):X.K.In s.heap:=I.ok.mod.kin.keeps I.bk
theorem Inv.lt (I:Inv X pins σ H s):X.env.locals<s.heap.objs.size:=let ⟨_,hn,_⟩:=I.loc;hn.lt
theorem Inv.sz (I:Inv X pins σ H s):X.s₀.heap.objs.size≤s.heap.objs.size:=sbH I.ok.above (scb I.lt)
theorem Inv.nofs (I:Inv X pins σ H s){a:Addr}(h:s.heap.objs.size≤a):a∉X.fs:=fun hb=>by
 obtain⟨_,o,ho,_⟩:=I.ok.funs.mem hb;exact absurd (saE (sai ho) (sbH I.sz h)) (sbQ _)
theorem Inv.cne (I:Inv X pins σ H s):∀x c,X.env.cells.lookup x=some c→c≠X.env.locals:=fun x c e z=>by
 obtain⟨v,o,ho,hd⟩:=I.cell x c e;obtain⟨m,⟨o',es,ep,ho',hd',_⟩,_⟩:=I.loc;rw[z,ho']at ho;cases ho;rw[hd']at hd;cases hd
theorem Inv.funs (I:Inv X pins σ H s):s.heap.FunFrames X.base X.outer:=by
 have all:∀(l:List Env),(∀b∈Ys l,b∈X.fs)→X.s₀.heap.FunFrames X.base l→s.heap.FunFrames X.base l:=by
  intro l
  induction l with
  |nil=>intro _ _;trivial
  | cons env r ih=>
    intro hs hl;obtain⟨hk,⟨L,o,hf,hn,ho,hd⟩,hr⟩:=hl;have hL:L∈X.fs:=hs L (by unfold Ys;rw[List.filterMap_cons,hf];exact saB);obtain⟨sl,e⟩:=I.base.slot L o ho (I.ok.frf L hL) hL fun z=>I.ok.exfs L z hL;exact⟨hk,⟨L,_,hf,hn,e,hd⟩,ih (fun b hb=>hs b (by unfold Ys;rw[List.filterMap_cons,hf];exact sao _ hb)) hr⟩
 exact all X.outer (fun _ hb=>hb) I.ok.funs
theorem Inv.stack (I:Inv X pins σ H s):s.heap.FunFrames X.base X.stack:=by
 rcases I.ok.stk with e|⟨e,hf⟩
 ·rw[e];exact I.funs
 ·rw[e];obtain⟨m,hn,_⟩:=I.loc;refine .cons (by rw[I.ok.kind];decide) hf hn ?_ I.funs;exact Heap.get?_none_of_le (sbH I.ok.bsz I.ok.above)
theorem Inv.stkSub (I:Inv X pins σ H s):∀b∈Ys X.stack,b∈X.env.locals::X.fs:=fun b hb=>by
 rcases I.ok.stk with e|⟨e,hf⟩
 ·rw[e]at hb;exact sao _ hb
 ·rw[e]at hb;unfold Ys at hb;rw[List.filterMap_cons,hf]at hb;exact hb
theorem Inv.stkFree (I:Inv X pins σ H s):∀b∈Ys X.stack,H b=none:=fun b hb=>by
 rcases saj.mp (I.stkSub b hb)with e|hb
 ·rw[e];exact I.free
 ·obtain⟨_,o,ho,_⟩:=I.ok.funs.mem hb;exact I.base.free b o ho (I.ok.frf b hb) fun z=>I.ok.exfs b z hb
theorem Inv.step {g':Array GenState}{t':Nat}{d':Drawn}{ch:List Addr}(I:Inv X pins σ H s)
 (hch:∀b∈ch,(b∈X.ex∨X.s₀.heap.objs.size≤b)∧b≠X.env.locals∧(∀x c,X.env.cells.lookup x=some c→c≠b)∧∀p∈X.pn++pins,p.1≠b)
 (keep:∀b o,b≠X.env.locals→b∉X.fs→b∉ch→s.heap.get? b=some o→H b=none→h'.get? b=some o)
 (slot:∀b o,b≠X.env.locals→b∈X.fs→b∉ch→s.heap.get? b=some o→H b=none→∃sl,h'.get? b=some {o with slots:=sl}) (free:∀b o,b∉ch→s.heap.get? b=some o→H b=none→H' b=none)
 (there:∀b o,b∉ch→s.heap.get? b=some o→∃o',h'.get? b=some o')
 (tups:∀b xs,H b=some (.tup xs)→H' b=some (.tup xs)) (frzs:∀b o u,H b=some (.frz o u)→H' b=some (.frz o u)) (tbls:∀b ps,H b=some (.tbl ps)→∃more,H' b=some (.tbl (ps++more)))
 (ns:∀m,s.heap.Ns X.env.locals m→h'.Ns X.env.locals m) (hok:kd X.prog X.w H' h') (hg:AllBare g') :
 Inv X pins σ H' {s with heap:=h',gens:=g',drawn:=d',toks:=t'}:=by
 have neL:∀b o,X.s₀.heap.get? b=some o→b≠X.env.locals:=fun b o e=>saA (saE (sai e) I.ok.above)
 have neC:∀b o,X.s₀.heap.get? b=some o→b∉X.ex→b∉ch:=fun b o e hx hb=>by
  rcases(hch b hb).1 with z|z
  ·exact hx z
  ·exact absurd (saE (sai e) z) (sbQ _)
 have qS:∀x c,X.env.cells.lookup x=some c→∀v,s.heap.IsCell c v→h'.IsCell c v:=fun x c e v ⟨o,ho,hd⟩=>by
  have nch:c∉ch:=fun z=>(hch c z).2.2.1 x c e rfl;by_cases hc:c∈X.fs
  ·obtain⟨sl,q⟩:=slot c o (I.cne x c e) hc nch ho (I.freeC x c e);exact⟨_,q,hd⟩
  ·exact⟨o,keep c o (I.cne x c e) hc nch ho (I.freeC x c e),hd⟩
 refine⟨I.ok,I.os,hg,⟨fun b o e n hb hx=>?_,fun b o e n hb hx=>?_,fun b o e n hx=>?_,fun b o e hx=>?_,fun b xs e=>tups b xs (I.base.tups b xs e),fun b o xs e=>frzs b o xs (I.base.frzs b o xs e),fun b ps e=>?_⟩,?_,fun x c e=>?_,?_,fun x c e=>?_,fun p hp=>?_,hok,I.len⟩
 ·exact keep b o (neL b o e) hb (neC b o e hx) (I.base.keep b o e n hb hx) (I.base.free b o e n hx)
 ·obtain⟨sl,e1⟩:=I.base.slot b o e n hb hx;obtain⟨sl',e2⟩:=slot b _ (neL b o e) hb (neC b o e hx) e1 (I.base.free b o e n hx);exact⟨sl',e2⟩
 ·obtain⟨o',e1⟩:=I.base.there b o e hx;exact free b o' (neC b o e hx) e1 (I.base.free b o e n hx)
 ·obtain⟨o',e1⟩:=I.base.there b o e hx;exact there b o' (neC b o e hx) e1
 ·obtain⟨m1,e1⟩:=I.base.tbls b ps e;obtain⟨m2,e2⟩:=tbls b _ e1;exact⟨m1++m2,by rw[e2,Array.append_assoc]⟩
 ·obtain⟨m,hn,hl⟩:=I.loc;refine⟨m,ns m hn,fun i x v e1 e2 e3=>?_⟩;obtain⟨u,r,l⟩:=hl i x v e1 e2 e3;refine⟨u,r,?_⟩
  rcases l with l|⟨k,c,e,z⟩
  ·exact .inl l
  ·exact .inr ⟨k,c,e,qS x c e _ z⟩
 ·obtain⟨v,z⟩:=I.cell x c e;exact⟨v,qS x c e v z⟩
 ·obtain⟨m,⟨o,_,_,ho,_⟩,_⟩:=I.loc;exact free _ o (fun z=>(hch _ z).2.1 rfl) ho I.free
 ·obtain⟨v,o,ho,hd⟩:=I.cell x c e;exact free c o (fun z=>(hch c z).2.2.1 x c e rfl) ho (I.freeC x c e)
 ·obtain⟨e,n,ne,nf,d⟩:=I.pin p hp;have nch:p.1∉ch:=fun z=>(hch p.1 z).2.2.2 p hp rfl;exact⟨keep p.1 p.2 ne nf nch e n,free p.1 p.2 nch e n,ne,nf,d⟩
theorem Inv.un {t':Nat}(I:Inv X pins σ H s)(u:Un X.fs [] H H' s.heap h')(hok:kd X.prog X.w H' h'):Inv X pins σ H' {s with heap:=h',toks:=t'}:=by
 obtain⟨m,⟨o,es,ep,ho,r⟩,_⟩:=id I.loc;obtain⟨sl,hL⟩:=u.any ho I.free (by simp)
 exact I.step (g':=s.gens) (d':=s.drawn) (ch:=[]) (fun _ z=>nomatch z) (fun b o _ hb _ e n=>u.keep b o e n hb (by simp)) (fun b o _ hb _ e n=>u.slot b o e n hb (by simp)) (fun b o _ e n=>u.free b o e n (by simp)) (fun b o _ e=>u.there b o e (by simp)) u.tups u.frzs u.tbls (fun m' hm=>by
  obtain⟨o',es',ep',ho',r'⟩:=hm;rw[ho]at ho';cases ho'
  exact⟨_,es',ep',hL,r'⟩) hok I.bare
theorem Inv.call {g':Array GenState}{t':Nat}{d':Drawn}{ch:List Addr}(I:Inv X pins σ H s)(u:Un (Ys X.stack) ch H H' s.heap h')(hok:kd X.prog X.w H' h')(hg:AllBare g')
 (hch:∀b∈ch,(b∈X.ex∨X.s₀.heap.objs.size≤b)∧b≠X.env.locals∧(∀x c,X.env.cells.lookup x=some c→c≠b)∧∀p∈X.pn++pins,p.1≠b) :
 Inv X pins σ H' {s with heap:=h',gens:=g',drawn:=d',toks:=t'}:=by
 obtain⟨m,⟨o,es,ep,ho,r⟩,_⟩:=id I.loc;obtain⟨sl,hL⟩:=u.any ho I.free fun z=>(hch _ z).2.1 rfl
 exact I.step (ch:=ch) hch (fun b o hL hb hc e n=>u.keep b o e n (fun z=>(saj.mp (I.stkSub b z)).elim hL hb) hc) (fun b o _ _ hc e n=>u.any e n hc) (fun b o hc e n=>u.free b o e n hc) (fun b o hc e=>u.there b o e hc) u.tups u.frzs u.tbls (fun m' hm=>by
  obtain⟨o',es',ep',ho',r'⟩:=hm;rw[ho]at ho';cases ho'
  exact⟨_,es',ep',hL,r'⟩) hok hg
theorem Inv.turned {t':Nat}{it:Addr}(I:Inv X pins σ H s)(k:∀b o,b≠it→s.heap.get? b=some o→h'.get? b=some o)(hn:H it=none)(hL:it≠X.env.locals)
 (h1:it∈X.ex∨X.s₀.heap.objs.size≤it) (h2:∀x c,X.env.cells.lookup x=some c→c≠it) (h3:∀p∈X.pn++pins,p.1≠it):Inv X pins σ H {s with heap:=h',toks:=t'}:=by
 have nit:∀b u,H b=some u→b≠it:=fun b u e z=>by rw[z,hn]at e;cases e
 refine I.step (g':=s.gens) (d':=s.drawn) (ch:=[it]) (fun b hb=>?_) (fun b o _ _ hc e _=>k b o (fun z=>hc (by simp[z])) e) (fun b o _ _ hc e _=>⟨o.slots,k b o (fun z=>hc (by simp[z])) e⟩) (fun _ _ _ _ n=>n)
  (fun b o hc e=>⟨o,k b o (fun z=>hc (by simp[z])) e⟩) (fun _ _ e=>e) (fun _ _ _ e=>e) (fun b ps e=>⟨#[],by rw[e];simp⟩) (fun m hm=>?_) (fun b u e=>?_) I.bare
 ·have e:b=it:=by simpa using hb
  subst e;exact⟨h1,hL,h2,h3⟩
 ·obtain⟨o,es,ep,ho,r⟩:=hm;exact⟨o,es,ep,k _ o (scJ hL) ho,r⟩
 ·refine(I.hok b u e).stay (fun c v hc q=>k c v ?_ q) (fun _ q=>q) fun _ _ q=>q
  rcases hc with z|z
  ·rw[z];exact nit b u e
  ·exact nit c _ z
theorem Inv.tok (I:Inv X pins σ H s)(t:Nat):Inv X pins σ H {s with toks:=t}:=I.un (h':=s.heap) (t':=t) Un.refl I.hok
theorem Inv.kept {t':Nat}(I:Inv X pins σ H s)(k:∀b u,s.heap.get? b=some u→h'.get? b=some u):Inv X pins σ H {s with heap:=h',toks:=t'}:=I.un (Un.kept k) (I.hok.kept k)
theorem Inv.laid {a:Addr}{o:HO}{t':Nat}(I:Inv X pins σ H s)(k:∀b u,s.heap.get? b=some u→h'.get? b=some u)(hp:s.heap.objs.size≤a)(new:vJ X.prog X.w (yW H a o) h' a o) :
 Inv X pins σ (yW H a o) {s with heap:=h',toks:=t'}:=I.un (Un.laid k hp (I.hok.fresh hp)) (I.hok.laid k hp new)
theorem Inv.write {x e:Addr}{o:HO}{t':Nat}(I:Inv X pins σ H s)(mu:Pd (H x))(he:e=x∨H e=some (.own x))(k:∀b u,b≠e→s.heap.get? b=some u→h'.get? b=some u)(heo:∃u,h'.get? e=some u)
 (new:vJ X.prog X.w (yW H x o) h' x o):Inv X pins σ (yW H x o) {s with heap:=h',toks:=t'}:=I.un (Un.write mu he k heo) (I.hok.write mu he k heo new)
theorem Inv.pins_of {pins':List (Addr×Obj)}(I:Inv X pins σ H s)(h:∀p∈pins',s.heap.get? p.1=some p.2∧H p.1=none∧p.1≠X.env.locals∧p.1∉X.fs∧∀v,p.2.data≠.cell v):Inv X pins' σ H s :=
 ⟨I.ok,I.os,I.bare,I.base,I.loc,I.cell,I.free,I.freeC,fun p hp=>(san.mp hp).elim (fun z=>I.pin p (sce _ z)) (h p),I.hok,I.len⟩
theorem cE {N:List Str}(hN:N.Nodup){i j:Nat}{x:Str}(a:N[i]?=some x)(b:N[j]?=some x):i=j:=by
 obtain⟨h1,e1⟩:=sak.mp a;obtain⟨h2,e2⟩:=sak.mp b;exact(List.getElem_inj hN).mp (e1.trans e2.symm)
theorem iZ {M:Model}{A:Around}{E:Value→Shared→Prop}{i:Nat}{x:Str}{v:V}{u:Value}{Q:Unit→Shared→Prop}(I:Inv X pins σ H s)(hN:X.N.Nodup)(hi:X.N[i]?=some x)(hx:Se X.env.scope x)(r:xm v u)
 (h:∀s',Inv X pins (σ.set i (some v)) H s'→(∃a,Heap.SameBut a s.heap s'.heap∧(a=X.env.locals∨X.env.cells.lookup x=some a))→Q () s') (hf:X.fn x=true∨X.env.scope.names.lookup x=some .local:=by first|exact .inl rfl|exact .inr rfl|assumption):wpAny M A (storeName X.env x u) Q E s:=by
 obtain⟨m,hn,hl⟩:=id I.loc;have hcls:(X.env.scope.kind == .class ||(X.env.scope.kind == .module&&X.env.locals != X.env.globals))=false:=by rw[I.ok.kind];rfl
 have hiσ:i < σ.length:=by rw[I.len];exact(sak.mp hi).1
 have cne:=I.cne
 have tracked:∀{a:Addr} {h':Heap},(∃o,s.heap.get? a=some o∧H a=none)→Heap.SameBut a s.heap h'→kd X.prog X.w H h':=fun {a h'} ha hs b ob e=>by
  obtain⟨_,_,hfree⟩:=ha;refine(I.hok b ob e).stay (fun c w' hc q=>(hs.2 c ?_).trans q) (fun _ q=>q) fun _ _ q=>q;rintro rfl
  rcases hc with rfl|hc
  ·rw[hfree]at e;cases e
  ·rw[hfree]at hc;cases hc
 rcases hx with hk|hk
 ·refine wpAny_storeName_local hk hn (fun h' hn' hs=>?_) hcls;obtain⟨oL,_,_,hoL,_⟩:=id hn;refine h _ ⟨I.ok,I.os,I.bare,⟨fun b o e n hb hx=>?_,fun b o e n hb hx=>?_,I.base.free,fun b o e hx=>?_,I.base.tups,I.base.frzs,I.base.tbls⟩,⟨_,hn',fun j y v' e1 e2 e3=>?_⟩,fun y c e=>?_,I.free,I.freeC,fun p hp=>?_,tracked ⟨oL,hoL,I.free⟩ hs,by simpa using I.len⟩ ⟨_,hs,.inl rfl⟩
  ·exact(hs.2 b (saA (saE (sai e) I.ok.above))).trans (I.base.keep b o e n hb hx)
  ·obtain⟨sl,e1⟩:=I.base.slot b o e n hb hx;exact⟨sl,(hs.2 b (saA (saE (sai e) I.ok.above))).trans e1⟩
  ·obtain⟨o',e1⟩:=I.base.there b o e hx;exact⟨o',(hs.2 b (saA (saE (sai e) I.ok.above))).trans e1⟩
  ·by_cases hj:j=i
   ·subst hj;rw[hi]at e1;cases e1;rw[List.getElem?_set_self hiσ]at e2;cases e2;exact⟨u,r,.inl ⟨hk,by simp⟩⟩
   ·rw[sas (scJ hj)]at e2;obtain⟨u',r',q⟩:=hl j y v' e1 e2 e3;refine⟨u',r',?_⟩
    rcases q with⟨k,e⟩|⟨k,c,e,z⟩
    ·refine .inl ⟨k,?_⟩;have:y≠x:=fun e=>hj (cE hN e1 (e ▸ hi));simp[this,e]
    ·exact .inr ⟨k,c,e,z.sameBut hs (cne y c e)⟩
  ·obtain⟨w',z⟩:=I.cell y c e;exact⟨w',z.sameBut hs (cne y c e)⟩
  ·obtain⟨e,n,ne,nf,d⟩:=I.pin p hp;exact⟨(hs.2 p.1 ne).trans e,n,ne,nf,d⟩
 ·have hfn:X.fn x=true:=by
   rcases hf with z|z
   ·exact z
   ·rw[z]at hk;cases hk
  obtain⟨c,hc⟩:=I.ok.has x (.inl hk);obtain⟨w',z⟩:=I.cell x c hc;refine wpAny_storeName_cell I.ok.kind hk hc z (fun h' hc' hs=>?_);obtain⟨oc,hoc,hocd⟩:=id z;refine h {s with heap:=h'} ⟨I.ok,I.os,I.bare,⟨fun b o e n hb hx=>?_,fun b o e n hb hx=>?_,I.base.free,fun b o e hx=>?_,I.base.tups,I.base.frzs,I.base.tbls⟩,⟨m,hn.sameBut hs (scJ (cne x c hc)),fun j y v' e1 e2 e3=>?_⟩,fun y c' e=>?_,I.free,I.freeC,fun p hp=>?_,tracked ⟨oc,hoc,I.freeC x c hc⟩ hs,by simpa using I.len⟩ ⟨c,hs,.inr hc⟩
  ·exact(hs.2 b (saA (saE (sai e) (I.ok.cab x c hfn hc)))).trans (I.base.keep b o e n hb hx)
  ·obtain⟨sl,e1⟩:=I.base.slot b o e n hb hx;exact⟨sl,(hs.2 b (saA (saE (sai e) (I.ok.cab x c hfn hc)))).trans e1⟩
  ·obtain⟨o',e1⟩:=I.base.there b o e hx;exact⟨o',(hs.2 b (saA (saE (sai e) (I.ok.cab x c hfn hc)))).trans e1⟩
  ·by_cases hj:j=i
   ·subst hj;rw[hi]at e1;cases e1;rw[List.getElem?_set_self hiσ]at e2;cases e2;exact⟨u,r,.inr ⟨.inl hk,c,hc,hc'⟩⟩
   ·rw[sas (scJ hj)]at e2;obtain⟨u',r',q⟩:=hl j y v' e1 e2 e3;refine⟨u',r',?_⟩
    rcases q with q|⟨k,c',e,z'⟩
    ·exact .inl q
    ·refine .inr ⟨k,c',e,z'.sameBut hs ?_⟩;rintro rfl;exact hj (cE hN e1 (I.ok.inj _ _ _ e hc ▸ hi))
  ·by_cases hcc:c'=c
   ·subst hcc;exact⟨_,hc'⟩
   ·obtain⟨w2,z2⟩:=I.cell y c' e;exact⟨w2,z2.sameBut hs hcc⟩
  ·obtain⟨e,n,ne,nf,d⟩:=I.pin p hp;refine⟨(hs.2 p.1 ?_).trans e,n,ne,nf,d⟩;intro q;rw[q,hoc]at e;have q':oc=p.2:=saI e;exact d w' (by rw[←q'];exact hocd)
theorem d0 {M:Model}{A:Around}{E:Value→Shared→Prop}{i:Nat}{x:Str}{v:V}{u:Value}{Q:Unit→Shared→Prop}(I:Inv X pins σ H s)(hN:X.N.Nodup)(hi:X.N[i]?=some x)(hx:Se X.env.scope x)(r:xm v u)
 (h:∀s',Inv X pins (σ.set i (some v)) H s'→Q () s') (hf:X.fn x=true∨X.env.scope.names.lookup x=some .local:=by first|exact .inl rfl|exact .inr rfl|assumption):wpAny M A (storeName X.env x u) Q E s :=
 iZ I hN hi hx r (fun s' I' _=>h s' I') hf
theorem Inv.call' {s':Shared}{ch:List Addr}(I:Inv X pins σ H s)(ho:s'.os=s.os)(u:Un (Ys X.stack) ch H H' s.heap s'.heap)(hok:kd X.prog X.w H' s'.heap)(hg:AllBare s'.gens)
 (hch:∀b∈ch,(b∈X.ex∨X.s₀.heap.objs.size≤b)∧b≠X.env.locals∧(∀x c,X.env.cells.lookup x=some c→c≠b)∧∀p∈X.pn++pins,p.1≠b):Inv X pins σ H' s':=by
 obtain⟨h',g',d',t',o'⟩:=s';have e:o'=s.os:=ho;subst e;exact I.call (g':=g') (t':=t') (d':=d') u hok hg hch
end
noncomputable abbrev XK:=Value→Option Addr→Hp→Prop
noncomputable abbrev St:=List (Option V)
noncomputable abbrev VK:=V→Hp→Prop
noncomputable abbrev TE:=St→Hp→VK→Prop
noncomputable abbrev TT:=St→Hp→(Bool→Hp→Prop)→Prop
noncomputable abbrev TA:=St→Hp→(List V→Hp→Prop)→Prop
structure Ends where
 nx:St→Hp→Prop
 rt:VK
 bk:St→Hp→Prop:=fun _ _=>False
 ct:St→Hp→Prop:=fun _ _=>False
noncomputable abbrev TS:=Ends→St→Hp→Prop
noncomputable def EP (X:Cx)(pins:List (Addr×Obj))(σ:St)(Q:VK)(u:Value)(s':Shared):Prop:=∃v H',Inv X pins σ H' s'∧xm v u∧Q v H'
noncomputable def TP (X:Cx)(pins:List (Addr×Obj))(σ:St)(Q:Bool→Hp→Prop)(b:Bool)(s':Shared):Prop:=∃H',Inv X pins σ H' s'∧Q b H'
noncomputable def AP (X:Cx)(pins:List (Addr×Obj))(σ:St)(Q:List V→Hp→Prop)(us:List Value)(s':Shared):Prop:=∃vs H',Inv X pins σ H' s'∧yt vs us∧Q vs H'
noncomputable def SP (X:Cx)(pins:List (Addr×Obj))(D:Ends)(f:Flow)(s':Shared):Prop :=
 match f with
 | .next=>∃σ' H',Inv X pins σ' H' s'∧D.nx σ' H'
 | .brk=>∃σ' H',Inv X pins σ' H' s'∧D.bk σ' H'
 | .cont=>∃σ' H',Inv X pins σ' H' s'∧D.ct σ' H'
 | .ret u=>∃v σ' H',Inv X pins σ' H' s'∧xm v u∧D.rt v H'
noncomputable def PE (X:Cx)(e:Expr)(t:TE):Prop :=
 ∀(pins:List (Addr×Obj)) (s:Shared) (σ:St) (H:Hp) (Q:VK),Inv X pins σ H s→t σ H Q→wpAny (model X.prog X.w) X.A (eval e X.env) (EP X pins σ Q) X.xe s
noncomputable def PT (X:Cx)(e:Expr)(t:TT):Prop :=
 ∀(pins:List (Addr×Obj)) (s:Shared) (σ:St) (H:Hp) (Q:Bool→Hp→Prop),Inv X pins σ H s→t σ H Q→wpAny (model X.prog X.w) X.A (isTrue e X.env (eval e X.env)) (TP X pins σ Q) X.xe s
noncomputable def PW (X:Cx)(e:Expr)(t:TT):Prop :=
 ∀(whole:Sem Value) (pins:List (Addr×Obj)) (s:Shared) (σ:St) (H:Hp) (Q:Bool→Hp→Prop),Inv X pins σ H s→t σ H Q→wpAny (model X.prog X.w) X.A (isTrue e X.env whole) (TP X pins σ Q) X.xe s
theorem PW.pt {X:Cx}{e:Expr}{t:TT}(h:PW X e t):PT X e t:=h _
noncomputable def PA (X:Cx)(es:List Expr)(t:TA):Prop :=
 ∀(pos:Pos) (pins:List (Addr×Obj)) (s:Shared) (σ:St) (H:Hp) (Q:List V→Hp→Prop),Inv X pins σ H s→t σ H Q→wpAny (model X.prog X.w) X.A (spliced (backTo pos (starEach es X.env))) (AP X pins σ Q) X.xe s
noncomputable def PS (X:Cx)(st:Stmt)(t:TS):Prop :=
 ∀(pins:List (Addr×Obj)) (s:Shared) (σ:St) (H:Hp) (D:Ends),Inv X pins σ H s→t D σ H→wpAny (model X.prog X.w) X.A (exec st X.env) (SP X pins D) X.xe s
noncomputable def dN (X:Cx)(st:List Stmt)(t:TS):Prop :=
 ∀(pins:List (Addr×Obj)) (s:Shared) (σ:St) (H:Hp) (D:Ends),Inv X pins σ H s→t D σ H→wpAny (model X.prog X.w) X.A (execs st X.env) (SP X pins D) X.xe s
theorem we {α:Type}{t:Sem α}{Q Q':α→Shared→Prop}{M:Model}{A:Around}{E:Value→Shared→Prop}{s:Shared}(h:wpAny M A t Q E s)(hQ:∀a s,Q a s→Q' a s):wpAny M A t Q' E s:=scE h hQ fun _ _ x=>x
section
variable {X:Cx}
theorem Oo {a b:Expr}{ta tb:TE}(ha:PE X a ta)(hb:PE X b tb){pins:List (Addr×Obj)}{s:Shared}{σ:St}{H:Hp}{R:V→V→Hp→Prop}(I:Inv X pins σ H s)(h:ta σ H fun x H1=>tb σ H1 fun y H2=>R x y H2)
 {α:Type} {Q:α→Shared→Prop} {f:Value→Value→Sem α}
 (hf:∀v u s2 x y H2,Inv X pins σ H2 s2→xm x v→xm y u→R x y H2→wpAny (model X.prog X.w) X.A (f v u) Q X.xe s2) :
 wpAny (model X.prog X.w) X.A (eval a X.env) (fun v s₁=>wpAny (model X.prog X.w) X.A (eval b X.env) (fun u s₂=>wpAny (model X.prog X.w) X.A (f v u) Q X.xe s₂) X.xe s₁) X.xe s:=by
 refine we (ha pins s σ H _ I h) fun v s1 ⟨x,H1,I1,r1,q1⟩=>?_;refine we (hb pins s1 σ H1 _ I1 q1) fun u s2 ⟨y,H2,I2,r2,q2⟩=>?_;exact hf v u s2 x y H2 I2 r1 r2 q2
noncomputable def qB (i:Nat):TE:=fun σ H Q=>∃v,σ[i]?=some (some v)∧Q v H
noncomputable def tC (v:V):TE:=fun _ H Q=>Q v H
theorem SJ {i:Nat}{x:Str}{pos:Pos}(hN:X.N[i]?=some x)(hv:Pb X.env.scope x)(hd:(x == ("__debug__" : Str))=false:=by decide) (hcd:(x == ("__classdict__" : Str))=false:=by decide):PE X (.Name x pos) (qB i):=by
 intro pins s σ H Q I h;obtain⟨v,e,h⟩:=h;obtain⟨m,hn,hl⟩:=I.loc;obtain⟨u,r,l⟩:=hl i x v hN e hv
 have fin:EP X pins σ Q u s:=⟨v,H,I,r,h⟩
 rcases l with⟨hk,hm⟩|⟨hk,c,hc,hcell⟩
 ·exact wpAny_Name (wpAny_loadName_local I.ok.kind hk hn hm fin) hd
 ·rcases hk with hk|hk
  ·exact wpAny_Name (wpAny_loadName_cell I.ok.kind hk hc hcell fin) hd
  ·exact wpAny_Name (wpAny_loadName_free I.ok.kind hk hc hcell fin hcd) hd
theorem SN {i j pos}:PE X (.Constant (.int i) j pos) (tC (.int i)):=fun _ _ _ H _ I h=>wpAny_Constant_int ⟨.int i,H,I.tok _,⟨_,rfl⟩,h⟩
theorem Qr {b j pos}:PE X (.Constant (.bool b) j pos) (tC (.bl b)):=fun _ _ _ H _ I h=>Constant_bool ⟨.bl b,H,I,rfl,h⟩
theorem SM {j pos}:PE X (.Constant .none j pos) (tC .non):=fun _ _ _ H _ I h=>Constant_none ⟨.non,H,I,rfl,h⟩
noncomputable def Gl (X:Cx)(x:Str):Prop:=X.env.kindOf x=some .globalImplicit
theorem U3 {E:Value→Shared→Prop}{pins:List (Addr×Obj)}{s:Shared}{σ:St}{H:Hp}{x:Str}{u:Value}{pos:Pos}{Q:Value→Shared→Prop}(I:Inv X pins σ H s)(hg:Gl X x)(hm:X.mg x=some u)(h:Q u s)
 (hd:(x == ("__debug__" : Str))=false:=by decide):wpAny (model X.prog X.w) X.A (eval (.Name x pos) X.env) Q E s :=
 Calls.Name_function_global I.ok.kind hg (Calls.loadGlobal_global (by rw[I.ok.glob];exact I.mod.glob.keeps I.bk) hm h) hd
theorem u7 {E:Value→Shared→Prop}{pins:List (Addr×Obj)}{s:Shared}{σ:St}{H:Hp}{x:Str}{u:Value}{pos:Pos}{Q:Value→Shared→Prop}(I:Inv X pins σ H s)(hg:Gl X x)(hm:X.mg x=none)(hv:bootBuiltins x=some u)(h:Q u s)
 (hn:x ≠ "__name__" :=by decide) (hd:(x == ("__debug__" : Str))=false:=by decide):wpAny (model X.prog X.w) X.A (eval (.Name x pos) X.env) Q E s:=by
 obtain⟨mb,h1,h2⟩:=I.mod.blt;exact Calls.Name_function_global I.ok.kind hg (Calls.loadGlobal_builtin (by rw[I.ok.glob];exact I.mod.glob.keeps I.bk) hm (by rw[I.ok.blt];exact h1.keeps I.bk) ((h2 x hn).trans hv) h) hd
variable {a b:Expr}{ta tb:TE}{pos:Pos}
variable {tA tB':TT}{rest:List Expr}
noncomputable def Pp (t u:TT):TT:=fun σ H Q=>t σ H fun c H1=>if c=true then u σ H1 Q else Q false H1
noncomputable def Od (t u:TT):TT:=fun σ H Q=>t σ H fun c H1=>if c=true then Q true H1 else u σ H1 Q
noncomputable def Pn (t:TT):TT:=fun σ H Q=>t σ H fun c H1=>Q (!c) H1
theorem UH (ha:PT X a tA):PW X (.BoolOp .And [a] pos) tA:=by
 intro wh pins s σ H Q I h;refine isTrue_and (we (ha pins s σ H Q I h) fun c s1 e=>?_)
 cases c with
 |true=>exact isTrue_and_nil e
 |false=>exact e
theorem SB (ha:PT X a tA):PW X (.BoolOp .Or [a] pos) tA:=by
 intro wh pins s σ H Q I h;refine isTrue_or (we (ha pins s σ H Q I h) fun c s1 e=>?_)
 cases c with
 |false=>exact isTrue_or_nil e
 |true=>exact e
theorem SC (ha:PT X a tA)(hb:PW X (.BoolOp .And (b::rest) pos) tB'):PW X (.BoolOp .And (a::b::rest) pos) (Pp tA tB'):=by
 intro wh pins s σ H Q I h;refine isTrue_and (we (ha pins s σ H _ I h) fun c s1 ⟨H1,I1,q1⟩=>?_)
 cases c with
 |true=>exact hb wh pins s1 σ H1 Q I1 q1
 |false=>exact⟨H1,I1,q1⟩
theorem Ql (ha:PT X a tA)(hb:PW X (.BoolOp .Or (b::rest) pos) tB'):PW X (.BoolOp .Or (a::b::rest) pos) (Od tA tB'):=by
 intro wh pins s σ H Q I h;refine isTrue_or (we (ha pins s σ H _ I h) fun c s1 ⟨H1,I1,q1⟩=>?_)
 cases c with
 |true=>exact⟨H1,I1,q1⟩
 |false=>exact hb wh pins s1 σ H1 Q I1 q1
theorem SG (ha:PT X a tA):PT X (.UnaryOp .Not a pos) (Pn tA):=by
 intro pins s σ H Q I h;exact isTrue_not (ha pins s σ H (fun c H1=>Q (!c) H1) I h)
noncomputable def Qg (ta tb:TE):TE:=fun σ H Q=>ta σ H fun x H1=>∃c,x=.bl c∧if c=true then tb σ H1 Q else Q (.bl false) H1
theorem SL {op}{t:TE}(h:PE X a t):PE X (.BoolOp op [a] pos) t:=fun pins s σ H Q I hw=>BoolOp_one (h pins s σ H Q I hw)
theorem SO (ha:PE X a ta)(hb:PE X (.BoolOp .And (b::rest) pos) tb):PE X (.BoolOp .And (a::b::rest) pos) (Qg ta tb):=by
 intro pins s σ H Q I h;refine BoolOp_and (we (ha pins s σ H _ I h) fun v s1 ⟨x,H1,I1,r1,q1⟩=>?_);obtain⟨c,rfl,q1⟩:=q1;cases r1;refine scg ?_
 cases c with
 |true=>exact hb pins s1 σ H1 Q I1 q1
 |false=>exact⟨.bl false,H1,I1,rfl,q1⟩
noncomputable def Oe (t:TT)(ta tb:TE):TE:=fun σ H Q=>t σ H fun c H1=>if c=true then ta σ H1 Q else tb σ H1 Q
theorem W1 {c:Expr}(hc:PT X c tA)(ha:PE X a ta)(hb:PE X b tb):PE X (.IfExp c a b pos) (Oe tA ta tb):=by
 intro pins s σ H Q I h;refine wpAny_IfExp (we (hc pins s σ H _ I h) fun d s1 ⟨H1,I1,q1⟩=>?_)
 cases d with
 |true=>exact ha pins s1 σ H1 Q I1 q1
 |false=>exact hb pins s1 σ H1 Q I1 q1
end
noncomputable def xV (K:Frag)(H:Hp)(a:Addr)(xs:List V):Prop :=
 Rd H a (.l xs) ∨
  ∃(o:Obj) (its:Array Value) (n:Nat),K.lookup a=some o∧o.cls=.type "list" ∧ o.dict=none∧o.data=.seq its n∧its.size≤sizeLine∧yt xs its.toList
noncomputable def dF (K:Frag)(H:Hp)(a:Addr)(xs:List V):Prop :=
 Rd H a (.tup xs) ∨
  ∃(o:Obj) (its:Array Value) (n:Nat),K.lookup a=some o∧o.cls=.type "tuple" ∧ o.data=.seq its n∧its.size≤sizeLine∧yt xs its.toList
noncomputable def PL:Value→Option V
 | .none=>some .non
 | .bool b=>some (.bl b)
 | .int i _=>some (.int i)
 | .str x _=>some (.str x)
 | .bytes b _=>some (.byt b)
 | .float b _=>some (.flt b)
 | .ref a=>some (.ref a)
 | .type n=>some (.ty n)
 |_=>none
theorem xm.abs {x:V}{u:Value}(r:xm x u):PL u=some x:=by
 cases x with
 |non=>cases r;rfl
 |bl _=>cases r;rfl
 |int _=>obtain⟨t,rfl⟩:=r;rfl
 |str _=>obtain⟨t,rfl⟩:=r;rfl
 |byt _=>obtain⟨t,rfl⟩:=r;rfl
 |flt _=>obtain⟨t,rfl⟩:=r;rfl
 |ref _=>cases r;rfl
 |ty _=>cases r;rfl
theorem xm.inj {x y:V}{u:Value}(r:xm x u)(q:xm y u):x=y:=saI (r.abs.symm.trans q.abs)
theorem yt.inj:∀{xs ys:List V} {us:List Value},yt xs us→yt ys us→xs=ys
 |_,_,_,.nil,.nil=>rfl
 |_,_,_,.cons r t,.cons r' t'=>by rw[r.inj r',yt.inj t t']
section
variable {X:Cx}{pins:List (Addr×Obj)}{σ:St}{H:Hp}{s:Shared}{a:Addr}{xs ys:List V}
theorem xV.of {K:Frag}(h:H a=some (.l xs)):xV K H a xs:=.inl (.inl h)
theorem dF.of {K:Frag}(h:H a=some (.tup xs)):dF K H a xs:=.inl (.inl h)
theorem Inv.list (I:Inv X pins σ H s)(h:xV X.K H a xs):∃its:List Value,yt xs its∧PlainL s.heap a its.toArray∧xs.length≤sizeLine:=by
 rcases h with h|⟨o,its,n,hk,hc,hd,hs,hz,r⟩
 ·obtain⟨z,its,n,r,e⟩:=h.ok I.hok;exact⟨its,r,⟨_,n,e,rfl,rfl,rfl⟩,z⟩
 ·refine⟨its.toList,r,⟨o,n,I.kIn a o hk,hc,hd,by simpa using hs⟩,?_⟩;have e:=r.length;simp only[Array.length_toList]at e;lia
theorem Inv.tuple (I:Inv X pins σ H s)(h:dF X.K H a xs):∃its:List Value,yt xs its∧IsTup s.heap a its.toArray∧xs.length≤sizeLine:=by
 rcases h with h|⟨o,its,n,hk,hc,hs,hz,r⟩
 ·obtain⟨z,its,r,p⟩:=h.ok I.hok;exact⟨its,r,p,z⟩
 ·refine⟨its.toList,r,⟨o,I.kIn a o hk,hc,n,by simpa using hs⟩,?_⟩;have e:=r.length;simp only[Array.length_toList]at e;lia
theorem Inv.list_inj (I:Inv X pins σ H s)(h:xV X.K H a xs)(h':xV X.K H a ys):xs=ys:=by
 obtain⟨its,r,⟨o,n,e,_,_,d⟩,_⟩:=I.list h;obtain⟨its',r',⟨o',n',e',_,_,d'⟩,_⟩:=I.list h';rw[e]at e';cases e';rw[d]at d'
 injection d' with d1 _
 have:its=its':=by simpa using congrArg Array.toList d1
 subst this;exact r.inj r'
end
noncomputable abbrev Cx.wish (X:Cx)(E:Value→Shared→Prop):Cx:={X with xe:=E}
noncomputable abbrev Cx.nox (X:Cx):Cx:=X.wish fun _ _=>False
theorem Cx.Ok.wish {X:Cx}(ok:X.Ok)(E:Value→Shared→Prop):(X.wish E).Ok :=
 ⟨ok.mod,ok.kind,ok.glob,ok.blt,ok.above,ok.inj,ok.has,ok.cab,ok.hd,ok.frames,ok.stk,ok.exf,ok.bs,ok.bsz,ok.noex,ok.exfs,ok.funs,ok.frf⟩
theorem Cx.Ok.unwish {X:Cx}{E:Value→Shared→Prop}(ok:(X.wish E).Ok):X.Ok :=
 ⟨ok.mod,ok.kind,ok.glob,ok.blt,ok.above,ok.inj,ok.has,ok.cab,ok.hd,ok.frames,ok.stk,ok.exf,ok.bs,ok.bsz,ok.noex,ok.exfs,ok.funs,ok.frf⟩
section
variable {X:Cx}{pins:List (Addr×Obj)}{σ:St}{H:Hp}{s:Shared}{E:Value→Shared→Prop}
theorem Inv.wish (I:Inv X pins σ H s)(E:Value→Shared→Prop):Inv (X.wish E) pins σ H s:=⟨I.ok.wish E,I.os,I.bare,I.base,I.loc,I.cell,I.free,I.freeC,I.pin,I.hok,I.len⟩
theorem Inv.unwish (I:Inv (X.wish E) pins σ H s):Inv X pins σ H s:=⟨I.ok.unwish,I.os,I.bare,I.base,I.loc,I.cell,I.free,I.freeC,I.pin,I.hok,I.len⟩
theorem SP.unwish {D:Ends}{f:Flow}{s':Shared}(h:SP (X.wish E) pins D f s'):SP X pins D f s':=by
 cases f with
 |next=>obtain⟨σ',H',I,q⟩:=h;exact⟨σ',H',I.unwish,q⟩
 |brk=>obtain⟨σ',H',I,q⟩:=h;exact⟨σ',H',I.unwish,q⟩
 |cont=>obtain⟨σ',H',I,q⟩:=h;exact⟨σ',H',I.unwish,q⟩
 |ret u=>obtain⟨v,σ',H',I,r,q⟩:=h;exact⟨v,σ',H',I.unwish,r,q⟩
theorem dN.nox {st:List Stmt}{t:TS}(h:dN X.nox st t):dN X st t:=fun pins s σ H D I hw=>
 scE (h pins s σ H D (I.wish _) hw) (fun _ _ q=>q.unwish) fun _ _ z=>False.elim z
end
section
variable {X:Cx}{st:Stmt}{rest:List Stmt}{t u:TS}{e:Expr}{te:TE}{pos:Pos}
noncomputable def Qb:TS:=fun D σ H=>D.nx σ H
noncomputable def Sl (t u:TS):TS:=fun D σ H=>t {D with nx:=u D} σ H
theorem UL:dN X [] Qb:=fun _ _ σ H _ I h=>wpAny_execs_nil ⟨σ,H,I,h⟩
theorem jw (h1:PS X st t)(h2:dN X rest u):dN X (st::rest) (Sl t u):=by
 intro pins s σ H D I h;refine wpAny_execs_cons (we (h1 pins s σ H {D with nx:=u D} I h) fun f s1 q=>?_)
 cases f with
 | next=>
   obtain⟨σ',H',I',q⟩:=q;exact h2 pins s1 σ' H' D I' q
 |ret v=>exact q
 |brk=>exact q
 |cont=>exact q
theorem fT (h1:PS X st t):dN X [st] t:=by
 intro pins s σ H D I h;refine wpAny_execs_cons (we (h1 pins s σ H D I h) fun f s1 q=>?_)
 cases f with
 |next=>exact wpAny_execs_nil q
 |ret v=>exact q
 |brk=>exact q
 |cont=>exact q
theorem Inv.quiet {pins:List (Addr×Obj)}{σ:St}{H:Hp}{s:Shared}(I:Inv X pins σ H s):interactive X.env=false:=by simp[interactive,I.ok.kind]
noncomputable def ZO (te:TE):TS:=fun D σ H=>te σ H fun _ H1=>D.nx σ H1
theorem pA (he:PE X e te)(hs:swapsWith e none pos.line X.env=pure false:=by rfl):PS X (.Expr e pos) (ZO te):=by
 intro pins s σ H D I h;exact wpAny_Expr_any (we (he pins s σ H _ I h) fun v s1 ⟨x,H1,I1,r1,q1⟩=>⟨σ,H1,I1,q1⟩) I.quiet hs
noncomputable def R9 (te:TE):TS:=fun D σ H=>te σ H D.rt
theorem WU (he:PE X e te):PS X (.Return (some e) pos) (R9 te):=by
 intro pins s σ H D I h;exact wpAny_Return_some (we (he pins s σ H _ I h) fun v s1 ⟨x,H1,I1,r1,q1⟩=>⟨x,σ,H1,I1,r1,q1⟩)
noncomputable def Po (c:TT)(t u:TS):TS:=fun D σ H=>c σ H fun b H1=>if b=true then t D σ H1 else u D σ H1
theorem Qm {c:Expr}{a b:List Stmt}{tc:TT}(hc:PT X c tc)(ha:dN X a t)(hb:dN X b u):PS X (.If c a b pos) (Po tc t u):=by
 intro pins s σ H D I h;refine wpAny_If (we (hc pins s σ H _ I h) fun d s1 ⟨H1,I1,q1⟩=>?_)
 cases d with
 |true=>exact ha pins s1 σ H1 D I1 q1
 |false=>exact hb pins s1 σ H1 D I1 q1
end
noncomputable abbrev TG:=V→St→Hp→(St→Hp→Prop)→Prop
noncomputable abbrev Sb:=List V→St→Hp→(St→Hp→Prop)→Prop
noncomputable def PG (X:Cx)(target:Expr)(t:TG):Prop :=
 ∀ (pins:List (Addr×Obj)) (s:Shared) (σ:St) (H:Hp) (v:V) (u:Value) (Q:St→Hp→Prop),Inv X pins σ H s→xm v u→t v σ H Q →
   wpAny (model X.prog X.w) X.A (assign target X.env u) (fun _ s'=>∃σ' H',Inv X pins σ' H' s'∧Q σ' H') X.xe s
noncomputable def Q1 (X:Cx)(ts:List Expr)(t:Sb):Prop :=
 ∀ (pins:List (Addr×Obj)) (s:Shared) (σ:St) (H:Hp) (vs:List V) (us:List Value) (Q:St→Hp→Prop),Inv X pins σ H s→yt vs us→t vs σ H Q →
   wpAny (model X.prog X.w) X.A (assignInOrder ((assignEach ts X.env).map (·.2)) us) (fun _ s'=>∃σ' H',Inv X pins σ' H' s'∧Q σ' H') X.xe s
noncomputable abbrev QZ:=V→V→V→Hp→(Hp→Prop)→Prop
noncomputable def lG (X:Cx)(t:QZ):Prop :=
 ∀ (pins:List (Addr×Obj)) (s:Shared) (σ:St) (H:Hp) (o i v:V) (ov iv u:Value) (Q:Hp→Prop),Inv X pins σ H s→xm o ov→xm i iv→xm v u→t o i v H Q →
   wpAny (model X.prog X.w) X.A (setItem ov iv u) (fun _ s'=>∃H',Inv X pins σ H' s'∧Q H') X.xe s
section
variable {X:Cx}{pos:Pos}
noncomputable def cX (i:Nat):TG:=fun v σ H Q=>Q (σ.set i (some v)) H
theorem kE {i:Nat}{x:Str}(hN:X.N.Nodup)(hi:X.N[i]?=some x)(hx:Se X.env.scope x)(hf:X.fn x=true∨X.env.scope.names.lookup x=some .local:=by first|exact .inl rfl|exact .inr rfl|assumption):PG X (.Name x pos) (cX i):=by
 intro pins s σ H v u Q I r h;exact wpAny_assign_Name (d0 I hN hi hx r (fun s' I'=>⟨_,H,I',h⟩) hf)
noncomputable def QH:Sb:=fun vs σ H Q=>vs=[]∧Q σ H
noncomputable def VH (t:TG)(u:Sb):Sb:=fun vs σ H Q=>∃v r,vs=v::r∧t v σ H fun σ' H'=>u r σ' H' Q
theorem Z7:Q1 X [] QH:=by
 intro pins s σ H vs us Q I r h;obtain⟨e,h⟩:=h;subst e;cases r;exact assignInOrder_nil ⟨σ,H,I,h⟩
theorem jz {e:Expr}{es:List Expr}{t:TG}{u:Sb}(h1:PG X e t)(h2:Q1 X es u)
 (hs:(assignEach (e::es) X.env).map (·.2)=assign e X.env::(assignEach es X.env).map (·.2):=by rfl):Q1 X (e::es) (VH t u):=by
 intro pins s σ H vs us Q I r h;obtain⟨v,vr,e1,h⟩:=h;subst e1
 cases r with
 | cons r rr=>
   rw[hs];refine assignInOrder_cons (we (h1 pins s σ H _ _ _ I r h) fun _ s1 ⟨σ1,H1,I1,q1⟩=>?_);exact h2 pins s1 σ1 H1 _ _ Q I1 rr q1
noncomputable def QG (K:Frag)(n:Nat)(t:Sb):TG:=fun v σ H Q=>∃a xs,v=.ref a∧dF K H a xs∧xs.length=n∧t xs σ H Q
theorem WY {es:List Expr}{k:Nat}{t:Sb}{n:Nat}(hc:X.calm=true)(h:Q1 X es t)
 (hn:(assignEach es X.env).length=n:=by rfl) (hst:(assignEach es X.env).findIdx? (·.1)=none:=by rfl):PG X (.Tuple es k pos) (QG X.K n t):=by
 intro pins s σ H v u Q I r hw;obtain⟨a,xs,e1,hq,hl,hw⟩:=hw;subst e1;cases r;obtain⟨its,rv,ht,hz⟩:=I.tuple hq;refine assign_Tuple_tuple (I.ok.hd hc) ht (by simp[hn,←hl,rv.length]) hst fun h' hx=>?_;have I1:Inv X pins σ H {s with heap:=h'}:=I.kept (t':=s.toks) fun b o e=>hx b o (saA (sai e)) e;exact h pins _ σ H xs _ Q I1 (by simpa using rv) hw
noncomputable def xR (to ti:TE)(t:QZ):TG:=fun v σ H Q=>to σ H fun o H1=>ti σ H1 fun i H2=>t o i v H2 fun H3=>Q σ H3
noncomputable def Sn (te:TE)(g:TG):TS:=fun D σ H=>te σ H fun x H1=>g x σ H1 D.nx
theorem SH {tg e:Expr}{te:TE}{g:TG}(he:PE X e te)(hg:PG X tg g)(hs:swapsWithSole [tg] e pos.line X.env=pure false:=by rfl)(hw:swappedStores [tg] e X.env=pure none:=by rfl)
 (h1:(assignEach [tg] X.env).map (·.2)=[assign tg X.env]:=by rfl):PS X (.Assign [tg] e pos) (Sn te g):=by
 intro pins s σ H D I h;refine wpAny_Assign_stores (we (he pins s σ H _ I h) fun v s1 ⟨x,H1,I1,r1,q1⟩=>?_) hs hw;rw[h1];exact we (hg pins s1 σ H1 x v _ I1 r1 q1) fun _ s2 q=>q
theorem WT {i:Nat}{x:Str}{e:Expr}{te:TE}{pos':Pos}(hN:X.N.Nodup)(hi:X.N[i]?=some x)(hx:Se X.env.scope x)(he:PE X e te)(hs:swapsWith e (some (.Name x pos')) pos.line X.env=pure false:=by rfl)(hf:X.fn x=true∨X.env.scope.names.lookup x=some .local:=by first|exact .inl rfl|exact .inr rfl|assumption) :
 PS X (.Assign [.Name x pos'] e pos) (Sn te (cX i)):=by
 intro pins s σ H D I h;refine wpAny_Assign_Name (we (he pins s σ H _ I h) fun v s1 ⟨y,H1,I1,r1,q1⟩=>?_) hs;exact d0 I1 hN hi hx r1 (fun s2 I2=>⟨_,H1,I2,q1⟩) hf
end
section
variable {X:Cx}{pos:Pos}
noncomputable def Sk (c:TT)(tb:TS):TS:=fun D σ H=>∃W:Nat→St→Hp→Prop,(∃m,W m σ H)∧∀m σ H,W m σ H →
 c σ H fun b H1=>if b=true then ∃N:St→Hp→Prop,(∀σ' H',N σ' H'→∃m',m' < m∧W m' σ' H')∧tb {D with nx:=N,ct:=N,bk:=D.nx} σ H1 else D.nx σ H1
theorem WS {c:Expr}{body:List Stmt}{tc:TT}{tb:TS}(hp:PassesOwn (model X.prog X.w) X.A X.env X.xe)(hc:PT X c tc)(hb:dN X body tb):PS X (.While c body [] pos) (Sk tc tb):=by
 intro pins s σ H D I h;obtain⟨W,⟨m0,w0⟩,turn⟩:=h;refine wpAny_While (codeAny_whileLoop (fun n s'=>∃σ' H',Inv X pins σ' H' s'∧W n σ' H') ?_ m0 ⟨σ,H,I,w0⟩);rintro n s1 ⟨σ1,H1,I1,w1⟩;refine scy hp (we (hc pins s1 σ1 H1 _ I1 (turn n σ1 H1 w1)) fun b s2 ⟨H2,I2,q2⟩=>?_)
 cases b with
 | true=>
   obtain⟨N,hN,q2⟩:=q2;rw[saf rfl];refine scy hp (we (hb pins s2 σ1 H2 _ I2 q2) fun f s3 q3=>?_)
   cases f with
   | next=>
     obtain⟨σ3,H3,I3,n3⟩:=q3;obtain⟨m',hm,w3⟩:=hN σ3 H3 n3;exact⟨m',hm,σ3,H3,I3,w3⟩
   | cont=>
     obtain⟨σ3,H3,I3,n3⟩:=q3;obtain⟨m',hm,w3⟩:=hN σ3 H3 n3;exact⟨m',hm,σ3,H3,I3,w3⟩
   |brk=>exact q3
   |ret v=>exact q3
 | false=>
   rw[sah sax];exact wpAny_execs_nil ⟨σ1,H2,I2,q2⟩
end
structure It where
 go:Nat→Hp→Prop
 yld:Nat→Hp→V→Hp→Prop
 stop:Nat→Hp→Prop
noncomputable def lI (X:Cx)(pins:List (Addr×Obj))(H:Hp)(b:Addr):Prop :=
 H b=none∧b≠X.env.locals∧b∉X.fs∧(b∈X.ex∨X.s₀.heap.objs.size≤b)∧(∀x c,X.env.cells.lookup x=some c→c≠b)∧∀p∈X.pn++pins,p.1≠b
theorem Inv.fpOk {X:Cx}{pins:List (Addr×Obj)}{σ:St}{H H':Hp}{s:Shared}{b:Addr}(I:Inv X pins σ H s)(hb:s.heap.objs.size≤b)(hn:H' b=none):lI X pins H' b:=by
 refine⟨hn,sbB (saE I.lt hb),I.nofs hb,.inr (sbH I.sz hb),fun x c e z=>?_,fun p hp z=>?_⟩
 ·obtain⟨v,q⟩:=I.cell x c e;exact absurd (saE q.lt (by rw[z];exact hb)) (sbQ _)
 ·exact absurd (saE (sai (I.pin p hp).1) (by rw[z];exact hb)) (sbQ _)
structure Turn (P:Program)(w:World)(K:Frag)(tg:Expr)(J:It)(fp:List Addr)(it:Addr)(tn:Nat→Heap→Prop):Prop where
 mem:it∈fp
 obj:∀i h,tn i h→∀b∈fp,∃o,h.get? b=some o∧∀v,o.data≠.cell v
 keep:∀i h h',tn i h→(∀b∈fp,∀o,h.get? b=some o→h'.get? b=some o)→tn i h'
 item:∀(X:Cx),X.prog=P→X.w=w→X.K=K→X.calm=true→∀(i:Nat) (pins:List (Addr×Obj)) (s:Shared) (σ:St) (H:Hp) (E:Value→Shared→Prop),Inv X pins σ H s→(∀b∈fp,lI X pins H b)→tn i s.heap→J.go i H →
  wpAny (model P w) X.A (pyNext (.ref it)) (fun r s1=>∃u,r=some u ∧
   wpAny (model P w) X.A (letOwnedTupleGo tg (.ref it) u) (fun _ s2=>∃x H',Inv X pins σ H' s2∧xm x u∧J.yld i H x H'∧tn (i+1) s2.heap∧∀b∈fp,H' b=none) E s1) E s
 done:∀(X:Cx),X.prog=P→X.w=w→X.K=K→X.calm=true→∀(i:Nat) (pins:List (Addr×Obj)) (s:Shared) (σ:St) (H:Hp) (E:Value→Shared→Prop),Inv X pins σ H s→(∀b∈fp,lI X pins H b)→tn i s.heap→J.stop i H →
  wpAny (model P w) X.A (pyNext (.ref it)) (fun r s1=>r=none∧Inv X pins σ H s1) E s
 self:∀(A:Around) (i:Nat) (s:Shared) (Q:Value→Shared→Prop) (E:Value→Shared→Prop),tn i s.heap→Q (.ref it) s→wpAny (model P w) A (pyIter (.ref it)) Q E s
noncomputable abbrev TI:=St→Hp→(It→Hp→Prop)→Prop
noncomputable def P8 (X:Cx)(pins:List (Addr×Obj))(σ:St)(tg:Expr)(R:It→Hp→Prop)(itv:Value)(s2:Shared):Prop :=
 ∃(it:Addr) (fp:List Addr) (tn:Nat→Heap→Prop) (J:It) (H':Hp),itv=.ref it∧Inv X pins σ H' s2∧Turn X.prog X.w X.K tg J fp it tn∧tn 0 s2.heap∧(∀b∈fp,lI X pins H' b)∧R J H'
noncomputable def PI (X:Cx)(tg iter:Expr)(wi:TI):Prop :=
 ∀ (pins:List (Addr×Obj)) (s:Shared) (σ:St) (H:Hp) (R:It→Hp→Prop),Inv X pins σ H s→wi σ H R →
   wpAny (model X.prog X.w) X.A (eval iter X.env) (fun v s1=>wpAny (model X.prog X.w) X.A (pyIter v) (P8 X pins σ tg R) X.xe s1) X.xe s
theorem VE {M:Model}{A:Around}{E:Value→Shared→Prop}{s:Shared}{tg:Expr}{it:Addr}{u:Value}{o:Obj}{n:String}{vs:Array Value}{Q:Unit→Shared→Prop}(ho:s.heap.get? it=some o)(hc:o.cls=.type n)(hd:o.data=.fields vs)
 (hn:["enumerate","zip","dict_itemiterator","dict_reverseitemiterator","odict_iterator","itertools.zip_longest","itertools.pairwise"].contains n=false) (hQ:Q () s):wpAny M A (letOwnedTupleGo tg (.ref it) u) Q E s:=by
 unfold letOwnedTupleGo
 cases tg <;> first
  |exact sac hQ
  |(cases u <;> first
   |exact sac hQ
   | (refine saa (wpAny_load ho ?_)
      rw[hc,hd];show wpAny M A (if(["enumerate","zip","dict_itemiterator","dict_reverseitemiterator","odict_iterator","itertools.zip_longest","itertools.pairwise"].contains n&&vs[0]? == some (rawInt _))=true then _ else _) Q E s;rw[sah (by intro h;rw[hn,Bool.false_and]at h;cases h)]
      exact sac hQ))
noncomputable def PU (K:Frag)(a:Addr):It :=
 ⟨fun i H=>∃xs x,xV K H a xs∧xs[i]?=some x,fun i H x H'=>H'=H∧∀xs,xV K H a xs→xs[i]?=some x,fun i H=>∃xs,xV K H a xs∧xs.length≤i⟩
noncomputable def Pg (lo:Int)(n:Nat):It:=⟨fun i _=>i<n,fun i H x H'=>H'=H∧x=.int (lo+i),fun i _=>n≤i⟩
theorem YY {P:Program}{w:World}{K:Frag}{tg:Expr}(a it:Addr):Turn P w K tg (PU K a) [it] it (fun i h=>h.IsListIter it a i) where
 mem:=by simp
 obj:=fun i h st b hb=>by
  have e:b=it:=by simpa using hb
  subst e;obtain⟨o,e,c,d⟩:=st;exact⟨o,e,fun v z=>by rw[d]at z;cases z⟩
 keep:=fun i h h' st k=>st.at fun o e=>k it (by simp) o e
 item:=by
  intro X hP hw hK hc i pins s σ H E I hf st hg;subst hP hw hK;obtain⟨xs,x,hq,hx⟩:=hg;obtain⟨its,rv,p,hz⟩:=I.list hq;obtain⟨u,hu,ru⟩:=rv.get hx;obtain⟨f0,f1,f2,f3,f4,f5⟩:=hf it (by simp);refine wpAny_pyNext_list_item st p.isList (x:=u) (by simpa using hu) fun h' st' sb=>?_;have I1:Inv X pins σ H {s with heap:=h'}:=I.turned (t':=s.toks) (fun b o hb e=>(sb.2 b hb).trans e) f0 f1 f3 f4 f5;obtain⟨o,e,c,d⟩:=id st';exact⟨u,rfl,VE (s:={s with heap:=h'}) e c d (by decide) ⟨x,H,I1,ru,⟨rfl,fun ys hy=>by rw[I.list_inj hy hq];exact hx⟩,st',fun b hb=>(hf b hb).1⟩⟩
 done:=by
  intro X hP hw hK hc i pins s σ H E I hf st hg;subst hP hw hK;obtain⟨xs,hq,hx⟩:=hg;obtain⟨its,rv,p,hz⟩:=I.list hq;obtain⟨f0,f1,f2,f3,f4,f5⟩:=hf it (by simp);have hl:=rv.length
  exact wpAny_pyNext_list_end (I.ok.hd hc) st p.isList (by simp;lia) fun h' eb=>⟨rfl,I.turned (t':=s.toks) (fun b o hb e=>eb b o hb e) f0 f1 f3 f4 f5⟩
 self:=fun _ _ _ _ _ st h=>wpAny_pyIter_listiter st h
theorem b6 {P:Program}{w:World}{K:Frag}{tg:Expr}(it:Addr)(lo:Int)(n:Nat):Turn P w K tg (Pg lo n) [it] it (fun i h=>IsRangeIter h it (lo+(i:Nat)*1) ((n:Int) - (i:Nat)) 1) where
 mem:=by simp
 obj:=fun i h st b hb=>by
  have e:b=it:=by simpa using hb
  subst e
  exact⟨_,st,fun v z=>by
   have z':Data.fields _=Data.cell v:=z
   cases z'⟩
 keep:=fun i h h' st k=>k it (by simp) _ st
 item:=by
  intro X hP hw hK hc i pins s σ H E I hf st hg;subst hP hw hK;obtain⟨f0,f1,f2,f3,f4,f5⟩:=hf it (by simp);have W:=Walks.range (prog:=X.prog) (w:=X.w) (I.ok.hd hc) it lo 1 n;refine W.item i s _ _ hg st fun v h' tk hv st' kk=>?_;obtain⟨t,rfl⟩:=hv;have I1:Inv X pins σ H {s with heap:=h',toks:=tk}:=I.turned (fun b o hb e=>kk b o (by simpa using hb) e) f0 f1 f3 f4 f5;refine⟨_,rfl,VE (s:={s with heap:=h',toks:=tk}) (n := "range_iterator") st' rfl rfl (by decide) ⟨.int (lo+i),H,I1,⟨t,?_⟩,⟨rfl,rfl⟩,st',fun b hb=>(hf b hb).1⟩⟩;rw[Int.mul_one]
 done:=by
  intro X hP hw hK hc i pins s σ H E I hf st hg;subst hP hw hK;obtain⟨f0,f1,f2,f3,f4,f5⟩:=hf it (by simp)
  exact wpAny_pyNext_range_end (I.ok.hd hc) st (by have:n≤i:=hg;lia) fun h' eb=>⟨rfl,I.turned (t':=s.toks) (fun b o hb e=>eb b o hb e) f0 f1 f3 f4 f5⟩
 self:=fun _ _ _ _ _ st h=>wpAny_pyIter_rangeiter st h
section
variable {X:Cx}{tg:Expr}
noncomputable def T7 (K:Frag)(tl:TE):TI:=fun σ H R=>tl σ H fun x H1=>∃a,x=.ref a∧(∃xs,xV K H1 a xs)∧R (PU K a) H1
theorem Z6 {l:Expr}{tl:TE}(hl:PE X l tl):PI X tg l (T7 X.K tl):=by
 intro pins s σ H R I h;refine we (hl pins s σ H _ I h) fun v s1 ⟨x,H1,I1,r1,q1⟩=>?_;obtain⟨a,e,⟨xs,hq⟩,q⟩:=q1;subst e;cases r1;obtain⟨its,rv,p,hz⟩:=I1.list hq;refine sch p.isList ?_;refine⟨s1.heap.objs.size,[s1.heap.objs.size],_,_,H1,rfl,I1.kept (t':=s1.toks) fun b o e=>sab _ e,YY a _,⟨_,saq _ rfl,rfl,rfl⟩,fun b hb=>?_,q⟩;have e:b=s1.heap.objs.size:=by simpa using hb
 subst e;exact I1.fpOk (Nat.le_refl _) (I1.hok.fresh (Nat.le_refl _))
theorem WK {pins:List (Addr×Obj)}{σ:St}{H:Hp}{s:Shared}{R:It→Hp→Prop}{E:Value→Shared→Prop}{lo hi:Int}{t u v:Tok}{tk:Nat}(I:Inv X pins σ H s)(h1 : -(2^62)≤lo)(h2:lo<2^62)(h3 : -(2^62)≤hi)(h4:hi<2^62)
 (q:R (Pg lo (hi - lo).toNat) H):wpAny (model X.prog X.w) X.A (pyIter (.ref s.heap.objs.size)) (P8 X pins σ tg R) E {s with heap:=s.heap.push {cls:=.type "range",data:=.fields #[.int lo t,.int hi u,.int 1 v]},toks:=tk}:=by
 refine wpAny_pyIter_range (IsRange.new ..) (small_one h1 h2 h3 h4) ?_;have I1:Inv X pins σ H {s with heap:=s.heap.push {cls:=.type "range",data:=.fields #[.int lo t,.int hi u,.int 1 v]},toks:=tk}:=I.kept fun b o e=>sab _ e
 refine⟨(s.heap.push {cls:=.type "range",data:=.fields #[.int lo t,.int hi u,.int 1 v]}).objs.size,[(s.heap.push {cls:=.type "range",data:=.fields #[.int lo t,.int hi u,.int 1 v]}).objs.size],_,_,H,rfl,
  I1.kept (t':=tk) fun b o e=>sab _ e,b6 _ lo (hi - lo).toNat,?_,fun b hb=>?_,q⟩
 ·have e1:lo+((0:Nat):Int)*1=lo:=by simp
  have e2:(((hi - lo).toNat:Nat):Int) - ((0:Nat):Int)=Builtin.Range.rangeSize lo hi 1:=by rw[rangeSize_one];split <;> lia
  show IsRangeIter _ _ (lo+((0:Nat):Int)*1) ((((hi - lo).toNat:Nat):Int) - ((0:Nat):Int)) 1;rw[e1,e2];exact saq _ rfl
 ·have e:b=(s.heap.push {cls:=.type "range",data:=.fields #[.int lo t,.int hi u,.int 1 v]}).objs.size:=by simpa using hb
  subst e;exact I1.fpOk (Nat.le_refl _) (I1.hok.fresh (Nat.le_refl _))
noncomputable def QE (ta:TA):TI:=fun σ H R=>ta σ H fun vs H1=>∃j:Int,vs=[.int j] ∧ -(2^62)≤j∧j<2^62∧R (Pg 0 j.toNat) H1
theorem Xe {a:Expr}{ta:TA}{p pos:Pos}(hg:Gl X "range") (hm:X.mg "range" = none) (ha:PA X [a] ta) (hs:starEach [a] X.env=[(false,eval a X.env)]:=by rfl):PI X tg (.Call (.Name "range" p) [a] [] pos) (QE ta):=by
 intro pins s σ H R I h;refine Call_ (u7 I hg hm boot_range (saW (we (ha pos pins s σ H _ I h) fun us s1 ⟨vs,H1,I1,r1,q1⟩=>?_) hs rfl));obtain⟨j,e,q1,q2,q⟩:=q1;subst e
 cases r1 with
 | cons r rr=>
   cases rr;obtain⟨t,rfl⟩:=r;exact call_range_1 (WK I1 (by lia) (by lia) q1 q2 (by simpa using q))
noncomputable def Qc (wi:TI)(g:TG)(tb:TS):TS:=fun D σ H=>wi σ H fun J H1=>∃W:Nat→Nat→St→Hp→Prop,(∃m,W 0 m σ H1)∧∀i m σ H,W i m σ H →
 (J.stop i H∧D.nx σ H)∨(J.go i H∧∃N:St→Hp→Prop,(∀σ' H',N σ' H'→∃m',m' < m∧W (i+1) m' σ' H')∧∀x H',J.yld i H x H'→g x σ H' fun σ2 H2=>tb {D with nx:=N,ct:=N,bk:=D.nx} σ2 H2)
noncomputable def jy (fp:List Addr)(h:Heap):List (Addr×Obj):=fp.filterMap fun b=>(h.get? b).map fun o=>(b,o)
theorem rL {fp:List Addr}{h:Heap}{b:Addr}{o:Obj}(hb:b∈fp)(e:h.get? b=some o):(b,o)∈jy fp h:=List.mem_filterMap.mpr ⟨b,hb,by rw[e];rfl⟩
theorem Xg {fp:List Addr}{h:Heap}{p:Addr×Obj}(hp:p∈jy fp h):p.1∈fp∧h.get? p.1=some p.2:=by
 obtain⟨b,hb,e⟩:=List.mem_filterMap.mp hp
 cases q:h.get? b with
 |none=>rw[q]at e;cases e
 | some o=>
   rw[q]at e;have e':(b,o)=p:=saI e;subst e';exact⟨hb,q⟩
theorem Inv.pinned {pins:List (Addr×Obj)}{σ:St}{H:Hp}{s:Shared}{fp:List Addr}(I:Inv X pins σ H s)(hf:∀b∈fp,lI X pins H b)(ho:∀b∈fp,∃o,s.heap.get? b=some o∧∀v,o.data≠.cell v):Inv X (pins++jy fp s.heap) σ H s :=
 I.pins_of fun p hp=>(san.mp hp).elim (fun z=>I.pin p (saQ _ z)) fun z=>by
  obtain⟨hb,e⟩:=Xg z;obtain⟨f0,f1,f2,_⟩:=hf p.1 hb;obtain⟨o,e',d⟩:=ho p.1 hb;rw[e]at e';cases e';exact⟨e,f0,f1,f2,d⟩
theorem Inv.unpinned {pins pl:List (Addr×Obj)}{σ:St}{H:Hp}{s:Shared}(I:Inv X (pins++pl) σ H s):Inv X pins σ H s:=I.pins_of fun p hp=>I.pin p (saQ _ (sce _ hp))
theorem WV {iter:Expr}{body:List Stmt}{wi:TI}{g:TG}{tb:TS}{pos:Pos}(hp:PassesOwn (model X.prog X.w) X.A X.env X.xe)(hc:X.calm=true)(hi:PI X tg iter wi)(hg:PG X tg g)(hb:dN X body tb)
 (hs:∀x,foldedSetIterable iter X.env x=pure x:=by intro _;rfl):PS X (.For tg iter body [] pos) (Qc wi g tb):=by
 intro pins s σ H D I h;refine wpAny_For (we (hi pins s σ H _ I h) fun v s1 h1=>we h1 fun itv s2 h2=>?_) hs;obtain⟨it,fp,tn,J,H2,e,I2,T,st2,f2,W,⟨m0,w0⟩,turn⟩:=h2;subst e
 have stat:∀{H':Hp},(∀b∈fp,H' b=none)→∀b∈fp,lI X pins H' b:=fun hn b hb=>⟨hn b hb,(f2 b hb).2⟩
 refine codeAny_forLoop_any (fun n s'=>∃i σ' H',Inv X pins σ' H' s'∧tn i s'.heap∧(∀b∈fp,H' b=none)∧W i n σ' H') ?_ m0 ⟨0,σ,H2,I2,st2,fun b hb=>(f2 b hb).1,w0⟩;rintro n s3 ⟨i,σ3,H3,I3,st3,fr3,w3⟩
 rcases turn i n σ3 H3 w3 with⟨stop,qn⟩|⟨go,N,hN,step⟩
 ·refine scy hp (we (T.done X rfl rfl rfl hc i pins s3 σ3 H3 X.xe I3 (stat fr3) st3 stop) fun r s4 ⟨hr,I4⟩=>?_);subst hr;exact wpAny_execs_nil ⟨σ3,H3,I4,qn⟩
 ·refine scy hp (we (T.item X rfl rfl rfl hc i pins s3 σ3 H3 X.xe I3 (stat fr3) st3 go) fun r s4 ⟨u,hr,h4⟩=>?_);subst hr;refine scy hp (we h4 fun _ s5 ⟨x,H5,I5,r5,y5,st5,fr5⟩=>?_);have I5':=I5.pinned (stat fr5) (T.obj _ _ st5);refine scy hp (we (hg _ s5 σ3 H5 x u _ I5' r5 (step x H5 y5)) fun _ s6 ⟨σ6,H6,I6,q6⟩=>?_);refine scy hp (we (hb _ s6 σ6 H6 _ I6 q6) fun f s7 q7=>?_)
  have again:∀{σ7:St} {H7:Hp},Inv X (pins++jy fp s5.heap) σ7 H7 s7→N σ7 H7→∃m,m<n∧∃i σ' H',Inv X pins σ' H' s7∧tn i s7.heap∧(∀b∈fp,H' b=none)∧W i m σ' H':=fun {σ7 H7} I7 n7=>by
   obtain⟨m',hm,w7⟩:=hN σ7 H7 n7;refine⟨m',hm,i+1,σ7,H7,I7.unpinned,T.keep _ _ _ st5 fun b hb o e=>(I7.pin (b,o) (saQ _ (saQ _ (rL hb e)))).1,fun b hb=>?_,w7⟩;obtain⟨o,e,d⟩:=T.obj _ _ st5 b hb;exact(I7.pin (b,o) (saQ _ (saQ _ (rL hb e)))).2.1
  cases f with
  |next=>obtain⟨σ7,H7,I7,n7⟩:=q7;exact again I7 n7
  |cont=>obtain⟨σ7,H7,I7,n7⟩:=q7;exact again I7 n7
  |brk=>obtain⟨σ7,H7,I7,q7⟩:=q7;exact⟨σ7,H7,I7.unpinned,q7⟩
  |ret v=>obtain⟨x7,σ7,H7,I7,r7,q7⟩:=q7;exact⟨x7,σ7,H7,I7.unpinned,r7,q7⟩
end
noncomputable abbrev R2:=V→V→Hp→VK→Prop
noncomputable def oQ (X:Cx)(f:Value→Value→Sem Value)(r:R2):Prop :=
 ∀ (pins:List (Addr×Obj)) (s:Shared) (σ:St) (H:Hp) (x y:V) (v u:Value) (Q:VK),Inv X pins σ H s→xm x v→xm y u→r x y H Q →
   wpAny (model X.prog X.w) X.A (f v u) (EP X pins σ Q) X.xe s
noncomputable def Pc (X:Cx)(f:Value→Sem Value)(r:V→Hp→VK→Prop):Prop :=
 ∀ (pins:List (Addr×Obj)) (s:Shared) (σ:St) (H:Hp) (x:V) (v:Value) (Q:VK),Inv X pins σ H s→xm x v→r x H Q →
   wpAny (model X.prog X.w) X.A (f v) (EP X pins σ Q) X.xe s
noncomputable def uI (X:Cx)(f:Value)(r:List V→Hp→VK→Prop):Prop :=
 ∀ (pins:List (Addr×Obj)) (s:Shared) (σ:St) (H:Hp) (xs:List V) (us:List Value) (Q:VK),Inv X pins σ H s→yt xs us→r xs H Q →
   wpAny (model X.prog X.w) X.A (call f us) (EP X pins σ Q) X.xe s
noncomputable def PN (X:Cx)(r:V→Hp→(Bool→Hp→Prop)→Prop):Prop :=
 ∀ (pins:List (Addr×Obj)) (s:Shared) (σ:St) (H:Hp) (x:V) (v:Value) (Q:Bool→Hp→Prop),Inv X pins σ H s→xm x v→r x H Q →
   wpAny (model X.prog X.w) X.A (truthy v) (TP X pins σ Q) X.xe s
noncomputable def Qa (r:R2)(ta tb:TE):TE:=fun σ H Q=>ta σ H fun x H1=>tb σ H1 fun y H2=>r x y H2 Q
noncomputable def PX (r:V→Hp→VK→Prop)(ta:TE):TE:=fun σ H Q=>ta σ H fun x H1=>r x H1 Q
noncomputable def rI (C:Int→Int→Prop)(g:Int→Int→V):R2:=fun x y H Q=>∃i j,x=.int i∧y=.int j∧C i j∧Q (g i j) H
noncomputable def Ug (g:Int→Int→V):R2:=fun x y H Q=>∃i j,x=.int i∧y=.int j∧Q (g i j) H
noncomputable def rU (g:Int→V):V→Hp→VK→Prop:=fun x H Q=>∃i,x=.int i∧Q (g i) H
section
variable {X:Cx}{a b c:Expr}{ta tb tc:TE}{pos:Pos}
theorem RL (ha:PE X a ta)(hb:PE X b tb){pins:List (Addr×Obj)}{s:Shared}{σ:St}{H:Hp}{R:V→V→Hp→Prop}(I:Inv X pins σ H s)
 (h:ta σ H fun x H1=>tb σ H1 fun y H2=>R x y H2) {Q:Value→Shared→Prop} {f:Value→Value→Sem Value}
 (hf:∀v u s2 x y H2,Inv X pins σ H2 s2→xm x v→xm y u→R x y H2→wpAny (model X.prog X.w) X.A (f v u) Q X.xe s2) :
 wpAny (model X.prog X.w) X.A (eval a X.env) (fun v s₁=>wpAny (model X.prog X.w) X.A (eval b X.env) (fun u s₂=>wpAny (model X.prog X.w) X.A (f v u) Q X.xe s₂) X.xe s₁) X.xe s:=by
 refine we (ha pins s σ H _ I h) fun v s1 ⟨x,H1,I1,r1,q1⟩=>?_;refine we (hb pins s1 σ H1 _ I1 q1) fun u s2 ⟨y,H2,I2,r2,q2⟩=>?_;exact hf v u s2 x y H2 I2 r1 r2 q2
theorem Qp {op:Operator}{r:R2}(ho:oQ X (binaryOp op) r)(ha:PE X a ta)(hb:PE X b tb):PE X (.BinOp a op b pos) (Qa r ta tb):=by
 intro pins s σ H Q I h;exact wpAny_BinOp (RL ha hb I h fun v u s2 x y H2 I2 rx ry q=>ho pins s2 σ H2 x y v u Q I2 rx ry q)
theorem Qo {op:UnaryOp}{r:V→Hp→VK→Prop}(ho:Pc X (unaryOp op) r)(ha:PE X a ta):PE X (.UnaryOp op a pos) (PX r ta):=by
 intro pins s σ H Q I h;exact UnaryOp_ (we (ha pins s σ H _ I h) fun v s1 ⟨x,H1,I1,r1,q1⟩=>ho pins s1 σ H1 x v Q I1 r1 q1)
theorem Q7 {f:Value→Value→Sem Value}{C:Int→Int→Prop}{g:Int→Int→Int}
 (rule:∀(i j:Int) (t u:Tok) (s:Shared) (Q:Value→Shared→Prop) (E:Value→Shared→Prop),C i j→Q (.int (g i j) s.toks) {s with toks:=s.toks+1}→wpAny (model X.prog X.w) X.A (f (.int i t) (.int j u)) Q E s) :
 oQ X f (rI C fun i j=>.int (g i j)):=by
 intro pins s σ H x y v u Q I rx ry h;obtain⟨i,j,rfl,rfl,hc,q⟩:=h;obtain⟨t,rfl⟩:=rx;obtain⟨t',rfl⟩:=ry;exact rule i j t t' s _ _ hc ⟨.int (g i j),H,I.tok _,⟨_,rfl⟩,q⟩
theorem Qv {f:Value→Value→Sem Value}{g:Int→Int→Int}
 (rule:∀(i j:Int) (t u:Tok) (s:Shared) (Q:Value→Shared→Prop) (E:Value→Shared→Prop),Q (.int (g i j) s.toks) {s with toks:=s.toks+1}→wpAny (model X.prog X.w) X.A (f (.int i t) (.int j u)) Q E s) :
 oQ X f (Ug fun i j=>.int (g i j)):=by
 intro pins s σ H x y v u Q I rx ry h;obtain⟨i,j,rfl,rfl,q⟩:=h;obtain⟨t,rfl⟩:=rx;obtain⟨t',rfl⟩:=ry;exact rule i j t t' s _ _ ⟨.int (g i j),H,I.tok _,⟨_,rfl⟩,q⟩
theorem S1 {f:Value→Value→Sem Value}{g:Int→Int→Bool}
 (rule:∀(i j:Int) (t u:Tok) (s:Shared) (Q:Value→Shared→Prop) (E:Value→Shared→Prop),Q (.bool (g i j)) s→wpAny (model X.prog X.w) X.A (f (.int i t) (.int j u)) Q E s) :
 oQ X f (Ug fun i j=>.bl (g i j)):=by
 intro pins s σ H x y v u Q I rx ry h;obtain⟨i,j,rfl,rfl,q⟩:=h;obtain⟨t,rfl⟩:=rx;obtain⟨t',rfl⟩:=ry;exact rule i j t t' s _ _ ⟨.bl (g i j),H,I,rfl,q⟩
noncomputable def PV (i j:Int):Prop:=0≤j∧j≤1000000∧i.natAbs<2^64
noncomputable def RY (i j:Int):Prop:=(-(2^64)<i∧i<2^64)∨(-(2^64)<j∧j<2^64)
theorem RY.ok {i j:Int}(h:RY i j):IntMulOk i j:=by
 rcases h with⟨h1,h2⟩|⟨h1,h2⟩
 ·exact .of_left (intBits_le_64 h1 h2)
 ·exact .of_right (intBits_le_64 h1 h2)
theorem S0:oQ X (binaryOp .Add) (Ug fun i j=>.int (i+j)):=Qv fun _ _ _ _ _ _ _ q=>add_int q
theorem SR:oQ X (binaryOp .Sub) (Ug fun i j=>.int (i - j)):=Qv fun _ _ _ _ _ _ _ q=>sub_int q
theorem SV:oQ X (binaryOp .Mult) (rI RY fun i j=>.int (i*j)):=Q7 fun _ _ _ _ _ _ _ hc q=>mul_int q hc.ok
theorem SW:oQ X (binaryOp .Mod) (rI (fun _ j=>0<j) fun i j=>.int (i%j)):=Q7 fun i j _ _ _ _ _ hc q=>by
 have h1:(0:Int)<j:=hc;exact mod_int' (by lia) (by rw[Int.fmod_eq_emod_of_nonneg i (by lia)];exact q)
theorem SU:oQ X (binaryOp .Pow) (rI PV fun i j=>.int (i^j.toNat)):=Q7 fun _ _ _ _ _ _ _ hc q=>pow_int_small hc.1 hc.2.1 hc.2.2 q
theorem Oa {f:Value→Sem Value}{g:Int→Int}
 (rule:∀(i:Int) (t:Tok) (s:Shared) (Q:Value→Shared→Prop) (E:Value→Shared→Prop),Q (.int (g i) s.toks) {s with toks:=s.toks+1}→wpAny (model X.prog X.w) X.A (f (.int i t)) Q E s) :
 Pc X f (rU fun i=>.int (g i)):=by
 intro pins s σ H x v Q I rx h;obtain⟨i,rfl,q⟩:=h;obtain⟨t,rfl⟩:=rx;exact rule i t s _ _ ⟨.int (g i),H,I.tok _,⟨_,rfl⟩,q⟩
theorem Si:Pc X (unaryOp .USub) (rU fun i=>.int (-i)):=Oa fun _ _ _ _ _ q=>neg_int q
end
section
variable {X:Cx}{a b c:Expr}{ta tb tc:TE}{pos:Pos}
theorem VL {pins:List (Addr×Obj)}{σ:St}{H:Hp}{s:Shared}{Q:VK}{k k':Bool}(I:Inv X pins σ H s)(q:Q (.bl k) H)(e:k=k'):EP X pins σ Q (.bool k') s:=by
 subst e;exact⟨.bl k,H,I,rfl,q⟩
theorem W5:oQ X (compareOp .Lt) (Ug fun i j=>.bl (decide (i<j))):=S1 fun _ _ _ _ _ _ _ q=>lt_int q
theorem Qu:oQ X (compareOp .LtE) (Ug fun i j=>.bl (decide (i≤j))):=S1 fun _ _ _ _ _ _ _ q=>le_int q
theorem TZ:oQ X (compareOp .Gt) (Ug fun i j=>.bl (decide (j<i))):=S1 fun _ _ _ _ _ _ _ q=>gt_int q
theorem SX:oQ X (compareOp .Is) (fun x y H Q=>y=.non∧Q (.bl (decide (x=.non))) H):=by
 intro pins s σ H x y v u Q I rx ry h;obtain⟨rfl,q⟩:=h;cases ry;refine is_none_gen (VL I q ?_)
 cases x <;> first
  |(cases rx;rfl)
  |(obtain⟨t,rfl⟩:=rx;rfl)
theorem Z_:oQ X (compareOp .IsNot) (fun x y H Q=>y=.non∧Q (.bl (!decide (x=.non))) H):=by
 intro pins s σ H x y v u Q I rx ry h;obtain⟨rfl,q⟩:=h;cases ry;refine isnot_none_gen (VL I q ?_)
 cases x <;> first
  |(cases rx;rfl)
  |(obtain⟨t,rfl⟩:=rx;rfl)
theorem oQ.or {f:Value→Value→Sem Value}{r r':R2}(h:oQ X f r)(h':oQ X f r'):oQ X f (fun x y H Q=>r x y H Q∨r' x y H Q):=by
 intro pins s σ H x y v u Q I rx ry q
 rcases q with q|q
 ·exact h pins s σ H x y v u Q I rx ry q
 ·exact h' pins s σ H x y v u Q I rx ry q
theorem uZ (b:Expr){op:CmpOp}(h:op≠.In:=by decide)(h2:op≠.NotIn:=by decide):behindInMarks op b=false:=by
 have e1:(op == CmpOp.In)=false:=by cases op <;> first|rfl|exact absurd rfl h
 have e2:(op == CmpOp.NotIn)=false:=by cases op <;> first|rfl|exact absurd rfl h2
 cases b <;> simp[behindInMarks,e1,e2]
theorem UR {op:CmpOp}{r:R2}(ho:oQ X (compareOp op) r)(ha:PE X a ta)(hb:PE X b tb)(hm:behindInMarks op b=false):PE X (.Compare a [op] [b] pos) (Qa r ta tb):=by
 intro pins s σ H Q I h;exact wpAny_Compare1 (RL ha hb I h fun v u s2 x y H2 I2 rx ry q=>ho pins s2 σ H2 x y v u Q I2 rx ry q) hm
noncomputable def TU (t:TE):TT:=fun σ H Q=>t σ H fun x H'=>∃k,x=.bl k∧Q k H'
theorem UK {op:CmpOp}{r:R2}(ho:oQ X (compareOp op) r)(ha:PE X a ta)(hb:PE X b tb)(hm:behindInMarks op b=false):PT X (.Compare a [op] [b] pos) (TU (Qa r ta tb)):=by
 intro pins s σ H Q I h
 refine wpAny_isTrue_Compare1 (we (ha pins s σ H _ I h) fun v s1 ⟨x,H1,I1,r1,q1⟩=>we (hb pins s1 σ H1 _ I1 q1) fun u s2 ⟨y,H2,I2,r2,q2⟩=>
  we (ho pins s2 σ H2 x y v u _ I2 r1 r2 q2) fun c s3 ⟨z,H3,I3,r3,k,e,q3⟩=>?_) hm
 subst e;cases r3;exact scg ⟨H3,I3,q3⟩
noncomputable def Wu (r r':R2)(ta tb tc:TE):TE:=fun σ H Q=>ta σ H fun x H1=>tb σ H1 fun y H2=>r x y H2 fun z H3=>∃k,z=.bl k ∧
 (if k=true then tc σ H3 fun w' H4=>r' y w' H4 Q else Q (.bl false) H3)
theorem WR {op op':CmpOp}{r r':R2}(ho:oQ X (compareOp op) r)(ho':oQ X (compareOp op') r')(ha:PE X a ta)(hb:PE X b tb)(hc:PE X c tc)
 (hm:lastMarks [op,op'] [b,c]=false:=by with_unfolding_all rfl):PT X (.Compare a [op,op'] [b,c] pos) (TU (Wu r r' ta tb tc)):=by
 intro pins s σ H Q I h
 refine isTrue_chain (we (ha pins s σ H _ I h) fun v s1 ⟨x,H1,I1,r1,q1⟩=>test_link (we (hb pins s1 σ H1 _ I1 q1) fun u s2 ⟨y,H2,I2,r2,q2⟩=>
  we (ho pins s2 σ H2 x y v u _ I2 r1 r2 q2) fun d s3 ⟨z,H3,I3,r3,k,e,q3⟩=>?_)) hm
 subst e;cases r3;refine scg ?_
 cases k with
 | false=>
   obtain⟨k',e',q'⟩:=q3;cases e';exact ite_ff ⟨H3,I3,q'⟩
 | true=>
   refine ite_tt (test_last (we (hc pins s3 σ H3 _ I3 q3) fun w' s4 ⟨z',H4,I4,r4,q4⟩=>we (ho' pins s4 σ H4 y z' u w' _ I4 r2 r4 q4) fun d' s5 ⟨z2,H5,I5,r5,k2,e2,q5⟩=>?_));subst e2;cases r5;exact scg ⟨H5,I5,q5⟩
noncomputable def QY (K:Frag)(x:V)(H:Hp)(k:Bool):Prop :=
 match x with
 | .non=>k=false
 | .bl b=>k=b
 | .int i=>k=(i != 0)
 | .str y=>y.length≤sizeLine∧k=((y.length:Int) != 0)
 | .byt y=>y.size≤sizeLine∧k=((y.size:Int) != 0)
 | .ref p=>(∃xs,xV K H p xs∧k = !xs.isEmpty)∨(∃xs,dF K H p xs∧k = !xs.isEmpty)∨∃kvs,H p=some (.dK kvs)∧k = !kvs.isEmpty
 |_=>False
theorem aS {κ:Type}{kvs:List (κ×V)}{vs:List (κ×Value)}(r:KV kvs vs):(!vs.isEmpty) = !kvs.isEmpty:=by
 cases r <;> rfl
theorem jL {xs:List V}{its:List Value}(r:yt xs its):(!its.toArray.isEmpty) = !xs.isEmpty:=by
 cases r <;> simp
theorem jK:(sizeLine:Nat)<2^63:=by rw[sizeLine_eq];decide
theorem Sj:PN X (fun x H Q=>∃k,QY X.K x H k∧Q k H):=by
 intro pins s σ H x v Q I rx h;obtain⟨k,e,q⟩:=h;have hl:=jK;have hs:sizeLine=16777216:=sizeLine_eq
 cases x with
 | non=>
   cases rx;have e':k=false:=e;subst e';exact truthy_none ⟨H,I,q⟩
 | bl b=>
   cases rx;have e':k=b:=e;subst e';exact scg ⟨H,I,q⟩
 | int i=>
   obtain⟨t,rfl⟩:=rx;have e':k=(i != 0):=e;subst e';exact PySem.P.truthy_int ⟨H,I,q⟩
 | str y=>
   obtain⟨t,rfl⟩:=rx;obtain⟨hy,e'⟩:y.length≤sizeLine∧k=((y.length:Int) != 0):=e;subst e';exact PySem.P.truthy_str (by lia) ⟨H,I.tok _,q⟩
 | byt y=>
   obtain⟨t,rfl⟩:=rx;obtain⟨hy,e'⟩:y.size≤sizeLine∧k=((y.size:Int) != 0):=e;subst e';exact PySem.W.truthy_bytes (by lia) ⟨H,I.tok _,q⟩
 | ref p=>
   cases rx;have e':(∃xs,xV X.K H p xs∧k = !xs.isEmpty)∨(∃xs,dF X.K H p xs∧k = !xs.isEmpty)∨∃kvs,H p=some (.dK kvs)∧k = !kvs.isEmpty:=e
   rcases e' with⟨xs,hx,e'⟩|⟨xs,hx,e'⟩|⟨kvs,hx,e'⟩
   ·subst e';obtain⟨its,r,pl,hz⟩:=I.list hx;have hlen:=r.length;exact wpAny_truthy_list pl.isList (by simp only[List.size_toArray];lia) ⟨H,I.tok _,by rw[jL r];exact q⟩
   ·subst e';obtain⟨its,r,pl,hz⟩:=I.tuple hx;have hlen:=r.length;exact truthy_tuple pl (by simp only[List.size_toArray];lia) ⟨H,I.tok _,by rw[jL r];exact q⟩
   ·subst e';obtain⟨hz,hS,vs,r,m⟩:kvs.length≤sizeLine∧(p == sysModules)=false∧∃vs,KV kvs vs∧s.heap.DictOf (tX X.prog X.w) p vs:=I.hok p _ hx;have hlen:kvs.length=vs.length:=Paired.length r;exact wpAny_truthy_dict hS m (by lia) ⟨H,I.tok _,by rw[aS r];exact q⟩
 |_=>exact(show False from e).elim
theorem WQ (ha:PE X a ta)(he:∀whole,isTrue a X.env whole=(do let v ← whole;standAt a.pos;holding [v] (truthy v))) :
 PT X a (fun σ H Q=>ta σ H fun x H'=>∃k,QY X.K x H' k∧Q k H'):=by
 intro pins s σ H Q I h;exact isTrue_plain (we (ha pins s σ H _ I h) fun v s1 ⟨x,H1,I1,r1,q1⟩=>Sj pins s1 σ H1 x v Q I1 r1 q1) (he _)
theorem qf {x:V}{us:List Value}(r:yt [x] us):∃u,us=[u]∧xm x u:=by
 cases r with
 |cons r1 r2=>cases r2;exact⟨_,rfl,r1⟩
theorem dR {x y:V}{us:List Value}(r:yt [x,y] us):∃u w',us=[u,w']∧xm x u∧xm y w':=by
 cases r with
 | cons r1 r2=>
   cases r2 with
   |cons r3 r4=>cases r4;exact⟨_,_,rfl,r1,r3⟩
theorem XY (hc:X.calm=true):uI X (.builtin "max") (fun xs H Q=>∃i j,xs=[.int i,.int j]∧Q (.int (if j>i then j else i)) H):=by
 intro pins s σ H xs us Q I r h;obtain⟨i,j,rfl,q⟩:=h;obtain⟨u,w',rfl,⟨t,rfl⟩,⟨t',rfl⟩⟩:=dR r
 refine max_two_ints (I.ok.hd hc) fun h' tk k=>⟨_,H,I.kept k,?_,q⟩
 by_cases hj:j>i
 ·rw[saf hj,saf hj];exact⟨_,rfl⟩
 ·rw[sah hj,sah hj];exact⟨_,rfl⟩
theorem lx (hc:X.calm=true):uI X (.builtin "min") (fun xs H Q=>∃i j,xs=[.int i,.int j]∧Q (.int (if j<i then j else i)) H):=by
 intro pins s σ H xs us Q I r h;obtain⟨i,j,rfl,q⟩:=h;obtain⟨u,w',rfl,⟨t,rfl⟩,⟨t',rfl⟩⟩:=dR r
 refine min_two_ints (I.ok.hd hc) fun h' tk k=>⟨_,H,I.kept k,?_,q⟩
 by_cases hj:j<i
 ·rw[saf hj,saf hj];exact⟨_,rfl⟩
 ·rw[sah hj,sah hj];exact⟨_,rfl⟩
end
section
variable {prog:Program}{w:World}{A:Around}{E:Value→Shared→Prop}{s:Shared}{K:Frag}{x dx C f:Addr}{mA:Str→Option Value}{name:Str}{v:Value}
end
section
variable {P:Program}{w:World}{H H':Hp}{h h':Heap}{a C dx:Addr}{fs fs':List (Str×V)}
end
section
variable {X:Cx}{pins:List (Addr×Obj)}{σ:St}{H:Hp}{s:Shared}{a C dx:Addr}{fs:List (Str×V)}{f:Str}{v:V}{A:Around}{E:Value→Shared→Prop}
end
section
variable {X:Cx}{o e value:Expr}{f:Str}{pos pos' tpos:Pos}{ta tv:TE}
end
section
variable {X:Cx}{pins:List (Addr×Obj)}{σ:St}{H:Hp}{s:Shared}{A:Around}{E:Value→Shared→Prop}{Q:Value→Shared→Prop}{c:Value}{b:Bool}
end
structure Room (k:Nat)(A:Around):Prop where
 hd:A.handled=none
 dp:A.depth+3*k+5<recursionLimit
 un:A.units+16*k+200<cLine
theorem Room.mono {j k:Nat}{A:Around}(r:Room k A)(h:j≤k):Room j A:=⟨r.hd,by have:=r.dp;lia,by have:=r.un;lia⟩
theorem Room.deeper {k:Nat}{A:Around}(r:Room (k+1) A)(env:Env):Room k (A.deeper env) :=
 ⟨r.hd,by have:=r.dp;show A.depth+1+3*k+5<_;lia,by have:=r.un;show A.units+3+16*k+200<_;lia⟩
theorem Room.depth {k:Nat}{A:Around}(r:Room k A):A.depth<recursionLimit:=by have:=r.dp;lia
theorem Room.units {k:Nat}{A:Around}(r:Room k A):A.units+64<cLine:=by have:=r.un;lia
noncomputable def iB:TA:=fun _ H Q=>Q [] H
noncomputable def pY (ta:TE)(tr:TA):TA:=fun σ H Q=>ta σ H fun x H1=>tr σ H1 fun xs H2=>Q (x::xs) H2
section
variable {X:Cx}{e:Expr}{es:List Expr}{te:TE}{t:TA}{pos:Pos}
theorem x4:PA X [] iB:=fun _ _ _ _ H Q I h=>Calls.spliced_nil ⟨[],H,I,.nil,h⟩
theorem yP (ha:PE X e te)(hr:PA X es t)(hs:starEach (e::es) X.env=(false,eval e X.env)::starEach es X.env:=by rfl):PA X (e::es) (pY te t):=by
 intro pos pins s σ H Q I h;rw[hs];show wpAny _ _ (spliced ((false,eval e X.env)::backTo pos (starEach es X.env))) _ _ s;refine Calls.spliced_cons (we (ha pins s σ H _ I h) fun u s1 ⟨x,H1,I1,r1,q1⟩=>?_)
 exact we (hr pos pins s1 σ H1 _ I1 q1) fun us s2 ⟨xs,H2,I2,r2,q2⟩=>⟨x::xs,H2,I2,.cons r1 r2,q2⟩
noncomputable def Pm (t:TA):TE:=fun σ H Q=>t σ H fun xs H1=>xs.length≤sizeLine∧∀p,H1 p=none→Q (.ref p) (yW H1 p (.tup xs))
noncomputable def Sm (t:TA):TE:=fun σ H Q=>t σ H fun xs H1=>xs.length≤sizeLine∧∀p,H1 p=none→Q (.ref p) (yW H1 p (.l xs))
theorem SK {x1}(h:PA X es t):PE X (.Tuple es x1 pos) (Pm t):=by
 intro pins s σ H Q I hq;refine wpAny_Tuple_spliced (we (h pos pins s σ H _ I hq) fun us s1 ⟨xs,H1,I1,r,z,q⟩=>⟨by rw[←r.length];exact z,?_⟩);have hf:H1 s1.heap.objs.size=none:=I1.hok.fresh (Nat.le_refl _);refine⟨.ref s1.heap.objs.size,yW H1 s1.heap.objs.size (.tup xs),I1.laid (t':=s1.toks) (fun b u e=>sab _ e) (Nat.le_refl _) ?_,rfl,q _ hf⟩;exact⟨z,us,r,⟨_,saq _ rfl,rfl,_,rfl⟩⟩
theorem W0 (h:PA X es t):PE X (.List es pos) (Sm t):=by
 intro pins s σ H Q I hq;refine wpAny_List_spliced (we (h pos pins s σ H _ I hq) fun us s1 ⟨xs,H1,I1,r,z,q⟩=>⟨by rw[←r.length];exact z,?_⟩);have hf:H1 s1.heap.objs.size=none:=I1.hok.fresh (Nat.le_refl _);refine⟨.ref s1.heap.objs.size,yW H1 s1.heap.objs.size (.l xs),I1.laid (t':=s1.toks) (fun b u e=>sab _ e) (Nat.le_refl _) ?_,rfl,q _ hf⟩;exact⟨z,us,0,r,saq _ rfl⟩
end
noncomputable abbrev Sp:=List V→Hp→VK→XK→Prop
noncomputable abbrev YQ:=List Env→Hp→Shared→XK→Value→Shared→Prop
structure Env0 (P:Program)(w:World)(K:Frag)(mg:Str→Option Value)(base:Heap)(A:Around)(outer:List Env)(s:Shared)(H:Hp):Prop where
 frames:A.frames=some outer
 mod:Mod K mg base
 bs:∀b o,base.get? b=some o→s.heap.get? b=some o∧H b=none
 bsz:base.objs.size≤s.heap.objs.size
 funs:s.heap.FunFrames base outer
 frf:∀b∈Ys outer,H b=none
 hok:kd P w H s.heap
 bare:AllBare s.gens
noncomputable def CE (outer:List Env)(P:Program)(w:World)(H:Hp)(s:Shared)(Q:VK)(u:Value)(s':Shared):Prop :=
 ∃v H',s'.os=s.os∧AllBare s'.gens∧Un (Ys outer) [] H H' s.heap s'.heap∧kd P w H' s'.heap∧xm v u∧Q v H'
noncomputable def CR (CX:YQ)(outer:List Env)(P:Program)(w:World)(H:Hp)(s:Shared)(Q:VK)(E:XK)(r:Result)(s':Shared):Prop :=
 match r with
 | .ok (.ret u)=>CE outer P w H s Q u s'
 | .ok _=>False
 | .error e=>CX outer H s E e s'
structure FnOk (P:Program)(w:World)(K:Frag)(mg:Str→Option Value)(base:Heap)(CX:YQ)(k:Nat)(f:Addr)(fd:FuncData)(ps:List Str)(sp:Sp):Prop where
 len:∀vs H Q E,sp vs H Q E→vs.length=ps.length
 run:∀(A:Around) (outer:List Env) (s:Shared) (H:Hp) (args:Args) (us:List Value) (vs:List V) (Q:VK) (E:XK),Room k A→Env0 P w K mg base A outer s H→BindsTo s fd args (ps.zip us)→yt vs us→sp vs H Q E →
  codeAny (model P w) A (.call (.ref f) args) (CR CX outer P w H s Q E) s
theorem FnOk.mono {P:Program}{w:World}{K:Frag}{mg:Str→Option Value}{base:Heap}{CX:YQ}{j k:Nat}{f:Addr}{fd:FuncData}{ps:List Str}{sp:Sp}(F:FnOk P w K mg base CX j f fd ps sp)(h:j≤k) :
 FnOk P w K mg base CX k f fd ps sp:=⟨F.len,fun A outer s H args us vs Q E hr=>F.run A outer s H args us vs Q E (hr.mono h)⟩
theorem FnOk.imp {P:Program}{w:World}{K:Frag}{mg:Str→Option Value}{base:Heap}{CX:YQ}{k:Nat}{f:Addr}{fd:FuncData}{ps:List Str}{sp sp':Sp}(F:FnOk P w K mg base CX k f fd ps sp)
 (h:∀vs H Q E,sp' vs H Q E→sp vs H Q E):FnOk P w K mg base CX k f fd ps sp' :=
 ⟨fun vs H Q E q=>F.len vs H Q E (h _ _ _ _ q),fun A outer s H args us vs Q E hr he hb hv hs=>F.run A outer s H args us vs Q E hr he hb hv (h _ _ _ _ hs)⟩
section
variable {X:Cx}{pins:List (Addr×Obj)}{σ:St}{H:Hp}{s s':Shared}
theorem Inv.env0 (I:Inv X pins σ H s):Env0 X.prog X.w X.K X.mg X.base X.A X.stack s H :=
 ⟨I.ok.frames,I.ok.mod,I.bs,sbH I.ok.bsz I.sz,I.stack,I.stkFree,I.hok,I.bare⟩
theorem Inv.after {Q:VK}{u:Value}(I:Inv X pins σ H s)(h:CE X.stack X.prog X.w H s Q u s'):EP X pins σ Q u s':=by
 obtain⟨v,H',os,bare,un,hok,r,q⟩:=h;obtain⟨hh,g,d,t,os'⟩:=s';obtain rfl:os'=s.os:=os;exact⟨v,H',I.call (h':=hh) (g':=g) (d':=d) (t':=t) (ch:=[]) un hok bare (fun b z=>absurd z (by simp)),r,q⟩
end
noncomputable def Qd (sp:Sp)(dvs:List V)(E:XK)(t:TA):TE:=fun σ H Q=>t σ H fun vs H1=>sp (vs++dvs) H1 Q E
noncomputable def pb (K:Frag)(fd:FuncData)(ps:List Str)(ds:List Value):Prop :=
 ∀(s:Shared) (us:List Value),K.In s.heap→(us++ds).length=ps.length→BindsTo s fd ⟨us,[]⟩ (ps.zip (us++ds))
theorem pb.all {K:Frag}{fd:FuncData}{ps:List Str}(h:∀us:List Value,us.length=ps.length→bindArgs fd ⟨us,[]⟩=pure (ps.zip us)):pb K fd ps []:=fun s us _ hl=>by
 rw[sbq]at hl ⊢;exact .of_eq (h us hl)
noncomputable def Zx (CX:YQ)(X:Cx)(E:XK):Prop:=∀(pins:List (Addr×Obj)) (σ:St) (H:Hp) (s:Shared) (e:Value) (s':Shared),Inv X pins σ H s→CX X.stack H s E e s'→X.xe e s'
section
variable {X:Cx}{CX:YQ}{k:Nat}{f C:Addr}{fd:FuncData}{ps:List Str}{sp:Sp}{dvs:List V}{ds:List Value}{E:XK}{x m:Str}{p pos apos:Pos}{e o:Expr}{es:List Expr}{ta:TE}{t:TA}
theorem Ss {pins:List (Addr×Obj)}{σ:St}{H:Hp}{s:Shared}{Q:VK}{us:List Value}{vs:List V}(F:FnOk X.prog X.w X.K X.mg X.base CX k f fd ps sp)(hr:Room k X.A)(hb:pb X.K fd ps ds)(hd:yt dvs ds)(hx:Zx CX X E)
 (I:Inv X pins σ H s) (r:yt vs us) (h:sp (vs++dvs) H Q E):wpAny (model X.prog X.w) X.A (call (.ref f) us) (EP X pins σ Q) X.xe s:=by
 have r2:yt (vs++dvs) (us++ds):=r.append hd;have hl:(us++ds).length=ps.length:=by rw[←r2.length];exact F.len _ _ _ _ h
 refine wpAny_call (codeAny_mono (F.run X.A X.stack s H ⟨us,[]⟩ (us++ds) (vs++dvs) Q E hr I.env0 (hb s us I.kIn hl) r2 h) fun r s' hq=>?_)
 cases r with
 |error e=>exact hx pins σ H s e s' I hq
 | ok fl=>
   cases fl with
   |ret u=>exact I.after hq
   |next=>exact False.elim hq
   |brk=>exact False.elim hq
   |cont=>exact False.elim hq
theorem US (F:FnOk X.prog X.w X.K X.mg X.base CX k f fd ps sp)(hr:Room k X.A)(hg:Gl X x)(hm:X.mg x=some (.ref f))(hk:PySem.W.keepIn X.K (.ref f)=true)(hb:pb X.K fd ps ds)(hd:yt dvs ds)(hx:Zx CX X E)
 (ha:PA X (e::es) t) (hdb:(x == ("__debug__" : Str))=false:=by decide) (he:starEach (e::es) X.env=(false,eval e X.env)::starEach es X.env:=by rfl) (hpl:(backTo pos (starEach es X.env)).any (·.1)=false:=by rfl) :
 PE X (.Call (.Name x p) (e::es) [] pos) (Qd sp dvs E t):=by
 intro pins s σ H Q I h;refine sbJ (U3 I hg hm ?_ hdb);refine PySem.W.callWith_K (h₀:=X.base) I.ok.mod.kin hk (we (ha pos pins s σ H _ I h) fun us s1 ⟨vs,H1,I1,r,q⟩=>⟨I1.kIn,?_⟩) he hpl;exact Ss F hr hb hd hx I1 r q
end
section
variable {X:Cx}{CX:YQ}{k:Nat}{f C:Addr}{fd:FuncData}{ps ks:List Str}{sp:Sp}{E:XK}{x m:Str}{p pos apos kpos:Pos}{e o:Expr}{es:List Expr}{kws:List Keyword}{te ta:TE}{t tk:TA}{nm:Option Str}
variable {g:List Value→List Value→List Value}{gV:List V→List V→List V}
end
structure FS_ (N P:List Str)(sc:Scope):Prop where
 kind:sc.kind=.function
 co:sc.isCoroutine=false
 gen:sc.isGenerator=false
 nd:N.Nodup
 pre:N.take P.length=P
 par:∀x∈P,sc.names.lookup x=some .local∨sc.names.lookup x=some .cell
 nofree:∀y∈sc.names,y.2≠.free
theorem g8 {kindOf:Str→Option NameKind}{x:Str}:∀{binds:List (Str×Value)} {m:Str→Option Value},(∀v,(x,v)∉binds)→bindL kindOf binds m x=m x
 |[],_,_=>rfl
 | (n,v)::r,m,h=>by
   unfold bindL;rw[g8 fun w hw=>h w (sao _ hw)];split
   ·have:x≠n:=by rintro rfl;exact h v saB
    simp[this]
   ·rfl
theorem ff {kindOf:Str→Option NameKind}{x:Str}:∀{binds:List (Str×Value)} {m:Str→Option Value},(∀v,(x,v)∉binds)→bindC kindOf binds m x=m x
 |[],_,_=>rfl
 | (n,v)::r,m,h=>by
   unfold bindC;rw[ff fun w hw=>h w (sao _ hw)];split
   ·rfl
   ·have:x≠n:=by rintro rfl;exact h v saB
    simp[this]
theorem g_ {kindOf:Str→Option NameKind}{x:Str}{v:Value}:∀{P:List Str} {vs:List Value} {i:Nat} {m:Str→Option Value},P.Nodup→P[i]?=some x→vs[i]?=some v→kindOf x=some .local →
 bindL kindOf (P.zip vs) m x=some v
 |[],_,_,_,_,h,_,_=>by simp at h
 |_::_,[],_,_,_,_,h,_=>by simp at h
 | p::P,w::vs,0,m,nd,h1,h2,hk=>by
   simp at h1 h2;subst h1;subst h2;show bindL kindOf ((p,w)::P.zip vs) m p=_;unfold bindL;rw[g8 fun v hv=>(sbl.mp nd).1 (List.of_mem_zip hv).1,saf hk];simp
 | p::P,w::vs,i+1,m,nd,h1,h2,hk=>by
   show bindL kindOf ((p,w)::P.zip vs) m x=_;unfold bindL;exact g_ (i:=i) (sbl.mp nd).2 (by simpa using h1) (by simpa using h2) hk
theorem fg {kindOf:Str→Option NameKind}{x:Str}{v:Value}:∀{P:List Str} {vs:List Value} {i:Nat} {m:Str→Option Value},P.Nodup→P[i]?=some x→vs[i]?=some v→kindOf x≠some .local →
 bindC kindOf (P.zip vs) m x=some v
 |[],_,_,_,_,h,_,_=>by simp at h
 |_::_,[],_,_,_,_,h,_=>by simp at h
 | p::P,w::vs,0,m,nd,h1,h2,hk=>by
   simp at h1 h2;subst h1;subst h2;show bindC kindOf ((p,w)::P.zip vs) m p=_;unfold bindC;rw[ff fun v hv=>(sbl.mp nd).1 (List.of_mem_zip hv).1,sah hk];simp
 | p::P,w::vs,i+1,m,nd,h1,h2,hk=>by
   show bindC kindOf ((p,w)::P.zip vs) m x=_;unfold bindC;exact fg (i:=i) (sbl.mp nd).2 (by simpa using h1) (by simpa using h2) hk
noncomputable def zH (N:List Str)(vs:List V):St:=vs.map some++List.replicate (N.length - vs.length) none
noncomputable def Zi (CX:YQ)(P:Program)(w:World)(K:Frag)(mg:Str→Option Value)(base:Heap)(N:List Str)(qual:Str)(scope:Scope)(f:Addr)(cd:Value)(A:Around)(outer:List Env)(s:Shared)(H:Hp)(E:XK):Cx where
 prog:=P
 w:=w
 K:=K
 mg:=mg
 base:=base
 A:=A.deeper (envOfC qual scope s.heap.objs.size f cd)
 N:=N
 s₀:=s
 H₀:=H
 env:=envOfC qual scope s.heap.objs.size f cd
 outer:=outer
 stack:=envOfC qual scope s.heap.objs.size f cd::outer
 ex:=[]
 calm:=true
 fn:=fun _=>true
 pn:=[]
 xe:=fun e s'=>wpAny (model P w) (A.deeper (envOfC qual scope s.heap.objs.size f cd)) (leaving (envOfC qual scope s.heap.objs.size f cd) e) (fun _ s''=>CX outer H s E e s'') (fun e' s''=>CX outer H s E e' s'') s'
theorem me {sc:Scope}{n:Nat}{x:Str}(h:sc.names.lookup x=some .cell):∃c,(cellsFrom n sc.names []).lookup x=some c:=by
 have q:=PySem.W.cellsFrom_some sc.names n [] (.inl h);exact Option.isSome_iff_exists.mp q
theorem Xw {CX:YQ}{P:Program}{w:World}{K:Frag}{mg:Str→Option Value}{base:Heap}{N ps:List Str}{qual:Str}{scope:Scope}{f:Addr}{cd:Value}{A:Around}{outer:List Env}{s s1:Shared}{H:Hp}{E:XK}{us:List Value}{vs:List V}
 (S:FS_ N ps scope) (hd:A.handled=none) (e0:Env0 P w K mg base A outer s H) (hl:vs.length=ps.length) (r:yt vs us)
 (x:InCallC s s.heap.objs.size (bindL (envOfC qual scope s.heap.objs.size f cd).kindOf (ps.zip us) fun _=>none) (cellsFrom (s.heap.objs.size+1) scope.names []) (bindC (envOfC qual scope s.heap.objs.size f cd).kindOf (ps.zip us) fun _=>none) s1) :
 Inv (Zi CX P w K mg base N qual scope f cd A outer s H E) [] (zH N vs) H s1:=by
 have hpl:ps.length≤N.length:=by have:=congrArg List.length S.pre;rw[scp]at this;lia
 obtain⟨h1,tk,rfl,hk⟩:=x.done;have noA:∀b:Addr,b∉(Zi CX P w K mg base N qual scope f cd A outer s H E).ex:=fun b z=>absurd (show b∈([]:List Addr)from z) (by simp)
 refine⟨⟨e0.mod,S.kind,rfl,rfl,Nat.le_refl _,fun y z c h1 h2=>?_,fun y hy=>?_,fun y c _ h=>?_,fun _=>hd,Around.frames_deeper e0.frames,.inr ⟨rfl,rfl⟩,fun b z=>absurd z (noA b),e0.bs,e0.bsz,fun b _ _=>noA b,fun b z=>absurd z (noA b),e0.funs,e0.frf⟩,
  rfl,e0.bare,Un.kept hk,⟨_,x.toInCall.ns,fun i y v h1 h2 h3=>?_⟩,fun y c h=>⟨_,x.cell y c h⟩,e0.hok.fresh (Nat.le_refl _),fun y c h=>?_,fun p hp=>absurd (show p∈([]:List (Addr×Obj))from hp) (by simp),e0.hok.kept hk,?_⟩
 ·exact name_of_addr x.apart (sbc h1) (sbc h2)
 ·have hy:scope.names.lookup y=some .cell∨scope.names.lookup y=some .free:=hy
  rcases hy with hy|hy
  ·exact me hy
  ·exact absurd rfl (S.nofree _ (sbc hy))
 ·exact scb (x.above y c (sbc h))
 ·have hi:i<vs.length:=by
   unfold zH at h2;by_cases hi:i<vs.length
   ·exact hi
   ·rw[sbx (by simpa using hi)]at h2;rw[sbK]at h2
    split at h2 <;> cases h2
  have ha:vs[i]?=some v:=by
   unfold zH at h2;rw[saZ (by simpa using hi),sav]at h2
   cases e:vs[i]? with
   |none=>rw[e]at h2;cases h2
   |some a=>rw[e]at h2;cases h2;rfl
  obtain⟨u,hu,rv⟩:=r.get ha
  have hp:ps[i]?=some y:=by
   rw[←S.pre,List.getElem?_take_of_lt (by lia)];exact h1
  have ndP:ps.Nodup:=by rw[←S.pre];exact S.nd.sublist (List.take_sublist _ _)
  refine⟨u,rv,?_⟩
  rcases S.par y (saD hp)with k|k
  ·exact .inl ⟨k,g_ ndP hp hu k⟩
  ·obtain⟨c,e⟩:=me (n:=s.heap.objs.size+1) k;refine .inr ⟨.inl k,c,e,?_⟩;have q:=x.cell y c e;rw[fg ndP hp hu (by show scope.names.lookup y≠_;rw[k];decide)]at q;exact q
 ·exact e0.hok.fresh (scb (x.above y c (sbc h)))
 ·unfold zH;show _=N.length;rw[saN,sae,List.length_replicate];lia
theorem QI {CX:YQ}{P:Program}{w:World}{K:Frag}{mg:Str→Option Value}{base:Heap}{k:Nat}{f:Addr}{name qual:Str}{params:Arguments}{body:List Stmt}{scope:Scope}{dV kV doc pm cdv ct oc:Value}{an od:Option Addr}
 {osl:Array (Option Value)} {N ps:List Str} {sp:Sp} (lk:K.lookup f=some ⟨oc,od,.func (PySem.W.fnOf name qual params body scope dV kV doc pm an cdv ct),osl⟩) (hcd:PySem.W.codeIn K cdv qual=true) (S:FS_ N ps scope)
 (len:∀vs H Q E,sp vs H Q E→vs.length=ps.length)
 (hbody:∀(A:Around) (outer:List Env) (s:Shared) (H:Hp) (vs:List V) (Q:VK) (E:XK),Room k (A.deeper (envOfC qual scope s.heap.objs.size f cdv))→sp vs H Q E →
  ∃t,dN (Zi CX P w K mg base N qual scope f cdv A outer s H E) body t∧t {nx:=fun _ H'=>Q .non H',rt:=Q} (zH N vs) H) :
 FnOk P w K mg base CX (k+1) f (PySem.W.fnOf name qual params body scope dV kV doc pm an cdv ct) ps sp:=by
 refine⟨len,fun A outer s H args us vs Q E hr e0 hb r hsp=>?_⟩;have hl:=len _ _ _ _ hsp;have KX:K.In s.heap:=e0.mod.kin.keeps fun b o e=>(e0.bs b o e).1;have lim:s.heap.NoLimit:=e0.mod.nolimit.keeps fun b o e=>(e0.bs b o e).1
 have hkind:∀y∈ps.zip us,scope.names.lookup y.1=some .local∨(scope.names.lookup y.1=some .cell∧((cellsFrom (s.heap.objs.size+1) scope.names []).lookup y.1).isSome=true):=fun⟨n,v⟩ hy=>by
  rcases S.par n (List.of_mem_zip hy).1 with q|q
  ·exact .inl q
  ·exact .inr ⟨q,PySem.W.cellsFrom_some _ _ _ (.inl q)⟩
 refine codeAny_call_function hr.depth (KX _ _ lk) rfl S.co S.gen rfl (PySem.W.codeRec_of KX hcd) (hb _ _ _ _ ?_);refine wpAny_newFunctionEnv_cells S.kind hkind fun env he s1 x=>?_;subst he;refine⟨lim.keeps x.toInCall.keep,codeAny_func ?_⟩;obtain⟨t,ht,hq⟩:=hbody A outer s H vs Q E (hr.deeper _) hsp;have I:Inv (Zi CX P w K mg base N qual scope f cdv A outer s H E) [] (zH N vs) H s1:=Xw S hr.hd e0 hl r x;refine scE (ht [] s1 (zH N vs) H _ I hq) (fun fl s' hs=>?_) fun e s' hs=>hs
 have fin:∀{σ':St} {H':Hp} {v:V} {u:Value},Inv (Zi CX P w K mg base N qual scope f cdv A outer s H E) [] σ' H' s'→xm v u→Q v H'→CE outer P w H s Q u s' :=
  fun {σ' H' v u} J rv q=>⟨v,H',J.os,J.bare,J.base,J.hok,rv,q⟩
 cases fl with
 | ret u=>
   obtain⟨v,σ',H',J,rv,q⟩:=hs;exact fin J rv q
 | next=>
   obtain⟨σ',H',J,q⟩:=hs;exact fin (v:=V.non) (u:=Value.none) J rfl q
 | brk=>
   obtain⟨_,_,_,q⟩:=hs;exact False.elim q
 | cont=>
   obtain⟨_,_,_,q⟩:=hs;exact False.elim q
section
variable {X:Cx}{x:Str}{p pos:Pos}{e:Expr}{es:List Expr}{t:TA}{id T:String}{r:List V→Hp→VK→Prop}
noncomputable def Qe (r:List V→Hp→VK→Prop)(t:TA):TE:=fun σ H Q=>t σ H fun vs H1=>r vs H1 Q
theorem jB (hc:uI X (.builtin id) r)(hg:Gl X x)(hm:X.mg x=none)(hv:bootBuiltins x=some (.builtin id))(ha:PA X (e::es) t)(hn:x ≠ "__name__" :=by decide) (hdb:(x == ("__debug__" : Str))=false:=by decide)
 (he:starEach (e::es) X.env=(false,eval e X.env)::starEach es X.env:=by rfl) (hpl:(backTo pos (starEach es X.env)).any (·.1)=false:=by rfl):PE X (.Call (.Name x p) (e::es) [] pos) (Qe r t):=by
 intro pins s σ H Q I h;refine sbJ (u7 I hg hm hv ?_ hn hdb);exact PyProof.Rows.callWith_builtin1 (we (ha pos pins s σ H _ I h) fun us s1 ⟨vs,H1,I1,r1,q1⟩=>hc pins s1 σ H1 vs us Q I1 r1 q1) he hpl
theorem mL (hc:uI X (.type T) r)(hg:Gl X x)(hm:X.mg x=none)(hv:bootBuiltins x=some (.type T))(ha:PA X (e::es) t)(hn:x ≠ "__name__" :=by decide) (hdb:(x == ("__debug__" : Str))=false:=by decide)
 (he:starEach (e::es) X.env=(false,eval e X.env)::starEach es X.env:=by rfl) (hpl:(backTo pos (starEach es X.env)).any (·.1)=false:=by rfl):PE X (.Call (.Name x p) (e::es) [] pos) (Qe r t):=by
 intro pins s σ H Q I h;refine sbJ (u7 I hg hm hv ?_ hn hdb);exact saW (we (ha pos pins s σ H _ I h) fun us s1 ⟨vs,H1,I1,r1,q1⟩=>hc pins s1 σ H1 vs us Q I1 r1 q1) he hpl
end
end L2
namespace HT
open PySem PyProof.Rows
section
open PySem.SeqAt
open PySem.AutoSeq1 (wpAny_loadPart')
open PySem.MeetsSeq PySem.MeetsSeq2 PySem.MeetsSeq3
end
section
variable {prog:Program}{w:World}{A:Around}{E:Value→Shared→Prop}{s:Shared}
noncomputable def sIx (n d:Nat):Option Int→Nat
 |none=>d
 |some v=>if v<0 then(v+(n:Int)).toNat else min v.toNat n
theorem Sq (n d:Nat)(hd:d≤n)(o:Option Int):sIx n d o≤n:=by
 cases o with
 |none=>exact hd
 | some v=>
   show(if v<0 then(v+(n:Int)).toNat else min v.toNat n)≤n;by_cases hv:v<0
   ·rw[saf hv];lia
   ·rw[sah hv];exact Nat.min_le_right _ _
theorem YG (v:Int)(n d:Nat):(if v<0 then max (v+(n:Int)) 0 else min v (n:Int))=((sIx n d (some v):Nat):Int):=by
 show(if v<0 then max (v+(n:Int)) 0 else min v (n:Int))=(((if v<0 then(v+(n:Int)).toNat else min v.toNat n):Nat):Int)
 by_cases hv:v<0
 ·simp only[saf hv];lia
 ·simp only[sah hv];lia
theorem Zu (lo hi:Option Int)(n:Nat):Builtin.Slice.sliceAdjust lo hi 1 (n:Int)=(((sIx n 0 lo:Nat):Int),((sIx n n hi:Nat):Int)):=by
 have h1:¬((1:Int)<0):=by lia
 unfold Builtin.Slice.sliceAdjust;simp only[h1,if_false];refine Prod.ext ?_ ?_
 ·cases lo with
  |none=>rfl
  |some v=>exact YG v n 0
 ·cases hi with
  |none=>rfl
  |some v=>exact YG v n n
theorem ax (i j:Nat):Builtin.Slice.slicePlaces (i:Int) (j:Int) 1=j - i:=by
 unfold Builtin.Slice.slicePlaces;have h1:(1:Int)>0:=by lia
 simp only[h1,if_true,Int.ediv_one]
 split <;> lia
theorem k_ {v:Value}{o:Option Int}{Q:Option Int→Shared→Prop}(p:IsPart v o)(h:Q o s):wpAny (model prog w) A (Builtin.Slice.slicePartIndex v) Q E s:=by
 cases p with
 |none=>exact slicePart_none h
 |int i t=>exact slicePart_int h
theorem mC {sl:Addr}{vl vu:Value}{lo hi:Option Int}{n:Nat}{Q:Int×Int×Nat→Shared→Prop}(hs:s.heap.IsSliceOf sl vl vu .none)(pl:IsPart vl lo)(pu:IsPart vu hi)
 (h:Q (((sIx n 0 lo:Nat):Int),1,sIx n n hi - sIx n 0 lo) s):wpAny (model prog w) A (Builtin.Slice.sliceApplied (.ref sl) (pure (n:Int))) Q E s:=by
 obtain⟨os,hos,hcs,hds⟩:=id hs;unfold Builtin.Slice.sliceApplied Builtin.Slice.sliceFields;refine saa (saa (sbu hos hds (x:=vl) rfl (saa (sbu hos hds (x:=vu) rfl (saa (sbu hos hds (x:=.none) rfl (sac ?_)))))));refine saa (slicePart_none ?_);show wpAny _ _ (if((1:Int) == 0)=true then _ else _) _ _ s;rw[sah (by decide)];refine saa (k_ pl (saa (k_ pu (saa (sac ?_)))));show wpAny _ _ (match Builtin.Slice.sliceAdjust lo hi 1 (n:Int)with|(lo,hi)=>pure (lo,(1:Int),Builtin.Slice.slicePlaces lo hi 1)) _ _ s;rw[Zu lo hi n];show wpAny _ _ (pure (((sIx n 0 lo:Nat):Int),(1:Int),Builtin.Slice.slicePlaces ((sIx n 0 lo:Nat):Int) ((sIx n n hi:Nat):Int) 1)) _ _ s;rw[ax];exact sac h
theorem WX (xs:Array Value)(i k:Nat):((List.range k).filterMap fun(m:Nat)=>xs[((i:Int)+(m:Int)*1).toNat]?).toArray=((xs.toList.drop i).take k).toArray:=by
 have e:(fun(m:Nat)=>xs[((i:Int)+(m:Int)*1).toNat]?)=fun m=>xs[i+m]?:=by
  funext m
  have:((i:Int)+(m:Int)*1).toNat=i+m:=by lia
  rw[this]
 rw[e];have:=pick_run xs i k;rw[List.filterMap_map]at this;have e2:((fun x=>xs[x]?) ∘ fun x=>i+x)=fun m=>xs[i+m]?:=rfl;rw[e2]at this;rw[this]
theorem getItem_tuple_cut {t sl:Addr}{items:Array Value}{vl vu:Value}{lo hi:Option Int}{Q:Value→Shared→Prop}(ht:IsTup s.heap t items)(hs:s.heap.IsSliceOf sl vl vu .none)(pl:IsPart vl lo)(pu:IsPart vu hi)
 (hw:¬(sIx items.size 0 lo=0∧sIx items.size items.size hi=items.size))
 (h:Q (.ref s.heap.objs.size) {s with heap:=s.heap.push {cls:=.type "tuple",data:=.seq ((items.toList.drop (sIx items.size 0 lo)).take (sIx items.size items.size hi - sIx items.size 0 lo)).toArray}})
 (hsz:items.size≤sizeLine):wpAny (model prog w) A (getItem (.ref t) (.ref sl)) Q E s:=by
 have htake:sizeOk (.seq ((items.toList.drop (sIx items.size 0 lo)).take (sIx items.size items.size hi - sIx items.size 0 lo)).toArray):=by
  show((items.toList.drop (sIx items.size 0 lo)).take (sIx items.size items.size hi - sIx items.size 0 lo)).toArray.size≤sizeLine;rw[List.size_toArray,scp,List.length_drop,Array.length_toList];lia
 have hj:sIx items.size items.size hi≤items.size:=Sq _ _ (Nat.le_refl _) hi;obtain⟨os,hos,hcs,hds⟩:=id hs
 have hTs:s.TypeIs (.ref sl) "slice" :=⟨os,hos,hcs⟩
 unfold getItem
 try with_reducible refine sbj ?_
 first|refine saa (sac ?_)|skip
 refine saa (wpAny_sequenceKey ht.typeIs (by decide) ?_)
 refine saa (sci (name:=Str.ofString "__getitem__") ht.typeIs PyProof.Rows.slot_tuple_getitem
  (scG PyProof.Rows.slot_tuple_getitem ht.typeIs entry_tuple_getitem ?_ (args_tuple_getitem _ _)))
 show wpAny _ _ (Builtin.Tuple.tupleItemsOf (.ref t) >>= _) _ _ s;refine saa (tupleItemsOf_ ht ?_);refine saa (wpAny_typeOf hTs ?_);rw[saf (by decide)];refine saa (mC hs pl pu ?_)
 have hno:¬((((sIx items.size 0 lo:Nat):Int) == 0&&(1:Int) == 1&&(sIx items.size items.size hi - sIx items.size 0 lo) == items.size)=true):=by
  intro q;rw[saS,saS]at q;have q1:((sIx items.size 0 lo:Nat):Int)=0:=eq_of_beq q.1.1;have q2:sIx items.size items.size hi - sIx items.size 0 lo=items.size:=eq_of_beq q.2;exact hw ⟨by lia,by lia⟩
 show wpAny _ _ (if(((sIx items.size 0 lo:Nat):Int) == 0&&(1:Int) == 1&&(sIx items.size items.size hi - sIx items.size 0 lo) == items.size)=true then _ else _) _ _ s;rw[sah hno,WX]
 first
  |exact saa (m:=Builtin.Tuple.tupleExact _) (scz (sac ⟨_,rfl,sac h⟩) htake)
  |exact saa (m:=Builtin.Tuple.tupleExact _) (scz (saa (sac (sac ⟨_,rfl,sac h⟩))) htake)
  |exact saa (saa (m:=Builtin.Tuple.tupleExact _) (scz (sac (sac ⟨_,rfl,sac h⟩)) htake))
  |exact saa (saa (m:=Builtin.Tuple.tupleExact _) (scz (sac ⟨_,rfl,sac h⟩) htake))
end
end HT
namespace L2
open PySem PySem.Spec PyProof.Rows
noncomputable abbrev TO:=St→Hp→(Option Int→Hp→Prop)→Prop
noncomputable def PO (X:Cx)(e:Option Expr)(t:TO):Prop :=
 ∀ (pins:List (Addr×Obj)) (s:Shared) (σ:St) (H:Hp) (Q:Option Int→Hp→Prop),Inv X pins σ H s→t σ H Q →
   wpAny (model X.prog X.w) X.A (evalPart e X.env) (fun u s'=>∃o H',Inv X pins σ H' s'∧IsPart u o∧Q o H') X.xe s
noncomputable def Uv:TO:=fun _ H Q=>Q none H
noncomputable def R_ (t:TE):TO:=fun σ H Q=>t σ H fun x H1=>∃i,x=.int i∧Q (some i) H1
theorem aT {ns:List Int}:∀{us:List Value},yt (ns.map V.int) us→IntsAre us ns:=by
 induction ns with
 |nil=>intro us r;rw[List.map_nil]at r;cases r;exact .nil
 | cons n ns ih=>
   intro us r;rw[List.map_cons]at r
   cases r with
   | cons r1 r2=>
     obtain⟨t,e⟩:=r1;subst e;exact .cons n t (ih r2)
section
variable {X:Cx}{e:Expr}{te:TE}{lo hi:Option Expr}{tl th:TO}{pos p2:Pos}
theorem UN:PO X none Uv:=by
 intro pins s σ H Q I h;rw[evalPart_none];exact sac ⟨none,H,I,.none,h⟩
theorem UM (h:PE X e te):PO X (some e) (R_ te):=by
 intro pins s σ H Q I hw;rw[evalPart_some];refine we (h pins s σ H _ I hw) fun u s1 ⟨x,H1,I1,r1,q1⟩=>?_;obtain⟨i,rfl,q⟩:=q1;obtain⟨t,rfl⟩:=r1;exact⟨some i,H1,I1,.int i t,q⟩
noncomputable def RT (X:Cx)(r:V→Option Int→Option Int→Hp→VK→Prop):Prop :=
 ∀ (pins:List (Addr×Obj)) (s:Shared) (σ:St) (H:Hp) (x:V) (v vl vu:Value) (lo hi:Option Int) (sl:Addr) (Q:VK),Inv X pins σ H s→xm x v→s.heap.IsSliceOf sl vl vu .none→IsPart vl lo→IsPart vu hi→r x lo hi H Q →
   ∃T id,typeLookup (.type T) "__getitem__" = pure (some (.builtin id))∧s.TypeIs v T∧wpAny (model X.prog X.w) X.A (getItem v (.ref sl)) (EP X pins σ Q) X.xe s
theorem RT.or {r r':V→Option Int→Option Int→Hp→VK→Prop}(h:RT X r)(h':RT X r'):RT X (fun x lo hi H Q=>r x lo hi H Q∨r' x lo hi H Q):=by
 intro pins s σ H x v vl vu lo hi sl Q I rx hs pl pu q
 rcases q with q|q
 ·exact h pins s σ H x v vl vu lo hi sl Q I rx hs pl pu q
 ·exact h' pins s σ H x v vl vu lo hi sl Q I rx hs pl pu q
noncomputable def Oc (r:V→Option Int→Option Int→Hp→VK→Prop)(te:TE)(tl th:TO):TE:=fun σ H Q=>te σ H fun x H1=>tl σ H1 fun l H2=>th σ H2 fun u H3=>r x l u H3 Q
theorem WZ {r:V→Option Int→Option Int→Hp→VK→Prop}(hr:RT X r)(he:PE X e te)(hl:PO X lo tl)(hu:PO X hi th):PE X (.Subscript e (.Slice lo hi none p2) pos) (Oc r te tl th):=by
 intro pins s σ H Q I h;refine Subscript_ (we (he pins s σ H _ I h) fun v s1 ⟨x,H1,I1,r1,q1⟩=>?_);refine wpAny_Slice (we (hl pins s1 σ H1 _ I1 q1) fun vl s2 ⟨l,H2,I2,pl,q2⟩=>we (hu pins s2 σ H2 _ I2 q2) fun vu s3 ⟨u,H3,I3,pu,q3⟩=>?_);rw[evalPart_none];refine sac ?_;have I4:Inv X pins σ H3 {s3 with heap:=s3.heap.push {cls:=.type "slice",data:=.fields #[vl,vu,.none]}}:=I3.kept (t':=s3.toks) fun b ob q=>sab _ q;obtain⟨T,id,hT,ht,hg⟩:=hr pins {s3 with heap:=s3.heap.push {cls:=.type "slice",data:=.fields #[vl,vu,.none]}} σ H3 x v vl vu l u s3.heap.objs.size Q I4 r1 (Heap.IsSliceOf.new ..) pl pu q3;show wpAny (model X.prog X.w) X.A (subscriptTail e (.Slice lo hi none p2) v (.ref s3.heap.objs.size)) (EP X pins σ Q) X.xe {s3 with heap:=s3.heap.push {cls:=.type "slice",data:=.fields #[vl,vu,.none]}};exact tail_any (ops:=[.ref s3.heap.objs.size,v]) ht hT hg (by with_unfolding_all rfl)
noncomputable def iM (xs:List V)(lo hi:Option Int):List V:=(xs.drop (HT.sIx xs.length 0 lo)).take (HT.sIx xs.length xs.length hi - HT.sIx xs.length 0 lo)
theorem lY (xs:List V)(lo hi:Option Int):(iM xs lo hi).length≤xs.length:=by
 unfold iM;rw[scp,List.length_drop];lia
noncomputable def Pq (K:Frag):V→Option Int→Option Int→Hp→VK→Prop:=fun x lo hi H Q=>∃a xs,x=.ref a∧dF K H a xs ∧
 ¬(HT.sIx xs.length 0 lo=0∧HT.sIx xs.length xs.length hi=xs.length)∧∀p,H p=none→Q (.ref p) (yW H p (.tup (iM xs lo hi)))
theorem So:RT X (Pq X.K):=by
 intro pins s σ H x v vl vu lo hi sl Q I rx hs pl pu h;obtain⟨a,xs,rfl,hx,hw,q⟩:=h;cases rx;obtain⟨its,r,ht,hz⟩:=I.tuple hx;have hlen:its.toArray.size=xs.length:=by rw[List.size_toArray];exact r.length.symm
 refine⟨"tuple",_,PyProof.Rows.slot_tuple_getitem.lookup,ht.typeIs,?_⟩;refine HT.getItem_tuple_cut ht hs pl pu (by rw[hlen];exact hw) ?_ (by rw[hlen];exact hz);rw[hlen];refine⟨.ref s.heap.objs.size,_,I.laid (t':=s.toks) (o:=.tup (iM xs lo hi)) (fun b ob q=>sab _ q) (Nat.le_refl _) ?_,rfl,q _ (I.hok.fresh (Nat.le_refl _))⟩;exact⟨sbH (lY xs lo hi) hz,_,(r.drop (HT.sIx xs.length 0 lo)).take (HT.sIx xs.length xs.length hi - HT.sIx xs.length 0 lo),IsTup.new _ _⟩
end
noncomputable def U9 (n:Nat)(i:Int):Option Nat:=if 0≤i then(if i<n then some i.toNat else none)else if -(n:Int)≤i then some (i+n).toNat else none
noncomputable def t9 {α:Type}(xs:List α)(i:Int):Option α:=(U9 xs.length i).bind fun j=>xs[j]?
theorem U8 {n:Nat}{i:Int}{j:Nat}(h:U9 n i=some j):seqIndex? i n=some j∧j<n ∧ -(n:Int)≤i∧i<n:=by
 unfold U9 at h;by_cases h0:0≤i
 ·rw[saf h0]at h;by_cases h1:i<n
  ·rw[saf h1]at h;have e:i.toNat=j:=saI h;exact⟨by rw[seqIndex_of h0 h1,e],by lia,by lia,h1⟩
  ·rw[sah h1]at h;cases h
 ·rw[sah h0]at h;by_cases h1 : -(n:Int)≤i
  ·rw[saf h1]at h;have e:(i+n).toNat=j:=saI h;exact⟨by rw[seqIndex_neg (by lia) h1,e],by lia,h1,by lia⟩
  ·rw[sah h1]at h;cases h
theorem dC {α:Type}{xs:List α}{i:Int}{v:α}(h:t9 xs i=some v):∃j,seqIndex? i xs.length=some j∧xs[j]?=some v∧j<xs.length ∧ -(xs.length:Int)≤i∧i<xs.length:=by
 unfold t9 at h
 cases e:U9 xs.length i with
 |none=>rw[e]at h;cases h
 | some j=>
   rw[e]at h;obtain⟨h1,h2,h3,h4⟩:=U8 e;exact⟨j,h1,h,h2,h3,h4⟩
noncomputable def dG (b:Expr):Prop:=∀o i,subscripted b false o i=operate [o,i] (getItem o i)
noncomputable def Ui (X:Cx)(r:R2):Prop :=
 ∀ (value slice:Expr) (pins:List (Addr×Obj)) (s:Shared) (σ:St) (H:Hp) (x y:V) (v u:Value) (Q:VK),Inv X pins σ H s→xm x v→xm y u→r x y H Q →
   subscripted slice false v u=operate [v,u] (getItem v u)→wpAny (model X.prog X.w) X.A (subscriptTail value slice v u) (EP X pins σ Q) X.xe s
noncomputable def Pe (X:Cx)(id:String)(r:V→List V→Hp→VK→Prop):Prop :=
 ∀ (pins:List (Addr×Obj)) (s:Shared) (σ:St) (H:Hp) (x:V) (xs:List V) (v:Value) (us:List Value) (Q:VK),Inv X pins σ H s→xm x v→yt xs us→r x xs H Q →
   wpAny (model X.prog X.w) X.A (call (.builtin id) (v::us)) (EP X pins σ Q) X.xe s
section
variable {X:Cx}{a b:Expr}{ta tb:TE}{pos:Pos}
theorem Ui.or {r r':R2}(h:Ui X r)(h':Ui X r'):Ui X (fun x y H Q=>r x y H Q∨r' x y H Q):=by
 intro value slice pins s σ H x y v u Q I rx ry q hs
 rcases q with q|q
 ·exact h value slice pins s σ H x y v u Q I rx ry q hs
 ·exact h' value slice pins s σ H x y v u Q I rx ry q hs
theorem Qq {r:R2}(hr:Ui X r)(ha:PE X a ta)(hb:PE X b tb)(hs:dG b):PE X (.Subscript a b pos) (Qa r ta tb):=by
 intro pins s σ H Q I h;exact Subscript_ (RL ha hb I h fun v u s2 x y H2 I2 rx ry q=>hr a b pins s2 σ H2 x y v u Q I2 rx ry q (hs _ _))
noncomputable def SA (K:Frag):R2:=fun x y H Q=>∃p xs i v,x=.ref p∧y=.int i∧xV K H p xs∧t9 xs i=some v∧Q v H
noncomputable def Sy (K:Frag):R2:=fun x y H Q=>∃p xs i v,x=.ref p∧y=.int i∧dF K H p xs∧t9 xs i=some v∧Q v H
noncomputable def Sz:R2:=fun x y H Q=>∃z i c,x=.str z∧y=.int i∧z.length≤sizeLine∧t9 z.cps.toList i=some c∧Q (.str ⟨#[c]⟩) H
theorem U7:Ui X (SA X.K):=by
 intro value slice pins s σ H x y v u Q I rx ry h hs;obtain⟨p,xs,i,z,rfl,rfl,hq,he,q⟩:=h;cases rx;obtain⟨t,rfl⟩:=ry;obtain⟨its,r,pl,hz⟩:=I.list hq;obtain⟨j,h1,h2,h3,h4,h5⟩:=dC he;obtain⟨w,ew,rw'⟩:=r.get h2;have hl:=r.length;have hn:=jK
 have fin:EP X pins σ Q w s:=⟨z,H,I,rw',q⟩
 by_cases h0:0≤i
 ·have hj:i.toNat=j:=by
   rw[seqIndex_of h0 h5]at h1;exact saI h1
  exact item_listR pl.isList h0 (by lia) (by rw[hj];simpa using ew) fin hs
 ·have hj:(i+(its.toArray.size:Int)).toNat=j:=by
   rw[seqIndex_neg (by lia) h4]at h1;rw[List.size_toArray,←hl];exact saI h1
  exact subscriptTail_builtinR (x:=w) pl.isList.typeIs slot_list_getitem.lookup
   (wpAny_getItem_list_neg (Q:=fun r s'=>r=w∧EP X pins σ Q r s') pl.isList (by lia) (by rw[List.size_toArray] <;> lia) (by lia) (by rw[hj];simpa using ew) ⟨rfl,fin⟩) hs
theorem Re:Ui X (Sy X.K):=by
 intro value slice pins s σ H x y v u Q I rx ry h hs;obtain⟨p,xs,i,z,rfl,rfl,hq,he,q⟩:=h;cases rx;obtain⟨t,rfl⟩:=ry;obtain⟨its,r,pl,hz⟩:=I.tuple hq;obtain⟨j,h1,h2,h3,h4,h5⟩:=dC he;obtain⟨w,ew,rw'⟩:=r.get h2;have hl:=r.length;have hn:=jK
 have fin:EP X pins σ Q w s:=⟨z,H,I,rw',q⟩
 exact subscriptTail_builtinR (x:=w) pl.typeIs slot_tuple_getitem.lookup
  (getItem_tuple (j:=j) (Q:=fun r s'=>r=w∧EP X pins σ Q r s') pl (by lia) (by lia) (by rw[List.size_toArray,←hl];exact h1) (by simpa using ew) ⟨rfl,fin⟩) hs
theorem Rf:Ui X Sz:=by
 intro value slice pins s σ H x y v u Q I rx ry h hs;obtain⟨z,i,c,rfl,rfl,hz,he,q⟩:=h;obtain⟨t,rfl⟩:=rx;obtain⟨t',rfl⟩:=ry;obtain⟨j,h1,h2,h3,h4,h5⟩:=dC he;have hl:z.cps.toList.length=z.length:=by simp[Str.length]
 rw[hl]at h1 h4 h5;have hn:=jK
 exact tail_any (typeIs_str s z t) slot_str_getitem.lookup (getItem_str (c:=c) (by
  have e1:decide (i < -(2^63:Int))=false:=saw (by lia);have e2:decide (i≥2^63)=false:=saw (by lia)
  rw[e1,e2,Bool.or_false]) (by rw[h1];simpa using h2) ⟨.str ⟨#[c]⟩,H,I.tok _,⟨_,rfl⟩,q⟩) hs
noncomputable def Og (K:Frag):R2:=fun x y H Q=>SA K x y H Q∨Sy K x y H Q∨Sz x y H Q
theorem Rg:Ui X (Og X.K):=U7.or (Re.or Rf)
theorem fG (lo hi:Option Int)(n:Nat):(sliceBounds lo hi none n).1=((HT.sIx n 0 lo:Nat):Int)∧(sliceBounds lo hi none n).2.1=((HT.sIx n n hi:Nat):Int)∧(sliceBounds lo hi none n).2.2=1:=by
 refine⟨?_,?_,rfl⟩
 ·cases lo with
  |none=>simp[sliceBounds,HT.sIx]
  | some i=>
    simp only[sliceBounds,HT.sIx,Option.getD_none,show(1:Int)>0 by decide,if_true];by_cases h:i<0
    ·simp only[h,if_true] <;> lia
    ·simp only[h,if_false] <;> lia
 ·cases hi with
  |none=>simp[sliceBounds,HT.sIx]
  | some i=>
    simp only[sliceBounds,HT.sIx,Option.getD_none,show(1:Int)>0 by decide,if_true];by_cases h:i<0
    ·simp only[h,if_true] <;> lia
    ·simp only[h,if_false] <;> lia
theorem iD (its:List Value)(lo hi:Option Int):slicePick its.toArray lo hi none=((its.drop (HT.sIx its.length 0 lo)).take (HT.sIx its.length its.length hi - HT.sIx its.length 0 lo)).toArray:=by
 obtain⟨h1,h2,h3⟩:=fG lo hi its.toArray.size;unfold slicePick;rw[h1,h2,h3]
 simp only[sliceRange_one,pick_run,List.size_toArray] <;> rfl
noncomputable def Pr (K:Frag):V→Option Int→Option Int→Hp→VK→Prop:=fun x lo hi H Q=>∃a xs,x=.ref a∧xV K H a xs∧∀p,H p=none→Q (.ref p) (yW H p (.l (iM xs lo hi)))
theorem Uz:RT X (Pr X.K):=by
 intro pins s σ H x v vl vu lo hi sl Q I rx hs pl pu h;obtain⟨a,xs,rfl,hx,q⟩:=h;cases rx;obtain⟨its,r,ht,hz⟩:=I.list hx;have hlen:=r.length;refine⟨"list",_,slot_list_getitem.lookup,ht.isList.typeIs,?_⟩;refine wpAny_getItem_list_slice ht.isList hs pl pu .none (by simp) ?_ (by rw[List.size_toArray] <;> lia);rw[iD,←hlen];refine⟨.ref s.heap.objs.size,_,I.laid (t':=s.toks) (o:=.l (iM xs lo hi)) (fun b ob q=>sab _ q) (Nat.le_refl _) ?_,rfl,q _ (I.hok.fresh (Nat.le_refl _))⟩;exact⟨sbH (lY xs lo hi) hz,_,0,(r.drop (HT.sIx xs.length 0 lo)).take (HT.sIx xs.length xs.length hi - HT.sIx xs.length 0 lo),saq _ rfl⟩
theorem yx:uI X (.builtin "len") (fun xs H Q=>∃p ys,xs=[.ref p]∧(xV X.K H p ys∨dF X.K H p ys)∧Q (.int ys.length) H):=by
 intro pins s σ H xs us Q I r h;obtain⟨p,ys,rfl,hq,q⟩:=h;obtain⟨u,rfl,rx⟩:=qf r;cases rx;have hn:=jK
 rcases hq with hq|hq
 ·obtain⟨its,r',pl,hz⟩:=I.list hq;have hlen:=r'.length;exact Calls.call_len_list pl.isList (by simp only[List.size_toArray] <;> lia) ⟨.int ys.length,H,I.tok _,⟨s.toks+1,by rw[List.size_toArray,hlen]⟩,q⟩
 ·obtain⟨its,r',pl,hz⟩:=I.tuple hq;have hlen:=r'.length;exact len_tuple pl (by simp only[List.size_toArray] <;> lia) ⟨.int ys.length,H,I.tok _,⟨s.toks+1,by rw[List.size_toArray,hlen]⟩,q⟩
theorem dh:uI X (.type "list") (fun xs H Q=>∃p ys,xs=[.ref p]∧(xV X.K H p ys∨dF X.K H p ys)∧∀l,H l=none→Q (.ref l) (yW H l (.l ys))):=by
 intro pins s σ H xs us Q I r h;obtain⟨p,ys,rfl,hq,q⟩:=h;obtain⟨u,rfl,rx⟩:=qf r;cases rx
 have fin:∀(its:List Value),yt ys its→ys.length≤sizeLine→∀(h':Heap) (c':Nat),(∀b o',s.heap.get? b=some o'→h'.get? b=some o') →
  h'.get? s.heap.objs.size=some {cls:=.type "list",dict:=none,data:=.seq its.toArray c',slots:=#[]}→EP X pins σ Q (.ref s.heap.objs.size) {s with heap:=h'}:=fun its r' hz h' c' kp e=>
  ⟨.ref s.heap.objs.size,_,I.laid (t':=s.toks) kp (Nat.le_refl _) (show vJ X.prog X.w _ h' _ (.l ys)from⟨hz,its,c',r',e⟩),rfl,q _ (I.hok.fresh (Nat.le_refl _))⟩
 rcases hq with hq|hq
 ·obtain⟨its,r',pl,hz⟩:=I.list hq;have hlen:=r'.length;obtain⟨o,ho,hc,n,hd⟩:=pl.isList;exact call_list_seq p (.inl rfl) ho hc hd (fun h' c' kp e=>fin its r' hz h' c' kp e) (by simp only[List.size_toArray] <;> lia)
 ·obtain⟨its,r',pl,hz⟩:=I.tuple hq;have hlen:=r'.length;obtain⟨o,ho,hc,n,hd⟩:=pl;exact call_list_seq p (.inr rfl) ho hc hd (fun h' c' kp e=>fin its r' hz h' c' kp e) (by simp only[List.size_toArray] <;> lia)
noncomputable def Pl (K:Frag)(T:String)(x:V)(H:Hp):Prop:=match x with
 | .str _=>T = "str"
 | .int _=>T = "int"
 | .ref p=>(T = "list" ∧ ∃xs,xV K H p xs)∨(T = "tuple" ∧ ∃o,K.lookup p=some o∧o.cls=.type "tuple" ∧ o.dict=none) ∨
  (T = "dict" ∧ ((∃kvs,H p=some (.dK kvs))∨∃kvs,H p=some (.dT kvs)))∨(T = "set" ∧ ∃S n,H p=some (.set S n))
 |_=>False
theorem Wn {pins:List (Addr×Obj)}{σ:St}{H:Hp}{s:Shared}{T:String}{x:V}{v:Value}(I:Inv X pins σ H s)(r:xm x v)(ty:Pl X.K T x H) :
 s.TypeIs v T∧∀a,v=.ref a→∃ob,s.heap.get? a=some ob∧ob.dict=none:=by
 cases x with
 | str z=>
   obtain⟨t,rfl⟩:=r;cases(show T = "str" from ty);exact⟨typeIs_str s z t,fun _ e=>nomatch e⟩
 | int i=>
   obtain⟨t,rfl⟩:=r;cases(show T = "int" from ty);exact⟨typeIs_int s i t,fun _ e=>nomatch e⟩
 | ref p=>
   cases r
   rcases ty with⟨rfl,xs,hq⟩|⟨rfl,o,hk,hc,hd⟩|⟨rfl,hk⟩|⟨rfl,S,n,hk⟩
   ·obtain⟨its,_,pl,_⟩:=I.list hq;refine⟨pl.isList.typeIs,fun a e=>?_⟩;cases e;obtain⟨o,n,e,c,hd,_⟩:=pl;exact⟨o,e,hd⟩
   ·refine⟨⟨o,I.kIn p o hk,hc⟩,fun a e=>?_⟩;cases e;exact⟨o,I.kIn _ o hk,hd⟩
   ·have z:∃o,s.heap.get? p=some o∧o.ExactDict:=by
     rcases hk with⟨kvs,hk⟩|⟨kvs,hk⟩
     ·obtain⟨_,_,_,_,o,_,_,e,ex,_⟩:=I.hok p _ hk;exact⟨o,e,ex⟩
     ·obtain⟨_,_,_,_,o,_,_,e,ex,_⟩:=I.hok p _ hk;exact⟨o,e,ex⟩
    obtain⟨o,e,ex⟩:=z;refine⟨⟨o,e,ex.1⟩,fun a e2=>?_⟩;cases e2;exact⟨o,e,ex.2.1⟩
   ·obtain⟨o,_,_,_,e,ex,_⟩:=I.hok p _ hk;refine⟨⟨o,e,ex.1⟩,fun a e2=>?_⟩;cases e2;exact⟨o,e,ex.2.1⟩
 |_=>exact False.elim ty
noncomputable def Qf (K:Frag)(T:String)(r:V→List V→Hp→VK→Prop)(to:TE):TE:=fun σ H Q=>to σ H fun x H1=>Pl K T x H1∧r x [] H1 Q
noncomputable def R3 (K:Frag)(T:String)(r:V→List V→Hp→VK→Prop)(to:TE)(t:TA):TE:=fun σ H Q=>to σ H fun x H1=>Pl K T x H1∧t σ H1 fun xs H2=>r x xs H2 Q
variable {o e:Expr}{es:List Expr}{to:TE}{t:TA}{name:Str}{apos cpos:Pos}{T id:String}{r:V→List V→Hp→VK→Prop}
theorem aB (pa:PlainAttrs T)(slot:Slot T name id)(hty:typeOf (.builtin id)=pure (.type "method_descriptor")) (hm:Pe X id r) (ho:PE X o to)
 (hbase:attributeBase o name X.env (eval o X.env)=eval o X.env:=by rfl) (hline:(apos.endLine == cpos.line)=true:=by rfl):PE X (.Call (.Attribute o name apos) [] [] cpos) (Qf X.K T r to):=by
 intro pins s σ H Q I h;refine wpAny_Call_method0_late hbase hline (we (ho pins s σ H _ I h) fun v s1 ⟨x,H1,I1,r1,ty,q1⟩=>?_);obtain⟨h1,h2⟩:=Wn I1 r1 ty;exact⟨T,id,pa,slot,hty,h1,h2,Calls.callWith_builtin rfl (PySem.evalArgs_none (hm pins s1 σ H1 x [] v [] Q I1 r1 .nil q1))⟩
theorem cB (pa:PlainAttrs T)(slot:Slot T name id)(hty:typeOf (.builtin id)=pure (.type "method_descriptor")) (hm:Pe X id r) (ho:PE X o to) (ha:PA X (e::es) t)
 (hbase:attributeBase o name X.env (eval o X.env)=eval o X.env:=by rfl)
 (hfew:((backTo cpos (starEach (e::es) X.env)).all (fun x=> !x.1)&&(backToKw cpos (keywordEach [] X.env)).all (fun x=>x.1.isSome)
  && decide ((e::es).length+([]:List Keyword).length+(if([]:List Keyword).isEmpty then 0 else 1)<30))=true:=by rfl)
 (hline:(apos.endLine == cpos.line)=true:=by rfl) (hs:starEach (e::es) X.env=(false,eval e X.env)::starEach es X.env:=by rfl) (hplain:(backTo cpos (starEach es X.env)).any (·.1)=false:=by rfl) :
 PE X (.Call (.Attribute o name apos) (e::es) [] cpos) (R3 X.K T r to t):=by
 intro pins s σ H Q I h;refine wpAny_Call_method_late hbase hfew hline rfl (we (ho pins s σ H _ I h) fun v s1 ⟨x,H1,I1,r1,ty,q1⟩=>?_);obtain⟨h1,h2⟩:=Wn I1 r1 ty;refine⟨T,id,pa,slot,hty,h1,h2,?_⟩;have hA:=ha cpos pins s1 σ H1 _ I1 q1;rw[hs]at hA ⊢;refine Calls.callWith_builtin (by show(false ||(backTo cpos (starEach es X.env)).any (·.1))=false;rw[hplain] <;> rfl) (Calls.evalArgs_plain ?_);exact we hA fun us s2 ⟨vs,H2,I2,r2,q2⟩=>hm pins s2 σ H2 x vs v us Q I2 r1 r2 q2
end
noncomputable def PQ (X:Cx)(id:String)(r:V→List V→Hp→VK→Prop):Prop :=
 ∀ (pins:List (Addr×Obj)) (s:Shared) (σ:St) (H:Hp) (x:V) (xs:List V) (v:Value) (us:List Value) (Q:VK),Inv X pins σ H s→xm x v→yt xs us→r x xs H Q →
   wpAny (model X.prog X.w) X.A (call (.builtin id) (v::us)) (EP X pins σ Q) X.xe s
theorem yt.one:∀{x:V} {us:List Value},yt [x] us→∃u,us=[u]∧xm x u
 |_,_,.cons r .nil=>⟨_,rfl,r⟩
theorem yt.zero:∀{us:List Value},yt [] us→us=[]
 |_,.nil=>rfl
theorem yt.dropLast {xs:List V}{us:List Value}(h:yt xs us):yt xs.dropLast us.dropLast:=by
 induction h with
 |nil=>exact .nil
 | cons r t ih=>
   cases t with
   |nil=>exact .nil
   |cons q t'=>exact .cons r ih
theorem Zd {α:Type}(l:List α):l.eraseIdx (l.length - 1)=l.dropLast:=by
 induction l with
 |nil=>rfl
 | cons a r ih=>
   cases r with
   |nil=>rfl
   | cons b r=>
     have e:(a::b::r).length - 1=((b::r).length - 1)+1:=by
      have h1:(a::b::r).length=r.length+2:=rfl;have h2:(b::r).length=r.length+1:=rfl;lia
     rw[e,List.eraseIdx_cons_succ,ih]
     all_goals rfl
section
variable {X:Cx}{pins:List (Addr×Obj)}{σ:St}{H:Hp}{s:Shared}{l b:Addr}{xs ys zs:List V}
theorem Inv.lset {its its':List Value}{n:Nat}{f:Array Value→Array Value}{t':Nat}(I:Inv X pins σ H s)(hH:H l=some (.l xs))
 (e:s.heap.get? l=some {cls:=.type "list",data:=.seq its.toArray n}) (hf:f its.toArray=its'.toArray) (hv:yt ys its') (hz:ys.length≤sizeLine) :
 Inv X pins σ (yW H l (.l ys)) {s with heap:=s.heap.update l (Obj.mapSeq f),toks:=t'}:=by
 have q:=PySem.IsL.update e f;rw[hf]at q;refine I.write (x:=l) (e:=l) (by rw[hH];exact trivial) (.inl rfl) (fun b' u hb hu=>(saL s.heap (Obj.mapSeq f) (scJ hb)).trans hu) ⟨_,q⟩ ?_;exact⟨hz,its',_,hv,q⟩
theorem Inv.lnew {its:List Value}{t':Nat}(I:Inv X pins σ H s)(hv:yt ys its)(hz:ys.length≤sizeLine) :
 Inv X pins σ (yW H s.heap.objs.size (.l ys)) {s with heap:=s.heap.push {cls:=.type "list",data:=.seq its.toArray},toks:=t'} :=
 I.laid (fun _ _ q=>sab _ q) (Nat.le_refl _) ⟨hz,its,0,hv,saq _ rfl⟩
theorem Inv.fresh (I:Inv X pins σ H s):H s.heap.objs.size=none:=I.hok.fresh (Nat.le_refl _)
theorem Inv.lstM (I:Inv X pins σ H s)(hH:H l=some (.l xs)):xs.length≤sizeLine∧∃(its:List Value) (n:Nat),yt xs its∧xs.length=its.length∧s.heap.get? l=some {cls:=.type "list",data:=.seq its.toArray n}:=by
 obtain⟨z,its,n,r,e⟩:=I.hok l _ hH;exact⟨z,its,n,r,r.length,e⟩
theorem W_ {n:Nat}(h:n≤sizeLine):Builtin.List.listTooLong n=false:=by
 unfold Builtin.List.listTooLong;exact saw (by lia)
end
section
variable {X:Cx}
noncomputable def fQ:V→List V→Hp→VK→Prop:=fun x vs H Q=>∃l xs y,x=.ref l∧vs=[y]∧H l=some (.l xs)∧xs.length<sizeLine∧Q .non (yW H l (.l (xs++[y])))
theorem pE:PQ X "list.append" fQ:=by
 intro pins s σ H x vs v us Q I rx rv h;obtain⟨l,xs,y,rfl,rfl,hH,hz,q⟩:=h;cases rx;obtain⟨u,rfl,ru⟩:=rv.one;obtain⟨z,its,n,r,hl,e⟩:=I.lstM hH;refine call_meets F.slot_list_append ⟨_,e,rfl⟩ F.entry_list_append (F.args_list_append_2 _ _) (PySem.list_append l its.toArray n u (by rw[List.size_toArray];lia)) ⟨e,?_⟩;refine⟨.non,_,I.lset (its':=its++[u]) hH e (by simp) (r.append (.cons ru .nil)) ?_,rfl,q⟩;rw[saN,List.length_singleton];lia
noncomputable def Z4:V→List V→Hp→VK→Prop:=fun x vs H Q=>∃l b xs zs,x=.ref l∧vs=[.ref b]∧H l=some (.l xs)∧H b=some (.l zs)∧xs.length+zs.length≤sizeLine∧Q .non (yW H l (.l (xs++zs)))
theorem Xo:PQ X "list.extend" Z4:=by
 intro pins s σ H x vs v us Q I rx rv h;obtain⟨l,b,xs,zs,rfl,rfl,hH,hB,hz,q⟩:=h;cases rx;obtain⟨u,rfl,ru⟩:=rv.one;cases ru;obtain⟨z,its,n,r,hl,e⟩:=I.lstM hH;obtain⟨z2,its2,n2,r2,hl2,e2⟩:=I.lstM hB;have hsz:its.toArray.size+its2.toArray.size≤sizeLine:=by rw[List.size_toArray,List.size_toArray];lia
 have hlong:¬(!its.toArray.isEmpty&&Builtin.List.listTooLong (its.toArray.size+its2.toArray.size))=true:=by
  rw[W_ hsz,Bool.and_false];exact sax
 refine call_meets F.slot_list_extend ⟨_,e,rfl⟩ F.entry_list_extend (F.args_list_extend_2 _ _)
  (AutoSeq1.list_extend_list_list_0 l its.toArray n b its2.toArray n2 hlong (by rw[List.size_toArray];lia) (by lia)) ⟨e,e2,?_⟩
 refine⟨.non,_,I.lset (its':=its++its2) hH e (by simp) (r.append r2) ?_,rfl,q⟩;rw[saN];lia
noncomputable def Pt:V→List V→Hp→VK→Prop:=fun x vs H Q=>∃l xs y,x=.ref l∧vs=[]∧H l=some (.l xs)∧xs[xs.length - 1]?=some y∧Q y (yW H l (.l xs.dropLast))
theorem Vg:PQ X "list.pop" Pt:=by
 intro pins s σ H x vs v us Q I rx rv h;obtain⟨l,xs,y,rfl,rfl,hH,hy,q⟩:=h;cases rx;have hus:=rv.zero;subst hus;obtain⟨z,its,n,r,hl,e⟩:=I.lstM hH;obtain⟨u,hu,ru⟩:=r.get hy
 have hy':its.toArray[its.toArray.size - 1]?=some u:=by
  show its.toArray[its.length - 1]?=some u;rw[←saG,←hl];exact hu
 refine call_meets F.slot_list_pop ⟨_,e,rfl⟩ F.entry_list_pop (F.args_list_pop_1 _) (MeetsSeq.list_pop_last l its.toArray n u hy' (by rw[List.size_toArray];lia)) ⟨e,?_⟩;refine⟨y,_,I.lset (its':=its.dropLast) hH e ?_ r.dropLast ?_,ru,q⟩
 ·show its.toArray.eraseIdxIfInBounds (its.toArray.size - 1)=its.dropLast.toArray;rw[List.size_toArray,List.eraseIdxIfInBounds_toArray,Zd]
 ·rw[List.length_dropLast];lia
noncomputable def Qk:R2:=fun x y H Q=>∃l b xs zs,x=.ref l∧y=.ref b∧H l=some (.l xs)∧H b=some (.l zs)∧xs.length+zs.length≤sizeLine∧∀p,H p=none→Q (.ref p) (yW H p (.l (xs++zs)))
theorem SZ:oQ X (binaryOp .Add) Qk:=by
 intro pins s σ H x y v u Q I rx ry h;obtain⟨l,b,xs,zs,rfl,rfl,hH,hB,hz,q⟩:=h;cases rx;cases ry;obtain⟨z,its,n,r,hl,e⟩:=I.lstM hH;obtain⟨z2,its2,n2,r2,hl2,e2⟩:=I.lstM hB;refine PySem.P.add_list e e2 ?_ (by rw[List.size_toArray,List.size_toArray];lia);have ea:its.toArray++its2.toArray=(its++its2).toArray:=by simp
 rw[ea];exact⟨.ref _,_,I.lnew (t':=s.toks) (r.append r2) (by rw[saN];lia),rfl,q _ I.fresh⟩
end
section
variable {prog:Program}{w:World}{A:Around}{E:Value→Shared→Prop}{s:Shared}
end
section
variable {X:Cx}
end
end L2
namespace Att
open PySem PySem.W PySem.Calls PyProof.Rows
theorem kg {P:Params}{h:Heap}:∀(ns:List Int) (vs:List Value),WellAll P h vs (ns.map WData.int)→IntsAre vs ns:=by
 intro ns
 induction ns with
 | nil=>
   intro vs w;rw[List.map_nil]at w;cases w;exact .nil
 | cons n ns ih=>
   intro vs w;rw[List.map_cons]at w
   cases w with
   | cons a b=>
     cases a;exact .cons _ _ (ih _ b)
theorem Y7 {l:OpenLaw}{n:Nat}(hn:l.most=some n){P:Params}{h:Heap}{args:List WData}{vals:List Value}
 (hpre:l.row.toRowW.claim.pre args=true) (hwl:WellAll P h vals args) :
 ∃a vs ns,vals=[Value.ref a]∧args=[WData.list (ns.map WData.int)]∧h.get? a=some {cls:=.type "list",data:=.seq vs.toArray}∧IntsAre vs ns∧ns.length≤n:=by
 have hsh:WShape.hasAll [] args [.list .int]=true:=(pre_splitW hpre).1;have hc:l.pre.holds [] {args:=args}=true:=(pre_splitW hpre).2;obtain⟨d,r,rfl,h1,h2⟩:=hasAllW_cons hsh;obtain rfl:=hasAllW_nil h2;obtain⟨xs,rfl,h3⟩:=hasW_list h1;obtain⟨ns,rfl⟩:=items_int h3
 have hlen:ns.length≤n:=by
  unfold OpenLaw.pre at hc
  have h4:(WTm.not (.lt (.lit (.int (n:Int))) (.len (.arg 0)))).holds [] {args:=[.list (ns.map .int)]}=true:=by
   have h4:=(holds_andW hc).1;rw[hn]at h4;exact h4
  have h5:=condW_of h4 (w_not (w_lt w_lit (w_len_list (w_arg rfl))));rw[sae]at h5;refine Nat.le_of_not_lt fun q=>?_;have q':(n:Int)<((ns.length:Nat):Int):=by lia
  first
   |(rw[sal q']at h5;exact absurd h5 (by decide))
   |(simp at h5;lia)
 cases hwl with
 | cons w1 w2=>
   cases w2
   cases w1 with
   |list ho hall=>exact⟨_,_,ns,rfl,rfl,ho,kg ns _ hall,hlen⟩
theorem Xd (l:OpenLaw)(args:List WData):l.row.toRowW.claim.post args (.bool true) args=true :=
 postW_of (r:=l.row.toRowW) (X:=(true == true))
  (show WShape.has [] (.bool true) .bool=true by first|rfl|decide|simp[WShape.has,WShape.arms,WShape.armsAll])
  (show(WTm.eq .res (.lit (.bool true))).value [] {args:=args,res:=some (.bool true),after:=args}=some (.bool (true == true))from w_eq_bool (w_res rfl) w_lit) rfl
theorem attach_call {l:OpenLaw}{n:Nat}{q:Program}{loose:List Str}{XP:(Str→Option Value)→Heap→Prop}{YP:World→Heap→Prop}{d:DefRec}
 (hn:l.most=some n) (hdf:d.params.defaults=[])
 (call:∀(w:World) (s₀ s₁:Shared) (mg mb:Str→Option Value) (fa:Addr) (o:Obj) (pm cd doc:Value) (a:Addr) (vs:List Value) (ns:List Int),
  Ground q loose [] XP w s₀ mg mb s₁.heap→YP w s₁.heap →
  s₁.heap.get? fa=some o→o.data=.func (docDef d.name d.params d.body d.scope pm cd doc)→s₁.heap.CodeRec cd d.name→mg d.name=some (.ref fa) →
  s₁.heap.get? a=some {cls:=.type "list",data:=.seq vs.toArray}→IntsAre vs ns→ns.length≤n→s₁.gens=#[] →
  codeAny (model l.prog w) callerA (.call (.ref fa) ⟨[.ref a],[]⟩) (fun r s'=>r=.ok (.ret (.bool true))∧OldK s₁.heap s'.heap∧s'.os=s₁.os∧AllBare s'.gens) s₁) :
 WalkO q loose XP YP l.row.toRowW d [] (fun f vs=>PySem.call f vs):=by
 intro w s₀ s₁ mg mb G Y fa o pm cd doc dV kV ho hd hcd hD hmg hg args vals as hpre hlay hrd hwl hlo;obtain rfl:dV=.none:=Dflts.none hD hdf;obtain rfl:kV=.none:=Dflts.noKw hD;obtain⟨a,vs,ns,rfl,rfl,hobj,hints,hlen⟩:=Y7 hn hpre hwl;refine enter_call (codeAny_mono (call w s₀ s₁ mg mb fa o pm cd doc a vs ns G Y ho (fd_plain hd) hcd hmg hobj hints hlen hg) fun r s' hq=>?_);obtain⟨rfl,h2,h3,h4⟩:=hq;exact⟨.inl ⟨.bool true,.bool true,[],rfl,fun _=>rfl,.bool true,Xd l _,fun _=>⟨List.Pairwise.nil,fun _ hm=>(nomatch hm)⟩⟩,h2,h3,h4⟩
section
variable {prog:Program}{w:World}{A:Around}{E:Value→Shared→Prop}{s:Shared}{K:Frag}
end
end Att
namespace L2
open PySem PySem.Spec PyProof.Rows
theorem iV:∀{vs:List Value} {ns:List Int},IntsAre vs ns→yt (ns.map V.int) vs
 |_,_,.nil=>.nil
 |_,_,.cons n t h=>.cons ⟨t,rfl⟩ (iV h)
noncomputable def TN (H:Hp):Prop:=∀b,H b=none∨∃o xs,H b=some (.frz o (.l xs))
theorem Vv {P:Program}{w:World}{K:Frag}{mg mb:Str→Option Value}{CX:YQ}{k:Nat}{fa a:Addr}{fd:FuncData}{x:Str}{sp:Sp}{s₁:Shared}{vs:List Value}{ns:List Int}
 (KX:K.In s₁.heap) (hns:s₁.heap.Ns mainGlobals mg) (hb:s₁.heap.Ns builtinsNs mb) (hbb:∀x:Str,x ≠ "__name__" → mb x=bootBuiltins x) (hlim:s₁.heap.NoLimit) (hg:s₁.gens=#[])
 (ha:s₁.heap.get? a=some {cls:=.type "list",data:=.seq vs.toArray}) (hi:IntsAre vs ns) (hl:ns.length≤sizeLine) (hr:Room k callerA)
 (F:∀base:Heap,K.In base→base.Ns mainGlobals mg→FnOk P w K mg base CX k fa fd [x] sp) (hbind:∀(s:Shared) (u:Value),BindsTo s fd ⟨[u],[]⟩ [(x,u)])
 (hsp:∀H:Hp,TN H→xV K H a (ns.map V.int)→sp [.ref a] H (fun v _=>v=.bl true) fun _ _ _=>False)
 (hCX:∀H e s',CX [] H s₁ (fun _ _ _=>False) e s'→False) :
 codeAny (model P w) callerA (.call (.ref fa) ⟨[.ref a],[]⟩) (fun r s'=>r=.ok (.ret (.bool true))∧OldK s₁.heap s'.heap∧s'.os=s₁.os∧AllBare s'.gens) s₁:=by
 have rv:=iV hi;have lenV:=hi.length
 have core:∀H:Hp,TN H→xV K H a (ns.map V.int)→kd P w H s₁.heap→(∀b,H b≠none→b=a)→(H a≠none→K.lookup a=none) →
  codeAny (model P w) callerA (.call (.ref fa) ⟨[.ref a],[]⟩) (fun r s'=>r=.ok (.ret (.bool true))∧OldK s₁.heap s'.heap∧s'.os=s₁.os∧AllBare s'.gens) s₁:=by
  intro H hO hS hok hA hK;have base_of:∀{b:Addr} {o:Obj},s₁.heap.get? b=some o→H b=none→(eG s₁.heap H).get? b=some o:=fun e n=>VD e n
  have noA:∀{b:Addr} {o:Obj} {es:Array DictEntry} {ep:Nat},s₁.heap.get? b=some o→o.data=.dict es ep→H b=none:=fun {b o es ep} e d=>by
   cases q:H b with
   |none=>rfl
   | some u=>
     have e':b=a:=hA b (by rw[q];simp);subst e';rw[ha]at e;cases e;have d':Data.seq vs.toArray _=Data.dict es ep:=d;cases d'
  have nsK:∀{b:Addr} {m:Str→Option Value},s₁.heap.Ns b m→(eG s₁.heap H).Ns b m:=fun {b m} ⟨o,es,ep,e,d,r⟩=>⟨o,es,ep,base_of e (noA e d),d,r⟩
  have hKb:K.In (eG s₁.heap H):=fun b o e=>base_of (KX b o e) (by
   cases q:H b with
   |none=>rfl
   | some u=>
     have e':b=a:=hA b (by rw[q];simp);subst e'
     rw[hK (by rw[q];simp)]at e;cases e)
  have hM:Mod K mg (eG s₁.heap H):=⟨hKb,nsK hns,⟨mb,nsK hb,hbb⟩,let ⟨mc,h1,h2⟩:=hlim;⟨mc,nsK h1,h2⟩⟩
  have e0:Env0 P w K mg (eG s₁.heap H) callerA [] s₁ H:=⟨rfl,hM,fun b o e=>UX e,Nat.le_of_eq (Xy _ _),trivial,fun b hb=>absurd (show b∈([]:List Addr)from hb) (by simp),hok,.of_eq hg⟩
  refine codeAny_mono ((F _ hKb (nsK hns)).run callerA [] s₁ H ⟨[.ref a],[]⟩ [.ref a] [.ref a] _ _ hr e0 (hbind s₁ (.ref a)) (.cons rfl .nil) (hsp H hO hS)) fun r s' h=>?_
  cases r with
  |error e=>exact(hCX H e s' h).elim
  | ok fl=>
    cases fl with
    |next=>exact False.elim h
    |brk=>exact False.elim h
    |cont=>exact False.elim h
    | ret u=>
      obtain⟨v,H',os,bare,un,hok',r',q⟩:=h;have q':v=.bl true:=q;subst q';obtain rfl:u=Value.bool true:=r';refine⟨rfl,OldK.of_keep fun b o e=>?_,os,bare⟩
      cases q:H b with
      |none=>exact un.keep b o e q (by intro z;exact absurd (show b∈([]:List Addr)from z) (by simp)) (by simp)
      | some u=>
        rcases hO b with z|⟨ob,xs,z⟩
        ·rw[q]at z;cases z
        ·have z2:=un.frzs b ob _ z;obtain⟨e1,_⟩:=hok b _ z;obtain⟨e2,_⟩:=hok' b _ z2;rw[e]at e1;cases e1;exact e2
 cases hk:K.lookup a with
 | some o=>
   have e:=KX a o hk;rw[ha]at e;cases e;refine core (fun _=>none) (fun _=>.inl rfl) (.inr ⟨_,vs.toArray,_,hk,rfl,rfl,rfl,by rw[List.size_toArray,lenV];exact hl,by simpa using rv⟩) (fun b u z=>by have z':(none:Option HO)=some u:=z;cases z') (fun b z=>absurd rfl z) fun z=>absurd rfl z
 | none=>
   refine core (fun b=>if b=a then some (.frz {cls:=.type "list",data:=.seq vs.toArray} (.l (ns.map V.int)))else none) (fun b=>?_) (.inl (.inr ⟨{cls:=.type "list",data:=.seq vs.toArray},saf rfl⟩)) (fun b u z=>?_) (fun b z=>?_) fun _=>hk
   ·by_cases hb:b=a
    ·exact .inr ⟨_,_,saf hb⟩
    ·exact .inl (sah hb)
   ·by_cases hb:b=a
    ·have z':=(saf hb).symm.trans z;cases z';subst hb;exact⟨ha,by rw[sae];exact hl,vs,_,rv,ha⟩
    ·have z':=(sah hb).symm.trans z;cases z'
   ·by_cases hb:b=a
    ·exact hb
    ·exact absurd (sah hb) z
theorem ku {l:PySem.W.OpenLaw}{n k:Nat}{q:Program}{loose:List Str}{XP:(Str→Option Value)→Heap→Prop}{YP:World→Heap→Prop}{d:DefRec}{K:Params→Frag}{CX:World→YQ}{sp:World→Sp}{x:Str}
 (hn:l.most=some n) (hn2:n≤sizeLine) (hdf:d.params.defaults=[]) (hr:Room k callerA)
 (hY:∀(w:World) (h:Heap),YP w h→(K w.params).In h)
 (F:∀(w:World) (mg:Str→Option Value) (fa:Addr) (h:Heap),(K w.params).In h→h.Ns mainGlobals mg→mg d.name=some (.ref fa) →
  ∃ fd:FuncData,(∀(s:Shared) (u:Value),BindsTo s fd ⟨[u],[]⟩ [(x,u)]) ∧
    ∀base:Heap,(K w.params).In base→base.Ns mainGlobals mg→FnOk l.prog w (K w.params) mg base (CX w) k fa fd [x] (sp w))
 (hsp:∀(w:World) (H:Hp) (a:Addr) (ns:List Int),ns.length≤n→TN H→xV (K w.params) H a (ns.map V.int)→sp w [.ref a] H (fun v _=>v=.bl true) fun _ _ _=>False)
 (hCX:∀(w:World) (H:Hp) (s:Shared) (e:Value) (s':Shared),CX w [] H s (fun _ _ _=>False) e s'→False) :
 PySem.W.WalkO q loose XP YP l.row.toRowW d [] (fun f vs=>PySem.call f vs):=by
 refine Att.attach_call hn hdf fun w s₀ s₁ mg mb fa o pm cd doc a vs ns G Y ho hd hcd hmg hobj hints hlen hg=>?_;have KX:=hY w _ Y;obtain⟨fd,hb,hF⟩:=F w mg fa _ KX G.T.g hmg;exact Vv KX G.T.g G.T.b G.T.builtins G.T.nolimit hg hobj hints (sbH hlen hn2) hr hF hb (fun H hO hS=>hsp w H a ns hlen hO hS) fun H e s'=>hCX w H s₁ e s'
theorem Wi {l:PySem.W.OpenLaw}{n k:Nat}{q:Program}{loose:List Str}{XP:(Str→Option Value)→Heap→Prop}{YP:World→Heap→Prop}{d:DefRec}{K:Params→Frag}{CX:YQ}{sp:Frag→Sp}{x:Str}
 (hn:l.most=some n) (hn2:n≤sizeLine) (hdf:d.params.defaults=[]) (hr:Room k callerA)
 (hY:∀(w:World) (h:Heap),YP w h→(K w.params).In h)
 (F:∀(w:World) (mg:Str→Option Value) (fa:Addr) (h:Heap),(K w.params).In h→h.Ns mainGlobals mg→mg d.name=some (.ref fa) →
  ∃ fd:FuncData,(∀(s:Shared) (u:Value),BindsTo s fd ⟨[u],[]⟩ [(x,u)]) ∧
    ∀base:Heap,(K w.params).In base→base.Ns mainGlobals mg→FnOk l.prog w (K w.params) mg base CX k fa fd [x] (sp (K w.params)))
 (hsp:∀(K:Frag) (H:Hp) (a:Addr) (ns:List Int),ns.length≤n→TN H→xV K H a (ns.map V.int)→sp K [.ref a] H (fun v _=>v=.bl true) fun _ _ _=>False)
 (hCX:∀(H:Hp) (s:Shared) (e:Value) (s':Shared),CX [] H s (fun _ _ _=>False) e s'→False) :
 PySem.W.WalkO q loose XP YP l.row.toRowW d [] (fun f vs=>PySem.call f vs) :=
 ku (K:=K) (CX:=fun _=>CX) (sp:=fun w=>sp (K w.params)) hn hn2 hdf hr hY F (fun w H a ns h1 h2 h3=>hsp (K w.params) H a ns h1 h2 h3) fun _ H s e s'=>hCX H s e s'
noncomputable def vZ (s:Stmt):Arguments:=match s with
 | .FunctionDef _ a _ _ _ _ _ _ _ _=>a
 |_=>{posonlyargs:=[],args:=[],vararg:=none,kwonlyargs:=[],kw_defaults:=[],kwarg:=none,defaults:=[]}
noncomputable def w4 (s:Stmt):List Stmt:=match s with
 | .FunctionDef _ _ b _ _ _ _ _ _ _=>b
 |_=>[]
noncomputable def zD (s:Stmt):Scope:=match s with
 | .FunctionDef _ _ _ _ _ _ sc _ _ _=>sc
 |_=>{kind:=.function,names:=[],isGenerator:=false,isCoroutine:=false}
noncomputable abbrev Uk:YQ:=fun _ _ _ _ _ _=>False
noncomputable abbrev E0:XK:=fun _ _ _=>False
theorem Qs {X:Cx}:Zx Uk X E0:=fun _ _ _ _ _ _ _ h=>h.elim
structure Fun (K:Frag)(x qual:Str)(st:Stmt)(f:Addr)(fd:FuncData):Prop where
 ex:∃(oc:Value) (od:Option Addr) (kV doc pm:Value) (an:Option Addr) (cdv ct:Value) (osl:Array (Option Value)),
  fd=PySem.W.fnOf x qual (vZ st) (w4 st) (zD st) .none kV doc pm an cdv ct∧K.lookup f=some ⟨oc,od,.func fd,osl⟩∧PySem.W.codeIn K cdv qual=true
 kp:PySem.W.keepIn K (.ref f)=true
section
variable {P:Program}{w:World}{K:Frag}{mg:Str→Option Value}{base:Heap}
theorem Fun.ok {x qual:Str}{st:Stmt}{f:Addr}{fd:FuncData}{N ps:List Str}{k:Nat}{sp:Sp}(F:Fun K x qual st f fd)(S:FS_ N ps (zD st))(len:∀vs H Q E,sp vs H Q E→vs.length=ps.length)
 (hbody:∀(cdv:Value) (A:Around) (outer:List Env) (s:Shared) (H:Hp) (vs:List V) (Q:VK) (E:XK),Room k (A.deeper (envOfC qual (zD st) s.heap.objs.size f cdv))→sp vs H Q E →
  ∃t,dN (Zi Uk P w K mg base N qual (zD st) f cdv A outer s H E).nox (w4 st) t∧t {nx:=fun _ H'=>Q .non H',rt:=Q} (zH N vs) H):FnOk P w K mg base Uk (k+1) f fd ps sp:=by
 obtain⟨oc,od,kV,doc,pm,an,cdv,ct,osl,rfl,lk,hcd⟩:=F.ex;refine QI lk hcd S len fun A outer s H vs Q E hr hsp=>?_;obtain⟨t,h,q⟩:=hbody cdv A outer s H vs Q E hr hsp;exact⟨t,h.nox,q⟩
theorem Fun.binds {x qual:Str}{st:Stmt}{f:Addr}{fd:FuncData}{ps:List Str}(F:Fun K x qual st f fd)
 (h:∀(kV doc pm:Value) (an:Option Addr) (cdv ct:Value) (us:List Value),us.length=ps.length→bindArgs (PySem.W.fnOf x qual (vZ st) (w4 st) (zD st) .none kV doc pm an cdv ct) ⟨us,[]⟩=pure (ps.zip us)):pb K fd ps []:=by
 obtain⟨oc,od,kV,doc,pm,an,cdv,ct,osl,rfl,lk,hcd⟩:=F.ex;exact .all (h kV doc pm an cdv ct)
theorem ye {x qual:Str}{st:Stmt}{f:Addr}{oc:Value}{od an:Option Addr}{osl:Array (Option Value)}{kV doc pm cdv ct:Value}(l:K.lookup f=some ⟨oc,od,.func (PySem.W.fnOf x qual (vZ st) (w4 st) (zD st) .none kV doc pm an cdv ct),osl⟩)
 (c:PySem.W.codeIn K cdv qual=true) (k:PySem.W.keepIn K (.ref f)=true):Fun K x qual st f (PySem.W.fnOf x qual (vZ st) (w4 st) (zD st) .none kV doc pm an cdv ct):=⟨⟨oc,od,kV,doc,pm,an,cdv,ct,osl,rfl,l,c⟩,k⟩
end
section
variable {X:Cx}
theorem pv (i:Nat){x:Str}{pos:Pos}(hN:X.N[i]?=some x:=by rfl)(hv:Pb X.env.scope x:=by first|exact Or.inl rfl|exact Or.inr (Or.inl rfl)|exact Or.inr (Or.inr rfl))(hd:(x == ("__debug__" : Str))=false:=by decide)
 (hcd:(x == ("__classdict__" : Str))=false:=by decide):PE X (.Name x pos) (qB i):=SJ hN hv hd hcd
end
theorem Ta {A B:Prop}(h:B):if false=true then A else B:=by
 rw[sah sax];exact h
theorem U_ {A B:Prop}(h:A):if true=true then A else B:=by
 rw[saf rfl];exact h
noncomputable def zV (H H':Hp):Prop:=∀b o,H b=some o→H' b=some o
theorem zV.refl (H:Hp):zV H H:=fun _ _ h=>h
theorem zV.trans {H H1 H2:Hp}(a:zV H H1)(b:zV H1 H2):zV H H2:=fun c o h=>b c o (a c o h)
theorem zV.free {H H':Hp}(e:zV H H'){l:Addr}(h:H' l=Option.none):H l=Option.none:=by
 cases q:H l with
 |none=>rfl
 | some o=>
   rw[e l o q]at h;cases h
theorem zV.seq {K:Frag}{H H':Hp}{a:Addr}{xs:List V}(e:zV H H')(h:xV K H a xs):xV K H' a xs:=by
 rcases h with(h|⟨o,h⟩)|h
 ·exact .inl (.inl (e _ _ h))
 ·exact .inl (.inr ⟨o,e _ _ h⟩)
 ·exact .inr h
end L2
set_option maxHeartbeats 4000000
namespace DL
open PySem PySem.Spec PyProof.Rows L2
noncomputable abbrev St:=L2.St
inductive D where
 |non
 |bl (b:Bool)
 |int (i:Int)
 |tup (ds:List D)
 |l (ds:List D)
 |scr (ns:List Int)
 |exc (c:Str) (p:Option Int)
inductive Out (α:Type) where
 |bad
 |ok (a:α)
 |exc (c:Str) (p:Option Int)
noncomputable def Out.bind {α β:Type}(x:Out α)(f:α→Out β):Out β :=
 match x with
 | .bad=>.bad
 | .ok a=>f a
 | .exc c p=>.exc c p
@[simp] theorem zk {α β:Type}(a:α)(f:α→Out β):(Out.ok a).bind f=f a:=rfl
@[simp] theorem QV {α β:Type}(f:α→Out β):(Out.bad:Out α).bind f=.bad:=rfl
@[simp] theorem QU {α β:Type}(c:Str)(p:Option Int)(f:α→Out β):(Out.exc c p:Out α).bind f=.exc c p:=rfl
theorem zv {α β:Type}{x:Out α}{f:α→Out β}{b:β}(h:x.bind f=.ok b):∃a,x=.ok a∧f a=.ok b:=by
 cases x with
 |bad=>cases h
 |ok a=>exact⟨a,rfl,h⟩
 |exc c p=>cases h
inductive Val where
 |p (d:D)
 |fresh (ds:List D)
 |brw (i:Nat) (ds:List D)
@[simp] noncomputable def Val.d:Val→D
  | .p d=>d
  | .fresh ds=>.l ds
  | .brw _ ds=>.l ds
@[simp] noncomputable def Val.hold:Val→Out D
  | .p d=>.ok d
  | .fresh ds=>.ok (.l ds)
  | .brw _ _=>.bad
inductive Slot where
 |un
 |p (d:D)
 |own (ds:List D)
noncomputable abbrev Ev:=List Slot
noncomputable abbrev FE:=Ev→Out Val
noncomputable abbrev FT:=Ev→Out Bool
inductive Res where
 |next (env:Ev)
 |ret (v:Val)
noncomputable abbrev FS:=Ev→Out Res
mutual
noncomputable def kb (K:Frag)(G:Hp):D→V→Prop
 | .non,v=>v=.non
 | .bl b,v=>v=.bl b
 | .int i,v=>v=.int i
 | .tup ds,v=>∃a vs,v=.ref a∧G a=some (.tup vs)∧zM K G ds vs
 | .l ds,v=>∃a vs,v=.ref a∧G a=some (.l vs)∧zM K G ds vs
 | .scr ns,v=>∃a,v=.ref a∧xV K G a (ns.map V.int)
 | .exc _ _,_=>False
noncomputable def zM (K:Frag)(G:Hp):List D→List V→Prop
 |[],vs=>vs=[]
 |d::ds,vs=>∃v r,vs=v::r∧kb K G d v∧zM K G ds r
end
section
variable {K:Frag}{G G':Hp}
mutual
theorem kb.mono (s:zV G G'):∀{d:D} {v:V},kb K G d v→kb K G' d v
 | .non,_,h=>h
 | .bl _,_,h=>h
 | .int _,_,h=>h
 | .tup ds,v,h=>by
   obtain⟨a,vs,e,g,r⟩:=h;exact⟨a,vs,e,s _ _ g,zM.mono s r⟩
 | .l ds,v,h=>by
   obtain⟨a,vs,e,g,r⟩:=h;exact⟨a,vs,e,s _ _ g,zM.mono s r⟩
 | .scr ns,v,h=>by
   obtain⟨a,e,g⟩:=h;exact⟨a,e,s.seq g⟩
 | .exc _ _,_,h=>h
theorem zM.mono (s:zV G G'):∀{ds:List D} {vs:List V},zM K G ds vs→zM K G' ds vs
 |[],_,h=>h
 | d::ds,vs,h=>by
   obtain⟨v,r,e,h1,h2⟩:=h;exact⟨v,r,e,kb.mono s h1,zM.mono s h2⟩
end
theorem zM.nil:zM K G [] []:=rfl
theorem zM.cons {d:D}{v:V}{ds:List D}{vs:List V}(h:kb K G d v)(r:zM K G ds vs):zM K G (d::ds) (v::vs):=⟨v,vs,rfl,h,r⟩
theorem zM.length:∀{ds:List D} {vs:List V},zM K G ds vs→ds.length=vs.length
 |[],_,h=>by cases(show _=[]from h);rfl
 | d::ds,vs,h=>by
   obtain⟨v,r,rfl,_,h2⟩:=h;simp[zM.length h2]
theorem zM.get:∀{ds:List D} {vs:List V} {i:Nat} {d:D},zM K G ds vs→ds[i]?=some d→∃v,vs[i]?=some v∧kb K G d v
 |[],_,i,d,h,e=>by simp at e
 | d'::ds,vs,0,d,h,e=>by
   obtain⟨v,r,rfl,h1,h2⟩:=h;simp at e;subst e;exact⟨v,rfl,h1⟩
 | d'::ds,vs,i+1,d,h,e=>by
   obtain⟨v,r,rfl,h1,h2⟩:=h;obtain⟨u,h3,h4⟩:=zM.get (i:=i) h2 (by simpa using e);exact⟨u,by simpa using h3,h4⟩
theorem zM.get':∀{ds:List D} {vs:List V} {i:Nat} {v:V},zM K G ds vs→vs[i]?=some v→∃d,ds[i]?=some d∧kb K G d v
 |[],_,i,d,h,e=>by cases(show _=[]from h);simp at e
 | d'::ds,vs,0,d,h,e=>by
   obtain⟨v,r,rfl,h1,h2⟩:=h;simp at e;subst e;exact⟨d',rfl,h1⟩
 | d'::ds,vs,i+1,d,h,e=>by
   obtain⟨v,r,rfl,h1,h2⟩:=h;obtain⟨u,h3,h4⟩:=zM.get' (i:=i) h2 (by simpa using e);exact⟨u,by simpa using h3,h4⟩
theorem zM.append:∀{ds es:List D} {vs us:List V},zM K G ds vs→zM K G es us→zM K G (ds++es) (vs++us)
 |[],es,vs,us,h,h'=>by cases(show _=[]from h);exact h'
 | d::ds,es,vs,us,h,h'=>by
   obtain⟨v,r,rfl,h1,h2⟩:=h;exact⟨v,r++us,rfl,h1,zM.append h2 h'⟩
theorem zM.take:∀{ds:List D} {vs:List V} (n:Nat),zM K G ds vs→zM K G (ds.take n) (vs.take n)
 |ds,vs,0,h=>by simp only[List.take_zero];exact rfl
 |[],vs,n+1,h=>by cases(show _=[]from h);exact rfl
 | d::ds,vs,n+1,h=>by
   obtain⟨v,r,rfl,h1,h2⟩:=h;exact⟨v,r.take n,rfl,h1,zM.take n h2⟩
theorem zM.drop:∀{ds:List D} {vs:List V} (n:Nat),zM K G ds vs→zM K G (ds.drop n) (vs.drop n)
 |ds,vs,0,h=>by simpa using h
 |[],vs,n+1,h=>by cases(show _=[]from h);exact rfl
 | d::ds,vs,n+1,h=>by
   obtain⟨v,r,rfl,h1,h2⟩:=h;exact zM.drop n h2
theorem zM.reverse {ds:List D}:∀{vs:List V},zM K G ds vs→zM K G ds.reverse vs.reverse:=by
 induction ds with
 |nil=>intro vs h;cases(show _=[]from h);exact rfl
 | cons d ds ih=>
   intro vs h;obtain⟨v,r,rfl,h1,h2⟩:=h;rw[saO,saO];exact zM.append (ih h2) (zM.cons h1 zM.nil)
theorem zM.dropLast {ds:List D}{vs:List V}(h:zM K G ds vs):zM K G ds.dropLast vs.dropLast:=by
 rw[List.dropLast_eq_take,List.dropLast_eq_take,←h.length];exact h.take _
theorem zM.ints:∀(ns:List Int),zM K G (ns.map D.int) (ns.map V.int)
 |[]=>rfl
 |n::ns=>⟨.int n,ns.map V.int,rfl,rfl,zM.ints ns⟩
theorem zM.ints_of:∀{ns:List Int} {vs:List V},zM K G (ns.map D.int) vs→vs=ns.map V.int
 |[],_,h=>h
 | n::ns,vs,h=>by
   obtain⟨v,r,rfl,h1,h2⟩:=h;rw[zM.ints_of h2];cases(show v=.int n from h1);rfl
end
structure Gw (G H G' H':Hp):Prop where
 g:zV G G'
 h:zV H H'
 n:∀b,H b≠none→G b=none→G' b=none
theorem Gw.refl (G H:Hp):Gw G H G H:=⟨zV.refl _,zV.refl _,fun _ _ h=>h⟩
theorem zV.some_of {H H':Hp}(s:zV H H'){b:Addr}(h:H b≠none):H' b≠none:=by
 cases q:H b with
 |none=>exact absurd q h
 |some o=>rw[s b o q];simp
theorem Gw.trans {G H G1 H1 G2 H2:Hp}(a:Gw G H G1 H1)(b:Gw G1 H1 G2 H2):Gw G H G2 H2 :=
 ⟨a.g.trans b.g,a.h.trans b.h,fun c h1 h2=>b.n c (zV.some_of a.h h1) (a.n c h1 h2)⟩
theorem nM {H H':Hp}(s:zV H H'){b:Addr}(h:H' b=none):H b=none:=s.free h
structure SlotOwn (K:Frag)(H₀:Hp)(σ:St)(G H:Hp)(i:Nat)(ds:List D)(a:Addr)(vs:List V):Prop where
 at_:σ[i]?=some (some (.ref a))
 hp:H a=some (.l vs)
 gn:G a=none
 new:H₀ a=none
 rep:zM K G ds vs
noncomputable def RS (K:Frag)(H₀:Hp)(σ:St)(G H:Hp)(i:Nat):Slot→Prop
 | .un=>True
 | .p d=>∃v,σ[i]?=some (some v)∧kb K G d v
 | .own ds=>∃a vs,SlotOwn K H₀ σ G H i ds a vs
structure DI (K:Frag)(G₀ H₀:Hp)(env:Ev)(σ:St)(G H:Hp):Prop where
 le:zV G H
 gr:Gw G₀ H₀ G H
 len:env.length=σ.length
 slot:∀(i:Nat) (s:Slot),env[i]?=some s→RS K H₀ σ G H i s
 apart:∀(i j:Nat) (ds es:List D) (a:Addr),i≠j→env[i]?=some (.own ds)→env[j]?=some (.own es)→σ[i]?=some (some (.ref a))→σ[j]?≠some (some (.ref a))
section
variable {K:Frag}{G₀ H₀ G H G' H':Hp}{env:Ev}{σ:St}
theorem DI.grow (I:DI K G₀ H₀ env σ G H)(g:Gw G H G' H')(l:zV G' H'):DI K G₀ H₀ env σ G' H' where
 le:=l
 gr:=I.gr.trans g
 len:=I.len
 slot:=fun i s e=>by
  have q:=I.slot i s e
  cases s with
  |un=>trivial
  |p d=>obtain⟨v,h1,h2⟩:=q;exact⟨v,h1,h2.mono g.g⟩
  | own ds=>
    obtain⟨a,vs,o⟩:=q;exact⟨a,vs,o.at_,g.h _ _ o.hp,g.n a (by rw[o.hp];simp) o.gn,o.new,o.rep.mono g.g⟩
 apart:=I.apart
theorem DI.own (I:DI K G₀ H₀ env σ G H){i:Nat}{ds:List D}(e:env[i]?=some (.own ds)):∃a vs,SlotOwn K H₀ σ G H i ds a vs:=I.slot i _ e
theorem DI.p (I:DI K G₀ H₀ env σ G H){i:Nat}{d:D}(e:env[i]?=some (.p d)):∃v,σ[i]?=some (some v)∧kb K G d v:=I.slot i _ e
end
noncomputable def si (K:Frag)(H:Hp)(env:Ev)(σ:St)(G' H':Hp)(v:V):Val→Prop
 | .p d=>kb K G' d v
 | .fresh ds=>∃a vs,v=.ref a∧H a=none∧H' a=some (.l vs)∧G' a=none∧zM K G' ds vs
 | .brw i ds=>∃a,v=.ref a∧env[i]?=some (.own ds)∧σ[i]?=some (some (.ref a))
theorem si.base {K:Frag}{H H1:Hp}{env:Ev}{σ:St}{G' H':Hp}{v:V}{val:Val}(s:zV H H1)(h:si K H1 env σ G' H' v val):si K H env σ G' H' v val:=by
 cases val with
 |p d=>exact h
 | fresh ds=>
   obtain⟨a,vs,e,h1,h2,h3,h4⟩:=h;exact⟨a,vs,e,s.free h1,h2,h3,h4⟩
 |brw i ds=>exact h
noncomputable def v9 (K:Frag)(env:Ev)(σ:St)(G:Hp)(v:V)(d:D):Prop :=
 kb K G d v∨∃(i:Nat) (ds:List D) (a:Addr),d=.l ds∧v=.ref a∧env[i]?=some (.own ds)∧σ[i]?=some (some (.ref a))
theorem v9.mono {K:Frag}{env:Ev}{σ:St}{G G':Hp}{v:V}{d:D}(h:v9 K env σ G v d)(s:zV G G'):v9 K env σ G' v d :=
 h.elim (fun x=>.inl (x.mono s)) .inr
section
variable {K:Frag}{G₀ H₀ G H G' H':Hp}{env:Ev}{σ:St}{v:V}
theorem v9.l {ds:List D}(I:DI K G₀ H₀ env σ G H)(h:v9 K env σ G v (.l ds)):∃a vs,v=.ref a∧H a=some (.l vs)∧zM K G ds vs:=by
 rcases h with h|⟨i,es,a,e1,e2,e3,e4⟩
 ·obtain⟨a,vs,e,g,r⟩:=h;exact⟨a,vs,e,I.le _ _ g,r⟩
 ·cases e1;obtain⟨b,vs,o⟩:=I.own e3;have q:=o.at_;rw[e4]at q;cases q;exact⟨a,vs,e2,o.hp,o.rep⟩
theorem v9.tup {ds:List D}(I:DI K G₀ H₀ env σ G H)(h:v9 K env σ G v (.tup ds)):∃a vs,v=.ref a∧H a=some (.tup vs)∧zM K G ds vs:=by
 rcases h with h|⟨i,es,a,e1,e2,e3,e4⟩
 ·obtain⟨a,vs,e,g,r⟩:=h;exact⟨a,vs,e,I.le _ _ g,r⟩
 ·cases e1
theorem v9.int {i:Int}(h:v9 K env σ G v (.int i)):v=.int i:=by
 rcases h with h|⟨_,_,_,e,_⟩
 ·exact h
 ·cases e
theorem v9.bl {b:Bool}(h:v9 K env σ G v (.bl b)):v=.bl b:=by
 rcases h with h|⟨_,_,_,e,_⟩
 ·exact h
 ·cases e
theorem v9.non (h:v9 K env σ G v .non):v=.non:=by
 rcases h with h|⟨_,_,_,e,_⟩
 ·exact h
 ·cases e
theorem v9.scr {ns:List Int}(I:DI K G₀ H₀ env σ G H)(h:v9 K env σ G v (.scr ns)):∃a,v=.ref a∧xV K H a (ns.map V.int):=by
 rcases h with h|⟨_,_,_,e,_⟩
 ·obtain⟨a,e,q⟩:=h;exact⟨a,e,I.le.seq q⟩
 ·cases e
theorem opd {val:Val}(g:Gw G H G' H')(l:zV G' H')(h:si K H env σ G' H' v val):∃G'',Gw G H G'' H'∧zV G'' H'∧v9 K env σ G'' v val.d:=by
 cases val with
 |p d=>exact⟨G',g,l,.inl h⟩
 | brw i ds=>
   obtain⟨a,e1,e2,e3⟩:=h;exact⟨G',g,l,.inr ⟨i,ds,a,rfl,e1,e2,e3⟩⟩
 | fresh ds=>
   obtain⟨a,vs,e,h1,h2,h3,h4⟩:=h;have s':zV G' (yW G' a (.l vs)):=fun b o q=>by rw[zB (zF q h3)];exact q
   refine⟨yW G' a (.l vs),⟨g.g.trans s',g.h,fun b q1 q2=>?_⟩,fun b o q=>?_,.inl ⟨a,vs,e,zU,h4.mono s'⟩⟩
   ·have hb:b≠a:=fun z=>q1 (z ▸ h1);rw[zB hb];exact g.n b q1 q2
   ·by_cases hb:b=a
    ·subst hb;rw[zU]at q;cases q;exact h2
    ·rw[zB hb]at q;exact l b o q
theorem m5 {val:Val}{d:D}(g:Gw G H G' H')(l:zV G' H')(h:si K H env σ G' H' v val)(e:val.hold=.ok d):∃G'',Gw G H G'' H'∧zV G'' H'∧kb K G'' d v:=by
 obtain⟨G2,g2,l2,o⟩:=opd g l h
 cases val with
 |p d'=>cases e;exact⟨G',g,l,h⟩
 |brw i ds=>cases e
 | fresh ds=>
   cases e
   rcases o with o|⟨i,es,a,e1,e2,e3,e4⟩
   ·exact⟨G2,g2,l2,o⟩
   ·obtain⟨a',vs,e,h1,h2,h3,h4⟩:=h;have s':zV G' (yW G' a' (.l vs)):=fun b o q=>by rw[zB (zF q h3)];exact q
    refine⟨yW G' a' (.l vs),⟨g.g.trans s',g.h,fun b q1 q2=>?_⟩,fun b o q=>?_,⟨a',vs,e,zU,h4.mono s'⟩⟩
    ·have hb:b≠a':=fun z=>q1 (z ▸ h1);rw[zB hb];exact g.n b q1 q2
    ·by_cases hb:b=a'
     ·subst hb;rw[zU]at q;cases q;exact h2
     ·rw[zB hb]at q;exact l b o q
theorem Gw.laidT {p:Addr}{o:HO}(l:zV G H)(hp:H p=none):Gw G H (yW G p o) (yW H p o)∧zV (yW G p o) (yW H p o):=by
 have gp:=l.free hp;refine⟨⟨fun b u q=>by rw[zB (zF q gp)];exact q,fun b u q=>by rw[zB (zF q hp)];exact q,fun b h1 h2=>?_⟩,fun b u q=>?_⟩
 ·have hb:b≠p:=fun z=>h1 (z ▸ hp);rw[zB hb];exact h2
 ·by_cases hb:b=p
  ·subst hb;rw[zU]at q ⊢;exact q
  ·rw[zB hb]at q ⊢;exact l b u q
theorem Gw.laidL {p:Addr}{o:HO}(l:zV G H)(hp:H p=none):Gw G H G (yW H p o)∧zV G (yW H p o) :=
 ⟨⟨zV.refl _,fun b u q=>by rw[zB (zF q hp)];exact q,fun _ _ h=>h⟩,fun b u q=>by rw[zB (zF q (l.free hp))];exact l b u q⟩
theorem qx {p:Addr}{ds:List D}{vs:List V}{G1 H1:Hp}(l:zV G1 H1)(hp:H1 p=none)(r:zM K G1 ds vs):si K H1 env σ G1 (yW H1 p (.l vs)) (.ref p) (.fresh ds) :=
 ⟨p,vs,rfl,hp,zU,l.free hp,r⟩
theorem Wk {p:Addr}{ds:List D}{vs:List V}{G1 H1:Hp}(l:zV G1 H1)(hp:H1 p=none)(r:zM K G1 ds vs):si K H1 env σ (yW G1 p (.tup vs)) (yW H1 p (.tup vs)) (.ref p) (.p (.tup ds)):=by
 have gp:=l.free hp;exact⟨p,vs,rfl,zU,r.mono fun b u q=>by rw[zB (zF q gp)];exact q⟩
end
section
variable (K:Frag)(G₀ H₀:Hp)
noncomputable def tE (f:FE):TE:=fun σ H Q=>∃env G val,DI K G₀ H₀ env σ G H∧f env=.ok val ∧
 ∀v G' H',Gw G H G' H'→zV G' H'→si K H env σ G' H' v val→Q v H'
noncomputable def tT (f:FT):TT:=fun σ H Q=>∃env G b,DI K G₀ H₀ env σ G H∧f env=.ok b∧∀G' H',Gw G H G' H'→zV G' H'→Q b H'
noncomputable def iz (env:Ev)(σ:St)(G:Hp)(v:V):Val→Prop
 | .p d=>kb K G d v
 | .fresh _=>False
 | .brw i ds=>∃a,v=.ref a∧env[i]?=some (.own ds)∧σ[i]?=some (some (.ref a))
noncomputable def oU (env:Ev)(σ:St)(G:Hp):List V→List Val→Prop
 |[],vals=>vals=[]
 |v::vs,vals=>∃x r,vals=x::r∧iz K env σ G v x∧oU env σ G vs r
noncomputable def tA (f:Ev→Out (List Val)):TA:=fun σ H Q=>∃env G vals,DI K G₀ H₀ env σ G H∧f env=.ok vals ∧
 ∀vs G' H',Gw G H G' H'→zV G' H'→oU K env σ G' vs vals→Q vs H'
noncomputable def tH (f:Ev→Out (List D)):TA:=fun σ H Q=>∃env G ds,DI K G₀ H₀ env σ G H∧f env=.ok ds ∧
 ∀vs G' H',Gw G H G' H'→zV G' H'→zM K G' ds vs→Q vs H'
noncomputable def YN (G:Hp)(D:Ends):Res→Prop
 | .next env'=>∀σ' G' H',zV G G'→DI K G₀ H₀ env' σ' G' H'→D.nx σ' H'
 | .ret val=>∀v G' H',Gw G₀ H₀ G' H'→zV G' H'→si K H₀ [] [] G' H' v val→D.rt v H'
noncomputable def tS (f:FS):TS:=fun D σ H=>∃env G r,DI K G₀ H₀ env σ G H∧f env=.ok r∧YN K G₀ H₀ G D r
end
noncomputable def DE (X:Cx)(G₀ H₀:Hp)(e:Expr)(f:FE):Prop:=PE X e (tE X.K G₀ H₀ f)
noncomputable def DT (X:Cx)(G₀ H₀:Hp)(e:Expr)(f:FT):Prop:=PT X e (tT X.K G₀ H₀ f)
noncomputable def DW (X:Cx)(G₀ H₀:Hp)(e:Expr)(f:FT):Prop:=PW X e (tT X.K G₀ H₀ f)
noncomputable def DA (X:Cx)(G₀ H₀:Hp)(es:List Expr)(f:Ev→Out (List Val)):Prop:=PA X es (tA X.K G₀ H₀ f)
noncomputable def DH (X:Cx)(G₀ H₀:Hp)(es:List Expr)(f:Ev→Out (List D)):Prop:=PA X es (tH X.K G₀ H₀ f)
noncomputable def DS (X:Cx)(G₀ H₀:Hp)(st:Stmt)(f:FS):Prop:=PS X st (tS X.K G₀ H₀ f)
noncomputable def Uj (X:Cx)(G₀ H₀:Hp)(st:List Stmt)(f:FS):Prop:=dN X st (tS X.K G₀ H₀ f)
theorem _root_.L2.PE.imp {X:Cx}{e:Expr}{t t':TE}(h:PE X e t)(i:∀σ H Q,t' σ H Q→t σ H Q):PE X e t':=fun pins s σ H Q I q=>h pins s σ H Q I (i σ H Q q)
theorem _root_.L2.PT.imp {X:Cx}{e:Expr}{t t':TT}(h:PT X e t)(i:∀σ H Q,t' σ H Q→t σ H Q):PT X e t':=fun pins s σ H Q I q=>h pins s σ H Q I (i σ H Q q)
theorem _root_.L2.PW.imp {X:Cx}{e:Expr}{t t':TT}(h:PW X e t)(i:∀σ H Q,t' σ H Q→t σ H Q):PW X e t':=fun wh pins s σ H Q I q=>h wh pins s σ H Q I (i σ H Q q)
theorem _root_.L2.PA.imp {X:Cx}{e:List Expr}{t t':TA}(h:PA X e t)(i:∀σ H Q,t' σ H Q→t σ H Q):PA X e t':=fun pos pins s σ H Q I q=>h pos pins s σ H Q I (i σ H Q q)
theorem _root_.L2.PS.imp {X:Cx}{e:Stmt}{t t':TS}(h:PS X e t)(i:∀D σ H,t' D σ H→t D σ H):PS X e t':=fun pins s σ H D I q=>h pins s σ H D I (i D σ H q)
theorem _root_.L2.dN.imp {X:Cx}{e:List Stmt}{t t':TS}(h:dN X e t)(i:∀D σ H,t' D σ H→t D σ H):dN X e t':=fun pins s σ H D I q=>h pins s σ H D I (i D σ H q)
section
variable {K:Frag}{G₀ H₀ G H:Hp}{env:Ev}{σ:St}
theorem uy {f:FE}{x:Val}{P:V→Hp→Prop}(I:DI K G₀ H₀ env σ G H)(e:f env=.ok x)
 (k:∀v G' H',Gw G H G' H'→zV G' H'→DI K G₀ H₀ env σ G' H'→v9 K env σ G' v x.d→P v H'):tE K G₀ H₀ f σ H P :=
 ⟨env,G,x,I,e,fun v G' H' g l h=>by
  obtain⟨G2,g2,l2,o⟩:=opd g l h
  exact k v G2 H' g2 l2 (I.grow g2 l2) o⟩
theorem b_ {f g:FE}{x y:Val}{P:V→V→Hp→Prop}(I:DI K G₀ H₀ env σ G H)(e:f env=.ok x)(e':g env=.ok y)
 (k:∀v u G' H',Gw G H G' H'→zV G' H'→DI K G₀ H₀ env σ G' H'→v9 K env σ G' v x.d→v9 K env σ G' u y.d→P v u H') :
 tE K G₀ H₀ f σ H fun v H1=>tE K G₀ H₀ g σ H1 fun u H2=>P v u H2 :=
 uy I e fun v G1 H1 g1 l1 I1 o1=>uy I1 e' fun u G2 H2 g2 l2 I2 o2=>k v u G2 H2 (g1.trans g2) l2 I2 (o1.mono g2.g) o2
end
@[simp] noncomputable def zf (i:Nat):FE:=fun env=>match env[i]? with
  |some (.p d)=>.ok (.p d)
  |some (.own ds)=>.ok (.brw i ds)
  |_=>.bad
@[simp] noncomputable def fC (d:D):FE:=fun _=>.ok (.p d)
section
variable {X:Cx}{G₀ H₀:Hp}{pos:Pos}
theorem Ry {i:Nat}{x:Str}(h:PE X (.Name x pos) (qB i)):DE X G₀ H₀ (.Name x pos) (zf i):=h.imp fun σ H Q q=>by
 obtain⟨env,G,val,I,e,k⟩:=q;unfold zf at e
 cases q:env[i]? with
 |none=>rw[q]at e;cases e
 | some s=>
   rw[q]at e
   cases s with
   |un=>cases e
   | p d=>
     cases e;obtain⟨v,h1,h2⟩:=I.p q;exact⟨v,h1,k v G H (Gw.refl _ _) I.le h2⟩
   | own ds=>
     cases e;obtain⟨a,vs,o⟩:=I.own q;exact⟨.ref a,o.at_,k _ G H (Gw.refl _ _) I.le ⟨a,rfl,q,o.at_⟩⟩
theorem Rz {e:Expr}{v:V}{d:D}(h:PE X e (tC v))(r:∀G,kb X.K G d v):DE X G₀ H₀ e (fC d):=h.imp fun σ H Q q=>by
 obtain⟨env,G,val,I,e,k⟩:=q;cases e;exact k v G H (Gw.refl _ _) I.le (r G)
theorem zj {i j}:DE X G₀ H₀ (.Constant (.int i) j pos) (fC (.int i)):=Rz SN fun _=>rfl
theorem n8 {b j}:DE X G₀ H₀ (.Constant (.bool b) j pos) (fC (.bl b)):=Rz Qr fun _=>rfl
theorem lr {j}:DE X G₀ H₀ (.Constant .none j pos) (fC .non):=Rz SM fun _=>rfl
end
@[simp] noncomputable def f2 (g:D→D→Out Val)(fa fb:FE):FE:=fun env=>(fa env).bind fun x=>(fb env).bind fun y=>g x.d y.d
@[simp] noncomputable def f1 (g:D→Out Val)(fa:FE):FE:=fun env=>(fa env).bind fun x=>g x.d
noncomputable def dO (K:Frag)(r:R2)(g:D→D→Out Val):Prop :=
 ∀ (G₀ H₀:Hp) (env:Ev) (σ:St) (G H:Hp) (v u:V) (d1 d2:D) (val:Val) (Q:VK),DI K G₀ H₀ env σ G H→v9 K env σ G v d1→v9 K env σ G u d2→g d1 d2=.ok val →
   (∀w G' H',Gw G H G' H'→zV G' H'→si K H env σ G' H' w val→Q w H')→r v u H Q
noncomputable def P7 (K:Frag)(r:V→Hp→VK→Prop)(g:D→Out Val):Prop :=
 ∀ (G₀ H₀:Hp) (env:Ev) (σ:St) (G H:Hp) (v:V) (d1:D) (val:Val) (Q:VK),DI K G₀ H₀ env σ G H→v9 K env σ G v d1→g d1=.ok val →
   (∀w G' H',Gw G H G' H'→zV G' H'→si K H env σ G' H' w val→Q w H')→r v H Q
section
variable {X:Cx}{G₀ H₀:Hp}{pos:Pos}{a b:Expr}{fa fb:FE}
theorem Tc {r:R2}{g:D→D→Out Val}(hd:dO X.K r g)(σ:St)(H:Hp)(Q:VK)(q:tE X.K G₀ H₀ (f2 g fa fb) σ H Q):Qa r (tE X.K G₀ H₀ fa) (tE X.K G₀ H₀ fb) σ H Q:=by
 obtain⟨env,G,val,I,e,k⟩:=q;obtain⟨x,e1,e⟩:=zv e;obtain⟨y,e2,e⟩:=zv e;exact b_ I e1 e2 fun v u G' H' g1 l1 I1 o1 o2=>hd G₀ H₀ env σ G' H' v u _ _ val Q I1 o1 o2 e fun w G2 H2 g2 l2 h2=>k w G2 H2 (g1.trans g2) l2 (h2.base g1.h)
theorem Px {r:V→Hp→VK→Prop}{g:D→Out Val}(hd:P7 X.K r g)(σ:St)(H:Hp)(Q:VK)(q:tE X.K G₀ H₀ (f1 g fa) σ H Q):PX r (tE X.K G₀ H₀ fa) σ H Q:=by
 obtain⟨env,G,val,I,e,k⟩:=q;obtain⟨x,e1,e⟩:=zv e;exact uy I e1 fun v G' H' g1 l1 I1 o1=>hd G₀ H₀ env σ G' H' v _ val Q I1 o1 e fun w G2 H2 g2 l2 h2=>k w G2 H2 (g1.trans g2) l2 (h2.base g1.h)
theorem gU {op:Operator}{r:R2}{g:D→D→Out Val}(ho:oQ X (binaryOp op) r)(hd:dO X.K r g)(ha:DE X G₀ H₀ a fa)(hb:DE X G₀ H₀ b fb):DE X G₀ H₀ (.BinOp a op b pos) (f2 g fa fb) :=
 (Qp ho ha hb).imp (Tc hd)
theorem QN {op:UnaryOp}{r:V→Hp→VK→Prop}{g:D→Out Val}(ho:Pc X (unaryOp op) r)(hd:P7 X.K r g)(ha:DE X G₀ H₀ a fa):DE X G₀ H₀ (.UnaryOp op a pos) (f1 g fa) :=
 (Qo ho ha).imp (Px hd)
theorem jX {op:CmpOp}{r:R2}{g:D→D→Out Val}(ho:oQ X (compareOp op) r)(hd:dO X.K r g)(ha:DE X G₀ H₀ a fa)(hb:DE X G₀ H₀ b fb)(hm:behindInMarks op b=false):DE X G₀ H₀ (.Compare a [op] [b] pos) (f2 g fa fb) :=
 (UR ho ha hb hm).imp (Tc hd)
theorem QQ {r:R2}{g:D→D→Out Val}(hr:Ui X r)(hd:dO X.K r g)(ha:DE X G₀ H₀ a fa)(hb:DE X G₀ H₀ b fb)(hs:dG b):DE X G₀ H₀ (.Subscript a b pos) (f2 g fa fb) :=
 (Qq hr ha hb hs).imp (Tc hd)
end
@[simp] noncomputable def gI (C:Int→Int→Bool) (g:Int→Int→Int):D→D→Out Val
  | .int i,.int j=>if C i j then .ok (.p (.int (g i j)))else .bad
  |_,_=>.bad
@[simp] noncomputable def R5 (g:Int→Int→Bool):D→D→Out Val
  | .int i,.int j=>.ok (.p (.bl (g i j)))
  |_,_=>.bad
section
variable {K:Frag}
theorem fY {C:Int→Int→Bool}{C':Int→Int→Prop}{g:Int→Int→Int}(hC:∀i j,C i j=true→C' i j):dO K (rI C' fun i j=>.int (g i j)) (gI C g):=by
 intro G₀ H₀ env σ G H v u d1 d2 val Q I o1 o2 e k;unfold gI at e;split at e
 ·rename_i i j;split at e
  ·rename_i hc;cases e;exact⟨i,j,o1.int,o2.int,hC i j hc,k _ G H (Gw.refl _ _) I.le rfl⟩
  ·cases e
 ·cases e
theorem UY {g:Int→Int→Int}:dO K (Ug fun i j=>.int (g i j)) (gI (fun _ _=>true) g):=by
 intro G₀ H₀ env σ G H v u d1 d2 val Q I o1 o2 e k;unfold gI at e;split at e
 ·rename_i i j;rw[saf rfl]at e;cases e;exact⟨i,j,o1.int,o2.int,k _ G H (Gw.refl _ _) I.le rfl⟩
 ·cases e
theorem pC {g:Int→Int→Bool}:dO K (Ug fun i j=>.bl (g i j)) (R5 g):=by
 intro G₀ H₀ env σ G H v u d1 d2 val Q I o1 o2 e k;unfold R5 at e;split at e
 ·rename_i i j;cases e;exact⟨i,j,o1.int,o2.int,k _ G H (Gw.refl _ _) I.le rfl⟩
 ·cases e
end
noncomputable def oY (i:Int):Bool:=decide (-(2^64)<i)&&decide (i<2^64)
noncomputable def uq (i j:Int):Bool:=oY i ||oY j
noncomputable def TB (i j:Int):Bool:=decide (0≤j)&&decide (j≤1000000)&&decide (i.natAbs<2^64)
@[simp] noncomputable def xR:=gI (fun _ _=>true) (· - ·)
@[simp] noncomputable def vC:=gI uq (· * ·)
@[simp] noncomputable def yA:=gI (fun _ j=>decide (0<j)) (· % ·)
@[simp] noncomputable def eI:=gI TB (fun i j=>i^j.toNat)
@[simp] noncomputable def mn:=R5 fun i j=>decide (i<j)
@[simp] noncomputable def Q9:=R5 fun i j=>decide (i≤j)
@[simp] noncomputable def bV:=R5 fun i j=>decide (j<i)
@[simp] noncomputable def xj:D→Out Val
  | .int i=>.ok (.p (.int (-i)))
  |_=>.bad
section
variable {X:Cx}{G₀ H₀:Hp}{pos:Pos}{a b:Expr}{fa fb:FE}
theorem yU (ha:DE X G₀ H₀ a fa)(hb:DE X G₀ H₀ b fb):DE X G₀ H₀ (.BinOp a .Sub b pos) (f2 xR fa fb):=gU SR UY ha hb
theorem xG (ha:DE X G₀ H₀ a fa)(hb:DE X G₀ H₀ b fb):DE X G₀ H₀ (.BinOp a .Mult b pos) (f2 vC fa fb) :=
 gU SV (fY fun i j h=>by
  simp only[uq,oY,sbI,saS,sap]at h
  exact h) ha hb
theorem yE (ha:DE X G₀ H₀ a fa)(hb:DE X G₀ H₀ b fb):DE X G₀ H₀ (.BinOp a .Mod b pos) (f2 yA fa fb):=gU SW (fY fun i j h=>scj h) ha hb
theorem lq (ha:DE X G₀ H₀ a fa)(hb:DE X G₀ H₀ b fb):DE X G₀ H₀ (.BinOp a .Pow b pos) (f2 eI fa fb) :=
 gU SU (fY fun i j h=>by
  simp only[TB,saS,sap]at h
  exact⟨h.1.1,h.1.2,h.2⟩) ha hb
theorem QP (ha:DE X G₀ H₀ a fa)(hb:DE X G₀ H₀ b fb):DE X G₀ H₀ (.Compare a [.LtE] [b] pos) (f2 Q9 fa fb):=jX Qu pC ha hb (uZ _)
theorem QR (ha:DE X G₀ H₀ a fa)(hb:DE X G₀ H₀ b fb):DE X G₀ H₀ (.Compare a [.Gt] [b] pos) (f2 bV fa fb):=jX TZ pC ha hb (uZ _)
theorem x8 (ha:DE X G₀ H₀ a fa):DE X G₀ H₀ (.UnaryOp .USub a pos) (f1 xj fa):=QN Si (by
 intro G₀ H₀ env σ G H v d1 val Q I o1 e k;unfold xj at e;split at e
 ·rename_i i;cases e;exact⟨i,o1.int,k _ G H (Gw.refl _ _) I.le rfl⟩
 ·cases e) ha
end
noncomputable def oJ (_ j:Int):Bool:=decide (0<j)&&decide (j<2^250)
theorem W6 {X:Cx}:oQ X (binaryOp .FloorDiv) (rI (fun _ j=>0<j∧j<2^250) fun i j=>.int (i / j)):=Q7 fun i j t u s Q E hc q=>by
 have hne:j≠0:=by lia
 refine floordiv_int hne ?_ (.inl (PyProof.noPylong_of_log2 ?_))
 ·rw[Int.fdiv_eq_ediv_of_nonneg _ (by lia)];exact q
 ·have h1:j.natAbs<2^9000:=saE (m:=2^250) (by have:=hc.2;lia) (Nat.pow_le_pow_right (by decide) (by decide));exact(Nat.log2_lt (by lia)).mpr h1
@[simp] noncomputable def x6:=gI oJ (· / ·)
theorem w_ {X:Cx}{G₀ H₀:Hp}{pos:Pos}{a b:Expr}{fa fb:FE}(ha:DE X G₀ H₀ a fa)(hb:DE X G₀ H₀ b fb):DE X G₀ H₀ (.BinOp a .FloorDiv b pos) (f2 x6 fa fb) :=
 gU W6 (fY fun i j h=>by
  simp only[oJ,saS,sap]at h
  exact h) ha hb
mutual
noncomputable def xB:D→PyData
 | .non=>.none
 | .bl b=>.bool b
 | .int i=>.int i
 | .tup ds=>.tuple (wd ds)
 | .l ds=>.list (wd ds)
 | .scr ns=>.list (ns.map .int)
 | .exc _ _=>.none
noncomputable def wd:List D→List PyData
 |[]=>[]
 |d::ds=>xB d::wd ds
end
noncomputable def oF (x y:D):Bool:=PyData.eqv (xB x) (xB y)
noncomputable def n5 (xs ys:List D):Bool:=PyData.eqvAll (wd xs) (wd ys)
noncomputable def wI:Nat→D→Bool
 | 0,.tup _=>false
 | 0,.l _=>false
 | 0,_=>true
 |n+1,.tup ds=>ds.all (wI n)
 |n+1,.l ds=>ds.all (wI n)
 |_+1,_=>true
theorem cM:∀ns:List Int,PyData.canLayAll0 (ns.map .int)=true
 |[]=>by simp[PyData.canLayAll0]
 |n::ns=>by simp only[List.map_cons,PyData.canLayAll0,PyData.canLay0,cM ns,Bool.and_self]
mutual
theorem oy:∀d:D,(xB d).canLay0=true
 | .non=>by simp only[xB,PyData.canLay0]
 | .bl _=>by simp only[xB,PyData.canLay0]
 | .int _=>by simp only[xB,PyData.canLay0]
 | .tup ds=>by simp only[xB,PyData.canLay0,nT ds]
 | .l ds=>by simp only[xB,PyData.canLay0,nT ds]
 | .scr ns=>by simp only[xB,PyData.canLay0,cM ns]
 | .exc _ _=>by simp only[xB,PyData.canLay0]
theorem nT:∀ds:List D,PyData.canLayAll0 (wd ds)=true
 |[]=>by simp only[wd,PyData.canLayAll0]
 |d::ds=>by simp only[wd,PyData.canLayAll0,oy d,nT ds,Bool.and_self]
end
theorem jV:∀ns:List Int,PyData.depthAll (ns.map .int)=0
 |[]=>by simp[PyData.depthAll]
 |n::ns=>by simp[PyData.depthAll,PyData.depth,jV ns]
theorem ll {n:Nat}:∀ds:List D,(∀d∈ds,(xB d).depth≤n)→PyData.depthAll (wd ds)≤n
 |[],_=>by simp[wd,PyData.depthAll]
 | d::ds,h=>by
   simp only[wd,PyData.depthAll];exact Nat.max_le.mpr ⟨h d (by simp),ll ds fun x hx=>h x (by simp[hx])⟩
theorem rn:∀(n:Nat) (d:D),wI n d=true→(xB d).depth≤n+1
 |n,.non,_=>by simp[xB,PyData.depth]
 |n,.bl _,_=>by simp[xB,PyData.depth]
 |n,.int _,_=>by simp[xB,PyData.depth]
 |n,.scr ns,_=>by simp[xB,PyData.depth,jV ns]
 |n,.exc _ _,_=>by simp[xB,PyData.depth]
 | 0,.tup ds,h=>by simp[wI]at h
 | 0,.l ds,h=>by simp[wI]at h
 | n+1,.tup ds,h=>by
   simp only[xB,PyData.depth];have:=ll (n:=n+1) ds fun d hd=>rn n d (sbL.mp (by simpa[wI]using h) d hd);lia
 | n+1,.l ds,h=>by
   simp only[xB,PyData.depth];have:=ll (n:=n+1) ds fun d hd=>rn n d (sbL.mp (by simpa[wI]using h) d hd);lia
section
variable {X:Cx}{pins:List (Addr×Obj)}{σ:St}{G H:Hp}{s:Shared}
theorem jv {h:Heap}:∀{ns:List Int} {us:List Value},yt (ns.map V.int) us→∃as,ReadsAll h us (ns.map .int) as
 |[],us,r=>by cases r;exact⟨[],.nil⟩
 | n::ns,us,r=>by
   cases r with
   | cons r1 r2=>
     obtain⟨t,rfl⟩:=r1;obtain⟨as,q⟩:=jv r2;exact⟨_,.cons (.int n t) q⟩
mutual
theorem cq (I:Inv X pins σ H s)(l:zV G H):∀{d:D} {v:V} {u:Value},kb X.K G d v→xm v u→∃as,Reads s.heap u (xB d) as
 | .non,v,u,h,r=>by cases(show v=.non from h);cases(show u=.none from r);exact⟨[],by simp only[xB];exact .none⟩
 | .bl b,v,u,h,r=>by cases(show v=.bl b from h);cases(show u=.bool b from r);exact⟨[],by simp only[xB];exact .bool b⟩
 | .int i,v,u,h,r=>by
   cases(show v=.int i from h)
   obtain⟨t,rfl⟩:=(show ∃t,u=.int i t from r)
   exact⟨[],by simp only[xB];exact .int i t⟩
 | .tup ds,v,u,h,r=>by
   obtain⟨a,vs,rfl,g,q⟩:=h;cases(show u=.ref a from r);obtain⟨_,its,rv,ob,e,c,n,dd⟩:=I.hok a _ (l _ _ g);obtain⟨as,z⟩:=pz I l q rv;exact⟨as,by simp only[xB];exact .tuple e c dd (by simpa using z)⟩
 | .l ds,v,u,h,r=>by
   obtain⟨a,vs,rfl,g,q⟩:=h;cases(show u=.ref a from r);obtain⟨_,its,n,rv,e⟩:=I.hok a _ (l _ _ g);obtain⟨as,z⟩:=pz I l q rv;exact⟨a::as,by simp only[xB];exact .list e rfl rfl (by simpa using z)⟩
 | .scr ns,v,u,h,r=>by
   obtain⟨a,rfl,q⟩:=h;cases(show u=.ref a from r);obtain⟨its,rv,⟨o,n,e,c,_,dd⟩,_⟩:=I.list (l.seq q);obtain⟨as,z⟩:=jv (h:=s.heap) rv;exact⟨a::as,by simp only[xB];exact .list e c dd (by simpa using z)⟩
 | .exc _ _,_,_,h,_=>h.elim
theorem pz (I:Inv X pins σ H s)(l:zV G H):∀{ds:List D} {vs:List V} {us:List Value},zM X.K G ds vs→yt vs us→∃as,ReadsAll s.heap us (wd ds) as
 | [],vs,us,h,r=>by
   cases(show vs=[]from h);cases r;exact⟨[],by simp only[wd];exact .nil⟩
 | d::ds,vs,us,h,r=>by
   obtain⟨v,vr,rfl,h1,h2⟩:=h
   cases r with
   | cons r1 r2=>
     obtain⟨as,q1⟩:=cq I l h1 r1;obtain⟨bs,q2⟩:=pz I l h2 r2;exact⟨as++bs,by simp only[wd];exact .cons q1 q2⟩
end
end
noncomputable def R6 (K:Frag)(H:Hp)(v:V)(d:D):Prop:=(∃G,zV G H∧kb K G d v)∨∃a vs G ds,d=.l ds∧v=.ref a∧H a=some (.l vs)∧zV G H∧zM K G ds vs
theorem v9.rdv {K:Frag}{G₀ H₀ G H:Hp}{env:Ev}{σ:St}{v:V}{d:D}(I:DI K G₀ H₀ env σ G H)(h:v9 K env σ G v d):R6 K H v d:=by
 rcases h with h|⟨i,ds,a,e1,e2,e3,e4⟩
 ·exact .inl ⟨G,I.le,h⟩
 ·subst e1;obtain⟨a',vs,e,h1,h2⟩:=v9.l I (.inr ⟨i,ds,a,rfl,e2,e3,e4⟩);exact .inr ⟨a',vs,G,ds,rfl,e,h1,I.le,h2⟩
theorem ve {X:Cx}{pins:List (Addr×Obj)}{σ:St}{H:Hp}{s:Shared}{v:V}{u:Value}{d:D}(I:Inv X pins σ H s)(h:R6 X.K H v d)(r:xm v u):∃as,Reads s.heap u (xB d) as:=by
 rcases h with⟨G,l,h⟩|⟨a,vs,G,ds,rfl,rfl,g,l,q⟩
 ·exact cq I l h r
 ·cases(show u=.ref a from r);obtain⟨_,its,n,rv,e⟩:=I.hok a _ g;obtain⟨as,z⟩:=pz I l q rv;exact⟨a::as,by simp only[xB];exact .list e rfl rfl (by simpa using z)⟩
noncomputable def UG (K:Frag)(neg:Bool):R2:=fun x y H Q=>∃d1 d2,R6 K H x d1∧R6 K H y d2∧(wI 4 d1 ||wI 4 d2)=true∧Q (.bl (if neg then !oF d1 d2 else oF d1 d2)) H
theorem ZX {u:Nat}{d1 d2:D}(hu:u+20<cLine)(hs:(wI 4 d1 ||wI 4 d2)=true):u+min (xB d1).depth (xB d2).depth<cLine:=by
 rw[sbI]at hs
 rcases hs with h|h
 ·have:=rn 4 d1 h;have:=Nat.min_le_left (xB d1).depth (xB d2).depth;lia
 ·have:=rn 4 d2 h;have:=Nat.min_le_right (xB d1).depth (xB d2).depth;lia
theorem W7 {X:Cx}(hu:X.A.units+20<cLine):oQ X (compareOp .Eq) (UG X.K false):=by
 intro pins s σ H x y v u Q I rx ry h;obtain⟨d1,d2,h1,h2,hs,q⟩:=h;obtain⟨as,ra⟩:=ve I h1 rx;obtain⟨bs,rb⟩:=ve I h2 ry;exact SeqAt.compareEq_reads ra rb (oy d1) (oy d2) (ZX hu hs) ⟨.bl _,H,I,rfl,q⟩
theorem W4 {X:Cx}(hu:X.A.units+20<cLine):oQ X (compareOp .NotEq) (UG X.K true):=by
 intro pins s σ H x y v u Q I rx ry h;obtain⟨d1,d2,h1,h2,hs,q⟩:=h;obtain⟨as,ra⟩:=ve I h1 rx;obtain⟨bs,rb⟩:=ve I h2 ry;exact SeqAt.compareNe_reads ra rb (oy d1) (oy d2) (ZX hu hs) ⟨.bl _,H,I,rfl,q⟩
@[simp] noncomputable def mq:D→D→Out Val:=fun x y=>if(wI 4 x ||wI 4 y)=true then .ok (.p (.bl (oF x y)))else .bad
@[simp] noncomputable def lW:D→D→Out Val:=fun x y=>if(wI 4 x ||wI 4 y)=true then .ok (.p (.bl (!oF x y)))else .bad
theorem T4 {K:Frag}:dO K (UG K false) mq:=by
 intro G₀ H₀ env σ G H v u d1 d2 val Q I o1 o2 e k;unfold mq at e;split at e
 ·rename_i hs;cases e;exact⟨d1,d2,o1.rdv I,o2.rdv I,hs,k _ G H (Gw.refl _ _) I.le rfl⟩
 ·cases e
theorem T3 {K:Frag}:dO K (UG K true) lW:=by
 intro G₀ H₀ env σ G H v u d1 d2 val Q I o1 o2 e k;unfold lW at e;split at e
 ·rename_i hs;cases e;exact⟨d1,d2,o1.rdv I,o2.rdv I,hs,k _ G H (Gw.refl _ _) I.le rfl⟩
 ·cases e
noncomputable def UF (K:Frag)(neg:Bool):R2:=fun x y H Q=>∃d ds,R6 K H x d∧R6 K H y (.l ds)∧wI 4 d=true∧Q (.bl (if neg then !ds.any (fun z=>oF z d)else ds.any (fun z=>oF z d))) H
theorem lF (d:D):∀ds:List D,(wd ds).any (fun y=>PyData.eqv y (xB d))=ds.any (fun z=>oF z d)
 |[]=>by simp[wd]
 |x::ds=>by simp only[wd,List.any_cons,lF d ds];rfl
theorem SY {X:Cx}(hu:X.A.units+20<cLine):oQ X (compareOp .In) (UF X.K false):=by
 intro pins s σ H x y v u Q I rx ry h;obtain⟨d,ds,h1,h2,hs,q⟩:=h;obtain⟨as,ra⟩:=ve I h1 rx;obtain⟨bs,rb⟩:=ve I h2 ry;simp only[xB]at rb;refine SeqAt.in_list_reads rb ra (nT ds) (oy d) ?_ ⟨.bl _,H,I,rfl,?_⟩
 ·have:=rn 4 d hs;have:=Nat.min_le_right (PyData.depthAll (wd ds)) (xB d).depth;lia
 ·rw[lF];exact q
theorem UU {X:Cx}(hu:X.A.units+20<cLine):oQ X (compareOp .NotIn) (UF X.K true):=by
 intro pins s σ H x y v u Q I rx ry h;obtain⟨d,ds,h1,h2,hs,q⟩:=h;obtain⟨as,ra⟩:=ve I h1 rx;obtain⟨bs,rb⟩:=ve I h2 ry;simp only[xB]at rb;refine SeqAt.notIn_list_reads rb ra (nT ds) (oy d) ?_ ⟨.bl _,H,I,rfl,?_⟩
 ·have:=rn 4 d hs;have:=Nat.min_le_right (PyData.depthAll (wd ds)) (xB d).depth;lia
 ·rw[lF];exact q
@[simp] noncomputable def X9:D→D→Out Val
  |x,.l ds=>if wI 4 x=true then .ok (.p (.bl (ds.any fun z=>oF z x)))else .bad
  |_,_=>.bad
@[simp] noncomputable def XB:D→D→Out Val
  |x,.l ds=>if wI 4 x=true then .ok (.p (.bl (!ds.any fun z=>oF z x)))else .bad
  |_,_=>.bad
theorem Qx {K:Frag}:dO K (UF K false) X9:=by
 intro G₀ H₀ env σ G H v u d1 d2 val Q I o1 o2 e k;unfold X9 at e;split at e
 ·split at e
  ·rename_i hs;cases e;exact⟨_,_,o1.rdv I,o2.rdv I,hs,k _ G H (Gw.refl _ _) I.le rfl⟩
  ·cases e
 ·cases e
theorem S4 {K:Frag}:dO K (UF K true) XB:=by
 intro G₀ H₀ env σ G H v u d1 d2 val Q I o1 o2 e k;unfold XB at e;split at e
 ·split at e
  ·rename_i hs;cases e;exact⟨_,_,o1.rdv I,o2.rdv I,hs,k _ G H (Gw.refl _ _) I.le rfl⟩
  ·cases e
 ·cases e
@[simp] noncomputable def XE:D→D→Out Val
  | .non,.non=>.ok (.p (.bl true))
  | .int _,.non=>.ok (.p (.bl false))
  | .bl _,.non=>.ok (.p (.bl false))
  | .tup _,.non=>.ok (.p (.bl false))
  | .l _,.non=>.ok (.p (.bl false))
  |_,_=>.bad
@[simp] noncomputable def qo:D→D→Out Val
  | .non,.non=>.ok (.p (.bl false))
  | .int _,.non=>.ok (.p (.bl true))
  | .bl _,.non=>.ok (.p (.bl true))
  | .tup _,.non=>.ok (.p (.bl true))
  | .l _,.non=>.ok (.p (.bl true))
  |_,_=>.bad
theorem S5 {K:Frag}:dO K (fun x y H Q=>y=.non∧Q (.bl (decide (x=.non))) H) XE:=by
 intro G₀ H₀ env σ G H v u d1 d2 val Q I o1 o2 e k;unfold XE at e;split at e
 ·cases e;refine⟨o2.non,?_⟩;rw[o1.non];exact k _ G H (Gw.refl _ _) I.le rfl
 ·cases e;refine⟨o2.non,?_⟩;rw[o1.int];exact k _ G H (Gw.refl _ _) I.le rfl
 ·cases e;refine⟨o2.non,?_⟩;rw[o1.bl];exact k _ G H (Gw.refl _ _) I.le rfl
 ·cases e;refine⟨o2.non,?_⟩;obtain⟨a,_,rfl,_⟩:=v9.tup I o1;exact k _ G H (Gw.refl _ _) I.le rfl
 ·cases e;refine⟨o2.non,?_⟩;obtain⟨a,_,rfl,_⟩:=v9.l I o1;exact k _ G H (Gw.refl _ _) I.le rfl
 ·cases e
theorem Ya {K:Frag}:dO K (fun x y H Q=>y=.non∧Q (.bl (!decide (x=.non))) H) qo:=by
 intro G₀ H₀ env σ G H v u d1 d2 val Q I o1 o2 e k;unfold qo at e;split at e
 ·cases e;refine⟨o2.non,?_⟩;rw[o1.non];exact k _ G H (Gw.refl _ _) I.le rfl
 ·cases e;refine⟨o2.non,?_⟩;rw[o1.int];exact k _ G H (Gw.refl _ _) I.le rfl
 ·cases e;refine⟨o2.non,?_⟩;rw[o1.bl];exact k _ G H (Gw.refl _ _) I.le rfl
 ·cases e;refine⟨o2.non,?_⟩;obtain⟨a,_,rfl,_⟩:=v9.tup I o1;exact k _ G H (Gw.refl _ _) I.le rfl
 ·cases e;refine⟨o2.non,?_⟩;obtain⟨a,_,rfl,_⟩:=v9.l I o1;exact k _ G H (Gw.refl _ _) I.le rfl
 ·cases e
section
variable {X:Cx}{G₀ H₀:Hp}{pos:Pos}{a b:Expr}{fa fb:FE}
theorem gW (hu:X.A.units+20<cLine)(ha:DE X G₀ H₀ a fa)(hb:DE X G₀ H₀ b fb):DE X G₀ H₀ (.Compare a [.Eq] [b] pos) (f2 mq fa fb):=jX (W7 hu) T4 ha hb (uZ _)
theorem QO (hu:X.A.units+20<cLine)(ha:DE X G₀ H₀ a fa)(hb:DE X G₀ H₀ b fb):DE X G₀ H₀ (.Compare a [.NotEq] [b] pos) (f2 lW fa fb):=jX (W4 hu) T3 ha hb (uZ _)
theorem YB (ha:DE X G₀ H₀ a fa)(hb:DE X G₀ H₀ b fb):DE X G₀ H₀ (.Compare a [.IsNot] [b] pos) (f2 qo fa fb):=jX Z_ Ya ha hb (uZ _)
end
@[simp] noncomputable def yB:D→D→Out Val
  | .int i,.int j=>.ok (.p (.int (i+j)))
  | .l xs,.l ys=>if xs.length+ys.length≤100000 then .ok (.fresh (xs++ys))else .bad
  |_,_=>.bad
theorem kI {n:Nat}(h:n≤100000):n≤sizeLine:=by rw[sizeLine_eq];lia
theorem S6 {K:Frag}:dO K (fun x y H Q=>Ug (fun i j=>.int (i+j)) x y H Q∨Qk x y H Q) yB:=by
 intro G₀ H₀ env σ G H v u d1 d2 val Q I o1 o2 e k;unfold yB at e;split at e
 ·rename_i i j;cases e;exact .inl ⟨i,j,o1.int,o2.int,k _ G H (Gw.refl _ _) I.le rfl⟩
 ·rename_i xs ys;split at e
  ·rename_i hz;cases e;obtain⟨a,vs,e1,h1,r1⟩:=v9.l I o1;obtain⟨b,us,e2,h2,r2⟩:=v9.l I o2;refine .inr ⟨a,b,vs,us,e1,e2,h1,h2,kI (by rw[←r1.length,←r2.length];exact hz),fun p hp=>?_⟩;have g:=Gw.laidL (o:=.l (vs++us)) I.le hp;exact k _ G _ g.1 g.2 (qx I.le hp (r1.append r2))
  ·cases e
 ·cases e
theorem yF {X:Cx}{G₀ H₀:Hp}{pos:Pos}{a b:Expr}{fa fb:FE}(ha:DE X G₀ H₀ a fa)(hb:DE X G₀ H₀ b fb):DE X G₀ H₀ (.BinOp a .Add b pos) (f2 yB fa fb):=gU (S0.or SZ) S6 ha hb
@[simp] noncomputable def zX:D→D→Out Val
  | .tup ds,.int i=>match t9 ds i with|some d=>.ok (.p d)|none=>.bad
  | .l ds,.int i=>match t9 ds i with|some d=>.ok (.p d)|none=>.bad
  | .scr ns,.int i=>match t9 ns i with|some n=>.ok (.p (.int n))|none=>.bad
  |_,_=>.bad
theorem YK {K:Frag}{G:Hp}{ds:List D}{vs:List V}{i:Int}{d:D}(r:zM K G ds vs)(h:t9 ds i=some d):∃v,t9 vs i=some v∧kb K G d v:=by
 unfold t9 at h ⊢;rw[←r.length]
 cases q:U9 ds.length i with
 |none=>rw[q]at h;cases h
 | some j=>
   rw[q]at h;obtain⟨v,h1,h2⟩:=r.get (i:=j) (d:=d) h;exact⟨v,h1,h2⟩
theorem TK {α β:Type}(f:α→β)(xs:List α)(i:Int):t9 (xs.map f) i=(t9 xs i).map f:=by
 unfold t9;rw[sae]
 cases U9 xs.length i with
 |none=>rfl
 |some j=>simp
theorem Qw {K:Frag}:dO K (fun x y H Q=>SA K x y H Q∨Sy K x y H Q∨Sz x y H Q) zX:=by
 intro G₀ H₀ env σ G H v u d1 d2 val Q I o1 o2 e k;unfold zX at e;split at e
 ·rename_i ds i;split at e
  ·rename_i d hd;cases e;obtain⟨a,vs,e1,h1,r1⟩:=v9.tup I o1;obtain⟨w,hw,rw'⟩:=YK r1 hd;exact .inr (.inl ⟨a,vs,i,w,e1,o2.int,dF.of h1,hw,k w G H (Gw.refl _ _) I.le rw'⟩)
  ·cases e
 ·rename_i ds i;split at e
  ·rename_i d hd;cases e;obtain⟨a,vs,e1,h1,r1⟩:=v9.l I o1;obtain⟨w,hw,rw'⟩:=YK r1 hd;exact .inl ⟨a,vs,i,w,e1,o2.int,xV.of h1,hw,k w G H (Gw.refl _ _) I.le rw'⟩
  ·cases e
 ·rename_i ns i;split at e
  ·rename_i n hn;cases e;obtain⟨a,e1,h1⟩:=v9.scr I o1;exact .inl ⟨a,ns.map V.int,i,.int n,e1,o2.int,h1,by rw[TK,hn];rfl,k (.int n) G H (Gw.refl _ _) I.le rfl⟩
  ·cases e
 ·cases e
theorem zA {X:Cx}{G₀ H₀:Hp}{pos:Pos}{a b:Expr}{fa fb:FE}(ha:DE X G₀ H₀ a fa)(hb:DE X G₀ H₀ b fb)(hs:dG b:=by intro _ _;rfl):DE X G₀ H₀ (.Subscript a b pos) (f2 zX fa fb):=QQ Rg Qw ha hb hs
noncomputable def qP (xs:List D)(lo hi:Option Int):List D:=(xs.drop (HT.sIx xs.length 0 lo)).take (HT.sIx xs.length xs.length hi - HT.sIx xs.length 0 lo)
theorem YD {K:Frag}{G:Hp}{ds:List D}{vs:List V}(lo hi:Option Int)(r:zM K G ds vs):zM K G (qP ds lo hi) (iM vs lo hi):=by
 unfold qP iM;rw[r.length];exact(r.drop _).take _
noncomputable abbrev FO:=Ev→Out (Option Int)
@[simp] noncomputable def gO:FO:=fun _=>.ok none
@[simp] noncomputable def kK (f:FE):FO:=fun env=>(f env).bind fun v=>match v.d with
  | .int i=>.ok (some i)
  |_=>.bad
noncomputable def tO (K:Frag)(G₀ H₀:Hp)(f:FO):TO:=fun σ H Q=>∃env G o,DI K G₀ H₀ env σ G H∧f env=.ok o∧∀G' H',Gw G H G' H'→zV G' H'→Q o H'
noncomputable def DO (X:Cx)(G₀ H₀:Hp)(e:Option Expr)(f:FO):Prop:=PO X e (tO X.K G₀ H₀ f)
section
variable {X:Cx}{G₀ H₀:Hp}{pos p2:Pos}{a e:Expr}{lo hi:Option Expr}{fa f:FE}{fl fh:FO}
theorem wO:DO X G₀ H₀ none gO:=fun pins s σ H Q I q=>UN pins s σ H Q I (by
 obtain⟨env,G,o,J,h,k⟩:=q;cases h
 exact k G H (Gw.refl _ _) J.le)
theorem xT (h:DE X G₀ H₀ e f):DO X G₀ H₀ (some e) (kK f):=fun pins s σ H Q I q=>UM h pins s σ H Q I (by
 obtain⟨env,G,o,J,h,k⟩:=q;obtain⟨x,e1,h⟩:=zv h;refine uy J e1 fun v G' H' g l J' ov=>?_;split at h
 ·rename_i i hi;cases h;rw[hi]at ov;exact⟨i,ov.int,k G' H' g l⟩
 ·cases h)
@[simp] noncomputable def Om:D→Option Int→Option Int→Out Val
  | .l ds,lo,hi=>.ok (.fresh (qP ds lo hi))
  | .tup ds,lo,hi=>if HT.sIx ds.length 0 lo=0∧HT.sIx ds.length ds.length hi=ds.length then .bad else .ok (.p (.tup (qP ds lo hi)))
  |_,_,_=>.bad
@[simp] noncomputable def iA (fa:FE)(fl fh:FO):FE:=fun env=>(fa env).bind fun x=>(fl env).bind fun l=>(fh env).bind fun h=>Om x.d l h
theorem t4 (ha:DE X G₀ H₀ a fa)(hl:DO X G₀ H₀ lo fl)(hh:DO X G₀ H₀ hi fh):DE X G₀ H₀ (.Subscript a (.Slice lo hi none p2) pos) (iA fa fl fh) :=
 (WZ (Uz.or So) ha hl hh).imp fun σ H Q q=>by
  obtain⟨env,G,val,I,e,k⟩:=q;obtain⟨x,e1,e⟩:=zv e;obtain⟨l,e2,e⟩:=zv e;obtain⟨h,e3,e⟩:=zv e
  refine uy I e1 fun v G1 H1 g1 l1 I1 o1=>⟨env,G1,l,I1,e2,fun G2 H2 g2 l2=>⟨env,G2,h,I1.grow g2 l2,e3,fun G3 H3 g3 l3=>?_⟩⟩
  have I3:=(I1.grow g2 l2).grow g3 l3;have o3:=(o1.mono g2.g).mono g3.g;have g03:=(g1.trans g2).trans g3;generalize x.d=dx at e o3
  cases dx with
  | l ds=>
    cases e;obtain⟨a',vs,ev,h1,r1⟩:=v9.l I3 o3;refine .inl ⟨a',vs,ev,xV.of h1,fun p hp=>?_⟩;have g:=Gw.laidL (o:=.l (iM vs l h)) l3 hp;exact k _ G3 _ (g03.trans g.1) g.2 ((qx l3 hp (YD l h r1)).base g03.h)
  | tup ds=>
    have e':(if HT.sIx ds.length 0 l=0∧HT.sIx ds.length ds.length h=ds.length then Out.bad else Out.ok (.p (.tup (qP ds l h))))=Out.ok val:=e;split at e'
    ·cases e'
    ·rename_i hw;cases e';obtain⟨a',vs,ev,h1,r1⟩:=v9.tup I3 o3;refine .inr ⟨a',vs,ev,dF.of h1,by rw[←r1.length];exact hw,fun p hp=>?_⟩;have g:=Gw.laidT (o:=.tup (iM vs l h)) l3 hp;exact k _ _ _ (g03.trans g.1) g.2 ((Wk l3 hp (YD l h r1)).base g03.h)
  |non=>cases e
  |bl b=>cases e
  |int i=>cases e
  |scr ns=>cases e
  |exc c p=>cases e
end
@[simp] noncomputable def zz:Ev→Out (List Val):=fun _=>.ok []
@[simp] noncomputable def frz:Val→Val
  | .fresh ds=>.p (.l ds)
  |v=>v
@[simp] noncomputable def zi (f:FE)(r:Ev→Out (List Val)):Ev→Out (List Val):=fun env=>(f env).bind fun x=>(r env).bind fun xs=>.ok (frz x::xs)
@[simp] noncomputable def yd:Ev→Out (List D):=fun _=>.ok []
@[simp] noncomputable def zw (f:FE)(r:Ev→Out (List D)):Ev→Out (List D):=fun env=>(f env).bind fun x=>x.hold.bind fun d=>(r env).bind fun xs=>.ok (d::xs)
section
variable {K:Frag}{env:Ev}{σ:St}{G G':Hp}
theorem iz.mono {v:V}{x:Val}(h:iz K env σ G v x)(s:zV G G'):iz K env σ G' v x:=by
 cases x with
 |p d=>exact kb.mono s h
 |fresh ds=>exact h
 |brw i ds=>exact h
theorem V8 {val:Val}{v:V}{H H':Hp}(g:Gw G H G' H')(l:zV G' H')(h:si K H env σ G' H' v val):∃G'',Gw G H G'' H'∧zV G'' H'∧iz K env σ G'' v (frz val):=by
 cases val with
 |p d=>exact⟨G',g,l,h⟩
 |brw i ds=>exact⟨G',g,l,h⟩
 |fresh ds=>exact m5 g l h rfl
theorem iz.opd {v:V}{x:Val}(h:iz K env σ G v x):v9 K env σ G v x.d:=by
 cases x with
 |p d=>exact .inl h
 |fresh ds=>exact h.elim
 |brw i ds=>obtain⟨a,e1,e2,e3⟩:=h;exact .inr ⟨i,ds,a,rfl,e1,e2,e3⟩
end
section
variable {X:Cx}{G₀ H₀:Hp}{pos:Pos}{e:Expr}{es:List Expr}{f:FE}{r:Ev→Out (List Val)}{rh:Ev→Out (List D)}
theorem RD:DA X G₀ H₀ [] zz:=x4.imp fun σ H Q q=>by
 obtain⟨env,G,vals,I,h,k⟩:=q;cases h;exact k [] G H (Gw.refl _ _) I.le rfl
theorem n9 (he:DE X G₀ H₀ e f)(hr:DA X G₀ H₀ es r)(hs:starEach (e::es) X.env=(false,eval e X.env)::starEach es X.env:=by rfl):DA X G₀ H₀ (e::es) (zi f r) :=
 (yP he hr hs).imp fun σ H Q q=>by
  obtain⟨env,G,vals,I,h,k⟩:=q;obtain⟨x,e1,h⟩:=zv h;obtain⟨xs,e2,h⟩:=zv h;cases h;refine⟨env,G,x,I,e1,fun v G1 H1 g1 l1 o1=>?_⟩;obtain⟨G2,g2,l2,a2⟩:=V8 g1 l1 o1;exact⟨env,G2,xs,I.grow g2 l2,e2,fun vs G3 H3 g3 l3 a3=>k (v::vs) G3 H3 (g2.trans g3) l3 ⟨_,_,rfl,a2.mono g3.g,a3⟩⟩
theorem zZ:DH X G₀ H₀ [] yd:=x4.imp fun σ H Q q=>by
 obtain⟨env,G,vals,I,h,k⟩:=q;cases h;exact k [] G H (Gw.refl _ _) I.le rfl
theorem zy (he:DE X G₀ H₀ e f)(hr:DH X G₀ H₀ es rh)(hs:starEach (e::es) X.env=(false,eval e X.env)::starEach es X.env:=by rfl):DH X G₀ H₀ (e::es) (zw f rh) :=
 (yP he hr hs).imp fun σ H Q q=>by
  obtain⟨env,G,vals,I,h,k⟩:=q;obtain⟨x,e1,h⟩:=zv h;obtain⟨d,ed,h⟩:=zv h;obtain⟨xs,e2,h⟩:=zv h;cases h;refine⟨env,G,x,I,e1,fun v G1 H1 g1 l1 o1=>?_⟩;obtain⟨G2,g2,l2,a2⟩:=m5 g1 l1 o1 ed;exact⟨env,G2,xs,I.grow g2 l2,e2,fun vs G3 H3 g3 l3 a3=>k (v::vs) G3 H3 (g2.trans g3) l3 (zM.cons (a2.mono g3.g) a3)⟩
@[simp] noncomputable def wB (r:Ev→Out (List D)):FE:=fun env=>(r env).bind fun ds=>if ds.length≤1000 then .ok (.p (.tup ds))else .bad
@[simp] noncomputable def xk (r:Ev→Out (List D)):FE:=fun env=>(r env).bind fun ds=>if ds.length≤1000 then .ok (.fresh ds)else .bad
theorem xi {x1}(h:DH X G₀ H₀ es rh):DE X G₀ H₀ (.Tuple es x1 pos) (wB rh):=(SK h).imp fun σ H Q q=>by
 obtain⟨env,G,val,I,e,k⟩:=q;obtain⟨ds,e1,e⟩:=zv e;split at e
 ·rename_i hz;cases e;refine⟨env,G,ds,I,e1,fun vs G1 H1 g1 l1 r1=>⟨kI (by rw[←r1.length];lia),fun p hp=>?_⟩⟩;have g:=Gw.laidT (o:=.tup vs) l1 hp;exact k _ _ _ (g1.trans g.1) g.2 ((Wk l1 hp r1).base g1.h)
 ·cases e
theorem y9 (h:DH X G₀ H₀ es rh):DE X G₀ H₀ (.List es pos) (xk rh):=(W0 h).imp fun σ H Q q=>by
 obtain⟨env,G,val,I,e,k⟩:=q;obtain⟨ds,e1,e⟩:=zv e;split at e
 ·rename_i hz;cases e;refine⟨env,G,ds,I,e1,fun vs G1 H1 g1 l1 r1=>⟨kI (by rw[←r1.length];lia),fun p hp=>?_⟩⟩;have g:=Gw.laidL (o:=.l vs) l1 hp;exact k _ _ _ (g1.trans g.1) g.2 ((qx l1 hp r1).base g1.h)
 ·cases e
end
noncomputable def q8 (K:Frag)(r:List V→Hp→VK→Prop)(g:List D→Out Val):Prop :=
 ∀ (G₀ H₀:Hp) (env:Ev) (σ:St) (G H:Hp) (vs:List V) (xs:List Val) (val:Val) (Q:VK),DI K G₀ H₀ env σ G H→oU K env σ G vs xs→g (xs.map Val.d)=.ok val →
   (∀w G' H',Gw G H G' H'→zV G' H'→si K H env σ G' H' w val→Q w H')→r vs H Q
@[simp] noncomputable def fB (g:List D→Out Val)(r:Ev→Out (List Val)):FE:=fun env=>(r env).bind fun xs=>g (xs.map Val.d)
section
variable {X:Cx}{G₀ H₀:Hp}{x:Str}{p pos:Pos}{e:Expr}{es:List Expr}{f:Ev→Out (List Val)}{id T:String}{r:List V→Hp→VK→Prop}{g:List D→Out Val}
theorem QC (hd:q8 X.K r g)(σ:St)(H:Hp)(Q:VK)(q:tE X.K G₀ H₀ (fB g f) σ H Q):Qe r (tA X.K G₀ H₀ f) σ H Q:=by
 obtain⟨env,G,val,I,e,k⟩:=q;obtain⟨xs,e1,e⟩:=zv e;exact⟨env,G,xs,I,e1,fun vs G1 H1 g1 l1 a1=>hd G₀ H₀ env σ G1 H1 vs xs val Q (I.grow g1 l1) a1 e fun w G2 H2 g2 l2 h2=>k w G2 H2 (g1.trans g2) l2 (h2.base g1.h)⟩
theorem yw (hc:uI X (.builtin id) r)(hd:q8 X.K r g)(hm:X.mg x=none)(hv:bootBuiltins x=some (.builtin id))(ha:DA X G₀ H₀ (e::es) f)(hg:Gl X x:=by rfl)(hn:x ≠ "__name__" :=by decide) (hdb:(x == ("__debug__" : Str))=false:=by decide)
 (he:starEach (e::es) X.env=(false,eval e X.env)::starEach es X.env:=by rfl) (hpl:(backTo pos (starEach es X.env)).any (·.1)=false:=by rfl):DE X G₀ H₀ (.Call (.Name x p) (e::es) [] pos) (fB g f) :=
 (jB hc hg hm hv ha hn hdb he hpl).imp (QC hd)
theorem VS (hc:uI X (.type T) r)(hd:q8 X.K r g)(hm:X.mg x=none)(hv:bootBuiltins x=some (.type T))(ha:DA X G₀ H₀ (e::es) f)(hg:Gl X x:=by rfl)(hn:x ≠ "__name__" :=by decide) (hdb:(x == ("__debug__" : Str))=false:=by decide)
 (he:starEach (e::es) X.env=(false,eval e X.env)::starEach es X.env:=by rfl) (hpl:(backTo pos (starEach es X.env)).any (·.1)=false:=by rfl):DE X G₀ H₀ (.Call (.Name x p) (e::es) [] pos) (fB g f) :=
 (mL hc hg hm hv ha hn hdb he hpl).imp (QC hd)
end
theorem mj {K:Frag}{env:Ev}{σ:St}{G:Hp}{vs:List V}{xs:List Val}{d:D}(h:oU K env σ G vs xs)(e:xs.map Val.d=[d]):∃v,vs=[v]∧v9 K env σ G v d:=by
 cases vs with
 |nil=>cases(show xs=[]from h);cases e
 | cons v vs=>
   obtain⟨x,r,rfl,h1,h2⟩:=h;simp only[List.map_cons,List.cons.injEq,List.map_eq_nil_iff]at e;obtain⟨rfl,rfl⟩:=e
   cases vs with
   |nil=>exact⟨v,rfl,h1.opd⟩
   |cons v' vs=>obtain⟨_,_,e,_⟩:=h2;cases e
theorem Sa {K:Frag}{env:Ev}{σ:St}{G:Hp}{vs:List V}{xs:List Val}{d d':D}(h:oU K env σ G vs xs)(e:xs.map Val.d=[d,d']):∃v v',vs=[v,v']∧v9 K env σ G v d∧v9 K env σ G v' d':=by
 cases vs with
 |nil=>cases(show xs=[]from h);cases e
 | cons v vs=>
   obtain⟨x,r,rfl,h1,h2⟩:=h;simp only[List.map_cons,List.cons.injEq]at e;obtain⟨rfl,e⟩:=e;obtain⟨v',rfl,o⟩:=mj h2 e;exact⟨v,v',rfl,h1.opd,o⟩
@[simp] noncomputable def uk:List D→Out Val
  |[.l ds]=>.ok (.p (.int ds.length))
  |[.tup ds]=>.ok (.p (.int ds.length))
  |[.scr ns]=>.ok (.p (.int ns.length))
  |_=>.bad
theorem uC {K:Frag}:q8 K (fun xs H Q=>∃p ys,xs=[.ref p]∧(xV K H p ys∨dF K H p ys)∧Q (.int ys.length) H) uk:=by
 intro G₀ H₀ env σ G H vs xs val Q I a e k;unfold uk at e;split at e
 ·rename_i ds hx;cases e;obtain⟨v,rfl,o⟩:=mj a hx;obtain⟨p,us,rfl,h1,r1⟩:=v9.l I o;refine⟨p,us,rfl,.inl (xV.of h1),?_⟩;rw[←r1.length];exact k _ G H (Gw.refl _ _) I.le rfl
 ·rename_i ds hx;cases e;obtain⟨v,rfl,o⟩:=mj a hx;obtain⟨p,us,rfl,h1,r1⟩:=v9.tup I o;refine⟨p,us,rfl,.inr (dF.of h1),?_⟩;rw[←r1.length];exact k _ G H (Gw.refl _ _) I.le rfl
 ·rename_i ns hx;cases e;obtain⟨v,rfl,o⟩:=mj a hx;obtain⟨p,rfl,h1⟩:=v9.scr I o;refine⟨p,_,rfl,.inl h1,?_⟩;rw[sae];exact k _ G H (Gw.refl _ _) I.le rfl
 ·cases e
@[simp] noncomputable def p7:List D→Out Val
  |[.int i,.int j]=>.ok (.p (.int (if j<i then j else i)))
  |_=>.bad
@[simp] noncomputable def cY:List D→Out Val
  |[.int i,.int j]=>.ok (.p (.int (if j>i then j else i)))
  |_=>.bad
theorem df {K:Frag}:q8 K (fun xs H Q=>∃i j,xs=[.int i,.int j]∧Q (.int (if j<i then j else i)) H) p7:=by
 intro G₀ H₀ env σ G H vs xs val Q I a e k;unfold p7 at e;split at e
 ·rename_i i j hx;cases e;obtain⟨v,v',rfl,o,o'⟩:=Sa a hx;exact⟨i,j,by rw[o.int,o'.int],k _ G H (Gw.refl _ _) I.le rfl⟩
 ·cases e
theorem Tv {K:Frag}:q8 K (fun xs H Q=>∃i j,xs=[.int i,.int j]∧Q (.int (if j>i then j else i)) H) cY:=by
 intro G₀ H₀ env σ G H vs xs val Q I a e k;unfold cY at e;split at e
 ·rename_i i j hx;cases e;obtain⟨v,v',rfl,o,o'⟩:=Sa a hx;exact⟨i,j,by rw[o.int,o'.int],k _ G H (Gw.refl _ _) I.le rfl⟩
 ·cases e
@[simp] noncomputable def VG:List D→Out Val
  |[.l ds]=>.ok (.fresh ds)
  |[.tup ds]=>.ok (.fresh ds)
  |_=>.bad
theorem Tw {K:Frag}:q8 K (fun xs H Q=>∃p ys,xs=[.ref p]∧(xV K H p ys∨dF K H p ys)∧∀l,H l=none→Q (.ref l) (yW H l (.l ys))) VG:=by
 intro G₀ H₀ env σ G H vs xs val Q I a e k;unfold VG at e;split at e
 ·rename_i ds hx;cases e;obtain⟨v,rfl,o⟩:=mj a hx;obtain⟨p,us,rfl,h1,r1⟩:=v9.l I o;refine⟨p,us,rfl,.inl (xV.of h1),fun l hl=>?_⟩;have g:=Gw.laidL (o:=.l us) I.le hl;exact k _ G _ g.1 g.2 (qx I.le hl r1)
 ·rename_i ds hx;cases e;obtain⟨v,rfl,o⟩:=mj a hx;obtain⟨p,us,rfl,h1,r1⟩:=v9.tup I o;refine⟨p,us,rfl,.inr (dF.of h1),fun l hl=>?_⟩;have g:=Gw.laidL (o:=.l us) I.le hl;exact k _ G _ g.1 g.2 (qx I.le hl r1)
 ·cases e
@[simp] noncomputable def R0:D→Out Bool
  | .non=>.ok false
  | .bl b=>.ok b
  | .int i=>.ok (i != 0)
  | .l ds=>.ok (!ds.isEmpty)
  | .tup ds=>.ok (!ds.isEmpty)
  |_=>.bad
@[simp] noncomputable def oC (f:FE):FT:=fun env=>(f env).bind fun x=>R0 x.d
@[simp] noncomputable def z0 (f:FE):FT:=fun env=>(f env).bind fun x=>match x.d with
  | .bl b=>.ok b
  |_=>.bad
@[simp] noncomputable def rf (f g:FT):FT:=fun env=>(f env).bind fun c=>if c=true then g env else .ok false
@[simp] noncomputable def XI (f g:FT):FT:=fun env=>(f env).bind fun c=>if c=true then .ok true else g env
@[simp] noncomputable def bf (f:FT):FT:=fun env=>(f env).bind fun c=>.ok (!c)
theorem lU {K:Frag}{G:Hp}{ds:List D}{vs:List V}(r:zM K G ds vs):ds.isEmpty=vs.isEmpty:=by
 have:=r.length
 cases ds <;> cases vs <;> simp_all
section
variable {X:Cx}{G₀ H₀:Hp}{pos:Pos}{a b:Expr}{fa fb:FE}{ft fu:FT}{rest:List Expr}
theorem w8 (ha:DE X G₀ H₀ a fa)(he:∀whole,isTrue a X.env whole=(do let v ← whole;standAt a.pos;holding [v] (truthy v)):=by intro _;rfl):DT X G₀ H₀ a (oC fa) :=
 (WQ ha he).imp fun σ H Q q=>by
  obtain⟨env,G,c,I,e,k⟩:=q;obtain⟨x,e1,e⟩:=zv e
  refine uy I e1 fun v G' H' g l I' o=>⟨c,?_,k G' H' g l⟩
  unfold R0 at e;split at e
  ·rename_i hd;rw[hd]at o;cases e;rw[o.non];exact rfl
  ·rename_i b hd;rw[hd]at o;cases e;rw[o.bl];exact rfl
  ·rename_i i hd;rw[hd]at o;cases e;rw[o.int];exact rfl
  ·rename_i ds hd;rw[hd]at o;cases e;obtain⟨p,vs,rfl,h1,r1⟩:=v9.l I' o;exact .inl ⟨vs,xV.of h1,by rw[lU r1]⟩
  ·rename_i ds hd;rw[hd]at o;cases e;obtain⟨p,vs,rfl,h1,r1⟩:=v9.tup I' o;exact .inr (.inl ⟨vs,dF.of h1,by rw[lU r1]⟩)
  ·cases e
theorem ZN {f:FE}{K:Frag}{σ:St}{H:Hp}{Q:Bool→Hp→Prop}(q:tT K G₀ H₀ (z0 f) σ H Q):tE K G₀ H₀ f σ H fun x H'=>∃k,x=.bl k∧Q k H':=by
 obtain⟨env,G,c,I,e,k⟩:=q;obtain⟨x,e1,e⟩:=zv e;refine uy I e1 fun v G' H' g l I' o=>?_;split at e
 ·rename_i b hd;cases e;rw[hd]at o;exact⟨c,o.bl,k G' H' g l⟩
 ·cases e
theorem qO {op:CmpOp}{r:R2}{g:D→D→Out Val}(ho:oQ X (compareOp op) r)(hd:dO X.K r g)(ha:DE X G₀ H₀ a fa)(hb:DE X G₀ H₀ b fb)(hm:behindInMarks op b=false):DT X G₀ H₀ (.Compare a [op] [b] pos) (z0 (f2 g fa fb)) :=
 (UK ho ha hb hm).imp fun σ H Q q=>Tc hd σ H _ (ZN q)
theorem tp (ha:DE X G₀ H₀ a fa)(hb:DE X G₀ H₀ b fb):DT X G₀ H₀ (.Compare a [.Lt] [b] pos) (z0 (f2 mn fa fb)):=qO W5 pC ha hb (uZ _)
theorem p9 (ha:DE X G₀ H₀ a fa)(hb:DE X G₀ H₀ b fb):DT X G₀ H₀ (.Compare a [.Gt] [b] pos) (z0 (f2 bV fa fb)):=qO TZ pC ha hb (uZ _)
theorem gS (hu:X.A.units+20<cLine)(ha:DE X G₀ H₀ a fa)(hb:DE X G₀ H₀ b fb):DT X G₀ H₀ (.Compare a [.Eq] [b] pos) (z0 (f2 mq fa fb)):=qO (W7 hu) T4 ha hb (uZ _)
theorem lX (hu:X.A.units+20<cLine)(ha:DE X G₀ H₀ a fa)(hb:DE X G₀ H₀ b fb):DT X G₀ H₀ (.Compare a [.NotEq] [b] pos) (z0 (f2 lW fa fb)):=qO (W4 hu) T3 ha hb (uZ _)
theorem QM (hu:X.A.units+20<cLine)(ha:DE X G₀ H₀ a fa)(hb:DE X G₀ H₀ b fb)(hm:behindInMarks .In b=false:=by with_unfolding_all rfl):DT X G₀ H₀ (.Compare a [.In] [b] pos) (z0 (f2 X9 fa fb)):=qO (SY hu) Qx ha hb hm
theorem Rt (hu:X.A.units+20<cLine)(ha:DE X G₀ H₀ a fa)(hb:DE X G₀ H₀ b fb)(hm:behindInMarks .NotIn b=false:=by with_unfolding_all rfl):DT X G₀ H₀ (.Compare a [.NotIn] [b] pos) (z0 (f2 XB fa fb)):=qO (UU hu) S4 ha hb hm
theorem Ru (ha:DE X G₀ H₀ a fa)(hb:DE X G₀ H₀ b fb):DT X G₀ H₀ (.Compare a [.Is] [b] pos) (z0 (f2 XE fa fb)):=qO SX S5 ha hb (uZ _)
theorem Yx (ha:DE X G₀ H₀ a fa)(hb:DE X G₀ H₀ b fb):DT X G₀ H₀ (.Compare a [.IsNot] [b] pos) (z0 (f2 qo fa fb)):=qO Z_ Ya ha hb (uZ _)
theorem uO (ha:DT X G₀ H₀ a ft):DW X G₀ H₀ (.BoolOp .And [a] pos) ft:=UH ha
theorem m_ (ha:DT X G₀ H₀ a ft):DW X G₀ H₀ (.BoolOp .Or [a] pos) ft:=SB ha
theorem rR (ha:DT X G₀ H₀ a ft)(hb:DW X G₀ H₀ (.BoolOp .And (b::rest) pos) fu):DW X G₀ H₀ (.BoolOp .And (a::b::rest) pos) (rf ft fu) :=
 (SC ha hb).imp fun σ H Q q=>by
  obtain⟨env,G,c,I,e,k⟩:=q;obtain⟨x,e1,e⟩:=zv e;refine⟨env,G,x,I,e1,fun G' H' g l=>?_⟩
  cases x with
  |true=>exact⟨env,G',c,I.grow g l,e,fun G2 H2 g2 l2=>k G2 H2 (g.trans g2) l2⟩
  |false=>cases e;exact k G' H' g l
theorem gR (ha:DT X G₀ H₀ a ft)(hb:DW X G₀ H₀ (.BoolOp .Or (b::rest) pos) fu):DW X G₀ H₀ (.BoolOp .Or (a::b::rest) pos) (XI ft fu) :=
 (Ql ha hb).imp fun σ H Q q=>by
  obtain⟨env,G,c,I,e,k⟩:=q;obtain⟨x,e1,e⟩:=zv e;refine⟨env,G,x,I,e1,fun G' H' g l=>?_⟩
  cases x with
  |true=>cases e;exact k G' H' g l
  |false=>exact⟨env,G',c,I.grow g l,e,fun G2 H2 g2 l2=>k G2 H2 (g.trans g2) l2⟩
theorem oG (h:DW X G₀ H₀ a ft):DT X G₀ H₀ a ft:=PW.pt h
theorem eX (ha:DT X G₀ H₀ a ft):DT X G₀ H₀ (.UnaryOp .Not a pos) (bf ft):=(SG ha).imp fun σ H Q q=>by
 obtain⟨env,G,c,I,e,k⟩:=q;obtain⟨x,e1,e⟩:=zv e;cases e;exact⟨env,G,x,I,e1,fun G' H' g l=>k G' H' g l⟩
@[simp] noncomputable def gP (f g:FE):FE:=fun env=>(f env).bind fun x=>match x.d with
  | .bl true=>g env
  | .bl false=>.ok (.p (.bl false))
  |_=>.bad
theorem Zf {op}(h:DE X G₀ H₀ a fa):DE X G₀ H₀ (.BoolOp op [a] pos) fa:=SL h
theorem e_ (ha:DE X G₀ H₀ a fa)(hb:DE X G₀ H₀ (.BoolOp .And (b::rest) pos) fb):DE X G₀ H₀ (.BoolOp .And (a::b::rest) pos) (gP fa fb) :=
 (SO ha hb).imp fun σ H Q q=>by
  obtain⟨env,G,val,I,e,k⟩:=q;obtain⟨x,e1,e⟩:=zv e;refine uy I e1 fun v G' H' g l I' o=>?_;split at e
  ·rename_i hd;rw[hd]at o;exact⟨true,o.bl,U_ ⟨env,G',val,I',e,fun w G2 H2 g2 l2 h2=>k w G2 H2 (g.trans g2) l2 (h2.base g.h)⟩⟩
  ·rename_i hd;rw[hd]at o;cases e;exact⟨false,o.bl,Ta (k _ G' H' g l rfl)⟩
  ·cases e
@[simp] noncomputable def Pz (ft:FT)(fa fb:FE):FE:=fun env=>(ft env).bind fun c=>if c=true then fa env else fb env
theorem T8 {c:Expr}(hc:DT X G₀ H₀ c ft)(ha:DE X G₀ H₀ a fa)(hb:DE X G₀ H₀ b fb):DE X G₀ H₀ (.IfExp c a b pos) (Pz ft fa fb) :=
 (W1 hc ha hb).imp fun σ H Q q=>by
  obtain⟨env,G,val,I,e,k⟩:=q;obtain⟨x,e1,e⟩:=zv e;refine⟨env,G,x,I,e1,fun G' H' g l=>?_⟩
  cases x with
  |true=>exact U_ ⟨env,G',val,I.grow g l,e,fun w G2 H2 g2 l2 h2=>k w G2 H2 (g.trans g2) l2 (h2.base g.h)⟩
  |false=>exact Ta ⟨env,G',val,I.grow g l,e,fun w G2 H2 g2 l2 h2=>k w G2 H2 (g.trans g2) l2 (h2.base g.h)⟩
@[simp] noncomputable def QK (g g':D→D→Out Val) (fa fb fc:FE):FE:=fun env=>(fa env).bind fun x=>(fb env).bind fun y=>(g x.d y.d).bind fun z=>match z.d with
  | .bl true=>(fc env).bind fun w=>g' y.d w.d
  | .bl false=>.ok (.p (.bl false))
  |_=>.bad
theorem Rh {c:Expr}{fc:FE}{r r':R2}{g g':D→D→Out Val}(hd:dO X.K r g)(hd':dO X.K r' g')(σ:St)(H:Hp)(Q:VK)(q:tE X.K G₀ H₀ (QK g g' fa fb fc) σ H Q) :
 Wu r r' (tE X.K G₀ H₀ fa) (tE X.K G₀ H₀ fb) (tE X.K G₀ H₀ fc) σ H Q:=by
 obtain⟨env,G,val,I,e,k⟩:=q;obtain⟨x,e1,e⟩:=zv e;obtain⟨y,e2,e⟩:=zv e;obtain⟨z,e3,e⟩:=zv e;refine b_ I e1 e2 fun v u G1 H1 g1 l1 I1 o1 o2=>hd G₀ H₀ env σ G1 H1 v u _ _ z _ I1 o1 o2 e3 fun w G2 H2 g2 l2 h2=>?_;obtain⟨G3,g3,l3,o3⟩:=opd g2 l2 h2;split at e
 ·rename_i hz;rw[hz]at o3;obtain⟨w',e4,e⟩:=zv e;refine⟨true,o3.bl,U_ (uy (I1.grow g3 l3) e4 fun t G4 H4 g4 l4 I4 o4=>hd' G₀ H₀ env σ G4 H4 u t _ _ val Q I4 ((o2.mono g3.g).mono g4.g) o4 e fun s G5 H5 g5 l5 h5=>?_)⟩;have g04:=(g1.trans g3).trans g4;exact k s G5 H5 (g04.trans g5) l5 (h5.base g04.h)
 ·rename_i hz;rw[hz]at o3;cases e;exact⟨false,o3.bl,Ta (k _ G3 H2 (g1.trans g3) l3 rfl)⟩
 ·cases e
theorem Yy {c:Expr}{fc:FE}(ha:DE X G₀ H₀ a fa)(hb:DE X G₀ H₀ b fb)(hc:DE X G₀ H₀ c fc)(hm:lastMarks [.Lt,.Lt] [b,c]=false:=by with_unfolding_all rfl):DT X G₀ H₀ (.Compare a [.Lt,.Lt] [b,c] pos) (z0 (QK mn mn fa fb fc)) :=
 (WR W5 W5 ha hb hc hm).imp fun σ H Q q=>Rh (c:=c) pC pC σ H _ (ZN q)
end
theorem vf {α:Type}{l:List α}{i:Nat}{x s:α}(h:(l.set i x)[i]?=some s):s=x∧i<l.length:=by
 rw[sbR]at h;simp at h;exact⟨h.2.symm,h.1⟩
section
variable {K:Frag}{G₀ H₀ G H:Hp}{env:Ev}{σ:St}
theorem DI.setP (I:DI K G₀ H₀ env σ G H){d:D}{v:V}(i:Nat)(r:kb K G d v):DI K G₀ H₀ (env.set i (.p d)) (σ.set i (some v)) G H where
 le:=I.le
 gr:=I.gr
 len:=by simp[I.len]
 slot:=fun j s e=>by
  by_cases hj:i=j
  ·subst hj;obtain⟨rfl,hl⟩:=vf e;exact⟨v,by rw[sbR];simp[I.len ▸ hl],r⟩
  ·rw[sas hj]at e;have q:=I.slot j s e
   cases s with
   |un=>trivial
   |p d'=>obtain⟨u,h1,h2⟩:=q;exact⟨u,by rw[sas hj];exact h1,h2⟩
   |own ds=>obtain⟨a,vs,o⟩:=q;exact⟨a,vs,by rw[sas hj];exact o.at_,o.hp,o.gn,o.new,o.rep⟩
 apart:=fun j k ds es a hjk e1 e2 s1 s2=>by
  have nj:i≠j:=fun z=>by subst z;cases(vf e1).1
  have nk:i≠k:=fun z=>by subst z;cases(vf e2).1
  rw[sas nj]at e1 s1;rw[sas nk]at e2 s2;exact I.apart j k ds es a hjk e1 e2 s1 s2
theorem DI.setO (I:DI K G₀ H₀ env σ G H){ds:List D}{vs:List V}{a:Addr}(i:Nat)(ha:H a=some (.l vs))(hg:G a=none)(h0:H₀ a=none)(r:zM K G ds vs)
 (ne:∀(j:Nat) (es:List D),env[j]?=some (.own es)→σ[j]?≠some (some (.ref a))):DI K G₀ H₀ (env.set i (.own ds)) (σ.set i (some (.ref a))) G H where
 le:=I.le
 gr:=I.gr
 len:=by simp[I.len]
 slot:=fun j s e=>by
  by_cases hj:i=j
  ·subst hj;obtain⟨rfl,hl⟩:=vf e;exact⟨a,vs,by rw[sbR];simp[I.len ▸ hl],ha,hg,h0,r⟩
  ·rw[sas hj]at e;have q:=I.slot j s e
   cases s with
   |un=>trivial
   |p d'=>obtain⟨u,h1,h2⟩:=q;exact⟨u,by rw[sas hj];exact h1,h2⟩
   |own ds=>obtain⟨a,vs,o⟩:=q;exact⟨a,vs,by rw[sas hj];exact o.at_,o.hp,o.gn,o.new,o.rep⟩
 apart:=fun j k ds' es b hjk e1 e2 s1 s2=>by
  by_cases hj:i=j
  ·subst hj;have hl:=(vf e1).2;rw[sbR]at s1;simp[I.len ▸ hl]at s1;subst s1;rw[sas hjk]at e2 s2;exact ne k es e2 s2
  ·by_cases hk:i=k
   ·subst hk;have hl:=(vf e2).2;rw[sbR]at s2;simp[I.len ▸ hl]at s2;subst s2;rw[sas hj]at e1 s1;exact ne j ds' e1 s1
   ·rw[sas hj]at e1 s1;rw[sas hk]at e2 s2;exact I.apart j k ds' es b hjk e1 e2 s1 s2
theorem DI.mut (I:DI K G₀ H₀ env σ G H){i:Nat}{ds ds':List D}{a:Addr}{vs vs':List V}(e:env[i]?=some (.own ds))(o:SlotOwn K H₀ σ G H i ds a vs)(r:zM K G ds' vs') :
 DI K G₀ H₀ (env.set i (.own ds')) σ G (yW H a (.l vs')) where
 le:=fun b u q=>by rw[zB (zF q o.gn)];exact I.le b u q
 gr:=⟨I.gr.g,fun b u q=>by rw[zB (zF q o.new)];exact I.gr.h b u q,I.gr.n⟩
 len:=by simp[I.len]
 slot:=fun j s e'=>by
  by_cases hj:i=j
  ·subst hj;obtain⟨rfl,hl⟩:=vf e';exact⟨a,vs',o.at_,zU,o.gn,o.new,r⟩
  ·rw[sas hj]at e';have q:=I.slot j s e'
   cases s with
   |un=>trivial
   |p d'=>exact q
   | own es=>
     obtain⟨b,us,p⟩:=q;have hb:b≠a:=fun z=>by subst z;exact I.apart i j ds es b hj e e' o.at_ p.at_
     exact⟨b,us,p.at_,by rw[zB hb];exact p.hp,p.gn,p.new,p.rep⟩
 apart:=fun j k ds' es b hjk e1 e2 s1 s2=>by
  have h1:∃ds1,env[j]?=some (.own ds1):=by
   by_cases hj:i=j
   ·subst hj;exact⟨_,e⟩
   ·rw[sas hj]at e1;exact⟨_,e1⟩
  have h2:∃ds1,env[k]?=some (.own ds1):=by
   by_cases hk:i=k
   ·subst hk;exact⟨_,e⟩
   ·rw[sas hk]at e2;exact⟨_,e2⟩
  obtain⟨x1,h1⟩:=h1;obtain⟨x2,h2⟩:=h2;exact I.apart j k x1 x2 b hjk h1 h2 s1 s2
end
theorem YN.mono {K:Frag}{G₀ H₀ G G':Hp}{D:Ends}{r:Res}(h:YN K G₀ H₀ G D r)(s:zV G G'):YN K G₀ H₀ G' D r:=by
 cases r with
 |next env=>exact fun σ' G2 H2 s2 I2=>h σ' G2 H2 (s.trans s2) I2
 |ret v=>exact h
@[simp] noncomputable def zS (i:Nat) (fz:Bool) (f:FE):FS:=fun env=>(f env).bind fun x=>match x with
  | .p d=>.ok (.next (env.set i (.p d)))
  | .fresh ds=>.ok (.next (env.set i (if fz then .p (.l ds)else .own ds)))
  | .brw _ _=>.bad
section
variable {K:Frag}{G₀ H₀:Hp}
theorem i0 {i:Nat}{fz:Bool}{f:FE}{D:Ends}{σ:St}{H:Hp}(q:tS K G₀ H₀ (zS i fz f) D σ H):tE K G₀ H₀ f σ H fun x H1=>D.nx (σ.set i (some x)) H1:=by
 obtain⟨env,G,r,I,e,k⟩:=q;obtain⟨x,e1,e⟩:=zv e;refine⟨env,G,x,I,e1,fun v G' H' g l h=>?_⟩;have I':=I.grow g l
 cases x with
 | p d=>
   cases e;exact k _ G' H' g.g (I'.setP i h)
 |brw j ds=>cases e
 | fresh ds=>
   cases e
   cases fz with
   | true=>
     obtain⟨G2,g2,l2,h2⟩:=m5 g l h rfl;exact k _ G2 H' g2.g ((I.grow g2 l2).setP i h2)
   | false=>
     obtain⟨a,vs,rfl,h1,h2,h3,h4⟩:=h;refine k _ G' H' g.g (I'.setO i h2 h3 (I.gr.h.free h1) h4 fun j es e2 s2=>?_);obtain⟨b,us,o⟩:=I.own e2;have z:=o.at_;rw[s2]at z;cases z;have z:=o.hp;rw[h1]at z;cases z
end
section
variable {X:Cx}{G₀ H₀:Hp}{pos:Pos}
theorem zG {i:Nat}{x:Str}{e:Expr}{f:FE}{pos':Pos}(fz:Bool)(hN:X.N.Nodup)(he:DE X G₀ H₀ e f)(hi:X.N[i]?=some x:=by rfl)(hx:Se X.env.scope x:=by first|exact Or.inl rfl|exact Or.inr rfl)
 (hs:swapsWith e (some (.Name x pos')) pos.line X.env=pure false:=by rfl) (hf:X.fn x=true∨X.env.scope.names.lookup x=some .local:=by first|exact .inl rfl|exact .inr rfl) :
 DS X G₀ H₀ (.Assign [.Name x pos'] e pos) (zS i fz f):=(WT hN hi hx he hs hf).imp fun D σ H q=>i0 q
end
noncomputable def tG (K:Frag)(G₀ H₀:Hp)(g:D→Ev→Out Ev):TG:=fun v σ H Q=>∃env G d env',DI K G₀ H₀ env σ G H∧kb K G d v∧g d env=.ok env'∧∀σ',DI K G₀ H₀ env' σ' G H→Q σ' H
@[simp] noncomputable def setAll:List Nat→List D→Ev→Ev
  |i::is,d::ds,env=>setAll is ds (env.set i (.p d))
  |_,_,env=>env
noncomputable def Of (K:Frag)(G₀ H₀:Hp)(is:List Nat):Sb:=fun vs σ H Q=>∃env G ds,DI K G₀ H₀ env σ G H∧zM K G ds vs∧ds.length=is.length∧∀σ',DI K G₀ H₀ (setAll is ds env) σ' G H→Q σ' H
noncomputable def DG (X:Cx)(G₀ H₀:Hp)(tg:Expr)(g:D→Ev→Out Ev):Prop:=PG X tg (tG X.K G₀ H₀ g)
noncomputable def Pk (X:Cx)(G₀ H₀:Hp)(ts:List Expr)(is:List Nat):Prop:=Q1 X ts (Of X.K G₀ H₀ is)
@[simp] noncomputable def gN (i:Nat):D→Ev→Out Ev:=fun d env=>.ok (env.set i (.p d))
@[simp] noncomputable def gT (is:List Nat):D→Ev→Out Ev:=fun d env=>match d with
  | .tup ds=>if ds.length=is.length then .ok (setAll is ds env)else .bad
  |_=>.bad
section
variable {X:Cx}{G₀ H₀:Hp}{pos:Pos}
theorem yQ {i:Nat}{x:Str}(hN:X.N.Nodup)(hi:X.N[i]?=some x:=by rfl)(hx:Se X.env.scope x:=by first|exact Or.inl rfl|exact Or.inr rfl)(hf:X.fn x=true∨X.env.scope.names.lookup x=some .local:=by first|exact .inl rfl|exact .inr rfl) :
 DG X G₀ H₀ (.Name x pos) (gN i):=fun pins s σ H v u Q I r q=>kE hN hi hx hf pins s σ H v u Q I r (by
 obtain⟨env,G,d,env',J,h,e,k⟩:=q;cases e
 exact k _ (J.setP i h))
theorem uQ:Pk X G₀ H₀ [] []:=fun pins s σ H vs us Q I r q=>Z7 pins s σ H vs us Q I r (by
 obtain⟨env,G,ds,J,h,e,k⟩:=q
 cases ds with
 |nil=>cases(show vs=[]from h);exact⟨rfl,k σ J⟩
 |cons d ds=>cases e)
theorem ym {i:Nat}{x:Str}{es:List Expr}{is:List Nat}(hN:X.N.Nodup)(hr:Pk X G₀ H₀ es is)(hi:X.N[i]?=some x:=by rfl)(hx:Se X.env.scope x:=by first|exact Or.inl rfl|exact Or.inr rfl)(hf:X.fn x=true∨X.env.scope.names.lookup x=some .local:=by first|exact .inl rfl|exact .inr rfl)
 (hs:(assignEach (.Name x pos::es) X.env).map (·.2)=assign (.Name x pos) X.env::(assignEach es X.env).map (·.2):=by rfl) :
 Pk X G₀ H₀ (.Name x pos::es) (i::is):=fun pins s σ H vs us Q I r q=>jz (kE hN hi hx hf) hr hs pins s σ H vs us Q I r (by
 obtain⟨env,G,ds,J,h,e,k⟩:=q
 cases ds with
 |nil=>cases e
 | cons d ds=>
   obtain⟨v,vr,rfl,h1,h2⟩:=h
   exact⟨v,vr,rfl,env.set i (.p d),G,ds,J.setP i h1,h2,by simpa using e,k⟩)
theorem rS {es:List Expr}{k:Nat}{is:List Nat}(hc:X.calm=true)(h:Pk X G₀ H₀ es is)(hn:(assignEach es X.env).length=is.length:=by rfl)(hst:(assignEach es X.env).findIdx? (·.1)=none:=by rfl) :
 DG X G₀ H₀ (.Tuple es k pos) (gT is):=fun pins s σ H v u Q I r q=>WY hc h hn hst pins s σ H v u Q I r (by
 obtain⟨env,G,d,env',J,h,e,k⟩:=q;unfold gT at e;split at e
 ·rename_i ds;split at e
  ·rename_i hl;cases e;obtain⟨a,vs,e1,h1,r1⟩:=h;exact⟨a,vs,e1,dF.of (J.le _ _ h1),by rw[←r1.length];exact hl,env,G,ds,J,r1,hl,k⟩
  ·cases e
 ·cases e)
@[simp] noncomputable def QW (g:D→Ev→Out Ev)(f:FE):FS:=fun env=>(f env).bind fun x=>x.hold.bind fun d=>(g d env).bind fun env'=>.ok (.next env')
theorem Rw {tg e:Expr}{f:FE}{g:D→Ev→Out Ev}(he:DE X G₀ H₀ e f)(hg:DG X G₀ H₀ tg g)(hs:swapsWithSole [tg] e pos.line X.env=pure false:=by rfl)(hw:swappedStores [tg] e X.env=pure none:=by rfl)
 (h1:(assignEach [tg] X.env).map (·.2)=[assign tg X.env]:=by rfl):DS X G₀ H₀ (.Assign [tg] e pos) (QW g f):=(SH he hg hs hw h1).imp fun D σ H q=>by
 obtain⟨env,G,r,I,e,k⟩:=q;obtain⟨x,e1,e⟩:=zv e;obtain⟨d,e2,e⟩:=zv e;obtain⟨env',e3,e⟩:=zv e;cases e;refine⟨env,G,x,I,e1,fun v G' H' g l h=>?_⟩;obtain⟨G2,g2,l2,h2⟩:=m5 g l h e2;exact⟨env,G2,d,env',I.grow g2 l2,h2,e3,fun σ' I'=>k σ' G2 H' g2.g I'⟩
end
@[simp] noncomputable def Tq (f:FE):FS:=fun env=>(f env).bind fun _=>.ok (.next env)
@[simp] noncomputable def yu (f:FE):FS:=fun env=>(f env).bind fun x=>match x with
  | .brw _ ds=>.ok (.ret (.fresh ds))
  |x=>.ok (.ret x)
@[simp] noncomputable def wo:FS:=fun env=>.ok (.next env)
@[simp] noncomputable def wc (ft:FT)(f g:FS):FS:=fun env=>(ft env).bind fun c=>if c=true then f env else g env
@[simp] noncomputable def zJ (f g:FS):FS:=fun env=>(f env).bind fun r=>match r with
  | .next env'=>g env'
  | .ret v=>.ok (.ret v)
section
variable {X:Cx}{G₀ H₀:Hp}{pos:Pos}
theorem eY {e:Expr}{f:FE}(he:DE X G₀ H₀ e f)(hs:swapsWith e none pos.line X.env=pure false:=by rfl):DS X G₀ H₀ (.Expr e pos) (Tq f):=(pA he hs).imp fun D σ H q=>by
 obtain⟨env,G,r,I,e,k⟩:=q;obtain⟨x,e1,e⟩:=zv e;cases e;exact⟨env,G,x,I,e1,fun v G' H' g l h=>k σ G' H' g.g (I.grow g l)⟩
theorem zY {e:Expr}{f:FE}(he:DE X G₀ H₀ e f):DS X G₀ H₀ (.Return (some e) pos) (yu f):=(WU he).imp fun D σ H q=>by
 obtain⟨env,G,r,I,e,k⟩:=q;obtain⟨x,e1,e⟩:=zv e;refine⟨env,G,x,I,e1,fun v G' H' g l h=>?_⟩
 cases x with
 |p d=>cases e;exact k v G' H' (I.gr.trans g) l h
 | fresh ds=>
   cases e;obtain⟨a,vs,rfl,h1,h2⟩:=h;exact k _ G' H' (I.gr.trans g) l ⟨a,vs,rfl,I.gr.h.free h1,h2⟩
 | brw i ds=>
   cases e;obtain⟨a,rfl,e2,e3⟩:=h;obtain⟨b,vs,o⟩:=(I.grow g l).own e2;have z:=o.at_;rw[e3]at z;cases z;exact k _ G' H' (I.gr.trans g) l ⟨a,vs,rfl,o.new,o.hp,o.gn,o.rep⟩
theorem y0 {c:Expr}{a b:List Stmt}{ft:FT}{f g:FS}(hc:DT X G₀ H₀ c ft)(ha:Uj X G₀ H₀ a f)(hb:Uj X G₀ H₀ b g):DS X G₀ H₀ (.If c a b pos) (wc ft f g):=(Qm hc ha hb).imp fun D σ H q=>by
 obtain⟨env,G,r,I,e,k⟩:=q;obtain⟨x,e1,e⟩:=zv e;refine⟨env,G,x,I,e1,fun G' H' g l=>?_⟩
 cases x with
 |true=>exact U_ ⟨env,G',r,I.grow g l,e,k.mono g.g⟩
 |false=>exact Ta ⟨env,G',r,I.grow g l,e,k.mono g.g⟩
theorem yb:Uj X G₀ H₀ [] wo:=UL.imp fun D σ H q=>by
 obtain⟨env,G,r,I,e,k⟩:=q;cases e;exact k σ G H (zV.refl _) I
theorem zl {st:Stmt}{rest:List Stmt}{f g:FS}(h1:DS X G₀ H₀ st f)(h2:Uj X G₀ H₀ rest g):Uj X G₀ H₀ (st::rest) (zJ f g):=(jw h1 h2).imp fun D σ H q=>by
 obtain⟨env,G,r,I,e,k⟩:=q;obtain⟨x,e1,e⟩:=zv e;refine⟨env,G,x,I,e1,?_⟩
 cases x with
 |next env'=>exact fun σ' G' H' s I'=>⟨env',G',r,I',e,k.mono s⟩
 |ret v=>cases e;exact k
theorem zu {st:Stmt}{f:FS}(h1:DS X G₀ H₀ st f):Uj X G₀ H₀ [st] f:=fT h1
theorem rk {st:Stmt}:DS X G₀ H₀ st (fun _=>.bad):=fun pins s σ H D I q=>by
 obtain⟨env,G,r,I,e,k⟩:=q;cases e
end
@[simp] noncomputable def qv (i:Nat) (f:FE):FS:=fun env=>match env[i]? with
  |some (.own ds)=>if ds.length<100000 then(f env).bind fun x=>x.hold.bind fun d=>.ok (.next (env.set i (.own (ds++[d]))))else .bad
  |_=>.bad
@[simp] noncomputable def WW (i:Nat):FS:=fun env=>match env[i]? with
  |some (.own ds)=>if ds.length=0 then .bad else .ok (.next (env.set i (.own ds.dropLast)))
  |_=>.bad
@[simp] noncomputable def Zc (i:Nat) (f:FE):FS:=fun env=>match env[i]? with
  | some (.own ds)=>(f env).bind fun x=>match x with
    | .p (.l es)=>if ds.length+es.length≤100000 then .ok (.next (env.set i (.own (ds++es))))else .bad
    | .fresh es=>if ds.length+es.length≤100000 then .ok (.next (env.set i (.own (ds++es))))else .bad
    |_=>.bad
  |_=>.bad
@[simp] noncomputable def Oh (i:Nat) (fk f:FE):FS:=fun env=>match env[i]? with
  | some (.own ds)=>(f env).bind fun x=>x.hold.bind fun d=>(fk env).bind fun y=>match y.d with
    | .int k=>match U9 ds.length k with
      |some j=>.ok (.next (env.set i (.own (ds.set j d))))
      |none=>.bad
    |_=>.bad
  |_=>.bad
section
variable {X:Cx}{G₀ H₀:Hp}{pos p1 apos cpos:Pos}{i:Nat}{x:Str}{e:Expr}{f:FE}
theorem wN (hv:PE X (.Name x p1) (qB i))(he:DE X G₀ H₀ e f)(hfew:((backTo cpos (starEach [e] X.env)).all (fun x=> !x.1)&&(backToKw cpos (keywordEach [] X.env)).all (fun x=>x.1.isSome)
 && decide ([e].length+([]:List Keyword).length+(if([]:List Keyword).isEmpty then 0 else 1)<30))=true:=by rfl)
 (hline:(apos.endLine == cpos.line)=true:=by rfl) (hs:starEach [e] X.env=[(false,eval e X.env)]:=by rfl) :
 DS X G₀ H₀ (.Expr (.Call (.Attribute (.Name x p1) "append" apos) [e] [] cpos) pos) (qv i f) :=
 (pA (cB sbM PySem.F.slot_list_append PySem.F.type_list_append pE hv (yP he x4 hs) rfl hfew hline hs rfl) rfl).imp fun D σ H q=>by
  obtain⟨env,G,r,I,e,k⟩:=q;unfold qv at e;split at e
  ·rename_i ds hd;split at e
   ·rename_i hz;obtain⟨y,e1,e⟩:=zv e;obtain⟨d,e2,e⟩:=zv e;cases e;obtain⟨a,vs,o⟩:=I.own hd;refine⟨.ref a,o.at_,.inl ⟨rfl,vs,xV.of o.hp⟩,env,G,y,I,e1,fun v G' H' g l h=>?_⟩;obtain⟨G2,g2,l2,h2⟩:=m5 g l h e2;have I2:=I.grow g2 l2;obtain⟨b,us,o2⟩:=I2.own hd;have z:=o2.at_;rw[o.at_]at z;cases z;exact⟨a,us,v,rfl,rfl,o2.hp,by rw[←o2.rep.length,sizeLine_eq];lia,k σ G2 _ g2.g (I2.mut hd o2 (o2.rep.append (zM.cons h2 zM.nil)))⟩
   ·cases e
  ·cases e
theorem Rv (hv:PE X (.Name x p1) (qB i))(hline:(apos.endLine == cpos.line)=true:=by rfl) :
 DS X G₀ H₀ (.Expr (.Call (.Attribute (.Name x p1) "pop" apos) [] [] cpos) pos) (WW i) :=
 (pA (aB sbM PySem.F.slot_list_pop PySem.F.type_list_pop Vg hv rfl hline) rfl).imp fun D σ H q=>by
  obtain⟨env,G,r,I,e,k⟩:=q;unfold WW at e;split at e
  ·rename_i ds hd;split at e
   ·cases e
   ·rename_i hz;cases e;obtain⟨a,vs,o⟩:=I.own hd;have hl:=o.rep.length;have hv2:vs[vs.length - 1]?=some (vs[vs.length - 1]'(by lia)):=sad (by lia);exact⟨.ref a,o.at_,.inl ⟨rfl,vs,xV.of o.hp⟩,a,vs,_,rfl,rfl,o.hp,hv2,k σ G _ (zV.refl _) (I.mut hd o o.rep.dropLast)⟩
  ·cases e
theorem lh (hv:PE X (.Name x p1) (qB i))(he:DE X G₀ H₀ e f)(hfew:((backTo cpos (starEach [e] X.env)).all (fun x=> !x.1)&&(backToKw cpos (keywordEach [] X.env)).all (fun x=>x.1.isSome)
 && decide ([e].length+([]:List Keyword).length+(if([]:List Keyword).isEmpty then 0 else 1)<30))=true:=by rfl)
 (hline:(apos.endLine == cpos.line)=true:=by rfl) (hs:starEach [e] X.env=[(false,eval e X.env)]:=by rfl) :
 DS X G₀ H₀ (.Expr (.Call (.Attribute (.Name x p1) "extend" apos) [e] [] cpos) pos) (Zc i f) :=
 (pA (cB sbM PySem.F.slot_list_extend PySem.F.type_list_extend Xo hv (yP he x4 hs) rfl hfew hline hs rfl) rfl).imp fun D σ H q=>by
  obtain⟨env,G,r,I,e,k⟩:=q
  have main:∀ds es y,env[i]?=some (.own ds)→f env=.ok y→y.hold=.ok (.l es)→ds.length+es.length≤100000→r=.next (env.set i (.own (ds++es))) →
   ZO (R3 X.K "list" Z4 (qB i) (pY (tE X.K G₀ H₀ f) iB)) D σ H:=by
   intro ds es y hd e1 e2 hz hr;subst hr;obtain⟨a,vs,o⟩:=I.own hd;refine⟨.ref a,o.at_,.inl ⟨rfl,vs,xV.of o.hp⟩,env,G,y,I,e1,fun v G' H' g l h=>?_⟩;obtain⟨G2,g2,l2,h2⟩:=m5 g l h e2;have I2:=I.grow g2 l2;obtain⟨b,us,o2⟩:=I2.own hd;have z:=o2.at_;rw[o.at_]at z;cases z;obtain⟨c,ws,rfl,h3,r3⟩:=h2;exact⟨a,c,us,ws,rfl,rfl,o2.hp,l2 _ _ h3,by rw[←o2.rep.length,←r3.length];exact kI hz,k σ G2 _ g2.g (I2.mut hd o2 (o2.rep.append r3))⟩
  unfold Zc at e;split at e
  ·rename_i ds hd;obtain⟨y,e1,e⟩:=zv e;split at e
   ·rename_i es;split at e
    ·rename_i hz;exact main ds es _ hd e1 rfl hz (by cases e;rfl)
    ·cases e
   ·rename_i es;split at e
    ·rename_i hz;exact main ds es _ hd e1 rfl hz (by cases e;rfl)
    ·cases e
   ·cases e
  ·cases e
end
structure JOk (K:Frag)(J:It)(G:Hp)(ds:List D):Prop where
 go:∀i G' H',zV G G'→zV G' H'→i<ds.length→J.go i H'
 stop:∀i G' H',zV G G'→zV G' H'→ds.length≤i→J.stop i H'
 yld:∀i G' H' x H1,zV G G'→zV G' H'→i<ds.length→J.yld i H' x H1→∃d G1,ds[i]?=some d∧Gw G' H' G1 H1∧zV G1 H1∧kb K G1 d x
noncomputable abbrev FI:=Ev→Out (List D)
noncomputable def tI (K:Frag)(G₀ H₀:Hp)(f:FI):TI:=fun σ H R=>∃env G ds,DI K G₀ H₀ env σ G H∧f env=.ok ds∧∀J G' H',Gw G H G' H'→zV G' H'→JOk K J G' ds→R J H'
noncomputable def Sf (X:Cx)(G₀ H₀:Hp)(tg iter:Expr)(f:FI):Prop:=PI X tg iter (tI X.K G₀ H₀ f)
theorem _root_.L2.PI.imp {X:Cx}{tg e:Expr}{t t':TI}(h:PI X tg e t)(i:∀σ H Q,t' σ H Q→t σ H Q):PI X tg e t':=fun pins s σ H Q I q=>h pins s σ H Q I (i σ H Q q)
@[simp] noncomputable def xS (f:FE):FI:=fun env=>(f env).bind fun x=>x.hold.bind fun d=>match d with
  | .l ds=>.ok ds
  | .scr ns=>.ok (ns.map .int)
  |_=>.bad
noncomputable def sv (lo:Int)(n:Nat):List D:=(List.range n).map fun(i:Nat)=>.int (lo+i)
@[simp] noncomputable def qp (f:Ev→Out (List Val)):FI:=fun env=>(f env).bind fun xs=>match xs.map Val.d with
  |[.int j]=>if -1000000≤j∧j≤1000000 then .ok (sv 0 j.toNat)else .bad
  |_=>.bad
theorem cQ {K:Frag}{G:Hp}{a:Addr}{ds:List D}{vs:List V}(h:xV K G a vs)(r:zM K G ds vs):JOk K (PU K a) G ds where
 go:=fun i G' H' s l hi=>⟨vs,vs[i]'(by rw[←r.length];exact hi),l.seq (s.seq h),sad _⟩
 stop:=fun i G' H' s l hi=>⟨vs,l.seq (s.seq h),by rw[←r.length];exact hi⟩
 yld:=fun i G' H' x H1 s l hi y=>by
  obtain⟨e,y⟩:=y;subst e;have hx:=y vs (l.seq (s.seq h));obtain⟨d,h1,h2⟩:=r.get' hx;exact⟨d,G',h1,Gw.refl _ _,l,h2.mono s⟩
theorem Xu {K:Frag}{G:Hp}(lo:Int)(n:Nat):JOk K (Pg lo n) G (sv lo n) where
 go := fun i G' H' s l hi => by have h : i < n :=by simpa[sv]using hi
                                exact h
 stop := fun i G' H' s l hi => by have h : n ≤ i :=by simpa[sv]using hi
                                  exact h
 yld:=fun i G' H' x H1 s l hi y=>by
  obtain⟨e,y⟩:=y;subst e;have hi':i<n:=by simpa[sv]using hi
  exact⟨.int (lo+i),G',by simp[sv,hi'],Gw.refl _ _,l,y⟩
section
variable {X:Cx}{G₀ H₀:Hp}{tg:Expr}
theorem y8 {l:Expr}{f:FE}(h:DE X G₀ H₀ l f):Sf X G₀ H₀ tg l (xS f):=(Z6 h).imp fun σ H R q=>by
 obtain⟨env,G,ds,I,e,k⟩:=q;obtain⟨x,e1,e⟩:=zv e;obtain⟨d,e2,e⟩:=zv e;refine⟨env,G,x,I,e1,fun v G' H' g l h=>?_⟩;obtain⟨G2,g2,l2,h2⟩:=m5 g l h e2;split at e
 ·cases e;obtain⟨a,vs,rfl,h3,r3⟩:=h2;exact⟨a,rfl,⟨vs,xV.of (l2 _ _ h3)⟩,k _ G2 H' g2 l2 (cQ (xV.of h3) r3)⟩
 ·rename_i ns;cases e;obtain⟨a,rfl,h3⟩:=h2;exact⟨a,rfl,⟨_,l2.seq h3⟩,k _ G2 H' g2 l2 (cQ h3 (zM.ints ns))⟩
 ·cases e
theorem rm {a:Expr}{f:Ev→Out (List Val)}{p pos:Pos}(hm:X.mg "range" = none) (ha:DA X G₀ H₀ [a] f) (hg:Gl X "range" :=by rfl) (hs:starEach [a] X.env=[(false,eval a X.env)]:=by rfl) :
 Sf X G₀ H₀ tg (.Call (.Name "range" p) [a] [] pos) (qp f):=(Xe hg hm ha hs).imp fun σ H R q=>by
 obtain⟨env,G,ds,I,e,k⟩:=q;obtain⟨xs,e1,e⟩:=zv e;refine⟨env,G,xs,I,e1,fun vs G' H' g l h=>?_⟩;split at e
 ·rename_i j hj;split at e
  ·rename_i hb;cases e;obtain⟨v,rfl,o⟩:=mj h hj;exact⟨j,by rw[o.int],by lia,by lia,k _ G' H' g l (Xu 0 _)⟩
  ·cases e
 ·cases e
end
noncomputable def wu (g:D→Ev→Out Ev)(fb:FS):List D→Ev→Out Res
 |[],env=>.ok (.next env)
 | d::ds,env=>(g d env).bind fun env1=>(fb env1).bind fun r=>match r with
   | .next env2=>wu g fb ds env2
   | .ret v=>.ok (.ret v)
@[simp] noncomputable def vq (fi:FI)(g:D→Ev→Out Ev)(fb:FS):FS:=fun env=>(fi env).bind fun ds=>wu g fb ds env
noncomputable def qw (ft:FT)(fb:FS):Nat→Ev→Out Res
 | 0,_=>.bad
 | n+1,env=>(ft env).bind fun c=>if c=true then(fb env).bind fun r=>match r with
   | .next env2=>qw ft fb n env2
   | .ret v=>.ok (.ret v)
   else .ok (.next env)
section
variable {X:Cx}{G₀ H₀:Hp}{tg:Expr}{pos:Pos}
theorem w9 {iter:Expr}{body:List Stmt}{fi:FI}{g:D→Ev→Out Ev}{fb:FS}(hp:PassesOwn (model X.prog X.w) X.A X.env X.xe)(hi:Sf X G₀ H₀ tg iter fi)(hg:DG X G₀ H₀ tg g)(hb:Uj X G₀ H₀ body fb)(hc:X.calm=true:=by rfl)
 (hs:∀x,foldedSetIterable iter X.env x=pure x:=by intro _;rfl):DS X G₀ H₀ (.For tg iter body [] pos) (vq fi g fb):=(WV hp hc hi hg hb hs).imp fun D σ H q=>by
 obtain⟨env,G,r,I,e,k⟩:=q;obtain⟨ds,e1,e⟩:=zv e;refine⟨env,G,ds,I,e1,fun J G1 H1 g1 l1 jok=>?_⟩;refine⟨fun i m σ H=>m=ds.length - i∧i≤ds.length∧∃env' G',zV G1 G'∧DI X.K G₀ H₀ env' σ G' H∧wu g fb (ds.drop i) env'=.ok r,⟨ds.length,by simp,saX _,env,G1,zV.refl _,I.grow g1 l1,by simpa using e⟩,?_⟩;rintro i m σ' H' ⟨rfl,hi',env',G',s',I',e'⟩;by_cases hlt:i<ds.length
 ·have hd:ds.drop i=ds[i]::ds.drop (i+1):=sba hlt;rw[hd]at e';obtain⟨env1,e2,e'⟩:=zv e';obtain⟨r1,e3,e'⟩:=zv e';refine .inr ⟨jok.go i G' H' s' I'.le hlt,fun σ2 H2=>∃env2 G2,zV G1 G2∧DI X.K G₀ H₀ env2 σ2 G2 H2∧wu g fb (ds.drop (i+1)) env2=.ok r,fun σ2 H2 ⟨env2,G2,s2,I2,e2⟩=>⟨ds.length - (i+1),by lia,rfl,hlt,env2,G2,s2,I2,e2⟩,fun x H2 y=>?_⟩;obtain⟨d,G2,hd2,g2,l2,r2⟩:=jok.yld i G' H' x H2 s' I'.le hlt y;have hde:d=ds[i]:=by rw[sad hlt]at hd2;exact(saI hd2).symm
  subst hde;refine⟨env',G2,_,env1,I'.grow g2 l2,r2,e2,fun σ2 I2=>⟨env1,G2,r1,I2,e3,?_⟩⟩
  cases r1 with
  |next env2=>exact fun σ3 G3 H3 s3 I3=>⟨env2,G3,(s'.trans g2.g).trans s3,I3,e'⟩
  |ret v=>cases e';exact k
 ·have hi2:i=ds.length:=by lia
  subst hi2;rw[List.drop_length]at e';cases e';exact .inl ⟨jok.stop _ G' H' s' I'.le (Nat.le_refl _),k σ' G' H' (g1.g.trans s') I'⟩
theorem bz {c:Expr}{body:List Stmt}{ft:FT}{fb:FS}(n:Nat)(hp:PassesOwn (model X.prog X.w) X.A X.env X.xe)(hc:DT X G₀ H₀ c ft)(hb:Uj X G₀ H₀ body fb):DS X G₀ H₀ (.While c body [] pos) (qw ft fb n) :=
 (WS hp hc hb).imp fun D σ H q=>by
  obtain⟨env,G,r,I,e,k⟩:=q;refine⟨fun m σ H=>∃env' G',zV G G'∧DI X.K G₀ H₀ env' σ G' H∧qw ft fb m env'=.ok r,⟨n,env,G,zV.refl _,I,e⟩,?_⟩;rintro m σ' H' ⟨env',G',s',I',e'⟩
  cases m with
  |zero=>cases e'
  | succ m=>
    obtain⟨c',e1,e'⟩:=zv e';refine⟨env',G',c',I',e1,fun G2 H2 g2 l2=>?_⟩
    cases c' with
    | true=>
      rw[saf rfl]at e' ⊢;obtain⟨r1,e2,e'⟩:=zv e';refine⟨fun σ2 H2=>∃env' G',zV G G'∧DI X.K G₀ H₀ env' σ2 G' H2∧qw ft fb m env'=.ok r,fun σ3 H3 h3=>⟨m,Nat.lt_succ_self _,h3⟩,env',G2,r1,I'.grow g2 l2,e2,?_⟩
      cases r1 with
      |next env2=>exact fun σ3 G3 H3 s3 I3=>⟨env2,G3,(s'.trans g2.g).trans s3,I3,e'⟩
      |ret v=>cases e';exact k
    | false=>
      rw[sah sax]at e' ⊢;cases e';exact k σ' G2 H2 (s'.trans g2.g) (I'.grow g2 l2)
end
noncomputable def TV (K:Frag)(m:List D→Out Val)(n:Nat):Sp:=fun vs H Q _=>∃G ds val,ds.length=n∧zV G H∧zM K G ds vs∧m ds=.ok val ∧
 ∀v G' H',Gw G H G' H'→zV G' H'→si K H [] [] G' H' v val→Q v H'
@[simp] noncomputable def zP (n:Nat) (f:FS) (ds:List D):Out Val:=(f (ds.map Slot.p++List.replicate (n - ds.length) .un)).bind fun r=>match r with
  | .ret v=>.ok v
  | .next _=>.ok (.p .non)
theorem Ww {K:Frag}{G H:Hp}{ds:List D}{vs:List V}{N:List Str}(l:zV G H)(r:zM K G ds vs)(hl:ds.length≤N.length) :
 DI K G H (ds.map Slot.p++List.replicate (N.length - ds.length) .un) (L2.zH N vs) G H where
 le:=l
 gr:=Gw.refl _ _
 len:=by unfold L2.zH;simp[r.length]
 slot:=fun i s e=>by
  by_cases hi:i<ds.length
  ·rw[saZ (by simpa using hi),sav,sad hi]at e;cases e;obtain⟨v,h1,h2⟩:=r.get (sad hi);refine⟨v,?_,h2⟩;unfold L2.zH;rw[saZ (by simp[←r.length,hi]),sav,h1];rfl
  ·rw[sbx (by simpa using hi),sbK]at e;split at e
   ·cases e;trivial
   ·cases e
 apart:=fun i j es fs a _ e _ _ _=>by
  by_cases hi:i<ds.length
  ·rw[saZ (by simpa using hi),sav,sad hi]at e;cases e
  ·rw[sbx (by simpa using hi),sbK]at e
   split at e <;> cases e
theorem yK {P:Program}{w:World}{K:Frag}{mg:Str→Option Value}{base:Heap}{x qual:Str}{st:Stmt}{f:Addr}{fd:FuncData}{N ps:List Str}{k:Nat}{fb:FS}(F:Fun K x qual st f fd)(S:FS_ N ps (zD st))
 (hb:∀(cdv:Value) (A:Around) (outer:List Env) (s:Shared) (G H:Hp) (E:XK),Room k (A.deeper (envOfC qual (zD st) s.heap.objs.size f cdv)) →
  Uj (Zi Uk P w K mg base N qual (zD st) f cdv A outer s H E).nox G H (w4 st) fb):FnOk P w K mg base Uk (k+1) f fd ps (TV K (zP N.length fb) ps.length):=by
 have hpl:ps.length≤N.length:=by have:=congrArg List.length S.pre;rw[scp]at this;lia
 refine F.ok S (fun vs H Q E h=>?_) fun cdv A outer s H vs Q E hr h=>?_
 ·obtain⟨G,ds,val,hl,_,r,_⟩:=h;rw[←r.length];exact hl
 ·obtain⟨G,ds,val,hl,l,r,hm,k'⟩:=h;refine⟨_,hb cdv A outer s G H E hr,?_⟩;obtain⟨r',e1,e2⟩:=zv hm;refine⟨_,G,r',Ww l r (by lia),e1,?_⟩
  cases r' with
  |next env=>cases e2;exact fun σ' G' H' s' I'=>k' _ G' H' I'.gr I'.le rfl
  |ret v=>cases e2;exact fun v' G' H' g' l' h'=>k' v' G' H' g' l' h'
mutual
noncomputable def jC:D→Bool
 | .tup ds=>om ds
 | .l _=>false
 | .scr _=>false
 | .exc _ _=>false
 |_=>true
noncomputable def om:List D→Bool
 |[]=>true
 |d::ds=>jC d&&om ds
end
@[simp] noncomputable def Val.calm:Val→Bool
  | .p d=>jC d
  | .fresh ds=>om ds
  | .brw _ _=>false
@[simp] noncomputable def Val.isPers:Val→Bool
  | .p _=>true
  |_=>false
@[simp] noncomputable def QT (m:List D→Out Val)(xs:List Val):Out Val:=(m (xs.map Val.d)).bind fun v=>if(xs.all Val.isPers ||v.calm)=true then .ok v else .bad
@[simp] noncomputable def zx (m:List D→Out Val)(r:Ev→Out (List Val)):FE:=fun env=>(r env).bind fun xs=>QT m xs
theorem YL {K:Frag}{env:Ev}{σ:St}{G:Hp}:∀{vs:List V} {xs:List Val},oU K env σ G vs xs→xs.all Val.isPers=true→zM K G (xs.map Val.d) vs
 |[],xs,h,_=>by cases(show xs=[]from h);rfl
 | v::vs,xs,h,hp=>by
   obtain⟨x,r,rfl,h1,h2⟩:=h;rw[List.all_cons,saS]at hp
   cases x with
   |p d=>exact zM.cons h1 (YL h2 hp.2)
   |fresh ds=>cases hp.1
   |brw i ds=>cases hp.1
noncomputable def sy (env:Ev)(σ:St)(b:Addr):Prop:=∃(i:Nat) (ds:List D),env[i]?=some (.own ds)∧σ[i]?=some (some (.ref b))
open Classical in
noncomputable def kf (env:Ev)(σ:St)(G H:Hp):Hp:=fun b=>if sy env σ b then H b else G b
open Classical in
noncomputable def sm (env:Ev)(σ:St)(G:Hp):Hp:=fun b=>if sy env σ b then none else G b
section
variable {K:Frag}{G₀ H₀ G H:Hp}{env:Ev}{σ:St}
theorem DI.lent (I:DI K G₀ H₀ env σ G H){b:Addr}(h:sy env σ b):G b=none∧∃vs,H b=some (.l vs):=by
 obtain⟨i,ds,e1,e2⟩:=h;obtain⟨a,vs,o⟩:=I.own e1;have z:=o.at_;rw[e2]at z;cases z;exact⟨o.gn,vs,o.hp⟩
theorem eC (I:DI K G₀ H₀ env σ G H):zV G (kf env σ G H):=fun b o q=>by
 unfold kf;by_cases h:sy env σ b
 ·rw[(I.lent h).1]at q;cases q
 ·rw[sah h];exact q
theorem U1 (I:DI K G₀ H₀ env σ G H):zV (kf env σ G H) H:=fun b o q=>by
 unfold kf at q;by_cases h:sy env σ b
 ·rw[saf h]at q;exact q
 ·rw[sah h]at q;exact I.le b o q
theorem gm (I:DI K G₀ H₀ env σ G H):∀{vs:List V} {xs:List Val},oU K env σ G vs xs→zM K (kf env σ G H) (xs.map Val.d) vs
 |[],xs,h=>by cases(show xs=[]from h);rfl
 | v::vs,xs,h=>by
   obtain⟨x,r,rfl,h1,h2⟩:=h;refine zM.cons ?_ (gm I h2)
   cases x with
   |p d=>exact kb.mono (eC I) h1
   |fresh ds=>exact h1.elim
   | brw i ds=>
     obtain⟨a,rfl,e1,e2⟩:=h1;obtain⟨b,us,o⟩:=I.own e1;have z:=o.at_;rw[e2]at z;cases z;exact⟨a,us,rfl,by unfold kf;rw[saf ⟨i,ds,e1,e2⟩];exact o.hp,o.rep.mono (eC I)⟩
mutual
theorem kU (I:DI K G₀ H₀ env σ G H){G':Hp}(s:zV (kf env σ G H) G'):∀{d:D} {v:V},jC d=true→kb K G' d v→kb K (sm env σ G') d v
 | .non,_,_,h=>h
 | .bl _,_,_,h=>h
 | .int _,_,_,h=>h
 | .tup ds,v,n,h=>by
   obtain⟨a,vs,e,g,r⟩:=h;refine⟨a,vs,e,?_,qA I s (by simpa[jC]using n) r⟩;unfold sm;by_cases hl:sy env σ a
   ·obtain⟨_,us,q⟩:=I.lent hl;have z:kf env σ G H a=some (.l us):=by unfold kf;rw[saf hl];exact q
    rw[s _ _ z]at g;cases g
   ·rw[sah hl];exact g
 | .l _,_,n,_=>by simp[jC]at n
 | .scr _,_,n,_=>by simp[jC]at n
 | .exc _ _,_,n,_=>by simp[jC]at n
theorem qA (I:DI K G₀ H₀ env σ G H){G':Hp}(s:zV (kf env σ G H) G'):∀{ds:List D} {vs:List V},om ds=true→zM K G' ds vs→zM K (sm env σ G') ds vs
 |[],_,_,h=>h
 | d::ds,vs,n,h=>by
   obtain⟨v,r,e,h1,h2⟩:=h;simp only[om,saS]at n;exact⟨v,r,e,kU I s n.1 h1,qA I s n.2 h2⟩
end
end
section
variable {X:Cx}{G₀ H₀:Hp}{k:Nat}{f:Addr}{fd:FuncData}{ps:List Str}{x:Str}{p pos:Pos}{e:Expr}{es:List Expr}{r:Ev→Out (List Val)}{m:List D→Out Val}
theorem Ts (F:FnOk X.prog X.w X.K X.mg X.base Uk k f fd ps (TV X.K m ps.length))(hr:Room k X.A)(hm:X.mg x=some (.ref f))(hk:PySem.W.keepIn X.K (.ref f)=true)(hb:pb X.K fd ps [])(ha:DA X G₀ H₀ (e::es) r)
 (hlen:∀env xs,r env=.ok xs→xs.length=ps.length) (hg:Gl X x:=by rfl) (hdb:(x == ("__debug__" : Str))=false:=by decide) (he:starEach (e::es) X.env=(false,eval e X.env)::starEach es X.env:=by rfl) (hpl:(backTo pos (starEach es X.env)).any (·.1)=false:=by rfl) :
 DE X G₀ H₀ (.Call (.Name x p) (e::es) [] pos) (zx m r):=(US F hr hg hm hk hb .nil Qs ha hdb he hpl).imp fun σ H Q q=>by
 obtain⟨env,G,val,I,e,k'⟩:=q;obtain⟨xs,e1,e⟩:=zv e;obtain⟨v,e2,e⟩:=zv e;split at e
 ·rename_i hc;have ev:v=val:=by cases e;rfl
  subst ev;refine⟨env,G,xs,I,e1,fun vs G1 H1 g1 l1 a1=>?_⟩;show TV X.K m ps.length (vs++[]) H1 Q E0;rw[sbq];have I1:=I.grow g1 l1;have hl:(xs.map Val.d).length=ps.length:=by rw[sae];exact hlen env xs e1
  by_cases hp:xs.all Val.isPers=true
  ·refine⟨G1,_,v,hl,l1,YL a1 hp,e2,fun w G2 H2 g2 l2 h2=>k' w G2 H2 (g1.trans g2) l2 ?_⟩
   cases v with
   |p d=>exact h2
   | fresh ds=>
     obtain⟨a,us,rfl,h3,h4⟩:=h2;exact⟨a,us,rfl,g1.h.free h3,h4⟩
   |brw i ds=>obtain⟨a,rfl,h3,_⟩:=h2;simp at h3
  ·have hcv:v.calm=true:=by simpa[hp]using hc
   refine⟨kf env σ G1 H1,_,v,hl,U1 I1,gm I1 a1,e2,fun w G2 H2 g2 l2 h2=>?_⟩
   have gu:Gw G1 H1 (sm env σ G2) H2:=by
    refine⟨fun b o q=>?_,g2.h,fun b q1 q2=>?_⟩
    ·unfold sm;by_cases hl:sy env σ b
     ·rw[(I1.lent hl).1]at q;cases q
     ·rw[sah hl];exact g2.g b o (eC I1 b o q)
    ·unfold sm;by_cases hl:sy env σ b
     ·rw[saf hl]
     ·rw[sah hl];refine g2.n b q1 ?_;unfold kf;rw[sah hl];exact q2
   have lu:zV (sm env σ G2) H2:=fun b o q=>by
    unfold sm at q;by_cases hl:sy env σ b
    ·rw[saf hl]at q;cases q
    ·rw[sah hl]at q;exact l2 b o q
   refine k' w (sm env σ G2) H2 (g1.trans gu) lu ?_
   cases v with
   |p d=>exact kU I1 g2.g hcv h2
   | fresh ds=>
     obtain⟨a,us,rfl,h3,h4,h5,h6⟩:=h2;refine⟨a,us,rfl,g1.h.free h3,h4,?_,qA I1 g2.g hcv h6⟩;unfold sm;by_cases hl:sy env σ a
     ·rw[saf hl]
     ·rw[sah hl];exact h5
   |brw i ds=>cases hcv
 ·cases e
end
theorem xx:∀(names:List (Str×NameKind)) (n:Nat) (acc:List (Str×Addr)),cellsFrom n names acc=cellsFrom n names []++acc
 |[],n,acc=>rfl
 | (x,k)::r,n,acc=>by
   unfold cellsFrom;split
   ·rw[xx r (n+1) ((x,n)::acc),xx r (n+1) [(x,n)]];simp
   ·exact xx r n acc
theorem sE:∀(names:List (Str×NameKind)) (n:Nat) (x:Str),(x,NameKind.cell)∉names→(cellsFrom n names []).lookup x=none
 |[],n,x,_=>rfl
 | (y,k)::r,n,x,h=>by
   have hr:(x,NameKind.cell)∉r:=fun z=>h (sao _ z);unfold cellsFrom;split
   ·rename_i hk;rw[xx,List.lookup_append,sE r (n+1) x hr]
    have hxy:(x == y)=false:=by
     rw[beq_eq_false_iff_ne];rintro rfl;have:k=.cell:=by simpa using hk
     subst this;exact h saB
    simp[List.lookup_cons,hxy]
   ·exact sE r n x hr
noncomputable def x_ (cells:List (Str×Addr)):List (Str×NameKind)→List (Str×Addr)→List (Str×Addr)
 |[],acc=>acc
 |(n,k)::r,acc=>if(k == .free)=true then x_ cells r ((n,(cells.lookup n).getD 0)::acc)else x_ cells r acc
theorem j7 {env:Env}:∀(names:List (Str×NameKind)) (acc:List (Str×Addr)),(∀n,(n,NameKind.free)∈names→∃c,env.cells.lookup n=some c) →
 (forIn names acc fun x r=>if(x.2 == NameKind.free)=true then do let a ← cellOf env x.1;pure (ForInStep.yield ((x.1,a)::r))else pure (ForInStep.yield r):Sem (List (Str×Addr)))=pure (x_ env.cells names acc)
 |[],acc,_=>rfl
 | (n,k)::r,acc,h=>by
   have ih:=fun acc=>j7 (env:=env) r acc fun m hm=>h m (sao _ hm);rw[List.forIn_cons];unfold x_;by_cases hk:(k == NameKind.free)=true
   ·have:k=.free:=by simpa using hk
    subst this;obtain⟨c,hc⟩:=h n saB;rw[saf hk,saf hk];unfold cellOf;rw[hc];simp only[pure_bind,Option.getD_some];exact ih _
   ·rw[sah hk,sah hk];simp only[pure_bind];exact ih _
theorem p_ {scope:Scope}{env:Env}(h:∀n,(n,NameKind.free)∈scope.names→∃c,env.cells.lookup n=some c):closureFor scope env=pure (x_ env.cells scope.names []):=by
 have:=j7 (env:=env) scope.names [] h;unfold closureFor;simp only[bind_pure];exact this
theorem v8 {cells:List (Str×Addr)}:∀(names:List (Str×NameKind)) (acc:List (Str×Addr)) (x:Str) (c:Addr),(∀n,(n,NameKind.free)∈names→∃c,cells.lookup n=some c) →
 (x_ cells names acc).lookup x=some c→cells.lookup x=some c∨acc.lookup x=some c
 |[],acc,x,c,_,h=>.inr h
 | (n,k)::r,acc,x,c,hn,h=>by
   have hr:∀m,(m,NameKind.free)∈r→∃c,cells.lookup m=some c:=fun m hm=>hn m (sao _ hm);unfold x_ at h;split at h
   ·rename_i hk;have:k=.free:=by simpa using hk
    subst this
    rcases v8 r _ x c hr h with q|q
    ·exact .inl q
    ·rw[List.lookup_cons]at q
     cases hx:x == n with
     | true=>
       rw[hx]at q;obtain⟨c',hc⟩:=hn n saB;rw[hc]at q;cases q;rw[beq_iff_eq.mp hx];exact .inl hc
     |false=>rw[hx]at q;exact .inr q
   ·exact v8 r _ x c hr h
theorem rX {cells:List (Str×Addr)}:∀(names:List (Str×NameKind)) (acc:List (Str×Addr)) (x:Str),((x,NameKind.free)∈names∨(acc.lookup x).isSome=true)→((x_ cells names acc).lookup x).isSome=true
 | [],acc,x,h=>by
   rcases h with h|h
   ·simp at h
   ·exact h
 | (n,k)::r,acc,x,h=>by
   unfold x_;split
   ·refine rX r _ x ?_
    rcases h with h|h
    ·rcases saj.mp h with e|e
     ·cases e;exact .inr (by simp[List.lookup_cons])
     ·exact .inl e
    ·refine .inr ?_;rw[List.lookup_cons]
     cases x == n with
     |true=>rfl
     |false=>exact h
   ·rename_i hk;refine rX r _ x ?_
    rcases h with h|h
    ·rcases saj.mp h with e|e
     ·cases e;exact absurd rfl hk
     ·exact .inl e
    ·exact .inr h
theorem uX {env:Env}:∀(names:List (Str×NameKind)) (x:Str) (k:NameKind),
 (names.map fun(n,k)=>if(k == NameKind.free&&env.scope.kind == .function&&env.kindOf n == some .cell)then(n,NameKind.cell)else(n,k)).lookup x=some k →
  names.lookup x=some k∨(k=.cell∧names.lookup x=some .free)
 |[],x,k,h=>by simp at h
 | (n,j)::r,x,k,h=>by
   have ih:=uX (env:=env) r x k;rw[List.map_cons]at h;by_cases hc:(j == NameKind.free&&env.scope.kind == .function&&env.kindOf n == some .cell)=true
   ·simp only[hc,if_true]at h;rw[List.lookup_cons]at h ⊢
    cases hx:x == n with
    | true=>
      rw[hx]at h;cases h;have:j=.free:=by simp at hc;exact hc.1.1
      exact .inr ⟨rfl,by rw[this]⟩
    |false=>rw[hx]at h;exact ih h
   ·simp only[hc,saH,if_false]at h;rw[List.lookup_cons]at h ⊢
    cases hx:x == n with
    |true=>rw[hx]at h;exact .inl h
    |false=>rw[hx]at h;exact ih h
theorem nz {env:Env}:∀(names:List (Str×NameKind)) (x:Str),names.lookup x=some .free →
 ((names.map fun(n,k)=>if(k == NameKind.free&&env.scope.kind == .function&&env.kindOf n == some .cell)then(n,NameKind.cell)else(n,k)).lookup x=some .cell ∨
  (names.map fun(n,k)=>if(k == NameKind.free&&env.scope.kind == .function&&env.kindOf n == some .cell)then(n,NameKind.cell)else(n,k)).lookup x=some .free)
 |[],x,h=>by simp at h
 | (n,j)::r,x,h=>by
   have ih:=nz (env:=env) r x;rw[List.map_cons];rw[List.lookup_cons]at h;by_cases hc:(j == NameKind.free&&env.scope.kind == .function&&env.kindOf n == some .cell)=true
   ·simp only[hc,if_true];rw[List.lookup_cons]
    cases hx:x == n with
    |true=>exact .inl rfl
    |false=>rw[hx]at h;exact ih h
   ·simp only[hc,saH,if_false];rw[List.lookup_cons]
    cases hx:x == n with
    |true=>rw[hx]at h;exact .inr h
    |false=>rw[hx]at h;exact ih h
theorem bX {M:Model}{A:Around}{E:Value→Shared→Prop}{s:Shared}{scope:Scope}{env:Env}{cl:List (Str×Addr)}{Q:Env→Shared→Prop}
 (h:Q {scope:=scope,locals:=s.heap.objs.size,globals:=env.globals,cells:=cellsFrom (s.heap.objs.size+1) scope.names cl,qual:=env.qual,func:=none,code:=env.code,frame:=env.frame,builtins:=env.builtins}
  {s with heap:=pushCells (s.heap.push {cls:=.type "dict",data:=.dict #[]}) scope.names}) :
 wpAny M A (newFunctionEnv scope env.globals cl [] env.qual none .none (some env)) Q E s:=by
 simp only[newFunctionEnv,Option.isSome_some,if_true];refine saa (wpAny_alloc ?_);refine saa (wpAny_layCells _ (fun name kind cells=>by cases hkc:kind == NameKind.cell <;> simp[hkc]) _ _ _ _ ?_);rw[show({s with heap:=s.heap.push {cls:=.type "dict",data:=.dict #[]}}:Shared).heap.objs.size=s.heap.objs.size+1 from saY ..];exact saa (sac (sac h))
noncomputable def x9 (X:Cx)(N':List Str)(scope:Scope)(ex:List Addr)(s:Shared)(H:Hp):Cx :=
 { X with
   N:=N'
   s₀:=s
   H₀:=H
   env:=compEnvC scope (cellsFrom (s.heap.objs.size+1) scope.names (x_ X.env.cells scope.names [])) s.heap.objs.size X.env
   outer:=X.stack
   stack:=X.stack
   ex:=ex
   fn:=fun x=>scope.names.lookup x == some .cell
   pn:=[]
   xe:=fun _ _=>False}
structure CompOk (X:Cx)(scope:Scope)(cap:List Nat)(own:List Str):Prop where
 kind:scope.kind=.function
 locals:∀x∈scope.names,x.2=.local→scope.names.lookup x.1=some .local
 nd:(scope.names.map (·.1)).Nodup
 frees:(scope.names.all fun x=>x.2 != .free ||(X.env.scope.names.lookup x.1 == some .cell ||X.env.scope.names.lookup x.1 == some .free))=true
 caps:(cap.all fun i=>match X.N[i]? with|some x=>scope.names.lookup x == some .free|none=>false)=true
noncomputable def tN (X:Cx)(cap:List Nat)(own:List Str):List Str:=cap.map (fun i=>X.N.getD i "")++own
noncomputable def bF (cap:List Nat)(n:Nat)(σ:St):St:=cap.map (fun i=>σ.getD i none)++List.replicate n none
@[simp] noncomputable def bG (cap:List Nat)(n:Nat)(env:Ev):Ev:=cap.map (fun i=>match env[i]? with|some (.p d)=>.p d|_=>.un)++List.replicate n .un
noncomputable def sk (env:Ev):Prop:=∀(i:Nat) (ds:List D),env[i]?≠some (.own ds)
theorem mP (cap:List Nat)(n:Nat)(env:Ev):sk (bG cap n env):=by
 intro i ds h;unfold bG at h;by_cases hi:i<cap.length
 ·rw[saZ (by simpa using hi),sav,sad hi]at h;simp only[Option.map_some]at h
  split at h <;> cases h
 ·rw[sbx (by simpa using hi),sbK]at h
  split at h <;> cases h
theorem RJ {K:Frag}{G₀ H₀ G H:Hp}{env:Ev}{σ:St}(I:DI K G₀ H₀ env σ G H)(cap:List Nat)(n:Nat):DI K G₀ H₀ (bG cap n env) (bF cap n σ) G H where
 le:=I.le
 gr:=I.gr
 len:=by simp[bG,bF]
 slot:=fun i s e=>by
  cases s with
  |un=>trivial
  |own ds=>exact absurd e (mP cap n env i ds)
  | p d=>
    unfold bG at e;by_cases hi:i<cap.length
    ·rw[saZ (by simpa using hi),sav,sad hi]at e;simp only[Option.map_some]at e;split at e
     ·rename_i d' hd;cases e;obtain⟨v,h1,h2⟩:=I.p hd;refine⟨v,?_,h2⟩;unfold bF;rw[saZ (by simpa using hi),sav,sad hi];simp[List.getD_eq_getElem?_getD,h1]
     ·cases e
    ·rw[sbx (by simpa using hi),sbK]at e
     split at e <;> cases e
 apart:=fun i j ds es a _ e _ _ _=>mP cap n env i ds e
section
variable {X:Cx}{pins:List (Addr×Obj)}{σ:St}{H:Hp}{s:Shared}{scope:Scope}{cap:List Nat}{own:List Str}
theorem CompOk.free (C:CompOk X scope cap own){n:Str}(h:(n,NameKind.free)∈scope.names):X.env.kindOf n=some .cell∨X.env.kindOf n=some .free:=by
 have q:=sbL.mp C.frees _ h;simp at q;exact q
theorem CompOk.cells (C:CompOk X scope cap own)(I:Inv X pins σ H s):∀n,(n,NameKind.free)∈scope.names→∃c,X.env.cells.lookup n=some c:=fun n h=>I.ok.has n (C.free h)
theorem VV {fp:List Addr}(C:CompOk X scope cap own)(I:Inv X pins σ H s)(hf:∀b∈fp,lI X pins H b)(hex:∀b∈fp,b<s.heap.objs.size) :
 Inv (x9 X (tN X cap own) scope fp s H) [] (bF cap own.length σ) H {s with heap:=pushCells (s.heap.push {cls:=.type "dict",data:=.dict #[]}) scope.names}:=by
 have hcl:=C.cells I;have keep:∀b o,s.heap.get? b=some o→(pushCells (s.heap.push {cls:=.type "dict",data:=.dict #[]}) scope.names).get? b=some o:=fun b o e=>pushCells_keeps _ _ b o (sab _ e);have ok:=cellsFrom_ok scope.names (s.heap.push {cls:=.type "dict",data:=.dict #[]}) (s.heap.objs.size+1) [] ⟨fun _ _ hm=>(nomatch hm),List.Pairwise.nil⟩ (by rw[saY];exact Nat.le_refl _);rw[saY]at ok
 have cases_cell:∀x c,(cellsFrom (s.heap.objs.size+1) scope.names (x_ X.env.cells scope.names [])).lookup x=some c →
  ((cellsFrom (s.heap.objs.size+1) scope.names []).lookup x=some c)∨((cellsFrom (s.heap.objs.size+1) scope.names []).lookup x=none∧X.env.cells.lookup x=some c):=fun x c h=>by
  rw[xx,List.lookup_append]at h
  cases q:(cellsFrom (s.heap.objs.size+1) scope.names []).lookup x with
  |some c'=>rw[q]at h;exact .inl h
  | none=>
    rw[q]at h;simp at h
    rcases v8 scope.names [] x c hcl h with z|z
    ·exact .inr ⟨rfl,z⟩
    ·simp at z
 have ownC:∀x c,(cellsFrom (s.heap.objs.size+1) scope.names []).lookup x=some c→(pushCells (s.heap.push {cls:=.type "dict",data:=.dict #[]}) scope.names).IsCell c none∧s.heap.objs.size+1≤c:=fun x c h=>ok.empty x c (sbc h);have oldC:∀x c,X.env.cells.lookup x=some c→c<s.heap.objs.size:=fun x c h=>let ⟨_,z⟩:=I.cell x c h;z.lt;have kindX:∀x,(compEnvC scope (cellsFrom (s.heap.objs.size+1) scope.names (x_ X.env.cells scope.names [])) s.heap.objs.size X.env).kindOf x=(relabel scope X.env).names.lookup x:=fun _=>rfl
 refine⟨⟨I.ok.mod,C.kind,I.ok.glob,I.ok.blt,Nat.le_refl _,fun x y c h1 h2=>?_,fun x hx=>?_,fun x c hx h=>?_,I.ok.hd,I.ok.frames,.inl rfl,fun b hb=>?_,I.bs,sbH I.ok.bsz I.sz,fun b o e hb=>?_,fun b hb hs=>?_,I.stack,I.stkFree⟩,
  rfl,I.bare,Un.kept keep,⟨_,(Heap.Ns.new s.heap (.type "dict")).keeps (pushCells_keeps _ _),fun i x v e1 e2 e3=>?_⟩,fun x c h=>?_,I.hok.fresh (Nat.le_refl _),fun x c h=>?_,fun p hp=>absurd (show p∈([]:List (Addr×Obj))from hp) (by simp),I.hok.kept keep,?_⟩
 ·rcases cases_cell x c h1 with z1|⟨_,z1⟩
  ·rcases cases_cell y c h2 with z2|⟨_,z2⟩
   ·exact name_of_addr ok.apart (sbc z1) (sbc z2)
   ·exact absurd (saE (sbD (oldC y c z2)) (ownC x c z1).2) (sbQ _)
  ·rcases cases_cell y c h2 with z2|⟨_,z2⟩
   ·exact absurd (saE (sbD (oldC x c z1)) (ownC y c z2).2) (sbQ _)
   ·exact I.ok.inj x y c z1 z2
 ·show ∃c,(cellsFrom (s.heap.objs.size+1) scope.names (x_ X.env.cells scope.names [])).lookup x=some c;rw[xx,List.lookup_append]
  cases q:(cellsFrom (s.heap.objs.size+1) scope.names []).lookup x with
  |some c'=>exact⟨c',rfl⟩
  | none=>
    have fr:scope.names.lookup x=some .free→∃c,(none.or ((x_ X.env.cells scope.names []).lookup x))=some c:=fun z=>by
     have:=rX (cells:=X.env.cells) scope.names [] x (.inl (sbc z));exact Option.isSome_iff_exists.mp (by simpa using this)
    have hx':(relabel scope X.env).names.lookup x=some .cell∨(relabel scope X.env).names.lookup x=some .free:=hx
    rcases hx' with z|z
    ·rcases uX scope.names x .cell z with z|⟨_,z⟩
     ·obtain⟨c,z2⟩:=me (n:=s.heap.objs.size+1) (sc:=scope) z;rw[z2]at q;cases q
     ·exact fr z
    ·rcases uX scope.names x .free z with z|⟨z,_⟩
     ·exact fr z
     ·cases z
 ·have hx':scope.names.lookup x=some .cell:=by simpa using(show(scope.names.lookup x == some .cell)=true from hx)
  rcases cases_cell x c h with z|⟨z,_⟩
  ·exact scb (ownC x c z).2
  ·obtain⟨c',z2⟩:=me (n:=s.heap.objs.size+1) (sc:=scope) hx';rw[z2]at z;cases z
 ·refine⟨saA (hex b hb),fun x c h z=>?_⟩
  rcases cases_cell x c h with q|⟨_,q⟩
  ·exact absurd (saE (sbD (hex b hb)) (z ▸ (ownC x c q).2)) (sbQ _)
  ·exact(hf b hb).2.2.2.2.1 x c q z
 ·rcases(hf b hb).2.2.2.1 with z|z
  ·exact I.ok.noex b o e z
  ·exact absurd (saE (sai e) (sbH I.ok.bsz z)) (sbQ _)
 ·rcases saj.mp (I.stkSub b hs)with z|z
  ·exact(hf b hb).2.1 z
  ·exact(hf b hb).2.2.1 z
 ·
  have e1':(tN X cap own)[i]?=some x:=e1;unfold tN at e1';unfold bF at e2;by_cases hi:i<cap.length
  ·rw[saZ (by simpa using hi),sav,sad hi]at e1' e2;simp only[Option.map_some,Option.some.injEq]at e1' e2;have hcap:=sbL.mp C.caps cap[i] (scq hi)
   cases q:X.N[cap[i]]? with
   |none=>rw[q]at hcap;cases hcap
   | some y=>
     rw[q]at hcap;have hy:scope.names.lookup y=some .free:=by simpa using hcap
     have hxy:x=y:=by rw[←e1',List.getD_eq_getElem?_getD,q];rfl
     subst hxy
     have hs:σ[cap[i]]?=some (some v):=by
      rw[List.getD_eq_getElem?_getD]at e2
      cases z:σ[cap[i]]? with
      |none=>rw[z]at e2;cases e2
      |some w=>rw[z]at e2;simp at e2;rw[e2]
     have hk:=C.free (sbc hy);obtain⟨m,hn,hl⟩:=I.loc;obtain⟨u,ru,lk⟩:=hl cap[i] x v q hs (hk.elim (fun z=>.inr (.inl z)) fun z=>.inr (.inr z));refine⟨u,ru,.inr ⟨?_,?_⟩⟩
     ·exact nz scope.names x hy
     ·rcases lk with⟨z,_⟩|⟨_,c,hc,hcell⟩
      ·rcases hk with z'|z' <;> (rw[z]at z';cases z')
      ·refine⟨c,?_,hcell.keeps keep⟩;show(cellsFrom (s.heap.objs.size+1) scope.names (x_ X.env.cells scope.names [])).lookup x=some c;rw[xx,List.lookup_append]
       have hno:(cellsFrom (s.heap.objs.size+1) scope.names []).lookup x=none:=sE _ _ _ fun hm=>by
        have m1:=sbc hy;have:=C.nd;rw[List.nodup_iff_pairwise_ne,sbE]at this;have:=List.Pairwise.forall_of_forall_of_flip (R:=fun a b:Str×NameKind=>a.1≠b.1∨a=b) (l:=scope.names) (fun _ _=>.inr rfl) (this.imp fun h=>.inl h) (this.imp fun h=>.inl h.symm)
        rcases this m1 hm with z|z
        ·exact z rfl
        ·cases z
       rw[hno];have hsome:=rX (cells:=X.env.cells) scope.names [] x (.inl (sbc hy));obtain⟨c',hc'⟩:=Option.isSome_iff_exists.mp hsome
       rcases v8 scope.names [] x c' hcl hc' with z|z
       ·rw[hc]at z;cases z;simpa using hc'
       ·simp at z
  ·rw[sbx (by simpa using hi),sbK]at e2
   split at e2 <;> cases e2
 ·rcases cases_cell x c h with z|⟨_,z⟩
  ·exact⟨_,(ownC x c z).1⟩
  ·obtain⟨v,q⟩:=I.cell x c z;exact⟨v,q.keeps keep⟩
 ·rcases cases_cell x c h with z|⟨_,z⟩
  ·exact I.hok.fresh (scb (ownC x c z).2)
  ·exact I.freeC x c z
 ·show(bF cap own.length σ).length=(tN X cap own).length;simp[bF,tN]
end
theorem da {prog:Program}{w:World}{A:Around}{R:Result→Shared→Prop}{s:Shared}{elt target iter:Expr}{ifs:List Expr}{scope:Scope}{pos:Pos}{it acc:Value}{env:Env}(I:Nat→Shared→Prop)
 (turn:∀n s,I n s→wpAny (model prog w) A (pyNext it) (fun r s₁=>match r with
  |none=>R (.ok .next) s₁
  |some v=>wpAny (model prog w) A (letOwnedTupleGo target it v) (fun _ s₁'=>wpAny (model prog w) A (assign target env v) (fun _ s₂ =>
   wpAny (model prog w) A (forIn ifs true fun c r=>if r=true then do let ok ← isTrue c env (eval c env);pure (ForInStep.yield ok)else pure (ForInStep.yield r)) (fun ok s₃ =>
    if ok=true then wpAny (model prog w) A (eval elt env) (fun x s₄ =>
     wpAny (model prog w) A (call (.builtin "list.append") [acc,x]) (fun _ s₅=>∃m,m<n∧I m s₅) (fun _ _=>False) s₄) (fun _ _=>False) s₃
    else ∃m,m<n∧I m s₃) (fun _ _=>False) s₂) (fun _ _=>False) s₁') (fun _ _=>False) s₁) (fun _ _=>False) s)
 (n:Nat) (h:I n s) :
 codeAny (model prog w) A (.compLoop (.ListComp elt [⟨target,iter,ifs,0⟩] scope pos) 0 it acc env) R s:=by
 refine codeAny_loop rfl I (fun n s hI=>?_) n h;show wpAny _ A ((compTurn (.ListComp elt [⟨target,iter,ifs,0⟩] scope pos) 0 it acc env).onRaise (fun x=>do noteFrame x env;theTreesLotGoes x)) _ _ s;refine wpAny_noted ?_;rw[compTurn_list];refine saa (wpAny_standAt (saa (scE (turn n s hI) (fun r s₁ h₁ =>?_) fun _ _ h'=>h'.elim)))
 cases r with
 |none=>exact sac h₁
 | some v=>
   refine saa (scE h₁ (fun _ s₁' h₁'=>?_) fun _ _ h'=>h'.elim);refine saa (scE h₁' (fun _ s₂ h₂=>saa (scE h₂ (fun ok s₃ h₃ =>?_) fun _ _ h'=>h'.elim)) fun _ _ h'=>h'.elim)
   cases ok with
   |false=>exact sac ⟨rfl,h₃⟩
   | true=>
     exact saa (saa (scE h₃ (fun x s₄ h₄=>saa (scE h₄ (fun _ s₅ h₅=>sac (sac ⟨rfl,h₅⟩)) fun _ _ h'=>h'.elim)) fun _ _ h'=>h'.elim))
noncomputable def xH (g:D→Ev→Out Ev)(ft:FT)(fe:FE):List D→Ev→Out (List D)
 |[],_=>.ok []
 |d::ds,env=>(g d env).bind fun env1=>(ft env1).bind fun c=>if c=true then(fe env1).bind fun x=>x.hold.bind fun y=>(xH g ft fe ds env1).bind fun r=>.ok (y::r)else xH g ft fe ds env1
@[simp] noncomputable def xA (cap:List Nat)(n:Nat)(fi:FI)(g:D→Ev→Out Ev)(ft:FT)(fe:FE):FE:=fun env=>(fi env).bind fun ds=>if ds.length≤100000 then(xH g ft fe ds (bG cap n env)).bind fun out=>.ok (.fresh out)else .bad
noncomputable def Q4 (X:Cx)(G₀ H₀:Hp)(ifs:List Expr)(ft:FT):Prop:=∀(pins:List (Addr×Obj)) (s:Shared) (σ:St) (H:Hp) (Q:Bool→Hp→Prop),Inv X pins σ H s→tT X.K G₀ H₀ ft σ H Q →
 wpAny (model X.prog X.w) X.A (forIn ifs true fun c r=>if r=true then do let ok ← isTrue c X.env (eval c X.env);pure (ForInStep.yield ok)else pure (ForInStep.yield r)) (TP X pins σ Q) X.xe s
@[simp] noncomputable def oB:FT:=fun _=>.ok true
theorem n6 {X:Cx}{G₀ H₀:Hp}:Q4 X G₀ H₀ [] oB:=fun pins s σ H Q I q=>wpAny_tests_nil (by
 obtain⟨env,G,b,J,e,k⟩:=q;cases e
 exact⟨H,I,k G H (Gw.refl _ _) J.le⟩)
theorem uP {X:Cx}{G₀ H₀:Hp}{c:Expr}{ft:FT}(h:DT X G₀ H₀ c ft):Q4 X G₀ H₀ [c] ft:=fun pins s σ H Q I q=>wpAny_tests_one (h pins s σ H Q I q)
noncomputable def Ud (g:D→Ev→Out Ev):Prop:=∀d env env',g d env=.ok env'→sk env→sk env'
theorem sk.set {env:Ev}(h:sk env)(i:Nat)(d:D):sk (env.set i (.p d)):=fun j ds e=>by
 by_cases hj:i=j
 ·subst hj;cases(vf e).1
 ·rw[sas hj]at e;exact h j ds e
theorem xI (i:Nat):Ud (gN i):=fun d env env' e h=>by cases e;exact h.set i d
theorem sk.setAll:∀(is:List Nat) (ds:List D) {env:Ev},sk env→sk (setAll is ds env)
 |[],_,_,h=>h
 |_::_,[],_,h=>h
 |i::is,d::ds,env,h=>sk.setAll is ds (h.set i d)
theorem j9 (is:List Nat):Ud (gT is):=fun d env env' e h=>by
 unfold gT at e;split at e
 ·split at e
  ·cases e;exact sk.setAll is _ h
  ·cases e
 ·cases e
theorem DI.other {K:Frag}{G₀ H₀ G H:Hp}{env:Ev}{σ:St}(I:DI K G₀ H₀ env σ G H)(h:sk env){p:Addr}{o:HO}(hg:G p=none)(h0:H₀ p=none):DI K G₀ H₀ env σ G (yW H p o) where
 le:=fun b u q=>by rw[zB (zF q hg)];exact I.le b u q
 gr:=⟨I.gr.g,fun b u q=>by rw[zB (zF q h0)];exact I.gr.h b u q,I.gr.n⟩
 len:=I.len
 slot:=fun i s e=>by
  cases s with
  |un=>trivial
  |p d=>exact I.slot i _ e
  |own ds=>exact absurd e (h i ds)
 apart:=I.apart
section
variable {X:Cx}{G₀ H₀:Hp}{elt iter tg:Expr}{ifs:List Expr}{scope:Scope}{pos:Pos}{fi:FI}{g:D→Ev→Out Ev}{ft:FT}{fe:FE}{cap:List Nat}{own:List Str}
structure CLoop (Iv:St→Hp→Shared→Prop)(K:Frag)(G₀ H₀ G2 H2:Hp)(g:D→Ev→Out Ev)(ft:FT)(fe:FE)(ds out:List D)(fp:List Addr)(a:Addr)(tn:Nat→Heap→Prop)(k:Nat)(s':Shared)(i:Nat)(σ':St)(H' G':Hp)(env':Ev)(accD:List D)(accV:List V)(rest:List D):Prop where
 hk:k=ds.length+1 - i
 hi:i≤ds.length
 iv:Iv σ' H' s'
 st:tn i s'.heap
 fr:∀b∈fp,H' b=none
 di:DI K G₀ H₀ env' σ' G' H'
 no:sk env'
 gr:Gw G2 H2 G' H'
 ha:H' a=some (.l accV)
 ga:G' a=none
 ra:zM K G' accD accV
 la:accD.length≤i
 ec:xH g ft fe (ds.drop i) env'=.ok rest
 eo:out=accD++rest
theorem j6 (C:CompOk X scope cap own)(hc:X.calm=true)
 (hg:∀ex s H,DG (x9 X (tN X cap own) scope ex s H) G₀ H₀ tg g) (hgc:Ud g) (ht:∀ex s H,Q4 (x9 X (tN X cap own) scope ex s H) G₀ H₀ ifs ft) (he:∀ex s H,DE (x9 X (tN X cap own) scope ex s H) G₀ H₀ elt fe)
 {pins:List (Addr×Obj)} {σ:St} {H2 G2:Hp} {s2:Shared} {env:Ev} {it:Addr} {fp:List Addr} {tn:Nat→Heap→Prop} {J:It} {ds out:List D}
 (I2:Inv X pins σ H2 s2) (D2:DI X.K G₀ H₀ env σ G2 H2) (T:Turn X.prog X.w X.K tg J fp it tn) (st2:tn 0 s2.heap) (f2:∀b∈fp,lI X pins H2 b) (jok:JOk X.K J G2 ds) (hz:ds.length≤100000)
 (e:xH g ft fe ds (bG cap own.length env)=.ok out) {RR:Value→Addr→Result→Shared→Prop} {E:Value→Shared→Prop}
 (fin:∀(D C:Addr) (vs:List V) (G' H':Hp) (s':Shared),s2.heap.objs.size≤C∧H' C=none→H2 D=none→H' D=some (.l vs)→G' D=none→zM X.K G' out vs→Gw G2 H2 G' H'→zV G' H' →
  (∃m,s'.heap.Ns C m)→(∀h',Heap.SameBut C s'.heap h'→Inv X pins σ H' {s' with heap:=h'})→RR (.ref D) C (.ok .next) s') :
 wpAny (model X.prog X.w) X.A (newList []) (fun acc s₃=>wpAny (model X.prog X.w) X.A (newFunctionEnv scope X.env.globals (x_ X.env.cells scope.names []) [] X.env.qual none .none (some X.env)) (fun cenv s₄ =>
  codeAny (model X.prog X.w) X.A (.compStart (.ListComp elt [⟨tg,iter,ifs,0⟩] scope pos) 0 (.ref it) acc {cenv with scope:=relabel scope X.env}) (RR acc cenv.locals) s₄) E s₃) E s2:=by
 have hlt:∀b∈fp,b<s2.heap.objs.size:=fun b hb=>let ⟨o,eo,_⟩:=T.obj _ _ st2 b hb;sai eo;refine scz (bX ?_);dsimp only;generalize hD:s2.heap.objs.size=D;have fD:H2 D=none:=by rw[←hD];exact I2.fresh
 have I3:Inv X pins σ (yW H2 D (.l [])) {s2 with heap:=s2.heap.push {cls:=.type "list",data:=.seq ([]:List Value).toArray}}:=by
  have:=I2.lnew (t':=s2.toks) (ys:=[]) (its:=[]) .nil (saX _);rw[hD]at this;exact this
 generalize hs3:({s2 with heap:=s2.heap.push {cls:=.type "list",data:=.seq ([]:List Value).toArray}}:Shared)=s3 at I3;have hs3':s3.heap=s2.heap.push {cls:=.type "list",data:=.seq ([]:List Value).toArray}:=by rw[←hs3]
 have f3:∀b∈fp,lI X pins (yW H2 D (.l [])) b:=fun b hb=>⟨by rw[zB (by rw[←hD];exact saA (hlt b hb))];exact(f2 b hb).1,(f2 b hb).2⟩
 have hlt3:∀b∈fp,b<s3.heap.objs.size:=fun b hb=>by rw[hs3',saY];exact sbD (hlt b hb)
 have I4:=VV C I3 f3 hlt3;have st4:tn 0 (pushCells (s3.heap.push {cls:=.type "dict",data:=.dict #[]}) scope.names):=T.keep _ _ _ st2 fun b hb o eo=>pushCells_keeps _ _ b o (sab _ (by rw[hs3'];exact sab _ eo));have g3:Gw G2 H2 G2 (yW H2 D (.l []))∧zV G2 (yW H2 D (.l [])):=Gw.laidL D2.le fD;have D4:DI X.K G₀ H₀ (bG cap own.length env) (bF cap own.length σ) G2 (yW H2 D (.l [])):=RJ (D2.grow g3.1 g3.2) cap own.length
 have stat:∀{H':Hp},(∀b∈fp,H' b=none)→∀b∈fp,lI (x9 X (tN X cap own) scope fp s3 (yW H2 D (.l []))) [] H' b:=fun {H'} hn b hb=>
  ⟨hn b hb,(I4.ok.exf b hb).1,I4.ok.exfs b hb,.inl hb,(I4.ok.exf b hb).2,fun p hp=>absurd (show p∈([]:List (Addr×Obj))from hp) (by simp)⟩
 have hG2D:G2 D=none:=D2.le.free fD;have h0D:H₀ D=none:=D2.gr.h.free fD
 have loop:∀s4:Shared,s4={s3 with heap:=pushCells (s3.heap.push {cls:=.type "dict",data:=.dict #[]}) scope.names} →
  codeAny (model X.prog X.w) X.A (.compLoop (.ListComp elt [⟨tg,iter,ifs,0⟩] scope pos) 0 (.ref it) (.ref D) (x9 X (tN X cap own) scope fp s3 (yW H2 D (.l []))).env) (RR (.ref D) s3.heap.objs.size) s4:=by
  rintro s4 rfl
  refine da (fun k s'=>∃i σ' H' G' env' accD accV rest,CLoop (fun σ H s=>Inv (x9 X (tN X cap own) scope fp s3 (yW H2 D (.l []))) [] σ H s) X.K G₀ H₀ G2 H2 g ft fe ds out fp D tn k s' i σ' H' G' env' accD accV rest) ?_ (ds.length+1)
   ⟨0,_,_,G2,_,[],[],out,rfl,saX _,I4,st4,fun b hb=>(f3 b hb).1,D4,mP _ _ _,g3.1,zU,hG2D,zM.nil,saX _,by simpa using e,rfl⟩
  rintro k s5 ⟨i,σ5,H5,G5,env5,accD,accV,rest,rfl,hi,I5,st5,fr5,D5,no5,gr5,hD5,gD5,ra5,la5,e5,eo⟩;by_cases hlt5:i<ds.length
  ·have hd:ds.drop i=ds[i]::ds.drop (i+1):=sba hlt5;rw[hd]at e5;obtain⟨env6,e6,e5⟩:=zv e5;obtain⟨c,e7,e5⟩:=zv e5;refine we (T.item (x9 X (tN X cap own) scope fp s3 (yW H2 D (.l []))) rfl rfl rfl hc i [] s5 σ5 H5 (fun _ _=>False) I5 (stat fr5) st5 (jok.go i G5 H5 gr5.g D5.le hlt5)) fun r s6 ⟨u,hr,h6⟩=>?_;subst hr;refine we h6 fun _ s7 ⟨x,H7,I7,r7,y7,st7,fr7⟩=>?_;obtain⟨d,G7,hd7,g7,l7,rx7⟩:=jok.yld i G5 H5 x H7 gr5.g D5.le hlt5 y7;have hde:d=ds[i]:=by rw[sad hlt5]at hd7;exact(saI hd7).symm
   subst hde;have D7:=D5.grow g7 l7;have I7':=I7.pinned (stat fr7) (T.obj _ _ st7);refine we (hg fp s3 (yW H2 D (.l [])) _ s7 σ5 H7 x u (fun σ8 H8=>H8=H7∧DI X.K G₀ H₀ env6 σ8 G7 H7) I7' r7 ⟨env5,G7,_,env6,D7,rx7,e6,fun σ8 D8=>⟨rfl,D8⟩⟩) fun _ s8 ⟨σ8,H8,I8,hH8,D8⟩=>?_;subst hH8;have no8:sk env6:=hgc _ _ _ e6 no5;have hD7:H8 D=some (.l accV):=g7.h _ _ hD5;have gD7:G7 D=none:=g7.n D (by rw[hD5];simp) gD5;refine we (ht fp s3 (yW H2 D (.l [])) _ s8 σ8 H8 (fun b H9=>b=c∧∃G9,Gw G7 H8 G9 H9∧zV G9 H9) I8 ⟨env6,G7,c,D8,e7,fun G9 H9 g9 l9=>⟨rfl,G9,g9,l9⟩⟩) fun ok s9 ⟨H9,I9,hok,G9,g9,l9⟩=>?_;subst hok;have D9:=D8.grow g9 l9
   have back:∀{s10:Shared} {σ10:St} {H10:Hp},Inv (x9 X (tN X cap own) scope fp s3 (yW H2 D (.l []))) ([]++jy fp s7.heap) σ10 H10 s10 →
    Inv (x9 X (tN X cap own) scope fp s3 (yW H2 D (.l []))) [] σ10 H10 s10∧tn (i+1) s10.heap∧(∀b∈fp,H10 b=none):=fun {s10 σ10 H10} I10=>by
    refine⟨I10.unpinned,T.keep _ _ _ st7 fun b hb o eb=>(I10.pin (b,o) (saQ _ (saQ _ (rL hb eb)))).1,fun b hb=>?_⟩;obtain⟨o,eb,d⟩:=T.obj _ _ st7 b hb;exact(I10.pin (b,o) (saQ _ (saQ _ (rL hb eb)))).2.1
   have gr9:Gw G2 H2 G9 H9:=(gr5.trans g7).trans g9
   cases ok with
   | false=>
     rw[sah sax]at e5 ⊢;obtain⟨I10,st10,fr10⟩:=back I9;exact⟨ds.length+1 - (i+1),by lia,i+1,σ8,H9,G9,env6,accD,accV,rest,rfl,hlt5,I10,st10,fr10,D9,no8,gr9,g9.h _ _ hD7,g9.n D (by rw[hD7];simp) gD7,(ra5.mono g7.g).mono g9.g,by lia,e5,eo⟩
   | true=>
     rw[saf rfl]at e5 ⊢;obtain⟨xv,e8,e5⟩:=zv e5;obtain⟨y,e9,e5⟩:=zv e5;obtain⟨rest',e10,e5⟩:=zv e5;cases e5;refine we (he fp s3 (yW H2 D (.l [])) _ s9 σ8 H9 (fun v H10=>∃G10,Gw G9 H9 G10 H10∧zV G10 H10∧kb X.K G10 y v) I9 ⟨env6,G9,xv,D9,e8,fun v G10 H10 g10 l10 h10=>m5 g10 l10 h10 e9⟩) fun u10 s10 ⟨v10,H10,I10,r10,G10,g10,l10,rep10⟩=>?_;have D10:=D9.grow g10 l10;have hD10:H10 D=some (.l accV):=g10.h _ _ (g9.h _ _ hD7);have gD10:G10 D=none:=g10.n D (by rw[g9.h _ _ hD7];simp) (g9.n D (by rw[hD7];simp) gD7);have ra10:=((ra5.mono g7.g).mono g9.g).mono g10.g
     refine we (pE (X:=x9 X (tN X cap own) scope fp s3 (yW H2 D (.l []))) _ s10 σ8 H10 (.ref D) [v10] (.ref D) [u10] (fun _ H11=>H11=yW H10 D (.l (accV++[v10]))) I10 rfl (.cons r10 .nil)
      ⟨D,accV,v10,rfl,rfl,hD10,by rw[←ra10.length,sizeLine_eq];lia,rfl⟩) fun _ s11 ⟨_,H11,I11,_,hH11⟩=>?_
     subst hH11;obtain⟨I12,st12,fr12⟩:=back I11
     have gr10:Gw G2 H2 G10 (yW H10 D (.l (accV++[v10]))):=by
      have q:=gr9.trans g10;exact⟨q.g,fun b o z=>by rw[zB (zF z fD)];exact q.h b o z,q.n⟩
     exact⟨ds.length+1 - (i+1),by lia,i+1,σ8,_,G10,env6,accD++[y],accV++[v10],rest',rfl,hlt5,I12,st12,fr12,D10.other no8 gD10 h0D,no8,gr10,zU,gD10,ra10.append (zM.cons rep10 zM.nil),by simp;lia,e10,by rw[eo];simp⟩
  ·have hi5:i=ds.length:=by lia
   subst hi5;refine we (T.done (x9 X (tN X cap own) scope fp s3 (yW H2 D (.l []))) rfl rfl rfl hc _ [] s5 σ5 H5 (fun _ _=>False) I5 (stat fr5) st5 (jok.stop _ G5 H5 gr5.g D5.le (Nat.le_refl _))) fun r s6 ⟨hr,I6⟩=>?_;subst hr;rw[List.drop_length]at e5;cases e5;have eo':out=accD:=by rw[eo];simp
   refine fin D s3.heap.objs.size accV G5 H5 s6 ?_ fD hD5 gD5 (by rw[eo'];exact ra5) gr5 D5.le ?_ fun h' sb=>?_
   ·exact⟨by rw[hs3',saY];exact Nat.le_succ _,I6.free⟩
   ·obtain⟨m,hm,_⟩:=I6.loc;exact⟨m,hm⟩
   ·have ne:∀b o,s3.heap.get? b=some o→b≠s3.heap.objs.size:=fun b o eb=>saA (sai eb);have frC:H5 s3.heap.objs.size=none:=I6.free;have up:∀b o,b≠s3.heap.objs.size→s6.heap.get? b=some o→h'.get? b=some o:=fun b o hb eb=>sb.extBut b o hb eb;have ub:=I6.base
    have U:Un (Ys X.stack) fp (yW H2 D (.l [])) H5 s3.heap h' :=
     ⟨fun b o eb n hb hx=>up b o (ne b o eb) (ub.keep b o eb n hb hx),fun b o eb n hb hx=>let ⟨sl,q⟩:=ub.slot b o eb n hb hx;⟨sl,up b _ (ne b o eb) q⟩,ub.free,fun b o eb hx=>let ⟨o',q⟩:=ub.there b o eb hx;⟨o',up b _ (ne b o eb) q⟩,ub.tups,ub.frzs,ub.tbls⟩
    have hok:kd X.prog X.w H5 h':=fun b u eb=>(I6.hok b u eb).stay (fun c v hc' q=>up c v (by
     rcases hc' with rfl|hc'
     ·intro z;rw[z,frC]at eb;cases eb
     ·intro z;rw[z,frC]at hc';cases hc') q) (fun _ q=>q) fun _ _ q=>q
    exact I3.call' (s':={s6 with heap:=h'}) I6.os U hok I6.bare fun b hb=>let ⟨a0,a1,a2,a3,a4,a5⟩:=f3 b hb;⟨a3,a1,a4,a5⟩
 subst hs3;exact codeAny_compStart_list (loop _ rfl) (T.self _ 0 _ _ _ st4 (loop _ rfl))
theorem v5 (C:CompOk X scope cap own)(hi:Sf X G₀ H₀ tg iter fi)
 (hg:∀ex s H,DG (x9 X (tN X cap own) scope ex s H) G₀ H₀ tg g) (hgc:Ud g) (ht:∀ex s H,Q4 (x9 X (tN X cap own) scope ex s H) G₀ H₀ ifs ft) (he:∀ex s H,DE (x9 X (tN X cap own) scope ex s H) G₀ H₀ elt fe)
 (hc:X.calm=true:=by rfl) (hs:∀x,foldedSetIterable iter X.env x=pure x:=by intro _;rfl):DE X G₀ H₀ (.ListComp elt [⟨tg,iter,ifs,0⟩] scope pos) (xA cap own.length fi g ft fe):=by
 intro pins s σ H Q I q;obtain⟨env,G,val,D0,e,k⟩:=q;obtain⟨ds,e1,e⟩:=zv e;split at e
 ·rename_i hz;obtain⟨out,e2,e⟩:=zv e;cases e;rw[eval_ListComp];refine wpAny_comprehension_free (use:=none) (cl:=x_ X.env.cells scope.names []) rfl hs (p_ (C.cells I)) C.kind C.locals ?_;refine we (hi pins s σ H (fun J H2=>∃G2,Gw G H G2 H2∧zV G2 H2∧JOk X.K J G2 ds) I ⟨env,G,ds,D0,e1,fun J G2 H2 g2 l2 jok=>⟨G2,g2,l2,jok⟩⟩) fun v s1 h1=>we h1 fun itv s2 h2=>?_;obtain⟨it,fp,tn,J,H2,rfl,I2,T,st2,f2,G2,g2,l2,jok⟩:=h2;refine j6 (RR:=fun acc C=>compPost (model X.prog X.w) X.A X.xe none (EP X pins σ Q) acc C) C hc hg hgc ht he I2 (D0.grow g2 l2) T st2 f2 jok hz e2 fun D C' vs G' H' s' hC fD hD gD r gr l hm hI=>?_;obtain⟨m,hm⟩:=hm;exact⟨m,hm,fun h' sb=>⟨.ref D,H',hI h' sb,rfl,k _ G' H' (g2.trans gr) l ⟨D,vs,rfl,g2.h.free fD,hD,gD,r⟩⟩⟩
 ·cases e
end
noncomputable def ins (n:Int):List Int→List Int
 |[]=>[n]
 |m::r=>if n≤m then n::m::r else m::ins n r
noncomputable def qK:List Int→List Int
 |[]=>[]
 |n::r=>ins n (qK r)
theorem jN (n:Int):∀l:List Int,(ins n l).Perm (n::l)
 |[]=>scu _
 | m::r=>by
   unfold ins;split
   ·exact scu _
   ·exact((jN n r).cons m).trans (List.Perm.swap n m r)
theorem xQ:∀l:List Int,(qK l).Perm l
 |[]=>scu _
 |n::r=>(jN n (qK r)).trans ((xQ r).cons n)
theorem jM (n:Int):∀l:List Int,l.Pairwise (· ≤ ·)→(ins n l).Pairwise (· ≤ ·)
 |[],_=>by simp[ins]
 | m::r,h=>by
   unfold ins;have h':=saC.mp h;split
   ·rename_i hn;refine saC.mpr ⟨fun x hx=>?_,h⟩
    rcases saj.mp hx with rfl|hx
    ·exact hn
    ·exact Int.le_trans hn (h'.1 x hx)
   ·rename_i hn;refine saC.mpr ⟨fun x hx=>?_,jM n r h'.2⟩
    rcases saj.mp ((jN n r).mem_iff.mp hx)with rfl|hx
    ·lia
    ·exact h'.1 x hx
theorem wM:∀l:List Int,(qK l).Pairwise (· ≤ ·)
 |[]=>List.Pairwise.nil
 |n::r=>jM n _ (wM r)
theorem sq:∀{a b:List Int},a.Perm b→a.Pairwise (· ≤ ·)→b.Pairwise (· ≤ ·)→a=b
 |[],b,p,_,_=>by rw[List.Perm.nil_eq p]
 |x::a,[],p,_,_=>by have:=p.length_eq;simp at this
 | x::a,y::b,p,ha,hb=>by
   have ha':=saC.mp ha;have hb':=saC.mp hb
   have e:x=y:=by
    have h1:x∈y::b:=p.mem_iff.mp saB;have h2:y∈x::a:=p.mem_iff.mpr saB
    rcases saj.mp h1 with h1|h1
    ·exact h1
    ·rcases saj.mp h2 with h2|h2
     ·exact h2.symm
     ·exact Int.le_antisymm (ha'.1 y h2) (hb'.1 x h1)
   subst e;rw[sq ((List.perm_cons x).mp p) ha'.2 hb'.2]
noncomputable def vS:List D→Option (List Int)
 |[]=>some []
 | .int i::ds=>(vS ds).map (i :: ·)
 |_::_=>none
theorem lD:∀{ds:List D} {ns:List Int},vS ds=some ns→ds=ns.map .int
 |[],ns,h=>by cases h;rfl
 | .int i::ds,ns,h=>by
   simp only[vS]at h
   cases q:vS ds with
   |none=>rw[q]at h;cases h
   |some ms=>rw[q]at h;cases h;rw[lD q];rfl
 | .non::ds,ns,h=>by cases h
 | .bl _::ds,ns,h=>by cases h
 | .tup _::ds,ns,h=>by cases h
 | .l _::ds,ns,h=>by cases h
 | .scr _::ds,ns,h=>by cases h
 | .exc _ _::ds,ns,h=>by cases h
theorem oO:∀ns:List Int,vS (ns.map .int)=some ns
 |[]=>rfl
 |n::ns=>by simp[vS,oO ns]
structure Cal (P:Program)(w:World)(K:Frag)(mg:Str→Option Value)(base:Heap)(k:Nat)(x:Str)(ps:List Str)(m:List D→Out Val):Prop where
 ex:∃(f:Addr) (fd:FuncData),FnOk P w K mg base Uk k f fd ps (TV K m ps.length)∧mg x=some (.ref f)∧PySem.W.keepIn K (.ref f)=true∧pb K fd ps []
theorem Cal.mono {P:Program}{w:World}{K:Frag}{mg:Str→Option Value}{base:Heap}{j k:Nat}{x:Str}{ps:List Str}{m:List D→Out Val}(c:Cal P w K mg base j x ps m)(h:j≤k):Cal P w K mg base k x ps m:=by
 obtain⟨f,fd,F,r⟩:=c.ex;exact⟨f,fd,F.mono h,r⟩
theorem Cal.imp {P:Program}{w:World}{K:Frag}{mg:Str→Option Value}{base:Heap}{k:Nat}{x:Str}{ps:List Str}{m m':List D→Out Val}(c:Cal P w K mg base k x ps m)(h:∀ds v,ds.length=ps.length→m' ds=.ok v→m ds=.ok v):Cal P w K mg base k x ps m':=by
 obtain⟨f,fd,F,r⟩:=c.ex;refine⟨f,fd,F.imp fun vs H Q E q=>?_,r⟩;obtain⟨G,ds,val,h1,h2,h3,h4,h5⟩:=q;exact⟨G,ds,val,h1,h2,h3,h ds val h1 h4,h5⟩
section
variable {X:Cx}{G₀ H₀:Hp}{k:Nat}{ps:List Str}{x:Str}{p pos:Pos}{e:Expr}{es:List Expr}{r:Ev→Out (List Val)}{m:List D→Out Val}
theorem eZ (C:Cal X.prog X.w X.K X.mg X.base k x ps m)(hr:Room k X.A)(ha:DA X G₀ H₀ (e::es) r)
 (hlen:∀env xs,r env=.ok xs→xs.length=ps.length) (hg:Gl X x:=by rfl) (hdb:(x == ("__debug__" : Str))=false:=by decide) (he:starEach (e::es) X.env=(false,eval e X.env)::starEach es X.env:=by rfl) (hpl:(backTo pos (starEach es X.env)).any (·.1)=false:=by rfl) :
 DE X G₀ H₀ (.Call (.Name x p) (e::es) [] pos) (zx m r):=by
 obtain⟨f,fd,F,hm,hk,hb⟩:=C.ex;exact Ts F hr hm hk hb ha hlen hg hdb he hpl
end
theorem kH:∀env xs,zz env=.ok xs→xs.length=0:=fun env xs h=>by cases h;rfl
theorem wW {f:FE}{r:Ev→Out (List Val)}{n:Nat}(h:∀env xs,r env=.ok xs→xs.length=n):∀env xs,zi f r env=.ok xs→xs.length=n+1:=fun env xs e=>by
 obtain⟨x,_,e⟩:=zv e;obtain⟨ys,e2,e⟩:=zv e;cases e;simp[h env ys e2]
theorem uL {A:Around}{k:Nat}(hr:Room k A):A.units+20<cLine:=by have:=hr.units;lia
theorem p5:∀(l m:List Nat),l.Nodup→(∀x∈l,x∈m)→l.length≤m.length
 |[],m,_,_=>saX _
 | x::l,m,hn,hs=>by
   have hx:x∈m:=hs x (.head _);have h2:=sbl.mp hn;have:=p5 l (m.erase x) h2.2 fun y hy=>(List.mem_erase_of_ne (fun z:y=x=>h2.1 (by rw[←z];exact hy))).mpr (hs y (.tail _ hy));rw[List.length_erase_of_mem hx]at this;have hp:0<m.length:=List.length_pos_of_mem hx;simp only[List.length_cons];lia
theorem br (xs:List Nat)(n:Nat)(h:xs.length<n):∃e,e<n∧e∉xs:=by
 refine scx fun hc=>?_;have:∀x∈List.range n,x∈xs:=fun x hx=>scx fun hh=>hc ⟨x,sbb.mp hx,hh⟩;have h2:=p5 (List.range n) xs List.nodup_range this;rw[sck]at h2;lia
noncomputable def lp (mask:Nat):Nat→Nat×Nat→Nat×Nat
 | 0,x=>x
 |n+1,x=>lp mask n (SetTable.leap mask x.1 x.2)
theorem jJ (mask:Nat):∀(n:Nat) (x:Nat×Nat),lp mask (n+1) x=SetTable.leap mask (lp mask n x).1 (lp mask n x).2
 | 0,x=>rfl
 |n+1,x=>jJ mask n _
theorem Vn (mask:Nat):∀(m n:Nat) (x:Nat×Nat),lp mask (m+n) x=lp mask n (lp mask m x)
 | 0,n,x=>by rw[Nat.zero_add];rfl
 | m+1,n,x=>by
   rw[Nat.add_right_comm];exact Vn mask m n _
theorem Vm (mask:Nat):∀(n:Nat) (x:Nat×Nat),(lp mask n x).2=x.2 / 32^n
 | 0,x=>by simp[lp]
 | n+1,x=>by
   rw[lp,Vm mask n];simp only[SetTable.leap];rw[Nat.div_div_eq_div_mul,Nat.pow_succ,Nat.mul_comm]
theorem QA (mask n:Nat)(x:Nat×Nat)(h:x.1≤mask):(lp mask n x).1≤mask:=by
 cases n with
 |zero=>exact h
 | succ n=>
   rw[jJ];simp only[SetTable.leap];have:=Nat.mod_lt ((lp mask n x).1*5+1+(lp mask n x).2 / 32) (show 0<mask+1 by lia);lia
noncomputable def lc (mask:Nat):Nat→Nat→Nat
 | 0,i=>i
 |n+1,i=>lc mask n ((i*5+1)%(mask+1))
theorem Yg (mask:Nat):∀(n i:Nat),lp mask n (i,0)=(lc mask n i,0)
 | 0,i=>rfl
 | n+1,i=>by
   show lp mask n (SetTable.leap mask i 0)=_;simp only[SetTable.leap,Nat.zero_div,Nat.add_zero];exact Yg mask n _
noncomputable def lcAll (mask:Nat):Bool:=(List.range (mask+1)).all fun i=>(List.range (mask+1)).all fun e=>(List.range (mask+1)).any fun m=>lc mask m i == e
theorem U5:lcAll 7=true:=by decide +kernel
theorem cL:lcAll 31=true:=by decide +kernel
theorem U4 {mask i e:Nat}(h:lcAll mask=true)(hi:i≤mask)(he:e≤mask):∃m,m≤mask∧lc mask m i=e:=by
 unfold lcAll at h;rw[sbL]at h;have h1:=h i (sbb.mpr (by lia));rw[sbL]at h1;have h2:=h1 e (sbb.mpr (by lia));rw[sbe]at h2;obtain⟨m,hm,q⟩:=h2;exact⟨m,by have:=sbb.mp hm;lia,by simpa using q⟩
theorem TF (h:Int):SetTable.bits h<2^64:=by
 unfold SetTable.bits;have h1:=sbS h (show(2^64:Int)≠0 by decide);have h2:=sca h (show(0:Int)<2^64 by decide);lia
theorem Yh {mask e:Nat}{h:Int}{i:Nat}(ha:lcAll mask=true)(hi:i≤mask)(he:e≤mask):∃n,n≤13+mask∧(lp mask n (i,SetTable.bits h)).1=e:=by
 have hz:(lp mask 13 (i,SetTable.bits h)).2=0:=by
  rw[Vm];exact Nat.div_eq_of_lt (saE (TF h) (by decide))
 obtain⟨m,hm,q⟩:=U4 ha (QA mask 13 (i,SetTable.bits h) hi) he;refine⟨13+m,by lia,?_⟩;rw[Vn];have:lp mask 13 (i,SetTable.bits h)=((lp mask 13 (i,SetTable.bits h)).1,0):=by rw[←hz]
 rw[this,Yg];exact q
noncomputable def qW (t:SetTable):Nat→SetTable.Probe→SetTable.Probe
 | 0,p=>p
 |n+1,p=>qW t n (t.advance p)
theorem rq (t:SetTable):∀(m n:Nat) (p:SetTable.Probe),qW t (m+n) p=qW t n (qW t m p)
 | 0,n,p=>by rw[Nat.zero_add];rfl
 |m+1,n,p=>by rw[Nat.add_right_comm];exact rq t m n _
noncomputable def su (t:SetTable)(x:Nat×Nat):SetTable.Probe:={j:=x.1,more:=SetTable.runEnd t.mask x.1 - x.1,i:=x.1,perturb:=x.2,dummy:=none}
theorem dE (t:SetTable):∀(k:Nat) (p:SetTable.Probe),p.more=k→p.dummy=none→qW t (k+1) p=su t (SetTable.leap t.mask p.i p.perturb)
 | 0,p,h,hd=>by
   show t.advance p=_;unfold SetTable.advance;rw[sah (by lia)];simp[su,hd]
 | k+1,p,h,hd=>by
   have e:t.advance p={p with j:=p.j+1,more:=p.more - 1}:=by
    unfold SetTable.advance;rw[saf (by lia)]
   show qW t (k+1) (t.advance p)=_;rw[e];exact dE t k {p with j:=p.j+1,more:=p.more - 1} (by show p.more - 1=k;lia) hd
theorem Y8 (mask i:Nat):SetTable.runEnd mask i - i≤9:=by
 unfold SetTable.runEnd
 split <;> lia
theorem fo (t:SetTable)(x:Nat×Nat):∀n:Nat,∃k,k≤10*n∧qW t k (su t x)=su t (lp t.mask n x)
 | 0=>⟨0,saX _,rfl⟩
 | n+1=>by
   obtain⟨k,hk,e⟩:=fo t x n;have h9:=Y8 t.mask (lp t.mask n x).1;refine⟨k+((su t (lp t.mask n x)).more+1),?_,?_⟩
   ·show k+(SetTable.runEnd t.mask (lp t.mask n x).1 - (lp t.mask n x).1+1)≤_;lia
   ·rw[rq,e,dE t _ _ rfl rfl,jJ];rfl
theorem iR (t:SetTable)(p:SetTable.Probe):(t.advance p).dummy=p.dummy:=by
 unfold SetTable.advance
 split <;> rfl
theorem kZ {t:SetTable}(hd:t.dummies=#[])(j:Nat):t.slot j=.empty∨∃i,t.slot j=.live i:=by
 unfold SetTable.slot;dsimp only;split
 ·exact .inr ⟨_,rfl⟩
 ·rw[hd,sah (by simp[SetTable.has])];exact .inl rfl
theorem qi {t:SetTable}(hd:t.dummies=#[]){j:Nat}(h:j∉t.place.toList):t.slot j=.empty:=by
 rcases kZ hd j with e|⟨i,e⟩
 ·exact e
 ·unfold SetTable.slot at e;dsimp only at e;split at e
  ·rename_i hb;have hb':t.place[SetTable.below t.place j]?=some j:=by simpa using hb
   rw[←saG]at hb';exact absurd (saD hb') h
  ·rw[hd,sah (by simp[SetTable.has])]at e;cases e
structure TabOk (t:SetTable)(n:Nat):Prop where
 plain:t.plain=true
 dummies:t.dummies=#[]
 size:t.place.size=n
 rise:t.place.toList.Pairwise (· < ·)
 mask:(t.mask=7∧n<5)∨(t.mask=31∧n<19)
theorem TabOk.lcAll {t:SetTable}{n:Nat}(h:TabOk t n):lcAll t.mask=true:=by
 rcases h.mask with⟨e,_⟩|⟨e,_⟩ <;> rw[e]
 ·exact U5
 ·exact cL
theorem ip {xs:Array Nat}{j:Nat}(hr:xs.toList.Pairwise (· < ·)):∀(fuel lo hi:Nat),hi - lo≤fuel→lo≤hi→hi≤xs.size→(∀i x,i<lo→xs[i]?=some x→x<j)→(∀i x,hi≤i→xs[i]?=some x→j≤x) →
 SetTable.below.go xs j fuel lo hi≤xs.size∧(∀i x,i<SetTable.below.go xs j fuel lo hi→xs[i]?=some x→x<j)∧(∀i x,SetTable.below.go xs j fuel lo hi≤i→xs[i]?=some x→j≤x)
 | 0,lo,hi,h1,h2,h3,h4,h5=>by
   have:lo=hi:=by lia
   subst this;exact⟨h3,h4,h5⟩
 | fuel+1,lo,hi,h1,h2,h3,h4,h5=>by
   unfold SetTable.below.go;by_cases hlt:lo<hi
   ·rw[saf hlt];dsimp only;have hmid:(lo+hi) / 2<xs.size:=by lia
    have hrel:∀(a b x y:Nat),a<b→xs[a]?=some x→xs[b]?=some y→x<y:=by
     intro a b x y hab ha hb;rw[←saG]at ha hb;obtain⟨ha1,rfl⟩:=sak.mp ha;obtain⟨hb1,rfl⟩:=sak.mp hb;exact sbC.mp hr a b ha1 hb1 hab
    have hg:xs.getD ((lo+hi) / 2) j=xs[(lo+hi) / 2]:=by simp[Array.getD,hmid]
    rw[hg];by_cases hc:xs[(lo+hi) / 2]<j
    ·rw[saf hc];refine ip hr fuel _ hi (by lia) (by lia) h3 (fun i x hi' hx=>?_) h5;by_cases hi2:i=(lo+hi) / 2
     ·subst hi2;rw[sar hmid]at hx;cases hx;exact hc
     ·have:=hrel i ((lo+hi) / 2) x _ (by lia) hx (sar hmid);lia
    ·rw[sah hc];refine ip hr fuel lo _ (by lia) (by lia) (by lia) h4 (fun i x hi' hx=>?_);by_cases hi2:i=(lo+hi) / 2
     ·subst hi2;rw[sar hmid]at hx;cases hx;lia
     ·have:=hrel ((lo+hi) / 2) i _ x (by lia) (sar hmid) hx;lia
   ·rw[sah hlt];have:lo=hi:=by lia
    subst this;exact⟨h3,h4,h5⟩
theorem bN {xs:Array Nat}(j:Nat)(hr:xs.toList.Pairwise (· < ·)) :
 SetTable.below xs j≤xs.size∧(∀i x,i<SetTable.below xs j→xs[i]?=some x→x<j)∧(∀i x,SetTable.below xs j≤i→xs[i]?=some x→j≤x) :=
 ip hr xs.size 0 xs.size (by lia) (by lia) (Nat.le_refl _) (fun _ _ h=>absurd h (Nat.not_lt_zero _)) fun i x h hx=>by
  rw[sbd h]at hx;cases hx
theorem SD {t:SetTable}{n j:Nat}(T:TabOk t n)(hs:t.slot j=.empty):(t.put j).1={t with place:=SetTable.insertAt t.place (t.put j).2 j}∧(SetTable.insertAt t.place (t.put j).2 j).toList.Pairwise (· < ·)∧(t.put j).2≤n:=by
 have hp:(t.put j).2=SetTable.below t.place j:=rfl;obtain⟨b1,b2,b3⟩:=bN j T.rise;refine⟨?_,?_,by rw[hp,←T.size];exact b1⟩
 ·unfold SetTable.put;dsimp only;rw[T.dummies,sah (by simp[SetTable.has])]
 ·rw[hp,scd]
  have hne:t.place[SetTable.below t.place j]?≠some j:=by
   unfold SetTable.slot at hs;dsimp only at hs;split at hs
   ·cases hs
   ·rename_i hb;simpa using hb
  have hrel:∀(a b x y:Nat),a<b→t.place[a]?=some x→t.place[b]?=some y→x<y:=by
   intro a b x y hab ha hb;rw[←saG]at ha hb;obtain⟨ha1,rfl⟩:=sak.mp ha;obtain⟨hb1,rfl⟩:=sak.mp hb;exact sbC.mp T.rise a b ha1 hb1 hab
  have hlow:∀x∈t.place.toList.take (SetTable.below t.place j),x<j:=by
   intro x hx;obtain⟨i,hi⟩:=saT hx;rw[List.getElem?_take]at hi;split at hi
   ·rename_i h1;rw[saG]at hi;exact b2 i x h1 hi
   ·cases hi
  have hhigh:∀x∈t.place.toList.drop (SetTable.below t.place j),j<x:=by
   intro x hx;obtain⟨i,hi⟩:=saT hx;rw[List.getElem?_drop,saG]at hi;have h1:=b3 (SetTable.below t.place j+i) x (by lia) hi
   rcases Nat.lt_or_eq_of_le h1 with h2|h2
   ·exact h2
   ·subst h2;exfalso
    cases i with
    |zero=>exact hne hi
    | succ i=>
      have hb:SetTable.below t.place j<t.place.size:=by
       have:=sby.mp hi;obtain⟨q,_⟩:=this;lia
      have q1:=b3 _ _ (Nat.le_refl _) (sar hb);have q2:=hrel _ _ _ _ (show SetTable.below t.place j<SetTable.below t.place j+(i+1)by lia) (sar hb) hi;lia
  rw[List.pairwise_append];refine⟨T.rise.sublist (List.take_sublist _ _),?_,?_⟩
  ·rw[saC];exact⟨hhigh,T.rise.sublist (List.drop_sublist _ _)⟩
  ·intro a ha b hb
   rcases saj.mp hb with rfl|hb
   ·exact hlow a ha
   ·exact Nat.lt_trans (hlow a ha) (hhigh b hb)
theorem hV:∀(l:List (Option Nat)) (j k:Nat),l[j]?=some none→List.Perm ((l.set j (some k)).filterMap id) (k::l.filterMap id)
 |[],j,k,h=>by simp at h
 | a::l,0,k,h=>by
   simp at h;subst h;simp
 | a::l,j+1,k,h=>by
   have ih:=hV l j k (by simpa using h)
   cases a with
   |none=>simpa using ih
   | some b=>
     simp only[List.set_cons_succ,List.filterMap_cons,id];exact(ih.cons b).trans (.swap k b _)
theorem aE {owner:Array (Option Nat)}{n k:Nat}(hs:owner.size=n)(hp:List.Perm (owner.toList.filterMap id) (List.range k))(hk:k<n):∃e,e<n∧owner[e]?=some none:=by
 refine scx fun hc=>?_
 have hall:∀a∈owner.toList,a≠none:=by
  intro a ha z;subst z;obtain⟨i,hi⟩:=saT ha;rw[saG]at hi;obtain⟨q,_⟩:=sby.mp hi;exact hc ⟨i,by lia,hi⟩
 have hlen:∀l:List (Option Nat),(∀a∈l,a≠none)→(l.filterMap id).length=l.length:=by
  intro l
  induction l with
  |nil=>intro _;rfl
  | cons a l ih=>
    intro h
    cases a with
    |none=>exact absurd rfl (h none (.head _))
    | some b=>
      simp only[List.filterMap_cons,id,List.length_cons];rw[ih fun a ha=>h a (.tail _ ha)]
 have h1:=hlen owner.toList hall;rw[hp.length_eq,sck,Array.length_toList]at h1;lia
theorem jR {mask e:Nat}{owner:Array (Option Nat)}(he:owner[e]?=some none):∀(n fuel:Nat) (i p:Nat),n<fuel→(lp mask n (i,p)).1=e→∃j,SetTable.layClean.free mask owner fuel i p=some j∧owner[j]?=some none
 |n,0,i,p,h,_=>absurd h (Nat.not_lt_zero _)
 | n,fuel+1,i,p,h,hq=>by
   unfold SetTable.layClean.free
   cases hf:(List.range (SetTable.runEnd mask i+1 - i)).find? fun k=>(owner.getD (i+k) (some 0)).isNone with
   | some k=>
     dsimp only;refine⟨i+k,rfl,?_⟩;have:=List.find?_some hf;simp only[Option.isNone_iff_eq_none]at this;by_cases hb:i+k<owner.size
     ·rw[sar hb];simp only[Array.getD,hb,dite_true]at this;simpa using this
     ·simp[Array.getD,hb]at this
   | none=>
     dsimp only
     cases n with
     | zero=>
       exfalso;have:i=e:=hq;subst this;rw[List.find?_eq_none]at hf;have h1:=hf 0 (sbb.mpr (by unfold SetTable.runEnd;split <;> lia));apply h1;obtain⟨q,q2⟩:=sby.mp he;simp[Array.getD,q,q2]
     |succ n=>exact jR he n fuel _ _ (by lia) hq
theorem cN (hs:List Int):∀(owner:Array (Option Nat)) (k:Nat),owner.size=32→List.Perm (owner.toList.filterMap id) (List.range k)→k+hs.length<32 →
 ∃ owner',(hs.foldl (init:=some (owner,k)) fun acc h=>do
   let (owner,k) ← acc
   let j ← SetTable.layClean.free 31 owner (SetTable.turns 31) (SetTable.bits h%(31+1)) (SetTable.bits h)
   pure (owner.setIfInBounds j (some k),k+1))=some (owner',k+hs.length)∧owner'.size=32∧List.Perm (owner'.toList.filterMap id) (List.range (k+hs.length)):=by
 induction hs with
 |nil=>intro owner k h1 h2 h3;exact⟨owner,rfl,h1,h2⟩
 | cons h hs ih=>
   intro owner k h1 h2 h3;obtain⟨e,he1,he2⟩:=aE h1 h2 (by lia)
   have hi:SetTable.bits h%(31+1)≤31:=by
    have:=Nat.mod_lt (SetTable.bits h) (show 0<31+1 by lia);lia
   obtain⟨n,hn1,hn2⟩:=Yh (h:=h) cL hi (show e≤31 by lia);obtain⟨j,hj1,hj2⟩:=jR he2 n (SetTable.turns 31) _ _ (by unfold SetTable.turns;lia) hn2;have hjl:j<owner.size:=(sby.mp hj2).1
   obtain⟨o',e1,e2,e3⟩:=ih (owner.setIfInBounds j (some k)) (k+1) (by simpa using h1) (by
    have hp:=hV owner.toList j k (by rw[saG];exact hj2);have:(owner.setIfInBounds j (some k)).toList=owner.toList.set j (some k):=by simp
    rw[this,List.range_succ]
    exact hp.trans ((h2.cons k).trans (List.perm_append_singleton k _).symm)) (by simp at h3;lia)
   refine⟨o',?_,e2,?_⟩
   ·rw[List.foldl_cons]
    have:(do
     let (owner,k) ← some (owner,k)
     let j ← SetTable.layClean.free 31 owner (SetTable.turns 31) (SetTable.bits h%(31+1)) (SetTable.bits h)
     pure (owner.setIfInBounds j (some k),k+1))=some (owner.setIfInBounds j (some k),k+1):=by
     show(SetTable.layClean.free 31 owner (SetTable.turns 31) (SetTable.bits h%(31+1)) (SetTable.bits h)).bind _=_;rw[hj1];rfl
    rw[this,e1];simp[Nat.add_assoc,Nat.add_comm 1]
   ·have:k+(h::hs).length=k+1+hs.length:=by simp;lia
    rw[this];exact e3
theorem Vp (owner:Array (Option Nat))(n:Nat):(((List.range n).filterMap fun j=>(owner.getD j none).map (j,·)).map (·.1)).Pairwise (· < ·):=by
 rw[sbE,List.pairwise_filterMap];refine List.Pairwise.imp ?_ List.pairwise_lt_range;intro a b hab x hx y hy
 cases q1:owner.getD a none with
 |none=>rw[q1]at hx;cases hx
 | some u=>
   cases q2:owner.getD b none with
   |none=>rw[q2]at hy;cases hy
   |some v=>rw[q1]at hx;rw[q2]at hy;cases hx;cases hy;exact hab
theorem Vo (owner:Array (Option Nat)):(((List.range owner.size).filterMap fun j=>(owner.getD j none).map (j,·)).map (·.2))=owner.toList.filterMap id:=by
 rw[List.map_filterMap]
 have h1:owner.toList=(List.range owner.size).map fun j=>owner.getD j none:=by
  apply List.ext_getElem?;intro i;rw[saG,sav];by_cases hi:i<owner.size
  ·rw[List.getElem?_range hi,sar hi];simp[Array.getD,hi]
  ·rw[sbd (by lia),sbZ (by simpa using hi)];rfl
 rw[h1,List.filterMap_map];congr 1
 funext j
 simp only[Function.comp]
 cases owner.getD j none <;> rfl
structure SetAt (w:World)(h:Heap)(a:Addr)(es:Array (Int×Value))(ep:Nat)(t:SetTable):Prop where
 ex:∃o:Obj,h.get? a=some o∧o.ExactSet∧o.data=.set es ep t
 tab:TabOk t es.size
 led:t.led = !w.params.followText "set-order"
theorem TabOk.fits {t:SetTable}{n:Nat}(T:TabOk t n):t.fits n=true:=by
 unfold SetTable.fits SetTable.fill;rw[T.size,T.dummies]
 rcases T.mask with⟨q,_⟩|⟨q,_⟩ <;> rw[q] <;> simp <;> lia
theorem SetAt.keep {w:World}{h h':Heap}{a:Addr}{es:Array (Int×Value)}{ep:Nat}{t:SetTable}(S:SetAt w h a es ep t)(hk:∀o,h.get? a=some o→h'.get? a=some o):SetAt w h' a es ep t:=by
 obtain⟨o,ho,r⟩:=S.ex;exact⟨⟨o,hk o ho,r⟩,S.tab,S.led⟩
theorem SetAt.store {w:World}{h:Heap}{a:Addr}{es:Array (Int×Value)}{ep:Nat}{t:SetTable}(S:SetAt w h a es ep t){es':Array (Int×Value)}{t':SetTable}(T:TabOk t' es'.size)(hl:t'.led=t.led) :
 SetAt w (h.update a (Obj.putSet es' t')) a es' (ep+1) t':=by
 obtain⟨o,ho,hx,hd⟩:=S.ex
 have hg:(h.update a (Obj.putSet es' t')).get? a=some {o with data:=.set es' (ep+1) t'}:=by
  have:=saV (Obj.putSet es' t') ho (by rw[putSet_of es' t' hd];rfl);rw[putSet_of es' t' hd]at this;exact this
 exact⟨⟨_,hg,hx,rfl⟩,T,hl.trans S.led⟩
section
variable {prog:Program}{w:World}{A:Around}{E:Value→Shared→Prop}{s:Shared}
end
noncomputable def met (ns:List Int):List Int:=ns.foldl (fun σ k=>if k∈σ then σ else σ++[k]) []
theorem nS (ns:List Int)(k:Int):met (ns++[k])=if k∈met ns then met ns else met ns++[k]:=by
 unfold met;rw[saR];rfl
section
variable {prog:Program}{w:World}{A:Around}{R:Result→Shared→Prop}{I:Addr}{fp wr:List Addr}{G:Array GenState→Array GenState→Prop}{P:Nat→Value→Prop}{St:Nat→Shared→Prop}
end
section
variable {prog:Program}{w:World}{A:Around}{E:Value→Shared→Prop}{s:Shared}
theorem WA (a:Value){Q₁:Value→Shared→Prop}
 (h:Q₁ (.ref s.heap.objs.size) {s with heap:=s.heap.push {cls:=.type "set",dict:=none,data:=.set #[] 0 (.fresh 0 0 (!w.params.followText "set-order"))}}) :
 codeAny (model prog w) A (.call (.builtin "set.__new__") ⟨[.type "set",a],[]⟩) (wants Q₁ E) s:=by
 refine codeAny_of_tree ?_;show wpAny _ A.in1 (do checkBuiltinCall "set.__new__" ⟨[.type "set",a],[]⟩;again (.builtin "set.__new__" ⟨[.type "set",a],[]⟩)) _ _ s;refine saa (wpAny_of_eq (F.newCall_set_1 a) (sac ⟨scn F.plain_set_new _,sbT F.entry_set_new ?_⟩));rw[sbz F.plain_set_new _];unfold Builtin.«set.__new__» Builtin.Frozenset.newClass;have hsub:=sub_set_self;obtain⟨hp,g,d,tk,os⟩:=s;dsimp only
 wp_walk
 refine wpAny_askSetting (sac ?_);dsimp only;simp only[newObj];refine saa (wpAny_alloc (sac ?_));exact sac h
theorem XF (led:Bool):TabOk (.fresh 0 0 led) 0:=⟨rfl,rfl,rfl,List.Pairwise.nil,.inl ⟨rfl,by lia⟩⟩
end
section
variable {prog:Program}{w:World}{A:Around}{E:Value→Shared→Prop}{s:Shared}{a:Addr}{es:Array (Int×Value)}{ep:Nat}{tb:SetTable}
theorem sI (S:SetAt w s.heap a es ep tb){Q:(Array (Int×Value)×Nat×SetTable)→Shared→Prop}(h:Q (es,ep,tb) s):wpAny (model prog w) A (setState a) Q E s:=by
 obtain⟨o,ho,hx,hd⟩:=S.ex;exact wpAny_setState_of ho hd S.tab.fits h
end
theorem ek (P:List Int→Prop)(h0:P [])(h1:∀l k,P l→P (l++[k])):∀l,P l:=by
 intro l
 have:∀(n:Nat) (l:List Int),l.length=n→P l:=by
  intro n
  induction n with
  |zero=>intro l h;rw[sbg h];exact h0
  | succ n ih=>
    intro l h
    rcases List.eq_nil_or_concat l with e|⟨m,t,e⟩
    ·subst e;simp at h
    ·have e':l=m++[t]:=by simpa using e
     rw[e']at h ⊢;exact h1 m t (ih m (by simp at h;exact h))
 exact this _ l rfl
theorem Yd (ns:List Int):∀k,k∈met ns↔k∈ns:=by
 refine ek (fun ns=>∀k,k∈met ns↔k∈ns) (fun k=>Iff.rfl) (fun l k ih x=>?_) ns;rw[nS];split
 ·rename_i h;rw[ih x,san,sag];constructor
  ·exact .inl
  ·rintro(h'|rfl)
   ·exact h'
   ·exact(ih _).mp h
 ·rw[san,san,ih x]
theorem Xp (ns:List Int):(met ns).Nodup:=by
 refine ek (fun ns=>(met ns).Nodup) List.nodup_nil (fun l k ih=>?_) ns;rw[nS];split
 ·exact ih
 ·rename_i h;rw[scA];refine⟨ih,by simp,fun a ha b hb=>?_⟩;rw[sag]at hb;subst hb;exact fun z=>h (z ▸ ha)
theorem uB:∀(n:Nat) (l:List Int),l.length≤n→l.eraseDups.Nodup
 | 0,l,h=>by rw[sbg (Nat.le_zero.mp h)];simp
 |n+1,[],_=>by simp
 | n+1,a::l,h=>by
   rw[List.eraseDups_cons,sbl];have hl:=sbG (fun b=> !b == a) l;refine⟨fun hm=>?_,uB n _ (by simp at h;lia)⟩;rw[List.mem_eraseDups,saK]at hm;simp at hm
theorem Ua {t t':SetTable}(h:t.mask=t'.mask)(p:SetTable.Probe):t.advance p=t'.advance p:=by
 unfold SetTable.advance;rw[h]
theorem fq {t t':SetTable}(h:t.mask=t'.mask):∀(n:Nat) (p:SetTable.Probe),qW t n p=qW t' n p
 | 0,p=>rfl
 | n+1,p=>by
   show qW t n (t.advance p)=qW t' n (t'.advance p);rw[Ua h,fq h n]
noncomputable def xO (t:SetTable)(h:Int)(n:Nat):SetTable.Probe:=qW t n (t.probeStart h)
theorem nG {t t':SetTable}(h:t.mask=t'.mask)(x:Int)(n:Nat):xO t x n=xO t' x n:=by
 unfold xO;have:t.probeStart x=t'.probeStart x:=by unfold SetTable.probeStart;rw[h]
 rw[this,fq h]
theorem nF (t:SetTable)(h:Int)(n:Nat):xO t h (n+1)=t.advance (xO t h n):=rq t n 1 _
theorem gc (t:SetTable)(h:Int):∀n,(xO t h n).dummy=none
 | 0=>rfl
 |n+1=>by rw[nF,iR,gc t h n]
theorem Y3 {t:SetTable}{j i:Nat}(h:t.slot j=.live i):t.place[i]?=some j:=by
 unfold SetTable.slot at h;dsimp only at h;split at h
 ·rename_i hb;cases h;simpa using hb
 ·split at h <;> cases h
theorem p0 {t:SetTable}(hr:t.place.toList.Pairwise (· < ·)){j i:Nat}(h:t.place[i]?=some j):t.slot j=.live i:=by
 obtain⟨b1,b2,b3⟩:=bN j hr
 have hrel:∀(a b x y:Nat),a<b→t.place[a]?=some x→t.place[b]?=some y→x<y:=by
  intro a b x y hab ha hb;rw[←saG]at ha hb;obtain⟨ha1,rfl⟩:=sak.mp ha;obtain⟨hb1,rfl⟩:=sak.mp hb;exact sbC.mp hr a b ha1 hb1 hab
 have e:SetTable.below t.place j=i:=by
  rcases Nat.lt_trichotomy (SetTable.below t.place j) i with hlt|heq|hgt
  ·have hi:i<t.place.size:=(sby.mp h).1;have q:=b3 _ _ (Nat.le_refl _) (sar (show SetTable.below t.place j<t.place.size by lia));have:=hrel _ _ _ _ hlt (sar (show SetTable.below t.place j<t.place.size by lia)) h;lia
  ·exact heq
  ·have:=b2 i j hgt h;lia
 unfold SetTable.slot;dsimp only;rw[e,h];simp
theorem qC {t:SetTable}(hd:t.dummies=#[])(hr:t.place.toList.Pairwise (· < ·))(j:Nat):t.slot j=.empty↔j∉t.place.toList:=by
 constructor
 ·intro h hm;obtain⟨i,hi⟩:=saT hm;rw[saG]at hi;rw[p0 hr hi]at h;cases h
 ·exact qi hd
theorem aC {t:SetTable}{n:Nat}(T:TabOk t n)(h:Int):∃k,k<10*SetTable.turns t.mask∧t.slot (xO t h k).j=.empty:=by
 obtain⟨e,he,hm⟩:=br t.place.toList (t.mask+1) (by rw[Array.length_toList,T.size];rcases T.mask with⟨q,_⟩|⟨q,_⟩ <;> lia)
 have hi:SetTable.bits h%(t.mask+1)≤t.mask:=by
  have:=Nat.mod_lt (SetTable.bits h) (show 0<t.mask+1 by lia);lia
 obtain⟨m,hm1,hm2⟩:=Yh (h:=h) T.lcAll hi (show e≤t.mask by lia);obtain⟨k,hk1,hk2⟩:=fo t (SetTable.bits h%(t.mask+1),SetTable.bits h) m;refine⟨k,by unfold SetTable.turns;lia,?_⟩;show t.slot (qW t k (su t (SetTable.bits h%(t.mask+1),SetTable.bits h))).j=.empty;rw[hk2];show t.slot (lp t.mask m _).1=.empty;rw[hm2];exact qi T.dummies hm
theorem QB {P:Nat→Prop}:∀n,P n→∃m,m≤n∧P m∧∀k,k<m→¬P k:=by
 intro n
 induction n using Nat.strongRecOn with
 | _ n ih=>
   intro h;by_cases q:∃k,k<n∧P k
   ·obtain⟨k,hk,hp⟩:=q;obtain⟨m,h1,h2,h3⟩:=ih k hk hp;exact⟨m,by lia,h2,h3⟩
   ·exact⟨n,Nat.le_refl _,h,fun k hk hp=>q ⟨k,hk,hp⟩⟩
theorem cZ {t:SetTable}{n:Nat}(T:TabOk t n)(h:Int):∃N,N<10*SetTable.turns t.mask∧t.slot (xO t h N).j=.empty∧∀m,m<N→t.slot (xO t h m).j≠.empty:=by
 obtain⟨k,hk,e⟩:=aC T h;obtain⟨m,h1,h2,h3⟩:=QB (P:=fun k=>t.slot (xO t h k).j=.empty) k e;exact⟨m,by lia,h2,h3⟩
theorem Yo {t:SetTable}{h:Int}{ha:Nat→Int}{N:Nat}(hd:t.dummies=#[])(he:t.slot (xO t h N).j=.empty)(hf:∀m,m<N→t.slot (xO t h m).j≠.empty):∀(d m fuel:Nat),N - m=d→m≤N→d<fuel →
 (∃n i,m≤n∧n<N∧t.slot (xO t h n).j=.live i∧ha i=h∧SetTable.probe.go t ha h fuel (xO t h m)=some (.candidate (xO t h n).j i (xO t h (n+1)))∧∀n',m≤n'→n' < n→∀i',t.slot (xO t h n').j=.live i'→ha i'≠h) ∨
 (SetTable.probe.go t ha h fuel (xO t h m)=some (.empty (xO t h N).j none)∧∀n',m≤n'→n' < N→∀i',t.slot (xO t h n').j=.live i'→ha i'≠h)
 |d,m,0,_,_,hz=>absurd hz (Nat.not_lt_zero _)
 | 0,m,fuel+1,e,hm,hz=>by
   have:m=N:=by lia
   subst this;refine .inr ⟨?_,fun n' h1 h2=>by lia⟩;unfold SetTable.probe.go;rw[he];simp[gc]
 | d+1,m,fuel+1,e,hm,hz=>by
   have hlt:m<N:=by lia
   rcases kZ hd (xO t h m).j with q|⟨i,q⟩
   ·exact absurd q (hf m hlt)
   ·by_cases hi:ha i=h
    ·refine .inl ⟨m,i,Nat.le_refl _,hlt,q,hi,?_,fun n' h1 h2=>by lia⟩;unfold SetTable.probe.go;rw[q];simp only[hi,beq_self_eq_true,if_true];rw[nF]
    ·have step:SetTable.probe.go t ha h (fuel+1) (xO t h m)=SetTable.probe.go t ha h fuel (xO t h (m+1)):=by
      conv=>lhs;unfold SetTable.probe.go
      rw[q];have:(ha i == h)=false:=by simpa using hi
      simp only[this];rw[nF];rfl
     rw[step]
     have hm0:∀i',t.slot (xO t h m).j=.live i'→ha i'≠h:=fun i' q'=>by
      rw[q]at q';cases q';exact hi
     rcases Yo hd he hf d (m+1) fuel (by lia) (by lia) (by lia)with⟨n,i2,h1,h2,h3,h4,h5,h6⟩|⟨h1,h2⟩
     ·refine .inl ⟨n,i2,by lia,h2,h3,h4,h5,fun n' q1 q2=>?_⟩;by_cases qe:n'=m
      ·rw[qe];exact hm0
      ·exact h6 n' (by lia) q2
     ·refine .inr ⟨h1,fun n' q1 q2=>?_⟩;by_cases qe:n'=m
      ·rw[qe];exact hm0
      ·exact h2 n' (by lia) q2
noncomputable def RI (t:SetTable)(hs:List Int):Prop:=∀q∈hs.zip t.place.toList,∃m,(xO t q.1 m).j=q.2∧∀m',m' < m→(xO t q.1 m').j∈t.place.toList
theorem RI.nil {t:SetTable}:RI t []:=fun q h=>by simp at h
theorem Ul {α β:Type}(l:List α)(m:List β)(p:Nat)(x:α)(y:β)(h:l.length=m.length):∀q∈(l.take p++x::l.drop p).zip (m.take p++y::m.drop p),q=(x,y)∨q∈l.zip m:=by
 intro q hq;rw[List.zip_append (by simp[h])]at hq
 rcases san.mp hq with hq|hq
 ·refine .inr ?_;rw[List.zip_eq_zipWith,←List.take_zipWith]at hq;rw[List.zip_eq_zipWith];exact List.mem_of_mem_take hq
 ·rw[List.zip_cons_cons]at hq
  rcases saj.mp hq with hq|hq
  ·exact .inl hq
  ·refine .inr ?_;rw[List.zip_eq_zipWith,←List.drop_zipWith]at hq;rw[List.zip_eq_zipWith];exact List.mem_of_mem_drop hq
theorem RI.put {t:SetTable}{hs:List Int}{h:Int}{N p:Nat}(R:RI t hs)(hl:hs.length=t.place.size)(hd:t.dummies=#[])(hr:t.place.toList.Pairwise (· < ·))(hf:∀m,m<N→t.slot (xO t h m).j≠.empty) :
 RI {t with place:=SetTable.insertAt t.place p (xO t h N).j} (hs.take p++h::hs.drop p):=by
 intro q hq;have em:({t with place:=SetTable.insertAt t.place p (xO t h N).j}:SetTable).mask=t.mask:=rfl
 have hin:∀x,x∈t.place.toList→x∈(SetTable.insertAt t.place p (xO t h N).j).toList:=fun x hx=>by
  rw[scd,san,saj];rw[←List.take_append_drop p t.place.toList,san]at hx
  rcases hx with hx|hx
  ·exact .inl hx
  ·exact .inr (.inr hx)
 have hq':q=(h,(xO t h N).j)∨q∈hs.zip t.place.toList:=by
  refine Ul hs t.place.toList p h (xO t h N).j (by simpa using hl) q ?_;have hq2:=hq;rw[show(({t with place:=SetTable.insertAt t.place p (xO t h N).j}:SetTable).place.toList)=t.place.toList.take p++(xO t h N).j::t.place.toList.drop p from scd _ _ _]at hq2;exact hq2
 rcases hq' with rfl|hq'
 ·refine⟨N,by rw[nG em],fun m' hm'=>?_⟩;rw[nG em];refine hin _ (scx fun hn=>hf m' hm' ?_);exact(qC hd hr _).mpr hn
 ·obtain⟨m,h1,h2⟩:=R q hq';refine⟨m,by rw[nG em];exact h1,fun m' hm'=>?_⟩;rw[nG em];exact hin _ (h2 m' hm')
theorem fM (t:SetTable)(x:Nat×Nat):∀k,k≤(su t x).more→(qW t k (su t x))={su t x with j:=x.1+k,more:=(su t x).more - k}
 | 0,_=>rfl
 | k+1,hk=>by
   have ih:=fM t x k (by lia);rw[rq t k 1];show t.advance (qW t k (su t x))=_;rw[ih];unfold SetTable.advance;rw[saf (by show(su t x).more - k>0;lia)];simp only[SetTable.Probe.mk.injEq,and_true,true_and];exact⟨by lia,by lia⟩
theorem gH (t:SetTable){owner:Array (Option Nat)}:∀(fuel:Nat) (x:Nat×Nat) (j:Nat),SetTable.layClean.free t.mask owner fuel x.1 x.2=some j →
 ∃m,(qW t m (su t x)).j=j∧∀m',m' < m→(owner.getD (qW t m' (su t x)).j (some 0)).isNone=false
 | 0,x,j,h=>by cases h
 | fuel+1,x,j,h=>by
   unfold SetTable.layClean.free at h;have hmore:(su t x).more=SetTable.runEnd t.mask x.1 - x.1:=rfl
   have hge:x.1≤SetTable.runEnd t.mask x.1:=by unfold SetTable.runEnd;split <;> lia
   cases hf:(List.range (SetTable.runEnd t.mask x.1+1 - x.1)).find? fun k=>(owner.getD (x.1+k) (some 0)).isNone with
   | some k=>
     rw[hf]at h;dsimp only at h;cases h;have hk:=sbb.mp (List.mem_of_find?_eq_some hf);refine⟨k,by rw[fM t x k (by lia)],fun m' hm'=>?_⟩;rw[fM t x m' (by lia)];have:=List.find?_range_eq_some.mp hf;have q:=this.2.2 m' hm';simpa using q
   | none=>
     rw[hf]at h;dsimp only at h;obtain⟨m,h1,h2⟩:=gH t fuel (SetTable.leap t.mask x.1 x.2) j h;have hrun:=dE t (su t x).more (su t x) rfl rfl;refine⟨(su t x).more+1+m,by rw[rq,hrun];exact h1,fun m' hm'=>?_⟩;by_cases hlt:m' < (su t x).more+1
     ·rw[fM t x m' (by lia)];have:=List.find?_eq_none.mp hf m' (sbb.mpr (by lia));exact Bool.eq_false_iff.mpr this
     ·have e:m'=(su t x).more+1+(m' - ((su t x).more+1)):=by lia
      rw[e,rq,hrun];exact h2 _ (by lia)
theorem lS {mask i:Nat}(h:i≤mask):SetTable.runEnd mask i≤mask:=by
 unfold SetTable.runEnd;split <;> lia
theorem WO (t:SetTable)(h:Int):∀n,(xO t h n).j+(xO t h n).more≤t.mask
 | 0=>by
   have hi:SetTable.bits h%(t.mask+1)≤t.mask:=by
    have:=Nat.mod_lt (SetTable.bits h) (show 0<t.mask+1 by lia);lia
   have h1:=lS hi;show SetTable.bits h%(t.mask+1)+(SetTable.runEnd t.mask (SetTable.bits h%(t.mask+1)) - SetTable.bits h%(t.mask+1))≤t.mask;lia
 | n+1=>by
   have ih:=WO t h n;rw[nF];unfold SetTable.advance;split
   ·show(xO t h n).j+1+((xO t h n).more - 1)≤t.mask;lia
   ·show(SetTable.leap t.mask (xO t h n).i (xO t h n).perturb).1+(SetTable.runEnd t.mask (SetTable.leap t.mask (xO t h n).i (xO t h n).perturb).1 - (SetTable.leap t.mask (xO t h n).i (xO t h n).perturb).1)≤t.mask
    have hi:(SetTable.leap t.mask (xO t h n).i (xO t h n).perturb).1≤t.mask:=by
     simp only[SetTable.leap];have:=Nat.mod_lt ((xO t h n).i*5+1+(xO t h n).perturb / 32) (show 0<t.mask+1 by lia);lia
    have h1:=lS hi;lia
noncomputable def Sd (t:SetTable)(all:List Int)(owner:Array (Option Nat)):Prop:=∀j k,owner[j]?=some (some k)→∃h m,all[k]?=some h∧(xO t h m).j=j∧∀m',m' < m→(owner.getD (xO t h m').j (some 0)).isNone=false
theorem eE (t:SetTable)(ht:t.mask=31)(all:List Int):∀(hs:List Int) (owner:Array (Option Nat)) (k:Nat) (owner':Array (Option Nat)) (k':Nat),all.drop k=hs→Sd t all owner →
 (hs.foldl (init:=some (owner,k)) fun acc h=>do
  let (owner,k) ← acc
  let j ← SetTable.layClean.free 31 owner (SetTable.turns 31) (SetTable.bits h%(31+1)) (SetTable.bits h)
  pure (owner.setIfInBounds j (some k),k+1))=some (owner',k')→Sd t all owner':=by
 intro hs
 induction hs with
 |nil=>intro owner k owner' k' _ ho e;cases e;exact ho
 | cons h hs ih=>
   intro owner k owner' k' hall ho e;rw[List.foldl_cons]at e
   have hk:all[k]?=some h:=by
    have:(all.drop k)[0]?=some h:=by rw[hall];rfl
    simpa using this
   cases hj:SetTable.layClean.free 31 owner (SetTable.turns 31) (SetTable.bits h%(31+1)) (SetTable.bits h)with
   | none=>
     exfalso
     have z:(do
      let (owner,k) ← some (owner,k)
      let j ← SetTable.layClean.free 31 owner (SetTable.turns 31) (SetTable.bits h%(31+1)) (SetTable.bits h)
      pure (owner.setIfInBounds j (some k),k+1))=(none:Option (Array (Option Nat)×Nat)):=by
      show(SetTable.layClean.free 31 owner (SetTable.turns 31) (SetTable.bits h%(31+1)) (SetTable.bits h)).bind _=_;rw[hj];rfl
     rw[z]at e
     have dead:∀l:List Int,(l.foldl (init:=(none:Option (Array (Option Nat)×Nat))) fun acc h=>do
      let (owner,k) ← acc
      let j ← SetTable.layClean.free 31 owner (SetTable.turns 31) (SetTable.bits h%(31+1)) (SetTable.bits h)
      pure (owner.setIfInBounds j (some k),k+1))=none:=by
      intro l
      induction l with
      |nil=>rfl
      |cons a l ih=>exact ih
     rw[dead]at e;cases e
   | some j=>
     have z:(do
      let (owner,k) ← some (owner,k)
      let j ← SetTable.layClean.free 31 owner (SetTable.turns 31) (SetTable.bits h%(31+1)) (SetTable.bits h)
      pure (owner.setIfInBounds j (some k),k+1))=some (owner.setIfInBounds j (some k),k+1):=by
      show(SetTable.layClean.free 31 owner (SetTable.turns 31) (SetTable.bits h%(31+1)) (SetTable.bits h)).bind _=_;rw[hj];rfl
     rw[z]at e;refine ih (owner.setIfInBounds j (some k)) (k+1) owner' k' ?_ ?_ e
     ·have:all.drop (k+1)=(all.drop k).drop 1:=by rw[List.drop_drop]
      rw[this,hall];rfl
     ·have grow:∀x,(owner.getD x (some 0)).isNone=false→((owner.setIfInBounds j (some k)).getD x (some 0)).isNone=false:=by
       intro x hx;rw[Array.getD_eq_getD_getElem?,Array.getElem?_setIfInBounds];split
       ·split <;> rfl
       ·rw[←Array.getD_eq_getD_getElem?];exact hx
      intro j' k1 hjk;rw[Array.getElem?_setIfInBounds]at hjk;split at hjk
      ·rename_i hjj;split at hjk
       ·cases hjk;subst hjj;have hj':SetTable.layClean.free t.mask owner (SetTable.turns 31) (SetTable.bits h%(t.mask+1),SetTable.bits h).1 (SetTable.bits h%(t.mask+1),SetTable.bits h).2=some j:=by rw[ht];exact hj
        obtain⟨m,h1,h2⟩:=gH t _ _ _ hj';exact⟨h,m,hk,h1,fun m' hm'=>grow _ (h2 m' hm')⟩
       ·cases hjk
      ·obtain⟨h0,m,q1,q2,q3⟩:=ho j' k1 hjk;exact⟨h0,m,q1,q2,fun m' hm'=>grow _ (q3 m' hm')⟩
theorem Xa (t:SetTable)(es:Array (Int×Value))(hp:t.plain=true)(hn:es.size=5) :
 ∃es' t' order,t.relaid (es.map (·.1)) (SetTable.grown 5)=some (t',order)∧order.filterMap (es[·]?)=es'∧TabOk t' es'.size∧t'.led=t.led∧List.Perm es'.toList es.toList∧es'.size=5∧RI t' (es'.toList.map (·.1)):=by
 have hw:SetTable.sizeAbove (SetTable.grown 5) - 1=31:=by decide
 have h0:(Array.replicate 32 (none:Option Nat)).toList.filterMap id=[]:=by decide
 obtain⟨owner,e1,e2,e3⟩:=cN (es.map (·.1)).toList (Array.replicate 32 none) 0 (by simp) (by rw[h0];exact .nil) (by simp;lia)
 have hl:SetTable.layClean 31 (es.map (·.1))=some owner:=by
  unfold SetTable.layClean;rw[←Array.foldl_toList];rw[e1];rfl
 have h5:0+(es.map (·.1)).toList.length=5:=by simp[hn]
 rw[h5]at e3
 obtain⟨live,hlive⟩:∃live,live=(List.range 32).filterMap fun j=>(owner.getD j none).map (j,·):=⟨_,rfl⟩
 obtain⟨t',ht'⟩:∃t':SetTable,t'={mask:=31,place:=(live.map (·.1)).toArray,dummies:=#[],finger:=t.finger,led:=t.led,moves:=t.movedTo 31,plain:=t.plain}:=⟨_,rfl⟩
 have hr:t.relaid (es.map (·.1)) (SetTable.grown 5)=some (t',(live.map (·.2)).toArray):=by
  unfold SetTable.relaid SetTable.laid;rw[hw,hl,ht',hlive];rfl
 have h2:=Vo owner;rw[e2,←hlive]at h2
 have hlen:live.length=5:=by
  have:(live.map (·.2)).length=5:=by rw[h2,e3.length_eq,sck]
  simpa using this
 have hown:=eE t' (by rw[ht']) (es.map (·.1)).toList (es.map (·.1)).toList (Array.replicate 32 none) 0 owner _ (by simp) (fun j k hjk=>by
  exfalso;rw[Array.getElem?_replicate]at hjk
  split at hjk <;> cases hjk) e1
 have hk5:∀q∈live,q.2<5∧owner[q.1]?=some (some q.2):=by
  intro q hq;have hm:q.2∈owner.toList.filterMap id:=by rw[←h2];exact scl hq
  refine⟨sbb.mp (e3.mem_iff.mp hm),?_⟩;rw[hlive]at hq;obtain⟨j,hj,hjq⟩:=List.mem_filterMap.mp hq;have hj32:j<owner.size:=by rw[e2];exact sbb.mp hj
  cases ho:owner.getD j none with
  |none=>rw[ho]at hjq;cases hjq
  | some k=>
    rw[ho]at hjq;cases hjq;rw[sar hj32];simp only[Array.getD,hj32,dite_true]at ho;exact congrArg some ho
 have hperm:List.Perm (((live.map (·.2)).toArray.filterMap (es[·]?)).toList) es.toList:=by
  rw[Array.toList_filterMap];show List.Perm ((live.map (·.2)).filterMap (es[·]?)) es.toList;rw[h2];exact((e3.filterMap _).trans (by rw[←hn];exact List.Perm.of_eq (filterMap_getElem?_range es)))
 have hsz:((live.map (·.2)).toArray.filterMap (es[·]?)).size=5:=by
  rw[←Array.length_toList,hperm.length_eq,Array.length_toList,hn]
 have hmap:(((live.map (·.2)).toArray.filterMap (es[·]?)).toList)=live.map fun q=>es.getD q.2 (0,.none):=by
  rw[Array.toList_filterMap];show(live.map (·.2)).filterMap (es[·]?)=_;clear hlive h2 hr ht' hown hperm hsz hlen
  induction live with
  |nil=>rfl
  | cons q l ih=>
    have hq:=(hk5 q (.head _)).1;have hq':q.2<es.size:=by lia
    simp only[List.map_cons,List.filterMap_cons,sar hq'];rw[ih fun q hq=>hk5 q (.tail _ hq)];simp[Array.getD,hq']
 refine⟨_,t',_,hr,rfl,?_,by rw[ht'],hperm,hsz,?_⟩
 ·rw[hsz,ht'];exact⟨hp,rfl,by simpa using hlen,by rw[hlive];simpa using Vp owner 32,.inr ⟨rfl,by lia⟩⟩
 ·rw[hmap];have hpl:t'.place.toList=live.map (·.1):=by rw[ht']
  intro q hq;rw[hpl,sbp]at hq;rw[List.zip_map']at hq;obtain⟨x,hx,rfl⟩:=saz.mp hq;obtain⟨h1,h3⟩:=hk5 x hx;obtain⟨h,m,q1,q2,q3⟩:=hown x.1 x.2 h3
  have hh:(es.getD x.2 (0,.none)).1=h:=by
   have hx5:x.2<es.size:=by lia
   simp[hx5]at q1;simp[Array.getD,hx5,q1]
  show ∃m,(xO t' (es.getD x.2 (0,.none)).1 m).j=x.1∧∀m',m' < m→(xO t' (es.getD x.2 (0,.none)).1 m').j∈t'.place.toList;rw[hh];refine⟨m,q2,fun m' hm'=>?_⟩;have q4:=q3 m' hm';have hle:=WO t' h m';have hmask:t'.mask=31:=by rw[ht']
  have hlt:(xO t' h m').j<owner.size:=by lia
  simp only[Array.getD,hlt,dite_true]at q4
  cases ho:owner[(xO t' h m').j]'hlt with
  | none=>
    have:(owner[(xO t' h m').j]'hlt).isNone=true:=by rw[ho];rfl
    rw[show(owner.getInternal (xO t' h m').j hlt)=owner[(xO t' h m').j]'hlt from rfl,this]at q4;cases q4
  | some k=>
    rw[hpl];refine saz.mpr ⟨((xO t' h m').j,k),?_,rfl⟩;rw[hlive];refine List.mem_filterMap.mpr ⟨(xO t' h m').j,sbb.mpr (by lia),?_⟩;simp[Array.getD,hlt,ho]
section
variable {prog:Program}{w:World}{A:Around}{E:Value→Shared→Prop}{s:Shared}
noncomputable abbrev uu (prog:Program)(w:World)(h:Heap)(k:List Int)(a:Addr):Prop:=IsTupleKey (intKind prog w) h k a
noncomputable def yj (prog:Program)(w:World)(k:List Int):Int:=(tupleKind (intKind prog w)).hash k
theorem gz {k:List Int}{vs:List Value}(h:ItemsAre (intKind prog w) k vs):∀v∈vs,∃i t,v=Value.int i t:=by
 induction h with
 |nil=>intro v hv;simp at hv
 | @cons k v ks vs h1 _ ih=>
   intro u hu
   rcases saj.mp hu with rfl|hu
   ·obtain⟨t,e⟩:=Value.isInt_shape h1;exact⟨_,t,e⟩
   ·exact ih u hu
theorem cR {a:Addr}{o:Obj}{items:Array Value}{n:Nat}{Q:Option (Array Value)→Shared→Prop}(ho:s.heap.get? a=some o)(hd:o.data=.seq items n)(h:Q (some items) s):wpAny (model prog w) A (seqItems? (.ref a)) Q E s:=by
 unfold seqItems?;refine saa (wpAny_load ho ?_);rw[hd];exact sac h
theorem du {k:List Int}{a:Addr}{Q:Bool→Shared→Prop}(hk:uu prog w s.heap k a)(h:Q true s):wpAny (model prog w) A (hashByValue 8 (.ref a)) Q E s:=by
 have hT:=hk.typeIs;obtain⟨o,items,n,ho,_,hd,hi⟩:=hk;have hints:=gz hi;unfold hashByValue;refine saa (wpAny_specialOf hT F.slot_tuple_hash.lookup ?_);dsimp only;refine saa (cR ho hd ?_);refine saa ?_;show wpAny _ _ (forIn items _ _) _ _ s;rw[←Array.forIn_toList];refine wpAny_forIn_list _ (fun rest r s'=>r.1=none∧s'=s∧∀v∈rest,∃i t,v=Value.int i t) _ ?_ ?_ _ _ ⟨rfl,rfl,hints⟩
 ·rintro v rest r s' ⟨hr,rfl,hall⟩;obtain⟨i,t,rfl⟩:=hall v saB;have e:hashByValue 7 (Value.int i t)=pure true:=rfl;rw[e];refine saa (sac ?_);simp only[Bool.not_true,saH,if_false];exact sac ⟨rfl,rfl,fun u hu=>hall u (sao _ hu)⟩
 ·rintro⟨r1,r2⟩ s' ⟨hr,rfl,_⟩;simp only at hr;subst hr;exact sac h
theorem j8 {k:List Int}{a:Addr}{Q:Bool→Shared→Prop}(hk:uu prog w s.heap k a)(h:Q false s):wpAny (model prog w) A (ofAClassStatement 8 (.ref a)) Q E s:=by
 have hT:=hk.typeIs;obtain⟨o,items,n,ho,_,hd,hi⟩:=hk;have hints:=gz hi;unfold ofAClassStatement;refine saa (wpAny_typeOf hT ?_);dsimp only;rw[saf (by rfl)];refine saa (sac ?_);simp only[Bool.not_true,saH,if_false];refine saa (cR ho hd ?_);dsimp only;refine saa ?_;rw[←Array.forIn_toList];refine wpAny_forIn_list _ (fun rest r s'=>r.1=none∧s'=s∧∀v∈rest,∃i t,v=Value.int i t) _ ?_ ?_ _ _ ⟨rfl,rfl,hints⟩
 ·rintro v rest r s' ⟨hr,rfl,hall⟩;obtain⟨i,t,rfl⟩:=hall v saB;have e:ofAClassStatement 7 (Value.int i t)=pure false:=rfl;rw[e];refine saa (sac ?_);simp only[saH,if_false];exact sac ⟨rfl,rfl,fun u hu=>hall u (sao _ hu)⟩
 ·rintro⟨r1,r2⟩ s' ⟨hr,rfl,_⟩;simp only at hr;subst hr;exact sac h
theorem dS {k:List Int}{a:Addr}{l:List Value}{Q:Bool→Shared→Prop}(hk:uu prog w s.heap k a)(hl:∀v∈l,∃k' b,v=.ref b∧uu prog w s.heap k' b)(h:Q false s):wpAny (model prog w) A (searchCouldBeSeen (.ref a) l) Q E s:=by
 unfold searchCouldBeSeen;refine saa ?_;refine wpAny_forIn_list _ (fun rest r s'=>r.1=none∧s'=s∧∀v∈rest,∃k' b,v=.ref b∧uu prog w s.heap k' b) _ ?_ ?_ _ _ ⟨rfl,rfl,hl⟩
 ·rintro v rest r s' ⟨hr,rfl,hall⟩;obtain⟨k',b,rfl,hb⟩:=hall v saB;have go:∀u∈rest,∃k' b,u=.ref b∧uu prog w s'.heap k' b:=fun u hu=>hall u (sao _ hu);dsimp only;by_cases hab:(a == b ||(carriedByValue (.ref a)&&carriedByValue (.ref b)))=true
  ·rw[saf hab];exact sac ⟨rfl,rfl,go⟩
  ·rw[sah hab];refine saa ((tupleKind (intKind prog w)).quiet hk ?_);simp only[Bool.not_true,saH,if_false];refine saa ((tupleKind (intKind prog w)).quiet hb ?_);simp only[Bool.not_true,saH,if_false];refine saa (j8 hk ?_);simp only[saH,if_false];refine saa (j8 hb ?_);simp only[saH,if_false];exact sac ⟨rfl,rfl,go⟩
 ·rintro⟨r1,r2⟩ s' ⟨hr,rfl,_⟩;simp only at hr;subst hr;exact sac h
end
structure EsP (prog:Program)(w:World)(h:Heap)(es:List (Int×Value))(S:List (List Int)):Prop where
 all:∀e∈es,∃k a,e=(yj prog w k,.ref a)∧uu prog w h k a
 mem:∀k,k∈S↔∃e∈es,∃a,e=(yj prog w k,.ref a)∧uu prog w h k a
 len:es.length=S.length
structure lG (prog:Program)(w:World)(h:Heap)(sa:Addr)(S:List (List Int))(es:Array (Int×Value))(ep:Nat)(tb:SetTable):Prop where
 at_:SetAt w h sa es ep tb
 ri:RI tb (es.toList.map (·.1))
 es:EsP prog w h es.toList S
section
variable {prog:Program}{w:World}{A:Around}{E:Value→Shared→Prop}{s:Shared}
theorem d9 {sa a:Addr}{S:List (List Int)}{es:Array (Int×Value)}{ep:Nat}{tb:SetTable}{k:List Int}{N:Nat}{Q:SetFound→Shared→Prop}(P:lG prog w s.heap sa S es ep tb)(hk:uu prog w s.heap k a)(hu:A.units<cLine)
 (hN:N<10*SetTable.turns tb.mask) (he:tb.slot (xO tb (yj prog w k) N).j=.empty) (hf:∀m,m<N→tb.slot (xO tb (yj prog w k) m).j≠.empty)
 (h1:k∈S→Q (.there none) s) (h2:k∉S→Q (.free (xO tb (yj prog w k) N).j false) s):∀(d m fuel:Nat) (stand:Option SetTable.Probe),N - m=d→m≤N→d<fuel→stand.getD (tb.probeStart (yj prog w k))=xO tb (yj prog w k) m →
  (k∈S→∃n i b,m≤n∧n<N∧tb.slot (xO tb (yj prog w k) n).j=.live i∧es[i]?=some (yj prog w k,.ref b)∧uu prog w s.heap k b) →
  wpAny (model prog w) A (setSearchFrom sa (.ref a) (yj prog w k) true fuel stand) Q E s:=by
 intro d
 induction d using Nat.strongRecOn with
 | _ d ih=>
   intro m fuel stand hd hm hfu hst hin
   cases fuel with
   |zero=>exact absurd hfu (Nat.not_lt_zero _)
   | succ fuel=>
     unfold setSearchFrom;refine saa (sI P.at_ ?_);dsimp only
     have hgw:tb.gaveWay=false:=by
      unfold SetTable.gaveWay
      rcases P.at_.tab.mask with⟨q,_⟩|⟨q,_⟩ <;> rw[q] <;> rfl
     rw[sah (by rw[hgw];exact sax),hst]
     have live_e:∀n i,tb.slot (xO tb (yj prog w k) n).j=.live i→∃e,es[i]?=some e:=fun n i hl=>by
      have hp:=Y3 hl;have hlt:i<es.size:=by rw[←P.at_.tab.size];exact(sby.mp hp).1
      exact⟨_,sar hlt⟩
     have next_pair:∀(n i:Nat) (k':List Int) (b:Addr),m≤n→n<N→tb.slot (xO tb (yj prog w k) n).j=.live i→(∀n',m≤n'→n' < n→∀i',tb.slot (xO tb (yj prog w k) n').j=.live i'→(es[i']?.map (·.1)).getD 0≠yj prog w k) →
      es[i]?=some (yj prog w k',.ref b)→uu prog w s.heap k' b→k'≠k→wpAny (model prog w) A (setSearchFrom sa (.ref a) (yj prog w k) true fuel (some (xO tb (yj prog w k) (n+1)))) Q E s:=by
      intro n i k' b q1 q2 q3 q6 hei hb hkk;refine ih (N - (n+1)) (by lia) (n+1) fuel (some (xO tb (yj prog w k) (n+1))) rfl (by lia) (by lia) rfl fun hks=>?_;obtain⟨n',i',b',r1,r2,r3,r4,r5⟩:=hin hks;refine⟨n',i',b',?_,r2,r3,r4,r5⟩
      rcases Nat.lt_or_ge n n' with hlt|hge
      ·exact hlt
      ·exfalso
       rcases Nat.lt_or_eq_of_le hge with hlt|heq
       ·refine q6 n' r1 hlt i' r3 ?_;simp only[r4,Option.map_some,Option.getD_some]
       ·subst heq;rw[q3]at r3;cases r3;rw[hei]at r4;have e2:=(Prod.mk.inj (saI r4)).2;have e3:b=b':=by injection e2
        subst e3;exact hkk (hb.inj r5)
     rcases Yo (ha:=fun i=>(es[i]?.map (·.1)).getD 0) P.at_.tab.dummies he hf d m (10*SetTable.turns tb.mask) hd hm (by lia)with⟨n,i,q1,q2,q3,q4,q5,q6⟩|⟨q5,q6⟩
     ·split
      rotate_left
      ·rename_i hp;exact(hp _ q5).elim
      ·rename_i met hp;have em:met=.candidate (xO tb (yj prog w k) n).j i (xO tb (yj prog w k) (n+1)):=saI (hp.symm.trans q5);subst em;dsimp only;obtain⟨e,hei⟩:=live_e n i q3
       have hme:e∈es.toList:=by
        rw[←saG]at hei;exact saD hei
       obtain⟨k',b,rfl,hb⟩:=P.es.all e hme
       have hstored:∀v∈(es.filter fun x=>x.1 == yj prog w k).toList.map (·.2),∃k' b,v=.ref b∧uu prog w s.heap k' b:=fun v hv=>by
        obtain⟨e,he',rfl⟩:=saz.mp hv;rw[Array.toList_filter,saK]at he';obtain⟨k2,b2,rfl,hb2⟩:=P.es.all e he'.1;exact⟨k2,b2,rfl,hb2⟩
       have hsm:tb.sameMemory tb.moves tb.mask=some true:=by unfold SetTable.sameMemory;simp
       refine wpAny_ite_split (fun hl=>saa (dS hk hstored ?_)) fun hl=>?_
       ·rw[sah sax,hei];refine saa (sbj ((tupleKind (intKind prog w)).eqBool hu hb hk ?_));refine saa (sI P.at_ ?_);by_cases hkk:k'=k
        ·subst hkk;rw[saf (by simp)];exact sac (h1 ((P.es.mem k').mpr ⟨_,hme,b,rfl,hb⟩))
        ·rw[sah (by simp[hkk])];dsimp only;rw[hsm];dsimp only;rw[saf rfl,q3];dsimp only;rw[hei];refine saa (wpAny_isSame_ref_self ?_);refine saa (sac ?_);rw[saf rfl];dsimp only;rw[sah (by simp[hkk])];exact next_pair n i k' b q1 q2 q3 q6 hei hb hkk
       ·rw[hei];refine saa (sbj ((tupleKind (intKind prog w)).eqBool hu hb hk ?_));refine saa (sI P.at_ ?_);by_cases hkk:k'=k
        ·subst hkk;rw[saf (by simp)];exact sac (h1 ((P.es.mem k').mpr ⟨_,hme,b,rfl,hb⟩))
        ·rw[sah (by simp[hkk])];dsimp only;rw[hsm];dsimp only;rw[saf rfl,q3];dsimp only;rw[hei];refine saa (wpAny_isSame_ref_self ?_);refine saa (sac ?_);rw[saf rfl];dsimp only;rw[sah (by simp[hkk])];exact next_pair n i k' b q1 q2 q3 q6 hei hb hkk
     ·have hns:k∉S:=fun hks=>by
       obtain⟨n,i,b,r1,r2,r3,r4,_⟩:=hin hks;refine q6 n r1 r2 i r3 ?_;simp only[r4,Option.map_some,Option.getD_some]
      split
      rotate_left
      ·rename_i hp;exact(hp _ q5).elim
      ·rename_i met hp;have em:met=.empty (xO tb (yj prog w k) N).j none:=saI (hp.symm.trans q5);subst em;exact sac (h2 hns)
theorem a_ {sa:Addr}{S:List (List Int)}{es:Array (Int×Value)}{ep:Nat}{tb:SetTable}{k:List Int}{N:Nat}(P:lG prog w s.heap sa S es ep tb)
 (he:tb.slot (xO tb (yj prog w k) N).j=.empty) (hf:∀m,m<N→tb.slot (xO tb (yj prog w k) m).j≠.empty) (hks:k∈S) :
 ∃n i b,0≤n∧n<N∧tb.slot (xO tb (yj prog w k) n).j=.live i∧es[i]?=some (yj prog w k,.ref b)∧uu prog w s.heap k b:=by
 obtain⟨e,hme,b,rfl,hb⟩:=(P.es.mem k).mp hks;obtain⟨i,hi⟩:=saT hme;have hlt:i<es.toList.length:=(sak.mp hi).1;rw[Array.length_toList]at hlt;have hlt2:i<tb.place.size:=by rw[P.at_.tab.size];exact hlt
 have hp:tb.place[i]?=some tb.place[i]:=sar hlt2
 have hz:(yj prog w k,tb.place[i])∈(es.toList.map (·.1)).zip tb.place.toList:=by
  refine saD (i:=i) ?_;rw[List.getElem?_zip_eq_some];refine⟨by rw[sav,hi];rfl,by rw[saG];exact hp⟩
 obtain⟨m,h1,h2⟩:=P.ri _ hz;have hs:=p0 P.at_.tab.rise hp
 have hmN:m<N:=by
  rcases Nat.lt_or_ge m N with hlt'|hge
  ·exact hlt'
  ·exfalso
   rcases Nat.lt_or_eq_of_le hge with hlt'|heq
   ·exact(qC P.at_.tab.dummies P.at_.tab.rise _).mp he (h2 N hlt')
   ·subst heq;rw[h1,hs]at he;cases he
 refine⟨m,i,b,saX _,hmN,by rw[h1];exact hs,by rw[←saG];exact hi,hb⟩
theorem uu.stay {h h':Heap}{k:List Int}{a sa:Addr}{es:Array (Int×Value)}{ep:Nat}{tb:SetTable}(hk:uu prog w h k a)(S:SetAt w h sa es ep tb)(hs:Heap.SameBut sa h h'):uu prog w h' k a:=by
 obtain⟨o,items,n,ho,hc,hd,hi⟩:=hk;obtain⟨o2,ho2,_,hd2⟩:=S.ex
 have hne:a≠sa:=by
  rintro rfl;rw[ho]at ho2;cases ho2;rw[hd]at hd2;cases hd2
 exact⟨o,items,n,(hs.2 a hne).trans ho,hc,hd,hi⟩
theorem EsP.stay {h h':Heap}{l:List (Int×Value)}{T:List (List Int)}{sa:Addr}{es:Array (Int×Value)}{ep:Nat}{tb:SetTable}(X:EsP prog w h l T)(S:SetAt w h sa es ep tb)(hs:Heap.SameBut sa h h'):EsP prog w h' l T where
 all:=fun e he=>let ⟨k,a,q,r⟩:=X.all e he;⟨k,a,q,r.stay S hs⟩
 mem:=fun k=>by
  rw[X.mem k];constructor
  ·rintro⟨e,he,a,q,r⟩;exact⟨e,he,a,q,r.stay S hs⟩
  ·rintro⟨e,he,a,q,r⟩;obtain⟨k2,a2,q2,r2⟩:=X.all e he
   have e2:a2=a:=by
    have:=(Prod.mk.inj (q2.symm.trans q)).2;injection this
   subst e2;have:k2=k:=(r2.stay S hs).inj r;subst this;exact⟨e,he,a2,q,r2⟩
 len:=X.len
theorem EsP.of_perm {h:Heap}{l l':List (Int×Value)}{T:List (List Int)}(X:EsP prog w h l T)(p:l'.Perm l):EsP prog w h l' T where
 all:=fun e he=>X.all e (p.mem_iff.mp he)
 mem:=fun k=>by
  rw[X.mem k];constructor
  ·rintro⟨e,he,r⟩;exact⟨e,p.mem_iff.mpr he,r⟩
  ·rintro⟨e,he,r⟩;exact⟨e,p.mem_iff.mp he,r⟩
 len:=p.length_eq.trans X.len
theorem EsP.push {h:Heap}{l:List (Int×Value)}{T:List (List Int)}(X:EsP prog w h l T){k:List Int}{a:Addr}(hk:uu prog w h k a):EsP prog w h (l++[(yj prog w k,.ref a)]) (T++[k]) where
 all:=fun e he=>by
  rcases san.mp he with he|he
  ·exact X.all e he
  ·rw[sag]at he;exact⟨k,a,he,hk⟩
 mem:=fun k2=>by
  rw[san,sag,X.mem k2];constructor
  ·rintro(⟨e,he,r⟩|rfl)
   ·exact⟨e,sce _ he,r⟩
   ·exact⟨_,saQ _ (sag.mpr rfl),a,rfl,hk⟩
  ·rintro⟨e,he,a2,q,r⟩
   rcases san.mp he with he|he
   ·exact .inl ⟨e,he,a2,q,r⟩
   ·rw[sag]at he;rw[he]at q
    have e2:a=a2:=by
     have:=(Prod.mk.inj q).2;injection this
    subst e2;exact .inr (r.inj hk)
 len:=by simp[X.len]
theorem aq {sa:Addr}{o:Obj}{es:Array (Int×Value)}{ep:Nat}{tb:SetTable}{Q:Unit→Shared→Prop}(ho:s.heap.get? sa=some o)(hx:o.ExactSet)(hd:o.data=.set es ep tb)(hf:tb.fits es.size=true)(hp:tb.plain=true)
 (hled:tb.led = !w.params.followText "set-order") (hn:es.size=5)
 (h:∀h' es' ep' tb',Heap.SameBut sa s.heap h'→SetAt w h' sa es' ep' tb'→RI tb' (es'.toList.map (·.1))→List.Perm es'.toList es.toList→Q () {s with heap:=h'}) :
 wpAny (model prog w) A (setRelay sa (SetTable.grown 5)) Q E s:=by
 obtain⟨es2,t2,order,e1,e2,T2,l2,p2,z2,r2⟩:=Xa tb es hp hn;unfold setRelay;refine saa (wpAny_setState_of ho hd hf ?_);dsimp only;rw[sah (by decide)];rw[e1];refine saa ?_;have hz:((order.filterMap (es[·]?)).size != es.size)=false:=by rw[e2,z2,hn];rfl
 refine wpAny_of_eq (a:=(es2,t2)) (by
  show(if((order.filterMap (es[·]?)).size != es.size)=true then _ else pure (order.filterMap (es[·]?),t2))=_
  rw[hz,sah sax,e2]) ?_
 refine wpAny_storeSet_of ho hd ?_ (by rw[z2,sizeLine_eq];lia)
 have hg:(s.heap.update sa (Obj.putSet es2 t2)).get? sa=some {o with data:=.set es2 (ep+1) t2}:=by
  have:=saV (Obj.putSet es2 t2) ho (by rw[putSet_of _ _ hd];rfl);rw[putSet_of _ _ hd]at this;exact this
 exact h _ es2 (ep+1) t2 (Heap.SameBut.update s.heap sa _) ⟨⟨_,hg,hx,rfl⟩,T2,l2.trans hled⟩ r2 p2
theorem WB {sa a:Addr}{S:List (List Int)}{es:Array (Int×Value)}{ep:Nat}{tb:SetTable}{k:List Int}{Q:Bool→Shared→Prop}(P:lG prog w s.heap sa S es ep tb)(hk:uu prog w s.heap k a)(hu:A.units<cLine)(hn:S.length<18)
 (h:∀b h' tk es' ep' tb',s.toks≤tk→Heap.SameBut sa s.heap h'→lG prog w h' sa (if k∈S then S else S++[k]) es' ep' tb'→(∀e∈es'.toList,e∈es.toList∨e.2=.ref a)→Q b {s with heap:=h',toks:=tk}) :
 wpAny (model prog w) A (setAdd sa (.ref a)) Q E s:=by
 have hsz:es.size=S.length:=by rw[←Array.length_toList];exact P.es.len
 unfold setAdd;refine sbj ?_;refine saa ((tupleKind (intKind prog w)).pyHash (k:=k) hu hk ?_)
 obtain⟨tk,htk⟩:∃tk,tk=s.toks+(tupleKind (intKind prog w)).draws k:=⟨_,rfl⟩
 have hle:s.toks≤tk:=by lia
 rw[←htk];show wpAny (model prog w) A (setAddHashed sa (.ref a) (yj prog w k)) Q E _;obtain⟨N,hN,he,hf⟩:=cZ P.at_.tab (yj prog w k);have P1:lG prog w ({s with toks:=tk}:Shared).heap sa S es ep tb:=P;have hk1:uu prog w ({s with toks:=tk}:Shared).heap k a:=hk;unfold setAddHashed setAddHashedIn;refine sbj (saa (sI P1.at_ ?_));dsimp only;have hbs:byScan (.ref a) es=false:=rfl;rw[sah (by rw[hbs];exact sax)];refine saa ?_;unfold setSearch
 refine d9 P1 hk1 hu hN he hf (fun hks=>?_) (fun hks=>?_) N 0 100000 none (by lia) (saX _) (by
  have:SetTable.turns tb.mask≤46:=by unfold SetTable.turns;rcases P.at_.tab.mask with⟨q,_⟩|⟨q,_⟩ <;> lia
  lia) rfl fun hks=>a_ P1 he hf hks
 ·refine sac ?_;rw[saf hks]at h;exact h false s.heap tk es ep tb hle (Heap.SameBut.refl sa s.heap) P fun e he=>.inl he
 ·rw[sah hks]at h;refine saa (sI P1.at_ ?_);dsimp only;obtain⟨p1,p2,p3⟩:=SD P.at_.tab he
  obtain⟨p,hp⟩:∃p,p=(tb.put (xO tb (yj prog w k) N).j).2:=⟨_,rfl⟩
  rw[←hp]at p1 p2 p3;rw[p1,←hp];obtain⟨o,ho,hx,hd⟩:=P.at_.ex
  obtain⟨tb1,htb⟩:∃x,x=({tb with place:=SetTable.insertAt tb.place p (xO tb (yj prog w k) N).j}:SetTable):=⟨_,rfl⟩
  have z1:(SetTable.insertAt es p (yj prog w k,.ref a)).size=es.size+1:=by
   have:=(SetTable.insertAt_perm es p (yj prog w k,Value.ref a)).length_eq;simpa using this
  have z2:(SetTable.insertAt tb.place p (xO tb (yj prog w k) N).j).size=es.size+1:=by
   have:=(SetTable.insertAt_perm tb.place p (xO tb (yj prog w k) N).j).length_eq;rw[←P.at_.tab.size];simpa using this
  have y1:tb1.plain=true:=by rw[htb];exact P.at_.tab.plain
  have y2:tb1.dummies=#[]:=by rw[htb];exact P.at_.tab.dummies
  have y3:tb1.mask=tb.mask:=by rw[htb]
  have y4:tb1.led=tb.led:=by rw[htb]
  have y5:tb1.place.size=es.size+1:=by rw[htb];exact z2
  have y6:tb1.place.toList.Pairwise (· < ·):=by rw[htb];exact p2
  have y7:RI tb1 ((SetTable.insertAt es p (yj prog w k,.ref a)).toList.map (·.1)):=by
   rw[scd,saM,List.map_cons,List.map_take,List.map_drop,htb];exact P.ri.put (by simp[P.at_.tab.size]) P.at_.tab.dummies P.at_.tab.rise hf
  rw[←htb];rw[saf y1];refine saa (du hk1 ?_);simp only[if_true]
  have hE1:EsP prog w s.heap (SetTable.insertAt es p (yj prog w k,.ref a)).toList (S++[k]):=(P.es.push hk).of_perm (by
   have:=SetTable.insertAt_perm es p (yj prog w k,Value.ref a)
   exact this.trans (by
    first
    |exact(List.perm_append_singleton _ _).symm
    |simp))
  have hsub:∀e∈(SetTable.insertAt es p (yj prog w k,Value.ref a)).toList,e∈es.toList∨e.2=.ref a:=fun e he=>by
   rw[scd,san,saj]at he
   rcases he with he|rfl|he
   ·exact .inl (List.mem_of_mem_take he)
   ·exact .inr rfl
   ·exact .inl (List.mem_of_mem_drop he)
  refine saa (wpAny_storeSet_of (s:={s with toks:=tk}) ho hd ?_ (by rw[z1,sizeLine_eq];lia));dsimp only;have sb:=Heap.SameBut.update s.heap sa (Obj.putSet (SetTable.insertAt es p (yj prog w k,.ref a)) tb1)
  have hg:(s.heap.update sa (Obj.putSet (SetTable.insertAt es p (yj prog w k,.ref a)) tb1)).get? sa=some {o with data:=.set (SetTable.insertAt es p (yj prog w k,.ref a)) (ep+1) tb1}:=by
   have:=saV (Obj.putSet (SetTable.insertAt es p (yj prog w k,Value.ref a)) tb1) ho (by rw[putSet_of _ _ hd];rfl);rw[putSet_of _ _ hd]at this;exact this
  by_cases h5:tb.mask=7∧es.size=4
  ·have htf:SetTable.tooFull tb1=true:=by
    unfold SetTable.tooFull SetTable.fill;rw[y5,y2,y3,h5.1,h5.2];rfl
   rw[saf (by rw[htf];rfl)]
   have hf1:tb1.fits (SetTable.insertAt es p (yj prog w k,.ref a)).size=true:=by
    unfold SetTable.fits SetTable.fill;rw[z1,y5,y2,y3,h5.1,h5.2];rfl
   have e5:es.size+1=5:=by lia
   rw[e5];refine saa (aq (s:={s with heap:=s.heap.update sa (Obj.putSet (SetTable.insertAt es p (yj prog w k,.ref a)) tb1),toks:=tk}) hg hx rfl hf1 y1 (y4.trans P.at_.led) (by rw[z1];exact e5) fun h' es' ep' tb' sb2 S2 r2 p2'=>?_);refine sac (h true h' tk es' ep' tb' hle (sb.trans sb2) ⟨S2,r2,?_⟩ fun e he=>hsub e (p2'.mem_iff.mp he));exact(hE1.stay P.at_ (sb.trans sb2)).of_perm p2'
  ·have htf:SetTable.tooFull tb1=false:=by
    unfold SetTable.tooFull SetTable.fill;rw[y5,y2,y3]
    rcases P.at_.tab.mask with⟨q,q2⟩|⟨q,q2⟩ <;> rw[q] <;> simp <;> lia
   rw[sah (by rw[htf];simp)]
   have T1:TabOk tb1 (SetTable.insertAt es p (yj prog w k,.ref a)).size:=⟨y1,y2,by rw[z1];exact y5,y6,by
    rw[z1,y3]
    rcases P.at_.tab.mask with⟨q,q2⟩|⟨q,q2⟩
    ·exact .inl ⟨q,by lia⟩
    ·exact .inr ⟨q,by lia⟩⟩
   exact sac (h true _ tk _ (ep+1) tb1 hle sb ⟨P.at_.store T1 y4,y7,hE1.stay P.at_ sb⟩ hsub)
end
noncomputable def uj (ks:List (List Int)):List (List Int):=ks.foldl (fun σ k=>if k∈σ then σ else σ++[k]) []
theorem gh (ks:List (List Int))(k:List Int):uj (ks++[k])=if k∈uj ks then uj ks else uj ks++[k]:=by
 unfold uj;rw[saR];rfl
theorem Xq (ks:List (List Int))(i:Nat)(h:i<ks.length):uj (ks.take (i+1))=if ks[i]∈uj (ks.take i)then uj (ks.take i)else uj (ks.take i)++[ks[i]]:=by
 rw[sbw h,gh]
theorem Ye (ks:List (List Int)):(uj ks).length≤ks.length:=by
 have:∀(l σ:List (List Int)),(l.foldl (fun σ k=>if k∈σ then σ else σ++[k]) σ).length≤σ.length+l.length:=by
  intro l
  induction l with
  |nil=>intro σ;simp
  | cons k l ih=>
    intro σ;rw[List.foldl_cons];refine sbH (ih _) ?_
    split <;> simp <;> lia
 have q:=this ks [];simp only[List.length_nil,Nat.zero_add]at q;exact q
theorem uu.at {prog:Program}{w:World}{h h':Heap}{k:List Int}{a:Addr}(x:uu prog w h k a)(hk:∀o,h.get? a=some o→h'.get? a=some o):uu prog w h' k a:=by
 obtain⟨o,its,n,ho,r⟩:=x;exact⟨o,its,n,hk o ho,r⟩
theorem lG.keep {prog:Program}{w:World}{h h':Heap}{sa B:Addr}{S:List (List Int)}{es:Array (Int×Value)}{ep:Nat}{tb:SetTable}(P:lG prog w h sa S es ep tb)(hB:∀e∈es.toList,∀a,e.2=.ref a→a<B)
 (hk:∀b o,b=sa∨b<B→h.get? b=some o→h'.get? b=some o):lG prog w h' sa S es ep tb where
 at_:=P.at_.keep fun o e=>hk sa o (.inl rfl) e
 ri:=P.ri
 es:={
  all:=fun e he=>let ⟨k,a,q,r⟩:=P.es.all e he;⟨k,a,q,r.at fun o eo=>hk a o (.inr (hB e he a (by rw[q]))) eo⟩
  mem:=fun k=>by
   rw[P.es.mem k];constructor
   ·rintro⟨e,he,a,q,r⟩;exact⟨e,he,a,q,r.at fun o eo=>hk a o (.inr (hB e he a (by rw[q]))) eo⟩
   ·rintro⟨e,he,a,q,r⟩;obtain⟨k2,a2,q2,r2⟩:=P.es.all e he
    have e2:a2=a:=by
     have:=(Prod.mk.inj (q2.symm.trans q)).2;injection this
    subst e2;have:k2=k:=(r2.at fun o eo=>hk a2 o (.inr (hB e he a2 (by rw[q2]))) eo).inj r;subst this;exact⟨e,he,a2,q,r2⟩
  len:=P.es.len}
section
variable {prog:Program}{w:World}{A:Around}{R:Result→Shared→Prop}{I:Addr}{fp wr:List Addr}{G:Array GenState→Array GenState→Prop}{P:Nat→Value→Prop}{St:Nat→Shared→Prop}
theorem fw {B:Addr}{ks:List (List Int)}{as:List Addr}(W:WalksS prog w A.in1 I fp wr G ks.length P St)(S:Addr)(hSf:S∉fp)(hSB:B≤S)(hwr:∀b∈wr,B≤b)(hval:∀i v,P i v→∃a,as[i]?=some a∧v=.ref a)(hlt:∀a∈as,a<B)(hlen:as.length=ks.length)(hb:ks.length<18)(hu:A.in1.units<cLine) :
 ∀ (k i:Nat) (s:Shared) (es:Array (Int×Value)) (ep:Nat) (tb:SetTable),ks.length - i=k→i≤ks.length→St i s→lG prog w s.heap S (uj (ks.take i)) es ep tb→(∀e∈es.toList,∀a,e.2=.ref a→a<B)→(∀(j:Nat) (a:Addr) (k:List Int),as[j]?=some a→ks[j]?=some k→uu prog w s.heap k a) →
   (∀s' es' ep' tb',Moved (S::wr) G s s'→lG prog w s'.heap S (uj ks) es' ep' tb'→R (.ok (.ret .none)) s') →
   codeAny (model prog w) A (.builtin "set.update.loop" ⟨[.ref S,.ref I],[]⟩) R s:=by
 have hSw:S∉wr:=fun h=>hSf (W.sub _ h);have hsub:∀b∈wr,b∈S::wr:=fun b hb=>sao _ hb;have low:∀b,b<B→b∉wr:=fun b h1 h2=>absurd (hwr b h2) (Nat.not_le.mpr h1);intro k
 induction k with
 | zero=>
   intro i s es ep tb hk hi hst hS hB hks hR;have hin:i=ks.length:=by lia
   subst hin;refine sbT F.entry_set_update_loop ?_;rw[sbz F.plain_set_update_loop _];show wpAny _ A.in1 (pyNext (.ref I) >>= _) _ _ s;refine saa (W.done s _ _ hst fun s' hm=>?_);show wpAny _ A.in1 (ret Value.none) _ _ s';rw[List.take_length]at hS
   exact sac (hR s' es ep tb (hm.mono hsub) (hS.keep hB fun b o hb ho=>hm.heap b o (by
    rcases hb with rfl|hb
    ·exact hSw
    ·exact low b hb) ho))
 | succ k ih=>
   intro i s es ep tb hk hi hst hS hB hks hR;have hlt2:i<ks.length:=by lia
   refine sbT F.entry_set_update_loop ?_;rw[sbz F.plain_set_update_loop _];show wpAny _ A.in1 (pyNext (.ref I) >>= _) _ _ s;refine saa (W.item i s _ _ hlt2 hst fun v s' hP hst' hm=>?_);obtain⟨a,ha,rfl⟩:=hval i v hP;have haB:=hlt a (saD ha)
   have keep:∀b o,b=S∨b<B→s.heap.get? b=some o→s'.heap.get? b=some o:=fun b o hb ho=>hm.heap b o (by
    rcases hb with rfl|hb
    ·exact hSw
    ·exact low b hb) ho
   have hS':=hS.keep hB keep;have hks':∀(j:Nat) (a:Addr) (k:List Int),as[j]?=some a→ks[j]?=some k→uu prog w s'.heap k a:=fun j a k h1 h2=>(hks j a k h1 h2).at fun o ho=>keep a o (.inr (hlt a (saD h1))) ho;show wpAny _ A.in1 (holding [Value.ref a] (setAdd S (.ref a)) >>= _) _ _ s';refine saa (sbj ?_);have hl:=Ye (ks.take i);rw[scp]at hl;refine WB hS' (hks' i a _ ha (sad hlt2)) hu (by lia) fun b h' tk es' ep' tb' htk hsb hS2 hsub2=>?_;rw[←Xq ks i hlt2]at hS2
   have hB2:∀e∈es'.toList,∀a,e.2=.ref a→a<B:=fun e he a2 h2=>by
    rcases hsub2 e he with h3|h3
    ·exact hB e h3 a2 h2
    ·rw[h3]at h2;have:a=a2:=by injection h2
     rw[←this];exact haB
   refine sac ⟨scn F.plain_set_update_loop _,ih (i+1) _ es' ep' tb' (by lia) hlt2 (W.frame _ s' _ _ hst' htk fun b hb o e=>?_) hS2 hB2 (fun j a k h1 h2=>(hks' j a k h1 h2).at fun o ho=>?_) fun s'' es'' ep'' tb'' hm'' hS''=>?_⟩
   ·rw[hsb.2 b (fun h:b=S=>hSf (by rw[←h];exact hb))];exact e
   ·have haS:a≠S:=fun z=>by
     have:=saE (hlt a (saD h1)) hSB;rw[z]at this;exact sbQ _ this
    rw[hsb.2 a haS];exact ho
   ·refine hR s'' es'' ep'' tb'' (Moved.trans W.gtrans ((hm.mono hsub).then_heap htk fun b o hb e=>?_) hm'') hS'';rw[hsb.2 b (fun h:b=S=>hb (by rw[h];exact saB))];exact e
end
section
variable {prog:Program}{w:World}{A:Around}{E:Value→Shared→Prop}{s:Shared}
theorem XX {l:Addr}{items:Array Value}{ks:List (List Int)}{as:List Addr}{Q:Value→Shared→Prop}
 (hh:A.handled=none) (hu:A.units+10<cLine) (hl:s.heap.IsList l items) (hi:items.toList=as.map Value.ref) (hlen:as.length=ks.length) (hkeys:∀(j:Nat) (a:Addr) (k:List Int),as[j]?=some a→ks[j]?=some k→uu prog w s.heap k a) (hb:ks.length<18)
 (h:∀(h':Heap) (tk:Nat) es ep tb,s.toks≤tk→lG prog w h' s.heap.objs.size (uj ks) es ep tb →
  (∀b o,b<s.heap.objs.size→s.heap.get? b=some o→h'.get? b=some o)→Q (.ref s.heap.objs.size) {s with heap:=h',toks:=tk}) :
 wpAny (model prog w) A (call (.type "set") [.ref l]) Q E s:=by
 obtain⟨c,tl,hmro⟩:=scK.mro;have hmade:=scK.made;have hsub:=scK.sub;refine wpAny_call (codeAny_of_tree ?_);show wpAny _ _ (callAny (.type "set") _) _ _ _;refine sac ⟨Code.quiet_builtin _ (by decide +kernel),sbT F.entry_type_call ?_⟩;rw[Around.under_plain (weight_type_call_type "set" [.ref l] []) rfl];have h1:=scK.notType;have h2:=scK.canCreate;have hct:=F.typeCall_set_1 (.ref l)
 repeat (any_goals (first|assumption|wp_step))
 have hlen2:items.size=ks.length:=by rw[←Array.length_toList,hi,sae];exact hlen
 generalize hled:(!w.params.followText "set-order")=led;refine codeAny_mono (WA (.ref l) (E:=E) (Q₁:=fun obj s₁=>obj=.ref s.heap.objs.size∧s₁={s with heap:=s.heap.push {cls:=.type "set",dict:=none,data:=.set #[] 0 (.fresh 0 0 led)}}) (by rw[hled];exact⟨rfl,rfl⟩)) fun r s₁ hr=>?_
 cases r with
 |error e=>exact hr
 | ok fl=>
   cases fl with
   | ret obj=>
     obtain⟨rfl,rfl⟩:=hr;have hS:(s.heap.push {cls:=.type "set",dict:=none,data:=.set #[] 0 (.fresh 0 0 led)}).get? s.heap.objs.size=some {cls:=.type "set",dict:=none,data:=.set #[] 0 (.fresh 0 0 led)}:=saq _ rfl
     have hT:Shared.TypeIs {s with heap:=s.heap.push {cls:=.type "set",dict:=none,data:=.set #[] 0 (.fresh 0 0 led)}} (.ref s.heap.objs.size) "set" :=⟨_,hS,rfl⟩
     have hli:=scK.init.lookup;have hbi:=scK.init.bind (.ref s.heap.objs.size)
     repeat (any_goals (first|assumption|wp_step))
     refine codeAny_mono (codeAny_call_builtin (R:=wants (fun r s₂=>r=.none∧∃h' tk es ep tb,s₂={s with heap:=h',toks:=tk}∧s.toks≤tk∧lG prog w h' s.heap.objs.size (uj ks) es ep tb ∧
      (∀b o,b<s.heap.objs.size→s.heap.get? b=some o→h'.get? b=some o)) E) scK.init.plain F.entry_set_init (check_set_init_1 hT ?_)) fun r₂ s₂ hr₂ =>?_
     ·obtain⟨ol,hol,hcl,nl,hdl⟩:=hl;obtain⟨ocls,odict,odata,oslots⟩:=ol;simp only at hcl hdl;subst hcl;subst hdl;have hol':(s.heap.push {cls:=.type "set",dict:=none,data:=.set #[] 0 (.fresh 0 0 led)}).get? l=some {cls:=.type "list",dict:=odict,data:=.seq items nl,slots:=oslots}:=sab _ hol;have hsls:=F.sub_list_set;have hslf:=F.sub_list_frozenset;have hne:(Value.type "list" == Value.type "dict")=false:=by decide
      have hl1:(s.heap.push {cls:=.type "set",dict:=none,data:=.set #[] 0 (.fresh 0 0 led)}).IsList l items:=⟨_,hol',rfl,nl,rfl⟩
      unfold Builtin.«set.__init__» noKeywords Builtin.Frozenset.updateFrom;generalize hPI:pyIter=PI
      wp_walk
      subst hPI;refine sch hl1 ?_;refine saa (wpAny_runValue ?_);have hlS:l<s.heap.objs.size:=sai hol;have hh3:A.in1.in1.in1.handled=none:=by simp[hh]
      have hneI:l≠(s.heap.push {cls:=.type "set",dict:=none,data:=.set #[] 0 (.fresh 0 0 led)}).objs.size:=by
       rw[saY];exact saA (sbD hlS)
      have hSf:s.heap.objs.size∉[(s.heap.push {cls:=.type "set",dict:=none,data:=.set #[] 0 (.fresh 0 0 led)}).objs.size,l]:=by
       rw[saY];simp only[saj,sag,sbN,or_false,not_or];exact⟨saA (Nat.lt_succ_self _),sbB hlS⟩
      have hval:∀(i:Nat) (v:Value),items[i]?=some v→∃a,as[i]?=some a∧v=.ref a:=fun i v hv=>by
       rw[←saG,hi,sav]at hv
       cases q:as[i]? with
       |none=>rw[q]at hv;cases hv
       |some a=>rw[q]at hv;cases hv;exact⟨a,rfl,rfl⟩
      have W:=(Walks.list (prog:=prog) (w:=w) hh3 (s.heap.push {cls:=.type "set",dict:=none,data:=.set #[] 0 (.fresh 0 0 led)}).objs.size l hneI items).toS;rw[hlen2]at W
      have hlt:∀a∈as,a<s.heap.objs.size:=fun a ha=>by
       obtain⟨j,hj⟩:=saT ha;have hjl:j<ks.length:=by rw[←hlen];exact(sak.mp hj).1
       obtain⟨o,_,_,ho,_⟩:=hkeys j a _ hj (sad hjl);exact sai ho
      have hA:A.in1.in1.in1.units<cLine:=by
       show A.units+1+1+1<cLine;lia
      refine fw (B:=s.heap.objs.size) W s.heap.objs.size hSf (Nat.le_refl _) (fun b hb=>?hwr) hval hlt hlen hb hA (ks.length - 0) 0 _ #[] 0 (.fresh 0 0 led) (by lia) (saX _)
       ⟨⟨_,saq _ rfl,rfl,rfl⟩,(hl1.push _)⟩ ?hS0 (fun e he=>by simp at he) (fun j a k h1 h2=>?hk0) ?hR
      case hwr=>
       have:b=(s.heap.push {cls:=.type "set",dict:=none,data:=.set #[] 0 (.fresh 0 0 led)}).objs.size:=by simpa using hb
       rw[this,saY];exact Nat.le_succ _
      case hk0=>
       obtain⟨o,its,n,ho,r⟩:=hkeys j a k h1 h2;exact⟨o,its,n,sab _ (sab _ ho),r⟩
      case hS0=>
       have hget:((s.heap.push {cls:=.type "set",dict:=none,data:=.set #[] 0 (.fresh 0 0 led)}).push {cls:=.type "list_iterator",data:=.fields #[.ref l,.int 0 0]}).get? s.heap.objs.size
        = some {cls:=.type "set",dict:=none,data:=.set #[] 0 (.fresh 0 0 led)}:=sab _ hS
       exact⟨⟨⟨_,hget,⟨rfl,rfl,rfl⟩,rfl⟩,XF led,hled.symm⟩,RI.nil,⟨fun e he=>by simp at he,fun k=>by simp[uj],by simp[uj]⟩⟩
      case hR=>
       intro s' es ep tb hm hS';obtain⟨h',g',d',tk',os'⟩:=s';have eg:g'=s.gens:=hm.gens;have ed:d'=s.drawn:=hm.drawn;have eo:os'=s.os:=hm.os;have etk:s.toks≤tk':=hm.toks;subst eg;subst ed;subst eo;show wpAny _ _ _ _ _ _;refine sac ?_;show wpAny _ _ (ret Value.none) _ _ _;refine sac ⟨rfl,h',tk',es,ep,tb,rfl,etk,hS',fun b o hb e=>?_⟩;have hb1:b≠s.heap.objs.size:=saA hb
       have hb2:b≠(s.heap.push {cls:=.type "set",dict:=none,data:=.set #[] 0 (.fresh 0 0 led)}).objs.size:=by
        rw[saY];exact saA (sbD hb)
       exact hm.heap b o (by simp only[saj,sag,sbN,or_false,not_or];exact⟨hb1,hb2⟩) (sab _ (sab _ e))
     ·cases r₂ with
      |error e=>exact hr₂
      | ok fl₂ =>
        cases fl₂ with
        | ret r=>
          obtain⟨rfl,h',tk,es,ep,tb,rfl,etk,hS',hk'⟩:=hr₂
          repeat (any_goals (first|assumption|wp_step))
          exact h _ _ _ _ _ etk hS' hk'
        |_=>exact hr₂.elim
   |_=>exact hr.elim
end
end DL
namespace DL
open PySem PySem.Spec PyProof.Rows L2 PySem.W
structure LtOk (n:Nat)(lt:Nat→Nat→Bool):Prop where
 irr:∀i,lt i i=false
 tr:∀i j k,lt i j=true→lt j k=true→lt i k=true
 tot:∀i j,i<n→j<n→i≠j→lt i j=true∨lt j i=true
noncomputable def uv {α:Type}(n:Nat)(lt:Nat→Nat→Bool)(Q:α→Prop):KasT α→Prop
 | .ret a=>Q a
 | .ask i j k=>i<n∧j<n∧uv n lt Q (k (lt i j))
theorem uv.mono {α:Type}{n:Nat}{lt:Nat→Nat→Bool}{Q Q':α→Prop}(h:∀a,Q a→Q' a):∀(t:KasT α),uv n lt Q t→uv n lt Q' t
 | .ret a,g=>h a g
 | .ask i j k,g=>⟨g.1,g.2.1,uv.mono h _ g.2.2⟩
theorem uv.bind {α β:Type}{n:Nat}{lt:Nat→Nat→Bool}{Q:α→Prop}{Q':β→Prop}{f:α→KasT β}(h:∀a,Q a→uv n lt Q' (f a)):∀(t:KasT α),uv n lt Q t→uv n lt Q' (t.bind f)
 | .ret a,g=>h a g
 | .ask i j k,g=>⟨g.1,g.2.1,uv.bind h _ g.2.2⟩
section
variable {n:Nat}{lt:Nat→Nat→Bool}
noncomputable def yY (n:Nat)(p:Array Nat):Prop:=p.toList.Perm (List.range n)
theorem yY.size {p:Array Nat}(h:yY n p):p.size=n:=by
 have:=List.Perm.length_eq h;simpa using this
theorem yY.get {p:Array Nat}(h:yY n p){i:Nat}(hi:i<n):p[i]?=some (p.getD i 0):=by
 have hs:=h.size;have:i<p.size:=by lia
 simp[Array.getD,this]
theorem yY.bd {p:Array Nat}(h:yY n p){i:Nat}(hi:i<n):p.getD i 0<n:=by
 have h1:=h.get hi;rw[←saG]at h1;exact sbb.mp ((List.Perm.mem_iff h).mp (saD h1))
theorem yY.ne {p:Array Nat}(h:yY n p){i j:Nat}(hi:i<n)(hj:j<n)(hij:i≠j):p.getD i 0≠p.getD j 0:=by
 intro e;have h1:=h.get hi;have h2:=h.get hj;rw[←saG]at h1 h2;have hnd:p.toList.Nodup:=(List.Perm.nodup_iff h).mpr List.nodup_range;rw[←e]at h2;have hl:i<p.toList.length:=(sak.mp h1).1;exact hij ((List.getElem?_inj hl hnd).mp (h1.trans h2.symm))
noncomputable def bU (lt:Nat→Nat→Bool)(p:Array Nat)(m:Nat):Prop:=∀i j,i<j→j<m→lt (p.getD i 0) (p.getD j 0)=true
noncomputable def RV (lt:Nat→Nat→Bool)(p:Array Nat)(m:Nat):Prop:=∀i j,i<j→j<m→lt (p.getD j 0) (p.getD i 0)=true
theorem bU.one (p:Array Nat):bU lt p 1:=fun i j h1 h2=>by lia
theorem bU.succ (O:LtOk n lt){p:Array Nat}{m:Nat}(h:bU lt p m)(hm:1≤m)(hl:lt (p.getD (m - 1) 0) (p.getD m 0)=true):bU lt p (m+1):=fun i j h1 h2=>by
 by_cases hj:j<m
 ·exact h i j h1 hj
 ·have:j=m:=by lia
  subst this;by_cases hi:i=j - 1
  ·rw[hi];exact hl
  ·exact O.tr _ _ _ (h i (j - 1) (by lia) (by lia)) hl
theorem RV.succ (O:LtOk n lt){p:Array Nat}{m:Nat}(h:RV lt p m)(hm:1≤m)(hl:lt (p.getD m 0) (p.getD (m - 1) 0)=true):RV lt p (m+1):=fun i j h1 h2=>by
 by_cases hj:j<m
 ·exact h i j h1 hj
 ·have:j=m:=by lia
  subst this;by_cases hi:i=j - 1
  ·rw[hi];exact hl
  ·exact O.tr _ _ _ hl (h i (j - 1) (by lia) (by lia))
theorem other (O:LtOk n lt){p:Array Nat}(hp:yY n p){i j:Nat}(hi:i<n)(hj:j<n)(hij:i≠j)(hf:lt (p.getD i 0) (p.getD j 0)=false):lt (p.getD j 0) (p.getD i 0)=true:=by
 rcases O.tot _ _ (hp.bd hi) (hp.bd hj) (hp.ne hi hj hij)with h|h
 ·rw[h]at hf;cases hf
 ·exact h
theorem jQ (O:LtOk n lt){p:Array Nat}(hp:yY n p):∀(f m:Nat),m+f=n→1≤m→bU lt p m→uv n lt (fun r=>m≤r∧r≤n∧bU lt p r∧(r=n∨lt (p.getD r 0) (p.getD (r - 1) 0)=true)) (kas_asc p f m)
 | 0,m,e,hm,hs=>⟨Nat.le_refl _,by lia,hs,.inl (by lia)⟩
 | f+1,m,e,hm,hs=>by
   unfold kas_asc;refine⟨hp.bd (by lia),hp.bd (by lia),?_⟩;dsimp only
   cases hl:lt (p.getD m 0) (p.getD (m - 1) 0)with
   |true=>exact⟨Nat.le_refl _,by lia,hs,.inr hl⟩
   | false=>
     rw[sah sax]
     exact(jQ O hp f (m+1) (by lia) (by lia) (hs.succ O hm (other O hp (by lia) (by lia) (by lia) hl))).mono fun r hr=>⟨by lia,hr.2⟩
theorem gG (O:LtOk n lt){p:Array Nat}(hp:yY n p):∀(f m:Nat),m+f=n→1≤m→RV lt p m→uv n lt (fun r=>r.1=p∧r.2.2=0∧m≤r.2.1∧r.2.1≤n∧RV lt p r.2.1) (kas_desc f p m 0)
 | 0,m,e,hm,hs=>⟨rfl,rfl,Nat.le_refl _,by show m≤n;lia,hs⟩
 | f+1,m,e,hm,hs=>by
   unfold kas_desc;refine⟨hp.bd (by lia),hp.bd (by lia),?_⟩;dsimp only
   cases hl:lt (p.getD m 0) (p.getD (m - 1) 0)with
   | true=>
     rw[saf rfl,sah (by lia)]
     exact(gG O hp f (m+1) (by lia) (by lia) (hs.succ O hm hl)).mono fun r hr=>⟨hr.1,hr.2.1,by lia,hr.2.2.2⟩
   | false=>
     rw[sah sax];refine⟨hp.bd (by lia),hp.bd (by lia),?_⟩;dsimp only;rw[other O hp (show m<n by lia) (show m - 1<n by lia) (by lia) hl,saf rfl];exact⟨rfl,rfl,Nat.le_refl _,by show m≤n;lia,hs⟩
theorem ju {p:Array Nat}(hp:yY n p)(i j:Nat):yY n (kas_rev p i j):=(mirror_perm p i j _).toList.trans hp
theorem UD {p:Array Nat}(hp:yY n p){m:Nat}(hm:m≤n)(h:RV lt p m):bU lt (kas_rev p 0 m) m:=fun i j h1 h2=>by
 have hs:=hp.size
 have g:∀k,k<m→(kas_rev p 0 m).getD k 0=p.getD (m - 1 - k) 0:=fun k hk=>by
  have:=getElem?_mirror_all (xs:=p) (i:=0) (j:=m) (by lia) k;have e:=(ju hp 0 m).get (show k<n by lia);unfold kas_rev at e ⊢;rw[this,saf ⟨saX _,hk⟩]at e;have e2:=hp.get (show 0+m - 1 - k<n by lia);rw[e2]at e;rw[←saI e];congr 1;lia
 rw[g i (by lia),g j h2];exact h (m - 1 - j) (m - 1 - i) (by lia) (by lia)
theorem aW (O:LtOk n lt){p:Array Nat}(hp:yY n p){m:Nat}(h1:1≤m)(hm:m≤n)(hd:RV lt p m):uv n lt (fun r=>1≤r.1∧r.1≤n∧yY n r.2∧bU lt r.2 r.1) (kas_tail3 m n p):=by
 unfold kas_tail3;refine uv.bind (fun r hr=>?_) _ (jQ O (ju hp 0 m) (n - m) m (by lia) h1 (UD hp hm hd));exact⟨by show 1≤r;lia,hr.2.1,ju hp 0 m,hr.2.2.1⟩
theorem aX (O:LtOk n lt){p:Array Nat}(hp:yY n p)(h2:2≤n):uv n lt (fun r=>1≤r.1∧r.1≤n∧yY n r.2∧bU lt r.2 r.1) (kas_count n p):=by
 unfold kas_count;refine uv.bind (fun r hr=>?_) _ (jQ O hp (n - 1) 1 (by lia) (Nat.le_refl _) (bU.one p));obtain⟨r1,r2,r3,r4⟩:=hr;by_cases e:r=n
 ·rw[saf (by simpa using e)];exact⟨r1,r2,hp,r3⟩
 ·rw[sah (by simpa using e)];have hl:lt (p.getD r 0) (p.getD (r - 1) 0)=true:=r4.resolve_left e;by_cases hr1:r>1
  ·rw[saf hr1];refine⟨hp.bd (by lia),hp.bd (by lia),?_⟩;dsimp only;rw[r3 0 (r - 1) (by lia) (by lia),saf rfl];exact⟨r1,r2,hp,r3⟩
  ·rw[sah hr1];have:r=1:=by lia
   subst this;unfold kas_descPart;refine uv.bind (fun q hq=>?_) _ (gG O hp (n - (1+1)) (1+1) (by lia) (by lia) fun i j h1 h2=>?_)
   ·obtain⟨q1,q2,q3,q4,q5⟩:=hq;rw[sah (by lia),q1];exact aW O hp (by lia) q4 q5
   ·have:i=0:=by lia
    have:j=1:=by lia
    subst i;subst j;exact hl
theorem oA (O:LtOk n lt){p:Array Nat}(hp:yY n p){k:Nat}(hk:k<n)(hs:bU lt p k):∀(f l r:Nat),r - l≤f→l≤r→r≤k→(∀i,i<l→lt (p.getD i 0) (p.getD k 0)=true)→(∀i,r≤i→i<k→lt (p.getD k 0) (p.getD i 0)=true) →
 uv n lt (fun q=>q≤k∧(∀i,i<q→lt (p.getD i 0) (p.getD k 0)=true)∧∀i,q≤i→i<k→lt (p.getD k 0) (p.getD i 0)=true) (kas_place p k f l r)
 | 0,l,r,hf,hl,hr,h1,h2=>by
   have:l=r:=by lia
   subst this;exact⟨hr,h1,h2⟩
 | f+1,l,r,hf,hl,hr,h1,h2=>by
   unfold kas_place;by_cases hge:l≥r
   ·rw[saf hge];have:l=r:=by lia
    subst this;exact⟨hr,h1,h2⟩
   ·rw[sah hge];have hmk:(l+r) / 2<k:=by lia
    refine⟨hp.bd hk,hp.bd (by lia),?_⟩;dsimp only
    cases hc:lt (p.getD k 0) (p.getD ((l+r) / 2) 0)with
    | true=>
      rw[saf rfl];refine oA O hp hk hs f l ((l+r) / 2) (by lia) (by lia) (by lia) h1 fun i hi hik=>?_;by_cases e:i=(l+r) / 2
      ·rw[e];exact hc
      ·exact O.tr _ _ _ hc (hs _ i (by lia) hik)
    | false=>
      rw[sah sax];have hl2:=other O hp hk (show(l+r) / 2<n by lia) (by lia) hc;refine oA O hp hk hs f ((l+r) / 2+1) r (by lia) (by lia) hr (fun i hi=>?_) h2;by_cases e:i=(l+r) / 2
      ·rw[e];exact hl2
      ·exact O.tr _ _ _ (hs i ((l+r) / 2) (by lia) hmk) hl2
theorem cV (O:LtOk n lt):∀(f:Nat) (p:Array Nat) (k:Nat),k+f=n→yY n p→bU lt p k→uv n lt (fun q=>yY n q∧bU lt q n) (kas_bin f p k)
 | 0, p, k, e, hp, hs => ⟨hp, by have : k = n :=by lia
                                 subst this;exact hs⟩
 | f+1,p,k,e,hp,hs=>by
   unfold kas_bin;have hk:k<n:=by lia
   refine uv.bind (fun l hl=>?_) _ (oA O hp hk hs k 0 k (by lia) (saX _) (Nat.le_refl _) (fun i hi=>by lia) (fun i h1 h2=>by lia));obtain⟨l1,l2,l3⟩:=hl;have hp2:yY n (bubble p k (k - l)):=(bubble_perm p k (k - l)).toList.trans hp;refine cV O f (bubble p k (k - l)) (k+1) (by lia) hp2 fun i j hij hj=>?_;have hsz:=hp.size
   have g:∀x,x<n→(bubble p k (k - l)).getD x 0=if x=l then p.getD k 0 else if l<x∧x≤k then p.getD (x - 1) 0 else p.getD x 0:=fun x hx=>by
    have e1:=hp2.get hx;have e2:=getElem?_bubble (xs:=p) (src:=k) (by lia) (k - l) (by lia) x;rw[e1,show k - (k - l)=l by lia]at e2;split at e2
    ·rename_i hh;rw[saf hh];rw[hp.get hk]at e2;exact saI e2
    ·rename_i hh;rw[sah hh];split at e2
     ·rename_i hh2;rw[saf hh2];rw[hp.get (show x - 1<n by lia)]at e2;exact saI e2
     ·rename_i hh2;rw[sah hh2];rw[hp.get hx]at e2;exact saI e2
   rw[g i (by lia),g j (by lia)];by_cases i1:i=l
   ·rw[saf i1];have hj1:¬j=l:=by lia
    rw[sah hj1,saf (by lia)];exact l3 (j - 1) (by lia) (by lia)
   ·rw[sah i1];by_cases i2:l<i∧i≤k
    ·rw[saf i2,sah (by lia),saf (by lia)];exact hs (i - 1) (j - 1) (by lia) (by lia)
    ·rw[sah i2];by_cases j1:j=l
     ·rw[saf j1];exact l2 i (by lia)
     ·rw[sah j1];by_cases j2:l<j∧j≤k
      ·rw[saf j2];by_cases e3:i=j - 1
       ·lia
       ·exact hs i (j - 1) (by lia) (by lia)
      ·rw[sah j2];exact hs i j hij (by lia)
theorem XA (O:LtOk n lt)(h2:2≤n):uv n lt (fun q=>yY n q∧bU lt q n) (kas_sort n):=by
 unfold kas_sort;refine uv.bind (fun r hr=>?_) _ (aX O (p:=List.toArray (List.range n)) (by show((List.range n).toArray).toList.Perm _;exact scu _) h2);obtain⟨r1,r2,r3,r4⟩:=hr;by_cases h:r.1<n
 ·rw[saf h,show max r.1 1=r.1 by lia];exact cV O (n - r.1) r.2 r.1 (by lia) r3 r4
 ·rw[sah h];have:r.1=n:=by lia
  rw[this]at r4;exact⟨r3,r4⟩
end
theorem uv.wp {α:Type}{n:Nat}{lt:Nat→Nat→Bool}{Q:α→Prop}{R:α→Shared→Prop}{s:Shared}{cmp:Nat→Nat→(Bool→Shared→Prop)→Shared→Prop}(hc:∀i j C,i<n→j<n→C (lt i j) s→cmp i j C s)(hR:∀a,Q a→R a s):∀(t:KasT α),uv n lt Q t→t.kasWp cmp R s
 | .ret a,g=>hR a g
 | .ask i j k,g=>hc i j _ g.1 g.2.1 (uv.wp hc hR _ g.2.2)
noncomputable def vc (h:Heap)(a:Addr)(p:Int×Int):Prop:=∃o n t u,h.get? a=some o∧o.cls=.type "tuple" ∧ o.data=.seq #[.int p.1 t,.int p.2 u] n
theorem vc.keep {h h':Heap}{a:Addr}{p:Int×Int}(x:vc h a p)(k:∀o,h.get? a=some o→h'.get? a=some o):vc h' a p:=by
 obtain⟨o,n,t,u,q,r⟩:=x;exact⟨o,n,t,u,k o q,r⟩
noncomputable def mJ (p:Int×Int):List Int:=[p.1,p.2]
theorem vc.key {prog:Program}{w:World}{h:Heap}{a:Addr}{p:Int×Int}(x:vc h a p):uu prog w h (mJ p) a:=by
 obtain⟨o,n,t,u,q,c,d⟩:=x;exact⟨o,_,n,q,c,d,.cons (intKind_is _ _ _ _) (.cons (intKind_is _ _ _ _) .nil)⟩
noncomputable def oi (p q:Int×Int):Bool:=decide (p.1<q.1∨(p.1=q.1∧p.2<q.2))
theorem Z9 (p:Int×Int):oi p p=false:=by simp[oi]
theorem aD {p q r:Int×Int}(h1:oi p q=true)(h2:oi q r=true):oi p r=true:=by
 simp only[oi,sap]at *;lia
theorem Z8 {p q:Int×Int}(h:p≠q):oi p q=true∨oi q p=true:=by
 obtain⟨a,b⟩:=p;obtain⟨c,d⟩:=q;simp only[oi,sap];by_cases e:a=c
 ·subst e;have:b≠d:=fun z=>h (by rw[z]);lia
 ·lia
theorem aL {ps:List (Int×Int)}(hn:ps.Nodup):LtOk ps.length (fun i j=>oi (ps.getD i (0,0)) (ps.getD j (0,0))) where
 irr:=fun i=>Z9 _
 tr:=fun i j k h1 h2=>aD h1 h2
 tot:=fun i j hi hj hij=>Z8 fun e=>by
  have e1:ps[i]?=some (ps.getD i (0,0)):=by simp[hi]
  have e2:ps[j]?=some (ps.getD j (0,0)):=by simp[hj]
  rw[←e]at e2;exact hij ((List.getElem?_inj hi hn).mp (e1.trans e2.symm))
section
variable {prog:Program}{w:World}{A:Around}{E:Value→Shared→Prop}{s:Shared}
theorem V7 {a b:Addr}{p q:Int×Int}{C:Bool→Shared→Prop}(ha:vc s.heap a p)(hb:vc s.heap b q)(h:C (oi p q) s):wpAny (model prog w) A (keyLt' (tuples' true) (.ref a) (.ref b)) C E s:=by
 obtain⟨o1,n1,t1,u1,q1,_,d1⟩:=ha;obtain⟨o2,n2,t2,u2,q2,_,d2⟩:=hb;refine kat_lt q1 d1 q2 d2 (kat_cons ((intKind prog w).eqBool (intKind_is _ _ _ _) (intKind_is _ _ _ _) (kat_go (fun e1=>kat_yes (kat_cons ((intKind prog w).eqBool (intKind_is _ _ _ _) (intKind_is _ _ _ _) (kat_go (fun e2=>kat_yes (kat_nil ?_)) fun e2=>kat_no ?_)))) fun e1=>kat_no ?_)))
 ·have f1:p.1=q.1:=by simpa using e1
  have f2:p.2=q.2:=by simpa using e2
  have:oi p q=decide ((2:Nat)<2):=by simp[oi,f1,f2]
  rw[this]at h;exact h
 ·have f1:p.1=q.1:=by simpa using e1
  refine kat_one _ _ (lt_int ?_);have:oi p q=decide (p.2<q.2):=by simp[oi,f1]
  rw[this]at h;exact h
 ·have f1:¬p.1=q.1:=by simpa using e1
  refine oneLt_int ?_;have:oi p q=decide (p.1<q.1):=by simp[oi,f1]
  rw[this]at h;exact h
theorem gJ:∀{as:List Addr} {ps:List (Int×Int)} {h:Heap},as.length=ps.length→(∀(i:Nat) a p,as[i]?=some a→ps[i]?=some p→vc h a p)→∃fs,KatTups h (as.map Value.ref) fs∧fs.length=as.length∧∀v∈fs,∃i t,v=Value.int i t
 |[],[],h,_,_=>⟨[],trivial,rfl,fun v hv=>by simp at hv⟩
 |[],_::_,_,e,_=>by simp at e
 |_::_,[],_,e,_=>by simp at e
 | a::as,p::ps,h,e,hp=>by
   obtain⟨fs,k1,k2,k3⟩:=gJ (as:=as) (ps:=ps) (h:=h) (by simpa using e) fun i a p h1 h2=>hp (i+1) a p (by simpa using h1) (by simpa using h2);obtain⟨o,n,t,u,q,c,d⟩:=hp 0 a p rfl rfl;refine⟨.int p.1 t::fs,⟨⟨a,o,_,n,rfl,q,c,d,rfl⟩,k1⟩,by simp[k2],fun v hv=>?_⟩
   rcases saj.mp hv with rfl|hv
   ·exact⟨_,_,rfl⟩
   ·exact k3 v hv
theorem Wc (l:List Value):(l.toArray.zip l.toArray).map (·.2)=((List.range l.length).map fun i=>l.getD i Value.none).toArray:=by
 have h1:∀m:List Value,(m.zip m).map Prod.snd=m:=by
  intro m
  induction m with
  |nil=>rfl
  |cons a m ih=>simp[ih]
 have h2:(List.range l.length).map (fun i=>l.getD i Value.none)=l:=by
  apply List.ext_getElem
  ·simp
  ·intro i h3 h4;simp[h4]
 rw[h2];apply Array.toList_inj.mp;rw[Array.toList_map,Array.toList_zip];exact h1 l
theorem af {la:Addr}{as:List Addr}{ps:List (Int×Int)}{n:Nat}{P:PySem.Fin→Shared→Prop}(hob:s.heap.get? la=some (seqObj "list" (as.map Value.ref).toArray n)) (hlen:as.length=ps.length) (hps:∀(i:Nat) a p,as[i]?=some a→ps[i]?=some p→vc s.heap a p)
 (hla:∀a∈as,a≠la) (hn:ps.Nodup) (hz:as.length<64)
 (h:∀(is:List Nat),is.Perm (List.range ps.length)→(is.map fun i=>ps.getD i (0,0)).Pairwise (fun p q=>oi p q=true) →
  P (.done (.ret .none)) {s with heap:=sortedHeap s.heap la (as.map Value.ref) (is.map fun i=>(as.map Value.ref).getD i Value.none).toArray}) :
 wpAny (model prog w) A (Builtin.«list.sort» ⟨[.ref la],[]⟩) P E s:=by
 have hsz:(as.map Value.ref).toArray.size=ps.length:=by simp[hlen]
 have hlt:=sai hob
 obtain⟨ep,hob1⟩:∃ep,(s.heap.update la (Obj.mapSeq fun _=>#[])).get? la=some (seqObj "list" #[] ep):=⟨_,get?_update_seq hob (fun _=>#[])⟩
 have hob2:(((s.heap.update la (Obj.mapSeq fun _=>#[])).push (seqObj "tuple" (as.map Value.ref).toArray 0)).push (seqObj "list" #[] 0)).get? la=some (seqObj "list" #[] ep) :=
  sab _ (sab _ hob1)
 rw[list_sort_plain];refine saa (listItems_at hob rfl ?_);refine saa (listUpdate_at hob rfl ?_ (by rw[hsz,sizeLine_eq];lia) (saX _));refine saa (seqEpoch_at hob1 rfl ?_);refine saa (wpAny_newTuple ?_ (by show(as.map Value.ref).length≤_;rw[sae,sizeLine_eq];lia));refine saa (wpAny_newList ?_ (saX _));refine sbj ?_;show wpAny (model prog w) A _ P E {s with heap:=((s.heap.update la (Obj.mapSeq fun _=>#[])).push (seqObj "tuple" (as.map Value.ref).toArray 0)).push (seqObj "list" #[] 0)};dsimp only;by_cases hs2:(as.map Value.ref).toArray.size<2
 ·rw[saf hs2,saf hs2];refine saa (sac ?_);rw[StateT.run_pure];refine saa (sac ?_);dsimp only;refine saa (seqEpoch_at hob2 rfl ?_)
  have harr:(arrOf (SortSt.mk' general' ((as.map Value.ref).toArray.zip (as.map Value.ref).toArray) #[] 7 none)).map (·.2)=((List.range ps.length).map fun i=>(as.map Value.ref).getD i Value.none).toArray:=by
   have e:=Wc (as.map Value.ref);rw[sae,hlen]at e;exact e
  rw[harr];refine saa (listUpdate_at hob2 rfl ?_ (saX _) (by rw[List.size_toArray,sae,sck,sizeLine_eq];lia));simp only[bne_self_eq_false,saH,if_false];refine sac (h (List.range ps.length) (scu _) ?_);rw[hsz]at hs2
  match ps,hs2 with
  |[],_=>exact List.Pairwise.nil
  |[p],_=>exact List.pairwise_singleton _ _
 ·rw[sah hs2,sah hs2];have h2:2≤(as.map Value.ref).length:=by rw[hsz]at hs2;rw[sae];lia
  have hold:∀a p,a≠la→vc s.heap a p→vc (((s.heap.update la (Obj.mapSeq fun _=>#[])).push (seqObj "tuple" (as.map Value.ref).toArray 0)).push (seqObj "list" #[] 0)) a p:=fun a p hne x=>
   x.keep fun o ho=>sab _ (sab _ (by rw[Heap.get?_update_ne _ _ _ _ hne];exact ho))
  have hps2:∀(i:Nat) a p,as[i]?=some a→ps[i]?=some p→vc (((s.heap.update la (Obj.mapSeq fun _=>#[])).push (seqObj "tuple" (as.map Value.ref).toArray 0)).push (seqObj "list" #[] 0)) a p:=fun i a p h1 h2=>hold a p (hla a (saD h1)) (hps i a p h1 h2);obtain⟨fs,k1,k2,k3⟩:=gJ hlen hps2;refine saa (kat_kind (T:=.type "int") k1 (by rw[k2];rw[sae]at h2;lia) (fun v hv=>?_) (by decide) ?_)
  ·obtain⟨i,t,rfl⟩:=k3 v hv;exact Looks.of_pure rfl
  ·have hb:(Value.type "int" != Value.type "tuple")=true:=by decide
   rw[hb];have good:=XA (aL hn) (by rw[hsz]at hs2;lia)
   refine saa (scE (kat_run (Q:=fun st' s'=>s'={s with heap:=((s.heap.update la (Obj.mapSeq fun _=>#[])).push (seqObj "tuple" (as.map Value.ref).toArray 0)).push (seqObj "list" #[] 0)}∧failedOf st'=none∧∃p:Array Nat,yY ps.length p∧bU (fun i j=>oi (ps.getD i (0,0)) (ps.getD j (0,0))) p ps.length∧(arrOf st').map (·.2)=List.toArray (p.toList.map fun i=>(as.map Value.ref).getD i Value.none))
    (G:=fun p s'=>s'={s with heap:=((s.heap.update la (Obj.mapSeq fun _=>#[])).push (seqObj "tuple" (as.map Value.ref).toArray 0)).push (seqObj "list" #[] 0)}∧yY ps.length p∧bU (fun i j=>oi (ps.getD i (0,0)) (ps.getD j (0,0))) p ps.length)
    rfl h2 (by rw[sae];exact hz) (fun p st' s' a1 a2 a3 a4=>⟨a4.1,a3,p,a4.2.1,a4.2.2,kat_snds rfl a2⟩) ?_) ?_ fun _ _ e=>e)
   ·rw[sae,hlen];refine uv.wp (fun i j C hi hj hC=>?_) (fun p hp=>⟨rfl,hp.1,hp.2⟩) _ good;have gi:as[i]?=some (as.getD i 0):=by simp[hlen,hi]
    have gj:as[j]?=some (as.getD j 0):=by simp[hlen,hj]
    have pi:ps[i]?=some (ps.getD i (0,0)):=by simp[hi]
    have pj:ps[j]?=some (ps.getD j (0,0)):=by simp[hj]
    have vi:(as.map Value.ref).getD i Value.none=.ref (as.getD i 0):=by simp[hlen,hi]
    have vj:(as.map Value.ref).getD j Value.none=.ref (as.getD j 0):=by simp[hlen,hj]
    unfold kas_ask;rw[vi,vj];exact V7 (hps2 i _ _ gi pi) (hps2 j _ _ gj pj) hC
   ·rintro⟨⟨⟩,st'⟩ s' ⟨rfl,hf,p,hp1,hp2,hout⟩;dsimp only;refine saa (seqEpoch_at hob2 rfl ?_);rw[hout];have hpz:p.toList.length=ps.length:=by rw[Array.length_toList];exact hp1.size
    refine saa (listUpdate_at hob2 rfl ?_ (saX _) (by rw[List.size_toArray,sae,hpz,sizeLine_eq];lia));rw[hf];simp only[bne_self_eq_false,saH,if_false];refine sac (h p.toList hp1 ?_);rw[sbC];intro i j hi hj hij;simp only[List.getElem_map];have hj2:j<ps.length:=by rw[sae]at hj;lia
    have e:=hp2 i j hij hj2;have hsz2:=hp1.size;have g1:p.getD i 0=p.toList[i]'(by rw[sae]at hi;exact hi):=by simp[Array.getD,show i<p.size by lia]
    have g2:p.getD j 0=p.toList[j]'(by rw[sae]at hj;exact hj):=by simp[Array.getD,show j<p.size by lia]
    rw[g1,g2]at e;exact e
end
end DL
namespace DL
open PySem PySem.Spec PyProof.Rows L2
noncomputable def Uc (a:Addr)(n:Nat):HO:=.ext fun h=>∃o es ep t,h.get? a=some o∧o.ExactSet∧o.data=.set es ep t∧t.fits es.size=true∧es.size=n∧n<1000
theorem U2 {P:Program}{w:World}{H:Hp}{h:Heap}{a:Addr}{n:Nat}{es:Array (Int×Value)}{ep:Nat}{tb:SetTable}(S:SetAt w h a es ep tb)(hn:es.size=n)(hz:n<1000):vJ P w H h a (Uc a n):=by
 obtain⟨o,ho,hx,hd⟩:=S.ex;exact⟨⟨o,es,ep,tb,ho,hx,hd,S.tab.fits,hn,hz⟩,⟨o,ho⟩,fun h1 h2 ⟨o,es,ep,t,q,r⟩ hk=>⟨o,es,ep,t,hk o q,r⟩⟩
theorem aR {h:Heap}{a:Addr}{p:Int×Int}{its:List Value}(r:yt [V.int p.1,V.int p.2] its)(t:IsTup h a its.toArray):vc h a p:=by
 obtain⟨o,ho,hc,n,hd⟩:=t
 cases r with
 | cons r1 r2=>
   cases r2 with
   | cons r3 r4=>
     cases r4;obtain⟨t1,rfl⟩:=r1;obtain⟨t2,rfl⟩:=r3;exact⟨o,n,t1,t2,ho,hc,hd⟩
theorem fU {X:Cx}{pins:List (Addr×Obj)}{σ:St}{H:Hp}{s:Shared}{a:Addr}{p:Int×Int}(I:Inv X pins σ H s)(h:H a=some (.tup [.int p.1,.int p.2])):vc s.heap a p:=by
 obtain⟨_,its,rv,t⟩:=I.hok a _ h;exact aR rv t
theorem mv:∀{as:List Addr} {us:List Value},yt (as.map V.ref) us→us=as.map Value.ref
 |[],us,r=>by cases r;rfl
 | a::as,us,r=>by
   cases r with
   | cons r1 r2=>
     rw[mv r2];cases(show _=Value.ref a from r1);rfl
noncomputable def qZ (H:Hp)(as:List Addr)(ps:List (Int×Int)):Prop:=as.length=ps.length∧∀(i:Nat) (a:Addr) (q:Int×Int),as[i]?=some a→ps[i]?=some q→H a=some (.tup [.int q.1,.int q.2])
theorem Zm {X:Cx}(hc:X.calm=true)(hu:X.A.units+20<cLine):uI X (.type "set") (fun xs H Q=>∃(p:Addr) (as:List Addr) (ps:List (Int×Int)),xs=[.ref p]∧H p=some (.l (as.map V.ref))∧qZ H as ps∧ps.length<18∧∀l,H l=none→Q (.ref l) (yW H l (Uc l (uj (ps.map mJ)).length))):=by
 intro pins s σ H xs us Q I r h;obtain⟨p,as,ps,rfl,hp,hP,hl,q⟩:=h;obtain⟨u,rfl,r1⟩:=qf r;cases(show u=.ref p from r1);obtain⟨z,its,n,rv,hlen,e⟩:=I.lstM hp;have Xx:=mv rv;subst Xx;refine XX (items:=(as.map Value.ref).toArray) (ks:=ps.map mJ) (as:=as) (I.ok.hd hc) (by lia) ⟨_,e,rfl,_,rfl⟩ rfl (by rw[sae];exact hP.1) (fun j a k h1 h2=>?_) (by rw[sae];exact hl) fun h' tk es ep tb _ S hk=>?_
 ·rw[sav]at h2
  cases hq:ps[j]? with
  |none=>rw[hq]at h2;cases h2
  |some q'=>rw[hq]at h2;cases h2;exact(fU I (hP.2 j a q' h1 hq)).key
 ·have hk':∀b o,s.heap.get? b=some o→h'.get? b=some o:=fun b o eb=>hk b o (sai eb) eb;have hsz:es.size=(uj (ps.map mJ)).length:=by rw[←Array.length_toList];exact S.es.len
  have hml:=Ye (ps.map mJ);rw[sae]at hml;exact⟨.ref s.heap.objs.size,_,I.laid (t':=tk) (o:=Uc s.heap.objs.size (uj (ps.map mJ)).length) hk' (Nat.le_refl _) (U2 S.at_ hsz (by lia)),rfl,q _ (I.hok.fresh (Nat.le_refl _))⟩
theorem XZ {X:Cx}:uI X (.builtin "len") (fun xs H Q=>∃(p:Addr) (n:Nat),xs=[.ref p]∧H p=some (Uc p n)∧Q (.int n) H):=by
 intro pins s σ H xs us Q I r h;obtain⟨p,n,rfl,hp,q⟩:=h;obtain⟨u,rfl,r1⟩:=qf r;cases(show u=.ref p from r1);obtain⟨⟨o,es,ep,t,ho,hx,hd,hf,hn,hz⟩,_⟩:=I.hok p _ hp;refine call_len_set ho hx hd hf (by lia) ?_;exact⟨.int n,H,I.tok _,⟨_,by rw[hn]⟩,q⟩
noncomputable def dD:D→Option (Int×Int)
 | .tup [.int x,.int y]=>some (x,y)
 |_=>none
noncomputable def zd (p:Int×Int):D:=.tup [.int p.1,.int p.2]
theorem X5 {d:D}{p:Int×Int}(h:dD d=some p):d=zd p:=by
 unfold dD at h;split at h
 ·cases h;rfl
 ·cases h
noncomputable def uR:List D→Option (List (Int×Int))
 |[]=>some []
 | d::ds=>match dD d,uR ds with
   |some p,some ps=>some (p::ps)
   |_,_=>none
theorem r_:∀{ds:List D} {ps:List (Int×Int)},uR ds=some ps→ds=ps.map zd
 |[],ps,h=>by cases h;rfl
 | d::ds,ps,h=>by
   unfold uR at h;split at h
   ·rename_i p ps' h1 h2;cases h;rw[X5 h1,r_ h2];rfl
   ·cases h
theorem ur:∀ps:List (Int×Int),uR (ps.map zd)=some ps
 |[]=>rfl
 |p::ps=>by simp[uR,dD,zd,ur ps]
theorem mN {K:Frag}{G:Hp}:∀{ps:List (Int×Int)} {vs:List V},zM K G (ps.map zd) vs→∃as:List Addr,vs=as.map V.ref∧qZ G as ps
 |[],vs,h=>⟨[],h,rfl,fun i a q h1=>by simp at h1⟩
 | p::ps,vs,h=>by
   obtain⟨v,r,rfl,h1,h2⟩:=h;obtain⟨as,rfl,hl,hP⟩:=mN h2;obtain⟨a,ws,rfl,g,hw⟩:=h1
   have:ws=[.int p.1,.int p.2]:=by
    obtain⟨v1,r1,rfl,e1,e2⟩:=hw;obtain⟨v2,r2,rfl,e3,e4⟩:=e2;cases(show v1=.int p.1 from e1);cases(show v2=.int p.2 from e3);cases(show r2=[]from e4);rfl
   subst this;refine⟨a::as,rfl,by simp[hl],fun i b q h1 h2=>?_⟩
   cases i with
   |zero=>simp at h1 h2;subst h1;subst h2;exact g
   |succ i=>exact hP i b q (by simpa using h1) (by simpa using h2)
theorem qZ.mono {G H:Hp}{as:List Addr}{ps:List (Int×Int)}(h:qZ G as ps)(s:zV G H):qZ H as ps:=⟨h.1,fun i a q h1 h2=>s _ _ (h.2 i a q h1 h2)⟩
@[simp] noncomputable def Q8:D→Out Val
  | .l ds=>match vS ds with
    |some ns=>if ns.length<18 then .ok (.p (.int (met ns).length))else .bad
    | none=>match uR ds with
      |some ps=>if ps.length<18 then .ok (.p (.int (uj (ps.map mJ)).length))else .bad
      |none=>.bad
  |_=>.bad
@[simp] noncomputable def sY:D→Out Val
  | .l ds=>match uR ds with
    |some ps=>if ps.length<18 then .ok (.p (.int (uj (ps.map mJ)).length))else .bad
    |none=>.bad
  |_=>.bad
theorem Zh {X:Cx}{G₀ H₀:Hp}{p p2 pos pos2:Pos}{e:Expr}{f:FE}(hu:X.A.units+20<cLine)(he:DE X G₀ H₀ e f)(hm:X.mg "len" = none) (hm2:X.mg "set" = none)
 (hc:X.calm=true:=by rfl) (hg:Gl X "len" :=by rfl) (hg2:Gl X "set" :=by rfl)
 (hs:starEach [.Call (.Name "set" p2) [e] [] pos2] X.env=[(false,eval (.Call (.Name "set" p2) [e] [] pos2) X.env)]:=by rfl) (hs2:starEach [e] X.env=[(false,eval e X.env)]:=by rfl) :
 DE X G₀ H₀ (.Call (.Name "len" p) [.Call (.Name "set" p2) [e] [] pos2] [] pos) (f1 sY f) :=
 (jB XZ hg hm PySem.boot_len (yP (mL (Zm hc hu) hg2 hm2 boot_set (yP he x4 hs2) (by decide) (by decide) hs2 rfl) x4 hs) (by decide) (by decide) hs rfl).imp fun σ H Q q=>by
  obtain⟨env,G,val,I,e,k⟩:=q;obtain⟨x,e1,e⟩:=zv e;refine uy I e1 fun v G' H' g l I' o=>?_;unfold sY at e;split at e
  ·rename_i ds hd;rw[hd]at o;obtain⟨a,vs,rfl,h1,r1⟩:=v9.l I' o;split at e
   ·rename_i ps hps;split at e
    ·rename_i hl;cases e;rw[r_ hps]at r1;obtain⟨as,rfl,hP⟩:=mN r1;refine⟨a,as,ps,rfl,h1,hP.mono l,hl,fun b hb=>?_⟩;have g1:=Gw.laidL (o:=Uc b (uj (ps.map mJ)).length) l hb;exact⟨b,(uj (ps.map mJ)).length,rfl,zU,k _ G' _ (g.trans g1.1) g1.2 rfl⟩
    ·cases e
   ·cases e
  ·cases e
theorem dg {X:Cx}:uI X (.builtin "sorted") (fun xs H Q=>∃(p:Addr) (as:List Addr) (ps:List (Int×Int)),xs=[.ref p]∧H p=some (.l (as.map V.ref))∧qZ H as ps∧ps.Nodup∧ps.length<64 ∧
 ∀(l:Addr) (is:List Nat),H l=none→is.Perm (List.range ps.length)→(is.map fun i=>ps.getD i (0,0)).Pairwise (fun p q=>oi p q=true)→Q (.ref l) (yW H l (.l ((is.map fun i=>as.getD i 0).map V.ref)))):=by
 intro pins s σ H xs us Q I r h;obtain⟨p,as,ps,rfl,hp,hP,hnd,hl,q⟩:=h;obtain⟨u,rfl,r1⟩:=qf r;cases(show u=.ref p from r1);obtain⟨z,its,n,rv,hlen,e⟩:=I.lstM hp;have Xx:=mv rv;subst Xx;have hal:as.length<64:=by rw[hP.1];exact hl
 refine Calls.call_function_entry kind_sorted plain_sorted entry_sorted (args_sorted1 _) ?_;unfold Builtin.«sorted»;refine saa (m:=checkCount "sorted" 1 1 _) (sac ?_);refine saa (collect_list (vs:=as.map Value.ref) ⟨_,e,rfl,_,rfl⟩ ?_ (by rw[sae,sizeLine_eq];lia));refine saa (wpAny_newList ?_ (by rw[sae,sizeLine_eq];lia))
 obtain⟨h1,hh1⟩:∃h1,h1=(s.heap.push (seqObj "list" #[] 0)).update s.heap.objs.size (Obj.mapSeq (· ++ (as.map Value.ref).toArray)):=⟨_,rfl⟩
 have k1:∀b o,s.heap.get? b=some o→h1.get? b=some o:=fun b o q=>by
  have hlt:=sai q;rw[hh1,Heap.get?_update_ne _ _ _ _ (saA hlt),Heap.get?_push_ne _ _ _ (saA hlt)];exact q
 show wpAny _ _ _ _ _ {s with heap:=((s.heap.push (seqObj "list" #[] 0)).update s.heap.objs.size (Obj.mapSeq (· ++ (as.map Value.ref).toArray))).push (seqObj "list" (as.map Value.ref).toArray 0)};rw[←hh1];have hoL:(h1.push (seqObj "list" (as.map Value.ref).toArray 0)).get? h1.objs.size=some (seqObj "list" (as.map Value.ref).toArray 0):=saq _ rfl;have k2:∀b o,s.heap.get? b=some o→(h1.push (seqObj "list" (as.map Value.ref).toArray 0)).get? b=some o:=fun b o q=>sab _ (k1 b o q);have hps:∀(i:Nat) a q,as[i]?=some a→ps[i]?=some q→vc (h1.push (seqObj "list" (as.map Value.ref).toArray 0)) a q:=fun i a q' e1 e2=>(fU I (hP.2 i a q' e1 e2)).keep fun o eo=>k2 a o eo
 have hne:∀a∈as,a≠h1.objs.size:=fun a ha=>by
  obtain⟨j,hj⟩:=saT ha;have hjl:j<ps.length:=by rw[←hP.1];exact(sak.mp hj).1
  obtain⟨o,_,_,_,ho,_⟩:=fU I (hP.2 j a _ hj (sad hjl));exact saA (sai (k1 a o ho))
 refine saa (sbj (scG slot_list_sort ⟨_,hoL,rfl⟩ entry_list_sort (af (s:={s with heap:=h1.push (seqObj "list" (as.map Value.ref).toArray 0)}) hoL hP.1 hps hne hnd hal fun is p1 p2=>⟨_,rfl,?_⟩) (args_list_sort _)));obtain⟨c,he⟩:=sortedHeap_at (out:=(is.map fun i=>(as.map Value.ref).getD i Value.none).toArray) hoL;have I1:Inv X pins σ H {s with heap:=h1,toks:=s.toks}:=I.kept (t':=s.toks) k1
 have keep:∀b o,h1.get? b=some o→(sortedHeap (h1.push (seqObj "list" (as.map Value.ref).toArray 0)) h1.objs.size (as.map Value.ref) (is.map fun i=>(as.map Value.ref).getD i Value.none).toArray).get? b=some o:=fun b o eb=>by
  have hlt:=sai eb;rw[sortedHeap_old (saA hlt) (by rw[size_push'];exact sbD hlt),Heap.get?_push_ne _ _ _ (saA hlt)];exact eb
 have hout:is.map (fun i=>(as.map Value.ref).getD i Value.none)=(is.map fun i=>as.getD i 0).map Value.ref:=by
  rw[sbp];refine saP fun i hi=>?_;have hil:i<as.length:=by rw[hP.1];exact sbb.mp (p1.mem_iff.mp hi)
  simp[hil]
 have hisl:is.length=ps.length:=by rw[p1.length_eq,sck]
 have vr:∀l:List Addr,yt (l.map V.ref) (l.map Value.ref):=by
  intro l
  induction l with
  |nil=>exact .nil
  |cons a l ih=>exact .cons rfl ih
 have hz:((is.map fun i=>as.getD i 0).map V.ref).length≤sizeLine:=by rw[sae,sae,hisl,sizeLine_eq];lia
 refine sac ⟨_,rfl,.ref h1.objs.size,_,I1.laid (t':=s.toks) (o:=.l ((is.map fun i=>as.getD i 0).map V.ref)) keep (Nat.le_refl _) ⟨hz,_,c,vr _,?_⟩,rfl,q _ is (I1.hok.fresh (Nat.le_refl _)) p1 p2⟩;rw[←hout];simpa[seqObj]using he
section
variable {prog:Program}{w:World}{K:Type}[DecidableEq K]{knd:PySem.KeyKind prog w K}{A:Around}{E:Value→Shared→Prop}{s:Shared}
theorem mF {d:Addr}{kvs:List (K×Value)}{k:K}{key dflt:Value}{Q:Value→Shared→Prop}(hkey:knd.is k key=true)(hm:s.heap.DictOf knd d kvs)(hsz:kvs.length≤sizeLine)
 (h1:∀v,valueAt kvs k=some v→Q v {s with toks:=s.toks+1})
 (h2:valueAt kvs k=none→∀h',h'.DictOf knd d (kvs++[(k,dflt)])→Heap.SameBut d s.heap h'→Q dflt {s with heap:=h',toks:=s.toks+1}) :
 wpAny (model prog w) A (dictSetDefault d key dflt) Q E s:=by
 obtain⟨o,es,ep,hob,hc,hd,hk,hp,hn⟩:=hm
 have hes:es.size≤sizeLine:=by
  have e1:=hp.length;have e2:es.toList.length=es.size:=by simp
  lia
 have hfind:∀x,findBy knd.is es x=valueAt kvs x:=fun x=>by
  rw[←hp.find x];obtain⟨l⟩:=es;simp[findBy]
 unfold dictSetDefault
 try with_reducible refine sbj ?_
 refine saa (knd.pyHash hkey ?_);refine saa (wpAny_dictFind_of (s:={s with toks:=s.toks+1}) hkey hob hd hk ?_)
 cases hi:es.findIdx? fun e=>knd.is k e.key with
 | some i=>
   have hv:valueAt kvs k=(es[i]?).map (·.val):=by rw[←hfind k,findBy_of_findIdx?,hi]
   refine saa (wpAny_dictEntries (s:={s with toks:=s.toks+1}) hob hd ?_);have hlt:i<es.size:=(Array.findIdx?_eq_some_iff_findIdx_eq.mp hi).1;rw[sar hlt]at hv ⊢;exact saa (wpAny_rule (sac (h1 _ hv)))
 | none=>
   have hv:valueAt kvs k=none:=by rw[←hfind k,findBy_of_findIdx?,hi]
   have hidx:(es.findIdx? fun e=>knd.is k e.key)=kvs.findIdx? fun kv=>decide (kv.1=k):=by
    rw[←hp.findIdx k];obtain⟨l⟩:=es;simp
   have hnot:k∉kvs.map (·.1):=not_mem_of_findIdx_none (hidx ▸ hi)
   refine saa (wpAny_rule (saa (wpAny_updateDictKeys (hz:=hes) (s:={s with toks:=s.toks+1}) hob hd (sac (h2 hv _ ⟨_,_,ep+1,saV _ hob (Obj.isFreed_of_dict (Obj.data_mapDictKeys hd _)),
    hc.mapDictKeys _,Obj.data_mapDictKeys hd _,hk.push hkey _,?_,?_⟩ (Heap.SameBut.update ..))))))
   ·have:=hp.append hkey (knd.hash k) dflt;obtain⟨l⟩:=es;simpa using this
   ·rw[saM,scA];refine⟨hn,by simp,fun a ha b hb=>?_⟩;simp only[List.map_cons,List.map_nil,sag]at hb;subst hb;exact fun e=>hnot (e ▸ ha)
theorem mT {d:Addr}{k:K}{key:Value}(hkey:knd.is k key=true)(hd:(d == sysModules)=false)(dflt:Value) :
 MeetsIn prog w (Builtin.«dict.setdefault» ⟨[.ref d,key,dflt],[]⟩) (fun _ R s=>∃kvs,s.heap.DictOf knd d kvs∧kvs.length≤sizeLine ∧
  (∀v,valueAt kvs k=some v→R (.ok (.ret v)) {s with toks:=s.toks+1}) ∧
  (valueAt kvs k=none→∀h',h'.DictOf knd d (kvs++[(k,dflt)])→Heap.SameBut d s.heap h'→R (.ok (.ret dflt)) {s with heap:=h',toks:=s.toks+1})) :=
 .of_wp fun A R s ⟨kvs,hm,hz,h1,h2⟩=>by
  unfold Builtin.«dict.setdefault» Builtin.Dict.keyAndDefault;refine saa (saa (wpAny_notOrdered_dict hm.typeIs ?_));show wpAny _ _ (pure (d,key,some dflt)) _ _ s;refine sac ?_;show wpAny _ _ (if(d == sysModules)=true then _ else(dictSetDefault d key dflt >>= _)) _ _ s;rw[sah (by rw[hd];exact sax)];exact saa (mF hkey hm hz (fun v hv=>sac ⟨v,rfl,h1 v hv⟩) fun hn h' hm' hs'=>sac ⟨dflt,rfl,h2 hn h' hm' hs'⟩)
end
theorem VT {P:Program}{w:World}{H:Hp}{h:Heap}{a:Addr}{kvs:List (pR×V)}(ok:kd P w H h)(e:H a=some (.dK kvs)):kvs.length≤sizeLine∧(a == sysModules)=false∧∃vs,KV kvs vs∧h.DictOf (tX P w) a vs:=ok a _ e
theorem gd {α β:Type}{F:α→β→Prop}:∀{l₁ l₃:List α} {l₂ l₄:List β},Paired F l₁ l₂→Paired F l₃ l₄→Paired F (l₁++l₃) (l₂++l₄)
 |_,_,_,_,.nil,q=>q
 |_,_,_,_,.cons r t,q=>.cons r (gd t q)
noncomputable def R4 (kvs:List (pR×V))(k:Int):Option V:=(kvs.find? fun kv=>decide (kv.1=Sum.inl k)).map (·.2)
theorem KV.valueAt:∀{kvs:List (pR×V)} {vs:List (pR×Value)} (k:Int),KV kvs vs→RU (R4 kvs k) (valueAt vs (Sum.inl k))
 |[],vs,k,r=>by cases r;exact trivial
 | (k',v)::kvs,vs,k,r=>by
   cases r with
   | @cons _ q _ vs' r1 r2=>
     obtain⟨k2,u⟩:=q;obtain⟨e1,e2⟩:=r1;cases(show k'=k2 from e1);have ih:=KV.valueAt k r2;unfold PySem.valueAt R4 at ih ⊢;rw[List.find?_cons,List.find?_cons];by_cases hk:k'=Sum.inl k
     ·simp only[sal hk];exact e2
     ·simp only[saw hk];exact ih
noncomputable def fP:V→List V→Hp→VK→Prop:=fun x vs H Q=>∃(d:Addr) (k:Int) (y:V) (kvs:List (pR×V)),x=.ref d∧vs=[.int k,y]∧H d=some (.dK kvs)∧kvs.length<sizeLine ∧
 ((∃v,R4 kvs k=some v∧Q v H)∨(R4 kvs k=none∧Q y (yW H d (.dK (kvs++[(Sum.inl k,y)])))))
theorem Xn {X:Cx}:Pe X "dict.setdefault" fP:=by
 intro pins s σ H x vs v us Q I rx rv h;obtain⟨d,k,y,kvs,rfl,rfl,hH,hz,q⟩:=h;cases rx;obtain⟨u1,u2,rfl,r1,r2⟩:=dR rv;obtain⟨t,rfl⟩:=r1;obtain⟨_,hsm,ws,rel,dd⟩:=VT I.hok hH;have hl:ws.length=kvs.length:=(Paired.length rel).symm;have hv:=KV.valueAt k rel;refine call_meetsIn PySem.F.slot_dict_setdefault dd.typeIs PySem.F.entry_dict_setdefault (PySem.F.args_dict_setdefault_3 _ _ _) (mT (knd:=tX X.prog X.w) (k:=Sum.inl k) (show(tX X.prog X.w).is (Sum.inl k) (.int k t)=true from Xt k t) hsm u2) ⟨ws,dd,by lia,fun v' e'=>?_,fun e' h' dd' sb=>?_⟩
 ·rw[e']at hv
  rcases q with⟨v2,e2,q⟩|⟨e2,_⟩
  ·rw[e2]at hv;exact⟨v2,H,I.tok _,hv,q⟩
  ·rw[e2]at hv;exact hv.elim
 ·rw[e']at hv
  rcases q with⟨v2,e2,_⟩|⟨e2,q⟩
  ·rw[e2]at hv;exact hv.elim
  ·have ho:∃o,h'.get? d=some o:=let ⟨o,_,_,e,_⟩:=dd';⟨o,e⟩;refine⟨y,_,I.write (t':=s.toks+1) (x:=d) (e:=d) (o:=.dK (kvs++[(Sum.inl k,y)])) (by rw[hH];trivial) (.inl rfl) (fun b o hb e=>(sb.2 b hb).trans e) ho ⟨?_,hsm,_,gd rel (.cons ⟨rfl,r2⟩ .nil),dd'⟩,r2,q⟩;rw[saN,List.length_singleton];lia
theorem Q3 {X:Cx}{pins:List (Addr×Obj)}{σ:St}{H:Hp}{s:Shared}(I:Inv X pins σ H s):∀{a:Addr},s.heap.objs.size≤a→(a == sysModules)=false:=by
 intro a ha;have h:mainGlobals<s.heap.objs.size:=(I.mod.glob.keeps I.bk).lt;exact beq_eq_false_iff_ne.mpr (scJ (saA (saE (Nat.lt_trans (by decide) h) ha)))
noncomputable def Wt:TE:=fun _ H Q=>∀p,H p=none→Q (.ref p) (yW H p (.dK []))
theorem W2 {X:Cx}{pos:Pos}:PE X (.Dict [] [] pos) Wt:=fun pins s σ H Q I h=>
 wpAny_Dict_empty ⟨.ref s.heap.objs.size,_,I.laid (a:=s.heap.objs.size) (o:=.dK []) (t':=s.toks) (fun _ _ q=>sab _ q) (Nat.le_refl _) ⟨saX _,Q3 I (Nat.le_refl _),[],.nil,Heap.DictOf.new _⟩,rfl,h _ (I.hok.fresh (Nat.le_refl _))⟩
noncomputable def lH (r d:Addr):HO:=.ext fun h=>h.IsItemsView r d
noncomputable def WL:V→List V→Hp→VK→Prop:=fun x vs H Q=>∃(d:Addr) (kvs:List (pR×V)),x=.ref d∧vs=[]∧H d=some (.dK kvs)∧∀r,H r=none→Q (.ref r) (yW H r (lH r d))
theorem Vh {X:Cx}:Pe X "dict.items" WL:=by
 intro pins s σ H x vs v us Q I rx rv h;obtain⟨d,kvs,rfl,rfl,hH,q⟩:=h;cases rx;cases rv;obtain⟨_,hsm,ws,rel,dd⟩:=VT I.hok hH;refine call_meetsIn PySem.F.slot_dict_items dd.typeIs PySem.F.entry_dict_items (PySem.F.args_dict_items_1 _) (meets_dict_items (tX X.prog X.w) d hsm) ⟨⟨ws,dd⟩,?_⟩
 have hv:(s.heap.push {cls:=.type "dict_items",data:=.fields #[.ref d]}).IsItemsView s.heap.objs.size d:=⟨_,saq _ rfl,rfl,rfl⟩
 refine⟨.ref s.heap.objs.size,_,I.laid (t':=s.toks) (o:=lH s.heap.objs.size d) (fun _ _ e=>sab _ e) (Nat.le_refl _) ⟨hv,⟨_,saq _ rfl⟩,fun h1 h2 ⟨o,e,r⟩ hk=>⟨o,hk o e,r⟩⟩,rfl,q _ (I.hok.fresh (Nat.le_refl _))⟩
theorem Inv.many {X:Cx}{pins:List (Addr×Obj)}{σ:St}{H H':Hp}{s:Shared}{h':Heap}{t':Nat}(I:Inv X pins σ H s)(k:∀b o,s.heap.get? b=some o→h'.get? b=some o)(hs:zV H H')(hn:∀b,b<s.heap.objs.size→H b=none→H' b=none)
 (hok:∀b o,s.heap.objs.size≤b→H' b=some o→vJ X.prog X.w H' h' b o):Inv X pins σ H' {s with heap:=h',toks:=t'}:=by
 refine I.un ⟨fun b o e _ _ _=>k b o e,fun b o e _ _ _=>⟨o.slots,k b o e⟩,fun b o e n _=>hn b (sai e) n,fun b o e _=>⟨o,k b o e⟩,fun b xs e=>hs _ _ e,fun b o u e=>hs _ _ e,fun b ps e=>⟨#[],by rw[hs _ _ e];simp⟩⟩ fun b o e=>?_
 cases q:H b with
 | some u=>
   have e2:=hs _ _ q;rw[e2]at e;have e3:u=o:=saI e;subst e3;exact(I.hok b u q).stay (fun c v _ x=>k c v x) (fun c x=>hs _ _ x) fun c xs x=>hs _ _ x
 | none=>
   rcases Nat.lt_or_ge b s.heap.objs.size with hlt|hge
   ·rw[hn b hlt q]at e;cases e
   ·exact hok b o hge e
noncomputable def iK (H:Hp):List Addr→List (pR×V)→Hp
 |a::as,kv::kvs=>yW (iK H as kvs) a (.tup [kV kv.1,kv.2])
 |_,_=>H
theorem rM {H:Hp}:∀{as:List Addr} {kvs:List (pR×V)} {b:Addr},b∉as→iK H as kvs b=H b
 |[],_,b,_=>rfl
 |a::as,[],b,_=>rfl
 | a::as,kv::kvs,b,h=>by
   have h1:b≠a:=fun z=>h (by rw[z];exact saB);have h2:b∉as:=fun z=>h (sao _ z);unfold iK;rw[zB h1,rM h2]
theorem eD {H:Hp}:∀{as:List Addr} {kvs:List (pR×V)} {j:Nat} {a:Addr} {kv:pR×V},as.Nodup→as[j]?=some a→kvs[j]?=some kv→iK H as kvs a=some (.tup [kV kv.1,kv.2])
 |[],_,j,a,kv,_,h,_=>by simp at h
 |a'::as,[],j,a,kv,_,_,h=>by simp at h
 | a'::as,kv'::kvs,0,a,kv,hn,h1,h2=>by
   simp at h1 h2;subst h1;subst h2;exact zU
 | a'::as,kv'::kvs,j+1,a,kv,hn,h1,h2=>by
   have hn':=sbl.mp hn;have hm:a∈as:=saD (by simpa using h1);have hne:a≠a':=fun z=>hn'.1 (z ▸ hm);unfold iK;rw[zB hne];exact eD hn'.2 (by simpa using h1) (by simpa using h2)
theorem Vw:∀{kvs:List (pR×V)} {ws:List (pR×Value)} {j:Nat} {k:pR} {u:Value},KV kvs ws→ws[j]?=some (k,u)→∃v,kvs[j]?=some (k,v)∧xm v u
 |_,_,j,k,u,.nil,h=>by simp at h
 | _,_,0,k,u,.cons (a:=p) (b:=q) r t,h=>by
   simp at h;subst h;obtain⟨k',v⟩:=p;exact⟨v,by simp;exact r.1,r.2⟩
 | _,_,j+1,k,u,.cons r t,h=>by
   obtain⟨v,e,r'⟩:=Vw (j:=j) t (by simpa using h);exact⟨v,by simpa using e,r'⟩
theorem j_ {X:Cx}(hc:X.calm=true):uI X (.type "list") (fun xs H Q=>∃(r d:Addr) (kvs:List (pR×V)),xs=[.ref r]∧H r=some (lH r d)∧H d=some (.dK kvs) ∧
 ∀(l:Addr) (as:List Addr),H l=none→as.length=kvs.length→as.Nodup→(∀a∈as,H a=none∧a≠l)→Q (.ref l) (yW (iK H as kvs) l (.l (as.map V.ref)))):=by
 intro pins s σ H xs us Q I r h;obtain⟨rv,d,kvs,rfl,hr,hH,q⟩:=h;obtain⟨u,rfl,r1⟩:=qf r;cases(show u=.ref rv from r1);obtain⟨hz,hsm,ws,rel,dd⟩:=VT I.hok hH;obtain⟨hview,_⟩:=I.hok rv _ hr;obtain⟨ep,dat⟩:=dd.dictAt;have hwl:ws.length=kvs.length:=(Paired.length rel).symm;refine PySem.W.kdx_call (knd:=tX X.prog X.w) (I.ok.hd hc) hview dat (by lia) fun h' tk acc c as hk hS hl hG hacc=>?_;have hnd:as.Nodup:=hG.rise.imp fun h=>saA h;have hab:∀a∈as,s.heap.objs.size<a:=hG.above;have hn:∀a,s.heap.objs.size≤a→H a=none:=fun a ha=>I.hok.fresh ha
 have hnl:∀a∈as,H a=none∧a≠s.heap.objs.size:=fun a ha=>⟨hn a (scb (hab a ha)),sbB (hab a ha)⟩
 have fin:=q s.heap.objs.size as (hn _ (Nat.le_refl _)) (by lia) hnd hnl
 have hlow:∀b,b<s.heap.objs.size→yW (iK H as kvs) s.heap.objs.size (.l (as.map V.ref)) b=H b:=fun b hb=>by
  rw[zB (saA hb),rM fun hm=>absurd (hab b hm) (Nat.not_lt.mpr (scb hb))]
 have vr:∀l:List Addr,yt (l.map V.ref) (l.map Value.ref):=by
  intro l
  induction l with
  |nil=>exact .nil
  |cons a l ih=>exact .cons rfl ih
 have hsame:zV H (yW (iK H as kvs) s.heap.objs.size (.l (as.map V.ref))):=fun b o e=>by
  have hb:b<s.heap.objs.size:=by
   rcases Nat.lt_or_ge b s.heap.objs.size with hlt|hge
   ·exact hlt
   ·rw[hn b hge]at e;cases e
  rw[hlow b hb];exact e
 refine⟨.ref s.heap.objs.size,_,Inv.many I hk hsame (fun b hb e=>by rw[hlow b hb];exact e) fun b o hb e=>?_,rfl,fin⟩;by_cases hbl:b=s.heap.objs.size
 ·subst hbl;rw[zU]at e;cases e;refine⟨by rw[sae];lia,as.map Value.ref,c,vr as,?_⟩;rw[←hacc];simpa using hS
 ·rw[zB hbl]at e;by_cases hm:b∈as
  ·obtain⟨j,hj⟩:=saT hm;obtain⟨key,k,x,hw,hkey,ht⟩:=hG.pairs j b hj;obtain⟨v,hv,rvx⟩:=Vw rel hw;rw[eD hnd hj hv]at e;cases e;refine⟨by show 2≤sizeLine;rw[sizeLine_eq];lia,[key,x],.cons ?_ (.cons rvx .nil),⟨_,ht,rfl,_,rfl⟩⟩
   rcases xa (k:=k) (v:=key) hkey with⟨i,t,rfl,rfl⟩|⟨z,t,rfl,rfl⟩
   ·exact⟨t,rfl⟩
   ·exact⟨t,rfl⟩
  ·rw[rM hm,hn b hb]at e;cases e
noncomputable def jx (p:Int×Int):List (Int×Int)→List (Int×Int)
 |[]=>[p]
 |q::r=>if oi p q=true then p::q::r else q::jx p r
noncomputable def vH:List (Int×Int)→List (Int×Int)
 |[]=>[]
 |p::r=>jx p (vH r)
theorem mK (p:Int×Int):∀l,(jx p l).Perm (p::l)
 |[]=>scu _
 | q::r=>by
   unfold jx;split
   ·exact scu _
   ·exact((mK p r).cons q).trans (List.Perm.swap p q r)
theorem uY:∀l,(vH l).Perm l
 |[]=>scu _
 |p::r=>(mK p (vH r)).trans ((uY r).cons p)
theorem lT {p:Int×Int}:∀{l:List (Int×Int)},p∉l→l.Pairwise (fun p q=>oi p q=true)→(jx p l).Pairwise (fun p q=>oi p q=true)
 |[],_,_=>by simp[jx]
 | q::r,hp,h=>by
   unfold jx;have h':=saC.mp h;have hpq:p≠q:=fun z=>hp (by rw[z];exact saB);split
   ·rename_i hl;refine saC.mpr ⟨fun x hx=>?_,h⟩
    rcases saj.mp hx with rfl|hx
    ·exact hl
    ·exact aD hl (h'.1 x hx)
   ·rename_i hl;have hl':oi q p=true:=(Z8 hpq).resolve_left hl;refine saC.mpr ⟨fun x hx=>?_,lT (fun z=>hp (sao _ z)) h'.2⟩
    rcases saj.mp ((mK p r).mem_iff.mp hx)with rfl|hx
    ·exact hl'
    ·exact h'.1 x hx
theorem rH:∀{l:List (Int×Int)},l.Nodup→(vH l).Pairwise (fun p q=>oi p q=true)
 |[],_=>List.Pairwise.nil
 | p::r,h=>by
   have h':=sbl.mp h;exact lT (fun z=>h'.1 ((uY r).mem_iff.mp z)) (rH h'.2)
theorem qF:∀{a b:List (Int×Int)},a.Perm b→a.Pairwise (fun p q=>oi p q=true)→b.Pairwise (fun p q=>oi p q=true)→a=b
 |[],b,p,_,_=>by rw[List.Perm.nil_eq p]
 |x::a,[],p,_,_=>by have:=p.length_eq;simp at this
 | x::a,y::b,p,ha,hb=>by
   have ha':=saC.mp ha;have hb':=saC.mp hb
   have e:x=y:=by
    have h1:x∈y::b:=p.mem_iff.mp saB;have h2:y∈x::a:=p.mem_iff.mpr saB
    rcases saj.mp h1 with h1|h1
    ·exact h1
    ·rcases saj.mp h2 with h2|h2
     ·exact h2.symm
     ·have q1:=ha'.1 y h2;have q2:=hb'.1 x h1;have:=aD q1 q2;rw[Z9]at this;cases this
   subst e;rw[qF ((List.perm_cons x).mp p) ha'.2 hb'.2]
noncomputable abbrev TQ:=Int×List Int
noncomputable def iS (gs:List TQ)(p:Int×Int):List TQ:=if gs.any (fun g=>decide (g.1=p.1))=true then gs.map (fun g=>if g.1=p.1 then(g.1,g.2++[p.2])else g)else gs++[(p.1,[p.2])]
noncomputable def vO (ps:List (Int×Int)):List TQ:=ps.foldl iS []
noncomputable def Tg (g:TQ):D:=.tup [.int g.1,.l (g.2.map .int)]
noncomputable abbrev GA:=Int×List Int×Addr
noncomputable def kq (gs:List GA)(p:Int×Int)(a:Addr):List GA:=if gs.any (fun g=>decide (g.1=p.1))=true then gs.map (fun g=>if g.1=p.1 then(g.1,g.2.1++[p.2],g.2.2)else g)else gs++[(p.1,[p.2],a)]
noncomputable def fW (gs:List GA):List TQ:=gs.map fun g=>(g.1,g.2.1)
theorem UW (gs:List GA)(p:Int×Int)(a:Addr):fW (kq gs p a)=iS (fW gs) p:=by
 unfold kq iS fW;have e:(gs.map fun g=>((g.1,g.2.1):TQ)).any (fun g=>decide (g.1=p.1))=gs.any (fun g=>decide (g.1=p.1)):=by rw[List.any_map];rfl
 rw[e];split
 ·rw[sbp,sbp];refine saP fun g _=>?_;simp only[Function.comp]
  split <;> rfl
 ·simp
noncomputable def cP (gs:List GA):List (pR×V):=gs.map fun g=>(Sum.inl g.1,V.ref g.2.2)
theorem aM:∀(gs:List GA) (x:Int),R4 (cP gs) x=(gs.find? fun g=>decide (g.1=x)).map fun g=>V.ref g.2.2
 |[],x=>rfl
 | g::gs,x=>by
   have ih:=aM gs x;unfold R4 cP at ih ⊢;rw[List.map_cons,List.find?_cons,List.find?_cons];by_cases h:g.1=x
   ·have h':(Sum.inl g.1:pR)=Sum.inl x:=by rw[h]
    simp only[sal h,sal h'];rfl
   ·have h':¬(Sum.inl g.1:pR)=Sum.inl x:=fun z=>h (Sum.inl.inj z);simp only[saw h,saw h'];exact ih
structure DicOk (Hs H:Hp)(d l:Addr)(gs:List GA):Prop where
 same:zV Hs H
 nd:Hs d=none
 at_:H d=some (.dK (cP gs))
 lists:∀g∈gs,H g.2.2=some (.l (g.2.1.map V.int))∧Hs g.2.2=none∧g.2.2≠l
 apart:(gs.map (·.2.2)).Nodup
 keys:(gs.map (·.1)).Nodup
theorem DicOk.old {Hs H:Hp}{d l:Addr}{gs:List GA}{x y:Int}{g:GA}(I:DicOk Hs H d l gs)(hf:gs.find? (fun g=>decide (g.1=x))=some g)(a:Addr) :
 DicOk Hs (yW H g.2.2 (.l (g.2.1.map V.int++[.int y]))) d l (kq gs (x,y) a):=by
 have hg:g∈gs:=List.mem_of_find?_eq_some hf;have hx:g.1=x:=by simpa using List.find?_some hf
 obtain⟨h1,h2,h3⟩:=I.lists g hg;have hany:gs.any (fun g=>decide (g.1=x))=true:=sbe.mpr ⟨g,hg,by simp[hx]⟩;have hdne:d≠g.2.2:=Qy I.at_ h1 (by intro z;cases z)
 have uniq:∀g'∈gs,g'.1=x→g'=g:=fun g' hg' e=>by
  obtain⟨i,hi⟩:=saT hg;obtain⟨j,hj⟩:=saT hg';have e1:(gs.map (·.1))[i]?=some x:=by rw[sav,hi,←hx];rfl
  have e2:(gs.map (·.1))[j]?=some x:=by rw[sav,hj,←e];rfl
  have hij:i=j:=(List.getElem?_inj (sak.mp e1).1 I.keys).mp (e1.trans e2.symm);rw[hij,hj]at hi;exact(saI hi)
 have apart2:∀g'∈gs,g'≠g→g'.2.2≠g.2.2:=fun g' hg' hne e=>by
  obtain⟨i,hi⟩:=saT hg;obtain⟨j,hj⟩:=saT hg';have e1:(gs.map (·.2.2))[i]?=some g.2.2:=by rw[sav,hi];rfl
  have e2:(gs.map (·.2.2))[j]?=some g.2.2:=by rw[sav,hj,←e];rfl
  have hij:i=j:=(List.getElem?_inj (sak.mp e1).1 I.apart).mp (e1.trans e2.symm);rw[hij,hj]at hi;exact hne (saI hi)
 have hadd:kq gs (x,y) a=gs.map (fun g=>if g.1=x then(g.1,g.2.1++[y],g.2.2)else g):=by unfold kq;rw[saf hany]
 have m1:((kq gs (x,y) a).map (·.2.2))=gs.map (·.2.2):=by
  rw[hadd,sbp];refine saP fun g' _=>?_;simp only[Function.comp]
  split <;> rfl
 have m2:((kq gs (x,y) a).map (·.1))=gs.map (·.1):=by
  rw[hadd,sbp];refine saP fun g' _=>?_;simp only[Function.comp]
  split <;> rfl
 have m3:cP (kq gs (x,y) a)=cP gs:=by
  unfold cP;rw[hadd,sbp];refine saP fun g' _=>?_;simp only[Function.comp]
  split <;> rfl
 refine⟨fun b o e=>?_,I.nd,?_,fun g' hg'=>?_,by rw[m1];exact I.apart,by rw[m2];exact I.keys⟩
 ·rw[zB (zF e h2)];exact I.same b o e
 ·rw[zB hdne,m3];exact I.at_
 ·rw[hadd]at hg';obtain⟨g2,hg2,rfl⟩:=saz.mp hg';by_cases e:g2.1=x
  ·have:=uniq g2 hg2 e;subst this;rw[saf e];refine⟨?_,h2,h3⟩;show yW H g2.2.2 _ g2.2.2=_;rw[zU];simp
  ·rw[sah e];obtain⟨q1,q2,q3⟩:=I.lists g2 hg2;refine⟨?_,q2,q3⟩;rw[zB (apart2 g2 hg2 fun z=>e (by rw[z];exact hx))];exact q1
theorem DicOk.laid {Hs H:Hp}{d l p:Addr}{gs:List GA}{o:HO}(I:DicOk Hs H d l gs)(hp:H p=none):DicOk Hs (yW H p o) d l gs where
 same:=fun b u e=>by rw[zB (zF (I.same b u e) hp)];exact I.same b u e
 nd:=I.nd
 at_:=by rw[zB (zF I.at_ hp)];exact I.at_
 lists:=fun g hg=>let ⟨h1,h2,h3⟩:=I.lists g hg;⟨by rw[zB (zF h1 hp)];exact h1,h2,h3⟩
 apart:=I.apart
 keys:=I.keys
theorem DicOk.new {Hs H:Hp}{d l p:Addr}{gs:List GA}{x y:Int}(I:DicOk Hs H d l gs)(hp:H p=none)(hl:H l≠none)(hf:gs.find? (fun g=>decide (g.1=x))=none) :
 DicOk Hs (yW (yW (yW H p (.l [])) d (.dK (cP gs++[(Sum.inl x,.ref p)]))) p (.l ([]++[.int y]))) d l (kq gs (x,y) p):=by
 have hpd:p≠d:=fun z=>by rw[z,I.at_]at hp;cases hp
 have hany:¬gs.any (fun g=>decide (g.1=x))=true:=fun h=>by
  obtain⟨g,hg,e⟩:=sbe.mp h;have:=List.find?_eq_none.mp hf g hg;exact this e
 have hadd:kq gs (x,y) p=gs++[(x,[y],p)]:=by unfold kq;rw[sah hany]
 have hsp:Hs p=none:=I.same.free hp;have hpl:p≠l:=fun z=>hl (z ▸ hp);have hne:∀g∈gs,g.2.2≠p:=fun g hg=>zF (I.lists g hg).1 hp
 have hned:∀g∈gs,g.2.2≠d:=fun g hg z=>by
  have:=(I.lists g hg).1;rw[z,I.at_]at this;cases this
 refine⟨fun b o e=>?_,I.nd,?_,fun g hg=>?_,?_,?_⟩
 ·rw[zB (zF e hsp),zB (zF e I.nd),zB (zF e hsp)];exact I.same b o e
 ·rw[zB hpd.symm,zU,hadd];unfold cP;simp
 ·rw[hadd]at hg
  rcases san.mp hg with hg|hg
  ·obtain⟨q1,q2,q3⟩:=I.lists g hg;refine⟨?_,q2,q3⟩;rw[zB (hne g hg),zB (hned g hg),zB (hne g hg)];exact q1
  ·rw[sag]at hg;subst hg;exact⟨by rw[zU];rfl,hsp,hpl⟩
 ·rw[hadd,saM,scA];refine⟨I.apart,by simp,fun a ha b hb=>?_⟩;obtain⟨g,hg,rfl⟩:=saz.mp ha;simp only[List.map_cons,List.map_nil,sag]at hb;subst hb;exact hne g hg
 ·rw[hadd,saM,scA];refine⟨I.keys,by simp,fun a ha b hb=>?_⟩;obtain⟨g,hg,rfl⟩:=saz.mp ha;simp only[List.map_cons,List.map_nil,sag]at hb;subst hb;intro z;exact hany (sbe.mpr ⟨g,hg,by simpa using z⟩)
noncomputable def Sw : List V → Hp → VK → Prop := fun xs H Q => ∃ (p : Addr) (as : List Addr) (ps : List (Int × Int)),xs = [.ref p] ∧ H p = some (.l (as.map V.ref)) ∧ qZ H as ps ∧ ps.Nodup ∧ ps.length < 64 ∧
    ∀(l:Addr) (is:List Nat),H l=none→is.Perm (List.range ps.length)→(is.map fun i=>ps.getD i (0,0)).Pairwise (fun p q=>oi p q=true)→Q (.ref l) (yW H l (.l ((is.map fun i=>as.getD i 0).map V.ref)))
noncomputable def Sx : List V → Hp → VK → Prop := fun xs H Q => ∃ (r d : Addr) (kvs : List (pR × V)),xs = [.ref r] ∧ H r = some (lH r d) ∧ H d = some (.dK kvs) ∧
    ∀(l:Addr) (as:List Addr),H l=none→as.length=kvs.length→as.Nodup→(∀a∈as,H a=none∧a≠l)→Q (.ref l) (yW (iK H as kvs) l (.l (as.map V.ref)))
noncomputable def TR (K:Frag):TS :=
 Sl (Sn Wt (cX 1)) (Sl (Qc (T7 K (Qe Sw (pY (qB 0) iB))) (QG K 2 (VH (cX 2) (VH (cX 3) QH))) (ZO (R3 K "list" fQ (R3 K "dict" fP (qB 1) (pY (qB 2) (pY (Sm iB) iB))) (pY (qB 3) iB))))
  (R9 (Qe Sx (pY (Qf K "dict" WL (qB 1)) iB))))
@[simp] noncomputable def mU:FS:=fun(env:List Slot)=>match env[0]? with
  | some (Slot.p (.l ds))=>match uR ds with
    |some ps=>if ps.length<18∧ps.Nodup then .ok (.ret (.fresh ((vO (vH ps)).map Tg)))else .bad
    |none=>.bad
  |_=>.bad
theorem lV (ps:List (Int×Int))(p:Int×Int):vO (ps++[p])=iS (vO ps) p:=by
 unfold vO;rw[saR];rfl
theorem aO {K:Frag}{Hs H:Hp}{d l:Addr}{gs:List GA}{σ:St}{x y:Int}{D:Ends}(I:DicOk Hs H d l gs)(hl:H l≠none)(hld:l≠d)(hgl:gs.length<1000)(hll:∀g∈gs,g.2.1.length<1000)(s1:σ[1]?=some (some (.ref d)))(s2:σ[2]?=some (some (.int x)))(s3:σ[3]?=some (some (.int y)))
 (h:∀H' a,DicOk Hs H' d l (kq gs (x,y) a)→H' l=H l→D.nx σ H') :
 ZO (R3 K "list" fQ (R3 K "dict" fP (qB 1) (pY (qB 2) (pY (Sm iB) iB))) (pY (qB 3) iB)) D σ H:=by
 refine⟨.ref d,s1,.inr (.inr (.inl ⟨rfl,.inl ⟨_,I.at_⟩⟩)),.int x,s2,⟨saX _,fun p hp=>?_⟩⟩;have hpd:d≠p:=zF I.at_ hp;have hlp:l≠p:=fun z=>hl (z ▸ hp);have hkl:(cP gs).length<sizeLine:=by unfold cP;rw[sae,sizeLine_eq];lia
 refine⟨d,x,.ref p,cP gs,rfl,rfl,by rw[zB hpd];exact I.at_,hkl,?_⟩
 cases hf:gs.find? (fun g=>decide (g.1=x))with
 | some g=>
   have hg:=List.mem_of_find?_eq_some hf;have hL:=I.lists g hg;have hgp:g.2.2≠p:=zF hL.1 hp;have hat:yW H p (.l []) g.2.2=some (.l (g.2.1.map V.int)):=by rw[zB hgp];exact hL.1
   refine .inl ⟨.ref g.2.2,by rw[aM,hf];rfl,.inl ⟨rfl,_,xV.of hat⟩,.int y,s3,g.2.2,_,.int y,rfl,rfl,hat,by rw[sae,sizeLine_eq];have:=hll g hg;lia,?_⟩;refine h _ p ((I.laid (o:=.l []) hp).old (y:=y) hf p) ?_;rw[zB hL.2.2.symm,zB hlp]
 | none=>
   have hat:yW (yW H p (.l [])) d (.dK (cP gs++[(Sum.inl x,.ref p)])) p=some (.l []):=by rw[zB hpd.symm,zU]
   refine .inr ⟨by rw[aM,hf];rfl,.inl ⟨rfl,_,xV.of hat⟩,.int y,s3,p,_,.int y,rfl,rfl,hat,by rw[sizeLine_eq];simp,?_⟩;refine h _ p (I.new (y:=y) hp hl hf) ?_;rw[zB hlp,zB hld,zB hlp]
theorem Xz (ps:List (Int×Int)):(vO ps).length≤ps.length∧∀g∈vO ps,g.2.length≤ps.length:=by
 have:∀(l:List (Int×Int)) (gs:List TQ) (n:Nat),gs.length≤n→(∀g∈gs,g.2.length≤n)→(l.foldl iS gs).length≤n+l.length∧∀g∈l.foldl iS gs,g.2.length≤n+l.length:=by
  intro l
  induction l with
  |nil=>intro gs n h1 h2;exact⟨by simpa using h1,fun g hg=>by simpa using h2 g hg⟩
  | cons p l ih=>
    intro gs n h1 h2
    have q:=ih (iS gs p) (n+1) (by
     unfold iS;split
     ·simp;lia
     ·simp;lia) (fun g hg=>by
     unfold iS at hg;split at hg
     ·obtain⟨g',hg',rfl⟩:=saz.mp hg;have:=h2 g' hg';split
      ·simp;lia
      ·lia
     ·rcases san.mp hg with hg|hg
      ·have:=h2 g hg;lia
      ·rw[sag]at hg;rw[hg];simp)
    rw[List.foldl_cons,List.length_cons];exact⟨by lia,fun g hg=>by have:=q.2 g hg;lia⟩
 have q:=this ps [] 0 (Nat.le_refl _) (by simp);simp only[Nat.zero_add]at q;exact q
theorem cW {α:Type}{l:List α}{i:Nat}{x:α}(h:i<l.length):l[i]?=some (l.getD i x):=by simp[h]
theorem aN {K:Frag}{G₀ H₀:Hp}{D:Ends}{σ:St}{Hs:Hp}(q:tS K G₀ H₀ mU D σ Hs)(hσ:σ.length=4):TR K D σ Hs:=by
 obtain⟨env,G,r,I,e,k⟩:=q;unfold mU at e;split at e
 rotate_left
 ·cases e
 rename_i ds hd;split at e
 rotate_left
 ·cases e
 rename_i ps hps;split at e
 rotate_left
 ·cases e
 rename_i hb;obtain⟨hpl,hnd⟩:=hb;cases e;obtain⟨v0,s0,rep⟩:=I.p hd;obtain⟨pa,vs,rfl,gp,rl⟩:=rep;rw[r_ hps]at rl;obtain⟨as,rfl,hP⟩:=mN rl;intro d hdn
 have hHd:yW Hs d (.dK []) pa=some (.l (as.map V.ref)):=by
  have:=I.le _ _ gp;rw[zB (zF this hdn)];exact this
 have hPd:qZ (yW Hs d (.dK [])) as ps:=⟨hP.1,fun i a q h1 h2=>by
  have:=I.le _ _ (hP.2 i a q h1 h2);rw[zB (zF this hdn)]
  exact this⟩
 have hσ0:(σ.set 1 (some (.ref d)))[0]?=some (some (.ref pa)):=by rw[sas (by lia)];exact s0
 have hσ1:(σ.set 1 (some (V.ref d)))[1]?=some (some (.ref d)):=by rw[sbR];simp[hσ]
 refine⟨.ref pa,hσ0,pa,as,ps,rfl,hHd,hPd,hnd,by lia,fun l is hl hperm hsort=>⟨l,rfl,⟨_,xV.of zU⟩,?_⟩⟩
 have hord:is.map (fun i=>ps.getD i (0,0))=vH ps:=by
  refine qF (List.Perm.trans ?_ (uY ps).symm) hsort (rH hnd)
  have:(List.range ps.length).map (fun i=>ps.getD i (0,0))=ps:=by
   apply List.ext_getElem
   ·simp
   ·intro i h3 h4;simp[h4]
  have h2:=hperm.map (fun i=>ps.getD i (0,0));rw[this]at h2;exact h2
 have hisl:is.length=ps.length:=by rw[hperm.length_eq,sck]
 have hld:l≠d:=fun z=>by rw[z,zU]at hl;cases hl
 have hsl:Hs l=none:=by rw[zB hld]at hl;exact hl
 have hN:(vH ps).length=ps.length:=(uY ps).length_eq
 have zH:DicOk Hs (yW (yW Hs d (.dK [])) l (.l ((is.map fun i=>as.getD i 0).map V.ref))) d l []:=by
  refine⟨fun b o e=>?_,hdn,?_,fun g hg=>(sbN hg).elim,List.nodup_nil,List.nodup_nil⟩
  ·rw[zB (zF e hsl),zB (zF e hdn)];exact e
  ·rw[zB hld.symm,zU];rfl
 refine⟨fun i m σ' H=>m=ps.length - i∧i≤ps.length∧σ'.length=4∧σ'[1]?=some (some (.ref d))∧H l=some (.l ((is.map fun i=>as.getD i 0).map V.ref))∧∃gs,DicOk Hs H d l gs∧fW gs=vO ((vH ps).take i),⟨ps.length,by simp,saX _,by simp[hσ],hσ1,zU,[],zH,rfl⟩,?_⟩;rintro i m σ' H ⟨rfl,hi,hσl,hs1,hHl,gs,J,hoff⟩;have hgl:=Xz ((vH ps).take i);have htl:((vH ps).take i).length≤ps.length:=by rw[scp,hN];lia
 have hgsl:gs.length≤ps.length:=by
  have:(fW gs).length=gs.length:=by unfold fW;simp
  rw[hoff]at this;lia
 have hlsl:∀g∈gs,g.2.1.length≤ps.length:=fun g hg=>by
  have hm:((g.1,g.2.1):TQ)∈fW gs:=saz.mpr ⟨g,hg,rfl⟩;rw[hoff]at hm;have:=hgl.2 _ hm;simp only at this;lia
 by_cases hlt:i<ps.length
 ·
  have hii:is[i]?=some (is.getD i 0):=by simp[hisl,hlt]
  have hai:((is.map fun i=>as.getD i 0).map V.ref)[i]?=some (.ref (as.getD (is.getD i 0) 0)):=by
   rw[sav,sav,hii];rfl
  refine .inr ⟨⟨_,_,xV.of hHl,hai⟩,fun σ2 H2=>σ2.length=4∧σ2[1]?=some (some (.ref d))∧H2 l=some (.l ((is.map fun i=>as.getD i 0).map V.ref))∧∃gs,DicOk Hs H2 d l gs∧fW gs=vO ((vH ps).take (i+1)),fun σ2 H2 ⟨a1,a2,a3,a4⟩=>⟨ps.length - (i+1),by lia,rfl,by lia,a1,a2,a3,a4⟩,fun x H2 y=>?_⟩;obtain⟨rfl,yy⟩:=y;have hx:=yy _ (xV.of hHl);rw[hai]at hx;cases hx;have hin:is.getD i 0<ps.length:=sbb.mp (hperm.mem_iff.mp (saD hii));have ha:as[is.getD i 0]?=some (as.getD (is.getD i 0) 0):=cW (by rw[hP.1];exact hin);have hp:ps[is.getD i 0]?=some (ps.getD (is.getD i 0) (0,0)):=cW hin;have hpi:(vH ps)[i]?=some (ps.getD (is.getD i 0) (0,0)):=by rw[←hord,sav,hii];rfl
  generalize hpp:ps.getD (is.getD i 0) (0,0)=pp at hp hpi;have htup:H2 (as.getD (is.getD i 0) 0)=some (.tup [.int pp.1,.int pp.2]):=J.same _ _ (I.le _ _ (hP.2 _ _ _ ha hp));refine⟨_,_,rfl,dF.of htup,rfl,_,_,rfl,_,_,rfl,rfl,?_⟩
  have z1:((σ'.set 2 (some (V.int pp.1))).set 3 (some (V.int pp.2)))[1]?=some (some (.ref d)):=by
   rw[sas (by lia),sas (by lia)];exact hs1
  have z2:((σ'.set 2 (some (V.int pp.1))).set 3 (some (V.int pp.2)))[2]?=some (some (.int pp.1)):=by
   rw[sas (by lia),sbR];simp[hσl]
  have z3:((σ'.set 2 (some (V.int pp.1))).set 3 (some (V.int pp.2)))[3]?=some (some (.int pp.2)):=by
   rw[sbR];simp[hσl]
  refine aO J (by rw[hHl];simp) hld (by lia) (fun g hg=>by have:=hlsl g hg;lia) z1 z2 z3 fun H' a J' hl'=>?_;refine⟨by simp[hσl],z1,by rw[hl'];exact hHl,_,J',?_⟩;have hlt2:i<(vH ps).length:=by lia
  have:(vH ps)[i]=pp:=by rw[sad hlt2]at hpi;exact saI hpi
  rw[UW,hoff,sbw hlt2,lV,this]
 ·
  have hie:i=ps.length:=by lia
  subst hie;rw[List.take_of_length_le (by lia)]at hoff;refine .inl ⟨⟨_,xV.of hHl,by simp[hisl]⟩,?_⟩;refine⟨.ref d,hs1,.inr (.inr (.inl ⟨rfl,.inl ⟨_,J.at_⟩⟩)),d,cP gs,rfl,rfl,J.at_,fun rv hrv=>?_⟩;have hrd:d≠rv:=zF J.at_ hrv;refine⟨rv,d,cP gs,rfl,zU,by rw[zB hrd];exact J.at_,fun z bs hz hbl hbn hbf=>?_⟩;have J2:=J.laid (o:=lH rv d) hrv
  obtain⟨H2,hH2⟩:∃H2,H2=yW H rv (lH rv d):=⟨_,rfl⟩
  rw[←hH2]at J2 hz hbf ⊢
  obtain⟨H3,hH3⟩:∃H3,H3=yW (iK H2 bs (cP gs)) z (.l (bs.map V.ref)):=⟨_,rfl⟩
  rw[←hH3]
  have old:∀b,H2 b≠none→H3 b=H2 b:=fun b hb=>by
   have hbz:b≠z:=fun w=>hb (w ▸ hz);have hbb:b∉bs:=fun w=>hb (hbf b w).1;rw[hH3,zB hbz,rM hbb]
  have oldS:∀b o,Hs b=some o→H3 b=some o:=fun b o e=>by
   have e2:=J2.same b o e;rw[old b (by rw[e2];simp)];exact e2
  let In:Addr→Prop:=fun b=>b∈gs.map (·.2.2)∨b∈bs
  have hIn:∀b,In b→Hs b=none:=fun b hb=>by
   rcases hb with hb|hb
   ·obtain⟨g,hg,rfl⟩:=saz.mp hb;exact(J2.lists g hg).2.1
   ·exact J2.same.free (hbf b hb).1
  classical
  let G':Hp:=fun b=>if In b then H3 b else G b
  have gOld:∀b o,G b=some o→G' b=some o:=fun b o e=>by
   have hb:¬In b:=fun h=>by
    have:=I.le _ _ e;rw[hIn b h]at this;cases this
   show(if In b then H3 b else G b)=some o;rw[sah hb];exact e
  have X9:∀b,In b→G' b=H3 b:=fun b hb=>saf hb;refine k (.ref z) G' H3 ⟨fun b o e=>gOld b o (I.gr.g b o e),fun b o e=>oldS b o (I.gr.h b o e),fun b h1 h2=>?_⟩ (fun b o e=>?_) ⟨z,bs.map V.ref,rfl,?_,by rw[hH3];exact zU,?_,?_⟩
  ·have hb:¬In b:=fun h=>by
    have:=hIn b h
    cases q:H₀ b with
    |none=>exact h1 q
    |some o=>rw[I.gr.h b o q]at this;cases this
   show(if In b then H3 b else G b)=none;rw[sah hb];exact I.gr.n b h1 h2
  ·by_cases hb:In b
   ·rw[X9 b hb]at e;exact e
   ·have e2:G b=some o:=by
     have:(if In b then H3 b else G b)=some o:=e
     rwa [sah hb]at this
    exact oldS b o (I.le b o e2)
  ·exact I.gr.h.free (J2.same.free hz)
  ·have hb:¬In z:=fun h=>by
    rcases h with h|h
    ·obtain⟨g,hg,e⟩:=saz.mp h;have:=(J2.lists g hg).1;rw[e,hz]at this;cases this
    ·exact(hbf z h).2 rfl
   show(if In z then H3 z else G z)=none;rw[sah hb];exact I.le.free (J2.same.free hz)
  ·rw[←hoff]
   have all:∀(gs':List GA) (bs':List Addr),bs'.length=gs'.length→(∀(j:Nat) (b:Addr) (g:GA),bs'[j]?=some b→gs'[j]?=some g→∃a,G' b=some (.tup [.int g.1,.ref a])∧G' a=some (.l (g.2.1.map V.int)))→zM K G' ((fW gs').map Tg) (bs'.map V.ref):=by
    intro gs'
    induction gs' with
    |nil=>intro bs' hl _;rw[sbg hl];rfl
    | cons g gs' ih=>
      intro bs' hl hj
      cases bs' with
      |nil=>simp at hl
      | cons b bs'=>
        obtain⟨a,h1,h2⟩:=hj 0 b g rfl rfl;refine zM.cons ⟨b,_,rfl,h1,zM.cons rfl (zM.cons ⟨a,_,rfl,h2,zM.ints _⟩ zM.nil)⟩ (ih bs' (by simpa using hl) fun j b g e1 e2=>hj (j+1) b g (by simpa using e1) (by simpa using e2))
   refine all gs bs (by rw[hbl];unfold cP;simp) fun j b g e1 e2=>⟨g.2.2,?_,?_⟩
   ·have hm:b∈bs:=saD e1;have hbz:b≠z:=(hbf b hm).2;rw[X9 b (.inr hm),hH3,zB hbz];exact eD (kv:=(Sum.inl g.1,V.ref g.2.2)) hbn e1 (by unfold cP;rw[sav,e2];rfl)
   ·have hg:=saD e2;have hL:=(J2.lists g hg).1;rw[X9 _ (.inl (saz.mpr ⟨g,hg,rfl⟩)),old _ (by rw[hL];simp)];exact hL
theorem XN {X:Cx}{G₀ H₀:Hp}{body:List Stmt}(h:dN X body (TR X.K))(hN:X.N.length=4):Uj X G₀ H₀ body mU:=fun pins s σ H D I q=>h pins s σ H D I (aN q (I.len.trans hN))
theorem Inv.turnedL {X:Cx}{pins:List (Addr×Obj)}{σ:St}{H:Hp}{s:Shared}{h':Heap}{t':Nat}{fp:List Addr}{T:Addr}{o:HO}(I:Inv X pins σ H s)(hf:∀b∈fp,lI X pins H b)(k:∀b u,b∉fp→s.heap.get? b=some u→h'.get? b=some u)
 (hT:s.heap.objs.size≤T) (new:vJ X.prog X.w (yW H T o) h' T o):Inv X pins σ (yW H T o) {s with heap:=h',toks:=t'}:=by
 have hn:=I.hok.fresh hT;have nit:∀b u,H b=some u→b∉fp:=fun b u e hb=>by rw[(hf b hb).1]at e;cases e
 have neT:∀b u,s.heap.get? b=some u→b≠T:=fun b u e=>saA (saE (sai e) hT)
 refine I.step (g':=s.gens) (d':=s.drawn) (ch:=fp) (fun b hb=>let ⟨_,a1,_,a3,a4,a5⟩:=hf b hb;⟨a3,a1,a4,a5⟩) (fun b u _ _ hc e _=>k b u hc e) (fun b u _ _ hc e _=>⟨u.slots,k b u hc e⟩) (fun b u _ e n=>by rw[zB (neT b u e)];exact n)
  (fun b u hc e=>⟨u,k b u hc e⟩) (fun b xs e=>by rw[zB (zF e hn)];exact e) (fun b u x e=>by rw[zB (zF e hn)];exact e) (fun b ps e=>⟨#[],by rw[zB (zF e hn),e];simp⟩) (fun m hm=>?_) (fun b u e=>?_) I.bare
 ·obtain⟨ob,es,ep,ho,r⟩:=hm;exact⟨ob,es,ep,k _ ob (fun hb=>(hf _ hb).2.1 rfl) ho,r⟩
 ·by_cases hb:b=T
  ·subst hb;rw[zU]at e;cases e;exact new
  ·rw[zB hb]at e;refine(I.hok b u e).stay (fun c v hc q=>k c v ?_ q) (fun c q=>by rw[zB (zF q hn)];exact q) fun c xs q=>by rw[zB (zF q hn)];exact q
   rcases hc with z|z
   ·rw[z];exact nit b u e
   ·exact nit c _ z
theorem Inv.turnedF {X:Cx}{pins:List (Addr×Obj)}{σ:St}{H:Hp}{s:Shared}{h':Heap}{t':Nat}{fp:List Addr}(I:Inv X pins σ H s)(hf:∀b∈fp,lI X pins H b)(k:∀b u,b∉fp→s.heap.get? b=some u→h'.get? b=some u):Inv X pins σ H {s with heap:=h',toks:=t'}:=by
 have nit:∀b u,H b=some u→b∉fp:=fun b u e hb=>by rw[(hf b hb).1]at e;cases e
 refine I.step (g':=s.gens) (d':=s.drawn) (ch:=fp) (fun b hb=>let ⟨_,a1,_,a3,a4,a5⟩:=hf b hb;⟨a3,a1,a4,a5⟩) (fun b u _ _ hc e _=>k b u hc e) (fun b u _ _ hc e _=>⟨u.slots,k b u hc e⟩) (fun b u _ e n=>n)
  (fun b u hc e=>⟨u,k b u hc e⟩) (fun b xs e=>e) (fun b u x e=>e) (fun b ps e=>⟨#[],by rw[e];simp⟩) (fun m hm=>?_) (fun b u e=>?_) I.bare
 ·obtain⟨ob,es,ep,ho,r⟩:=hm;exact⟨ob,es,ep,k _ ob (fun hb=>(hf _ hb).2.1 rfl) ho,r⟩
 ·refine(I.hok b u e).stay (fun c v hc q=>k c v ?_ q) (fun c q=>q) fun c xs q=>q
  rcases hc with z|z
  ·rw[z];exact nit b u e
  ·exact nit c _ z
noncomputable def Ph (K:Frag)(l:Addr):It :=
 ⟨fun i H=>∃xs x,xV K H l xs∧xs[i]?=some x,fun i H x H'=>∃T y,x=.ref T∧H T=none∧H'=yW H T (.tup [.int i,y])∧∀xs,xV K H l xs→xs[i]?=some y,fun i H=>∃xs,xV K H l xs∧xs.length≤i⟩
theorem YZ {P:Program}{w:World}{K:Frag}{elts:List Expr}{kk:Nat}{pos:Pos}(l it e:Addr)(hei:e≠it):Turn P w K (.Tuple elts kk pos) (Ph K l) [e,it] e (fun i h=>(∃old,IsEnum h e it i old)∧h.IsListIter it l i) where
 mem:=by simp
 obj:=fun i h st b hb=>by
  obtain⟨⟨old,h1⟩,o,h2,c,d⟩:=st
  rcases saj.mp hb with rfl|hb
  ·exact⟨_,h1,fun v z=>by
    have z':Data.fields _=Data.cell v:=z
    cases z'⟩
  ·have:b=it:=by simpa using hb
   subst this;exact⟨o,h2,fun v z=>by rw[d]at z;cases z⟩
 keep:=fun i h h' st k=>by
  obtain⟨⟨old,h1⟩,h2⟩:=st;exact⟨⟨old,k e (by simp) _ h1⟩,h2.at fun o x=>k it (by simp) o x⟩
 item:=by
  intro X hP hw hK hc i pins s σ H E I hf st hg;subst hP hw hK;obtain⟨xs,x,hq,hx⟩:=hg;obtain⟨its,rv,p,hz⟩:=I.list hq;obtain⟨u,hu,ru⟩:=rv.get hx;obtain⟨⟨old,h1⟩,h2⟩:=st
  have hle:l≠e:=fun z=>by
   obtain⟨o,ho,hcl,_⟩:=p.isList;rw[z,h1]at ho;cases ho;exact absurd (show Value.type "enumerate" = Value.type "list" from hcl) (by decide)
  have hli:l≠it:=fun z=>by
   obtain⟨o,ho,hcl,_⟩:=p.isList;obtain⟨o2,ho2,hcl2,_⟩:=h2;rw[z,ho2]at ho;cases ho;rw[hcl2]at hcl;exact absurd hcl (by decide)
  have hil:i<its.toArray.size:=by
   have:=(sak.mp hu).1;simpa using this
  have W:=WalksT.enumerate (prog:=X.prog) (w:=X.w) (I.ok.hd hc) e it l hei hle hli its.toArray;refine W.item i s _ _ hil ⟨⟨old,h1⟩,h2,p.isList⟩ fun T vals h' tk hPt hT ht mid k1=>?_;obtain⟨t,u2,hu2,rfl⟩:=hPt
  have eu:u2=u:=by
   rw[show its.toArray[i]?=its[i]? from by simp]at hu2;rw[hu]at hu2;exact(saI hu2).symm
  subst eu;refine⟨.ref T,rfl,W.go elts kk pos i T {s with heap:=h',toks:=tk} _ _ mid fun h3 st3 k3=>?_⟩;have hTw:T∉[e,it]:=W.apart i T h' mid;have hkeep:∀b o,b∉[e,it]→s.heap.get? b=some o→h3.get? b=some o:=fun b o hb eb=>k3 b o hb (k1 b o hb eb);obtain⟨ot,hot,hct,nt,hdt⟩:=ht
  have hnew:vJ X.prog X.w (yW H T (.tup [.int i,x])) h3 T (.tup [.int i,x]):=⟨by show 2≤sizeLine;rw[sizeLine_eq];lia,[.int i t,u2],.cons ⟨t,rfl⟩ (.cons ru .nil),ot,k3 T ot hTw hot,hct,nt,hdt⟩
  have hHT:H T=none:=I.hok.fresh hT;refine⟨.ref T,_,Inv.turnedL (s:=s) (h':=h3) (t':=tk) I hf hkeep hT hnew,rfl,⟨T,x,rfl,hHT,rfl,fun ys hy=>by rw[I.list_inj hy hq];exact hx⟩,⟨⟨_,st3.1.choose_spec⟩,st3.2.1⟩,fun b hb=>?_⟩;have hbT:b≠T:=fun z=>by rw[z]at hb;exact hTw hb
  rw[zB hbT];exact(hf b hb).1
 done:=by
  intro X hP hw hK hc i pins s σ H E I hf st hg;subst hP hw hK;obtain⟨xs,hq,hx⟩:=hg;obtain⟨its,rv,p,hz⟩:=I.list hq;obtain⟨⟨old,h1⟩,h2⟩:=st;have hl:=rv.length
  refine wpAny_pyNext_enum_end (I.ok.hd hc) h1 h2 p.isList (sbd (by simp;lia)) fun h' eb=>⟨rfl,Inv.turnedF (t':=s.toks) I hf fun b o hb e=>?_⟩
  exact eb b o (fun z=>hb (by simp[z])) e
 self:=fun _ _ _ _ _ st h=>wpAny_pyIter_enum st.1.choose_spec h
noncomputable def QF (K:Frag)(ta:TA):TI:=fun σ H R=>ta σ H fun vs H1=>∃a,vs=[.ref a]∧(∃xs,xV K H1 a xs)∧R (Ph K a) H1
theorem UP {X:Cx}{elts:List Expr}{kk:Nat}{pos p cpos:Pos}{l:Expr}{ta:TA}(hm:X.mg "enumerate" = none) (ha:PA X [l] ta) (hg:Gl X "enumerate" :=by rfl) (hs:starEach [l] X.env=[(false,eval l X.env)]:=by rfl):PI X (.Tuple elts kk pos) (.Call (.Name "enumerate" p) [l] [] cpos) (QF X.K ta):=by
 intro pins s σ H R I h;refine Call_ (u7 I hg hm boot_enumerate (saW (we (ha cpos pins s σ H _ I h) fun us s1 ⟨vs,H1,I1,r1,q1⟩=>?_) hs rfl));obtain⟨a,rfl,⟨xs,hq⟩,q⟩:=q1;obtain⟨u,rfl,r2⟩:=qf r1;cases(show u=.ref a from r2);obtain⟨its,rv,pl,hz⟩:=I1.list hq;refine call_enumerate_list pl.isList fun h' h1 h2 hsz hk=>?_;refine wpAny_pyIter_enum h1 ?_;have I2:Inv X pins σ H1 {s1 with heap:=h',toks:=s1.toks}:=I1.kept (t':=s1.toks) hk;refine⟨s1.heap.objs.size+1,[s1.heap.objs.size+1,s1.heap.objs.size],_,Ph X.K a,H1,rfl,I2,YZ a s1.heap.objs.size (s1.heap.objs.size+1) (Nat.succ_ne_self _),⟨⟨_,h1⟩,h2⟩,fun b hb=>?_,q⟩
 have hb':s1.heap.objs.size≤b:=by
  rcases saj.mp hb with rfl|hb
  ·exact Nat.le_succ _
  ·rw[sag.mp hb];exact Nat.le_refl _
 exact I1.fpOk hb' (I1.hok.fresh hb')
noncomputable def tY:Nat→List D→List D
 |_,[]=>[]
 |i,d::ds=>.tup [.int i,d]::tY (i+1) ds
theorem gQ:∀(ds:List D) (k i:Nat),(tY k ds)[i]?=ds[i]?.map fun d=>.tup [.int ((k+i:Nat):Int),d]
 |[],k,i=>by simp[tY]
 |d::ds,k,0=>by simp[tY]
 | d::ds,k,i+1=>by
   have:=gQ ds (k+1) i;simp only[tY,List.getElem?_cons_succ,this];congr 1
   funext d
   rw[show k+1+i=k+(i+1)by lia]
theorem m9:∀(ds:List D) (k:Nat),(tY k ds).length=ds.length
 |[],k=>rfl
 |d::ds,k=>by simp[tY,m9 ds (k+1)]
theorem Vz {K:Frag}{G:Hp}{a:Addr}{ds:List D}{vs:List V}(h:xV K G a vs)(r:zM K G ds vs):JOk K (Ph K a) G (tY 0 ds) where
 go:=fun i G' H' s l hi=>by
  rw[m9]at hi;exact⟨vs,vs[i]'(by rw[←r.length];exact hi),l.seq (s.seq h),sad _⟩
 stop:=fun i G' H' s l hi=>by
  rw[m9]at hi;exact⟨vs,l.seq (s.seq h),by rw[←r.length];exact hi⟩
 yld:=fun i G' H' x H1 s l hi y=>by
  obtain⟨T,y,rfl,hT,rfl,hy⟩:=y;have hx:=hy vs (l.seq (s.seq h));obtain⟨d,h1,h2⟩:=r.get' hx;have g:=Gw.laidT (o:=.tup [.int i,y]) l hT;refine⟨.tup [.int i,d],_,by rw[gQ,h1];simp,g.1,g.2,T,_,rfl,zU,zM.cons rfl (zM.cons ?_ zM.nil)⟩;exact(h2.mono s).mono g.1.g
@[simp] noncomputable def Tj (f:FE):FI:=fun env=>(f env).bind fun x=>x.hold.bind fun d=>match d with
  | .l ds=>.ok (tY 0 ds)
  |_=>.bad
theorem YA {X:Cx}{G₀ H₀:Hp}{elts:List Expr}{kk:Nat}{pos p cpos:Pos}{l:Expr}{f:FE}(hm:X.mg "enumerate" = none) (hl:DE X G₀ H₀ l f) (hg:Gl X "enumerate" :=by rfl) (hs:starEach [l] X.env=[(false,eval l X.env)]:=by rfl) :
 Sf X G₀ H₀ (.Tuple elts kk pos) (.Call (.Name "enumerate" p) [l] [] cpos) (Tj f):=(UP hm (yP hl x4 hs) hg hs).imp fun σ H R q=>by
 obtain⟨env,G,ds,I,e,k⟩:=q;obtain⟨x,e1,e⟩:=zv e;obtain⟨d,e2,e⟩:=zv e;refine⟨env,G,x,I,e1,fun v G' H' g l h=>?_⟩;obtain⟨G2,g2,l2,h2⟩:=m5 g l h e2;split at e
 ·cases e;obtain⟨a,vs,rfl,h3,r3⟩:=h2;exact⟨a,rfl,⟨vs,xV.of (l2 _ _ h3)⟩,k _ G2 H' g2 l2 (Vz (xV.of h3) r3)⟩
 ·cases e
noncomputable abbrev Zv (h:Heap)(z ti to t:Addr)(f:Bool):Prop :=
 h.get? z=some {cls:=.type "zip",dict:=none,data:=.fields #[rawInt t,.bool f,.bool false,.ref ti,.ref to],slots:=#[]}
section
variable {prog:Program}{w:World}{A:Around}{E:Value→Shared→Prop}{s:Shared}
theorem iU {z ti to t:Addr}{f:Bool}{ot:Obj}{Q:Bool→Shared→Prop}(hz:Zv s.heap z ti to t f)(ht:s.heap.get? t=some ot)
 (q:∀h',Zv h' z ti to t true→Heap.SameBut z s.heap h'→Q false {s with heap:=h'}):wpAny (model prog w) A (Builtin.SmallTypes.ownedTupleIsFree (.ref z)) Q E s:=by
 unfold Builtin.SmallTypes.ownedTupleIsFree;refine saa (sbu hz rfl (x:=rawInt t) rfl ?_);show wpAny _ _ (loadIfAlive ((t:Int).toNat) >>= _) _ _ _;rw[Int.toNat_natCast];refine saa (PySem.W.kdx_alive ht ?_);simp only[Option.isNone_some,saH,if_false];refine saa (sbu hz rfl (x:=.bool f) rfl ?_)
 cases f with
 | true=>
   rw[sah (show ¬((Value.bool true != Value.bool true)=true)from sax)];exact sac (q s.heap hz (Heap.SameBut.refl _ _))
 | false=>
   rw[saf (show(Value.bool false != Value.bool true)=true from rfl)];refine saa (scv hz (by simp) fun h3 e3 s3=>?_);exact sac (q h3 e3 s3)
theorem YR {z ti to i1 i2 l1 l2 t:Addr}{f:Bool}{ot:Obj}{k1 k2:Nat}{xs ys:Array Value}{x y:Value}{Q:Option Value→Shared→Prop}(D:ZipApart z ti to i1 i2 l1 l2)
 (hz:Zv s.heap z ti to t f) (ht:s.heap.get? t=some ot) (hTI:IsPair s.heap ti (.ref i1) (.ref i2))
 (h1:s.heap.IsListIter i1 l1 k1) (h2:s.heap.IsListIter i2 l2 k2) (hl1:s.heap.IsList l1 xs) (hl2:s.heap.IsList l2 ys) (hx:xs[k1]?=some x) (hy:ys[k2]?=some y)
 (q:∀h',Zv h' z ti to t true→h'.IsListIter i1 l1 (k1+1)→h'.IsListIter i2 l2 (k2+1)→IsPair h' s.heap.objs.size x y→h'.objs.size=s.heap.objs.size+1 →
  (∀c o,c≠z→c≠i1→c≠i2→s.heap.get? c=some o→h'.get? c=some o)→Q (some (.ref s.heap.objs.size)) {s with heap:=h'}) :
 wpAny (model prog w) A (pyNext (.ref z)) Q E s:=by
 have hT:s.TypeIs (.ref z) "zip" :=⟨_,hz,rfl⟩
 unfold pyNext;refine saa (wpAny_attempt (sci (name:=Str.ofString "__next__") hT sbv (scG sbv hT PySem.F.entry_zip_next ?_ (scH _))));show wpAny _ _ (field (.ref z) 2 >>= _) _ _ _;refine saa (sbu hz rfl (x:=.bool false) rfl ?_);show wpAny _ _ (field (.ref z) 3 >>= _) _ _ _;refine saa (sbu hz rfl (x:=.ref ti) rfl ?_);refine saa (sbm hTI rfl ?_);show wpAny _ _ (Builtin.SmallTypes.ownedTupleIsFree (.ref z) >>= _) _ _ _;refine saa (iU hz ht fun ha za sa=>?_);simp only[saH,if_false];show wpAny _ _ (forIn #[Value.ref i1,Value.ref i2] _ _ >>= _) _ _ _;simp only[←Array.forIn_toList,List.forIn_cons,List.forIn_nil];refine saa ?_;refine saa ?_;refine saa (sbj ?_);show wpAny _ _ (Builtin.SmallTypes.nextOf (.ref i1) >>= _) _ _ _;refine saa (sbt (h1.extBut sa.extBut D.i1z) (hl1.extBut sa.extBut D.l1z) hx fun hb ib sb=>sac ?_);refine sac ?_;show wpAny _ _ ((holding (#[x]:Array Value).toList (_:Sem (Option Value)) >>= _) >>= _) _ _ _;refine saa ?_;refine saa (sbj ?_);show wpAny _ _ (Builtin.SmallTypes.nextOf (.ref i2) >>= _) _ _ _;have sb':Heap.SameBut i1 ha hb:=sb;refine saa (sbt ((h2.extBut sa.extBut D.i2z).extBut sb'.extBut D.i12.symm) ((hl2.extBut sa.extBut D.l2z).extBut sb'.extBut D.l2i1) hy fun hc ic sc=>sac ?_);have sc':Heap.SameBut i2 hb hc:=sc;refine sac (sac ?_);show wpAny _ _ (newTuple [x,y] >>= _) _ _ _;refine saa (wpAny_newTuple ?_);have hsz:hc.objs.size=s.heap.objs.size:=by rw[sc'.1,sb'.1,sa.1]
 refine sac ⟨_,rfl,sac ?_⟩;show Q (some (.ref hc.objs.size)) _;rw[hsz];have hz3:Zv hc z ti to t true:=sc'.extBut _ _ D.i2z.symm (sb'.extBut _ _ D.i1z.symm za);have g1:hc.IsListIter i1 l1 (k1+1):=ib.extBut sc'.extBut D.i12;refine q _ (sab _ hz3) (g1.at fun o e=>sab _ e) (ic.at fun o e=>sab _ e) (by rw[←hsz];exact saq _ rfl) (by rw[←hsz];exact saY ..) fun c o c1 c2 c3 e=>?_;exact sab _ (sc'.extBut _ _ c3 (sb'.extBut _ _ c2 (sa.extBut _ _ c1 e)))
theorem Wh {z ti to i1 i2 l1 l2 t:Addr}{f:Bool}{ot:Obj}{k1 k2:Nat}{xs ys:Array Value}{Q:Option Value→Shared→Prop}(hh:A.handled=none)(D:ZipApart z ti to i1 i2 l1 l2)
 (hz:Zv s.heap z ti to t f) (ht:s.heap.get? t=some ot) (hTI:IsPair s.heap ti (.ref i1) (.ref i2))
 (h1:s.heap.IsListIter i1 l1 k1) (h2:s.heap.IsListIter i2 l2 k2) (hl1:s.heap.IsList l1 xs) (hl2:s.heap.IsList l2 ys) (he:xs[k1]?=none∨ys[k2]?=none)
 (q:∀h',(∀c o,c≠z→c≠i1→c≠i2→s.heap.get? c=some o→h'.get? c=some o)→Q none {s with heap:=h'}) :
 wpAny (model prog w) A (pyNext (.ref z)) Q E s:=by
 have hT:s.TypeIs (.ref z) "zip" :=⟨_,hz,rfl⟩
 unfold pyNext;refine saa (wpAny_attempt (sci (name:=Str.ofString "__next__") hT sbv (scG sbv hT PySem.F.entry_zip_next ?_ (scH _))));show wpAny _ _ (field (.ref z) 2 >>= _) _ _ _;refine saa (sbu hz rfl (x:=.bool false) rfl ?_);show wpAny _ _ (field (.ref z) 3 >>= _) _ _ _;refine saa (sbu hz rfl (x:=.ref ti) rfl ?_);refine saa (sbm hTI rfl ?_);show wpAny _ _ (Builtin.SmallTypes.ownedTupleIsFree (.ref z) >>= _) _ _ _;refine saa (iU hz ht fun ha za sa=>?_);simp only[saH,if_false];show wpAny _ _ (forIn #[Value.ref i1,Value.ref i2] _ _ >>= _) _ _ _;simp only[←Array.forIn_toList,List.forIn_cons,List.forIn_nil];refine saa ?_;refine saa ?_;refine saa (sbj ?_);show wpAny _ _ (Builtin.SmallTypes.nextOf (.ref i1) >>= _) _ _ _
 cases hx:xs[k1]? with
 | none=>
   refine saa (scw hh (h1.extBut sa.extBut D.i1z) (hl1.extBut sa.extBut D.l1z) hx fun hb e sb ⟨oe,hoe,hce⟩=>?_);refine saa (wpAny_isInstance (T := "StopIteration") (b:=true) ⟨oe,hoe,hce⟩ isSubtype_stop ?_);exact sac (q _ fun c o c1 c2 c3 x=>sb _ _ c2 (sa.extBut _ _ c1 x))
 | some x=>
   have hy:ys[k2]?=none:=by rcases he with h|h;rw[hx]at h;cases h;exact h
   refine saa (sbt (h1.extBut sa.extBut D.i1z) (hl1.extBut sa.extBut D.l1z) hx fun hb ib sb=>sac ?_);refine sac ?_;show wpAny _ _ ((holding (#[x]:Array Value).toList (_:Sem (Option Value)) >>= _) >>= _) _ _ _;refine saa ?_;refine saa (sbj ?_);show wpAny _ _ (Builtin.SmallTypes.nextOf (.ref i2) >>= _) _ _ _;have sb':Heap.SameBut i1 ha hb:=sb;refine saa (scw hh ((h2.extBut sa.extBut D.i2z).extBut sb'.extBut D.i12.symm) ((hl2.extBut sa.extBut D.l2z).extBut sb'.extBut D.l2i1) hy fun hc e sc ⟨oe,hoe,hce⟩=>?_);refine saa (wpAny_isInstance (T := "StopIteration") (b:=true) ⟨oe,hoe,hce⟩ isSubtype_stop ?_);exact sac (q _ fun c o c1 c2 c3 x=>sc _ _ c3 (sb'.extBut _ _ c2 (sa.extBut _ _ c1 x)))
structure ZSt (h:Heap)(z ti to i1 i2 l1 l2 S:Addr)(i:Nat)(xs ys:Array Value):Prop where
 own:(IsZip h z ti to .none∧∃a b,IsPair h to a b)∨∃t f ot,Zv h z ti to t f∧h.get? t=some ot∧t≠z∧t≠i1∧t≠i2∧t≠S
 its:IsPair h ti (.ref i1) (.ref i2)
 p1:h.IsListIter i1 l1 i
 p2:h.IsListIter i2 l2 i
 s1:h.IsList l1 xs
 s2:h.IsList l2 ys
theorem ZSt.keep {h h':Heap}{z ti to i1 i2 l1 l2 S:Addr}{i:Nat}{xs ys:Array Value}(x:ZSt h z ti to i1 i2 l1 l2 S i xs ys)(k:∀b o,b≠S→h.get? b=some o→h'.get? b=some o)
 (off:∀b∈[z,ti,to,i1,i2,l1,l2],b≠S):ZSt h' z ti to i1 i2 l1 l2 S i xs ys where
 own:=by
  rcases x.own with⟨a,b,c,d⟩|⟨t,f,ot,a,b,c1,c2,c3,c4⟩
  ·exact .inl ⟨k _ _ (off z (by simp)) a,b,c,k _ _ (off to (by simp)) d⟩
  ·exact .inr ⟨t,f,ot,k _ _ (off z (by simp)) a,k _ _ c4 b,c1,c2,c3,c4⟩
 its:=k _ _ (off ti (by simp)) x.its
 p1:=x.p1.at fun o e=>k _ _ (off i1 (by simp)) e
 p2:=x.p2.at fun o e=>k _ _ (off i2 (by simp)) e
 s1:=x.s1.at fun o e=>k _ _ (off l1 (by simp)) e
 s2:=x.s2.at fun o e=>k _ _ (off l2 (by simp)) e
theorem Wa {z ti to i1 i2 l1 l2 S:Addr}{i:Nat}{xs ys:Array Value}{x y:Value}{Q:Option Value→Shared→Prop}(D:ZipApart z ti to i1 i2 l1 l2)(st:ZSt s.heap z ti to i1 i2 l1 l2 S i xs ys)(hS:S<s.heap.objs.size)(hx:xs[i]?=some x)(hy:ys[i]?=some y)
 (q:∀h',ZSt h' z ti to i1 i2 l1 l2 S (i+1) xs ys→IsPair h' s.heap.objs.size x y→h'.objs.size=s.heap.objs.size+1→(∀c o,c≠z→c≠to→c≠i1→c≠i2→s.heap.get? c=some o→h'.get? c=some o)→Q (some (.ref s.heap.objs.size)) {s with heap:=h'}) :
 wpAny (model prog w) A (pyNext (.ref z)) Q E s:=by
 have lt:∀{c o},s.heap.get? c=some o→s.heap.objs.size≠c:=fun e=>sbB (sai e);have n1:s.heap.objs.size≠i1:=by obtain⟨_,e,_⟩:=st.p1;exact lt e
 have n2:s.heap.objs.size≠i2:=by obtain⟨_,e,_⟩:=st.p2;exact lt e
 rcases st.own with⟨hz,a,b,hO⟩|⟨t,f,ot,hz,ht,c1,c2,c3,c4⟩
 ·refine wpAny_pyNext_zip_item D hz st.its hO st.p1 st.p2 st.s1 st.s2 hx hy fun h' z1 z2 z3 z4 z5 z6 z7=>q h' ⟨.inr ⟨_,false,_,z1,z5,lt hz,n1,n2,sbB hS⟩,z7 _ _ D.TIz D.TITO D.TIi1 D.TIi2 st.its,z3,z4,?_,?_⟩ z5 z6 z7
  ·exact st.s1.at fun o e=>z7 _ o D.l1z D.l1TO D.l1i1 D.l1i2 e
  ·exact st.s2.at fun o e=>z7 _ o D.l2z D.l2TO D.l2i1 D.l2i2 e
 ·refine YR D hz ht st.its st.p1 st.p2 st.s1 st.s2 hx hy fun h' z1 z3 z4 z5 z6 z7=>q h' ⟨.inr ⟨t,true,ot,z1,z7 _ _ c1 c2 c3 ht,c1,c2,c3,c4⟩,z7 _ _ D.TIz D.TIi1 D.TIi2 st.its,z3,z4,?_,?_⟩ z5 z6 fun c o d1 _ d3 d4 e=>z7 c o d1 d3 d4 e
  ·exact st.s1.at fun o e=>z7 _ o D.l1z D.l1i1 D.l1i2 e
  ·exact st.s2.at fun o e=>z7 _ o D.l2z D.l2i1 D.l2i2 e
theorem Wb {z ti to i1 i2 l1 l2 S:Addr}{i:Nat}{xs ys:Array Value}{Q:Option Value→Shared→Prop}(hh:A.handled=none)(D:ZipApart z ti to i1 i2 l1 l2)(st:ZSt s.heap z ti to i1 i2 l1 l2 S i xs ys)(he:xs[i]?=none∨ys[i]?=none)
 (q:∀h',(∀c o,c≠z→c≠to→c≠i1→c≠i2→s.heap.get? c=some o→h'.get? c=some o)→Q none {s with heap:=h'}):wpAny (model prog w) A (pyNext (.ref z)) Q E s:=by
 rcases st.own with⟨hz,a,b,hO⟩|⟨t,f,ot,hz,ht,c1,c2,c3,c4⟩
 ·exact wpAny_pyNext_zip_end hh D hz st.its hO st.p1 st.p2 st.s1 st.s2 he q
 ·exact Wh hh D hz ht st.its st.p1 st.p2 st.s1 st.s2 he fun h' k=>q h' fun c o d1 _ d3 d4 e=>k c o d1 d3 d4 e
end
structure ZG (xs ys:Array Value)(lo:Addr)(h:Heap)(as:List Addr):Prop where
 rise:as.Pairwise (· < ·)
 above:∀a∈as,lo<a
 pairs:∀(j:Nat) (a:Addr),as[j]?=some a→∃x y,xs[j]?=some x∧ys[j]?=some y∧IsPair h a x y
theorem ZG.there {xs ys:Array Value}{lo:Addr}{h:Heap}{as:List Addr}(g:ZG xs ys lo h as){a:Addr}(ha:a∈as):a<h.objs.size:=by
 obtain⟨j,hj⟩:=List.mem_iff_getElem?.mp ha;obtain⟨_,_,_,_,e⟩:=g.pairs j a hj;exact sai e
theorem YT:typeLookup (.type "zip") "__len__" = pure none:=by rw[typeLookup_type,builtinLookup_eq_fast];kernel_rfl
theorem YS:typeLookup (.type "zip") "__length_hint__" = pure none:=by rw[typeLookup_type,builtinLookup_eq_fast];kernel_rfl
section
variable {prog:Program}{w:World}{A:Around}{s:Shared}{R:Result→Shared→Prop}{xs ys:Array Value}
theorem Wd {z ti to i1 i2 l1 l2 S:Addr}(hh:A.handled=none)(D:ZipApart z ti to i1 i2 l1 l2)(off:∀b∈[z,ti,to,i1,i2,l1,l2],b≠S)(low:∀b∈[z,to,i1,i2],b<S)(hn:min xs.size ys.size≤sizeLine)(res:Value){h₁:Heap}
 (hR:∀h' tk acc c as,(∀b o,b≠S→b∉[z,to,i1,i2]→h₁.get? b=some o→h'.get? b=some o)→h'.get? S=some {cls:=.type "list",dict:=none,data:=.seq acc c,slots:=#[]}→as.length=min xs.size ys.size→ZG xs ys S h' as →
  acc.toList=as.map Value.ref→R (.ok (.ret res)) {s with heap:=h',toks:=tk}) :
 ∀ (k i:Nat) (h:Heap) (tk c:Nat) (acc:Array Value) (as:List Addr),min xs.size ys.size - i=k→i≤min xs.size ys.size→ZSt h z ti to i1 i2 l1 l2 S i xs ys→(∀b o,b≠S→b∉[z,to,i1,i2]→h₁.get? b=some o→h.get? b=some o) →
   h.get? S=some {cls:=.type "list",dict:=none,data:=.seq acc c,slots:=#[]}→acc.toList=as.map Value.ref→as.length=i→ZG xs ys S h as →
   codeAny (model prog w) A (.builtin "list.extend.loop" ⟨[.ref S,.ref z,res],[]⟩) R {s with heap:=h,toks:=tk}:=by
 have hSw:∀b∈[z,to,i1,i2],S≠b:=fun b hb=>sbB (low b hb);have hSn:S∉[z,to,i1,i2]:=fun hb=>hSw S hb rfl;intro k
 induction k with
 | zero=>
   intro i h tk c acc as hk hi st keep hS hacc hal hG;have hin:i=min xs.size ys.size:=by lia
   refine sbT PySem.F.entry_extend_loop ?_;rw[sbz sbY _];show wpAny _ A.in1 (pyNext (.ref z) >>= _) _ _ _
   have hend:xs[i]?=none∨ys[i]?=none:=by
    rcases Nat.le_total xs.size ys.size with g|g
    ·exact .inl (sbd (by lia))
    ·exact .inr (sbd (by lia))
   refine saa (Wb (s:={s with heap:=h,toks:=tk}) (A:=A.in1) hh D st hend fun h' he=>?_);have he':∀b o,b∉[z,to,i1,i2]→h.get? b=some o→h'.get? b=some o:=fun b o hb e=>he b o (fun q=>hb (by simp[q])) (fun q=>hb (by simp[q])) (fun q=>hb (by simp[q])) (fun q=>hb (by simp[q])) e;refine sac (hR h' tk acc c as (fun b o a1 a2 e=>he' b o a2 (keep b o a1 a2 e)) (he' S _ hSn hS) (by lia) ⟨hG.rise,hG.above,fun j a hj=>?_⟩ hacc);obtain⟨x,y,e1,e2,e3⟩:=hG.pairs j a hj;have hab:=hG.above a (saD hj);exact⟨x,y,e1,e2,he' a _ (fun hm=>absurd (low a hm) (Nat.not_lt.mpr (scb hab))) e3⟩
 | succ k ih=>
   intro i h tk c acc as hk hi st keep hS hacc hal hG;have hlt:i<min xs.size ys.size:=by lia
   have hx:xs[i]?=some (xs[i]'(by lia)):=sar _;have hy:ys[i]?=some (ys[i]'(by lia)):=sar _;have hsz:acc.size=i:=by rw[←Array.length_toList,hacc,sae,hal]
   refine sbT PySem.F.entry_extend_loop ?_;rw[sbz sbY _];show wpAny _ A.in1 (pyNext (.ref z) >>= _) _ _ _;refine saa (Wa (s:={s with heap:=h,toks:=tk}) (S:=S) D st (sai hS) hx hy fun h' st' ht hz hkp=>?_);dsimp only at ht hz hkp ⊢;have kp:∀b o,b∉[z,to,i1,i2]→h.get? b=some o→h'.get? b=some o:=fun b o hb e=>hkp b o (fun q=>hb (by simp[q])) (fun q=>hb (by simp[q])) (fun q=>hb (by simp[q])) (fun q=>hb (by simp[q])) e;have hS':=kp S _ hSn hS;have up:∀b o,b≠S→h'.get? b=some o→(h'.update S (Obj.mapSeq (·.push (Value.ref h.objs.size)))).get? b=some o:=fun b o hb e=>(saL _ _ (scJ hb)).trans e;have hSl:S<h.objs.size:=sai hS;show wpAny _ A.in1 (updateSeq S (·.push (Value.ref h.objs.size)) >>= _) _ _ _;refine saa ?_
   refine sbU hS' rfl (sac ⟨scn sbY _,ih (i+1) _ tk _ (acc.push (Value.ref h.objs.size)) (as++[h.objs.size]) (by lia) hlt (st'.keep up off)
    (fun b o a1 a2 e=>up b o a1 (kp b o a2 (keep b o a1 a2 e))) (saV _ hS' rfl) (by rw[Array.toList_push,hacc,saM];rfl) (by rw[saN,hal];rfl) ⟨?_,?_,?_⟩⟩) (by rw[hsz];lia) (by show(acc.push (Value.ref h.objs.size)).size≤sizeLine+1;rw[Array.size_push,hsz];lia)
   ·refine List.pairwise_append.mpr ⟨hG.rise,List.pairwise_singleton _ _,fun a ha b hb=>?_⟩;rw[sag.mp hb];exact hG.there ha
   ·intro a ha
    rcases san.mp ha with ha|ha
    ·exact hG.above a ha
    ·rw[sag.mp ha];exact hSl
   ·intro j b hj
    rcases Nat.lt_trichotomy j as.length with g1|g1|g1
    ·rw[saZ g1]at hj;obtain⟨x,y,e1,e2,e3⟩:=hG.pairs j b hj;have hb:=hG.above b (saD hj);exact⟨x,y,e1,e2,up b _ (sbB hb) (kp b _ (fun hm=>absurd (low b hm) (Nat.not_lt.mpr (scb hb))) e3)⟩
    ·subst g1;have hb:h.objs.size=b:=by simpa using hj
     subst hb;exact⟨_,_,by rw[hal];exact hx,by rw[hal];exact hy,up _ _ (sbB hSl) ht⟩
    ·have hnone:(as++[h.objs.size])[j]?=none:=sbZ (by rw[saN,List.length_singleton];lia);rw[hnone]at hj;cases hj
end
section
variable {prog:Program}{w:World}{A:Around}{E:Value→Shared→Prop}{s:Shared}{xs ys:Array Value}
theorem Wf {z:Addr}(hT:s.TypeIs (.ref z) "zip") {Q:Bool→Shared→Prop} (h:Q true s):wpAny (model prog w) A (Builtin.List.listLengthHint (.ref z)) Q E s:=by
 unfold Builtin.List.listLengthHint;refine saa (wpAny_specialOf hT YT ?_);refine saa (wpAny_specialOf hT YS ?_);exact sac h
theorem bW {R:Result→Shared→Prop}{z ti to i1 i2 l1 l2 S:Addr}(hh:A.handled=none)(D:ZipApart z ti to i1 i2 l1 l2)(off:∀b∈[z,ti,to,i1,i2,l1,l2],b≠S)(low:∀b∈[z,to,i1,i2],b<S)(hn:min xs.size ys.size≤sizeLine)
 (st:ZSt s.heap z ti to i1 i2 l1 l2 S 0 xs ys) (hz:IsZip s.heap z ti to .none) (res:Value) (c₀:Nat) (hS:s.heap.get? S=some {cls:=.type "list",data:=.seq #[] c₀ })
 (hR:∀h' tk acc c as,(∀b o,b≠S→b∉[z,to,i1,i2]→s.heap.get? b=some o→h'.get? b=some o)→h'.get? S=some {cls:=.type "list",dict:=none,data:=.seq acc c,slots:=#[]}→as.length=min xs.size ys.size→ZG xs ys S h' as →
  acc.toList=as.map Value.ref→R (.ok (.ret res)) {s with heap:=h',toks:=tk}) :
 wpAny (model prog w) A.in1 (Builtin.List.listExtendWith (.ref S) (.ref z) res)
  (fun fin s'=>match fin with| .done f=>R (.ok f) s'| .again c'=>c'.quiet=true∧codeAny (model prog w) A c' R s') (fun e s'=>R (.error e) s') s:=by
 have hT:s.TypeIs (.ref z) "zip" :=⟨_,hz,rfl⟩
 have hzS:S≠z:=scJ (off z (by simp));unfold Builtin.List.listExtendWith;refine saa (wpAny_typeOf (T := "zip") hT ?_);have a1:Builtin.List.listSameRef (.ref S) (.ref z)=false:=by simp[Builtin.List.listSameRef,hzS]
 have a2:(Value.type "zip" == Value.type "list")=false:=by decide
 have a3:(Value.type "zip" == Value.type "tuple")=false:=by decide
 simp only[a1,a2,a3,Bool.or_false,saH,if_false];refine saa (wpAny_pyIter_zip hz ?_);refine saa (sbj (Wf hT ?_));simp only[Bool.true_or,if_true];refine saa (wpAny_rule ?_);refine saa ?_;show wpAny _ _ (updateSeq S (·.push .none) >>= fun _=>updateSeq S (·.pop)) _ _ _;refine saa (sbU hS rfl ?_);have e2:=saV (Obj.mapSeq (·.push Value.none)) hS rfl;refine sbU (hz:=by seq_fits) e2 rfl ?_;have e3:=saV (Obj.mapSeq (·.pop)) e2 rfl
 have up:∀b o,b≠S→s.heap.get? b=some o→((s.heap.update S (Obj.mapSeq (·.push Value.none))).update S (Obj.mapSeq (·.pop))).get? b=some o:=fun b o hb e=>
  (saL _ _ (scJ hb)).trans ((saL _ _ (scJ hb)).trans e)
 refine sac ⟨scn sbY _,Wd (s:=s) (h₁:=s.heap) hh D off low hn res hR (min xs.size ys.size) 0 _ _ _ #[] [] (Nat.sub_zero _) (saX _) (st.keep up off) (fun b o hb _ e=>up b o hb e) e3 rfl rfl ⟨List.Pairwise.nil,(fun _ ha=>nomatch ha),(fun j a hj=>by simp at hj)⟩⟩
theorem We {R:Result→Shared→Prop}{z ti to i1 i2 l1 l2 S:Addr}(hh:A.handled=none)(D:ZipApart z ti to i1 i2 l1 l2)(off:∀b∈[z,ti,to,i1,i2,l1,l2],b≠S)(low:∀b∈[z,to,i1,i2],b<S)(hn:min xs.size ys.size≤sizeLine)
 (st:ZSt s.heap z ti to i1 i2 l1 l2 S 0 xs ys) (hz:IsZip s.heap z ti to .none) (hS:s.heap.get? S=some {cls:=.type "list",data:=.seq #[]})
 (hR:∀h' tk acc c as,(∀b o,b≠S→b∉[z,to,i1,i2]→s.heap.get? b=some o→h'.get? b=some o)→h'.get? S=some {cls:=.type "list",dict:=none,data:=.seq acc c,slots:=#[]}→as.length=min xs.size ys.size→ZG xs ys S h' as →
  acc.toList=as.map Value.ref→R (.ok (.ret .none)) {s with heap:=h',toks:=tk}) :
 wpAny (model prog w) A.in1 (Builtin.«list.__init__» ⟨[.ref S,.ref z],[]⟩)
  (fun fin s'=>match fin with| .done f=>R (.ok f) s'| .again c'=>c'.quiet=true∧codeAny (model prog w) A c' R s') (fun e s'=>R (.error e) s') s:=by
 show wpAny _ _ (do let was ← Builtin.List.listItems (.ref S);Builtin.List.listUpdate (.ref S) (fun _=>#[]);letGo was.toList.reverse;Builtin.List.listExtendWith (.ref S) (.ref z) .none) _ _ s;refine saa ?_;unfold Builtin.List.listItems;refine saa (sbm hS rfl (sac ?_));show wpAny _ _ (updateSeq S (fun _=>#[]) >>= fun _=>letGo (#[]:Array Value).toList.reverse >>= fun _=>Builtin.List.listExtendWith (.ref S) (.ref z) .none) _ _ s;refine saa (sbU hS rfl ?_);have e2:=saV (Obj.mapSeq (fun _=>(#[]:Array Value))) hS rfl;have up:∀b o,b≠S→s.heap.get? b=some o→(s.heap.update S (Obj.mapSeq (fun _=>(#[]:Array Value)))).get? b=some o:=fun b o hb e=>(saL _ _ (scJ hb)).trans e;refine saa (sco ?_);exact bW hh D off low hn (st.keep up off) (up _ _ (off z (by simp)) hz) .none _ e2 fun h' tk acc c as k e l g a=>hR h' tk acc c as (fun b o hb hn e=>k b o hb hn (up b o hb e)) e l g a
theorem Wg {Q:Value→Shared→Prop}{z ti to i1 i2 l1 l2:Addr}{a b:Value}(hh:A.handled=none)(D:ZipApart z ti to i1 i2 l1 l2)(hn:min xs.size ys.size≤sizeLine)
 (hz:IsZip s.heap z ti to .none) (hI:IsPair s.heap ti (.ref i1) (.ref i2)) (hO:IsPair s.heap to a b) (g1:s.heap.IsListIter i1 l1 0) (g2:s.heap.IsListIter i2 l2 0) (hl1:s.heap.IsList l1 xs) (hl2:s.heap.IsList l2 ys)
 (hQ:∀h' tk acc c as,(∀b o,b∉[z,to,i1,i2]→s.heap.get? b=some o→h'.get? b=some o)→h'.get? s.heap.objs.size=some {cls:=.type "list",dict:=none,data:=.seq acc c,slots:=#[]}→as.length=min xs.size ys.size→ZG xs ys s.heap.objs.size h' as →
  acc.toList=as.map Value.ref→Q (.ref s.heap.objs.size) {s with heap:=h',toks:=tk}) :
 wpAny (model prog w) A (call (.type "list") [.ref z]) Q E s:=by
 refine callType_codes (Q₁:=fun obj s₁=>obj=.ref s.heap.objs.size∧s₁={s with heap:=s.heap.push {cls:=.type "list",data:=.seq #[]}}) PySem.F.called_list (PySem.F.typeCall_list_1 _) PySem.F.entry_list_init
  (code_list_new _ ⟨rfl,rfl⟩) fun obj s₁ e=>?_
 obtain⟨rfl,rfl⟩:=e;have hS:(s.heap.push {cls:=.type "list",data:=.seq #[]}).get? s.heap.objs.size=some {cls:=.type "list",data:=.seq #[]}:=saq _ rfl;have lt:∀{c o},s.heap.get? c=some o→c<s.heap.objs.size:=fun e=>sai e
 have low7:∀b∈[z,ti,to,i1,i2,l1,l2],b<s.heap.objs.size:=by
  intro b hb;simp at hb
  rcases hb with rfl|rfl|rfl|rfl|rfl|rfl|rfl
  ·exact lt hz
  ·exact lt hI
  ·exact lt hO
  ·obtain⟨_,e,_⟩:=g1;exact lt e
  ·obtain⟨_,e,_⟩:=g2;exact lt e
  ·obtain⟨_,e,_⟩:=hl1;exact lt e
  ·obtain⟨_,e,_⟩:=hl2;exact lt e
 have hz':IsZip (s.heap.push {cls:=.type "list",data:=.seq #[]}) z ti to .none:=sab _ hz
 refine⟨⟨_,hS,rfl⟩,PySem.F.args_list_init_2 _ _,We (A:=A.in1) hh D (fun b hb=>saA (low7 b hb)) (fun b hb=>low7 b (by simp at hb ⊢;rcases hb with q|q|q|q <;> simp[q])) hn
  ⟨.inl ⟨hz',a,b,sab _ hO⟩,sab _ hI,g1.at fun o e=>sab _ e,g2.at fun o e=>sab _ e,hl1.push _,hl2.push _⟩ hz' hS fun h' tk acc c as k e l g ac=>?_⟩
 exact⟨rfl,hQ h' tk acc c as (fun b o hb e=>k b o (saA (sai e)) hb (sab _ e)) e l g ac⟩
end
noncomputable def sU (H:Hp):List Addr→List (V×V)→Hp
 |a::as,q::qs=>yW (sU H as qs) a (.tup [q.1,q.2])
 |_,_=>H
theorem vN {H:Hp}:∀{as:List Addr} {qs:List (V×V)} {b:Addr},b∉as→sU H as qs b=H b
 |[],_,b,_=>rfl
 |a::as,[],b,_=>rfl
 | a::as,q::qs,b,h=>by
   have h1:b≠a:=fun z=>h (by rw[z];exact saB);have h2:b∉as:=fun z=>h (sao _ z);unfold sU;rw[zB h1,vN h2]
theorem Yj {H:Hp}:∀{as:List Addr} {qs:List (V×V)} {j:Nat} {a:Addr} {q:V×V},as.Nodup→as[j]?=some a→qs[j]?=some q→sU H as qs a=some (.tup [q.1,q.2])
 |[],_,j,a,q,_,h,_=>by simp at h
 |a'::as,[],j,a,q,_,_,h=>by simp at h
 | a'::as,q'::qs,0,a,q,hn,h1,h2=>by
   simp at h1 h2;subst h1;subst h2;exact zU
 | a'::as,q'::qs,j+1,a,q,hn,h1,h2=>by
   have hn':=sbl.mp hn;have hm:a∈as:=saD (by simpa using h1);have hne:a≠a':=fun z=>hn'.1 (z ▸ hm);unfold sU;rw[zB hne];exact Yj hn'.2 (by simpa using h1) (by simpa using h2)
theorem mW {K:Frag}:∀{as:List Addr} {qs:List (V×V)} {G H:Hp},zV G H→as.length=qs.length→as.Nodup→(∀a∈as,H a=none)→Gw G H (sU G as qs) (sU H as qs)∧zV (sU G as qs) (sU H as qs)
 |[],_,G,H,l,_,_,_=>⟨Gw.refl _ _,l⟩
 |a::as,[],G,H,l,e,_,_=>by cases e
 | a::as,q::qs,G,H,l,e,hn,hf=>by
   have hn':=sbl.mp hn;have ih:=mW (K:=K) (as:=as) (qs:=qs) l (by simpa using e) hn'.2 fun b hb=>hf b (sao _ hb);have ha:sU H as qs a=none:=by rw[vN hn'.1];exact hf a saB
   have g:=Gw.laidT (o:=.tup [q.1,q.2]) ih.2 ha;exact⟨ih.1.trans g.1,g.2⟩
@[simp] noncomputable def Rm:D→D→Out Val
  | .l ds,.l es=>.ok (.fresh ((ds.zip es).map fun p=>.tup [p.1,p.2]))
  |_,_=>.bad
noncomputable def Wr (ta:TA):TE:=fun σ H Q=>ta σ H fun vs H1=>∃(a b:Addr) (xs ys:List V),vs=[.ref a,.ref b]∧H1 a=some (.l xs)∧H1 b=some (.l ys) ∧
 ∀(l:Addr) (as:List Addr),H1 l=none→as.length=(xs.zip ys).length→as.Nodup→(∀p∈as,H1 p=none∧p≠l)→Q (.ref l) (yW (sU H1 as (xs.zip ys)) l (.l (as.map V.ref)))
theorem dQ:∀l:List Addr,yt (l.map V.ref) (l.map Value.ref)
 |[]=>.nil
 |a::l=>.cons rfl (dQ l)
theorem P9 (n a b:Nat)(ha:a<n)(hb:b<n):ZipApart (n+4) (n+2) (n+3) n (n+1) a b:=by
 constructor <;> (refine fun(z:(_:Nat)=_)=>?_;lia)
theorem Pv {n c:Nat}(h:c<n):c∉[n+4,n+3,n,n+1]:=by
 simp;lia
theorem az {X:Cx}{p p2 pos pos2:Pos}{e1 e2:Expr}{ta:TA}(hc:X.calm=true)(ha:PA X [e1,e2] ta)(hml:X.mg "list" = none) (hmz:X.mg "zip" = none) (hgl:Gl X "list" :=by rfl) (hgz:Gl X "zip" :=by rfl)
 (hs:starEach [.Call (.Name "zip" p2) [e1,e2] [] pos2] X.env=[(false,eval (.Call (.Name "zip" p2) [e1,e2] [] pos2) X.env)]:=by rfl)
 (hs2:starEach [e1,e2] X.env=(false,eval e1 X.env)::starEach [e2] X.env:=by rfl) (hs3:starEach [e2] X.env=[(false,eval e2 X.env)]:=by rfl) :
 PE X (.Call (.Name "list" p) [.Call (.Name "zip" p2) [e1,e2] [] pos2] [] pos) (Wr ta):=by
 intro pins s σ H Q I h;refine sbJ (u7 I hgl hml boot_list (saW ?_ (by rw[hs];rfl) rfl));rw[hs];refine Calls.spliced_cons (sbJ (u7 I hgz hmz boot_zip (saW (we (ha pos2 pins s σ H _ I h) fun us s1 ⟨vs,H1,I1,r1,q1⟩=>?_) hs2 (by rw[hs3];rfl))));obtain⟨a,b,xs,ys,rfl,ea,eb,q⟩:=q1;obtain⟨ua,ub,rfl,ra,rb⟩:=dR r1;cases(show ua=.ref a from ra);cases(show ub=.ref b from rb);obtain⟨za,ia,na,va,la,ha1⟩:=I1.lstM ea;obtain⟨zb,ib,nb,vb,lb,hb1⟩:=I1.lstM eb
 have hl1:s1.heap.IsList a ia.toArray:=⟨_,ha1,rfl,_,rfl⟩
 have hl2:s1.heap.IsList b ib.toArray:=⟨_,hb1,rfl,_,rfl⟩
 have alt:=sai ha1;have blt:=sai hb1;refine call_zip_2 hl1 hl2 fun h2 hz hI hO g1 g2 hsz k2=>?_;refine Calls.spliced_nil ?_;have D:ZipApart (s1.heap.objs.size+4) (s1.heap.objs.size+2) (s1.heap.objs.size+3) s1.heap.objs.size (s1.heap.objs.size+1) a b:=P9 _ _ _ alt blt;have hmin:min ia.toArray.size ib.toArray.size=(xs.zip ys).length:=by simp[la,lb]
 refine Wg (I1.ok.hd hc) D (by rw[hmin];simp;lia) hz hI hO g1 g2 (hl1.at fun o e=>k2 _ _ e) (hl2.at fun o e=>k2 _ _ e) fun h' tk acc c as k3 hS hl hG hacc=>?_;have hk:∀b o,s1.heap.get? b=some o→h'.get? b=some o:=fun c o e=>k3 c o (Pv (sai e)) (k2 c o e);have hnd:as.Nodup:=hG.rise.imp fun h=>saA h;have hsz':s1.heap.objs.size<h2.objs.size:=by lia
 have hn:∀a,s1.heap.objs.size≤a→H1 a=none:=fun a ha=>I1.hok.fresh ha;have hab:∀a∈as,h2.objs.size<a:=hG.above
 have hnl:∀a∈as,H1 a=none∧a≠h2.objs.size:=fun a ha=>⟨hn a (scb (Nat.lt_trans hsz' (hab a ha))),sbB (hab a ha)⟩
 have fin:=q h2.objs.size as (hn _ (by lia)) (by rw[hl,hmin]) hnd hnl
 have hlow:∀b,b<s1.heap.objs.size→yW (sU H1 as (xs.zip ys)) h2.objs.size (.l (as.map V.ref)) b=H1 b:=fun b hb=>by
  rw[zB (saA (Nat.lt_trans hb hsz')),vN fun hm=>absurd (Nat.lt_trans hb hsz') (Nat.not_lt.mpr (scb (hab b hm)))]
 have hsame:zV H1 (yW (sU H1 as (xs.zip ys)) h2.objs.size (.l (as.map V.ref))):=fun b o e=>by
  have hb:b<s1.heap.objs.size:=by
   rcases Nat.lt_or_ge b s1.heap.objs.size with hlt|hge
   ·exact hlt
   ·rw[hn b hge]at e;cases e
  rw[hlow b hb];exact e
 refine⟨.ref h2.objs.size,yW (sU H1 as (xs.zip ys)) h2.objs.size (.l (as.map V.ref)),?_,rfl,fin⟩;show Inv X pins σ _ {s1 with heap:=h',toks:=tk};refine Inv.many I1 hk hsame (fun b hb e=>by rw[hlow b hb];exact e) fun b o hb e=>?_;by_cases hbl:b=h2.objs.size
 ·subst hbl;rw[zU]at e;cases e;refine⟨by rw[sae,hl,hmin];simp;lia,as.map Value.ref,c,dQ as,?_⟩;rw[←hacc];simpa using hS
 ·rw[zB hbl]at e;by_cases hm:b∈as
  ·obtain⟨j,hj⟩:=saT hm;obtain⟨x,y,hx,hy,ht⟩:=hG.pairs j b hj;have hx':ia[j]?=some x:=by simpa using hx
   have hy':ib[j]?=some y:=by simpa using hy
   have jl:j<xs.length:=by rw[la];exact(sak.mp hx').1
   have jr:j<ys.length:=by rw[lb];exact(sak.mp hy').1
   obtain⟨x2,ex2,rx⟩:=va.get (sad jl);obtain⟨y2,ey2,ry⟩:=vb.get (sad jr);have e1:x2=x:=saI (ex2.symm.trans hx');have e2:y2=y:=saI (ey2.symm.trans hy');subst e1;subst e2;have hq:(xs.zip ys)[j]?=some (xs[j],ys[j]):=by simp[List.getElem?_zip_eq_some,jl,jr]
   rw[Yj hnd hj hq]at e;cases e;exact⟨by show 2≤sizeLine;rw[sizeLine_eq];lia,[x2,y2],.cons rx (.cons ry .nil),⟨_,ht,rfl,_,rfl⟩⟩
  ·rw[vN hm,hn b hb]at e;cases e
theorem ZF {K:Frag}{G:Hp}:∀{as:List Addr} {ds es:List D} {xs ys:List V},zM K G ds xs→zM K G es ys→as.length=(xs.zip ys).length→as.Nodup→(∀a∈as,G a=none) →
 zM K (sU G as (xs.zip ys)) ((ds.zip es).map fun p=>.tup [p.1,p.2]) (as.map V.ref)
 |[],[],es,xs,ys,r1,r2,hl,hn,hf=>by simp;exact zM.nil
 |[],d::ds,[],xs,ys,r1,r2,hl,hn,hf=>by simp;exact zM.nil
 | [],d::ds,e::es,xs,ys,r1,r2,hl,hn,hf=>by
   have l1:=r1.length;have l2:=r2.length;simp at l1 l2 hl;lia
 |a::as,ds,es,[],ys,r1,r2,hl,hn,hf=>by simp at hl
 |a::as,ds,es,x::xs,[],r1,r2,hl,hn,hf=>by simp at hl
 |a::as,[],es,x::xs,y::ys,r1,r2,hl,hn,hf=>by have:=r1.length;simp at this
 |a::as,d::ds,[],x::xs,y::ys,r1,r2,hl,hn,hf=>by have:=r2.length;simp at this
 | a::as,d::ds,e::es,x::xs,y::ys,r1,r2,hl,hn,hf=>by
   obtain⟨v,vs,ev,h1,t1⟩:=r1;cases ev;obtain⟨u,us,eu,h2,t2⟩:=r2;cases eu;have hn':=sbl.mp hn;have hl':as.length=(xs.zip ys).length:=by simpa using hl
   have ih:=ZF t1 t2 hl' hn'.2 fun b hb=>hf b (sao _ hb);have ha:sU G as (xs.zip ys) a=none:=by rw[vN hn'.1];exact hf a saB
   have g:=(mW (K:=K) (as:=as) (qs:=xs.zip ys) (zV.refl G) hl' hn'.2 fun b hb=>hf b (sao _ hb)).1.g;have g2:zV (sU G as (xs.zip ys)) (yW (sU G as (xs.zip ys)) a (.tup [x,y])):=fun b o q=>by rw[zB (zF q ha)];exact q
   show zM K (yW (sU G as (xs.zip ys)) a (.tup [x,y])) (.tup [d,e]::_) (.ref a::as.map V.ref);refine zM.cons ⟨a,[x,y],rfl,zU,zM.cons ((h1.mono g).mono g2) (zM.cons ((h2.mono g).mono g2) zM.nil)⟩ (ih.mono g2)
theorem Zg {X:Cx}{G₀ H₀:Hp}{p p2 pos pos2:Pos}{e1 e2:Expr}{f1 f2':FE}(h1:DE X G₀ H₀ e1 f1)(h2:DE X G₀ H₀ e2 f2')(hml:X.mg "list" = none) (hmz:X.mg "zip" = none) (hc:X.calm=true:=by rfl) (hgl:Gl X "list" :=by rfl) (hgz:Gl X "zip" :=by rfl)
 (hs:starEach [.Call (.Name "zip" p2) [e1,e2] [] pos2] X.env=[(false,eval (.Call (.Name "zip" p2) [e1,e2] [] pos2) X.env)]:=by rfl)
 (hs2:starEach [e1,e2] X.env=(false,eval e1 X.env)::starEach [e2] X.env:=by rfl) (hs3:starEach [e2] X.env=[(false,eval e2 X.env)]:=by rfl) :
 DE X G₀ H₀ (.Call (.Name "list" p) [.Call (.Name "zip" p2) [e1,e2] [] pos2] [] pos) (f2 Rm f1 f2') :=
 (az hc (yP h1 (yP h2 x4 hs3) hs2) hml hmz hgl hgz hs hs2 hs3).imp fun σ H Q q=>by
  obtain⟨env,G,val,I,e,k⟩:=q;obtain⟨x,ex,e⟩:=zv e;obtain⟨y,ey,e⟩:=zv e;refine b_ I ex ey fun v u G' H' g l I' o1 o2=>?_;unfold Rm at e;split at e
  ·rename_i ds es hd he;cases e;rw[hd]at o1;rw[he]at o2;obtain⟨a,xs,rfl,ha,ra⟩:=v9.l I' o1;obtain⟨b,ys,rfl,hb,rb⟩:=v9.l I' o2;refine⟨a,b,xs,ys,rfl,ha,hb,fun p as hp hal hnd hfr=>?_⟩;have gl:=mW (K:=X.K) (as:=as) (qs:=xs.zip ys) l hal hnd fun b hb=>(hfr b hb).1;have hpl:sU H' as (xs.zip ys) p=none:=by rw[vN fun hm=>(hfr p hm).2 rfl];exact hp
   have g1:=Gw.laidL (o:=.l (as.map V.ref)) gl.2 hpl;refine k _ _ _ ((g.trans gl.1).trans g1.1) g1.2 ?_;refine⟨p,as.map V.ref,rfl,nM g.h hp,zU,gl.2.free hpl,ZF ra rb hal hnd fun b hb=>l.free (hfr b hb).1⟩
  ·cases e
noncomputable def Pf (K:Frag)(l:Addr)(n:Nat):It :=
 ⟨fun i H=>∃xs,xV K H l xs∧xs.length=n∧i<n,fun i H x H'=>H'=H∧∀xs,xV K H l xs→xs[n - 1 - i]?=some x,fun i _=>n≤i⟩
theorem kW {P:Program}{w:World}{K:Frag}{tg:Expr}(l it:Addr)(n:Nat):Turn P w K tg (Pf K l n) [it] it (fun i h=>i≤n∧h.IsRevIter it l ((n:Int) - 1 - (i:Int))) where
 mem:=by simp
 obj:=fun i h st b hb=>by
  have e:b=it:=by simpa using hb
  subst e;obtain⟨_,o,e,c,d⟩:=st;exact⟨o,e,fun v z=>by rw[d]at z;cases z⟩
 keep:=fun i h h' st k=>⟨st.1,st.2.at fun o e=>k it (by simp) o e⟩
 item:=by
  intro X hP hw hK hc i pins s σ H E I hf st hg;subst hP hw hK;obtain⟨xs,hq,hn,hi⟩:=hg;have hx:xs[n - 1 - i]?=some (xs[n - 1 - i]'(by lia)):=sad _;obtain⟨its,rv,p,hz⟩:=I.list hq;obtain⟨u,hu,ru⟩:=rv.get hx;obtain⟨f0,f1,f2,f3,f4,f5⟩:=hf it (by simp);have en:(n:Int) - 1 - (i:Int)=((n - 1 - i:Nat):Int):=by lia
  have hit:=st.2;rw[en]at hit;refine wpAny_pyNext_rev_item hit p.isList (x:=u) (by simpa using hu) fun h' st' sb=>?_;have en2:((n - 1 - i:Nat):Int) - 1=(n:Int) - 1 - ((i+1:Nat):Int):=by lia
  rw[en2]at st';have I1:Inv X pins σ H {s with heap:=h'}:=I.turned (t':=s.toks) (fun b o hb e=>(sb.2 b hb).trans e) f0 f1 f3 f4 f5;obtain⟨o,e,c,d⟩:=id st';exact⟨u,rfl,VE (s:={s with heap:=h'}) e c d (by decide) ⟨_,H,I1,ru,⟨rfl,fun ys hy=>by rw[I.list_inj hy hq];exact hx⟩,⟨hi,st'⟩,fun b hb=>(hf b hb).1⟩⟩
 done:=by
  intro X hP hw hK hc i pins s σ H E I hf st hg;subst hP hw hK;obtain⟨f0,f1,f2,f3,f4,f5⟩:=hf it (by simp);have hn:n≤i:=hg;have en:(n:Int) - 1 - (i:Int) = -1:=by have:=st.1;lia
  have hit:=st.2;rw[en]at hit
  exact wpAny_pyNext_rev_end (I.ok.hd hc) hit fun h' eb=>⟨rfl,I.turned (t':=s.toks) (fun b o hb e=>eb b o hb e) f0 f1 f3 f4 f5⟩
 self:=fun _ _ _ _ _ st h=>wpAny_pyIter_revIter st.2 h
noncomputable def Py (K:Frag)(ta:TA):TI:=fun σ H R=>ta σ H fun vs H1=>∃a xs,vs=[.ref a]∧H1 a=some (.l xs)∧R (Pf K a xs.length) H1
theorem SI {X:Cx}{tg:Expr}{p cpos:Pos}{l:Expr}{ta:TA}(hm:X.mg "reversed" = none) (ha:PA X [l] ta) (hg:Gl X "reversed" :=by rfl) (hs:starEach [l] X.env=[(false,eval l X.env)]:=by rfl):PI X tg (.Call (.Name "reversed" p) [l] [] cpos) (Py X.K ta):=by
 intro pins s σ H R I h;refine Call_ (u7 I hg hm boot_reversed (saW (we (ha cpos pins s σ H _ I h) fun us s1 ⟨vs,H1,I1,r1,q1⟩=>?_) hs rfl));obtain⟨a,xs,rfl,hH,q⟩:=q1;obtain⟨u,rfl,r2⟩:=qf r1;cases(show u=.ref a from r2);obtain⟨z,its,n,rv,hlen,e⟩:=I1.lstM hH
 have hl:s1.heap.IsList a its.toArray:=⟨_,e,rfl,_,rfl⟩
 refine call_reversed_list hl ?_;have I2:Inv X pins σ H1 {s1 with heap:=s1.heap.push (revObj a ((its.toArray.size:Int) - 1)),toks:=s1.toks}:=I1.kept (t':=s1.toks) fun b o e=>sab _ e
 have hit:(s1.heap.push (revObj a ((its.toArray.size:Int) - 1))).IsRevIter s1.heap.objs.size a ((xs.length:Int) - 1 - ((0:Nat):Int)):=⟨_,saq _ rfl,rfl,by simp[revObj,hlen]⟩
 refine wpAny_pyIter_revIter hit ?_;refine⟨s1.heap.objs.size,[s1.heap.objs.size],_,Pf X.K a xs.length,H1,rfl,I2,kW a _ xs.length,⟨saX _,hit⟩,fun b hb=>?_,q⟩;have e:b=s1.heap.objs.size:=by simpa using hb
 subst e;exact I1.fpOk (Nat.le_refl _) (I1.hok.fresh (Nat.le_refl _))
theorem U6 {K:Frag}{G:Hp}{a:Addr}{ds:List D}{vs:List V}(h:xV K G a vs)(r:zM K G ds vs):JOk K (Pf K a vs.length) G ds.reverse where
 go:=fun i G' H' s l hi=>by
  rw[sbk,r.length]at hi;exact⟨vs,l.seq (s.seq h),rfl,hi⟩
 stop:=fun i G' H' s l hi=>by
  rw[sbk,r.length]at hi;exact hi
 yld:=fun i G' H' x H1 s l hi y=>by
  obtain⟨e,y⟩:=y;subst e;rw[sbk]at hi;have hx:=y vs (l.seq (s.seq h));rw[←r.length]at hx;obtain⟨d,h1,h2⟩:=r.get' hx;exact⟨d,G',by rw[List.getElem?_reverse hi];exact h1,Gw.refl _ _,l,h2.mono s⟩
@[simp] noncomputable def Rr (f:FE):FI:=fun env=>(f env).bind fun x=>x.hold.bind fun d=>match d with
  | .l ds=>.ok ds.reverse
  |_=>.bad
theorem Rx {X:Cx}{G₀ H₀:Hp}{tg:Expr}{p cpos:Pos}{l:Expr}{f:FE}(hm:X.mg "reversed" = none) (hl:DE X G₀ H₀ l f) (hg:Gl X "reversed" :=by rfl) (hs:starEach [l] X.env=[(false,eval l X.env)]:=by rfl) :
 Sf X G₀ H₀ tg (.Call (.Name "reversed" p) [l] [] cpos) (Rr f):=(SI hm (yP hl x4 hs) hg hs).imp fun σ H R q=>by
 obtain⟨env,G,ds,I,e,k⟩:=q;obtain⟨x,e1,e⟩:=zv e;obtain⟨d,e2,e⟩:=zv e;refine⟨env,G,x,I,e1,fun v G' H' g l h=>?_⟩;obtain⟨G2,g2,l2,h2⟩:=m5 g l h e2;split at e
 ·cases e;obtain⟨a,vs,rfl,h3,r3⟩:=h2;exact⟨a,vs,rfl,l2 _ _ h3,k _ G2 H' g2 l2 (U6 (xV.of h3) r3)⟩
 ·cases e
theorem int_at {its:List Value}{ns:List Int}(h:IntsAre its ns){i:Nat}{v:Value}(e:its[i]?=some v):∃t,v=.int (ns.getD i 0) t:=IntsAre.int_at h i v e
@[simp] noncomputable def uz (b a:Int):Int:=if a>b then a else b
@[simp] noncomputable def vK (b a:Int):Int:=if a<b then a else b
noncomputable def Oj:{f:String→PySem.Builtin // f "max" = PySem.Builtin.«max» }:=by
 refine⟨?f,?h⟩
 case h=>unfold PySem.Builtin.«max»;exact rfl
noncomputable def Oi:{f:String→CmpOp→PySem.Builtin // f "max" .Gt=PySem.Builtin.«max.loop» }:=by
 refine⟨?f,?h⟩
 case h=>unfold PySem.Builtin.«max.loop»;exact rfl
structure MM (nm ln:String)(op:CmpOp)(st:Int→Int→Int)(lt:Int→Int→Bool):Prop where
 eB:entryFor table nm=some (Oj.1 nm)
 eL:entryFor table ln=some (Oi.1 nm op)
 pB:plainId nm=true
 pL:plainId ln=true
 kB:builtinKind nm=none
 eq:(toString nm++toString ".loop" : String)=ln
 cmp:∀(prog:Program) (w:World) (A:Around) (P:Nat→Value→Prop) (val:Nat→Int),(∀i v,P i v→∃t,v=Value.int (val i) t)→CmpOf prog w A op P fun i j=>lt (val i) (val j)
 stp:∀b a,st b a=if lt a b=true then a else b
 n1:Str.ofString nm≠Str.ofString "__name__"
 n2:(Str.ofString nm == Str.ofString "__debug__")=false
 a1:∀x,argsOk nm ⟨[x],[]⟩
 a2:∀x v,argsOk nm ⟨[x],[(Str.ofString "default",v)]⟩
theorem T6:MM "max" "max.loop" .Gt uz fun a b=>decide (a>b):=⟨PySem.F.entry_max,PySem.F.entry_max_loop,PySem.F.plain_max,PySem.F.plain_max_loop,PySem.F.kind_max,by decide,fun _ _ _ _ v h=>CmpOf.ints_gt v h,fun b a=>by simp,by decide,by decide,fun x=>by unfold argsOk;kernel_rfl,fun x v=>by unfold argsOk;kernel_rfl⟩
theorem T5:MM "min" "min.loop" .Lt vK fun a b=>decide (a<b):=⟨PySem.F.entry_min,PySem.F.entry_min_loop,PySem.F.plain_min,PySem.F.plain_min_loop,PySem.F.kind_min,by decide,fun _ _ _ _ v h=>CmpOf.ints_lt v h,fun b a=>by simp,by decide,by decide,fun x=>by unfold argsOk;kernel_rfl,fun x v=>by unfold argsOk;kernel_rfl⟩
section
variable {nm ln:String}{op:CmpOp}{st:Int→Int→Int}{lt:Int→Int→Bool}
section
variable {prog:Program}{w:World}{A:Around}{s:Shared}{R:Result→Shared→Prop}{I l S:Addr}{its:List Value}{ns:List Int}
theorem Ol (M:MM nm ln op st lt)(hh:A.handled=none)(hi:IntsAre its ns)(hlen:its.length=ns.length)(hlI:l≠I)(hSI:S≠I)(hSl:S≠l)(kw:List (Str×Value)){h₁:Heap}
 (q:∀h' tk' t,(∀b o,b≠S→b≠I→h₁.get? b=some o→h'.get? b=some o)→∀b,(∃k,0<k∧k≤ns.length∧b=(ns.drop k).foldl st ((ns.take k).tail.foldl st (ns.getD 0 0)))→R (.ok (.ret (.int b t))) {s with heap:=h',toks:=tk'}) :
 ∀ (r j:Nat) (h:Heap) (tk:Nat) (b:Int) (tb:Tok) (c:Nat),ns.length - j=r→0<j→j≤ns.length→h.IsListIter I l j→h.IsList l its.toArray→b=(ns.take j).tail.foldl st (ns.getD 0 0)→(∀b o,b≠S→b≠I→h₁.get? b=some o→h.get? b=some o) →
   h.get? S=some {cls:=.type "list",dict:=none,data:=.seq #[.int b tb,.int b tb] c,slots:=#[]} →
   codeAny (model prog w) A (.builtin ln ⟨[.ref I,.none,.ref S],kw⟩) R {s with heap:=h,toks:=tk}:=by
 intro r
 induction r with
 | zero=>
   intro j h tk b tb c hr j0 hj hit hl hb keep hS;have hin:j=ns.length:=by lia
   refine sbT M.eL ?_;rw[sbz M.pL _];show wpAny _ A.in1 (seqItems? (.ref S) >>= _) _ _ _;refine saa (sbm hS rfl ?_);show wpAny _ A.in1 (tryCatch (pyNext (.ref I)) _ >>= _) _ _ _;refine saa (wpAny_tryCatch (wpAny_pyNext_list_end (s:={s with heap:=h,toks:=tk}) (A:=A.in1) hh hit hl (sbd (by simp;lia)) fun h' he=>?_));have hS':=he S _ hSI hS;show wpAny _ A.in1 (updateSeq S (fun _=>#[]) >>= _) _ _ _;refine saa ?_;refine sbU hS' rfl (saa (sco (sac ?_)));refine q _ tk tb (fun d o d1 d2 e=>(saL _ _ (scJ d1)).trans (he d o d2 (keep d o d1 d2 e))) b ⟨j,j0,hj,?_⟩;rw[hin,List.drop_length,List.foldl_nil,←hin];exact hb
 | succ r ih=>
   intro j h tk b tb c hr j0 hj hit hl hb keep hS;have hlt:j<ns.length:=by lia
   have hx:its.toArray[j]?=some (its[j]'(by lia)):=by simp[show j<its.length by lia]
   obtain⟨t,et⟩:=int_at hi (i:=j) (v:=its[j]'(by lia)) (sad _);have eg:ns.getD j 0=ns[j]:=by simp[hlt]
   have step:(ns.take (j+1)).tail.foldl st (ns.getD 0 0)=st b (ns.getD j 0):=by
    rw[sbw hlt,List.tail_append_of_ne_nil (by
     intro z
     rcases List.take_eq_nil_iff.mp z with z|z
     ·lia
     ·rw[z]at hlt;simp at hlt),saR,←hb,eg]
    rfl
   refine sbT M.eL ?_;rw[sbz M.pL _];show wpAny _ A.in1 (seqItems? (.ref S) >>= _) _ _ _;refine saa (sbm hS rfl ?_);show wpAny _ A.in1 (tryCatch (pyNext (.ref I)) _ >>= _) _ _ _;refine saa (wpAny_tryCatch (wpAny_pyNext_list_item (s:={s with heap:=h,toks:=tk}) (A:=A.in1) hit hl hx fun h' hit' hs'=>?_));rw[et];have hs2:Heap.SameBut I h h':=hs';have hS':=hs2.extBut S _ hSI hS;have hl':h'.IsList l its.toArray:=hl.at fun o e=>hs2.extBut l o hlI e;show wpAny _ A.in1 (tryCatch (holding [Value.int (ns.getD j 0) t,Value.int (ns.getD j 0) t] (richCompare op (Value.int (ns.getD j 0) t) (.int b tb) >>= _)) _ >>= _) _ _ _;have hcmp:=M.cmp prog w A.in1 (fun i v=>v=.int (if i=1 then ns.getD j 0 else b) (if i=1 then t else tb)) (fun i=>if i=1 then ns.getD j 0 else b) (fun i v e=>⟨_,e⟩);refine saa (wpAny_tryCatch (sbj (saa (hcmp 1 0 _ _ _ _ _ rfl rfl ?_))));refine saa (sbj (scg ?_));refine saa (sco (sac ?_));have keep':∀d o,d≠S→d≠I→h₁.get? d=some o→h'.get? d=some o:=fun d o d1 d2 e=>hs2.extBut d o d2 (keep d o d1 d2 e);simp only[if_true,show ¬(0:Nat)=1 from by lia,if_false];by_cases hgt:lt (ns.getD j 0) b=true
   ·rw[saf hgt];refine saa ?_;refine sbU hS' rfl (saa (sco ?_));rw[M.eq]
    refine sac ⟨scn M.pL _,ih (j+1) _ _ (ns.getD j 0) t _ (by lia) (by lia) hlt (hit'.at fun o e=>(saL _ _ hSI).trans e) (hl'.at fun o e=>(saL _ _ hSl).trans e) (by rw[step,M.stp,saf hgt])
     (fun d o d1 d2 e=>(saL _ _ (scJ d1)).trans (keep' d o d1 d2 e)) (saV _ hS' rfl)⟩
   ·rw[sah hgt];refine saa (sco ?_);rw[M.eq];exact sac ⟨scn M.pL _,ih (j+1) _ _ b tb _ (by lia) (by lia) hlt hit' hl' (by rw[step,M.stp,sah hgt]) keep' hS'⟩
end
noncomputable def bo (st:Int→Int→Int):List Int→Option Int
 |[]=>none
 |n::ns=>some (ns.foldl st n)
noncomputable def oE:List Int→Option Int
 |[]=>none
 |n::ns=>some (ns.foldl uz n)
noncomputable def oD:List Int→Option Int
 |[]=>none
 |n::ns=>some (ns.foldl vK n)
theorem Qn {ns:List Int}{b:Int}(h:∃k,0<k∧k≤ns.length∧b=(ns.drop k).foldl st ((ns.take k).tail.foldl st (ns.getD 0 0))):bo st ns=some b:=by
 obtain⟨k,h0,hk,rfl⟩:=h
 cases ns with
 |nil=>simp at hk;lia
 | cons n r=>
   obtain⟨m,rfl⟩:∃m,k=m+1:=⟨k - 1,by lia⟩
   simp only[bo,List.drop_succ_cons,List.take_succ_cons,List.tail_cons,List.getD_cons_zero];rw[←saR,List.take_append_drop]
noncomputable def Qt:Option Int→V
 |none=>.non
 |some b=>.int b
theorem T_ {X:Cx}(M:MM nm ln op st lt)(hc:X.calm=true){pins:List (Addr×Obj)}{s1:Shared}{σ:St}{H1:Hp}{a:Addr}{ns:List Int}{Q:VK}{kw:List (Str×Value)}{d:Option Value}(I1:Inv X pins σ H1 s1)(hH:H1 a=some (.l (ns.map V.int)))(ha:argsOk nm ⟨[.ref a],kw⟩)
 (hb:Builtin.Builtins.bindParams nm ["key","default"] 0 ⟨[],kw⟩=pure [none,d]) (hk:(d.toList.map fun v=>(Str.ofString "default",v))=kw) (hn:ns=[]→d=some .none) (q:Q (Qt (bo st ns)) H1):wpAny (model X.prog X.w) X.A (call (.builtin nm) [.ref a] kw) (EP X pins σ Q) X.xe s1:=by
 obtain⟨z,its,n,rv,hlen,e⟩:=I1.lstM hH;have hi:IntsAre its ns:=aT rv;have hil:its.length=ns.length:=by rw[←hlen,sae]
 have hl:s1.heap.IsList a its.toArray:=⟨_,e,rfl,_,rfl⟩
 have hal:=sai e;refine PyProof.Rows.kmb_tree M.kB M.pB M.eB ha ?_;show wpAny _ X.A.in1 (Builtin.Builtins.bindParams nm ["key","default"] 0 ⟨[],kw⟩ >>= _) _ _ s1;refine saa (wpAny_of_eq hb ?_);refine saa (sac ?_);refine saa (sch hl ?_);refine saa (scz ?_);rw[M.eq,hk]
 have hI2:((s1.heap.push {cls:=.type "list_iterator",data:=.fields #[.ref a,.int 0 0]}).push {cls:=.type "list",data:=.seq ([]:List Value).toArray}).IsListIter s1.heap.objs.size a 0:=⟨_,sab _ (saq _ rfl),rfl,rfl⟩
 have hz:(s1.heap.push {cls:=.type "list_iterator",data:=.fields #[.ref a,.int 0 0]}).objs.size=s1.heap.objs.size+1:=saY ..;have hS2:((s1.heap.push {cls:=.type "list_iterator",data:=.fields #[.ref a,.int 0 0]}).push {cls:=.type "list",data:=.seq ([]:List Value).toArray}).get? (s1.heap.push {cls:=.type "list_iterator",data:=.fields #[.ref a,.int 0 0]}).objs.size=some {cls:=.type "list",data:=.seq #[]}:=saq _ rfl;rw[hz]at hS2;have hl2:((s1.heap.push {cls:=.type "list_iterator",data:=.fields #[.ref a,.int 0 0]}).push {cls:=.type "list",data:=.seq ([]:List Value).toArray}).IsList a its.toArray:=(hl.push _).push _;have hk2:∀b o,s1.heap.get? b=some o→((s1.heap.push {cls:=.type "list_iterator",data:=.fields #[.ref a,.int 0 0]}).push {cls:=.type "list",data:=.seq ([]:List Value).toArray}).get? b=some o:=fun b o e=>sab _ (sab _ e);rw[hz];generalize((s1.heap.push {cls:=.type "list_iterator",data:=.fields #[.ref a,.int 0 0]}).push {cls:=.type "list",data:=.seq ([]:List Value).toArray})=h2 at hI2 hS2 hl2 hk2 ⊢;have nSI:s1.heap.objs.size+1≠s1.heap.objs.size:=Nat.succ_ne_self _;have nlI:a≠s1.heap.objs.size:=saA hal;have nSl:s1.heap.objs.size+1≠a:=sbB (sbD hal)
 have old:∀b o,s1.heap.get? b=some o→b≠s1.heap.objs.size+1∧b≠s1.heap.objs.size:=fun b o e=>⟨saA (sbD (sai e)),saA (sai e)⟩
 refine sac ⟨scn M.pL _,?_⟩;show codeAny _ _ (.builtin ln ⟨[.ref s1.heap.objs.size,.none,.ref (s1.heap.objs.size+1)],kw⟩) _ _;refine sbT M.eL ?_;rw[sbz M.pL _];show wpAny _ X.A.in1 (seqItems? (.ref (s1.heap.objs.size+1)) >>= _) _ _ _;refine saa (sbm hS2 rfl ?_);show wpAny _ X.A.in1 (tryCatch (pyNext (.ref s1.heap.objs.size)) _ >>= _) _ _ _
 cases ns with
 | nil=>
   refine saa (wpAny_tryCatch (wpAny_pyNext_list_end (s:={s1 with heap:=h2}) (A:=X.A.in1) (I1.ok.hd hc) hI2 hl2 (sbd (by simp at hil;simp[hil])) fun h' he=>?_));obtain rfl:=hn rfl;subst hk;refine saa (wpAny_rule (sac ?_));have k3:∀b o,s1.heap.get? b=some o→h'.get? b=some o:=fun b o e=>he b o (old b o e).2 (hk2 b o e);exact⟨.non,H1,I1.kept (t':=s1.toks) k3,rfl,q⟩
 | cons n0 nr=>
   have hx:its.toArray[0]?=some (its[0]'(by rw[hil];simp)):=by simp[hil]
   obtain⟨t,et⟩:=int_at hi (i:=0) (v:=its[0]'(by rw[hil];simp)) (sad _);refine saa (wpAny_tryCatch (wpAny_pyNext_list_item (s:={s1 with heap:=h2}) (A:=X.A.in1) hI2 hl2 hx fun h' hit' hs'=>?_));rw[et];have hs2:Heap.SameBut s1.heap.objs.size h2 h':=hs';have hS3:=hs2.extBut _ _ nSI hS2;show wpAny _ X.A.in1 (updateSeq (s1.heap.objs.size+1) (fun _=>#[_,_]) >>= _) _ _ _;refine saa ?_;refine sbU hS3 rfl ?_;rw[M.eq]
   refine sac ⟨scn M.pL _,Ol M (s:=s1) (h₁:=s1.heap) (A:=X.A) (I1.ok.hd hc) hi hil nlI nSI nSl _ (fun h'' tk'' t'' k b hb=>?_) nr.length 1 _ _ n0 t _ (by simp) (by lia) (by simp) (hit'.at fun o e=>(saL _ _ nSI).trans e)
    ((hl2.at fun o e=>hs2.extBut a o nlI e).at fun o e=>(saL _ _ nSl).trans e) (by simp) (fun b o d1 d2 e=>(saL _ _ (scJ d1)).trans (hs2.extBut b o d2 (hk2 b o e))) (saV _ hS3 rfl)⟩
   have hp:=Qn hb;rw[hp]at q;exact⟨.int b,H1,I1.kept (t':=tk'') (fun b o e=>k b o (old b o e).1 (old b o e).2 e),⟨t'',rfl⟩,q⟩
theorem Pu {X:Cx}{p pos kp np:Pos}{kn:_}{e:Expr}{ta:TA}(M:MM nm ln op st lt)(hB:bootBuiltins (Str.ofString nm)=some (Value.builtin nm))(hc:X.calm=true)(ha:PA X [e] ta)(hm:X.mg (Str.ofString nm)=none)(hg:Gl X (Str.ofString nm))(hs:starEach [e] X.env=[(false,eval e X.env)]) :
 PE X (.Call (.Name (Str.ofString nm) p) [e] [⟨some (Str.ofString "default"),.Constant .none kn np,kp⟩] pos) (fun σ H Q=>ta σ H fun vs H1=>∃(a:Addr) (ns:List Int),vs=[.ref a]∧H1 a=some (.l (ns.map V.int))∧Q (Qt (bo st ns)) H1):=by
 intro pins s σ H Q I h;refine sbJ (u7 (hn:=M.n1) (hd:=M.n2) I hg hm hB (PyProof.Rows.callWith_kw (we (ha pos pins s σ H _ I h) fun us s1 ⟨vs,H1,I1,r1,q1⟩=>?_) (by rw[hs];rfl) (by rw[hs];rfl) rfl rfl));obtain⟨a,ns,rfl,hH,q⟩:=q1;obtain⟨u,rfl,r2⟩:=qf r1;cases(show u=.ref a from r2);show wpAny _ _ (evalAll [(do let v ← eval (.Constant .none kn np) X.env;standAt pos;pure v)]) _ _ _;refine wpAny_evalAll_cons (saa (sac (saa (wpAny_standAt (sac (wpAny_evalAll_nil ?_))))));exact T_ M hc (d:=some .none) I1 hH (M.a2 _ _) rfl rfl (fun _=>rfl) q
@[simp] noncomputable def gM (st:Int→Int→Int):D→Out Val
  | .l ds=>match vS ds with
    | some ns=>.ok (.p (match bo st ns with
      |none=>.non
      |some b=>.int b))
    |none=>.bad
  |_=>.bad
theorem QS {X:Cx}{G₀ H₀:Hp}{p pos kp np:Pos}{kn:_}{e:Expr}{f:FE}(M:MM nm ln op st lt)(hB:bootBuiltins (Str.ofString nm)=some (Value.builtin nm))(he:DE X G₀ H₀ e f)(hm:X.mg (Str.ofString nm)=none)(hc:X.calm=true)(hg:Gl X (Str.ofString nm))(hs:starEach [e] X.env=[(false,eval e X.env)]) :
 DE X G₀ H₀ (.Call (.Name (Str.ofString nm) p) [e] [⟨some (Str.ofString "default"),.Constant .none kn np,kp⟩] pos) (f1 (gM st) f) :=
 (Pu M hB hc (yP he x4 hs) hm hg hs).imp fun σ H Q q=>by
  obtain⟨env,G,val,I,e,k⟩:=q;obtain⟨x,ex,e⟩:=zv e;refine uy I ex fun v G' H' g l I' o=>?_;unfold gM at e;split at e
  ·rename_i ds hd;rw[hd]at o;obtain⟨a,vs,rfl,h1,r1⟩:=v9.l I' o;split at e
   ·rename_i ns hn;cases e;rw[lD hn]at r1;rw[r1.ints_of]at h1;refine⟨a,ns,rfl,h1,k _ _ _ g l ?_⟩
    cases hx:bo st ns with
    |none=>rfl
    |some b=>rfl
   ·cases e
  ·cases e
end
theorem XM:bo uz=oE:=funext fun ns=>by cases ns <;> rfl
theorem XJ:bo vK=oD:=funext fun ns=>by cases ns <;> rfl
@[simp] noncomputable def XD:D→Out Val
  | .l ds=>match vS ds with
    | some ns=>.ok (.p (match oE ns with
      |none=>.non
      |some b=>.int b))
    |none=>.bad
  |_=>.bad
theorem RB {X:Cx}{G₀ H₀:Hp}{p pos kp np:Pos}{kn:_}{e:Expr}{f:FE}(he:DE X G₀ H₀ e f)(hm:X.mg "max" = none) (hc:X.calm=true:=by rfl) (hg:Gl X "max" :=by rfl) (hs:starEach [e] X.env=[(false,eval e X.env)]:=by rfl) :
 DE X G₀ H₀ (.Call (.Name "max" p) [e] [⟨some "default",.Constant .none kn np,kp⟩] pos) (f1 XD f):=by
 have h:gM uz=XD:=funext fun d=>by unfold gM XD;rw[XM]
 rw[←h];exact QS T6 boot_max he hm hc hg hs
@[simp] noncomputable def XC:D→Out Val
  | .l ds=>match vS ds with
    | some ns=>.ok (.p (match oD ns with
      |none=>.non
      |some b=>.int b))
    |none=>.bad
  |_=>.bad
theorem RA {X:Cx}{G₀ H₀:Hp}{p pos kp np:Pos}{kn:_}{e:Expr}{f:FE}(he:DE X G₀ H₀ e f)(hm:X.mg "min" = none) (hc:X.calm=true:=by rfl) (hg:Gl X "min" :=by rfl) (hs:starEach [e] X.env=[(false,eval e X.env)]:=by rfl) :
 DE X G₀ H₀ (.Call (.Name "min" p) [e] [⟨some "default",.Constant .none kn np,kp⟩] pos) (f1 XC f):=by
 have h:gM vK=XC:=funext fun d=>by unfold gM XC;rw[XJ]
 rw[←h];exact QS T5 boot_min he hm hc hg hs
noncomputable def fm:List D→Option (List Bool)
 |[]=>some []
 | .bl b::ds=>(fm ds).map (b :: ·)
 |_::_=>none
theorem bS:∀{ds:List D} {bs:List Bool},fm ds=some bs→ds=bs.map D.bl
 |[],bs,h=>by cases h;rfl
 | .bl b::ds,bs,h=>by
   simp only[fm,Option.map_eq_some_iff]at h;obtain⟨cs,h1,rfl⟩:=h;rw[bS h1];rfl
 | .non::ds,bs,h=>by cases h
 | .int _::ds,bs,h=>by cases h
 | .tup _::ds,bs,h=>by cases h
 | .l _::ds,bs,h=>by cases h
 | .scr _::ds,bs,h=>by cases h
 | .exc _ _::ds,bs,h=>by cases h
theorem X7 (bs:List Bool):fm (bs.map D.bl)=some bs:=by
 induction bs with
 |nil=>rfl
 |cons b bs ih=>simp[fm,ih]
theorem V4 {K:Frag}{G:Hp}:∀{bs:List Bool} {vs:List V},zM K G (bs.map D.bl) vs→vs=bs.map V.bl
 |[],vs,h=>h
 | b::bs,vs,h=>by
   obtain⟨v,us,rfl,h1,h2⟩:=h;rw[V4 h2,show v=.bl b from h1];rfl
theorem RK:∀{bs:List Bool} {us:List Value} {i:Nat} {v:Value},yt (bs.map V.bl) us→us[i]?=some v→v=.bool (bs.getD i false)
 | bs,us,i,v,r,e=>by
   have hl:=r.length;have hi:i<us.length:=(sak.mp e).1;have hb:i<bs.length:=by rw[sae]at hl;lia
   obtain⟨u,h1,h2⟩:=r.get (i:=i) (x:=.bl bs[i]) (by simp[hb]);rw[e]at h1;cases h1;simp only[List.getD,sad hb,Option.getD_some];exact h2
theorem X0 {X:Cx}(hc:X.calm=true):uI X (.builtin "any") (fun xs H Q=>∃(p:Addr) (bs:List Bool),xs=[.ref p]∧H p=some (.l (bs.map V.bl))∧Q (.bl (bs.any id)) H):=by
 intro pins s σ H xs us Q I r h;obtain⟨p,bs,rfl,hp,q⟩:=h;obtain⟨u,rfl,r1⟩:=qf r;cases(show u=.ref p from r1);obtain⟨z,its,n,rv,hlen,e⟩:=I.lstM hp;have hil:its.length=bs.length:=by rw[←hlen,sae]
 have hl:s.heap.IsList p its.toArray:=⟨_,e,rfl,_,rfl⟩
 have hpl:=sai e;refine call_any_walkS (sch hl ?_);have hne:p≠s.heap.objs.size:=saA hpl;have W:=(Walks.list (prog:=X.prog) (w:=X.w) (A:=X.A.in1) (by simp[I.ok.hd hc]) s.heap.objs.size p hne its.toArray).toS;refine⟨s.heap.objs.size,_,_,_,_,_,_,fun i=>bs.getD i false,rfl,W,⟨⟨_,saq _ rfl,rfl,rfl⟩,hl.push _⟩,fun i v s' Q' E' hv hq=>?_,fun s' hm=>?_⟩
 ·have e1:v=.bool (bs.getD i false):=RK rv (show its[i]?=some v by simpa using hv);rw[e1];exact scg hq
 ·have hk:∀b o,s.heap.get? b=some o→s'.heap.get? b=some o:=fun b o eb=>
   hm.heap b o (fun hI=>absurd (sai eb) (by rw[sag.mp hI];exact sbQ _)) (sab _ eb)
  rw[Moved.eq_with hm];refine⟨.bl (bs.any id),H,I.kept hk,?_,q⟩
  have:(List.range its.toArray.size).any (fun i=>bs.getD i false)=bs.any id:=by
   rw[List.size_toArray,hil,sbV,sbe,sbe];constructor
   ·rintro⟨i,hi,h⟩;have hi':i<bs.length:=sbb.mp hi;exact⟨bs[i],scq _,by simpa[hi']using h⟩
   ·rintro⟨b,hb,h⟩;obtain⟨i,hi,rfl⟩:=List.mem_iff_getElem.mp hb;exact⟨i,sbb.mpr hi,by simpa[hi]using h⟩
  rw[this];exact rfl
@[simp] noncomputable def VI:List D→Out Val
  | [.l ds]=>match fm ds with
    |some bs=>.ok (.p (.bl (bs.any id)))
    |none=>.bad
  |_=>.bad
theorem RH {K:Frag}:q8 K (fun xs H Q=>∃(p:Addr) (bs:List Bool),xs=[.ref p]∧H p=some (.l (bs.map V.bl))∧Q (.bl (bs.any id)) H) VI:=by
 intro G₀ H₀ env σ G H vs xs val Q I a e k;unfold VI at e;split at e
 ·rename_i ds hx;split at e
  ·rename_i bs hn;cases e;obtain⟨v,rfl,o⟩:=mj a hx;obtain⟨p,us,rfl,h1,r1⟩:=v9.l I o;rw[bS hn]at r1;rw[V4 r1]at h1;exact⟨p,bs,rfl,h1,k _ G H (Gw.refl _ _) I.le rfl⟩
  ·cases e
 ·cases e
section
variable {X:Cx}{G₀ H₀:Hp}{elt iter tg:Expr}{ifs:List Expr}{scope:Scope}{pos:Pos}{fi:FI}{g:D→Ev→Out Ev}{ft:FT}{fe:FE}{cap:List Nat}{own:List Str}
theorem kM {i:Nat}{x:Str}{pos' spos:Pos}(fz:Bool)(hN:X.N.Nodup)(C:CompOk X scope cap own)(hi:Sf X G₀ H₀ tg iter fi)
 (hg:∀ex s H,DG (x9 X (tN X cap own) scope ex s H) G₀ H₀ tg g) (hgc:Ud g) (ht:∀ex s H,Q4 (x9 X (tN X cap own) scope ex s H) G₀ H₀ ifs ft) (he:∀ex s H,DE (x9 X (tN X cap own) scope ex s H) G₀ H₀ elt fe)
 (hc:X.calm=true:=by rfl) (hs:∀x,foldedSetIterable iter X.env x=pure x:=by intro _;rfl) (hix:X.N[i]?=some x:=by rfl) (hx:Se X.env.scope x:=by first|exact Or.inl rfl|exact Or.inr rfl)
 (hsw:swapsWith (.ListComp elt [⟨tg,iter,ifs,0⟩] scope pos) (some (.Name x pos')) spos.line X.env=pure true:=by rfl) (hf:X.fn x=true∨X.env.scope.names.lookup x=some .local:=by first|exact .inl rfl|exact .inr rfl) :
 DS X G₀ H₀ (.Assign [.Name x pos'] (.ListComp elt [⟨tg,iter,ifs,0⟩] scope pos) spos) (zS i fz (xA cap own.length fi g ft fe)):=by
 intro pins s σ H D I q;obtain⟨env,G,val,D0,e,k⟩:=i0 q;obtain⟨ds,e1,e⟩:=zv e;split at e
 rotate_left
 ·cases e
 rename_i hz;obtain⟨out,e2,e⟩:=zv e;cases e;rw[exec_Assign_Name_used _ _ _ _ hsw];refine saa (wpAny_standAt (saa ?_));show wpAny _ X.A (do let _ ← comprehension (.ListComp elt [⟨tg,iter,ifs,0⟩] scope pos) scope X.env _ (newList []) false (eval iter X.env) (some (assign (.Name x pos') X.env))) _ _ s;refine saa (scE (wpAny_comprehension_free (use:=some (assign (.Name x pos') X.env)) (Q:=fun _ s'=>SP X pins D .next s') (cl:=x_ X.env.cells scope.names []) rfl hs (p_ (C.cells I)) C.kind C.locals ?_) (fun _ s' hq=>sac (sac hq)) fun _ _ e=>e);refine we (hi pins s σ H (fun J H2=>∃G2,Gw G H G2 H2∧zV G2 H2∧JOk X.K J G2 ds) I ⟨env,G,ds,D0,e1,fun J G2 H2 g2 l2 jok=>⟨G2,g2,l2,jok⟩⟩) fun v s1 h1=>we h1 fun itv s2 h2=>?_;obtain⟨it,fp,tn,J,H2,rfl,I2,T,st2,f2,G2,g2,l2,jok⟩:=h2;refine j6 (RR:=fun acc C=>compPost (model X.prog X.w) X.A X.xe (some (assign (.Name x pos') X.env)) (fun _ s'=>SP X pins D .next s') acc C) C hc hg hgc ht he I2 (D0.grow g2 l2) T st2 f2 jok hz e2 fun L C' vs G' H' s' hC fD hD gD r gr l hm hI=>?_;obtain⟨m,hm⟩:=hm;have I':Inv X pins σ H' s':=hI s'.heap (Heap.SameBut.refl _ _);have fC:lI X pins H' C':=I2.fpOk hC.1 hC.2;show wpAny _ X.A (assign (.Name x pos') X.env (.ref L)) _ _ s';refine wpAny_assign_Name (iZ I' hN hix hx (v:=.ref L) rfl (fun s3 I3 ⟨a,sb,ha⟩=>?_) hf)
 have hne:C'≠a:=fun z=>by
  rcases ha with ha|ha
  ·exact fC.2.1 (z.trans ha)
  ·exact fC.2.2.2.2.1 x a ha z.symm
 refine⟨m,hm.sameBut sb hne,fun h' sb'=>?_⟩;have I4:Inv X pins (σ.set i (some (.ref L))) H' {s3 with heap:=h'}:=Inv.turnedF (fp:=[C']) (t':=s3.toks) I3 (fun b hb=>by rw[sag.mp hb];exact fC) fun b u hb e=>sb'.extBut b u (fun z=>hb (by simp[z])) e;exact⟨_,H',I4,k _ G' H' (g2.trans gr) l ⟨L,vs,rfl,g2.h.free fD,hD,gD,r⟩⟩
end
theorem UE:typeLookup (.type "list_reverseiterator") "__len__" = pure none:=by rw[typeLookup_type,builtinLookup_eq_fast];kernel_rfl
theorem Y_:typeLookup (.type "list_reverseiterator") "__length_hint__" = pure (some (.builtin "list_reverseiterator.__length_hint__")):=by rw[typeLookup_type,builtinLookup_eq_fast];kernel_rfl
section
variable {prog:Program}{w:World}{A:Around}{E:Value→Shared→Prop}{s:Shared}
theorem WI {r:Addr}(hT:s.TypeIs (.ref r) "list_reverseiterator") {Q:Bool→Shared→Prop} (h:Q false s):wpAny (model prog w) A (Builtin.List.listLengthHint (.ref r)) Q E s:=by
 unfold Builtin.List.listLengthHint;refine saa (wpAny_specialOf hT UE ?_);refine saa (wpAny_specialOf hT Y_ ?_);generalize hid:("list_reverseiterator.__length_hint__" : String)=id0
 wp_delta
 rw[show splitId id0=some ("list_reverseiterator","__length_hint__")from by subst hid;decide +kernel];subst hid;refine saa (wpAny_isInstance (T := "list_reverseiterator") (b:=true) hT (by rw[isSubtype_type];kernel_rfl) ?_);refine wpAny_ite_split (fun hab=>absurd hab (by decide)) (fun _=>?_);refine wpAny_ite_split (fun _=>?_) (fun hab=>absurd (by decide +kernel) hab);refine wpAny_ite_split (fun hab=>absurd hab (by decide)) (fun _=>?_);exact sac h
theorem ao {R:Result→Shared→Prop}{r l S:Addr}{its:Array Value}(hh:A.handled=none)(hn:its.size≤sizeLine)(hlr:l≠r)(hSr:S≠r)(hSl:S≠l)
 (hit:s.heap.IsRevIter r l ((its.size:Int) - 1)) (hl:s.heap.IsList l its) (res:Value) (c₀:Nat) (hS:s.heap.get? S=some {cls:=.type "list",data:=.seq #[] c₀ })
 (hR:∀s' acc c,(∀b o,b≠S→b≠r→s.heap.get? b=some o→s'.heap.get? b=some o)→s'={s with heap:=s'.heap,toks:=s'.toks}→s'.heap.get? S=some {cls:=.type "list",dict:=none,data:=.seq acc c,slots:=#[]}→acc.toList=its.toList.reverse→R (.ok (.ret res)) s') :
 wpAny (model prog w) A.in1 (Builtin.List.listExtendWith (.ref S) (.ref r) res)
  (fun fin s'=>match fin with| .done f=>R (.ok f) s'| .again c'=>c'.quiet=true∧codeAny (model prog w) A c' R s') (fun e s'=>R (.error e) s') s:=by
 have hT:s.TypeIs (.ref r) "list_reverseiterator" :=hit.typeIs;unfold Builtin.List.listExtendWith;refine saa (wpAny_typeOf (T := "list_reverseiterator") hT ?_);have a1:Builtin.List.listSameRef (.ref S) (.ref r)=false:=by simp[Builtin.List.listSameRef,hSr]
 have a2:(Value.type "list_reverseiterator" == Value.type "list")=false:=by decide
 have a3:(Value.type "list_reverseiterator" == Value.type "tuple")=false:=by decide
 simp only[a1,a2,a3,Bool.or_false,saH,if_false];refine saa (wpAny_pyIter_revIter hit ?_);refine saa (sbj (WI hT ?_));refine wpAny_ite_split (fun hab=>absurd hab (by decide +kernel)) (fun _=>?_);have W:=(Walks.listRev (prog:=prog) (w:=w) (A:=A.in1) (by simpa using hh) r l hlr its).toS;refine sac ⟨scn sbY _,codeAny_extend_loopS W hn S (by simp;exact⟨hSr,hSl⟩) res its.size 0 s #[] c₀ (Nat.sub_zero _) (saX _) ⟨saX _,by simpa using hit,hl⟩ hS (ItemsOf.nil _) fun s' acc c hm hS' hacc=>?_⟩;refine hR s' acc c (fun b o b1 b2 e=>hm.heap b o (by simp;exact⟨b1,b2⟩) e) (Moved.eq_with hm) hS' ?_;apply List.ext_getElem?;intro j;by_cases hj:j<its.size
 ·have h1:j<acc.size:=by rw[hacc.1];exact hj
  have:=hacc.2 j acc[j] (sar h1);rw[List.getElem?_reverse (by simpa using hj)];simp only[saG,Array.length_toList];rw[this,sar h1]
 ·have h1:¬j<acc.size:=by rw[hacc.1];exact hj
  rw[sbZ (by simp;lia),sbZ (by simp;lia)]
theorem WJ {Q:Value→Shared→Prop}{r l:Addr}{its:Array Value}(hh:A.handled=none)(hn:its.size≤sizeLine)(hlr:l≠r)(hit:s.heap.IsRevIter r l ((its.size:Int) - 1))(hl:s.heap.IsList l its)
 (hQ:∀h' tk acc c,(∀b o,b≠r→s.heap.get? b=some o→h'.get? b=some o)→h'.get? s.heap.objs.size=some {cls:=.type "list",dict:=none,data:=.seq acc c,slots:=#[]}→acc.toList=its.toList.reverse→Q (.ref s.heap.objs.size) {s with heap:=h',toks:=tk}) :
 wpAny (model prog w) A (call (.type "list") [.ref r]) Q E s:=by
 refine callType_codes (Q₁:=fun obj s₁=>obj=.ref s.heap.objs.size∧s₁={s with heap:=s.heap.push {cls:=.type "list",data:=.seq #[]}}) PySem.F.called_list (PySem.F.typeCall_list_1 _) PySem.F.entry_list_init
  (code_list_new _ ⟨rfl,rfl⟩) fun obj s₁ e=>?_
 obtain⟨rfl,rfl⟩:=e;have hS:(s.heap.push {cls:=.type "list",data:=.seq #[]}).get? s.heap.objs.size=some {cls:=.type "list",data:=.seq #[]}:=saq _ rfl;have hrl:r<s.heap.objs.size:=by obtain⟨_,e,_⟩:=hit;exact sai e
 have hll:l<s.heap.objs.size:=by obtain⟨_,e,_⟩:=hl;exact sai e
 refine⟨⟨_,hS,rfl⟩,PySem.F.args_list_init_2 _ _,?_⟩;show wpAny _ _ (do let was ← Builtin.List.listItems (.ref s.heap.objs.size);Builtin.List.listUpdate (.ref s.heap.objs.size) (fun _=>#[]);letGo was.toList.reverse;Builtin.List.listExtendWith (.ref s.heap.objs.size) (.ref r) .none) _ _ _;refine saa ?_;unfold Builtin.List.listItems;refine saa (sbm hS rfl (sac ?_));show wpAny _ _ (updateSeq s.heap.objs.size (fun _=>#[]) >>= fun _=>letGo (#[]:Array Value).toList.reverse >>= fun _=>Builtin.List.listExtendWith (.ref s.heap.objs.size) (.ref r) .none) _ _ _;refine saa (sbU hS rfl ?_);have e2:=saV (Obj.mapSeq (fun _=>(#[]:Array Value))) hS rfl;have up:∀b o,b≠s.heap.objs.size→s.heap.get? b=some o→((s.heap.push {cls:=.type "list",data:=.seq #[]}).update s.heap.objs.size (Obj.mapSeq (fun _=>(#[]:Array Value)))).get? b=some o:=fun b o hb e=>(saL _ _ (scJ hb)).trans (sab _ e);refine saa (sco ?_);refine ao (A:=A.in1) hh hn hlr (sbB hrl) (sbB hll) (hit.at fun o e=>up _ _ (saA hrl) e) (hl.at fun o e=>up _ _ (saA hll) e) .none _ e2 fun s' acc c k es hS' ha=>?_;refine⟨rfl,?_⟩;rw[es];exact hQ s'.heap s'.toks acc c (fun b o hb e=>k b o (saA (sai e)) hb (up b o (saA (sai e)) e)) hS' ha
end
theorem Wj {xs:List V}{us:List Value}(r:yt xs us):yt xs.reverse us.reverse:=by
 induction r with
 |nil=>exact .nil
 |cons h t ih=>rw[saO,saO];exact ih.append (.cons h .nil)
noncomputable def Ws (ta:TA):TE:=fun σ H Q=>ta σ H fun vs H1=>∃(a:Addr) (xs:List V),vs=[.ref a]∧H1 a=some (.l xs)∧∀l,H1 l=none→Q (.ref l) (yW H1 l (.l xs.reverse))
theorem aA {X:Cx}{p p2 pos pos2:Pos}{e1:Expr}{ta:TA}(hc:X.calm=true)(ha:PA X [e1] ta)(hml:X.mg "list" = none) (hmz:X.mg "reversed" = none) (hgl:Gl X "list" :=by rfl) (hgz:Gl X "reversed" :=by rfl)
 (hs:starEach [.Call (.Name "reversed" p2) [e1] [] pos2] X.env=[(false,eval (.Call (.Name "reversed" p2) [e1] [] pos2) X.env)]:=by rfl)
 (hs2:starEach [e1] X.env=[(false,eval e1 X.env)]:=by rfl) :
 PE X (.Call (.Name "list" p) [.Call (.Name "reversed" p2) [e1] [] pos2] [] pos) (Ws ta):=by
 intro pins s σ H Q I h;refine sbJ (u7 I hgl hml boot_list (saW ?_ (by rw[hs];rfl) rfl));rw[hs];refine Calls.spliced_cons (sbJ (u7 I hgz hmz boot_reversed (saW (we (ha pos2 pins s σ H _ I h) fun us s1 ⟨vs,H1,I1,r1,q1⟩=>?_) hs2 rfl)));obtain⟨a,xs,rfl,ea,q⟩:=q1;obtain⟨ua,rfl,ra⟩:=qf r1;cases(show ua=.ref a from ra);obtain⟨za,ia,na,va,la,ha1⟩:=I1.lstM ea
 have hl1:s1.heap.IsList a ia.toArray:=⟨_,ha1,rfl,_,rfl⟩
 have alt:=sai ha1;refine call_reversed_list hl1 ?_;refine Calls.spliced_nil ?_;have hne:a≠s1.heap.objs.size:=saA alt;refine WJ (its:=ia.toArray) (I1.ok.hd hc) (by simp;lia) hne ⟨_,saq _ rfl,rfl,rfl⟩ (hl1.push _) fun h' tk acc c k3 hS hacc=>?_;have hz:(s1.heap.push (revObj a ((ia.toArray.size:Int) - 1))).objs.size=s1.heap.objs.size+1:=saY ..;have hk:∀b o,s1.heap.get? b=some o→h'.get? b=some o:=fun b o e=>k3 b o (saA (sai e)) (sab _ e);have fr:H1 (s1.heap.objs.size+1)=none:=I1.hok.fresh (Nat.le_succ _)
 have hS2:h'.get? (s1.heap.objs.size+1)=some {cls:=.type "list",dict:=none,data:=.seq acc c,slots:=#[]}:=by
  have:=hS;rw[show(Shared.heap {s1 with heap:=s1.heap.push (revObj a ((ia.toArray.size:Int) - 1))}).objs.size=s1.heap.objs.size+1 from hz]at this;exact this
 show EP X pins σ Q (.ref (s1.heap.push (revObj a ((ia.toArray.size:Int) - 1))).objs.size) _;rw[hz];refine⟨.ref (s1.heap.objs.size+1),yW H1 (s1.heap.objs.size+1) (.l xs.reverse),?_,rfl,q _ fr⟩;show Inv X pins σ _ {s1 with heap:=h',toks:=tk};refine I1.laid (a:=s1.heap.objs.size+1) (o:=.l xs.reverse) (t':=tk) hk (Nat.le_succ _) ⟨by rw[sbk];exact za,ia.reverse,c,Wj va,?_⟩
 have:acc=ia.reverse.toArray:=by
  apply Array.ext';rw[hacc]
 rw[←this];exact hS2
@[simp] noncomputable def Yp:D→Out Val
  | .l ds=>.ok (.fresh ds.reverse)
  |_=>.bad
theorem jW {X:Cx}{G₀ H₀:Hp}{p p2 pos pos2:Pos}{e1:Expr}{f:FE}(h1:DE X G₀ H₀ e1 f)(hml:X.mg "list" = none) (hmz:X.mg "reversed" = none) (hc:X.calm=true:=by rfl) (hgl:Gl X "list" :=by rfl) (hgz:Gl X "reversed" :=by rfl)
 (hs:starEach [.Call (.Name "reversed" p2) [e1] [] pos2] X.env=[(false,eval (.Call (.Name "reversed" p2) [e1] [] pos2) X.env)]:=by rfl)
 (hs2:starEach [e1] X.env=[(false,eval e1 X.env)]:=by rfl) :
 DE X G₀ H₀ (.Call (.Name "list" p) [.Call (.Name "reversed" p2) [e1] [] pos2] [] pos) (f1 Yp f) :=
 (aA hc (yP h1 x4 hs2) hml hmz hgl hgz hs hs2).imp fun σ H Q q=>by
  obtain⟨env,G,val,I,e,k⟩:=q;obtain⟨x,ex,e⟩:=zv e;refine uy I ex fun v G' H' g l I' o=>?_;unfold Yp at e;split at e
  ·rename_i ds hd;cases e;rw[hd]at o;obtain⟨a,xs,rfl,ha,ra⟩:=v9.l I' o;refine⟨a,xs,rfl,ha,fun p hp=>?_⟩;have g1:=Gw.laidL (o:=.l xs.reverse) l hp;exact k _ _ _ (g.trans g1.1) g1.2 ⟨p,xs.reverse,rfl,nM g.h hp,zU,l.free hp,ra.reverse⟩
  ·cases e
theorem YJ {nm ln:String}{op:CmpOp}{st:Int→Int→Int}{lt:Int→Int→Bool}{X:Cx}(M:MM nm ln op st lt)(hc:X.calm=true):uI X (.builtin nm) (fun xs H Q=>∃(a:Addr) (n0:Int) (nr:List Int),xs=[.ref a]∧H a=some (.l ((n0::nr).map V.int))∧Q (.int (nr.foldl st n0)) H):=by
 intro pins s1 σ H1 xs us Q I1 r1 h;obtain⟨a,n0,nr,rfl,hH,q⟩:=h;obtain⟨u,rfl,r2⟩:=qf r1;cases(show u=.ref a from r2);exact T_ M hc (d:=none) I1 hH (M.a1 _) rfl rfl (fun z=>nomatch z) q
@[simp] noncomputable def PY (st:Int→Int→Int):List D→Out Val
  | [.l ds]=>match vS ds with
    |some (n::ns)=>.ok (.p (.int (ns.foldl st n)))
    |_=>.bad
  |_=>.bad
theorem T9 {st:Int→Int→Int}{K:Frag}:q8 K (fun xs H Q=>∃(a:Addr) (n0:Int) (nr:List Int),xs=[.ref a]∧H a=some (.l ((n0::nr).map V.int))∧Q (.int (nr.foldl st n0)) H) (PY st):=by
 intro G₀ H₀ env σ G H vs xs val Q I a e k;unfold PY at e;split at e
 ·rename_i ds hx;split at e
  ·rename_i n ns hn;cases e;obtain⟨v,rfl,o⟩:=mj a hx;obtain⟨p,us,rfl,h1,r1⟩:=v9.l I o;rw[lD hn]at r1;rw[r1.ints_of]at h1;exact⟨p,n,ns,rfl,h1,k _ G H (Gw.refl _ _) I.le rfl⟩
  ·cases e
 ·cases e
theorem gY {X:Cx}(hc:X.calm=true):uI X (.builtin "max") (fun xs H Q=>∃(a:Addr) (n0:Int) (nr:List Int),xs=[.ref a]∧H a=some (.l ((n0::nr).map V.int))∧Q (.int (nr.foldl uz n0)) H):=YJ T6 hc
@[simp] noncomputable def Yr:List D→Out Val
  | [.l ds]=>match vS ds with
    |some (n::ns)=>.ok (.p (.int (ns.foldl uz n)))
    |_=>.bad
  |_=>.bad
theorem YI {K:Frag}:q8 K (fun xs H Q=>∃(a:Addr) (n0:Int) (nr:List Int),xs=[.ref a]∧H a=some (.l ((n0::nr).map V.int))∧Q (.int (nr.foldl uz n0)) H) Yr:=T9
theorem gX {X:Cx}(hc:X.calm=true):uI X (.builtin "min") (fun xs H Q=>∃(a:Addr) (n0:Int) (nr:List Int),xs=[.ref a]∧H a=some (.l ((n0::nr).map V.int))∧Q (.int (nr.foldl vK n0)) H):=YJ T5 hc
@[simp] noncomputable def Yq:List D→Out Val
  | [.l ds]=>match vS ds with
    |some (n::ns)=>.ok (.p (.int (ns.foldl vK n)))
    |_=>.bad
  |_=>.bad
theorem YH {K:Frag}:q8 K (fun xs H Q=>∃(a:Addr) (n0:Int) (nr:List Int),xs=[.ref a]∧H a=some (.l ((n0::nr).map V.int))∧Q (.int (nr.foldl vK n0)) H) Yq:=T9
structure Fly (P:Program)(w:World)(outer:List Env)(H H':Hp)(s s':Shared)(e:Addr)(cls:Value):Prop where
 os:s'.os=s.os
 bare:AllBare s'.gens
 same:zV H H'
 un:Un (Ys outer) [] H H' s.heap s'.heap
 hok:kd P w H' s'.heap
 fly:∃(B:Heap) (a0:Value),Heap.FlyingW B outer e cls a0 s'.heap∧(∀b o,s.heap.get? b=some o→H b=none→b∉Ys outer→B.get? b=some o)∧(∀b u o,H' b=some u→s'.heap.get? b=some o→B.get? b=some o)
section
variable {X:Cx}{pins:List (Addr×Obj)}{σ:St}{H H1:Hp}{s s1:Shared}{B h':Heap}{e:Addr}{cls a0:Value}
end
noncomputable abbrev SS:=Ev→St→Hp→Hp→Prop
noncomputable def PM (mk:Bool)(X:Cx)(pins:List (Addr×Obj))(S:SS)(c:Str):Prop :=
 (mk=true→∀(σ:St) (H G:Hp) (env:Ev) (s:Shared) (e:Addr) (h1:Heap) (vs:List Value) (C:Addr),Inv X pins σ H s→S env σ G H→X.mg c=some (.ref C)→Heap.MadeExcOf s.heap h1 e (.ref C) vs→X.xe (.ref e) {s with heap:=h1}) ∧
 (∀(σ:St) (H G H1 G1:Hp) (env:Ev) (s s1:Shared) (e C:Addr),Inv X pins σ H s→S env σ G H→X.mg c=some (.ref C)→Fly X.prog X.w X.stack H H1 s s1 e (.ref C)→Gw G H G1 H1→zV G1 H1→X.xe (.ref e) s1)
noncomputable abbrev RR:=Ev→Str→Prop
section
variable (mk:Bool)(X:Cx)(G₀ H₀:Hp)
noncomputable def RW (α:Type)(m:Sem α)(R:RR):Prop:=∀(pins:List (Addr×Obj)) (s:Shared) (σ:St) (H:Hp) (env:Ev) (G:Hp) (c:Str) (Q:α→Shared→Prop) (S:SS),Inv X pins σ H s→DI X.K G₀ H₀ env σ G H→R env c→(∀G' H',Gw G H G' H'→zV G' H'→S env σ G' H')→PM mk X pins S c→wpAny (model X.prog X.w) X.A m Q X.xe s
noncomputable def RE (e:Expr)(R:RR):Prop:=RW mk X G₀ H₀ Value (eval e X.env) R
end
section
variable {mk:Bool}{X:Cx}{G₀ H₀:Hp}{pos:Pos}{R:RR}
end
end DL
namespace DL
open PySem PySem.Spec PyProof.Rows L2 PySem.W PySem.Builtin PySem.Builtin.ObjectAttr PySem.Builtin.Getset_descriptor
section
variable {prog:Program}{w:World}{A:Around}{E:Value→Shared→Prop}{s:Shared}{K:Frag}{e C:Addr}
end
end DL
namespace DL
open PySem PySem.Spec PyProof.Rows L2
section
variable {X:Cx}{pins:List (Addr×Obj)}{σ:St}{H H1:Hp}{s s1:Shared}{B h':Heap}{e C:Addr}{cls a0:Value}
end
section
variable {X:Cx}{pins:List (Addr×Obj)}{σ:St}{H H1:Hp}{s s1:Shared}{e C:Addr}
end
section
variable {mk:Bool}{X:Cx}{G₀ H₀:Hp}{pos:Pos}{R:RR}
end
end DL
namespace DL
open PySem
section
variable {prog:Program}{w:World}{A:Around}{E:Value→Shared→Prop}{h:Heap}{g:Array GenState}{d:Drawn}{t:Nat}{os:OsState}
variable {nm q:Str}{C N:Addr}{bs bm bmB:List Value}{hdct:Bool}{sn:List Str}{sub:List Value}{ab:Bool}{col:Option Bool}{dd:Option Addr}{k0 k1 k2 k3 k5:Option Value}{B newId initId:String}
end
section
variable {prog:Program}{w:World}{A:Around}{E:Value→Shared→Prop}{s:Shared}{env:Env}
variable {nm q:Str}{C N:Addr}{bs bm bmB:List Value}{hdct:Bool}{sn:List Str}{sub:List Value}{ab:Bool}{col:Option Bool}{dd:Option Addr}{k0 k1 k2 k3 k5:Option Value}{B newId initId:String}
end
end DL
namespace DL
open PySem PySem.Spec PyProof.Rows L2 PySem.W PySem.Builtin PySem.Builtin.ObjectAttr
section
variable {prog:Program}{w:World}{A:Around}{E:Value→Shared→Prop}{s:Shared}{K:Frag}{e C t:Addr}{f:Str}{v:Value}
end
end DL
namespace DL
open PySem PySem.Spec PyProof.Rows L2
noncomputable abbrev Xc:=Str×Option Int
noncomputable abbrev RX:=Ev→Xc→Prop
section
variable {X:Cx}{pins:List (Addr×Obj)}{σ:St}{H H1:Hp}{s s1:Shared}{e C:Addr}{dq:Option Addr}{cls:Value}
end
section
variable (mk:Bool)(X:Cx)(G₀ H₀:Hp)
end
section
variable {mk:Bool}{X:Cx}{G₀ H₀:Hp}{pos:Pos}{R:RX}
end
section
variable {X:Cx}{o value:Expr}{f:Str}{pos pos':Pos}{ta tv:TE}
end
section
variable {X:Cx}{G₀ H₀:Hp}{pos:Pos}{pins:List (Addr×Obj)}{σ:St}{H:Hp}{s:Shared}{e C:Addr}
end
section
variable {X:Cx}{pins:List (Addr×Obj)}{σ:St}{H H1:Hp}{s s1:Shared}{e C:Addr}{dq:Option Addr}
end
noncomputable abbrev dM (h:Heap)(T:Addr)(a b c:Value):Prop:=h.get? T=some {cls:=.type "tuple",data:=.seq #[a,b,c]}
theorem nq {a b:Nat}(h:a≠b):@Ne Addr a b:=h
section
variable {prog:Program}{w:World}{A:Around}{E:Value→Shared→Prop}{s:Shared}
theorem nC {T:Addr}{a b c x:Value}{k:Nat}{Q:Unit→Shared→Prop}(hT:dM s.heap T a b c)
 (h:∀h',h'.get? T=some {cls:=.type "tuple",data:=.seq ((#[a,b,c]:Array Value).setIfInBounds k x)}→Heap.SameBut T s.heap h'→Q () {s with heap:=h'}) :
 wpAny (model prog w) A (updateSeq T (·.setIfInBounds k x)) Q E s:=by
 refine sbU hT rfl (h _ ?_ (Heap.SameBut.update ..));rw[saV _ hT rfl];simp[Obj.mapSeq]
structure Z3 (h:Heap)(m l1 l2 l3:Nat)(f:Value)(i:Nat):Prop where
 z:IsZip h (m+5) (m+3) (m+4) f
 ti:dM h (m+3) (.ref m) (.ref (m+1)) (.ref (m+2))
 to:∃a b c,dM h (m+4) a b c
 p1:h.IsListIter m l1 i
 p2:h.IsListIter (m+1) l2 i
 p3:h.IsListIter (m+2) l3 i
noncomputable def sZ (m:Nat):List Addr:=[m+5,m+4,m+3,m,m+1,m+2]
theorem Uq {m l1 l2 l3:Nat}{k:Nat}{xs ys zs:Array Value}{x y v:Value}{Q:Value→Shared→Prop}(st:Z3 s.heap m l1 l2 l3 .none k)(n1:l1<m)(n2:l2<m)(n3:l3<m)
 (hl1:s.heap.IsList l1 xs) (hl2:s.heap.IsList l2 ys) (hl3:s.heap.IsList l3 zs) (hx:xs[k]?=some x) (hy:ys[k]?=some y) (hv:zs[k]?=some v)
 (hQ:∀h',Z3 h' m l1 l2 l3 (rawInt s.heap.objs.size) (k+1)→dM h' s.heap.objs.size x y v→h'.objs.size=s.heap.objs.size+1 →
  (∀c o,c∉sZ m→s.heap.get? c=some o→h'.get? c=some o)→Q (.ref s.heap.objs.size) {s with heap:=h'}) :
 wpAny (model prog w) A (Builtin.«zip.__next__» ⟨[.ref (m+5)],[]⟩) (fun fin s'=>∃v,fin=.done (.ret v)∧Q v s') E s:=by
 obtain⟨hz,hTI,⟨a,b,c,hTO⟩,h1,h2,h3⟩:=st;show wpAny _ _ (field (.ref (m+5)) 2 >>= _) _ _ _;refine saa (sbu hz rfl (x:=.bool false) rfl ?_);show wpAny _ _ (field (.ref (m+5)) 3 >>= _) _ _ _;refine saa (sbu hz rfl (x:=.ref (m+3)) rfl ?_);refine saa (sbm hTI rfl ?_);show wpAny _ _ (Builtin.SmallTypes.ownedTupleIsFree (.ref (m+5)) >>= _) _ _ _;refine saa ?_;unfold Builtin.SmallTypes.ownedTupleIsFree;refine saa (sbu hz rfl (x:=.none) rfl (sac ?_));simp only[if_true];refine saa (wpAny_rule ?_);refine saa (sbu hz rfl (x:=.ref (m+4)) rfl ?_);refine saa (scv hz (by simp) fun ha za sa=>?_)
 replace za:IsZip ha (m+5) (m+3) (m+4) .ellipsis:=za
 refine saa ?_;simp only[List.zipIdx_cons,List.zipIdx_nil,List.forIn_cons,List.forIn_nil];refine saa (saa (scQ ?_));show wpAny _ _ (Builtin.SmallTypes.nextOf (.ref m) >>= _) _ _ _;refine saa (sbt (h1.extBut sa.extBut (nq (by lia))) (hl1.extBut sa.extBut (nq (by lia))) hx fun hb ib sb=>sac ?_);have tb:dM hb (m+4) a b c:=sb.extBut _ _ (nq (by lia)) (sa.extBut _ _ (nq (by lia)) hTO);refine saa (sbm tb rfl ?_);refine saa (nC tb fun hc tc sc=>?_)
 replace tc:dM hc (m+4) x b c:=tc
 refine saa (sco (sac ?_))
 have k1:∀u o,u∉sZ m→s.heap.get? u=some o→hc.get? u=some o:=fun u o hu e=>by
  simp only[sZ,saj,sbN,or_false,not_or]at hu;exact sc.extBut _ _ hu.2.1 (sb.extBut _ _ hu.2.2.2.1 (sa.extBut _ _ hu.1 e))
 have j2:hc.IsListIter (m+1) l2 k:=((h2.extBut sa.extBut (nq (by lia))).extBut sb.extBut (nq (by lia))).extBut sc.extBut (nq (by lia));have j3:hc.IsListIter (m+2) l3 k:=((h3.extBut sa.extBut (nq (by lia))).extBut sb.extBut (nq (by lia))).extBut sc.extBut (nq (by lia));have L2:hc.IsList l2 ys:=((hl2.extBut sa.extBut (nq (by lia))).extBut sb.extBut (nq (by lia))).extBut sc.extBut (nq (by lia));have L3:hc.IsList l3 zs:=((hl3.extBut sa.extBut (nq (by lia))).extBut sb.extBut (nq (by lia))).extBut sc.extBut (nq (by lia));have zc:IsZip hc (m+5) (m+3) (m+4) .ellipsis:=sc.extBut _ _ (nq (by lia)) (sb.extBut _ _ (nq (by lia)) za);have uc:dM hc (m+3) (.ref m) (.ref (m+1)) (.ref (m+2)):=sc.extBut _ _ (nq (by lia)) (sb.extBut _ _ (nq (by lia)) (sa.extBut _ _ (nq (by lia)) hTI));have ic:hc.IsListIter m l1 (k+1):=ib.extBut sc.extBut (nq (by lia));have zsz:hc.objs.size=s.heap.objs.size:=by rw[sc.1,sb.1,sa.1]
 clear sa sb sc tb ib za hTO h1 h2 h3;refine saa (saa (scQ ?_));show wpAny _ _ (Builtin.SmallTypes.nextOf (.ref (m+1)) >>= _) _ _ _;refine saa (sbt j2 L2 hy fun hd id sd=>sac ?_);have td:dM hd (m+4) x b c:=sd.extBut _ _ (nq (by lia)) tc;refine saa (sbm td rfl ?_);refine saa (nC td fun he te se=>?_)
 replace te:dM he (m+4) x y c:=te
 refine saa (sco (sac ?_))
 have k2:∀u o,u∉sZ m→s.heap.get? u=some o→he.get? u=some o:=fun u o hu e=>by
  have e:=k1 u o hu e;simp only[sZ,saj,sbN,or_false,not_or]at hu;exact se.extBut _ _ hu.2.1 (sd.extBut _ _ hu.2.2.2.2.1 e)
 have q3:he.IsListIter (m+2) l3 k:=(j3.extBut sd.extBut (nq (by lia))).extBut se.extBut (nq (by lia));have M3:he.IsList l3 zs:=(L3.extBut sd.extBut (nq (by lia))).extBut se.extBut (nq (by lia));have ze:IsZip he (m+5) (m+3) (m+4) .ellipsis:=se.extBut _ _ (nq (by lia)) (sd.extBut _ _ (nq (by lia)) zc);have ue:dM he (m+3) (.ref m) (.ref (m+1)) (.ref (m+2)):=se.extBut _ _ (nq (by lia)) (sd.extBut _ _ (nq (by lia)) uc);have ie:he.IsListIter m l1 (k+1):=(ic.extBut sd.extBut (nq (by lia))).extBut se.extBut (nq (by lia));have je:he.IsListIter (m+1) l2 (k+1):=id.extBut se.extBut (nq (by lia));have zsz2:he.objs.size=s.heap.objs.size:=by rw[se.1,sd.1];exact zsz
 clear sd se td id zc uc ic tc j2 j3 L2 L3 zsz;refine saa (saa (scQ ?_));show wpAny _ _ (Builtin.SmallTypes.nextOf (.ref (m+2)) >>= _) _ _ _;refine saa (sbt q3 M3 hv fun hf jf sf=>sac ?_);have tf:dM hf (m+4) x y c:=sf.extBut _ _ (nq (by lia)) te;refine saa (sbm tf rfl ?_);refine saa (nC tf fun hg tg sg=>?_)
 replace tg:dM hg (m+4) x y v:=tg
 refine saa (sco (sac (sac ?_)))
 have k3:∀u o,u∉sZ m→s.heap.get? u=some o→hg.get? u=some o:=fun u o hu e=>by
  have e:=k2 u o hu e;simp only[sZ,saj,sbN,or_false,not_or]at hu;exact sg.extBut _ _ hu.2.1 (sf.extBut _ _ hu.2.2.2.2.2 e)
 have zg:IsZip hg (m+5) (m+3) (m+4) .ellipsis:=sg.extBut _ _ (nq (by lia)) (sf.extBut _ _ (nq (by lia)) ze);have ug:dM hg (m+3) (.ref m) (.ref (m+1)) (.ref (m+2)):=sg.extBut _ _ (nq (by lia)) (sf.extBut _ _ (nq (by lia)) ue);have ig:hg.IsListIter m l1 (k+1):=(ie.extBut sf.extBut (nq (by lia))).extBut sg.extBut (nq (by lia));have jg:hg.IsListIter (m+1) l2 (k+1):=(je.extBut sf.extBut (nq (by lia))).extBut sg.extBut (nq (by lia));have qg:hg.IsListIter (m+2) l3 (k+1):=jf.extBut sg.extBut (nq (by lia));have hsz:hg.objs.size=s.heap.objs.size:=by rw[sg.1,sf.1];exact zsz2
 refine saa (sbm tg rfl ?_);refine saa (wpAny_newTuple ?_);have lt:m+5<hg.objs.size:=sai zg;show wpAny _ _ (Builtin.SmallTypes.ownedTupleHandOut (.ref (m+5)) (.ref hg.objs.size) >>= _) _ _ _;refine saa ?_;unfold Builtin.SmallTypes.ownedTupleHandOut;have zp:IsZip (hg.push {cls:=.type "tuple",data:=.seq #[x,y,v]}) (m+5) (m+3) (m+4) .ellipsis:=sab _ zg;refine saa (scv zp (by simp) fun hr zr sr=>?_)
 replace zr:IsZip hr (m+5) (m+3) (m+4) (rawInt hg.objs.size):=zr
 refine scv zr (by simp) fun ht zt st=>?_
 replace zt:IsZip ht (m+5) (m+3) (m+4) (rawInt hg.objs.size):=zt
 have up:∀u o,u≠m+5→hg.get? u=some o→ht.get? u=some o:=fun u o hu e=>st.extBut _ _ hu (sr.extBut _ _ hu (sab _ e));have nt:dM ht hg.objs.size x y v:=st.extBut _ _ (sbB lt) (sr.extBut _ _ (sbB lt) (saq _ rfl));have tsz:ht.objs.size=hg.objs.size+1:=by rw[st.1,sr.1,saY]
 rw[hsz]at zt nt tsz;refine sac ⟨_,rfl,?_⟩;show Q (.ref hg.objs.size) _;rw[hsz];refine hQ ht ⟨zt,up _ _ (nq (by lia)) ug,⟨x,y,v,up _ _ (nq (by lia)) tg⟩,ig.at fun o e=>up _ o (nq (by lia)) e,jg.at fun o e=>up _ o (nq (by lia)) e,qg.at fun o e=>up _ o (nq (by lia)) e⟩ nt tsz fun u o hu e=>up u o (fun q=>hu (by simp[sZ,q])) (k3 u o hu e)
theorem Sg {m l1 l2 l3:Nat}{k:Nat}{xs ys zs:Array Value}{Q:Fin→Shared→Prop}(hh:A.handled=none)(st:Z3 s.heap m l1 l2 l3 .none k)(n1:l1<m)(n2:l2<m)(n3:l3<m)
 (hl1:s.heap.IsList l1 xs) (hl2:s.heap.IsList l2 ys) (hl3:s.heap.IsList l3 zs) (hend:xs[k]?=none∨ys[k]?=none∨zs[k]?=none)
 (hE:∀h' e,(∀c o,c∉sZ m→s.heap.get? c=some o→h'.get? c=some o)→(∃o,h'.get? e=some o∧o.cls=.type "StopIteration")→E (.ref e) {s with heap:=h'}) :
 wpAny (model prog w) A (Builtin.«zip.__next__» ⟨[.ref (m+5)],[]⟩) Q E s:=by
 obtain⟨hz,hTI,⟨a,b,c,hTO⟩,h1,h2,h3⟩:=st
 have stop:∀(hp:Heap) (e:Addr) (k0:∀u o,u∉sZ m→s.heap.get? u=some o→hp.get? u=some o) (ze:IsZip hp (m+5) (m+3) (m+4) .ellipsis) (oe:Obj) (hoe:hp.get? e=some oe) (hce:oe.cls=.type "StopIteration") (Q':Unit→Shared→Prop) (hq:∀h',(∀c o,c∉sZ m→s.heap.get? c=some o→h'.get? c=some o)→(∃o,h'.get? e=some o∧o.cls=.type "StopIteration")→Q' () {s with heap:=h'}),
  wpAny (model prog w) A (setField (.ref (m+5)) 0 .none) Q' E {s with heap:=hp}:=by
  intro hp e k0 ze oe hoe hce Q' hq;have hez:e≠m+5:=fun x=>by subst x;rw[ze]at hoe;cases hoe;simp at hce
  refine scv ze (by simp) fun hr _ sr=>hq hr (fun u o hu q=>?_) ⟨oe,sr.extBut _ _ hez hoe,hce⟩;refine sr.extBut _ _ (fun z=>hu (by simp[sZ,z])) (k0 u o hu q)
 show wpAny _ _ (field (.ref (m+5)) 2 >>= _) _ _ _;refine saa (sbu hz rfl (x:=.bool false) rfl ?_);show wpAny _ _ (field (.ref (m+5)) 3 >>= _) _ _ _;refine saa (sbu hz rfl (x:=.ref (m+3)) rfl ?_);refine saa (sbm hTI rfl ?_);show wpAny _ _ (Builtin.SmallTypes.ownedTupleIsFree (.ref (m+5)) >>= _) _ _ _;refine saa ?_;unfold Builtin.SmallTypes.ownedTupleIsFree;refine saa (sbu hz rfl (x:=.none) rfl (sac ?_));simp only[if_true];refine saa (wpAny_rule ?_);refine saa (sbu hz rfl (x:=.ref (m+4)) rfl ?_);refine saa (scv hz (by simp) fun ha za sa=>?_)
 replace za:IsZip ha (m+5) (m+3) (m+4) .ellipsis:=za
 refine saa ?_;simp only[List.zipIdx_cons,List.zipIdx_nil,List.forIn_cons,List.forIn_nil];refine saa (saa (scQ ?_));show wpAny _ _ (Builtin.SmallTypes.nextOf (.ref m) >>= _) _ _ _;have g1:ha.IsListIter m l1 k:=h1.extBut sa.extBut (nq (by lia));have gl:ha.IsList l1 xs:=hl1.extBut sa.extBut (nq (by lia));have ka:∀u o,u∉sZ m→s.heap.get? u=some o→ha.get? u=some o:=fun u o hu e=>sa.extBut _ _ (fun z=>hu (by simp[sZ,z])) e
 cases hx:xs[k]? with
 | none=>
   refine saa (scw hh g1 gl hx fun hb e sb ⟨oe,hoe,hce⟩=>?_);exact stop hb e (fun u o hu q=>sb _ _ (fun z=>hu (by simp[sZ,z])) (ka u o hu q)) (sb _ _ (nq (by lia)) za) oe hoe hce _ fun h' p q=>hE h' e p q
 | some x=>
   refine saa (sbt g1 gl hx fun hb ib sb=>sac ?_);have tb:dM hb (m+4) a b c:=sb.extBut _ _ (nq (by lia)) (sa.extBut _ _ (nq (by lia)) hTO);refine saa (sbm tb rfl ?_);refine saa (nC tb fun hc tc sc=>?_)
   replace tc:dM hc (m+4) x b c:=tc
   refine saa (sco (sac ?_));have kc:∀u o,u∉sZ m→s.heap.get? u=some o→hc.get? u=some o:=fun u o hu e=>sc.extBut _ _ (fun z=>hu (by simp[sZ,z])) (sb.extBut _ _ (fun z=>hu (by simp[sZ,z])) (ka u o hu e));have zc:IsZip hc (m+5) (m+3) (m+4) .ellipsis:=sc.extBut _ _ (nq (by lia)) (sb.extBut _ _ (nq (by lia)) za);have j2:hc.IsListIter (m+1) l2 k:=((h2.extBut sa.extBut (nq (by lia))).extBut sb.extBut (nq (by lia))).extBut sc.extBut (nq (by lia));have j3:hc.IsListIter (m+2) l3 k:=((h3.extBut sa.extBut (nq (by lia))).extBut sb.extBut (nq (by lia))).extBut sc.extBut (nq (by lia));have L2:hc.IsList l2 ys:=((hl2.extBut sa.extBut (nq (by lia))).extBut sb.extBut (nq (by lia))).extBut sc.extBut (nq (by lia));have L3:hc.IsList l3 zs:=((hl3.extBut sa.extBut (nq (by lia))).extBut sb.extBut (nq (by lia))).extBut sc.extBut (nq (by lia));refine saa (saa (scQ ?_));show wpAny _ _ (Builtin.SmallTypes.nextOf (.ref (m+1)) >>= _) _ _ _
   cases hy:ys[k]? with
   | none=>
     refine saa (scw hh j2 L2 hy fun hd e sd ⟨oe,hoe,hce⟩=>?_);exact stop hd e (fun u o hu q=>sd _ _ (fun z=>hu (by simp[sZ,z])) (kc u o hu q)) (sd _ _ (nq (by lia)) zc) oe hoe hce _ fun h' p q=>hE h' e p q
   | some y=>
     have hv:zs[k]?=none:=by
      rcases hend with h|h|h
      ·rw[hx]at h;cases h
      ·rw[hy]at h;cases h
      ·exact h
     refine saa (sbt j2 L2 hy fun hd id sd=>sac ?_);have td:dM hd (m+4) x b c:=sd.extBut _ _ (nq (by lia)) tc;refine saa (sbm td rfl ?_);refine saa (nC td fun he te se=>?_);refine saa (sco (sac ?_));have ke:∀u o,u∉sZ m→s.heap.get? u=some o→he.get? u=some o:=fun u o hu e=>se.extBut _ _ (fun z=>hu (by simp[sZ,z])) (sd.extBut _ _ (fun z=>hu (by simp[sZ,z])) (kc u o hu e));have ze:IsZip he (m+5) (m+3) (m+4) .ellipsis:=se.extBut _ _ (nq (by lia)) (sd.extBut _ _ (nq (by lia)) zc);refine saa (saa (scQ ?_));show wpAny _ _ (Builtin.SmallTypes.nextOf (.ref (m+2)) >>= _) _ _ _;refine saa (scw hh ((j3.extBut sd.extBut (nq (by lia))).extBut se.extBut (nq (by lia))) ((L3.extBut sd.extBut (nq (by lia))).extBut se.extBut (nq (by lia))) hv fun hf e sf ⟨oe,hoe,hce⟩=>?_);exact stop hf e (fun u o hu q=>sf _ _ (fun z=>hu (by simp[sZ,z])) (ke u o hu q)) (sf _ _ (nq (by lia)) ze) oe hoe hce _ fun h' p q=>hE h' e p q
end
section
variable {prog:Program}{w:World}{A:Around}{E:Value→Shared→Prop}{s:Shared}
theorem Uo {m l1 l2 l3:Nat}{k:Nat}{xs ys zs:Array Value}{x y v:Value}{Q:Option Value→Shared→Prop}(st:Z3 s.heap m l1 l2 l3 .none k)(n1:l1<m)(n2:l2<m)(n3:l3<m)
 (hl1:s.heap.IsList l1 xs) (hl2:s.heap.IsList l2 ys) (hl3:s.heap.IsList l3 zs) (hx:xs[k]?=some x) (hy:ys[k]?=some y) (hv:zs[k]?=some v)
 (hQ:∀h',Z3 h' m l1 l2 l3 (rawInt s.heap.objs.size) (k+1)→dM h' s.heap.objs.size x y v→h'.objs.size=s.heap.objs.size+1 →
  (∀c o,c∉sZ m→s.heap.get? c=some o→h'.get? c=some o)→Q (some (.ref s.heap.objs.size)) {s with heap:=h'}):wpAny (model prog w) A (pyNext (.ref (m+5))) Q E s:=by
 have hT:s.TypeIs (.ref (m+5)) "zip" :=⟨_,st.z,rfl⟩
 unfold pyNext;exact saa (wpAny_attempt (sci (name:=Str.ofString "__next__") hT sbv (scG sbv hT PySem.F.entry_zip_next (Uq st n1 n2 n3 hl1 hl2 hl3 hx hy hv fun h' a1 a2 a3 a4=>sac (hQ h' a1 a2 a3 a4)) (scH _))))
theorem Um {m l1 l2 l3:Nat}{k:Nat}{xs ys zs:Array Value}{Q:Option Value→Shared→Prop}(hh:A.handled=none)(st:Z3 s.heap m l1 l2 l3 .none k)(n1:l1<m)(n2:l2<m)(n3:l3<m)
 (hl1:s.heap.IsList l1 xs) (hl2:s.heap.IsList l2 ys) (hl3:s.heap.IsList l3 zs) (hend:xs[k]?=none∨ys[k]?=none∨zs[k]?=none)
 (hQ:∀h',(∀c o,c∉sZ m→s.heap.get? c=some o→h'.get? c=some o)→Q none {s with heap:=h'}):wpAny (model prog w) A (pyNext (.ref (m+5))) Q E s:=by
 have hT:s.TypeIs (.ref (m+5)) "zip" :=⟨_,st.z,rfl⟩
 unfold pyNext;refine saa (wpAny_attempt (sci (name:=Str.ofString "__next__") hT sbv (scG sbv hT PySem.F.entry_zip_next (Sg hh st n1 n2 n3 hl1 hl2 hl3 hend fun h' e hk he=>?_) (scH _))));obtain⟨o,ho,hc⟩:=he;refine saa (wpAny_isInstance (T := "StopIteration") (b:=true) ⟨o,ho,hc⟩ isSubtype_stop ?_);exact sac (hQ _ hk)
end
noncomputable def Pj (K:Frag)(l1 l2 l3:Addr):It :=
 ⟨fun i H=>∃xs ys zs x y z,xV K H l1 xs∧xV K H l2 ys∧xV K H l3 zs∧xs[i]?=some x∧ys[i]?=some y∧zs[i]?=some z,
  fun i H x H'=>∃T a b c,x=.ref T∧H T=none∧H'=yW H T (.tup [a,b,c])∧(∀xs,xV K H l1 xs→xs[i]?=some a)∧(∀xs,xV K H l2 xs→xs[i]?=some b)∧(∀xs,xV K H l3 xs→xs[i]?=some c),
  fun i H=>∃xs ys zs,xV K H l1 xs∧xV K H l2 ys∧xV K H l3 zs∧(xs.length≤i∨ys.length≤i∨zs.length≤i)⟩
theorem YV {P:Program}{w:World}{K:Frag}{elts:List Expr}{kk:Nat}{pos:Pos}{m l1 l2 l3:Nat}(n1:l1<m)(n2:l2<m)(n3:l3<m):Turn P w K (.Tuple elts kk pos) (Pj K l1 l2 l3) (sZ m) (m+5) (fun i h=>Z3 h m l1 l2 l3 .none i) where
 mem:=by simp[sZ]
 obj:=fun i h st b hb=>by
  obtain⟨hz,hTI,⟨a,b',c,hTO⟩,⟨o1,e1,c1,d1⟩,⟨o2,e2,c2,d2⟩,⟨o3,e3,c3,d3⟩⟩:=st;simp only[sZ,saj,sbN,or_false]at hb
  rcases hb with rfl|rfl|rfl|rfl|rfl|rfl
  ·exact⟨_,hz,fun v z=>by cases(show Data.fields _=Data.cell v from z)⟩
  ·exact⟨_,hTO,fun v z=>by cases(show Data.seq _ _=Data.cell v from z)⟩
  ·exact⟨_,hTI,fun v z=>by cases(show Data.seq _ _=Data.cell v from z)⟩
  ·exact⟨o1,e1,fun v z=>by rw[d1]at z;cases z⟩
  ·exact⟨o2,e2,fun v z=>by rw[d2]at z;cases z⟩
  ·exact⟨o3,e3,fun v z=>by rw[d3]at z;cases z⟩
 keep:=fun i h h' st k=>by
  obtain⟨hz,hTI,⟨a,b,c,hTO⟩,h1,h2,h3⟩:=st;exact⟨k _ (by simp[sZ]) _ hz,k _ (by simp[sZ]) _ hTI,⟨a,b,c,k _ (by simp[sZ]) _ hTO⟩,h1.at fun o x=>k _ (by simp[sZ]) o x,h2.at fun o x=>k _ (by simp[sZ]) o x,h3.at fun o x=>k _ (by simp[sZ]) o x⟩
 item:=by
  intro X hP hw hK hc i pins s σ H E I hf st hg;subst hP hw hK;obtain⟨xs,ys,zs,x,y,z,q1,q2,q3,hx,hy,hz⟩:=hg;obtain⟨is1,rv1,p1,_⟩:=I.list q1;obtain⟨is2,rv2,p2,_⟩:=I.list q2;obtain⟨is3,rv3,p3,_⟩:=I.list q3;obtain⟨u1,hu1,ru1⟩:=rv1.get hx;obtain⟨u2,hu2,ru2⟩:=rv2.get hy;obtain⟨u3,hu3,ru3⟩:=rv3.get hz;refine Uo st n1 n2 n3 p1.isList p2.isList p3.isList (by simpa using hu1) (by simpa using hu2) (by simpa using hu3) fun h' z' t' sz' k'=>?_;have hzlt:m+5<s.heap.objs.size:=sai st.z;refine⟨.ref s.heap.objs.size,rfl,wpAny_letOwnedTupleGo_zip z'.z fun h3 hz3 hs3=>?_⟩
  have hTw:s.heap.objs.size∉sZ m:=fun q=>by
   simp only[sZ,saj,sbN,or_false]at q;have q:s.heap.objs.size=m+5∨s.heap.objs.size=m+4∨s.heap.objs.size=m+3∨s.heap.objs.size=m∨s.heap.objs.size=m+1∨s.heap.objs.size=m+2:=q;lia
  have hne:∀{b:Addr},b∉sZ m→b≠m+5:=fun hb q=>hb (by simp[sZ,q]);have hkeep:∀b o,b∉sZ m→s.heap.get? b=some o→h3.get? b=some o:=fun b o hb eb=>hs3.extBut _ _ (hne hb) (k' b o hb eb)
  have hnew:vJ X.prog X.w (yW H s.heap.objs.size (.tup [x,y,z])) h3 s.heap.objs.size (.tup [x,y,z]):=⟨by show 3≤sizeLine;rw[sizeLine_eq];lia,[u1,u2,u3],.cons ru1 (.cons ru2 (.cons ru3 .nil)),_,hs3.extBut _ _ (hne hTw) t',rfl,_,rfl⟩
  have hHT:H s.heap.objs.size=none:=I.hok.fresh (Nat.le_refl _)
  have z4:Z3 h3 m l1 l2 l3 .none (i+1):=by
   obtain⟨_,b1,⟨a,b,c,b2⟩,b3,b4,b5⟩:=z';exact⟨hz3,hs3.extBut _ _ (nq (by lia)) b1,⟨a,b,c,hs3.extBut _ _ (nq (by lia)) b2⟩,b3.extBut hs3.extBut (nq (by lia)),b4.extBut hs3.extBut (nq (by lia)),b5.extBut hs3.extBut (nq (by lia))⟩
  refine⟨.ref s.heap.objs.size,_,Inv.turnedL (s:=s) (h':=h3) (t':=s.toks) I hf hkeep (Nat.le_refl _) hnew,rfl,⟨_,x,y,z,rfl,hHT,rfl,fun vs hv=>by rw[I.list_inj hv q1];exact hx,fun vs hv=>by rw[I.list_inj hv q2];exact hy,fun vs hv=>by rw[I.list_inj hv q3];exact hz⟩,z4,fun b hb=>?_⟩;have hbT:b≠s.heap.objs.size:=fun z=>by rw[z]at hb;exact hTw hb
  rw[zB hbT];exact(hf b hb).1
 done:=by
  intro X hP hw hK hc i pins s σ H E I hf st hg;subst hP hw hK;obtain⟨xs,ys,zs,q1,q2,q3,hend⟩:=hg;obtain⟨is1,rv1,p1,_⟩:=I.list q1;obtain⟨is2,rv2,p2,_⟩:=I.list q2;obtain⟨is3,rv3,p3,_⟩:=I.list q3;have e1:=rv1.length;have e2:=rv2.length;have e3:=rv3.length
  refine Um (I.ok.hd hc) st n1 n2 n3 p1.isList p2.isList p3.isList ?_ fun h' k'=>⟨rfl,Inv.turnedF (t':=s.toks) I hf k'⟩
  rcases hend with q|q|q
  ·exact .inl (sbd (by simp;lia))
  ·exact .inr (.inl (sbd (by simp;lia)))
  ·exact .inr (.inr (sbd (by simp;lia)))
 self:=fun _ _ _ _ _ st h=>wpAny_pyIter_zip st.z h
noncomputable def sF:List D→List D→List D→List D
 |a::x,b::y,c::z=>.tup [a,b,c]::sF x y z
 |_,_,_=>[]
theorem iT {a b c:D}:∀{x y z:List D} {i:Nat},x[i]?=some a→y[i]?=some b→z[i]?=some c→(sF x y z)[i]?=some (.tup [a,b,c])
 |[],_,_,_,h,_,_=>by simp at h
 |_::_,[],_,_,_,h,_=>by simp at h
 |_::_,_::_,[],_,_,_,h=>by simp at h
 | p::x,q::y,r::z,0,h1,h2,h3=>by
   simp at h1 h2 h3;rw[h1,h2,h3];rfl
 | p::x,q::y,r::z,i+1,h1,h2,h3=>by
   simp only[List.getElem?_cons_succ]at h1 h2 h3;simp only[sF,List.getElem?_cons_succ];exact iT h1 h2 h3
theorem mr:∀x y z:List D,(sF x y z).length=min x.length (min y.length z.length)
 |[],y,z=>by simp[sF]
 |p::x,[],z=>by simp[sF]
 |p::x,q::y,[]=>by simp[sF]
 | p::x,q::y,r::z=>by
   have:=mr x y z;simp only[sF,List.length_cons];lia
theorem Vy {K:Frag}{G:Hp}{a b c:Addr}{ds es fs:List D}{xs ys zs:List V}(ha:xV K G a xs)(hb:xV K G b ys)(hc:xV K G c zs)(ra:zM K G ds xs)(rb:zM K G es ys)(rc:zM K G fs zs):JOk K (Pj K a b c) G (sF ds es fs) where
 go:=fun i G' H' s l hi=>by
  rw[mr,ra.length,rb.length,rc.length]at hi;exact⟨xs,ys,zs,xs[i]'(by lia),ys[i]'(by lia),zs[i]'(by lia),l.seq (s.seq ha),l.seq (s.seq hb),l.seq (s.seq hc),sad _,sad _,sad _⟩
 stop:=fun i G' H' s l hi=>by
  rw[mr,ra.length,rb.length,rc.length]at hi;exact⟨xs,ys,zs,l.seq (s.seq ha),l.seq (s.seq hb),l.seq (s.seq hc),by lia⟩
 yld:=fun i G' H' x H1 s l hi y=>by
  obtain⟨T,p,q,r,rfl,hT,rfl,hp,hq,hr⟩:=y;obtain⟨d1,k1,j1⟩:=ra.get' (hp xs (l.seq (s.seq ha)));obtain⟨d2,k2,j2⟩:=rb.get' (hq ys (l.seq (s.seq hb)));obtain⟨d3,k3,j3⟩:=rc.get' (hr zs (l.seq (s.seq hc)));have g:=Gw.laidT (o:=.tup [p,q,r]) l hT;exact⟨.tup [d1,d2,d3],_,iT k1 k2 k3,g.1,g.2,T,_,rfl,zU,zM.cons ((j1.mono s).mono g.1.g) (zM.cons ((j2.mono s).mono g.1.g) (zM.cons ((j3.mono s).mono g.1.g) zM.nil))⟩
theorem Uu (a b c:Value):checkTypeCall "zip" ⟨[a,b,c],[]⟩=pure ():=by kernel_rfl
theorem UZ (a b c:Value):checkBuiltinCall "zip.__new__" ⟨[.type "zip",a,b,c],[]⟩=pure ():=by kernel_rfl
theorem UV (a b c d:Value):argsOk "object.__init__" ⟨[a,b,c,d],[]⟩:=by
 unfold argsOk;rw[signature?_of (id := "object.__init__") (n:=['_','_','t','i','n','i','_','_']) (o:=['t','c','e','j','b','o']) (by kernel_rfl) PySem.F.owner_object]
 kernel_rfl
noncomputable abbrev y1 (h:Heap)(l:Addr):Heap:=h.push {cls:=.type "list_iterator",data:=.fields #[.ref l,.int 0 0]}
noncomputable abbrev y3 (h:Heap)(a b c:Addr):Heap:=y1 (y1 (y1 h a) b) c
noncomputable abbrev y4 (h:Heap)(a b c:Addr):Heap:=(y3 h a b c).push {cls:=.type "tuple",data:=.seq #[.ref h.objs.size,.ref (y1 h a).objs.size,.ref (y1 (y1 h a) b).objs.size]}
noncomputable abbrev y5 (h:Heap)(a b c:Addr):Heap:=(y4 h a b c).push {cls:=.type "tuple",data:=.seq #[.none,.none,.none]}
noncomputable abbrev y6 (h:Heap)(a b c:Addr):Heap:=(y5 h a b c).push {cls:=.type "zip",data:=.fields #[.none,.bool false,.bool false,.ref (y3 h a b c).objs.size,.ref (y4 h a b c).objs.size]}
theorem Vd (a b c:Addr)(xs ys zs:Array Value) :
 Meets (Builtin.«zip.__new__» ⟨[.type "zip",.ref a,.ref b,.ref c],[]⟩) (fun _ R s=>s.heap.IsList a xs∧s.heap.IsList b ys∧s.heap.IsList c zs∧R (.ok (.ret (.ref (y5 s.heap a b c).objs.size))) {s with heap:=y6 s.heap a b c}) :=
 .of_wp fun prog w A R s h=>by
  obtain⟨hp,g,d,tk,os⟩:=s;obtain⟨hl1,hl2,hl3,h⟩:=h;have hsub:=sub_zip;have e1:Heap.IsList (Shared.heap ⟨hp,g,d,tk,os⟩) a xs:=hl1;have e2:Heap.IsList (Shared.heap ⟨y1 hp a,g,d,tk,os⟩) b ys:=Heap.IsList.push hl2 _;have e3:Heap.IsList (Shared.heap ⟨y1 (y1 hp a) b,g,d,tk,os⟩) c zs:=Heap.IsList.push (Heap.IsList.push hl3 _) _
  wp_walk using sch e1,sch e2,sch e3
  exact⟨_,rfl,h⟩
section
variable {prog:Program}{w:World}{A:Around}{E:Value→Shared→Prop}{s:Shared}
theorem XW {a b c:Addr}{xs ys zs:Array Value}{Q:Value→Shared→Prop}(hl1:s.heap.IsList a xs)(hl2:s.heap.IsList b ys)(hl3:s.heap.IsList c zs)
 (h:∀h',Z3 h' s.heap.objs.size a b c .none 0→(∀u o,s.heap.get? u=some o→h'.get? u=some o)→Q (.ref (s.heap.objs.size+5)) {s with heap:=h'}) :
 wpAny (model prog w) A (call (.type "zip") [.ref a,.ref b,.ref c]) Q E s:=by
 refine callType_new PySem.F.called_zip (by decide) (Uu _ _ _) (UZ _ _ _) (fun obj=>UV obj _ _ _) PySem.F.entry_zip_new (Vd a b c xs ys zs) ⟨hl1,hl2,hl3,?_⟩;have z1:(y1 s.heap a).objs.size=s.heap.objs.size+1:=saY ..;have z2:(y1 (y1 s.heap a) b).objs.size=s.heap.objs.size+2:=by rw[saY,z1]
 have z3:(y3 s.heap a b c).objs.size=s.heap.objs.size+3:=by rw[saY,z2]
 have z4:(y4 s.heap a b c).objs.size=s.heap.objs.size+4:=by rw[saY,z3]
 have z5:(y5 s.heap a b c).objs.size=s.heap.objs.size+5:=by rw[saY,z4]
 have g6:(y6 s.heap a b c).get? (y5 s.heap a b c).objs.size=some _:=saq _ rfl;have g5:(y6 s.heap a b c).get? (y4 s.heap a b c).objs.size=some _:=sab _ (saq _ rfl);have g4:(y6 s.heap a b c).get? (y3 s.heap a b c).objs.size=some _:=sab _ (sab _ (saq _ rfl));have g3:(y6 s.heap a b c).get? (y1 (y1 s.heap a) b).objs.size=some _:=sab _ (sab _ (sab _ (saq _ rfl)));have g2:(y6 s.heap a b c).get? (y1 s.heap a).objs.size=some _:=sab _ (sab _ (sab _ (sab _ (saq _ rfl))));have g1:(y6 s.heap a b c).get? s.heap.objs.size=some _:=sab _ (sab _ (sab _ (sab _ (sab _ (saq _ rfl)))));show _∧_;rw[z3,z4,z5]at g6;rw[z4]at g5;rw[z1,z2,z3]at g4;rw[z2]at g3;rw[z1]at g2;rw[z5];exact⟨⟨_,g6,rfl⟩,h _ ⟨g6,g4,⟨_,_,_,g5⟩,⟨_,g1,rfl,rfl⟩,⟨_,g2,rfl,rfl⟩,⟨_,g3,rfl,rfl⟩⟩ fun u o x=>sab _ (sab _ (sab _ (sab _ (sab _ (sab _ x)))))⟩
end
theorem R7 {x y z:V}{us:List Value}(r:yt [x,y,z] us):∃u v t,us=[u,v,t]∧xm x u∧xm y v∧xm z t:=by
 cases r with
 | cons r1 r2=>
   obtain⟨u,v,rfl,h1,h2⟩:=dR r2;exact⟨_,u,v,rfl,r1,h1,h2⟩
noncomputable def QD (K:Frag)(ta:TA):TI:=fun σ H R=>ta σ H fun vs H1=>∃a b c,vs=[.ref a,.ref b,.ref c]∧(∃xs,xV K H1 a xs)∧(∃xs,xV K H1 b xs)∧(∃xs,xV K H1 c xs)∧R (Pj K a b c) H1
theorem UO {X:Cx}{elts:List Expr}{kk:Nat}{pos p cpos:Pos}{e1 e2 e3:Expr}{ta:TA}(hm:X.mg "zip" = none) (ha:PA X [e1,e2,e3] ta) (hg:Gl X "zip" :=by rfl) (hs:starEach [e1,e2,e3] X.env=(false,eval e1 X.env)::starEach [e2,e3] X.env:=by rfl)
 (hs2:starEach [e2,e3] X.env=(false,eval e2 X.env)::starEach [e3] X.env:=by rfl) (hs3:starEach [e3] X.env=[(false,eval e3 X.env)]:=by rfl):PI X (.Tuple elts kk pos) (.Call (.Name "zip" p) [e1,e2,e3] [] cpos) (QD X.K ta):=by
 intro pins s σ H R I h;refine Call_ (u7 I hg hm boot_zip (saW (we (ha cpos pins s σ H _ I h) fun us s1 ⟨vs,H1,I1,r1,q1⟩=>?_) hs (by rw[hs2,hs3];rfl)));obtain⟨a,b,c,rfl,⟨xs,qa⟩,⟨ys,qb⟩,⟨zs,qc⟩,q⟩:=q1;obtain⟨u,v,t,rfl,ra,rb,rc⟩:=R7 r1;cases(show u=.ref a from ra);cases(show v=.ref b from rb);cases(show t=.ref c from rc);obtain⟨is1,_,p1,_⟩:=I1.list qa;obtain⟨is2,_,p2,_⟩:=I1.list qb;obtain⟨is3,_,p3,_⟩:=I1.list qc;have lt1:a<s1.heap.objs.size:=by obtain⟨o,ho,_⟩:=p1.isList;exact sai ho
 have lt2:b<s1.heap.objs.size:=by obtain⟨o,ho,_⟩:=p2.isList;exact sai ho
 have lt3:c<s1.heap.objs.size:=by obtain⟨o,ho,_⟩:=p3.isList;exact sai ho
 refine XW p1.isList p2.isList p3.isList fun h' hz hk=>?_;refine wpAny_pyIter_zip hz.z ?_;have I2:Inv X pins σ H1 {s1 with heap:=h',toks:=s1.toks}:=I1.kept (t':=s1.toks) hk;refine⟨s1.heap.objs.size+5,sZ s1.heap.objs.size,_,Pj X.K a b c,H1,rfl,I2,YV lt1 lt2 lt3,hz,fun b hb=>?_,q⟩
 have hb':s1.heap.objs.size≤b:=by
  simp only[sZ,saj,sbN,or_false]at hb
  rcases hb with rfl|rfl|rfl|rfl|rfl|rfl <;> first|exact Nat.le_add_right _ _|exact Nat.le_refl _
 exact I1.fpOk hb' (I1.hok.fresh hb')
@[simp] noncomputable def Yv (f g h:FE):FI:=fun env=>(f env).bind fun x=>x.hold.bind fun d=>(g env).bind fun y=>y.hold.bind fun e=>(h env).bind fun z=>z.hold.bind fun c=>match d,e,c with
  | .l ds,.l es,.l cs=>.ok (sF ds es cs)
  |_,_,_=>.bad
theorem Yz {X:Cx}{G₀ H₀:Hp}{elts:List Expr}{kk:Nat}{pos p cpos:Pos}{e1 e2 e3:Expr}{f g h:FE}(hm:X.mg "zip" = none) (h1:DE X G₀ H₀ e1 f) (h2:DE X G₀ H₀ e2 g) (h3:DE X G₀ H₀ e3 h) (hg:Gl X "zip" :=by rfl) (hs:starEach [e1,e2,e3] X.env=(false,eval e1 X.env)::starEach [e2,e3] X.env:=by rfl)
 (hs2:starEach [e2,e3] X.env=(false,eval e2 X.env)::starEach [e3] X.env:=by rfl) (hs3:starEach [e3] X.env=[(false,eval e3 X.env)]:=by rfl) :
 Sf X G₀ H₀ (.Tuple elts kk pos) (.Call (.Name "zip" p) [e1,e2,e3] [] cpos) (Yv f g h):=(UO hm (yP h1 (yP h2 (yP h3 x4 hs3) hs2) hs) hg hs hs2 hs3).imp fun σ H R q=>by
 obtain⟨env,G,ds,I,e,k⟩:=q;obtain⟨x,ex,e⟩:=zv e;obtain⟨d,hx,e⟩:=zv e;obtain⟨y,ey,e⟩:=zv e;obtain⟨d',hy,e⟩:=zv e;obtain⟨z,ez,e⟩:=zv e;obtain⟨d'',hz,e⟩:=zv e;refine⟨env,G,x,I,ex,fun v1 G1 H1 g1 l1 o1=>?_⟩;obtain⟨G2,g2,l2,r2⟩:=m5 g1 l1 o1 hx;have I2:=I.grow g2 l2;refine⟨env,G2,y,I2,ey,fun v2 G3 H3 g3 l3 o3=>?_⟩;obtain⟨G4,g4,l4,r4⟩:=m5 g3 l3 o3 hy;have I4:=I2.grow g4 l4;refine⟨env,G4,z,I4,ez,fun v3 G5 H5 g5 l5 o5=>?_⟩;obtain⟨G6,g6,l6,r6⟩:=m5 g5 l5 o5 hz;split at e
 ·cases e;obtain⟨a,xs,rfl,ha,ra⟩:=(r2.mono g4.g).mono g6.g;obtain⟨b,ys,rfl,hb,rb⟩:=r4.mono g6.g;obtain⟨c,zs,rfl,hc,rc⟩:=r6;exact⟨a,b,c,rfl,⟨xs,xV.of (l6 _ _ ha)⟩,⟨ys,xV.of (l6 _ _ hb)⟩,⟨zs,xV.of (l6 _ _ hc)⟩,k _ G6 _ ((g2.trans g4).trans g6) l6 (Vy (xV.of ha) (xV.of hb) (xV.of hc) ra rb rc)⟩
 ·cases e
@[simp] noncomputable def kQ (i j:Nat):FS:=fun env=>match env[i]?,env[j]? with
  | some (.own ds),some (.own es)=>if ds.length<100000∧i≠j then(match es[es.length - 1]? with
    |some d=>.ok (.next ((env.set j (.own es.dropLast)).set i (.own (ds++[d]))))
    |none=>.bad)else .bad
  |_,_=>.bad
section
variable {X:Cx}{G₀ H₀:Hp}{pos apos cpos p1 apos' cpos' p2:Pos}{i j:Nat}{x y:Str}
theorem XO (hv:PE X (.Name x p1) (qB i))(hw:PE X (.Name y p2) (qB j))(hfew:((backTo cpos (starEach [.Call (.Attribute (.Name y p2) "pop" apos') [] [] cpos'] X.env)).all (fun x=> !x.1)&&(backToKw cpos (keywordEach [] X.env)).all (fun x=>x.1.isSome)
 && decide ([Expr.Call (.Attribute (.Name y p2) "pop" apos') [] [] cpos'].length+([]:List Keyword).length+(if([]:List Keyword).isEmpty then 0 else 1)<30))=true:=by rfl)
 (hline:(apos.endLine == cpos.line)=true:=by rfl) (hline':(apos'.endLine == cpos'.line)=true:=by rfl) (hs:starEach [.Call (.Attribute (.Name y p2) "pop" apos') [] [] cpos'] X.env=[(false,eval (.Call (.Attribute (.Name y p2) "pop" apos') [] [] cpos') X.env)]:=by rfl) :
 DS X G₀ H₀ (.Expr (.Call (.Attribute (.Name x p1) "append" apos) [.Call (.Attribute (.Name y p2) "pop" apos') [] [] cpos'] [] cpos) pos) (kQ i j) :=
 (pA (cB sbM PySem.F.slot_list_append PySem.F.type_list_append pE hv (yP (aB sbM PySem.F.slot_list_pop PySem.F.type_list_pop Vg hw rfl hline') x4 hs) rfl hfew hline hs rfl) rfl).imp fun D σ H q=>by
  obtain⟨env,G,r,I,e,k⟩:=q;unfold kQ at e;split at e
  ·rename_i ds es hd he;split at e
   ·rename_i hz;split at e
    ·rename_i d hl;cases e;obtain⟨a,vs,o⟩:=I.own hd;obtain⟨b,us,o2⟩:=I.own he;have hlen:=o2.rep.length;have hlt:es.length - 1<es.length:=(sak.mp hl).1;have hu:us[us.length - 1]?=some (us[us.length - 1]'(by lia)):=sad (by lia);obtain⟨d',hd',rd⟩:=o2.rep.get' hu
     have ed:d'=d:=by
      rw[←hlen,hl]at hd';exact(saI hd').symm
     subst ed;have I1:=I.mut he o2 o2.rep.dropLast;have hd1:(env.set j (.own es.dropLast))[i]?=some (.own ds):=by rw[sas (fun q=>hz.2 q.symm)];exact hd
     obtain⟨a',vs',o'⟩:=I1.own hd1;have z:=o'.at_;rw[o.at_]at z;cases z;exact⟨.ref a,o.at_,.inl ⟨rfl,vs,xV.of o.hp⟩,.ref b,o2.at_,.inl ⟨rfl,us,xV.of o2.hp⟩,b,us,_,rfl,rfl,o2.hp,hu,a,vs',_,rfl,rfl,o'.hp,by rw[←o'.rep.length,sizeLine_eq];lia,k σ G _ (zV.refl _) (I1.mut hd1 o' (o'.rep.append (zM.cons rd zM.nil)))⟩
    ·cases e
   ·cases e
  ·cases e
end
section
variable {prog:Program}{w:World}{A:Around}{E:Value→Shared→Prop}{s:Shared}
end
section
variable {prog:Program}{w:World}{A:Around}{E:Value→Shared→Prop}{s:Shared}
end
noncomputable abbrev q3 (h:Heap)(a b:Addr):Heap:=y1 (y1 h a) b
noncomputable abbrev q4 (h:Heap)(a b:Addr):Heap:=(q3 h a b).push {cls:=.type "tuple",data:=.seq #[.ref h.objs.size,.ref (y1 h a).objs.size]}
noncomputable abbrev q5 (h:Heap)(a b:Addr):Heap:=(q4 h a b).push {cls:=.type "tuple",data:=.seq #[.none,.none]}
noncomputable abbrev q6 (h:Heap)(a b:Addr):Heap:=(q5 h a b).push {cls:=.type "zip",data:=.fields #[.none,.bool false,.bool false,.ref (q3 h a b).objs.size,.ref (q4 h a b).objs.size]}
section
variable {prog:Program}{w:World}{A:Around}{E:Value→Shared→Prop}{s:Shared}
end
theorem vX {α:Type}{n:Nat}{l:List α}(h:l.length=n+1):∃a t,l=a::t∧t.length=n:=by
 cases l with
 |nil=>cases h
 |cons a t=>exact⟨a,t,rfl,Nat.succ.inj h⟩
section
variable {K:Frag}{x qual:Str}{st:Stmt}{f:Addr}{fd:FuncData}
theorem Ro (F:Fun K x qual st f fd)(p_a:Str)(h:∀(kV doc pm:Value) (an:Option Addr) (cdv ct:Value) (u_a:Value),bindArgs (PySem.W.fnOf x qual (vZ st) (w4 st) (zD st) .none kV doc pm an cdv ct) ⟨[u_a],[]⟩=pure (List.zip [p_a] [u_a])):pb K fd [p_a] [] :=
 F.binds fun _ _ _ _ _ _ us0 h0=>by
  obtain⟨_,us1,rfl,h1⟩:=vX h0
  cases us1 with
  |nil=>exact h _ _ _ _ _ _ _
  |cons a t=>cases h1
theorem eJ (F:Fun K x qual st f fd)(p_a p_b:Str)(h:∀(kV doc pm:Value) (an:Option Addr) (cdv ct:Value) (u_a u_b:Value),bindArgs (PySem.W.fnOf x qual (vZ st) (w4 st) (zD st) .none kV doc pm an cdv ct) ⟨[u_a,u_b],[]⟩=pure (List.zip [p_a,p_b] [u_a,u_b])):pb K fd [p_a,p_b] [] :=
 F.binds fun _ _ _ _ _ _ us0 h0=>by
  obtain⟨_,us1,rfl,h1⟩:=vX h0;obtain⟨_,us2,rfl,h2⟩:=vX h1
  cases us2 with
  |nil=>exact h _ _ _ _ _ _ _ _
  |cons a t=>cases h2
theorem Rn (F:Fun K x qual st f fd)(p_a p_b p_c:Str)(h:∀(kV doc pm:Value) (an:Option Addr) (cdv ct:Value) (u_a u_b u_c:Value),bindArgs (PySem.W.fnOf x qual (vZ st) (w4 st) (zD st) .none kV doc pm an cdv ct) ⟨[u_a,u_b,u_c],[]⟩=pure (List.zip [p_a,p_b,p_c] [u_a,u_b,u_c])):pb K fd [p_a,p_b,p_c] [] :=
 F.binds fun _ _ _ _ _ _ us0 h0=>by
  obtain⟨_,us1,rfl,h1⟩:=vX h0;obtain⟨_,us2,rfl,h2⟩:=vX h1;obtain⟨_,us3,rfl,h3⟩:=vX h2
  cases us3 with
  |nil=>exact h _ _ _ _ _ _ _ _ _
  |cons a t=>cases h3
theorem Q_ (F:Fun K x qual st f fd)(p_a p_b p_c p_d:Str)(h:∀(kV doc pm:Value) (an:Option Addr) (cdv ct:Value) (u_a u_b u_c u_d:Value),bindArgs (PySem.W.fnOf x qual (vZ st) (w4 st) (zD st) .none kV doc pm an cdv ct) ⟨[u_a,u_b,u_c,u_d],[]⟩=pure (List.zip [p_a,p_b,p_c,p_d] [u_a,u_b,u_c,u_d])):pb K fd [p_a,p_b,p_c,p_d] [] :=
 F.binds fun _ _ _ _ _ _ us0 h0=>by
  obtain⟨_,us1,rfl,h1⟩:=vX h0;obtain⟨_,us2,rfl,h2⟩:=vX h1;obtain⟨_,us3,rfl,h3⟩:=vX h2;obtain⟨_,us4,rfl,h4⟩:=vX h3
  cases us4 with
  |nil=>exact h _ _ _ _ _ _ _ _ _ _
  |cons a t=>cases h4
end
theorem xW {N P:List Str}{sc:Scope}(a:sc.kind=.function:=by rfl)(b:sc.isCoroutine=false:=by rfl)(c:sc.isGenerator=false:=by rfl)(d:N.Nodup:=by decide +kernel)(e:N.take P.length=P:=by rfl)(f:∀x∈P,sc.names.lookup x=some .local∨sc.names.lookup x=some .cell:=by decide +kernel)(g:∀y∈sc.names,y.2≠.free:=by decide +kernel):FS_ N P sc:=⟨a,b,c,d,e,f,g⟩
section
variable {X:Cx}{G₀ H₀:Hp}{pos p:Pos}{k:Nat}{x a1 a2 a3 a4:Str}{e1 e2 e3 e4:Expr}{f1 f2 f3 f4:FE}{m:List D→Out Val}
theorem dv (i:Nat){x:Str}(hN:X.N[i]?=some x:=by rfl)(hv:Pb X.env.scope x:=by first|exact Or.inl rfl|exact Or.inr (Or.inl rfl)|exact Or.inr (Or.inr rfl))(hd:(x == ("__debug__" : Str))=false:=by decide) (hc:(x == ("__classdict__" : Str))=false:=by decide):DE X G₀ H₀ (.Name x pos) (zf i):=Ry (pv i hN hv hd hc)
theorem kj (h1:DE X G₀ H₀ e1 f1)(s1:starEach [e1] X.env=(false,eval e1 X.env)::starEach [] X.env:=by rfl):DA X G₀ H₀ [e1] (zi f1 zz):=n9 h1 RD s1
theorem RF (h1:DE X G₀ H₀ e1 f1)(h2:DE X G₀ H₀ e2 f2)(s2:starEach [e2] X.env=(false,eval e2 X.env)::starEach [] X.env:=by rfl)(s1:starEach [e1,e2] X.env=(false,eval e1 X.env)::starEach [e2] X.env:=by rfl):DA X G₀ H₀ [e1,e2] (zi f1 (zi f2 zz)):=n9 h1 (kj h2 s2) s1
theorem XR (C:Cal X.prog X.w X.K X.mg X.base k x [a1] m)(hr:Room k X.A)(h1:DE X G₀ H₀ e1 f1)(hg:Gl X x:=by rfl)(hd:(x == ("__debug__" : Str))=false:=by decide) (s1:starEach [e1] X.env=(false,eval e1 X.env)::starEach [] X.env:=by rfl) (hp:(backTo pos (starEach [] X.env)).any (·.1)=false:=by rfl) :
 DE X G₀ H₀ (.Call (.Name x p) [e1] [] pos) (zx m (zi f1 zz)):=eZ C hr (kj h1 s1) (wW kH) hg hd s1 hp
theorem tq (C:Cal X.prog X.w X.K X.mg X.base k x [a1,a2] m)(hr:Room k X.A)(h1:DE X G₀ H₀ e1 f1)(h2:DE X G₀ H₀ e2 f2)(hg:Gl X x:=by rfl)(hd:(x == ("__debug__" : Str))=false:=by decide) (s2:starEach [e2] X.env=(false,eval e2 X.env)::starEach [] X.env:=by rfl) (s1:starEach [e1,e2] X.env=(false,eval e1 X.env)::starEach [e2] X.env:=by rfl) (hp:(backTo pos (starEach [e2] X.env)).any (·.1)=false:=by rfl) :
 DE X G₀ H₀ (.Call (.Name x p) [e1,e2] [] pos) (zx m (zi f1 (zi f2 zz))):=eZ C hr (RF h1 h2 s2 s1) (wW (wW kH)) hg hd s1 hp
theorem XQ (C:Cal X.prog X.w X.K X.mg X.base k x [a1,a2,a3] m)(hr:Room k X.A)(h1:DE X G₀ H₀ e1 f1)(h2:DE X G₀ H₀ e2 f2)(h3:DE X G₀ H₀ e3 f3)(hg:Gl X x:=by rfl)(hd:(x == ("__debug__" : Str))=false:=by decide) (s3:starEach [e3] X.env=(false,eval e3 X.env)::starEach [] X.env:=by rfl) (s2:starEach [e2,e3] X.env=(false,eval e2 X.env)::starEach [e3] X.env:=by rfl) (s1:starEach [e1,e2,e3] X.env=(false,eval e1 X.env)::starEach [e2,e3] X.env:=by rfl) (hp:(backTo pos (starEach [e2,e3] X.env)).any (·.1)=false:=by rfl) :
 DE X G₀ H₀ (.Call (.Name x p) [e1,e2,e3] [] pos) (zx m (zi f1 (zi f2 (zi f3 zz)))):=eZ C hr (n9 h1 (RF h2 h3 s3 s2) s1) (wW (wW (wW kH))) hg hd s1 hp
theorem RC (C:Cal X.prog X.w X.K X.mg X.base k x [a1,a2,a3,a4] m)(hr:Room k X.A)(h1:DE X G₀ H₀ e1 f1)(h2:DE X G₀ H₀ e2 f2)(h3:DE X G₀ H₀ e3 f3)(h4:DE X G₀ H₀ e4 f4)(hg:Gl X x:=by rfl)(hd:(x == ("__debug__" : Str))=false:=by decide) (s4:starEach [e4] X.env=(false,eval e4 X.env)::starEach [] X.env:=by rfl) (s3:starEach [e3,e4] X.env=(false,eval e3 X.env)::starEach [e4] X.env:=by rfl) (s2:starEach [e2,e3,e4] X.env=(false,eval e2 X.env)::starEach [e3,e4] X.env:=by rfl) (s1:starEach [e1,e2,e3,e4] X.env=(false,eval e1 X.env)::starEach [e2,e3,e4] X.env:=by rfl) (hp:(backTo pos (starEach [e2,e3,e4] X.env)).any (·.1)=false:=by rfl) :
 DE X G₀ H₀ (.Call (.Name x p) [e1,e2,e3,e4] [] pos) (zx m (zi f1 (zi f2 (zi f3 (zi f4 zz))))):=eZ C hr (n9 h1 (n9 h2 (RF h3 h4 s4 s3) s2) s1) (wW (wW (wW (wW kH)))) hg hd s1 hp
end
end DL
namespace My
open PySem PySem.Spec PyProof.Rows L2 DL
theorem r9 {α:Type}(xs:List α)(i:Int)(h:0≤i):t9 xs i=xs[i.toNat]?:=by
 unfold t9 U9;rw[saf h];split
 ·rfl
 ·rename_i h2;rw[sbZ (by lia)];rfl
theorem oN {α:Type}(xs:List α):t9 xs (-1)=xs[xs.length - 1]?:=by
 unfold t9 U9;by_cases h:xs.length=0
 ·have:xs=[]:=sbg h;subst this;simp
 ·rw[sah (by lia),saf (by lia)];show xs[(-1+(xs.length:Int)).toNat]?=_;congr 1;lia
theorem vQ {i j:Int}(h1 : -(2^64)<i)(h2:i<2^64):uq i j=true:=by
 unfold uq oY;rw[sal h1,sal h2];rfl
theorem lC {i j:Int}(h1 : -(2^64)<j)(h2:j<2^64):uq i j=true:=by
 unfold uq oY;rw[sal h1,sal h2];simp
theorem vD {i j:Int}(h1:0<j)(h2:j<2^250):oJ i j=true:=by
 unfold oJ;rw[sal h1,sal h2];rfl
@[simp] theorem Pa (j:Int) (h1:0≤j) (h2:j≤1000000):TB 10 j=true:=by
  unfold TB;rw[sal h1,sal h2];decide
@[simp] theorem pN (i j:Int):oF (.int i) (.int j)=(i == j):=rfl
@[simp] theorem PB:oF .non .non=true:=rfl
@[simp] theorem PC (i:Int):oF .non (.int i)=false:=rfl
@[simp] theorem PD (i:Int):oF (.int i) .non=false:=rfl
@[simp] theorem PF (a b:Bool):oF (.bl a) (.bl b)=(a == b):=rfl
@[simp] theorem Qj (n:Nat)(i:Int):wI n (.int i)=true:=by cases n <;> rfl
@[simp] theorem Qi (n:Nat):wI n .non=true:=by cases n <;> rfl
@[simp] theorem Q6 (n:Nat)(b:Bool):wI n (.bl b)=true:=by cases n <;> rfl
@[simp] theorem Qh (n:Nat)(ds:List D):wI (n+1) (.tup ds)=ds.all (wI n):=rfl
@[simp] theorem Wz (n:Nat)(ds:List D):wI (n+1) (.l ds)=ds.all (wI n):=rfl
theorem eR (xs ys:List D):oF (.tup xs) (.tup ys)=n5 xs ys:=by simp only[oF,n5,xB,PyData.eqv]
theorem eS (xs ys:List D):oF (.l xs) (.l ys)=n5 xs ys:=by simp only[oF,n5,xB,PyData.eqv]
theorem nZ:n5 [] []=true:=by simp only[n5,wd,PyData.eqvAll]
theorem xZ (x y:D)(xs ys:List D):n5 (x::xs) (y::ys)=(oF x y&&n5 xs ys):=by simp only[n5,oF,wd,PyData.eqvAll]
theorem To (y:D)(ys:List D):n5 [] (y::ys)=false:=by simp only[n5,wd,PyData.eqvAll]
theorem Tp (y:D)(ys:List D):n5 (y::ys) []=false:=by simp only[n5,wd,PyData.eqvAll]
theorem n4 {α:Type}[DecidableEq α](f:α→D)(h:∀x y,oF (f x) (f y)=decide (x=y)):∀xs ys:List α,n5 (xs.map f) (ys.map f)=decide (xs=ys)
 |[],[]=>by simp[nZ]
 |[],y::ys=>by simp[To]
 |x::xs,[]=>by simp[Tp]
 | x::xs,y::ys=>by
   rw[List.map_cons,List.map_cons,xZ,h,n4 f h xs ys]
   by_cases h1:x=y <;> by_cases h2:xs=ys <;> simp[h1,h2]
theorem nV {g:D→Ev→Out Ev}{fb:FS}(P:Nat→Ev→Prop):∀(ds:List D) (i:Nat) (env:Ev),P i env →
 (∀(j:Nat) (d:D) (env:Ev),i≤j→ds[j - i]?=some d→P j env→∃env1 env2,g d env=.ok env1∧fb env1=.ok (.next env2)∧P (j+1) env2) →
 ∃env',wu g fb ds env=.ok (.next env')∧P (i+ds.length) env'
 |[],i,env,h,_=>⟨env,rfl,h⟩
 | d::ds,i,env,h,step=>by
   obtain⟨env1,env2,e1,e2,h2⟩:=step i d env (Nat.le_refl _) (by simp) h
   obtain⟨env',e3,h3⟩:=nV P ds (i+1) env2 h2 fun j d' env hj hd hp=>step j d' env (by lia) (by
    have:j - i=(j - (i+1))+1:=by lia
    rw[this];simpa using hd) hp
   refine⟨env',?_,?_⟩
   ·simp only[wu,e1,zk,e2];exact e3
   ·have:i+(d::ds).length=i+1+ds.length:=by simp;lia
    rw[this];exact h3
theorem fO {lo:Int}{n j:Nat}{d:D}(h:(sv lo n)[j]?=some d):j<n∧d=.int (lo+j):=by
 have hj:j<n:=by
  have:=(sak.mp h).1;simpa[sv]using this
 refine⟨hj,?_⟩;simp[sv,hj]at h;exact h.symm
@[simp] theorem ZZ (lo:Int)(n:Nat):(sv lo n).length=n:=by simp[sv]
theorem vo {α:Type}{g:D→Ev→Out Ev}{ft:FT}{fe:FE}(P:Ev→Prop)(f:α→D)(h:α→Option D):∀(xs:List α) (env:Ev),P env →
 (∀x env,x∈xs→P env→∃env1,g (f x) env=.ok env1∧P env1∧((h x=none∧ft env1=.ok false)∨∃y v,h x=some y∧ft env1=.ok true∧fe env1=.ok v∧v.hold=.ok y)) →
 xH g ft fe (xs.map f) env=.ok (xs.filterMap h)
 |[],env,_,_=>rfl
 | x::xs,env,hp,step=>by
   obtain⟨env1,e1,p1,r⟩:=step x env (by simp) hp;have ih:=vo P f h xs env1 p1 fun x env hx=>step x env (by simp[hx])
   rcases r with⟨h1,h2⟩|⟨y,v,h1,h2,h3,h4⟩
   ·simp only[List.map_cons,xH,e1,zk,h2,List.filterMap_cons,h1];exact ih
   ·simp only[List.map_cons,xH,e1,zk,h2,List.filterMap_cons,h1,if_true,h3,h4,ih]
noncomputable def zW (l:Int×List Int):D:=.tup [.int l.1,.l (l.2.map .int)]
theorem pM (p q:Int×Int):oF (zd p) (zd q)=decide (p=q):=by
 unfold zd;rw[eR,xZ,xZ,nZ,pN,pN];obtain⟨a,b⟩:=p;obtain⟨c,d⟩:=q
 by_cases h1:a=c <;> by_cases h2:b=d <;> simp[h1,h2]
theorem bT (p:Int×Int):∀ps:List (Int×Int),(ps.map zd).any (fun z=>oF z (zd p))=decide (p∈ps)
 |[]=>by simp
 | q::ps=>by
   rw[List.map_cons,List.any_cons,bT p ps,pM];by_cases h1:q=p
   ·simp[h1]
   ·have:¬p=q:=fun h=>h1 h.symm;simp[h1,this]
theorem sH (n:Nat)(p:Int×Int):wI (n+1) (zd p)=true:=by simp[zd]
theorem VU (l:List D)(i:Int)(n:Nat)(hi:i=n):qP l none (some i)=l.take n:=by
 subst hi;show(l.drop 0).take ((if(n:Int)<0 then((n:Int)+(l.length:Int)).toNat else min (n:Int).toNat l.length) - 0)=l.take n;rw[sah (by lia),Int.toNat_natCast,List.drop_zero,Nat.sub_zero];by_cases h:n≤l.length
 ·rw[Nat.min_eq_left h]
 ·rw[Nat.min_eq_right (by lia),List.take_of_length_le (Nat.le_refl _),List.take_of_length_le (by lia)]
theorem ro (l:List D)(i:Int)(n:Nat)(hi:i=n):qP l (some i) none=l.drop n:=by
 subst hi;show(l.drop (if(n:Int)<0 then((n:Int)+(l.length:Int)).toNat else min (n:Int).toNat l.length)).take (l.length - (if(n:Int)<0 then((n:Int)+(l.length:Int)).toNat else min (n:Int).toNat l.length))=l.drop n;rw[sah (by lia),Int.toNat_natCast,List.take_of_length_le (by rw[List.length_drop];exact Nat.le_refl _)];by_cases h:n≤l.length
 ·rw[Nat.min_eq_left h]
 ·rw[Nat.min_eq_right (by lia),List.drop_of_length_le (Nat.le_refl _),List.drop_of_length_le (by lia)]
structure Frm where
 w:Int
 h:Int
 s:Int
 r:Int
 u:Int
noncomputable def yp (f:Frm):D:=.tup [.int f.w,.int f.h,.int f.s,.int f.r,.int f.u]
structure FrmOk (f:Frm):Prop where
 w1:1≤f.w
 w2:f.w≤10^9
 h1:1≤f.h
 h2:f.h≤10^18
 s1 : -3≤f.s
 s2:f.s≤3
 r1 : -(10^30)≤f.r
 r2:f.r≤10^30
 u1 : -(10^30)≤f.u
 u2:f.u≤10^30
noncomputable def yo (f:Frm)(p:Int×Int):Int×Int:=(f.w*p.1+f.r,f.h*p.2+f.s*p.1+f.u)
noncomputable def zo (ps:List (Int×Int)):List (Int×List Int):=(qK (ps.map (·.1)).eraseDups).map fun x=>(x,qK ((ps.filter fun p=>p.1 == x).map (·.2)))
theorem p8:∀(n:Nat) (l:List Int),l.length≤n→l.eraseDups.length≤l.length
 | 0,l,h=>by
   have:l=[]:=sbg (by lia);subst this;simp
 |n+1,[],h=>by simp
 | n+1,a::l,h=>by
   rw[List.eraseDups_cons];have h1:(l.filter fun b=> !b == a).length≤l.length:=sbG _ _;have h2:=p8 n (l.filter fun b=> !b == a) (by simp at h;lia);simp only[List.length_cons];lia
theorem pP (ps:List (Int×Int)):(zo ps).length≤ps.length:=by
 unfold zo;rw[sae,(xQ _).length_eq];have:=p8 _ (ps.map (·.1)) (Nat.le_refl _);simpa using this
theorem V3 (ps:List (Int×Int)):∀l∈zo ps,l.2.length≤ps.length:=by
 intro l hl;unfold zo at hl;obtain⟨x,_,rfl⟩:=saz.mp hl;show(qK ((ps.filter fun p=>p.1 == x).map (·.2))).length≤_;rw[(xQ _).length_eq,sae];exact sbG _ _
noncomputable def pK:FS :=
 zJ (wc (z0 (f2 mn (zf 1) (fB uk (zi (zf 0) (zz)))))
 (yu (f2 zX (zf 0) (zf 1)))
 (wo))
 (yu (fC (.int 0)))
noncomputable def wL:List D→Out Val
 |[.scr ns,.int k]=>if 0≤k then .ok (.p (.int (ns.getD k.toNat 0)))else .bad
 |_=>.bad
theorem eh:∀ds v,ds.length=2→wL ds=.ok v→zP 2 pK ds=.ok v:=by
 intro ds v hlen h;clear hlen;unfold wL at h;split at h
 ·rename_i ns k;split at h
  ·rename_i hk;cases h;by_cases hl:k<(ns.length:Int)
   ·have hn:k.toNat<ns.length:=by lia
    simp[pK,r9 _ _ hk,hl,sad hn]
   ·have hn:ns.length≤k.toNat:=by lia
    simp[pK,r9 _ _ hk,hl,sbZ hn]
  ·cases h
 ·cases h
noncomputable def kJ:FS :=
 zJ (zS 2 true (fC (.int 0)))
 (zJ (wc (z0 (f2 mn (f2 yB (fC (.int 1)) (f2 yA (f2 x6 (zf 1) (fC (.int 8))) (fC (.int 62)))) (fB uk (zi (zf 0) (zz)))))
 (zS 2 true (f2 x6 (f2 zX (zf 0) (f2 yB (fC (.int 1)) (f2 yA (f2 x6 (zf 1) (fC (.int 8))) (fC (.int 62))))) (f2 eI (fC (.int 10)) (fC (.int 64)))))
 (wo))
 (zJ (vq (qp (zi (f2 yA (zf 1) (fC (.int 8))) (zz))) (gN 3)
 (zS 2 true (f2 x6 (zf 2) (fC (.int 2147483587)))))
 (yu (zf 2))))
noncomputable def Tr:Nat→Int→Int
 | 0,c=>c
 |n+1,c=>Tr n (c / 2147483587)
noncomputable def r8 (ns:List Int)(k:Int):Int:=Tr (k%8).toNat (if 1+k / 8%62<(ns.length:Int)then ns.getD (1+k / 8%62).toNat 0 / 10^64 else 0)
theorem g0 {a b s:Slot}:∀(xs:List D) (c:Int),(∀d∈xs,∃i,d=.int i) →
 ∃s',wu (gN 3) (zS 2 true (f2 x6 (zf 2) (fC (.int 2147483587)))) xs [a,b,.p (.int c),s]=.ok (.next [a,b,.p (.int (Tr xs.length c)),s']):=by
 intro xs
 induction xs generalizing s with
 |nil=>intro c _;exact⟨s,rfl⟩
 | cons d xs ih=>
   intro c h;obtain⟨i,rfl⟩:=h d (by simp);obtain⟨s',e⟩:=ih (s:=.p (.int i)) (c / 2147483587) fun d hd=>h d (by simp[hd]);refine⟨s',?_⟩;have hc:oJ c 2147483587=true:=vD (by decide) (by decide);simp[wu,hc,Tr];simpa using e
noncomputable def uK:List D→Out Val
 |[.scr ns,.int k]=>if 0≤k then .ok (.p (.int (r8 ns k)))else .bad
 |_=>.bad
theorem aH:∀ds v,ds.length=2→uK ds=.ok v→zP 4 kJ ds=.ok v:=by
 intro ds v hlen h;clear hlen;unfold uK at h;split at h
 ·rename_i ns k;split at h
  ·rename_i hk;cases h;have h8:oJ k 8=true:=vD (by decide) (by decide);have hr:(-1000000:Int)≤k%8∧k%8≤1000000:=by lia
   have hp:∀(i:Int),oJ i 10000000000000000000000000000000000000000000000000000000000000000=true:=fun i=>vD (by decide) (by decide)
   have all:∀d∈sv 0 (k%8).toNat,∃i,d=D.int i:=by
    intro d hd;simp only[sv,saz]at hd;obtain⟨i,_,rfl⟩:=hd;exact⟨_,rfl⟩
   unfold r8;by_cases hl:1+k / 8%62<(ns.length:Int)
   ·have hn:(1+k / 8%62).toNat<ns.length:=by lia
    obtain⟨s',e⟩:=g0 (a:=.p (.scr ns)) (b:=.p (.int k)) (s:=.un) (sv 0 (k%8).toNat) (ns[(1+k / 8%62).toNat] / 10^64) all;have e':=e;simp at e';simp[kJ,h8,hl,r9 _ _ (show 0≤1+k / 8%62 by lia),sad hn,hp,hr,e']
   ·obtain⟨s',e⟩:=g0 (a:=.p (.scr ns)) (b:=.p (.int k)) (s:=.un) (sv 0 (k%8).toNat) 0 all;have e':=e;simp at e';simp[kJ,h8,hl,hr,e']
  ·cases h
 ·cases h
noncomputable def eO:FS :=
 zJ (zS 2 true (fC (.int 0)))
 (zJ (wc (z0 (f2 bV (fB uk (zi (zf 0) (zz))) (fC (.int 0))))
 (zS 2 true (f2 zX (zf 0) (fC (.int 0))))
 (wo))
 (zJ (wc (rf (z0 (f2 mq (f2 yA (f2 x6 (zf 2) (f2 eI (fC (.int 10)) (fC (.int 6)))) (fC (.int 2))) (fC (.int 1)))) (z0 (f2 lW (zx uK (zi (zf 0) (zi (zf 1) (zz)))) (fC (.int 0)))))
 (yu (f2 yA (zx uK (zi (zf 0) (zi (zf 1) (zz)))) (fC (.int 2147483587))))
 (wo))
 (zJ (wc (z0 (f2 bV (fB uk (zi (zf 0) (zz))) (fC (.int 0))))
 (zS 2 true (f2 zX (zf 0) (f2 yA (zf 1) (fB p7 (zi (fC (.int 63)) (zi (fB uk (zi (zf 0) (zz))) (zz)))))))
 (wo))
 (zJ (zS 3 true (f2 yB (f2 yA (zf 2) (f2 eI (fC (.int 10)) (fC (.int 18)))) (f2 vC (fC (.int 48271)) (f2 yB (zf 1) (fC (.int 1))))))
 (zJ (zS 3 true (f2 yB (f2 yA (f2 vC (zf 3) (zf 3)) (fC (.int 2147483629))) (f2 vC (fC (.int 69621)) (zf 1))))
 (yu (f2 yA (f2 vC (zf 3) (zf 3)) (fC (.int 2147483587)))))))))
noncomputable def uo (ns:List Int):Int:=if 0<ns.length then ns.getD 0 0 else 0
noncomputable def qS (ns:List Int)(k:Int):Int:=if 0<ns.length then ns.getD (k%(min 63 (ns.length:Int))).toNat 0 else 0
noncomputable def ox (ns:List Int)(k:Int):Int:=qS ns k%10^18+48271*(k+1)
noncomputable def cI (ns:List Int)(k:Int):Int:=ox ns k*ox ns k%2147483629+69621*k
noncomputable def zC (ns:List Int)(k:Int):Int :=
 if uo ns / 10^6%2=1∧r8 ns k≠0 then r8 ns k%2147483587 else cI ns k*cI ns k%2147483587
theorem Vi (ns:List Int)(k:Int):0≤zC ns k:=by
 unfold zC;split
 ·exact sbS _ (by decide)
 ·exact sbS _ (by decide)
noncomputable def yV:List D→Out Val
 |[.scr ns,.int k]=>if 0≤k∧k≤1000000 then .ok (.p (.int (zC ns k)))else .bad
 |_=>.bad
theorem aF:∀ds v,ds.length=2→yV ds=.ok v→zP 4 eO ds=.ok v:=by
 intro ds v hlen h;clear hlen;unfold yV at h;split at h
 ·rename_i ns k;split at h
  ·rename_i hk;cases h;have hk0:=hk.1;have d6:∀i:Int,oJ i 1000000=true:=fun i=>vD (by decide) (by decide);have m1:uq 48271 (k+1)=true:=vQ (by decide) (by decide);have m2:uq 69621 k=true:=vQ (by decide) (by decide);have hx:=sbS (qS ns k) (show(10:Int)^18≠0 by decide);have hy:=sca (qS ns k) (show(0:Int)<10^18 by decide)
   have e1:0≤ox ns k∧ox ns k<2^64:=by
    unfold ox;lia
   have e2:0≤cI ns k∧cI ns k<2^64:=by
    have h1:=sbS (ox ns k*ox ns k) (show(2147483629:Int)≠0 by decide);have h2:=sca (ox ns k*ox ns k) (show(0:Int)<2147483629 by decide);unfold cI;lia
   have m3:uq (ox ns k) (ox ns k)=true:=vQ (by lia) e1.2;have m4:uq (cI ns k) (cI ns k)=true:=vQ (by lia) e2.2;have u1:qS ns k%1000000000000000000+48271*(k+1)=ox ns k:=by unfold ox;rfl
   have u2:ox ns k*ox ns k%2147483629+69621*k=cI ns k:=rfl
   have st:∀{env:Ev} {A B:FS} {c:FT} {b:Bool},c env=.ok b→wc c A B env=if b=true then A env else B env:=fun {env A B c b} q=>by simp only[wc,q,zk]
   have tl:∀(c:Int) (s:Slot),z0 (f2 bV (fB uk (zi (zf 0) (zz))) (fC (.int 0))) [.p (.scr ns),.p (.int k),.p (.int c),s]=.ok (decide (0<(ns.length:Int))):=fun c s=>by simp
   have s2:wc (z0 (f2 bV (fB uk (zi (zf 0) (zz))) (fC (.int 0)))) (zS 2 true (f2 zX (zf 0) (fC (.int 0)))) (wo) [.p (.scr ns),.p (.int k),.p (.int 0),.un]=.ok (.next [.p (.scr ns),.p (.int k),.p (.int (uo ns)),.un]):=by
    rw[st (tl _ _)];by_cases hn:0<ns.length
    ·have a0:t9 ns 0=some (uo ns):=by
      rw[r9 _ _ (by decide)];show ns[0]?=_;unfold uo;rw[saf hn,List.getD_eq_getElem?_getD,sad hn];rfl
     rw[sal (by lia:(0:Int)<ns.length),saf rfl]
     have:f2 zX (zf 0) (fC (.int 0)) [.p (.scr ns),.p (.int k),.p (.int 0),.un]=.ok (.p (.int (uo ns))):=by
      show zX (.scr ns) (.int 0)=_;simp only[zX,a0]
     simp only[zS,this,zk];rfl
    ·rw[saw (by lia:¬(0:Int)<ns.length),sah sax];unfold uo;rw[sah hn];rfl
   have s4:wc (z0 (f2 bV (fB uk (zi (zf 0) (zz))) (fC (.int 0)))) (zS 2 true (f2 zX (zf 0) (f2 yA (zf 1) (fB p7 (zi (fC (.int 63)) (zi (fB uk (zi (zf 0) (zz))) (zz))))))) (wo) [.p (.scr ns),.p (.int k),.p (.int (uo ns)),.un]=.ok (.next [.p (.scr ns),.p (.int k),.p (.int (qS ns k)),.un]):=by
    rw[st (tl _ _)];by_cases hn:0<ns.length
    ·have hmin:(if(ns.length:Int)<63 then(ns.length:Int)else 63)=min 63 (ns.length:Int):=by
      rw[Int.min_def];split <;> split <;> lia
     have hmp:0<min 63 (ns.length:Int):=by lia
     have hq0:0≤k%min 63 (ns.length:Int):=sbS _ (by lia);have hq1:k%min 63 (ns.length:Int)<min 63 (ns.length:Int):=sca _ hmp;have hq2:(k%min 63 (ns.length:Int)).toNat<ns.length:=by lia
     have ak:t9 ns (k%min 63 (ns.length:Int))=some (qS ns k):=by
      rw[r9 _ _ hq0];unfold qS;rw[saf hn,List.getD_eq_getElem?_getD,sad hq2];rfl
     rw[sal (by lia:(0:Int)<ns.length),saf rfl];simp[hmin,hmp,ak]
    ·rw[saw (by lia:¬(0:Int)<ns.length),sah sax];unfold uo qS;rw[sah hn,sah hn];rfl
   have hbl:zx uK (zi (zf 0) (zi (zf 1) (zz))) [.p (.scr ns),.p (.int k),.p (.int (uo ns)),.un]=.ok (.p (.int (r8 ns k))):=by simp[uK,hk0]
   have t3:rf (z0 (f2 mq (f2 yA (f2 x6 (zf 2) (f2 eI (fC (.int 10)) (fC (.int 6)))) (fC (.int 2))) (fC (.int 1)))) (z0 (f2 lW (zx uK (zi (zf 0) (zi (zf 1) (zz)))) (fC (.int 0)))) [.p (.scr ns),.p (.int k),.p (.int (uo ns)),.un]=.ok (decide (uo ns / 10^6%2=1∧r8 ns k≠0)):=by
    have c1:z0 (f2 mq (f2 yA (f2 x6 (zf 2) (f2 eI (fC (.int 10)) (fC (.int 6)))) (fC (.int 2))) (fC (.int 1))) [.p (.scr ns),.p (.int k),.p (.int (uo ns)),.un]=.ok (decide (uo ns / 10^6%2=1)):=by
     simp[d6];rfl
    have c2:z0 (f2 lW (zx uK (zi (zf 0) (zi (zf 1) (zz)))) (fC (.int 0))) [.p (.scr ns),.p (.int k),.p (.int (uo ns)),.un]=.ok (decide (r8 ns k≠0)):=by
     simp only[z0,f2,hbl,zk,fC,Val.d]
     by_cases z:r8 ns k=0 <;> simp[z]
    simp only[rf,c1,c2,zk];by_cases z:uo ns / 10^6%2=1
    ·rw[sal z,saf rfl];exact congrArg Out.ok (decide_eq_decide.mpr ⟨fun q=>⟨z,q⟩,fun q=>q.2⟩)
    ·rw[saw z,sah sax,saw (fun q=>z q.1)]
   have sn:∀{A B:FS} {env env':Ev},A env=.ok (.next env')→zJ A B env=B env':=fun {A B env env'} q=>by simp only[zJ,q,zk]
   unfold eO zC;show(((zJ _ _:FS) [.p (.scr ns),.p (.int k),.un,.un]).bind _)=_;rw[sn (env':=[.p (.scr ns),.p (.int k),.p (.int 0),.un]) rfl,sn s2];by_cases hc:uo ns / 10^6%2=1∧r8 ns k≠0
   ·rw[sal hc]at t3;rw[saf hc,zJ,st t3,saf rfl];simp only[yu,f2,hbl,zk,fC,Val.d];rfl
   ·rw[saw hc]at t3
    rw[sah hc,sn (env':=[.p (.scr ns),.p (.int k),.p (.int (uo ns)),.un]) (by
     rw[st t3,sah sax]
     rfl),sn s4]
    simp[m1,m2,u1,m3,u2,m4]
  ·cases h
 ·cases h
noncomputable def eP:FS :=
 zJ (zS 1 true (f2 zX (xk (zw (fC (.int 1)) (zw (f2 yB (fC (.int 1)) (f2 yA (zx wL (zi (zf 0) (zi (fC (.int 0)) (zz)))) (f2 eI (fC (.int 10)) (fC (.int 9))))) (yd)))) (f2 yA (zx yV (zi (zf 0) (zi (fC (.int 14)) (zz)))) (fC (.int 2)))))
 (zJ (zS 2 true (f2 zX (xk (zw (fC (.int 1)) (zw (f2 yB (fC (.int 1)) (f2 yA (zx wL (zi (zf 0) (zi (fC (.int 1)) (zz)))) (f2 eI (fC (.int 10)) (fC (.int 18))))) (yd)))) (f2 yA (zx yV (zi (zf 0) (zi (fC (.int 15)) (zz)))) (fC (.int 2)))))
 (zJ (zS 3 true (f2 zX (xk (zw (fC (.int 20)) (zw (f2 eI (fC (.int 10)) (fC (.int 30))) (yd)))) (f2 yA (zx yV (zi (zf 0) (zi (fC (.int 16)) (zz)))) (fC (.int 2)))))
 (zJ (zS 4 true (f2 xR (f2 yA (zx yV (zi (zf 0) (zi (fC (.int 17)) (zz)))) (fC (.int 7))) (fC (.int 3))))
 (zJ (zS 5 true (f2 xR (f2 yA (zx wL (zi (zf 0) (zi (fC (.int 2)) (zz)))) (zf 3)) (f2 x6 (zf 3) (fC (.int 2)))))
 (yu (wB (zw (zf 1) (zw (zf 2) (zw (zf 4) (zw (zf 5) (zw (f2 xR (f2 yA (zx wL (zi (zf 0) (zi (fC (.int 3)) (zz)))) (zf 3)) (f2 x6 (zf 3) (fC (.int 2)))) (yd))))))))))))
noncomputable def uN (ns:List Int):Int:=if zC ns 16%2=0 then 20 else 10^30
noncomputable def zL (ns:List Int):Frm where
 w:=if zC ns 14%2=0 then 1 else 1+ns.getD 0 0%10^9
 h:=if zC ns 15%2=0 then 1 else 1+ns.getD 1 0%10^18
 s:=zC ns 17%7 - 3
 r:=ns.getD 2 0%uN ns - uN ns / 2
 u:=ns.getD 3 0%uN ns - uN ns / 2
theorem VN (ns:List Int):20≤uN ns∧uN ns≤10^30:=by
 unfold uN
 split <;> decide
theorem aZ (ns:List Int):FrmOk (zL ns):=by
 have hf:=VN ns;have a1:=sbS (ns.getD 2 0) (show uN ns≠0 by lia);have a2:=sca (ns.getD 2 0) (show 0<uN ns by lia);have b1:=sbS (ns.getD 3 0) (show uN ns≠0 by lia);have b2:=sca (ns.getD 3 0) (show 0<uN ns by lia)
 constructor <;> simp only[zL]
 ·split <;> lia
 ·split <;> lia
 ·split <;> lia
 ·split <;> lia
 ·lia
 ·lia
 ·lia
 ·lia
 ·lia
 ·lia
noncomputable def pD:List D→Out Val
 |[.scr ns]=>.ok (.p (yp (zL ns)))
 |_=>.bad
theorem TJ (a b:D)(m:Int):t9 [a,b] (m%2)=some (if m%2=0 then a else b):=by
 rw[r9 _ _ (by lia)];have:m%2=0∨m%2=1:=by lia
 rcases this with h|h <;> rw[h] <;> rfl
theorem aG:∀ds v,ds.length=1→pD ds=.ok v→zP 6 eP ds=.ok v:=by
 intro ds v hlen h;clear hlen;unfold pD at h;split at h
 ·rename_i ns;cases h;have hf:=VN ns;have d2:oJ (uN ns) 2=true:=vD (by decide) (by decide);have hp:0<uN ns:=by lia
  have sn:∀{A B:FS} {env env':Ev},A env=.ok (.next env')→zJ A B env=B env':=fun {A B env env'} q=>by simp only[zJ,q,zk]
  have pk:∀a b m:Int,zX (.l [.int a,.int b]) (.int (m%2))=.ok (.p (.int (if m%2=0 then a else b))):=fun a b m=>by
   simp only[zX,TJ]
   split <;> rfl
  have lo:∀c:Int,f2 xR (f2 yA (fC (.int c)) (fC (.int (uN ns)))) (f2 x6 (fC (.int (uN ns))) (fC (.int 2))) []=.ok (.p (.int (c%uN ns - uN ns / 2))):=fun c=>by simp[hp,d2]
  unfold eP;show(((zJ _ _:FS) [.p (.scr ns),.un,.un,.un,.un,.un]).bind _)=_
  rw[sn (env':=[.p (.scr ns),.p (.int (zL ns).w),.un,.un,.un,.un]) (by
   show((zX (.l [.int 1,.int (1+ns.getD 0 0%10^9)]) (.int (zC ns 14%2))).bind _)=_;rw[pk]
   rfl)]
  rw[sn (env':=[.p (.scr ns),.p (.int (zL ns).w),.p (.int (zL ns).h),.un,.un,.un]) (by
   show((zX (.l [.int 1,.int (1+ns.getD 1 0%10^18)]) (.int (zC ns 15%2))).bind _)=_;rw[pk]
   rfl)]
  rw[sn (env':=[.p (.scr ns),.p (.int (zL ns).w),.p (.int (zL ns).h),.p (.int (uN ns)),.un,.un]) (by
   show((zX (.l [.int 20,.int (10^30)]) (.int (zC ns 16%2))).bind _)=_;rw[pk]
   rfl)]
  rw[sn (env':=[.p (.scr ns),.p (.int (zL ns).w),.p (.int (zL ns).h),.p (.int (uN ns)),.p (.int (zL ns).s),.un]) rfl]
  rw[sn (env':=[.p (.scr ns),.p (.int (zL ns).w),.p (.int (zL ns).h),.p (.int (uN ns)),.p (.int (zL ns).s),.p (.int (zL ns).r)]) (by
   show((f2 xR (f2 yA (fC (.int (ns.getD 2 0))) (fC (.int (uN ns)))) (f2 x6 (fC (.int (uN ns))) (fC (.int 2))) []).bind _)=_;rw[lo]
   rfl)]
  have fin:wB (zw (zf 1) (zw (zf 2) (zw (zf 4) (zw (zf 5) (zw (f2 xR (f2 yA (zx wL (zi (zf 0) (zi (fC (.int 3)) (zz)))) (zf 3)) (f2 x6 (zf 3) (fC (.int 2)))) (yd)))))) [.p (.scr ns),.p (.int (zL ns).w),.p (.int (zL ns).h),.p (.int (uN ns)),.p (.int (zL ns).s),.p (.int (zL ns).r)]=.ok (.p (yp (zL ns))):=by
   have:f2 xR (f2 yA (zx wL (zi (zf 0) (zi (fC (.int 3)) (zz)))) (zf 3)) (f2 x6 (zf 3) (fC (.int 2))) [.p (.scr ns),.p (.int (zL ns).w),.p (.int (zL ns).h),.p (.int (uN ns)),.p (.int (zL ns).s),.p (.int (zL ns).r)]=.ok (.p (.int (zL ns).u)):=lo (ns.getD 3 0);simp only[wB,zw,yd,this,zk];rfl
  simp only[yu,fin,zk]
 ·cases h
noncomputable def Zb:FS :=
 zJ (zS 1 true (zx yV (zi (zf 0) (zi (fC (.int 0)) (zz)))))
 (zJ (zS 2 true (f2 zX (xk (zw (f2 yA (zf 1) (fC (.int 7))) (zw (f2 yA (zf 1) (fC (.int 7))) (zw (fC (.int 12)) (yd))))) (f2 yA (f2 x6 (f2 yA (f2 x6 (zf 1) (fC (.int 7))) (fC (.int 8))) (fC (.int 3))) (fC (.int 3)))))
 (zJ (zS 3 false (xk (yd)))
 (zJ (vq (qp (zi (zf 2) (zz))) (gN 4)
 (zJ (zS 1 true (zx yV (zi (zf 0) (zi (f2 yB (fC (.int 1)) (zf 4)) (zz)))))
 (zJ (zS 5 true (wB (zw (f2 vC (fC (.int 2)) (f2 yA (zf 1) (fC (.int 5)))) (zw (f2 yA (f2 x6 (zf 1) (fC (.int 5))) (fC (.int 7))) (yd)))))
 (wc (z0 (f2 XB (zf 5) (zf 3)))
 (qv 3 (zf 5))
 (wo)))))
 (yu (zf 3)))))
noncomputable def vz (ns:List Int)(k:Nat):Int×Int:=(2*(zC ns (1+k)%5),zC ns (1+k) / 5%7)
noncomputable def vA (ns:List Int):Int:=if zC ns 0 / 7%8 / 3%3=2 then 12 else zC ns 0%7
noncomputable def z9 (ns:List Int):Nat→List (Int×Int)
 | 0=>[]
 |n+1=>if vz ns n∈z9 ns n then z9 ns n else z9 ns n++[vz ns n]
noncomputable def yi (ns:List Int):List (Int×Int):=z9 ns (vA ns).toNat
theorem eA (ns:List Int):0≤vA ns∧vA ns≤12:=by
 unfold vA
 split <;> lia
theorem nI (ns:List Int):∀n,(z9 ns n).length≤n
 | 0=>Nat.le_refl _
 | n+1=>by
   have:=nI ns n;unfold z9;split
   ·lia
   ·simp;lia
theorem oh (ns:List Int):∀n,(z9 ns n).Nodup
 | 0=>List.nodup_nil
 | n+1=>by
   unfold z9;split
   ·exact oh ns n
   ·rename_i h;rw[scA];refine⟨oh ns n,by simp,fun a ha b hb=>?_⟩;have:b=vz ns n:=by simpa using hb
    subst this;rintro rfl;exact h ha
theorem cA (ns:List Int)(k:Nat):(∃i:Int,(vz ns k).1=2*i∧0≤i∧i≤4)∧0≤(vz ns k).2∧(vz ns k).2≤6:=by
 unfold vz;refine⟨⟨zC ns (1+k)%5,rfl,by lia,by lia⟩,by lia,by lia⟩
theorem rJ (ns:List Int):∀n,∀p∈z9 ns n,(∃i:Int,p.1=2*i∧0≤i∧i≤4)∧0≤p.2∧p.2≤6
 | 0,p,h=>by simp[z9]at h
 | n+1,p,h=>by
   unfold z9 at h;split at h
   ·exact rJ ns n p h
   ·rcases san.mp h with h|h
    ·exact rJ ns n p h
    ·have:p=vz ns n:=by simpa using h
     rw[this];exact cA ns n
noncomputable def mS:List D→Out Val
 |[.scr ns]=>.ok (.fresh ((yi ns).map zd))
 |_=>.bad
theorem Xk:∀ds v,ds.length=1→mS ds=.ok v→zP 6 Zb ds=.ok v:=by
 intro ds v hlen h;clear hlen;unfold mS at h;split at h
 ·rename_i ns;cases h;have hm0:=Vi ns 0;have d7:oJ (zC ns 0) 7=true:=vD (by decide) (by decide);have d3:oJ (zC ns 0 / 7%8) 3=true:=vD (by decide) (by decide);have hmany:=eA ns
  have hat:t9 [D.int (zC ns 0%7),D.int (zC ns 0%7),D.int 12] (zC ns 0 / 7%8 / 3%3)=some (.int (vA ns)):=by
   rw[r9 _ _ (by lia)];unfold vA;have:zC ns 0 / 7%8 / 3%3=0∨zC ns 0 / 7%8 / 3%3=1∨zC ns 0 / 7%8 / 3%3=2:=by lia
   rcases this with h|h|h <;> rw[h] <;> rfl
  have hr:(-1000000:Int)≤vA ns∧vA ns≤1000000:=by lia
  have loop:=nV (g:=gN 4) (fb:=zJ (zS 1 true (zx yV (zi (zf 0) (zi (f2 yB (fC (.int 1)) (zf 4)) (zz)))))
 (zJ (zS 5 true (wB (zw (f2 vC (fC (.int 2)) (f2 yA (zf 1) (fC (.int 5)))) (zw (f2 yA (f2 x6 (zf 1) (fC (.int 5))) (fC (.int 7))) (yd)))))
 (wc (z0 (f2 XB (zf 5) (zf 3)))
 (qv 3 (zf 5))
 (wo)))) (fun i env=>∃s1 s2 s4 s5,env=[.p (.scr ns),s1,s2,.own ((z9 ns i).map zd),s4,s5]) (sv 0 (vA ns).toNat) 0
   [.p (.scr ns),.p (.int (zC ns 0)),.p (.int (vA ns)),.own [],.un,.un] ⟨_,_,_,_,rfl⟩ (fun j d env _ hd ⟨s1,s2,s4,s5,he⟩=>by
    subst he;obtain⟨hj,rfl⟩:=fO hd;simp only[Nat.sub_zero]at hj ⊢;have hk:(0:Int)≤1+(j:Int)∧1+(j:Int)≤1000000:=by lia
    have c2:uq 2 (zC ns (1+(j:Int))%5)=true:=vQ (by decide) (by decide);have d5:oJ (zC ns (1+(j:Int))) 5=true:=vD (by decide) (by decide);have hs:wI 4 (.tup [.int (2*(zC ns (1+(j:Int))%5)),.int (zC ns (1+(j:Int)) / 5%7)])=true:=by simp
    have ha:((z9 ns j).map zd).any (fun z=>oF z (.tup [.int (2*(zC ns (1+(j:Int))%5)),.int (zC ns (1+(j:Int)) / 5%7)]))=decide (vz ns j∈z9 ns j):=bT (vz ns j) _;have hl:=nI ns j;have hl2:(z9 ns j).length<100000:=by lia
    have sn:∀{A B:FS} {env env':Ev},A env=.ok (.next env')→zJ A B env=B env':=fun {A B env env'} q=>by simp only[zJ,q,zk]
    have b1:zS 1 true (zx yV (zi (zf 0) (zi (f2 yB (fC (.int 1)) (zf 4)) (zz)))) [.p (.scr ns),s1,s2,.own ((z9 ns j).map zd),.p (.int j),s5]=.ok (.next [.p (.scr ns),.p (.int (zC ns (1+(j:Int)))),s2,.own ((z9 ns j).map zd),.p (.int j),s5]):=by
     have:zx yV (zi (zf 0) (zi (f2 yB (fC (.int 1)) (zf 4)) (zz))) [.p (.scr ns),s1,s2,.own ((z9 ns j).map zd),.p (.int j),s5]=.ok (.p (.int (zC ns (1+(j:Int))))):=by
      show((if 0≤1+(j:Int)∧1+(j:Int)≤1000000 then Out.ok (Val.p (.int (zC ns (1+(j:Int)))))else Out.bad).bind _)=_;rw[saf hk];rfl
     simp only[zS,this,zk];rfl
    have b2:zS 5 true (wB (zw (f2 vC (fC (.int 2)) (f2 yA (zf 1) (fC (.int 5)))) (zw (f2 yA (f2 x6 (zf 1) (fC (.int 5))) (fC (.int 7))) (yd)))) [.p (.scr ns),.p (.int (zC ns (1+(j:Int)))),s2,.own ((z9 ns j).map zd),.p (.int j),s5]=.ok (.next [.p (.scr ns),.p (.int (zC ns (1+(j:Int)))),s2,.own ((z9 ns j).map zd),.p (.int j),.p (zd (vz ns j))]):=by
     simp[c2,d5,zd,vz]
    have b3:z0 (f2 XB (zf 5) (zf 3)) [.p (.scr ns),.p (.int (zC ns (1+(j:Int)))),s2,.own ((z9 ns j).map zd),.p (.int j),.p (zd (vz ns j))]=.ok (!decide (vz ns j∈z9 ns j)):=by
     rw[←ha];simp[-List.any_map,zd,vz]
    by_cases hin:vz ns j∈z9 ns j
    ·rw[sal hin]at b3;refine⟨_,[.p (.scr ns),.p (.int (zC ns (1+(j:Int)))),s2,.own ((z9 ns j).map zd),.p (.int j),.p (zd (vz ns j))],rfl,?_,⟨_,_,_,_,by rw[z9,saf hin]⟩⟩;rw[Int.zero_add];show(zJ _ _:FS) [.p (.scr ns),s1,s2,.own ((z9 ns j).map zd),.p (.int j),s5]=_;rw[sn b1,sn b2];simp only[wc,b3,zk];rfl
    ·rw[saw hin]at b3;refine⟨_,[.p (.scr ns),.p (.int (zC ns (1+(j:Int)))),s2,.own ((z9 ns j++[vz ns j]).map zd),.p (.int j),.p (zd (vz ns j))],rfl,?_,⟨_,_,_,_,by rw[z9,sah hin]⟩⟩;rw[Int.zero_add];show(zJ _ _:FS) [.p (.scr ns),s1,s2,.own ((z9 ns j).map zd),.p (.int j),s5]=_;rw[sn b1,sn b2];simp only[wc,b3,zk]
     simp[hl2])
  obtain⟨env',e,s1,s2,s4,s5,he⟩:=loop;subst he;simp only[ZZ,Nat.zero_add]at e;have sn:∀{A B:FS} {env env':Ev},A env=.ok (.next env')→zJ A B env=B env':=fun {A B env env'} q=>by simp only[zJ,q,zk]
  have ix:f2 yA (f2 x6 (f2 yA (f2 x6 (zf 1) (fC (.int 7))) (fC (.int 8))) (fC (.int 3))) (fC (.int 3)) [.p (.scr ns),.p (.int (zC ns 0)),.un,.un,.un,.un]=.ok (.p (.int (zC ns 0 / 7%8 / 3%3))):=by simp[d7,d3]
  have pk:f2 zX (xk (zw (f2 yA (zf 1) (fC (.int 7))) (zw (f2 yA (zf 1) (fC (.int 7))) (zw (fC (.int 12)) (yd))))) (f2 yA (f2 x6 (f2 yA (f2 x6 (zf 1) (fC (.int 7))) (fC (.int 8))) (fC (.int 3))) (fC (.int 3))) [.p (.scr ns),.p (.int (zC ns 0)),.un,.un,.un,.un]=.ok (.p (.int (vA ns))):=by
   have l:xk (zw (f2 yA (zf 1) (fC (.int 7))) (zw (f2 yA (zf 1) (fC (.int 7))) (zw (fC (.int 12)) (yd)))) [.p (.scr ns),.p (.int (zC ns 0)),.un,.un,.un,.un]=.ok (.fresh [.int (zC ns 0%7),.int (zC ns 0%7),.int 12]):=rfl;show((xk (zw (f2 yA (zf 1) (fC (.int 7))) (zw (f2 yA (zf 1) (fC (.int 7))) (zw (fC (.int 12)) (yd)))) [.p (.scr ns),.p (.int (zC ns 0)),.un,.un,.un,.un]).bind _)=_;rw[l,zk,ix,zk];simp only[zX,Val.d,hat]
  have rg:qp (zi (zf 2) (zz)) [.p (.scr ns),.p (.int (zC ns 0)),.p (.int (vA ns)),.own [],.un,.un]=.ok (sv 0 (vA ns).toNat):=by
   show(if -1000000≤vA ns∧vA ns≤1000000 then _ else _)=_;rw[saf hr]
  unfold Zb;show(((zJ _ _:FS) [.p (.scr ns),.un,.un,.un,.un,.un]).bind _)=_;rw[sn (env':=[.p (.scr ns),.p (.int (zC ns 0)),.un,.un,.un,.un]) rfl]
  rw[sn (env':=[.p (.scr ns),.p (.int (zC ns 0)),.p (.int (vA ns)),.un,.un,.un]) (by
   simp only[zS,pk,zk]
   rfl)]
  rw[sn (env':=[.p (.scr ns),.p (.int (zC ns 0)),.p (.int (vA ns)),.own [],.un,.un]) rfl]
  rw[sn (by
   simp only[vq,rg,zk]
   exact e)]
  rfl
 ·cases h
noncomputable def Yu:FS :=
 zJ (QW (gT [2,3,4,5,6]) (zf 1))
 (yu (xA [2,5,3,4,6] 2 (xS (zf 0)) (gT [5,6]) (oB) (wB (zw (f2 yB (f2 vC (zf 0) (zf 5)) (zf 1)) (zw (f2 yB (f2 yB (f2 vC (zf 2) (zf 6)) (f2 vC (zf 3) (zf 5))) (zf 4)) (yd))))))
noncomputable def tW:List D→Out Val:=zP 7 Yu
theorem Vb:∀ds v,ds.length=2→tW ds=.ok v→zP 7 Yu ds=.ok v:=fun _ _ _ h=>h
theorem UI {ps:List (Int×Int)}{w h' s r u:Int}(hl:ps.length≤100000)(w1:1≤w)(w2:w≤10^9)(h1:1≤h')(h2:h'≤10^18)(s1 : -3≤s)(s2:s≤3) :
 tW [.l (ps.map zd),.tup [.int w,.int h',.int s,.int r,.int u]]=.ok (.fresh ((ps.map (yo ⟨w,h',s,r,u⟩)).map zd)):=by
 have cw:∀j,uq w j=true:=fun j=>vQ (by lia) (by lia);have ch:∀j,uq h' j=true:=fun j=>vQ (by lia) (by lia);have cs:∀j,uq s j=true:=fun j=>vQ (by lia) (by lia)
 have loop:=vo (g:=gT [5,6]) (ft:=oB) (fe:=wB (zw (f2 yB (f2 vC (zf 0) (zf 5)) (zf 1)) (zw (f2 yB (f2 yB (f2 vC (zf 2) (zf 6)) (f2 vC (zf 3) (zf 5))) (zf 4)) (yd))))
  (fun env=>∃s5 s6,env=[.p (.int w),.p (.int r),.p (.int h'),.p (.int s),.p (.int u),s5,s6]) zd (fun p=>some (zd (yo ⟨w,h',s,r,u⟩ p))) ps
  [.p (.int w),.p (.int r),.p (.int h'),.p (.int s),.p (.int u),.un,.un] ⟨_,_,rfl⟩ (fun p env _ ⟨s5,s6,he⟩=>by
   subst he;refine⟨[.p (.int w),.p (.int r),.p (.int h'),.p (.int s),.p (.int u),.p (.int p.1),.p (.int p.2)],by simp[zd],⟨_,_,rfl⟩,.inr ⟨_,.p (zd (yo ⟨w,h',s,r,u⟩ p)),rfl,rfl,?_,rfl⟩⟩
   simp[cw,ch,cs,zd,yo])
 have e:ps.filterMap (fun p=>some (zd (yo ⟨w,h',s,r,u⟩ p)))=(ps.map (yo ⟨w,h',s,r,u⟩)).map zd:=by
  rw[List.filterMap_eq_map',sbp];rfl
 simp at loop e;unfold tW;simp[Yu,hl,loop,e]
structure Ga where
 x:Int
 lo:Option Int
 hi:Option Int
 w:Int
deriving DecidableEq
noncomputable def w5:Option Int→D
 |none=>.non
 |some i=>.int i
noncomputable def zm (g:Ga):D:=.tup [.int g.x,w5 g.lo,w5 g.hi,.int g.w]
theorem eQ (a b:Option Int):oF (w5 a) (w5 b)=decide (a=b):=by
 cases a with
 |none=>cases b <;> simp[w5]
 | some i=>
   cases b with
   |none=>simp[w5]
   |some j=>by_cases h:i=j <;> simp[w5,h]
theorem oZ (n:Nat)(a:Option Int):wI n (w5 a)=true:=by cases a <;> simp[w5]
theorem Tn (g h:Ga):oF (zm g) (zm h)=decide (g=h):=by
 unfold zm;rw[eR,xZ,xZ,xZ,xZ,nZ,pN,pN,eQ,eQ];obtain⟨a,b,c,d⟩:=g;obtain⟨a',b',c',d'⟩:=h
 by_cases h1:a=a' <;> by_cases h2:b=b' <;> by_cases h3:c=c' <;> by_cases h4:d=d' <;> simp[h1,h2,h3,h4]
theorem Y6 (n:Nat)(g:Ga):wI (n+1) (zm g)=true:=by simp[zm,oZ]
theorem ah (n:Nat)(gs:List Ga):wI (n+2) (.l (gs.map zm))=true:=by
 rw[Wz,List.all_map,sbL];intro g _;exact Y6 n g
noncomputable def bQ:D→Option (Option Int)
 | .non=>some none
 | .int i=>some (some i)
 |_=>none
noncomputable def oP:D→Option Ga
 | .tup [.int x,lo,hi,.int w]=>match bQ lo,bQ hi with
   |some l,some h=>some ⟨x,l,h,w⟩
   |_,_=>none
 |_=>none
theorem X6 (a:Option Int):bQ (w5 a)=some a:=by cases a <;> rfl
theorem bP {d:D}{a:Option Int}(h:bQ d=some a):d=w5 a:=by
 unfold bQ at h;split at h
 ·cases h;rfl
 ·cases h;rfl
 ·cases h
theorem l_ (g:Ga):oP (zm g)=some g:=by
 simp[oP,zm,X6]
theorem lE {d:D}{g:Ga}(h:oP d=some g):d=zm g:=by
 unfold oP at h;split at h
 ·split at h
  ·rename_i h1 h2;cases h;rw[bP h1,bP h2];rfl
  ·cases h
 ·cases h
noncomputable def pQ:List D→Option (List Ga)
 |[]=>some []
 | d::ds=>match oP d,pQ ds with
   |some g,some gs=>some (g::gs)
   |_,_=>none
theorem t_:∀gs:List Ga,pQ (gs.map zm)=some gs
 |[]=>rfl
 |g::gs=>by simp[pQ,l_,t_ gs]
theorem iq:∀{ds:List D} {gs:List Ga},pQ ds=some gs→ds=gs.map zm
 |[],gs,h=>by cases h;rfl
 | d::ds,gs,h=>by
   unfold pQ at h;split at h
   ·rename_i g gs' h1 h2;cases h;rw[lE h1,iq h2];rfl
   ·cases h
noncomputable def gf (g h:Ga):Bool:=decide (g.x=h.x∧g.lo=h.lo∧g.hi=h.hi) && !decide (g.w=h.w)
noncomputable def yn (st:List Ga)(g:Ga):List Ga:=match st.getLast? with
 |some t=>if gf t g=true then st.dropLast else st++[g]
 |none=>st++[g]
noncomputable def zN (gs:List Ga):List Ga:=gs.foldl yn []
theorem i8 (st:List Ga)(g:Ga):(yn st g).length≤st.length+1:=by
 unfold yn;split
 ·split <;> simp
  lia
 ·simp
theorem zq {f g:FS}{env env':Ev}(h:f env=.ok (.next env')):zJ f g env=g env':=by
 simp only[zJ,h,zk]
theorem wX {f g:FS}{env:Ev}{v:Val}(h:f env=.ok (.ret v)):zJ f g env=.ok (.ret v):=by
 simp only[zJ,h,zk]
theorem WG:¬(HT.sIx 4 0 none=0∧HT.sIx 4 4 (some 3)=4):=by decide
theorem On (g h:Ga):oF (.tup [.int g.x,w5 g.lo,w5 g.hi]) (.tup [.int h.x,w5 h.lo,w5 h.hi])=decide (g.x=h.x∧g.lo=h.lo∧g.hi=h.hi):=by
 rw[eR,xZ,xZ,xZ,nZ,pN,eQ,eQ]
 by_cases h1:g.x=h.x <;> by_cases h2:g.lo=h.lo <;> by_cases h3:g.hi=h.hi <;> simp[h1,h2,h3]
theorem RG (a b c d:D):qP [a,b,c,d] none (some 3)=[a,b,c]:=rfl
noncomputable def PP (n:Nat):Int→List Ga→Prop
 |h,[]=>0≤h∧h≤n
 |h,g::gs=>0≤h∧h≤n∧PP n (h+g.w) gs
noncomputable def uV (g:Ga):Prop:=g.w=1∨g.w = -1
theorem U0 (ns:List Int):(met ns).Sublist ns:=by
 refine ek (fun ns=>(met ns).Sublist ns) (List.Sublist.refl _) (fun l k ih=>?_) ns;rw[nS];split
 ·exact ih.trans (List.sublist_append_left l [k])
 ·exact ih.append (List.Sublist.refl _)
theorem aV (qs:List (Int×Int)):vO qs=(met (qs.map (·.1))).map fun x=>(x,(qs.filter fun p=>p.1 == x).map (·.2)):=by
 have ind:∀(n:Nat) (qs:List (Int×Int)),qs.length=n→vO qs=(met (qs.map (·.1))).map fun x=>(x,(qs.filter fun p=>p.1 == x).map (·.2)):=by
  intro n
  induction n with
  |zero=>intro qs h;rw[sbg h];rfl
  | succ n ih=>
    intro qs h
    rcases List.eq_nil_or_concat qs with e|⟨m,p,e⟩
    ·subst e;simp at h
    ·have e':qs=m++[p]:=by simpa using e
     subst e';have ihm:=ih m (by simpa using h);rw[lV,ihm,saM,List.map_cons,List.map_nil,nS]
     have hany:((met (m.map (·.1))).map fun x=>((x,(m.filter fun p=>p.1 == x).map (·.2)):TQ)).any (fun g=>decide (g.1=p.1))=decide (p.1∈met (m.map (·.1))):=by
      rw[List.any_map];by_cases hp:p.1∈met (m.map (·.1))
      ·rw[sal hp,sbe];exact⟨p.1,hp,by simp⟩
      ·rw[saw hp,scB];intro x hx;simp only[Function.comp,sap];intro z;exact hp (z ▸ hx)
     unfold iS;rw[hany];by_cases hp:p.1∈met (m.map (·.1))
     ·rw[saf (sal hp),saf hp,sbp];refine saP fun x _=>?_;simp only[Function.comp,List.filter_append,saM];by_cases hx:x=p.1
      ·subst hx;simp
      ·have hx':¬p.1=x:=fun z=>hx z.symm;simp[hx,hx']
     ·rw[sah (by simp[hp]),sah hp,saM];congr 1
      ·refine saP fun x hx=>?_;have hx':¬p.1=x:=fun z=>hp (z ▸ hx);simp[List.filter_append,hx']
      ·have hm:m.filter (fun q=>q.1 == p.1)=[]:=by
        rw[sbn];intro q hq;simp only[beq_iff_eq];intro z;exact hp ((Yd _ _).mpr (saz.mpr ⟨q,hq,z⟩))
       simp[List.filter_append,hm]
 exact ind _ qs rfl
theorem eH {ps:List (Int×Int)}(hn:ps.Nodup):vO (vH ps)=zo ps:=by
 have hs:=rH hn;have hp:=uY ps;rw[aV];unfold zo
 have e1:met ((vH ps).map (·.1))=qK (ps.map (·.1)).eraseDups:=by
  refine sq (List.Perm.trans ?_ (xQ _).symm) ?_ (wM _)
  ·rw[List.perm_ext_iff_of_nodup (Xp _) (uB _ _ (Nat.le_refl _))];intro k;rw[Yd,List.mem_eraseDups];exact(hp.map (·.1)).mem_iff
  ·refine List.Pairwise.sublist (U0 _) ?_;rw[sbE];refine hs.imp fun {a b} h=>?_;simp only[oi,sap]at h;lia
 rw[e1];refine saP fun x _=>?_;refine congrArg (Prod.mk x) (sq (List.Perm.trans ((hp.filter _).map _) (xQ _).symm) ?_ (wM _));rw[sbE];refine List.Pairwise.imp_of_mem ?_ (hs.filter _);intro a b ha hb h;have h1:a.1=x:=by simpa using(saK.mp ha).2
 have h2:b.1=x:=by simpa using(saK.mp hb).2
 simp only[oi,sap]at h;lia
theorem aJ:∀{ks:List (List Int)},ks.Nodup→uj ks=ks:=by
 intro ks
 have ind:∀(n:Nat) (ks:List (List Int)),ks.length=n→ks.Nodup→uj ks=ks:=by
  intro n
  induction n with
  |zero=>intro ks h _;rw[sbg h];rfl
  | succ n ih=>
    intro ks h hn
    rcases List.eq_nil_or_concat ks with e|⟨m,k,e⟩
    ·subst e;simp at h
    ·have e':ks=m++[k]:=by simpa using e
     subst e';rw[scA]at hn;rw[gh,ih m (by simpa using h) hn.1,sah];intro hk;exact hn.2.2 k hk k (by simp) rfl
 exact ind _ ks rfl
theorem ay {ps:List (Int×Int)}(hn:ps.Nodup):(ps.map mJ).Nodup:=by
 rw[List.nodup_iff_pairwise_ne,sbE];refine(List.nodup_iff_pairwise_ne.mp hn).imp fun {a b} h z=>h ?_;simp only[mJ,List.cons.injEq,and_true]at z;obtain⟨a1,a2⟩:=a;obtain⟨b1,b2⟩:=b
 simp_all
noncomputable abbrev zh:=Int×Int
noncomputable abbrev yG:=Int×List Int
noncomputable def near (a b:zh):Prop := -(2^64)<b.1 - a.1∧b.1 - a.1<2^64
noncomputable def yc (a b:zh)(x:Int):Bool:=(decide (a.1<x)&&decide (x<b.1)) ||(decide (b.1<x)&&decide (x<a.1))
noncomputable def nK (a b p:zh):Bool:=decide ((b.2 - a.2)*(p.1 - a.1)=(p.2 - a.2)*(b.1 - a.1))
noncomputable def uA (a b:zh)(ps:List zh):Bool:=ps.any fun p=>yc a b p.1&&nK a b p
theorem dz {a b:zh}{x:Int}(h:yc a b x=true)(n:near a b) : -(2^64)<x - a.1∧x - a.1<2^64:=by
 unfold yc at h;unfold near at n;simp only[sbI,saS,sap]at h;lia
theorem X_ (p:zh):t9 [D.int p.1,D.int p.2] 0=some (.int p.1):=rfl
theorem RO (p:zh):t9 [D.int p.1,D.int p.2] 1=some (.int p.2):=rfl
noncomputable def sT (a:zh)(ps:List zh):Nat→zh→zh
 | 0,c=>c
 |n+1,c=>if uA a c ps=true then sT a ps n (c.1,c.2+1)else c
theorem Vt (a:zh)(ps:List zh):∀n c,(sT a ps n c).1=c.1
 | 0,c=>rfl
 | n+1,c=>by
   unfold sT;split
   ·rw[Vt a ps n]
   ·rfl
theorem few {α β:Type}(f:α→β→Bool)(uniq:∀p j k,f p j=true→f p k=true→j=k):∀(ps:List α) (js:List β),js.Nodup→(∀j∈js,∃p∈ps,f p j=true)→js.length≤ps.length
 |[],[],_,_=>Nat.le_refl _
 |[],j::js,_,h=>by obtain⟨p,hp,_⟩:=h j (by simp);cases hp
 | p::ps,js,hn,h=>by
   have h1:(js.filter fun j=>f p j).length≤1:=by
    have hn1:(js.filter fun j=>f p j).Nodup:=hn.sublist List.filter_sublist
    match q:js.filter fun j=>f p j with
    |[]=>simp
    |[_]=>simp
    | j::k::r=>
      exfalso;have hj:f p j=true:=(saK.mp (q ▸ saB:j∈js.filter fun j=>f p j)).2;have hk:f p k=true:=(saK.mp (q ▸ sao _ saB:k∈js.filter fun j=>f p j)).2;rw[q]at hn1;have:=uniq p j k hj hk;subst this;simp at hn1
   have h2:(js.filter fun j=> !f p j).length≤ps.length:=few f uniq ps _ (hn.sublist List.filter_sublist) fun j hj=>by
    obtain⟨hj1,hj2⟩:=saK.mp hj;obtain⟨q,hq,hf⟩:=h j hj1
    rcases saj.mp hq with rfl|hq
    ·rw[hf]at hj2;cases hj2
    ·exact⟨q,hq,hf⟩
   have h3:js.length=(js.filter fun j=>f p j).length+(js.filter fun j=> !f p j).length:=by
    clear h hn h1 h2
    induction js with
    |nil=>rfl
    | cons j js ih=>
      cases hf:f p j <;> simp[hf,ih] <;> lia
   rw[List.length_cons];lia
theorem Xf {a c p:zh}(hp:p.1≠a.1){i j:Int}(h1:nK a (c.1,i) p=true)(h2:nK a (c.1,j) p=true):i=j:=by
 unfold nK at h1 h2;have e1:=scj h1;have e2:=scj h2;simp only at e1 e2;have e3:(i - a.2)*(p.1 - a.1)=(j - a.2)*(p.1 - a.1):=by rw[e1,e2]
 have e4:=Int.eq_of_mul_eq_mul_right (by lia) e3;lia
theorem Zp {a b:zh}{x:Int}(h:yc a b x=true):x≠a.1:=by
 unfold yc at h;simp only[sbI,saS,sap]at h;lia
theorem gk (a:zh)(ps:List zh):∀(n:Nat) (c:zh),ps.length≤n→uA a (sT a ps n c) ps=false:=by
 have key:∀(n:Nat) (c:zh),uA a (sT a ps n c) ps=true→∀j:Nat,j≤n→uA a (c.1,c.2+j) ps=true:=by
  intro n
  induction n with
  | zero=>
    intro c h j hj;have:j=0:=by lia
    subst this;simpa[sT]using h
  | succ n ih=>
    intro c h j hj;unfold sT at h;by_cases hc:uA a c ps=true
    ·rw[saf hc]at h
     cases j with
     |zero=>simpa using hc
     | succ j=>
       have:=ih (c.1,c.2+1) h j (by lia);have e:c.2+1+(j:Int)=c.2+((j+1:Nat):Int):=by lia
       simpa[e]using this
    ·rw[sah hc]at h;exact absurd h hc
 intro n c hn
 cases q:uA a (sT a ps n c) ps with
 |false=>rfl
 | true=>
   exfalso;have hk:=key n c q
   have:=few (fun(p:zh) (j:Nat)=>yc a c p.1&&nK a (c.1,c.2+j) p) (fun p j k h1 h2=>by
    simp only[saS]at h1 h2;have:=Xf (Zp h1.1) h1.2 h2.2
    lia) ps (List.range (n+1)) List.nodup_range (fun j hj=>by
    have h1:=hk j (by have:=sbb.mp hj;lia);unfold uA at h1;obtain⟨p,hp,h2⟩:=sbe.mp h1
    exact⟨p,hp,h2⟩)
   rw[sck]at this;lia
noncomputable def ya (l:List zh):zh:=l.getLastD (0,0)
noncomputable def v7 (m:Int):zh:=(2*(m%6) - 1,m / 6%9 - 1)
noncomputable def rW (ns:List Int)(zH:Int)(ps:List zh)(k:Nat)(got:List zh):zh :=
 if k=0 then v7 (zC ns (zH+k))else
  sT (ya got) ps 12 (if zC ns (zH+k) / 54%6=1 then ya got else v7 (zC ns (zH+k)))
noncomputable def zQ (ns:List Int)(zH:Int)(ps:List zh):Nat→List zh
 | 0=>[]
 |k+1=>zQ ns zH ps k++[rW ns zH ps k (zQ ns zH ps k)]
theorem sO (ns:List Int)(zH:Int)(ps:List zh):∀k,(zQ ns zH ps k).length=k
 | 0=>rfl
 |k+1=>by unfold zQ;simp[sO ns zH ps k]
noncomputable def oj (c:zh):Prop:=∃i:Int,c.1=2*i - 1∧0≤i∧i≤5
theorem qR (m:Int):oj (v7 m):=⟨m%6,rfl,by lia,by lia⟩
theorem ny (ns:List Int)(zH:Int)(ps:List zh):∀k,∀c∈zQ ns zH ps k,oj c
 | 0,c,h=>by cases h
 | k+1,c,h=>by
   unfold zQ at h
   rcases san.mp h with h|h
   ·exact ny ns zH ps k c h
   ·rw[sag]at h;subst h;unfold rW;split
    ·exact qR _
    ·unfold oj;rw[Vt];split
     ·rename_i hk _;have hne:zQ ns zH ps k≠[]:=fun z=>hk (by rw[←sO ns zH ps k,z];rfl);unfold ya;rw[sam,saJ hne,Option.getD_some];exact ny ns zH ps k _ (scO hne)
     ·exact qR _
noncomputable def zE (l:List zh):List (zh×zh):=l.zip l.tail
theorem t7:∀(l:List zh) (c:zh),l≠[]→zE (l++[c])=zE l++[(ya l,c)]
 |[],c,h=>absurd rfl h
 |[a],c,_=>rfl
 | a::b::l,c,_=>by
   have ih:=t7 (b::l) c (by simp);unfold zE ya at ih ⊢;simp only[List.cons_append,List.tail_cons,List.zip_cons_cons,List.getLastD_cons]at ih ⊢;rw[ih]
theorem mY {l:List zh}(h:l≠[]):ya l∈l:=by
 unfold ya;rw[sam,saJ h,Option.getD_some];exact scO h
theorem gb (ns:List Int)(zH:Int)(ps:List zh)(hp:ps.length≤12):∀k,∀q∈zE (zQ ns zH ps k),uA q.1 q.2 ps=false
 | 0,q,h=>by cases h
 | k+1,q,h=>by
   unfold zQ at h;by_cases hk:k=0
   ·subst hk;simp[zQ,zE]at h
   ·have hne:zQ ns zH ps k≠[]:=fun z=>hk (by rw[←sO ns zH ps k,z];rfl);rw[t7 _ _ hne]at h
    rcases san.mp h with h|h
    ·exact gb ns zH ps hp k q h
    ·rw[sag]at h;subst h;show uA _ (rW ns zH ps k _) ps=false;unfold rW;rw[sah hk];exact gk _ ps 12 _ hp
theorem Xh {a b:zh}(ha:oj a)(hb:oj b):near a b:=by
 obtain⟨i,h1,h2,h3⟩:=ha;obtain⟨j,k1,k2,k3⟩:=hb;unfold near;lia
noncomputable def cC (a b:zh)(x h:Int):Int:=(a.2 - h)*(b.1 - a.1)+(b.2 - a.2)*(x - a.1)
noncomputable def V6 (a b:zh)(x h:Int):Bool:=decide (0<cC a b x h*(b.1 - a.1))
noncomputable def zR (q:zh×zh):D:=.tup [zd q.1,zd q.2]
noncomputable def zT (a b p:zh):Int:=(b.1 - a.1)*(p.2 - a.2) - (b.2 - a.2)*(p.1 - a.1)
noncomputable def zI (a b p:zh):Int:=if 0<b.1 - a.1 then zT a b p else -zT a b p
noncomputable def zO (B:List yG)(a b:zh):List yG :=
 if a.1<b.1 then B.filter fun l=>decide (a.1<l.1)&&decide (l.1<b.1)else B.reverse.filter fun l=>decide (b.1<l.1)&&decide (l.1<a.1)
theorem n_ {B:List yG}{a b:zh}{l:yG}(h:l∈zO B a b)(n:near a b) : -(2^64)<l.1 - a.1∧l.1 - a.1<2^64:=by
 unfold zO at h;unfold near at n;split at h
 ·have:=(saK.mp h).2;simp at this;lia
 ·have:=(saK.mp h).2;simp at this;lia
theorem qQ (B:List yG)(a b:zh):(zO B a b).length≤B.length:=by
 unfold zO;split
 ·exact sbG _ _
 ·have:=sbG (fun l:yG=>decide (b.1<l.1)&&decide (l.1<a.1)) B.reverse;rw[sbk]at this;exact this
theorem xM {B:List yG}{a b:zh}{l:yG}(h:l∈zO B a b):l∈B∧yc a b l.1=true:=by
 unfold zO at h;unfold yc;split at h
 ·obtain⟨h1,h2⟩:=saK.mp h;simp at h2;exact⟨h1,by simp[h2]⟩
 ·obtain⟨h1,h2⟩:=saK.mp h;simp at h2;exact⟨sbr.mp h1,by simp[h2]⟩
noncomputable def yz (a b:zh)(l:yG):Ga where
 x:=l.1
 lo:=oE (l.2.filter fun y=>decide (zI a b (l.1,y)<0))
 hi:=oD (l.2.filter fun y=>decide (0<zI a b (l.1,y)))
 w:=if a.1<l.1 then 1 else -1
noncomputable def yH (B:List yG)(a b:zh):Bool:=(zO B a b).any fun l=>l.2.any fun y=>decide (zI a b (l.1,y)=0)
theorem PK (q:zh×zh):t9 [zd q.1,zd q.2] 0=some (zd q.1):=rfl
theorem PJ (q:zh×zh):t9 [zd q.1,zd q.2] 1=some (zd q.2):=rfl
theorem P3 (l:yG):t9 [D.int l.1,D.l (l.2.map .int)] 0=some (.int l.1):=rfl
theorem PZ (l:yG):t9 [D.int l.1,D.l (l.2.map .int)] 1=some (.l (l.2.map .int)):=rfl
theorem uM {α β:Type}(p:α→Bool)(f:α→β):∀l:List α,l.filterMap (fun x=>if p x=true then some (f x)else none)=(l.filter p).map f
 |[]=>rfl
 | x::l=>by
   cases h:p x <;> simp[List.filterMap_cons,List.filter_cons,h,uM p f l]
structure RopeOk (ps rope:List zh):Prop where
 few:ps.length<18
 nodup:ps.Nodup
 two:2≤rope.length
 many:rope.length≤100
 off:∀c∈rope,c.1∉(zo ps).map (·.1)
 near:∀q∈zE rope,My.near q.1 q.2
 free:∀q∈zE rope,yH (zo ps) q.1 q.2=false
theorem gZ (ps:List zh)(h:ps.length<18):∀l∈zo ps,l.2.length≤1000:=fun l hl=>by have:=V3 ps l hl;lia
noncomputable def x3 (B:List yG)(q:zh×zh):List Ga:=(zO B q.1 q.2).map (yz q.1 q.2)
theorem nR {x y:Int}(h:0<y):0<x*y↔0<x:=by
 constructor
 ·intro hx
  rcases scM x 0 with h1|h1|h1
  ·have:=Int.mul_neg_of_neg_of_pos h1 h;lia
  ·rw[h1]at hx;simp at hx
  ·exact h1
 ·intro hx;exact scI hx h
theorem iI {x y:Int}(h:y<0):0<x*y↔x<0:=by
 have:=nR (x := -x) (y := -y) (by lia);rw[Int.neg_mul_neg]at this;rw[this];lia
theorem YX (a b:zh)(x h:Int):zT a b (x,h) = -cC a b x h:=by
 unfold zT cC
 have e:(b.1 - a.1)*(h - a.2) = -((a.2 - h)*(b.1 - a.1)):=by
  rw[←scR,Int.neg_sub,scC]
 simp only[e];lia
theorem RM {a b:zh}(hne:a.1≠b.1)(x h:Int):V6 a b x h=decide (zI a b (x,h)<0):=by
 unfold V6 zI;rw[YX]
 rcases scL hne with h1|h1
 ·rw[saf (by lia)];have:=nR (x:=cC a b x h) (y:=b.1 - a.1) (by lia);rw[sbV,sap,sap,this];lia
 ·rw[sah (by lia)];have:=iI (x:=cC a b x h) (y:=b.1 - a.1) (by lia);rw[sbV,sap,sap,this];lia
theorem nX:∀(l:List Int) (n:Int),(n::l).Pairwise (· ≤ ·)→some (l.foldl uz n)=(n::l).getLast?
 |[],n,_=>rfl
 | m::l,n,h=>by
   have h':=saC.mp h;have hm:n≤m:=h'.1 m (by simp)
   have e:uz n m=m:=by unfold uz;split <;> lia
   rw[List.foldl_cons,e,List.getLast?_cons_cons];exact nX l m h'.2
theorem bj (l:List Int)(h:l.Pairwise (· ≤ ·)):oE l=l.getLast?:=by
 cases l with
 |nil=>rfl
 |cons n l=>exact nX l n h
theorem nW:∀(l:List Int) (n:Int),(∀m∈l,n≤m)→l.foldl vK n=n
 |[],n,_=>rfl
 | m::l,n,h=>by
   have hm:=h m (by simp)
   have e:vK n m=n:=by unfold vK;split <;> lia
   rw[List.foldl_cons,e];exact nW l n fun k hk=>h k (by simp[hk])
theorem bh (l:List Int)(h:l.Pairwise (· ≤ ·)):oD l=l.head?:=by
 cases l with
 |nil=>rfl
 | cons n l=>
   have h':=saC.mp h;show some (l.foldl vK n)=some n;rw[nW l n h'.1]
theorem vR {ps:List zh}{l:yG}(h:l∈zo ps):(l.1∈ps.map (·.1))∧(∀y∈l.2,(l.1,y)∈ps)∧l.2.Pairwise (· ≤ ·):=by
 unfold zo at h;obtain⟨x,hx,rfl⟩:=saz.mp h;refine⟨List.mem_eraseDups.mp ((xQ _).mem_iff.mp hx),fun y hy=>?_,wM _⟩;have hy':=(xQ _).mem_iff.mp hy;obtain⟨p,hp,rfl⟩:=saz.mp hy';obtain⟨h1,h2⟩:=saK.mp hp;have:p.1=x:=by simpa using h2
 rw[←this];exact h1
theorem dY {ps:List zh}{a b:zh}(h:uA a b ps=false):yH (zo ps) a b=false:=by
 unfold yH;rw[scB];intro l hl;obtain⟨h1,h2⟩:=xM hl;simp only[sbe,sap,not_exists,not_and];intro y hy e;have hp:=(vR h1).2.1 y hy;unfold uA at h;rw[scB]at h;apply h _ hp
 have ho:nK a b (l.1,y)=true:=by
  unfold nK;rw[sap]
  have ht:zT a b (l.1,y)=0:=by
   unfold zI at e
   split at e <;> lia
  unfold zT at ht;have:(b.1 - a.1)*(y - a.2)=(y - a.2)*(b.1 - a.1):=scC _ _;simp only at ht ⊢;lia
 simp[h2,ho]
theorem aK {f:Frm}(hf:FrmOk f)(x y:Int):f.w*x+f.r<f.w*y+f.r↔x<y:=by
 have hw:=hf.w1;have:=Int.mul_lt_mul_left (a:=f.w) (b:=x) (c:=y) (by lia);lia
theorem Ze {f:Frm}(hf:FrmOk f)(x y:Int):f.w*x+f.r=f.w*y+f.r↔x=y:=by
 have h1:=aK hf x y;have h2:=aK hf y x;lia
theorem bM {f:Frm}(hf:FrmOk f)(a b p:zh):yc (yo f a) (yo f b) (yo f p).1=yc a b p.1:=by
 unfold yc yo;simp only[aK hf]
theorem W8 {f:Frm}(hf:FrmOk f)(a b p:zh):nK (yo f a) (yo f b) (yo f p)=nK a b p:=by
 unfold nK yo;rw[sbV,sap,sap];simp only
 have e:∀u v s t:Int,f.h*u+f.s*s+f.u - (f.h*v+f.s*t+f.u)=f.h*(u - v)+f.s*(s - t):=by
  intro u v s t;rw[sbW,sbW];lia
 have e2:∀s t:Int,f.w*s+f.r - (f.w*t+f.r)=f.w*(s - t):=by
  intro s t;rw[sbW];lia
 rw[e,e,e2,e2];have hw:=hf.w1;have hh:=hf.h1;generalize hA:b.2 - a.2=A;generalize hB:b.1 - a.1=B;generalize hC:p.1 - a.1=C;generalize hE:p.2 - a.2=E
 have k1:(f.h*A+f.s*B)*(f.w*C)=f.h*f.w*(A*C)+f.s*f.w*(B*C):=by
  rw[Int.add_mul];congr 1
  ·ac_rfl
  ·ac_rfl
 have k2:(f.h*E+f.s*C)*(f.w*B)=f.h*f.w*(E*B)+f.s*f.w*(B*C):=by
  rw[Int.add_mul];congr 1
  ·ac_rfl
  ·ac_rfl
 rw[k1,k2];have hp:f.h*f.w≠0:=Int.ne_of_gt (scI (by lia) (by lia));constructor
 ·intro h;exact Int.eq_of_mul_eq_mul_left hp (by lia)
 ·intro h;rw[h]
theorem Te {f:Frm}(hf:FrmOk f)(a b:zh)(ps:List zh):uA (yo f a) (yo f b) (ps.map (yo f))=uA a b ps:=by
 unfold uA;rw[List.any_map];congr 1
 funext p
 simp only[Function.comp_apply,bM hf,W8 hf]
theorem j5 (g:zh→zh)(l:List zh):zE (l.map g)=(zE l).map fun q=>(g q.1,g q.2):=by
 unfold zE;rw[←scF,List.zip_map];rfl
theorem UJ {f:Frm}(hf:FrmOk f){p q:zh}(h:yo f p=yo f q):p=q:=by
 unfold yo at h;obtain⟨h1,h2⟩:=Prod.mk.inj h;have e1:=(Ze hf _ _).mp h1;rw[e1]at h2;have h3:f.h*p.2=f.h*q.2:=by lia
 have hh:=hf.h1;have e2:=Int.eq_of_mul_eq_mul_left (by lia) h3;exact Prod.ext e1 e2
theorem gg {f:Frm}(hf:FrmOk f):∀{ps:List zh},ps.Nodup→(ps.map (yo f)).Nodup
 |[],_=>List.nodup_nil
 | p::ps,h=>by
   have h':=sbl.mp h;refine sbl.mpr ⟨fun hm=>?_,gg hf h'.2⟩;obtain⟨q,hq,e⟩:=saz.mp hm;rw[UJ hf e]at hq;exact h'.1 hq
theorem Zk {l:List zh}{q:zh×zh}(h:q∈zE l):q.1∈l∧q.2∈l:=by
 unfold zE at h;have:=List.of_mem_zip (a:=q.1) (b:=q.2) h;exact⟨this.1,List.mem_of_mem_tail this.2⟩
structure Drawn (ps rope:List zh):Prop where
 few:ps.length≤12
 nodup:ps.Nodup
 even:∀p∈ps,∃i:Int,p.1=2*i∧0≤i∧i≤4
 odd:∀c∈rope,oj c
 free:∀q∈zE rope,uA q.1 q.2 ps=false
theorem VQ {ps rope:List zh}{f:Frm}(hf:FrmOk f)(h:Drawn ps rope)(h2:2≤rope.length)(hm:rope.length≤100):RopeOk (ps.map (yo f)) (rope.map (yo f)) where
 few:=by have:=h.few;rw[sae];lia
 nodup:=gg hf h.nodup
 two:=by rw[sae];exact h2
 many:=by rw[sae];exact hm
 off:=by
  intro c hc hx;obtain⟨l,hl,e⟩:=saz.mp hx;have h1:=(vR hl).1;obtain⟨p',hp',e'⟩:=saz.mp h1;obtain⟨p,hp,rfl⟩:=saz.mp hp';obtain⟨d,hd,rfl⟩:=saz.mp hc;obtain⟨i,hi,_,_⟩:=h.even p hp;obtain⟨j,hj,_,_⟩:=h.odd d hd;have:(yo f p).1=(yo f d).1:=e'.trans e;have:=(Ze hf _ _).mp this;lia
 near:=by
  intro q hq;rw[j5]at hq;obtain⟨r,hr,rfl⟩:=saz.mp hq;obtain⟨r1,r2⟩:=Zk hr;obtain⟨i,hi,i1,i2⟩:=h.odd _ r1;obtain⟨j,hj,j1,j2⟩:=h.odd _ r2;have hw1:=hf.w1;have hw2:=hf.w2;unfold My.near yo;simp only;rw[hi,hj]
  have e:f.w*(2*j - 1)+f.r - (f.w*(2*i - 1)+f.r)=f.w*(2*(j - i)):=by
   rw[sbW,sbW,sbW,sbW];lia
  rw[e]
  have b1:f.w*(2*(j - i))≤10^9*10:=by
   rcases scD 0 (2*(j - i))with g|g
   ·exact Int.mul_le_mul hw2 (by lia) g (by decide)
   ·have:=sbf (show 0≤f.w by lia) g;lia
  have b2:f.w*(2*(i - j))≤10^9*10:=by
   rcases scD 0 (2*(i - j))with g|g
   ·exact Int.mul_le_mul hw2 (by lia) g (by decide)
   ·have:=sbf (show 0≤f.w by lia) g;lia
  have e3:f.w*(2*(i - j)) = -(f.w*(2*(j - i))):=by
   rw[←sbX];congr 1;lia
  lia
 free:=by
  intro q hq;rw[j5]at hq;obtain⟨r,hr,rfl⟩:=saz.mp hq;apply dY;rw[Te hf];exact h.free r hr
theorem jA (ns:List Int)(zH:Int)(k:Nat):Drawn (yi ns) (zQ ns zH (yi ns) k) where
 few:=by
  have h1:=nI ns (vA ns).toNat;have h2:=eA ns;unfold yi;lia
 nodup:=oh ns _
 even:=fun p hp=>(rJ ns _ p hp).1
 odd:=ny ns zH _ k
 free:=gb ns zH _ (by
  have h1:=nI ns (vA ns).toNat;have h2:=eA ns;unfold yi
  lia) k
theorem Z0 {f:Ev→Out (List Val)}{env:Ev}{n:Int}(h:f env=.ok [.p (.int n)])(hn : -1000000≤n∧n≤1000000):qp f env=.ok (sv 0 n.toNat):=by
 simp only[qp,h,zk,List.map_cons,List.map_nil,Val.d];rw[saf hn]
theorem Vj (ns:List Int)(k:Int)(h:0≤k∧k≤1000000):yV [.scr ns,.int k]=.ok (.p (.int (zC ns k))):=by
 show(if 0≤k∧k≤1000000 then Out.ok (Val.p (.int (zC ns k)))else Out.bad)=_;rw[saf h]
noncomputable def z8 (l:List zh):zh:=l.headD (0,0)
theorem qV {l:List zh}(hne:l≠[]):t9 (l.map zd) 0=some (zd (z8 l)):=by
 rw[r9 _ _ (by lia)]
 cases l with
 |nil=>exact absurd rfl hne
 |cons c r=>rfl
theorem kP {l:List zh}(hne:l≠[]):t9 (l.map zd) (-1)=some (zd (ya l)):=by
 unfold ya;rw[oN,sae,sav,←sbs,sam,saJ hne];rfl
noncomputable def Xx (ps rope:List zh):Bool:=(zE rope).any fun q=>uA q.1 q.2 ps
theorem RN (rope:List zh)(k:Nat)(i:Int)(hi:i=(k:Int))(h:k<rope.length):t9 (rope.map zd) i=some (zd rope[k]):=by
 rw[r9 _ _ (by lia),hi,Int.toNat_natCast,sav,sad h];rfl
noncomputable def tL (x y z:Int):Int:=[y,z].foldl vK x
noncomputable def tM (x y z:Int):Int:=[y,z].foldl uz x
theorem Yb (x y z:Int):tL x y z≤x∧tL x y z≤y∧tL x y z≤z∧(tL x y z=x∨tL x y z=y∨tL x y z=z):=by
 simp only[tL,List.foldl_cons,List.foldl_nil,vK]
 split <;> split <;> lia
theorem Yf (x y z:Int):x≤tM x y z∧y≤tM x y z∧z≤tM x y z∧(tM x y z=x∨tM x y z=y∨tM x y z=z):=by
 simp only[tM,List.foldl_cons,List.foldl_nil,uz]
 split <;> split <;> lia
noncomputable def xq (a b c p:zh):Bool :=
 if tL (zT a b p) (zT b c p) (zT c a p)<0∧0<tM (zT a b p) (zT b c p) (zT c a p)then false
 else if p.1<tL a.1 b.1 c.1∨tM a.1 b.1 c.1<p.1 then false
 else decide (tL a.2 b.2 c.2≤p.2)&&decide (p.2≤tM a.2 b.2 c.2)
theorem bO (l:List zh):qP (l.map zd) (some 1) none=(l.tail).map zd:=by
 rw[ro _ 1 1 rfl,List.drop_one,scF]
theorem dX (h:Int→Int)(a:Int):∀n:Nat,∃m:Nat,m≤n∧(∀k:Nat,k≤n→h (a+k)≤h (a+m))∧(∀k:Nat,k<m→h (a+k)<h (a+m))
 | 0=>⟨0,by lia,fun k hk=>by rw[show k=0 by lia];exact sbF _,fun k hk=>by lia⟩
 | n+1=>by
   obtain⟨m,h1,h2,h3⟩:=dX h a n;by_cases hh:h (a+m)<h (a+(n+1:Nat))
   ·refine⟨n+1,by lia,fun k hk=>?_,fun k hk=>?_⟩
    ·by_cases z:k≤n
     ·have:=h2 k z;lia
     ·rw[show k=n+1 by lia];exact sbF _
    ·have:=h2 k (by lia);lia
   ·refine⟨m,by lia,fun k hk=>?_,h3⟩;by_cases z:k≤n
    ·exact h2 k z
    ·rw[show k=n+1 by lia];lia
noncomputable def dd (F:Int→Int)(x:Int):Int:=F (x+1)+F (x - 1) - 2*F x
theorem cmp {F G:Int→Int}{a b:Int}(ha:F a≤G a)(hb:F b≤G b)(hf:∀x,a<x→x<b→dd F x<0→F x≤G x)(hg:∀x,a<x→x<b→0<dd G x→F x≤G x){x:Int}(h1:a≤x)(h2:x≤b):F x≤G x:=by
 obtain⟨m,e1,e2,e3⟩:=dX (fun x=>F x - G x) a (b - a).toNat;have hx:=e2 (x - a).toNat (by lia);rw[show a+((x - a).toNat:Int)=x by lia]at hx;by_cases z:F x≤G x
 ·exact z
 have hm:0<F (a+m) - G (a+m):=by lia
 have m0:m≠0:=by
  intro z;subst z;simp at hm;lia
 have mb:a+m≠b:=by
  intro z;rw[z]at hm;lia
 have l:=e3 (m - 1) (by lia);rw[show a+((m - 1:Nat):Int)=a+m - 1 by lia]at l;have r:=e2 (m+1) (by lia);rw[show a+((m+1:Nat):Int)=a+m+1 by lia]at r;have k1:=hf (a+m) (by lia) (by lia);have k2:=hg (a+m) (by lia) (by lia);unfold dd at k1 k2;lia
structure Curve (D:Int)(run:List Ga)(a b:zh)(F:Int→Int):Prop where
 at_a:F a.1=D*a.2
 at_b:F b.1=D*b.2
 lo:∀g∈run,a.1<g.x→g.x<b.1→∀y,g.lo=some y→D*y≤F g.x
 hi:∀g∈run,a.1<g.x→g.x<b.1→∀y,g.hi=some y→F g.x≤D*y
 dn:∀x,a.1<x→x<b.1→dd F x<0→∃g∈run,g.x=x∧∃y,g.lo=some y∧F x=D*y
 up:∀x,a.1<x→x<b.1→0<dd F x→∃g∈run,g.x=x∧∃y,g.hi=some y∧F x=D*y
theorem Curve.le {D:Int}{run:List Ga}{a b:zh}{F G:Int→Int}(h:Curve D run a b F)(k:Curve D run a b G){x:Int}(h1:a.1≤x)(h2:x≤b.1):F x≤G x:=by
 refine cmp (by rw[h.at_a,k.at_a];exact sbF _) (by rw[h.at_b,k.at_b];exact sbF _) (fun x q1 q2 q=>?_) (fun x q1 q2 q=>?_) h1 h2
 ·obtain⟨g,hg,rfl,y,e,e'⟩:=h.dn x q1 q2 q;rw[e'];exact k.lo g hg q1 q2 y e
 ·obtain⟨g,hg,rfl,y,e,e'⟩:=k.up x q1 q2 q;rw[e'];exact h.hi g hg q1 q2 y e
theorem Curve.uniq {D:Int}{run:List Ga}{a b:zh}{F G:Int→Int}(h:Curve D run a b F)(k:Curve D run a b G){x:Int}(h1:a.1≤x)(h2:x≤b.1):F x=G x:=Int.le_antisymm (h.le k h1 h2) (k.le h h1 h2)
theorem Curve.below {D W:Int}{run:List Ga}{a b:zh}{F A:Int→Int}(hW:0<W)(h:Curve D run a b F)(ha:W*(D*a.2)≤A a.1)(hb:W*(D*b.2)≤A b.1)(hA:∀x,dd A x=0)(hl:∀g∈run,a.1<g.x→g.x<b.1→∀y,g.lo=some y→W*(D*y)≤A g.x){x:Int}(h1:a.1≤x)(h2:x≤b.1):W*F x≤A x:=by
 refine cmp (F:=fun x=>W*F x) (G:=A) (a:=a.1) (b:=b.1) (by simp only[h.at_a];exact ha) (by simp only[h.at_b];exact hb) (fun x q1 q2 q=>?_) (fun x q1 q2 q=>?_) h1 h2
 ·have q':dd F x<0:=by
   have e:dd (fun x=>W*F x) x=W*dd F x:=by unfold dd;grind
   rw[e]at q;by_cases z:dd F x<0
   ·exact z
   ·have:=sbA (Int.le_of_lt hW) (Int.not_lt.mp z);lia
  obtain⟨g,hg,rfl,y,e,e'⟩:=h.dn x q1 q2 q';simp only[e'];exact hl g hg q1 q2 y e
 ·have:=hA x;lia
theorem Curve.above {D W:Int}{run:List Ga}{a b:zh}{F A:Int→Int}(hW:0<W)(h:Curve D run a b F)(ha:A a.1≤W*(D*a.2))(hb:A b.1≤W*(D*b.2))(hA:∀x,dd A x=0)(hl:∀g∈run,a.1<g.x→g.x<b.1→∀y,g.hi=some y→A g.x≤W*(D*y)){x:Int}(h1:a.1≤x)(h2:x≤b.1):A x≤W*F x:=by
 refine cmp (G:=fun x=>W*F x) (F:=A) (a:=a.1) (b:=b.1) (by simp only[h.at_a];exact ha) (by simp only[h.at_b];exact hb) (fun x q1 q2 q=>?_) (fun x q1 q2 q=>?_) h1 h2
 ·have:=hA x;lia
 ·have q':0<dd F x:=by
   have e:dd (fun x=>W*F x) x=W*dd F x:=by unfold dd;grind
   rw[e]at q;by_cases z:0<dd F x
   ·exact z
   ·have:=sbA (Int.le_of_lt hW) (show 0 ≤ - dd F x by lia);rw[sbX]at this;lia
  obtain⟨g,hg,rfl,y,e,e'⟩:=h.up x q1 q2 q';simp only[e'];exact hl g hg q1 q2 y e
noncomputable def bw (a b:zh)(x:Int):Prop:=(a.1<x∧x<b.1)∨(b.1<x∧x<a.1)
noncomputable def ZD (a b:zh)(g:Ga)(p:zh)(d:Int):Prop:=p.1=g.x∧((g.lo=some p.2∧d=zI a b p)∨(g.hi=some p.2∧d = -zI a b p))
inductive Pul (run:List Ga):zh→zh→List zh→Prop
 |stop {a b:zh}:(∀g∈run,bw a b g.x→∀p d,ZD a b g p d→d≤0)→Pul run a b [b]
 |split {a b p:zh} {d:Int} {g:Ga} {l1 l2:List zh}:g∈run→bw a b g.x→ZD a b g p d→0<d→(∀g'∈run,bw a b g'.x→∀p' d',ZD a b g' p' d'→d'≤d)→Pul run a p l1→Pul run p b l2→Pul run a b (l1++l2)
noncomputable def X8 (D:Int)(F:Int→Int)(u v:zh):Prop:=u.1<v.1∧F u.1=D*u.2∧F v.1=D*v.2∧∀x,u.1<x→x<v.1→dd F x=0
noncomputable def kR (D:Int)(F:Int→Int):zh→List zh→zh→Prop
 |a,[],b=>a=b
 |a,v::r,b=>X8 D F a v∧kR D F v r b
theorem kR.app {D:Int}{F:Int→Int}{p b:zh}{l2:List zh}(h2:kR D F p l2 b):∀{l1:List zh} {a:zh},kR D F a l1 p→kR D F a (l1++l2) b
 |[],a,h=>by cases(show a=p from h);exact h2
 |v::r,a,h=>⟨h.1,kR.app h2 h.2⟩
theorem kR.le {D:Int}{F:Int→Int}{b:zh}:∀{l:List zh} {a:zh},kR D F a l b→a.1≤b.1
 |[],a,h=>by cases(show a=b from h);exact sbF _
 |v::r,a,h=>by have:=kR.le h.2;have:=h.1.1;lia
theorem X8.congr {D:Int}{F F':Int→Int}{u v:zh}(h:X8 D F u v)(e:∀x,u.1≤x→x≤v.1→F' x=F x):X8 D F' u v:=by
 obtain⟨h1,h2,h3,h4⟩:=h;refine⟨h1,by rw[e _ (by lia) (by lia),h2],by rw[e _ (by lia) (by lia),h3],fun x q1 q2=>?_⟩;have:=h4 x q1 q2;unfold dd at this ⊢;rw[e _ (by lia) (by lia),e _ (by lia) (by lia),e _ (by lia) (by lia)];exact this
theorem kR.congr {D:Int}{F F':Int→Int}{b:zh}:∀{l:List zh} {a:zh},kR D F a l b→(∀x,a.1≤x→x≤b.1→F' x=F x)→kR D F' a l b
 |[],a,h,_=>h
 | v::r,a,h,e=>by
   have:=kR.le h.2;have:=h.1.1;exact⟨h.1.congr fun x q1 q2=>e x q1 (by lia),kR.congr h.2 fun x q1 q2=>e x (by lia) q2⟩
noncomputable def tu (run:List Ga):Prop:=∀g∈run,∀g'∈run,g.x=g'.x→∀u v,g.lo=some u→g'.hi=some v→u≤v
theorem mE {a b p:zh}(h:a.1<b.1):zI a b p=zT a b p:=by
 unfold zI;rw[saf (by lia)]
theorem ei {k x y:Int}(hk:0<k)(h:x≤y):k*x≤k*y:=scf h (Int.le_of_lt hk)
theorem mO {k x y:Int}(hk:0<k)(h:k*x≤k*y):x≤y:=Int.le_of_mul_le_mul_left h hk
theorem ae {D:Int}{run:List Ga}{a b:zh}(hab:a.1<b.1)(hD:0<D)(hd:(b.1 - a.1)∣D)(h:∀g∈run,bw a b g.x→∀p d,ZD a b g p d→d≤0):∃F,Curve D run a b F∧kR D F a [b] b:=by
 obtain⟨k,hk⟩:=hd
 have hk0:0<k:=by
  by_cases z:0<k
  ·exact z
  ·have:=sbA (show 0≤b.1 - a.1 by lia) (show 0 ≤ -k by lia);rw[sbX]at this;lia
 have hdd:∀x,dd (fun x=>D*a.2+k*((b.2 - a.2)*(x - a.1))) x=0:=by intro x;unfold dd;grind
 have ea:D*a.2+k*((b.2 - a.2)*(a.1 - a.1))=D*a.2:=by grind
 have eb:D*a.2+k*((b.2 - a.2)*(b.1 - a.1))=D*b.2:=by grind
 refine⟨fun x=>D*a.2+k*((b.2 - a.2)*(x - a.1)),⟨ea,eb,fun g hg q1 q2 y e=>?_,fun g hg q1 q2 y e=>?_,fun x _ _ q=>?_,fun x _ _ q=>?_⟩,⟨hab,ea,eb,fun x _ _=>hdd x⟩,rfl⟩
 ·have:=h g hg (.inl ⟨q1,q2⟩) (g.x,y) _ ⟨rfl,.inl ⟨e,rfl⟩⟩;rw[mE hab]at this;have:=ei hk0 this;unfold zT at this;simp only at this;rw[hk]
  grind
 ·have:=h g hg (.inl ⟨q1,q2⟩) (g.x,y) _ ⟨rfl,.inr ⟨e,rfl⟩⟩;rw[mE hab]at this;have:=ei hk0 this;unfold zT at this;simp only at this;rw[hk]
  grind
 ·have:=hdd x;lia
 ·have:=hdd x;lia
noncomputable def glue (c:Int)(F1 F2:Int→Int)(x:Int):Int:=if x≤c then F1 x else F2 x
theorem u_ {c:Int}{F1 F2:Int→Int}{x:Int}(h:x≤c):glue c F1 F2 x=F1 x:=saf h
theorem sA {c:Int}{F1 F2:Int→Int}{x:Int}(e:F1 c=F2 c)(h:c≤x):glue c F1 F2 x=F2 x:=by
 unfold glue;split
 ·rw[show x=c by lia,e]
 ·rfl
theorem bB {F G:Int→Int}{x:Int}(h1:F (x+1)=G (x+1))(h2:F (x - 1)=G (x - 1))(h3:F x=G x):dd F x=dd G x:=by
 unfold dd;rw[h1,h2,h3]
theorem Curve.glue {D:Int}{run:List Ga}{a p b:zh}{F1 F2:Int→Int}(h:Curve D run a p F1)(k:Curve D run p b F2)(hap:a.1<p.1)(hpb:p.1<b.1)
 (hlo:∀g∈run,g.x=p.1→∀y,g.lo=some y→y≤p.2) (hhi:∀g∈run,g.x=p.1→∀y,g.hi=some y→p.2≤y) (hD:0<D)
 (hp:(F2 (p.1+1)+F1 (p.1 - 1) - 2*(D*p.2)≤0∧∃g∈run,g.x=p.1∧g.lo=some p.2)∨(0≤F2 (p.1+1)+F1 (p.1 - 1) - 2*(D*p.2)∧∃g∈run,g.x=p.1∧g.hi=some p.2)) :
 Curve D run a b (My.glue p.1 F1 F2):=by
 have e:F1 p.1=F2 p.1:=by rw[h.at_b,k.at_a]
 have hat:My.glue p.1 F1 F2 p.1=D*p.2:=by rw[u_ (sbF _),h.at_b]
 have hdl:∀x,x<p.1→dd (My.glue p.1 F1 F2) x=dd F1 x:=fun x q=>bB (u_ (by lia)) (u_ (by lia)) (u_ (by lia));have hdr:∀x,p.1<x→dd (My.glue p.1 F1 F2) x=dd F2 x:=fun x q=>bB (sA e (by lia)) (sA e (by lia)) (sA e (by lia))
 have hdm:dd (My.glue p.1 F1 F2) p.1=F2 (p.1+1)+F1 (p.1 - 1) - 2*(D*p.2):=by
  unfold dd;rw[hat,sA e (by lia),u_ (by lia)]
 refine⟨by rw[u_ (by lia),h.at_a],by rw[sA e (by lia),k.at_b],fun g hg q1 q2 y ey=>?_,fun g hg q1 q2 y ey=>?_,fun x q1 q2 q=>?_,fun x q1 q2 q=>?_⟩
 ·rcases scM g.x p.1 with z|z|z
  ·rw[u_ (by lia)];exact h.lo g hg q1 z y ey
  ·rw[z,hat];exact ei hD (hlo g hg z y ey)
  ·rw[sA e (by lia)];exact k.lo g hg z q2 y ey
 ·rcases scM g.x p.1 with z|z|z
  ·rw[u_ (by lia)];exact h.hi g hg q1 z y ey
  ·rw[z,hat];exact ei hD (hhi g hg z y ey)
  ·rw[sA e (by lia)];exact k.hi g hg z q2 y ey
 ·rcases scM x p.1 with z|z|z
  ·rw[hdl x z]at q;rw[u_ (by lia)];exact h.dn x q1 z q
  ·subst z;rw[hdm]at q
   rcases hp with⟨_,g,hg,hx,hy⟩|⟨q',_⟩
   ·exact⟨g,hg,hx,p.2,hy,hat⟩
   ·lia
  ·rw[hdr x z]at q;rw[sA e (by lia)];exact k.dn x z q2 q
 ·rcases scM x p.1 with z|z|z
  ·rw[hdl x z]at q;rw[u_ (by lia)];exact h.up x q1 z q
  ·subst z;rw[hdm]at q
   rcases hp with⟨q',_⟩|⟨_,g,hg,hx,hy⟩
   ·lia
   ·exact⟨g,hg,hx,p.2,hy,hat⟩
  ·rw[hdr x z]at q;rw[sA e (by lia)];exact k.up x z q2 q
noncomputable def uH (D d:Int)(a b:zh)(x:Int):Int:=D*((b.1 - a.1)*a.2+(b.2 - a.2)*(x - a.1)+d)
theorem pO (D d:Int)(a b:zh)(x:Int):dd (uH D d a b) x=0:=by
 unfold dd uH
 grind
theorem kG {D d:Int}{a b q:zh}:uH D d a b q.1=(b.1 - a.1)*(D*q.2)+D*(d - zT a b q):=by
 unfold uH zT
 grind
theorem Vr {D d:Int}{a b:zh}:uH D d a b a.1=(b.1 - a.1)*(D*a.2)+D*d:=by
 unfold uH
 grind
theorem Vq {D d:Int}{a b:zh}:uH D d a b b.1=(b.1 - a.1)*(D*b.2)+D*d:=by
 unfold uH
 grind
theorem jH {k x:Int}(hk:0<k)(h:k*x≤0):x≤0:=mO hk (by lia)
theorem d8 {D:Int}{run:List Ga}(ok:tu run){a b p:zh}{d:Int}{g:Ga}{F1 F2:Int→Int}(hg:g∈run)(hap:a.1<p.1)(hpb:p.1<b.1)(hB:ZD a b g p d)(hd:0<d)
 (far:∀g'∈run,bw a b g'.x→∀p' d',ZD a b g' p' d'→d'≤d) (hD:0<D) (h:Curve D run a p F1) (k:Curve D run p b F2):Curve D run a b (glue p.1 F1 F2):=by
 have hab:a.1<b.1:=by lia
 have hW:0<b.1 - a.1:=by lia
 obtain⟨hx,hB⟩:=hB;have hDd:0<D*d:=scI hD hd
 have farL:∀g'∈run,a.1<g'.x→g'.x<b.1→∀y,g'.lo=some y→zT a b (g'.x,y)≤d:=fun g' hg' q1 q2 y ey=>by
  have:=far g' hg' (.inl ⟨q1,q2⟩) (g'.x,y) _ ⟨rfl,.inl ⟨ey,rfl⟩⟩
  rwa [mE hab]at this
 have farH:∀g'∈run,a.1<g'.x→g'.x<b.1→∀y,g'.hi=some y → -zT a b (g'.x,y)≤d:=fun g' hg' q1 q2 y ey=>by
  have:=far g' hg' (.inl ⟨q1,q2⟩) (g'.x,y) _ ⟨rfl,.inr ⟨ey,rfl⟩⟩
  rwa [mE hab]at this
 rcases hB with⟨hy,hdE⟩|⟨hy,hdE⟩
 ·rw[mE hab]at hdE
  have lowA:∀g'∈run,a.1<g'.x→g'.x<b.1→∀y,g'.lo=some y→(b.1 - a.1)*(D*y)≤uH D d a b g'.x:=fun g' hg' q1 q2 y ey=>by
   have:=farL g' hg' q1 q2 y ey;have e:=kG (D:=D) (d:=d) (a:=a) (b:=b) (q:=(g'.x,y));simp only at e;have:0≤D*(d - zT a b (g'.x,y)):=sbA (by lia) (by lia);lia
  have hpA:uH D d a b p.1=(b.1 - a.1)*(D*p.2):=by
   rw[kG,hdE,Int.sub_self,Int.mul_zero,Int.add_zero]
  have l:=h.below hW (A:=uH D d a b) (by rw[Vr];lia) (by rw[hpA];exact sbF _) (pO D d a b) (fun g' hg' q1 q2=>lowA g' hg' q1 (by lia)) (x:=p.1 - 1) (by lia) (by lia);have r:=k.below hW (A:=uH D d a b) (by rw[hpA];exact sbF _) (by rw[Vq];lia) (pO D d a b) (fun g' hg' q1 q2=>lowA g' hg' (by lia) q2) (x:=p.1+1) (by lia) (by lia);have m:=pO D d a b p.1;unfold dd at m;refine h.glue k hap hpb (fun g' hg' z y ey=>?_) (fun g' hg' z y ey=>ok g hg g' hg' (by lia) _ _ hy ey) hD (.inl ⟨jH hW ?_,g,hg,hx.symm,hy⟩)
  ·have:=farL g' hg' (by lia) (by lia) y ey;rw[hdE,z]at this;unfold zT at this;simp only at this;have:(b.1 - a.1)*(y - a.2)≤(b.1 - a.1)*(p.2 - a.2):=by lia
   have:=mO hW this;lia
  ·have e:(b.1 - a.1)*(F2 (p.1+1)+F1 (p.1 - 1) - 2*(D*p.2))=(b.1 - a.1)*F2 (p.1+1)+(b.1 - a.1)*F1 (p.1 - 1) - 2*((b.1 - a.1)*(D*p.2)):=by grind
   lia
 ·rw[mE hab]at hdE
  have hiA:∀g'∈run,a.1<g'.x→g'.x<b.1→∀y,g'.hi=some y→uH D (-d) a b g'.x≤(b.1 - a.1)*(D*y):=fun g' hg' q1 q2 y ey=>by
   have:=farH g' hg' q1 q2 y ey;have e:=kG (D:=D) (d := -d) (a:=a) (b:=b) (q:=(g'.x,y));simp only at e;have:0≤D*(d+zT a b (g'.x,y)):=sbA (by lia) (by lia);have:D*(-d - zT a b (g'.x,y)) = - (D*(d+zT a b (g'.x,y))):=by grind
   lia
  have hpA:uH D (-d) a b p.1=(b.1 - a.1)*(D*p.2):=by
   rw[kG,hdE,Int.neg_neg,Int.sub_self,Int.mul_zero,Int.add_zero]
  have hn:D * -d = - (D*d):=sbX _ _;have l:=h.above hW (A:=uH D (-d) a b) (by rw[Vr];lia) (by rw[hpA];exact sbF _) (pO D (-d) a b) (fun g' hg' q1 q2=>hiA g' hg' q1 (by lia)) (x:=p.1 - 1) (by lia) (by lia);have r:=k.above hW (A:=uH D (-d) a b) (by rw[hpA];exact sbF _) (by rw[Vq];lia) (pO D (-d) a b) (fun g' hg' q1 q2=>hiA g' hg' (by lia) q2) (x:=p.1+1) (by lia) (by lia);have m:=pO D (-d) a b p.1;unfold dd at m;refine h.glue k hap hpb (fun g' hg' z y ey=>ok g' hg' g hg (by lia) _ _ ey hy) (fun g' hg' z y ey=>?_) hD (.inr ⟨?_,g,hg,hx.symm,hy⟩)
  ·have:=farH g' hg' (by lia) (by lia) y ey;rw[hdE,z]at this;unfold zT at this;simp only at this;have:(b.1 - a.1)*(p.2 - a.2)≤(b.1 - a.1)*(y - a.2):=by lia
   have:=mO hW this;lia
  ·have e:(b.1 - a.1)*(F2 (p.1+1)+F1 (p.1 - 1) - 2*(D*p.2))=(b.1 - a.1)*F2 (p.1+1)+(b.1 - a.1)*F1 (p.1 - 1) - 2*((b.1 - a.1)*(D*p.2)):=by grind
   have:=jH hW (x := -(F2 (p.1+1)+F1 (p.1 - 1) - 2*(D*p.2))) (by rw[sbX];lia);lia
theorem Xb {run:List Ga}(ok:tu run){a b:zh}{l:List zh}(h:Pul run a b l){D:Int}(hD:0<D):a.1<b.1→(∀k,0<k→k≤b.1 - a.1→k∣D)→∃F,Curve D run a b F∧kR D F a l b:=by
 induction h with
 |stop h=>exact fun hab hd=>ae hab hD (hd _ (by lia) (sbF _)) h
 | @split a b p d g l1 l2 hg hb hB hd far _ _ ih1 ih2=>
   intro hab hdv;have hx:=hB.1
   have h1:a.1<p.1∧p.1<b.1:=by
    rcases hb with z|z <;> lia
   obtain⟨F1,C1,P1⟩:=ih1 h1.1 fun k q1 q2=>hdv k q1 (by lia);obtain⟨F2,C2,P2⟩:=ih2 h1.2 fun k q1 q2=>hdv k q1 (by lia);have e:F1 p.1=F2 p.1:=by rw[C1.at_b,C2.at_a]
   exact⟨glue p.1 F1 F2,d8 ok hg h1.1 h1.2 hB hd far hD C1 C2,kR.app (P2.congr fun x q1 q2=>sA e q1) (P1.congr fun x q1 q2=>u_ q2)⟩
noncomputable def z_ (o m n:zh):Bool:=decide ((m.1 - o.1)*(n.2 - m.2)=(m.2 - o.2)*(n.1 - m.1))&&decide (0<(m.1 - o.1)*(n.1 - m.1)+(m.2 - o.2)*(n.2 - m.2))
theorem uJ {o m n:zh}:z_ o m n=true↔(m.1 - o.1)*(n.2 - m.2)=(m.2 - o.2)*(n.1 - m.1)∧0<(m.1 - o.1)*(n.1 - m.1)+(m.2 - o.2)*(n.2 - m.2):=by
 unfold z_;rw[saS,sap,sap]
theorem wV (o m n:zh):z_ o m n=z_ n m o:=by
 rw[sbV,uJ,uJ]
 constructor <;> rintro⟨h1,h2⟩ <;> constructor <;> grind
noncomputable def yL:List zh→List zh
 |o::m::n::r=>(if z_ o m n=true then[]else[m])++yL (m::n::r)
 |_=>[]
theorem jO (o m n:zh):∀l:List zh,yL (l++[o,m,n])=yL (l++[o,m])++(if z_ o m n=true then[]else[m])
 |[]=>by simp[yL]
 |[x]=>by simp[yL]
 |[x,y]=>by simp[yL]
 | x::y::z::r=>by
   have ih:=jO o m n (y::z::r);simp only[List.cons_append]at ih ⊢;rw[yL,yL,ih,saF]
theorem pH:∀l:List zh,yL l.reverse=(yL l).reverse
 |[]=>rfl
 |[x]=>rfl
 |[x,y]=>rfl
 | o::m::n::r=>by
   have ih:=pH (m::n::r);rw[yL,List.reverse_append,←ih];simp only[saO,saF,List.cons_append,List.nil_append];rw[jO,wV n m o];congr 1
   split <;> rfl
noncomputable def Tf (o:zh):List zh→Bool
 |a::v::_=>z_ o a v
 |_=>true
structure LegEq (L L':List zh):Prop where
 hd:∀o,Tf o L=Tf o L'
 tl:∀o,Tf o L.reverse=Tf o L'.reverse
 inn:yL L=yL L'
theorem LegEq.rev {L L':List zh}(h:LegEq L L'):LegEq L.reverse L'.reverse:=⟨h.tl,by simpa using h.hd,by rw[pH,pH,h.inn]⟩
theorem aP {F:Int→Int}{u v:Int}(h:∀x,u<x→x<v→dd F x=0):∀k:Nat,u+k<v→F (u+k+1) - F (u+k)=F (u+1) - F u
 | 0,_=>by simp
 | k+1,hk=>by
   have ih:=aP h k (by lia);have:=h (u+(k+1:Nat)) (by lia) hk;unfold dd at this;rw[show u+((k+1:Nat):Int) - 1=u+k by lia]at this;rw[show u+((k+1:Nat):Int)=u+k+1 by lia]at this ⊢;lia
theorem Vs {F:Int→Int}{u v:Int}(h:∀x,u<x→x<v→dd F x=0):∀k:Nat,u+k≤v→F (u+k)=F u+k*(F (u+1) - F u)
 | 0,_=>by simp
 | k+1,hk=>by
   have ih:=Vs h k (by lia);have:=aP h k (by lia);rw[show u+((k+1:Nat):Int)=u+k+1 by lia]
   have e:((k+1:Nat):Int)*(F (u+1) - F u)=k*(F (u+1) - F u)+(F (u+1) - F u):=by
    rw[show((k+1:Nat):Int)=(k:Int)+1 by lia,Int.add_mul,Int.one_mul]
   lia
theorem X8.first {D:Int}{F:Int→Int}{u v:zh}(h:X8 D F u v):D*(v.2 - u.2)=(v.1 - u.1)*(F (u.1+1) - F u.1):=by
 obtain⟨h1,h2,h3,h4⟩:=h;have:=Vs h4 (v.1 - u.1).toNat (by lia);rw[show u.1+((v.1 - u.1).toNat:Int)=v.1 by lia,show(((v.1 - u.1).toNat:Nat):Int)=v.1 - u.1 by lia,h3]at this;rw[sbW,←h2];lia
theorem X8.last {D:Int}{F:Int→Int}{u v:zh}(h:X8 D F u v):F v.1 - F (v.1 - 1)=F (u.1+1) - F u.1:=by
 obtain⟨h1,h2,h3,h4⟩:=h;have:=aP h4 (v.1 - 1 - u.1).toNat (by lia);rw[show u.1+((v.1 - 1 - u.1).toNat:Int)=v.1 - 1 by lia,show v.1 - 1+1=v.1 by lia]at this;exact this
theorem ui {k x y:Int}(hk:0<k):k*x=k*y↔x=y:=⟨fun h=>Int.eq_of_mul_eq_mul_left (by lia) h,fun h=>by rw[h]⟩
theorem sS {k x:Int}(hk:0<k):0<k*x↔0<x:=by
 constructor
 ·intro h;by_cases z:0<x
  ·exact z
  ·have:=sbA (Int.le_of_lt hk) (show 0 ≤ -x by lia);rw[sbX]at this;lia
 ·exact scI hk
theorem ZP {D:Int}{F:Int→Int}{o m n:zh}(hD:0<D)(h:X8 D F m n):z_ o m n=true↔(m.1 - o.1)*(F (m.1+1) - F m.1)=(m.2 - o.2)*D∧0<(m.1 - o.1)*D+(m.2 - o.2)*(F (m.1+1) - F m.1):=by
 have e:=h.first
 have hk:0<n.1 - m.1:=by have:=h.1;lia
 generalize F (m.1+1) - F m.1=s at *;rw[uJ,←ui hD,←sS (x:=(m.1 - o.1)*(n.1 - m.1)+(m.2 - o.2)*(n.2 - m.2)) hD,←ui (x:=(m.1 - o.1)*s) hk,←sS (x:=(m.1 - o.1)*D+(m.2 - o.2)*s) hk]
 have e1:D*((m.1 - o.1)*(n.2 - m.2))=(n.1 - m.1)*((m.1 - o.1)*s):=by
  rw[Int.mul_left_comm D,e,Int.mul_left_comm]
 have e2:D*((m.2 - o.2)*(n.1 - m.1))=(n.1 - m.1)*((m.2 - o.2)*D):=by grind
 have e3:D*((m.1 - o.1)*(n.1 - m.1)+(m.2 - o.2)*(n.2 - m.2))=(n.1 - m.1)*((m.1 - o.1)*D+(m.2 - o.2)*s):=by
  rw[Int.mul_add,Int.mul_left_comm D (m.2 - o.2),e]
  grind
 rw[e1,e2,e3]
theorem aa {D:Int}{F:Int→Int}{o m n:zh}(hD:0<D)(h:X8 D F o m):z_ o m n=true↔(n.1 - m.1)*(F m.1 - F (m.1 - 1))=(n.2 - m.2)*D∧0<(n.1 - m.1)*D+(n.2 - m.2)*(F m.1 - F (m.1 - 1)):=by
 have e:=h.first
 rw[←h.last]at e;have hk:0<m.1 - o.1:=by have:=h.1;lia
 generalize F m.1 - F (m.1 - 1)=s at *;rw[uJ,←ui hD,←sS (x:=(m.1 - o.1)*(n.1 - m.1)+(m.2 - o.2)*(n.2 - m.2)) hD,←ui (x:=(n.1 - m.1)*s) hk,←sS (x:=(n.1 - m.1)*D+(n.2 - m.2)*s) hk]
 have e1:D*((m.2 - o.2)*(n.1 - m.1))=(m.1 - o.1)*((n.1 - m.1)*s):=by
  rw[←Int.mul_assoc,e]
  grind
 have e2:D*((m.1 - o.1)*(n.2 - m.2))=(m.1 - o.1)*((n.2 - m.2)*D):=by grind
 have e3:D*((m.1 - o.1)*(n.1 - m.1)+(m.2 - o.2)*(n.2 - m.2))=(m.1 - o.1)*((n.1 - m.1)*D+(n.2 - m.2)*s):=by
  rw[Int.mul_add,←Int.mul_assoc D (m.2 - o.2),e]
  grind
 rw[e1,e2,e3];exact⟨fun h=>⟨h.1.symm,h.2⟩,fun h=>⟨h.1.symm,h.2⟩⟩
theorem Y2 (s:Int):0≤s*s:=by
 rcases scD 0 s with z|z
 ·exact sbA z z
 ·have:=sbA (show 0 ≤ -s by lia) (show 0 ≤ -s by lia)
  rwa [Int.neg_mul_neg]at this
theorem Uw {D:Int}{F:Int→Int}{o m n:zh}(hD:0<D)(h:X8 D F o m)(k:X8 D F m n):z_ o m n=true↔dd F m.1=0:=by
 have e:=k.first
 have hk:0<n.1 - m.1:=by have:=k.1;lia
 rw[aa hD h];have hdd:dd F m.1=(F (m.1+1) - F m.1) - (F m.1 - F (m.1 - 1)):=by unfold dd;lia
 rw[hdd];generalize F (m.1+1) - F m.1=s2 at *;generalize F m.1 - F (m.1 - 1)=s1 at *;have e':(n.2 - m.2)*D=(n.1 - m.1)*s2:=by rw[scC,e]
 rw[e',ui hk];constructor
 ·rintro⟨h1,_⟩;lia
 ·intro h1;have h1:s1=s2:=by lia
  subst h1;refine⟨rfl,?_⟩;rw[←sS hD]
  have:D*((n.1 - m.1)*D+(n.2 - m.2)*s1)=(n.1 - m.1)*(D*D+s1*s1):=by
   rw[Int.mul_add,←Int.mul_assoc D (n.2 - m.2),e]
   grind
  rw[this];have:=scI hD hD;have:=Y2 s1;exact scI hk (by lia)
noncomputable def kk (D:Int)(F:Int→Int):Nat→Int→List zh
 | 0,_=>[]
 |n+1,x=>(if dd F (x+1)=0 then[]else[(x+1,F (x+1) / D)])++kk D F n (x+1)
theorem Vx (D:Int)(F:Int→Int)(m:Nat):∀(n:Nat) (x:Int),kk D F (n+m) x=kk D F n x++kk D F m (x+n)
 | 0,x=>by simp[kk]
 | n+1,x=>by
   rw[show n+1+m=(n+m)+1 by lia,kk,kk,Vx D F m n (x+1),saF,show x+1+(n:Int)=x+((n+1:Nat):Int)by lia]
theorem aQ {D:Int}{F:Int→Int}:∀(n:Nat) (x:Int),(∀y,x<y→y≤x+n→dd F y=0)→kk D F n x=[]
 | 0,x,_=>rfl
 | n+1,x,h=>by
   have e:=aQ (D:=D) n (x+1) fun y q1 q2=>h y (by lia) (by lia);rw[kk,saf (h (x+1) (by lia) (by lia)),e];rfl
theorem jP {D:Int}{F:Int→Int}(hD:0<D){b:zh}:∀{l:List zh} {a:zh},kR D F a l b→yL (a::l)=kk D F (b.1 - a.1 - 1).toNat a.1
 | [],a,h=>by
   cases(show a=b from h);rw[show(b.1 - b.1 - 1).toNat=0 by lia];rfl
 | [v],a,h=>by
   cases(show v=b from h.2);have:=h.1.1;have e:=aQ (D:=D) (b.1 - a.1 - 1).toNat a.1 fun y q1 q2=>h.1.2.2.2 y q1 (by lia);rw[e];rfl
 | v::w::r,a,h=>by
   have ih:=jP hD h.2;have h1:=h.1.1;have h2:=h.2.1.1;have h3:=kR.le h.2.2;have en:=aQ (D:=D) (v.1 - a.1 - 1).toNat a.1 fun y q1 q2=>h.1.2.2.2 y q1 (by lia);rw[yL,ih,show(b.1 - a.1 - 1).toNat=(v.1 - a.1 - 1).toNat+((b.1 - v.1 - 1).toNat+1)by lia,Vx,en,List.nil_append,kk,show a.1+((v.1 - a.1 - 1).toNat:Int)+1=v.1 by lia];congr 1;have e:=Uw hD h.1 h.2.1;have ev:F v.1 / D=v.2:=by rw[h.2.1.2.1];exact Int.mul_ediv_cancel_left _ (by lia)
   by_cases z:dd F v.1=0
   ·rw[saf z,saf (e.mpr z)]
   ·rw[sah z,sah fun q=>z (e.mp q),ev]
theorem nH {D:Int}{F:Int→Int}{b:zh}:∀{l:List zh} {a:zh},kR D F a l b→l≠[]→∃q r,(a::l).reverse=b::q::r∧X8 D F q b
 |[],a,_,z=>absurd rfl z
 | [v],a,h,_=>by
   cases(show v=b from h.2);exact⟨a,[],rfl,h.1⟩
 | v::w::r,a,h,_=>by
   obtain⟨q,r',e,k⟩:=nH h.2 (by simp);exact⟨q,r'++[a],by rw[saO,e];rfl,k⟩
theorem SF {D:Int}{F:Int→Int}(hD:0<D){a b:zh}{l l':List zh}(hab:a.1<b.1)(h:kR D F a l b)(h':kR D F a l' b):LegEq (a::l) (a::l'):=by
 have n1:l≠[]:=fun z=>by rw[z]at h;cases(show a=b from h);lia
 have n2:l'≠[]:=fun z=>by rw[z]at h';cases(show a=b from h');lia
 refine⟨fun o=>?_,fun o=>?_,by rw[jP hD h,jP hD h']⟩
 ·cases l with
  |nil=>exact absurd rfl n1
  | cons v r=>
    cases l' with
    |nil=>exact absurd rfl n2
    | cons v' r'=>
      show z_ o a v=z_ o a v';rw[sbV,ZP hD h.1,ZP hD h'.1]
 ·obtain⟨q,r,e,k⟩:=nH h n1;obtain⟨q',r',e',k'⟩:=nH h' n2;rw[e,e'];show z_ o b q=z_ o b q';rw[wV,wV o,sbV,aa hD k,aa hD k']
theorem dw {a b:zh}{x:Int}:bw a b x↔bw b a x:=Or.comm
theorem Y4 {a b:zh}(p:zh)(h:a.1≠b.1):zI a b p=zI b a p:=by
 unfold zI;have e:zT b a p = -zT a b p:=by unfold zT;grind
 rw[e];by_cases z:0<b.1 - a.1
 ·rw[saf z,sah (by lia),Int.neg_neg]
 ·rw[sah z,saf (by lia)]
theorem V2 {a b:zh}{x:Int}(h:bw a b x):a.1≠b.1:=by
 rcases h with z|z <;> lia
theorem ik {a b:zh}{g:Ga}{p:zh}{d:Int}(h:a.1≠b.1)(k:ZD a b g p d):ZD b a g p d:=by
 obtain⟨h1,h2⟩:=k;rw[Y4 p h]at h2;exact⟨h1,h2⟩
theorem kD {run:List Ga}{a b:zh}{l:List zh}(h:Pul run a b l):∃l',Pul run b a l'∧b::l'=(a::l).reverse:=by
 induction h with
 |@stop a b h=>exact⟨[a],.stop fun g hg hb p d k=>h g hg (dw.mp hb) p d (ik (V2 hb) k),rfl⟩
 | @split a b p d g l1 l2 hg hb hB hd far _ _ ih1 ih2=>
   obtain⟨l1',h1,e1⟩:=ih1;obtain⟨l2',h2,e2⟩:=ih2;have ne:=V2 hb;refine⟨l2'++l1',.split hg (dw.mp hb) (ik ne hB) hd (fun g' hg' hb' p' d' k=>far g' hg' (dw.mp hb') p' d' (ik ne.symm k)) h2 h1,?_⟩;rw[←List.cons_append,e2,saO,saF,List.singleton_append,e1,←List.cons_append,List.reverse_append]
theorem aw {run:List Ga}{a b:zh}{l:List zh}(h:Pul run a b l)(e:a.1=b.1):l=[b]:=by
 cases h with
 |stop _=>rfl
 |split hg hb _ _ _ _ _=>exact absurd e (V2 hb)
noncomputable def QJ:Nat→Int
 | 0=>1
 |n+1=>((n+1:Nat):Int)*QJ n
theorem eK:∀n,0<QJ n
 | 0=>by decide
 |n+1=>scI (by lia) (eK n)
theorem Yw {k:Int}(h:0<k):∀n:Nat,k≤n→k∣QJ n
 | 0,z=>by lia
 | n+1,z=>by
   by_cases q:k≤n
   ·exact Int.dvd_trans (Yw h n q) (Int.dvd_mul_left _ _)
   ·rw[show k=((n+1:Nat):Int)by lia];exact Int.dvd_mul_right _ _
theorem WN {D:Int}{F:Int→Int}{b:zh}:∀{l:List zh} {a:zh},kR D F a l b→(a::l).Pairwise fun u v=>u.1<v.1
 |[],a,_=>by simp
 | v::r,a,h=>by
   have ih:=WN h.2;have h1:=h.1.1;refine saC.mpr ⟨fun u hu=>?_,ih⟩
   rcases saj.mp hu with rfl|hu
   ·exact h1
   ·have:=(saC.mp ih).1 u hu;lia
theorem mI {run:List Ga}(ok:tu run){a b:zh}{l:List zh}(h:Pul run a b l)(hab:a.1<b.1):∃F,Curve (QJ (b.1 - a.1).toNat) run a b F∧kR (QJ (b.1 - a.1).toNat) F a l b :=
 Xb ok h (eK _) hab fun k q1 q2=>Yw q1 _ (by lia)
structure Leg (a b:zh)(l:List zh):Prop where
 ne:(a::l).Pairwise fun u v=>u.1≠v.1
 last:∃q r,(a::l).reverse=b::q::r
theorem Leg.right {run:List Ga}(ok:tu run){a b:zh}{l:List zh}(h:Pul run a b l)(hab:a.1<b.1):Leg a b l:=by
 obtain⟨F,_,P⟩:=mI ok h hab;have n1:l≠[]:=fun z=>by rw[z]at P;cases(show a=b from P);lia
 obtain⟨q,r,e,_⟩:=nH P n1;exact⟨(WN P).imp fun h=>by lia,q,r,e⟩
theorem cz {run:List Ga}(ok:tu run){a b:zh}{l l':List zh}(h:Pul run a b l)(h':Pul run a b l')(hab:a.1<b.1):LegEq (a::l) (a::l'):=by
 obtain⟨F,C,P⟩:=mI ok h hab;obtain⟨F',C',P'⟩:=mI ok h' hab;exact SF (eK _) hab P (P'.congr fun x q1 q2=>C.uniq C' q1 q2)
theorem Z5 {run:List Ga}(ok:tu run){a b:zh}{l:List zh}(h:Pul run a b l)(hab:a.1≠b.1):Leg a b l:=by
 rcases scL hab with z|z
 ·exact Leg.right ok h z
 ·obtain⟨l',h',e⟩:=kD h;have L:=Leg.right ok h' z;have n:=L.ne;rw[e,List.pairwise_reverse]at n;refine⟨n.imp fun q=>scJ q,?_⟩;rw[←e];obtain⟨q,r,e'⟩:=L.last
  cases l' with
  |nil=>cases e'
  |cons v r=>exact⟨v,r,rfl⟩
theorem SE {run:List Ga}(ok:tu run){a b:zh}{l l':List zh}(h:Pul run a b l)(h':Pul run a b l')(hab:a.1≠b.1):LegEq (a::l) (a::l'):=by
 rcases scL hab with z|z
 ·exact cz ok h h' z
 ·obtain⟨m,k,e⟩:=kD h;obtain⟨m',k',e'⟩:=kD h';have:=(cz ok k k' z).rev
  rwa [e,e',sbO,sbO]at this
noncomputable def co:Option zh→List zh→List zh
 |none,_=>[]
 |some o,L=>if Tf o L=true then[]else L.take 1
noncomputable def ko:Option zh→zh→List zh→List zh
 |_,_,[]=>[]
 |o,a,v::r=>if v=a then ko o a r else co o [a,v]++ko (some a) v r
theorem dy:∀{l:List zh} {o:Option zh} {a b q:zh} {r rest:List zh},(a::l).Pairwise (fun u v=>u.1≠v.1)→(a::l).reverse=b::q::r→ko o a (l++rest)=co o (a::l)++yL (a::l)++ko (some q) b rest
 |[],o,a,b,q,r,rest,_,e=>by simp at e
 | [v],o,a,b,q,r,rest,n,e=>by
   simp at e;obtain⟨rfl,rfl,rfl⟩:=e;have:v≠a:=fun z=>by subst z;simp at n
   show(if v=a then ko o a rest else co o [a,v]++ko (some a) v rest)=co o [a,v]++[]++_;rw[sah this,sbq]
 | v::w::s,o,a,b,q,r,rest,n,e=>by
   have hv:v≠a:=fun z=>(saC.mp n).1 v (by simp) (by rw[z])
   obtain⟨r',e'⟩:∃r',(v::w::s).reverse=b::q::r':=by
    rw[saO]at e;generalize hL:(v::w::s).reverse=L at e;have hlen:L.length=s.length+2:=by rw[←hL];simp
    match L,hlen with
    | x::y::t,_=>
      simp only[List.cons_append,List.cons.injEq]at e;exact⟨t,by rw[e.1,e.2.1]⟩
   have ih:=dy (o:=some a) (rest:=rest) (saC.mp n).2 e';show(if v=a then ko o a (w::s++rest)else co o [a,v]++ko (some a) v (w::s++rest))=_;rw[sah hv,ih]
   have c1:co o [a,v]=co o (a::v::w::s):=by cases o <;> rfl
   have c2:yL (a::v::w::s)=co (some a) (v::w::s)++yL (v::w::s):=by
    rw[yL];rfl
   rw[c1,c2];simp only[saF]
inductive Tot:zh→List (List Ga×zh)→List zh→Prop
 |nil {a:zh}:Tot a [] []
 |cons {a b:zh} {run:List Ga} {l l':List zh} {legs:List (List Ga×zh)}:Pul run a b l→Tot b legs l'→Tot a ((run,b)::legs) (l++l')
noncomputable def Zw (a:zh):Option zh→Option zh→Prop
 |none,none=>True
 |some o,some o'=>∀n,z_ o a n=z_ o' a n
 |_,_=>False
theorem YE {a v:zh}{r r':List zh}{v':zh}{o o':Option zh}(s:Zw a o o')(h:∀o,Tf o (a::v::r)=Tf o (a::v'::r')):co o (a::v::r)=co o' (a::v'::r'):=by
 match o,o',s with
 |none,none,_=>rfl
 | some o,some o',s=>
   show(if Tf o (a::v::r)=true then[]else[a])=(if Tf o' (a::v'::r')=true then[]else[a])
   rw[h o]
   show(if z_ o a v'=true then[]else[a])=(if z_ o' a v'=true then[]else[a])
   rw[s v']
theorem kx:∀{legs:List (List Ga×zh)} {a:zh} {l l':List zh} {o o':Option zh},(∀p∈legs,tu p.1)→Tot a legs l→Tot a legs l'→Zw a o o'→ko o a l=ko o' a l'
 | [],a,l,l',o,o',_,h,h',s=>by
   cases h;cases h';rfl
 | (run,b)::legs,a,l,l',o,o',ok,h,h',s=>by
   cases h with
   | @cons _ _ _ m n _ h1 h2=>
     cases h' with
     | @cons _ _ _ m' n' _ k1 k2=>
       have ok':∀p∈legs,tu p.1:=fun p hp=>ok p (sao _ hp);by_cases e:a.1=b.1
       ·rw[aw h1 e,aw k1 e]
        show(if b=a then ko o a n else co o [a,b]++ko (some a) b n)=(if b=a then ko o' a n' else co o' [a,b]++ko (some a) b n')
        by_cases z:b=a
        ·rw[saf z,saf z];subst z;exact kx ok' h2 k2 s
        ·rw[sah z,sah z,YE (r:=[]) (r':=[]) (v':=b) s fun _=>rfl,kx ok' h2 k2 (o:=some a) (o':=some a) fun _=>rfl]
       ·have okr:=ok (run,b) (by simp);have L:=Z5 okr h1 e;have L':=Z5 okr k1 e;have E:=SE okr h1 k1 e;obtain⟨q,r,er⟩:=L.last;obtain⟨q',r',er'⟩:=L'.last;rw[dy L.ne er,dy L'.ne er',E.inn]
        have s':Zw b (some q) (some q'):=fun n=>by
         have:=E.tl n;rw[er,er']at this;have:z_ n b q=z_ n b q':=this;rw[wV q,wV q',this]
        rw[kx ok' h2 k2 s'];congr 2;have hd:=E.hd
        cases m with
        |nil=>simp at er
        | cons v t=>
          cases m' with
          |nil=>simp at er'
          |cons v' t'=>exact YE s hd
theorem Pul.mem {run run':List Ga}(h1:∀g∈run,∃g'∈run',g'.x=g.x∧g'.lo=g.lo∧g'.hi=g.hi)(h2:∀g∈run',∃g'∈run,g'.x=g.x∧g'.lo=g.lo∧g'.hi=g.hi){a b:zh}{l:List zh}(h:Pul run a b l):Pul run' a b l:=by
 have cv:∀{a b p:zh} {d:Int} {g g':Ga},g'.x=g.x→g'.lo=g.lo→g'.hi=g.hi→ZD a b g p d→ZD a b g' p d:=fun e1 e2 e3 ⟨k1,k2⟩=>⟨by rw[e1];exact k1,by rw[e2,e3];exact k2⟩
 induction h with
 | @stop a b h=>
   refine .stop fun g hg hb p d k=>?_;obtain⟨g',hg',e1,e2,e3⟩:=h2 g hg;exact h g' hg' (by rw[e1];exact hb) p d (cv e1 e2 e3 k)
 | @split a b p d g l1 l2 hg hb hB hd far _ _ ih1 ih2=>
   obtain⟨g',hg',e1,e2,e3⟩:=h1 g hg;refine .split hg' (by rw[e1];exact hb) (cv e1 e2 e3 hB) hd (fun g1 hg1 hb1 p1 d1 k=>?_) ih1 ih2;obtain⟨g2,hg2,f1,f2,f3⟩:=h2 g1 hg1;exact far g2 hg2 (by rw[f1];exact hb1) p1 d1 (cv f1 f2 f3 k)
noncomputable def tK (g:Ga):Ga:=⟨g.x,g.lo,g.hi,-g.w⟩
noncomputable def wm (run:List Ga):List Ga:=(run.map tK).reverse
theorem nD {run:List Ga}{a b:zh}{l:List zh}(h:Pul run a b l):∃l',Pul (wm run) b a l'∧b::l'=(a::l).reverse:=by
 obtain⟨l',k,e⟩:=kD h;refine⟨l',k.mem (fun g hg=>⟨tK g,?_,rfl,rfl,rfl⟩) (fun g hg=>?_),e⟩
 ·unfold wm;rw[sbr];exact scl hg
 ·unfold wm at hg;rw[sbr]at hg;obtain⟨g',hg',rfl⟩:=saz.mp hg;exact⟨g',hg',rfl,rfl,rfl⟩
noncomputable def xy (g h:Ga):Bool:=match g.hi,h.lo with
 |some u,some v=>decide (u≤v)
 |_,_=>false
noncomputable def yh (g h:Ga):zh×zh:=if xy g h=true then((g.x,g.hi.getD 0),(g.x,h.lo.getD 0))else((g.x,g.lo.getD 0),(g.x,h.hi.getD 0))
noncomputable def zK (R:List Ga):Ga:=R.getLastD ⟨0,none,none,0⟩
noncomputable def vI (R:List Ga):Ga:=R.headD ⟨0,none,none,0⟩
noncomputable def x5:List (List Ga)→zh→List (List Ga×zh)
 |[],e=>[([],e)]
 |[R],e=>[(R,e)]
 |R::S::rs,e=>(R,(yh (zK R) (vI S)).1)::([],(yh (zK R) (vI S)).2)::x5 (S::rs) e
theorem gq:∀(rs:List (List Ga)) (R S:List Ga) (e:zh),x5 (rs++[R,S]) e=x5 (rs++[R]) (yh (zK R) (vI S)).1++[([],(yh (zK R) (vI S)).2),(S,e)]
 |[],R,S,e=>rfl
 |[Q],R,S,e=>rfl
 | Q::P::rs,R,S,e=>by
   have ih:=gq (P::rs) R S e;simp only[List.cons_append]at ih ⊢;rw[x5,ih,x5];rfl
theorem Tot.app {b:zh}{legs2:List (List Ga×zh)}{l2:List zh}(h2:Tot b legs2 l2):∀{legs1:List (List Ga×zh)} {a:zh} {l1:List zh},Tot a legs1 l1→(a::legs1.map (·.2)).getLast?=some b→Tot a (legs1++legs2) (l1++l2)
 | [],a,l1,h,e=>by
   cases h;simp at e;subst e;exact h2
 | (run,c)::legs,a,l1,h,e=>by
   cases h with
   | cons h1 h3=>
     rw[saF];refine .cons h1 (Tot.app h2 h3 ?_);simpa using e
theorem gy:∀(rs:List (List Ga)) (a e:zh),(a::(x5 rs e).map (·.2)).getLast?=some e
 |[],a,e=>rfl
 |[R],a,e=>rfl
 | R::S::rs,a,e=>by
   have:=gy (S::rs) (yh (zK R) (vI S)).2 e;simp only[x5,List.map_cons];rw[List.getLast?_cons_cons,List.getLast?_cons_cons];exact this
structure TurnOk (t g:Ga):Prop where
 x:t.x=g.x
 one:(∃u v,t.hi=some u∧g.lo=some v∧u≤v)∨(∃u v,g.hi=some u∧t.lo=some v∧u≤v)
 tw:∀u v,t.lo=some u→t.hi=some v→u<v
 gw:∀u v,g.lo=some u→g.hi=some v→u<v
theorem kW {t g:Ga}(h:TurnOk t g):yh (tK g) (tK t)=((yh t g).2,(yh t g).1):=by
 have e1:xy (tK g) (tK t)=xy g t:=rfl
 have n:xy t g=true→xy g t=false:=by
  intro q
  cases hh:xy g t with
  |false=>rfl
  | true=>
    unfold xy at q hh
    cases a:t.hi with
    |none=>rw[a]at q;cases q
    | some u=>
      cases b:g.lo with
      |none=>rw[a,b]at q;cases q
      | some v=>
        cases c:g.hi with
        |none=>rw[c]at hh;cases hh
        | some u'=>
          cases d:t.lo with
          |none=>rw[c,d]at hh;cases hh
          | some v'=>
            rw[a,b]at q;rw[c,d]at hh;have q:=scj q;have hh:=scj hh;have:=h.tw _ _ d a;have:=h.gw _ _ b c;lia
 have y:xy t g=true∨xy g t=true:=by
  rcases h.one with⟨u,v,e,e',l⟩|⟨u,v,e,e',l⟩
  ·left;unfold xy;rw[e,e'];exact sal l
  ·right;unfold xy;rw[e,e'];exact sal l
 unfold yh;rw[e1]
 cases q:xy t g with
 | true=>
   rw[n q,sah sax,saf rfl];show((g.x,g.lo.getD 0),(g.x,t.hi.getD 0))=_;rw[←h.x]
 | false=>
   rw[q]at y
   rcases y with y|y
   ·cases y
   ·rw[y,saf rfl,sah sax];show((g.x,g.hi.getD 0),(g.x,t.lo.getD 0))=_;rw[←h.x]
noncomputable def ml:List (List Ga)→Prop
 |R::S::rs=>TurnOk (zK R) (vI S)∧R≠[]∧S≠[]∧ml (S::rs)
 |_=>True
theorem Xs {R:List Ga}(h:R≠[]):zK (wm R)=tK (vI R):=by
 cases R with
 |nil=>exact absurd rfl h
 | cons g r=>
   unfold zK wm vI;rw[List.map_cons,saO,sam,sbP];rfl
theorem gF {R:List Ga}(h:R≠[]):vI (wm R)=tK (zK R):=by
 unfold zK wm vI;rw[List.headD_eq_head?_getD,List.head?_reverse,List.getLast?_map,sam,saJ h];rfl
theorem ZM:∀(rs:List (List Ga)) (s e:zh) (T:List zh),ml rs→Tot s (x5 rs e) T→∃T',Tot e (x5 (rs.map wm).reverse s) T'∧e::T'=(s::T).reverse
 | [],s,e,T,_,h=>by
   cases h with
   | cons h1 h2=>
     cases h2;obtain⟨l',k,q⟩:=nD h1;refine⟨l'++[],.cons k .nil,?_⟩;rw[sbq,sbq];exact q
 | [R],s,e,T,_,h=>by
   cases h with
   | cons h1 h2=>
     cases h2;obtain⟨l',k,q⟩:=nD h1;refine⟨l'++[],.cons k .nil,?_⟩;rw[sbq,sbq];exact q
 | R::S::rs,s,e,T,ok,h=>by
   obtain⟨ht,hR,hS,ok'⟩:=ok
   cases h with
   | @cons _ _ _ l1 _ _ h1 h2=>
     cases h2 with
     | @cons _ _ _ l2 T2 _ h2 h3=>
       obtain⟨T2',k3,q3⟩:=ZM (S::rs) _ e T2 ok' h3;obtain⟨l1',k1,q1⟩:=nD h1;obtain⟨l2',k2,q2⟩:=nD h2;have et:=kW ht;rw[←Xs hS,←gF hR]at et
       have el:x5 ((R::S::rs).map wm).reverse s=x5 ((S::rs).map wm).reverse (yh (zK R) (vI S)).2++[([],(yh (zK R) (vI S)).1),(wm R,s)]:=by
        simp only[List.map_cons,saO,saF,List.cons_append,List.nil_append];rw[gq,et]
       rw[el];refine⟨T2'++(l2'++(l1'++[])),Tot.app ?_ k3 (gy _ _ _),?_⟩
       ·exact .cons k2 (.cons k1 .nil)
       ·rw[sbq,←List.cons_append,q3];simp only[saO,List.reverse_append,saF]at q1 q2 ⊢;simp only[List.cons_append,List.nil_append];rw[←List.cons_append,q2,saF,List.singleton_append,q1]
noncomputable def qz:List zh→List zh
 |[]=>[]
 |[a]=>[a]
 |a::b::r=>if b=a then qz (a::r)else a::qz (b::r)
termination_by l=>l.length
theorem xD (a:zh)(r:List zh):qz (a::a::r)=qz (a::r):=by rw[qz,saf rfl]
theorem vt {a b:zh}(r:List zh)(h:b≠a):qz (a::b::r)=a::qz (b::r):=by rw[qz,sah h]
theorem vU (a:zh):qz [a]=[a]:=by rw[qz]
theorem dU:∀(r:List zh) (a:zh),∃t,qz (a::r)=a::t
 |[],a=>⟨[],vU a⟩
 | b::r,a=>by
   by_cases z:b=a
   ·subst z;obtain⟨t,e⟩:=dU r b;exact⟨t,by rw[xD,e]⟩
   ·exact⟨_,vt r z⟩
theorem ij:∀(l:List zh) (o a:zh),ko (some o) a l=yL (o::qz (a::l))
 |[],o,a=>by rw[vU];rfl
 | v::r,o,a=>by
   show(if v=a then ko (some o) a r else co (some o) [a,v]++ko (some a) v r)=_;by_cases z:v=a
   ·subst z;rw[saf rfl,ij r o v,xD]
   ·rw[sah z,ij r a v,vt r z];obtain⟨t,e⟩:=dU r v;rw[e,yL];rfl
theorem mi:∀(l:List zh) (a:zh),ko none a l=yL (qz (a::l))
 |[],a=>by rw[vU];rfl
 | v::r,a=>by
   show(if v=a then ko none a r else[]++ko (some a) v r)=_;by_cases z:v=a
   ·subst z;rw[saf rfl,mi r v,xD]
   ·rw[sah z,List.nil_append,ij,vt r z]
theorem qy (b:zh):∀(l:List zh) (a:zh),qz (l++[a,b])=if b=a then qz (l++[a])else qz (l++[a])++[b]
 | [],a=>by
   by_cases z:b=a
   ·subst z;rw[saf rfl];exact xD b []
   ·rw[sah z]
    show qz (a::b::[])=qz [a]++[b]
    rw[vt [] z,vU,vU];rfl
 | [x],a=>by
   show qz (x::a::[b])=if b=a then qz (x::a::[])else qz (x::a::[])++[b]
   have ih:=qy b [] a;simp only[List.nil_append]at ih;by_cases q:a=x
   ·subst q;rw[xD,xD,ih]
   ·rw[vt _ q,vt _ q,ih]
    split <;> simp
 | x::y::l,a=>by
   simp only[List.cons_append];by_cases q:y=x
   ·subst q;rw[xD,xD];exact qy b (y::l) a
   ·have ih:=qy b (y::l) a;simp only[List.cons_append]at ih;rw[vt _ q,vt _ q,ih]
    split <;> simp
termination_by l=>l.length
theorem ZJ:∀l:List zh,qz l.reverse=(qz l).reverse
 |[]=>by simp[qz]
 |[a]=>by simp[qz]
 | a::b::r=>by
   have ih:=ZJ (b::r);rw[saO]at ih;simp only[saO,saF,List.cons_append,List.nil_append];rw[qy];by_cases z:b=a
   ·subst z;rw[saf rfl,xD,ih]
   ·rw[sah fun q=>z q.symm,vt r z,ih,saO]
termination_by l=>l.length
theorem TC {a b:zh}{l l':List zh}(h:b::l'=(a::l).reverse):ko none b l'=(ko none a l).reverse:=by
 rw[mi,mi,h,ZJ,pH]
noncomputable def qY (s:zh)(rs:List (List Ga))(e:zh)(out:List zh):Prop:=∃T,Tot s (x5 rs e) T∧out=s::(ko none s T++[e])
noncomputable def ir (rs:List (List Ga)):Prop:=∀R∈rs,tu R
theorem Va:tu []:=fun g hg=>absurd hg (by simp)
theorem Yi:∀{rs:List (List Ga)} {e:zh},ir rs→∀p∈x5 rs e,tu p.1
 | [],e,_,p,hp=>by
   rw[sag.mp hp];exact Va
 | [R],e,h,p,hp=>by
   rw[sag.mp hp];exact h R (by simp)
 | R::S::rs,e,h,p,hp=>by
   rcases saj.mp hp with rfl|hp
   ·exact h R (by simp)
   ·rcases saj.mp hp with rfl|hp
    ·exact Va
    ·exact Yi (fun Q hQ=>h Q (sao _ hQ)) p hp
theorem cx {s e:zh}{rs:List (List Ga)}{out out':List zh}(ok:ir rs)(h:qY s rs e out)(h':qY s rs e out'):out=out':=by
 obtain⟨T,t,rfl⟩:=h;obtain⟨T',t',rfl⟩:=h';rw[kx (o:=none) (o':=none) (Yi ok) t t' trivial]
theorem ai {R:List Ga}(h:tu R):tu (wm R):=by
 intro g hg g' hg' hx u v e1 e2;unfold wm at hg hg';obtain⟨g1,k1,rfl⟩:=saz.mp (sbr.mp hg);obtain⟨g2,k2,rfl⟩:=saz.mp (sbr.mp hg');exact h g1 k1 g2 k2 hx u v e1 e2
theorem av {s e:zh}{rs:List (List Ga)}{out out':List zh}(ok:ir rs)(tn:ml rs)(h:qY s rs e out)(h':qY e (rs.map wm).reverse s out'):out'=out.reverse:=by
 obtain⟨T,t,rfl⟩:=h;obtain⟨T1,t1,q⟩:=ZM rs s e T tn t
 have ok':ir (rs.map wm).reverse:=fun R hR=>by
  obtain⟨Q,hQ,rfl⟩:=saz.mp (sbr.mp hR);exact ai (ok Q hQ)
 rw[cx ok' h' ⟨T1,t1,rfl⟩,TC q];simp
noncomputable def xn:List Ga→List (List Ga)
 |[]=>[]
 | g::r=>match xn r with
   |(h::R)::rs=>if g.w=h.w then(g::h::R)::rs else[g]::(h::R)::rs
   |_=>[[g]]
noncomputable def Up (a b:Ga):Prop:=a.w=b.w∧(a.w=1→a.x<b.x)∧(a.w≠1→b.x<a.x)
theorem Up.trans {a b c:Ga}(h:Up a b)(k:Up b c):Up a c:=by
 obtain⟨h1,h2,h3⟩:=h;obtain⟨k1,k2,k3⟩:=k;refine⟨h1.trans k1,fun z=>?_,fun z=>?_⟩
 ·have:=h2 z;have:=k2 (by rw[←h1];exact z);lia
 ·have:=h3 z;have:=k3 (by rw[←h1];exact z);lia
noncomputable def kr:List Ga→Prop
 |t::g::r=>(t.w=g.w→Up t g)∧(t.w≠g.w→TurnOk t g)∧kr (g::r)
 |_=>True
noncomputable def dH (g:Ga):Prop:=∀u v,g.lo=some u→g.hi=some v→u<v
noncomputable def Q0:List (List Ga)→Prop
 |[]=>True
 |[R]=>R≠[]∧R.Pairwise Up
 |R::S::rs=>R≠[]∧R.Pairwise Up∧(zK R).w≠(vI S).w∧TurnOk (zK R) (vI S)∧Q0 (S::rs)
theorem vL {g h:Ga}{r R:List Ga}{rs:List (List Ga)}(e:xn r=(h::R)::rs):xn (g::r)=if g.w=h.w then(g::h::R)::rs else[g]::(h::R)::rs:=by
 rw[xn,e]
theorem sM:∀row:List Ga,(xn row).flatten=row
 |[]=>rfl
 | g::r=>by
   have ih:=sM r
   cases hr:xn r with
   | nil=>
     rw[hr]at ih;rw[xn,hr,←ih];rfl
   | cons R rs=>
     cases R with
     | nil=>
       rw[hr]at ih;exfalso
       cases r with
       |nil=>cases hr
       | cons x r=>
         rw[xn]at hr;split at hr
         ·split at hr <;> cases hr
         ·cases hr
     | cons h R=>
       rw[hr]at ih;rw[vL hr];split
       ·rw[List.flatten_cons,List.cons_append,←ih,List.flatten_cons]
       ·rw[List.flatten_cons,←ih];rfl
theorem px:∀(g:Ga) (r:List Ga),∃R rs,xn (g::r)=(g::R)::rs:=by
 intro g r;rw[xn];split
 ·split
  ·exact⟨_,_,rfl⟩
  ·exact⟨_,_,rfl⟩
 ·exact⟨_,_,rfl⟩
theorem nh:∀row:List Ga,kr row→Q0 (xn row)
 |[],_=>trivial
 |[g],_=>⟨by simp,by simp⟩
 | g::h::r,⟨w1,w2,w3⟩=>by
   have ih:=nh (h::r) w3;obtain⟨R,rs,e⟩:=px h r;rw[vL e];rw[e]at ih;split
   ·rename_i hw;have u:=w1 hw
    have pw:∀Q:List Ga,(h::Q).Pairwise Up→(g::h::Q).Pairwise Up:=fun Q hQ=>saC.mpr ⟨fun x hx=>by
     rcases saj.mp hx with rfl|hx
     ·exact u
     ·exact u.trans ((saC.mp hQ).1 x hx),hQ⟩
    cases rs with
    |nil=>exact⟨by simp,pw R ih.2⟩
    | cons S rs=>
      obtain⟨_,i2,i3,i4,i5⟩:=ih
      have el:zK (g::h::R)=zK (h::R):=by
       unfold zK;rw[sam,sam,List.getLast?_cons_cons]
      exact⟨by simp,pw R i2,by rw[el];exact i3,by rw[el];exact i4,i5⟩
   ·rename_i hw;exact⟨by simp,by simp,hw,w2 hw,ih⟩
theorem mB:∀rs:List (List Ga),Q0 rs→ml rs
 |[],_=>trivial
 |[R],_=>trivial
 | R :: S :: rs,⟨h1,_,_,h4,h5⟩=>⟨h4,h1,by
     cases rs with
     |nil=>exact h5.1
     |cons _ _=>exact h5.1,mB (S::rs) h5⟩
theorem fF:∀{rs:List (List Ga)},Q0 rs→∀R∈rs,R≠[]∧R.Pairwise Up
 |[],_,R,h=>absurd h (by simp)
 |[Q],s,R,h=>by rw[sag.mp h];exact s
 | Q::S::rs,s,R,h=>by
   rcases saj.mp h with rfl|h
   ·exact⟨s.1,s.2.1⟩
   ·exact fF s.2.2.2.2 R h
theorem R8 {R:List Ga}(h:R.Pairwise Up)(k:∀g∈R,dH g):tu R:=by
 intro g hg g' hg' hx u v e1 e2
 have:g=g':=by
  by_cases z:g=g'
  ·exact z
  ·exfalso
   have hne:∀a b:Ga,Up a b→a.x≠b.x:=fun a b ⟨_,h2,h3⟩=>by
    by_cases q:a.w=1
    ·have:=h2 q;lia
    ·have:=h3 q;lia
   have h':R.Pairwise fun a b=>a.x≠b.x:=h.imp fun {a b} q=>hne a b q;rw[sbC]at h';obtain⟨i,hi,rfl⟩:=List.getElem_of_mem hg;obtain⟨j,hj,rfl⟩:=List.getElem_of_mem hg'
   rcases Nat.lt_trichotomy i j with q|q|q
   ·exact h' i j hi hj q hx
   ·subst q;exact z rfl
   ·exact h' j i hj hi q hx.symm
 subst this;have:=k g hg u v e1 e2;lia
theorem UB {row:List Ga}(h:kr row)(k:∀g∈row,dH g):ir (xn row):=by
 intro R hR;refine R8 (fF (nh row h) R hR).2 fun g hg=>k g ?_;rw[←sM row];exact scs.mpr ⟨R,hR,hg⟩
theorem ni {R:List Ga}(hu:R.Pairwise Up):∀(hR:R≠[]) {r:List Ga},(∀h∈r.head?,(zK R).w≠h.w)→xn (R++r)=R::xn r:=by
 induction R with
 |nil=>exact fun z=>absurd rfl z
 | cons g R ih=>
   intro _ r hr
   cases R with
   | nil=>
     cases r with
     |nil=>rfl
     | cons h r=>
       obtain⟨Q,rs,e⟩:=px h r;show xn (g::h::r)=_;rw[vL e,sah (show ¬g.w=h.w from hr h (by simp)),e]
   | cons g' R=>
     have el:zK (g::g'::R)=zK (g'::R):=by
      unfold zK;rw[sam,sam,List.getLast?_cons_cons]
     rw[el]at hr;have:=ih (saC.mp hu).2 (by simp) hr;have hw:=((saC.mp hu).1 g' (by simp)).1;show xn (g::(g'::R++r))=_;rw[vL this,saf hw]
theorem Z1 {R:List Ga}(h:R.Pairwise Up)(hw:∀g∈R,g.w=1∨g.w = -1):(wm R).Pairwise Up:=by
 unfold wm;rw[List.pairwise_reverse,sbE]
 refine h.imp_of_mem fun {a b} ha hb ⟨h1,h2,h3⟩=>⟨?_,fun z=>?_,fun z=>?_⟩
 ·show -b.w = -a.w;lia
 ·have z : -b.w=1:=z;exact h3 (by lia)
 ·have z : -b.w≠1:=z;refine h2 ?_
  rcases hw b hb with q|q <;> lia
theorem cg:∀{rs:List (List Ga)},Q0 rs→(∀R∈rs,∀g∈R,g.w=1∨g.w = -1)→xn (wm rs.flatten)=(rs.map wm).reverse
 |[],_,_=>rfl
 | [R],s,hw=>by
   have:=ni (r:=[]) (Z1 s.2 (hw R (by simp))) (by unfold wm;simpa using s.1) (by simp);rw[sbq]at this;simp only[List.flatten_cons,List.flatten_nil,sbq];rw[this];rfl
 | R::S::rs,s,hw=>by
   obtain⟨h1,h2,h3,h4,h5⟩:=s;have ih:=cg h5 fun Q hQ=>hw Q (sao _ hQ)
   have hS:=(fF h5 S (by simp))
   have key:∀(l:List Ga) (rs':List (List Ga)),xn l=rs'→(∀x∈l.getLast?,x.w≠(vI (wm R)).w)→xn (l++wm R)=rs'++[wm R]:=by
    intro l;have hRr:wm R≠[]:=by unfold wm;simpa using h1
    have hRu:=Z1 h2 (hw R (by simp))
    have e0:xn (wm R)=[wm R]:=by
     have:=ni (r:=[]) hRu hRr (by simp)
     rwa [sbq]at this
    induction l with
    |nil=>rintro rs' rfl _;exact e0
    | cons g l ihl=>
      rintro rs' rfl hl
      cases l with
      | nil=>
        obtain⟨y,t,ey⟩:=List.exists_cons_of_ne_nil hRr;rw[ey]at e0 hl ⊢;show xn (g::y::t)=_;rw[vL e0,sah (show ¬g.w=y.w from hl g (by simp))];rfl
      | cons h l=>
        have:=ihl _ rfl (by simpa using hl);obtain⟨Q,qs,e⟩:=px h l;rw[e]at this;show xn (g::(h::l++wm R))=_;rw[vL this,vL e]
        split <;> rfl
   rw[List.flatten_cons]
   have er:wm (R++(S::rs).flatten)=wm (S::rs).flatten++wm R:=by
    unfold wm;rw[saM,List.reverse_append]
   rw[er,key _ _ ih]
   ·simp
   ·intro x hx;unfold wm at hx;rw[List.getLast?_reverse,List.head?_map,List.flatten_cons]at hx
    cases S with
    |nil=>exact absurd rfl hS.1
    | cons g S=>
      simp only[List.cons_append,List.head?_cons,Option.map_some,Option.mem_some_iff]at hx;subst hx;rw[gF h1];show -g.w ≠ -(zK R).w;have:(zK R).w≠g.w:=h3;lia
noncomputable def mm (row:List Ga)(p:zh):Prop:=∃g∈row,p.1=g.x∧(g.lo=some p.2∨g.hi=some p.2)
theorem mm.mono {row row':List Ga}{p:zh}(h:mm row p)(k:∀g∈row,g∈row'):mm row' p:=by
 obtain⟨g,hg,e⟩:=h;exact⟨g,k g hg,e⟩
theorem nE {run:List Ga}{a b:zh}{l:List zh}(h:Pul run a b l):∃m,l=m++[b]∧∀p∈m,mm run p:=by
 induction h with
 |stop _=>exact⟨[],rfl,by simp⟩
 | @split a b p d g l1 l2 hg hb hB _ _ _ _ ih1 ih2=>
   obtain⟨m1,rfl,h1⟩:=ih1;obtain⟨m2,rfl,h2⟩:=ih2;refine⟨m1++[p]++m2,by simp,fun q hq=>?_⟩;simp only[san,sag]at hq
   rcases hq with(hq|rfl)|hq
   ·exact h1 q hq
   ·exact⟨g,hg,hB.1,hB.2.imp (·.1) (·.1)⟩
   ·exact h2 q hq
theorem YW {t g:Ga}(h:TurnOk t g):mm [t] (yh t g).1∧mm [g] (yh t g).2:=by
 unfold yh;by_cases z:xy t g=true
 ·rw[saf z];unfold xy at z
  cases a:t.hi with
  |none=>rw[a]at z;cases z
  | some u=>
    cases b:g.lo with
    |none=>rw[a,b]at z;cases z
    |some v=>exact⟨⟨t,by simp,rfl,.inr (by simpa using a)⟩,⟨g,by simp,h.x,.inl (by simpa using b)⟩⟩
 ·rw[sah z]
  rcases h.one with⟨u,v,e1,e2,l⟩|⟨u,v,e1,e2,l⟩
  ·unfold xy at z;rw[e1,e2]at z;exact absurd (sal l) z
  ·exact⟨⟨t,by simp,rfl,.inl (by rw[e2];rfl)⟩,⟨g,by simp,h.x,.inr (by rw[e1];rfl)⟩⟩
theorem gv:∀(rs:List (List Ga)) (s e:zh) (T:List zh),ml rs→Tot s (x5 rs e) T→∃m,T=m++[e]∧∀p∈m,mm rs.flatten p
 | [],s,e,T,_,h=>by
   cases h with
   | cons P t=>
     cases t;obtain⟨m,rfl,k⟩:=nE P;exact⟨m,by simp,fun p hp=>k p hp⟩
 | [R],s,e,T,_,h=>by
   cases h with
   | cons P t=>
     cases t;obtain⟨m,rfl,k⟩:=nE P;exact⟨m,by simp,fun p hp=>(k p hp).mono fun g hg=>by simpa using hg⟩
 | R::S::rs,s,e,T,⟨k1,k2,k3,k4⟩,h=>by
   cases h with
   | cons P t=>
     cases t with
     | cons P2 t=>
       obtain⟨m1,rfl,h1⟩:=nE P;obtain⟨m2,rfl,h2⟩:=nE P2;obtain⟨m3,rfl,h3⟩:=gv (S::rs) _ e _ k4 t;obtain⟨q1,q2⟩:=YW k1
       have lm:zK R∈R:=by
        unfold zK;rw[sam,saJ k2];exact scO k2
       have hm:vI S∈S:=by
        cases S with
        |nil=>exact absurd rfl k3
        |cons z r=>exact saB
       refine⟨m1++[(yh (zK R) (vI S)).1]++m2++[(yh (zK R) (vI S)).2]++m3,by simp,fun p hp=>?_⟩;simp only[san,sag]at hp
       rcases hp with(((hp|rfl)|hp)|rfl)|hp
       ·exact(h1 p hp).mono fun g hg=>scs.mpr ⟨R,by simp,hg⟩
       ·exact q1.mono fun g hg=>by rw[sag.mp hg];exact scs.mpr ⟨R,by simp,lm⟩
       ·obtain⟨g,hg,_⟩:=h2 p hp;simp at hg
       ·exact q2.mono fun g hg=>by rw[sag.mp hg];exact scs.mpr ⟨S,by simp,hm⟩
       ·exact(h3 p hp).mono fun g hg=>by
         obtain⟨Q,hQ,hg⟩:=scs.mp hg;exact scs.mpr ⟨Q,by simp[saj.mp hQ],hg⟩
noncomputable def uW (k:List zh)(p:zh):List zh:=match k.getLast? with
 |some t=>if t=p then k else k++[p]
 |none=>k++[p]
theorem oa:∀(l k:List zh) (a:zh),l.foldl uW (k++[a])=k++qz (a::l)
 |[],k,a=>by rw[vU];rfl
 | p::l,k,a=>by
   have e:uW (k++[a]) p=if a=p then k++[a]else k++[a]++[p]:=by
    unfold uW;rw[sbP]
   rw[List.foldl_cons,e];by_cases z:a=p
   ·subst z;rw[saf rfl,oa l k a,xD]
   ·rw[sah z,oa l (k++[a]) p,vt l (fun q=>z q.symm),saF];rfl
theorem mw (l:List zh):l.foldl uW []=qz l:=by
 cases l with
 |nil=>rw[qz];rfl
 |cons a l=>exact oa l [] a
theorem fx:∀(l:List zh) (a p:zh),p∈qz (a::l)→p∈a::l
 |[],a,p,h=>by rw[vU]at h;exact h
 | b::l,a,p,h=>by
   by_cases z:b=a
   ·subst z;rw[xD]at h;exact sao _ (fx l b p h)
   ·rw[vt l z]at h
    rcases saj.mp h with rfl|h
    ·simp
    ·exact sao _ (fx l b p h)
theorem iW {l:List zh}{p:zh}(h:p∈l.foldl uW []):p∈l:=by
 rw[mw]at h
 cases l with
 |nil=>rw[qz]at h;exact h
 |cons a l=>exact fx l a p h
theorem fy:∀(l:List zh) (a:zh),(qz (a::l)).length≤l.length+1
 |[],a=>by rw[vU];simp
 | b::l,a=>by
   by_cases z:b=a
   ·subst z;rw[xD];have:=fy l b;simp only[List.length_cons];lia
   ·rw[vt l z];have:=fy l b;simp only[List.length_cons];lia
theorem VJ (l:List zh):(l.foldl uW []).length≤l.length:=by
 rw[mw]
 cases l with
 |nil=>rw[qz];simp
 |cons a l=>exact fy l a
theorem Us {s e:zh}{m:List zh}(h1:∀p∈m,p≠s)(h2:∀p∈m,p≠e):yL (s::(m.foldl uW []++[e]))=ko none s (m++[e]):=by
 rw[mi,mw]
 cases m with
 | nil=>
   have e0:qz []=[]:=by rw[qz]
   rw[e0];show yL [s,e]=yL (qz [s,e]);by_cases z:e=s
   ·subst z;rw[xD,vU];rfl
   ·rw[vt _ z,vU]
 | cons p r=>
   rw[List.cons_append,vt _ (h1 p (by simp))];have hne:p::r≠[]:=by simp
   obtain⟨q,z,hq⟩:∃q z,p::r=q++[z]:=⟨(p::r).dropLast,(p::r).getLast hne,(List.dropLast_concat_getLast hne).symm⟩
   have e1:p::(r++[e])=q++[z,e]:=by
    rw[←List.cons_append,hq,saF];rfl
   have hz:e≠z:=fun w=>h2 z (by rw[hq];simp) w.symm;rw[e1,qy,sah hz,hq]
noncomputable def xt:List zh→List (zh×zh×zh)
 |o::m::n::r=>(o,m,n)::xt (m::n::r)
 |_=>[]
theorem gE:∀l:List zh,yL l=(xt l).filterMap fun t=>if z_ t.1 t.2.1 t.2.2=true then none else some t.2.1
 |[]=>rfl
 |[_]=>rfl
 |[_,_]=>rfl
 | o::m::n::r=>by
   rw[yL,xt,List.filterMap_cons,gE (m::n::r)]
   cases z_ o m n <;> rfl
theorem ZK:∀{l:List zh} {t:zh×zh×zh},t∈xt l→t.1∈l∧t.2.1∈l∧t.2.2∈l
 |[],_,h=>by simp[xt]at h
 |[_],_,h=>by simp[xt]at h
 |[_,_],_,h=>by simp[xt]at h
 | o::m::n::r,t,h=>by
   rcases saj.mp h with rfl|h
   ·simp
   ·obtain⟨a,b,c⟩:=ZK h;exact⟨sao _ a,sao _ b,sao _ c⟩
theorem mZ:∀l:List zh,(yL l).length≤l.length
 |[]=>Nat.le_refl _
 |[_]=>by simp[yL]
 |[_,_]=>by simp[yL]
 | o::m::n::r=>by
   rw[yL,saN];have:=mZ (m::n::r);simp only[List.length_cons]at this ⊢
   split <;> simp <;> lia
theorem cD:∀{l xs:List Int},l.Nodup→(∀x∈l,x∈xs)→l.length≤xs.length
 |[],xs,_,_=>saX _
 | a::l,xs,h,k=>by
   have ha:=k a (by simp);obtain⟨h1,h2⟩:=sbl.mp h;have:=cD (l:=l) (xs:=xs.erase a) h2 (fun x hx=>(List.mem_erase_of_ne (show x≠a from fun e=>h1 (by rw[←e];exact hx))).mpr (k x (by simp[hx])));rw[List.length_erase_of_mem ha]at this;have:=List.length_pos_of_mem ha;simp only[List.length_cons];lia
theorem Wl {R:List Ga}{xs:List Int}(h:R.Pairwise Up)(k:∀g∈R,g.x∈xs):R.length≤xs.length:=by
 rw[←sae (f:=Ga.x)];refine cD ?_ fun x hx=>?_
 ·rw[List.Nodup,sbE];refine h.imp fun {a b} u=>?_;obtain⟨_,u1,u2⟩:=u;by_cases z:a.w=1
  ·have:=u1 z;lia
  ·have:=u2 z;lia
 ·obtain⟨g,hg,rfl⟩:=saz.mp hx;exact k g hg
noncomputable def vE (l:Int×List Int)(g:Ga):Prop:=g.x=l.1∧∃k,k≤l.2.length∧g.lo=(if k=0 then none else l.2[k - 1]?)∧g.hi=l.2[k]?
noncomputable def qX (B:List (Int×List Int))(h:Int)(g:Ga):Prop:=∃l,vE l g∧∃i:Nat,B[i]?=some l∧((g.w=1∧(i:Int)=h)∨(g.w = -1∧(i:Int)=h - 1))
noncomputable def sj (B:List (Int×List Int)):Int→List Ga→Prop
 |_,[]=>True
 |h,g::gs=>qX B h g∧sj B (h+g.w) gs
noncomputable def Uh:List Ga→Prop
 |t::g::r=>g≠tK t∧Uh (g::r)
 |_=>True
structure BoardOk (B:List (Int×List Int)):Prop where
 up:B.Pairwise fun a b=>a.1<b.1
 hs:∀l∈B,l.2.Pairwise (· < ·)
theorem fR {α:Type}{R:α→α→Prop}{l:List α}(h:l.Pairwise R){i j:Nat}{a b:α}(ha:l[i]?=some a)(hb:l[j]?=some b)(hij:i<j):R a b:=by
 obtain⟨h1,rfl⟩:=sak.mp ha;obtain⟨h2,rfl⟩:=sak.mp hb;exact sbC.mp h i j h1 h2 hij
theorem vE.ok {l:Int×List Int}{g:Ga}(h:vE l g)(s:l.2.Pairwise (· < ·)):dH g:=by
 obtain⟨_,k,hk,e1,e2⟩:=h;intro u v h1 h2;rw[e1]at h1;rw[e2]at h2;by_cases z:k=0
 ·rw[saf z]at h1;cases h1
 ·rw[sah z]at h1;exact fR s h1 h2 (by lia)
theorem vE.turn {l:Int×List Int}{t g:Ga}(h:vE l t)(h':vE l g)(s:l.2.Pairwise (· < ·))(hw:t.w≠g.w)(w1:t.w=1∨t.w = -1)(w2:g.w=1∨g.w = -1)(n:g≠tK t):TurnOk t g:=by
 refine⟨h.1.trans h'.1.symm,?_,h.ok s,h'.ok s⟩;obtain⟨x1,k,hk,e1,e2⟩:=h;obtain⟨x2,j,hj,f1,f2⟩:=h'
 have hkj:k≠j:=fun z=>n (by
  subst z;obtain⟨a,b,c,d⟩:=t;obtain⟨a',b',c',d'⟩:=g;simp only[tK,Ga.mk.injEq]at *;refine⟨x2.trans x1.symm,f1.trans e1.symm,f2.trans e2.symm,?_⟩
  lia)
 have le:∀{i j:Nat} {u v:Int},l.2[i]?=some u→l.2[j]?=some v→i≤j→u≤v:=fun {i j u v} a b hij=>by
  rcases Nat.lt_or_eq_of_le hij with q|q
  ·exact Int.le_of_lt (fR s a b q)
  ·subst q;rw[a]at b;cases b;exact sbF _
 rcases Nat.lt_or_gt_of_ne hkj with q|q
 ·left;have a:k<l.2.length:=by lia
  have b:j - 1<l.2.length:=by lia
  refine⟨l.2[k],l.2[j - 1],by rw[e2,sad a],by rw[f1,sah (by lia),sad b],?_⟩;exact le (sad a) (sad b) (by lia)
 ·right;have a:j<l.2.length:=by lia
  have b:k - 1<l.2.length:=by lia
  refine⟨l.2[j],l.2[k - 1],by rw[f2,sad a],by rw[e1,sah (by lia),sad b],?_⟩;exact le (sad a) (sad b) (by lia)
theorem qX.way {B:List (Int×List Int)}{h:Int}{g:Ga}(s:qX B h g):g.w=1∨g.w = -1:=by
 obtain⟨l,_,i,_,k⟩:=s;exact k.imp (·.1) (·.1)
theorem qX.ok {B:List (Int×List Int)}(ok:BoardOk B){h:Int}{g:Ga}(s:qX B h g):dH g:=by
 obtain⟨l,q,i,e,_⟩:=s;exact q.ok (ok.hs l (saD e))
theorem Y1 {B:List (Int×List Int)}(ok:BoardOk B){h:Int}{t g:Ga}(s:qX B h t)(s':qX B (h+t.w) g)(n:g≠tK t):(t.w=g.w→Up t g)∧(t.w≠g.w→TurnOk t g):=by
 have w1:=s.way;have w2:=s'.way;obtain⟨l,q,i,e,k⟩:=s;obtain⟨l',q',i',e',k'⟩:=s';refine⟨fun z=>?_,fun z=>?_⟩
 ·refine⟨z,fun w=>?_,fun w=>?_⟩
  ·rw[q.1,q'.1];exact fR ok.up e e' (by lia)
  ·rw[q.1,q'.1];exact fR ok.up e' e (by lia)
 ·have hi:i=i':=by lia
  subst hi;rw[e]at e';cases e';exact q.turn q' (ok.hs l (saD e)) z w1 w2 n
theorem ku {B:List (Int×List Int)}(ok:BoardOk B):∀(gs:List Ga) (h:Int),sj B h gs→Uh gs→kr gs
 |[],_,_,_=>trivial
 |[_],_,_,_=>trivial
 | t::g::r,h,⟨p1,p2,p3⟩,⟨r1,r2⟩=>by
   obtain⟨a,b⟩:=Y1 ok p1 p2 r1;exact⟨a,b,ku ok (g::r) (h+t.w) ⟨p2,p3⟩ r2⟩
noncomputable def og:List Ga→Int
 |[]=>0
 |g::gs=>g.w+og gs
theorem mz (g:Ga):∀gs:List Ga,og (gs++[g])=og gs+g.w
 |[]=>by simp[og]
 | t::gs=>by
   have:=mz g gs;simp only[List.cons_append,og,this];lia
theorem mM {B:List (Int×List Int)}{g:Ga}:∀{gs:List Ga} {h:Int},sj B h (gs++[g])↔sj B h gs∧qX B (h+og gs) g
 |[],h=>by simp[sj,og]
 | t::gs,h=>by
   have:=mM (B:=B) (g:=g) (gs:=gs) (h:=h+t.w);simp only[List.cons_append,sj,this,og,Int.add_assoc,and_assoc]
theorem qG {B:List (Int×List Int)}{g:Ga}:∀{gs:List Ga} {h:Int},sj B h gs→g∈gs→∃h',qX B h' g
 | t::gs,h,⟨p1,p2⟩,hg=>by
   rcases saj.mp hg with rfl|hg
   ·exact⟨h,p1⟩
   ·exact qG p2 hg
theorem cm {t g:Ga}(n:g≠tK t):∀{gs:List Ga},Uh (gs++[t])→Uh (gs++[t]++[g])
 |[],_=>⟨n,trivial⟩
 |[a],h=>⟨h.1,n,trivial⟩
 |a::b::gs,h=>⟨h.1,cm (gs:=b::gs) n h.2⟩
theorem cn {t:Ga}:∀{gs:List Ga},Uh (gs++[t])→Uh gs
 |[],_=>trivial
 |[a],_=>trivial
 |a::b::gs,h=>⟨h.1,cn (gs:=b::gs) h.2⟩
noncomputable def jn (st:List Ga)(g:Ga):List Ga:=match st.getLast? with
 |some t=>if t=tK g then st.dropLast else st++[g]
 |none=>st++[g]
theorem Xm (g:Ga):tK (tK g)=g:=by
 obtain⟨a,b,c,d⟩:=g;simp[tK]
theorem WH {B:List (Int×List Int)}{h:Int}{st:List Ga}{g:Ga}(p:sj B h st)(r:Uh st)(s:qX B (h+og st) g):sj B h (jn st g)∧Uh (jn st g)∧h+og (jn st g)=h+og st+g.w∧(jn st g).length≤st.length+1:=by
 unfold jn
 cases q:st.getLast? with
 | none=>
   have:st=[]:=List.getLast?_eq_none_iff.mp q;subst this;refine⟨⟨by simpa[og]using s,trivial⟩,trivial,by simp[og],by simp⟩
 | some t=>
   have hne:st≠[]:=fun z=>by subst z;cases q
   obtain⟨m,rfl⟩:∃m,st=m++[t]:=by
    refine⟨st.dropLast,?_⟩;have:=List.dropLast_concat_getLast hne;rw[saJ hne]at q;cases q;exact this.symm
   simp only[List.dropLast_concat];by_cases z:t=tK g
   ·rw[saf z];refine⟨(mM.mp p).1,cn r,?_,by simp;lia⟩;rw[mz];have:t.w = -g.w:=by rw[z];rfl
    lia
   ·rw[sah z];refine⟨mM.mpr ⟨p,s⟩,cm (fun w=>z (by rw[w,Xm])) r,by rw[mz];lia,by simp⟩
theorem P6 (a b c d:D):t9 [a,b,c,d] 0=some a:=rfl
theorem P5 (a b c d:D):t9 [a,b,c,d] 1=some b:=rfl
theorem P4 (a b c d:D):t9 [a,b,c,d] 2=some c:=rfl
noncomputable def sD (R:List Ga)(a b:zh):List Ga :=
 if a.1<b.1 then R.filter fun l=>decide (a.1<l.x)&&decide (l.x<b.1)else R.reverse.filter fun l=>decide (b.1<l.x)&&decide (l.x<a.1)
theorem rV {R:List Ga}{a b:zh}{g:Ga}:g∈sD R a b↔g∈R∧bw a b g.x:=by
 unfold sD bw;split
 ·rw[saK,saS,sap,sap];refine and_congr_right fun _=>?_;lia
 ·rw[saK,sbr,saS,sap,sap];refine and_congr_right fun _=>?_;lia
noncomputable def oM (a b:zh)(g:Ga):List (Int×zh):=(match g.lo with|some y=>[(zI a b (g.x,y),(g.x,y))]|none=>[])++(match g.hi with|some y=>[(-zI a b (g.x,y),(g.x,y))]|none=>[])
theorem il {a b:zh}{g:Ga}{d:Int}{p:zh}:(d,p)∈oM a b g↔ZD a b g p d:=by
 unfold oM ZD;rw[san];constructor
 ·rintro(h|h)
  ·split at h
   ·rename_i y e;simp only[sag,Prod.mk.injEq]at h;obtain⟨rfl,rfl⟩:=h;exact⟨rfl,.inl ⟨e,rfl⟩⟩
   ·simp at h
  ·split at h
   ·rename_i y e;simp only[sag,Prod.mk.injEq]at h;obtain⟨rfl,rfl⟩:=h;exact⟨rfl,.inr ⟨e,rfl⟩⟩
   ·simp at h
 ·obtain⟨p1,p2⟩:=p;rintro⟨e,⟨h1,h2⟩|⟨h1,h2⟩⟩
  ·left;simp only at e h1;subst e h2;rw[h1];simp
  ·right;simp only at e h1;subst e h2;rw[h1];simp
noncomputable def vp (st:Option zh×Int)(q:Int×zh):Option zh×Int:=if st.2<q.1 then(some q.2,q.1)else st
noncomputable def iL (R:List Ga)(a b:zh):Option zh:=(((sD R a b).flatMap (oM a b)).foldl vp (none,0)).1
theorem jS:∀(l:List (Int×zh)) (st:Option zh×Int),st.2≤(l.foldl vp st).2∧(∀q∈l,q.1≤(l.foldl vp st).2)∧(l.foldl vp st=st∨∃q∈l,st.2<q.1∧l.foldl vp st=(some q.2,q.1))
 |[],st=>⟨sbF _,by simp,.inl rfl⟩
 | q::l,st=>by
   obtain⟨h1,h2,h3⟩:=jS l (vp st q);rw[List.foldl_cons];unfold vp at h1 h3 ⊢;by_cases z:st.2<q.1
   ·simp only[z,if_true]at h1 h2 h3 ⊢;refine⟨by lia,fun r hr=>?_,.inr ?_⟩
    ·rcases saj.mp hr with rfl|hr
     ·exact h1
     ·have:=h2 r hr;unfold vp at this;simpa[z]using this
    ·rcases h3 with e|⟨r,hr,lt,e⟩
     ·exact⟨q,by simp,z,e⟩
     ·exact⟨r,by simp[hr],by lia,e⟩
   ·simp only[z,if_false]at h1 h2 h3 ⊢;refine⟨h1,fun r hr=>?_,?_⟩
    ·rcases saj.mp hr with rfl|hr
     ·lia
     ·have:=h2 r hr;unfold vp at this;simpa[z]using this
    ·rcases h3 with e|⟨r,hr,lt,e⟩
     ·exact .inl e
     ·exact .inr ⟨r,by simp[hr],lt,e⟩
theorem VO {R:List Ga}{a b:zh}(h:iL R a b=none):∀g∈R,bw a b g.x→∀p d,ZD a b g p d→d≤0:=by
 intro g hg hb p d k;unfold iL at h;obtain⟨_,h2,h3⟩:=jS ((sD R a b).flatMap (oM a b)) (none,0);have hm:=h2 (d,p) (scP.mpr ⟨g,rV.mpr ⟨hg,hb⟩,il.mpr k⟩)
 rcases h3 with e|⟨q,_,_,e⟩
 ·rw[e]at hm;exact hm
 ·rw[e]at h;cases h
theorem VM {R:List Ga}{a b p:zh}(h:iL R a b=some p):∃g d,g∈R∧bw a b g.x∧ZD a b g p d∧0<d∧∀g'∈R,bw a b g'.x→∀p' d',ZD a b g' p' d'→d'≤d:=by
 unfold iL at h;obtain⟨_,h2,h3⟩:=jS ((sD R a b).flatMap (oM a b)) (none,0)
 rcases h3 with e|⟨q,hq,lt,e⟩
 ·rw[e]at h;cases h
 ·rw[e]at h h2;cases h;obtain⟨g,hg,hm⟩:=scP.mp hq;obtain⟨k1,k2⟩:=rV.mp hg;refine⟨g,q.1,k1,k2,il.mp hm,lt,fun g' hg' hb' p' d' k'=>?_⟩;exact h2 (d',p') (scP.mpr ⟨g',rV.mpr ⟨hg',hb'⟩,il.mpr k'⟩)
theorem TY {f g:FT}{E:Ev}{a b:Bool}(hf:f E=.ok a)(hg:g E=.ok b):XI f g E=.ok (a ||b):=by
 rw[XI,hf,zk]
 cases a with
 |true=>rfl
 |false=>exact hg
theorem V9 {f g:FT}{E:Ev}{a b:Bool}(hf:f E=.ok a)(hg:g E=.ok b):rf f g E=.ok (a&&b):=by
 rw[rf,hf,zk]
 cases a with
 |true=>exact hg
 |false=>rfl
noncomputable def PH {α:Type}(X:α→Int)(B:List α)(a b:zh):List α :=
 if a.1<b.1 then B.filter fun l=>decide (a.1<X l)&&decide (X l<b.1)else B.reverse.filter fun l=>decide (b.1<X l)&&decide (X l<a.1)
@[reducible] noncomputable def Rk:FS :=
 wc (z0 (f2 mq (zf 5) (f2 vC (f2 xR (zf 4) (f2 zX (zf 0) (fC (.int 1)))) (f2 xR (f2 zX (zf 1) (fC (.int 0))) (f2 zX (zf 0) (fC (.int 0)))))))
 (yu (fC (.bl true)))
 (wo)
@[reducible] noncomputable def Ri:FS :=
 wc (XI (rf (z0 (f2 mn (f2 zX (zf 0) (fC (.int 0))) (zf 3))) (z0 (f2 mn (zf 3) (f2 zX (zf 1) (fC (.int 0)))))) (rf (z0 (f2 mn (f2 zX (zf 1) (fC (.int 0))) (zf 3))) (z0 (f2 mn (zf 3) (f2 zX (zf 0) (fC (.int 0)))))))
 (zJ (zS 5 true (f2 vC (f2 xR (f2 zX (zf 1) (fC (.int 1))) (f2 zX (zf 0) (fC (.int 1)))) (f2 xR (zf 3) (f2 zX (zf 0) (fC (.int 0))))))
 (Rk))
 (wo)
@[reducible] noncomputable def Zr:FS :=
 Ri
noncomputable def c_:FS :=
 zJ (vq (xS (zf 2)) (gT [3,4])
 (Zr))
 (yu (fC (.bl false)))
noncomputable def cH:List D→Out Val:=zP 6 c_
theorem Vc:∀ds v,ds.length=3→cH ds=.ok v→zP 6 c_ ds=.ok v:=fun _ _ _ h=>h
theorem VC {a b p:zh}(n:near a b)(s2 s5:Slot):∃s5',Zr [.p (zd a),.p (zd b),s2,.p (.int p.1),.p (.int p.2),s5] =
 if(yc a b p.1&&nK a b p)=true then .ok (.ret (.p (.bl true)))else .ok (.next [.p (zd a),.p (zd b),s2,.p (.int p.1),.p (.int p.2),s5']):=by
 have c1:∀j,uq j (b.1 - a.1)=true:=fun j=>lC n.1 n.2
 cases hb:yc a b p.1 with
 | false=>
   refine⟨s5,?_⟩;unfold yc at hb;simp only[Bool.or_eq_false_iff,Bool.and_eq_false_iff,decide_eq_false_iff_not]at hb;obtain⟨h1,h2⟩:=hb
   rcases h1 with h1|h1 <;> rcases h2 with h2|h2 <;> simp[zd,X_,h1,h2]
 | true=>
   refine⟨.p (.int ((b.2 - a.2)*(p.1 - a.1))),?_⟩;have hn:=dz hb n;have c2:∀j,uq j (p.1 - a.1)=true:=fun j=>lC hn.1 hn.2;unfold yc at hb;simp only[sbI,saS,sap]at hb;unfold nK;by_cases ho:(b.2 - a.2)*(p.1 - a.1)=(p.2 - a.2)*(b.1 - a.1)
   ·rcases hb with⟨h1,h2⟩|⟨h1,h2⟩
    ·simp[zd,X_,RO,h1,h2,c1,c2,ho]
    ·have h3:¬a.1<p.1:=by lia
     simp[zd,X_,RO,h1,h2,h3,c1,c2,ho]
   ·rcases hb with⟨h1,h2⟩|⟨h1,h2⟩
    ·simp[zd,X_,RO,h1,h2,c1,c2,ho]
    ·have h3:¬a.1<p.1:=by lia
     simp[zd,X_,RO,h1,h2,h3,c1,c2,ho]
theorem Yn (a b:zh)(n:near a b)(s2:Slot):∀(ps:List zh) (s3 s4 s5:Slot),∃s3' s4' s5',wu (gT [3,4]) Zr (ps.map zd) [.p (zd a),.p (zd b),s2,s3,s4,s5] =
 if uA a b ps=true then .ok (.ret (.p (.bl true)))else .ok (.next [.p (zd a),.p (zd b),s2,s3',s4',s5'])
 |[],s3,s4,s5=>⟨s3,s4,s5,rfl⟩
 | p::ps,s3,s4,s5=>by
   have hh:uA a b (p::ps)=((yc a b p.1&&nK a b p) ||uA a b ps):=rfl;obtain⟨t5,eb⟩:=VC (p:=p) n s2 s5;have hg:gT [3,4] (zd p) [.p (zd a),.p (zd b),s2,s3,s4,s5]=.ok [.p (zd a),.p (zd b),s2,.p (.int p.1),.p (.int p.2),s5]:=rfl
   cases hb:(yc a b p.1&&nK a b p)with
   | true=>
     refine⟨s3,s4,s5,?_⟩;rw[hb]at eb;simp only[List.map_cons,wu,hg,zk,eb,hh,hb,Bool.true_or,if_true]
   | false=>
     obtain⟨s3',s4',s5',e⟩:=Yn a b n s2 ps (.p (.int p.1)) (.p (.int p.2)) t5;refine⟨s3',s4',s5',?_⟩;rw[hb]at eb;simp only[List.map_cons,wu,hg,zk,eb,hh,hb,Bool.false_or,saH,if_false,e]
theorem Rl {a b:zh}(n:near a b)(ps:List zh):cH [zd a,zd b,.l (ps.map zd)]=.ok (.p (.bl (uA a b ps))):=by
 obtain⟨s3,s4,s5,e⟩:=Yn a b n (.p (.l (ps.map zd))) ps .un .un .un;unfold cH
 cases hv:uA a b ps with
 | true=>
   rw[hv]at e;simp only[if_true]at e;simp[c_,e]
 | false=>
   rw[hv]at e;simp only[saH,if_false]at e;simp[c_,e]
@[reducible] noncomputable def Td:FS :=
 wc (rf (z0 (f2 bV (zf 5) (fC (.int 0)))) (z0 (f2 mq (f2 yA (f2 x6 (zf 6) (fC (.int 54))) (fC (.int 6))) (fC (.int 1)))))
 (zS 7 true (f2 zX (zf 4) (f1 xj (fC (.int 1)))))
 (wo)
@[reducible] noncomputable def fE:FT :=
 rf (z0 (f2 bV (zf 5) (fC (.int 0)))) (oC (zx cH (zi (f2 zX (zf 4) (f1 xj (fC (.int 1)))) (zi (zf 7) (zi (zf 3) (zz))))))
@[reducible] noncomputable def dB:FS :=
 zS 7 true (wB (zw (f2 zX (zf 7) (fC (.int 0))) (zw (f2 yB (f2 zX (zf 7) (fC (.int 1))) (fC (.int 1))) (yd))))
@[reducible] noncomputable def dA:FS :=
 zJ (zS 6 true (zx yV (zi (zf 0) (zi (f2 yB (zf 1) (zf 5)) (zz)))))
 (zJ (zS 7 true (wB (zw (f2 xR (f2 vC (fC (.int 2)) (f2 yA (zf 6) (fC (.int 6)))) (fC (.int 1))) (zw (f2 xR (f2 yA (f2 x6 (zf 6) (fC (.int 6))) (fC (.int 9))) (fC (.int 1))) (yd)))))
 (zJ (Td)
 (zJ (qw (fE)
 (dB) 100)
 (qv 4 (zf 7)))))
noncomputable def eN:FS :=
 zJ (zS 4 false (xk (yd)))
 (zJ (vq (qp (zi (zf 2) (zz))) (gN 5)
 (dA))
 (yu (zf 4)))
noncomputable def qH:List D→Out Val:=zP 8 eN
theorem Xj:∀ds v,ds.length=4→qH ds=.ok v→zP 8 eN ds=.ok v:=fun _ _ _ h=>h
theorem Sh {ft:FT}{fb:FS}{n:Nat}{env:Ev}(h:ft env=.ok false):qw ft fb (n+1) env=.ok (.next env):=by
 unfold qw;rw[h];rfl
theorem aj (ns:List Int)(s1 s2:Slot)(ps got:List zh)(k:Int)(s6:Slot)(hk:0<k)(hne:got≠[])(hgo:oj (ya got)):∀(n m:Nat) (c:zh),oj c→uA (ya got) (sT (ya got) ps n c) ps=false →
 qw fE dB (n+1+m) [.p (.scr ns),s1,s2,.p (.l (ps.map zd)),.own (got.map zd),.p (.int k),s6,.p (zd c)] =
  .ok (.next [.p (.scr ns),s1,s2,.p (.l (ps.map zd)),.own (got.map zd),.p (.int k),s6,.p (zd (sT (ya got) ps n c))]):=by
 have hlast:t9 (got.map zd) (-1)=some (zd (ya got)):=by
  unfold ya;rw[oN,sae,sav,←sbs,sam,saJ hne];rfl
 have htest:∀c:zh,oj c→fE [.p (.scr ns),s1,s2,.p (.l (ps.map zd)),.own (got.map zd),.p (.int k),s6,.p (zd c)]=.ok (uA (ya got) c ps):=by
  intro c hc;have hh:=Rl (Xh hgo hc) ps;simp[hlast,hh,hk]
 intro n
 induction n with
 | zero=>
   intro m c hc hf;rw[show 0+1+m=m+1 by lia];unfold qw;rw[htest c hc,zk];have hf':uA (ya got) c ps=false:=hf;rw[hf'];rfl
 | succ n ih=>
   intro m c hc hf;rw[show n+1+1+m=(n+1+m)+1 by lia];unfold qw;rw[htest c hc,zk];unfold sT at hf ⊢;by_cases hq:uA (ya got) c ps=true
   ·rw[saf hq]at hf;rw[saf hq,saf hq]
    have hb:dB [.p (.scr ns),s1,s2,.p (.l (ps.map zd)),.own (got.map zd),.p (.int k),s6,.p (zd c)]=.ok (.next [.p (.scr ns),s1,s2,.p (.l (ps.map zd)),.own (got.map zd),.p (.int k),s6,.p (zd (c.1,c.2+1))]):=by
     simp[zd,X_,RO]
    rw[hb,zk];exact ih m (c.1,c.2+1) hc hf
   ·rw[sah hq,sah hq]
theorem UC (ns:List Int)(zH many:Int)(ps:List zh)(h0:0≤zH)(h3:zH≤1000)(h1:0≤many)(h2:many≤1000)(hp:ps.length≤12) :
 qH [.scr ns,.int zH,.int many,.l (ps.map zd)]=.ok (.fresh ((zQ ns zH ps many.toNat).map zd)):=by
 have loop:=nV (g:=gN 5) (fb:=dA) (fun j env=>∃s5 s6 s7,env=[.p (.scr ns),.p (.int zH),.p (.int many),.p (.l (ps.map zd)),.own ((zQ ns zH ps j).map zd),s5,s6,s7])
  (sv 0 many.toNat) 0 [.p (.scr ns),.p (.int zH),.p (.int many),.p (.l (ps.map zd)),.own [],.un,.un,.un] ⟨_,_,_,rfl⟩ (by
   rintro j d env _ hd ⟨s5,s6,s7,rfl⟩;obtain⟨hj,rfl⟩:=fO hd;rw[Nat.sub_zero]at hj ⊢
   have hm:yV [.scr ns,.int (zH+(0+(j:Int)))]=.ok (.p (.int (zC ns (zH+j)))):=by
    unfold yV;simp;lia
   have hlen:=sO ns zH ps j;refine⟨_,[.p (.scr ns),.p (.int zH),.p (.int many),.p (.l (ps.map zd)),.own ((zQ ns zH ps (j+1)).map zd),.p (.int (0+(j:Int))),.p (.int (zC ns (zH+j))),.p (zd (rW ns zH ps j (zQ ns zH ps j)))],rfl,?_,⟨_,_,_,rfl⟩⟩;have hd6:oJ (zC ns (zH+j)) 6=true:=vD (by decide) (by decide);have hd54:oJ (zC ns (zH+j)) 54=true:=vD (by decide) (by decide);have hc2:∀i,uq 2 i=true:=fun i=>vQ (by decide) (by decide);have h6:yV [.scr ns,.int (zH+(j:Int))]=.ok (.p (.int (zC ns (zH+j)))):=by simpa using hm
   have hlt:(zQ ns zH ps j).length<100000:=by lia
   have hend:∀c:zh,qv 4 (zf 7) [.p (.scr ns),.p (.int zH),.p (.int many),.p (.l (ps.map zd)),.own ((zQ ns zH ps j).map zd),.p (.int (0+(j:Int))),.p (.int (zC ns (zH+j))),.p (zd c)] =
    .ok (.next [.p (.scr ns),.p (.int zH),.p (.int many),.p (.l (ps.map zd)),.own ((zQ ns zH ps j++[c]).map zd),.p (.int (0+(j:Int))),.p (.int (zC ns (zH+j))),.p (zd c)]):=by
    intro c;simp[hlt]
   unfold dA;rw[zq (env':=[.p (.scr ns),.p (.int zH),.p (.int many),.p (.l (ps.map zd)),.own ((zQ ns zH ps j).map zd),.p (.int (0+(j:Int))),.p (.int (zC ns (zH+j))),s7]) (by simp[h6])];rw[zq (env':=[.p (.scr ns),.p (.int zH),.p (.int many),.p (.l (ps.map zd)),.own ((zQ ns zH ps j).map zd),.p (.int (0+(j:Int))),.p (.int (zC ns (zH+j))),.p (zd (v7 (zC ns (zH+j))))]) (by simp[hd6,hc2,zd,v7])];by_cases hj0:j=0
   ·subst hj0;rw[zq (env':=[.p (.scr ns),.p (.int zH),.p (.int many),.p (.l (ps.map zd)),.own ((zQ ns zH ps 0).map zd),.p (.int (0+((0:Nat):Int))),.p (.int (zC ns (zH+(0:Nat)))),.p (zd (v7 (zC ns (zH+(0:Nat)))))]) (by simp)];rw[zq (Sh (n:=99) (by simp))];exact hend _
   ·have hjp:(0:Int)<0+(j:Int):=by lia
    have hne:zQ ns zH ps j≠[]:=fun z=>hj0 (by rw[←hlen,z];rfl);have hodd:=ny ns zH ps j _ (mY hne)
    have hlast:t9 ((zQ ns zH ps j).map zd) (-1)=some (zd (ya (zQ ns zH ps j))):=by
     unfold ya;rw[oN,sae,sav,←sbs,sam,saJ hne];rfl
    have hcv:rW ns zH ps j (zQ ns zH ps j)=sT (ya (zQ ns zH ps j)) ps 12 (if zC ns (zH+j) / 54%6=1 then ya (zQ ns zH ps j)else v7 (zC ns (zH+j))):=by
     unfold rW;rw[sah hj0]
    have hcodd:oj (if zC ns (zH+j) / 54%6=1 then ya (zQ ns zH ps j)else v7 (zC ns (zH+j))):=by
     split
     ·exact hodd
     ·exact qR _
    rw[zq (env':=[.p (.scr ns),.p (.int zH),.p (.int many),.p (.l (ps.map zd)),.own ((zQ ns zH ps j).map zd),.p (.int (0+(j:Int))),.p (.int (zC ns (zH+j))),.p (zd (if zC ns (zH+j) / 54%6=1 then ya (zQ ns zH ps j)else v7 (zC ns (zH+j))))]) (by
     have hjp':0<j:=by lia
     by_cases hq:zC ns (zH+j) / 54%6=1
     ·simp[hjp',hd54,hq,hlast]
     ·simp[hjp',hd54,hq])]
    rw[zq (aj ns (.p (.int zH)) (.p (.int many)) ps (zQ ns zH ps j) (0+(j:Int)) (.p (.int (zC ns (zH+j)))) hjp hne hodd 12 87 _ hcodd (gk _ ps 12 _ hp))];rw[←hcv]
    exact hend _)
 obtain⟨env',e,s5,s6,s7,rfl⟩:=loop;rw[ZZ,Nat.zero_add]at e;have hb : -1000000≤many∧many≤1000000:=by lia
 unfold qH;simp[eN,hb,e]
noncomputable def wy:FS :=
 yu (gP (f2 mq (iA (zf 0) (gO) (kK (fC (.int 3)))) (iA (zf 1) (gO) (kK (fC (.int 3))))) (f2 lW (f2 zX (zf 0) (fC (.int 3))) (f2 zX (zf 1) (fC (.int 3)))))
noncomputable def yR:List D→Out Val
 | [a,b]=>match oP a,oP b with
   |some g,some h=>.ok (.p (.bl (gf g h)))
   |_,_=>.bad
 |_=>.bad
theorem nO:∀ds v,ds.length=2→yR ds=.ok v→zP 2 wy ds=.ok v:=by
 intro ds v hlen h;clear hlen;unfold yR at h;split at h
 ·split at h
  ·rename_i g h' h1 h2;cases h;rw[lE h1,lE h2];have a3:∀a b c d:D,t9 [a,b,c,d] 3=some d:=fun _ _ _ _=>rfl;have e3:=On g h';by_cases hc:g.x=h'.x∧g.lo=h'.lo∧g.hi=h'.hi
   ·rw[sal hc]at e3;have ho:gf g h' = !decide (g.w=h'.w):=by simp[gf,hc]
    rw[ho];by_cases hw:g.w=h'.w
    ·simp[wy,zm,RG,WG,oZ,e3,a3,hw]
    ·simp[wy,zm,RG,WG,oZ,e3,a3,hw]
   ·rw[saw hc]at e3;simp[wy,zm,RG,WG,oZ,e3,a3,gf,hc]
  ·cases h
 ·cases h
noncomputable def sC:FS :=
 zJ (zS 1 false (xk (yd)))
 (zJ (vq (xS (zf 0)) (gN 2)
 (wc (rf (oC (zf 1)) (oC (zx yR (zi (f2 zX (zf 1) (f1 xj (fC (.int 1)))) (zi (zf 2) (zz))))))
 (WW 1)
 (qv 1 (zf 2))))
 (yu (zf 1)))
theorem i_ (row s2:Slot):∀(gs st:List Ga) (s2:Slot),st.length+gs.length≤10000 →
 ∃s2',wu (gN 2) (wc (rf (oC (zf 1)) (oC (zx yR (zi (f2 zX (zf 1) (f1 xj (fC (.int 1)))) (zi (zf 2) (zz))))))
 (WW 1)
 (qv 1 (zf 2))) (gs.map zm) [row,.own (st.map zm),s2]=.ok (.next [row,.own ((gs.foldl yn st).map zm),s2'])
 |[],st,s2,_=>⟨s2,rfl⟩
 | g::gs,st,s2,hl=>by
   have hstep:=i8 st g;obtain⟨s2',e⟩:=i_ row s2 gs (yn st g) (.p (zm g)) (by simp at hl;lia);refine⟨s2',?_⟩;rw[List.map_cons,List.foldl_cons]
   have body:(wc (rf (oC (zf 1)) (oC (zx yR (zi (f2 zX (zf 1) (f1 xj (fC (.int 1)))) (zi (zf 2) (zz)))))) (WW 1) (qv 1 (zf 2))) [row,.own (st.map zm),.p (zm g)]=.ok (.next [row,.own ((yn st g).map zm),.p (zm g)]):=by
    unfold yn
    cases q:st.getLast? with
    | none=>
      have:st=[]:=List.getLast?_eq_none_iff.mp q;subst this;simp
    | some t=>
      have hne:st≠[]:=fun z=>by subst z;cases q
      have hpos:0<st.length:=List.length_pos_iff.mpr hne
      have hat:t9 (st.map zm) (-1)=some (zm t):=by
       rw[oN,sae,sav,←sbs,q];rfl
      have hemp:(st.map zm).isEmpty=false:=by cases st <;> simp_all
      have hcall:yR [zm t,zm g]=.ok (.p (.bl (gf t g))):=by simp[yR,l_]
      have hne2:¬st.length=0:=by lia
      have hlt:st.length<100000:=by simp at hl;lia
      cases ho:gf t g with
      |true=>simp[hat,hcall,ho,hne,hne2,List.map_dropLast]
      |false=>simp[hat,hcall,ho,hne,hlt]
   simp only[wu,gN,List.set_cons_succ,List.set_cons_zero,zk];rw[body];exact e
noncomputable def yf:List D→Out Val
 | [.l ds]=>match pQ ds with
   |some gs=>if gs.length≤10000 then .ok (.fresh ((zN gs).map zm))else .bad
   |none=>.bad
 |_=>.bad
theorem mR:∀ds v,ds.length=1→yf ds=.ok v→zP 3 sC ds=.ok v:=by
 intro ds v hlen h;clear hlen;unfold yf at h;split at h
 ·split at h
  ·rename_i gs hg;split at h
   ·rename_i hl;cases h;rw[iq hg];obtain⟨s2',e⟩:=i_ (.p (.l (gs.map zm))) .un gs [] .un (by simpa using hl);unfold sC;show(((zJ _ _:FS) _).bind _)=_;rw[zq (env':=[.p (.l (gs.map zm)),.own [],.un]) (by simp)]
    rw[zq (env':=[.p (.l (gs.map zm)),.own ((gs.foldl yn []).map zm),s2']) (by
     simp only[vq,xS,zf,List.getElem?_cons_zero,zk,Val.hold]
     exact e)]
    rfl
   ·cases h
  ·cases h
 ·cases h
noncomputable def m8:FS :=
 zJ (wc (z0 (f2 mn (f1 sY (zf 0)) (fB uk (zi (zf 0) (zz))))) (fun _=>.bad) (wo)) mU
noncomputable def wK:List D→Out Val
 | [.l ds]=>match uR ds with
   |some ps=>if ps.length<18∧ps.Nodup then .ok (.fresh ((zo ps).map zW))else .bad
   |none=>.bad
 |_=>.bad
theorem fZ:∀ds v,ds.length=1→wK ds=.ok v→zP 4 m8 ds=.ok v:=by
 intro ds v hlen h;clear hlen;unfold wK at h;split at h
 ·rename_i ds;split at h
  ·rename_i ps hps;split at h
   ·rename_i hb;cases h;obtain⟨hl,hn⟩:=hb;have hds:=r_ hps;subst hds
    have hlen:sY (.l (ps.map zd))=.ok (.p (.int ps.length)):=by
     have h2:(uj (ps.map mJ)).length=ps.length:=by rw[aJ (ay hn),sae]
     simp only[sY,ur,hl,if_true,h2]
    have he:(vO (vH ps)).map Tg=(zo ps).map zW:=by rw[eH hn];rfl
    have ht:z0 (f2 mn (f1 sY (zf 0)) (fB uk (zi (zf 0) (zz)))) [.p (.l (ps.map zd)),.un,.un,.un]=.ok false:=by
     simp only[z0,f2,f1,zf,List.getElem?_cons_zero,zk,Val.d,hlen,fB,zi,zz,frz,List.map_cons,List.map_nil,uk,sae,mn,R5,Int.lt_irrefl,decide_false]
    unfold m8;show(((zJ _ _:FS) [.p (.l (ps.map zd)),.un,.un,.un]).bind _)=_
    rw[zq (env':=[.p (.l (ps.map zd)),.un,.un,.un]) (by
     simp only[wc,ht,zk]
     rfl)]
    have hl2:mU [.p (.l (ps.map zd)),.un,.un,.un]=.ok (.ret (.fresh ((vO (vH ps)).map Tg))):=by
     simp only[mU,List.getElem?_cons_zero,ur];rw[saf ⟨hl,hn⟩]
    rw[hl2,zk,he]
   ·cases h
  ·cases h
 ·cases h
@[reducible] noncomputable def wQ:FE :=
 f2 zX (zf 0) (fC (.int 0))
@[reducible] noncomputable def pW:FS :=
 wc (z0 (f2 X9 (f2 zX (zf 4) (fC (.int 0))) (zf 2)))
 (fun _=>.bad)
 (wo)
@[reducible] noncomputable def wR:FS :=
 pW
noncomputable def yO:FS :=
 zJ (zS 2 true (xA [] 1 (xS (zf 0)) (gN 0) (oB) (wQ)))
 (vq (Tj (zf 1)) (gT [3,4])
 (wR))
noncomputable def xg:List D→Out Val:=zP 5 yO
theorem qq:∀ds v,ds.length=2→xg ds=.ok v→zP 5 yO ds=.ok v:=fun _ _ _ h=>h
theorem lZ (s0 s1:Slot)(xs:List Int):∀(cs:List zh) (k:Nat) (s3 s4:Slot),(∀c∈cs,c.1∉xs)→∃s3' s4',wu (gT [3,4]) wR (tY k (cs.map zd)) [s0,s1,.p (.l (xs.map .int)),s3,s4]=.ok (.next [s0,s1,.p (.l (xs.map .int)),s3',s4'])
 |[],k,s3,s4,_=>⟨s3,s4,rfl⟩
 | c::cs,k,s3,s4,h=>by
   obtain⟨s3',s4',e⟩:=lZ s0 s1 xs cs (k+1) (.p (.int k)) (.p (zd c)) fun c hc=>h c (by simp[hc]);refine⟨s3',s4',?_⟩
   have hin:((xs.map D.int).any fun z=>oF z (.int c.1))=false:=by
    rw[scB];intro z hz;obtain⟨x,hx,rfl⟩:=saz.mp hz;rw[pN];simp;intro q;exact h c (by simp) (q ▸ hx)
   have step:wR [s0,s1,.p (.l (xs.map .int)),.p (.int k),.p (zd c)]=.ok (.next [s0,s1,.p (.l (xs.map .int)),.p (.int k),.p (zd c)]):=by
    have ht:z0 (f2 X9 (f2 zX (zf 4) (fC (.int 0))) (zf 2)) [s0,s1,.p (.l (xs.map .int)),.p (.int k),.p (zd c)]=.ok false:=by
     have hi:f2 zX (zf 4) (fC (.int 0)) [s0,s1,.p (.l (xs.map .int)),.p (.int k),.p (zd c)]=.ok (.p (.int c.1)):=by simp[zd,X_]
     have hv:zf 2 [s0,s1,.p (.l (xs.map .int)),.p (.int k),.p (zd c)]=.ok (.p (.l (xs.map .int))):=rfl;unfold z0
     rw[show f2 X9 (f2 zX (zf 4) (fC (.int 0))) (zf 2) [s0,s1,.p (.l (xs.map .int)),.p (.int k),.p (zd c)]=X9 (.int c.1) (.l (xs.map .int))by
      show((f2 zX (zf 4) (fC (.int 0)) [s0,s1,.p (.l (xs.map .int)),.p (.int k),.p (zd c)]).bind _)=_
      rw[hi,zk,hv];rfl]
     simp only[X9,hin];rfl
    simp only[wc,ht,zk];rfl
   have hg:gT [3,4] (.tup [.int k,zd c]) [s0,s1,.p (.l (xs.map .int)),s3,s4]=.ok [s0,s1,.p (.l (xs.map .int)),.p (.int k),.p (zd c)]:=rfl;simp only[List.map_cons,tY,wu,hg,zk,step,e]
theorem Zj {B:List yG}{rope:List zh}(hB:B.length≤1000)(h:∀c∈rope,c.1∉B.map (·.1)):xg [.l (B.map zW),.l (rope.map zd)]=.ok (.p .non):=by
 obtain⟨s3,s4,e⟩:=lZ (.p (.l (B.map zW))) (.p (.l (rope.map zd))) (B.map (·.1)) rope 0 .un .un h;have hB2:B.length≤100000:=by lia
 have hc:xH (gN 0) oB wQ (B.map zW) [.un]=.ok ((B.map (·.1)).map .int):=by
  rw[vo (fun env=>∃s,env=[s]) zW (fun l=>some (.int l.1)) B [.un] ⟨_,rfl⟩ (fun l env _ ⟨s,he⟩=>by
   subst he
   exact⟨[.p (zW l)],rfl,⟨_,rfl⟩,.inr ⟨_,.p (.int l.1),rfl,rfl,by simp[zW,P3],rfl⟩⟩)]
  rw[List.filterMap_eq_map',sbp];rfl
 unfold xg;show(yO [.p (.l (B.map zW)),.p (.l (rope.map zd)),.un,.un,.un]).bind _=_
 have h0:yO [.p (.l (B.map zW)),.p (.l (rope.map zd)),.un,.un,.un]=.ok (.next [.p (.l (B.map zW)),.p (.l (rope.map zd)),.p (.l ((B.map (·.1)).map .int)),s3,s4]):=by
  unfold yO
  rw[zq (env':=[.p (.l (B.map zW)),.p (.l (rope.map zd)),.p (.l ((B.map (·.1)).map .int)),.un,.un]) (by
   simp only[zS,xA,xS,zf,List.getElem?_cons_zero,zk,Val.hold,sae,hB2,if_true];show(((xH (gN 0) oB wQ (B.map zW) [.un]).bind _).bind _)=_;rw[hc]
   rfl)]
  exact e
 rw[h0];rfl
noncomputable def vY:FS :=
 yu (f2 Rm (zf 0) (iA (zf 0) (kK (fC (.int 1))) (gO)))
noncomputable def y_:List D→Out Val:=zP 1 vY
theorem mQ:∀ds v,ds.length=1→y_ ds=.ok v→zP 1 vY ds=.ok v:=fun _ _ _ h=>h
theorem oX (rope:List zh):y_ [.l (rope.map zd)]=.ok (.fresh ((zE rope).map zR)):=by
 have hcut:qP (rope.map zd) (some 1) none=rope.tail.map zd:=by
  rw[ro _ 1 1 rfl,List.drop_one,scF]
 have hz:((rope.map zd).zip (rope.tail.map zd)).map (fun p=>D.tup [p.1,p.2])=(zE rope).map zR:=by
  unfold zE;rw[List.zip_map,sbp];rfl
 unfold y_;simp[vY,hcut];rw[←scF];exact hz
@[reducible] noncomputable def rC:FT :=
 z0 (QK mn mn (zf 0) (f2 zX (zf 2) (fC (.int 0))) (zf 1))
@[reducible] noncomputable def eW:FE :=
 zf 2
@[reducible] noncomputable def eF:FS :=
 wc (z0 (f2 mn (zf 2) (zf 3)))
 (yu (xA [2,3] 1 (xS (zf 0)) (gN 2) (rC) (eW)))
 (wo)
@[reducible] noncomputable def rz:FT :=
 z0 (QK mn mn (zf 0) (f2 zX (zf 2) (fC (.int 0))) (zf 1))
@[reducible] noncomputable def eT:FE :=
 zf 2
noncomputable def vm:FS :=
 zJ (zS 2 true (f2 zX (f2 zX (zf 1) (fC (.int 0))) (fC (.int 0))))
 (zJ (zS 3 true (f2 zX (f2 zX (zf 1) (fC (.int 1))) (fC (.int 0))))
 (zJ (eF)
 (yu (xA [3,2] 1 (Rr (zf 0)) (gN 2) (rz) (eT)))))
noncomputable def yk:List D→Out Val:=zP 4 vm
theorem jG:∀ds v,ds.length=2→yk ds=.ok v→zP 4 vm ds=.ok v:=fun _ _ _ h=>h
theorem jZ {α:Type}{f:α→D}{ft:FT}(x y:Int)(p:α→Bool)(hp:∀l,ft [.p (.int x),.p (.int y),.p (f l)]=.ok (p l))(B:List α) :
 xH (gN 2) ft (zf 2) (B.map f) [.p (.int x),.p (.int y),.un]=.ok ((B.filter p).map f):=by
 rw[vo (fun env=>∃s2,env=[.p (.int x),.p (.int y),s2]) f (fun l=>if p l=true then some (f l)else none) B [.p (.int x),.p (.int y),.un] ⟨_,rfl⟩ (fun l env _ ⟨s2,he⟩=>by
  subst he;refine⟨[.p (.int x),.p (.int y),.p (f l)],rfl,⟨_,rfl⟩,?_⟩;have h:=hp l
  cases q:p l with
  |true=>rw[q]at h;exact .inr ⟨f l,.p (f l),saf rfl,h,rfl,rfl⟩
  |false=>rw[q]at h;exact .inl ⟨sah sax,h⟩)]
 rw[uM]
theorem bC {α:Type}{f:α→D}{X:α→Int}(h0:∀l,zX (f l) (.int 0)=.ok (.p (.int (X l)))){B:List α}(hl:B.length≤1000)(q:zh×zh):yk [.l (B.map f),zR q]=.ok (.fresh ((PH X B q.1 q.2).map f)):=by
 unfold yk;show(vm [.p (.l (B.map f)),.p (zR q),.un,.un]).bind _=_
 have tst:∀(x y:Int) l,z0 (QK mn mn (zf 0) (f2 zX (zf 2) (fC (.int 0))) (zf 1)) [.p (.int x),.p (.int y),.p (f l)]=.ok (decide (x<X l)&&decide (X l<y)):=fun x y l=>by
  have k:f2 zX (zf 2) (fC (.int 0)) [.p (.int x),.p (.int y),.p (f l)]=.ok (.p (.int (X l))):=h0 l
  by_cases h1:x<X l <;> simp[-f2,-zX,k,h1]
 have hl2:B.length≤100000:=by lia
 have h0:vm [.p (.l (B.map f)),.p (zR q),.un,.un]=.ok (.ret (.fresh ((PH X B q.1 q.2).map f))):=by
  unfold vm;rw[zq (env':=[.p (.l (B.map f)),.p (zR q),.p (.int q.1.1),.un]) rfl];rw[zq (env':=[.p (.l (B.map f)),.p (zR q),.p (.int q.1.1),.p (.int q.2.1)]) rfl];have ht:z0 (f2 mn (zf 2) (zf 3)) [.p (.l (B.map f)),.p (zR q),.p (.int q.1.1),.p (.int q.2.1)]=.ok (decide (q.1.1<q.2.1)):=rfl;unfold PH;by_cases hlt:q.1.1<q.2.1
  ·rw[saf hlt];rw[sal hlt]at ht;have hc:=jZ (f:=f) (ft:=rC) q.1.1 q.2.1 (fun l=>decide (q.1.1<X l)&&decide (X l<q.2.1)) (tst _ _) B;refine wX ?_;simp only[wc];rw[ht,zk,saf rfl];simp only[yu,xA,xS,zf,List.getElem?_cons_zero,zk,Val.hold,sae,hl2,if_true];show((xH (gN 2) rC (zf 2) (B.map f) [.p (.int q.1.1),.p (.int q.2.1),.un]).bind _).bind _=_;rw[hc];rfl
  ·rw[sah hlt];rw[saw hlt]at ht;have hc:=jZ (f:=f) (ft:=rz) q.2.1 q.1.1 (fun l=>decide (q.2.1<X l)&&decide (X l<q.1.1)) (tst _ _) B.reverse;rw[zq (env':=[.p (.l (B.map f)),.p (zR q),.p (.int q.1.1),.p (.int q.2.1)]) (by simp only[wc];rw[ht,zk];rfl)];simp only[yu,xA,Rr,zf,List.getElem?_cons_zero,zk,Val.hold,sbk,sae,hl2,if_true];rw[←sct];show((xH (gN 2) rz (zf 2) (B.reverse.map f) [.p (.int q.2.1),.p (.int q.1.1),.un]).bind _).bind _=_;rw[hc];rfl
 rw[h0];rfl
theorem jY {B:List yG}(hl:B.length≤1000)(q:zh×zh):yk [.l (B.map zW),zR q]=.ok (.fresh ((zO B q.1 q.2).map zW)):=bC (X:=fun l=>l.1) (fun _=>rfl) hl q
theorem XS {B:List Ga}(hl:B.length≤1000)(q:zh×zh):yk [.l (B.map zm),zR q]=.ok (.fresh ((sD B q.1 q.2).map zm)):=bC (X:=Ga.x) (fun _=>rfl) hl q
noncomputable def vg:FS :=
 zJ (zS 2 true (f2 zX (zf 0) (fC (.int 0))))
 (zJ (zS 3 true (f2 zX (zf 0) (fC (.int 1))))
 (zJ (zS 4 true (f2 xR (f2 zX (zf 3) (fC (.int 0))) (f2 zX (zf 2) (fC (.int 0)))))
 (zJ (zS 5 true (f2 xR (f2 vC (zf 4) (f2 xR (f2 zX (zf 1) (fC (.int 1))) (f2 zX (zf 2) (fC (.int 1))))) (f2 vC (f2 xR (f2 zX (zf 3) (fC (.int 1))) (f2 zX (zf 2) (fC (.int 1)))) (f2 xR (f2 zX (zf 1) (fC (.int 0))) (f2 zX (zf 2) (fC (.int 0)))))))
 (yu (Pz (z0 (f2 bV (zf 4) (fC (.int 0)))) (zf 5) (f1 xj (zf 5)))))))
noncomputable def yI:List D→Out Val:=zP 6 vg
theorem jE:∀ds v,ds.length=2→yI ds=.ok v→zP 6 vg ds=.ok v:=fun _ _ _ h=>h
theorem fH {q:zh×zh}{p:zh}(hn:near q.1 q.2)(hx : -(2^64)<p.1 - q.1.1∧p.1 - q.1.1<2^64):yI [zR q,zd p]=.ok (.p (.int (zI q.1 q.2 p))):=by
 have c1:∀j,uq (q.2.1 - q.1.1) j=true:=fun j=>vQ hn.1 hn.2;have c2:∀j,uq j (p.1 - q.1.1)=true:=fun j=>lC hx.1 hx.2;unfold yI;show(vg [.p (zR q),.p (zd p),.un,.un,.un,.un]).bind _=_
 have h0:vg [.p (zR q),.p (zd p),.un,.un,.un,.un]=.ok (.ret (.p (.int (zI q.1 q.2 p)))):=by
  unfold vg;rw[zq (env':=[.p (zR q),.p (zd p),.p (zd q.1),.un,.un,.un]) (by simp[zR,PK])];rw[zq (env':=[.p (zR q),.p (zd p),.p (zd q.1),.p (zd q.2),.un,.un]) (by simp[zR,PJ])];rw[zq (env':=[.p (zR q),.p (zd p),.p (zd q.1),.p (zd q.2),.p (.int (q.2.1 - q.1.1)),.un]) (by simp[zd,X_])];rw[zq (env':=[.p (zR q),.p (zd p),.p (zd q.1),.p (zd q.2),.p (.int (q.2.1 - q.1.1)),.p (.int (zT q.1 q.2 p))]) (by simp[zd,X_,RO,c1,c2,zT])];unfold zI;by_cases hp:0<q.2.1 - q.1.1
  ·have hp':q.1.1<q.2.1:=by lia
   simp[hp']
  ·have hp':¬q.1.1<q.2.1:=by lia
   simp[hp']
 rw[h0];rfl
@[reducible] noncomputable def yM:FE :=
 f2 mq (zx yI (zi (zf 0) (zi (wB (zw (zf 1) (zw (zf 2) (yd)))) (zz)))) (fC (.int 0))
@[reducible] noncomputable def qr:FS :=
 wc (oC (fB VI (zi (xA [1,2] 1 (xS (zf 3)) (gN 2) (oB) (yM)) (zz))))
 (yu (fC (.bl true)))
 (wo)
@[reducible] noncomputable def wa:FS :=
 qr
noncomputable def yD:FS :=
 zJ (vq (xS (zx yk (zi (zf 0) (zi (zf 1) (zz))))) (gT [2,3])
 (wa))
 (yu (fC (.bl false)))
noncomputable def yT:List D→Out Val:=zP 4 yD
theorem sQ:∀ds v,ds.length=2→yT ds=.ok v→zP 4 yD ds=.ok v:=fun _ _ _ h=>h
theorem lM {q:zh×zh}(hn:near q.1 q.2)(s0:Slot):∀(ls:List yG) (s2 s3:Slot),(∀l∈ls,(-(2^64)<l.1 - q.1.1∧l.1 - q.1.1<2^64)∧l.2.length≤1000)→∃s2' s3',
 wu (gT [2,3]) wa (ls.map zW) [s0,.p (zR q),s2,s3]=if(ls.any fun l=>l.2.any fun y=>decide (zI q.1 q.2 (l.1,y)=0))=true then .ok (.ret (.p (.bl true)))else .ok (.next [s0,.p (zR q),s2',s3'])
 |[],s2,s3,_=>⟨s2,s3,rfl⟩
 | l::ls,s2,s3,h=>by
   obtain⟨hx,hl⟩:=h l (by simp);have hl2:l.2.length≤100000:=by lia
   have hside:∀y:Int,yI [zR q,.tup [.int l.1,.int y]]=.ok (.p (.int (zI q.1 q.2 (l.1,y)))):=fun y=>fH (p:=(l.1,y)) hn hx
   have hc:xH (gN 2) oB yM (l.2.map .int) [.p (zR q),.p (.int l.1),.un]=.ok ((l.2.map fun y=>decide (zI q.1 q.2 (l.1,y)=0)).map .bl):=by
    rw[vo (fun env=>∃s2,env=[.p (zR q),.p (.int l.1),s2]) D.int (fun y=>some (.bl (decide (zI q.1 q.2 (l.1,y)=0)))) l.2 [.p (zR q),.p (.int l.1),.un] ⟨_,rfl⟩ (fun y env _ ⟨s2,he⟩=>by
     subst he;refine⟨[.p (zR q),.p (.int l.1),.p (.int y)],rfl,⟨_,rfl⟩,.inr ⟨_,.p (.bl (decide (zI q.1 q.2 (l.1,y)=0))),rfl,rfl,?_,rfl⟩⟩;simp[hside];rw[sbV]
     simp)]
    rw[List.filterMap_eq_map',sbp];rfl
   have hg:gT [2,3] (zW l) [s0,.p (zR q),s2,s3]=.ok [s0,.p (zR q),.p (.int l.1),.p (.l (l.2.map .int))]:=rfl
   have ht:oC (fB VI (zi (xA [1,2] 1 (xS (zf 3)) (gN 2) (oB) (yM)) (zz))) [s0,.p (zR q),.p (.int l.1),.p (.l (l.2.map .int))]=.ok (l.2.any fun y=>decide (zI q.1 q.2 (l.1,y)=0)):=by
    have hcomp:xA [1,2] 1 (xS (zf 3)) (gN 2) (oB) (yM) [s0,.p (zR q),.p (.int l.1),.p (.l (l.2.map .int))]=.ok (.fresh ((l.2.map fun y=>decide (zI q.1 q.2 (l.1,y)=0)).map .bl)):=by
     have hi:(xS (zf 3)) [s0,.p (zR q),.p (.int l.1),.p (.l (l.2.map .int))]=.ok (l.2.map .int):=by simp
     simp only[xA,hi,zk,sae,hl2,if_true];show((xH (gN 2) oB yM (l.2.map .int) [.p (zR q),.p (.int l.1),.un]).bind _)=_;rw[hc];rfl
    simp only[oC,fB,zi,zz,hcomp,zk,frz,List.map_cons,List.map_nil,Val.d,VI,X7];simp[R0,Function.comp_def]
   have step:wa [s0,.p (zR q),.p (.int l.1),.p (.l (l.2.map .int))]=if(l.2.any fun y=>decide (zI q.1 q.2 (l.1,y)=0))=true then .ok (.ret (.p (.bl true)))else .ok (.next [s0,.p (zR q),.p (.int l.1),.p (.l (l.2.map .int))]):=by
    simp only[wc,ht,zk];rfl
   cases hb:(l.2.any fun y=>decide (zI q.1 q.2 (l.1,y)=0))with
   | true=>
     refine⟨s2,s3,?_⟩;rw[hb]at step;simp only[List.map_cons,wu,hg,zk,step,List.any_cons,hb,Bool.true_or,if_true]
   | false=>
     obtain⟨s2',s3',e⟩:=lM hn s0 ls (.p (.int l.1)) (.p (.l (l.2.map .int))) fun l hl=>h l (by simp[hl]);refine⟨s2',s3',?_⟩;rw[hb]at step;simp only[List.map_cons,wu,hg,zk,step,List.any_cons,hb,Bool.false_or,saH,if_false,e]
theorem b9 {B:List yG}{q:zh×zh}(hB:B.length≤1000)(hh:∀l∈B,l.2.length≤1000)(hn:near q.1 q.2):yT [.l (B.map zW),zR q]=.ok (.p (.bl (yH B q.1 q.2))):=by
 obtain⟨s2,s3,e⟩:=lM hn (.p (.l (B.map zW))) (zO B q.1 q.2) .un .un fun l hl=>⟨n_ hl hn,hh l (xM hl).1⟩
 have hc:=jY hB q;have hi:(xS (zx yk (zi (zf 0) (zi (zf 1) (zz))))) [.p (.l (B.map zW)),.p (zR q),.un,.un]=.ok ((zO B q.1 q.2).map zW):=by simp[hc]
 unfold yT;show(yD [.p (.l (B.map zW)),.p (zR q),.un,.un]).bind _=_
 have h0:yD [.p (.l (B.map zW)),.p (zR q),.un,.un]=.ok (.ret (.p (.bl (yH B q.1 q.2)))):=by
  unfold yD yH
  cases hv:((zO B q.1 q.2).any fun l=>l.2.any fun y=>decide (zI q.1 q.2 (l.1,y)=0))with
  | true=>
    rw[hv]at e;refine wX ?_;simp only[vq,hi,zk];exact e
  | false=>
    rw[hv]at e
    rw[zq (env':=[.p (.l (B.map zW)),.p (zR q),s2,s3]) (by
     simp only[vq,hi,zk]
     exact e)]
    rfl
 rw[h0];rfl
@[reducible] noncomputable def qt:FS :=
 wc (oC (zx yT (zi (zf 0) (zi (zf 3) (zz)))))
 (fun _=>.bad)
 (wo)
@[reducible] noncomputable def wb:FS :=
 qt
noncomputable def yC:FS :=
 vq (Tj (zx y_ (zi (zf 1) (zz)))) (gT [2,3])
 (wb)
noncomputable def yS:List D→Out Val:=zP 4 yC
theorem sP:∀ds v,ds.length=2→yS ds=.ok v→zP 4 yC ds=.ok v:=fun _ _ _ h=>h
theorem pZ {B:List yG}(hB:B.length≤1000)(hh:∀l∈B,l.2.length≤1000)(s1:Slot):∀(qs:List (zh×zh)) (k:Nat) (s2 s3:Slot),(∀q∈qs,near q.1 q.2∧yH B q.1 q.2=false)→∃s2' s3',wu (gT [2,3]) wb (tY k (qs.map zR)) [.p (.l (B.map zW)),s1,s2,s3]=.ok (.next [.p (.l (B.map zW)),s1,s2',s3'])
 |[],k,s2,s3,_=>⟨s2,s3,rfl⟩
 | q::qs,k,s2,s3,h=>by
   obtain⟨s2',s3',e⟩:=pZ hB hh s1 qs (k+1) (.p (.int k)) (.p (zR q)) fun q hq=>h q (by simp[hq]);refine⟨s2',s3',?_⟩;obtain⟨hn,hf⟩:=h q (by simp);have hc:=b9 hB hh hn;rw[hf]at hc
   have step:wb [.p (.l (B.map zW)),s1,.p (.int k),.p (zR q)]=.ok (.next [.p (.l (B.map zW)),s1,.p (.int k),.p (zR q)]):=by
    simp[hc]
   have hg:gT [2,3] (.tup [.int k,zR q]) [.p (.l (B.map zW)),s1,s2,s3]=.ok [.p (.l (B.map zW)),s1,.p (.int k),.p (zR q)]:=rfl;simp only[List.map_cons,tY,wu,hg,zk,step,e]
theorem pU {B:List yG}{rope:List zh}(hB:B.length≤1000)(hh:∀l∈B,l.2.length≤1000)(h:∀q∈zE rope,near q.1 q.2∧yH B q.1 q.2=false):yS [.l (B.map zW),.l (rope.map zd)]=.ok (.p .non):=by
 obtain⟨s2,s3,e⟩:=pZ hB hh (.p (.l (rope.map zd))) (zE rope) 0 .un .un h;have hs:=oX rope;unfold yS;show(yC [.p (.l (B.map zW)),.p (.l (rope.map zd)),.un,.un]).bind _=_;have hi:Tj (zx y_ (zi (zf 1) (zz))) [.p (.l (B.map zW)),.p (.l (rope.map zd)),.un,.un]=.ok (tY 0 ((zE rope).map zR)):=by simp[hs]
 have h0:yC [.p (.l (B.map zW)),.p (.l (rope.map zd)),.un,.un]=.ok (.next [.p (.l (B.map zW)),.p (.l (rope.map zd)),s2,s3]):=by
  unfold yC;simp only[vq,hi,zk];exact e
 rw[h0];rfl
@[reducible] noncomputable def cS:FS :=
 wc (z0 (f2 mn (fB uk (zi (zf 1) (zz))) (fC (.int 2))))
 (fun _=>.bad)
 (wo)
noncomputable def rQ:FS :=
 zJ (zS 2 true (zx wK (zi (zf 0) (zz))))
 (zJ (cS)
 (zJ (Tq (zx xg (zi (zf 2) (zi (zf 1) (zz)))))
 (Tq (zx yS (zi (zf 2) (zi (zf 1) (zz)))))))
noncomputable def u0:List D→Out Val:=zP 3 rQ
theorem iG:∀ds v,ds.length=2→u0 ds=.ok v→zP 3 rQ ds=.ok v:=fun _ _ _ h=>h
theorem Xr {ps rope:List zh}(R:RopeOk ps rope):u0 [.l (ps.map zd),.l (rope.map zd)]=.ok (.p .non):=by
 have hB:=pP ps;have hfew:=R.few;have hl:wK [.l (ps.map zd)]=.ok (.fresh ((zo ps).map zW)):=by simp[wK,ur,R.few,R.nodup]
 have hc:=Zj (B:=zo ps) (rope:=rope) (by lia) R.off
 have hs:=pU (B:=zo ps) (rope:=rope) (by lia) (gZ ps R.few) fun q hq=>⟨R.near q hq,R.free q hq⟩
 have h2:¬(rope.length:Int)<2:=by have:=R.two;lia
 unfold u0;simp[rQ,hl,hc,hs,h2]
@[reducible] noncomputable def rB:FT :=
 z0 (f2 mn (zx yI (zi (zf 0) (zi (wB (zw (zf 1) (zw (zf 2) (yd)))) (zz)))) (fC (.int 0)))
@[reducible] noncomputable def eV:FE :=
 zf 2
@[reducible] noncomputable def rA:FT :=
 z0 (f2 bV (zx yI (zi (zf 0) (zi (wB (zw (zf 1) (zw (zf 2) (yd)))) (zz)))) (fC (.int 0)))
@[reducible] noncomputable def eU:FE :=
 zf 2
noncomputable def vh:FS :=
 zJ (zS 2 true (f2 zX (zf 0) (fC (.int 0))))
 (zJ (zS 3 true (xA [1,2] 1 (xS (f2 zX (zf 0) (fC (.int 1)))) (gN 2) (rB) (eV)))
 (zJ (zS 4 true (xA [1,2] 1 (xS (f2 zX (zf 0) (fC (.int 1)))) (gN 2) (rA) (eU)))
 (zJ (zS 5 true (Pz (z0 (f2 mn (f2 zX (f2 zX (zf 1) (fC (.int 0))) (fC (.int 0))) (zf 2))) (fC (.int 1)) (f1 xj (fC (.int 1)))))
 (yu (wB (zw (zf 2) (zw (f1 XD (zf 3)) (zw (f1 XC (zf 4)) (zw (zf 5) (yd))))))))))
noncomputable def uh:List D→Out Val:=zP 6 vh
theorem jF:∀ds v,ds.length=2→uh ds=.ok v→zP 6 vh ds=.ok v:=fun _ _ _ h=>h
theorem nU {ft:FT}{q:zh×zh}{x:Int}(p:Int→Bool)(hp:∀y,ft [.p (zR q),.p (.int x),.p (.int y)]=.ok (p y))(hs:List Int) :
 xH (gN 2) ft (zf 2) (hs.map .int) [.p (zR q),.p (.int x),.un]=.ok ((hs.filter p).map .int):=by
 rw[vo (fun env=>∃s2,env=[.p (zR q),.p (.int x),s2]) D.int (fun y=>if p y=true then some (.int y)else none) hs [.p (zR q),.p (.int x),.un] ⟨_,rfl⟩ (fun y env _ ⟨s2,he⟩=>by
  subst he;refine⟨[.p (zR q),.p (.int x),.p (.int y)],rfl,⟨_,rfl⟩,?_⟩;have h:=hp y
  cases z:p y with
  |true=>rw[z]at h;exact .inr ⟨.int y,.p (.int y),by simp,h,rfl,rfl⟩
  |false=>rw[z]at h;exact .inl ⟨by simp,h⟩)]
 rw[uM]
theorem aY {q:zh×zh}{l:yG}(hn:near q.1 q.2)(hx : -(2^64)<l.1 - q.1.1∧l.1 - q.1.1<2^64)(hl:l.2.length≤1000):uh [zW l,zR q]=.ok (.p (zm (yz q.1 q.2 l))):=by
 have hside:∀y:Int,yI [zR q,.tup [.int l.1,.int y]]=.ok (.p (.int (zI q.1 q.2 (l.1,y)))):=fun y=>fH (p:=(l.1,y)) hn hx;have c1:=nU (ft:=rB) (q:=q) (x:=l.1) (fun y=>decide (zI q.1 q.2 (l.1,y)<0)) (fun y=>by simp[hside]) l.2;have c2:=nU (ft:=rA) (q:=q) (x:=l.1) (fun y=>decide (0<zI q.1 q.2 (l.1,y))) (fun y=>by simp[hside]) l.2;have hl2:l.2.length≤100000:=by lia
 unfold uh;show(vh [.p (zW l),.p (zR q),.un,.un,.un,.un]).bind _=_
 have h0:vh [.p (zW l),.p (zR q),.un,.un,.un,.un]=.ok (.ret (.p (zm (yz q.1 q.2 l)))):=by
  unfold vh;rw[zq (env':=[.p (zW l),.p (zR q),.p (.int l.1),.un,.un,.un]) (by simp[zW,P3])]
  rw[zq (env':=[.p (zW l),.p (zR q),.p (.int l.1),.p (.l ((l.2.filter fun y=>decide (zI q.1 q.2 (l.1,y)<0)).map .int)),.un,.un]) (by
   have hi:(xS (f2 zX (zf 0) (fC (.int 1)))) [.p (zW l),.p (zR q),.p (.int l.1),.un,.un,.un]=.ok (l.2.map .int):=by simp[zW,PZ]
   simp only[zS,xA,hi,zk,sae,hl2,if_true];show(((xH (gN 2) rB (zf 2) (l.2.map .int) [.p (zR q),.p (.int l.1),.un]).bind _).bind _)=_;rw[c1]
   rfl)]
  rw[zq (env':=[.p (zW l),.p (zR q),.p (.int l.1),.p (.l ((l.2.filter fun y=>decide (zI q.1 q.2 (l.1,y)<0)).map .int)),.p (.l ((l.2.filter fun y=>decide (0<zI q.1 q.2 (l.1,y))).map .int)),.un]) (by
   have hi:(xS (f2 zX (zf 0) (fC (.int 1)))) [.p (zW l),.p (zR q),.p (.int l.1),.p (.l ((l.2.filter fun y=>decide (zI q.1 q.2 (l.1,y)<0)).map .int)),.un,.un]=.ok (l.2.map .int):=by simp[zW,PZ]
   simp only[zS,xA,hi,zk,sae,hl2,if_true];show(((xH (gN 2) rA (zf 2) (l.2.map .int) [.p (zR q),.p (.int l.1),.un]).bind _).bind _)=_;rw[c2]
   rfl)]
  have hm1:XD (.l ((l.2.filter fun y=>decide (zI q.1 q.2 (l.1,y)<0)).map .int))=.ok (.p (w5 (oE (l.2.filter fun y=>decide (zI q.1 q.2 (l.1,y)<0))))):=by
   simp only[XD,oO]
   cases oE (l.2.filter fun y=>decide (zI q.1 q.2 (l.1,y)<0)) <;> rfl
  have hm2:XC (.l ((l.2.filter fun y=>decide (0<zI q.1 q.2 (l.1,y))).map .int))=.ok (.p (w5 (oD (l.2.filter fun y=>decide (0<zI q.1 q.2 (l.1,y)))))):=by
   simp only[XC,oO]
   cases oD (l.2.filter fun y=>decide (0<zI q.1 q.2 (l.1,y))) <;> rfl
  rw[zq (env':=[.p (zW l),.p (zR q),.p (.int l.1),.p (.l ((l.2.filter fun y=>decide (zI q.1 q.2 (l.1,y)<0)).map .int)),.p (.l ((l.2.filter fun y=>decide (0<zI q.1 q.2 (l.1,y))).map .int)),.p (.int (if q.1.1<l.1 then 1 else -1))]) (by
   have hs:t9 [D.tup [D.int q.1.1,D.int q.1.2],D.tup [D.int q.2.1,D.int q.2.2]] 0=some (.tup [D.int q.1.1,D.int q.1.2]):=rfl;by_cases hp:q.1.1<l.1
   ·simp[zR,zd,hs,X_,hp]
   ·simp[zR,zd,hs,X_,hp])]
  unfold yz zm;simp only[yu,wB,zw,yd,zf,f1,List.getElem?_cons_succ,List.getElem?_cons_zero,zk,Val.d,hm1,hm2,Val.hold];rfl
 rw[h0];rfl
@[reducible] noncomputable def tZ:FE :=
 zx uh (zi (zf 1) (zi (zf 0) (zz)))
@[reducible] noncomputable def qU:FS :=
 Zc 3 (xA [4] 1 (xS (zx yk (zi (zf 2) (zi (zf 4) (zz))))) (gN 1) (oB) (tZ))
noncomputable def vP:FS :=
 zJ (Tq (zx u0 (zi (zf 0) (zi (zf 1) (zz)))))
 (zJ (zS 2 true (zx wK (zi (zf 0) (zz))))
 (zJ (zS 3 false (xk (yd)))
 (zJ (vq (xS (zx y_ (zi (zf 1) (zz)))) (gN 4)
 (qU))
 (yu (zf 3)))))
noncomputable def xP:List D→Out Val:=zP 5 vP
theorem iE:∀ds v,ds.length=2→xP ds=.ok v→zP 5 vP ds=.ok v:=fun _ _ _ h=>h
theorem jq {ps:List zh}(hfew:ps.length<18)(s0 s1:Slot):∀(qs:List (zh×zh)) (got:List Ga) (s4:Slot),(∀q∈qs,near q.1 q.2)→got.length+17*qs.length≤10000 →
 ∃s4',wu (gN 4) qU (qs.map zR) [s0,s1,.p (.l ((zo ps).map zW)),.own (got.map zm),s4]=.ok (.next [s0,s1,.p (.l ((zo ps).map zW)),.own ((got++qs.flatMap (x3 (zo ps))).map zm),s4'])
 |[],got,s4,_,_=>⟨s4,by simp[wu]⟩
 | q::qs,got,s4,hn,hl=>by
   have hB:=pP ps
   have hrl:(x3 (zo ps) q).length≤17:=by
    have:=qQ (zo ps) q.1 q.2;unfold x3;rw[sae];lia
   simp only[List.length_cons]at hl;obtain⟨s4',e⟩:=jq hfew s0 s1 qs (got++x3 (zo ps) q) (.p (zR q)) (fun q hq=>hn q (by simp[hq])) (by simp;lia);refine⟨s4',?_⟩;have hq:=hn q (by simp);have hcr:=jY (B:=zo ps) (by lia) q;have hcl:(zO (zo ps) q.1 q.2).length≤100000:=by have:=qQ (zo ps) q.1 q.2;lia
   have hg:gN 4 (zR q) [s0,s1,.p (.l ((zo ps).map zW)),.own (got.map zm),s4]=.ok [s0,s1,.p (.l ((zo ps).map zW)),.own (got.map zm),.p (zR q)]:=rfl
   have hc:xH (gN 1) oB tZ ((zO (zo ps) q.1 q.2).map zW) [.p (zR q),.un]=.ok ((x3 (zo ps) q).map zm):=by
    rw[vo (fun env=>∃s,env=[.p (zR q),s]) zW (fun l=>some (zm (yz q.1 q.2 l))) (zO (zo ps) q.1 q.2) [.p (zR q),.un] ⟨_,rfl⟩ (fun l env hl ⟨s,he⟩=>by
     subst he;have hgo:=aY (l:=l) hq (n_ hl hq) (gZ ps hfew l (xM hl).1)
     exact⟨[.p (zR q),.p (zW l)],rfl,⟨_,rfl⟩,.inr ⟨_,.p (zm (yz q.1 q.2 l)),rfl,rfl,by simp[hgo],rfl⟩⟩)]
    rw[List.filterMap_eq_map'];unfold x3;rw[sbp];rfl
   have step:qU [s0,s1,.p (.l ((zo ps).map zW)),.own (got.map zm),.p (zR q)]=.ok (.next [s0,s1,.p (.l ((zo ps).map zW)),.own ((got++x3 (zo ps) q).map zm),.p (zR q)]):=by
    have hi:(xS (zx yk (zi (zf 2) (zi (zf 4) (zz))))) [s0,s1,.p (.l ((zo ps).map zW)),.own (got.map zm),.p (zR q)]=.ok ((zO (zo ps) q.1 q.2).map zW):=by simp[hcr]
    have hcomp:xA [4] 1 (xS (zx yk (zi (zf 2) (zi (zf 4) (zz))))) (gN 1) (oB) (tZ) [s0,s1,.p (.l ((zo ps).map zW)),.own (got.map zm),.p (zR q)]=.ok (.fresh ((x3 (zo ps) q).map zm)):=by
     simp only[xA,hi,zk,sae,hcl,if_true];show((xH (gN 1) oB tZ ((zO (zo ps) q.1 q.2).map zW) [.p (zR q),.un]).bind _)=_;rw[hc];rfl
    have hsz:(got.map zm).length+((x3 (zo ps) q).map zm).length≤100000:=by
     rw[sae,sae];lia
    have hv:([s0,s1,.p (.l ((zo ps).map zW)),.own (got.map zm),.p (zR q)]:Ev)[3]?=some (.own (got.map zm)):=rfl;simp only[Zc,hv,hcomp,zk];rw[saf hsz,←saM];rfl
   simp only[List.map_cons,wu,hg,zk,step,e,List.flatMap_cons,saF]
theorem mG {ps rope:List zh}(R:RopeOk ps rope):xP [.l (ps.map zd),.l (rope.map zd)]=.ok (.fresh (((zE rope).flatMap (x3 (zo ps))).map zm)):=by
 have hlo:=Xr R;have hl:wK [.l (ps.map zd)]=.ok (.fresh ((zo ps).map zW)):=by simp[wK,ur,R.few,R.nodup]
 have hs:=oX rope;have hm:=R.many;obtain⟨s4,e⟩:=jq R.few (.p (.l (ps.map zd))) (.p (.l (rope.map zd))) (zE rope) [] .un R.near (by simp[zE];lia);simp only[List.map_nil,List.nil_append]at e;unfold xP;show(vP [.p (.l (ps.map zd)),.p (.l (rope.map zd)),.un,.un,.un]).bind _=_
 have h0:vP [.p (.l (ps.map zd)),.p (.l (rope.map zd)),.un,.un,.un]=.ok (.ret (.fresh (((zE rope).flatMap (x3 (zo ps))).map zm))):=by
  unfold vP;rw[zq (env':=[.p (.l (ps.map zd)),.p (.l (rope.map zd)),.un,.un,.un]) (by simp[hlo])];rw[zq (env':=[.p (.l (ps.map zd)),.p (.l (rope.map zd)),.p (.l ((zo ps).map zW)),.un,.un]) (by simp[hl])];rw[zq (env':=[.p (.l (ps.map zd)),.p (.l (rope.map zd)),.p (.l ((zo ps).map zW)),.own [],.un]) (by simp)]
  rw[zq (env':=_) (by
   have hi:(xS (zx y_ (zi (zf 1) (zz)))) [.p (.l (ps.map zd)),.p (.l (rope.map zd)),.p (.l ((zo ps).map zW)),.own [],.un]=.ok ((zE rope).map zR):=by simp[hs]
   simp only[vq,hi,zk]
   exact e)]
  rfl
 rw[h0];rfl
@[reducible] noncomputable def ki:FS :=
 wc (XI (bf (oC (zf 1))) (z0 (f2 lW (f2 zX (zf 1) (f1 xj (fC (.int 1)))) (zf 2))))
 (qv 1 (zf 2))
 (wo)
@[reducible] noncomputable def uD:FS :=
 ki
noncomputable def wx:FS :=
 zJ (zS 1 false (xk (yd)))
 (zJ (vq (xS (zf 0)) (gN 2)
 (uD))
 (yu (zf 1)))
noncomputable def xc:List D→Out Val:=zP 3 wx
theorem nN:∀ds v,ds.length=1→xc ds=.ok v→zP 3 wx ds=.ok v:=fun _ _ _ h=>h
theorem YU (k:List zh)(p:zh):(uW k p).length≤k.length+1:=by
 unfold uW;split
 ·split
  ·lia
  ·simp
 ·simp
theorem iX (s0:Slot):∀(ps k:List zh) (s2:Slot),k.length+ps.length≤10000→∃s2',wu (gN 2) uD (ps.map zd) [s0,.own (k.map zd),s2]=.ok (.next [s0,.own ((ps.foldl uW k).map zd),s2'])
 |[],k,s2,_=>⟨s2,rfl⟩
 | p::ps,k,s2,hl=>by
   have hu:=YU k p;obtain⟨s2',e⟩:=iX s0 ps (uW k p) (.p (zd p)) (by simp at hl;lia);refine⟨s2',?_⟩;have hg:gN 2 (zd p) [s0,.own (k.map zd),s2]=.ok [s0,.own (k.map zd),.p (zd p)]:=rfl;have hlt:k.length<100000:=by simp at hl;lia
   have hb:uD [s0,.own (k.map zd),.p (zd p)]=.ok (.next [s0,.own ((uW k p).map zd),.p (zd p)]):=by
    have hap:qv 1 (zf 2) [s0,.own (k.map zd),.p (zd p)]=.ok (.next [s0,.own ((k++[p]).map zd),.p (zd p)]):=by simp[hlt]
    unfold uW
    cases q:k.getLast? with
    | none=>
      have:k=[]:=List.getLast?_eq_none_iff.mp q;subst this;rfl
    | some t=>
      have hne:k≠[]:=fun z=>by subst z;cases q
      have hat:t9 (k.map zd) (-1)=some (zd t):=by
       rw[oN,sae,sav,←sbs,q];rfl
      have c:XI (bf (oC (zf 1))) (z0 (f2 lW (f2 zX (zf 1) (f1 xj (fC (.int 1)))) (zf 2))) [s0,.own (k.map zd),.p (zd p)]=.ok (decide (t≠p)):=by
       have t1:oC (zf 1) [s0,.own (k.map zd),.p (zd p)]=.ok true:=by
        cases k with
        |nil=>exact absurd rfl hne
        |cons x r=>rfl
       have t2:z0 (f2 lW (f2 zX (zf 1) (f1 xj (fC (.int 1)))) (zf 2)) [s0,.own (k.map zd),.p (zd p)]=.ok (decide (t≠p)):=by
        have:f2 lW (f2 zX (zf 1) (f1 xj (fC (.int 1)))) (zf 2) [s0,.own (k.map zd),.p (zd p)]=lW (zd t) (zd p):=by
         have e1:f2 zX (zf 1) (f1 xj (fC (.int 1))) [s0,.own (k.map zd),.p (zd p)]=.ok (.p (zd t)):=by
          show zX (.l (k.map zd)) (.int (-1))=_;simp only[zX,hat]
         show((f2 zX (zf 1) (f1 xj (fC (.int 1))) [s0,.own (k.map zd),.p (zd p)]).bind _)=_;rw[e1];rfl
        unfold z0;rw[this];simp[sH,pM]
       simp only[XI,bf,t1,t2,zk];rfl
      by_cases z:t=p
      ·rw[saw (fun w=>w z)]at c;simp only[wc,c,zk,saH,if_false,z,if_true];rfl
      ·rw[sal z]at c;simp only[wc,c,zk,if_true,z,if_false];exact hap
   rw[List.map_cons,wu,hg,zk,hb,zk];exact e
theorem Wm {ps:List zh}(hl:ps.length≤10000):xc [.l (ps.map zd)]=.ok (.fresh ((ps.foldl uW []).map zd)):=by
 obtain⟨s2,e⟩:=iX (.p (.l (ps.map zd))) ps [] .un (by simpa using hl);unfold xc;show((wx [.p (.l (ps.map zd)),.un,.un]).bind _)=_;unfold wx;rw[zq (env':=[.p (.l (ps.map zd)),.own [],.un]) rfl]
 rw[zq (by
  have hi:xS (zf 0) [.p (.l (ps.map zd)),.own [],.un]=.ok (ps.map zd):=rfl;simp only[vq,hi,zk]
  exact e)]
 rfl
noncomputable def wA:FS :=
 yu (gP (f2 qo (f2 zX (zf 0) (fC (.int 2))) (fC .non)) (gP (f2 qo (f2 zX (zf 1) (fC (.int 1))) (fC .non)) (f2 Q9 (f2 zX (zf 0) (fC (.int 2))) (f2 zX (zf 1) (fC (.int 1))))))
noncomputable def xh:List D→Out Val:=zP 2 wA
theorem nQ:∀ds v,ds.length=2→xh ds=.ok v→zP 2 wA ds=.ok v:=fun _ _ _ h=>h
theorem V5 (g h:Ga):xh [zm g,zm h]=.ok (.p (.bl (xy g h))):=by
 unfold xh;show((wA [.p (zm g),.p (zm h)]).bind _)=_;unfold wA xy;have e1:f2 zX (zf 0) (fC (.int 2)) [.p (zm g),.p (zm h)]=.ok (.p (w5 g.hi)):=rfl;have e2:f2 zX (zf 1) (fC (.int 1)) [.p (zm g),.p (zm h)]=.ok (.p (w5 h.lo)):=rfl;have n1:f2 qo (f2 zX (zf 0) (fC (.int 2))) (fC .non) [.p (zm g),.p (zm h)]=qo (w5 g.hi) .non:=rfl;have n2:f2 qo (f2 zX (zf 1) (fC (.int 1))) (fC .non) [.p (zm g),.p (zm h)]=qo (w5 h.lo) .non:=rfl;have n3:f2 Q9 (f2 zX (zf 0) (fC (.int 2))) (f2 zX (zf 1) (fC (.int 1))) [.p (zm g),.p (zm h)]=Q9 (w5 g.hi) (w5 h.lo):=rfl;simp only[yu,gP,n1,n2,n3]
 cases g.hi with
 |none=>rfl
 | some u=>
   cases h.lo with
   |none=>rfl
   |some v=>rfl
@[reducible] noncomputable def vB:FS :=
 wc (oC (zx xh (zi (zf 0) (zi (zf 1) (zz)))))
 (yu (wB (zw (wB (zw (zf 2) (zw (f2 zX (zf 0) (fC (.int 2))) (yd)))) (zw (wB (zw (zf 2) (zw (f2 zX (zf 1) (fC (.int 1))) (yd)))) (yd)))))
 (wo)
noncomputable def xF:FS :=
 zJ (zS 2 true (f2 zX (zf 0) (fC (.int 0))))
 (zJ (vB)
 (yu (wB (zw (wB (zw (zf 2) (zw (f2 zX (zf 0) (fC (.int 1))) (yd)))) (zw (wB (zw (zf 2) (zw (f2 zX (zf 1) (fC (.int 2))) (yd)))) (yd))))))
noncomputable def yN:List D→Out Val:=zP 3 xF
theorem pV:∀ds v,ds.length=2→yN ds=.ok v→zP 3 xF ds=.ok v:=fun _ _ _ h=>h
theorem bZ {g h:Ga}(ok:TurnOk g h):yN [zm g,zm h]=.ok (.p (.tup [zd (yh g h).1,zd (yh g h).2])):=by
 have hb:zx xh (zi (zf 0) (zi (zf 1) (zz))) [.p (zm g),.p (zm h),.p (.int g.x)]=.ok (.p (.bl (xy g h))):=by
  show((xh [zm g,zm h]).bind _)=_;rw[V5];rfl
 unfold yN;show((xF [.p (zm g),.p (zm h),.un]).bind _)=_;unfold xF yh;rw[zq (env':=[.p (zm g),.p (zm h),.p (.int g.x)]) rfl]
 cases q:xy g h with
 | true=>
   rw[q]at hb;unfold xy at q
   cases a:g.hi with
   |none=>rw[a]at q;cases q
   | some u=>
     cases b:h.lo with
     |none=>rw[a,b]at q;cases q
     | some v=>
       rw[wX (v:=.p (.tup [zd (g.x,u),zd (g.x,v)])) (by
        simp only[vB,wc,oC,hb,zk,Val.d,R0,if_true];show Out.ok (Res.ret (Val.p (.tup [.tup [.int g.x,w5 g.hi],.tup [.int g.x,w5 h.lo]])))=_;rw[a,b]
        rfl)]
       rfl
 | false=>
   rw[q]at hb
   rcases ok.one with⟨u,v,e1,e2,l⟩|⟨u,v,e1,e2,l⟩
   ·unfold xy at q;rw[e1,e2]at q;exact absurd l (of_decide_eq_false q)
   ·rw[zq (env':=[.p (zm g),.p (zm h),.p (.int g.x)]) (by
     simp only[vB,wc,oC,hb,zk,Val.d,R0]
     rfl)]
    show Out.ok (Val.p (.tup [.tup [.int g.x,w5 g.lo],.tup [.int g.x,w5 h.hi]]))=_;rw[e1,e2];rfl
@[reducible] noncomputable def sX:FS :=
 wc (z0 (f2 qo (f2 zX (zf 1) (fC (.int 1))) (fC .non)))
 (zJ (zS 3 true (wB (zw (f2 zX (zf 1) (fC (.int 0))) (zw (f2 zX (zf 1) (fC (.int 1))) (yd)))))
 (qv 2 (wB (zw (zx yI (zi (zf 0) (zi (zf 3) (zz)))) (zw (zf 3) (yd))))))
 (wo)
@[reducible] noncomputable def sW:FS :=
 wc (z0 (f2 qo (f2 zX (zf 1) (fC (.int 2))) (fC .non)))
 (zJ (zS 4 true (wB (zw (f2 zX (zf 1) (fC (.int 0))) (zw (f2 zX (zf 1) (fC (.int 2))) (yd)))))
 (qv 2 (wB (zw (f1 xj (zx yI (zi (zf 0) (zi (zf 4) (zz))))) (zw (zf 4) (yd))))))
 (wo)
noncomputable def xY:FS :=
 zJ (zS 2 false (xk (yd)))
 (zJ (sX)
 (zJ (sW)
 (yu (zf 2))))
noncomputable def yJ:List D→Out Val:=zP 5 xY
theorem ou:∀ds v,ds.length=2→yJ ds=.ok v→zP 5 xY ds=.ok v:=fun _ _ _ h=>h
noncomputable def bD (q:Int×zh):D:=.tup [.int q.1,zd q.2]
theorem X4 {a b:zh}{g:Ga}(hn:near a b)(hx : -(2^64)<g.x - a.1∧g.x - a.1<2^64):yJ [zR (a,b),zm g]=.ok (.fresh ((oM a b g).map bD)):=by
 have sd:∀y,yI [zR (a,b),.tup [.int g.x,.int y]]=.ok (.p (.int (zI a b (g.x,y)))):=fun y=>fH (q:=(a,b)) (p:=(g.x,y)) hn hx
 have i1:∃s3,sX [.p (zR (a,b)),.p (zm g),.own [],.un,.un]=.ok (.next [.p (zR (a,b)),.p (zm g),.own ((match g.lo with|some y=>[(zI a b (g.x,y),(g.x,y))]|none=>[]).map bD),s3,.un]):=by
  cases h:g.lo with
  |none=>exact⟨.un,by simp[zm,w5,h,P5]⟩
  |some y=>exact⟨.p (.tup [.int g.x,.int y]),by simp[zm,w5,h,P6,P5,sd,bD,zd]⟩
 obtain⟨s3,i1⟩:=i1;generalize hL:(match g.lo with|some y=>[(zI a b (g.x,y),(g.x,y))]|none=>[])=L at i1
 have hl:L.length<100000:=by rw[←hL];split <;> simp
 have i2:∃s4,sW [.p (zR (a,b)),.p (zm g),.own (L.map bD),s3,.un]=.ok (.next [.p (zR (a,b)),.p (zm g),.own ((L++(match g.hi with|some y=>[(-zI a b (g.x,y),(g.x,y))]|none=>[])).map bD),s3,s4]):=by
  cases h:g.hi with
  |none=>exact⟨.un,by simp[zm,w5,h,P4]⟩
  |some y=>exact⟨.p (.tup [.int g.x,.int y]),by simp[zm,w5,h,P6,P4,sd,bD,zd,hl]⟩
 obtain⟨s4,i2⟩:=i2;unfold yJ;show((xY [.p (zR (a,b)),.p (zm g),.un,.un,.un]).bind _)=_;unfold xY;rw[zq (env':=[.p (zR (a,b)),.p (zm g),.own [],.un,.un]) rfl,zq i1,zq i2];unfold oM;rw[hL];rfl
@[reducible] noncomputable def qM:FS :=
 wc (z0 (f2 bV (zf 5) (zf 3)))
 (zJ (zS 2 true (zf 6))
 (zS 3 true (zf 5)))
 (wo)
@[reducible] noncomputable def wF:FS :=
 qM
@[reducible] noncomputable def wD:FS :=
 vq (xS (zx yJ (zi (zf 0) (zi (zf 4) (zz))))) (gT [5,6])
 (wF)
noncomputable def yZ:FS :=
 zJ (zS 2 true (fC .non))
 (zJ (zS 3 true (fC (.int 0)))
 (zJ (vq (xS (zx yk (zi (zf 1) (zi (zf 0) (zz))))) (gN 4)
 (wD))
 (yu (zf 2))))
noncomputable def yq:List D→Out Val:=zP 7 yZ
theorem rK:∀ds v,ds.length=2→yq ds=.ok v→zP 7 yZ ds=.ok v:=fun _ _ _ h=>h
noncomputable def tJ:Option zh→D
 |some p=>zd p
 |none=>.non
theorem gL {q g:D}(run:D):∀(l:List (Int×zh)) (st:Option zh×Int) (s5 s6:Slot),∃s5' s6',wu (gT [5,6]) wF (l.map bD) [.p q,.p run,.p (tJ st.1),.p (.int st.2),.p g,s5,s6]=.ok (.next [.p q,.p run,.p (tJ (l.foldl vp st).1),.p (.int (l.foldl vp st).2),.p g,s5',s6'])
 |[],st,s5,s6=>⟨s5,s6,rfl⟩
 | x::l,st,s5,s6=>by
   obtain⟨s5',s6',e⟩:=gL (q:=q) (g:=g) run l (vp st x) (.p (.int x.1)) (.p (zd x.2));refine⟨s5',s6',?_⟩;have hg:gT [5,6] (bD x) [.p q,.p run,.p (tJ st.1),.p (.int st.2),.p g,s5,s6]=.ok [.p q,.p run,.p (tJ st.1),.p (.int st.2),.p g,.p (.int x.1),.p (zd x.2)]:=rfl
   have hb:wF [.p q,.p run,.p (tJ st.1),.p (.int st.2),.p g,.p (.int x.1),.p (zd x.2)]=.ok (.next [.p q,.p run,.p (tJ (vp st x).1),.p (.int (vp st x).2),.p g,.p (.int x.1),.p (zd x.2)]):=by
    unfold vp;by_cases z:st.2<x.1
    ·simp[z,tJ]
    ·simp[z]
   rw[List.map_cons,wu,hg,zk,hb,zk];exact e
theorem gK {a b:zh}{run:D}(hn:near a b):∀(l:List Ga) (st:Option zh×Int) (s4 s5 s6:Slot),(∀g∈l,-(2^64)<g.x - a.1∧g.x - a.1<2^64) →
 ∃s4' s5' s6',wu (gN 4) wD (l.map zm) [.p (zR (a,b)),.p run,.p (tJ st.1),.p (.int st.2),s4,s5,s6]=.ok (.next [.p (zR (a,b)),.p run,.p (tJ ((l.flatMap (oM a b)).foldl vp st).1),.p (.int ((l.flatMap (oM a b)).foldl vp st).2),s4',s5',s6'])
 |[],st,s4,s5,s6,_=>⟨s4,s5,s6,rfl⟩
 | g::l,st,s4,s5,s6,hx=>by
   obtain⟨t5,t6,e1⟩:=gL (q:=zR (a,b)) (g:=zm g) run (oM a b g) st s5 s6;obtain⟨u4,u5,u6,e2⟩:=gK (run:=run) hn l ((oM a b g).foldl vp st) (.p (zm g)) t5 t6 (fun x hm=>hx x (by simp[hm]));refine⟨u4,u5,u6,?_⟩
   have hi:xS (zx yJ (zi (zf 0) (zi (zf 4) (zz)))) [.p (zR (a,b)),.p run,.p (tJ st.1),.p (.int st.2),.p (zm g),s5,s6]=.ok ((oM a b g).map bD):=by
    have:zx yJ (zi (zf 0) (zi (zf 4) (zz))) [.p (zR (a,b)),.p run,.p (tJ st.1),.p (.int st.2),.p (zm g),s5,s6]=.ok (.fresh ((oM a b g).map bD)):=by
     show((yJ [zR (a,b),zm g]).bind _)=_;rw[X4 hn (hx g (by simp))];rfl
    simp only[xS,this,zk];rfl
   have hb:wD [.p (zR (a,b)),.p run,.p (tJ st.1),.p (.int st.2),.p (zm g),s5,s6]=.ok (.next [.p (zR (a,b)),.p run,.p (tJ ((oM a b g).foldl vp st).1),.p (.int ((oM a b g).foldl vp st).2),.p (zm g),t5,t6]):=by
    simp only[vq,hi,zk];exact e1
   have hg:gN 4 (zm g) [.p (zR (a,b)),.p run,.p (tJ st.1),.p (.int st.2),s4,s5,s6]=.ok [.p (zR (a,b)),.p run,.p (tJ st.1),.p (.int st.2),.p (zm g),s5,s6]:=rfl;rw[List.map_cons,wu,hg,zk,hb,zk,List.flatMap_cons,saR];exact e2
theorem Rq {a b:zh}{run:List Ga}(hn:near a b)(hl:run.length≤1000):yq [zR (a,b),.l (run.map zm)]=.ok (.p (tJ (iL run a b))):=by
 have hc:=XS hl (a,b)
 have hx:∀g∈sD run a b,-(2^64)<g.x - a.1∧g.x - a.1<2^64:=fun g hg=>by
  obtain⟨_,hb⟩:=rV.mp hg;obtain⟨h1,h2⟩:=hn
  rcases hb with z|z <;> lia
 obtain⟨s4,s5,s6,e⟩:=gK (run:=.l (run.map zm)) hn (sD run a b) (none,0) .un .un .un hx
 have hi:xS (zx yk (zi (zf 1) (zi (zf 0) (zz)))) [.p (zR (a,b)),.p (.l (run.map zm)),.p .non,.p (.int 0),.un,.un,.un]=.ok ((sD run a b).map zm):=by
  have:zx yk (zi (zf 1) (zi (zf 0) (zz))) [.p (zR (a,b)),.p (.l (run.map zm)),.p .non,.p (.int 0),.un,.un,.un]=.ok (.fresh ((sD run a b).map zm)):=by
   show((yk [.l (run.map zm),zR (a,b)]).bind _)=_;rw[hc];rfl
  simp only[xS,this,zk];rfl
 unfold yq;show((yZ [.p (zR (a,b)),.p (.l (run.map zm)),.un,.un,.un,.un,.un]).bind _)=_;unfold yZ;rw[zq (env':=[.p (zR (a,b)),.p (.l (run.map zm)),.p .non,.un,.un,.un,.un]) rfl,zq (env':=[.p (zR (a,b)),.p (.l (run.map zm)),.p .non,.p (.int 0),.un,.un,.un]) rfl]
 rw[zq (by
  simp only[vq,hi,zk]
  exact e)]
 rfl
@[reducible] noncomputable def xo:FT :=
 oC (zf 4)
@[reducible] noncomputable def kh:FS :=
 wc (z0 (f2 XE (zf 5) (fC .non)))
 (kQ 3 4)
 (qv 4 (zf 5))
@[reducible] noncomputable def xp:FS :=
 zJ (zS 5 true (zx yq (zi (wB (zw (f2 zX (zf 3) (f1 xj (fC (.int 1)))) (zw (f2 zX (zf 4) (f1 xj (fC (.int 1)))) (yd)))) (zi (zf 1) (zz)))))
 (kh)
noncomputable def wz:FS :=
 zJ (zS 3 false (xk (zw (zf 0) (yd))))
 (zJ (zS 4 false (xk (zw (zf 2) (yd))))
 (zJ (qw (xo)
 (xp) 100)
 (yu (iA (zf 3) (kK (fC (.int 1))) (gO)))))
noncomputable def yv:List D→Out Val:=zP 6 wz
theorem nP:∀ds v,ds.length=3→yv ds=.ok v→zP 6 wz ds=.ok v:=fun _ _ _ h=>h
noncomputable def YF (R:List Ga)(a b:Int):Nat:=R.countP fun g=>decide ((a<g.x∧g.x<b)∨(b<g.x∧g.x<a))
theorem VW {a p b:Int}(h:(a<p∧p<b)∨(b<p∧p<a)):∀R:List Ga,YF R a p+YF R p b+R.countP (fun g=>decide (g.x=p))≤YF R a b
 |[]=>by simp[YF]
 | g::R=>by
   have ih:=VW h R;unfold YF at ih ⊢;simp only[List.countP_cons,sap]
   split <;> split <;> split <;> split <;> lia
theorem XU {R:List Ga}{a p b:Int}{g:Ga}(hg:g∈R)(hx:g.x=p)(h:(a<p∧p<b)∨(b<p∧p<a)):YF R a p+YF R p b+1≤YF R a b:=by
 have:=VW h R;have:0<R.countP (fun g=>decide (g.x=p)):=List.countP_pos_iff.mpr ⟨g,hg,sal hx⟩;lia
theorem cy {run:List Ga}{a b:zh}{l:List zh}(h:Pul run a b l):∃m,l=m++[b]:=by
 induction h with
 |stop _=>exact⟨[],rfl⟩
 | @split a b p d g l1 l2 _ _ _ _ _ _ _ _ ih2=>
   obtain⟨m,rfl⟩:=ih2;exact⟨l1++m,by rw[saF]⟩
noncomputable def RE (a g:D)(run:List Ga)(r gs:List zh)(s:Slot):Ev:=[.p a,.p (.l (run.map zm)),.p g,.own (r.map zd),.own (gs.map zd),s]
theorem Tt (l:List zh):qP (l.map zd) (some 1) none=(l.tail).map zd:=by
 rw[ro _ 1 1 rfl,List.drop_one,scF]
theorem Zt (l:List zh)(c:zh):t9 ((l++[c]).map zd) (-1)=some (zd c):=by
 rw[oN,sae,saN,saM];simp
theorem cj {A Z:D}{run:List Ga}{pre gs:List zh}{a b:zh}{s:Slot}(hn:near a b)(hl:run.length≤1000)(hp:pre.length<50000)(hg:gs.length<50000) :
 xp (RE A Z run (pre++[a]) (gs++[b]) s)=.ok (.next (match iL run a b with
  |none=>RE A Z run (pre++[a]++[b]) gs (.p .non)
  |some p=>RE A Z run (pre++[a]) (gs++[b]++[p]) (.p (zd p)))):=by
 have hf:=Rq (run:=run) hn hl
 have ht:wB (zw (f2 zX (zf 3) (f1 xj (fC (.int 1)))) (zw (f2 zX (zf 4) (f1 xj (fC (.int 1)))) (yd))) (RE A Z run (pre++[a]) (gs++[b]) s)=.ok (.p (zR (a,b))):=by
  have e1:f2 zX (zf 3) (f1 xj (fC (.int 1))) (RE A Z run (pre++[a]) (gs++[b]) s)=.ok (.p (zd a)):=by
   show zX (.l ((pre++[a]).map zd)) (.int (-1))=_;simp only[zX,Zt]
  have e2:f2 zX (zf 4) (f1 xj (fC (.int 1))) (RE A Z run (pre++[a]) (gs++[b]) s)=.ok (.p (zd b)):=by
   show zX (.l ((gs++[b]).map zd)) (.int (-1))=_;simp only[zX,Zt]
  simp only[wB,zw,yd,e1,e2,zk];rfl
 have hv:zf 1 (RE A Z run (pre++[a]) (gs++[b]) s)=.ok (.p (.l (run.map zm))):=rfl
 have hc:zx yq (zi (wB (zw (f2 zX (zf 3) (f1 xj (fC (.int 1)))) (zw (f2 zX (zf 4) (f1 xj (fC (.int 1)))) (yd)))) (zi (zf 1) (zz))) (RE A Z run (pre++[a]) (gs++[b]) s)=.ok (.p (tJ (iL run a b))):=by
  simp only[zx,zi,zz,ht,hv,zk];show((yq [zR (a,b),.l (run.map zm)]).bind _)=_;rw[hf];rfl
 unfold xp
 rw[zq (env':=RE A Z run (pre++[a]) (gs++[b]) (.p (tJ (iL run a b)))) (by
  simp only[zS,hc,zk]
  rfl)]
 cases q:iL run a b with
 | none=>
   have c:z0 (f2 XE (zf 5) (fC .non)) (RE A Z run (pre++[a]) (gs++[b]) (.p (tJ none)))=.ok true:=rfl;simp only[wc,c,zk,if_true];have hz:(pre++[a]).length<100000:=by simp;lia
   simp[RE,kQ,tJ,hz];lia
 | some p=>
   have c:z0 (f2 XE (zf 5) (fC .non)) (RE A Z run (pre++[a]) (gs++[b]) (.p (tJ (some p))))=.ok false:=rfl;simp only[wc,c,zk,saH,if_false];simp[RE,tJ];lia
theorem jm {A Z:D}{run:List Ga}(hl:run.length≤1000):∀(n:Nat) (a b:zh),near a b→YF run a.1 b.1≤n→∃l k,Pul run a b l∧k≤2*YF run a.1 b.1+1∧l.length≤YF run a.1 b.1+1 ∧
 ∀(pre gs:List zh) (s:Slot) (fu:Nat),pre.length+YF run a.1 b.1<40000→gs.length+YF run a.1 b.1<40000→∃s',qw xo xp (fu+k) (RE A Z run (pre++[a]) (gs++[b]) s)=qw xo xp fu (RE A Z run (pre++[a]++l) gs s')
 | n,a,b,hn,hc=>by
   have ht:∀(r g:List zh) (c:zh) (s:Slot),xo (RE A Z run r (g++[c]) s)=.ok true:=fun r g c s=>by
    simp[RE]
   cases q:iL run a b with
   | none=>
     refine⟨[b],1,.stop (VO q),by lia,by simp,fun pre gs s fu h1 h2=>⟨.p .non,?_⟩⟩;have hb:=cj (A:=A) (Z:=Z) (s:=s) (pre:=pre) (gs:=gs) hn hl (by lia) (by lia);rw[q]at hb;rw[qw,ht,zk,saf rfl,hb,zk]
   | some p=>
     obtain⟨g,d,hg,hbw,hB,hd,far⟩:=VM q;have hx:=hB.1;have hs:(a.1<p.1∧p.1<b.1)∨(b.1<p.1∧p.1<a.1):=by rw[hx];exact hbw
     have hcs:=XU hg hx.symm hs;have hn':=hn;obtain⟨m1,m2⟩:=hn';have n1:near a p:=by unfold near;lia
     have n2:near p b:=by unfold near;lia
     match n,hc with
     | 0,hc=>lia
     | n+1,hc=>
       obtain⟨l1,k1,P1,b1,c1,w1⟩:=jm hl n a p n1 (by lia);obtain⟨l2,k2,P2,b2,c2,w2⟩:=jm hl n p b n2 (by lia);refine⟨l1++l2,k2+k1+1,.split hg hbw hB hd far P1 P2,by lia,by simp;lia,fun pre gs s fu h1 h2=>?_⟩;have hb:=cj (A:=A) (Z:=Z) (s:=s) (pre:=pre) (gs:=gs) hn hl (by lia) (by lia);rw[q]at hb;obtain⟨s1,e1⟩:=w1 pre (gs++[b]) (.p (zd p)) (fu+k2) (by lia) (by simp;lia);obtain⟨t,rfl⟩:=cy P1;obtain⟨s2,e2⟩:=w2 (pre++[a]++t) gs s1 fu (by simp at c1 ⊢;lia) (by lia);refine⟨s2,?_⟩;rw[←Nat.add_assoc,←Nat.add_assoc,qw,ht,zk,saf rfl,hb,zk];simp only;rw[e1];simp only[saF]at e2 ⊢;exact e2
theorem Sr {run:List Ga}{a b:zh}(hn:near a b)(hl:run.length≤40):∃l,Pul run a b l∧l.length≤run.length+1∧yv [zd a,.l (run.map zm),zd b]=.ok (.fresh (l.map zd)):=by
 have hcl:YF run a.1 b.1≤run.length:=List.countP_le_length;obtain⟨l,k,P,hk,hl2,w⟩:=jm (A:=zd a) (Z:=zd b) (run:=run) (by lia) _ a b hn (Nat.le_refl _);obtain⟨s,e⟩:=w [] [] .un (100 - k) (by simp;lia) (by simp;lia);rw[show 100 - k+k=100 by lia]at e
 obtain⟨j,hj⟩:∃j,100 - k=j+1:=⟨100 - k - 1,by lia⟩
 have ht:xo (RE (zd a) (zd b) run ([]++[a]++l) [] s)=.ok false:=by simp[RE]
 have e0:qw xo xp (j+1) (RE (zd a) (zd b) run ([]++[a]++l) [] s)=.ok (.next (RE (zd a) (zd b) run ([]++[a]++l) [] s)):=by
  rw[qw,ht,zk,sah sax]
 rw[hj,e0]at e;refine⟨l,P,by lia,?_⟩;unfold yv;show((wz [.p (zd a),.p (.l (run.map zm)),.p (zd b),.un,.un,.un]).bind _)=_;unfold wz;rw[zq (env':=[.p (zd a),.p (.l (run.map zm)),.p (zd b),.own [zd a],.un,.un]) rfl];rw[zq (env':=RE (zd a) (zd b) run ([]++[a]) ([]++[b]) .un) rfl];rw[zq e]
 have hcut:iA (zf 3) (kK (fC (.int 1))) (gO) (RE (zd a) (zd b) run ([]++[a]++l) [] s)=.ok (.fresh (l.map zd)):=by
  show Out.ok (Val.fresh (qP ((a::l).map zd) (some 1) none))=_;rw[Tt];rfl
 simp only[yu,hcut,zk]
@[reducible] noncomputable def rO:FS :=
 wc (rf (oC (zf 4)) (z0 (f2 lW (f2 zX (f2 zX (zf 4) (f1 xj (fC (.int 1)))) (fC (.int 3))) (f2 zX (zf 5) (fC (.int 3))))))
 (zJ (zS 6 true (zx yN (zi (f2 zX (zf 4) (f1 xj (fC (.int 1)))) (zi (zf 5) (zz)))))
 (zJ (Zc 3 (zx yv (zi (f2 zX (zf 3) (f1 xj (fC (.int 1)))) (zi (zf 4) (zi (f2 zX (zf 6) (fC (.int 0))) (zz))))))
 (zJ (qv 3 (f2 zX (zf 6) (fC (.int 1))))
 (zS 4 false (xk (yd))))))
 (wo)
@[reducible] noncomputable def xU:FS :=
 zJ (rO)
 (qv 4 (zf 5))
noncomputable def um:FS :=
 zJ (zS 3 false (xk (zw (zf 0) (yd))))
 (zJ (zS 4 false (xk (yd)))
 (zJ (vq (xS (zf 1)) (gN 5)
 (xU))
 (zJ (Zc 3 (zx yv (zi (f2 zX (zf 3) (f1 xj (fC (.int 1)))) (zi (zf 4) (zi (zf 2) (zz))))))
 (yu (iA (zf 3) (kK (fC (.int 1))) (kK (f1 xj (fC (.int 1)))))))))
noncomputable def xK:List D→Out Val:=zP 7 um
theorem jD:∀ds v,ds.length=3→xK ds=.ok v→zP 7 um ds=.ok v:=fun _ _ _ h=>h
theorem oH:∀l:List zh,om (l.map zd)=true
 |[]=>rfl
 | p::l=>by
   have:=oH l;simp only[List.map_cons,om,this,Bool.and_true];rfl
noncomputable def TE (s e:zh)(row:List Ga)(sp:List zh)(R:List Ga)(s5 s6:Slot):Ev:=[.p (zd s),.p (.l (row.map zm)),.p (zd e),.own (sp.map zd),.own (R.map zm),s5,s6]
theorem iY {s e a:zh}{row:List Ga}{pre:List zh}{R:List Ga}{s5 s6:Slot}{X:FE}{b:zh}(hX:X (TE s e row (pre++[a]) R s5 s6)=.ok (.p (zd b)))(hn:near a b)(hl:R.length≤40)(hp:pre.length<10000) :
 ∃l,Pul R a b l∧l.length≤R.length+1∧Zc 3 (zx yv (zi (f2 zX (zf 3) (f1 xj (fC (.int 1)))) (zi (zf 4) (zi X (zz))))) (TE s e row (pre++[a]) R s5 s6)=.ok (.next (TE s e row (pre++[a]++l) R s5 s6)):=by
 obtain⟨l,P,hll,h⟩:=Sr (run:=R) hn hl;refine⟨l,P,hll,?_⟩
 have e1:f2 zX (zf 3) (f1 xj (fC (.int 1))) (TE s e row (pre++[a]) R s5 s6)=.ok (.p (zd a)):=by
  show zX (.l ((pre++[a]).map zd)) (.int (-1))=_;simp only[zX,Zt]
 have e2:zf 4 (TE s e row (pre++[a]) R s5 s6)=.ok (.brw 4 (R.map zm)):=rfl
 have hc:zx yv (zi (f2 zX (zf 3) (f1 xj (fC (.int 1)))) (zi (zf 4) (zi X (zz)))) (TE s e row (pre++[a]) R s5 s6)=.ok (.fresh (l.map zd)):=by
  simp only[zx,zi,zz,e1,e2,hX,zk];show((yv [zd a,.l (R.map zm),zd b]).bind _)=_
  rw[h,zk,saf (by
   rw[sbI]
   exact .inr (oH l))]
 have hz:(pre++[a]).length+l.length≤100000:=by simp;lia
 show((zx yv (zi (f2 zX (zf 3) (f1 xj (fC (.int 1)))) (zi (zf 4) (zi X (zz)))) (TE s e row (pre++[a]) R s5 s6)).bind _)=_;rw[hc,zk];show(if((pre++[a]).map zd).length+(l.map zd).length≤100000 then _ else _)=_;rw[saf (by rw[sae,sae];exact hz)];rw[←saM];rfl
noncomputable def p6:List Ga→List Ga→zh→List (List Ga×zh)
 |R,[],e=>[(R,e)]
 |R,g::r,e=>if R≠[]∧(zK R).w≠g.w then(R,(yh (zK R) g).1)::([],(yh (zK R) g).2)::p6 [g] r e else p6 (R++[g]) r e
theorem ZI {R:List Ga}{g:Ga}(h:R.Pairwise Up)(hR:R≠[])(u:Up (zK R) g):(R++[g]).Pairwise Up:=by
 rw[List.pairwise_append];refine⟨h,by simp,fun x hx y hy=>?_⟩;rw[sag.mp hy]
 obtain⟨m,z,rfl⟩:∃m z,R=m++[z]:=⟨R.dropLast,R.getLast hR,(List.dropLast_concat_getLast hR).symm⟩
 have el:zK (m++[z])=z:=by
  unfold zK;rw[sam,sbP];rfl
 rw[el]at u
 rcases san.mp hx with hx|hx
 ·exact((List.pairwise_append.mp h).2.2 x hx z (by simp)).trans u
 ·rw[sag.mp hx];exact u
theorem mV:∀(r R:List Ga) (e:zh),R≠[]→R.Pairwise Up→kr (zK R::r)→p6 R r e=x5 (xn (R++r)) e
 | [],R,e,hR,hu,_=>by
   have:=ni (r:=[]) hu hR (by simp);rw[this];rfl
 | g::r,R,e,hR,hu,⟨w1,w2,w3⟩=>by
   by_cases z:(zK R).w=g.w
   ·have u:=w1 z
    have el:zK (R++[g])=g:=by
     unfold zK;rw[sam,sbP];rfl
    have ih:=mV r (R++[g]) e (by simp) (ZI hu hR u) (by rw[el];exact w3);rw[p6,sah fun q=>q.2 z,ih,saF];rfl
   ·have ih:=mV r [g] e (by simp) (by simp) w3;rw[p6,saf ⟨hR,z⟩,ih,ni (r:=g::r) hu hR (fun h hh=>by simp at hh;rw[←hh];exact z)];obtain⟨Q,rs,er⟩:=px g r;show _=x5 (R::xn (g::r)) e;have e2:xn ([g]++r)=xn (g::r):=rfl;rw[e2,er];rfl
theorem Vu {row:List Ga}(e:zh)(h:kr row):p6 [] row e=x5 (xn row) e:=by
 cases row with
 |nil=>rfl
 | cons g r=>
   rw[p6,sah fun q=>q.1 rfl];exact mV r [g] e (by simp) (by simp) h
noncomputable def BX (c x:Int):Prop:=c - 2^60<x∧x<c+2^60
theorem kO {C:Int}{a b:zh}(h:BX C a.1)(k:BX C b.1):near a b:=by
 unfold BX at h k;unfold near;lia
theorem Wo (g h:Ga):(yh g h).1.1=g.x∧(yh g h).2.1=g.x:=by
 unfold yh
 split <;> exact⟨rfl,rfl⟩
theorem b8 {C:Int}{s e u:zh}{row:List Ga}{pre:List zh}{R:List Ga}{g:Ga}{s6:Slot}(bu:BX C u.1)(bR:∀x∈R,BX C x.x)(hl:R.length≤40)(hp:pre.length<9000)(ht:R≠[]→(zK R).w≠g.w→TurnOk (zK R) g) :
 (if R≠[]∧(zK R).w≠g.w then ∃l s6',Pul R u (yh (zK R) g).1 l∧l.length≤R.length+1∧xU (TE s e row (pre++[u]) R (.p (zm g)) s6)=.ok (.next (TE s e row (pre++[u]++l++[(yh (zK R) g).2]) [g] (.p (zm g)) s6'))
  else xU (TE s e row (pre++[u]) R (.p (zm g)) s6)=.ok (.next (TE s e row (pre++[u]) (R++[g]) (.p (zm g)) s6))):=by
 have hap:∀(sp:List zh) (Q:List Ga) (z:Slot),Q.length<1000→qv 4 (zf 5) (TE s e row sp Q (.p (zm g)) z)=.ok (.next (TE s e row sp (Q++[g]) (.p (zm g)) z)):=fun sp Q z hQ=>by
  have:Q.length<100000:=by lia
  simp[TE,this]
 by_cases hR:R=[]
 ·subst hR;rw[sah fun q=>q.1 rfl];unfold xU;rw[zq (env':=TE s e row (pre++[u]) [] (.p (zm g)) s6) rfl];exact hap _ _ _ (by simp)
 have lg:t9 (R.map zm) (-1)=some (zm (zK R)):=by
  unfold zK;rw[oN,sae,sav,←sbs,sam,saJ hR];rfl
 have hlast:f2 zX (zf 4) (f1 xj (fC (.int 1))) (TE s e row (pre++[u]) R (.p (zm g)) s6)=.ok (.p (zm (zK R))):=by
  show zX (.l (R.map zm)) (.int (-1))=_;simp only[zX,lg]
 have c:rf (oC (zf 4)) (z0 (f2 lW (f2 zX (f2 zX (zf 4) (f1 xj (fC (.int 1)))) (fC (.int 3))) (f2 zX (zf 5) (fC (.int 3))))) (TE s e row (pre++[u]) R (.p (zm g)) s6)=.ok (decide ((zK R).w≠g.w)):=by
  have t1:oC (zf 4) (TE s e row (pre++[u]) R (.p (zm g)) s6)=.ok true:=by
   cases R with
   |nil=>exact absurd rfl hR
   |cons x r=>rfl
  have t2:f2 lW (f2 zX (f2 zX (zf 4) (f1 xj (fC (.int 1)))) (fC (.int 3))) (f2 zX (zf 5) (fC (.int 3))) (TE s e row (pre++[u]) R (.p (zm g)) s6)=lW (.int (zK R).w) (.int g.w):=by
   have e3:f2 zX (f2 zX (zf 4) (f1 xj (fC (.int 1)))) (fC (.int 3)) (TE s e row (pre++[u]) R (.p (zm g)) s6)=.ok (.p (.int (zK R).w)):=by
    show((f2 zX (zf 4) (f1 xj (fC (.int 1))) (TE s e row (pre++[u]) R (.p (zm g)) s6)).bind _)=_;rw[hlast];rfl
   show((f2 zX (f2 zX (zf 4) (f1 xj (fC (.int 1)))) (fC (.int 3)) (TE s e row (pre++[u]) R (.p (zm g)) s6)).bind _)=_;rw[e3];rfl
  simp only[rf,t1,zk,if_true,z0,t2]
  by_cases z:(zK R).w=g.w <;> simp[z]
 by_cases z:(zK R).w=g.w
 ·rw[sah fun q=>q.2 z];unfold xU;rw[saw (fun w=>w z)]at c
  rw[zq (env':=TE s e row (pre++[u]) R (.p (zm g)) s6) (by
   simp only[rO,wc,c,zk]
   rfl)]
  exact hap _ _ _ (by lia)
 ·rw[saf ⟨hR,z⟩];rw[sal z]at c;have hT:=bZ (ht hR z)
  have hm:zK R∈R:=by
   unfold zK;rw[sam,saJ hR];exact scO hR
  obtain⟨tx1,tx2⟩:=Wo (zK R) g;have b1:BX C (yh (zK R) g).1.1:=by rw[tx1];exact bR _ hm
  obtain⟨l,P,hll,hx⟩:=iY (s:=s) (e:=e) (row:=row) (pre:=pre) (R:=R) (s5:=.p (zm g)) (s6:=.p (.tup [zd (yh (zK R) g).1,zd (yh (zK R) g).2])) (X:=f2 zX (zf 6) (fC (.int 0))) (b:=(yh (zK R) g).1) rfl (kO bu b1) hl (by lia);refine⟨l,.p (.tup [zd (yh (zK R) g).1,zd (yh (zK R) g).2]),P,hll,?_⟩
  have hc6:zx yN (zi (f2 zX (zf 4) (f1 xj (fC (.int 1)))) (zi (zf 5) (zz))) (TE s e row (pre++[u]) R (.p (zm g)) s6)=.ok (.p (.tup [zd (yh (zK R) g).1,zd (yh (zK R) g).2])):=by
   have e5:zf 5 (TE s e row (pre++[u]) R (.p (zm g)) s6)=.ok (.p (zm g)):=rfl;simp only[zx,zi,zz,hlast,e5,zk];show((yN [zm (zK R),zm g]).bind _)=_;rw[hT];rfl
  have hap3:qv 3 (f2 zX (zf 6) (fC (.int 1))) (TE s e row (pre++[u]++l) R (.p (zm g)) (.p (.tup [zd (yh (zK R) g).1,zd (yh (zK R) g).2])))=.ok (.next (TE s e row (pre++[u]++l++[(yh (zK R) g).2]) R (.p (zm g)) (.p (.tup [zd (yh (zK R) g).1,zd (yh (zK R) g).2])))):=by
   have hlen:((pre++[u]++l).map zd).length<100000:=by simp;lia
   show(if((pre++[u]++l).map zd).length<100000 then _ else _)=_;rw[saf hlen];unfold TE;rw[saM (l₂:=[(yh (zK R) g).2])];rfl
  unfold xU
  rw[zq (env':=TE s e row (pre++[u]++l++[(yh (zK R) g).2]) [] (.p (zm g)) (.p (.tup [zd (yh (zK R) g).1,zd (yh (zK R) g).2]))) (by
   simp only[rO,wc,c,zk,if_true]
   rw[zq (env':=TE s e row (pre++[u]) R (.p (zm g)) (.p (.tup [zd (yh (zK R) g).1,zd (yh (zK R) g).2]))) (by
    simp only[zS,hc6,zk]
    rfl),zq hx,zq hap3]
   rfl)]
  exact hap _ [] _ (by simp)
theorem WM (a b:zh):Pul [] a b [b]:=.stop fun g hg=>absurd hg (by simp)
theorem mx {C:Int}{s e:zh}{row:List Ga}{xs:List Int}(hxs:xs.length≤40):∀(rest R:List Ga) (pre:List zh) (u:zh) (s5 s6:Slot),BX C u.1→(∀x∈R,BX C x.x∧x.x∈xs)→(∀x∈rest,BX C x.x∧x.x∈xs)→R.Pairwise Up→pre.length+R.length+3*rest.length<9000→(R=[]→kr rest)→(R≠[]→kr (zK R::rest)) →
 ∃(pre':List zh) (u':zh) (R':List Ga) (T:List zh) (s5' s6':Slot),wu (gN 5) xU (rest.map zm) (TE s e row (pre++[u]) R s5 s6)=.ok (.next (TE s e row (pre'++[u']) R' s5' s6'))∧pre'++[u']=pre++[u]++T∧BX C u'.1∧R'.length≤40∧pre'.length<9000∧∀l,Pul R' u' e l→Tot u (p6 R rest e) (T++l)
 |[],R,pre,u,s5,s6,bu,bR,_,hu,hp,_,_=>⟨pre,u,R,[],s5,s6,rfl,by simp,bu,sbH (Wl hu fun g hg=>(bR g hg).2) hxs,by lia,fun l P=>by
  have:=Tot.cons P (Tot.nil (a:=e));rw[sbq]at this
  exact this⟩
 | g::rest,R,pre,u,s5,s6,bu,bR,bg,hu,hp,w0,w1=>by
   simp only[List.length_cons]at hp;have ht:R≠[]→(zK R).w≠g.w→TurnOk (zK R) g:=fun h z=>(w1 h).2.1 z;have hR40:R.length≤40:=sbH (Wl hu fun g hg=>(bR g hg).2) hxs;have st:=b8 (s:=s) (e:=e) (row:=row) (pre:=pre) (R:=R) (g:=g) (s6:=s6) bu (fun x hx=>(bR x hx).1) hR40 (by lia) ht;have hg:gN 5 (zm g) (TE s e row (pre++[u]) R s5 s6)=.ok (TE s e row (pre++[u]) R (.p (zm g)) s6):=rfl;have bg':∀x∈rest,BX C x.x∧x.x∈xs:=fun x hx=>bg x (by simp[hx])
   have wg:kr (g::rest):=by
    by_cases h:R=[]
    ·exact w0 h
    ·exact(w1 h).2.2
   by_cases c:R≠[]∧(zK R).w≠g.w
   ·rw[saf c]at st;obtain⟨l1,s6',P1,hl1,hb⟩:=st
    have hm:zK R∈R:=by
     unfold zK;rw[sam,saJ c.1];exact scO c.1
    have b2:BX C (yh (zK R) g).2.1:=by rw[(Wo (zK R) g).2];exact(bR _ hm).1
    obtain⟨pre',u',R',T,s5',s6'',e1,e2,b',k1,k2,tot⟩:=mx (s:=s) (e:=e) (row:=row) hxs rest [g] (pre++[u]++l1) (yh (zK R) g).2 (.p (zm g)) s6' b2 (fun x hx=>by rw[sag.mp hx];exact bg g (by simp)) bg' (by simp) (by simp;lia) (fun z=>by simp at z) (fun _=>wg);refine⟨pre',u',R',l1++([(yh (zK R) g).2]++T),s5',s6'',?_,by rw[e2];simp,b',k1,k2,fun l P=>?_⟩
    ·rw[List.map_cons,wu,hg,zk,hb,zk];exact e1
    ·rw[p6,saf c,saF,saF];exact .cons P1 (.cons (WM _ _) (tot l P))
   ·rw[sah c]at st
    have el:zK (R++[g])=g:=by
     unfold zK;rw[sam,sbP];rfl
    have hu':(R++[g]).Pairwise Up:=by
     by_cases h:R=[]
     ·subst h;simp
     ·have hw:(zK R).w=g.w:=Decidable.byContradiction fun z=>c ⟨h,z⟩;exact ZI hu h ((w1 h).1 hw)
    obtain⟨pre',u',R',T,s5',s6'',e1,e2,b',k1,k2,tot⟩:=mx (s:=s) (e:=e) (row:=row) hxs rest (R++[g]) pre u (.p (zm g)) s6 bu (fun x hx=>by
     rcases san.mp hx with hx|hx
     ·exact bR x hx
     ·rw[sag.mp hx];exact bg g (by simp)) bg' hu' (by simp;lia) (fun z=>by simp at z) (fun _=>by rw[el];exact wg)
    refine⟨pre',u',R',T,s5',s6'',?_,e2,b',k1,k2,fun l P=>?_⟩
    ·rw[List.map_cons,wu,hg,zk,st,zk];exact e1
    ·rw[p6,sah c];exact tot l P
theorem Tu (a:zh)(m:List zh)(e:zh):qP ((a::(m++[e])).map zd) (some 1) (some (-1))=m.map zd:=by
 have hl:((a::(m++[e])).map zd).length=m.length+2:=by simp
 unfold DL.qP;rw[hl];show(((a::(m++[e])).map zd).drop (if(1:Int)<0 then((1:Int)+((m.length+2:Nat):Int)).toNat else min (1:Int).toNat (m.length+2))).take ((if(-1:Int)<0 then((-1:Int)+((m.length+2:Nat):Int)).toNat else min (-1:Int).toNat (m.length+2)) - (if(1:Int)<0 then((1:Int)+((m.length+2:Nat):Int)).toNat else min (1:Int).toNat (m.length+2)))=_;rw[saf (show(-1:Int)<0 by lia),sah (show ¬(1:Int)<0 by lia)]
 have e1:min (1:Int).toNat (m.length+2)=1:=by
  show min 1 (m.length+2)=1;lia
 have e2:((-1:Int)+((m.length+2:Nat):Int)).toNat=m.length+1:=by lia
 rw[e1,e2];simp
theorem b7 {C:Int}{s e:zh}{row:List Ga}{xs:List Int}(bs:BX C s.1)(be:BX C e.1)(bg:∀g∈row,BX C g.x∧g.x∈xs)(hxs:xs.length≤40)(hl:row.length≤2500)(w:kr row) :
 ∃m,Tot s (x5 (xn row) e) (m++[e])∧m.length≤9100∧xK [zd s,.l (row.map zm),zd e]=.ok (.fresh (m.map zd)):=by
 obtain⟨pre,u,R,T,s5,s6,ef,ep,bu,hR,hp,tot⟩:=mx (s:=s) (e:=e) (row:=row) hxs row [] [] s .un .un bs (by simp) bg (by simp) (by simp;lia) (fun _=>w) (fun z=>absurd rfl z);obtain⟨l,P,hll,hx⟩:=iY (s:=s) (e:=e) (a:=u) (row:=row) (pre:=pre) (R:=R) (s5:=s5) (s6:=s6) (X:=zf 2) (b:=e) rfl (kO bu be) hR (by lia);obtain⟨z,rfl⟩:=cy P;have tt:=tot _ P;rw[Vu e w,←saF]at tt;have hlen:=congrArg List.length ep;simp only[saN,List.length_cons,List.length_nil]at hlen hll;refine⟨T++z,tt,by rw[saN];lia,?_⟩;have e4:pre++[u]++(z++[e])=s::((T++z)++[e]):=by rw[ep];simp
 have hcut:iA (zf 3) (kK (fC (.int 1))) (kK (f1 xj (fC (.int 1)))) (TE s e row (s::((T++z)++[e])) R s5 s6)=.ok (.fresh ((T++z).map zd)):=by
  show Out.ok (Val.fresh (qP ((s::((T++z)++[e])).map zd) (some 1) (some (-1))))=_;rw[Tu]
 unfold xK;show((um [.p (zd s),.p (.l (row.map zm)),.p (zd e),.un,.un,.un,.un]).bind _)=_;unfold um;rw[zq (env':=[.p (zd s),.p (.l (row.map zm)),.p (zd e),.own [zd s],.un,.un,.un]) rfl];rw[zq (env':=TE s e row ([]++[s]) [] .un .un) rfl]
 rw[zq (by
  have hi:xS (zf 1) (TE s e row ([]++[s]) [] .un .un)=.ok (row.map zm):=rfl;simp only[vq,hi,zk]
  exact ef)]
 rw[zq hx,e4];simp only[yu,hcut,zk]
noncomputable def xX:FS :=
 zJ (zS 3 true (f2 xR (f2 zX (zf 1) (fC (.int 0))) (f2 zX (zf 0) (fC (.int 0)))))
 (zJ (zS 4 true (f2 xR (f2 zX (zf 1) (fC (.int 1))) (f2 zX (zf 0) (fC (.int 1)))))
 (zJ (zS 5 true (f2 xR (f2 zX (zf 2) (fC (.int 0))) (f2 zX (zf 1) (fC (.int 0)))))
 (zJ (zS 6 true (f2 xR (f2 zX (zf 2) (fC (.int 1))) (f2 zX (zf 1) (fC (.int 1)))))
 (yu (gP (f2 mq (f2 vC (zf 3) (zf 6)) (f2 vC (zf 4) (zf 5))) (f2 bV (f2 yB (f2 vC (zf 3) (zf 5)) (f2 vC (zf 4) (zf 6))) (fC (.int 0))))))))
noncomputable def yX:List D→Out Val:=zP 7 xX
theorem oo:∀ds v,ds.length=3→yX ds=.ok v→zP 7 xX ds=.ok v:=fun _ _ _ h=>h
theorem dZ {o m n:zh}(h1:near o m)(h2:near m n)(h3:uq (m.2 - o.2) (n.2 - m.2)=true):yX [zd o,zd m,zd n]=.ok (.p (.bl (z_ o m n))):=by
 have c1:∀j,uq (m.1 - o.1) j=true:=fun j=>vQ h1.1 h1.2;have c2:∀j,uq j (n.1 - m.1)=true:=fun j=>lC h2.1 h2.2;unfold yX;show((xX [.p (zd o),.p (zd m),.p (zd n),.un,.un,.un,.un]).bind _)=_;unfold xX;rw[zq (env':=[.p (zd o),.p (zd m),.p (zd n),.p (.int (m.1 - o.1)),.un,.un,.un]) rfl];rw[zq (env':=[.p (zd o),.p (zd m),.p (zd n),.p (.int (m.1 - o.1)),.p (.int (m.2 - o.2)),.un,.un]) rfl];rw[zq (env':=[.p (zd o),.p (zd m),.p (zd n),.p (.int (m.1 - o.1)),.p (.int (m.2 - o.2)),.p (.int (n.1 - m.1)),.un]) rfl];rw[zq (env':=[.p (zd o),.p (zd m),.p (zd n),.p (.int (m.1 - o.1)),.p (.int (m.2 - o.2)),.p (.int (n.1 - m.1)),.p (.int (n.2 - m.2))]) rfl];unfold z_;by_cases z:(m.1 - o.1)*(n.2 - m.2)=(m.2 - o.2)*(n.1 - m.1)
 ·simp[c1,c2,h3,z]
 ·have zb:((m.1 - o.1)*(n.2 - m.2) == (m.2 - o.2)*(n.1 - m.1))=false:=beq_eq_false_iff_ne.mpr z;simp[c1,c2,h3,zb,z]
@[reducible] noncomputable def xJ:FT :=
 bf (oC (zx yX (zi (zf 0) (zi (zf 1) (zi (zf 2) (zz))))))
@[reducible] noncomputable def vn:FE :=
 zf 1
noncomputable def tj:FS :=
 zJ (zS 3 true (f2 yB (f2 yB (xk (zw (zf 0) (yd))) (zx xc (zi (zx xK (zi (zf 0) (zi (zf 1) (zi (zf 2) (zz))))) (zz)))) (xk (zw (zf 2) (yd)))))
 (zJ (zS 4 true (xA [] 3 (Yv (zf 3) (iA (zf 3) (kK (fC (.int 1))) (gO)) (iA (zf 3) (kK (fC (.int 2))) (gO))) (gT [0,1,2]) (xJ) (vn)))
 (yu (f2 yB (f2 yB (xk (zw (zf 0) (yd))) (zf 4)) (xk (zw (zf 2) (yd))))))
noncomputable def wq:List D→Out Val:=zP 5 tj
theorem iF:∀ds v,ds.length=3→wq ds=.ok v→zP 5 tj ds=.ok v:=fun _ _ _ h=>h
noncomputable def dW (t:zh×zh×zh):D:=.tup [zd t.1,zd t.2.1,zd t.2.2]
theorem ZE:∀l:List zh,sF (l.map zd) (l.tail.map zd) (l.tail.tail.map zd)=(xt l).map dW
 |[]=>rfl
 |[_]=>rfl
 |[_,_]=>rfl
 | o::m::n::r=>by
   have ih:=ZE (m::n::r);simp only[List.tail_cons,List.map_cons]at ih ⊢;rw[sF,xt,List.map_cons,←ih];rfl
theorem ZL:∀l:List zh,(xt l).length≤l.length
 |[]=>Nat.le_refl _
 |[_]=>saX _
 |[_,_]=>saX _
 | o::m::n::r=>by
   have:=ZL (m::n::r);rw[xt,List.length_cons,List.length_cons];lia
theorem bE:∀(ts:List (zh×zh×zh)) (a b c:Slot),(∀t∈ts,near t.1 t.2.1∧near t.2.1 t.2.2∧uq (t.2.1.2 - t.1.2) (t.2.2.2 - t.2.1.2)=true)→xH (gT [0,1,2]) xJ vn (ts.map dW) [a,b,c]=.ok ((ts.filterMap fun t=>if z_ t.1 t.2.1 t.2.2=true then none else some t.2.1).map zd)
 |[],_,_,_,_=>rfl
 | t::ts,a,b,c,h=>by
   obtain⟨h1,h2,h3⟩:=h t (by simp);have st:=dZ h1 h2 h3;have ih:=bE ts (.p (zd t.1)) (.p (zd t.2.1)) (.p (zd t.2.2)) (fun x hx=>h x (by simp[hx]));have hg:gT [0,1,2] (dW t) [a,b,c]=.ok [.p (zd t.1),.p (zd t.2.1),.p (zd t.2.2)]:=rfl
   have ht:xJ [.p (zd t.1),.p (zd t.2.1),.p (zd t.2.2)]=.ok (!z_ t.1 t.2.1 t.2.2):=by
    have hc:zx yX (zi (zf 0) (zi (zf 1) (zi (zf 2) (zz)))) [.p (zd t.1),.p (zd t.2.1),.p (zd t.2.2)]=.ok (.p (.bl (z_ t.1 t.2.1 t.2.2))):=by
     show((yX [zd t.1,zd t.2.1,zd t.2.2]).bind _)=_;rw[st];rfl
    simp only[xJ,bf,oC,hc,zk,Val.d,R0]
   rw[List.map_cons,xH,hg,zk,ht,zk,List.filterMap_cons]
   cases z_ t.1 t.2.1 t.2.2 with
   |true=>exact ih
   | false=>
     show((xH (gT [0,1,2]) xJ vn (ts.map dW) [.p (zd t.1),.p (zd t.2.1),.p (zd t.2.2)]).bind _)=_;rw[ih];rfl
theorem Wq:∀{l:List zh} {e:zh} {t:zh×zh×zh},t∈xt (l++[e])→t.1∈l∧t.2.1∈l∧t.2.1∈(l++[e]).tail∧t.2.2∈(l++[e]).tail
 |[],_,_,h=>by cases h
 |[_],_,_,h=>by cases h
 | [o,m],e,t,h=>by
   cases sag.mp h;simp
 | o::m::n::r,e,t,h=>by
   rcases saj.mp h with rfl|h
   ·simp
   ·obtain⟨h1,h2,h3,h4⟩:=Wq (l:=m::n::r) h;exact⟨.tail _ h1,.tail _ h2,.tail _ h3,.tail _ h4⟩
noncomputable def Ub (c:Int)(p:zh):Prop:=c≤p.2∧p.2<c+2^64
structure PullOk (s e:zh)(row:List Ga):Prop where
 bx:∃C:Int,BX C s.1∧BX C e.1∧∀g∈row,BX C g.x
 xs:∃xs:List Int,xs.length≤40∧∀g∈row,g.x∈xs
 len:row.length≤2500
 walk:kr row
 sx:∀g∈row,g.x≠s.1
 ex:∀g∈row,g.x≠e.1
 hh:∃c:Int,(∀p,mm row p→Ub c p)∧(Ub c s∨Ub c e)
theorem mH {s e:zh}{row:List Ga}(ok:PullOk s e row):∃out,qY s (xn row) e out∧out.length≤9200∧wq [zd s,.l (row.map zm),zd e]=.ok (.fresh (out.map zd)):=by
 obtain⟨xs,hxs,hx⟩:=ok.xs;obtain⟨C,bs,be,bg⟩:=ok.bx;obtain⟨m,tot,hm,ht⟩:=b7 bs be (fun g hg=>⟨bg g hg,hx g hg⟩) hxs ok.len ok.walk;have tn:=mB _ (nh row ok.walk);obtain⟨m',em,hp⟩:=gv (xn row) s e (m++[e]) tn tot;obtain rfl:m=m':=(List.append_inj' em rfl).1;rw[sM]at hp
 have n1:∀p∈m,p≠s:=fun p k q=>by
  obtain⟨g,hg,w,_⟩:=hp p k;exact ok.sx g hg (by rw[←w,q])
 have n2:∀p∈m,p≠e:=fun p k q=>by
  obtain⟨g,hg,w,_⟩:=hp p k;exact ok.ex g hg (by rw[←w,q])
 have hu:=Wm (ps:=m) (by lia);have hul:=VJ m;generalize hU:m.foldl uW []=U at hu hul
 have hin:∀p∈s::(U++[e]),p=s∨p=e∨mm row p:=fun p k=>by
  rcases saj.mp k with k|k
  ·exact .inl k
  ·rcases san.mp k with k|k
   ·rw[←hU]at k;exact .inr (.inr (hp p (iW k)))
   ·exact .inr (.inl (sag.mp k))
 have hbx:∀p∈s::(U++[e]),BX C p.1:=fun p k=>by
  rcases hin p k with rfl|rfl|⟨g,hg,w,_⟩
  ·exact bs
  ·exact be
  ·rw[w];exact bg g hg
 have hin2:∀t∈xt (s::(U++[e])),uq (t.2.1.2 - t.1.2) (t.2.2.2 - t.2.1.2)=true:=fun t k=>by
  obtain⟨c,hp',hc⟩:=ok.hh;obtain⟨k1,k2,k3,k4⟩:=Wq (l:=s::U) k;have pu:∀p∈U,Ub c p:=fun p hq=>hp' p (hp p (iW (by rw[hU];exact hq)))
  rcases hc with hc|hc
  ·have q:∀p∈s::U,Ub c p:=fun p hq=>(saj.mp hq).elim (fun z=>z ▸ hc) (pu p);obtain⟨a1,a2⟩:=q _ k1;obtain⟨b1,b2⟩:=q _ k2;exact vQ (by lia) (by lia)
  ·have q:∀p∈U++[e],Ub c p:=fun p hq=>(san.mp hq).elim (pu p) fun z=>sag.mp z ▸ hc;obtain⟨a1,a2⟩:=q _ k3;obtain⟨b1,b2⟩:=q _ k4;exact lC (by lia) (by lia)
 have hwl:(s::(U++[e])).length≤9102:=by simp;lia
 refine⟨s::(yL (s::(U++[e]))++[e]),⟨m++[e],tot,by rw[←hU,Us n1 n2]⟩,by
  have:=mZ (s::(U++[e]));simp only[List.length_cons,saN,List.length_nil]at this hwl ⊢
  lia,?_⟩
 have E0:∀s4:Slot,∃E:Ev,E=[.p (zd s),.p (.l (row.map zm)),.p (zd e),s4,.un]:=fun s4=>⟨_,rfl⟩
 have ct:zx xK (zi (zf 0) (zi (zf 1) (zi (zf 2) (zz)))) [.p (zd s),.p (.l (row.map zm)),.p (zd e),.un,.un]=.ok (.fresh (m.map zd)):=by
  show((xK [zd s,.l (row.map zm),zd e]).bind _)=_;rw[ht];rfl
 have cu:zx xc (zi (zx xK (zi (zf 0) (zi (zf 1) (zi (zf 2) (zz))))) (zz)) [.p (zd s),.p (.l (row.map zm)),.p (zd e),.un,.un]=.ok (.fresh (U.map zd)):=by
  rw[zx,zi,ct,zk];show((xc [.l (m.map zd)]).bind _)=_
  rw[hu,zk,saf (by
   rw[sbI]
   exact .inr (oH U))]
 have add3:∀(L:List zh),L.length≤9102→∀(X:FE) (E:Ev),X E=.ok (.fresh (L.map zd))∨X E=.ok (.p (.l (L.map zd)))→E[0]?=some (.p (zd s))→E[2]?=some (.p (zd e))→f2 yB (f2 yB (xk (zw (zf 0) (yd))) X) (xk (zw (zf 2) (yd))) E=.ok (.fresh ((s::(L++[e])).map zd)):=by
  intro L hL X E hX h0 h2
  have v0:xk (zw (zf 0) (yd)) E=.ok (.fresh [zd s]):=by
   simp only[xk,zw,yd,zf,h0,zk];rfl
  have v2:xk (zw (zf 2) (yd)) E=.ok (.fresh [zd e]):=by
   simp only[xk,zw,yd,zf,h2,zk];rfl
  have a1:f2 yB (xk (zw (zf 0) (yd))) X E=.ok (.fresh ((s::L).map zd)):=by
   have:f2 yB (xk (zw (zf 0) (yd))) X E=yB (.l [zd s]) (.l (L.map zd)):=by
    rcases hX with hX|hX <;> simp only[f2,v0,hX,zk,Val.d]
   rw[this,yB,saf (by simp only[List.length_cons,List.length_nil,sae];lia)];rfl
  have:f2 yB (f2 yB (xk (zw (zf 0) (yd))) X) (xk (zw (zf 2) (yd))) E=yB (.l ((s::L).map zd)) (.l [zd e]):=by
   show((f2 yB (xk (zw (zf 0) (yd))) X E).bind _)=_;rw[a1,zk,v2,zk];rfl
  rw[this,yB,saf (by simp only[List.length_cons,List.length_nil,sae];lia)];simp only[List.map_cons,saM,List.map_nil,List.cons_append]
 have hway:=add3 U (by lia) _ [.p (zd s),.p (.l (row.map zm)),.p (zd e),.un,.un] (.inl cu) rfl rfl;generalize hW:s::(U++[e])=W at hway hin hin2 hbx hwl
 have hcomp:xH (gT [0,1,2]) xJ vn ((xt W).map dW) [.un,.un,.un]=.ok ((yL W).map zd):=by
  rw[bE _ _ _ _ fun t k=>?_,gE];obtain⟨k1,k2,k3⟩:=ZK k;exact⟨kO (hbx _ k1) (hbx _ k2),kO (hbx _ k2) (hbx _ k3),hin2 _ k⟩
 have hz:Yv (zf 3) (iA (zf 3) (kK (fC (.int 1))) (gO)) (iA (zf 3) (kK (fC (.int 2))) (gO)) [.p (zd s),.p (.l (row.map zm)),.p (zd e),.p (.l (W.map zd)),.un]=.ok ((xt W).map dW):=by
  show Out.ok (sF (W.map zd) (qP (W.map zd) (some 1) none) (qP (W.map zd) (some 2) none))=_;rw[ro _ 1 1 rfl,ro _ 2 2 rfl,←ZE,scF,scF,scF,←List.drop_one,←List.drop_one,List.drop_drop]
 have hb:xA [] 3 (Yv (zf 3) (iA (zf 3) (kK (fC (.int 1))) (gO)) (iA (zf 3) (kK (fC (.int 2))) (gO))) (gT [0,1,2]) (xJ) (vn) [.p (zd s),.p (.l (row.map zm)),.p (zd e),.p (.l (W.map zd)),.un]=.ok (.fresh ((yL W).map zd)):=by
  have hl:((xt W).map dW).length≤100000:=by
   rw[sae];have:=ZL W;lia
  rw[xA,hz,zk,saf hl];show((xH (gT [0,1,2]) xJ vn ((xt W).map dW) [.un,.un,.un]).bind _)=_;rw[hcomp];rfl
 have hil:=mZ W;have hlast:=add3 (yL W) (by lia) (zf 4) [.p (zd s),.p (.l (row.map zm)),.p (zd e),.p (.l (W.map zd)),.p (.l ((yL W).map zd))] (.inr rfl) rfl rfl;unfold wq;show((tj [.p (zd s),.p (.l (row.map zm)),.p (zd e),.un,.un]).bind _)=_;unfold tj
 rw[zq (env':=[.p (zd s),.p (.l (row.map zm)),.p (zd e),.p (.l (W.map zd)),.un]) (by
  rw[zS,hway]
  rfl)]
 rw[zq (env':=[.p (zd s),.p (.l (row.map zm)),.p (zd e),.p (.l (W.map zd)),.p (.l ((yL W).map zd))]) (by
  rw[zS,hb]
  rfl)]
 rw[yu,hlast];rfl
noncomputable def qN:FS :=
 zJ (zS 2 true (zx yf (zi (zx xP (zi (zf 0) (zi (zf 1) (zz)))) (zz))))
 (yu (zx wq (zi (f2 zX (zf 1) (fC (.int 0))) (zi (zf 2) (zi (f2 zX (zf 1) (f1 xj (fC (.int 1)))) (zz))))))
noncomputable def xf:List D→Out Val:=zP 3 qN
theorem cF:∀ds v,ds.length=2→xf ds=.ok v→zP 3 qN ds=.ok v:=fun _ _ _ h=>h
noncomputable def eM:FS :=
 zJ (zS 3 true (f2 vC (f2 xR (f2 zX (zf 1) (fC (.int 0))) (f2 zX (zf 0) (fC (.int 0)))) (f2 xR (f2 zX (zf 2) (fC (.int 1))) (f2 zX (zf 0) (fC (.int 1))))))
 (yu (f2 xR (zf 3) (f2 vC (f2 xR (f2 zX (zf 1) (fC (.int 1))) (f2 zX (zf 0) (fC (.int 1)))) (f2 xR (f2 zX (zf 2) (fC (.int 0))) (f2 zX (zf 0) (fC (.int 0)))))))
noncomputable def ow:List D→Out Val:=zP 4 eM
theorem Xi:∀ds v,ds.length=3→ow ds=.ok v→zP 4 eM ds=.ok v:=fun _ _ _ h=>h
theorem jI {a b c:zh}(h1:near a b)(h2:near a c):ow [zd a,zd b,zd c]=.ok (.p (.int (zT a b c))):=by
 have c1:∀j,uq (b.1 - a.1) j=true:=fun j=>vQ h1.1 h1.2;have c2:∀j,uq j (c.1 - a.1)=true:=fun j=>lC h2.1 h2.2;unfold ow;simp[eM,zd,X_,RO,c1,c2,zT]
@[reducible] noncomputable def i1_holds : FS :=
 wc (rf (z0 (f2 mn (fB Yq (zi (zf 4) (zz))) (fC (.int 0)))) (z0 (f2 bV (fB Yr (zi (zf 4) (zz))) (fC (.int 0)))))
 (yu (fC (.bl false)))
 (wo)
@[reducible] noncomputable def i2_holds : FS :=
 wc (XI (z0 (f2 mn (f2 zX (zf 3) (zf 5)) (fB Yq (zi (zf 6) (zz))))) (z0 (f2 bV (f2 zX (zf 3) (zf 5)) (fB Yr (zi (zf 6) (zz))))))
 (yu (fC (.bl false)))
 (wo)
@[reducible] noncomputable def b3_holds : FS :=
 zJ (zS 6 true (xk (zw (f2 zX (zf 0) (zf 5)) (zw (f2 zX (zf 1) (zf 5)) (zw (f2 zX (zf 2) (zf 5)) (yd))))))
 (i2_holds)
noncomputable def f_holds : FS :=
 zJ (zS 4 true (xk (zw (zx ow (zi (zf 0) (zi (zf 1) (zi (zf 3) (zz))))) (zw (zx ow (zi (zf 1) (zi (zf 2) (zi (zf 3) (zz))))) (zw (zx ow (zi (zf 2) (zi (zf 0) (zi (zf 3) (zz))))) (yd))))))
 (zJ (i1_holds)
 (zJ (vq (qp (zi (fC (.int 2)) (zz))) (gN 5)
 (b3_holds))
 (yu (fC (.bl true)))))
noncomputable def n_holds : List D → Out Val := zP 7 f_holds
theorem nice_holds : ∀ ds v,ds.length = 4 → n_holds ds = .ok v → zP 7 f_holds ds = .ok v := fun _ _ _ h => h
theorem holds_body {a b c p:zh}{j:Int}{v:zh→Int}(hv:∀q:zh,zX (zd q) (.int j)=.ok (.p (.int (v q))))(W s6:Slot) :
 b3_holds [.p (zd a),.p (zd b),.p (zd c),.p (zd p),W,.p (.int j),s6]=if(decide (v p<tL (v a) (v b) (v c)) ||decide (tM (v a) (v b) (v c)<v p))=true then .ok (.ret (.p (.bl false)))else
  .ok (.next [.p (zd a),.p (zd b),.p (zd c),.p (zd p),W,.p (.int j),.p (.l [.int (v a),.int (v b),.int (v c)])]):=by
 rw[b3_holds,zq (env':=[.p (zd a),.p (zd b),.p (zd c),.p (zd p),W,.p (.int j),.p (.l [.int (v a),.int (v b),.int (v c)])]) (by
  have h:∀(i:Nat) (q:zh),([.p (zd a),.p (zd b),.p (zd c),.p (zd p),W,.p (.int j),s6]:Ev)[i]?=some (.p (zd q))→f2 zX (zf i) (zf 5) [.p (zd a),.p (zd b),.p (zd c),.p (zd p),W,.p (.int j),s6]=.ok (.p (.int (v q))):=fun i q hi=>by
   have e:zf i [.p (zd a),.p (zd b),.p (zd c),.p (zd p),W,.p (.int j),s6]=.ok (.p (zd q)):=by rw[zf,hi]
   rw[f2,e];exact hv q
  rw[zS,xk,zw,h 0 a rfl,zk,zw,h 1 b rfl,zk,zw,h 2 c rfl]
  rfl)]
 have h3:f2 zX (zf 3) (zf 5) [.p (zd a),.p (zd b),.p (zd c),.p (zd p),W,.p (.int j),.p (.l [.int (v a),.int (v b),.int (v c)])]=.ok (.p (.int (v p))):=hv p;rw[i2_holds,wc,TY (a:=decide (v p<tL (v a) (v b) (v c))) (b:=decide (tM (v a) (v b) (v c)<v p)) (by rw[z0,f2,h3];rfl) (by rw[z0,f2,h3];rfl),zk]
 split <;> rfl
theorem holds_is {a b c p:zh}(ab:near a b)(bc:near b c)(ca:near c a)(ap:near a p)(bp:near b p)(cp:near c p) :
 n_holds [zd a,zd b,zd c,zd p]=.ok (.p (.bl (xq a b c p))):=by
 have w1:=jI ab ap;have w2:=jI bc bp;have w3:=jI ca cp;unfold xq;generalize zT a b p=x at *;generalize zT b c p=y at *;generalize zT c a p=z at *;unfold n_holds;show((f_holds [.p (zd a),.p (zd b),.p (zd c),.p (zd p),.un,.un,.un]).bind _)=_;unfold f_holds;rw[zq (env':=[.p (zd a),.p (zd b),.p (zd c),.p (zd p),.p (.l [.int x,.int y,.int z]),.un,.un]) (by simp[w1,w2,w3])];have e1:rf (z0 (f2 mn (fB Yq (zi (zf 4) (zz))) (fC (.int 0)))) (z0 (f2 bV (fB Yr (zi (zf 4) (zz))) (fC (.int 0)))) [.p (zd a),.p (zd b),.p (zd c),.p (zd p),.p (.l [.int x,.int y,.int z]),.un,.un]=.ok (decide (tL x y z<0)&&decide (0<tM x y z)):=V9 rfl rfl;by_cases q:tL x y z<0∧0<tM x y z
 ·rw[saf q];rw[sal q.1,sal q.2]at e1;rw[wX (v:=.p (.bl false)) (by rw[i1_holds,wc,e1];rfl)];rfl
 ·rw[sah q]
  have e2:(decide (tL x y z<0)&&decide (0<tM x y z))=false:=by
   rw[←Bool.decide_and];exact saw q
  rw[e2]at e1;rw[zq (env':=[.p (zd a),.p (zd b),.p (zd c),.p (zd p),.p (.l [.int x,.int y,.int z]),.un,.un]) (by rw[i1_holds,wc,e1];rfl)];have hr:qp (zi (fC (.int 2)) (zz)) [.p (zd a),.p (zd b),.p (zd c),.p (zd p),.p (.l [.int x,.int y,.int z]),.un,.un]=.ok [.int 0,.int 1]:=Z0 (n:=2) rfl (by lia);have hg:gN 5 (.int 0) [.p (zd a),.p (zd b),.p (zd c),.p (zd p),.p (.l [.int x,.int y,.int z]),.un,.un]=.ok [.p (zd a),.p (zd b),.p (zd c),.p (zd p),.p (.l [.int x,.int y,.int z]),.p (.int 0),.un]:=rfl;have b0:=holds_body (a:=a) (b:=b) (c:=c) (p:=p) (j:=0) (v:=fun q=>q.1) (fun q=>rfl) (.p (.l [.int x,.int y,.int z])) .un;by_cases q1:p.1<tL a.1 b.1 c.1∨tM a.1 b.1 c.1<p.1
  ·rw[saf q1];rw[saf (by rw[←Bool.decide_or];exact sal q1)]at b0
   rw[wX (v:=.p (.bl false)) (by
    rw[vq,hr,zk,wu,hg,zk,b0]
    rfl)]
   rfl
  ·rw[sah q1];rw[sah (by rw[←Bool.decide_or];exact fun k=>q1 (scj k))]at b0;have b1:=holds_body (a:=a) (b:=b) (c:=c) (p:=p) (j:=1) (v:=fun q=>q.2) (fun q=>rfl) (.p (.l [.int x,.int y,.int z])) (.p (.l [.int a.1,.int b.1,.int c.1]))
   have fd:vq (qp (zi (fC (.int 2)) (zz))) (gN 5) b3_holds [.p (zd a),.p (zd b),.p (zd c),.p (zd p),.p (.l [.int x,.int y,.int z]),.un,.un]=(b3_holds [.p (zd a),.p (zd b),.p (zd c),.p (zd p),.p (.l [.int x,.int y,.int z]),.p (.int 1),.p (.l [.int a.1,.int b.1,.int c.1])]).bind fun r=>match r with
    | .next e=>wu (gN 5) b3_holds [] e
    | .ret v=>.ok (.ret v):=by
    rw[vq,hr,zk,wu,hg,zk,b0];rfl
   by_cases q2:tL a.2 b.2 c.2≤p.2∧p.2≤tM a.2 b.2 c.2
   ·rw[sal q2.1,sal q2.2];rw[sah (by rw[saw (by lia),saw (by lia)];exact sax)]at b1;rw[b1]at fd;rw[zq fd];rfl
   ·have e3:(decide (tL a.2 b.2 c.2≤p.2)&&decide (p.2≤tM a.2 b.2 c.2))=false:=by
     rw[←Bool.decide_and];exact saw q2
    rw[e3];rw[saf (by rw[←Bool.decide_or];exact sal (by lia))]at b1;rw[b1]at fd;rw[wX fd];rfl
@[reducible] noncomputable def pe:FT :=
 oC (zx n_holds (zi (zf 0) (zi (zf 1) (zi (zf 2) (zi (zf 3) (zz))))))
@[reducible] noncomputable def kL:FE :=
 zf 3
noncomputable def jU:FS :=
 yu (f2 mq (xA [0,1,2] 1 (xS (zf 3)) (gN 3) (pe) (kL)) (xk (yd)))
noncomputable def qI:List D→Out Val:=zP 4 jU
theorem Xl:∀ds v,ds.length=4→qI ds=.ok v→zP 4 jU ds=.ok v:=fun _ _ _ h=>h
theorem Ti {a b c:zh}{ps:List zh}(hl:ps.length≤1000)(ab:near a b)(bc:near b c)(ca:near c a)(hp:∀p∈ps,near a p∧near b p∧near c p) :
 qI [zd a,zd b,zd c,.l (ps.map zd)]=.ok (.p (.bl (decide ((ps.filter fun p=>xq a b c p)=[])))):=by
 have hc:xH (gN 3) pe (zf 3) (ps.map zd) [.p (zd a),.p (zd b),.p (zd c),.un]=.ok ((ps.filter fun p=>xq a b c p).map zd):=by
  rw[vo (fun env=>∃s,env=[.p (zd a),.p (zd b),.p (zd c),s]) zd (fun p=>if xq a b c p=true then some (zd p)else none) ps _ ⟨_,rfl⟩ (fun p env hm ⟨s,he⟩=>by
   subst he;obtain⟨h1,h2,h3⟩:=hp p hm;have hw:=holds_is ab bc ca h1 h2 h3;refine⟨[.p (zd a),.p (zd b),.p (zd c),.p (zd p)],rfl,⟨_,rfl⟩,?_⟩
   cases q:xq a b c p with
   |true=>rw[q]at hw;exact .inr ⟨zd p,.p (zd p),by simp,by simp[hw],rfl,rfl⟩
   |false=>rw[q]at hw;exact .inl ⟨by simp,by simp[hw]⟩)]
  rw[uM (fun p:zh=>xq a b c p) zd]
 have hl':ps.length≤100000:=by lia
 have hcomp:xA [0,1,2] 1 (xS (zf 3)) (gN 3) (pe) (kL) [.p (zd a),.p (zd b),.p (zd c),.p (.l (ps.map zd))]=.ok (.fresh ((ps.filter fun p=>xq a b c p).map zd)):=by
  have hi:xS (zf 3) [.p (zd a),.p (zd b),.p (zd c),.p (.l (ps.map zd))]=.ok (ps.map zd):=rfl;simp only[xA,hi,zk,sae,hl',if_true];show((xH (gN 3) pe (zf 3) (ps.map zd) [.p (zd a),.p (zd b),.p (zd c),.un]).bind _)=_;rw[hc];rfl
 generalize(ps.filter fun p=>xq a b c p)=qs at *
 have hq:oF (.l (qs.map zd)) (.l [])=decide (qs=[]):=by
  rw[eS];exact n4 zd pM qs []
 have hsh:wI 4 (.l (qs.map zd))=true:=by
  simp only[wI,List.all_map,sbL];intro p _;exact sH 2 p
 unfold qI;show((jU [.p (zd a),.p (zd b),.p (zd c),.p (.l (ps.map zd))]).bind _)=_;unfold jU
 have hR:f2 mq (xA [0,1,2] 1 (xS (zf 3)) (gN 3) (pe) (kL)) (xk (yd)) [.p (zd a),.p (zd b),.p (zd c),.p (.l (ps.map zd))]=.ok (.p (.bl (decide (qs=[])))):=by
  show((xA [0,1,2] 1 (xS (zf 3)) (gN 3) (pe) (kL) [.p (zd a),.p (zd b),.p (zd c),.p (.l (ps.map zd))]).bind _)=_;rw[hcomp,zk];show mq (.l (qs.map zd)) (.l [])=_;simp only[mq,hsh,Bool.true_or,if_true,hq]
 simp only[yu,hR,zk]
@[reducible] noncomputable def rP:FS :=
 wc (XI (z0 (f2 mq (zf 4) (fC (.int 0)))) (z0 (f2 mq (f2 yB (zf 4) (fC (.int 1))) (fB uk (zi (zf 0) (zz))))))
 (yu (zf 0))
 (wo)
@[reducible] noncomputable def oz:FS :=
 wc (oC (zx qI (zi (f2 zX (zf 0) (f2 xR (zf 4) (fC (.int 1)))) (zi (f2 zX (zf 0) (zf 4)) (zi (f2 zX (zf 0) (f2 yB (zf 4) (fC (.int 1)))) (zi (zf 1) (zz)))))))
 (yu (f2 yB (iA (zf 0) (gO) (kK (zf 4))) (iA (zf 0) (kK (f2 yB (zf 4) (fC (.int 1)))) (gO))))
 (wo)
@[reducible] noncomputable def u9:FS :=
 wc (z0 (f2 mq (f2 yA (zf 2) (fC (.int 2))) (fC (.int 0))))
 (zJ (rP)
 (zJ (oz)
 (yu (zf 0))))
 (wo)
@[reducible] noncomputable def rN:FS :=
 wc (rf (z0 (f2 mn (f2 yB (zf 4) (fC (.int 1))) (fB uk (zi (zf 0) (zz))))) (oC (zx qI (zi (f2 zX (zf 0) (zf 4)) (zi (f2 zX (zf 5) (fC (.int 0))) (zi (f2 zX (zf 0) (f2 yB (zf 4) (fC (.int 1)))) (zi (zf 1) (zz))))))))
 (yu (f2 yB (f2 yB (iA (zf 0) (gO) (kK (f2 yB (zf 4) (fC (.int 1))))) (zf 5)) (iA (zf 0) (kK (f2 yB (zf 4) (fC (.int 1)))) (gO))))
 (wo)
noncomputable def uT:FS :=
 zJ (zS 4 true (f2 yA (f2 x6 (zf 2) (fC (.int 2))) (fB uk (zi (zf 0) (zz)))))
 (zJ (u9)
 (zJ (zS 5 true (zx tW (zi (xk (zw (wB (zw (f2 xR (f2 vC (fC (.int 2)) (f2 yA (f2 x6 (zf 2) (fC (.int 64))) (fC (.int 6)))) (fC (.int 1))) (zw (f2 xR (f2 yA (f2 x6 (zf 2) (fC (.int 512))) (fC (.int 9))) (fC (.int 1))) (yd)))) (yd))) (zi (zf 3) (zz)))))
 (zJ (rN)
 (yu (zf 0)))))
noncomputable def uS:List D→Out Val:=zP 6 uT
theorem ee:∀ds v,ds.length=4→uS ds=.ok v→zP 6 uT ds=.ok v:=fun _ _ _ h=>h
@[reducible] noncomputable def aU:FS :=
 wc (XI (z0 (f2 lW (f2 zX (zf 1) (fC (.int 0))) (f2 zX (zf 2) (fC (.int 0))))) (z0 (f2 lW (f2 zX (zf 1) (f1 xj (fC (.int 1)))) (f2 zX (zf 2) (f1 xj (fC (.int 1)))))))
 (fun _=>.bad)
 (wo)
noncomputable def s_:FS :=
 zJ (zS 3 true (zx yf (zi (zx xP (zi (zf 0) (zi (zf 1) (zz)))) (zz))))
 (zJ (zS 4 true (zx yf (zi (zx xP (zi (zf 0) (zi (zf 2) (zz)))) (zz))))
 (zJ (aU)
 (yu (f2 mq (zf 3) (zf 4)))))
noncomputable def vM:List D→Out Val:=zP 5 s_
theorem f_:∀ds v,ds.length=3→vM ds=.ok v→zP 5 s_ ds=.ok v:=fun _ _ _ h=>h
theorem nu {ps:List zh}(hf:ps.length<18):∀qs:List (zh×zh),(qs.flatMap (x3 (zo ps))).length≤17*qs.length
 |[]=>by simp
 | q::qs=>by
   have ih:=nu hf qs;have hB:=pP ps
   have hrl:(x3 (zo ps) q).length≤17:=by
    have:=qQ (zo ps) q.1 q.2;unfold x3;rw[sae];lia
   rw[List.flatMap_cons,saN,List.length_cons];lia
theorem fN {ps:List zh}(qs:List (zh×zh)):∀g∈qs.flatMap (x3 (zo ps)),uV g:=by
 intro g hg;obtain⟨q,_,hg⟩:=scP.mp hg;obtain⟨l,_,rfl⟩:=saz.mp hg;unfold uV yz;split
 ·exact .inl rfl
 ·exact .inr rfl
theorem V_ {ps one other:List zh}(R1:RopeOk ps one)(R2:RopeOk ps other)(hh:z8 one=z8 other)(hl:ya one=ya other) :
 vM [.l (ps.map zd),.l (one.map zd),.l (other.map zd)]=.ok (.p (.bl (decide (zN ((zE one).flatMap (x3 (zo ps)))=zN ((zE other).flatMap (x3 (zo ps))))))):=by
 have r1:=mG R1;have r2:=mG R2;have l1:=nu R1.few (zE one);have l2:=nu R1.few (zE other);have m1:(zE one).length≤100:=by have:=R1.many;unfold zE;simp;lia
 have m2:(zE other).length≤100:=by have:=R2.many;unfold zE;simp;lia
 generalize(zE one).flatMap (x3 (zo ps))=g1 at *;generalize(zE other).flatMap (x3 (zo ps))=g2 at *
 have s1:yf [.l (g1.map zm)]=.ok (.fresh ((zN g1).map zm)):=by
  simp only[yf,t_];rw[saf (by lia)]
 have s2:yf [.l (g2.map zm)]=.ok (.fresh ((zN g2).map zm)):=by
  simp only[yf,t_];rw[saf (by lia)]
 have n1:one≠[]:=fun z=>by have:=R1.two;rw[z]at this;simp at this
 have n2:other≠[]:=fun z=>by have:=R2.two;rw[z]at this;simp at this
 unfold vM;show((s_ [.p (.l (ps.map zd)),.p (.l (one.map zd)),.p (.l (other.map zd)),.un,.un]).bind _)=_;unfold s_;rw[zq (env':=[.p (.l (ps.map zd)),.p (.l (one.map zd)),.p (.l (other.map zd)),.p (.l ((zN g1).map zm)),.un]) (by simp[r1,s1])];rw[zq (env':=[.p (.l (ps.map zd)),.p (.l (one.map zd)),.p (.l (other.map zd)),.p (.l ((zN g1).map zm)),.p (.l ((zN g2).map zm))]) (by simp[r2,s2])]
 rw[zq (env':=[.p (.l (ps.map zd)),.p (.l (one.map zd)),.p (.l (other.map zd)),.p (.l ((zN g1).map zm)),.p (.l ((zN g2).map zm))]) (by
  simp[qV n1,qV n2,kP n1,kP n2,hh,hl,sH,pM])]
 have hs:=ah 2 (zN g1);have he:oF (.l ((zN g1).map zm)) (.l ((zN g2).map zm))=decide (zN g1=zN g2):=by rw[eS,n4 zm Tn]
 simp only[yu,f2,zf,List.getElem?_cons_zero,List.getElem?_cons_succ,zk,Val.d,mq,hs,Bool.true_or,if_true,he]
noncomputable def nY:FS :=
 yu (f1 Yp (zf 0))
noncomputable def sR:List D→Out Val:=zP 1 nY
theorem cG:∀ds v,ds.length=1→sR ds=.ok v→zP 1 nY ds=.ok v:=fun _ _ _ h=>h
theorem TH (rope:List zh):sR [.l (rope.map zd)]=.ok (.fresh (rope.reverse.map zd)):=by
 unfold sR;simp[nY]
@[reducible] noncomputable def cT:FS :=
 wc (z0 (f2 lW (f2 zX (zf 0) (f1 xj (fC (.int 1)))) (f2 zX (zf 1) (fC (.int 0)))))
 (fun _=>.bad)
 (wo)
noncomputable def tm:FS :=
 zJ (cT)
 (yu (f2 yB (zf 0) (iA (zf 1) (kK (fC (.int 1))) (gO))))
noncomputable def wt:List D→Out Val:=zP 2 tm
theorem iH:∀ds v,ds.length=2→wt ds=.ok v→zP 2 tm ds=.ok v:=fun _ _ _ h=>h
theorem Xv {one other:List zh}(h1:one≠[])(h2:other≠[])(he:ya one=z8 other)(hl:one.length+other.length≤1000) :
 wt [.l (one.map zd),.l (other.map zd)]=.ok (.fresh ((one++other.tail).map zd)):=by
 have hA:=qV h2;have hZ:=kP h1;unfold wt;show((tm [.p (.l (one.map zd)),.p (.l (other.map zd))]).bind _)=_;unfold tm;rw[zq (env':=[.p (.l (one.map zd)),.p (.l (other.map zd))]) (by simp[hA,hZ,he,sH,pM])]
 have hs:iA (zf 1) (kK (fC (.int 1))) (gO) [.p (.l (one.map zd)),.p (.l (other.map zd))]=.ok (.fresh ((other.tail).map zd)):=by
  rw[←bO];rfl
 simp only[yu,f2,zf,List.getElem?_cons_zero,List.getElem?_cons_succ,hs,zk,Val.d,yB];rw[saf (by simp;lia)];simp
@[reducible] noncomputable def VB:FS :=
 wc (XI (bf (oC (zx vM (zi (zf 4) (zi (zf 3) (zi (zf 6) (zz))))))) (z0 (f2 lW (zx xf (zi (zf 4) (zi (zf 6) (zz)))) (zf 5))))
 (yu (fC (.bl false)))
 (wo)
@[reducible] noncomputable def Zs:FS :=
 zJ (zS 6 true (zx uS (zi (zf 6) (zi (zf 4) (zi (zx yV (zi (zf 0) (zi (f2 yB (fC (.int 200)) (zf 7)) (zz)))) (zi (zf 1) (zz)))))))
 (VB)
@[reducible] noncomputable def VA:FS :=
 wc (z0 (f2 lW (zx xf (zi (zf 4) (zi (zf 8) (zz)))) (f1 Yp (zf 5))))
 (yu (fC (.bl false)))
 (wo)
noncomputable def jT:FS :=
 zJ (zS 1 true (zx pD (zi (zf 0) (zz))))
 (zJ (zS 2 true (zx mS (zi (zf 0) (zz))))
 (zJ (zS 3 true (zx tW (zi (zx qH (zi (zf 0) (zi (fC (.int 23)) (zi (fB cY (zi (fC (.int 2)) (zi (fB p7 (zi (fC (.int 12)) (zi (fB uk (zi (zf 0) (zz))) (zz)))) (zz)))) (zi (zf 2) (zz)))))) (zi (zf 1) (zz)))))
 (zJ (zS 4 true (zx tW (zi (zf 2) (zi (zf 1) (zz)))))
 (zJ (zS 5 true (zx xf (zi (zf 4) (zi (zf 3) (zz)))))
 (zJ (zS 6 true (fB VG (zi (zf 3) (zz))))
 (zJ (vq (qp (zi (fB p7 (zi (fB uk (zi (zf 0) (zz))) (zi (fC (.int 12)) (zz)))) (zz))) (gN 7)
 (Zs))
 (zJ (zS 8 true (zx sR (zi (zf 3) (zz))))
 (zJ (VA)
 (yu (f2 mq (zx xf (zi (zf 4) (zi (zx wt (zi (zf 3) (zi (zf 8) (zz)))) (zz)))) (xk (zw (f2 zX (zf 3) (fC (.int 0))) (zw (f2 zX (zf 3) (fC (.int 0))) (yd))))))))))))))
theorem au (ns:List Int){ps:List zh}(hl:ps.length≤100000):tW [.l (ps.map zd),yp (zL ns)]=.ok (.fresh ((ps.map (yo (zL ns))).map zd)):=by
 obtain⟨a1,a2,a3,a4,a5,a6,_,_,_,_⟩:=aZ ns;exact UI hl a1 a2 a3 a4 a5 a6
theorem UQ (ns:List Int):(yi ns).length≤12:=(jA ns 0 0).few
theorem bt (ps:List zh):oF (.l (ps.map zd)) (.l (ps.map zd))=true:=by rw[eS,n4 zd pM,sal rfl]
theorem jc (n:Nat)(ps:List zh):wI (n+2) (.l (ps.map zd))=true:=by
 simp only[wI,List.all_map,sbL];intro p _;exact sH n p
theorem XH {l:List zh}(f:zh→zh)(h:l≠[]):z8 (l.map f)=f (z8 l):=by
 cases l with
 |nil=>exact absurd rfl h
 |cons c r=>rfl
theorem m7 {l:List zh}(h:l≠[]):z8 l∈l:=by
 cases l with
 |nil=>exact absurd rfl h
 |cons c r=>exact saB
theorem TX {ps r0 mid:List zh}(D1:Drawn ps r0)(hne:r0≠[])(mo:∀c∈mid,oj c)(hf:Xx ps ([z8 r0]++mid++[ya r0])=false):Drawn ps ([z8 r0]++mid++[ya r0]) where
 few:=D1.few
 nodup:=D1.nodup
 even:=D1.even
 odd:=by
  intro c hc;simp only[san,sag]at hc
  rcases hc with(rfl|hc)|rfl
  ·exact D1.odd _ (m7 hne)
  ·exact mo c hc
  ·exact D1.odd _ (mY hne)
 free:=by
  intro q hq;unfold Xx at hf;rw[scB]at hf;simpa using hf q hq
theorem i7 (g:Ga):yn [] g=[g]:=rfl
theorem wj (l:List Ga)(t g:Ga):yn (l++[t]) g=if gf t g=true then l else l++[t]++[g]:=by
 unfold yn;rw[sbP];simp only[List.dropLast_concat]
noncomputable def Rd (l:List Ga):Prop:=∀a g h b,l=a++g::h::b→gf g h=false
theorem Rd.pre {l m:List Ga}(h:Rd (l++m)):Rd l:=fun a g k b e=>h a g k (b++m) (by rw[e];simp)
theorem wk {α:Type}(l:List α):l=[]∨∃m t,l=m++[t]:=by
 rcases List.eq_nil_or_concat l with h|⟨m,t,h⟩
 ·exact .inl h
 ·exact .inr ⟨m,t,by simpa using h⟩
theorem Rd.snoc {l:List Ga}{t g:Ga}(h:Rd (l++[t]))(ho:gf t g=false):Rd (l++[t]++[g]):=by
 intro a x y b e
 rcases wk b with rfl|⟨b',z,rfl⟩
 ·have e2:l++[t]++[g]=(a++[x])++[y]:=by rw[e];simp
  obtain⟨e3,e4⟩:=List.append_inj' e2 rfl;obtain⟨_,e5⟩:=List.append_inj' e3 rfl;cases e4;cases e5;exact ho
 ·have e2:l++[t]++[g]=(a++x::y::b')++[z]:=by rw[e];simp
  obtain⟨e3,_⟩:=List.append_inj' e2 rfl;exact h a x y b' e3
theorem ar:Rd []:=fun a g h b e=>by simp at e
theorem Su (g:Ga):Rd [g]:=fun a x y b e=>by
 have:=congrArg List.length e;simp at this;lia
theorem Z2 {s:List Ga}(h:Rd s)(g:Ga):Rd (yn s g):=by
 rcases wk s with rfl|⟨m,t,rfl⟩
 ·exact Su g
 ·rw[wj];split
  ·exact h.pre
  ·rename_i ho;exact h.snoc (by simpa using ho)
theorem nB:∀(gs s:List Ga),Rd s→Rd (gs.foldl yn s)
 |[],s,h=>h
 |g::gs,s,h=>nB gs _ (Z2 h g)
theorem nA (gs:List Ga):Rd (zN gs):=nB gs [] ar
theorem Yt:∀(gs s:List Ga),Rd (s++gs)→gs.foldl yn s=s++gs
 |[],s,_=>by simp
 | g::gs,s,h=>by
   rw[List.foldl_cons]
   have e:yn s g=s++[g]:=by
    rcases wk s with rfl|⟨m,t,rfl⟩
    ·rfl
    ·rw[wj,sah];have:=h m t g gs (by simp);rw[this];exact sax
   rw[e,Yt gs (s++[g]) (by simpa using h)];simp
theorem Wx {gs:List Ga}(h:Rd gs):zN gs=gs:=by
 have:=Yt gs [] (by simpa using h);simpa[zN]using this
theorem kT {s:List Ga}{g:Ga}(hs:∀t∈s,uV t)(hg:uV g):∀t∈yn s g,uV t:=by
 intro t ht
 rcases wk s with rfl|⟨m,u,rfl⟩
 ·rw[i7,sag]at ht;rw[ht];exact hg
 ·rw[wj]at ht;split at ht
  ·exact hs t (sce _ ht)
  ·rcases san.mp ht with h|h
   ·exact hs t h
   ·rw[sag]at h;rw[h];exact hg
theorem oW:∀(gs s:List Ga),(∀t∈s,uV t)→(∀t∈gs,uV t)→∀t∈gs.foldl yn s,uV t
 |[],s,h,_=>h
 |g::gs,s,h,h'=>oW gs _ (kT h (h' g (by simp))) fun t ht=>h' t (by simp[ht])
theorem pd {gs:List Ga}(h:∀t∈gs,uV t):∀t∈zN gs,uV t:=oW gs [] (by simp) h
theorem nJ (g h:Ga):gf g h=true↔(g.x=h.x∧g.lo=h.lo∧g.hi=h.hi)∧g.w≠h.w:=by simp[gf]
theorem SQ {t g h:Ga}(ht:uV t)(hg:uV g)(hh:uV h)(h1:gf t g=true)(h2:gf g h=true):t=h:=by
 rw[nJ]at h1 h2;obtain⟨a1,a2,a3,a4⟩:=t;obtain⟨b1,b2,b3,b4⟩:=g;obtain⟨c1,c2,c3,c4⟩:=h;obtain⟨⟨p1,p2,p3⟩,p4⟩:=h1;obtain⟨⟨q1,q2,q3⟩,q4⟩:=h2;simp only[uV]at *;have:a4=c4:=by lia
 simp_all
theorem i6 {s:List Ga}{g h:Ga}(hs:Rd s)(hw:∀t∈s,uV t)(hg:uV g)(hh:uV h)(ho:gf g h=true):yn (yn s g) h=s:=by
 rcases wk s with rfl|⟨m,t,rfl⟩
 ·rw[i7]
  show yn ([]++[g]) h=[]
  rw[wj,saf ho]
 ·rw[wj];split
  ·rename_i h1;have e:=SQ (hw t (by simp)) hg hh h1 ho;subst e
   rcases wk m with rfl|⟨k,u,rfl⟩
   ·rfl
   ·rw[wj,sah];have:=hs k u t [] (by simp);rw[this];exact sax
  ·rw[wj,saf ho]
theorem hJ (a b:List Ga):zN (a++b)=b.foldl yn (zN a):=by
 unfold zN;rw[saR]
theorem ag (gs:List Ga):(zN gs).length≤gs.length:=by
 have:∀(gs s:List Ga),(gs.foldl yn s).length≤s.length+gs.length:=by
  intro gs
  induction gs with
  |nil=>intro s;simp
  | cons g gs ih=>
    intro s;rw[List.foldl_cons];have:=ih (yn s g);have:=i8 s g;simp;lia
 simpa[zN]using this gs []
noncomputable def pX (g:Ga):Ga:=⟨g.x,g.lo,g.hi,-g.w⟩
noncomputable def xE (gs:List Ga):List Ga:=(gs.map pX).reverse
theorem XG (g:Ga):pX (pX g)=g:=by
 obtain⟨a,b,c,d⟩:=g
 show(⟨a,b,c,- -d⟩:Ga)=⟨a,b,c,d⟩
 congr 1;lia
theorem W3 {g:Ga}(h:uV g):gf g (pX g)=true:=by
 rw[nJ];refine⟨⟨rfl,rfl,rfl⟩,?_⟩;unfold uV at h;show g.w ≠ -g.w;lia
theorem dP {g:Ga}(h:uV g):uV (pX g):=by
 unfold uV at h ⊢;show -g.w=1 ∨ -g.w = -1;lia
theorem qL (a b:List Ga):xE (a++b)=xE b++xE a:=by simp[xE]
theorem sV (gs:List Ga):xE (xE gs)=gs:=by
 unfold xE;rw[sct,sbO,sbp];have:pX ∘ pX=id:=by funext g;exact XG g
 rw[this,List.map_id]
theorem oV {gs:List Ga}(h:∀g∈gs,uV g):∀g∈xE gs,uV g:=by
 intro g hg;obtain⟨k,hk,rfl⟩:=saz.mp (sbr.mp hg);exact dP (h k hk)
theorem sh:∀(gs s:List Ga),Rd s→(∀t∈s,uV t)→(∀t∈gs,uV t)→(xE gs).foldl yn (gs.foldl yn s)=s
 |[],s,_,_,_=>rfl
 | g::gs,s,hr,hs,hg=>by
   have hg1:=hg g (by simp);have ih:=sh gs (yn s g) (Z2 hr g) (kT hs hg1) fun t ht=>hg t (by simp[ht]);have e:xE (g::gs)=xE gs++[pX g]:=by simp[xE]
   rw[e,saR];show yn ((xE gs).foldl yn (gs.foldl yn (yn s g))) (pX g)=s;rw[ih];exact i6 hr hs hg1 (dP hg1) (W3 hg1)
theorem cU {a b:List Ga}(ha:∀t∈a,uV t)(hb:∀t∈b,uV t):zN (a++xE b)=[]↔zN a=zN b:=by
 rw[hJ];constructor
 ·intro h;have:=sh (xE b) (zN a) (nA a) (pd ha) (oV hb);rw[sV,h]at this;exact this.symm
 ·intro h;rw[h];exact sh b [] ar (by simp) hb
theorem sG (a b p:zh):zT b a p = -zT a b p:=by
 unfold zT
 obtain⟨A,hA⟩:∃A,A=b.1 - a.1:=⟨_,rfl⟩
 obtain⟨C,hC⟩:∃C,C=b.2 - a.2:=⟨_,rfl⟩
 obtain⟨u,hu⟩:∃u,u=p.1 - a.1:=⟨_,rfl⟩
 obtain⟨v,hv⟩:∃v,v=p.2 - a.2:=⟨_,rfl⟩
 have e1:a.1 - b.1 = -A:=by lia
 have e2:a.2 - b.2 = -C:=by lia
 have e3:p.1 - b.1=u - A:=by lia
 have e4:p.2 - b.2=v - C:=by lia
 rw[e1,e2,e3,e4,←hA,←hC,←hu,←hv,scR,scR,sbW,sbW,scC C A];lia
theorem mD {a b:zh}(h:a.1≠b.1)(p:zh):zI b a p=zI a b p:=by
 unfold zI;rw[sG];by_cases h1:a.1<b.1
 ·rw[sah (by lia),saf (by lia)];lia
 ·rw[saf (by lia),sah (by lia)]
theorem Zq {a b:zh}{x:Int}(h:yc a b x=true):a.1≠b.1:=by
 unfold yc at h;simp only[sbI,saS,sap]at h;lia
theorem rT (B:List yG)(a b:zh):zO B b a=(zO B a b).reverse:=by
 unfold zO;by_cases h1:a.1<b.1
 ·rw[sah (by lia),saf h1,scm]
 ·rw[sah h1];by_cases h2:b.1<a.1
  ·rw[saf h2,scm,sbO]
  ·rw[sah h2,scm,scm,sbO]
   have:∀(x y:Int),x=y→(B.filter fun l=>decide (x<l.1)&&decide (l.1<y))=[]:=by
    intro x y e;rw[sbn];intro l _;simp;lia
   rw[this _ _ (by lia),this _ _ (by lia)];rfl
theorem pI {a b:zh}{l:yG}(h:yc a b l.1=true):yz b a l=pX (yz a b l):=by
 have hne:=Zq h;unfold yz pX;simp only[mD hne];congr 1;unfold yc at h;simp only[sbI,saS,sap]at h;by_cases h1:a.1<l.1
 ·rw[saf h1,sah (by lia)]
 ·rw[sah h1,saf (by lia)];rfl
theorem nv (B:List yG)(a b:zh):x3 B (b,a)=xE (x3 B (a,b)):=by
 unfold x3 xE;simp only;rw[rT,sct,sbp];congr 1;apply saP;intro l hl;exact pI (xM hl).2
theorem fA (B:List yG)(a b:zh):yH B b a=yH B a b:=by
 unfold yH;rw[rT,List.any_reverse];rw[sbV,sbe,sbe]
 have key:∀l∈zO B a b,(l.2.any fun y=>decide (zI b a (l.1,y)=0))=l.2.any fun y=>decide (zI a b (l.1,y)=0):=by
  intro l hl;have:=Zq (xM hl).2;simp only[mD this]
 constructor
 ·rintro⟨l,hl,h⟩;exact⟨l,hl,by rw[←key l hl];exact h⟩
 ·rintro⟨l,hl,h⟩;exact⟨l,hl,by rw[key l hl];exact h⟩
theorem qJ {l:List zh}(h:l≠[]):ya l.reverse=z8 l:=by
 unfold ya z8;rw[sam,List.getLast?_reverse]
 cases l with
 |nil=>exact absurd rfl h
 |cons c r=>rfl
theorem pJ {l:List zh}(h:l≠[]):z8 l.reverse=ya l:=by
 have:=qJ (l:=l.reverse) (by simpa using h);rw[sbO]at this;exact this.symm
noncomputable abbrev yg (B:List yG)(l:List zh):List Ga:=(zE l).flatMap (x3 B)
theorem jo (B:List yG):∀l:List zh,yg B l.reverse=xE (yg B l)
 |[]=>rfl
 |[c]=>rfl
 | c::d::r=>by
   have ih:=jo B (d::r);have hne:(d::r).reverse≠[]:=by simp
   have e1:zE (c::d::r).reverse=zE (d::r).reverse++[(d,c)]:=by
    rw[saO,t7 _ _ hne,qJ (by simp)];rfl
   have e2:zE (c::d::r)=(c,d)::zE (d::r):=rfl;unfold yg at ih ⊢;rw[e1,e2,List.flatMap_append,ih];simp only[List.flatMap_cons,List.flatMap_nil,sbq,qL];rw[nv B c d]
theorem j4:∀(l:List zh) (q:zh×zh),q∈zE l.reverse→(q.2,q.1)∈zE l
 |[],q,h=>by cases h
 |[c],q,h=>by simp[zE]at h
 | c::d::r,q,h=>by
   have hne:(d::r).reverse≠[]:=by simp
   rw[saO,t7 _ _ hne,qJ (by simp)]at h;have e2:zE (c::d::r)=(c,d)::zE (d::r):=rfl;rw[e2]
   rcases san.mp h with h|h
   ·exact sao _ (j4 (d::r) q h)
   ·rw[sag]at h;subst h;exact saB
theorem t8:∀(one other:List zh),one≠[]→other≠[]→ya one=z8 other→zE (one++other.tail)=zE one++zE other
 |[],_,h,_,_=>absurd rfl h
 | [a],other,_,h,e=>by
   cases other with
   |nil=>exact absurd rfl h
   | cons c r=>
     have:a=c:=e;subst this;rfl
 | a::b::t,other,_,h,e=>by
   have ih:=t8 (b::t) other (by simp) h (by
    rw[←e];unfold ya
    simp)
   have e1:zE (a::b::t++other.tail)=(a,b)::zE (b::t++other.tail):=rfl;have e2:zE (a::b::t)=(a,b)::zE (b::t):=rfl;rw[e1,e2,ih,List.cons_append]
theorem Y9 (B:List yG){one other:List zh}(h1:one≠[])(h2:other≠[])(e:ya one=z8 other):yg B (one++other.tail)=yg B one++yg B other:=by
 unfold yg;rw[t8 one other h1 h2 e,List.flatMap_append]
noncomputable def Gd (ps:List zh)(q:zh×zh):Prop:=near q.1 q.2∧yH (zo ps) q.1 q.2=false
noncomputable def Rp (ps l:List zh):Prop:=(∀c∈l,c.1∉(zo ps).map (·.1))∧∀q∈zE l,Gd ps q
theorem Th {ps:List zh}{q:zh×zh}(h:Gd ps q):Gd ps (q.2,q.1):=by
 obtain⟨h1,h2⟩:=h;refine⟨?_,?_⟩
 ·unfold near at h1 ⊢;simp only;lia
 ·simp only;rw[fA];exact h2
theorem RopeOk.rp {ps l:List zh}(R:RopeOk ps l):Rp ps l:=⟨R.off,fun q hq=>⟨R.near q hq,R.free q hq⟩⟩
theorem Rp.ok {ps l:List zh}(R:Rp ps l)(few:ps.length<18)(nodup:ps.Nodup)(two:2≤l.length)(many:l.length≤100):RopeOk ps l :=
 ⟨few,nodup,two,many,R.1,fun q hq=>(R.2 q hq).1,fun q hq=>(R.2 q hq).2⟩
theorem Rp.rev {ps l:List zh}(R:Rp ps l):Rp ps l.reverse :=
 ⟨fun c hc=>R.1 c (sbr.mp hc),fun q hq=>by
  have:=Th (R.2 _ (j4 l q hq))
  exact this⟩
theorem Rp.join {ps one other:List zh}(R:Rp ps one)(S:Rp ps other)(h1:one≠[])(h2:other≠[])(e:ya one=z8 other):Rp ps (one++other.tail):=by
 refine⟨fun c hc=>?_,fun q hq=>?_⟩
 ·rcases san.mp hc with hc|hc
  ·exact R.1 c hc
  ·exact S.1 c (List.mem_of_mem_tail hc)
 ·rw[t8 one other h1 h2 e]at hq
  rcases san.mp hq with hq|hq
  ·exact R.2 q hq
  ·exact S.2 q hq
theorem mX (l:List zh)(c:zh):ya (l++[c])=c:=by
 unfold ya;rw[sam,sbP];rfl
theorem w6 (a b:Int):a<b∨b≤a:=by lia
theorem md {A B t z:Int}(hA:0<A)(h0:0<t)(h1:t<A)(h:0≤A*z - B*t):0≤z∨B≤z:=by
 rcases w6 z 0 with hz|hz
 ·rcases w6 z B with hB|hB
  ·exfalso
   rcases w6 B 0 with b|b
   ·have e1:A*z≤A*(B - 1):=scf (by lia) (by lia);have e2:0<(-B)*(A - t):=scI (by lia) (by lia);rw[scR,sbW,scC B A]at e2;rw[sbW]at e1;have e3:=scC B t;lia
   ·have e1:A*z<0:=Int.mul_neg_of_pos_of_neg hA hz;have e2:0≤B*t:=sbA b (by lia);lia
  ·exact .inr hB
 ·exact .inl hz
theorem kN {A B t z:Int}(hA:0<A)(h0:0<t)(h1:t<A)(h:A*z - B*t≤0):z≤0∨z≤B:=by
 have:=md (A:=A) (B := -B) (t:=t) (z := -z) hA h0 h1 (by rw[sbX,scR];lia);lia
noncomputable def TM (x y z:Int):Prop:=(0≤x∧0≤y∧0≤z)∨(x≤0∧y≤0∧z≤0)
structure Win (a b c p:zh):Prop where
 hand:TM (zT a b p) (zT b c p) (zT c a p)
 xl:a.1≤p.1∨b.1≤p.1∨c.1≤p.1
 xr:p.1≤a.1∨p.1≤b.1∨p.1≤c.1
 yl:a.2≤p.2∨b.2≤p.2∨c.2≤p.2
 yr:p.2≤a.2∨p.2≤b.2∨p.2≤c.2
theorem kF {p q r:Prop}(h:p∨q∨r):r∨q∨p:=h.elim (fun x=>.inr (.inr x)) fun y=>y.elim (fun x=>.inr (.inl x)) .inl
theorem fV {p q r:Prop}(h:p∨q∨r):q∨r∨p:=h.elim (fun x=>.inr (.inr x)) fun y=>y.elim .inl (fun x=>.inr (.inl x))
theorem TM.neg {x y z:Int}(h:TM x y z):TM (-y) (-x) (-z):=by
 rcases h with⟨h1,h2,h3⟩|⟨h1,h2,h3⟩
 ·exact .inr ⟨Int.neg_nonpos_of_nonneg h2,Int.neg_nonpos_of_nonneg h1,Int.neg_nonpos_of_nonneg h3⟩
 ·exact .inl ⟨Int.neg_nonneg_of_nonpos h2,Int.neg_nonneg_of_nonpos h1,Int.neg_nonneg_of_nonpos h3⟩
theorem TM.rot {x y z:Int}(h:TM x y z):TM y z x:=h.elim (fun⟨h1,h2,h3⟩=>.inl ⟨h2,h3,h1⟩) fun⟨h1,h2,h3⟩=>.inr ⟨h2,h3,h1⟩
theorem Win.swap {a b c p:zh}(h:Win a b c p):Win c b a p:=by
 refine⟨?_,kF h.xl,kF h.xr,kF h.yl,kF h.yr⟩;rw[sG b c,sG a b,sG c a];exact h.hand.neg
theorem Win.rot {a b c p:zh}(h:Win a b c p):Win b c a p:=⟨h.hand.rot,fV h.xl,fV h.xr,fV h.yl,fV h.yr⟩
theorem Ur (a b c p:zh):zT b c p*(p.1 - a.1)=zT a b p*(c.1 - p.1)+zT c a p*(b.1 - p.1):=by
 unfold zT;obtain⟨a1,a2⟩:=a;obtain⟨b1,b2⟩:=b;obtain⟨c1,c2⟩:=c;obtain⟨x,y⟩:=p;simp only
 obtain⟨A1,h1⟩:∃t,t=a1 - x:=⟨_,rfl⟩
 obtain⟨A2,h2⟩:∃t,t=a2 - y:=⟨_,rfl⟩
 obtain⟨B1,h3⟩:∃t,t=b1 - x:=⟨_,rfl⟩
 obtain⟨B2,h4⟩:∃t,t=b2 - y:=⟨_,rfl⟩
 obtain⟨C1,h5⟩:∃t,t=c1 - x:=⟨_,rfl⟩
 obtain⟨C2,h6⟩:∃t,t=c2 - y:=⟨_,rfl⟩
 have e1:c1 - b1=C1 - B1:=by lia
 have e2:y - b2 = -B2:=by lia
 have e3:c2 - b2=C2 - B2:=by lia
 have e4:x - b1 = -B1:=by lia
 have e5:x - a1 = -A1:=by lia
 have e6:b1 - a1=B1 - A1:=by lia
 have e7:y - a2 = -A2:=by lia
 have e8:b2 - a2=B2 - A2:=by lia
 have e9:a1 - c1=A1 - C1:=by lia
 have e10:y - c2 = -C2:=by lia
 have e11:a2 - c2=A2 - C2:=by lia
 have e12:x - c1 = -C1:=by lia
 rw[e1,e2,e3,e4,e5,e6,e7,e8,e9,e10,e11,e12,←h5,←h3]
 have k1:(C1 - B1) * -B2 - (C2 - B2) * -B1=C2*B1 - C1*B2:=by
  simp only[Int.sub_mul,sbX,scC B2 B1];lia
 have k2:(B1 - A1) * -A2 - (B2 - A2) * -A1=B2*A1 - B1*A2:=by
  simp only[Int.sub_mul,sbX,scC A2 A1];lia
 have k3:(A1 - C1) * -C2 - (A2 - C2) * -C1=A2*C1 - A1*C2:=by
  simp only[Int.sub_mul,sbX,scC C2 C1];lia
 rw[k1,k2,k3];simp only[Int.sub_mul,sbX];have m1:C2*B1*A1=A1*C2*B1:=by ac_rfl
 have m2:C1*B2*A1=B2*A1*C1:=by ac_rfl
 have m3:B1*A2*C1=A2*C1*B1:=by ac_rfl
 lia
theorem ja {a b:zh}(h:a.1<b.1)(p:zh):zI a b p=(b.1 - a.1)*(p.2 - a.2) - (b.2 - a.2)*(p.1 - a.1):=by
 unfold zI zT;rw[saf (by lia)]
theorem i9 {a b:zh}(h:b.1<a.1)(p:zh):zI a b p=(a.1 - b.1)*(p.2 - a.2) - (b.2 - a.2)*(a.1 - p.1):=by
 unfold zI zT;rw[sah (by lia)];have e1:b.1 - a.1 = -(a.1 - b.1):=by lia
 have e2:p.1 - a.1 = -(a.1 - p.1):=by lia
 rw[e1,e2,scR,sbX];lia
theorem kS {a b c p:zh}(h:(a.1<p.1∧p.1<b.1∧p.1<c.1)∨(p.1<a.1∧b.1<p.1∧c.1<p.1))(hs:(zI a b p≤0∧0≤zI a c p)∨(zI a c p≤0∧0≤zI a b p)):Win a b c p:=by
 have hw:=Ur a b c p;have hca:=sG a c p
 rcases h with⟨h1,h2,h3⟩|⟨h1,h2,h3⟩
 ·have sb:=ja (a:=a) (b:=b) (by lia) p;have sc:=ja (a:=a) (b:=c) (by lia) p;have tb:zI a b p=zT a b p:=sb;have tc:zI a c p=zT a c p:=sc;refine⟨?_,by lia,by lia,?_,?_⟩
  ·unfold TM
   rcases hs with⟨q1,q2⟩|⟨q1,q2⟩
   ·refine .inr ⟨by lia,?_,by lia⟩;have m1:zT a b p*(c.1 - p.1)≤0:=Int.mul_nonpos_of_nonpos_of_nonneg (by lia) (by lia);have m2:zT c a p*(b.1 - p.1)≤0:=Int.mul_nonpos_of_nonpos_of_nonneg (by lia) (by lia)
    rcases w6 0 (zT b c p)with z|z
    ·have:=scI z (show 0<p.1 - a.1 by lia);lia
    ·exact z
   ·refine .inl ⟨by lia,?_,by lia⟩;have m1:0≤zT a b p*(c.1 - p.1):=sbA (by lia) (by lia);have m2:0≤zT c a p*(b.1 - p.1):=sbA (by lia) (by lia)
    rcases w6 (zT b c p) 0 with z|z
    ·have:=Int.mul_neg_of_neg_of_pos z (show 0<p.1 - a.1 by lia);lia
    ·exact z
  ·rcases hs with⟨q1,q2⟩|⟨q1,q2⟩
   ·rw[sc]at q2;have:=md (by lia) (by lia) (by lia) q2;lia
   ·rw[sb]at q2;have:=md (by lia) (by lia) (by lia) q2;lia
  ·rcases hs with⟨q1,q2⟩|⟨q1,q2⟩
   ·rw[sb]at q1;have:=kN (by lia) (by lia) (by lia) q1;lia
   ·rw[sc]at q1;have:=kN (by lia) (by lia) (by lia) q1;lia
 ·have sb:=i9 (a:=a) (b:=b) (by lia) p;have sc:=i9 (a:=a) (b:=c) (by lia) p;have tb:zI a b p = -zT a b p:=by unfold zI;rw[sah (by lia)]
  have tc:zI a c p = -zT a c p:=by unfold zI;rw[sah (by lia)]
  refine⟨?_,by lia,by lia,?_,?_⟩
  ·unfold TM
   rcases hs with⟨q1,q2⟩|⟨q1,q2⟩
   ·refine .inl ⟨by lia,?_,by lia⟩;have m1:zT a b p*(c.1 - p.1)≤0:=sbf (by lia) (by lia);have m2:zT c a p*(b.1 - p.1)≤0:=sbf (by lia) (by lia)
    rcases w6 (zT b c p) 0 with z|z
    ·have:=Int.mul_pos_of_neg_of_neg z (show p.1 - a.1<0 by lia);lia
    ·exact z
   ·refine .inr ⟨by lia,?_,by lia⟩;have m1:0≤zT a b p*(c.1 - p.1):=Int.mul_nonneg_of_nonpos_of_nonpos (by lia) (by lia);have m2:0≤zT c a p*(b.1 - p.1):=Int.mul_nonneg_of_nonpos_of_nonpos (by lia) (by lia)
    rcases w6 0 (zT b c p)with z|z
    ·have:=Int.mul_neg_of_pos_of_neg z (show p.1 - a.1<0 by lia);lia
    ·exact z
  ·rcases hs with⟨q1,q2⟩|⟨q1,q2⟩
   ·rw[sc]at q2;have:=md (by lia) (by lia) (by lia) q2;lia
   ·rw[sb]at q2;have:=md (by lia) (by lia) (by lia) q2;lia
  ·rcases hs with⟨q1,q2⟩|⟨q1,q2⟩
   ·rw[sb]at q1;have:=kN (by lia) (by lia) (by lia) q1;lia
   ·rw[sc]at q1;have:=kN (by lia) (by lia) (by lia) q1;lia
theorem m6 {a b c:zh}{l:yG}(h:(a.1<l.1∧l.1<b.1∧l.1<c.1)∨(l.1<a.1∧b.1<l.1∧c.1<l.1))(hn:∀y∈l.2,¬Win a b c (l.1,y)):yz a b l=yz a c l:=by
 have key:∀y∈l.2,(zI a b (l.1,y)<0↔zI a c (l.1,y)<0)∧(0<zI a b (l.1,y)↔0<zI a c (l.1,y)):=by
  intro y hy;have h1:=hn y hy;have h2:¬((zI a b (l.1,y)≤0∧0≤zI a c (l.1,y))∨(zI a c (l.1,y)≤0∧0≤zI a b (l.1,y))):=fun z=>h1 (kS h z);lia
 unfold yz;congr 1
 ·congr 1;apply scN;intro y hy;exact decide_eq_decide.mpr (key y hy).1
 ·congr 1;apply scN;intro y hy;exact decide_eq_decide.mpr (key y hy).2
noncomputable def iJ (B:List yG)(x y:Int):List yG:=B.filter fun l=>decide (x<l.1)&&decide (l.1<y)
theorem wC {B:List yG}{a b:zh}(h:a.1≤b.1):zO B a b=iJ B a.1 b.1:=by
 unfold zO iJ;by_cases h1:a.1<b.1
 ·rw[saf h1]
 ·rw[sah h1]
  have:∀C:List yG,∀(x y:Int),y≤x→(C.filter fun l=>decide (x<l.1)&&decide (l.1<y))=[]:=by
   intro C x y e;rw[sbn];intro l _;simp;lia
  rw[this _ _ _ (by lia),this _ _ _ (by lia)]
theorem ma {B:List yG}{a b:zh}(h:b.1≤a.1):zO B a b=(iJ B b.1 a.1).reverse:=by
 rw[rT,wC h]
theorem pF {x y z:Int}(h1:x≤y)(h2:y≤z):∀(B:List yG),B.Pairwise (fun a b=>a.1<b.1)→(∀l∈B,l.1≠y)→iJ B x z=iJ B x y++iJ B y z
 |[],_,_=>rfl
 | l::B,hw,hn=>by
   have hw':=saC.mp hw;have ih:=pF h1 h2 B hw'.2 fun m hm=>hn m (by simp[hm]);have hl:=hn l (by simp);unfold iJ at ih ⊢;by_cases q:y<l.1
   ·have e1:((l::B).filter fun l=>decide (x<l.1)&&decide (l.1<y))=[]:=by
     rw[sbn];intro m hm
     rcases saj.mp hm with rfl|hm
     ·simp;lia
     ·have:=hw'.1 m hm;simp;lia
    have e2:(B.filter fun l=>decide (x<l.1)&&decide (l.1<y))=[]:=by
     rw[sbn];intro m hm;have:=hw'.1 m hm;simp;lia
    rw[e1,List.nil_append];rw[e2,List.nil_append]at ih;by_cases q2:l.1<z
    ·rw[sbh (by simp;lia),sbh (by simp;lia),ih]
    ·rw[sbi (by simp;lia),sbi (by simp;lia),ih]
   ·rw[sbi (p:=fun(l:yG)=>decide (y<l.1)&&decide (l.1<z)) (by simp;lia)];by_cases q2:x<l.1
    ·rw[sbh (by simp;lia),sbh (by simp;lia),ih,List.cons_append]
    ·rw[sbi (by simp;lia),sbi (by simp;lia),ih]
theorem pG {B:List yG}{x y:Int}{l:yG}(h:l∈iJ B x y):l∈B∧x<l.1∧l.1<y:=by
 obtain⟨h1,h2⟩:=saK.mp h;simp at h2;exact⟨h1,h2⟩
noncomputable def RZ (g h:List Ga):Prop:=∀s,Rd s→(∀t∈s,uV t)→g.foldl yn s=h.foldl yn s
theorem sN (B:List yG)(q:zh×zh):∀g∈x3 B q,uV g:=by
 intro g hg;obtain⟨l,_,rfl⟩:=saz.mp hg;unfold uV yz;split
 ·exact .inl rfl
 ·exact .inr rfl
theorem YM {gs s:List Ga}(hs:∀t∈s,uV t)(hg:∀t∈gs,uV t):∀t∈gs.foldl yn s,uV t:=oW gs s hs hg
theorem RZ.inv {g h:List Ga}(hg:∀t∈g,uV t)(hh:∀t∈h,uV t)(a:RZ g h):RZ (xE g) (xE h):=by
 intro s hr hs;have r':=nB (xE h) s hr;have w':=YM hs (oV hh);have e1:=sh (xE h) s hr hs (oV hh);rw[sV,←a _ r' w']at e1;have e2:=sh g _ r' w' hg;rw[e1]at e2;exact e2
theorem QX {z g:List Ga}(hz:∀t∈z,uV t)(hg:∀t∈g,uV t):RZ (g++(z++xE z)) g:=by
 intro s hr hs;rw[saR,saR];exact sh z _ (nB g s hr) (YM hs hg) hz
theorem RQ {z g:List Ga}(hz:∀t∈z,uV t):RZ (z++(xE z++g)) g:=by
 intro s hr hs;rw[saR,saR];rw[sh z s hr hs hz]
structure Off (B:List yG)(a b c:zh):Prop where
 rise:B.Pairwise (fun a b=>a.1<b.1)
 na:∀l∈B,l.1≠a.1
 nb:∀l∈B,l.1≠b.1
 nc:∀l∈B,l.1≠c.1
 win:∀l∈B,∀y∈l.2,¬Win a b c (l.1,y)
theorem Off.swap {B:List yG}{a b c:zh}(h:Off B a b c):Off B c b a:=⟨h.rise,h.nc,h.nb,h.na,fun l hl y hy z=>h.win l hl y hy z.swap⟩
theorem Wp {B:List yG}{a b c:zh}(h:Off B a b c)(hac:a.1≤c.1):RZ (x3 B (a,b)++x3 B (b,c)) (x3 B (a,c)):=by
 have gA:∀l∈B,((a.1<l.1∧l.1<b.1∧l.1<c.1)∨(l.1<a.1∧b.1<l.1∧c.1<l.1))→yz a b l=yz a c l:=fun l hl z=>m6 z (h.win l hl)
 have gC:∀l∈B,((c.1<l.1∧l.1<b.1∧l.1<a.1)∨(l.1<c.1∧b.1<l.1∧a.1<l.1))→yz b c l=yz a c l:=fun l hl z=>by
  have e:=m6 z fun y hy w=>h.win l hl y hy w.swap;have b1:yc c b l.1=true:=by unfold yc;simp;lia
  have b2:yc c a l.1=true:=by unfold yc;simp;lia
  rw[pI b1,pI b2,e]
 have gB:∀l∈B,((b.1<l.1∧l.1<a.1∧l.1<c.1)∨(l.1<b.1∧a.1<l.1∧c.1<l.1))→yz b c l=pX (yz a b l):=fun l hl z=>by
  have e:=m6 z fun y hy w=>h.win l hl y hy w.rot.rot.swap;have b1:yc a b l.1=true:=by unfold yc;simp;lia
  rw[←e,pI b1]
 unfold x3;simp only
 rcases scD a.1 b.1 with hab|hab
 ·rcases scD b.1 c.1 with hbc|hbc
  ·have e:(zO B a b).map (yz a b)++(zO B b c).map (yz b c)=(zO B a c).map (yz a c):=by
    rw[wC hab,wC hbc,wC hac,pF hab hbc B h.rise h.nb,saM];congr 1
    ·apply saP;intro l hl;obtain⟨m1,m2,m3⟩:=pG hl;exact gA l m1 (by lia)
    ·apply saP;intro l hl;obtain⟨m1,m2,m3⟩:=pG hl;exact gC l m1 (by lia)
   rw[e];exact fun s _ _=>rfl
  ·have e:(zO B a b).map (yz a b)++(zO B b c).map (yz b c)=(zO B a c).map (yz a c)++((iJ B c.1 b.1).map (yz a b)++xE ((iJ B c.1 b.1).map (yz a b))):=by
    rw[wC hab,ma hbc,wC hac,pF hac hbc B h.rise h.nc,saM,saF];congr 1
    ·apply saP;intro l hl;obtain⟨m1,m2,m3⟩:=pG hl;exact gA l m1 (by lia)
    ·congr 1;unfold xE;rw[sbp,sct];congr 1;apply saP;intro l hl;obtain⟨m1,m2,m3⟩:=pG hl;exact gB l m1 (by lia)
   rw[e]
   exact QX (fun t ht=>by
    obtain⟨l,_,rfl⟩:=saz.mp ht;unfold uV yz;split
    ·exact .inl rfl
    ·exact .inr rfl) (sN B (a,c))
 ·have hbc:b.1≤c.1:=by lia
  have e:(zO B a b).map (yz a b)++(zO B b c).map (yz b c)=(zO B a b).map (yz a b)++(xE ((zO B a b).map (yz a b))++(zO B a c).map (yz a c)):=by
   congr 1;rw[ma hab,wC hbc,wC hac,pF hab hac B h.rise h.na,saM];congr 1
   ·unfold xE;rw[sbp,sct,sbO];apply saP;intro l hl;obtain⟨m1,m2,m3⟩:=pG hl;exact gB l m1 (by lia)
   ·apply saP;intro l hl;obtain⟨m1,m2,m3⟩:=pG hl;exact gC l m1 (by lia)
  rw[e];exact RQ (sN B (a,b))
theorem Ob {B:List yG}{a b c:zh}(h:Off B a b c):RZ (x3 B (a,b)++x3 B (b,c)) (x3 B (a,c)):=by
 rcases scD a.1 c.1 with hac|hac
 ·exact Wp h hac
 ·have e:=Wp h.swap hac;have e2:=e.inv (fun t ht=>(san.mp ht).elim (sN _ _ t) (sN _ _ t)) (sN _ _);rw[qL,←nv,←nv,←nv]at e2;exact e2
theorem Ut {B:List yG}{a c:zh}(h:yH B a c=true):∃l∈B,yc a c l.1=true∧∃y∈l.2,zI a c (l.1,y)=0:=by
 unfold yH at h;obtain⟨l,hl,h1⟩:=sbe.mp h;obtain⟨y,hy,h2⟩:=sbe.mp h1;exact⟨l,(xM hl).1,(xM hl).2,y,hy,scj h2⟩
theorem ZH {x y:Int}(h:y=0):(x≤0∧0≤y)∨(y≤0∧0≤x):=by
 subst h
 exact(scD x 0).imp (fun z=>⟨z,sbF 0⟩) fun z=>⟨sbF 0,z⟩
theorem kX {B:List yG}{a b c:zh}(h:Off B a b c):yH B a c=false:=by
 cases q:yH B a c with
 |false=>rfl
 | true=>
   exfalso;obtain⟨l,hl,hb,y,hy,h0⟩:=Ut q;have hnb:=h.nb l hl;have hsw:zI c a (l.1,y)=0:=by rw[mD (Zq hb)];exact h0
   unfold yc at hb;simp only[sbI,saS,sap]at hb;have w:=h.win l hl y hy;have A:=fun k=>w (kS (p:=(l.1,y)) k (ZH h0));have C:=fun k=>w (kS (a:=c) (b:=b) (c:=a) (p:=(l.1,y)) k (ZH hsw)).swap
   rcases scL hnb with x|x
   ·exact hb.elim (fun q=>A (.inl ⟨q.1,x,q.2⟩)) fun q=>C (.inl ⟨q.1,x,q.2⟩)
   ·exact hb.elim (fun q=>C (.inr ⟨q.2,x,q.1⟩)) fun q=>A (.inr ⟨q.2,x,q.1⟩)
theorem Vk {x y z:Int}(hx:0≤x)(hy:0≤y)(hz:0≤z):0≤tL x y z:=by
 rcases(Yb x y z).2.2.2 with h|h|h <;> rw[h] <;> assumption
theorem Vl {x y z:Int}(hx:x≤0)(hy:y≤0)(hz:z≤0):tM x y z≤0:=by
 rcases(Yf x y z).2.2.2 with h|h|h <;> rw[h] <;> assumption
theorem cJ {x y z t:Int}(h:x≤t∨y≤t∨z≤t):tL x y z≤t:=by
 obtain⟨h1,h2,h3,_⟩:=Yb x y z
 rcases h with h|h|h <;> lia
theorem cK {x y z t:Int}(h:t≤x∨t≤y∨t≤z):t≤tM x y z:=by
 obtain⟨h1,h2,h3,_⟩:=Yf x y z
 rcases h with h|h|h <;> lia
theorem bY {a b c p:zh}(h:Win a b c p):xq a b c p=true:=by
 obtain⟨h1,h2,h3,h4,h5⟩:=h;unfold xq
 have k1:¬(tL (zT a b p) (zT b c p) (zT c a p)<0∧0<tM (zT a b p) (zT b c p) (zT c a p)):=by
  rcases h1 with⟨p1,p2,p3⟩|⟨p1,p2,p3⟩
  ·have:=Vk p1 p2 p3;intro z;exact absurd z.1 (Int.not_lt.mpr this)
  ·have:=Vl p1 p2 p3;intro z;exact absurd z.2 (Int.not_lt.mpr this)
 have k2:¬(p.1<tL a.1 b.1 c.1∨tM a.1 b.1 c.1<p.1):=by
  have e1:=cJ h2;have e2:=cK h3;rintro(z|z)
  ·exact absurd z (Int.not_lt.mpr e1)
  ·exact absurd z (Int.not_lt.mpr e2)
 rw[sah k1,sah k2,sal (cJ h4),sal (cK h5)];rfl
noncomputable def iy (c:zh):Prop := -1≤c.1∧c.1≤9
theorem fX {c:zh}(h:oj c):iy c:=by
 obtain⟨i,h1,h2,h3⟩:=h;unfold iy;lia
theorem Ve {f:Frm}(hf:FrmOk f){c d:zh}(hc:iy c)(hd:iy d):near (yo f c) (yo f d):=by
 have hw1:=hf.w1;have hw2:=hf.w2;unfold iy at hc hd;unfold near yo;simp only
 have e:f.w*d.1+f.r - (f.w*c.1+f.r)=f.w*(d.1 - c.1):=by
  rw[sbW];lia
 rw[e]
 have b1:f.w*(d.1 - c.1)≤10^9*10:=by
  rcases scD 0 (d.1 - c.1)with g|g
  ·exact Int.mul_le_mul hw2 (by lia) g (by decide)
  ·have:=sbf (show 0≤f.w by lia) g;lia
 have b2:f.w*(c.1 - d.1)≤10^9*10:=by
  rcases scD 0 (c.1 - d.1)with g|g
  ·exact Int.mul_le_mul hw2 (by lia) g (by decide)
  ·have:=sbf (show 0≤f.w by lia) g;lia
 have e3:f.w*(c.1 - d.1) = -(f.w*(d.1 - c.1)):=by
  rw[←sbX];congr 1;lia
 lia
theorem uU (pre:List zh)(a:zh)(l:List zh):zE (pre++a::l)=zE (pre++[a])++zE (a::l):=by
 have:=t8 (pre++[a]) (a::l) (by simp) (by simp) (mX pre a);rw[List.tail_cons]at this;rw[←this];congr 1;simp
theorem c0 (pre:List zh)(a:zh)(l m:List zh):z8 (pre++a::l)=z8 (pre++a::m):=by
 cases pre with
 |nil=>rfl
 |cons c r=>rfl
theorem Yk (pre:List zh)(c:zh)(l:List zh):ya (pre++c::l)=ya (c::l):=by
 unfold ya;rw[sam,sam,List.getLast?_append,saJ (l:=c::l) (by simp)];rfl
theorem cO (pre post:List zh)(a b c a':zh):ya (pre++a::b::c::post)=ya (pre++a'::c::post):=by
 have e1:pre++a::b::c::post=(pre++[a,b])++c::post:=by simp
 have e2:pre++a'::c::post=(pre++[a'])++c::post:=by simp
 rw[e1,e2,Yk,Yk]
theorem l0 {B:List yG}{a b c:zh}(O:Off B a b c)(pre post:List zh):zN (yg B (pre++a::c::post))=zN (yg B (pre++a::b::c::post)):=by
 have e1:zE (a::c::post)=(a,c)::zE (c::post):=rfl;have e2:zE (a::b::c::post)=(a,b)::(b,c)::zE (c::post):=rfl;unfold yg zN;rw[uU pre a (c::post),uU pre a (b::c::post),e1,e2];simp only[List.flatMap_append,List.flatMap_cons,saR]
 have h:=Ob O (((zE (pre++[a])).flatMap (x3 B)).foldl yn []) (nA _) (pd fun g hg=>by
  obtain⟨q,_,hg⟩:=scP.mp hg
  exact sN B q g hg)
 rw[saR]at h;rw[h]
theorem XT {ps:List zh}{a b c:zh}(O:Off (zo ps) a b c)(hn:near a c){pre post:List zh}(R:Rp ps (pre++a::b::c::post)):Rp ps (pre++a::c::post):=by
 refine⟨fun d hd=>R.1 d ?_,fun q hq=>?_⟩
 ·simp only[san,saj]at hd ⊢
  rcases hd with h|h|h|h
  ·exact .inl h
  ·exact .inr (.inl h)
  ·exact .inr (.inr (.inr (.inl h)))
  ·exact .inr (.inr (.inr (.inr h)))
 ·have e1:zE (a::c::post)=(a,c)::zE (c::post):=rfl;have e2:zE (a::b::c::post)=(a,b)::(b,c)::zE (c::post):=rfl;rw[uU,e1]at hq;have R2:=R.2;rw[uU,e2]at R2
  rcases san.mp hq with h|h
  ·exact R2 q (sce _ h)
  ·rcases saj.mp h with h|h
   ·rw[h];exact⟨hn,kX O⟩
   ·exact R2 q (saQ _ (by simp[h]))
theorem Uy {ps:List zh}{a b c:zh}(O:Off (zo ps) a b c)(hn:near a b)(hm:near b c){pre post:List zh}(R:Rp ps (pre++a::c::post))(hb:b.1∉(zo ps).map (·.1)):Rp ps (pre++a::b::c::post):=by
 refine⟨fun d hd=>?_,fun q hq=>?_⟩
 ·have R1:=R.1 d;simp only[san,saj]at hd R1
  rcases hd with h|h|h|h|h
  ·exact R1 (.inl h)
  ·exact R1 (.inr (.inl h))
  ·rw[h];exact hb
  ·exact R1 (.inr (.inr (.inl h)))
  ·exact R1 (.inr (.inr (.inr h)))
 ·have e1:zE (a::c::post)=(a,c)::zE (c::post):=rfl;have e2:zE (a::b::c::post)=(a,b)::(b,c)::zE (c::post):=rfl;rw[uU,e2]at hq;have R2:=R.2;rw[uU,e1]at R2
  have O1:Off (zo ps) a c b:=⟨O.rise,O.na,O.nc,O.nb,fun l hl y hy w=>O.win l hl y hy w.swap.rot.rot⟩
  have O2:Off (zo ps) b a c:=⟨O.rise,O.nb,O.na,O.nc,fun l hl y hy w=>O.win l hl y hy w.swap.rot⟩
  rcases san.mp hq with h|h
  ·exact R2 q (sce _ h)
  ·rcases saj.mp h with h|h
   ·rw[h];exact⟨hn,kX O1⟩
   ·rcases saj.mp h with h|h
    ·rw[h];exact⟨hm,kX O2⟩
    ·exact R2 q (saQ _ (by simp[h]))
theorem oK (ps:List zh):(zo ps).Pairwise (fun a b=>a.1<b.1):=by
 have hnd:(qK (ps.map (·.1)).eraseDups).Nodup:=(xQ _).nodup_iff.mpr (uB _ _ (Nat.le_refl _));have hso:=wM (ps.map (·.1)).eraseDups
 have hlt:(qK (ps.map (·.1)).eraseDups).Pairwise (· < ·):=by
  have:=hso.and hnd;exact this.imp fun⟨h1,h2⟩=>by lia
 unfold zo;rw[sbE];exact hlt
theorem W9 {ps:List zh}{a b c:zh}(ha:a.1∉(zo ps).map (·.1))(hb:b.1∉(zo ps).map (·.1))(hc:c.1∉(zo ps).map (·.1))(hf:(ps.filter fun p=>xq a b c p)=[]):Off (zo ps) a b c:=by
 have nn:∀x:Int,x∉(zo ps).map (·.1)→∀l∈zo ps,l.1≠x:=fun x hx l hl e=>hx (by rw[←e];exact scl hl);refine⟨oK ps,nn _ ha,nn _ hb,nn _ hc,fun l hl y hy w=>?_⟩;have hm:=(vR hl).2.1 y hy;have:=sbn.mp hf (l.1,y) hm;exact this (bY w)
theorem rj {g:D→D→Out Val}{fa fb:FE}{E:Ev}{x y:Val}(ha:fa E=.ok x)(hb:fb E=.ok y):f2 g fa fb E=g x.d y.d:=by
 rw[f2,ha,zk,hb,zk]
theorem aI {i j:Int}(h:0<j):yA (.int i) (.int j)=.ok (.p (.int (i%j))):=by
 show(if decide (0<j)=true then _ else _)=_;rw[saf (sal h)]
theorem VR {i j:Int}(h1:0<j)(h2:j<2^250):x6 (.int i) (.int j)=.ok (.p (.int (i / j))):=by
 show(if oJ i j=true then _ else _)=_;rw[saf (vD h1 h2)]
theorem Ym {ds:List D}{i:Int}{d:D}(h:t9 ds i=some d):zX (.l ds) (.int i)=.ok (.p d):=by
 show(match t9 ds i with|some d=>Out.ok (Val.p d)|none=>.bad)=_;rw[h]
theorem bL {ps:List (Int×Int)}(hn:ps.Nodup):BoardOk (zo ps):=by
 refine⟨oK ps,fun l hl=>?_⟩
 ·unfold zo at hl;obtain⟨x,_,rfl⟩:=saz.mp hl
  have nd:((ps.filter fun p=>p.1 == x).map (·.2)).Nodup:=by
   rw[List.Nodup,sbE];refine List.Pairwise.imp_of_mem ?_ (hn.filter fun p=>p.1 == x);intro a b ha hb h e;have h1:a.1=x:=by simpa using(saK.mp ha).2
   have h2:b.1=x:=by simpa using(saK.mp hb).2
   exact h (Prod.ext (h1.trans h2.symm) e)
  have hnd:(qK ((ps.filter fun p=>p.1 == x).map (·.2))).Nodup:=(xQ _).nodup_iff.mpr nd;exact((wM _).and hnd).imp fun⟨h1,h2⟩=>by lia
theorem YC (p:Int→Bool)(hp:∀x y,x≤y→p y=true→p x=true):∀hs:List Int,hs.Pairwise (· ≤ ·)→hs.filter p=hs.take (hs.filter p).length∧(hs.filter fun y=> !p y)=hs.drop (hs.filter p).length
 |[],_=>⟨rfl,rfl⟩
 | h::hs,hw=>by
   have hw':=saC.mp hw;obtain⟨i1,i2⟩:=YC p hp hs hw'.2
   cases q:p h with
   | true=>
     constructor
     ·rw[sbh q,List.length_cons,List.take_succ_cons,←i1]
     ·rw[sbh q,List.length_cons,List.drop_succ_cons,←i2,sbi (by simp[q])]
   | false=>
     have hn:∀y∈hs,p y=false:=by
      intro y hy
      cases z:p y with
      |false=>rfl
      |true=>rw[hp h y (hw'.1 y hy) z]at q;cases q
     have e1:hs.filter p=[]:=sbn.mpr fun y hy=>by simp[hn y hy]
     have e2:(hs.filter fun y=> !p y)=hs:=List.filter_eq_self.mpr fun y hy=>by simp[hn y hy]
     rw[sbi (by simp[q]),e1,sbh (by simp[q]),e2];exact⟨rfl,rfl⟩
theorem UA {a b:zh}(hne:a.1≠b.1)(x:Int){y z:Int}(h:y≤z):zI a b (x,y)≤zI a b (x,z):=by
 unfold zI zT;simp only
 rcases scL hne with h1|h1
 ·rw[saf (by lia),saf (by lia)];have:=scf (show y - a.2≤z - a.2 by lia) (show 0≤b.1 - a.1 by lia);lia
 ·rw[sah (by lia),sah (by lia)];have:=scf (show y - a.2≤z - a.2 by lia) (show 0≤a.1 - b.1 by lia)
  have e:∀t:Int,(a.1 - b.1)*t = -((b.1 - a.1)*t):=by
   intro t;rw[←scR,Int.neg_sub]
  rw[e,e]at this;lia
theorem VF {a b:zh}{l:yG}(hb:yc a b l.1=true)(hs:l.2.Pairwise (· ≤ ·))(hz:∀y∈l.2,zI a b (l.1,y)≠0):vE l (yz a b l):=by
 have hne:a.1≠b.1:=by
  unfold yc at hb;simp at hb;lia
 have hcut:=YC (fun y=>decide (zI a b (l.1,y)<0)) (fun x y hxy h=>by
  have:=UA hne l.1 hxy;rw[sap]at h ⊢
  lia) l.2 hs
 have h2:(l.2.filter fun y=>decide (0<zI a b (l.1,y)))=l.2.filter fun y=> !decide (zI a b (l.1,y)<0):=by
  apply scN;intro y hy;have:=hz y hy;by_cases h:zI a b (l.1,y)<0
  ·have h':¬ 0<zI a b (l.1,y):=by lia
   simp[h,h']
  ·have h':0<zI a b (l.1,y):=by lia
   simp[h,h']
 obtain⟨k,hk⟩:∃k,k=(l.2.filter fun y=>decide (zI a b (l.1,y)<0)).length:=⟨_,rfl⟩
 have hkl:k≤l.2.length:=by rw[hk];exact sbG _ _
 rw[←hk]at hcut;refine⟨rfl,k,hkl,?_,?_⟩
 ·show oE (l.2.filter fun y=>decide (zI a b (l.1,y)<0))=_;rw[bj _ (hs.sublist List.filter_sublist),hcut.1];rw[sbs,scp,Nat.min_eq_left hkl];by_cases h0:k=0
  ·rw[saf h0,h0];rfl
  ·rw[sah h0,List.getElem?_take_of_lt (by lia)]
 ·show oD (l.2.filter fun y=>decide (0<zI a b (l.1,y)))=_;rw[bh _ (hs.sublist List.filter_sublist),h2,hcut.2,List.head?_drop]
inductive Steps (B:List yG):Nat→List Ga→Nat→Prop
 |nil (h:Nat):Steps B h [] h
 |right {h h':Nat} {g:Ga} {gs:List Ga} {l:yG} (e:B[h]?=some l) (n:vE l g) (w:g.w=1) (t:Steps B (h+1) gs h'):Steps B h (g::gs) h'
 |left {h h':Nat} {g:Ga} {gs:List Ga} {l:yG} (e:B[h]?=some l) (n:vE l g) (w:g.w = -1) (t:Steps B h gs h'):Steps B (h+1) (g::gs) h'
theorem Steps.append {B:List yG}{h h':Nat}{gs hs:List Ga}{h'':Nat}(a:Steps B h gs h')(b:Steps B h' hs h''):Steps B h (gs++hs) h'':=by
 induction a with
 |nil h=>exact b
 |right e n w t ih=>exact .right e n w (ih b)
 |left e n w t ih=>exact .left e n w (ih b)
theorem lN {B:List yG}{G:yG→Ga}:∀(n h:Nat),h+n≤B.length→(∀l∈(B.drop h).take n,vE l (G l)∧(G l).w=1)→Steps B h (((B.drop h).take n).map G) (h+n)
 | 0,h,_,_=>by simp;exact .nil h
 | n+1,h,hl,hg=>by
   have hd:B.drop h=B[h]'(by lia)::B.drop (h+1):=sba (by lia);rw[hd,List.take_succ_cons]at hg ⊢;rw[List.map_cons];have hh:=hg (B[h]'(by lia)) (by simp);refine .right (sad (by lia)) hh.1 hh.2 ?_;have:=lN (B:=B) (G:=G) n (h+1) (by lia) fun l hl=>hg l (by simp[hl]);rw[show h+(n+1)=h+1+n by lia];exact this
theorem kY {B:List yG}{G:yG→Ga}:∀(n h:Nat),h+n≤B.length→(∀l∈(B.drop h).take n,vE l (G l)∧(G l).w = -1)→Steps B (h+n) (((B.drop h).take n).map G).reverse h
 | 0,h,_,_=>by simp;exact .nil h
 | n+1,h,hl,hg=>by
   have hd:B.drop h=B[h]'(by lia)::B.drop (h+1):=sba (by lia);rw[hd,List.take_succ_cons]at hg ⊢;rw[List.map_cons,saO];have hh:=hg (B[h]'(by lia)) (by simp);have:=kY (B:=B) (G:=G) n (h+1) (by lia) fun l hl=>hg l (by simp[hl]);rw[show h+(n+1)=h+1+n by lia];exact this.append (.left (sad (by lia)) hh.1 hh.2 (.nil h))
noncomputable def xb (B:List yG)(x:Int):Nat:=(B.filter fun l=>decide (l.1<x)).length
theorem de (x:Int):∀B:List yG,B.Pairwise (fun a b=>a.1<b.1)→(B.filter fun l=>decide (l.1<x))=B.take (xb B x)∧(B.filter fun l=> !decide (l.1<x))=B.drop (xb B x)
 |[],_=>⟨rfl,rfl⟩
 | l::B,hw=>by
   have hw':=saC.mp hw;obtain⟨i1,i2⟩:=de x B hw'.2;unfold xb at i1 i2 ⊢;by_cases q:l.1<x
   ·have f1:((l::B).filter fun l=>decide (l.1<x))=l::B.filter fun l=>decide (l.1<x):=sbh (by simp[q]);have f2:((l::B).filter fun l=> !decide (l.1<x))=B.filter fun l=> !decide (l.1<x):=sbi (by simp[q]);rw[f1,f2,List.length_cons,List.take_succ_cons,List.drop_succ_cons,←i1,←i2];exact⟨rfl,rfl⟩
   ·have hn:∀m∈B,¬m.1<x:=by
     intro m hm;have:=hw'.1 m hm;lia
    have e1:(B.filter fun l=>decide (l.1<x))=[]:=sbn.mpr fun m hm=>by simp;have:=hn m hm;lia
    have e2:(B.filter fun l=> !decide (l.1<x))=B:=List.filter_eq_self.mpr fun m hm=>by simp;have:=hn m hm;lia
    have f1:((l::B).filter fun l=>decide (l.1<x))=B.filter fun l=>decide (l.1<x):=sbi (by simp[q]);have f2:((l::B).filter fun l=> !decide (l.1<x))=l::B.filter fun l=> !decide (l.1<x):=sbh (by simp[q]);rw[f1,f2,e1,e2];exact⟨rfl,rfl⟩
theorem Yc {B:List yG}(hw:B.Pairwise (fun a b=>a.1<b.1)){x y:Int}(hx:x∉B.map (·.1))(hxy:x<y) :
 xb B x≤xb B y∧xb B y≤B.length∧(B.filter fun l=>decide (x<l.1)&&decide (l.1<y))=(B.drop (xb B x)).take (xb B y - xb B x):=by
 have hx1:=de x B hw;have hw2:(B.drop (xb B x)).Pairwise (fun a b=>a.1<b.1):=hw.sublist (List.drop_sublist _ _);have hy2:=de y (B.drop (xb B x)) hw2
 have e1:(B.filter fun l=>decide (x<l.1)&&decide (l.1<y))=(B.drop (xb B x)).filter fun l=>decide (l.1<y):=by
  rw[←hx1.2,List.filter_filter];apply scN;intro l hl;have hne:l.1≠x:=fun z=>hx (by rw[←z];exact scl hl);by_cases h1:x<l.1
  ·have h2:¬l.1<x:=by lia
   simp[h1,h2]
  ·have h2:l.1<x:=by lia
   simp[h1,h2]
 have e2:xb B y=xb B x+xb (B.drop (xb B x)) y:=by
  have hsp:B=B.take (xb B x)++B.drop (xb B x):=(List.take_append_drop _ _).symm
  have:xb B y=xb (B.take (xb B x)) y+xb (B.drop (xb B x)) y:=by
   conv=>lhs;rw[hsp]
   unfold xb;rw[List.filter_append,saN]
  have h3:xb (B.take (xb B x)) y=xb B x:=by
   rw[←hx1.1];unfold xb;rw[List.filter_filter];congr 1;apply scN;intro l _;by_cases h1:l.1<x
   ·have h2:l.1<y:=by lia
    simp[h1,h2]
   ·simp[h1]
  rw[this,h3]
 have e3:xb B y≤B.length:=sbG _ _;refine⟨by lia,e3,?_⟩;rw[e1,hy2.1];congr 1;lia
theorem iC {ps:List zh}{a b:zh}(ha:a.1∉(zo ps).map (·.1))(hb:b.1∉(zo ps).map (·.1))(hf:yH (zo ps) a b=false) :
 Steps (zo ps) (xb (zo ps) a.1) (x3 (zo ps) (a,b)) (xb (zo ps) b.1):=by
 have hw:=oK ps
 have nb:∀l∈zO (zo ps) a b,vE l (yz a b l):=by
  intro l hl;obtain⟨h1,h2⟩:=xM hl;refine VF h2 (vR h1).2.2 fun y hy e=>?_;unfold yH at hf;rw[scB]at hf;apply hf l hl;rw[sbe];exact⟨y,hy,by simp[e]⟩
 unfold x3;simp only;unfold zO at nb ⊢;by_cases h1:a.1<b.1
 ·rw[saf h1]at nb ⊢;obtain⟨c1,c2,c3⟩:=Yc hw ha h1
  have hmem:∀l∈(zo ps).filter fun l=>decide (a.1<l.1)&&decide (l.1<b.1),vE l (yz a b l)∧(yz a b l).w=1:=by
   intro l hl;refine⟨nb l hl,?_⟩;have:=(saK.mp hl).2;simp at this;show(if a.1<l.1 then(1:Int)else -1)=1;rw[saf this.1]
  rw[c3]at hmem ⊢;have:=lN (G:=yz a b) (xb (zo ps) b.1 - xb (zo ps) a.1) (xb (zo ps) a.1) (by lia) hmem;rw[show xb (zo ps) a.1+(xb (zo ps) b.1 - xb (zo ps) a.1)=xb (zo ps) b.1 by lia]at this;exact this
 ·rw[sah h1]at nb ⊢;rw[scm,sct];by_cases h2:b.1<a.1
  ·obtain⟨c1,c2,c3⟩:=Yc hw hb h2
   have hmem:∀l∈(zo ps).filter fun l=>decide (b.1<l.1)&&decide (l.1<a.1),vE l (yz a b l)∧(yz a b l).w = -1:=by
    intro l hl;refine⟨nb l (by rw[scm];exact sbr.mpr hl),?_⟩;have:=(saK.mp hl).2;simp at this;show(if a.1<l.1 then(1:Int)else -1) = -1;rw[sah (by lia)]
   rw[c3]at hmem ⊢;have:=kY (G:=yz a b) (xb (zo ps) a.1 - xb (zo ps) b.1) (xb (zo ps) b.1) (by lia) hmem;rw[show xb (zo ps) b.1+(xb (zo ps) a.1 - xb (zo ps) b.1)=xb (zo ps) a.1 by lia]at this;exact this
  ·have e:a.1=b.1:=by lia
   have:((zo ps).filter fun l=>decide (b.1<l.1)&&decide (l.1<a.1))=[]:=by
    rw[sbn];intro l _;simp;lia
   rw[this,e];exact .nil _
theorem jt {ps:List zh}:∀(rope:List zh) (c:zh),(∀d∈c::rope,d.1∉(zo ps).map (·.1))→(∀q∈zE (c::rope),yH (zo ps) q.1 q.2=false) →
 Steps (zo ps) (xb (zo ps) c.1) ((zE (c::rope)).flatMap (x3 (zo ps))) (xb (zo ps) (ya (c::rope)).1)
 |[],c,_,_=>by simp[zE,ya];exact .nil _
 | d::rope,c,ho,hf=>by
   have e:zE (c::d::rope)=(c,d)::zE (d::rope):=rfl;rw[e]at hf ⊢;rw[List.flatMap_cons];have ih:=jt rope d (fun x hx=>ho x (by simp[hx])) fun q hq=>hf q (by simp[hq]);have h1:=iC (ho c (by simp)) (ho d (by simp)) (hf (c,d) (by simp));exact h1.append ih
theorem QL (ps:List zh):lW (.l (ps.map zd)) (.l (ps.map zd))=.ok (.p (.bl false)):=by
 simp only[lW,jc 2,Bool.true_or,if_true,bt];rfl
theorem Wy {gs:List Ga}(h:gs.length≤10000):yf [.l (gs.map zm)]=.ok (.fresh ((zN gs).map zm)):=by
 simp only[yf,t_];rw[saf h]
theorem ZW {ps l:List zh}(R:RopeOk ps l):(yg (zo ps) l).length≤2000:=by
 have h1:=nu R.few (zE l);have h2:(zE l).length≤100:=by have:=R.many;unfold zE;simp;lia
 unfold yg;lia
theorem UT {B:List yG}{h h':Nat}{gs:List Ga}(s:Steps B h gs h'):sj B (h:Int) gs:=by
 induction s with
 |nil h=>trivial
 |@right h _ g _ l e n w t ih=>exact⟨⟨l,n,h,e,.inl ⟨w,rfl⟩⟩,by rw[w];exact ih⟩
 |@left h _ g _ l e n w t ih=>exact⟨⟨l,n,h,e,.inr ⟨w,by lia⟩⟩,by rw[w,show((h+1:Nat):Int) + -1=h by lia];exact ih⟩
theorem Ux {st:List Ga}{g:Ga}(h:∀t∈st,uV t)(hg:uV g):yn st g=jn st g:=by
 unfold yn jn
 cases q:st.getLast? with
 |none=>rfl
 | some t=>
   have ht:=h t (List.mem_of_getLast? q)
   have e:gf t g=true↔t=tK g:=by
    rw[nJ];unfold uV at ht hg;obtain⟨a,b,c,d⟩:=t;obtain⟨a',b',c',d'⟩:=g;simp only[tK,Ga.mk.injEq]at ht hg ⊢;constructor
    ·rintro⟨⟨h1,h2,h3⟩,h4⟩;exact⟨h1,h2,h3,by lia⟩
    ·rintro⟨h1,h2,h3,h4⟩;exact⟨⟨h1,h2,h3⟩,by lia⟩
   show(if gf t g=true then st.dropLast else st++[g])=if t=tK g then st.dropLast else st++[g]
   by_cases z:t=tK g
   ·rw[saf z,saf (e.mpr z)]
   ·rw[sah z,sah fun k=>z (e.mp k)]
theorem jb {B:List yG}{h:Int}:∀(gs st:List Ga),sj B h st→Uh st→sj B (h+og st) gs→sj B h (gs.foldl yn st)∧Uh (gs.foldl yn st)
 |[],_,p,r,_=>⟨p,r⟩
 | g::gs,st,p,r,⟨k1,k2⟩=>by
   have e:=Ux (st:=st) (g:=g) (fun t ht=>(qG p ht).elim fun _ s=>s.way) k1.way;obtain⟨a,b,c,_⟩:=WH p r k1;rw[List.foldl_cons,e];exact jb gs _ a b (by rw[c];exact k2)
theorem Tb (gs:List Ga):xE gs=wm gs:=rfl
theorem fv {s:List Ga}(hr:Rd s)(hs:∀t∈s,uV t):∀gs st:List Ga,(∀t∈st,uV t)→(∀t∈gs,uV t)→(gs.foldl yn st).foldl yn s=gs.foldl yn (st.foldl yn s)
 |[],_,_,_=>rfl
 | g::gs,st,h1,h2=>by
   have hg:=h2 g (by simp)
   have e:(yn st g).foldl yn s=yn (st.foldl yn s) g:=by
    rcases wk st with rfl|⟨m,t,rfl⟩
    ·rfl
    ·rw[wj];split
     ·rename_i ho;rw[saR];exact(i6 (nB m s hr) (oW m s hs fun x hx=>h1 x (by simp[hx])) (h1 t (by simp)) hg ho).symm
     ·rw[saR (l:=m++[t])];rfl
   rw[List.foldl_cons,List.foldl_cons,fv hr hs gs _ (kT h1 hg) fun t ht=>h2 t (by simp[ht]),e]
theorem Sv {l:List Ga}(h:Rd l):Rd (xE l):=by
 intro a g k b e;have e2:=congrArg xE e;rw[sV,show a++g::k::b=a++[g]++[k]++b by simp,qL,qL,qL]at e2;have:=h (xE b) (pX k) (pX g) (xE a) (by rw[e2];simp[xE])
 cases q:gf g k with
 |false=>rfl
 | true=>
   rw[nJ]at q
   have:gf (pX k) (pX g)=true:=by
    rw[nJ];refine⟨⟨q.1.1.symm,q.1.2.1.symm,q.1.2.2.symm⟩,fun z=>q.2 ?_⟩;have z : -k.w = -g.w:=z;lia
   simp_all
theorem Y5 {gs:List Ga}(h:∀t∈gs,uV t):zN (xE gs)=xE (zN gs):=by
 have hi:=oV h;have h1:=sh (xE gs) [] ar (by simp) hi;rw[sV]at h1;have h2:=fv (nA (xE gs)) (pd hi) gs [] (by simp) h
 have h3:zN (xE gs++xE (xE (zN gs)))=[]:=by
  rw[sV,hJ];exact h2.trans h1
 rw[(cU hi (oV (pd h))).mp h3,Wx (Sv (nA gs))]
theorem S7 {a b A B:Int}(h1 : -A≤a)(h2:a≤A)(h3 : -B≤b)(h4:b≤B) : -(A*B)≤a*b∧a*b≤A*B:=by
 have hA:a.natAbs≤A.natAbs:=by lia
 have hB:b.natAbs≤B.natAbs:=by lia
 have k:=Nat.mul_le_mul hA hB;rw[←Int.natAbs_mul,←Int.natAbs_mul]at k;have:0≤A*B:=sbA (by lia) (by lia);lia
noncomputable def Q2 (d:zh):Prop := -1≤d.2∧d.2≤7
theorem V1 {f:Frm}(hf:FrmOk f){d:zh}(h:iy d):BX f.r (yo f d).1:=by
 obtain⟨h1,h2⟩:=h;have:=S7 (a:=f.w) (A:=10^9) (b:=d.1) (B:=9) (by have:=hf.w1;lia) hf.w2 (by lia) h2;show f.r - 2^60<f.w*d.1+f.r∧f.w*d.1+f.r<f.r+2^60;lia
theorem ZY {f:Frm}(hf:FrmOk f){d:zh}(h:iy d)(l:Q2 d):Ub (f.u - 8*10^18) (yo f d):=by
 obtain⟨h1,h2⟩:=h;obtain⟨l1,l2⟩:=l;have a:=S7 (a:=f.h) (A:=10^18) (b:=d.2) (B:=7) (by have:=hf.h1;lia) hf.h2 (by lia) l2;have b:=S7 (a:=f.s) (A:=3) (b:=d.1) (B:=9) hf.s1 hf.s2 (by lia) h2;show f.u - 8*10^18≤f.h*d.2+f.s*d.1+f.u∧f.h*d.2+f.s*d.1+f.u<f.u - 8*10^18+2^64;lia
theorem Wv {ps:List zh}{h:Int}{g:Ga}(s:qX (zo ps) h g):∃l∈zo ps,g.x=l.1∧∀y,g.lo=some y∨g.hi=some y→y∈l.2:=by
 obtain⟨l,⟨gx,k,_,lo,hi⟩,i,e,_⟩:=s;refine⟨l,saD e,gx,fun y hy=>?_⟩
 rcases hy with hy|hy
 ·rw[lo]at hy;split at hy
  ·cases hy
  ·exact saD hy
 ·rw[hi]at hy;exact saD hy
theorem ck {ps rope:List zh}(R:RopeOk ps rope):∃h,sj (zo ps) h (zN (yg (zo ps) rope))∧kr (zN (yg (zo ps) rope)):=by
 match rope,R with
 | c::r,R=>
   obtain⟨p,q⟩:=jb _ [] (h:=(xb (zo ps) c.1:Int)) trivial trivial (by
    rw[og,Int.add_zero]
    exact UT (jt r c R.off R.free))
   exact⟨_,p,ku (bL R.nodup) _ _ p q⟩
theorem Za {l:List zh}(h:l≠[]):z8 l∈l∧ya l∈l:=⟨m7 h,mY h⟩
theorem RopeOk.ne {ps rope:List zh}(R:RopeOk ps rope):rope≠[]:=fun z=>by have:=R.two;rw[z]at this;simp at this
theorem fS {f:Frm}(hf:FrmOk f){ps rope:List zh}(hp:∀p∈ps,∃d,iy d∧Q2 d∧p=yo f d)(R:RopeOk ps rope)(hr:∀c∈rope,∃d,iy d∧c=yo f d)(hl:Ub (f.u - 8*10^18) (z8 rope)∨Ub (f.u - 8*10^18) (ya rope)) :
 PullOk (z8 rope) (ya rope) (zN (yg (zo ps) rope)):=by
 obtain⟨h,P,W⟩:=ck R;obtain⟨m1,m2⟩:=Za R.ne;have st:∀g∈zN (yg (zo ps) rope),∃l∈zo ps,g.x=l.1∧∀y,g.lo=some y∨g.hi=some y→y∈l.2:=fun g hg=>(qG P hg).elim fun _ s=>Wv s
 have bx:∀c∈rope,BX f.r c.1:=fun c hc=>by
  obtain⟨d,hd,rfl⟩:=hr c hc;exact V1 hf hd
 have off:∀c∈rope,∀g∈zN (yg (zo ps) rope),g.x≠c.1:=fun c hc g hg z=>by
  obtain⟨l,hm,e,_⟩:=st g hg;exact R.off c hc (by rw[←z,e];exact scl hm)
 refine⟨⟨f.r,bx _ m1,bx _ m2,fun g hg=>?_⟩,⟨(zo ps).map (·.1),?_,fun g hg=>?_⟩,?_,W,off _ m1,off _ m2,⟨_,fun p hq=>?_,hl⟩⟩
 ·obtain⟨l,hm,e,_⟩:=st g hg;obtain⟨p,hq,e'⟩:=saz.mp (vR hm).1;obtain⟨d,hd,_,rfl⟩:=hp p hq;rw[e,←e'];exact V1 hf hd
 ·have:=pP ps;have:=R.few;rw[sae];lia
 ·obtain⟨l,hm,e,_⟩:=st g hg;rw[e];exact scl hm
 ·have:=ag (yg (zo ps) rope);have:=ZW R;lia
 ·obtain⟨g,hg,e1,e2⟩:=hq;obtain⟨l,hm,e,k⟩:=st g hg;obtain⟨d,hd,ld,e3⟩:=hp _ ((vR hm).2.1 p.2 (k p.2 e2));have:p=yo f d:=by rw[←e3,←e,←e1]
  rw[this];exact ZY hf hd ld
theorem ky {ps rope:List zh}(R:RopeOk ps rope){out:List zh}(h:wq [zd (z8 rope),.l ((zN (yg (zo ps) rope)).map zm),zd (ya rope)]=.ok (.fresh (out.map zd))):xf [.l (ps.map zd),.l (rope.map zd)]=.ok (.fresh (out.map zd)):=by
 have w:=mG R;have so:=Wy (gs:=yg (zo ps) rope) (by have:=ZW R;lia);unfold xf;show((qN [.p (.l (ps.map zd)),.p (.l (rope.map zd)),.un]).bind _)=_;unfold qN
 rw[zq (env':=[.p (.l (ps.map zd)),.p (.l (rope.map zd)),.p (.l ((zN (yg (zo ps) rope)).map zm))]) (by
  have k1:zx xP (zi (zf 0) (zi (zf 1) (zz))) [.p (.l (ps.map zd)),.p (.l (rope.map zd)),.un]=.ok (.fresh ((yg (zo ps) rope).map zm)):=by
   show((xP [.l (ps.map zd),.l (rope.map zd)]).bind _)=_;rw[w];rfl
  rw[zS,zx,zi,k1,zk];show(((yf [.l ((yg (zo ps) rope).map zm)]).bind _).bind _)=_;rw[so]
  rfl)]
 have v0:f2 zX (zf 1) (fC (.int 0)) [.p (.l (ps.map zd)),.p (.l (rope.map zd)),.p (.l ((zN (yg (zo ps) rope)).map zm))]=.ok (.p (zd (z8 rope))):=by
  show zX (.l (rope.map zd)) (.int 0)=_;rw[Ym (qV R.ne)]
 have v1:f2 zX (zf 1) (f1 xj (fC (.int 1))) [.p (.l (ps.map zd)),.p (.l (rope.map zd)),.p (.l ((zN (yg (zo ps) rope)).map zm))]=.ok (.p (zd (ya rope))):=by
  show zX (.l (rope.map zd)) (.int (-1))=_;rw[Ym (kP R.ne)]
 have v2:zf 2 [.p (.l (ps.map zd)),.p (.l (rope.map zd)),.p (.l ((zN (yg (zo ps) rope)).map zm))]=.ok (.p (.l ((zN (yg (zo ps) rope)).map zm))):=rfl;rw[yu,zx,zi,v0,zk,zi,v2,zk,zi,v1,zk,zz];show((((wq [zd (z8 rope),.l ((zN (yg (zo ps) rope)).map zm),zd (ya rope)]).bind _).bind _).bind _)=_;rw[h];rfl
theorem Y0 {f:Frm}(hf:FrmOk f){ps rope:List zh}(hp:∀p∈ps,∃d,iy d∧Q2 d∧p=yo f d)(R:RopeOk ps rope)(hr:∀c∈rope,∃d,iy d∧c=yo f d)(hl:Ub (f.u - 8*10^18) (z8 rope)) :
 ∃out:List zh,out.length≤9200∧wq [zd (z8 rope),.l ((zN (yg (zo ps) rope)).map zm),zd (ya rope)]=.ok (.fresh (out.map zd))∧xf [.l (ps.map zd),.l (rope.reverse.map zd)]=.ok (.fresh (out.reverse.map zd)):=by
 have R2:RopeOk ps rope.reverse:=R.rp.rev.ok R.few R.nodup (by rw[sbk];exact R.two) (by rw[sbk];exact R.many);have e1:=pJ R.ne;have e2:=qJ R.ne;have hw:∀g∈yg (zo ps) rope,uV g:=fN _;have e3:zN (yg (zo ps) rope.reverse)=wm (zN (yg (zo ps) rope)):=by rw[jo,Y5 hw,Tb]
 obtain⟨out,P0,hlen,e0⟩:=mH (fS hf hp R hr (.inl hl));obtain⟨o1,P1,_,e4⟩:=mH (fS hf hp R2 (fun c hc=>hr c (sbr.mp hc)) (.inr (by rw[e2];exact hl)));refine⟨out,hlen,e0,?_⟩;obtain⟨h,P,W⟩:=ck R;have sp:=nh _ W;rw[e1,e2,e3]at P1;have hs:=cg sp (fun Q hQ g hg=>(qG P (by rw[←sM (zN (yg (zo ps) rope))];exact scs.mpr ⟨Q,hQ,hg⟩)).elim fun _ s=>s.way);rw[sM]at hs;rw[hs]at P1;have:=av (UB W fun g hg=>(qG P hg).elim fun _ s=>s.ok (bL R.nodup)) (mB _ sp) P0 P1;rw[←this];exact ky R2 e4
theorem VP {fa fb:FE}{E:Ev}{i j:Int}(ha:fa E=.ok (.p (.int i)))(hb:fb E=.ok (.p (.int j))):z0 (f2 mq fa fb) E=.ok (decide (i=j)):=by
 rw[z0,rj ha hb];rfl
theorem Qz {fa fb:FE}{E:Ev}{i j:Int}(ha:fa E=.ok (.p (.int i)))(hb:fb E=.ok (.p (.int j))):z0 (f2 mn fa fb) E=.ok (decide (i<j)):=by
 rw[z0,rj ha hb];rfl
structure Like (ns:List Int)(ps rope oth:List zh)(n:Nat):Prop where
 rp:Rp ps oth
 two:2≤oth.length
 len:oth.length≤n
 fst:z8 rope=z8 oth
 l:ya rope=ya oth
 row:zN (yg (zo ps) oth)=zN (yg (zo ps) rope)
 box:∀c∈oth,∃d,iy d∧c=yo (zL ns) d
theorem Like.up {ns:List Int}{ps rope oth:List zh}{n:Nat}(L:Like ns ps rope oth n):Like ns ps rope oth (n+1):=⟨L.rp,L.two,Nat.le_succ_of_le L.len,L.fst,L.l,L.row,L.box⟩
theorem nL {ns:List Int}{c d:zh}(h:∃e,iy e∧c=yo (zL ns) e)(k:∃e,iy e∧d=yo (zL ns) e):near c d:=by
 obtain⟨e,he,rfl⟩:=h;obtain⟨e',he',rfl⟩:=k;exact Ve (aZ ns) he he'
theorem Like.out {ns:List Int}{ps rope pre post:List zh}{a b c:zh}{n:Nat}(L:Like ns ps rope (pre++a::b::c::post) n)(hfr:(ps.filter fun p=>xq a b c p)=[]):Like ns ps rope (pre++a::c::post) (n+1):=by
 have O:=W9 (L.rp.1 a (by simp)) (L.rp.1 b (by simp)) (L.rp.1 c (by simp)) hfr;have h2:=L.len;simp only[saN,List.length_cons]at h2;refine⟨XT O (nL (L.box a (by simp)) (L.box c (by simp))) L.rp,by simp;lia,by simp;lia,L.fst.trans (c0 _ _ _ _),L.l.trans (cO _ _ _ _ _ _),(l0 O _ _).trans L.row,fun d hd=>L.box d ?_⟩;simp only[san,saj]at hd ⊢
 rcases hd with h|h|h|h
 ·exact .inl h
 ·exact .inr (.inl h)
 ·exact .inr (.inr (.inr (.inl h)))
 ·exact .inr (.inr (.inr (.inr h)))
theorem Like.put {ns:List Int}{ps rope pre post:List zh}{a b c:zh}{n:Nat}(L:Like ns ps rope (pre++a::c::post) n)(bb:∃d,iy d∧b=yo (zL ns) d)(off:b.1∉(zo ps).map (·.1))(hfr:(ps.filter fun p=>xq a b c p)=[]):Like ns ps rope (pre++a::b::c::post) (n+1):=by
 have O:=W9 (L.rp.1 a (by simp)) off (L.rp.1 c (by simp)) hfr;have h2:=L.len;simp only[saN,List.length_cons]at h2;refine⟨Uy O (nL (L.box a (by simp)) bb) (nL bb (L.box c (by simp))) L.rp off,by simp;lia,by simp;lia,L.fst.trans (c0 _ _ _ _),L.l.trans (cO _ _ _ _ _ _).symm,(l0 O _ _).symm.trans L.row,fun d hd=>?_⟩;simp only[san,saj]at hd
 rcases hd with h|h|h|h|h
 ·exact L.box d (by simp[h])
 ·exact L.box d (by simp[h])
 ·rw[h];exact bb
 ·exact L.box d (by simp[h])
 ·exact L.box d (by simp[h])
theorem bA {l:List zh}{j:Nat}(h:j+1<l.length):l=l.take j++l[j]::l[j+1]::l.drop (j+2):=by
 rw[←sba h,←sba (by lia),List.take_append_drop]
theorem Zl {ns:List Int}{ps rope oth:List zh}{n:Nat}(hpl:ps.length≤12)(hn:n≤50)(boxP:∀p∈ps,∃d,iy d∧p=yo (zL ns) d)(offB:∀d,oj d→(yo (zL ns) d).1∉(zo ps).map (·.1))(L:Like ns ps rope oth n)(m:Int) :
 ∃oth' v,Like ns ps rope oth' (n+1)∧uS [.l (oth.map zd),.l (ps.map zd),.int m,yp (zL ns)]=.ok v∧(v=.p (.l (oth'.map zd))∨v=.fresh (oth'.map zd)):=by
 have h2:=L.two;have hle:=L.len
 obtain⟨k,hk,hkl⟩:∃k:Nat,m / 2%(oth.length:Int)=(k:Int)∧k<oth.length:=by
  have h1:=sbS (m / 2) (b:=(oth.length:Int)) (by lia);have h3:=sca (m / 2) (b:=(oth.length:Int)) (by lia);exact⟨(m / 2%(oth.length:Int)).toNat,by lia,by lia⟩
 have hlen:∀s4 s5,fB uk (zi (zf 0) (zz)) [.p (.l (oth.map zd)),.p (.l (ps.map zd)),.p (.int m),.p (yp (zL ns)),s4,s5]=.ok (.p (.int (oth.length:Int))):=fun s4 s5=>by
  show Out.ok (Val.p (.int ((oth.map zd).length:Int)))=_;rw[sae]
 have hix:∀(j:Nat) (z:Int) (f:FE) s4 s5 (h:j<oth.length),z=(j:Int)→f [.p (.l (oth.map zd)),.p (.l (ps.map zd)),.p (.int m),.p (yp (zL ns)),s4,s5]=.ok (.p (.int z))→f2 zX (zf 0) f [.p (.l (oth.map zd)),.p (.l (ps.map zd)),.p (.int m),.p (yp (zL ns)),s4,s5]=.ok (.p (zd oth[j])):=fun j z f s4 s5 h e hf=>by
  rw[rj (x:=.p (.l (oth.map zd))) rfl hf];exact Ym (RN oth j z e h)
 have vk:∀s5,zf 4 [.p (.l (oth.map zd)),.p (.l (ps.map zd)),.p (.int m),.p (yp (zL ns)),.p (.int k),s5]=.ok (.p (.int k)):=fun _=>rfl;have vk1:∀s5,f2 yB (zf 4) (fC (.int 1)) [.p (.l (oth.map zd)),.p (.l (ps.map zd)),.p (.int m),.p (yp (zL ns)),.p (.int k),s5]=.ok (.p (.int ((k:Int)+1))):=fun _=>rfl;have v1:∀s5,zf 1 [.p (.l (oth.map zd)),.p (.l (ps.map zd)),.p (.int m),.p (yp (zL ns)),.p (.int k),s5]=.ok (.p (.l (ps.map zd))):=fun _=>rfl
 have call:∀(a b c:zh) (fa fb fc:FE) s5,fa [.p (.l (oth.map zd)),.p (.l (ps.map zd)),.p (.int m),.p (yp (zL ns)),.p (.int k),s5]=.ok (.p (zd a))→fb [.p (.l (oth.map zd)),.p (.l (ps.map zd)),.p (.int m),.p (yp (zL ns)),.p (.int k),s5]=.ok (.p (zd b))→fc [.p (.l (oth.map zd)),.p (.l (ps.map zd)),.p (.int m),.p (yp (zL ns)),.p (.int k),s5]=.ok (.p (zd c))→(∃d,iy d∧a=yo (zL ns) d)→(∃d,iy d∧b=yo (zL ns) d)→(∃d,iy d∧c=yo (zL ns) d) →
  oC (zx qI (zi fa (zi fb (zi fc (zi (zf 1) (zz)))))) [.p (.l (oth.map zd)),.p (.l (ps.map zd)),.p (.int m),.p (yp (zL ns)),.p (.int k),s5]=.ok (decide ((ps.filter fun p=>xq a b c p)=[])):=fun a b c fa fb fc s5 ha hb hc ba bb bc=>by
  have hf:=Ti (ps:=ps) (a:=a) (b:=b) (c:=c) (by lia) (nL ba bb) (nL bb bc) (nL bc ba) fun p hp=>⟨nL ba (boxP p hp),nL bb (boxP p hp),nL bc (boxP p hp)⟩
  rw[oC,zx,zi,ha,zk,zi,hb,zk,zi,hc,zk,zi,v1,zk,zz];show(((qI [zd a,zd b,zd c,.l (ps.map zd)]).bind _).bind _)=_;rw[hf];rfl
 have cutT:∀(j:Nat) (z:Int) (f:FE) s5,z=(j:Int)→f [.p (.l (oth.map zd)),.p (.l (ps.map zd)),.p (.int m),.p (yp (zL ns)),.p (.int k),s5]=.ok (.p (.int z))→iA (zf 0) (gO) (kK f) [.p (.l (oth.map zd)),.p (.l (ps.map zd)),.p (.int m),.p (yp (zL ns)),.p (.int k),s5]=.ok (.fresh ((oth.take j).map zd)):=fun j z f s5 e hf=>by
  have c:=VU (oth.map zd) z j e;rw[←List.map_take]at c;simp[hf,c]
 have cutD_:∀(j:Nat) (z:Int) (f:FE) s5,z=(j:Int)→f [.p (.l (oth.map zd)),.p (.l (ps.map zd)),.p (.int m),.p (yp (zL ns)),.p (.int k),s5]=.ok (.p (.int z))→iA (zf 0) (kK f) (gO) [.p (.l (oth.map zd)),.p (.l (ps.map zd)),.p (.int m),.p (yp (zL ns)),.p (.int k),s5]=.ok (.fresh ((oth.drop j).map zd)):=fun j z f s5 e hf=>by
  have c:=ro (oth.map zd) z j e;rw[←List.map_drop]at c;simp[hf,c]
 suffices h:∃oth' v,Like ns ps rope oth' (n+1)∧uT [.p (.l (oth.map zd)),.p (.l (ps.map zd)),.p (.int m),.p (yp (zL ns)),.un,.un]=.ok (.ret v)∧(v=.p (.l (oth'.map zd))∨v=.fresh (oth'.map zd))by
  obtain⟨oth',v,L',e,hv⟩:=h;refine⟨oth',v,L',?_,hv⟩;unfold uS;show((uT [.p (.l (oth.map zd)),.p (.l (ps.map zd)),.p (.int m),.p (yp (zL ns)),.un,.un]).bind _)=_;rw[e];rfl
 unfold uT
 rw[zq (env':=[.p (.l (oth.map zd)),.p (.l (ps.map zd)),.p (.int m),.p (yp (zL ns)),.p (.int k),.un]) (by
  rw[zS,rj (x:=.p (.int (m / 2))) (by
   rw[rj (x:=.p (.int m)) (y:=.p (.int 2)) rfl rfl]
   exact VR (by lia) (by decide)) (hlen _ _)]
  show((yA (.int (m / 2)) (.int oth.length)).bind _)=_;rw[aI (by lia),hk]
  rfl)]
 have ev:z0 (f2 mq (f2 yA (zf 2) (fC (.int 2))) (fC (.int 0))) [.p (.l (oth.map zd)),.p (.l (ps.map zd)),.p (.int m),.p (yp (zL ns)),.p (.int k),.un]=.ok (decide (m%2=0)):=VP (by
  rw[rj (x:=.p (.int m)) (y:=.p (.int 2)) rfl rfl]
  exact aI (by lia)) rfl
 by_cases e2:m%2=0
 ·rw[sal e2]at ev;have c1:XI (z0 (f2 mq (zf 4) (fC (.int 0)))) (z0 (f2 mq (f2 yB (zf 4) (fC (.int 1))) (fB uk (zi (zf 0) (zz))))) [.p (.l (oth.map zd)),.p (.l (ps.map zd)),.p (.int m),.p (yp (zL ns)),.p (.int k),.un]=.ok (decide ((k:Int)=0) ||decide ((k:Int)+1=oth.length)):=TY (VP rfl rfl) (VP rfl (hlen _ _));rw[←Bool.decide_or]at c1;by_cases z:(k:Int)=0∨(k:Int)+1=oth.length
  ·rw[sal z]at c1;refine⟨oth,.p (.l (oth.map zd)),L.up,wX ?_,.inl rfl⟩;rw[u9,wc,ev,zk,saf rfl,wX (v:=.p (.l (oth.map zd)))];rw[rP,wc,c1];rfl
  ·rw[saw z]at c1
   obtain⟨j,rfl⟩:∃j,k=j+1:=⟨k - 1,by lia⟩
   have l2:j+2<oth.length:=by lia
   have cl:=call oth[j] oth[j+1] oth[j+2] _ _ _ .un (hix j (((j+1:Nat):Int) - 1) (f2 xR (zf 4) (fC (.int 1))) _ _ (by lia) (by lia) rfl) (hix (j+1) _ (zf 4) _ _ (by lia) rfl rfl) (hix (j+2) (((j+1:Nat):Int)+1) (f2 yB (zf 4) (fC (.int 1))) _ _ l2 (by lia) rfl) (L.box _ (scq _)) (L.box _ (scq _)) (L.box _ (scq _))
   have i1:rP [.p (.l (oth.map zd)),.p (.l (ps.map zd)),.p (.int m),.p (yp (zL ns)),.p (.int ((j+1:Nat):Int)),.un]=.ok (.next [.p (.l (oth.map zd)),.p (.l (ps.map zd)),.p (.int m),.p (yp (zL ns)),.p (.int ((j+1:Nat):Int)),.un]):=by
    rw[rP,wc,c1];rfl
   by_cases fr:(ps.filter fun p=>xq oth[j] oth[j+1] oth[j+2] p)=[]
   ·rw[sal fr]at cl;have hsp:=bA (l:=oth) (j:=j) (by lia);rw[sba l2]at hsp;have L':=L;rw[hsp]at L';have L2:=L'.out fr
    have e3:oth.take (j+1)++oth.drop (j+2)=oth.take j++oth[j]::oth[j+2]::oth.drop (j+3):=by
     rw[sbw (by lia),sba l2,saF];rfl
    rw[←e3]at L2;refine⟨_,_,L2,wX ?_,.inr rfl⟩;rw[u9,wc,ev,zk,saf rfl,zq i1,wX];rw[oz,wc,cl,zk,saf rfl,yu,rj (cutT (j+1) _ _ _ rfl (vk _)) (cutD_ (j+2) _ _ _ (by lia) (vk1 _))];show((yB (.l ((oth.take (j+1)).map zd)) (.l ((oth.drop (j+2)).map zd))).bind _)=_;rw[yB,saf (by simp;lia),saM];rfl
   ·rw[saw fr]at cl;refine⟨oth,.p (.l (oth.map zd)),L.up,wX ?_,.inl rfl⟩;rw[u9,wc,ev,zk,saf rfl,zq i1,zq (env':=[.p (.l (oth.map zd)),.p (.l (ps.map zd)),.p (.int m),.p (yp (zL ns)),.p (.int ((j+1:Nat):Int)),.un]) (by rw[oz,wc,cl];rfl)];rfl
 ·rw[saw e2]at ev;rw[zq (env':=[.p (.l (oth.map zd)),.p (.l (ps.map zd)),.p (.int m),.p (yp (zL ns)),.p (.int k),.un]) (by rw[u9,wc,ev];rfl)]
  obtain⟨q,hq,oq⟩:∃q:zh,q=(2*(m / 64%6) - 1,m / 512%9 - 1)∧oj q:=⟨_,rfl,m / 64%6,rfl,by lia,by lia⟩
  have hput:zx tW (zi (xk (zw (wB (zw (f2 xR (f2 vC (fC (.int 2)) (f2 yA (f2 x6 (zf 2) (fC (.int 64))) (fC (.int 6)))) (fC (.int 1))) (zw (f2 xR (f2 yA (f2 x6 (zf 2) (fC (.int 512))) (fC (.int 9))) (fC (.int 1))) (yd)))) (yd))) (zi (zf 3) (zz))) [.p (.l (oth.map zd)),.p (.l (ps.map zd)),.p (.int m),.p (yp (zL ns)),.p (.int k),.un]=.ok (.fresh ([yo (zL ns) q].map zd)):=by
   have dm:∀a b:Int,0<a→a<2^250→0<b→f2 yA (f2 x6 (zf 2) (fC (.int a))) (fC (.int b)) [.p (.l (oth.map zd)),.p (.l (ps.map zd)),.p (.int m),.p (yp (zL ns)),.p (.int k),.un]=.ok (.p (.int (m / a%b))):=fun a b h1 h3 h4=>by
    rw[rj (x:=.p (.int (m / a))) (y:=.p (.int b)) (by
     rw[rj (x:=.p (.int m)) (y:=.p (.int a)) rfl rfl]
     exact VR h1 h3) rfl]
    exact aI h4
   have t:wB (zw (f2 xR (f2 vC (fC (.int 2)) (f2 yA (f2 x6 (zf 2) (fC (.int 64))) (fC (.int 6)))) (fC (.int 1))) (zw (f2 xR (f2 yA (f2 x6 (zf 2) (fC (.int 512))) (fC (.int 9))) (fC (.int 1))) (yd))) [.p (.l (oth.map zd)),.p (.l (ps.map zd)),.p (.int m),.p (yp (zL ns)),.p (.int k),.un]=.ok (.p (zd q)):=by
    rw[hq];simp only[wB,zw,yd,f2,dm 64 6 (by lia) (by decide) (by lia),dm 512 9 (by lia) (by decide) (by lia),zk];rfl
   have l:xk (zw (wB (zw (f2 xR (f2 vC (fC (.int 2)) (f2 yA (f2 x6 (zf 2) (fC (.int 64))) (fC (.int 6)))) (fC (.int 1))) (zw (f2 xR (f2 yA (f2 x6 (zf 2) (fC (.int 512))) (fC (.int 9))) (fC (.int 1))) (yd)))) (yd)) [.p (.l (oth.map zd)),.p (.l (ps.map zd)),.p (.int m),.p (yp (zL ns)),.p (.int k),.un]=.ok (.fresh ([q].map zd)):=by
    rw[xk,zw,t];rfl
   rw[zx,zi,l,zk];show((tW [.l ([q].map zd),yp (zL ns)]).bind _)=_;rw[au ns (by simp)];rfl
  rw[zq (env':=[.p (.l (oth.map zd)),.p (.l (ps.map zd)),.p (.int m),.p (yp (zL ns)),.p (.int k),.p (.l ([yo (zL ns) q].map zd))]) (by rw[zS,hput];rfl)]
  have bq:∃d,iy d∧yo (zL ns) q=yo (zL ns) d:=⟨q,fX oq,rfl⟩
  have lt:=Qz (vk1 (.p (.l ([yo (zL ns) q].map zd)))) (hlen (.p (.int k)) (.p (.l ([yo (zL ns) q].map zd))));by_cases l1:k+1<oth.length
  ·rw[sal (show(k:Int)+1<oth.length by lia)]at lt;have cl:=call oth[k] (yo (zL ns) q) oth[k+1] _ _ _ (.p (.l ([yo (zL ns) q].map zd))) (hix k _ (zf 4) _ _ hkl rfl rfl) (show f2 zX (zf 5) (fC (.int 0)) _=_ from rfl) (hix (k+1) ((k:Int)+1) (f2 yB (zf 4) (fC (.int 1))) _ _ l1 (by lia) rfl) (L.box _ (scq _)) bq (L.box _ (scq _));have cc:=V9 lt cl;rw[Bool.true_and]at cc
   by_cases fr:(ps.filter fun p=>xq oth[k] (yo (zL ns) q) oth[k+1] p)=[]
   ·rw[sal fr]at cc;have hsp:=bA l1;have L':=L;rw[hsp]at L';have L2:=L'.put bq (offB q oq) fr
    have e3:oth.take (k+1)++[yo (zL ns) q]++oth.drop (k+1)=oth.take k++oth[k]::yo (zL ns) q::oth[k+1]::oth.drop (k+2):=by
     rw[sbw hkl,sba l1,saF,saF];rfl
    rw[←e3]at L2;refine⟨_,_,L2,wX ?_,.inr rfl⟩
    rw[rN,wc,cc,zk,saf rfl,yu,rj (x:=.fresh ((oth.take (k+1)++[yo (zL ns) q]).map zd)) (by
     rw[rj (y:=.p (.l ([yo (zL ns) q].map zd))) (cutT (k+1) _ _ _ (by lia) (vk1 _)) rfl];show yB (.l ((oth.take (k+1)).map zd)) (.l ([yo (zL ns) q].map zd))=_
     rw[yB,saf (by simp;lia),saM]) (cutD_ (k+1) _ _ _ (by lia) (vk1 _))]
    show((yB (.l ((oth.take (k+1)++[yo (zL ns) q]).map zd)) (.l ((oth.drop (k+1)).map zd))).bind _)=_;rw[yB,saf (by simp;lia),saM (l₂:=oth.drop (k+1))];rfl
   ·rw[saw fr]at cc;refine⟨oth,.p (.l (oth.map zd)),L.up,?_,.inl rfl⟩;rw[zq (by rw[rN,wc,cc];rfl)];rfl
  ·rw[saw (show ¬(k:Int)+1<oth.length by lia)]at lt;refine⟨oth,.p (.l (oth.map zd)),L.up,?_,.inl rfl⟩;rw[zq (by rw[rN,wc,rf,lt];rfl)];rfl
theorem Vf {fa fb:FE}{E:Ev}{out:List zh}{x y:Val}(ha:fa E=.ok x)(hb:fb E=.ok y)(hx:x.d=.l (out.map zd))(hy:y.d=.l (out.map zd)):z0 (f2 lW fa fb) E=.ok false:=by
 rw[z0,rj ha hb,hx,hy,QL];rfl
theorem my {ps oth:List zh}{out:List D}{i j:Nat}{E:Ev}(hi:E[i]?=some (.p (.l (ps.map zd))))(hj:E[j]?=some (.p (.l (oth.map zd))))(h:xf [.l (ps.map zd),.l (oth.map zd)]=.ok (.fresh out)):zx xf (zi (zf i) (zi (zf j) (zz))) E=.ok (.fresh out):=by
 rw[zx,zi,zf,hi,zi,zf,hj,zz];show((xf [.l (ps.map zd),.l (oth.map zd)]).bind _)=_;rw[h];rfl
theorem main:∀ns:List Int,ns.length≤63→zP 9 jT [.scr ns]=.ok (.p (.bl true)):=by
 intro ns hns;have hpl:=UQ ns;have hfo:=aZ ns
 have hmany:(if(if(ns.length:Int)<12 then(ns.length:Int)else 12)>2 then(if(ns.length:Int)<12 then(ns.length:Int)else 12)else 2)=((max 2 (min 12 ns.length):Nat):Int):=by
  split <;> split <;> lia
 obtain⟨k,hk⟩:∃k:Nat,k=max 2 (min 12 ns.length):=⟨_,rfl⟩
 obtain⟨r0,hr0⟩:∃r0,r0=zQ ns 23 (yi ns) k:=⟨_,rfl⟩
 have hrope:qH [.scr ns,.int 23,.int (k:Int),.l ((yi ns).map zd)]=.ok (.fresh (r0.map zd)):=by
  have:=UC ns 23 k (yi ns) (by lia) (by lia) (by lia) (by lia) hpl;rw[hr0];simpa using this
 have hlen:r0.length=k:=by rw[hr0];exact sO ns 23 (yi ns) k
 have D1:Drawn (yi ns) r0:=by rw[hr0];exact jA ns 23 k
 have R1:=VQ hfo D1 (by lia) (by lia)
 have hlow:Q2 (z8 r0):=by
  obtain⟨j,rfl⟩:∃j,k=j+1:=⟨k - 1,by lia⟩
  have e:∀j,z8 (zQ ns 23 (yi ns) (j+1))=v7 (zC ns (23+((0:Nat):Int))):=fun j=>by
   induction j with
   |zero=>rfl
   | succ j ih=>
     rw[←ih];generalize hR:zQ ns 23 (yi ns) (j+1)=R;rw[zQ,hR];have:=sO ns 23 (yi ns) (j+1);rw[hR]at this
     cases R with
     |nil=>cases this
     |cons a l=>rfl
  rw[hr0,e];show -1≤zC ns (23+((0:Nat):Int)) / 6%9 - 1∧zC ns (23+((0:Nat):Int)) / 6%9 - 1≤7;lia
 have hne:r0≠[]:=fun z=>by rw[z]at hlen;simp at hlen;lia
 obtain⟨ps,hps⟩:∃ps,ps=(yi ns).map (yo (zL ns)):=⟨_,rfl⟩
 obtain⟨rope,hro⟩:∃rope,rope=r0.map (yo (zL ns)):=⟨_,rfl⟩
 have hp1:tW [.l ((yi ns).map zd),yp (zL ns)]=.ok (.fresh (ps.map zd)):=by rw[hps];exact au ns (by lia)
 have hp2:tW [.l (r0.map zd),yp (zL ns)]=.ok (.fresh (rope.map zd)):=by rw[hro];exact au ns (by lia)
 have hl:rope.length=k:=by rw[hro,sae,hlen]
 have hpl2:ps.length≤12:=by rw[hps,sae];exact hpl
 have boxR:∀c∈rope,∃d,iy d∧c=yo (zL ns) d:=by
  intro c hc;rw[hro]at hc;obtain⟨d,hd,rfl⟩:=saz.mp hc;exact⟨d,fX (D1.odd d hd),rfl⟩
 have boxL:∀c∈ps,∃d,iy d∧Q2 d∧c=yo (zL ns) d:=by
  intro c hc;rw[hps]at hc;obtain⟨d,hd,rfl⟩:=saz.mp hc;obtain⟨⟨i,h1,h2,h3⟩,h4,h5⟩:=rJ ns _ d hd;exact⟨d,⟨by lia,by lia⟩,⟨by lia,by lia⟩,rfl⟩
 have boxP:∀c∈ps,∃d,iy d∧c=yo (zL ns) d:=fun c hc=>(boxL c hc).imp fun _ h=>⟨h.1,h.2.2⟩
 have offB:∀d,oj d→(yo (zL ns) d).1∉(zo ps).map (·.1):=by
  intro d ⟨i',hi',_,_⟩ hx;obtain⟨l,hl',e⟩:=saz.mp hx;obtain⟨p',hp',e'⟩:=saz.mp (vR hl').1;rw[hps]at hp';obtain⟨p,hp,rfl⟩:=saz.mp hp';obtain⟨i,hi,_,_⟩:=D1.even p hp;have h2:(yo (zL ns) p).1=(yo (zL ns) d).1:=e'.trans e;have:=(Ze hfo _ _).mp h2;lia
 have hr1:Ub ((zL ns).u - 8*10^18) (z8 rope):=by
  rw[hro,XH _ hne];exact ZY hfo (fX (D1.odd _ (m7 hne))) hlow
 rw[←hps,←hro]at R1;obtain⟨out,hol,q0,q1⟩:=Y0 hfo boxL R1 boxR hr1;have t0:=ky R1 q0
 have L0:Like ns ps rope rope 12:=⟨R1.rp,R1.two,by lia,rfl,rfl,rfl,boxR⟩
 obtain⟨m,hm,hm12⟩:∃m:Nat,(if(12:Int)<(ns.length:Int)then(12:Int)else ns.length)=(m:Int)∧m≤12:=⟨min ns.length 12,by split <;> lia,by lia⟩
 have loop:=nV (g:=gN 7) (fb:=Zs) (fun j env=>∃oth s7,Like ns ps rope oth (12+j)∧env=[.p (.scr ns),.p (yp (zL ns)),.p (.l ((yi ns).map zd)),.p (.l (rope.map zd)),.p (.l (ps.map zd)),.p (.l (out.map zd)),.p (.l (oth.map zd)),s7,.un])
  (sv 0 m) 0 [.p (.scr ns),.p (yp (zL ns)),.p (.l ((yi ns).map zd)),.p (.l (rope.map zd)),.p (.l (ps.map zd)),.p (.l (out.map zd)),.p (.l (rope.map zd)),.un,.un] ⟨_,_,L0,rfl⟩ (by
   rintro j d env _ hd ⟨oth,s7,L,rfl⟩;obtain⟨hj,rfl⟩:=fO hd;rw[Nat.sub_zero]at hj ⊢;obtain⟨oth',v,L',hc,hv⟩:=Zl hpl2 (by lia) boxP offB L (zC ns (200+(0+(j:Int))));have R2:=L'.rp.ok R1.few R1.nodup L'.two (by have:=L'.len;lia);have t2:=ky R2 (out:=out) (by rw[L'.row,←L'.fst,←L'.l];exact q0);have al:=V_ R1 R2 L'.fst L'.l;rw[sal (show zN ((zE rope).flatMap (x3 (zo ps)))=zN ((zE oth').flatMap (x3 (zo ps)))from L'.row.symm)]at al;refine⟨[.p (.scr ns),.p (yp (zL ns)),.p (.l ((yi ns).map zd)),.p (.l (rope.map zd)),.p (.l (ps.map zd)),.p (.l (out.map zd)),.p (.l (oth.map zd)),.p (.int (0+(j:Int))),.un],[.p (.scr ns),.p (yp (zL ns)),.p (.l ((yi ns).map zd)),.p (.l (rope.map zd)),.p (.l (ps.map zd)),.p (.l (out.map zd)),.p (.l (oth'.map zd)),.p (.int (0+(j:Int))),.un],rfl,?_,oth',_,L',rfl⟩
   have hmx:zx yV (zi (zf 0) (zi (f2 yB (fC (.int 200)) (zf 7)) (zz))) [.p (.scr ns),.p (yp (zL ns)),.p (.l ((yi ns).map zd)),.p (.l (rope.map zd)),.p (.l (ps.map zd)),.p (.l (out.map zd)),.p (.l (oth.map zd)),.p (.int (0+(j:Int))),.un]=.ok (.p (.int (zC ns (200+(0+(j:Int)))))):=by
    show((yV [.scr ns,.int (200+(0+(j:Int)))]).bind _)=_;rw[Vj ns _ (by lia)];rfl
   have vs:∀i x,([.p (.scr ns),.p (yp (zL ns)),.p (.l ((yi ns).map zd)),.p (.l (rope.map zd)),.p (.l (ps.map zd)),.p (.l (out.map zd)),.p (.l (oth.map zd)),.p (.int (0+(j:Int))),.un]:Ev)[i]?=some (.p x)→zf i [.p (.scr ns),.p (yp (zL ns)),.p (.l ((yi ns).map zd)),.p (.l (rope.map zd)),.p (.l (ps.map zd)),.p (.l (out.map zd)),.p (.l (oth.map zd)),.p (.int (0+(j:Int))),.un]=.ok (.p x):=fun i x h=>by rw[zf,h]
   rw[Zs,zq (env':=[.p (.scr ns),.p (yp (zL ns)),.p (.l ((yi ns).map zd)),.p (.l (rope.map zd)),.p (.l (ps.map zd)),.p (.l (out.map zd)),.p (.l (oth'.map zd)),.p (.int (0+(j:Int))),.un]) (by
    rw[zS,zx,zi,vs 6 _ rfl,zk,zi,vs 4 _ rfl,zk,zi,hmx,zk,zi,vs 1 _ rfl,zk,zz];show(((uS [.l (oth.map zd),.l (ps.map zd),.int (zC ns (200+(0+(j:Int)))),yp (zL ns)]).bind _).bind _)=_;rw[hc]
    rcases hv with rfl|rfl <;> rfl)]
   have k1:oC (zx vM (zi (zf 4) (zi (zf 3) (zi (zf 6) (zz))))) [.p (.scr ns),.p (yp (zL ns)),.p (.l ((yi ns).map zd)),.p (.l (rope.map zd)),.p (.l (ps.map zd)),.p (.l (out.map zd)),.p (.l (oth'.map zd)),.p (.int (0+(j:Int))),.un]=.ok true:=by
    show(((vM [.l (ps.map zd),.l (rope.map zd),.l (oth'.map zd)]).bind _).bind _)=_;rw[al];rfl
   have k2:z0 (f2 lW (zx xf (zi (zf 4) (zi (zf 6) (zz)))) (zf 5)) [.p (.scr ns),.p (yp (zL ns)),.p (.l ((yi ns).map zd)),.p (.l (rope.map zd)),.p (.l (ps.map zd)),.p (.l (out.map zd)),.p (.l (oth'.map zd)),.p (.int (0+(j:Int))),.un]=.ok false:=Vf (out:=out) (y:=.p (.l (out.map zd))) (my rfl rfl t2) rfl rfl rfl;rw[VB,wc,XI,bf,k1,zk,zk];show((z0 _ _).bind _)=_;rw[k2]
   rfl)
 obtain⟨env1,l1,oth,s7,_,rfl⟩:=loop;have nb:rope.reverse≠[]:=fun z=>R1.ne (by simpa using z);have hj:=Xv (one:=rope) (other:=rope.reverse) R1.ne nb (pJ R1.ne).symm (by rw[sbk];lia);have Rb:=(R1.rp.rev).ok R1.few R1.nodup (by rw[sbk];exact R1.two) (by rw[sbk];exact R1.many);have Rj:RopeOk ps (rope++rope.reverse.tail):=(R1.rp.join Rb.rp R1.ne nb (pJ R1.ne).symm).ok R1.few R1.nodup (by have:=R1.two;simp;lia) (by simp;lia)
 have ej:zN (yg (zo ps) (rope++rope.reverse.tail))=[]:=by
  rw[Y9 _ R1.ne nb (pJ R1.ne).symm,jo];exact(cU (fN _) (fN _)).mpr rfl
 have fj:z8 (rope++rope.reverse.tail)=z8 rope:=by
  cases rope with
  |nil=>exact absurd rfl R1.ne
  |cons a l=>rfl
 have lj:ya (rope++rope.reverse.tail)=z8 rope:=by
  obtain⟨l,c,e⟩:∃l c,rope.reverse.tail=l++[c]:=by
   rcases wk rope.reverse.tail with z|z
   ·have:=congrArg List.length z;simp at this;lia
   ·exact z
  have e2:=qJ R1.ne
  have h3:rope.reverse=z8 rope.reverse::(l++[c]):=by
   rw[←e]
   cases h:rope.reverse with
   |nil=>exact absurd h nb
   |cons a l=>rfl
  rw[h3,←List.cons_append,mX]at e2;rw[e,←saF,mX,e2]
 have pj:=mH (fS hfo boxL Rj (fun c hc=>boxR c (by
  rcases san.mp hc with h|h
  ·exact h
  ·exact sbr.mp (List.mem_of_mem_tail h))) (.inl (by rw[fj];exact hr1)))
 rw[fj,lj,ej]at pj;obtain⟨o2,⟨T,tt,eo⟩,_,q2⟩:=pj
 have eo2:o2=[z8 rope,z8 rope]:=by
  rw[eo]
  cases tt with
  | cons P t=>
    cases t;rw[aw P rfl];simp[ko,co]
 have t3:=ky Rj (out:=o2) (by rw[fj,lj,ej];exact q2);rw[eo2]at t3;have bk:=TH rope;unfold jT;show(((zJ _ _:FS) [.p (.scr ns),.un,.un,.un,.un,.un,.un,.un,.un]).bind _)=_;have hpegs:mS [.scr ns]=.ok (.fresh ((yi ns).map zd)):=rfl;have hfr:pD [.scr ns]=.ok (.p (yp (zL ns))):=rfl
 rw[zq (env':=[.p (.scr ns),.p (yp (zL ns)),.un,.un,.un,.un,.un,.un,.un]) (by
  rw[zS];show(((pD [.scr ns]).bind _).bind _)=_;rw[hfr]
  rfl)]
 rw[zq (env':=[.p (.scr ns),.p (yp (zL ns)),.p (.l ((yi ns).map zd)),.un,.un,.un,.un,.un,.un]) (by
  rw[zS];show(((mS [.scr ns]).bind _).bind _)=_;rw[hpegs]
  rfl)]
 rw[zq (env':=[.p (.scr ns),.p (yp (zL ns)),.p (.l ((yi ns).map zd)),.p (.l (rope.map zd)),.un,.un,.un,.un,.un]) (by
  have hm:fB cY (zi (fC (.int 2)) (zi (fB p7 (zi (fC (.int 12)) (zi (fB uk (zi (zf 0) (zz))) (zz)))) (zz))) [.p (.scr ns),.p (yp (zL ns)),.p (.l ((yi ns).map zd)),.un,.un,.un,.un,.un,.un]=.ok (.p (.int (k:Int))):=by
   rw[hk,←hmany];rfl
  have h3:zx qH (zi (zf 0) (zi (fC (.int 23)) (zi (fB cY (zi (fC (.int 2)) (zi (fB p7 (zi (fC (.int 12)) (zi (fB uk (zi (zf 0) (zz))) (zz)))) (zz)))) (zi (zf 2) (zz))))) [.p (.scr ns),.p (yp (zL ns)),.p (.l ((yi ns).map zd)),.un,.un,.un,.un,.un,.un]=.ok (.fresh (r0.map zd)):=by
   have v0:zf 0 [.p (.scr ns),.p (yp (zL ns)),.p (.l ((yi ns).map zd)),.un,.un,.un,.un,.un,.un]=.ok (.p (.scr ns)):=rfl;have v2:fC (.int 23) [.p (.scr ns),.p (yp (zL ns)),.p (.l ((yi ns).map zd)),.un,.un,.un,.un,.un,.un]=.ok (.p (.int 23)):=rfl;rw[zx,zi,v0,zk,zi,v2,zk,zi,hm];show((qH [.scr ns,.int 23,.int (k:Int),.l ((yi ns).map zd)]).bind _)=_;rw[hrope];rfl
  rw[zS,zx,zi,h3];show(((tW [.l (r0.map zd),yp (zL ns)]).bind _).bind _)=_;rw[hp2]
  rfl)]
 rw[zq (env':=[.p (.scr ns),.p (yp (zL ns)),.p (.l ((yi ns).map zd)),.p (.l (rope.map zd)),.p (.l (ps.map zd)),.un,.un,.un,.un]) (by
  rw[zS];show(((tW [.l ((yi ns).map zd),yp (zL ns)]).bind _).bind _)=_;rw[hp1]
  rfl)]
 rw[zq (env':=[.p (.scr ns),.p (yp (zL ns)),.p (.l ((yi ns).map zd)),.p (.l (rope.map zd)),.p (.l (ps.map zd)),.p (.l (out.map zd)),.un,.un,.un]) (by
  rw[zS,my rfl rfl t0]
  rfl)]
 rw[zq (env':=[.p (.scr ns),.p (yp (zL ns)),.p (.l ((yi ns).map zd)),.p (.l (rope.map zd)),.p (.l (ps.map zd)),.p (.l (out.map zd)),.p (.l (rope.map zd)),.un,.un]) rfl]
 rw[zq (env':=[.p (.scr ns),.p (yp (zL ns)),.p (.l ((yi ns).map zd)),.p (.l (rope.map zd)),.p (.l (ps.map zd)),.p (.l (out.map zd)),.p (.l (oth.map zd)),s7,.un]) (by
  have hi:qp (zi (fB p7 (zi (fB uk (zi (zf 0) (zz))) (zi (fC (.int 12)) (zz)))) (zz)) [.p (.scr ns),.p (yp (zL ns)),.p (.l ((yi ns).map zd)),.p (.l (rope.map zd)),.p (.l (ps.map zd)),.p (.l (out.map zd)),.p (.l (rope.map zd)),.un,.un]=.ok (sv 0 m):=by
   have:=Z0 (f:=zi (fB p7 (zi (fB uk (zi (zf 0) (zz))) (zi (fC (.int 12)) (zz)))) (zz)) (env:=[.p (.scr ns),.p (yp (zL ns)),.p (.l ((yi ns).map zd)),.p (.l (rope.map zd)),.p (.l (ps.map zd)),.p (.l (out.map zd)),.p (.l (rope.map zd)),.un,.un]) (n:=(m:Int)) (by rw[←hm];rfl) (by lia);rw[this];rfl
  rw[vq,hi,zk]
  exact l1)]
 rw[zq (env':=[.p (.scr ns),.p (yp (zL ns)),.p (.l ((yi ns).map zd)),.p (.l (rope.map zd)),.p (.l (ps.map zd)),.p (.l (out.map zd)),.p (.l (oth.map zd)),s7,.p (.l (rope.reverse.map zd))]) (by
  rw[zS];show(((sR [.l (rope.map zd)]).bind _).bind _)=_;rw[bk]
  rfl)]
 rw[zq (env':=[.p (.scr ns),.p (yp (zL ns)),.p (.l ((yi ns).map zd)),.p (.l (rope.map zd)),.p (.l (ps.map zd)),.p (.l (out.map zd)),.p (.l (oth.map zd)),s7,.p (.l (rope.reverse.map zd))]) (by
  rw[VA,wc,Vf (out:=out.reverse) (y:=.fresh (out.reverse.map zd)) (my rfl rfl q1) (show _=Out.ok (Val.fresh (out.reverse.map zd))by rw[sct (l:=out)];rfl) rfl rfl]
  rfl)]
 have hjc:zx wt (zi (zf 3) (zi (zf 8) (zz))) [.p (.scr ns),.p (yp (zL ns)),.p (.l ((yi ns).map zd)),.p (.l (rope.map zd)),.p (.l (ps.map zd)),.p (.l (out.map zd)),.p (.l (oth.map zd)),s7,.p (.l (rope.reverse.map zd))]=.ok (.fresh ((rope++rope.reverse.tail).map zd)):=by
  show((wt [.l (rope.map zd),.l (rope.reverse.map zd)]).bind _)=_;rw[hj];rfl
 have htc:zx xf (zi (zf 4) (zi (zx wt (zi (zf 3) (zi (zf 8) (zz)))) (zz))) [.p (.scr ns),.p (yp (zL ns)),.p (.l ((yi ns).map zd)),.p (.l (rope.map zd)),.p (.l (ps.map zd)),.p (.l (out.map zd)),.p (.l (oth.map zd)),s7,.p (.l (rope.reverse.map zd))]=.ok (.fresh ([z8 rope,z8 rope].map zd)):=by
  have v4:zf 4 [.p (.scr ns),.p (yp (zL ns)),.p (.l ((yi ns).map zd)),.p (.l (rope.map zd)),.p (.l (ps.map zd)),.p (.l (out.map zd)),.p (.l (oth.map zd)),s7,.p (.l (rope.reverse.map zd))]=.ok (.p (.l (ps.map zd))):=rfl;rw[zx,zi,v4,zk,zi,hjc,zk,zz];show((xf [.l (ps.map zd),.l ((rope++rope.reverse.tail).map zd)]).bind _)=_;rw[t3];rfl
 have hfl:xk (zw (f2 zX (zf 3) (fC (.int 0))) (zw (f2 zX (zf 3) (fC (.int 0))) (yd))) [.p (.scr ns),.p (yp (zL ns)),.p (.l ((yi ns).map zd)),.p (.l (rope.map zd)),.p (.l (ps.map zd)),.p (.l (out.map zd)),.p (.l (oth.map zd)),s7,.p (.l (rope.reverse.map zd))]=.ok (.fresh ([z8 rope,z8 rope].map zd)):=by
  have h0:f2 zX (zf 3) (fC (.int 0)) [.p (.scr ns),.p (yp (zL ns)),.p (.l ((yi ns).map zd)),.p (.l (rope.map zd)),.p (.l (ps.map zd)),.p (.l (out.map zd)),.p (.l (oth.map zd)),s7,.p (.l (rope.reverse.map zd))]=.ok (.p (zd (z8 rope))):=by
   show zX (.l (rope.map zd)) (.int 0)=_;rw[Ym (qV R1.ne)]
  rw[xk,zw,h0,zk,zw,h0];rfl
 rw[yu,rj htc hfl];show(((mq (.l ([z8 rope,z8 rope].map zd)) (.l ([z8 rope,z8 rope].map zd))).bind _).bind _)=_;rw[mq,bt,jc 2];rfl
noncomputable def qh (i:Nat):Stmt:=PySem.Challenge.pw_tautline_k42_whole_alike_ropes_are_one_w.main.body.getD i (.Pass ⟨0,0,0,0⟩)
noncomputable abbrev pq:Stmt:=qh 36
theorem jj:FS_ ["_law_script","_law_k"] ["_law_script","_law_k"] (zD pq):=xW
noncomputable abbrev kC:Stmt:=qh 37
theorem cf:FS_ ["_law_script","_law_k","_law_cell","_law_j"] ["_law_script","_law_k"] (zD kC):=xW
noncomputable abbrev kz:Stmt:=qh 38
theorem d_:FS_ ["_law_script","_law_k","_law_cell","_law_number"] ["_law_script","_law_k"] (zD kz):=xW
noncomputable abbrev kA:Stmt:=qh 40
theorem cb:FS_ ["_law_script","_law_wide","_law_high","_law_far","_law_slant","_law_right"] ["_law_script"] (zD kA):=xW
noncomputable abbrev fK:Stmt:=qh 39
theorem ZS:FS_ ["_law_script","_law_number","_law_many","_law_found","_law_k","_law_peg"] ["_law_script"] (zD fK):=xW
noncomputable abbrev ZU:Stmt:=qh 41
theorem WC:FS_ ["_law_spots","_law_frame_here","_law_wide","_law_high","_law_slant","_law_right","_law_up"] ["_law_spots","_law_frame_here"] (zD ZU):=xW
noncomputable abbrev ZV:Stmt:=qh 42
theorem WE:FS_ ["_law_one","_law_other","_law_pegs_here","_law_x","_law_y","_law_rise"] ["_law_one","_law_other","_law_pegs_here"] (zD ZV):=xW
noncomputable abbrev fJ:Stmt:=qh 43
theorem ZR:FS_ ["_law_script","_law_start","_law_many","_law_pegs_here","_law_found","_law_k","_law_number","_law_corner"] ["_law_script","_law_start","_law_many","_law_pegs_here"] (zD fJ):=xW
noncomputable abbrev vw:Stmt:=qh 18
theorem qk:FS_ ["gate","later"] ["gate","later"] (zD vw):=xW
noncomputable abbrev vW:Stmt:=qh 17
theorem qE:FS_ ["row","kept","gate"] ["row"] (zD vW):=xW
noncomputable abbrev pf:Stmt:=qh 6
theorem jd:FS_ ["pegs","heights_by_x","x","y"] ["pegs"] (zD pf):=xW
noncomputable abbrev xN:Stmt:=qh 8
theorem uG:FS_ ["board","rope","taken","place","corner"] ["board","rope"] (zD xN):=xW
noncomputable abbrev vV:Stmt:=qh 10
theorem qD:FS_ ["rope"] ["rope"] (zD vV):=xW
noncomputable abbrev tV:Stmt:=qh 12
theorem o9:FS_ ["board","stretch","start","end"] ["board","stretch"] (zD tV):=xW
noncomputable abbrev tR:Stmt:=qh 13
theorem o7:FS_ ["stretch","peg","start","end","across","turn"] ["stretch","peg"] (zD tR):=xW
noncomputable abbrev xw:Stmt:=qh 11
theorem vG:FS_ ["board","stretch","x","heights"] ["board","stretch"] (zD xw):=xW
noncomputable abbrev xu:Stmt:=qh 9
theorem vF:FS_ ["board","rope","place","stretch"] ["board","rope"] (zD xu):=xW
noncomputable abbrev rF:Stmt:=qh 7
theorem lQ:FS_ ["pegs","rope","board"] ["pegs","rope"] (zD rF):=xW
noncomputable abbrev tU:Stmt:=qh 16
theorem o8:FS_ ["line","stretch","x","below","above","way"] ["line","stretch"] (zD tU):=xW
noncomputable abbrev rD:Stmt:=qh 15
theorem lO:FS_ ["pegs","rope","board","row","stretch"] ["pegs","rope"] (zD rD):=xW
noncomputable abbrev vv:Stmt:=qh 28
theorem qj:FS_ ["pegs","kept","peg"] ["pegs"] (zD vv):=xW
noncomputable abbrev vy:Stmt:=qh 24
theorem qm:FS_ ["gate","later"] ["gate","later"] (zD vy):=xW
noncomputable abbrev wJ:Stmt:=qh 23
theorem tP:FS_ ["gate","later","x"] ["gate","later"] (zD wJ):=xW
noncomputable abbrev wZ:Stmt:=qh 27
theorem sL:FS_ ["stretch","gate","told","low","high"] ["stretch","gate"] (zD wZ):=xW
noncomputable abbrev xC:Stmt:=qh 26
theorem uf:FS_ ["stretch","run","farthest","most","gate","beyond","peg"] ["stretch","run"] (zD xC):=xW
noncomputable abbrev vx:Stmt:=qh 25
theorem ql:FS_ ["start","run","goal","reached","goals","peg"] ["start","run","goal"] (zD vx):=xW
noncomputable abbrev tQ:Stmt:=qh 22
theorem o6:FS_ ["start","row","end","spots","run","gate","turn"] ["start","row","end"] (zD tQ):=xW
noncomputable abbrev wY:Stmt:=qh 29
theorem sJ:FS_ ["one","middle","other","across","up","next_across","next_up"] ["one","middle","other"] (zD wY):=xW
noncomputable abbrev rE:Stmt:=qh 21
theorem lP:FS_ ["start","row","end","way","bends"] ["start","row","end"] (zD rE):=xW
noncomputable abbrev o_:Stmt:=qh 31
theorem h7:FS_ ["pegs","rope","row"] ["pegs","rope"] (zD o_):=xW
noncomputable abbrev fI:Stmt:=qh 44
theorem ZQ:FS_ ["_law_one","_law_two","_law_three","_law_found"] ["_law_one","_law_two","_law_three"] (zD fI):=xW
noncomputable abbrev s_holds : Stmt := qh 45
theorem sc_holds : FS_ ["_law_one","_law_two","_law_three","_law_peg","_law_sides","_law_j","_law_some"] ["_law_one","_law_two","_law_three","_law_peg"] (zD s_holds) := xW
noncomputable abbrev fL:Stmt:=qh 46
theorem ZT:FS_ ["_law_one","_law_two","_law_three","_law_pegs_here"] ["_law_one","_law_two","_law_three","_law_pegs_here"] (zD fL):=xW
noncomputable abbrev ph:Stmt:=qh 47
theorem ji:FS_ ["_law_rope_here","_law_pegs_here","_law_number","_law_frame_here","_law_k","_law_spot"] ["_law_rope_here","_law_pegs_here","_law_number","_law_frame_here"] (zD ph):=xW
noncomputable abbrev pg:Stmt:=qh 19
theorem jh:FS_ ["pegs","one","other","row","other_row"] ["pegs","one","other"] (zD pg):=xW
noncomputable abbrev ng:Stmt:=qh 34
theorem h_:FS_ ["rope"] ["rope"] (zD ng):=xW
noncomputable abbrev rG:Stmt:=qh 33
theorem lR:FS_ ["one","other"] ["one","other"] (zD rG):=xW
noncomputable abbrev jk:Stmt:=qh 48
theorem WD:FS_ ["_law_script","_law_frame_here","_law_net","_law_rope_here","_law_pegs_here","_law_due","_law_other","_law_k","_law_turned_round"] ["_law_script"] (zD jk):=xW
section
variable (P:Program)(w:World)(K:Frag)(mg:Str→Option Value)(base:Heap)(k:Nat)
noncomputable abbrev lL:Prop:=Cal P w K mg base k "_law_cell_at" ["_law_script","_law_k"] wL
noncomputable abbrev dJ:Prop:=Cal P w K mg base k "_law_block" ["_law_script","_law_k"] uK
noncomputable abbrev pT:Prop:=Cal P w K mg base k "_law_mixed" ["_law_script","_law_k"] yV
noncomputable abbrev dI:Prop:=Cal P w K mg base k "_law_frame" ["_law_script"] pD
noncomputable abbrev ZA:Prop:=Cal P w K mg base k "_law_pegs" ["_law_script"] mS
noncomputable abbrev YO:Prop:=Cal P w K mg base k "_law_put" ["_law_spots","_law_frame_here"] tW
noncomputable abbrev Ue:Prop:=Cal P w K mg base k "_law_hit" ["_law_one","_law_other","_law_pegs_here"] cH
noncomputable abbrev Zz:Prop:=Cal P w K mg base k "_law_rope" ["_law_script","_law_start","_law_many","_law_pegs_here"] qH
noncomputable abbrev tB:Prop:=Cal P w K mg base k "to_and_fro" ["gate","later"] yR
noncomputable abbrev ud:Prop:=Cal P w K mg base k "shortened" ["row"] yf
noncomputable abbrev pS:Prop:=Cal P w K mg base k "lines" ["pegs"] wK
noncomputable abbrev vd:Prop:=Cal P w K mg base k "refuse_corners" ["board","rope"] xg
noncomputable abbrev v_:Prop:=Cal P w K mg base k "stretches" ["rope"] y_
noncomputable abbrev ux:Prop:=Cal P w K mg base k "crossed" ["board","stretch"] yk
noncomputable abbrev uw:Prop:=Cal P w K mg base k "side_of" ["stretch","peg"] yI
noncomputable abbrev wH:Prop:=Cal P w K mg base k "goes_through_peg" ["board","stretch"] yT
noncomputable abbrev wG:Prop:=Cal P w K mg base k "refuse_stretches" ["board","rope"] yS
noncomputable abbrev oS:Prop:=Cal P w K mg base k "looked" ["pegs","rope"] u0
noncomputable abbrev q_:Prop:=Cal P w K mg base k "gate_of" ["line","stretch"] uh
noncomputable abbrev qd:Prop:=Cal P w K mg base k "row_of" ["pegs","rope"] xP
noncomputable abbrev tx:Prop:=Cal P w K mg base k "unrepeated" ["pegs"] xc
noncomputable abbrev tF:Prop:=Cal P w K mg base k "lies_below" ["gate","later"] xh
noncomputable abbrev vT:Prop:=Cal P w K mg base k "turning_pegs" ["gate","later"] yN
noncomputable abbrev uF:Prop:=Cal P w K mg base k "pegs_beyond" ["stretch","gate"] yJ
noncomputable abbrev wU:Prop:=Cal P w K mg base k "farthest_beyond" ["stretch","run"] yq
noncomputable abbrev tD:Prop:=Cal P w K mg base k "run_pulled" ["start","run","goal"] yv
noncomputable abbrev q9:Prop:=Cal P w K mg base k "touched" ["start","row","end"] xK
noncomputable abbrev uE:Prop:=Cal P w K mg base k "straight_on" ["one","middle","other"] yX
noncomputable abbrev oR:Prop:=Cal P w K mg base k "pulled" ["start","row","end"] wq
noncomputable abbrev iu:Prop:=Cal P w K mg base k "taut" ["pegs","rope"] xf
noncomputable abbrev Zy:Prop:=Cal P w K mg base k "_law_side" ["_law_one","_law_two","_law_three"] ow
noncomputable abbrev C_holds : Prop := Cal P w K mg base k "_law_holds" ["_law_one","_law_two","_law_three","_law_peg"] n_holds
noncomputable abbrev ZC:Prop:=Cal P w K mg base k "_law_free" ["_law_one","_law_two","_law_three","_law_pegs_here"] qI
noncomputable abbrev lK:Prop:=Cal P w K mg base k "_law_changed" ["_law_rope_here","_law_pegs_here","_law_number","_law_frame_here"] uS
noncomputable abbrev lJ:Prop:=Cal P w K mg base k "alike" ["pegs","one","other"] vM
noncomputable abbrev iw:Prop:=Cal P w K mg base k "back" ["rope"] sR
noncomputable abbrev oT:Prop:=Cal P w K mg base k "joined" ["one","other"] wt
end
section
variable {P:Program}{w:World}{K:Frag}{mg:Str→Option Value}{base:Heap}{k:Nat}{f:Addr}{fd:FuncData}
theorem bK (F:Fun K "_law_cell_at" "_law_cell_at" pq f fd) (hm:mg "_law_cell_at" = some (.ref f))  (b_len:mg "len" = none):lL P w K mg base (k+1):=by
 have nd:=(jj).nd
 exact Cal.imp (m:=zP 2 pK) ⟨f,fd,yK (N:=["_law_script","_law_k"]) F jj fun cdv A outer s G H E hr=>
  zl (y0 (tp (dv 1) (yw yx uC b_len PySem.boot_len (kj (dv 0))))
  (zu (zY (zA (dv 0) (dv 1))))
  yb)
  (zu (zY zj)),hm,F.kp,eJ F "_law_script" "_law_k" fun _ _ _ _ _ _ _ _=>rfl⟩ eh
theorem X3 (F:Fun K "_law_block" "_law_block" kC f fd) (hm:mg "_law_block" = some (.ref f))  (b_len:mg "len" = none) (b_range:mg "range" = none):dJ P w K mg base (k+1):=by
 have nd:=(cf).nd
 exact Cal.imp (m:=zP 4 kJ) ⟨f,fd,yK (N:=["_law_script","_law_k","_law_cell","_law_j"]) F cf fun cdv A outer s G H E hr=>
  zl (zG (i:=2) true nd zj)
  (zl (y0 (tp (yF zj (yE (w_ (dv 1) zj) zj)) (yw yx uC b_len PySem.boot_len (kj (dv 0))))
  (zu (zG (i:=2) true nd (w_ (zA (dv 0) (yF zj (yE (w_ (dv 1) zj) zj))) (lq zj zj))))
  yb)
  (zl (w9 saU (rm b_range (kj (yE (dv 1) zj))) (yQ (i:=3) nd)
  (zu (zG (i:=2) true nd (w_ (dv 2) zj))))
  (zu (zY (dv 2))))),hm,F.kp,eJ F "_law_script" "_law_k" fun _ _ _ _ _ _ _ _=>rfl⟩ aH
theorem X1 (F:Fun K "_law_mixed" "_law_mixed" kz f fd) (hm:mg "_law_mixed" = some (.ref f)) (c_block:dJ P w K mg base k) (b_len:mg "len" = none) (b_min:mg "min" = none):pT P w K mg base (k+1):=by
 have nd:=(d_).nd
 exact Cal.imp (m:=zP 4 eO) ⟨f,fd,yK (N:=["_law_script","_law_k","_law_cell","_law_number"]) F d_ fun cdv A outer s G H E hr=>
  zl (zG (i:=2) true nd zj)
  (zl (y0 (p9 (yw yx uC b_len PySem.boot_len (kj (dv 0))) zj)
  (zu (zG (i:=2) true nd (zA (dv 0) zj)))
  yb)
  (zl (y0 (oG (rR (gS (uL hr) (yE (w_ (dv 2) (lq zj zj)) zj) zj) (uO (lX (uL hr) (tq c_block hr (dv 0) (dv 1)) zj))))
  (zu (zY (yE (tq c_block hr (dv 0) (dv 1)) zj)))
  yb)
  (zl (y0 (p9 (yw yx uC b_len PySem.boot_len (kj (dv 0))) zj)
  (zu (zG (i:=2) true nd (zA (dv 0) (yE (dv 1) (yw (lx rfl) df b_min boot_min (RF zj (yw yx uC b_len PySem.boot_len (kj (dv 0)))))))))
  yb)
  (zl (zG (i:=3) true nd (yF (yE (dv 2) (lq zj zj)) (xG zj (yF (dv 1) zj))))
  (zl (zG (i:=3) true nd (yF (yE (xG (dv 3) (dv 3)) zj) (xG zj (dv 1))))
  (zu (zY (yE (xG (dv 3) (dv 3)) zj)))))))),hm,F.kp,eJ F "_law_script" "_law_k" fun _ _ _ _ _ _ _ _=>rfl⟩ aF
theorem X2 (F:Fun K "_law_frame" "_law_frame" kA f fd) (hm:mg "_law_frame" = some (.ref f)) (c_cell_at:lL P w K mg base k) (c_mixed:pT P w K mg base k)  : dI P w K mg base (k+1):=by
 have nd:=(cb).nd
 exact Cal.imp (m:=zP 6 eP) ⟨f,fd,yK (N:=["_law_script","_law_wide","_law_high","_law_far","_law_slant","_law_right"]) F cb fun cdv A outer s G H E hr=>
  zl (zG (i:=1) true nd (zA (y9 (zy zj (zy (yF zj (yE (tq c_cell_at hr (dv 0) zj) (lq zj zj))) zZ))) (yE (tq c_mixed hr (dv 0) zj) zj)))
  (zl (zG (i:=2) true nd (zA (y9 (zy zj (zy (yF zj (yE (tq c_cell_at hr (dv 0) zj) (lq zj zj))) zZ))) (yE (tq c_mixed hr (dv 0) zj) zj)))
  (zl (zG (i:=3) true nd (zA (y9 (zy zj (zy (lq zj zj) zZ))) (yE (tq c_mixed hr (dv 0) zj) zj)))
  (zl (zG (i:=4) true nd (yU (yE (tq c_mixed hr (dv 0) zj) zj) zj))
  (zl (zG (i:=5) true nd (yU (yE (tq c_cell_at hr (dv 0) zj) (dv 3)) (w_ (dv 3) zj)))
  (zu (zY (xi (zy (dv 1) (zy (dv 2) (zy (dv 4) (zy (dv 5) (zy (yU (yE (tq c_cell_at hr (dv 0) zj) (dv 3)) (w_ (dv 3) zj)) zZ)))))))))))),hm,F.kp,Ro F "_law_script" fun _ _ _ _ _ _ _=>rfl⟩ aG
theorem VZ (F:Fun K "_law_pegs" "_law_pegs" fK f fd) (hm:mg "_law_pegs" = some (.ref f)) (c_mixed:pT P w K mg base k) (b_range:mg "range" = none):ZA P w K mg base (k+1):=by
 have nd:=(ZS).nd
 exact Cal.imp (m:=zP 6 Zb) ⟨f,fd,yK (N:=["_law_script","_law_number","_law_many","_law_found","_law_k","_law_peg"]) F ZS fun cdv A outer s G H E hr=>
  zl (zG (i:=1) true nd (tq c_mixed hr (dv 0) zj))
  (zl (zG (i:=2) true nd (zA (y9 (zy (yE (dv 1) zj) (zy (yE (dv 1) zj) (zy zj zZ)))) (yE (w_ (yE (w_ (dv 1) zj) zj) zj) zj)))
  (zl (zG (i:=3) false nd (y9 zZ))
  (zl (w9 saU (rm b_range (kj (dv 2))) (yQ (i:=4) nd)
  (zl (zG (i:=1) true nd (tq c_mixed hr (dv 0) (yF zj (dv 4))))
  (zl (zG (i:=5) true nd (xi (zy (xG zj (yE (dv 1) zj)) (zy (yE (w_ (dv 1) zj) zj) zZ))))
  (zu (y0 (Rt (uL hr) (dv 5) (dv 3))
  (zu (wN (pv 3) (dv 5)))
  yb)))))
  (zu (zY (dv 3)))))),hm,F.kp,Ro F "_law_script" fun _ _ _ _ _ _ _=>rfl⟩ Xk
theorem Tx (F:Fun K "_law_put" "_law_put" ZU f fd) (hm:mg "_law_put" = some (.ref f))   : YO P w K mg base (k+1):=by
 have nd:=(WC).nd
 exact Cal.imp (m:=zP 7 Yu) ⟨f,fd,yK (N:=["_law_spots","_law_frame_here","_law_wide","_law_high","_law_slant","_law_right","_law_up"]) F WC fun cdv A outer s G H E hr=>
  zl (Rw (dv 1) (rS rfl (ym (i:=2) nd (ym (i:=3) nd (ym (i:=4) nd (ym (i:=5) nd (ym (i:=6) nd (uQ))))))))
  (zu (zY (v5 (cap:=[2,5,3,4,6]) (own:=["_law_x","_law_y"]) ⟨rfl,by decide +kernel,by decide +kernel,rfl,rfl⟩ (y8 (dv 0)) (fun _ _ _=>rS rfl (ym (i:=5) (show(["_law_wide","_law_right","_law_high","_law_slant","_law_up","_law_x","_law_y"]:List Str).Nodup from by decide +kernel) (ym (i:=6) (show(["_law_wide","_law_right","_law_high","_law_slant","_law_up","_law_x","_law_y"]:List Str).Nodup from by decide +kernel) (uQ)))) (j9 [5,6]) (fun _ _ _=>n6) (fun _ _ _=>xi (zy (yF (xG (dv 0) (dv 5)) (dv 1)) (zy (yF (yF (xG (dv 2) (dv 6)) (xG (dv 3) (dv 5))) (dv 4)) zZ)))))),hm,F.kp,eJ F "_law_spots" "_law_frame_here" fun _ _ _ _ _ _ _ _=>rfl⟩ Vb
theorem Tz (F:Fun K "_law_hit" "_law_hit" ZV f fd) (hm:mg "_law_hit" = some (.ref f))   : Ue P w K mg base (k+1):=by
 have nd:=(WE).nd
 exact Cal.imp (m:=zP 6 c_) ⟨f,fd,yK (N:=["_law_one","_law_other","_law_pegs_here","_law_x","_law_y","_law_rise"]) F WE fun cdv A outer s G H E hr=>
  zl (w9 saU (y8 (dv 2)) (rS rfl (ym (i:=3) nd (ym (i:=4) nd (uQ))))
  (zu (y0 (oG (gR (oG (rR (tp (zA (dv 0) zj) (dv 3)) (uO (tp (dv 3) (zA (dv 1) zj))))) (m_ (oG (rR (tp (zA (dv 1) zj) (dv 3)) (uO (tp (dv 3) (zA (dv 0) zj))))))))
  (zl (zG (i:=5) true nd (xG (yU (zA (dv 1) zj) (zA (dv 0) zj)) (yU (dv 3) (zA (dv 0) zj))))
  (zu (y0 (gS (uL hr) (dv 5) (xG (yU (dv 4) (zA (dv 0) zj)) (yU (zA (dv 1) zj) (zA (dv 0) zj))))
  (zu (zY n8))
  yb)))
  yb)))
  (zu (zY n8)),hm,F.kp,Rn F "_law_one" "_law_other" "_law_pegs_here" fun _ _ _ _ _ _ _ _ _=>rfl⟩ Vc
theorem VY (F:Fun K "_law_rope" "_law_rope" fJ f fd) (hm:mg "_law_rope" = some (.ref f)) (c_mixed:pT P w K mg base k) (c_hit:Ue P w K mg base k) (b_range:mg "range" = none):Zz P w K mg base (k+1):=by
 have nd:=(ZR).nd
 exact Cal.imp (m:=zP 8 eN) ⟨f,fd,yK (N:=["_law_script","_law_start","_law_many","_law_pegs_here","_law_found","_law_k","_law_number","_law_corner"]) F ZR fun cdv A outer s G H E hr=>
  zl (zG (i:=4) false nd (y9 zZ))
  (zl (w9 saU (rm b_range (kj (dv 2))) (yQ (i:=5) nd)
  (zl (zG (i:=6) true nd (tq c_mixed hr (dv 0) (yF (dv 1) (dv 5))))
  (zl (zG (i:=7) true nd (xi (zy (yU (xG zj (yE (dv 6) zj)) zj) (zy (yU (yE (w_ (dv 6) zj) zj) zj) zZ))))
  (zl (y0 (oG (rR (p9 (dv 5) zj) (uO (gS (uL hr) (yE (w_ (dv 6) zj) zj) zj))))
  (zu (zG (i:=7) true nd (zA (dv 4) (x8 zj))))
  yb)
  (zl (bz 100 saU (oG (rR (p9 (dv 5) zj) (uO (w8 (XQ c_hit hr (zA (dv 4) (x8 zj)) (dv 7) (dv 3))))))
  (zu (zG (i:=7) true nd (xi (zy (zA (dv 7) zj) (zy (yF (zA (dv 7) zj) zj) zZ))))))
  (zu (wN (pv 4) (dv 7))))))))
  (zu (zY (dv 4)))),hm,F.kp,Q_ F "_law_script" "_law_start" "_law_many" "_law_pegs_here" fun _ _ _ _ _ _ _ _ _ _=>rfl⟩ Xj
theorem lz (F:Fun K "to_and_fro" "to_and_fro" vw f fd) (hm:mg "to_and_fro" = some (.ref f))   : tB P w K mg base (k+1):=by
 have nd:=(qk).nd
 exact Cal.imp (m:=zP 2 wy) ⟨f,fd,yK (N:=["gate","later"]) F qk fun cdv A outer s G H E hr=>
  zu (zY (e_ (gW (uL hr) (t4 (dv 0) (wO) (xT zj)) (t4 (dv 1) (wO) (xT zj))) (Zf (QO (uL hr) (zA (dv 0) zj) (zA (dv 1) zj))))),hm,F.kp,eJ F "gate" "later" fun _ _ _ _ _ _ _ _=>rfl⟩ nO
theorem km (F:Fun K "shortened" "shortened" vW f fd) (hm:mg "shortened" = some (.ref f)) (c_p_to_and_fro:tB P w K mg base k)  : ud P w K mg base (k+1):=by
 have nd:=(qE).nd
 exact Cal.imp (m:=zP 3 sC) ⟨f,fd,yK (N:=["row","kept","gate"]) F qE fun cdv A outer s G H E hr=>
  zl (zG (i:=1) false nd (y9 zZ))
  (zl (w9 saU (y8 (dv 0)) (yQ (i:=2) nd)
  (zu (y0 (oG (rR (w8 (dv 1)) (uO (w8 (tq c_p_to_and_fro hr (zA (dv 1) (x8 zj)) (dv 2))))))
  (zu (Rv (pv 1)))
  (zu (wN (pv 1) (dv 2))))))
  (zu (zY (dv 1)))),hm,F.kp,Ro F "row" fun _ _ _ _ _ _ _=>rfl⟩ mR
theorem bH (F:Fun K "lines" "lines" pf f fd) (hm:mg "lines" = some (.ref f))  (b_len:mg "len" = none) (b_set:mg "set" = none) (b_sorted:mg "sorted" = none) (b_list:mg "list" = none):pS P w K mg base (k+1):=by
 have nd:=(jd).nd
 exact Cal.imp (m:=zP 4 m8) ⟨f,fd,yK (N:=["pegs","heights_by_x","x","y"]) F jd fun cdv A outer s G H E hr=>
  zl (y0 (tp (Zh (uL hr) (dv 0) b_len b_set) (yw yx uC b_len PySem.boot_len (kj (dv 0))))
  (zu rk) yb)
  (XN (jw (WT (i:=1) nd rfl (Or.inl rfl) W2)
  (jw (WV saU rfl (Z6 (jB dg rfl b_sorted boot_sorted (yP (pv 0) x4))) (WY rfl (jz (kE (i:=2) nd rfl (Or.inl rfl)) (jz (kE (i:=3) nd rfl (Or.inl rfl)) Z7)))
  (fT (pA (cB sbM PySem.F.slot_list_append PySem.F.type_list_append pE (cB PySem.F.plainAttrs_dict PySem.F.slot_dict_setdefault PySem.F.type_dict_setdefault Xn (pv 1) (yP (pv 2) (yP (W0 x4) x4))) (yP (pv 3) x4)))))
  (fT (WU (mL (j_ rfl) rfl b_list boot_list (yP (aB PySem.F.plainAttrs_dict PySem.F.slot_dict_items PySem.F.type_dict_items Vh (pv 1)) x4)))))) rfl),hm,F.kp,Ro F "pegs" fun _ _ _ _ _ _ _=>rfl⟩ fZ
theorem qT (F:Fun K "refuse_corners" "refuse_corners" xN f fd) (hm:mg "refuse_corners" = some (.ref f))  (b_enumerate:mg "enumerate" = none):vd P w K mg base (k+1):=by
 have nd:=(uG).nd
 exact Cal.imp (m:=zP 5 yO) ⟨f,fd,yK (N:=["board","rope","taken","place","corner"]) F uG fun cdv A outer s G H E hr=>
  zl ((by first|exact kM (i:=2) true nd (cap:=[]) (own:=["line"]) ⟨rfl,by decide +kernel,by decide +kernel,rfl,rfl⟩ (y8 (dv 0)) (fun _ _ _=>yQ (i:=0) (show(["line"]:List Str).Nodup from by decide +kernel)) (xI 0) (fun _ _ _=>n6) (fun _ _ _=>zA (dv 0) zj)|exact zG (i:=2) true nd (v5 (cap:=[]) (own:=["line"]) ⟨rfl,by decide +kernel,by decide +kernel,rfl,rfl⟩ (y8 (dv 0)) (fun _ _ _=>yQ (i:=0) (show(["line"]:List Str).Nodup from by decide +kernel)) (xI 0) (fun _ _ _=>n6) (fun _ _ _=>zA (dv 0) zj))))
  (zu (w9 saU (YA b_enumerate (dv 1)) (rS rfl (ym (i:=3) nd (ym (i:=4) nd (uQ))))
  (zu (y0 (QM (uL hr) (zA (dv 4) zj) (dv 2))
  (zu rk)
  yb)))),hm,F.kp,eJ F "board" "rope" fun _ _ _ _ _ _ _ _=>rfl⟩ qq
theorem kl (F:Fun K "stretches" "stretches" vV f fd) (hm:mg "stretches" = some (.ref f))  (b_list:mg "list" = none) (b_zip:mg "zip" = none):v_ P w K mg base (k+1):=by
 have nd:=(qD).nd
 exact Cal.imp (m:=zP 1 vY) ⟨f,fd,yK (N:=["rope"]) F qD fun cdv A outer s G H E hr=>
  zu (zY (Zg (dv 0) (t4 (dv 0) (xT zj) (wO)) b_list b_zip)),hm,F.kp,Ro F "rope" fun _ _ _ _ _ _ _=>rfl⟩ mQ
theorem iQ (F:Fun K "crossed" "crossed" tV f fd) (hm:mg "crossed" = some (.ref f))  (b_reversed:mg "reversed" = none):ux P w K mg base (k+1):=by
 have nd:=(o9).nd
 exact Cal.imp (m:=zP 4 vm) ⟨f,fd,yK (N:=["board","stretch","start","end"]) F o9 fun cdv A outer s G H E hr=>
  zl (zG (i:=2) true nd (zA (zA (dv 1) zj) zj))
  (zl (zG (i:=3) true nd (zA (zA (dv 1) zj) zj))
  (zl (y0 (tp (dv 2) (dv 3))
  (zu (zY (v5 (cap:=[2,3]) (own:=["line"]) ⟨rfl,by decide +kernel,by decide +kernel,rfl,rfl⟩ (y8 (dv 0)) (fun _ _ _=>yQ (i:=2) (show(["start","end","line"]:List Str).Nodup from by decide +kernel)) (xI 2) (fun _ _ _=>uP (Yy (dv 0) (zA (dv 2) zj) (dv 1))) (fun _ _ _=>dv 2))))
  yb)
  (zu (zY (v5 (cap:=[3,2]) (own:=["line"]) ⟨rfl,by decide +kernel,by decide +kernel,rfl,rfl⟩ (Rx b_reversed (dv 0)) (fun _ _ _=>yQ (i:=2) (show(["end","start","line"]:List Str).Nodup from by decide +kernel)) (xI 2) (fun _ _ _=>uP (Yy (dv 0) (zA (dv 2) zj) (dv 1))) (fun _ _ _=>dv 2)))))),hm,F.kp,eJ F "board" "stretch" fun _ _ _ _ _ _ _ _=>rfl⟩ jG
theorem iO (F:Fun K "side_of" "side_of" tR f fd) (hm:mg "side_of" = some (.ref f))   : uw P w K mg base (k+1):=by
 have nd:=(o7).nd
 exact Cal.imp (m:=zP 6 vg) ⟨f,fd,yK (N:=["stretch","peg","start","end","across","turn"]) F o7 fun cdv A outer s G H E hr=>
  zl (zG (i:=2) true nd (zA (dv 0) zj))
  (zl (zG (i:=3) true nd (zA (dv 0) zj))
  (zl (zG (i:=4) true nd (yU (zA (dv 3) zj) (zA (dv 2) zj)))
  (zl (zG (i:=5) true nd (yU (xG (dv 4) (yU (zA (dv 1) zj) (zA (dv 2) zj))) (xG (yU (zA (dv 3) zj) (zA (dv 2) zj)) (yU (zA (dv 1) zj) (zA (dv 2) zj)))))
  (zu (zY (T8 (p9 (dv 4) zj) (dv 5) (x8 (dv 5)))))))),hm,F.kp,eJ F "stretch" "peg" fun _ _ _ _ _ _ _ _=>rfl⟩ jE
theorem rZ (F:Fun K "goes_through_peg" "goes_through_peg" xw f fd) (hm:mg "goes_through_peg" = some (.ref f)) (c_p_crossed:ux P w K mg base k) (c_p_side_of:uw P w K mg base k) (b_any:mg "any" = none):wH P w K mg base (k+1):=by
 have nd:=(vG).nd
 exact Cal.imp (m:=zP 4 yD) ⟨f,fd,yK (N:=["board","stretch","x","heights"]) F vG fun cdv A outer s G H E hr=>
  zl (w9 saU (y8 (tq c_p_crossed hr (dv 0) (dv 1))) (rS rfl (ym (i:=2) nd (ym (i:=3) nd (uQ))))
  (zu (y0 (w8 (yw (X0 rfl) RH b_any boot_any (kj (v5 (cap:=[1,2]) (own:=["y"]) ⟨rfl,by decide +kernel,by decide +kernel,rfl,rfl⟩ (y8 (dv 3)) (fun _ _ _=>yQ (i:=2) (show(["stretch","x","y"]:List Str).Nodup from by decide +kernel)) (xI 2) (fun _ _ _=>n6) (fun _ _ _=>gW (uL hr) (tq c_p_side_of hr (dv 0) (xi (zy (dv 1) (zy (dv 2) zZ)))) zj)))))
  (zu (zY n8))
  yb)))
  (zu (zY n8)),hm,F.kp,eJ F "board" "stretch" fun _ _ _ _ _ _ _ _=>rfl⟩ sQ
theorem rY (F:Fun K "refuse_stretches" "refuse_stretches" xu f fd) (hm:mg "refuse_stretches" = some (.ref f)) (c_p_stretches:v_ P w K mg base k) (c_p_goes_through_peg:wH P w K mg base k) (b_enumerate:mg "enumerate" = none):wG P w K mg base (k+1):=by
 have nd:=(vF).nd
 exact Cal.imp (m:=zP 4 yC) ⟨f,fd,yK (N:=["board","rope","place","stretch"]) F vF fun cdv A outer s G H E hr=>
  zu (w9 saU (YA b_enumerate (XR c_p_stretches hr (dv 1))) (rS rfl (ym (i:=2) nd (ym (i:=3) nd (uQ))))
  (zu (y0 (w8 (tq c_p_goes_through_peg hr (dv 0) (dv 3)))
  (zu rk)
  yb))),hm,F.kp,eJ F "board" "rope" fun _ _ _ _ _ _ _ _=>rfl⟩ sP
theorem dr (F:Fun K "looked" "looked" rF f fd) (hm:mg "looked" = some (.ref f)) (c_p_lines:pS P w K mg base k) (c_p_refuse_corners:vd P w K mg base k) (c_p_refuse_stretches:wG P w K mg base k) (b_len:mg "len" = none):oS P w K mg base (k+1):=by
 have nd:=(lQ).nd
 exact Cal.imp (m:=zP 3 rQ) ⟨f,fd,yK (N:=["pegs","rope","board"]) F lQ fun cdv A outer s G H E hr=>
  zl (zG (i:=2) true nd (XR c_p_lines hr (dv 0)))
  (zl (y0 (tp (yw yx uC b_len PySem.boot_len (kj (dv 1))) zj)
  (zu rk)
  yb)
  (zl (eY (tq c_p_refuse_corners hr (dv 2) (dv 1)))
  (zu (eY (tq c_p_refuse_stretches hr (dv 2) (dv 1)))))),hm,F.kp,eJ F "pegs" "rope" fun _ _ _ _ _ _ _ _=>rfl⟩ iG
theorem iP (F:Fun K "gate_of" "gate_of" tU f fd) (hm:mg "gate_of" = some (.ref f)) (c_p_side_of:uw P w K mg base k) (b_min:mg "min" = none) (b_max:mg "max" = none):q_ P w K mg base (k+1):=by
 have nd:=(o8).nd
 exact Cal.imp (m:=zP 6 vh) ⟨f,fd,yK (N:=["line","stretch","x","below","above","way"]) F o8 fun cdv A outer s G H E hr=>
  zl (zG (i:=2) true nd (zA (dv 0) zj))
  (zl ((by first|exact kM (i:=3) true nd (cap:=[1,2]) (own:=["y"]) ⟨rfl,by decide +kernel,by decide +kernel,rfl,rfl⟩ (y8 (zA (dv 0) zj)) (fun _ _ _=>yQ (i:=2) (show(["stretch","x","y"]:List Str).Nodup from by decide +kernel)) (xI 2) (fun _ _ _=>uP (tp (tq c_p_side_of hr (dv 0) (xi (zy (dv 1) (zy (dv 2) zZ)))) zj)) (fun _ _ _=>dv 2)|exact zG (i:=3) true nd (v5 (cap:=[1,2]) (own:=["y"]) ⟨rfl,by decide +kernel,by decide +kernel,rfl,rfl⟩ (y8 (zA (dv 0) zj)) (fun _ _ _=>yQ (i:=2) (show(["stretch","x","y"]:List Str).Nodup from by decide +kernel)) (xI 2) (fun _ _ _=>uP (tp (tq c_p_side_of hr (dv 0) (xi (zy (dv 1) (zy (dv 2) zZ)))) zj)) (fun _ _ _=>dv 2))))
  (zl ((by first|exact kM (i:=4) true nd (cap:=[1,2]) (own:=["y"]) ⟨rfl,by decide +kernel,by decide +kernel,rfl,rfl⟩ (y8 (zA (dv 0) zj)) (fun _ _ _=>yQ (i:=2) (show(["stretch","x","y"]:List Str).Nodup from by decide +kernel)) (xI 2) (fun _ _ _=>uP (p9 (tq c_p_side_of hr (dv 0) (xi (zy (dv 1) (zy (dv 2) zZ)))) zj)) (fun _ _ _=>dv 2)|exact zG (i:=4) true nd (v5 (cap:=[1,2]) (own:=["y"]) ⟨rfl,by decide +kernel,by decide +kernel,rfl,rfl⟩ (y8 (zA (dv 0) zj)) (fun _ _ _=>yQ (i:=2) (show(["stretch","x","y"]:List Str).Nodup from by decide +kernel)) (xI 2) (fun _ _ _=>uP (p9 (tq c_p_side_of hr (dv 0) (xi (zy (dv 1) (zy (dv 2) zZ)))) zj)) (fun _ _ _=>dv 2))))
  (zl (zG (i:=5) true nd (T8 (tp (zA (zA (dv 1) zj) zj) (dv 2)) zj (x8 zj)))
  (zu (zY (xi (zy (dv 2) (zy (RB (dv 3) b_max) (zy (RA (dv 4) b_min) (zy (dv 5) zZ)))))))))),hm,F.kp,eJ F "line" "stretch" fun _ _ _ _ _ _ _ _=>rfl⟩ jF
theorem dj (F:Fun K "row_of" "row_of" rD f fd) (hm:mg "row_of" = some (.ref f)) (c_p_looked:oS P w K mg base k) (c_p_lines:pS P w K mg base k) (c_p_stretches:v_ P w K mg base k) (c_p_crossed:ux P w K mg base k) (c_p_gate_of:q_ P w K mg base k)  : qd P w K mg base (k+1):=by
 have nd:=(lO).nd
 exact Cal.imp (m:=zP 5 vP) ⟨f,fd,yK (N:=["pegs","rope","board","row","stretch"]) F lO fun cdv A outer s G H E hr=>
  zl (eY (tq c_p_looked hr (dv 0) (dv 1)))
  (zl (zG (i:=2) true nd (XR c_p_lines hr (dv 0)))
  (zl (zG (i:=3) false nd (y9 zZ))
  (zl (w9 saU (y8 (XR c_p_stretches hr (dv 1))) (yQ (i:=4) nd)
  (zu (lh (pv 3) (v5 (cap:=[4]) (own:=["line"]) ⟨rfl,by decide +kernel,by decide +kernel,rfl,rfl⟩ (y8 (tq c_p_crossed hr (dv 2) (dv 4))) (fun _ _ _=>yQ (i:=1) (show(["stretch","line"]:List Str).Nodup from by decide +kernel)) (xI 1) (fun _ _ _=>n6) (fun _ _ _=>tq c_p_gate_of hr (dv 1) (dv 0))))))
  (zu (zY (dv 3)))))),hm,F.kp,eJ F "pegs" "rope" fun _ _ _ _ _ _ _ _=>rfl⟩ iE
theorem ly (F:Fun K "unrepeated" "unrepeated" vv f fd) (hm:mg "unrepeated" = some (.ref f))   : tx P w K mg base (k+1):=by
 have nd:=(qj).nd
 exact Cal.imp (m:=zP 3 wx) ⟨f,fd,yK (N:=["pegs","kept","peg"]) F qj fun cdv A outer s G H E hr=>
  zl (zG (i:=1) false nd (y9 zZ))
  (zl (w9 saU (y8 (dv 0)) (yQ (i:=2) nd)
  (zu (y0 (oG (gR (eX (w8 (dv 1))) (m_ (lX (uL hr) (zA (dv 1) (x8 zj)) (dv 2)))))
  (zu (wN (pv 1) (dv 2)))
  yb)))
  (zu (zY (dv 1)))),hm,F.kp,Ro F "pegs" fun _ _ _ _ _ _ _=>rfl⟩ nN
theorem lB (F:Fun K "lies_below" "lies_below" vy f fd) (hm:mg "lies_below" = some (.ref f))   : tF P w K mg base (k+1):=by
 have nd:=(qm).nd
 exact Cal.imp (m:=zP 2 wA) ⟨f,fd,yK (N:=["gate","later"]) F qm fun cdv A outer s G H E hr=>
  zu (zY (e_ (YB (zA (dv 0) zj) lr) (e_ (YB (zA (dv 1) zj) lr) (Zf (QP (zA (dv 0) zj) (zA (dv 1) zj)))))),hm,F.kp,eJ F "gate" "later" fun _ _ _ _ _ _ _ _=>rfl⟩ nQ
theorem oI (F:Fun K "turning_pegs" "turning_pegs" wJ f fd) (hm:mg "turning_pegs" = some (.ref f)) (c_p_lies_below:tF P w K mg base k)  : vT P w K mg base (k+1):=by
 have nd:=(tP).nd
 exact Cal.imp (m:=zP 3 xF) ⟨f,fd,yK (N:=["gate","later","x"]) F tP fun cdv A outer s G H E hr=>
  zl (zG (i:=2) true nd (zA (dv 0) zj))
  (zl (y0 (w8 (tq c_p_lies_below hr (dv 0) (dv 1)))
  (zu (zY (xi (zy (xi (zy (dv 2) (zy (zA (dv 0) zj) zZ))) (zy (xi (zy (dv 2) (zy (zA (dv 1) zj) zZ))) zZ)))))
  yb)
  (zu (zY (xi (zy (xi (zy (dv 2) (zy (zA (dv 0) zj) zZ))) (zy (xi (zy (dv 2) (zy (zA (dv 1) zj) zZ))) zZ)))))),hm,F.kp,eJ F "gate" "later" fun _ _ _ _ _ _ _ _=>rfl⟩ pV
theorem mh (F:Fun K "pegs_beyond" "pegs_beyond" wZ f fd) (hm:mg "pegs_beyond" = some (.ref f)) (c_p_side_of:uw P w K mg base k)  : uF P w K mg base (k+1):=by
 have nd:=(sL).nd
 exact Cal.imp (m:=zP 5 xY) ⟨f,fd,yK (N:=["stretch","gate","told","low","high"]) F sL fun cdv A outer s G H E hr=>
  zl (zG (i:=2) false nd (y9 zZ))
  (zl (y0 (Yx (zA (dv 1) zj) lr)
  (zl (zG (i:=3) true nd (xi (zy (zA (dv 1) zj) (zy (zA (dv 1) zj) zZ))))
  (zu (wN (pv 2) (xi (zy (tq c_p_side_of hr (dv 0) (dv 3)) (zy (dv 3) zZ))))))
  yb)
  (zl (y0 (Yx (zA (dv 1) zj) lr)
  (zl (zG (i:=4) true nd (xi (zy (zA (dv 1) zj) (zy (zA (dv 1) zj) zZ))))
  (zu (wN (pv 2) (xi (zy (x8 (tq c_p_side_of hr (dv 0) (dv 4))) (zy (dv 4) zZ))))))
  yb)
  (zu (zY (dv 2))))),hm,F.kp,eJ F "stretch" "gate" fun _ _ _ _ _ _ _ _=>rfl⟩ ou
theorem qu (F:Fun K "farthest_beyond" "farthest_beyond" xC f fd) (hm:mg "farthest_beyond" = some (.ref f)) (c_p_crossed:ux P w K mg base k) (c_p_pegs_beyond:uF P w K mg base k)  : wU P w K mg base (k+1):=by
 have nd:=(uf).nd
 exact Cal.imp (m:=zP 7 yZ) ⟨f,fd,yK (N:=["stretch","run","farthest","most","gate","beyond","peg"]) F uf fun cdv A outer s G H E hr=>
  zl (zG (i:=2) true nd lr)
  (zl (zG (i:=3) true nd zj)
  (zl (w9 saU (y8 (tq c_p_crossed hr (dv 1) (dv 0))) (yQ (i:=4) nd)
  (zu (w9 saU (y8 (tq c_p_pegs_beyond hr (dv 0) (dv 4))) (rS rfl (ym (i:=5) nd (ym (i:=6) nd (uQ))))
  (zu (y0 (p9 (dv 5) (dv 3))
  (zl (zG (i:=2) true nd (dv 6))
  (zu (zG (i:=3) true nd (dv 5))))
  yb)))))
  (zu (zY (dv 2))))),hm,F.kp,eJ F "stretch" "run" fun _ _ _ _ _ _ _ _=>rfl⟩ rK
theorem lA (F:Fun K "run_pulled" "run_pulled" vx f fd) (hm:mg "run_pulled" = some (.ref f)) (c_p_farthest_beyond:wU P w K mg base k)  : tD P w K mg base (k+1):=by
 have nd:=(ql).nd
 exact Cal.imp (m:=zP 6 wz) ⟨f,fd,yK (N:=["start","run","goal","reached","goals","peg"]) F ql fun cdv A outer s G H E hr=>
  zl (zG (i:=3) false nd (y9 (zy (dv 0) zZ)))
  (zl (zG (i:=4) false nd (y9 (zy (dv 2) zZ)))
  (zl (bz 100 saU (w8 (dv 4))
  (zl (zG (i:=5) true nd (tq c_p_farthest_beyond hr (xi (zy (zA (dv 3) (x8 zj)) (zy (zA (dv 4) (x8 zj)) zZ))) (dv 1)))
  (zu (y0 (Ru (dv 5) lr)
  (zu (XO (pv 3) (pv 4)))
  (zu (wN (pv 4) (dv 5)))))))
  (zu (zY (t4 (dv 3) (xT zj) (wO)))))),hm,F.kp,Rn F "start" "run" "goal" fun _ _ _ _ _ _ _ _ _=>rfl⟩ nP
theorem iN (F:Fun K "touched" "touched" tQ f fd) (hm:mg "touched" = some (.ref f)) (c_p_turning_pegs:vT P w K mg base k) (c_p_run_pulled:tD P w K mg base k)  : q9 P w K mg base (k+1):=by
 have nd:=(o6).nd
 exact Cal.imp (m:=zP 7 um) ⟨f,fd,yK (N:=["start","row","end","spots","run","gate","turn"]) F o6 fun cdv A outer s G H E hr=>
  zl (zG (i:=3) false nd (y9 (zy (dv 0) zZ)))
  (zl (zG (i:=4) false nd (y9 zZ))
  (zl (w9 saU (y8 (dv 1)) (yQ (i:=5) nd)
  (zl (y0 (oG (rR (w8 (dv 4)) (uO (lX (uL hr) (zA (zA (dv 4) (x8 zj)) zj) (zA (dv 5) zj)))))
  (zl (zG (i:=6) true nd (tq c_p_turning_pegs hr (zA (dv 4) (x8 zj)) (dv 5)))
  (zl (lh (pv 3) (XQ c_p_run_pulled hr (zA (dv 3) (x8 zj)) (dv 4) (zA (dv 6) zj)))
  (zl (wN (pv 3) (zA (dv 6) zj))
  (zu (zG (i:=4) false nd (y9 zZ))))))
  yb)
  (zu (wN (pv 4) (dv 5)))))
  (zl (lh (pv 3) (XQ c_p_run_pulled hr (zA (dv 3) (x8 zj)) (dv 4) (dv 2)))
  (zu (zY (t4 (dv 3) (xT zj) (xT (x8 zj)))))))),hm,F.kp,Rn F "start" "row" "end" fun _ _ _ _ _ _ _ _ _=>rfl⟩ jD
theorem mf (F:Fun K "straight_on" "straight_on" wY f fd) (hm:mg "straight_on" = some (.ref f))   : uE P w K mg base (k+1):=by
 have nd:=(sJ).nd
 exact Cal.imp (m:=zP 7 xX) ⟨f,fd,yK (N:=["one","middle","other","across","up","next_across","next_up"]) F sJ fun cdv A outer s G H E hr=>
  zl (zG (i:=3) true nd (yU (zA (dv 1) zj) (zA (dv 0) zj)))
  (zl (zG (i:=4) true nd (yU (zA (dv 1) zj) (zA (dv 0) zj)))
  (zl (zG (i:=5) true nd (yU (zA (dv 2) zj) (zA (dv 1) zj)))
  (zl (zG (i:=6) true nd (yU (zA (dv 2) zj) (zA (dv 1) zj)))
  (zu (zY (e_ (gW (uL hr) (xG (dv 3) (dv 6)) (xG (dv 4) (dv 5))) (Zf (QR (yF (xG (dv 3) (dv 5)) (xG (dv 4) (dv 6))) zj)))))))),hm,F.kp,Rn F "one" "middle" "other" fun _ _ _ _ _ _ _ _ _=>rfl⟩ oo
theorem dk (F:Fun K "pulled" "pulled" rE f fd) (hm:mg "pulled" = some (.ref f)) (c_p_unrepeated:tx P w K mg base k) (c_p_touched:q9 P w K mg base k) (c_p_straight_on:uE P w K mg base k) (b_zip:mg "zip" = none):oR P w K mg base (k+1):=by
 have nd:=(lP).nd
 exact Cal.imp (m:=zP 5 tj) ⟨f,fd,yK (N:=["start","row","end","way","bends"]) F lP fun cdv A outer s G H E hr=>
  zl (zG (i:=3) true nd (yF (yF (y9 (zy (dv 0) zZ)) (XR c_p_unrepeated hr (XQ c_p_touched hr (dv 0) (dv 1) (dv 2)))) (y9 (zy (dv 2) zZ))))
  (zl ((by first|exact kM (i:=4) true nd (cap:=[]) (own:=["one","middle","other"]) ⟨rfl,by decide +kernel,by decide +kernel,rfl,rfl⟩ (Yz b_zip (dv 3) (t4 (dv 3) (xT zj) (wO)) (t4 (dv 3) (xT zj) (wO))) (fun _ _ _=>rS rfl (ym (i:=0) (show(["one","middle","other"]:List Str).Nodup from by decide +kernel) (ym (i:=1) (show(["one","middle","other"]:List Str).Nodup from by decide +kernel) (ym (i:=2) (show(["one","middle","other"]:List Str).Nodup from by decide +kernel) (uQ))))) (j9 [0,1,2]) (fun _ _ _=>uP (eX (w8 (XQ c_p_straight_on hr (dv 0) (dv 1) (dv 2))))) (fun _ _ _=>dv 1)|exact zG (i:=4) true nd (v5 (cap:=[]) (own:=["one","middle","other"]) ⟨rfl,by decide +kernel,by decide +kernel,rfl,rfl⟩ (Yz b_zip (dv 3) (t4 (dv 3) (xT zj) (wO)) (t4 (dv 3) (xT zj) (wO))) (fun _ _ _=>rS rfl (ym (i:=0) (show(["one","middle","other"]:List Str).Nodup from by decide +kernel) (ym (i:=1) (show(["one","middle","other"]:List Str).Nodup from by decide +kernel) (ym (i:=2) (show(["one","middle","other"]:List Str).Nodup from by decide +kernel) (uQ))))) (j9 [0,1,2]) (fun _ _ _=>uP (eX (w8 (XQ c_p_straight_on hr (dv 0) (dv 1) (dv 2))))) (fun _ _ _=>dv 1))))
  (zu (zY (yF (yF (y9 (zy (dv 0) zZ)) (dv 4)) (y9 (zy (dv 2) zZ)))))),hm,F.kp,Rn F "start" "row" "end" fun _ _ _ _ _ _ _ _ _=>rfl⟩ iF
theorem Zn (F:Fun K "taut" "taut" o_ f fd) (hm:mg "taut" = some (.ref f)) (c_p_shortened:ud P w K mg base k) (c_p_row_of:qd P w K mg base k) (c_p_pulled:oR P w K mg base k)  : iu P w K mg base (k+1):=by
 have nd:=(h7).nd
 exact Cal.imp (m:=zP 3 qN) ⟨f,fd,yK (N:=["pegs","rope","row"]) F h7 fun cdv A outer s G H E hr=>
  zl (zG (i:=2) true nd (XR c_p_shortened hr (tq c_p_row_of hr (dv 0) (dv 1))))
  (zu (zY (XQ c_p_pulled hr (zA (dv 1) zj) (dv 2) (zA (dv 1) (x8 zj))))),hm,F.kp,eJ F "pegs" "rope" fun _ _ _ _ _ _ _ _=>rfl⟩ cF
theorem VX (F:Fun K "_law_side" "_law_side" fI f fd) (hm:mg "_law_side" = some (.ref f))   : Zy P w K mg base (k+1):=by
 have nd:=(ZQ).nd
 exact Cal.imp (m:=zP 4 eM) ⟨f,fd,yK (N:=["_law_one","_law_two","_law_three","_law_found"]) F ZQ fun cdv A outer s G H E hr=>
  zl (zG (i:=3) true nd (xG (yU (zA (dv 1) zj) (zA (dv 0) zj)) (yU (zA (dv 2) zj) (zA (dv 0) zj))))
  (zu (zY (yU (dv 3) (xG (yU (zA (dv 1) zj) (zA (dv 0) zj)) (yU (zA (dv 2) zj) (zA (dv 0) zj)))))),hm,F.kp,Rn F "_law_one" "_law_two" "_law_three" fun _ _ _ _ _ _ _ _ _=>rfl⟩ Xi
theorem cal_holds (F:Fun K "_law_holds" "_law_holds" s_holds f fd) (hm:mg "_law_holds" = some (.ref f)) (c_side:Zy P w K mg base k) (b_min:mg "min" = none) (b_max:mg "max" = none) (b_range:mg "range" = none):C_holds P w K mg base (k+1):=by
 have nd:=(sc_holds).nd
 exact Cal.imp (m:=zP 7 f_holds) ⟨f,fd,yK (N:=["_law_one","_law_two","_law_three","_law_peg","_law_sides","_law_j","_law_some"]) F sc_holds fun cdv A outer s G H E hr=>
  zl (zG (i:=4) true nd (y9 (zy (XQ c_side hr (dv 0) (dv 1) (dv 3)) (zy (XQ c_side hr (dv 1) (dv 2) (dv 3)) (zy (XQ c_side hr (dv 2) (dv 0) (dv 3)) zZ)))))
  (zl (y0 (oG (rR (tp (yw (gX rfl) YH b_min boot_min (kj (dv 4))) zj) (uO (p9 (yw (gY rfl) YI b_max boot_max (kj (dv 4))) zj))))
  (zu (zY n8))
  yb)
  (zl (w9 saU (rm b_range (kj zj)) (yQ (i:=5) nd)
  (zl (zG (i:=6) true nd (y9 (zy (zA (dv 0) (dv 5)) (zy (zA (dv 1) (dv 5)) (zy (zA (dv 2) (dv 5)) zZ)))))
  (zu (y0 (oG (gR (tp (zA (dv 3) (dv 5)) (yw (gX rfl) YH b_min boot_min (kj (dv 6)))) (m_ (p9 (zA (dv 3) (dv 5)) (yw (gY rfl) YI b_max boot_max (kj (dv 6)))))))
  (zu (zY n8))
  yb))))
  (zu (zY n8)))),hm,F.kp,Q_ F "_law_one" "_law_two" "_law_three" "_law_peg" fun _ _ _ _ _ _ _ _ _ _=>rfl⟩ nice_holds
theorem V0 (F : Fun K "_law_free" "_law_free" fL f fd) (hm : mg "_law_free" = some (.ref f)) (c_holds : C_holds P w K mg base k)  : ZC P w K mg base (k + 1) := by
 have nd:=(ZT).nd
 exact Cal.imp (m:=zP 4 jU) ⟨f,fd,yK (N:=["_law_one","_law_two","_law_three","_law_pegs_here"]) F ZT fun cdv A outer s G H E hr=>
  zu (zY (gW (uL hr) (v5 (cap:=[0,1,2]) (own:=["_law_peg"]) ⟨rfl,by decide +kernel,by decide +kernel,rfl,rfl⟩ (y8 (dv 3)) (fun _ _ _=>yQ (i:=3) (show(["_law_one","_law_two","_law_three","_law_peg"]:List Str).Nodup from by decide +kernel)) (xI 3) (fun _ _ _=>uP (w8 (RC c_holds hr (dv 0) (dv 1) (dv 2) (dv 3)))) (fun _ _ _=>dv 3)) (y9 zZ))),hm,F.kp,Q_ F "_law_one" "_law_two" "_law_three" "_law_pegs_here" fun _ _ _ _ _ _ _ _ _ _=>rfl⟩ Xl
theorem bJ (F:Fun K "_law_changed" "_law_changed" ph f fd) (hm:mg "_law_changed" = some (.ref f)) (c_free:ZC P w K mg base k) (c_put:YO P w K mg base k) (b_len:mg "len" = none):lK P w K mg base (k+1):=by
 have nd:=(ji).nd
 exact Cal.imp (m:=zP 6 uT) ⟨f,fd,yK (N:=["_law_rope_here","_law_pegs_here","_law_number","_law_frame_here","_law_k","_law_spot"]) F ji fun cdv A outer s G H E hr=>
  zl (zG (i:=4) true nd (yE (w_ (dv 2) zj) (yw yx uC b_len PySem.boot_len (kj (dv 0)))))
  (zl (y0 (gS (uL hr) (yE (dv 2) zj) zj)
  (zl (y0 (oG (gR (gS (uL hr) (dv 4) zj) (m_ (gS (uL hr) (yF (dv 4) zj) (yw yx uC b_len PySem.boot_len (kj (dv 0)))))))
  (zu (zY (dv 0)))
  yb)
  (zl (y0 (w8 (RC c_free hr (zA (dv 0) (yU (dv 4) zj)) (zA (dv 0) (dv 4)) (zA (dv 0) (yF (dv 4) zj)) (dv 1)))
  (zu (zY (yF (t4 (dv 0) (wO) (xT (dv 4))) (t4 (dv 0) (xT (yF (dv 4) zj)) (wO)))))
  yb)
  (zu (zY (dv 0)))))
  yb)
  (zl (zG (i:=5) true nd (tq c_put hr (y9 (zy (xi (zy (yU (xG zj (yE (w_ (dv 2) zj) zj)) zj) (zy (yU (yE (w_ (dv 2) zj) zj) zj) zZ))) zZ)) (dv 3)))
  (zl (y0 (oG (rR (tp (yF (dv 4) zj) (yw yx uC b_len PySem.boot_len (kj (dv 0)))) (uO (w8 (RC c_free hr (zA (dv 0) (dv 4)) (zA (dv 5) zj) (zA (dv 0) (yF (dv 4) zj)) (dv 1))))))
  (zu (zY (yF (yF (t4 (dv 0) (wO) (xT (yF (dv 4) zj))) (dv 5)) (t4 (dv 0) (xT (yF (dv 4) zj)) (wO)))))
  yb)
  (zu (zY (dv 0)))))),hm,F.kp,Q_ F "_law_rope_here" "_law_pegs_here" "_law_number" "_law_frame_here" fun _ _ _ _ _ _ _ _ _ _=>rfl⟩ ee
theorem bI (F:Fun K "alike" "alike" pg f fd) (hm:mg "alike" = some (.ref f)) (c_p_shortened:ud P w K mg base k) (c_p_row_of:qd P w K mg base k)  : lJ P w K mg base (k+1):=by
 have nd:=(jh).nd
 exact Cal.imp (m:=zP 5 s_) ⟨f,fd,yK (N:=["pegs","one","other","row","other_row"]) F jh fun cdv A outer s G H E hr=>
  zl (zG (i:=3) true nd (XR c_p_shortened hr (tq c_p_row_of hr (dv 0) (dv 1))))
  (zl (zG (i:=4) true nd (XR c_p_shortened hr (tq c_p_row_of hr (dv 0) (dv 2))))
  (zl (y0 (oG (gR (lX (uL hr) (zA (dv 1) zj) (zA (dv 2) zj)) (m_ (lX (uL hr) (zA (dv 1) (x8 zj)) (zA (dv 2) (x8 zj))))))
  (zu rk)
  yb)
  (zu (zY (gW (uL hr) (dv 3) (dv 4)))))),hm,F.kp,Rn F "pegs" "one" "other" fun _ _ _ _ _ _ _ _ _=>rfl⟩ f_
theorem Zo (F:Fun K "back" "back" ng f fd) (hm:mg "back" = some (.ref f))  (b_list:mg "list" = none) (b_reversed:mg "reversed" = none):iw P w K mg base (k+1):=by
 have nd:=(h_).nd
 exact Cal.imp (m:=zP 1 nY) ⟨f,fd,yK (N:=["rope"]) F h_ fun cdv A outer s G H E hr=>
  zu (zY (jW (dv 0) b_list b_reversed)),hm,F.kp,Ro F "rope" fun _ _ _ _ _ _ _=>rfl⟩ cG
theorem dt (F:Fun K "joined" "joined" rG f fd) (hm:mg "joined" = some (.ref f))   : oT P w K mg base (k+1):=by
 have nd:=(lR).nd
 exact Cal.imp (m:=zP 2 tm) ⟨f,fd,yK (N:=["one","other"]) F lR fun cdv A outer s G H E hr=>
  zl (y0 (lX (uL hr) (zA (dv 0) (x8 zj)) (zA (dv 1) zj))
  (zu rk)
  yb)
  (zu (zY (yF (dv 0) (t4 (dv 1) (xT zj) (wO))))),hm,F.kp,eJ F "one" "other" fun _ _ _ _ _ _ _ _=>rfl⟩ iH
theorem S3 (F:Fun K "law" "law" jk f fd) (c_frame:dI P w K mg base k) (c_pegs:ZA P w K mg base k) (c_put:YO P w K mg base k) (c_rope:Zz P w K mg base k) (c_p_taut:iu P w K mg base k) (c_changed:lK P w K mg base k) (c_mixed:pT P w K mg base k) (c_p_alike:lJ P w K mg base k) (c_p_back:iw P w K mg base k) (c_p_joined:oT P w K mg base k) (b_len:mg "len" = none) (b_min:mg "min" = none) (b_max:mg "max" = none) (b_list:mg "list" = none) (b_range:mg "range" = none) (b_reversed:mg "reversed" = none)  : FnOk P w K mg base Uk (k+1) f fd ["_law_script"] (TV K (zP 9 jT) 1):=by
 have nd:=(WD).nd
 exact yK (N:=["_law_script","_law_frame_here","_law_net","_law_rope_here","_law_pegs_here","_law_due","_law_other","_law_k","_law_turned_round"]) F WD fun cdv A outer s G H E hr=>
  zl (zG (i:=1) true nd (XR c_frame hr (dv 0)))
  (zl (zG (i:=2) true nd (XR c_pegs hr (dv 0)))
  (zl (zG (i:=3) true nd (tq c_put hr (RC c_rope hr (dv 0) zj (yw (XY rfl) Tv b_max boot_max (RF zj (yw (lx rfl) df b_min boot_min (RF zj (yw yx uC b_len PySem.boot_len (kj (dv 0))))))) (dv 2)) (dv 1)))
  (zl (zG (i:=4) true nd (tq c_put hr (dv 2) (dv 1)))
  (zl (zG (i:=5) true nd (tq c_p_taut hr (dv 4) (dv 3)))
  (zl (zG (i:=6) true nd (VS dh Tw b_list boot_list (kj (dv 3))))
  (zl (w9 saU (rm b_range (kj (yw (lx rfl) df b_min boot_min (RF (yw yx uC b_len PySem.boot_len (kj (dv 0))) zj)))) (yQ (i:=7) nd)
  (zl (zG (i:=6) true nd (RC c_changed hr (dv 6) (dv 4) (tq c_mixed hr (dv 0) (yF zj (dv 7))) (dv 1)))
  (zu (y0 (oG (gR (eX (w8 (XQ c_p_alike hr (dv 4) (dv 3) (dv 6)))) (m_ (lX (uL hr) (tq c_p_taut hr (dv 4) (dv 6)) (dv 5)))))
  (zu (zY n8))
  yb))))
  (zl (zG (i:=8) true nd (XR c_p_back hr (dv 3)))
  (zl (y0 (lX (uL hr) (tq c_p_taut hr (dv 4) (dv 8)) (jW (dv 5) b_list b_reversed))
  (zu (zY n8))
  yb)
  (zu (zY (gW (uL hr) (tq c_p_taut hr (dv 4) (tq c_p_joined hr (dv 3) (dv 8))) (y9 (zy (zA (dv 3) zj) (zy (zA (dv 3) zj) zZ))))))))))))))
end
noncomputable abbrev A_ (K:Frag)(x:Str)(f:Addr):Prop:=PySem.W.nsIn K mainGlobals x=some (some (.ref f))
noncomputable abbrev L_ (K:Frag)(f:Addr)(x:Str)(s:Stmt)(oc kV dc pm cd ct:Value)(od an:Option Addr)(sl:Array (Option Value)):Prop:=K.lookup f=some ⟨oc,od,.func (PySem.W.fnOf x x (vZ s) (w4 s) (zD s) .none kV dc pm an cd ct),sl⟩
noncomputable abbrev D_ (K:Frag)(cd:Value)(x:Str):Prop:=PySem.W.codeIn K cd x=true
noncomputable abbrev P_ (K:Frag)(f:Addr):Prop:=PySem.W.keepIn K (.ref f)=true
theorem RP {l:PySem.W.OpenLaw}{w:World}{K:Frag}{h:Heap}{mg:Str→Option Value}{fa f1 f2 f3 f4 f5 f6 f7 f8 f9 f10 f11 f12 f13 f14 f15 f16 f17 f18 f19 f20 f21 f22 f23 f24 f25 f26 f27 f28 f29 f30 f31 f32 f33 f34 f35 f36 f37 f38:Addr}(X:K.In h)(G:h.Ns mainGlobals mg)(hfa:mg "law" = some (.ref fa))
 {od1 an1 od2 an2 od3 an3 od4 an4 od5 an5 od6 an6 od7 an7 od8 an8 od9 an9 od10 an10 od11 an11 od12 an12 od13 an13 od14 an14 od15 an15 od16 an16 od17 an17 od18 an18 od19 an19 od20 an20 od21 an21 od22 an22 od23 an23 od24 an24 od25 an25 od26 an26 od27 an27 od28 an28 od29 an29 od30 an30 od31 an31 od32 an32 od33 an33 od34 an34 od35 an35 od36 an36 od37 an37 od38 an38:Option Addr} {sl1 sl2 sl3 sl4 sl5 sl6 sl7 sl8 sl9 sl10 sl11 sl12 sl13 sl14 sl15 sl16 sl17 sl18 sl19 sl20 sl21 sl22 sl23 sl24 sl25 sl26 sl27 sl28 sl29 sl30 sl31 sl32 sl33 sl34 sl35 sl36 sl37 sl38:Array (Option Value)} {oc1 kV1 XR pm1 cd1 ct1 oc2 kV2 tq pm2 cd2 ct2 oc3 kV3 XQ pm3 cd3 ct3 oc4 kV4 RC pm4 cd4 ct4 oc5 kV5 dc5 pm5 cd5 ct5 oc6 kV6 dc6 pm6 cd6 ct6 oc7 kV7 dc7 pm7 cd7 ct7 oc8 kV8 dc8 pm8 cd8 ct8 oc9 kV9 dc9 pm9 cd9 ct9 oc10 kV10 dc10 pm10 cd10 ct10 oc11 kV11 dc11 pm11 cd11 ct11 oc12 kV12 dc12 pm12 cd12 ct12 oc13 kV13 dc13 pm13 cd13 ct13 oc14 kV14 dc14 pm14 cd14 ct14 oc15 kV15 dc15 pm15 cd15 ct15 oc16 kV16 dc16 pm16 cd16 ct16 oc17 kV17 dc17 pm17 cd17 ct17 oc18 kV18 dc18 pm18 cd18 ct18 oc19 kV19 dc19 pm19 cd19 ct19 oc20 kV20 dc20 pm20 cd20 ct20 oc21 kV21 dc21 pm21 cd21 ct21 oc22 kV22 dc22 pm22 cd22 ct22 oc23 kV23 dc23 pm23 cd23 ct23 oc24 kV24 dc24 pm24 cd24 ct24 oc25 kV25 dc25 pm25 cd25 ct25 oc26 kV26 dc26 pm26 cd26 ct26 oc27 kV27 dc27 pm27 cd27 ct27 oc28 kV28 dc28 pm28 cd28 ct28 oc29 kV29 dc29 pm29 cd29 ct29 oc30 kV30 dc30 pm30 cd30 ct30 oc31 kV31 dc31 pm31 cd31 ct31 oc32 kV32 dc32 pm32 cd32 ct32 oc33 kV33 dc33 pm33 cd33 ct33 oc34 kV34 dc34 pm34 cd34 ct34 oc35 kV35 dc35 pm35 cd35 ct35 oc36 kV36 dc36 pm36 cd36 ct36 oc37 kV37 dc37 pm37 cd37 ct37 oc38 kV38 dc38 pm38 cd38 ct38:Value}
 (a1:A_ K "_law_cell_at" f1) (l1:L_ K f1 "_law_cell_at" pq oc1 kV1 XR pm1 cd1 ct1 od1 an1 sl1) (c1:D_ K cd1 "_law_cell_at") (k1:P_ K f1)
 (a2:A_ K "_law_block" f2) (l2:L_ K f2 "_law_block" kC oc2 kV2 tq pm2 cd2 ct2 od2 an2 sl2) (c2:D_ K cd2 "_law_block") (k2:P_ K f2)
 (a3:A_ K "_law_mixed" f3) (l3:L_ K f3 "_law_mixed" kz oc3 kV3 XQ pm3 cd3 ct3 od3 an3 sl3) (c3:D_ K cd3 "_law_mixed") (k3:P_ K f3)
 (a4:A_ K "_law_frame" f4) (l4:L_ K f4 "_law_frame" kA oc4 kV4 RC pm4 cd4 ct4 od4 an4 sl4) (c4:D_ K cd4 "_law_frame") (k4:P_ K f4)
 (a5:A_ K "_law_pegs" f5) (l5:L_ K f5 "_law_pegs" fK oc5 kV5 dc5 pm5 cd5 ct5 od5 an5 sl5) (c5:D_ K cd5 "_law_pegs") (k5:P_ K f5)
 (a6:A_ K "_law_put" f6) (l6:L_ K f6 "_law_put" ZU oc6 kV6 dc6 pm6 cd6 ct6 od6 an6 sl6) (c6:D_ K cd6 "_law_put") (k6:P_ K f6)
 (a7:A_ K "_law_hit" f7) (l7:L_ K f7 "_law_hit" ZV oc7 kV7 dc7 pm7 cd7 ct7 od7 an7 sl7) (c7:D_ K cd7 "_law_hit") (k7:P_ K f7)
 (a8:A_ K "_law_rope" f8) (l8:L_ K f8 "_law_rope" fJ oc8 kV8 dc8 pm8 cd8 ct8 od8 an8 sl8) (c8:D_ K cd8 "_law_rope") (k8:P_ K f8)
 (a9:A_ K "to_and_fro" f9) (l9:L_ K f9 "to_and_fro" vw oc9 kV9 dc9 pm9 cd9 ct9 od9 an9 sl9) (c9:D_ K cd9 "to_and_fro") (k9:P_ K f9)
 (a10:A_ K "shortened" f10) (l10:L_ K f10 "shortened" vW oc10 kV10 dc10 pm10 cd10 ct10 od10 an10 sl10) (c10:D_ K cd10 "shortened") (k10:P_ K f10)
 (a11:A_ K "lines" f11) (l11:L_ K f11 "lines" pf oc11 kV11 dc11 pm11 cd11 ct11 od11 an11 sl11) (c11:D_ K cd11 "lines") (k11:P_ K f11)
 (a12:A_ K "refuse_corners" f12) (l12:L_ K f12 "refuse_corners" xN oc12 kV12 dc12 pm12 cd12 ct12 od12 an12 sl12) (c12:D_ K cd12 "refuse_corners") (k12:P_ K f12)
 (a13:A_ K "stretches" f13) (l13:L_ K f13 "stretches" vV oc13 kV13 dc13 pm13 cd13 ct13 od13 an13 sl13) (c13:D_ K cd13 "stretches") (k13:P_ K f13)
 (a14:A_ K "crossed" f14) (l14:L_ K f14 "crossed" tV oc14 kV14 dc14 pm14 cd14 ct14 od14 an14 sl14) (c14:D_ K cd14 "crossed") (k14:P_ K f14)
 (a15:A_ K "side_of" f15) (l15:L_ K f15 "side_of" tR oc15 kV15 dc15 pm15 cd15 ct15 od15 an15 sl15) (c15:D_ K cd15 "side_of") (k15:P_ K f15)
 (a16:A_ K "goes_through_peg" f16) (l16:L_ K f16 "goes_through_peg" xw oc16 kV16 dc16 pm16 cd16 ct16 od16 an16 sl16) (c16:D_ K cd16 "goes_through_peg") (k16:P_ K f16)
 (a17:A_ K "refuse_stretches" f17) (l17:L_ K f17 "refuse_stretches" xu oc17 kV17 dc17 pm17 cd17 ct17 od17 an17 sl17) (c17:D_ K cd17 "refuse_stretches") (k17:P_ K f17)
 (a18:A_ K "looked" f18) (l18:L_ K f18 "looked" rF oc18 kV18 dc18 pm18 cd18 ct18 od18 an18 sl18) (c18:D_ K cd18 "looked") (k18:P_ K f18)
 (a19:A_ K "gate_of" f19) (l19:L_ K f19 "gate_of" tU oc19 kV19 dc19 pm19 cd19 ct19 od19 an19 sl19) (c19:D_ K cd19 "gate_of") (k19:P_ K f19)
 (a20:A_ K "row_of" f20) (l20:L_ K f20 "row_of" rD oc20 kV20 dc20 pm20 cd20 ct20 od20 an20 sl20) (c20:D_ K cd20 "row_of") (k20:P_ K f20)
 (a21:A_ K "unrepeated" f21) (l21:L_ K f21 "unrepeated" vv oc21 kV21 dc21 pm21 cd21 ct21 od21 an21 sl21) (c21:D_ K cd21 "unrepeated") (k21:P_ K f21)
 (a22:A_ K "lies_below" f22) (l22:L_ K f22 "lies_below" vy oc22 kV22 dc22 pm22 cd22 ct22 od22 an22 sl22) (c22:D_ K cd22 "lies_below") (k22:P_ K f22)
 (a23:A_ K "turning_pegs" f23) (l23:L_ K f23 "turning_pegs" wJ oc23 kV23 dc23 pm23 cd23 ct23 od23 an23 sl23) (c23:D_ K cd23 "turning_pegs") (k23:P_ K f23)
 (a24:A_ K "pegs_beyond" f24) (l24:L_ K f24 "pegs_beyond" wZ oc24 kV24 dc24 pm24 cd24 ct24 od24 an24 sl24) (c24:D_ K cd24 "pegs_beyond") (k24:P_ K f24)
 (a25:A_ K "farthest_beyond" f25) (l25:L_ K f25 "farthest_beyond" xC oc25 kV25 dc25 pm25 cd25 ct25 od25 an25 sl25) (c25:D_ K cd25 "farthest_beyond") (k25:P_ K f25)
 (a26:A_ K "run_pulled" f26) (l26:L_ K f26 "run_pulled" vx oc26 kV26 dc26 pm26 cd26 ct26 od26 an26 sl26) (c26:D_ K cd26 "run_pulled") (k26:P_ K f26)
 (a27:A_ K "touched" f27) (l27:L_ K f27 "touched" tQ oc27 kV27 dc27 pm27 cd27 ct27 od27 an27 sl27) (c27:D_ K cd27 "touched") (k27:P_ K f27)
 (a28:A_ K "straight_on" f28) (l28:L_ K f28 "straight_on" wY oc28 kV28 dc28 pm28 cd28 ct28 od28 an28 sl28) (c28:D_ K cd28 "straight_on") (k28:P_ K f28)
 (a29:A_ K "pulled" f29) (l29:L_ K f29 "pulled" rE oc29 kV29 dc29 pm29 cd29 ct29 od29 an29 sl29) (c29:D_ K cd29 "pulled") (k29:P_ K f29)
 (a30:A_ K "taut" f30) (l30:L_ K f30 "taut" o_ oc30 kV30 dc30 pm30 cd30 ct30 od30 an30 sl30) (c30:D_ K cd30 "taut") (k30:P_ K f30)
 (a31:A_ K "_law_side" f31) (l31:L_ K f31 "_law_side" fI oc31 kV31 dc31 pm31 cd31 ct31 od31 an31 sl31) (c31:D_ K cd31 "_law_side") (k31:P_ K f31)
 (a32:A_ K "_law_holds" f32) (l32:L_ K f32 "_law_holds" s_holds oc32 kV32 dc32 pm32 cd32 ct32 od32 an32 sl32) (c32:D_ K cd32 "_law_holds") (k32:P_ K f32)
 (a33:A_ K "_law_free" f33) (l33:L_ K f33 "_law_free" fL oc33 kV33 dc33 pm33 cd33 ct33 od33 an33 sl33) (c33:D_ K cd33 "_law_free") (k33:P_ K f33)
 (a34:A_ K "_law_changed" f34) (l34:L_ K f34 "_law_changed" ph oc34 kV34 dc34 pm34 cd34 ct34 od34 an34 sl34) (c34:D_ K cd34 "_law_changed") (k34:P_ K f34)
 (a35:A_ K "alike" f35) (l35:L_ K f35 "alike" pg oc35 kV35 dc35 pm35 cd35 ct35 od35 an35 sl35) (c35:D_ K cd35 "alike") (k35:P_ K f35)
 (a36:A_ K "back" f36) (l36:L_ K f36 "back" ng oc36 kV36 dc36 pm36 cd36 ct36 od36 an36 sl36) (c36:D_ K cd36 "back") (k36:P_ K f36)
 (a37:A_ K "joined" f37) (l37:L_ K f37 "joined" rG oc37 kV37 dc37 pm37 cd37 ct37 od37 an37 sl37) (c37:D_ K cd37 "joined") (k37:P_ K f37)
 (a38:A_ K "law" f38) (l38:L_ K f38 "law" jk oc38 kV38 dc38 pm38 cd38 ct38 od38 an38 sl38) (c38:D_ K cd38 "law") (k38:P_ K f38)
 (z_len:PySem.W.nsIn K mainGlobals "len" = some none)
 (z_range:PySem.W.nsIn K mainGlobals "range" = some none)
 (z_min:PySem.W.nsIn K mainGlobals "min" = some none)
 (z_set:PySem.W.nsIn K mainGlobals "set" = some none)
 (z_sorted:PySem.W.nsIn K mainGlobals "sorted" = some none)
 (z_list:PySem.W.nsIn K mainGlobals "list" = some none)
 (z_enumerate:PySem.W.nsIn K mainGlobals "enumerate" = some none)
 (z_zip:PySem.W.nsIn K mainGlobals "zip" = some none)
 (z_reversed:PySem.W.nsIn K mainGlobals "reversed" = some none)
 (z_any:PySem.W.nsIn K mainGlobals "any" = some none)
 (z_max:PySem.W.nsIn K mainGlobals "max" = some none) :
 ∃fd:FuncData,(∀(s:Shared) (v:Value),BindsTo s fd ⟨[v],[]⟩ [("_law_script",v)])∧∀base:Heap,K.In base→base.Ns mainGlobals mg→FnOk l.prog w K mg base Uk 8 fa fd ["_law_script"] (TV K (zP 9 jT) 1):=by
 have e:=hfa.symm.trans (sau X G a38);cases e;have b_len:=sbo X G z_len;have b_range:=sbo X G z_range;have b_min:=sbo X G z_min;have b_set:=sbo X G z_set;have b_sorted:=sbo X G z_sorted;have b_list:=sbo X G z_list;have b_enumerate:=sbo X G z_enumerate;have b_zip:=sbo X G z_zip;have b_reversed:=sbo X G z_reversed;have b_any:=sbo X G z_any;have b_max:=sbo X G z_max;have F1:=ye (st:=pq) l1 c1 k1;have F2:=ye (st:=kC) l2 c2 k2;have F3:=ye (st:=kz) l3 c3 k3;have F4:=ye (st:=kA) l4 c4 k4;have F5:=ye (st:=fK) l5 c5 k5;have F6:=ye (st:=ZU) l6 c6 k6;have F7:=ye (st:=ZV) l7 c7 k7;have F8:=ye (st:=fJ) l8 c8 k8;have F9:=ye (st:=vw) l9 c9 k9;have F10:=ye (st:=vW) l10 c10 k10;have F11:=ye (st:=pf) l11 c11 k11;have F12:=ye (st:=xN) l12 c12 k12;have F13:=ye (st:=vV) l13 c13 k13;have F14:=ye (st:=tV) l14 c14 k14;have F15:=ye (st:=tR) l15 c15 k15;have F16:=ye (st:=xw) l16 c16 k16;have F17:=ye (st:=xu) l17 c17 k17;have F18:=ye (st:=rF) l18 c18 k18;have F19:=ye (st:=tU) l19 c19 k19;have F20:=ye (st:=rD) l20 c20 k20;have F21:=ye (st:=vv) l21 c21 k21;have F22:=ye (st:=vy) l22 c22 k22;have F23:=ye (st:=wJ) l23 c23 k23;have F24:=ye (st:=wZ) l24 c24 k24;have F25:=ye (st:=xC) l25 c25 k25;have F26:=ye (st:=vx) l26 c26 k26;have F27:=ye (st:=tQ) l27 c27 k27;have F28:=ye (st:=wY) l28 c28 k28;have F29:=ye (st:=rE) l29 c29 k29;have F30:=ye (st:=o_) l30 c30 k30;have F31:=ye (st:=fI) l31 c31 k31;have F32:=ye (st:=s_holds) l32 c32 k32;have F33:=ye (st:=fL) l33 c33 k33;have F34:=ye (st:=ph) l34 c34 k34;have F35:=ye (st:=pg) l35 c35 k35;have F36:=ye (st:=ng) l36 c36 k36;have F37:=ye (st:=rG) l37 c37 k37;have F38:=ye (st:=jk) l38 c38 k38;refine⟨PySem.W.fnOf "law" "law" (vZ jk) (w4 jk) (zD jk) .none kV38 dc38 pm38 an38 cd38 ct38,fun s v=>.of_eq rfl,fun base _ _=>?run⟩
 case run=>
  have q_cell_at:lL l.prog w K mg base 1:=bK (k:=0) F1 (sau X G a1)  b_len;have q_block:dJ l.prog w K mg base 1:=X3 (k:=0) F2 (sau X G a2)  b_len b_range;have q_mixed:pT l.prog w K mg base 2:=X1 (k:=1) F3 (sau X G a3) (q_block.mono (by decide)) b_len b_min;have q_frame:dI l.prog w K mg base 3:=X2 (k:=2) F4 (sau X G a4) (q_cell_at.mono (by decide)) (q_mixed.mono (by decide));have q_pegs:ZA l.prog w K mg base 3:=VZ (k:=2) F5 (sau X G a5) (q_mixed.mono (by decide)) b_range;have q_put:YO l.prog w K mg base 1:=Tx (k:=0) F6 (sau X G a6);have q_hit:Ue l.prog w K mg base 1:=Tz (k:=0) F7 (sau X G a7);have q_rope:Zz l.prog w K mg base 3:=VY (k:=2) F8 (sau X G a8) (q_mixed.mono (by decide)) (q_hit.mono (by decide)) b_range;have q_p_to_and_fro:tB l.prog w K mg base 1:=lz (k:=0) F9 (sau X G a9);have q_p_shortened:ud l.prog w K mg base 2:=km (k:=1) F10 (sau X G a10) (q_p_to_and_fro.mono (by decide));have q_p_lines:pS l.prog w K mg base 1:=bH (k:=0) F11 (sau X G a11)  b_len b_set b_sorted b_list;have q_p_refuse_corners:vd l.prog w K mg base 1:=qT (k:=0) F12 (sau X G a12)  b_enumerate;have q_p_stretches:v_ l.prog w K mg base 1:=kl (k:=0) F13 (sau X G a13)  b_list b_zip;have q_p_crossed:ux l.prog w K mg base 1:=iQ (k:=0) F14 (sau X G a14)  b_reversed;have q_p_side_of:uw l.prog w K mg base 1:=iO (k:=0) F15 (sau X G a15);have q_p_goes_through_peg:wH l.prog w K mg base 2:=rZ (k:=1) F16 (sau X G a16) (q_p_crossed.mono (by decide)) (q_p_side_of.mono (by decide)) b_any;have q_p_refuse_stretches:wG l.prog w K mg base 3:=rY (k:=2) F17 (sau X G a17) (q_p_stretches.mono (by decide)) (q_p_goes_through_peg.mono (by decide)) b_enumerate;have q_p_looked:oS l.prog w K mg base 4:=dr (k:=3) F18 (sau X G a18) (q_p_lines.mono (by decide)) (q_p_refuse_corners.mono (by decide)) (q_p_refuse_stretches.mono (by decide)) b_len;have q_p_gate_of:q_ l.prog w K mg base 2:=iP (k:=1) F19 (sau X G a19) (q_p_side_of.mono (by decide)) b_min b_max;have q_p_row_of:qd l.prog w K mg base 5:=dj (k:=4) F20 (sau X G a20) (q_p_looked.mono (by decide)) (q_p_lines.mono (by decide)) (q_p_stretches.mono (by decide)) (q_p_crossed.mono (by decide)) (q_p_gate_of.mono (by decide));have q_p_unrepeated:tx l.prog w K mg base 1:=ly (k:=0) F21 (sau X G a21);have q_p_lies_below:tF l.prog w K mg base 1:=lB (k:=0) F22 (sau X G a22);have q_p_turning_pegs:vT l.prog w K mg base 2:=oI (k:=1) F23 (sau X G a23) (q_p_lies_below.mono (by decide));have q_p_pegs_beyond:uF l.prog w K mg base 2:=mh (k:=1) F24 (sau X G a24) (q_p_side_of.mono (by decide));have q_p_farthest_beyond:wU l.prog w K mg base 3:=qu (k:=2) F25 (sau X G a25) (q_p_crossed.mono (by decide)) (q_p_pegs_beyond.mono (by decide));have q_p_run_pulled:tD l.prog w K mg base 4:=lA (k:=3) F26 (sau X G a26) (q_p_farthest_beyond.mono (by decide));have q_p_touched:q9 l.prog w K mg base 5:=iN (k:=4) F27 (sau X G a27) (q_p_turning_pegs.mono (by decide)) (q_p_run_pulled.mono (by decide));have q_p_straight_on:uE l.prog w K mg base 1:=mf (k:=0) F28 (sau X G a28);have q_p_pulled:oR l.prog w K mg base 6:=dk (k:=5) F29 (sau X G a29) (q_p_unrepeated.mono (by decide)) (q_p_touched.mono (by decide)) (q_p_straight_on.mono (by decide)) b_zip;have q_p_taut:iu l.prog w K mg base 7:=Zn (k:=6) F30 (sau X G a30) (q_p_shortened.mono (by decide)) (q_p_row_of.mono (by decide)) (q_p_pulled.mono (by decide));have q_side:Zy l.prog w K mg base 1:=VX (k:=0) F31 (sau X G a31);have q_holds : C_holds l.prog w K mg base 2 := cal_holds (k := 1) F32 (PySem.W.mg_of X G a32) (q_side.mono (by decide)) b_min b_max b_range;have q_free:ZC l.prog w K mg base 3:=V0 (k:=2) F33 (sau X G a33) (q_holds.mono (by decide));have q_changed:lK l.prog w K mg base 4:=bJ (k:=3) F34 (sau X G a34) (q_free.mono (by decide)) (q_put.mono (by decide)) b_len;have q_p_alike:lJ l.prog w K mg base 6:=bI (k:=5) F35 (sau X G a35) (q_p_shortened.mono (by decide)) (q_p_row_of.mono (by decide));have q_p_back:iw l.prog w K mg base 1:=Zo (k:=0) F36 (sau X G a36)  b_list b_reversed;have q_p_joined:oT l.prog w K mg base 1:=dt (k:=0) F37 (sau X G a37);exact S3 (k:=7) F38 (q_frame.mono (by decide)) (q_pegs.mono (by decide)) (q_put.mono (by decide)) (q_rope.mono (by decide)) (q_p_taut.mono (by decide)) (q_changed.mono (by decide)) (q_mixed.mono (by decide)) (q_p_alike.mono (by decide)) (q_p_back.mono (by decide)) (q_p_joined.mono (by decide)) b_len b_min b_max b_list b_range b_reversed
theorem S8 (main:∀ns:List Int,ns.length≤63→zP 9 jT [.scr ns]=.ok (.p (.bl true)))(K:Frag)(H:Hp)(a:Addr)(ns:List Int)(hl:ns.length≤63)(hS:xV K H a (ns.map V.int)) :
 TV K (zP 9 jT) 1 [.ref a] H (fun v _=>v=.bl true) fun _ _ _=>False :=
 ⟨H,[.scr ns],_,rfl,zV.refl _,⟨_,_,rfl,⟨a,rfl,hS⟩,rfl⟩,main ns hl,fun v G' H' _ _ h=>h⟩
end My
open PySem PySem.W PyProof.Rows
theorem PySem.W.Fast.te14706776033771271410:True:=trivial
noncomputable def PySem.W.Fast.tw18401795597270628911:PySem.Program:=PySem.Challenge.pw_tautline_k42_whole_alike_ropes_are_one_w
theorem PySem.W.Fast.te18401795597270628911:PySem.Challenge.pw_tautline_k42_whole_alike_ropes_are_one_w=PySem.W.Fast.tw18401795597270628911:=rfl
theorem PySem.W.Fast.tw6556613855051413133:True:=trivial
theorem PySem.W.Fast.tw13155856759303644496:True:=trivial
theorem PySem.W.Fast.tw18229075725200390046:True:=trivial
theorem PySem.W.Fast.tw15052277342554373955:True:=trivial
theorem PySem.W.Fast.tw17416207674709656061:True:=trivial
theorem PySem.W.Fast.tw1932307465269216118:True:=trivial
theorem PySem.W.Fast.tw6049906038689269706:True:=trivial
theorem PySem.W.Fast.tw12444709013885889757:True:=trivial
theorem PySem.W.Fast.tw1466921408392619442:True:=trivial
theorem PySem.W.Fast.tw14413548481260755425:True:=trivial
theorem PySem.W.Fast.tw3601287771466332215:True:=trivial
set_option maxRecDepth 100000 in
set_option maxHeartbeats 0 in
theorem PySem.Challenge.cw_tautline_k42_whole_alike_ropes_are_one_w_holds : PySem.Challenge.rw_tautline_k42_whole_alike_ropes_are_one_w.Holds := by
 w_on;o_law;k_head;(case hw=>w_witness2)
 k_fill
 refine L2.Wi (l:=PySem.Challenge.rw_tautline_k42_whole_alike_ropes_are_one_w) (n:=63) (k:=8) (x := "_law_script") (CX:=L2.Uk) (sp:=fun K=>DL.TV K (DL.zP 9 My.jT) 1) rfl (by decide) rfl ⟨rfl,by decide,by decide⟩ (fun w h Y=>PySem.W.kIn_of Y) ?F ?S ?C
 case F=>
  intro w mg fa h KX G hmg;refine' My.RP KX G hmg ..
  all_goals try (unfold My.A_;k_is)
  all_goals try (unfold My.L_;k_is)
  all_goals try (unfold My.D_;k_is)
  all_goals try (unfold My.P_;k_is)
  all_goals k_is
 case S=>exact fun K H a ns hl hO hS=>My.S8 My.main K H a ns hl hS
 case C=>exact fun _ _ _ _ z=>z