import PyProof.Rows.All
import Wide.All
import OpenK.AllK
import Wide.FinOn
import Lean
import PyProof.EqAt
import PyProof.EqKinds
import PyProof.TupleCall
import KE.KItemsList
import KE.KMinBuiltin
import KE.KRevIter
import KE.KTryMore
import PyProof.ExcArgs
import PyProof.ExcAttrAll.ValueError
import PyProof.NsDelKeeps
import PyProof.InstStoreFacts
import PySem.Challenge.RW_tautline_k44_taut_and_rounds_refused
set_option bootstrap.genMatcherCode false
set_option compiler.extract_closed false
set_option genSizeOfSpec false
set_option Elab.async false
set_option linter.all false
set_option maxRecDepth 100000
theorem saa:type_of% @PySem.wpAny_bind:=@PySem.wpAny_bind
theorem sab:type_of% @PySem.Heap.get?_push_of_some:=@PySem.Heap.get?_push_of_some
theorem sac:type_of% @List.length_map:=@List.length_map
theorem sad:type_of% @PySem.wpAny_pure:=@PySem.wpAny_pure
theorem sae:type_of% @List.getElem?_eq_getElem:=@List.getElem?_eq_getElem
theorem saf:type_of% @List.mem_singleton:=@List.mem_singleton
theorem sag:type_of% @PySem.Heap.lt_size:=@PySem.Heap.lt_size
theorem sah:type_of% @PySem.W.mg_of:=@PySem.W.mg_of
theorem sai:type_of% @Bool.false_ne_true:=@Bool.false_ne_true
theorem saj:type_of% @List.getElem?_eq_some_iff:=@List.getElem?_eq_some_iff
theorem sak:type_of% @if_pos:=@if_pos
theorem sal:type_of% @if_neg:=@if_neg
theorem sam:type_of% @List.getElem?_set_ne:=@List.getElem?_set_ne
theorem san:type_of% @List.mem_cons:=@List.mem_cons
theorem sao:type_of% @List.mem_cons_of_mem:=@List.mem_cons_of_mem
theorem sap:type_of% @decide_eq_true:=@decide_eq_true
theorem saq:type_of% @PySem.Heap.get?_push_size:=@PySem.Heap.get?_push_size
theorem sar:type_of% @List.getElem?_map:=@List.getElem?_map
theorem sas:type_of% @List.mem_append:=@List.mem_append
theorem sau:type_of% @Nat.lt_of_lt_of_le:=@Nat.lt_of_lt_of_le
theorem sav:type_of% @Array.getElem?_eq_getElem:=@Array.getElem?_eq_getElem
theorem saw:type_of% @List.mem_cons_self:=@List.mem_cons_self
theorem sax:type_of% @Bool.false_eq_true:=@Bool.false_eq_true
theorem saz:type_of% @Nat.ne_of_lt:=@Nat.ne_of_lt
theorem saA:type_of% @List.mem_of_getElem?:=@List.mem_of_getElem?
theorem saB:type_of% @decide_eq_false:=@decide_eq_false
theorem saC:type_of% @List.getLastD_eq_getLast?:=@List.getLastD_eq_getLast?
theorem saD:type_of% @decide_eq_true_eq:=@decide_eq_true_eq
theorem saE:type_of% @Option.some.inj:=@Option.some.inj
theorem saF:type_of% @Array.getElem?_toList:=@Array.getElem?_toList
theorem saG:type_of% @PySem.Heap.get?_update_other:=@PySem.Heap.get?_update_other
theorem saH:type_of% @List.pairwise_cons:=@List.pairwise_cons
theorem saI:type_of% @List.mem_filter:=@List.mem_filter
theorem saJ:type_of% @List.mem_map:=@List.mem_map
theorem saK:type_of% @List.getLast?_eq_some_getLast:=@List.getLast?_eq_some_getLast
theorem saL:type_of% @PySem.Heap.get?_update_self:=@PySem.Heap.get?_update_self
theorem saM:type_of% @PySem.wpAny_holding:=@PySem.wpAny_holding
theorem saN:type_of% @PySem.W.mg_none_of:=@PySem.W.mg_none_of
theorem saO:type_of% @PySem.PassesOwn.never:=@PySem.PassesOwn.never
theorem saP:type_of% @List.length_append:=@List.length_append
theorem saQ:type_of% @List.getElem?_of_mem:=@List.getElem?_of_mem
theorem saR:type_of% @PySem.wpAny_mono:=@PySem.wpAny_mono
theorem saS:type_of% @Bool.and_eq_true:=@Bool.and_eq_true
theorem saT:type_of% @Nat.zero_le:=@Nat.zero_le
theorem saU:type_of% @PySem.Heap.size_push:=@PySem.Heap.size_push
theorem saV:type_of% @List.eq_nil_of_length_eq_zero:=@List.eq_nil_of_length_eq_zero
theorem saW:type_of% @List.any_eq_true:=@List.any_eq_true
theorem saX:type_of% @List.mem_append_right:=@List.mem_append_right
theorem saY:type_of% @List.map_append:=@List.map_append
theorem saZ:type_of% @List.getElem?_append_left:=@List.getElem?_append_left
theorem sba:type_of% @List.mem_range:=@List.mem_range
theorem sbb:type_of% @PySem.mem_of_lookup:=@PySem.mem_of_lookup
theorem sbc:type_of% @Array.getElem?_eq_none:=@Array.getElem?_eq_none
theorem sbd:type_of% @PyProof.Rows.callWith_type1:=@PyProof.Rows.callWith_type1
theorem sbe:type_of% @List.map_congr_left:=@List.map_congr_left
theorem sbf:type_of% @PySem.wpAny_seqItems:=@PySem.wpAny_seqItems
theorem sbg:type_of% @PySem.wpAny_truthy_bool:=@PySem.wpAny_truthy_bool
theorem sbh:type_of% @List.getElem?_set:=@List.getElem?_set
theorem sbi:type_of% @List.getLast?_eq_getElem?:=@List.getLast?_eq_getElem?
theorem sbj:type_of% @List.map_map:=@List.map_map
theorem sbk:type_of% @PySem.wpAny_nextOf_list_item:=@PySem.wpAny_nextOf_list_item
theorem sbl:type_of% @PySem.W.kia_one:=@PySem.W.kia_one
theorem sbm:type_of% @List.nodup_cons:=@List.nodup_cons
theorem sbn:type_of% @List.length_take:=@List.length_take
theorem sbo:type_of% @PySem.wpAny_field:=@PySem.wpAny_field
theorem sbp:type_of% @PySem.F.slot_zip_next:=@PySem.F.slot_zip_next
theorem sbq:type_of% @Nat.le_trans:=@Nat.le_trans
theorem sbr:type_of% @Nat.lt_succ_of_lt:=@Nat.lt_succ_of_lt
theorem sbs:type_of% @List.append_assoc:=@List.append_assoc
theorem sbt:type_of% @List.getElem?_append_right:=@List.getElem?_append_right
theorem sbu:type_of% @Array.getElem?_eq_some_iff:=@Array.getElem?_eq_some_iff
theorem sbv:type_of% @PySem.Around.under_plainId:=@PySem.Around.under_plainId
theorem sbw:type_of% @List.pairwise_map:=@List.pairwise_map
theorem sbx:type_of% @List.length_filter_le:=@List.length_filter_le
theorem sby:type_of% @Nat.lt_irrefl:=@Nat.lt_irrefl
theorem sbz:type_of% @Int.emod_nonneg:=@Int.emod_nonneg
theorem sbA:type_of% @PySem.codeAny_builtin:=@PySem.codeAny_builtin
theorem sbB:type_of% @PySem.wpAny_Call_Name_kw:=@PySem.wpAny_Call_Name_kw
theorem sbC:type_of% @Int.emod_lt_of_pos:=@Int.emod_lt_of_pos
theorem sbD:type_of% @List.getElem?_replicate:=@List.getElem?_replicate
theorem sbE:type_of% @PySem.F.plainAttrs_list:=@PySem.F.plainAttrs_list
theorem sbF:type_of% @List.not_mem_nil:=@List.not_mem_nil
theorem sbG:type_of% @List.filter_cons_of_pos:=@List.filter_cons_of_pos
theorem sbH:type_of% @Nat.ne_of_gt:=@Nat.ne_of_gt
theorem sbI:type_of% @PySem.wpAny_pyIter_list:=@PySem.wpAny_pyIter_list
theorem sbJ:type_of% @List.take_succ_eq_append_getElem:=@List.take_succ_eq_append_getElem
theorem sbK:type_of% @List.filterMap_eq_map':=@List.filterMap_eq_map'
theorem sbL:type_of% @List.mem_map_of_mem:=@List.mem_map_of_mem
theorem sbM:type_of% @List.drop_eq_getElem_cons:=@List.drop_eq_getElem_cons
theorem sbN:type_of% @List.pairwise_iff_getElem:=@List.pairwise_iff_getElem
theorem sbO:type_of% @Nat.le_of_lt:=@Nat.le_of_lt
theorem sbP:type_of% @Option.isSome_iff_exists:=@Option.isSome_iff_exists
theorem sbQ:type_of% @PySem.SetTable.toList_insertAt:=@PySem.SetTable.toList_insertAt
theorem sbR:type_of% @PySem.wpAny_callSpecial?_slot:=@PySem.wpAny_callSpecial?_slot
theorem sbS:type_of% @List.length_range:=@List.length_range
theorem sbT:type_of% @List.nodup_append:=@List.nodup_append
theorem sbU:type_of% @List.filter_cons_of_neg:=@List.filter_cons_of_neg
theorem sbV:type_of% @Bool.eq_iff_iff:=@Bool.eq_iff_iff
theorem sbW:type_of% @List.append_nil:=@List.append_nil
theorem sbX:type_of% @Bool.or_eq_true:=@Bool.or_eq_true
theorem sbY:type_of% @PySem.wpAny_updateSeq:=@PySem.wpAny_updateSeq
theorem sbZ:type_of% @List.nodup_iff_pairwise_ne:=@List.nodup_iff_pairwise_ne
theorem sca:type_of% @List.Perm.refl:=@List.Perm.refl
theorem scb:type_of% @PySem.wpAny_setField_rec:=@PySem.wpAny_setField_rec
theorem scd:type_of% @PySem.F.excBase_ValueError:=@PySem.F.excBase_ValueError
theorem sce:type_of% @Ne.symm:=@Ne.symm
theorem scf:type_of% @PySem.wpAny_nextOf_list_end:=@PySem.wpAny_nextOf_list_end
theorem scg:type_of% @Classical.byContradiction:=@Classical.byContradiction
theorem sch:type_of% @PySem.F.plain_extend_loop:=@PySem.F.plain_extend_loop
theorem sci:type_of% @PySem.wpAny_passesOwn:=@PySem.wpAny_passesOwn
theorem scj:type_of% @List.any_eq_false:=@List.any_eq_false
theorem sck:type_of% @PySem.wpAny_newObj_type:=@PySem.wpAny_newObj_type
theorem scl:type_of% @List.foldl_append:=@List.foldl_append
theorem scm:type_of% @PySem.codeAny_call_builtin:=@PySem.codeAny_call_builtin
theorem scn:type_of% @PySem.wpAny_letGo:=@PySem.wpAny_letGo
theorem sco:type_of% @PySem.wpAny_standAt:=@PySem.wpAny_standAt
theorem scp:type_of% @PySem.plainId_quiet:=@PySem.plainId_quiet
theorem scq:type_of% @List.length_reverse:=@List.length_reverse
theorem scs:type_of% @PySem.wpAny_execs_cons:=@PySem.wpAny_execs_cons
theorem sct:type_of% @PySem.wpAny_call_entry:=@PySem.wpAny_call_entry
theorem scu:type_of% @List.all_eq_true:=@List.all_eq_true
theorem scv:type_of% @PySem.F.args_zip_next_1:=@PySem.F.args_zip_next_1
theorem scw:type_of% @decide_eq_false_iff_not:=@decide_eq_false_iff_not
theorem scx:type_of% @List.mem_filterMap:=@List.mem_filterMap
theorem scy:type_of% @Nat.zero_add:=@Nat.zero_add
theorem scz:type_of% @List.mem_eraseDups:=@List.mem_eraseDups
theorem scA:type_of% @PySem.F.called_set:=@PySem.F.called_set
theorem scB:type_of% @PySem.wpAny_attempt:=@PySem.wpAny_attempt
theorem scC:type_of% @of_decide_eq_true:=@of_decide_eq_true
theorem scD:type_of% @PySem.wpAny_loadPart_at:=@PySem.wpAny_loadPart_at
theorem scE:type_of% @PySem.codeAny_mono:=@PySem.codeAny_mono
theorem scF:type_of% @List.getLast_mem:=@List.getLast_mem
theorem scG:type_of% @List.mem_flatten:=@List.mem_flatten
theorem scH:type_of% @PySem.wpAny_onRaise:=@PySem.wpAny_onRaise
theorem scI:type_of% @List.map_tail:=@List.map_tail
theorem scJ:type_of% @PySem.wpAny_call:=@PySem.wpAny_call
open PySem.W(Frag)
namespace L2
open PySem PySem.Spec PyProof.Rows
noncomputable abbrev qZ:=Sum Int Str
noncomputable def Yt:qZ→Value→Bool
 | .inl k,v=>Value.isInt k v
 | .inr x,v=>Value.isStrOf x v
noncomputable def Po (w:World):qZ→Int
 | .inl k=>hashInt k
 | .inr x=>hashStr w x
theorem y8:∀{k:qZ} {v:Value},Yt k v=true→(∃i t,k=Sum.inl i∧v=Value.int i t)∨(∃x t,k=Sum.inr x∧v=Value.str x t)
 | .inl i,v,h=>by
   obtain⟨t,e⟩:=Value.isInt_shape (k:=i) (v:=v) h;exact .inl ⟨i,t,rfl,e⟩
 | .inr x,v,h=>by
   obtain⟨t,e⟩:=Value.isStrOf_shape (x:=x) (v:=v) h;exact .inr ⟨x,t,rfl,e⟩
theorem Xr (i:Int)(t:Tok):Yt (.inl i) (.int i t)=true:=by simp[Yt,Value.isInt]
theorem S0 (a b:Int):decide ((Sum.inl a:qZ)=Sum.inl b)=(a == b):=by
 by_cases e:a=b
 ·subst e;simp
 ·have h:¬(Sum.inl a:qZ)=Sum.inl b:=fun q=>e (Sum.inl.inj q);rw[saB h];exact(beq_eq_false_iff_ne.mpr e).symm
theorem SX (a b:Str):decide ((Sum.inr a:qZ)=Sum.inr b)=decide (a=b):=by
 by_cases e:a=b
 ·subst e;simp
 ·have h:¬(Sum.inr a:qZ)=Sum.inr b:=fun q=>e (Sum.inr.inj q);rw[saB h,saB e]
theorem SZ (a:Int)(b:Str):decide ((Sum.inl a:qZ)=Sum.inr b)=false:=saB (fun q=>nomatch q)
theorem SY (a:Str)(b:Int):decide ((Sum.inr a:qZ)=Sum.inl b)=false:=saB (fun q=>nomatch q)
noncomputable def sC (prog:Program)(w:World):PySem.KeyKind prog w qZ where
 is:=Yt
 hash:=Po w
 inj:=fun v a b ha hb=>by
  rcases y8 ha with⟨i,t,rfl,rfl⟩|⟨x,t,rfl,rfl⟩
  ·rcases y8 hb with⟨j,u,rfl,e⟩|⟨y,u,rfl,e⟩
   ·injection e with e1 _;rw[e1]
   ·exact nomatch e
  ·rcases y8 hb with⟨j,u,rfl,e⟩|⟨y,u,rfl,e⟩
   ·exact nomatch e
   ·injection e with e1 _;rw[e1]
 byValue:=fun k v h=>by
  rcases y8 h with⟨i,t,rfl,rfl⟩|⟨x,t,rfl,rfl⟩ <;> rfl
 pyHash:=fun hv h=>by
  rcases y8 hv with⟨i,t,rfl,rfl⟩|⟨x,t,rfl,rfl⟩
  ·exact wpAny_pyHash_int h
  ·exact wpAny_pyHash_str h
 eqBool:=fun hu hv h=>by
  rcases y8 hu with⟨i,t,rfl,rfl⟩|⟨x,t,rfl,rfl⟩
  ·rcases y8 hv with⟨j,u,rfl,rfl⟩|⟨y,u,rfl,rfl⟩
   ·rw[S0]at h;exact wpAny_eqBool_int h
   ·rw[SZ]at h;exact SeqAt.EqAt.int_str i t y u _ _ _ _ h
  ·rcases y8 hv with⟨j,u,rfl,rfl⟩|⟨y,u,rfl,rfl⟩
   ·rw[SY]at h;exact SeqAt.EqAt.str_int x t j u _ _ _ _ h
   ·rw[SX]at h;exact wpAny_eqBool_str h
 «strs» :=fun k x t v h=>by
  rcases y8 h with⟨i,u,rfl,e⟩|⟨y,u,rfl,e⟩
  ·exact nomatch e
  ·injection e with e1 _
   subst e1
   cases v <;> rfl
inductive V where
 |non|bl (b:Bool)|int (i:Int)|str (x:Str)|byt (b:Array UInt8)|flt (b:UInt64)|ref (a:Addr)|ty (n:String)
 deriving DecidableEq
noncomputable def yS:V→Value→Prop
 | .non,u=>u=Value.none
 | .bl b,u=>u=Value.bool b
 | .int i,u=>∃t,u=Value.int i t
 | .str x,u=>∃t,u=Value.str x t
 | .byt b,u=>∃t,u=Value.bytes b t
 | .flt b,u=>∃t,u=Value.float b t
 | .ref a,u=>u=Value.ref a
 | .ty n,u=>u=Value.type n
noncomputable abbrev ym:List V→List Value→Prop:=Paired yS
theorem ym.length {xs:List V}{us:List Value}(r:ym xs us):xs.length=us.length:=Paired.length r
theorem ym.get:∀{xs:List V} {us:List Value} {i:Nat} {x:V},ym xs us→xs[i]?=some x→∃u,us[i]?=some u∧yS x u
 |_,_,_,_,.nil,e=>by simp at e
 |_,_,0,_,.cons r _,e=>by simp at e;subst e;exact⟨_,rfl,r⟩
 | _,_,i+1,x,.cons _ t,e=>by
   obtain⟨u,h1,h2⟩:=ym.get (i:=i) (x:=x) t (by simpa using e);exact⟨u,by simpa using h1,h2⟩
theorem ym.append:∀{xs ys:List V} {us ws:List Value},ym xs us→ym ys ws→ym (xs++ys) (us++ws)
 |_,_,_,_,.nil,s=>s
 |_,_,_,_,.cons r t,s=>.cons r (ym.append t s)
theorem ym.take:∀{xs:List V} {us:List Value} (n:Nat),ym xs us→ym (xs.take n) (us.take n)
 |_,_,0,_=>.nil
 |_,_,_+1,.nil=>.nil
 |_,_,n+1,.cons r t=>.cons r (ym.take n t)
theorem ym.drop:∀{xs:List V} {us:List Value} (n:Nat),ym xs us→ym (xs.drop n) (us.drop n)
 |_,_,0,r=>r
 |_,_,_+1,.nil=>.nil
 |_,_,n+1,.cons _ t=>ym.drop n t
noncomputable def cw:Option V→Option Value→Prop
 |some v,some u=>yS v u
 |none,none=>True
 |_,_=>False
noncomputable def KV {κ:Type}:List (κ×V)→List (κ×Value)→Prop:=Paired fun(p:κ×V) (q:κ×Value)=>p.1=q.1∧yS p.2 q.2
noncomputable def kV:qZ→V
 | .inl i=>.int i
 | .inr x=>.str x
inductive HO where
 |l (xs:List V)
 |tup (xs:List V)
 |dK (kvs:List (qZ×V))|dT (kvs:List (List qZ×V))
 |set (S:Int→Bool) (n:Nat)
 |ins (C dx:Addr) (fs:List (Str×V))
 |own (x:Addr)
 |xd (fs:List (Str×V))
 |met (f x:Addr)
 |rng (lo hi:Int)
 |frz (o:Obj) (u:HO)
 |tbl (ps:Array Value)
 |ext (φ:Heap→Prop)
noncomputable abbrev Hp:=Addr→Option HO
noncomputable def yo (H:Hp)(a:Addr)(o:HO):Hp:=fun b=>if b=a then some o else H b
theorem zH {H:Hp}{a:Addr}{o:HO}:yo H a o a=some o:=by unfold yo;rw[sak rfl]
theorem zx {H:Hp}{a b:Addr}{o:HO}(h:b≠a):yo H a o b=H b:=by unfold yo;rw[sal h]
theorem Qk {H:Hp}{a b:Addr}{o u:HO}(h:H a=some o)(h':H b=some u)(d:o≠u):a≠b:=by
 intro e;subst e;rw[h]at h';exact d (saE h')
theorem zz {H:Hp}{a b:Addr}{o:HO}(h:H a=some o)(h':H b=none):a≠b:=by
 intro e;subst e;rw[h]at h';cases h'
section
variable (P:Program)(w:World)
noncomputable def we (H:Hp)(h:Heap)(a:Addr):HO→Prop
 | .l xs=>xs.length≤sizeLine∧∃(its:List Value) (n:Nat),ym xs its∧h.get? a=some {cls:=.type "list",data:=.seq its.toArray n}
 | .tup xs=>xs.length≤sizeLine∧∃its:List Value,ym xs its∧IsTup h a its.toArray
 | .dK kvs=>kvs.length≤sizeLine∧(a == sysModules)=false∧∃vs,KV kvs vs∧h.DictOf (sC P w) a vs
 | .dT kvs=>kvs.length≤sizeLine∧(a == sysModules)=false∧∃xs:List (List qZ×Addr×Value),
  Paired (fun(p:List qZ×V) (q:List qZ×Addr×Value)=>p.1=q.1∧H q.2.1=some (.tup (p.1.map kV))∧yS p.2 q.2.2) kvs xs ∧
  ∃o es ep,h.get? a=some o∧o.ExactDict∧o.data=.dict es ep∧es.toList=xs.map (entryOfKey (tupleKind (sC P w)))∧(xs.map (·.1)).Nodup
 | .set S n=>h.SetOf (intKind P w) a S n
 | .ins C dx fs=>H dx=some (.own a)∧fs.length≤1000∧dx≠a∧h.get? a=some (PySem.W.instObj C dx) ∧
  ∃mA,h.Ns1 dx mA∧(∀f,cw (fs.lookup f) (mA f))∧PySem.Within mA (fs.map (·.1))
 | .own _=>∃o,h.get? a=some o
 | .xd fs=>∃mA,h.Ns1 a mA∧∀f,cw (fs.lookup f) (mA f)
 | .rng lo hi=>∃t u v,h.get? a=some {cls:=.type "range",data:=.fields #[.int lo t,.int hi u,.int 1 v]}
 | .frz o u=>h.get? a=some o∧we H h a u
 | .tbl ps=>h.get? a=some {cls:=.none,data:=.fields ps}
 | .met f x=>h.get? a=some (PySem.W.methodObj (.ref f) (.ref x))
 | .ext φ=>φ h∧(∃o,h.get? a=some o)∧∀h1 h2:Heap,φ h1→(∀o,h1.get? a=some o→h2.get? a=some o)→φ h2
noncomputable def nO (H:Hp)(h:Heap):Prop:=∀a o,H a=some o→we P w H h a o
end
section
variable {P:Program}{w:World}{H H':Hp}{h h':Heap}{a:Addr}{o:HO}
theorem we.lt (x:we P w H h a o):a<h.objs.size:=by
 cases o with
 |l xs=>obtain⟨_,_,_,_,e⟩:=x;exact sag e
 |tup xs=>obtain⟨_,_,_,p⟩:=x;exact p.lt
 |dK kvs=>obtain⟨_,_,_,_,o,_,_,e,_⟩:=x;exact sag e
 |dT kvs=>obtain⟨_,_,_,_,o,_,_,e,_⟩:=x;exact sag e
 |set S n=>obtain⟨o,_,_,_,e,_⟩:=x;exact sag e
 |ins C dx fs=>obtain⟨_,_,_,e,_⟩:=x;exact sag e
 |own y=>obtain⟨_,e⟩:=x;exact sag e
 |xd fs=>obtain⟨_,⟨_,_,_,e,_⟩,_⟩:=x;exact sag e
 |rng lo hi=>obtain⟨_,_,_,e⟩:=x;exact sag e
 |frz ob u=>obtain⟨e,_⟩:=x;exact sag e
 |tbl ps=>exact sag (show h.get? a=some _ from x)
 |met f y=>exact sag (show h.get? a=some _ from x)
 |ext φ=>obtain⟨_,⟨_,e⟩,_⟩:=x;exact sag e
theorem Paired.mapP {α β:Type}{F G:α→β→Prop}:∀{l₁:List α} {l₂:List β},Paired F l₁ l₂→(∀a b,F a b→G a b)→Paired G l₁ l₂
 |_,_,.nil,_=>.nil
 |_,_,.cons r t,f=>.cons (f _ _ r) (Paired.mapP t f)
theorem we.stay (x:we P w H h a o)(k:∀b u,(b=a∨H b=some (.own a))→h.get? b=some u→h'.get? b=some u)
 (ho:∀b,H b=some (.own a)→H' b=some (.own a)) (ht:∀b xs,H b=some (.tup xs)→H' b=some (.tup xs)):we P w H' h' a o:=by
 induction o with
 |l xs=>obtain⟨z,its,n,r,e⟩:=x;exact⟨z,its,n,r,k _ _ (.inl rfl) e⟩
 |tup xs=>obtain⟨z,its,r,ob,e,c⟩:=x;exact⟨z,its,r,ob,k _ _ (.inl rfl) e,c⟩
 |dK kvs=>obtain⟨z,y,vs,r,ob,es,ep,e,c⟩:=x;exact⟨z,y,vs,r,ob,es,ep,k _ _ (.inl rfl) e,c⟩
 | dT kvs=>
   obtain⟨z,y,xs,r,ob,es,ep,e,c⟩:=x;exact⟨z,y,xs,Paired.mapP r fun p q z=>⟨z.1,ht _ _ z.2.1,z.2.2⟩,ob,es,ep,k _ _ (.inl rfl) e,c⟩
 |set S n=>obtain⟨ob,es,ep,t,e,c⟩:=x;exact⟨ob,es,ep,t,k _ _ (.inl rfl) e,c⟩
 | ins C dx fs=>
   obtain⟨d,z,ne,e,mA,⟨od,es,ep,e2,c⟩,r⟩:=x;exact⟨ho _ d,z,ne,k _ _ (.inl rfl) e,mA,⟨od,es,ep,k _ _ (.inr d) e2,c⟩,r⟩
 |own y=>obtain⟨ob,e⟩:=x;exact⟨ob,k _ _ (.inl rfl) e⟩
 |xd fs=>obtain⟨mA,⟨od,es,ep,e,c⟩,r⟩:=x;exact⟨mA,⟨od,es,ep,k _ _ (.inl rfl) e,c⟩,r⟩
 |rng lo hi=>obtain⟨t,u,v,e⟩:=x;exact⟨t,u,v,k _ _ (.inl rfl) e⟩
 |frz ob u ih=>obtain⟨e,q⟩:=x;exact⟨k _ _ (.inl rfl) e,ih q⟩
 | tbl ps=>
   have e:h.get? a=some {cls:=.none,data:=.fields ps}:=x;show h'.get? a=some {cls:=.none,data:=.fields ps};exact k a _ (.inl rfl) e
 | met f y=>
   have e:h.get? a=some (PySem.W.methodObj (.ref f) (.ref y)):=x;show h'.get? a=some (PySem.W.methodObj (.ref f) (.ref y));exact k a _ (.inl rfl) e
 |ext φ=>obtain⟨p,⟨o,e⟩,st⟩:=x;exact⟨st _ _ p fun o q=>k _ _ (.inl rfl) q,⟨o,k _ _ (.inl rfl) e⟩,st⟩
theorem nO.lt (x:nO P w H h)(e:H a=some o):a<h.objs.size:=(x a o e).lt
theorem nO.fresh (x:nO P w H h)(e:h.objs.size≤a):H a=none:=by
 cases q:H a with
 |none=>rfl
 |some u=>exact absurd (sau (x.lt q) e) (sby _)
theorem nO.kept (x:nO P w H h)(k:∀b u,h.get? b=some u→h'.get? b=some u):nO P w H h':=fun a o e=>
 (x a o e).stay (fun b u _ q=>k b u q) (fun _ q=>q) fun _ _ q=>q
theorem nO.laid (x:nO P w H h)(k:∀b u,h.get? b=some u→h'.get? b=some u)(hp:h.objs.size≤a)(new:we P w (yo H a o) h' a o):nO P w (yo H a o) h':=fun b u e=>by
 have hn:=x.fresh hp;by_cases hb:b=a
 ·subst hb;rw[zH]at e;cases e;exact new
 ·rw[zx hb]at e;exact(x b u e).stay (fun c v _ q=>k c v q) (fun c q=>by rw[zx (zz q hn)];exact q) fun c xs q=>by rw[zx (zz q hn)];exact q
end
noncomputable def Rd (H:Hp)(a:Addr)(u:HO):Prop:=H a=some u∨∃o,H a=some (.frz o u)
theorem Rd.ok {P:Program}{w:World}{H:Hp}{h:Heap}{a:Addr}{u:HO}(r:Rd H a u)(x:nO P w H h):we P w H h a u:=by
 rcases r with r|⟨o,r⟩
 ·exact x a u r
 ·obtain⟨_,q⟩:=x a _ r;exact q
noncomputable def Q5:Option HO→Prop
 |some (.l _)=>True
 |some (.dK _)=>True
 |some (.dT _)=>True
 |some (.set _ _)=>True
 |some (.ins _ _ _)=>True
 |some (.ext _)=>True
 |_=>False
section
variable {P:Program}{w:World}{H:Hp}{h h':Heap}{x e:Addr}{o':HO}
theorem nO.write (ok:nO P w H h)(mu:Q5 (H x))(he:e=x∨H e=some (.own x))(k:∀b u,b≠e→h.get? b=some u→h'.get? b=some u)(heo:∃u,h'.get? e=some u)
 (new:we P w (yo H x o') h' x o'):nO P w (yo H x o') h':=fun b u q=>by
 have nown:∀c y,H c=some (.own y)→c≠x:=fun c y r z=>by subst z;rw[r]at mu;exact mu
 have ntup:∀c xs,H c=some (.tup xs)→c≠x:=fun c xs r z=>by subst z;rw[r]at mu;exact mu
 by_cases hb:b=x
 ·subst hb;rw[zH]at q;cases q;exact new
 ·rw[zx hb]at q;by_cases hbe:b=e
  ·have q':H b=some (.own x):=by
    rcases he with z|z
    ·exact absurd (hbe.trans z) hb
    ·rw[hbe];exact z
   rw[q]at q';cases q';obtain⟨v,hv⟩:=heo;exact⟨v,by rw[hbe];exact hv⟩
  ·refine(ok b u q).stay (fun c v hc r=>k c v ?_ r) (fun c r=>by rw[zx (nown c b r)];exact r) fun c xs r=>by rw[zx (ntup c xs r)];exact r
   rcases hc with rfl|hc
   ·exact hbe
   ·rintro rfl
    rcases he with z|z
    ·exact nown c b hc z
    ·rw[hc]at z;cases z;exact hb rfl
end
structure Un (fs ex:List Addr)(H H':Hp)(h h':Heap):Prop where
 keep:∀b o,h.get? b=some o→H b=none→b∉fs→b∉ex→h'.get? b=some o
 slot:∀b o,h.get? b=some o→H b=none→b∈fs→b∉ex→∃sl,h'.get? b=some {o with slots:=sl}
 free:∀b o,h.get? b=some o→H b=none→b∉ex→H' b=none
 there:∀b o,h.get? b=some o→b∉ex→∃o',h'.get? b=some o'
 tups:∀b xs,H b=some (.tup xs)→H' b=some (.tup xs)
 frzs:∀b o u,H b=some (.frz o u)→H' b=some (.frz o u)
 tbls:∀b ps,H b=some (.tbl ps)→∃more,H' b=some (.tbl (ps++more))
section
variable {fs fs' ex ex':List Addr}{H H1 H2:Hp}{h h1 h2 h':Heap}{a x e:Addr}{o:HO}
theorem Un.any (u:Un fs ex H H1 h h1){b:Addr}{ob:Obj}(q:h.get? b=some ob)(n:H b=none)(hx:b∉ex):∃sl,h1.get? b=some {ob with slots:=sl}:=by
 by_cases hb:b∈fs
 ·exact u.slot b ob q n hb hx
 ·exact⟨ob.slots,u.keep b ob q n hb hx⟩
theorem Un.kept (k:∀b u,h.get? b=some u→h'.get? b=some u):Un fs ex H H h h' :=
 ⟨fun b ob q _ _ _=>k b ob q,fun b ob q _ _ _=>⟨ob.slots,k b ob q⟩,fun _ _ _ n _=>n,fun b ob q _=>⟨ob,k b ob q⟩,fun _ _ q=>q,fun _ _ _ q=>q,fun _ ps q=>⟨#[],by rw[q];simp⟩⟩
theorem Un.refl:Un fs ex H H h h:=Un.kept fun _ _ q=>q
theorem Un.laid (k:∀b u,h.get? b=some u→h'.get? b=some u)(hp:h.objs.size≤a)(hn:H a=none):Un fs ex H (yo H a o) h h' where
 keep:=fun b u q _ _ _=>k b u q
 slot:=fun b u q _ _ _=>⟨u.slots,k b u q⟩
 free:=fun b u q n _=>by rw[zx (saz (sau (sag q) hp))];exact n
 there:=fun b u q _=>⟨u,k b u q⟩
 tups:=fun b xs q=>by rw[zx (zz q hn)];exact q
 frzs:=fun b u xs q=>by rw[zx (zz q hn)];exact q
 tbls:=fun b ps q=>⟨#[],by rw[zx (zz q hn),q];simp⟩
theorem Un.write (mu:Q5 (H x))(he:e=x∨H e=some (.own x))(k:∀b u,b≠e→h.get? b=some u→h'.get? b=some u)(heo:∃u,h'.get? e=some u):Un fs ex H (yo H x o) h h':=by
 have hx:∀b,H b=none→b≠x:=fun b n z=>by subst z;rw[n]at mu;exact mu
 have hb:∀b,H b=none→b≠e:=fun b n z=>by
  subst z
  rcases he with r|r
  ·exact hx b n r
  ·rw[n]at r;cases r
 have hm:∀b u,H b=some u→¬Q5 (some u)→b≠x:=fun b u q nm z=>by subst z;rw[q]at mu;exact nm mu
 refine⟨fun b u q n _ _=>k b u (hb b n) q,fun b u q n _ _=>⟨u.slots,k b u (hb b n) q⟩,fun b u q n _=>by rw[zx (hx b n)];exact n,fun b u q _=>?_,
  fun b xs q=>by rw[zx (hm b _ q fun z=>z)];exact q,fun b u xs q=>by rw[zx (hm b _ q fun z=>z)];exact q,fun b ps q=>⟨#[],by rw[zx (hm b _ q fun z=>z),q];simp⟩⟩
 by_cases hbe:b=e
 ·subst hbe;exact heo
 ·exact⟨u,k b u hbe q⟩
end
noncomputable def QW (h:Heap)(H:Hp):List Addr:=(List.range h.objs.size).filter fun a=>(H a).isSome
noncomputable def dC (h:Heap)(H:Hp):Heap:=PySem.W.hideAll h (QW h H)
theorem Xv (h:Heap)(H:Hp):(dC h H).objs.size=h.objs.size:=PySem.W.hideAll_size _ _
theorem Vx {h:Heap}{H:Hp}{b:Addr}{o:Obj}(e:h.get? b=some o)(n:H b=none):(dC h H).get? b=some o :=
 PySem.W.hideAll_get _ e fun hm=>by
  have q:(H b).isSome=true:=(saI.mp hm).2;rw[n]at q;simp at q
theorem UX {h:Heap}{H:Hp}{b:Addr}{o:Obj}(e:(dC h H).get? b=some o):h.get? b=some o∧H b=none:=by
 have e':h.get? b=some o:=PySem.W.of_hideAll (QW h H) e;refine⟨e',?_⟩
 cases q:H b with
 |none=>rfl
 | some x=>
   have hm:b∈QW h H:=saI.mpr ⟨sba.mpr (sag e'),by simp[q]⟩;have z:(dC h H).get? b=none:=PySem.W.hideAll_none (QW h H) hm;rw[z]at e;cases e
noncomputable def TH (g h:Heap)(L:Addr):List (Addr×Obj):=(List.range h.objs.size).filterMap fun a=>if a=L∨(g.get? a).isSome=true then none else(h.get? a).map fun o=>(a,o)
noncomputable def yv (g h:Heap)(L d:Addr):List (Addr×Obj):=(TH g h L).filter fun p=>decide (p.1≠d)
structure Mod (K:Frag)(mg:Str→Option Value)(base:Heap):Prop where
 kin:K.In base
 glob:base.Ns mainGlobals mg
 blt:∃mb,base.Ns builtinsNs mb∧∀x:Str,x ≠ "__name__" → mb x=bootBuiltins x
 nolimit:base.NoLimit
structure Cx where
 prog:Program
 w:World
 K:Frag
 mg:Str→Option Value
 base:Heap
 A:Around
 N:List Str
 s₀:Shared
 H₀:Hp
 env:Env
 outer:List Env
 stack:List Env
 ex:List Addr
 fn:Str→Bool
 calm:Bool
 pn:List (Addr×Obj)
 xe:Value→Shared→Prop
noncomputable def nv (l:List Env):List Addr:=l.filterMap (·.frame)
noncomputable abbrev Cx.fs (X:Cx):List Addr:=nv X.outer
noncomputable def Q2 (sc:Scope)(x:Str):Prop:=sc.names.lookup x=some .local∨sc.names.lookup x=some .cell∨sc.names.lookup x=some .free
noncomputable def Se (sc:Scope)(x:Str):Prop:=sc.names.lookup x=some .local∨sc.names.lookup x=some .cell
noncomputable def PR (env:Env)(h:Heap)(m:Str→Option Value)(x:Str)(u:Value):Prop :=
 (env.kindOf x=some .local∧m x=some u)∨((env.kindOf x=some .cell∨env.kindOf x=some .free)∧∃c,env.cells.lookup x=some c∧h.IsCell c (some u))
structure Cx.Ok (X:Cx):Prop where
 mod:Mod X.K X.mg X.base
 kind:X.env.scope.kind=.function
 glob:X.env.globals=mainGlobals
 blt:X.env.builtins=builtinsNs
 above:X.s₀.heap.objs.size≤X.env.locals
 inj:∀x y c,X.env.cells.lookup x=some c→X.env.cells.lookup y=some c→x=y
 has:∀x,(X.env.kindOf x=some .cell∨X.env.kindOf x=some .free)→∃c,X.env.cells.lookup x=some c
 cab:∀x c,X.fn x=true→X.env.cells.lookup x=some c→X.s₀.heap.objs.size≤c
 hd:X.calm=true→X.A.handled=none
 frames:X.A.frames=some X.stack
 stk:X.stack=X.outer∨(X.stack=X.env::X.outer∧X.env.frame=some X.env.locals)
 exf:∀b∈X.ex,b≠X.env.locals∧∀x c,X.env.cells.lookup x=some c→c≠b
 bs:∀b o,X.base.get? b=some o→X.s₀.heap.get? b=some o∧X.H₀ b=none
 bsz:X.base.objs.size≤X.s₀.heap.objs.size
 noex:∀b o,X.base.get? b=some o→b∉X.ex
 exfs:∀b∈X.ex,b∉X.fs
 funs:X.s₀.heap.FunFrames X.base X.outer
 frf:∀b∈X.fs,X.H₀ b=none
structure Inv (X:Cx)(pins:List (Addr×Obj))(σ:List (Option V))(H:Hp)(s:Shared):Prop where
 ok:X.Ok
 os:s.os=X.s₀.os
 bare:AllBare s.gens
 base:Un X.fs X.ex X.H₀ H X.s₀.heap s.heap
 loc:∃m,s.heap.Ns X.env.locals m∧∀(i:Nat) (x:Str) (v:V),X.N[i]?=some x→σ[i]?=some (some v)→Q2 X.env.scope x→∃u,yS v u∧PR X.env s.heap m x u
 cell:∀x c,X.env.cells.lookup x=some c→∃v,s.heap.IsCell c v
 free:H X.env.locals=none
 freeC:∀x c,X.env.cells.lookup x=some c→H c=none
 pin:∀p∈X.pn++pins,s.heap.get? p.1=some p.2∧H p.1=none∧p.1≠X.env.locals∧p.1∉X.fs∧∀v,p.2.data≠.cell v
 hok:nO X.prog X.w H s.heap
 len:σ.length=X.N.length
section
variable {X:Cx}{pins:List (Addr×Obj)}{σ:List (Option V)}{H H':Hp}{s:Shared}{h':Heap}
theorem Cx.Ok.nofr (ok:X.Ok){b:Addr}{o:Obj}(e:X.base.get? b=some o):b∉X.fs:=fun hb=>by
 have:=(ok.funs.mem hb).1;rw[e]at this;cases this
theorem Inv.bs (I:Inv X pins σ H s):∀b o,X.base.get? b=some o→s.heap.get? b=some o∧H b=none:=fun b o e=>
 ⟨I.base.keep b o (I.ok.bs b o e).1 (I.ok.bs b o e).2 (I.ok.nofr e) (I.ok.noex b o e),I.base.free b o (I.ok.bs b o e).1 (I.ok.bs b o e).2 (I.ok.noex b o e)⟩
theorem Inv.bk (I:Inv X pins σ H s):∀b o,X.base.get? b=some o→s.heap.get? b=some o:=fun b o e=>(I.bs b o e).1
theorem Inv.mod (I:Inv X pins σ H s):Mod X.K X.mg X.base:=I.ok.mod
theorem Inv.kIn (I:Inv X pins σ H s):X.K.In s.heap:=I.ok.mod.kin.keeps I.bk
theorem Inv.lt (I:Inv X pins σ H s):X.env.locals<s.heap.objs.size:=let ⟨_,hn,_⟩:=I.loc;hn.lt
theorem Inv.sz (I:Inv X pins σ H s):X.s₀.heap.objs.size≤s.heap.objs.size:=sbq I.ok.above (sbO I.lt)
theorem Inv.nofs (I:Inv X pins σ H s){a:Addr}(h:s.heap.objs.size≤a):a∉X.fs:=fun hb=>by
 obtain⟨_,o,ho,_⟩:=I.ok.funs.mem hb;exact absurd (sau (sag ho) (sbq I.sz h)) (sby _)
theorem Inv.cne (I:Inv X pins σ H s):∀x c,X.env.cells.lookup x=some c→c≠X.env.locals:=fun x c e z=>by
 obtain⟨v,o,ho,hd⟩:=I.cell x c e;obtain⟨m,⟨o',es,ep,ho',hd',_⟩,_⟩:=I.loc;rw[z,ho']at ho;cases ho;rw[hd']at hd;cases hd
theorem Inv.funs (I:Inv X pins σ H s):s.heap.FunFrames X.base X.outer:=by
 have all:∀(l:List Env),(∀b∈nv l,b∈X.fs)→X.s₀.heap.FunFrames X.base l→s.heap.FunFrames X.base l:=by
  intro l
  induction l with
  |nil=>intro _ _;trivial
  | cons env r ih=>
    intro hs hl;obtain⟨hk,⟨L,o,hf,hn,ho,hd⟩,hr⟩:=hl;have hL:L∈X.fs:=hs L (by unfold nv;rw[List.filterMap_cons,hf];exact saw);obtain⟨sl,e⟩:=I.base.slot L o ho (I.ok.frf L hL) hL fun z=>I.ok.exfs L z hL;exact⟨hk,⟨L,_,hf,hn,e,hd⟩,ih (fun b hb=>hs b (by unfold nv;rw[List.filterMap_cons,hf];exact sao _ hb)) hr⟩
 exact all X.outer (fun _ hb=>hb) I.ok.funs
theorem Inv.stack (I:Inv X pins σ H s):s.heap.FunFrames X.base X.stack:=by
 rcases I.ok.stk with e|⟨e,hf⟩
 ·rw[e];exact I.funs
 ·rw[e];obtain⟨m,hn,_⟩:=I.loc;refine .cons (by rw[I.ok.kind];decide) hf hn ?_ I.funs;exact Heap.get?_none_of_le (sbq I.ok.bsz I.ok.above)
theorem Inv.stkSub (I:Inv X pins σ H s):∀b∈nv X.stack,b∈X.env.locals::X.fs:=fun b hb=>by
 rcases I.ok.stk with e|⟨e,hf⟩
 ·rw[e]at hb;exact sao _ hb
 ·rw[e]at hb;unfold nv at hb;rw[List.filterMap_cons,hf]at hb;exact hb
theorem Inv.stkFree (I:Inv X pins σ H s):∀b∈nv X.stack,H b=none:=fun b hb=>by
 rcases san.mp (I.stkSub b hb)with e|hb
 ·rw[e];exact I.free
 ·obtain⟨_,o,ho,_⟩:=I.ok.funs.mem hb;exact I.base.free b o ho (I.ok.frf b hb) fun z=>I.ok.exfs b z hb
theorem Inv.step {g':Array GenState}{t':Nat}{d':Drawn}{ch:List Addr}(I:Inv X pins σ H s)
 (hch:∀b∈ch,(b∈X.ex∨X.s₀.heap.objs.size≤b)∧b≠X.env.locals∧(∀x c,X.env.cells.lookup x=some c→c≠b)∧∀p∈X.pn++pins,p.1≠b)
 (keep:∀b o,b≠X.env.locals→b∉X.fs→b∉ch→s.heap.get? b=some o→H b=none→h'.get? b=some o)
 (slot:∀b o,b≠X.env.locals→b∈X.fs→b∉ch→s.heap.get? b=some o→H b=none→∃sl,h'.get? b=some {o with slots:=sl}) (free:∀b o,b∉ch→s.heap.get? b=some o→H b=none→H' b=none)
 (there:∀b o,b∉ch→s.heap.get? b=some o→∃o',h'.get? b=some o')
 (tups:∀b xs,H b=some (.tup xs)→H' b=some (.tup xs)) (frzs:∀b o u,H b=some (.frz o u)→H' b=some (.frz o u)) (tbls:∀b ps,H b=some (.tbl ps)→∃more,H' b=some (.tbl (ps++more)))
 (ns:∀m,s.heap.Ns X.env.locals m→h'.Ns X.env.locals m) (hok:nO X.prog X.w H' h') (hg:AllBare g') :
 Inv X pins σ H' {s with heap:=h',gens:=g',drawn:=d',toks:=t'}:=by
 have neL:∀b o,X.s₀.heap.get? b=some o→b≠X.env.locals:=fun b o e=>saz (sau (sag e) I.ok.above)
 have neC:∀b o,X.s₀.heap.get? b=some o→b∉X.ex→b∉ch:=fun b o e hx hb=>by
  rcases(hch b hb).1 with z|z
  ·exact hx z
  ·exact absurd (sau (sag e) z) (sby _)
 have pT:∀x c,X.env.cells.lookup x=some c→∀v,s.heap.IsCell c v→h'.IsCell c v:=fun x c e v ⟨o,ho,hd⟩=>by
  have nch:c∉ch:=fun z=>(hch c z).2.2.1 x c e rfl;by_cases hc:c∈X.fs
  ·obtain⟨sl,q⟩:=slot c o (I.cne x c e) hc nch ho (I.freeC x c e);exact⟨_,q,hd⟩
  ·exact⟨o,keep c o (I.cne x c e) hc nch ho (I.freeC x c e),hd⟩
 refine⟨I.ok,I.os,hg,⟨fun b o e n hb hx=>?_,fun b o e n hb hx=>?_,fun b o e n hx=>?_,fun b o e hx=>?_,fun b xs e=>tups b xs (I.base.tups b xs e),fun b o xs e=>frzs b o xs (I.base.frzs b o xs e),fun b ps e=>?_⟩,?_,fun x c e=>?_,?_,fun x c e=>?_,fun p hp=>?_,hok,I.len⟩
 ·exact keep b o (neL b o e) hb (neC b o e hx) (I.base.keep b o e n hb hx) (I.base.free b o e n hx)
 ·obtain⟨sl,e1⟩:=I.base.slot b o e n hb hx;obtain⟨sl',e2⟩:=slot b _ (neL b o e) hb (neC b o e hx) e1 (I.base.free b o e n hx);exact⟨sl',e2⟩
 ·obtain⟨o',e1⟩:=I.base.there b o e hx;exact free b o' (neC b o e hx) e1 (I.base.free b o e n hx)
 ·obtain⟨o',e1⟩:=I.base.there b o e hx;exact there b o' (neC b o e hx) e1
 ·obtain⟨m1,e1⟩:=I.base.tbls b ps e;obtain⟨m2,e2⟩:=tbls b _ e1;exact⟨m1++m2,by rw[e2,Array.append_assoc]⟩
 ·obtain⟨m,hn,hl⟩:=I.loc;refine⟨m,ns m hn,fun i x v e1 e2 e3=>?_⟩;obtain⟨u,r,l⟩:=hl i x v e1 e2 e3;refine⟨u,r,?_⟩
  rcases l with l|⟨k,c,e,z⟩
  ·exact .inl l
  ·exact .inr ⟨k,c,e,pT x c e _ z⟩
 ·obtain⟨v,z⟩:=I.cell x c e;exact⟨v,pT x c e v z⟩
 ·obtain⟨m,⟨o,_,_,ho,_⟩,_⟩:=I.loc;exact free _ o (fun z=>(hch _ z).2.1 rfl) ho I.free
 ·obtain⟨v,o,ho,hd⟩:=I.cell x c e;exact free c o (fun z=>(hch c z).2.2.1 x c e rfl) ho (I.freeC x c e)
 ·obtain⟨e,n,ne,nf,d⟩:=I.pin p hp;have nch:p.1∉ch:=fun z=>(hch p.1 z).2.2.2 p hp rfl;exact⟨keep p.1 p.2 ne nf nch e n,free p.1 p.2 nch e n,ne,nf,d⟩
theorem Inv.un {t':Nat}(I:Inv X pins σ H s)(u:Un X.fs [] H H' s.heap h')(hok:nO X.prog X.w H' h'):Inv X pins σ H' {s with heap:=h',toks:=t'}:=by
 obtain⟨m,⟨o,es,ep,ho,r⟩,_⟩:=id I.loc;obtain⟨sl,hL⟩:=u.any ho I.free (by simp)
 exact I.step (g':=s.gens) (d':=s.drawn) (ch:=[]) (fun _ z=>nomatch z) (fun b o _ hb _ e n=>u.keep b o e n hb (by simp)) (fun b o _ hb _ e n=>u.slot b o e n hb (by simp)) (fun b o _ e n=>u.free b o e n (by simp)) (fun b o _ e=>u.there b o e (by simp)) u.tups u.frzs u.tbls (fun m' hm=>by
  obtain⟨o',es',ep',ho',r'⟩:=hm;rw[ho]at ho';cases ho'
  exact⟨_,es',ep',hL,r'⟩) hok I.bare
theorem Inv.call {g':Array GenState}{t':Nat}{d':Drawn}{ch:List Addr}(I:Inv X pins σ H s)(u:Un (nv X.stack) ch H H' s.heap h')(hok:nO X.prog X.w H' h')(hg:AllBare g')
 (hch:∀b∈ch,(b∈X.ex∨X.s₀.heap.objs.size≤b)∧b≠X.env.locals∧(∀x c,X.env.cells.lookup x=some c→c≠b)∧∀p∈X.pn++pins,p.1≠b) :
 Inv X pins σ H' {s with heap:=h',gens:=g',drawn:=d',toks:=t'}:=by
 obtain⟨m,⟨o,es,ep,ho,r⟩,_⟩:=id I.loc;obtain⟨sl,hL⟩:=u.any ho I.free fun z=>(hch _ z).2.1 rfl
 exact I.step (ch:=ch) hch (fun b o hL hb hc e n=>u.keep b o e n (fun z=>(san.mp (I.stkSub b z)).elim hL hb) hc) (fun b o _ _ hc e n=>u.any e n hc) (fun b o hc e n=>u.free b o e n hc) (fun b o hc e=>u.there b o e hc) u.tups u.frzs u.tbls (fun m' hm=>by
  obtain⟨o',es',ep',ho',r'⟩:=hm;rw[ho]at ho';cases ho'
  exact⟨_,es',ep',hL,r'⟩) hok hg
theorem Inv.turned {t':Nat}{it:Addr}(I:Inv X pins σ H s)(k:∀b o,b≠it→s.heap.get? b=some o→h'.get? b=some o)(hn:H it=none)(hL:it≠X.env.locals)
 (h1:it∈X.ex∨X.s₀.heap.objs.size≤it) (h2:∀x c,X.env.cells.lookup x=some c→c≠it) (h3:∀p∈X.pn++pins,p.1≠it):Inv X pins σ H {s with heap:=h',toks:=t'}:=by
 have nit:∀b u,H b=some u→b≠it:=fun b u e z=>by rw[z,hn]at e;cases e
 refine I.step (g':=s.gens) (d':=s.drawn) (ch:=[it]) (fun b hb=>?_) (fun b o _ _ hc e _=>k b o (fun z=>hc (by simp[z])) e) (fun b o _ _ hc e _=>⟨o.slots,k b o (fun z=>hc (by simp[z])) e⟩) (fun _ _ _ _ n=>n)
  (fun b o hc e=>⟨o,k b o (fun z=>hc (by simp[z])) e⟩) (fun _ _ e=>e) (fun _ _ _ e=>e) (fun b ps e=>⟨#[],by rw[e];simp⟩) (fun m hm=>?_) (fun b u e=>?_) I.bare
 ·have e:b=it:=by simpa using hb
  subst e;exact⟨h1,hL,h2,h3⟩
 ·obtain⟨o,es,ep,ho,r⟩:=hm;exact⟨o,es,ep,k _ o (sce hL) ho,r⟩
 ·refine(I.hok b u e).stay (fun c v hc q=>k c v ?_ q) (fun _ q=>q) fun _ _ q=>q
  rcases hc with z|z
  ·rw[z];exact nit b u e
  ·exact nit c _ z
theorem Inv.tok (I:Inv X pins σ H s)(t:Nat):Inv X pins σ H {s with toks:=t}:=I.un (h':=s.heap) (t':=t) Un.refl I.hok
theorem Inv.kept {t':Nat}(I:Inv X pins σ H s)(k:∀b u,s.heap.get? b=some u→h'.get? b=some u):Inv X pins σ H {s with heap:=h',toks:=t'}:=I.un (Un.kept k) (I.hok.kept k)
theorem Inv.laid {a:Addr}{o:HO}{t':Nat}(I:Inv X pins σ H s)(k:∀b u,s.heap.get? b=some u→h'.get? b=some u)(hp:s.heap.objs.size≤a)(new:we X.prog X.w (yo H a o) h' a o) :
 Inv X pins σ (yo H a o) {s with heap:=h',toks:=t'}:=I.un (Un.laid k hp (I.hok.fresh hp)) (I.hok.laid k hp new)
theorem Inv.write {x e:Addr}{o:HO}{t':Nat}(I:Inv X pins σ H s)(mu:Q5 (H x))(he:e=x∨H e=some (.own x))(k:∀b u,b≠e→s.heap.get? b=some u→h'.get? b=some u)(heo:∃u,h'.get? e=some u)
 (new:we X.prog X.w (yo H x o) h' x o):Inv X pins σ (yo H x o) {s with heap:=h',toks:=t'}:=I.un (Un.write mu he k heo) (I.hok.write mu he k heo new)
theorem Inv.pins_of {pins':List (Addr×Obj)}(I:Inv X pins σ H s)(h:∀p∈pins',s.heap.get? p.1=some p.2∧H p.1=none∧p.1≠X.env.locals∧p.1∉X.fs∧∀v,p.2.data≠.cell v):Inv X pins' σ H s :=
 ⟨I.ok,I.os,I.bare,I.base,I.loc,I.cell,I.free,I.freeC,fun p hp=>(sas.mp hp).elim (fun z=>I.pin p (List.mem_append_left _ z)) (h p),I.hok,I.len⟩
theorem j7 {N:List Str}(hN:N.Nodup){i j:Nat}{x:Str}(a:N[i]?=some x)(b:N[j]?=some x):i=j:=by
 obtain⟨h1,e1⟩:=saj.mp a;obtain⟨h2,e2⟩:=saj.mp b;exact(List.getElem_inj hN).mp (e1.trans e2.symm)
theorem gZ {M:Model}{A:Around}{E:Value→Shared→Prop}{i:Nat}{x:Str}{v:V}{u:Value}{Q:Unit→Shared→Prop}(I:Inv X pins σ H s)(hN:X.N.Nodup)(hi:X.N[i]?=some x)(hx:Se X.env.scope x)(r:yS v u)
 (h:∀s',Inv X pins (σ.set i (some v)) H s'→(∃a,Heap.SameBut a s.heap s'.heap∧(a=X.env.locals∨X.env.cells.lookup x=some a))→Q () s') (hf:X.fn x=true∨X.env.scope.names.lookup x=some .local:=by first|exact .inl rfl|exact .inr rfl|assumption):wpAny M A (storeName X.env x u) Q E s:=by
 obtain⟨m,hn,hl⟩:=id I.loc;have hcls:(X.env.scope.kind == .class ||(X.env.scope.kind == .module&&X.env.locals != X.env.globals))=false:=by rw[I.ok.kind];rfl
 have hiσ:i < σ.length:=by rw[I.len];exact(saj.mp hi).1
 have cne:=I.cne
 have tracked:∀{a:Addr} {h':Heap},(∃o,s.heap.get? a=some o∧H a=none)→Heap.SameBut a s.heap h'→nO X.prog X.w H h':=fun {a h'} ha hs b ob e=>by
  obtain⟨_,_,hfree⟩:=ha;refine(I.hok b ob e).stay (fun c w' hc q=>(hs.2 c ?_).trans q) (fun _ q=>q) fun _ _ q=>q;rintro rfl
  rcases hc with rfl|hc
  ·rw[hfree]at e;cases e
  ·rw[hfree]at hc;cases hc
 rcases hx with hk|hk
 ·refine wpAny_storeName_local hk hn (fun h' hn' hs=>?_) hcls;obtain⟨oL,_,_,hoL,_⟩:=id hn;refine h _ ⟨I.ok,I.os,I.bare,⟨fun b o e n hb hx=>?_,fun b o e n hb hx=>?_,I.base.free,fun b o e hx=>?_,I.base.tups,I.base.frzs,I.base.tbls⟩,⟨_,hn',fun j y v' e1 e2 e3=>?_⟩,fun y c e=>?_,I.free,I.freeC,fun p hp=>?_,tracked ⟨oL,hoL,I.free⟩ hs,by simpa using I.len⟩ ⟨_,hs,.inl rfl⟩
  ·exact(hs.2 b (saz (sau (sag e) I.ok.above))).trans (I.base.keep b o e n hb hx)
  ·obtain⟨sl,e1⟩:=I.base.slot b o e n hb hx;exact⟨sl,(hs.2 b (saz (sau (sag e) I.ok.above))).trans e1⟩
  ·obtain⟨o',e1⟩:=I.base.there b o e hx;exact⟨o',(hs.2 b (saz (sau (sag e) I.ok.above))).trans e1⟩
  ·by_cases hj:j=i
   ·subst hj;rw[hi]at e1;cases e1;rw[List.getElem?_set_self hiσ]at e2;cases e2;exact⟨u,r,.inl ⟨hk,by simp⟩⟩
   ·rw[sam (sce hj)]at e2;obtain⟨u',r',q⟩:=hl j y v' e1 e2 e3;refine⟨u',r',?_⟩
    rcases q with⟨k,e⟩|⟨k,c,e,z⟩
    ·refine .inl ⟨k,?_⟩;have:y≠x:=fun e=>hj (j7 hN e1 (e ▸ hi));simp[this,e]
    ·exact .inr ⟨k,c,e,z.sameBut hs (cne y c e)⟩
  ·obtain⟨w',z⟩:=I.cell y c e;exact⟨w',z.sameBut hs (cne y c e)⟩
  ·obtain⟨e,n,ne,nf,d⟩:=I.pin p hp;exact⟨(hs.2 p.1 ne).trans e,n,ne,nf,d⟩
 ·have hfn:X.fn x=true:=by
   rcases hf with z|z
   ·exact z
   ·rw[z]at hk;cases hk
  obtain⟨c,hc⟩:=I.ok.has x (.inl hk);obtain⟨w',z⟩:=I.cell x c hc;refine wpAny_storeName_cell I.ok.kind hk hc z (fun h' hc' hs=>?_);obtain⟨oc,hoc,hocd⟩:=id z;refine h {s with heap:=h'} ⟨I.ok,I.os,I.bare,⟨fun b o e n hb hx=>?_,fun b o e n hb hx=>?_,I.base.free,fun b o e hx=>?_,I.base.tups,I.base.frzs,I.base.tbls⟩,⟨m,hn.sameBut hs (sce (cne x c hc)),fun j y v' e1 e2 e3=>?_⟩,fun y c' e=>?_,I.free,I.freeC,fun p hp=>?_,tracked ⟨oc,hoc,I.freeC x c hc⟩ hs,by simpa using I.len⟩ ⟨c,hs,.inr hc⟩
  ·exact(hs.2 b (saz (sau (sag e) (I.ok.cab x c hfn hc)))).trans (I.base.keep b o e n hb hx)
  ·obtain⟨sl,e1⟩:=I.base.slot b o e n hb hx;exact⟨sl,(hs.2 b (saz (sau (sag e) (I.ok.cab x c hfn hc)))).trans e1⟩
  ·obtain⟨o',e1⟩:=I.base.there b o e hx;exact⟨o',(hs.2 b (saz (sau (sag e) (I.ok.cab x c hfn hc)))).trans e1⟩
  ·by_cases hj:j=i
   ·subst hj;rw[hi]at e1;cases e1;rw[List.getElem?_set_self hiσ]at e2;cases e2;exact⟨u,r,.inr ⟨.inl hk,c,hc,hc'⟩⟩
   ·rw[sam (sce hj)]at e2;obtain⟨u',r',q⟩:=hl j y v' e1 e2 e3;refine⟨u',r',?_⟩
    rcases q with q|⟨k,c',e,z'⟩
    ·exact .inl q
    ·refine .inr ⟨k,c',e,z'.sameBut hs ?_⟩;rintro rfl;exact hj (j7 hN e1 (I.ok.inj _ _ _ e hc ▸ hi))
  ·by_cases hcc:c'=c
   ·subst hcc;exact⟨_,hc'⟩
   ·obtain⟨w2,z2⟩:=I.cell y c' e;exact⟨w2,z2.sameBut hs hcc⟩
  ·obtain⟨e,n,ne,nf,d⟩:=I.pin p hp;refine⟨(hs.2 p.1 ?_).trans e,n,ne,nf,d⟩;intro q;rw[q,hoc]at e;have q':oc=p.2:=saE e;exact d w' (by rw[←q'];exact hocd)
theorem jC {M:Model}{A:Around}{E:Value→Shared→Prop}{i:Nat}{x:Str}{v:V}{u:Value}{Q:Unit→Shared→Prop}(I:Inv X pins σ H s)(hN:X.N.Nodup)(hi:X.N[i]?=some x)(hx:Se X.env.scope x)(r:yS v u)
 (h:∀s',Inv X pins (σ.set i (some v)) H s'→Q () s') (hf:X.fn x=true∨X.env.scope.names.lookup x=some .local:=by first|exact .inl rfl|exact .inr rfl|assumption):wpAny M A (storeName X.env x u) Q E s :=
 gZ I hN hi hx r (fun s' I' _=>h s' I') hf
theorem Inv.call' {s':Shared}{ch:List Addr}(I:Inv X pins σ H s)(ho:s'.os=s.os)(u:Un (nv X.stack) ch H H' s.heap s'.heap)(hok:nO X.prog X.w H' s'.heap)(hg:AllBare s'.gens)
 (hch:∀b∈ch,(b∈X.ex∨X.s₀.heap.objs.size≤b)∧b≠X.env.locals∧(∀x c,X.env.cells.lookup x=some c→c≠b)∧∀p∈X.pn++pins,p.1≠b):Inv X pins σ H' s':=by
 obtain⟨h',g',d',t',o'⟩:=s';have e:o'=s.os:=ho;subst e;exact I.call (g':=g') (t':=t') (d':=d') u hok hg hch
end
noncomputable abbrev XK:=Value→Option Addr→Hp→Prop
noncomputable abbrev St:=List (Option V)
noncomputable abbrev VK:=V→Hp→Prop
noncomputable abbrev TE:=St→Hp→VK→Prop
noncomputable abbrev TT:=St→Hp→(Bool→Hp→Prop)→Prop
noncomputable abbrev TA:=St→Hp→(List V→Hp→Prop)→Prop
structure Ends where
 nx:St→Hp→Prop
 rt:VK
 bk:St→Hp→Prop:=fun _ _=>False
 ct:St→Hp→Prop:=fun _ _=>False
noncomputable abbrev TS:=Ends→St→Hp→Prop
noncomputable def EP (X:Cx)(pins:List (Addr×Obj))(σ:St)(Q:VK)(u:Value)(s':Shared):Prop:=∃v H',Inv X pins σ H' s'∧yS v u∧Q v H'
noncomputable def TP (X:Cx)(pins:List (Addr×Obj))(σ:St)(Q:Bool→Hp→Prop)(b:Bool)(s':Shared):Prop:=∃H',Inv X pins σ H' s'∧Q b H'
noncomputable def AP (X:Cx)(pins:List (Addr×Obj))(σ:St)(Q:List V→Hp→Prop)(us:List Value)(s':Shared):Prop:=∃vs H',Inv X pins σ H' s'∧ym vs us∧Q vs H'
noncomputable def SP (X:Cx)(pins:List (Addr×Obj))(D:Ends)(f:Flow)(s':Shared):Prop :=
 match f with
 | .next=>∃σ' H',Inv X pins σ' H' s'∧D.nx σ' H'
 | .brk=>∃σ' H',Inv X pins σ' H' s'∧D.bk σ' H'
 | .cont=>∃σ' H',Inv X pins σ' H' s'∧D.ct σ' H'
 | .ret u=>∃v σ' H',Inv X pins σ' H' s'∧yS v u∧D.rt v H'
noncomputable def PE (X:Cx)(e:Expr)(t:TE):Prop :=
 ∀(pins:List (Addr×Obj)) (s:Shared) (σ:St) (H:Hp) (Q:VK),Inv X pins σ H s→t σ H Q→wpAny (model X.prog X.w) X.A (eval e X.env) (EP X pins σ Q) X.xe s
noncomputable def PT (X:Cx)(e:Expr)(t:TT):Prop :=
 ∀(pins:List (Addr×Obj)) (s:Shared) (σ:St) (H:Hp) (Q:Bool→Hp→Prop),Inv X pins σ H s→t σ H Q→wpAny (model X.prog X.w) X.A (isTrue e X.env (eval e X.env)) (TP X pins σ Q) X.xe s
noncomputable def PW (X:Cx)(e:Expr)(t:TT):Prop :=
 ∀(whole:Sem Value) (pins:List (Addr×Obj)) (s:Shared) (σ:St) (H:Hp) (Q:Bool→Hp→Prop),Inv X pins σ H s→t σ H Q→wpAny (model X.prog X.w) X.A (isTrue e X.env whole) (TP X pins σ Q) X.xe s
theorem PW.pt {X:Cx}{e:Expr}{t:TT}(h:PW X e t):PT X e t:=h _
noncomputable def PA (X:Cx)(es:List Expr)(t:TA):Prop :=
 ∀(pos:Pos) (pins:List (Addr×Obj)) (s:Shared) (σ:St) (H:Hp) (Q:List V→Hp→Prop),Inv X pins σ H s→t σ H Q→wpAny (model X.prog X.w) X.A (spliced (backTo pos (starEach es X.env))) (AP X pins σ Q) X.xe s
noncomputable def PS (X:Cx)(st:Stmt)(t:TS):Prop :=
 ∀(pins:List (Addr×Obj)) (s:Shared) (σ:St) (H:Hp) (D:Ends),Inv X pins σ H s→t D σ H→wpAny (model X.prog X.w) X.A (exec st X.env) (SP X pins D) X.xe s
noncomputable def kI (X:Cx)(st:List Stmt)(t:TS):Prop :=
 ∀(pins:List (Addr×Obj)) (s:Shared) (σ:St) (H:Hp) (D:Ends),Inv X pins σ H s→t D σ H→wpAny (model X.prog X.w) X.A (execs st X.env) (SP X pins D) X.xe s
theorem xU {α:Type}{t:Sem α}{Q Q':α→Shared→Prop}{M:Model}{A:Around}{E:Value→Shared→Prop}{s:Shared}(h:wpAny M A t Q E s)(hQ:∀a s,Q a s→Q' a s):wpAny M A t Q' E s:=saR h hQ fun _ _ x=>x
section
variable {X:Cx}
theorem OA {a b:Expr}{ta tb:TE}(ha:PE X a ta)(hb:PE X b tb){pins:List (Addr×Obj)}{s:Shared}{σ:St}{H:Hp}{R:V→V→Hp→Prop}(I:Inv X pins σ H s)(h:ta σ H fun x H1=>tb σ H1 fun y H2=>R x y H2)
 {α:Type} {Q:α→Shared→Prop} {f:Value→Value→Sem α}
 (hf:∀v u s2 x y H2,Inv X pins σ H2 s2→yS x v→yS y u→R x y H2→wpAny (model X.prog X.w) X.A (f v u) Q X.xe s2) :
 wpAny (model X.prog X.w) X.A (eval a X.env) (fun v s₁=>wpAny (model X.prog X.w) X.A (eval b X.env) (fun u s₂=>wpAny (model X.prog X.w) X.A (f v u) Q X.xe s₂) X.xe s₁) X.xe s:=by
 refine xU (ha pins s σ H _ I h) fun v s1 ⟨x,H1,I1,r1,q1⟩=>?_;refine xU (hb pins s1 σ H1 _ I1 q1) fun u s2 ⟨y,H2,I2,r2,q2⟩=>?_;exact hf v u s2 x y H2 I2 r1 r2 q2
noncomputable def wa (i:Nat):TE:=fun σ H Q=>∃v,σ[i]?=some (some v)∧Q v H
noncomputable def tC (v:V):TE:=fun _ H Q=>Q v H
theorem SD {i:Nat}{x:Str}{pos:Pos}(hN:X.N[i]?=some x)(hv:Q2 X.env.scope x)(hd:(x == ("__debug__" : Str))=false:=by decide) (hcd:(x == ("__classdict__" : Str))=false:=by decide):PE X (.Name x pos) (wa i):=by
 intro pins s σ H Q I h;obtain⟨v,e,h⟩:=h;obtain⟨m,hn,hl⟩:=I.loc;obtain⟨u,r,l⟩:=hl i x v hN e hv
 have fin:EP X pins σ Q u s:=⟨v,H,I,r,h⟩
 rcases l with⟨hk,hm⟩|⟨hk,c,hc,hcell⟩
 ·exact wpAny_Name (wpAny_loadName_local I.ok.kind hk hn hm fin) hd
 ·rcases hk with hk|hk
  ·exact wpAny_Name (wpAny_loadName_cell I.ok.kind hk hc hcell fin) hd
  ·exact wpAny_Name (wpAny_loadName_free I.ok.kind hk hc hcell fin hcd) hd
theorem aP {i j pos}:PE X (.Constant (.int i) j pos) (tC (.int i)):=fun _ _ _ H _ I h=>wpAny_Constant_int ⟨.int i,H,I.tok _,⟨_,rfl⟩,h⟩
theorem Yd {b j pos}:PE X (.Constant (.bool b) j pos) (tC (.bl b)):=fun _ _ _ H _ I h=>Constant_bool ⟨.bl b,H,I,rfl,h⟩
theorem eW {j pos}:PE X (.Constant .none j pos) (tC .non):=fun _ _ _ H _ I h=>Constant_none ⟨.non,H,I,rfl,h⟩
theorem pE {x j pos}:PE X (.Constant (.str x) j pos) (tC (.str x)):=fun _ _ _ H _ I h=>Calls.Constant_str ⟨.str x,H,I.tok _,⟨_,rfl⟩,h⟩
noncomputable def Gl (X:Cx)(x:Str):Prop:=X.env.kindOf x=some .globalImplicit
theorem qh {E:Value→Shared→Prop}{pins:List (Addr×Obj)}{s:Shared}{σ:St}{H:Hp}{x:Str}{u:Value}{pos:Pos}{Q:Value→Shared→Prop}(I:Inv X pins σ H s)(hg:Gl X x)(hm:X.mg x=some u)(h:Q u s)
 (hd:(x == ("__debug__" : Str))=false:=by decide):wpAny (model X.prog X.w) X.A (eval (.Name x pos) X.env) Q E s :=
 Calls.Name_function_global I.ok.kind hg (Calls.loadGlobal_global (by rw[I.ok.glob];exact I.mod.glob.keeps I.bk) hm h) hd
theorem sR {E:Value→Shared→Prop}{pins:List (Addr×Obj)}{s:Shared}{σ:St}{H:Hp}{x:Str}{u:Value}{pos:Pos}{Q:Value→Shared→Prop}(I:Inv X pins σ H s)(hg:Gl X x)(hm:X.mg x=none)(hv:bootBuiltins x=some u)(h:Q u s)
 (hn:x ≠ "__name__" :=by decide) (hd:(x == ("__debug__" : Str))=false:=by decide):wpAny (model X.prog X.w) X.A (eval (.Name x pos) X.env) Q E s:=by
 obtain⟨mb,h1,h2⟩:=I.mod.blt;exact Calls.Name_function_global I.ok.kind hg (Calls.loadGlobal_builtin (by rw[I.ok.glob];exact I.mod.glob.keeps I.bk) hm (by rw[I.ok.blt];exact h1.keeps I.bk) ((h2 x hn).trans hv) h) hd
theorem eY {x:Str}{v:V}{u:Value}{pos:Pos}(hg:Gl X x)(hm:X.mg x=some u)(r:yS v u)(hd:(x == ("__debug__" : Str))=false:=by decide):PE X (.Name x pos) (tC v) :=
 fun _ _ _ H _ I h=>qh I hg hm ⟨v,H,I,r,h⟩ hd
theorem Yc {x:Str}{v:V}{u:Value}{pos:Pos}(hg:Gl X x)(hm:X.mg x=none)(hv:bootBuiltins x=some u)(r:yS v u)(hn:x ≠ "__name__" :=by decide) (hd:(x == ("__debug__" : Str))=false:=by decide):PE X (.Name x pos) (tC v) :=
 fun _ _ _ H _ I h=>sR I hg hm hv ⟨v,H,I,r,h⟩ hn hd
variable {a b:Expr}{ta tb:TE}{pos:Pos}
noncomputable def PC (X:Cx)(op:CmpOp)(a b:Expr)(t:TE):Prop :=
 ∀ (pins:List (Addr×Obj)) (s:Shared) (σ:St) (H:Hp) (Q:VK),Inv X pins σ H s→t σ H Q →
   wpAny (model X.prog X.w) X.A (eval a X.env) (fun v s₁=>wpAny (model X.prog X.w) X.A (eval b X.env) (fun u s₂=>wpAny (model X.prog X.w) X.A (compareOp op v u) (EP X pins σ Q) X.xe s₂) X.xe s₁) X.xe s
theorem Vc (b:Expr){op:CmpOp}(h:op≠.In)(h2:op≠.NotIn):behindInMarks op b=false:=by
 have e1:(op == CmpOp.In)=false:=by cases op <;> first|rfl|exact absurd rfl h
 have e2:(op == CmpOp.NotIn)=false:=by cases op <;> first|rfl|exact absurd rfl h2
 cases b <;> simp[behindInMarks,e1,e2]
noncomputable def tB (t:TE):TT:=fun σ H Q=>t σ H fun x H1=>∃c,x=.bl c∧Q c H1
theorem Pl {op:CmpOp}{t:TE}(h:PC X op a b t)(h1:behindInMarks op b=false:=by first|exact Vc _ (by decide) (by decide)|rfl):PT X (.Compare a [op] [b] pos) (tB t):=by
 intro pins s σ H Q I hw;refine wpAny_isTrue_Compare1 (xU (h pins s σ H _ I hw) fun v s1 h1=>xU h1 fun u s2 h2=>xU h2 fun c s3 ⟨x,H1,I1,r1,q1⟩=>?_) h1;obtain⟨d,rfl,q⟩:=q1;cases r1;exact sbg ⟨H1,I1,q⟩
theorem WX {e:Expr}{t:TE}(h:PE X e t)(he:∀whole,isTrue e X.env whole=(do let v ← whole;standAt e.pos;holding [v] (truthy v)):=by intro _;rfl):PT X e (tB t):=by
 intro pins s σ H Q I hw;refine isTrue_plain (xU (h pins s σ H _ I hw) fun v s1 ⟨x,H1,I1,r1,q1⟩=>?_) (he _);obtain⟨d,rfl,q⟩:=q1;cases r1;exact sbg ⟨H1,I1,q⟩
variable {tA tB':TT}{yv:List Expr}
noncomputable def Pg (t u:TT):TT:=fun σ H Q=>t σ H fun c H1=>if c=true then u σ H1 Q else Q false H1
noncomputable def PY (t u:TT):TT:=fun σ H Q=>t σ H fun c H1=>if c=true then Q true H1 else u σ H1 Q
noncomputable def Uw (t:TT):TT:=fun σ H Q=>t σ H fun c H1=>Q (!c) H1
theorem UI (ha:PT X a tA):PW X (.BoolOp .And [a] pos) tA:=by
 intro wh pins s σ H Q I h;refine isTrue_and (xU (ha pins s σ H Q I h) fun c s1 e=>?_)
 cases c with
 |true=>exact isTrue_and_nil e
 |false=>exact e
theorem WU (ha:PT X a tA):PW X (.BoolOp .Or [a] pos) tA:=by
 intro wh pins s σ H Q I h;refine isTrue_or (xU (ha pins s σ H Q I h) fun c s1 e=>?_)
 cases c with
 |false=>exact isTrue_or_nil e
 |true=>exact e
theorem Sz (ha:PT X a tA)(hb:PW X (.BoolOp .And (b::yv) pos) tB'):PW X (.BoolOp .And (a::b::yv) pos) (Pg tA tB'):=by
 intro wh pins s σ H Q I h;refine isTrue_and (xU (ha pins s σ H _ I h) fun c s1 ⟨H1,I1,q1⟩=>?_)
 cases c with
 |true=>exact hb wh pins s1 σ H1 Q I1 q1
 |false=>exact⟨H1,I1,q1⟩
theorem TX (ha:PT X a tA)(hb:PW X (.BoolOp .Or (b::yv) pos) tB'):PW X (.BoolOp .Or (a::b::yv) pos) (PY tA tB'):=by
 intro wh pins s σ H Q I h;refine isTrue_or (xU (ha pins s σ H _ I h) fun c s1 ⟨H1,I1,q1⟩=>?_)
 cases c with
 |true=>exact⟨H1,I1,q1⟩
 |false=>exact hb wh pins s1 σ H1 Q I1 q1
theorem aK (ha:PT X a tA):PT X (.UnaryOp .Not a pos) (Uw tA):=by
 intro pins s σ H Q I h;exact isTrue_not (ha pins s σ H (fun c H1=>Q (!c) H1) I h)
noncomputable def TV (ta tb:TE):TE:=fun σ H Q=>ta σ H fun x H1=>∃c,x=.bl c∧if c=true then tb σ H1 Q else Q (.bl false) H1
noncomputable def RQ (ta tb:TE):TE:=fun σ H Q=>ta σ H fun x H1=>∃c,x=.bl c∧if c=true then Q (.bl true) H1 else tb σ H1 Q
noncomputable def RS (ta:TE):TE:=fun σ H Q=>ta σ H fun x H1=>∃c,x=.bl c∧Q (.bl (!c)) H1
theorem aN {op}{t:TE}(h:PE X a t):PE X (.BoolOp op [a] pos) t:=fun pins s σ H Q I hw=>BoolOp_one (h pins s σ H Q I hw)
theorem W9 (ha:PE X a ta)(hb:PE X (.BoolOp .And (b::yv) pos) tb):PE X (.BoolOp .And (a::b::yv) pos) (TV ta tb):=by
 intro pins s σ H Q I h;refine BoolOp_and (xU (ha pins s σ H _ I h) fun v s1 ⟨x,H1,I1,r1,q1⟩=>?_);obtain⟨c,rfl,q1⟩:=q1;cases r1;refine sbg ?_
 cases c with
 |true=>exact hb pins s1 σ H1 Q I1 q1
 |false=>exact⟨.bl false,H1,I1,rfl,q1⟩
theorem Qa (ha:PE X a ta)(hb:PE X (.BoolOp .Or (b::yv) pos) tb):PE X (.BoolOp .Or (a::b::yv) pos) (RQ ta tb):=by
 intro pins s σ H Q I h;refine BoolOp_or (xU (ha pins s σ H _ I h) fun v s1 ⟨x,H1,I1,r1,q1⟩=>?_);obtain⟨c,rfl,q1⟩:=q1;cases r1;refine sbg ?_
 cases c with
 |false=>exact hb pins s1 σ H1 Q I1 q1
 |true=>exact⟨.bl true,H1,I1,rfl,q1⟩
theorem SG (ha:PE X a ta):PE X (.UnaryOp .Not a pos) (RS ta):=by
 intro pins s σ H Q I h;refine UnaryOp_ (xU (ha pins s σ H _ I h) fun v s1 ⟨x,H1,I1,r1,q1⟩=>?_);obtain⟨c,rfl,q1⟩:=q1;cases r1;exact not_of (sbg ⟨.bl (!c),H1,I1,rfl,q1⟩)
noncomputable def Oo (t:TT)(ta tb:TE):TE:=fun σ H Q=>t σ H fun c H1=>if c=true then ta σ H1 Q else tb σ H1 Q
theorem W6 {c:Expr}(hc:PT X c tA)(ha:PE X a ta)(hb:PE X b tb):PE X (.IfExp c a b pos) (Oo tA ta tb):=by
 intro pins s σ H Q I h;refine wpAny_IfExp (xU (hc pins s σ H _ I h) fun d s1 ⟨H1,I1,q1⟩=>?_)
 cases d with
 |true=>exact ha pins s1 σ H1 Q I1 q1
 |false=>exact hb pins s1 σ H1 Q I1 q1
end
noncomputable def wx (K:Frag)(H:Hp)(a:Addr)(xs:List V):Prop :=
 Rd H a (.l xs) ∨
  ∃(o:Obj) (its:Array Value) (n:Nat),K.lookup a=some o∧o.cls=.type "list" ∧ o.dict=none∧o.data=.seq its n∧its.size≤sizeLine∧ym xs its.toList
noncomputable def av (K:Frag)(H:Hp)(a:Addr)(xs:List V):Prop :=
 Rd H a (.tup xs) ∨
  ∃(o:Obj) (its:Array Value) (n:Nat),K.lookup a=some o∧o.cls=.type "tuple" ∧ o.data=.seq its n∧its.size≤sizeLine∧ym xs its.toList
noncomputable def PJ:Value→Option V
 | .none=>some .non
 | .bool b=>some (.bl b)
 | .int i _=>some (.int i)
 | .str x _=>some (.str x)
 | .bytes b _=>some (.byt b)
 | .float b _=>some (.flt b)
 | .ref a=>some (.ref a)
 | .type n=>some (.ty n)
 |_=>none
theorem yS.abs {x:V}{u:Value}(r:yS x u):PJ u=some x:=by
 cases x with
 |non=>cases r;rfl
 |bl _=>cases r;rfl
 |int _=>obtain⟨t,rfl⟩:=r;rfl
 |str _=>obtain⟨t,rfl⟩:=r;rfl
 |byt _=>obtain⟨t,rfl⟩:=r;rfl
 |flt _=>obtain⟨t,rfl⟩:=r;rfl
 |ref _=>cases r;rfl
 |ty _=>cases r;rfl
theorem yS.inj {x y:V}{u:Value}(r:yS x u)(q:yS y u):x=y:=saE (r.abs.symm.trans q.abs)
theorem ym.inj:∀{xs ys:List V} {us:List Value},ym xs us→ym ys us→xs=ys
 |_,_,_,.nil,.nil=>rfl
 |_,_,_,.cons r t,.cons r' t'=>by rw[r.inj r',ym.inj t t']
section
variable {X:Cx}{pins:List (Addr×Obj)}{σ:St}{H:Hp}{s:Shared}{a:Addr}{xs ys:List V}
theorem wx.of {K:Frag}(h:H a=some (.l xs)):wx K H a xs:=.inl (.inl h)
theorem av.of {K:Frag}(h:H a=some (.tup xs)):av K H a xs:=.inl (.inl h)
theorem Inv.list (I:Inv X pins σ H s)(h:wx X.K H a xs):∃its:List Value,ym xs its∧PlainL s.heap a its.toArray∧xs.length≤sizeLine:=by
 rcases h with h|⟨o,its,n,hk,hc,hd,hs,hz,r⟩
 ·obtain⟨z,its,n,r,e⟩:=h.ok I.hok;exact⟨its,r,⟨_,n,e,rfl,rfl,rfl⟩,z⟩
 ·refine⟨its.toList,r,⟨o,n,I.kIn a o hk,hc,hd,by simpa using hs⟩,?_⟩;have e:=r.length;simp only[Array.length_toList]at e;lia
theorem Inv.tuple (I:Inv X pins σ H s)(h:av X.K H a xs):∃its:List Value,ym xs its∧IsTup s.heap a its.toArray∧xs.length≤sizeLine:=by
 rcases h with h|⟨o,its,n,hk,hc,hs,hz,r⟩
 ·obtain⟨z,its,r,p⟩:=h.ok I.hok;exact⟨its,r,p,z⟩
 ·refine⟨its.toList,r,⟨o,I.kIn a o hk,hc,n,by simpa using hs⟩,?_⟩;have e:=r.length;simp only[Array.length_toList]at e;lia
theorem Inv.list_inj (I:Inv X pins σ H s)(h:wx X.K H a xs)(h':wx X.K H a ys):xs=ys:=by
 obtain⟨its,r,⟨o,n,e,_,_,d⟩,_⟩:=I.list h;obtain⟨its',r',⟨o',n',e',_,_,d'⟩,_⟩:=I.list h';rw[e]at e';cases e';rw[d]at d'
 injection d' with d1 _
 have:its=its':=by simpa using congrArg Array.toList d1
 subst this;exact r.inj r'
end
noncomputable abbrev Cx.wish (X:Cx)(E:Value→Shared→Prop):Cx:={X with xe:=E}
noncomputable abbrev Cx.nox (X:Cx):Cx:=X.wish fun _ _=>False
theorem Cx.Ok.wish {X:Cx}(ok:X.Ok)(E:Value→Shared→Prop):(X.wish E).Ok :=
 ⟨ok.mod,ok.kind,ok.glob,ok.blt,ok.above,ok.inj,ok.has,ok.cab,ok.hd,ok.frames,ok.stk,ok.exf,ok.bs,ok.bsz,ok.noex,ok.exfs,ok.funs,ok.frf⟩
theorem Cx.Ok.unwish {X:Cx}{E:Value→Shared→Prop}(ok:(X.wish E).Ok):X.Ok :=
 ⟨ok.mod,ok.kind,ok.glob,ok.blt,ok.above,ok.inj,ok.has,ok.cab,ok.hd,ok.frames,ok.stk,ok.exf,ok.bs,ok.bsz,ok.noex,ok.exfs,ok.funs,ok.frf⟩
section
variable {X:Cx}{pins:List (Addr×Obj)}{σ:St}{H:Hp}{s:Shared}{E:Value→Shared→Prop}
theorem Inv.wish (I:Inv X pins σ H s)(E:Value→Shared→Prop):Inv (X.wish E) pins σ H s:=⟨I.ok.wish E,I.os,I.bare,I.base,I.loc,I.cell,I.free,I.freeC,I.pin,I.hok,I.len⟩
theorem Inv.unwish (I:Inv (X.wish E) pins σ H s):Inv X pins σ H s:=⟨I.ok.unwish,I.os,I.bare,I.base,I.loc,I.cell,I.free,I.freeC,I.pin,I.hok,I.len⟩
theorem SP.unwish {D:Ends}{f:Flow}{s':Shared}(h:SP (X.wish E) pins D f s'):SP X pins D f s':=by
 cases f with
 |next=>obtain⟨σ',H',I,q⟩:=h;exact⟨σ',H',I.unwish,q⟩
 |brk=>obtain⟨σ',H',I,q⟩:=h;exact⟨σ',H',I.unwish,q⟩
 |cont=>obtain⟨σ',H',I,q⟩:=h;exact⟨σ',H',I.unwish,q⟩
 |ret u=>obtain⟨v,σ',H',I,r,q⟩:=h;exact⟨v,σ',H',I.unwish,r,q⟩
theorem kI.nox {st:List Stmt}{t:TS}(h:kI X.nox st t):kI X st t:=fun pins s σ H D I hw=>
 saR (h pins s σ H D (I.wish _) hw) (fun _ _ q=>q.unwish) fun _ _ z=>False.elim z
end
section
variable {X:Cx}{st:Stmt}{yv:List Stmt}{t u:TS}{e:Expr}{te:TE}{pos:Pos}
noncomputable def cN:TS:=fun D σ H=>D.nx σ H
noncomputable def jA (t u:TS):TS:=fun D σ H=>t {D with nx:=u D} σ H
theorem jd:kI X [] cN:=fun _ _ σ H _ I h=>wpAny_execs_nil ⟨σ,H,I,h⟩
theorem w8 (h1:PS X st t)(h2:kI X yv u):kI X (st::yv) (jA t u):=by
 intro pins s σ H D I h;refine scs (xU (h1 pins s σ H {D with nx:=u D} I h) fun f s1 q=>?_)
 cases f with
 | next=>
   obtain⟨σ',H',I',q⟩:=q;exact h2 pins s1 σ' H' D I' q
 |ret v=>exact q
 |brk=>exact q
 |cont=>exact q
theorem xp (h1:PS X st t):kI X [st] t:=by
 intro pins s σ H D I h;refine scs (xU (h1 pins s σ H D I h) fun f s1 q=>?_)
 cases f with
 |next=>exact wpAny_execs_nil q
 |ret v=>exact q
 |brk=>exact q
 |cont=>exact q
theorem Inv.quiet {pins:List (Addr×Obj)}{σ:St}{H:Hp}{s:Shared}(I:Inv X pins σ H s):interactive X.env=false:=by simp[interactive,I.ok.kind]
noncomputable def ZY (te:TE):TS:=fun D σ H=>te σ H fun _ H1=>D.nx σ H1
theorem oa (he:PE X e te)(hs:swapsWith e none pos.line X.env=pure false:=by rfl):PS X (.Expr e pos) (ZY te):=by
 intro pins s σ H D I h;exact wpAny_Expr_any (xU (he pins s σ H _ I h) fun v s1 ⟨x,H1,I1,r1,q1⟩=>⟨σ,H1,I1,q1⟩) I.quiet hs
noncomputable def gb (te:TE):TS:=fun D σ H=>te σ H D.rt
theorem oW (he:PE X e te):PS X (.Return (some e) pos) (gb te):=by
 intro pins s σ H D I h;exact wpAny_Return_some (xU (he pins s σ H _ I h) fun v s1 ⟨x,H1,I1,r1,q1⟩=>⟨x,σ,H1,I1,r1,q1⟩)
noncomputable def cO (c:TT)(t u:TS):TS:=fun D σ H=>c σ H fun b H1=>if b=true then t D σ H1 else u D σ H1
theorem jV {c:Expr}{a b:List Stmt}{tc:TT}(hc:PT X c tc)(ha:kI X a t)(hb:kI X b u):PS X (.If c a b pos) (cO tc t u):=by
 intro pins s σ H D I h;refine wpAny_If (xU (hc pins s σ H _ I h) fun d s1 ⟨H1,I1,q1⟩=>?_)
 cases d with
 |true=>exact ha pins s1 σ H1 D I1 q1
 |false=>exact hb pins s1 σ H1 D I1 q1
end
noncomputable abbrev TG:=V→St→Hp→(St→Hp→Prop)→Prop
noncomputable abbrev Sb:=List V→St→Hp→(St→Hp→Prop)→Prop
noncomputable def PG (X:Cx)(target:Expr)(t:TG):Prop :=
 ∀ (pins:List (Addr×Obj)) (s:Shared) (σ:St) (H:Hp) (v:V) (u:Value) (Q:St→Hp→Prop),Inv X pins σ H s→yS v u→t v σ H Q →
   wpAny (model X.prog X.w) X.A (assign target X.env u) (fun _ s'=>∃σ' H',Inv X pins σ' H' s'∧Q σ' H') X.xe s
noncomputable def QT (X:Cx)(ts:List Expr)(t:Sb):Prop :=
 ∀ (pins:List (Addr×Obj)) (s:Shared) (σ:St) (H:Hp) (vs:List V) (us:List Value) (Q:St→Hp→Prop),Inv X pins σ H s→ym vs us→t vs σ H Q →
   wpAny (model X.prog X.w) X.A (assignInOrder ((assignEach ts X.env).map (·.2)) us) (fun _ s'=>∃σ' H',Inv X pins σ' H' s'∧Q σ' H') X.xe s
noncomputable abbrev QP:=V→V→V→Hp→(Hp→Prop)→Prop
noncomputable def lW (X:Cx)(t:QP):Prop :=
 ∀ (pins:List (Addr×Obj)) (s:Shared) (σ:St) (H:Hp) (o i v:V) (ov iv u:Value) (Q:Hp→Prop),Inv X pins σ H s→yS o ov→yS i iv→yS v u→t o i v H Q →
   wpAny (model X.prog X.w) X.A (setItem ov iv u) (fun _ s'=>∃H',Inv X pins σ H' s'∧Q H') X.xe s
section
variable {X:Cx}{pos:Pos}
noncomputable def qO (i:Nat):TG:=fun v σ H Q=>Q (σ.set i (some v)) H
theorem jh {i:Nat}{x:Str}(hN:X.N.Nodup)(hi:X.N[i]?=some x)(hx:Se X.env.scope x)(hf:X.fn x=true∨X.env.scope.names.lookup x=some .local:=by first|exact .inl rfl|exact .inr rfl|assumption):PG X (.Name x pos) (qO i):=by
 intro pins s σ H v u Q I r h;exact wpAny_assign_Name (jC I hN hi hx r (fun s' I'=>⟨_,H,I',h⟩) hf)
noncomputable def Qy:Sb:=fun vs σ H Q=>vs=[]∧Q σ H
noncomputable def VC (t:TG)(u:Sb):Sb:=fun vs σ H Q=>∃v r,vs=v::r∧t v σ H fun σ' H'=>u r σ' H' Q
theorem Yb:QT X [] Qy:=by
 intro pins s σ H vs us Q I r h;obtain⟨e,h⟩:=h;subst e;cases r;exact assignInOrder_nil ⟨σ,H,I,h⟩
theorem jZ {e:Expr}{es:List Expr}{t:TG}{u:Sb}(h1:PG X e t)(h2:QT X es u)
 (hs:(assignEach (e::es) X.env).map (·.2)=assign e X.env::(assignEach es X.env).map (·.2):=by rfl):QT X (e::es) (VC t u):=by
 intro pins s σ H vs us Q I r h;obtain⟨v,vr,e1,h⟩:=h;subst e1
 cases r with
 | cons r rr=>
   rw[hs];refine assignInOrder_cons (xU (h1 pins s σ H _ _ _ I r h) fun _ s1 ⟨σ1,H1,I1,q1⟩=>?_);exact h2 pins s1 σ1 H1 _ _ Q I1 rr q1
noncomputable def Qx (K:Frag)(n:Nat)(t:Sb):TG:=fun v σ H Q=>∃a xs,v=.ref a∧av K H a xs∧xs.length=n∧t xs σ H Q
theorem W4 {es:List Expr}{k:Nat}{t:Sb}{n:Nat}(hc:X.calm=true)(h:QT X es t)
 (hn:(assignEach es X.env).length=n:=by rfl) (hst:(assignEach es X.env).findIdx? (·.1)=none:=by rfl):PG X (.Tuple es k pos) (Qx X.K n t):=by
 intro pins s σ H v u Q I r hw;obtain⟨a,xs,e1,hq,hl,hw⟩:=hw;subst e1;cases r;obtain⟨its,rv,ht,hz⟩:=I.tuple hq;refine assign_Tuple_tuple (I.ok.hd hc) ht (by simp[hn,←hl,rv.length]) hst fun h' hx=>?_;have I1:Inv X pins σ H {s with heap:=h'}:=I.kept (t':=s.toks) fun b o e=>hx b o (saz (sag e)) e;exact h pins _ σ H xs _ Q I1 (by simpa using rv) hw
noncomputable def qm (to ti:TE)(t:QP):TG:=fun v σ H Q=>to σ H fun o H1=>ti σ H1 fun i H2=>t o i v H2 fun H3=>Q σ H3
noncomputable def eD (te:TE)(g:TG):TS:=fun D σ H=>te σ H fun x H1=>g x σ H1 D.nx
theorem sP {i:Nat}{x:Str}{e:Expr}{te:TE}{pos':Pos}(hN:X.N.Nodup)(hi:X.N[i]?=some x)(hx:Se X.env.scope x)(he:PE X e te)(hs:swapsWith e (some (.Name x pos')) pos.line X.env=pure false:=by rfl)(hf:X.fn x=true∨X.env.scope.names.lookup x=some .local:=by first|exact .inl rfl|exact .inr rfl|assumption) :
 PS X (.Assign [.Name x pos'] e pos) (eD te (qO i)):=by
 intro pins s σ H D I h;refine wpAny_Assign_Name (xU (he pins s σ H _ I h) fun v s1 ⟨y,H1,I1,r1,q1⟩=>?_) hs;exact jC I1 hN hi hx r1 (fun s2 I2=>⟨_,H1,I2,q1⟩) hf
end
section
variable {X:Cx}{pos:Pos}
noncomputable def Sk (c:TT)(tb:TS):TS:=fun D σ H=>∃W:Nat→St→Hp→Prop,(∃m,W m σ H)∧∀m σ H,W m σ H →
 c σ H fun b H1=>if b=true then ∃N:St→Hp→Prop,(∀σ' H',N σ' H'→∃m',m' < m∧W m' σ' H')∧tb {D with nx:=N,ct:=N,bk:=D.nx} σ H1 else D.nx σ H1
theorem W0 {c:Expr}{body:List Stmt}{tc:TT}{tb:TS}(hp:PassesOwn (model X.prog X.w) X.A X.env X.xe)(hc:PT X c tc)(hb:kI X body tb):PS X (.While c body [] pos) (Sk tc tb):=by
 intro pins s σ H D I h;obtain⟨W,⟨m0,w0⟩,turn⟩:=h;refine wpAny_While (codeAny_whileLoop (fun n s'=>∃σ' H',Inv X pins σ' H' s'∧W n σ' H') ?_ m0 ⟨σ,H,I,w0⟩);rintro n s1 ⟨σ1,H1,I1,w1⟩;refine sci hp (xU (hc pins s1 σ1 H1 _ I1 (turn n σ1 H1 w1)) fun b s2 ⟨H2,I2,q2⟩=>?_)
 cases b with
 | true=>
   obtain⟨N,hN,q2⟩:=q2;rw[sak rfl];refine sci hp (xU (hb pins s2 σ1 H2 _ I2 q2) fun f s3 q3=>?_)
   cases f with
   | next=>
     obtain⟨σ3,H3,I3,n3⟩:=q3;obtain⟨m',hm,w3⟩:=hN σ3 H3 n3;exact⟨m',hm,σ3,H3,I3,w3⟩
   | cont=>
     obtain⟨σ3,H3,I3,n3⟩:=q3;obtain⟨m',hm,w3⟩:=hN σ3 H3 n3;exact⟨m',hm,σ3,H3,I3,w3⟩
   |brk=>exact q3
   |ret v=>exact q3
 | false=>
   rw[sal sai];exact wpAny_execs_nil ⟨σ1,H2,I2,q2⟩
end
structure It where
 go:Nat→Hp→Prop
 yld:Nat→Hp→V→Hp→Prop
 stop:Nat→Hp→Prop
noncomputable def lY (X:Cx)(pins:List (Addr×Obj))(H:Hp)(b:Addr):Prop :=
 H b=none∧b≠X.env.locals∧b∉X.fs∧(b∈X.ex∨X.s₀.heap.objs.size≤b)∧(∀x c,X.env.cells.lookup x=some c→c≠b)∧∀p∈X.pn++pins,p.1≠b
theorem Inv.fpOk {X:Cx}{pins:List (Addr×Obj)}{σ:St}{H H':Hp}{s:Shared}{b:Addr}(I:Inv X pins σ H s)(hb:s.heap.objs.size≤b)(hn:H' b=none):lY X pins H' b:=by
 refine⟨hn,sbH (sau I.lt hb),I.nofs hb,.inr (sbq I.sz hb),fun x c e z=>?_,fun p hp z=>?_⟩
 ·obtain⟨v,q⟩:=I.cell x c e;exact absurd (sau q.lt (by rw[z];exact hb)) (sby _)
 ·exact absurd (sau (sag (I.pin p hp).1) (by rw[z];exact hb)) (sby _)
structure Turn (P:Program)(w:World)(K:Frag)(tg:Expr)(J:It)(fp:List Addr)(it:Addr)(tn:Nat→Heap→Prop):Prop where
 mem:it∈fp
 obj:∀i h,tn i h→∀b∈fp,∃o,h.get? b=some o∧∀v,o.data≠.cell v
 keep:∀i h h',tn i h→(∀b∈fp,∀o,h.get? b=some o→h'.get? b=some o)→tn i h'
 item:∀(X:Cx),X.prog=P→X.w=w→X.K=K→X.calm=true→∀(i:Nat) (pins:List (Addr×Obj)) (s:Shared) (σ:St) (H:Hp) (E:Value→Shared→Prop),Inv X pins σ H s→(∀b∈fp,lY X pins H b)→tn i s.heap→J.go i H →
  wpAny (model P w) X.A (pyNext (.ref it)) (fun r s1=>∃u,r=some u ∧
   wpAny (model P w) X.A (letOwnedTupleGo tg (.ref it) u) (fun _ s2=>∃x H',Inv X pins σ H' s2∧yS x u∧J.yld i H x H'∧tn (i+1) s2.heap∧∀b∈fp,H' b=none) E s1) E s
 done:∀(X:Cx),X.prog=P→X.w=w→X.K=K→X.calm=true→∀(i:Nat) (pins:List (Addr×Obj)) (s:Shared) (σ:St) (H:Hp) (E:Value→Shared→Prop),Inv X pins σ H s→(∀b∈fp,lY X pins H b)→tn i s.heap→J.stop i H →
  wpAny (model P w) X.A (pyNext (.ref it)) (fun r s1=>r=none∧Inv X pins σ H s1) E s
 self:∀(A:Around) (i:Nat) (s:Shared) (Q:Value→Shared→Prop) (E:Value→Shared→Prop),tn i s.heap→Q (.ref it) s→wpAny (model P w) A (pyIter (.ref it)) Q E s
noncomputable abbrev TI:=St→Hp→(It→Hp→Prop)→Prop
noncomputable def Oj (X:Cx)(pins:List (Addr×Obj))(σ:St)(tg:Expr)(R:It→Hp→Prop)(itv:Value)(s2:Shared):Prop :=
 ∃(it:Addr) (fp:List Addr) (tn:Nat→Heap→Prop) (J:It) (H':Hp),itv=.ref it∧Inv X pins σ H' s2∧Turn X.prog X.w X.K tg J fp it tn∧tn 0 s2.heap∧(∀b∈fp,lY X pins H' b)∧R J H'
noncomputable def PI (X:Cx)(tg iter:Expr)(wi:TI):Prop :=
 ∀ (pins:List (Addr×Obj)) (s:Shared) (σ:St) (H:Hp) (R:It→Hp→Prop),Inv X pins σ H s→wi σ H R →
   wpAny (model X.prog X.w) X.A (eval iter X.env) (fun v s1=>wpAny (model X.prog X.w) X.A (pyIter v) (Oj X pins σ tg R) X.xe s1) X.xe s
theorem Vy {M:Model}{A:Around}{E:Value→Shared→Prop}{s:Shared}{tg:Expr}{it:Addr}{u:Value}{o:Obj}{n:String}{vs:Array Value}{Q:Unit→Shared→Prop}(ho:s.heap.get? it=some o)(hc:o.cls=.type n)(hd:o.data=.fields vs)
 (hn:["enumerate","zip","dict_itemiterator","dict_reverseitemiterator","odict_iterator","itertools.zip_longest","itertools.pairwise"].contains n=false) (hQ:Q () s):wpAny M A (letOwnedTupleGo tg (.ref it) u) Q E s:=by
 unfold letOwnedTupleGo
 cases tg <;> first
  |exact sad hQ
  |(cases u <;> first
   |exact sad hQ
   | (refine saa (wpAny_load ho ?_)
      rw[hc,hd];show wpAny M A (if(["enumerate","zip","dict_itemiterator","dict_reverseitemiterator","odict_iterator","itertools.zip_longest","itertools.pairwise"].contains n&&vs[0]? == some (rawInt _))=true then _ else _) Q E s;rw[sal (by intro h;rw[hn,Bool.false_and]at h;cases h)]
      exact sad hQ))
noncomputable def PU (K:Frag)(a:Addr):It :=
 ⟨fun i H=>∃xs x,wx K H a xs∧xs[i]?=some x,fun i H x H'=>H'=H∧∀xs,wx K H a xs→xs[i]?=some x,fun i H=>∃xs,wx K H a xs∧xs.length≤i⟩
noncomputable def Q8 (lo:Int)(n:Nat):It:=⟨fun i _=>i<n,fun i H x H'=>H'=H∧x=.int (lo+i),fun i _=>n≤i⟩
theorem YY {P:Program}{w:World}{K:Frag}{tg:Expr}(a it:Addr):Turn P w K tg (PU K a) [it] it (fun i h=>h.IsListIter it a i) where
 mem:=by simp
 obj:=fun i h st b hb=>by
  have e:b=it:=by simpa using hb
  subst e;obtain⟨o,e,c,d⟩:=st;exact⟨o,e,fun v z=>by rw[d]at z;cases z⟩
 keep:=fun i h h' st k=>st.at fun o e=>k it (by simp) o e
 item:=by
  intro X hP hw hK hc i pins s σ H E I hf st hg;subst hP hw hK;obtain⟨xs,x,hq,hx⟩:=hg;obtain⟨its,rv,p,hz⟩:=I.list hq;obtain⟨u,hu,ru⟩:=rv.get hx;obtain⟨f0,f1,f2,f3,f4,f5⟩:=hf it (by simp);refine wpAny_pyNext_list_item st p.isList (x:=u) (by simpa using hu) fun h' st' sb=>?_;have I1:Inv X pins σ H {s with heap:=h'}:=I.turned (t':=s.toks) (fun b o hb e=>(sb.2 b hb).trans e) f0 f1 f3 f4 f5;obtain⟨o,e,c,d⟩:=id st';exact⟨u,rfl,Vy (s:={s with heap:=h'}) e c d (by decide) ⟨x,H,I1,ru,⟨rfl,fun ys hy=>by rw[I.list_inj hy hq];exact hx⟩,st',fun b hb=>(hf b hb).1⟩⟩
 done:=by
  intro X hP hw hK hc i pins s σ H E I hf st hg;subst hP hw hK;obtain⟨xs,hq,hx⟩:=hg;obtain⟨its,rv,p,hz⟩:=I.list hq;obtain⟨f0,f1,f2,f3,f4,f5⟩:=hf it (by simp);have hl:=rv.length
  exact wpAny_pyNext_list_end (I.ok.hd hc) st p.isList (by simp;lia) fun h' eb=>⟨rfl,I.turned (t':=s.toks) (fun b o hb e=>eb b o hb e) f0 f1 f3 f4 f5⟩
 self:=fun _ _ _ _ _ st h=>wpAny_pyIter_listiter st h
theorem az {P:Program}{w:World}{K:Frag}{tg:Expr}(it:Addr)(lo:Int)(n:Nat):Turn P w K tg (Q8 lo n) [it] it (fun i h=>IsRangeIter h it (lo+(i:Nat)*1) ((n:Int) - (i:Nat)) 1) where
 mem:=by simp
 obj:=fun i h st b hb=>by
  have e:b=it:=by simpa using hb
  subst e
  exact⟨_,st,fun v z=>by
   have z':Data.fields _=Data.cell v:=z
   cases z'⟩
 keep:=fun i h h' st k=>k it (by simp) _ st
 item:=by
  intro X hP hw hK hc i pins s σ H E I hf st hg;subst hP hw hK;obtain⟨f0,f1,f2,f3,f4,f5⟩:=hf it (by simp);have W:=Walks.range (prog:=X.prog) (w:=X.w) (I.ok.hd hc) it lo 1 n;refine W.item i s _ _ hg st fun v h' tk hv st' kk=>?_;obtain⟨t,rfl⟩:=hv;have I1:Inv X pins σ H {s with heap:=h',toks:=tk}:=I.turned (fun b o hb e=>kk b o (by simpa using hb) e) f0 f1 f3 f4 f5;refine⟨_,rfl,Vy (s:={s with heap:=h',toks:=tk}) (n := "range_iterator") st' rfl rfl (by decide) ⟨.int (lo+i),H,I1,⟨t,?_⟩,⟨rfl,rfl⟩,st',fun b hb=>(hf b hb).1⟩⟩;rw[Int.mul_one]
 done:=by
  intro X hP hw hK hc i pins s σ H E I hf st hg;subst hP hw hK;obtain⟨f0,f1,f2,f3,f4,f5⟩:=hf it (by simp)
  exact wpAny_pyNext_range_end (I.ok.hd hc) st (by have:n≤i:=hg;lia) fun h' eb=>⟨rfl,I.turned (t':=s.toks) (fun b o hb e=>eb b o hb e) f0 f1 f3 f4 f5⟩
 self:=fun _ _ _ _ _ st h=>wpAny_pyIter_rangeiter st h
section
variable {X:Cx}{tg:Expr}
noncomputable def T5 (K:Frag)(tl:TE):TI:=fun σ H R=>tl σ H fun x H1=>∃a,x=.ref a∧(∃xs,wx K H1 a xs)∧R (PU K a) H1
theorem Ya {l:Expr}{tl:TE}(hl:PE X l tl):PI X tg l (T5 X.K tl):=by
 intro pins s σ H R I h;refine xU (hl pins s σ H _ I h) fun v s1 ⟨x,H1,I1,r1,q1⟩=>?_;obtain⟨a,e,⟨xs,hq⟩,q⟩:=q1;subst e;cases r1;obtain⟨its,rv,p,hz⟩:=I1.list hq;refine sbI p.isList ?_;refine⟨s1.heap.objs.size,[s1.heap.objs.size],_,_,H1,rfl,I1.kept (t':=s1.toks) fun b o e=>sab _ e,YY a _,⟨_,saq _ rfl,rfl,rfl⟩,fun b hb=>?_,q⟩;have e:b=s1.heap.objs.size:=by simpa using hb
 subst e;exact I1.fpOk (Nat.le_refl _) (I1.hok.fresh (Nat.le_refl _))
theorem WQ {pins:List (Addr×Obj)}{σ:St}{H:Hp}{s:Shared}{R:It→Hp→Prop}{E:Value→Shared→Prop}{lo hi:Int}{t u v:Tok}{tk:Nat}(I:Inv X pins σ H s)(h1 : -(2^62)≤lo)(h2:lo<2^62)(h3 : -(2^62)≤hi)(h4:hi<2^62)
 (q:R (Q8 lo (hi - lo).toNat) H):wpAny (model X.prog X.w) X.A (pyIter (.ref s.heap.objs.size)) (Oj X pins σ tg R) E {s with heap:=s.heap.push {cls:=.type "range",data:=.fields #[.int lo t,.int hi u,.int 1 v]},toks:=tk}:=by
 refine wpAny_pyIter_range (IsRange.new ..) (small_one h1 h2 h3 h4) ?_;have I1:Inv X pins σ H {s with heap:=s.heap.push {cls:=.type "range",data:=.fields #[.int lo t,.int hi u,.int 1 v]},toks:=tk}:=I.kept fun b o e=>sab _ e
 refine⟨(s.heap.push {cls:=.type "range",data:=.fields #[.int lo t,.int hi u,.int 1 v]}).objs.size,[(s.heap.push {cls:=.type "range",data:=.fields #[.int lo t,.int hi u,.int 1 v]}).objs.size],_,_,H,rfl,
  I1.kept (t':=tk) fun b o e=>sab _ e,az _ lo (hi - lo).toNat,?_,fun b hb=>?_,q⟩
 ·have e1:lo+((0:Nat):Int)*1=lo:=by simp
  have e2:(((hi - lo).toNat:Nat):Int) - ((0:Nat):Int)=Builtin.Range.rangeSize lo hi 1:=by rw[rangeSize_one];split <;> lia
  show IsRangeIter _ _ (lo+((0:Nat):Int)*1) ((((hi - lo).toNat:Nat):Int) - ((0:Nat):Int)) 1;rw[e1,e2];exact saq _ rfl
 ·have e:b=(s.heap.push {cls:=.type "range",data:=.fields #[.int lo t,.int hi u,.int 1 v]}).objs.size:=by simpa using hb
  subst e;exact I1.fpOk (Nat.le_refl _) (I1.hok.fresh (Nat.le_refl _))
noncomputable def Qv (ta:TA):TI:=fun σ H R=>ta σ H fun vs H1=>∃j:Int,vs=[.int j] ∧ -(2^62)≤j∧j<2^62∧R (Q8 0 j.toNat) H1
theorem Xd {a:Expr}{ta:TA}{p pos:Pos}(hg:Gl X "range") (hm:X.mg "range" = none) (ha:PA X [a] ta) (hs:starEach [a] X.env=[(false,eval a X.env)]:=by rfl):PI X tg (.Call (.Name "range" p) [a] [] pos) (Qv ta):=by
 intro pins s σ H R I h;refine Call_ (sR I hg hm boot_range (sbd (xU (ha pos pins s σ H _ I h) fun us s1 ⟨vs,H1,I1,r1,q1⟩=>?_) hs rfl));obtain⟨j,e,q1,q2,q⟩:=q1;subst e
 cases r1 with
 | cons r rr=>
   cases rr;obtain⟨t,rfl⟩:=r;exact call_range_1 (WQ I1 (by lia) (by lia) q1 q2 (by simpa using q))
noncomputable def RU (wi:TI)(g:TG)(tb:TS):TS:=fun D σ H=>wi σ H fun J H1=>∃W:Nat→Nat→St→Hp→Prop,(∃m,W 0 m σ H1)∧∀i m σ H,W i m σ H →
 (J.stop i H∧D.nx σ H)∨(J.go i H∧∃N:St→Hp→Prop,(∀σ' H',N σ' H'→∃m',m' < m∧W (i+1) m' σ' H')∧∀x H',J.yld i H x H'→g x σ H' fun σ2 H2=>tb {D with nx:=N,ct:=N,bk:=D.nx} σ2 H2)
noncomputable def jY (fp:List Addr)(h:Heap):List (Addr×Obj):=fp.filterMap fun b=>(h.get? b).map fun o=>(b,o)
theorem qf {fp:List Addr}{h:Heap}{b:Addr}{o:Obj}(hb:b∈fp)(e:h.get? b=some o):(b,o)∈jY fp h:=scx.mpr ⟨b,hb,by rw[e];rfl⟩
theorem Xf {fp:List Addr}{h:Heap}{p:Addr×Obj}(hp:p∈jY fp h):p.1∈fp∧h.get? p.1=some p.2:=by
 obtain⟨b,hb,e⟩:=scx.mp hp
 cases q:h.get? b with
 |none=>rw[q]at e;cases e
 | some o=>
   rw[q]at e;have e':(b,o)=p:=saE e;subst e';exact⟨hb,q⟩
theorem Inv.pinned {pins:List (Addr×Obj)}{σ:St}{H:Hp}{s:Shared}{fp:List Addr}(I:Inv X pins σ H s)(hf:∀b∈fp,lY X pins H b)(ho:∀b∈fp,∃o,s.heap.get? b=some o∧∀v,o.data≠.cell v):Inv X (pins++jY fp s.heap) σ H s :=
 I.pins_of fun p hp=>(sas.mp hp).elim (fun z=>I.pin p (saX _ z)) fun z=>by
  obtain⟨hb,e⟩:=Xf z;obtain⟨f0,f1,f2,_⟩:=hf p.1 hb;obtain⟨o,e',d⟩:=ho p.1 hb;rw[e]at e';cases e';exact⟨e,f0,f1,f2,d⟩
theorem Inv.unpinned {pins pl:List (Addr×Obj)}{σ:St}{H:Hp}{s:Shared}(I:Inv X (pins++pl) σ H s):Inv X pins σ H s:=I.pins_of fun p hp=>I.pin p (saX _ (List.mem_append_left _ hp))
theorem aL {iter:Expr}{body:List Stmt}{wi:TI}{g:TG}{tb:TS}{pos:Pos}(hp:PassesOwn (model X.prog X.w) X.A X.env X.xe)(hc:X.calm=true)(hi:PI X tg iter wi)(hg:PG X tg g)(hb:kI X body tb)
 (hs:∀x,foldedSetIterable iter X.env x=pure x:=by intro _;rfl):PS X (.For tg iter body [] pos) (RU wi g tb):=by
 intro pins s σ H D I h;refine wpAny_For (xU (hi pins s σ H _ I h) fun v s1 h1=>xU h1 fun itv s2 h2=>?_) hs;obtain⟨it,fp,tn,J,H2,e,I2,T,st2,f2,W,⟨m0,w0⟩,turn⟩:=h2;subst e
 have stat:∀{H':Hp},(∀b∈fp,H' b=none)→∀b∈fp,lY X pins H' b:=fun hn b hb=>⟨hn b hb,(f2 b hb).2⟩
 refine codeAny_forLoop_any (fun n s'=>∃i σ' H',Inv X pins σ' H' s'∧tn i s'.heap∧(∀b∈fp,H' b=none)∧W i n σ' H') ?_ m0 ⟨0,σ,H2,I2,st2,fun b hb=>(f2 b hb).1,w0⟩;rintro n s3 ⟨i,σ3,H3,I3,st3,fr3,w3⟩
 rcases turn i n σ3 H3 w3 with⟨stop,qn⟩|⟨go,N,hN,step⟩
 ·refine sci hp (xU (T.done X rfl rfl rfl hc i pins s3 σ3 H3 X.xe I3 (stat fr3) st3 stop) fun r s4 ⟨hr,I4⟩=>?_);subst hr;exact wpAny_execs_nil ⟨σ3,H3,I4,qn⟩
 ·refine sci hp (xU (T.item X rfl rfl rfl hc i pins s3 σ3 H3 X.xe I3 (stat fr3) st3 go) fun r s4 ⟨u,hr,h4⟩=>?_);subst hr;refine sci hp (xU h4 fun _ s5 ⟨x,H5,I5,r5,y5,st5,fr5⟩=>?_);have I5':=I5.pinned (stat fr5) (T.obj _ _ st5);refine sci hp (xU (hg _ s5 σ3 H5 x u _ I5' r5 (step x H5 y5)) fun _ s6 ⟨σ6,H6,I6,q6⟩=>?_);refine sci hp (xU (hb _ s6 σ6 H6 _ I6 q6) fun f s7 q7=>?_)
  have again:∀{σ7:St} {H7:Hp},Inv X (pins++jY fp s5.heap) σ7 H7 s7→N σ7 H7→∃m,m<n∧∃i σ' H',Inv X pins σ' H' s7∧tn i s7.heap∧(∀b∈fp,H' b=none)∧W i m σ' H':=fun {σ7 H7} I7 n7=>by
   obtain⟨m',hm,w7⟩:=hN σ7 H7 n7;refine⟨m',hm,i+1,σ7,H7,I7.unpinned,T.keep _ _ _ st5 fun b hb o e=>(I7.pin (b,o) (saX _ (saX _ (qf hb e)))).1,fun b hb=>?_,w7⟩;obtain⟨o,e,d⟩:=T.obj _ _ st5 b hb;exact(I7.pin (b,o) (saX _ (saX _ (qf hb e)))).2.1
  cases f with
  |next=>obtain⟨σ7,H7,I7,n7⟩:=q7;exact again I7 n7
  |cont=>obtain⟨σ7,H7,I7,n7⟩:=q7;exact again I7 n7
  |brk=>obtain⟨σ7,H7,I7,q7⟩:=q7;exact⟨σ7,H7,I7.unpinned,q7⟩
  |ret v=>obtain⟨x7,σ7,H7,I7,r7,q7⟩:=q7;exact⟨x7,σ7,H7,I7.unpinned,r7,q7⟩
end
noncomputable abbrev R2:=V→V→Hp→VK→Prop
noncomputable def ow (X:Cx)(f:Value→Value→Sem Value)(r:R2):Prop :=
 ∀ (pins:List (Addr×Obj)) (s:Shared) (σ:St) (H:Hp) (x y:V) (v u:Value) (Q:VK),Inv X pins σ H s→yS x v→yS y u→r x y H Q →
   wpAny (model X.prog X.w) X.A (f v u) (EP X pins σ Q) X.xe s
noncomputable def Q3 (X:Cx)(f:Value→Sem Value)(r:V→Hp→VK→Prop):Prop :=
 ∀ (pins:List (Addr×Obj)) (s:Shared) (σ:St) (H:Hp) (x:V) (v:Value) (Q:VK),Inv X pins σ H s→yS x v→r x H Q →
   wpAny (model X.prog X.w) X.A (f v) (EP X pins σ Q) X.xe s
noncomputable def rP (X:Cx)(f:Value)(r:List V→Hp→VK→Prop):Prop :=
 ∀ (pins:List (Addr×Obj)) (s:Shared) (σ:St) (H:Hp) (xs:List V) (us:List Value) (Q:VK),Inv X pins σ H s→ym xs us→r xs H Q →
   wpAny (model X.prog X.w) X.A (call f us) (EP X pins σ Q) X.xe s
noncomputable def PM (X:Cx)(r:V→Hp→(Bool→Hp→Prop)→Prop):Prop :=
 ∀ (pins:List (Addr×Obj)) (s:Shared) (σ:St) (H:Hp) (x:V) (v:Value) (Q:Bool→Hp→Prop),Inv X pins σ H s→yS x v→r x H Q →
   wpAny (model X.prog X.w) X.A (truthy v) (TP X pins σ Q) X.xe s
noncomputable def Y0 (r:R2)(ta tb:TE):TE:=fun σ H Q=>ta σ H fun x H1=>tb σ H1 fun y H2=>r x y H2 Q
noncomputable def PX (r:V→Hp→VK→Prop)(ta:TE):TE:=fun σ H Q=>ta σ H fun x H1=>r x H1 Q
noncomputable def rI (C:Int→Int→Prop)(g:Int→Int→V):R2:=fun x y H Q=>∃i j,x=.int i∧y=.int j∧C i j∧Q (g i j) H
noncomputable def WS (g:Int→Int→V):R2:=fun x y H Q=>∃i j,x=.int i∧y=.int j∧Q (g i j) H
noncomputable def rU (g:Int→V):V→Hp→VK→Prop:=fun x H Q=>∃i,x=.int i∧Q (g i) H
section
variable {X:Cx}{a b c:Expr}{ta tb tc:TE}{pos:Pos}
theorem Ry (ha:PE X a ta)(hb:PE X b tb){pins:List (Addr×Obj)}{s:Shared}{σ:St}{H:Hp}{R:V→V→Hp→Prop}(I:Inv X pins σ H s)
 (h:ta σ H fun x H1=>tb σ H1 fun y H2=>R x y H2) {Q:Value→Shared→Prop} {f:Value→Value→Sem Value}
 (hf:∀v u s2 x y H2,Inv X pins σ H2 s2→yS x v→yS y u→R x y H2→wpAny (model X.prog X.w) X.A (f v u) Q X.xe s2) :
 wpAny (model X.prog X.w) X.A (eval a X.env) (fun v s₁=>wpAny (model X.prog X.w) X.A (eval b X.env) (fun u s₂=>wpAny (model X.prog X.w) X.A (f v u) Q X.xe s₂) X.xe s₁) X.xe s:=by
 refine xU (ha pins s σ H _ I h) fun v s1 ⟨x,H1,I1,r1,q1⟩=>?_;refine xU (hb pins s1 σ H1 _ I1 q1) fun u s2 ⟨y,H2,I2,r2,q2⟩=>?_;exact hf v u s2 x y H2 I2 r1 r2 q2
theorem Qb {op:Operator}{r:R2}(ho:ow X (binaryOp op) r)(ha:PE X a ta)(hb:PE X b tb):PE X (.BinOp a op b pos) (Y0 r ta tb):=by
 intro pins s σ H Q I h;exact wpAny_BinOp (Ry ha hb I h fun v u s2 x y H2 I2 rx ry q=>ho pins s2 σ H2 x y v u Q I2 rx ry q)
theorem R_ {op:UnaryOp}{r:V→Hp→VK→Prop}(ho:Q3 X (unaryOp op) r)(ha:PE X a ta):PE X (.UnaryOp op a pos) (PX r ta):=by
 intro pins s σ H Q I h;exact UnaryOp_ (xU (ha pins s σ H _ I h) fun v s1 ⟨x,H1,I1,r1,q1⟩=>ho pins s1 σ H1 x v Q I1 r1 q1)
theorem QY {f:Value→Value→Sem Value}{C:Int→Int→Prop}{g:Int→Int→Int}
 (rule:∀(i j:Int) (t u:Tok) (s:Shared) (Q:Value→Shared→Prop) (E:Value→Shared→Prop),C i j→Q (.int (g i j) s.toks) {s with toks:=s.toks+1}→wpAny (model X.prog X.w) X.A (f (.int i t) (.int j u)) Q E s) :
 ow X f (rI C fun i j=>.int (g i j)):=by
 intro pins s σ H x y v u Q I rx ry h;obtain⟨i,j,rfl,rfl,hc,q⟩:=h;obtain⟨t,rfl⟩:=rx;obtain⟨t',rfl⟩:=ry;exact rule i j t t' s _ _ hc ⟨.int (g i j),H,I.tok _,⟨_,rfl⟩,q⟩
theorem Qh {f:Value→Value→Sem Value}{g:Int→Int→Int}
 (rule:∀(i j:Int) (t u:Tok) (s:Shared) (Q:Value→Shared→Prop) (E:Value→Shared→Prop),Q (.int (g i j) s.toks) {s with toks:=s.toks+1}→wpAny (model X.prog X.w) X.A (f (.int i t) (.int j u)) Q E s) :
 ow X f (WS fun i j=>.int (g i j)):=by
 intro pins s σ H x y v u Q I rx ry h;obtain⟨i,j,rfl,rfl,q⟩:=h;obtain⟨t,rfl⟩:=rx;obtain⟨t',rfl⟩:=ry;exact rule i j t t' s _ _ ⟨.int (g i j),H,I.tok _,⟨_,rfl⟩,q⟩
theorem UT {f:Value→Value→Sem Value}{g:Int→Int→Bool}
 (rule:∀(i j:Int) (t u:Tok) (s:Shared) (Q:Value→Shared→Prop) (E:Value→Shared→Prop),Q (.bool (g i j)) s→wpAny (model X.prog X.w) X.A (f (.int i t) (.int j u)) Q E s) :
 ow X f (WS fun i j=>.bl (g i j)):=by
 intro pins s σ H x y v u Q I rx ry h;obtain⟨i,j,rfl,rfl,q⟩:=h;obtain⟨t,rfl⟩:=rx;obtain⟨t',rfl⟩:=ry;exact rule i j t t' s _ _ ⟨.bl (g i j),H,I,rfl,q⟩
noncomputable def PV (i j:Int):Prop:=0≤j∧j≤1000000∧i.natAbs<2^64
noncomputable def RH (i j:Int):Prop:=(-(2^64)<i∧i<2^64)∨(-(2^64)<j∧j<2^64)
theorem RH.ok {i j:Int}(h:RH i j):IntMulOk i j:=by
 rcases h with⟨h1,h2⟩|⟨h1,h2⟩
 ·exact .of_left (intBits_le_64 h1 h2)
 ·exact .of_right (intBits_le_64 h1 h2)
theorem SO:ow X (binaryOp .Add) (WS fun i j=>.int (i+j)):=Qh fun _ _ _ _ _ _ _ q=>add_int q
theorem SI:ow X (binaryOp .Sub) (WS fun i j=>.int (i - j)):=Qh fun _ _ _ _ _ _ _ q=>sub_int q
theorem SK:ow X (binaryOp .Mult) (rI RH fun i j=>.int (i*j)):=QY fun _ _ _ _ _ _ _ hc q=>mul_int q hc.ok
theorem SL:ow X (binaryOp .Mod) (rI (fun _ j=>0<j) fun i j=>.int (i%j)):=QY fun i j _ _ _ _ _ hc q=>by
 have h1:(0:Int)<j:=hc;exact mod_int' (by lia) (by rw[Int.fmod_eq_emod_of_nonneg i (by lia)];exact q)
theorem SJ:ow X (binaryOp .Pow) (rI PV fun i j=>.int (i^j.toNat)):=QY fun _ _ _ _ _ _ _ hc q=>pow_int_small hc.1 hc.2.1 hc.2.2 q
theorem Om {f:Value→Sem Value}{g:Int→Int}
 (rule:∀(i:Int) (t:Tok) (s:Shared) (Q:Value→Shared→Prop) (E:Value→Shared→Prop),Q (.int (g i) s.toks) {s with toks:=s.toks+1}→wpAny (model X.prog X.w) X.A (f (.int i t)) Q E s) :
 Q3 X f (rU fun i=>.int (g i)):=by
 intro pins s σ H x v Q I rx h;obtain⟨i,rfl,q⟩:=h;obtain⟨t,rfl⟩:=rx;exact rule i t s _ _ ⟨.int (g i),H,I.tok _,⟨_,rfl⟩,q⟩
theorem Si:Q3 X (unaryOp .USub) (rU fun i=>.int (-i)):=Om fun _ _ _ _ _ q=>neg_int q
end
noncomputable def R4:V→V→Bool
 | .non,.non=>true| .non,.int _=>true| .int _,.non=>true| .non,.bl _=>true| .bl _,.non=>true| .non,.str _=>true| .str _,.non=>true
 | .int _,.int _=>true| .bl _,.bl _=>true| .str _,.str _=>true| .byt _,.byt _=>true
 | .int _,.str _=>true| .str _,.int _=>true| .bl _,.str _=>true| .str _,.bl _=>true
 |_,_=>false
noncomputable def R7:R2:=fun x y H Q=>R4 x y=true∧Q (.bl (decide (x=y))) H
noncomputable def P0:R2:=fun x y H Q=>R4 x y=true∧Q (.bl (!decide (x=y))) H
theorem YG {i j:Int}:decide (V.int i=V.int j)=(i == j):=by
 rw[sbV];simp
theorem VP {i j:Bool}:decide (V.bl i=V.bl j)=(i == j):=by
 rw[sbV];simp
theorem YF {i j:Str}:decide (V.str i=V.str j)=(i == j):=by
 rw[sbV];simp
theorem YH {i j:Array UInt8}:decide (V.byt i=V.byt j)=(i.toList == j.toList):=by
 rw[sbV];cases i;cases j;simp
section
variable {X:Cx}{a b c:Expr}{ta tb tc:TE}{pos:Pos}
theorem yk {pins:List (Addr×Obj)}{σ:St}{H:Hp}{s:Shared}{Q:VK}{k k':Bool}(I:Inv X pins σ H s)(q:Q (.bl k) H)(e:k=k'):EP X pins σ Q (.bool k') s:=by
 subst e;exact⟨.bl k,H,I,rfl,q⟩
theorem Yj:ow X (compareOp .Eq) R7:=by
 intro pins s σ H x y v u Q I rx ry h;obtain⟨hs,q⟩:=h
 cases x with
 | non=>
   cases rx
   cases y with
   |non=>cases ry;exact PySem.EqNone.eq_none_none (yk I q (by simp))
   |bl j=>cases ry;exact PySem.EqNone.eq_none_bool (yk I q (by simp))
   |int j=>obtain⟨t',rfl⟩:=ry;exact PySem.EqNone.eq_none_int (yk I q (by simp))
   |str j=>obtain⟨t',rfl⟩:=ry;exact PySem.EqNone.eq_none_str (yk I q (by simp))
   |_=>exact absurd (show false=true from hs) sai
 | bl i=>
   cases rx
   cases y with
   |non=>cases ry;exact PySem.EqNone.eq_bool_none (yk I q (by simp))
   |bl j=>cases ry;exact eq_bool (yk I q VP)
   |str j=>obtain⟨t',rfl⟩:=ry;exact PySem.EqMixed.eq_bool_str (yk I q (by simp))
   |_=>exact absurd (show false=true from hs) sai
 | int i=>
   obtain⟨t,rfl⟩:=rx
   cases y with
   |non=>cases ry;exact PySem.EqNone.eq_int_none (yk I q (by simp))
   |int j=>obtain⟨t',rfl⟩:=ry;exact eq_int (yk I q YG)
   |str j=>obtain⟨t',rfl⟩:=ry;exact PySem.EqMixed.eq_int_str (yk I q (by simp))
   |_=>exact absurd (show false=true from hs) sai
 | str i=>
   obtain⟨t,rfl⟩:=rx
   cases y with
   |non=>cases ry;exact PySem.EqNone.eq_str_none (yk I q (by simp))
   |bl j=>cases ry;exact PySem.EqMixed.eq_str_bool (yk I q (by simp))
   |int j=>obtain⟨t',rfl⟩:=ry;exact PySem.EqMixed.eq_str_int (yk I q (by simp))
   |str j=>obtain⟨t',rfl⟩:=ry;exact eq_str (yk I q YF)
   |_=>exact absurd (show false=true from hs) sai
 | byt i=>
   obtain⟨t,rfl⟩:=rx
   cases y with
   |byt j=>obtain⟨t',rfl⟩:=ry;exact PySem.W.eq_bytes (yk I q YH)
   |_=>exact absurd (show false=true from hs) sai
 |_=>cases y <;> exact absurd (show false=true from hs) sai
theorem Qe:ow X (compareOp .NotEq) P0:=by
 intro pins s σ H x y v u Q I rx ry h;obtain⟨hs,q⟩:=h
 cases x with
 | non=>
   cases rx
   cases y with
   |non=>cases ry;exact PySem.EqNone.ne_none_none (yk I q (by simp))
   |bl j=>cases ry;exact PySem.EqNone.ne_none_bool (yk I q (by simp))
   |int j=>obtain⟨t',rfl⟩:=ry;exact PySem.EqNone.ne_none_int (yk I q (by simp))
   |str j=>obtain⟨t',rfl⟩:=ry;exact PySem.EqNone.ne_none_str (yk I q (by simp))
   |_=>exact absurd (show false=true from hs) sai
 | bl i=>
   cases rx
   cases y with
   |non=>cases ry;exact PySem.EqNone.ne_bool_none (yk I q (by simp))
   |bl j=>cases ry;exact ne_bool (yk I q (congrArg not VP))
   |str j=>obtain⟨t',rfl⟩:=ry;exact PySem.EqMixed.ne_bool_str (yk I q (by simp))
   |_=>exact absurd (show false=true from hs) sai
 | int i=>
   obtain⟨t,rfl⟩:=rx
   cases y with
   |non=>cases ry;exact PySem.EqNone.ne_int_none (yk I q (by simp))
   |int j=>obtain⟨t',rfl⟩:=ry;exact ne_int (yk I q (congrArg not YG))
   |str j=>obtain⟨t',rfl⟩:=ry;exact PySem.EqMixed.ne_int_str (yk I q (by simp))
   |_=>exact absurd (show false=true from hs) sai
 | str i=>
   obtain⟨t,rfl⟩:=rx
   cases y with
   |non=>cases ry;exact PySem.EqNone.ne_str_none (yk I q (by simp))
   |bl j=>cases ry;exact PySem.EqMixed.ne_str_bool (yk I q (by simp))
   |int j=>obtain⟨t',rfl⟩:=ry;exact PySem.EqMixed.ne_str_int (yk I q (by simp))
   |str j=>obtain⟨t',rfl⟩:=ry;exact ne_str (yk I q (congrArg not YF))
   |_=>exact absurd (show false=true from hs) sai
 | byt i=>
   obtain⟨t,rfl⟩:=rx
   cases y with
   |byt j=>obtain⟨t',rfl⟩:=ry;exact PySem.W.ne_bytes (yk I q (congrArg not YH))
   |_=>exact absurd (show false=true from hs) sai
 |_=>cases y <;> exact absurd (show false=true from hs) sai
theorem Yi:ow X (compareOp .Lt) (WS fun i j=>.bl (decide (i<j))):=UT fun _ _ _ _ _ _ _ q=>lt_int q
theorem Qf:ow X (compareOp .LtE) (WS fun i j=>.bl (decide (i≤j))):=UT fun _ _ _ _ _ _ _ q=>le_int q
theorem TY:ow X (compareOp .Gt) (WS fun i j=>.bl (decide (j<i))):=UT fun _ _ _ _ _ _ _ q=>gt_int q
theorem Qg:ow X (compareOp .GtE) (WS fun i j=>.bl (decide (j≤i))):=UT fun _ _ _ _ _ _ _ q=>ge_int q
theorem aV:ow X (compareOp .Is) (fun x y H Q=>y=.non∧Q (.bl (decide (x=.non))) H):=by
 intro pins s σ H x y v u Q I rx ry h;obtain⟨rfl,q⟩:=h;cases ry;refine is_none_gen (yk I q ?_)
 cases x <;> first
  |(cases rx;rfl)
  |(obtain⟨t,rfl⟩:=rx;rfl)
theorem Yh:ow X (compareOp .IsNot) (fun x y H Q=>y=.non∧Q (.bl (!decide (x=.non))) H):=by
 intro pins s σ H x y v u Q I rx ry h;obtain⟨rfl,q⟩:=h;cases ry;refine isnot_none_gen (yk I q ?_)
 cases x <;> first
  |(cases rx;rfl)
  |(obtain⟨t,rfl⟩:=rx;rfl)
noncomputable def Qs:HO→Bool
 | .l _=>true
 | .ins _ _ _=>true
 |_=>false
theorem u_ {pins:List (Addr×Obj)}{s:Shared}{σ:St}{H:Hp}{a:Addr}{o:HO}(I:Inv X pins σ H s)(h:H a=some o)(p:Qs o=true):∃ob,s.heap.get? a=some ob∧ob.cls≠.type "tuple" :=by
 cases o with
 | l xs=>
   obtain⟨_,its,n,_,e⟩:xs.length≤sizeLine∧∃(its:List Value) (n:Nat),ym xs its∧s.heap.get? a=some {cls:=.type "list",data:=.seq its.toArray n}:=I.hok a _ h;exact⟨_,e,(by show Value.type "list" ≠ .type "tuple";decide +kernel)⟩
 | ins C dx fs=>
   have x:=I.hok a _ h;obtain⟨_,_,_,e,_⟩:=x;exact⟨_,e,(by show Value.ref C≠.type "tuple";exact fun z=>by cases z)⟩
 |_=>exact absurd (show false=true from p) sai
theorem ow.or {f:Value→Value→Sem Value}{r r':R2}(h:ow X f r)(h':ow X f r'):ow X f (fun x y H Q=>r x y H Q∨r' x y H Q):=by
 intro pins s σ H x y v u Q I rx ry q
 rcases q with q|q
 ·exact h pins s σ H x y v u Q I rx ry q
 ·exact h' pins s σ H x y v u Q I rx ry q
theorem xx (b:Expr){op:CmpOp}(h:op≠.In:=by decide)(h2:op≠.NotIn:=by decide):behindInMarks op b=false:=by
 have e1:(op == CmpOp.In)=false:=by cases op <;> first|rfl|exact absurd rfl h
 have e2:(op == CmpOp.NotIn)=false:=by cases op <;> first|rfl|exact absurd rfl h2
 cases b <;> simp[behindInMarks,e1,e2]
theorem r_ {op:CmpOp}{r:R2}(ho:ow X (compareOp op) r)(ha:PE X a ta)(hb:PE X b tb)(hm:behindInMarks op b=false):PE X (.Compare a [op] [b] pos) (Y0 r ta tb):=by
 intro pins s σ H Q I h;exact wpAny_Compare1 (Ry ha hb I h fun v u s2 x y H2 I2 rx ry q=>ho pins s2 σ H2 x y v u Q I2 rx ry q) hm
noncomputable def ZW (t:TE):TT:=fun σ H Q=>t σ H fun x H'=>∃k,x=.bl k∧Q k H'
theorem eV {op:CmpOp}{r:R2}(ho:ow X (compareOp op) r)(ha:PE X a ta)(hb:PE X b tb)(hm:behindInMarks op b=false):PT X (.Compare a [op] [b] pos) (ZW (Y0 r ta tb)):=by
 intro pins s σ H Q I h
 refine wpAny_isTrue_Compare1 (xU (ha pins s σ H _ I h) fun v s1 ⟨x,H1,I1,r1,q1⟩=>xU (hb pins s1 σ H1 _ I1 q1) fun u s2 ⟨y,H2,I2,r2,q2⟩=>
  xU (ho pins s2 σ H2 x y v u _ I2 r1 r2 q2) fun c s3 ⟨z,H3,I3,r3,k,e,q3⟩=>?_) hm
 subst e;cases r3;exact sbg ⟨H3,I3,q3⟩
noncomputable def Wx (r r':R2)(ta tb tc:TE):TE:=fun σ H Q=>ta σ H fun x H1=>tb σ H1 fun y H2=>r x y H2 fun z H3=>∃k,z=.bl k ∧
 (if k=true then tc σ H3 fun w' H4=>r' y w' H4 Q else Q (.bl false) H3)
theorem WZ {op op':CmpOp}{r r':R2}(ho:ow X (compareOp op) r)(ho':ow X (compareOp op') r')(ha:PE X a ta)(hb:PE X b tb)(hc:PE X c tc)
 (hm:lastMarks [op,op'] [b,c]=false:=by with_unfolding_all rfl):PT X (.Compare a [op,op'] [b,c] pos) (ZW (Wx r r' ta tb tc)):=by
 intro pins s σ H Q I h
 refine isTrue_chain (xU (ha pins s σ H _ I h) fun v s1 ⟨x,H1,I1,r1,q1⟩=>test_link (xU (hb pins s1 σ H1 _ I1 q1) fun u s2 ⟨y,H2,I2,r2,q2⟩=>
  xU (ho pins s2 σ H2 x y v u _ I2 r1 r2 q2) fun d s3 ⟨z,H3,I3,r3,k,e,q3⟩=>?_)) hm
 subst e;cases r3;refine sbg ?_
 cases k with
 | false=>
   obtain⟨k',e',q'⟩:=q3;cases e';exact ite_ff ⟨H3,I3,q'⟩
 | true=>
   refine ite_tt (test_last (xU (hc pins s3 σ H3 _ I3 q3) fun w' s4 ⟨z',H4,I4,r4,q4⟩=>xU (ho' pins s4 σ H4 y z' u w' _ I4 r2 r4 q4) fun d' s5 ⟨z2,H5,I5,r5,k2,e2,q5⟩=>?_));subst e2;cases r5;exact sbg ⟨H5,I5,q5⟩
noncomputable def QO (K:Frag)(x:V)(H:Hp)(k:Bool):Prop :=
 match x with
 | .non=>k=false
 | .bl b=>k=b
 | .int i=>k=(i != 0)
 | .str y=>y.length≤sizeLine∧k=((y.length:Int) != 0)
 | .byt y=>y.size≤sizeLine∧k=((y.size:Int) != 0)
 | .ref p=>(∃xs,wx K H p xs∧k = !xs.isEmpty)∨(∃xs,av K H p xs∧k = !xs.isEmpty)∨∃kvs,H p=some (.dK kvs)∧k = !kvs.isEmpty
 |_=>False
theorem Zj {κ:Type}{kvs:List (κ×V)}{vs:List (κ×Value)}(r:KV kvs vs):(!vs.isEmpty) = !kvs.isEmpty:=by
 cases r <;> rfl
theorem iz {xs:List V}{its:List Value}(r:ym xs its):(!its.toArray.isEmpty) = !xs.isEmpty:=by
 cases r <;> simp
theorem iu:(sizeLine:Nat)<2^63:=by rw[sizeLine_eq];decide
theorem Sj:PM X (fun x H Q=>∃k,QO X.K x H k∧Q k H):=by
 intro pins s σ H x v Q I rx h;obtain⟨k,e,q⟩:=h;have hl:=iu;have hs:sizeLine=16777216:=sizeLine_eq
 cases x with
 | non=>
   cases rx;have e':k=false:=e;subst e';exact truthy_none ⟨H,I,q⟩
 | bl b=>
   cases rx;have e':k=b:=e;subst e';exact sbg ⟨H,I,q⟩
 | int i=>
   obtain⟨t,rfl⟩:=rx;have e':k=(i != 0):=e;subst e';exact PySem.P.truthy_int ⟨H,I,q⟩
 | str y=>
   obtain⟨t,rfl⟩:=rx;obtain⟨hy,e'⟩:y.length≤sizeLine∧k=((y.length:Int) != 0):=e;subst e';exact PySem.P.truthy_str (by lia) ⟨H,I.tok _,q⟩
 | byt y=>
   obtain⟨t,rfl⟩:=rx;obtain⟨hy,e'⟩:y.size≤sizeLine∧k=((y.size:Int) != 0):=e;subst e';exact PySem.W.truthy_bytes (by lia) ⟨H,I.tok _,q⟩
 | ref p=>
   cases rx;have e':(∃xs,wx X.K H p xs∧k = !xs.isEmpty)∨(∃xs,av X.K H p xs∧k = !xs.isEmpty)∨∃kvs,H p=some (.dK kvs)∧k = !kvs.isEmpty:=e
   rcases e' with⟨xs,hx,e'⟩|⟨xs,hx,e'⟩|⟨kvs,hx,e'⟩
   ·subst e';obtain⟨its,r,pl,hz⟩:=I.list hx;have hlen:=r.length;exact wpAny_truthy_list pl.isList (by simp only[List.size_toArray];lia) ⟨H,I.tok _,by rw[iz r];exact q⟩
   ·subst e';obtain⟨its,r,pl,hz⟩:=I.tuple hx;have hlen:=r.length;exact truthy_tuple pl (by simp only[List.size_toArray];lia) ⟨H,I.tok _,by rw[iz r];exact q⟩
   ·subst e';obtain⟨hz,hS,vs,r,m⟩:kvs.length≤sizeLine∧(p == sysModules)=false∧∃vs,KV kvs vs∧s.heap.DictOf (sC X.prog X.w) p vs:=I.hok p _ hx;have hlen:kvs.length=vs.length:=Paired.length r;exact wpAny_truthy_dict hS m (by lia) ⟨H,I.tok _,by rw[Zj r];exact q⟩
 |_=>exact(show False from e).elim
theorem WY (ha:PE X a ta)(he:∀whole,isTrue a X.env whole=(do let v ← whole;standAt a.pos;holding [v] (truthy v))) :
 PT X a (fun σ H Q=>ta σ H fun x H'=>∃k,QO X.K x H' k∧Q k H'):=by
 intro pins s σ H Q I h;exact isTrue_plain (xU (ha pins s σ H _ I h) fun v s1 ⟨x,H1,I1,r1,q1⟩=>Sj pins s1 σ H1 x v Q I1 r1 q1) (he _)
theorem q8 {x:V}{us:List Value}(r:ym [x] us):∃u,us=[u]∧yS x u:=by
 cases r with
 |cons r1 r2=>cases r2;exact⟨_,rfl,r1⟩
theorem gU {x y:V}{us:List Value}(r:ym [x,y] us):∃u w',us=[u,w']∧yS x u∧yS y w':=by
 cases r with
 | cons r1 r2=>
   cases r2 with
   |cons r3 r4=>cases r4;exact⟨_,_,rfl,r1,r3⟩
theorem XY (hc:X.calm=true):rP X (.builtin "min") (fun xs H Q=>∃i j,xs=[.int i,.int j]∧Q (.int (if j<i then j else i)) H):=by
 intro pins s σ H xs us Q I r h;obtain⟨i,j,rfl,q⟩:=h;obtain⟨u,w',rfl,⟨t,rfl⟩,⟨t',rfl⟩⟩:=gU r
 refine min_two_ints (I.ok.hd hc) fun h' tk k=>⟨_,H,I.kept k,?_,q⟩
 by_cases hj:j<i
 ·rw[sak hj,sak hj];exact⟨_,rfl⟩
 ·rw[sal hj,sal hj];exact⟨_,rfl⟩
end
structure ObjM (h:Heap)(x dx C:Addr)(mA:Str→Option Value):Prop where
 obj:h.get? x=some (PySem.W.instObj C dx)
 ns:h.Ns1 dx mA
 ne:dx≠x
theorem fE {h:Heap}{dx:Addr}{mA:Str→Option Value}(n:h.Ns1 dx mA):∃od,h.get? dx=some od∧∀name,PySem.W.lookIn name od=some (mA name):=by
 obtain⟨o,es,ep,ho,hd,hk,_,hm⟩:=n;refine⟨o,ho,fun name=>?_⟩;have e:=hm name;unfold nsFind findBy at e;rw[←Array.find?_toList]at e;unfold PySem.W.lookIn;rw[hd];dsimp only;split
 ·rename_i y q;rw[q]at e;exact congrArg some e
 ·rename_i q;rw[q]at e
  have a:es.toList.any (·.refKey)=false:=by
   rw[scj];intro y hy;obtain⟨z,t,hkey⟩:=hk y (Array.mem_toList_iff.mp hy);simp[DictEntry.refKey,hkey]
  have a':¬es.toList.any (·.refKey)=true:=by rw[a];exact sai
  rw[sal a'];exact congrArg some e
theorem ObjM.look {h:Heap}{x dx C:Addr}{mA:Str→Option Value}(I:ObjM h x dx C mA):∃od,PySem.W.InstAt h x (PySem.W.instObj C dx) C (some od)∧∀name,PySem.W.lookIn name od=some (mA name) :=
 let ⟨od,ho,hl⟩:=fE I.ns
 ⟨od,⟨I.obj,rfl,rfl,ho⟩,hl⟩
section
variable {prog:Program}{w:World}{A:Around}{E:Value→Shared→Prop}{s:Shared}{K:Frag}{x dx C f:Addr}{mA:Str→Option Value}{name:Str}{v:Value}
end
theorem cw.some_of {v:V}{o:Option Value}(r:cw (some v) o):∃u,o=some u∧yS v u:=by
 cases o with
 |none=>exact(show False from r).elim
 |some u=>exact⟨u,rfl,r⟩
theorem Xw {v:V}{u:Value}(r:yS v u):PySem.W.handedIn u=true:=by
 cases v with
 |non=>cases(show u=Value.none from r);rfl
 |bl b=>cases(show u=Value.bool b from r);rfl
 |int i=>obtain⟨t,e⟩:=(show ∃t,u=Value.int i t from r);cases e;rfl
 |str x=>obtain⟨t,e⟩:=(show ∃t,u=Value.str x t from r);cases e;rfl
 |byt b=>obtain⟨t,e⟩:=(show ∃t,u=Value.bytes b t from r);cases e;rfl
 |flt b=>obtain⟨t,e⟩:=(show ∃t,u=Value.float b t from r);cases e;rfl
 |ref a=>cases(show u=Value.ref a from r);rfl
 |ty n=>cases(show u=Value.type n from r);rfl
section
variable {P:Program}{w:World}{H H':Hp}{h h':Heap}{a C dx:Addr}{fs fs':List (Str×V)}
theorem Tc (hok:nO P w H h)(e:H a=some (.ins C dx fs)):∃mA,ObjM h a dx C mA∧(∀f,cw (fs.lookup f) (mA f))∧PySem.Within mA (fs.map (·.1))∧fs.length≤1000∧H dx=some (.own a):=by
 obtain⟨d,z,ne,ob,mA,n,r,q⟩:=(show we P w H h a (.ins C dx fs)from hok a _ e)
 exact⟨mA,⟨ob,n,ne⟩,r,q,z,d⟩
end
structure Cls (K:Frag)(C:Addr):Prop where
 pg:PySem.W.plainGet K C Str.empty=true
 hd:PySem.W.hasDictIn K C=true
 po:PySem.W.plainOver K C=true
 sa:PySem.W.findIn K (.ref C) "__setattr__" = some (some (.builtin "object.__setattr__"))
theorem Cls.get {K:Frag}{C:Addr}(c:Cls K C)(f:Str):PySem.W.plainGet K C f=true:=c.pg
section
variable {X:Cx}{pins:List (Addr×Obj)}{σ:St}{H:Hp}{s:Shared}{a C dx:Addr}{fs:List (Str×V)}{f:Str}{v:V}{A:Around}{E:Value→Shared→Prop}
theorem TC {prog:Program}{w:World}{env:Env}{e:Expr}{f:Str}{pos:Pos}{s:Shared}{Q:Value→Shared→Prop}(hb:attributeBase e f env (eval e env)=eval e env)
 (h:wpAny (model prog w) A (eval e env) (fun o s₁=>wpAny (model prog w) A (getAttr o f true) Q E s₁) E s):wpAny (model prog w) A (eval (.Attribute e f pos) env) Q E s :=
 Attribute_any_ h (by rw[arm_eval_Attribute,hb])
end
section
variable {X:Cx}{o e value:Expr}{f:Str}{pos pos' tpos:Pos}{ta tv:TE}
end
section
variable {X:Cx}{pins:List (Addr×Obj)}{σ:St}{H:Hp}{s:Shared}{A:Around}{E:Value→Shared→Prop}{Q:Value→Shared→Prop}{c:Value}{b:Bool}
inductive TyOf (K:Frag)(H:Hp):V→Value→Prop where
 |non:TyOf K H .non (.type "NoneType")
 |bl (x:Bool):TyOf K H (.bl x) (.type "bool")
 |int (i:Int):TyOf K H (.int i) (.type "int")
 |str (x:Str):TyOf K H (.str x) (.type "str")
 |flt (x:UInt64):TyOf K H (.flt x) (.type "float")
 |l {a:Addr} {xs:List V} (e:H a=some (.l xs)):TyOf K H (.ref a) (.type "list")
 |frz {a:Addr} {o:Obj} {xs:List V} (e:H a=some (.frz o (.l xs))):TyOf K H (.ref a) (.type "list")
 |tup {a:Addr} {xs:List V} (e:H a=some (.tup xs)):TyOf K H (.ref a) (.type "tuple")
 |dK {a:Addr} {kvs:List (qZ×V)} (e:H a=some (.dK kvs)):TyOf K H (.ref a) (.type "dict")
 |dT {a:Addr} {kvs:List (List qZ×V)} (e:H a=some (.dT kvs)):TyOf K H (.ref a) (.type "dict")
 |ins {a C dx:Addr} {fs:List (Str×V)} (e:H a=some (.ins C dx fs)) (cl:Cls K C) (ha:PySem.W.findIn K (.ref C) "__class__" = some (some (.builtin "object.__class__")))
  (hn:PySem.W.specialIn K (.builtin "object.__class__") "__get__" = some (some (.builtin "getset_descriptor.__get__"))) (htk:PySem.W.takesIn K (.builtin "object.__class__")=some true)
  (hm:PySem.W.mroIn K C (.type "object")=some true):TyOf K H (.ref a) (.ref C)
theorem Xt {x:V}{u t:Value}(I:Inv X pins σ H s)(rx:yS x u)(ty:TyOf X.K H x t)(e:PySem.W.kitOne X.K t c=some b)(h:∀tk,Q (.bool b) {s with toks:=tk}) :
 wpAny (model X.prog X.w) A (call (.builtin "isinstance") [u,c]) Q E s:=by
 cases ty with
 |non=>cases(show u=Value.none from rx);exact sbl PySem.W.kitx_none I.kIn True.intro e (fun z=>nomatch z) h
 |bl y=>cases(show u=Value.bool y from rx);exact sbl PySem.W.kitx_bool I.kIn True.intro e (fun z=>nomatch z) h
 |int i=>obtain⟨t,q⟩:=(show ∃t,u=Value.int i t from rx);cases q;exact sbl PySem.W.kitx_int I.kIn True.intro e (fun z=>nomatch z) h
 |str y=>obtain⟨t,q⟩:=(show ∃t,u=Value.str y t from rx);cases q;exact sbl PySem.W.kitx_str I.kIn True.intro e (fun z=>nomatch z) h
 |flt y=>obtain⟨t,q⟩:=(show ∃t,u=Value.float y t from rx);cases q;exact sbl PySem.W.kitx_float I.kIn True.intro e (fun z=>nomatch z) h
 | @l a xs ea=>
   cases(show u=Value.ref a from rx)
   obtain⟨_,_,n,_,h1⟩:=(show we X.prog X.w H s.heap a (.l xs)from I.hok a _ ea)
   exact sbl PySem.W.kitx_list I.kIn ⟨_,h1,rfl⟩ e (fun z=>nomatch z) h
 | @frz a ob xs ea=>
   cases(show u=Value.ref a from rx)
   obtain⟨_,_,_,n,_,h1⟩:=(show we X.prog X.w H s.heap a (.frz ob (.l xs))from I.hok a _ ea)
   exact sbl PySem.W.kitx_list I.kIn ⟨_,h1,rfl⟩ e (fun z=>nomatch z) h
 | @tup a xs ea=>
   cases(show u=Value.ref a from rx)
   obtain⟨_,_,_,p⟩:=(show we X.prog X.w H s.heap a (.tup xs)from I.hok a _ ea)
   obtain⟨o,h1,h2,_⟩:=p;exact sbl PySem.W.kitx_tuple I.kIn ⟨o,h1,h2⟩ e (fun z=>nomatch z) h
 | @dK a kvs ea=>
   cases(show u=Value.ref a from rx)
   obtain⟨_,_,vs,_,p⟩:=(show we X.prog X.w H s.heap a (.dK kvs)from I.hok a _ ea)
   obtain⟨o,es,ep,h1,h2,_⟩:=p;exact sbl PySem.W.kitx_dict I.kIn ⟨o,h1,h2.1⟩ e (fun z=>nomatch z) h
 | @dT a kvs ea=>
   cases(show u=Value.ref a from rx)
   obtain⟨_,_,xs,_,o,es,ep,h1,h2,_⟩:=(show we X.prog X.w H s.heap a (.dT kvs)from I.hok a _ ea)
   exact sbl PySem.W.kitx_dict I.kIn ⟨o,h1,h2.1⟩ e (fun z=>nomatch z) h
 | @ins a C dx fs ea cl ha hn htk hm=>
   cases(show u=Value.ref a from rx);obtain⟨mA,O,_⟩:=Tc I.hok ea;obtain⟨od,J,_⟩:=O.look;exact sbl (PySem.W.kitx_own (cl.get _) cl.hd ha hn htk hm) I.kIn J e (fun z=>nomatch z) h
end
structure Room (k:Nat)(A:Around):Prop where
 hd:A.handled=none
 dp:A.depth+3*k+5<recursionLimit
 un:A.units+16*k+200<cLine
theorem Room.mono {j k:Nat}{A:Around}(r:Room k A)(h:j≤k):Room j A:=⟨r.hd,by have:=r.dp;lia,by have:=r.un;lia⟩
theorem Room.deeper {k:Nat}{A:Around}(r:Room (k+1) A)(env:Env):Room k (A.deeper env) :=
 ⟨r.hd,by have:=r.dp;show A.depth+1+3*k+5<_;lia,by have:=r.un;show A.units+3+16*k+200<_;lia⟩
theorem Za {A:Around}{C:Addr}{us:List Value}{kw:List (Str×Value)}:(A.under (.builtin "type.__call__" ⟨.ref C::us,kw⟩)).depth=A.depth+1:=by
 first|rfl|simp[Around.under,Code.weight,Code.isCreation,Code.isGuard,Code.isCaller,Code.frames,Code.isFrame,guardIds]
theorem a_ {A:Around}{C:Addr}{us:List Value}{kw:List (Str×Value)}:(A.under (.builtin "type.__call__" ⟨.ref C::us,kw⟩)).units=A.units+1:=by
 first|rfl|simp[Around.under,Code.cUnits,Code.frames,Code.isFrame]
theorem Room.make {k:Nat}{A:Around}(r:Room (k+1) A)(C:Addr)(us:List Value)(kw:List (Str×Value)):Room k (A.under (.builtin "type.__call__" ⟨.ref C::us,kw⟩)) :=
 ⟨r.hd,by have:=r.dp;rw[Za];lia,by have:=r.un;rw[a_];lia⟩
theorem Room.depth {k:Nat}{A:Around}(r:Room k A):A.depth<recursionLimit:=by have:=r.dp;lia
theorem Room.units {k:Nat}{A:Around}(r:Room k A):A.units+64<cLine:=by have:=r.un;lia
noncomputable def oR:TA:=fun _ H Q=>Q [] H
noncomputable def wW (ta:TE)(tr:TA):TA:=fun σ H Q=>ta σ H fun x H1=>tr σ H1 fun xs H2=>Q (x::xs) H2
section
variable {X:Cx}{e:Expr}{es:List Expr}{te:TE}{t:TA}{pos:Pos}
theorem yw:PA X [] oR:=fun _ _ _ _ H Q I h=>Calls.spliced_nil ⟨[],H,I,.nil,h⟩
theorem zM (ha:PE X e te)(hr:PA X es t)(hs:starEach (e::es) X.env=(false,eval e X.env)::starEach es X.env:=by rfl):PA X (e::es) (wW te t):=by
 intro pos pins s σ H Q I h;rw[hs];show wpAny _ _ (spliced ((false,eval e X.env)::backTo pos (starEach es X.env))) _ _ s;refine Calls.spliced_cons (xU (ha pins s σ H _ I h) fun u s1 ⟨x,H1,I1,r1,q1⟩=>?_)
 exact xU (hr pos pins s1 σ H1 _ I1 q1) fun us s2 ⟨xs,H2,I2,r2,q2⟩=>⟨x::xs,H2,I2,.cons r1 r2,q2⟩
noncomputable def Pd (t:TA):TE:=fun σ H Q=>t σ H fun xs H1=>xs.length≤sizeLine∧∀p,H1 p=none→Q (.ref p) (yo H1 p (.tup xs))
noncomputable def Wu (t:TA):TE:=fun σ H Q=>t σ H fun xs H1=>xs.length≤sizeLine∧∀p,H1 p=none→Q (.ref p) (yo H1 p (.l xs))
theorem SE {x1}(h:PA X es t):PE X (.Tuple es x1 pos) (Pd t):=by
 intro pins s σ H Q I hq;refine wpAny_Tuple_spliced (xU (h pos pins s σ H _ I hq) fun us s1 ⟨xs,H1,I1,r,z,q⟩=>⟨by rw[←r.length];exact z,?_⟩);have hf:H1 s1.heap.objs.size=none:=I1.hok.fresh (Nat.le_refl _);refine⟨.ref s1.heap.objs.size,yo H1 s1.heap.objs.size (.tup xs),I1.laid (t':=s1.toks) (fun b u e=>sab _ e) (Nat.le_refl _) ?_,rfl,q _ hf⟩;exact⟨z,us,r,⟨_,saq _ rfl,rfl,_,rfl⟩⟩
theorem eX (h:PA X es t):PE X (.List es pos) (Wu t):=by
 intro pins s σ H Q I hq;refine wpAny_List_spliced (xU (h pos pins s σ H _ I hq) fun us s1 ⟨xs,H1,I1,r,z,q⟩=>⟨by rw[←r.length];exact z,?_⟩);have hf:H1 s1.heap.objs.size=none:=I1.hok.fresh (Nat.le_refl _);refine⟨.ref s1.heap.objs.size,yo H1 s1.heap.objs.size (.l xs),I1.laid (t':=s1.toks) (fun b u e=>sab _ e) (Nat.le_refl _) ?_,rfl,q _ hf⟩;exact⟨z,us,0,r,saq _ rfl⟩
end
noncomputable abbrev Sp:=List V→Hp→VK→XK→Prop
noncomputable abbrev ZQ:=List Env→Hp→Shared→XK→Value→Shared→Prop
structure Env0 (P:Program)(w:World)(K:Frag)(mg:Str→Option Value)(base:Heap)(A:Around)(outer:List Env)(s:Shared)(H:Hp):Prop where
 frames:A.frames=some outer
 mod:Mod K mg base
 bs:∀b o,base.get? b=some o→s.heap.get? b=some o∧H b=none
 bsz:base.objs.size≤s.heap.objs.size
 funs:s.heap.FunFrames base outer
 frf:∀b∈nv outer,H b=none
 hok:nO P w H s.heap
 bare:AllBare s.gens
noncomputable def CE (outer:List Env)(P:Program)(w:World)(H:Hp)(s:Shared)(Q:VK)(u:Value)(s':Shared):Prop :=
 ∃v H',s'.os=s.os∧AllBare s'.gens∧Un (nv outer) [] H H' s.heap s'.heap∧nO P w H' s'.heap∧yS v u∧Q v H'
noncomputable def CR (CX:ZQ)(outer:List Env)(P:Program)(w:World)(H:Hp)(s:Shared)(Q:VK)(E:XK)(r:Result)(s':Shared):Prop :=
 match r with
 | .ok (.ret u)=>CE outer P w H s Q u s'
 | .ok _=>False
 | .error e=>CX outer H s E e s'
structure FnOk (P:Program)(w:World)(K:Frag)(mg:Str→Option Value)(base:Heap)(CX:ZQ)(k:Nat)(f:Addr)(fd:FuncData)(ps:List Str)(sp:Sp):Prop where
 len:∀vs H Q E,sp vs H Q E→vs.length=ps.length
 run:∀(A:Around) (outer:List Env) (s:Shared) (H:Hp) (args:Args) (us:List Value) (vs:List V) (Q:VK) (E:XK),Room k A→Env0 P w K mg base A outer s H→BindsTo s fd args (ps.zip us)→ym vs us→sp vs H Q E →
  codeAny (model P w) A (.call (.ref f) args) (CR CX outer P w H s Q E) s
theorem FnOk.mono {P:Program}{w:World}{K:Frag}{mg:Str→Option Value}{base:Heap}{CX:ZQ}{j k:Nat}{f:Addr}{fd:FuncData}{ps:List Str}{sp:Sp}(F:FnOk P w K mg base CX j f fd ps sp)(h:j≤k) :
 FnOk P w K mg base CX k f fd ps sp:=⟨F.len,fun A outer s H args us vs Q E hr=>F.run A outer s H args us vs Q E (hr.mono h)⟩
theorem FnOk.imp {P:Program}{w:World}{K:Frag}{mg:Str→Option Value}{base:Heap}{CX:ZQ}{k:Nat}{f:Addr}{fd:FuncData}{ps:List Str}{sp sp':Sp}(F:FnOk P w K mg base CX k f fd ps sp)
 (h:∀vs H Q E,sp' vs H Q E→sp vs H Q E):FnOk P w K mg base CX k f fd ps sp' :=
 ⟨fun vs H Q E q=>F.len vs H Q E (h _ _ _ _ q),fun A outer s H args us vs Q E hr he hb hv hs=>F.run A outer s H args us vs Q E hr he hb hv (h _ _ _ _ hs)⟩
theorem Env0.make {P:Program}{w:World}{K:Frag}{mg:Str→Option Value}{base:Heap}{A:Around}{outer:List Env}{s:Shared}{H:Hp}(e:Env0 P w K mg base A outer s H)(C:Addr)(us:List Value)(kw:List (Str×Value)) :
 Env0 P w K mg base (A.under (.builtin "type.__call__" ⟨.ref C::us,kw⟩)) outer s H:=⟨by first|exact e.frames|(simpa[Around.under,Code.envs,Code.isFrame,pushEnvs]using e.frames),e.mod,e.bs,e.bsz,e.funs,e.frf,e.hok,e.bare⟩
section
variable {X:Cx}{pins:List (Addr×Obj)}{σ:St}{H:Hp}{s s':Shared}
theorem Inv.env0 (I:Inv X pins σ H s):Env0 X.prog X.w X.K X.mg X.base X.A X.stack s H :=
 ⟨I.ok.frames,I.ok.mod,I.bs,sbq I.ok.bsz I.sz,I.stack,I.stkFree,I.hok,I.bare⟩
theorem Inv.after {Q:VK}{u:Value}(I:Inv X pins σ H s)(h:CE X.stack X.prog X.w H s Q u s'):EP X pins σ Q u s':=by
 obtain⟨v,H',os,bare,un,hok,r,q⟩:=h;obtain⟨hh,g,d,t,os'⟩:=s';obtain rfl:os'=s.os:=os;exact⟨v,H',I.call (h':=hh) (g':=g) (d':=d) (t':=t) (ch:=[]) un hok bare (fun b z=>absurd z (by simp)),r,q⟩
end
noncomputable def jB (sp:Sp)(dvs:List V)(E:XK)(t:TA):TE:=fun σ H Q=>t σ H fun vs H1=>sp (vs++dvs) H1 Q E
noncomputable def uX (K:Frag)(fd:FuncData)(ps:List Str)(ds:List Value):Prop :=
 ∀(s:Shared) (us:List Value),K.In s.heap→(us++ds).length=ps.length→BindsTo s fd ⟨us,[]⟩ (ps.zip (us++ds))
theorem uX.all {K:Frag}{fd:FuncData}{ps:List Str}(h:∀us:List Value,us.length=ps.length→bindArgs fd ⟨us,[]⟩=pure (ps.zip us)):uX K fd ps []:=fun s us _ hl=>by
 rw[sbW]at hl ⊢;exact .of_eq (h us hl)
noncomputable def ZN (CX:ZQ)(X:Cx)(E:XK):Prop:=∀(pins:List (Addr×Obj)) (σ:St) (H:Hp) (s:Shared) (e:Value) (s':Shared),Inv X pins σ H s→CX X.stack H s E e s'→X.xe e s'
section
variable {X:Cx}{CX:ZQ}{k:Nat}{f C:Addr}{fd:FuncData}{ps:List Str}{sp:Sp}{dvs:List V}{ds:List Value}{E:XK}{x m:Str}{p pos apos:Pos}{e o:Expr}{es:List Expr}{ta:TE}{t:TA}
theorem Sr {pins:List (Addr×Obj)}{σ:St}{H:Hp}{s:Shared}{Q:VK}{us:List Value}{vs:List V}(F:FnOk X.prog X.w X.K X.mg X.base CX k f fd ps sp)(hr:Room k X.A)(hb:uX X.K fd ps ds)(hd:ym dvs ds)(hx:ZN CX X E)
 (I:Inv X pins σ H s) (r:ym vs us) (h:sp (vs++dvs) H Q E):wpAny (model X.prog X.w) X.A (call (.ref f) us) (EP X pins σ Q) X.xe s:=by
 have r2:ym (vs++dvs) (us++ds):=r.append hd;have hl:(us++ds).length=ps.length:=by rw[←r2.length];exact F.len _ _ _ _ h
 refine scJ (scE (F.run X.A X.stack s H ⟨us,[]⟩ (us++ds) (vs++dvs) Q E hr I.env0 (hb s us I.kIn hl) r2 h) fun r s' hq=>?_)
 cases r with
 |error e=>exact hx pins σ H s e s' I hq
 | ok fl=>
   cases fl with
   |ret u=>exact I.after hq
   |next=>exact False.elim hq
   |brk=>exact False.elim hq
   |cont=>exact False.elim hq
theorem ji (F:FnOk X.prog X.w X.K X.mg X.base CX k f fd ps sp)(hr:Room k X.A)(hg:Gl X x)(hm:X.mg x=some (.ref f))(hk:PySem.W.keepIn X.K (.ref f)=true)(hb:uX X.K fd ps ds)(hd:ym dvs ds)(hx:ZN CX X E)
 (ha:PA X (e::es) t) (hdb:(x == ("__debug__" : Str))=false:=by decide) (he:starEach (e::es) X.env=(false,eval e X.env)::starEach es X.env:=by rfl) (hpl:(backTo pos (starEach es X.env)).any (·.1)=false:=by rfl) :
 PE X (.Call (.Name x p) (e::es) [] pos) (jB sp dvs E t):=by
 intro pins s σ H Q I h;refine sbB (qh I hg hm ?_ hdb);refine PySem.W.callWith_K (h₀:=X.base) I.ok.mod.kin hk (xU (ha pos pins s σ H _ I h) fun us s1 ⟨vs,H1,I1,r,q⟩=>⟨I1.kIn,?_⟩) he hpl;exact Sr F hr hb hd hx I1 r q
end
section
variable {X:Cx}{CX:ZQ}{k:Nat}{f C:Addr}{fd:FuncData}{ps ks:List Str}{sp:Sp}{E:XK}{x m:Str}{p pos apos kpos:Pos}{e o:Expr}{es:List Expr}{kws:List Keyword}{te ta:TE}{t tk:TA}{nm:Option Str}
variable {g:List Value→List Value→List Value}{gV:List V→List V→List V}
end
structure FS_ (N P:List Str)(sc:Scope):Prop where
 kind:sc.kind=.function
 co:sc.isCoroutine=false
 gen:sc.isGenerator=false
 nd:N.Nodup
 pre:N.take P.length=P
 par:∀x∈P,sc.names.lookup x=some .local∨sc.names.lookup x=some .cell
 nofree:∀y∈sc.names,y.2≠.free
theorem fW {kindOf:Str→Option NameKind}{x:Str}:∀{binds:List (Str×Value)} {m:Str→Option Value},(∀v,(x,v)∉binds)→bindL kindOf binds m x=m x
 |[],_,_=>rfl
 | (n,v)::r,m,h=>by
   unfold bindL;rw[fW fun w hw=>h w (sao _ hw)];split
   ·have:x≠n:=by rintro rfl;exact h v saw
    simp[this]
   ·rfl
theorem fY {kindOf:Str→Option NameKind}{x:Str}:∀{binds:List (Str×Value)} {m:Str→Option Value},(∀v,(x,v)∉binds)→bindC kindOf binds m x=m x
 |[],_,_=>rfl
 | (n,v)::r,m,h=>by
   unfold bindC;rw[fY fun w hw=>h w (sao _ hw)];split
   ·rfl
   ·have:x≠n:=by rintro rfl;exact h v saw
    simp[this]
theorem fX {kindOf:Str→Option NameKind}{x:Str}{v:Value}:∀{P:List Str} {vs:List Value} {i:Nat} {m:Str→Option Value},P.Nodup→P[i]?=some x→vs[i]?=some v→kindOf x=some .local →
 bindL kindOf (P.zip vs) m x=some v
 |[],_,_,_,_,h,_,_=>by simp at h
 |_::_,[],_,_,_,_,h,_=>by simp at h
 | p::P,w::vs,0,m,nd,h1,h2,hk=>by
   simp at h1 h2;subst h1;subst h2;show bindL kindOf ((p,w)::P.zip vs) m p=_;unfold bindL;rw[fW fun v hv=>(sbm.mp nd).1 (List.of_mem_zip hv).1,sak hk];simp
 | p::P,w::vs,i+1,m,nd,h1,h2,hk=>by
   show bindL kindOf ((p,w)::P.zip vs) m x=_;unfold bindL;exact fX (i:=i) (sbm.mp nd).2 (by simpa using h1) (by simpa using h2) hk
theorem fZ {kindOf:Str→Option NameKind}{x:Str}{v:Value}:∀{P:List Str} {vs:List Value} {i:Nat} {m:Str→Option Value},P.Nodup→P[i]?=some x→vs[i]?=some v→kindOf x≠some .local →
 bindC kindOf (P.zip vs) m x=some v
 |[],_,_,_,_,h,_,_=>by simp at h
 |_::_,[],_,_,_,_,h,_=>by simp at h
 | p::P,w::vs,0,m,nd,h1,h2,hk=>by
   simp at h1 h2;subst h1;subst h2;show bindC kindOf ((p,w)::P.zip vs) m p=_;unfold bindC;rw[fY fun v hv=>(sbm.mp nd).1 (List.of_mem_zip hv).1,sal hk];simp
 | p::P,w::vs,i+1,m,nd,h1,h2,hk=>by
   show bindC kindOf ((p,w)::P.zip vs) m x=_;unfold bindC;exact fZ (i:=i) (sbm.mp nd).2 (by simpa using h1) (by simpa using h2) hk
noncomputable def zy (N:List Str)(vs:List V):St:=vs.map some++List.replicate (N.length - vs.length) none
noncomputable def kR (CX:ZQ)(P:Program)(w:World)(K:Frag)(mg:Str→Option Value)(base:Heap)(N:List Str)(qual:Str)(scope:Scope)(f:Addr)(cd:Value)(A:Around)(outer:List Env)(s:Shared)(H:Hp)(E:XK):Cx where
 prog:=P
 w:=w
 K:=K
 mg:=mg
 base:=base
 A:=A.deeper (envOfC qual scope s.heap.objs.size f cd)
 N:=N
 s₀:=s
 H₀:=H
 env:=envOfC qual scope s.heap.objs.size f cd
 outer:=outer
 stack:=envOfC qual scope s.heap.objs.size f cd::outer
 ex:=[]
 calm:=true
 fn:=fun _=>true
 pn:=[]
 xe:=fun e s'=>wpAny (model P w) (A.deeper (envOfC qual scope s.heap.objs.size f cd)) (leaving (envOfC qual scope s.heap.objs.size f cd) e) (fun _ s''=>CX outer H s E e s'') (fun e' s''=>CX outer H s E e' s'') s'
theorem mF {sc:Scope}{n:Nat}{x:Str}(h:sc.names.lookup x=some .cell):∃c,(cellsFrom n sc.names []).lookup x=some c:=by
 have q:=PySem.W.cellsFrom_some sc.names n [] (.inl h);exact sbP.mp q
theorem Xu {CX:ZQ}{P:Program}{w:World}{K:Frag}{mg:Str→Option Value}{base:Heap}{N ps:List Str}{qual:Str}{scope:Scope}{f:Addr}{cd:Value}{A:Around}{outer:List Env}{s s1:Shared}{H:Hp}{E:XK}{us:List Value}{vs:List V}
 (S:FS_ N ps scope) (hd:A.handled=none) (e0:Env0 P w K mg base A outer s H) (hl:vs.length=ps.length) (r:ym vs us)
 (x:InCallC s s.heap.objs.size (bindL (envOfC qual scope s.heap.objs.size f cd).kindOf (ps.zip us) fun _=>none) (cellsFrom (s.heap.objs.size+1) scope.names []) (bindC (envOfC qual scope s.heap.objs.size f cd).kindOf (ps.zip us) fun _=>none) s1) :
 Inv (kR CX P w K mg base N qual scope f cd A outer s H E) [] (zy N vs) H s1:=by
 have hpl:ps.length≤N.length:=by have:=congrArg List.length S.pre;rw[sbn]at this;lia
 obtain⟨h1,tk,rfl,hk⟩:=x.done;have noA:∀b:Addr,b∉(kR CX P w K mg base N qual scope f cd A outer s H E).ex:=fun b z=>absurd (show b∈([]:List Addr)from z) (by simp)
 refine⟨⟨e0.mod,S.kind,rfl,rfl,Nat.le_refl _,fun y z c h1 h2=>?_,fun y hy=>?_,fun y c _ h=>?_,fun _=>hd,Around.frames_deeper e0.frames,.inr ⟨rfl,rfl⟩,fun b z=>absurd z (noA b),e0.bs,e0.bsz,fun b _ _=>noA b,fun b z=>absurd z (noA b),e0.funs,e0.frf⟩,
  rfl,e0.bare,Un.kept hk,⟨_,x.toInCall.ns,fun i y v h1 h2 h3=>?_⟩,fun y c h=>⟨_,x.cell y c h⟩,e0.hok.fresh (Nat.le_refl _),fun y c h=>?_,fun p hp=>absurd (show p∈([]:List (Addr×Obj))from hp) (by simp),e0.hok.kept hk,?_⟩
 ·exact name_of_addr x.apart (sbb h1) (sbb h2)
 ·have hy:scope.names.lookup y=some .cell∨scope.names.lookup y=some .free:=hy
  rcases hy with hy|hy
  ·exact mF hy
  ·exact absurd rfl (S.nofree _ (sbb hy))
 ·exact sbO (x.above y c (sbb h))
 ·have hi:i<vs.length:=by
   unfold zy at h2;by_cases hi:i<vs.length
   ·exact hi
   ·rw[sbt (by simpa using hi)]at h2;rw[sbD]at h2
    split at h2 <;> cases h2
  have ha:vs[i]?=some v:=by
   unfold zy at h2;rw[saZ (by simpa using hi),sar]at h2
   cases e:vs[i]? with
   |none=>rw[e]at h2;cases h2
   |some a=>rw[e]at h2;cases h2;rfl
  obtain⟨u,hu,rv⟩:=r.get ha
  have hp:ps[i]?=some y:=by
   rw[←S.pre,List.getElem?_take_of_lt (by lia)];exact h1
  have ndP:ps.Nodup:=by rw[←S.pre];exact S.nd.sublist (List.take_sublist _ _)
  refine⟨u,rv,?_⟩
  rcases S.par y (saA hp)with k|k
  ·exact .inl ⟨k,fX ndP hp hu k⟩
  ·obtain⟨c,e⟩:=mF (n:=s.heap.objs.size+1) k;refine .inr ⟨.inl k,c,e,?_⟩;have q:=x.cell y c e;rw[fZ ndP hp hu (by show scope.names.lookup y≠_;rw[k];decide)]at q;exact q
 ·exact e0.hok.fresh (sbO (x.above y c (sbb h)))
 ·unfold zy;show _=N.length;rw[saP,sac,List.length_replicate];lia
theorem T6 {CX:ZQ}{P:Program}{w:World}{K:Frag}{mg:Str→Option Value}{base:Heap}{k:Nat}{f:Addr}{name qual:Str}{params:Arguments}{body:List Stmt}{scope:Scope}{dV kV doc pm cdv ct oc:Value}{an od:Option Addr}
 {osl:Array (Option Value)} {N ps:List Str} {sp:Sp} (lk:K.lookup f=some ⟨oc,od,.func (PySem.W.fnOf name qual params body scope dV kV doc pm an cdv ct),osl⟩) (hcd:PySem.W.codeIn K cdv qual=true) (S:FS_ N ps scope)
 (len:∀vs H Q E,sp vs H Q E→vs.length=ps.length)
 (hbody:∀(A:Around) (outer:List Env) (s:Shared) (H:Hp) (vs:List V) (Q:VK) (E:XK),Room k (A.deeper (envOfC qual scope s.heap.objs.size f cdv))→sp vs H Q E →
  ∃t,kI (kR CX P w K mg base N qual scope f cdv A outer s H E) body t∧t {nx:=fun _ H'=>Q .non H',rt:=Q} (zy N vs) H) :
 FnOk P w K mg base CX (k+1) f (PySem.W.fnOf name qual params body scope dV kV doc pm an cdv ct) ps sp:=by
 refine⟨len,fun A outer s H args us vs Q E hr e0 hb r hsp=>?_⟩;have hl:=len _ _ _ _ hsp;have KX:K.In s.heap:=e0.mod.kin.keeps fun b o e=>(e0.bs b o e).1;have lim:s.heap.NoLimit:=e0.mod.nolimit.keeps fun b o e=>(e0.bs b o e).1
 have hkind:∀y∈ps.zip us,scope.names.lookup y.1=some .local∨(scope.names.lookup y.1=some .cell∧((cellsFrom (s.heap.objs.size+1) scope.names []).lookup y.1).isSome=true):=fun⟨n,v⟩ hy=>by
  rcases S.par n (List.of_mem_zip hy).1 with q|q
  ·exact .inl q
  ·exact .inr ⟨q,PySem.W.cellsFrom_some _ _ _ (.inl q)⟩
 refine codeAny_call_function hr.depth (KX _ _ lk) rfl S.co S.gen rfl (PySem.W.codeRec_of KX hcd) (hb _ _ _ _ ?_);refine wpAny_newFunctionEnv_cells S.kind hkind fun env he s1 x=>?_;subst he;refine⟨lim.keeps x.toInCall.keep,codeAny_func ?_⟩;obtain⟨t,ht,hq⟩:=hbody A outer s H vs Q E (hr.deeper _) hsp;have I:Inv (kR CX P w K mg base N qual scope f cdv A outer s H E) [] (zy N vs) H s1:=Xu S hr.hd e0 hl r x;refine saR (ht [] s1 (zy N vs) H _ I hq) (fun fl s' hs=>?_) fun e s' hs=>hs
 have fin:∀{σ':St} {H':Hp} {v:V} {u:Value},Inv (kR CX P w K mg base N qual scope f cdv A outer s H E) [] σ' H' s'→yS v u→Q v H'→CE outer P w H s Q u s' :=
  fun {σ' H' v u} J rv q=>⟨v,H',J.os,J.bare,J.base,J.hok,rv,q⟩
 cases fl with
 | ret u=>
   obtain⟨v,σ',H',J,rv,q⟩:=hs;exact fin J rv q
 | next=>
   obtain⟨σ',H',J,q⟩:=hs;exact fin (v:=V.non) (u:=Value.none) J rfl q
 | brk=>
   obtain⟨_,_,_,q⟩:=hs;exact False.elim q
 | cont=>
   obtain⟨_,_,_,q⟩:=hs;exact False.elim q
section
variable {X:Cx}{x:Str}{p pos:Pos}{e:Expr}{es:List Expr}{t:TA}{id T:String}{r:List V→Hp→VK→Prop}
noncomputable def RJ (r:List V→Hp→VK→Prop)(t:TA):TE:=fun σ H Q=>t σ H fun vs H1=>r vs H1 Q
theorem ux (hc:rP X (.builtin id) r)(hg:Gl X x)(hm:X.mg x=none)(hv:bootBuiltins x=some (.builtin id))(ha:PA X (e::es) t)(hn:x ≠ "__name__" :=by decide) (hdb:(x == ("__debug__" : Str))=false:=by decide)
 (he:starEach (e::es) X.env=(false,eval e X.env)::starEach es X.env:=by rfl) (hpl:(backTo pos (starEach es X.env)).any (·.1)=false:=by rfl):PE X (.Call (.Name x p) (e::es) [] pos) (RJ r t):=by
 intro pins s σ H Q I h;refine sbB (sR I hg hm hv ?_ hn hdb);exact PyProof.Rows.callWith_builtin1 (xU (ha pos pins s σ H _ I h) fun us s1 ⟨vs,H1,I1,r1,q1⟩=>hc pins s1 σ H1 vs us Q I1 r1 q1) he hpl
theorem fx (hc:rP X (.type T) r)(hg:Gl X x)(hm:X.mg x=none)(hv:bootBuiltins x=some (.type T))(ha:PA X (e::es) t)(hn:x ≠ "__name__" :=by decide) (hdb:(x == ("__debug__" : Str))=false:=by decide)
 (he:starEach (e::es) X.env=(false,eval e X.env)::starEach es X.env:=by rfl) (hpl:(backTo pos (starEach es X.env)).any (·.1)=false:=by rfl):PE X (.Call (.Name x p) (e::es) [] pos) (RJ r t):=by
 intro pins s σ H Q I h;refine sbB (sR I hg hm hv ?_ hn hdb);exact sbd (xU (ha pos pins s σ H _ I h) fun us s1 ⟨vs,H1,I1,r1,q1⟩=>hc pins s1 σ H1 vs us Q I1 r1 q1) he hpl
end
end L2
namespace HT
open PySem PyProof.Rows
section
open PySem.SeqAt
open PySem.AutoSeq1 (wpAny_loadPart')
open PySem.MeetsSeq PySem.MeetsSeq2 PySem.MeetsSeq3
end
section
variable {prog:Program}{w:World}{A:Around}{E:Value→Shared→Prop}{s:Shared}
noncomputable def sIx (n d:Nat):Option Int→Nat
 |none=>d
 |some v=>if v<0 then(v+(n:Int)).toNat else min v.toNat n
theorem So (n d:Nat)(hd:d≤n)(o:Option Int):sIx n d o≤n:=by
 cases o with
 |none=>exact hd
 | some v=>
   show(if v<0 then(v+(n:Int)).toNat else min v.toNat n)≤n;by_cases hv:v<0
   ·rw[sak hv];lia
   ·rw[sal hv];exact Nat.min_le_right _ _
theorem YN (v:Int)(n d:Nat):(if v<0 then max (v+(n:Int)) 0 else min v (n:Int))=((sIx n d (some v):Nat):Int):=by
 show(if v<0 then max (v+(n:Int)) 0 else min v (n:Int))=(((if v<0 then(v+(n:Int)).toNat else min v.toNat n):Nat):Int)
 by_cases hv:v<0
 ·simp only[sak hv];lia
 ·simp only[sal hv];lia
theorem ZL (lo hi:Option Int)(n:Nat):Builtin.Slice.sliceAdjust lo hi 1 (n:Int)=(((sIx n 0 lo:Nat):Int),((sIx n n hi:Nat):Int)):=by
 have h1:¬((1:Int)<0):=by lia
 unfold Builtin.Slice.sliceAdjust;simp only[h1,if_false];refine Prod.ext ?_ ?_
 ·cases lo with
  |none=>rfl
  |some v=>exact YN v n 0
 ·cases hi with
  |none=>rfl
  |some v=>exact YN v n n
theorem aM (i j:Nat):Builtin.Slice.slicePlaces (i:Int) (j:Int) 1=j - i:=by
 unfold Builtin.Slice.slicePlaces;have h1:(1:Int)>0:=by lia
 simp only[h1,if_true,Int.ediv_one]
 split <;> lia
theorem jH {v:Value}{o:Option Int}{Q:Option Int→Shared→Prop}(p:IsPart v o)(h:Q o s):wpAny (model prog w) A (Builtin.Slice.slicePartIndex v) Q E s:=by
 cases p with
 |none=>exact slicePart_none h
 |int i t=>exact slicePart_int h
theorem mY {sl:Addr}{vl vu:Value}{lo hi:Option Int}{n:Nat}{Q:Int×Int×Nat→Shared→Prop}(hs:s.heap.IsSliceOf sl vl vu .none)(pl:IsPart vl lo)(pu:IsPart vu hi)
 (h:Q (((sIx n 0 lo:Nat):Int),1,sIx n n hi - sIx n 0 lo) s):wpAny (model prog w) A (Builtin.Slice.sliceApplied (.ref sl) (pure (n:Int))) Q E s:=by
 obtain⟨os,hos,hcs,hds⟩:=id hs;unfold Builtin.Slice.sliceApplied Builtin.Slice.sliceFields;refine saa (saa (sbo hos hds (x:=vl) rfl (saa (sbo hos hds (x:=vu) rfl (saa (sbo hos hds (x:=.none) rfl (sad ?_)))))));refine saa (slicePart_none ?_);show wpAny _ _ (if((1:Int) == 0)=true then _ else _) _ _ s;rw[sal (by decide)];refine saa (jH pl (saa (jH pu (saa (sad ?_)))));show wpAny _ _ (match Builtin.Slice.sliceAdjust lo hi 1 (n:Int)with|(lo,hi)=>pure (lo,(1:Int),Builtin.Slice.slicePlaces lo hi 1)) _ _ s;rw[ZL lo hi n];show wpAny _ _ (pure (((sIx n 0 lo:Nat):Int),(1:Int),Builtin.Slice.slicePlaces ((sIx n 0 lo:Nat):Int) ((sIx n n hi:Nat):Int) 1)) _ _ s;rw[aM];exact sad h
theorem W3 (xs:Array Value)(i k:Nat):((List.range k).filterMap fun(m:Nat)=>xs[((i:Int)+(m:Int)*1).toNat]?).toArray=((xs.toList.drop i).take k).toArray:=by
 have e:(fun(m:Nat)=>xs[((i:Int)+(m:Int)*1).toNat]?)=fun m=>xs[i+m]?:=by
  funext m
  have:((i:Int)+(m:Int)*1).toNat=i+m:=by lia
  rw[this]
 rw[e];have:=pick_run xs i k;rw[List.filterMap_map]at this;have e2:((fun x=>xs[x]?) ∘ fun x=>i+x)=fun m=>xs[i+m]?:=rfl;rw[e2]at this;rw[this]
theorem getItem_tuple_cut {t sl:Addr}{items:Array Value}{vl vu:Value}{lo hi:Option Int}{Q:Value→Shared→Prop}(ht:IsTup s.heap t items)(hs:s.heap.IsSliceOf sl vl vu .none)(pl:IsPart vl lo)(pu:IsPart vu hi)
 (hw:¬(sIx items.size 0 lo=0∧sIx items.size items.size hi=items.size))
 (h:Q (.ref s.heap.objs.size) {s with heap:=s.heap.push {cls:=.type "tuple",data:=.seq ((items.toList.drop (sIx items.size 0 lo)).take (sIx items.size items.size hi - sIx items.size 0 lo)).toArray}})
 (hsz:items.size≤sizeLine):wpAny (model prog w) A (getItem (.ref t) (.ref sl)) Q E s:=by
 have htake:sizeOk (.seq ((items.toList.drop (sIx items.size 0 lo)).take (sIx items.size items.size hi - sIx items.size 0 lo)).toArray):=by
  show((items.toList.drop (sIx items.size 0 lo)).take (sIx items.size items.size hi - sIx items.size 0 lo)).toArray.size≤sizeLine;rw[List.size_toArray,sbn,List.length_drop,Array.length_toList];lia
 have hj:sIx items.size items.size hi≤items.size:=So _ _ (Nat.le_refl _) hi;obtain⟨os,hos,hcs,hds⟩:=id hs
 have hTs:s.TypeIs (.ref sl) "slice" :=⟨os,hos,hcs⟩
 unfold getItem
 try with_reducible refine saM ?_
 first|refine saa (sad ?_)|skip
 refine saa (wpAny_sequenceKey ht.typeIs (by decide) ?_)
 refine saa (sbR (name:=Str.ofString "__getitem__") ht.typeIs PyProof.Rows.slot_tuple_getitem
  (sct PyProof.Rows.slot_tuple_getitem ht.typeIs entry_tuple_getitem ?_ (args_tuple_getitem _ _)))
 show wpAny _ _ (Builtin.Tuple.tupleItemsOf (.ref t) >>= _) _ _ s;refine saa (tupleItemsOf_ ht ?_);refine saa (wpAny_typeOf hTs ?_);rw[sak (by decide)];refine saa (mY hs pl pu ?_)
 have hno:¬((((sIx items.size 0 lo:Nat):Int) == 0&&(1:Int) == 1&&(sIx items.size items.size hi - sIx items.size 0 lo) == items.size)=true):=by
  intro q;rw[saS,saS]at q;have q1:((sIx items.size 0 lo:Nat):Int)=0:=eq_of_beq q.1.1;have q2:sIx items.size items.size hi - sIx items.size 0 lo=items.size:=eq_of_beq q.2;exact hw ⟨by lia,by lia⟩
 show wpAny _ _ (if(((sIx items.size 0 lo:Nat):Int) == 0&&(1:Int) == 1&&(sIx items.size items.size hi - sIx items.size 0 lo) == items.size)=true then _ else _) _ _ s;rw[sal hno,W3]
 first
  |exact saa (m:=Builtin.Tuple.tupleExact _) (sck (sad ⟨_,rfl,sad h⟩) htake)
  |exact saa (m:=Builtin.Tuple.tupleExact _) (sck (saa (sad (sad ⟨_,rfl,sad h⟩))) htake)
  |exact saa (saa (m:=Builtin.Tuple.tupleExact _) (sck (sad (sad ⟨_,rfl,sad h⟩)) htake))
  |exact saa (saa (m:=Builtin.Tuple.tupleExact _) (sck (sad ⟨_,rfl,sad h⟩) htake))
end
end HT
namespace L2
open PySem PySem.Spec PyProof.Rows
noncomputable abbrev TO:=St→Hp→(Option Int→Hp→Prop)→Prop
noncomputable def PO (X:Cx)(e:Option Expr)(t:TO):Prop :=
 ∀ (pins:List (Addr×Obj)) (s:Shared) (σ:St) (H:Hp) (Q:Option Int→Hp→Prop),Inv X pins σ H s→t σ H Q →
   wpAny (model X.prog X.w) X.A (evalPart e X.env) (fun u s'=>∃o H',Inv X pins σ H' s'∧IsPart u o∧Q o H') X.xe s
noncomputable def Ux:TO:=fun _ H Q=>Q none H
noncomputable def RP (t:TE):TO:=fun σ H Q=>t σ H fun x H1=>∃i,x=.int i∧Q (some i) H1
theorem iA {ns:List Int}:∀{us:List Value},ym (ns.map V.int) us→IntsAre us ns:=by
 induction ns with
 |nil=>intro us r;rw[List.map_nil]at r;cases r;exact .nil
 | cons n ns ih=>
   intro us r;rw[List.map_cons]at r
   cases r with
   | cons r1 r2=>
     obtain⟨t,e⟩:=r1;subst e;exact .cons n t (ih r2)
section
variable {X:Cx}{e:Expr}{te:TE}{lo hi:Option Expr}{tl th:TO}{pos p2:Pos}
theorem UM:PO X none Ux:=by
 intro pins s σ H Q I h;rw[evalPart_none];exact sad ⟨none,H,I,.none,h⟩
theorem UL (h:PE X e te):PO X (some e) (RP te):=by
 intro pins s σ H Q I hw;rw[evalPart_some];refine xU (h pins s σ H _ I hw) fun u s1 ⟨x,H1,I1,r1,q1⟩=>?_;obtain⟨i,rfl,q⟩:=q1;obtain⟨t,rfl⟩:=r1;exact⟨some i,H1,I1,.int i t,q⟩
noncomputable def RC (X:Cx)(r:V→Option Int→Option Int→Hp→VK→Prop):Prop :=
 ∀ (pins:List (Addr×Obj)) (s:Shared) (σ:St) (H:Hp) (x:V) (v vl vu:Value) (lo hi:Option Int) (sl:Addr) (Q:VK),Inv X pins σ H s→yS x v→s.heap.IsSliceOf sl vl vu .none→IsPart vl lo→IsPart vu hi→r x lo hi H Q →
   ∃T id,typeLookup (.type T) "__getitem__" = pure (some (.builtin id))∧s.TypeIs v T∧wpAny (model X.prog X.w) X.A (getItem v (.ref sl)) (EP X pins σ Q) X.xe s
theorem RC.or {r r':V→Option Int→Option Int→Hp→VK→Prop}(h:RC X r)(h':RC X r'):RC X (fun x lo hi H Q=>r x lo hi H Q∨r' x lo hi H Q):=by
 intro pins s σ H x v vl vu lo hi sl Q I rx hs pl pu q
 rcases q with q|q
 ·exact h pins s σ H x v vl vu lo hi sl Q I rx hs pl pu q
 ·exact h' pins s σ H x v vl vu lo hi sl Q I rx hs pl pu q
noncomputable def On (r:V→Option Int→Option Int→Hp→VK→Prop)(te:TE)(tl th:TO):TE:=fun σ H Q=>te σ H fun x H1=>tl σ H1 fun l H2=>th σ H2 fun u H3=>r x l u H3 Q
theorem W5 {r:V→Option Int→Option Int→Hp→VK→Prop}(hr:RC X r)(he:PE X e te)(hl:PO X lo tl)(hu:PO X hi th):PE X (.Subscript e (.Slice lo hi none p2) pos) (On r te tl th):=by
 intro pins s σ H Q I h;refine Subscript_ (xU (he pins s σ H _ I h) fun v s1 ⟨x,H1,I1,r1,q1⟩=>?_);refine wpAny_Slice (xU (hl pins s1 σ H1 _ I1 q1) fun vl s2 ⟨l,H2,I2,pl,q2⟩=>xU (hu pins s2 σ H2 _ I2 q2) fun vu s3 ⟨u,H3,I3,pu,q3⟩=>?_);rw[evalPart_none];refine sad ?_;have I4:Inv X pins σ H3 {s3 with heap:=s3.heap.push {cls:=.type "slice",data:=.fields #[vl,vu,.none]}}:=I3.kept (t':=s3.toks) fun b ob q=>sab _ q;obtain⟨T,id,hT,ht,hg⟩:=hr pins {s3 with heap:=s3.heap.push {cls:=.type "slice",data:=.fields #[vl,vu,.none]}} σ H3 x v vl vu l u s3.heap.objs.size Q I4 r1 (Heap.IsSliceOf.new ..) pl pu q3;show wpAny (model X.prog X.w) X.A (subscriptTail e (.Slice lo hi none p2) v (.ref s3.heap.objs.size)) (EP X pins σ Q) X.xe {s3 with heap:=s3.heap.push {cls:=.type "slice",data:=.fields #[vl,vu,.none]}};exact tail_any (ops:=[.ref s3.heap.objs.size,v]) ht hT hg (by with_unfolding_all rfl)
noncomputable def gz (xs:List V)(lo hi:Option Int):List V:=(xs.drop (HT.sIx xs.length 0 lo)).take (HT.sIx xs.length xs.length hi - HT.sIx xs.length 0 lo)
theorem kz (xs:List V)(lo hi:Option Int):(gz xs lo hi).length≤xs.length:=by
 unfold gz;rw[sbn,List.length_drop];lia
noncomputable def Ph (K:Frag):V→Option Int→Option Int→Hp→VK→Prop:=fun x lo hi H Q=>∃a xs,x=.ref a∧av K H a xs ∧
 ¬(HT.sIx xs.length 0 lo=0∧HT.sIx xs.length xs.length hi=xs.length)∧∀p,H p=none→Q (.ref p) (yo H p (.tup (gz xs lo hi)))
theorem Sn:RC X (Ph X.K):=by
 intro pins s σ H x v vl vu lo hi sl Q I rx hs pl pu h;obtain⟨a,xs,rfl,hx,hw,q⟩:=h;cases rx;obtain⟨its,r,ht,hz⟩:=I.tuple hx;have hlen:its.toArray.size=xs.length:=by rw[List.size_toArray];exact r.length.symm
 refine⟨"tuple",_,PyProof.Rows.slot_tuple_getitem.lookup,ht.typeIs,?_⟩;refine HT.getItem_tuple_cut ht hs pl pu (by rw[hlen];exact hw) ?_ (by rw[hlen];exact hz);rw[hlen];refine⟨.ref s.heap.objs.size,_,I.laid (t':=s.toks) (o:=.tup (gz xs lo hi)) (fun b ob q=>sab _ q) (Nat.le_refl _) ?_,rfl,q _ (I.hok.fresh (Nat.le_refl _))⟩;exact⟨sbq (kz xs lo hi) hz,_,(r.drop (HT.sIx xs.length 0 lo)).take (HT.sIx xs.length xs.length hi - HT.sIx xs.length 0 lo),IsTup.new _ _⟩
end
noncomputable def U_ (n:Nat)(i:Int):Option Nat:=if 0≤i then(if i<n then some i.toNat else none)else if -(n:Int)≤i then some (i+n).toNat else none
noncomputable def sZ {α:Type}(xs:List α)(i:Int):Option α:=(U_ xs.length i).bind fun j=>xs[j]?
theorem U9 {n:Nat}{i:Int}{j:Nat}(h:U_ n i=some j):seqIndex? i n=some j∧j<n ∧ -(n:Int)≤i∧i<n:=by
 unfold U_ at h;by_cases h0:0≤i
 ·rw[sak h0]at h;by_cases h1:i<n
  ·rw[sak h1]at h;have e:i.toNat=j:=saE h;exact⟨by rw[seqIndex_of h0 h1,e],by lia,by lia,h1⟩
  ·rw[sal h1]at h;cases h
 ·rw[sal h0]at h;by_cases h1 : -(n:Int)≤i
  ·rw[sak h1]at h;have e:(i+n).toNat=j:=saE h;exact⟨by rw[seqIndex_neg (by lia) h1,e],by lia,h1,by lia⟩
  ·rw[sal h1]at h;cases h
theorem cn {α:Type}{xs:List α}{i:Int}{v:α}(h:sZ xs i=some v):∃j,seqIndex? i xs.length=some j∧xs[j]?=some v∧j<xs.length ∧ -(xs.length:Int)≤i∧i<xs.length:=by
 unfold sZ at h
 cases e:U_ xs.length i with
 |none=>rw[e]at h;cases h
 | some j=>
   rw[e]at h;obtain⟨h1,h2,h3,h4⟩:=U9 e;exact⟨j,h1,h,h2,h3,h4⟩
noncomputable def cx (b:Expr):Prop:=∀o i,subscripted b false o i=operate [o,i] (getItem o i)
noncomputable def Uk (X:Cx)(r:R2):Prop :=
 ∀ (value slice:Expr) (pins:List (Addr×Obj)) (s:Shared) (σ:St) (H:Hp) (x y:V) (v u:Value) (Q:VK),Inv X pins σ H s→yS x v→yS y u→r x y H Q →
   subscripted slice false v u=operate [v,u] (getItem v u)→wpAny (model X.prog X.w) X.A (subscriptTail value slice v u) (EP X pins σ Q) X.xe s
noncomputable def Q6 (X:Cx)(id:String)(r:V→List V→Hp→VK→Prop):Prop :=
 ∀ (pins:List (Addr×Obj)) (s:Shared) (σ:St) (H:Hp) (x:V) (xs:List V) (v:Value) (us:List Value) (Q:VK),Inv X pins σ H s→yS x v→ym xs us→r x xs H Q →
   wpAny (model X.prog X.w) X.A (call (.builtin id) (v::us)) (EP X pins σ Q) X.xe s
section
variable {X:Cx}{a b:Expr}{ta tb:TE}{pos:Pos}
theorem Uk.or {r r':R2}(h:Uk X r)(h':Uk X r'):Uk X (fun x y H Q=>r x y H Q∨r' x y H Q):=by
 intro value slice pins s σ H x y v u Q I rx ry q hs
 rcases q with q|q
 ·exact h value slice pins s σ H x y v u Q I rx ry q hs
 ·exact h' value slice pins s σ H x y v u Q I rx ry q hs
theorem Qc {r:R2}(hr:Uk X r)(ha:PE X a ta)(hb:PE X b tb)(hs:cx b):PE X (.Subscript a b pos) (Y0 r ta tb):=by
 intro pins s σ H Q I h;exact Subscript_ (Ry ha hb I h fun v u s2 x y H2 I2 rx ry q=>hr a b pins s2 σ H2 x y v u Q I2 rx ry q (hs _ _))
noncomputable def Sy (K:Frag):R2:=fun x y H Q=>∃p xs i v,x=.ref p∧y=.int i∧wx K H p xs∧sZ xs i=some v∧Q v H
noncomputable def Sw (K:Frag):R2:=fun x y H Q=>∃p xs i v,x=.ref p∧y=.int i∧av K H p xs∧sZ xs i=some v∧Q v H
noncomputable def Sx:R2:=fun x y H Q=>∃z i c,x=.str z∧y=.int i∧z.length≤sizeLine∧sZ z.cps.toList i=some c∧Q (.str ⟨#[c]⟩) H
theorem U8:Uk X (Sy X.K):=by
 intro value slice pins s σ H x y v u Q I rx ry h hs;obtain⟨p,xs,i,z,rfl,rfl,hq,he,q⟩:=h;cases rx;obtain⟨t,rfl⟩:=ry;obtain⟨its,r,pl,hz⟩:=I.list hq;obtain⟨j,h1,h2,h3,h4,h5⟩:=cn he;obtain⟨w,ew,rw'⟩:=r.get h2;have hl:=r.length;have hn:=iu
 have fin:EP X pins σ Q w s:=⟨z,H,I,rw',q⟩
 by_cases h0:0≤i
 ·have hj:i.toNat=j:=by
   rw[seqIndex_of h0 h5]at h1;exact saE h1
  exact item_listR pl.isList h0 (by lia) (by rw[hj];simpa using ew) fin hs
 ·have hj:(i+(its.toArray.size:Int)).toNat=j:=by
   rw[seqIndex_neg (by lia) h4]at h1;rw[List.size_toArray,←hl];exact saE h1
  exact subscriptTail_builtinR (x:=w) pl.isList.typeIs slot_list_getitem.lookup
   (wpAny_getItem_list_neg (Q:=fun r s'=>r=w∧EP X pins σ Q r s') pl.isList (by lia) (by rw[List.size_toArray] <;> lia) (by lia) (by rw[hj];simpa using ew) ⟨rfl,fin⟩) hs
theorem S1:Uk X (Sw X.K):=by
 intro value slice pins s σ H x y v u Q I rx ry h hs;obtain⟨p,xs,i,z,rfl,rfl,hq,he,q⟩:=h;cases rx;obtain⟨t,rfl⟩:=ry;obtain⟨its,r,pl,hz⟩:=I.tuple hq;obtain⟨j,h1,h2,h3,h4,h5⟩:=cn he;obtain⟨w,ew,rw'⟩:=r.get h2;have hl:=r.length;have hn:=iu
 have fin:EP X pins σ Q w s:=⟨z,H,I,rw',q⟩
 exact subscriptTail_builtinR (x:=w) pl.typeIs slot_tuple_getitem.lookup
  (getItem_tuple (j:=j) (Q:=fun r s'=>r=w∧EP X pins σ Q r s') pl (by lia) (by lia) (by rw[List.size_toArray,←hl];exact h1) (by simpa using ew) ⟨rfl,fin⟩) hs
theorem S3:Uk X Sx:=by
 intro value slice pins s σ H x y v u Q I rx ry h hs;obtain⟨z,i,c,rfl,rfl,hz,he,q⟩:=h;obtain⟨t,rfl⟩:=rx;obtain⟨t',rfl⟩:=ry;obtain⟨j,h1,h2,h3,h4,h5⟩:=cn he;have hl:z.cps.toList.length=z.length:=by simp[Str.length]
 rw[hl]at h1 h4 h5;have hn:=iu
 exact tail_any (typeIs_str s z t) slot_str_getitem.lookup (getItem_str (c:=c) (by
  have e1:decide (i < -(2^63:Int))=false:=saB (by lia);have e2:decide (i≥2^63)=false:=saB (by lia)
  rw[e1,e2,Bool.or_false]) (by rw[h1];simpa using h2) ⟨.str ⟨#[c]⟩,H,I.tok _,⟨_,rfl⟩,q⟩) hs
noncomputable def Os (K:Frag):R2:=fun x y H Q=>Sy K x y H Q∨Sw K x y H Q∨Sx x y H Q
theorem S4:Uk X (Os X.K):=U8.or (S1.or S3)
theorem eF (lo hi:Option Int)(n:Nat):(sliceBounds lo hi none n).1=((HT.sIx n 0 lo:Nat):Int)∧(sliceBounds lo hi none n).2.1=((HT.sIx n n hi:Nat):Int)∧(sliceBounds lo hi none n).2.2=1:=by
 refine⟨?_,?_,rfl⟩
 ·cases lo with
  |none=>simp[sliceBounds,HT.sIx]
  | some i=>
    simp only[sliceBounds,HT.sIx,Option.getD_none,show(1:Int)>0 by decide,if_true];by_cases h:i<0
    ·simp only[h,if_true] <;> lia
    ·simp only[h,if_false] <;> lia
 ·cases hi with
  |none=>simp[sliceBounds,HT.sIx]
  | some i=>
    simp only[sliceBounds,HT.sIx,Option.getD_none,show(1:Int)>0 by decide,if_true];by_cases h:i<0
    ·simp only[h,if_true] <;> lia
    ·simp only[h,if_false] <;> lia
theorem gd (its:List Value)(lo hi:Option Int):slicePick its.toArray lo hi none=((its.drop (HT.sIx its.length 0 lo)).take (HT.sIx its.length its.length hi - HT.sIx its.length 0 lo)).toArray:=by
 obtain⟨h1,h2,h3⟩:=eF lo hi its.toArray.size;unfold slicePick;rw[h1,h2,h3]
 simp only[sliceRange_one,pick_run,List.size_toArray] <;> rfl
noncomputable def Pj (K:Frag):V→Option Int→Option Int→Hp→VK→Prop:=fun x lo hi H Q=>∃a xs,x=.ref a∧wx K H a xs∧∀p,H p=none→Q (.ref p) (yo H p (.l (gz xs lo hi)))
theorem UA:RC X (Pj X.K):=by
 intro pins s σ H x v vl vu lo hi sl Q I rx hs pl pu h;obtain⟨a,xs,rfl,hx,q⟩:=h;cases rx;obtain⟨its,r,ht,hz⟩:=I.list hx;have hlen:=r.length;refine⟨"list",_,slot_list_getitem.lookup,ht.isList.typeIs,?_⟩;refine wpAny_getItem_list_slice ht.isList hs pl pu .none (by simp) ?_ (by rw[List.size_toArray] <;> lia);rw[gd,←hlen];refine⟨.ref s.heap.objs.size,_,I.laid (t':=s.toks) (o:=.l (gz xs lo hi)) (fun b ob q=>sab _ q) (Nat.le_refl _) ?_,rfl,q _ (I.hok.fresh (Nat.le_refl _))⟩;exact⟨sbq (kz xs lo hi) hz,_,0,(r.drop (HT.sIx xs.length 0 lo)).take (HT.sIx xs.length xs.length hi - HT.sIx xs.length 0 lo),saq _ rfl⟩
theorem zZ:rP X (.builtin "len") (fun xs H Q=>∃p ys,xs=[.ref p]∧(wx X.K H p ys∨av X.K H p ys)∧Q (.int ys.length) H):=by
 intro pins s σ H xs us Q I r h;obtain⟨p,ys,rfl,hq,q⟩:=h;obtain⟨u,rfl,rx⟩:=q8 r;cases rx;have hn:=iu
 rcases hq with hq|hq
 ·obtain⟨its,r',pl,hz⟩:=I.list hq;have hlen:=r'.length;exact Calls.call_len_list pl.isList (by simp only[List.size_toArray] <;> lia) ⟨.int ys.length,H,I.tok _,⟨s.toks+1,by rw[List.size_toArray,hlen]⟩,q⟩
 ·obtain⟨its,r',pl,hz⟩:=I.tuple hq;have hlen:=r'.length;exact len_tuple pl (by simp only[List.size_toArray] <;> lia) ⟨.int ys.length,H,I.tok _,⟨s.toks+1,by rw[List.size_toArray,hlen]⟩,q⟩
noncomputable def Pc (K:Frag)(T:String)(x:V)(H:Hp):Prop:=match x with
 | .str _=>T = "str"
 | .int _=>T = "int"
 | .ref p=>(T = "list" ∧ ∃xs,wx K H p xs)∨(T = "tuple" ∧ ∃o,K.lookup p=some o∧o.cls=.type "tuple" ∧ o.dict=none) ∨
  (T = "dict" ∧ ((∃kvs,H p=some (.dK kvs))∨∃kvs,H p=some (.dT kvs)))∨(T = "set" ∧ ∃S n,H p=some (.set S n))
 |_=>False
theorem Wq {pins:List (Addr×Obj)}{σ:St}{H:Hp}{s:Shared}{T:String}{x:V}{v:Value}(I:Inv X pins σ H s)(r:yS x v)(ty:Pc X.K T x H) :
 s.TypeIs v T∧∀a,v=.ref a→∃ob,s.heap.get? a=some ob∧ob.dict=none:=by
 cases x with
 | str z=>
   obtain⟨t,rfl⟩:=r;cases(show T = "str" from ty);exact⟨typeIs_str s z t,fun _ e=>nomatch e⟩
 | int i=>
   obtain⟨t,rfl⟩:=r;cases(show T = "int" from ty);exact⟨typeIs_int s i t,fun _ e=>nomatch e⟩
 | ref p=>
   cases r
   rcases ty with⟨rfl,xs,hq⟩|⟨rfl,o,hk,hc,hd⟩|⟨rfl,hk⟩|⟨rfl,S,n,hk⟩
   ·obtain⟨its,_,pl,_⟩:=I.list hq;refine⟨pl.isList.typeIs,fun a e=>?_⟩;cases e;obtain⟨o,n,e,c,hd,_⟩:=pl;exact⟨o,e,hd⟩
   ·refine⟨⟨o,I.kIn p o hk,hc⟩,fun a e=>?_⟩;cases e;exact⟨o,I.kIn _ o hk,hd⟩
   ·have z:∃o,s.heap.get? p=some o∧o.ExactDict:=by
     rcases hk with⟨kvs,hk⟩|⟨kvs,hk⟩
     ·obtain⟨_,_,_,_,o,_,_,e,ex,_⟩:=I.hok p _ hk;exact⟨o,e,ex⟩
     ·obtain⟨_,_,_,_,o,_,_,e,ex,_⟩:=I.hok p _ hk;exact⟨o,e,ex⟩
    obtain⟨o,e,ex⟩:=z;refine⟨⟨o,e,ex.1⟩,fun a e2=>?_⟩;cases e2;exact⟨o,e,ex.2.1⟩
   ·obtain⟨o,_,_,_,e,ex,_⟩:=I.hok p _ hk;refine⟨⟨o,e,ex.1⟩,fun a e2=>?_⟩;cases e2;exact⟨o,e,ex.2.1⟩
 |_=>exact False.elim ty
noncomputable def RV (K:Frag)(T:String)(r:V→List V→Hp→VK→Prop)(to:TE):TE:=fun σ H Q=>to σ H fun x H1=>Pc K T x H1∧r x [] H1 Q
noncomputable def RK (K:Frag)(T:String)(r:V→List V→Hp→VK→Prop)(to:TE)(t:TA):TE:=fun σ H Q=>to σ H fun x H1=>Pc K T x H1∧t σ H1 fun xs H2=>r x xs H2 Q
variable {o e:Expr}{es:List Expr}{to:TE}{t:TA}{name:Str}{apos cpos:Pos}{T id:String}{r:V→List V→Hp→VK→Prop}
theorem aQ (pa:PlainAttrs T)(slot:Slot T name id)(hty:typeOf (.builtin id)=pure (.type "method_descriptor")) (hm:Q6 X id r) (ho:PE X o to)
 (hbase:attributeBase o name X.env (eval o X.env)=eval o X.env:=by rfl) (hline:(apos.endLine == cpos.line)=true:=by rfl):PE X (.Call (.Attribute o name apos) [] [] cpos) (RV X.K T r to):=by
 intro pins s σ H Q I h;refine wpAny_Call_method0_late hbase hline (xU (ho pins s σ H _ I h) fun v s1 ⟨x,H1,I1,r1,ty,q1⟩=>?_);obtain⟨h1,h2⟩:=Wq I1 r1 ty;exact⟨T,id,pa,slot,hty,h1,h2,Calls.callWith_builtin rfl (PySem.evalArgs_none (hm pins s1 σ H1 x [] v [] Q I1 r1 .nil q1))⟩
theorem bp (pa:PlainAttrs T)(slot:Slot T name id)(hty:typeOf (.builtin id)=pure (.type "method_descriptor")) (hm:Q6 X id r) (ho:PE X o to) (ha:PA X (e::es) t)
 (hbase:attributeBase o name X.env (eval o X.env)=eval o X.env:=by rfl)
 (hfew:((backTo cpos (starEach (e::es) X.env)).all (fun x=> !x.1)&&(backToKw cpos (keywordEach [] X.env)).all (fun x=>x.1.isSome)
  && decide ((e::es).length+([]:List Keyword).length+(if([]:List Keyword).isEmpty then 0 else 1)<30))=true:=by rfl)
 (hline:(apos.endLine == cpos.line)=true:=by rfl) (hs:starEach (e::es) X.env=(false,eval e X.env)::starEach es X.env:=by rfl) (hplain:(backTo cpos (starEach es X.env)).any (·.1)=false:=by rfl) :
 PE X (.Call (.Attribute o name apos) (e::es) [] cpos) (RK X.K T r to t):=by
 intro pins s σ H Q I h;refine wpAny_Call_method_late hbase hfew hline rfl (xU (ho pins s σ H _ I h) fun v s1 ⟨x,H1,I1,r1,ty,q1⟩=>?_);obtain⟨h1,h2⟩:=Wq I1 r1 ty;refine⟨T,id,pa,slot,hty,h1,h2,?_⟩;have hA:=ha cpos pins s1 σ H1 _ I1 q1;rw[hs]at hA ⊢;refine Calls.callWith_builtin (by show(false ||(backTo cpos (starEach es X.env)).any (·.1))=false;rw[hplain] <;> rfl) (Calls.evalArgs_plain ?_);exact xU hA fun us s2 ⟨vs,H2,I2,r2,q2⟩=>hm pins s2 σ H2 x vs v us Q I2 r1 r2 q2
end
noncomputable def PQ (X:Cx)(id:String)(r:V→List V→Hp→VK→Prop):Prop :=
 ∀ (pins:List (Addr×Obj)) (s:Shared) (σ:St) (H:Hp) (x:V) (xs:List V) (v:Value) (us:List Value) (Q:VK),Inv X pins σ H s→yS x v→ym xs us→r x xs H Q →
   wpAny (model X.prog X.w) X.A (call (.builtin id) (v::us)) (EP X pins σ Q) X.xe s
theorem ym.one:∀{x:V} {us:List Value},ym [x] us→∃u,us=[u]∧yS x u
 |_,_,.cons r .nil=>⟨_,rfl,r⟩
theorem ym.zero:∀{us:List Value},ym [] us→us=[]
 |_,.nil=>rfl
theorem ym.dropLast {xs:List V}{us:List Value}(h:ym xs us):ym xs.dropLast us.dropLast:=by
 induction h with
 |nil=>exact .nil
 | cons r t ih=>
   cases t with
   |nil=>exact .nil
   |cons q t'=>exact .cons r ih
theorem Zx {α:Type}(l:List α):l.eraseIdx (l.length - 1)=l.dropLast:=by
 induction l with
 |nil=>rfl
 | cons a r ih=>
   cases r with
   |nil=>rfl
   | cons b r=>
     have e:(a::b::r).length - 1=((b::r).length - 1)+1:=by
      have h1:(a::b::r).length=r.length+2:=rfl;have h2:(b::r).length=r.length+1:=rfl;lia
     rw[e,List.eraseIdx_cons_succ,ih]
     all_goals rfl
section
variable {X:Cx}{pins:List (Addr×Obj)}{σ:St}{H:Hp}{s:Shared}{l b:Addr}{xs ys zs:List V}
theorem Inv.lset {its its':List Value}{n:Nat}{f:Array Value→Array Value}{t':Nat}(I:Inv X pins σ H s)(hH:H l=some (.l xs))
 (e:s.heap.get? l=some {cls:=.type "list",data:=.seq its.toArray n}) (hf:f its.toArray=its'.toArray) (hv:ym ys its') (hz:ys.length≤sizeLine) :
 Inv X pins σ (yo H l (.l ys)) {s with heap:=s.heap.update l (Obj.mapSeq f),toks:=t'}:=by
 have q:=PySem.IsL.update e f;rw[hf]at q;refine I.write (x:=l) (e:=l) (by rw[hH];exact trivial) (.inl rfl) (fun b' u hb hu=>(saG s.heap (Obj.mapSeq f) (sce hb)).trans hu) ⟨_,q⟩ ?_;exact⟨hz,its',_,hv,q⟩
theorem Inv.lnew {its:List Value}{t':Nat}(I:Inv X pins σ H s)(hv:ym ys its)(hz:ys.length≤sizeLine) :
 Inv X pins σ (yo H s.heap.objs.size (.l ys)) {s with heap:=s.heap.push {cls:=.type "list",data:=.seq its.toArray},toks:=t'} :=
 I.laid (fun _ _ q=>sab _ q) (Nat.le_refl _) ⟨hz,its,0,hv,saq _ rfl⟩
theorem Inv.fresh (I:Inv X pins σ H s):H s.heap.objs.size=none:=I.hok.fresh (Nat.le_refl _)
theorem Inv.lstM (I:Inv X pins σ H s)(hH:H l=some (.l xs)):xs.length≤sizeLine∧∃(its:List Value) (n:Nat),ym xs its∧xs.length=its.length∧s.heap.get? l=some {cls:=.type "list",data:=.seq its.toArray n}:=by
 obtain⟨z,its,n,r,e⟩:=I.hok l _ hH;exact⟨z,its,n,r,r.length,e⟩
theorem Vb {n:Nat}(h:n≤sizeLine):Builtin.List.listTooLong n=false:=by
 unfold Builtin.List.listTooLong;exact saB (by lia)
end
section
variable {X:Cx}
noncomputable def eT:V→List V→Hp→VK→Prop:=fun x vs H Q=>∃l xs y,x=.ref l∧vs=[y]∧H l=some (.l xs)∧xs.length<sizeLine∧Q .non (yo H l (.l (xs++[y])))
theorem og:PQ X "list.append" eT:=by
 intro pins s σ H x vs v us Q I rx rv h;obtain⟨l,xs,y,rfl,rfl,hH,hz,q⟩:=h;cases rx;obtain⟨u,rfl,ru⟩:=rv.one;obtain⟨z,its,n,r,hl,e⟩:=I.lstM hH;refine call_meets F.slot_list_append ⟨_,e,rfl⟩ F.entry_list_append (F.args_list_append_2 _ _) (PySem.list_append l its.toArray n u (by rw[List.size_toArray];lia)) ⟨e,?_⟩;refine⟨.non,_,I.lset (its':=its++[u]) hH e (by simp) (r.append (.cons ru .nil)) ?_,rfl,q⟩;rw[saP,List.length_singleton];lia
noncomputable def Z_:V→List V→Hp→VK→Prop:=fun x vs H Q=>∃l b xs zs,x=.ref l∧vs=[.ref b]∧H l=some (.l xs)∧H b=some (.l zs)∧xs.length+zs.length≤sizeLine∧Q .non (yo H l (.l (xs++zs)))
theorem Xl:PQ X "list.extend" Z_:=by
 intro pins s σ H x vs v us Q I rx rv h;obtain⟨l,b,xs,zs,rfl,rfl,hH,hB,hz,q⟩:=h;cases rx;obtain⟨u,rfl,ru⟩:=rv.one;cases ru;obtain⟨z,its,n,r,hl,e⟩:=I.lstM hH;obtain⟨z2,its2,n2,r2,hl2,e2⟩:=I.lstM hB;have hsz:its.toArray.size+its2.toArray.size≤sizeLine:=by rw[List.size_toArray,List.size_toArray];lia
 have hlong:¬(!its.toArray.isEmpty&&Builtin.List.listTooLong (its.toArray.size+its2.toArray.size))=true:=by
  rw[Vb hsz,Bool.and_false];exact sai
 refine call_meets F.slot_list_extend ⟨_,e,rfl⟩ F.entry_list_extend (F.args_list_extend_2 _ _)
  (AutoSeq1.list_extend_list_list_0 l its.toArray n b its2.toArray n2 hlong (by rw[List.size_toArray];lia) (by lia)) ⟨e,e2,?_⟩
 refine⟨.non,_,I.lset (its':=its++its2) hH e (by simp) (r.append r2) ?_,rfl,q⟩;rw[saP];lia
noncomputable def Pk:V→List V→Hp→VK→Prop:=fun x vs H Q=>∃l xs y,x=.ref l∧vs=[]∧H l=some (.l xs)∧xs[xs.length - 1]?=some y∧Q y (yo H l (.l xs.dropLast))
theorem Vg:PQ X "list.pop" Pk:=by
 intro pins s σ H x vs v us Q I rx rv h;obtain⟨l,xs,y,rfl,rfl,hH,hy,q⟩:=h;cases rx;have hus:=rv.zero;subst hus;obtain⟨z,its,n,r,hl,e⟩:=I.lstM hH;obtain⟨u,hu,ru⟩:=r.get hy
 have hy':its.toArray[its.toArray.size - 1]?=some u:=by
  show its.toArray[its.length - 1]?=some u;rw[←saF,←hl];exact hu
 refine call_meets F.slot_list_pop ⟨_,e,rfl⟩ F.entry_list_pop (F.args_list_pop_1 _) (MeetsSeq.list_pop_last l its.toArray n u hy' (by rw[List.size_toArray];lia)) ⟨e,?_⟩;refine⟨y,_,I.lset (its':=its.dropLast) hH e ?_ r.dropLast ?_,ru,q⟩
 ·show its.toArray.eraseIdxIfInBounds (its.toArray.size - 1)=its.dropLast.toArray;rw[List.size_toArray,List.eraseIdxIfInBounds_toArray,Zx]
 ·rw[List.length_dropLast];lia
noncomputable def R8:R2:=fun x y H Q=>∃l b xs zs,x=.ref l∧y=.ref b∧H l=some (.l xs)∧H b=some (.l zs)∧xs.length+zs.length≤sizeLine∧∀p,H p=none→Q (.ref p) (yo H p (.l (xs++zs)))
theorem SN:ow X (binaryOp .Add) R8:=by
 intro pins s σ H x y v u Q I rx ry h;obtain⟨l,b,xs,zs,rfl,rfl,hH,hB,hz,q⟩:=h;cases rx;cases ry;obtain⟨z,its,n,r,hl,e⟩:=I.lstM hH;obtain⟨z2,its2,n2,r2,hl2,e2⟩:=I.lstM hB;refine PySem.P.add_list e e2 ?_ (by rw[List.size_toArray,List.size_toArray];lia);have ea:its.toArray++its2.toArray=(its++its2).toArray:=by simp
 rw[ea];exact⟨.ref _,_,I.lnew (t':=s.toks) (r.append r2) (by rw[saP];lia),rfl,q _ I.fresh⟩
end
section
variable {prog:Program}{w:World}{A:Around}{E:Value→Shared→Prop}{s:Shared}
end
section
variable {X:Cx}
end
end L2
namespace Att
open PySem PySem.W PySem.Calls PyProof.Rows
theorem kN {P:Params}{h:Heap}:∀(ns:List Int) (vs:List Value),WellAll P h vs (ns.map WData.int)→IntsAre vs ns:=by
 intro ns
 induction ns with
 | nil=>
   intro vs w;rw[List.map_nil]at w;cases w;exact .nil
 | cons n ns ih=>
   intro vs w;rw[List.map_cons]at w
   cases w with
   | cons a b=>
     cases a;exact .cons _ _ (ih _ b)
theorem Y3 {l:OpenLaw}{n:Nat}(hn:l.most=some n){P:Params}{h:Heap}{args:List WData}{vals:List Value}
 (hpre:l.row.toRowW.claim.pre args=true) (hwl:WellAll P h vals args) :
 ∃a vs ns,vals=[Value.ref a]∧args=[WData.list (ns.map WData.int)]∧h.get? a=some {cls:=.type "list",data:=.seq vs.toArray}∧IntsAre vs ns∧ns.length≤n:=by
 have hsh:WShape.hasAll [] args [.list .int]=true:=(pre_splitW hpre).1;have hc:l.pre.holds [] {args:=args}=true:=(pre_splitW hpre).2;obtain⟨d,r,rfl,h1,h2⟩:=hasAllW_cons hsh;obtain rfl:=hasAllW_nil h2;obtain⟨xs,rfl,h3⟩:=hasW_list h1;obtain⟨ns,rfl⟩:=items_int h3
 have hlen:ns.length≤n:=by
  unfold OpenLaw.pre at hc
  have h4:(WTm.not (.lt (.lit (.int (n:Int))) (.len (.arg 0)))).holds [] {args:=[.list (ns.map .int)]}=true:=by
   have h4:=(holds_andW hc).1;rw[hn]at h4;exact h4
  have h5:=condW_of h4 (w_not (w_lt w_lit (w_len_list (w_arg rfl))));rw[sac]at h5;refine Nat.le_of_not_lt fun q=>?_;have q':(n:Int)<((ns.length:Nat):Int):=by lia
  first
   |(rw[sap q']at h5;exact absurd h5 (by decide))
   |(simp at h5;lia)
 cases hwl with
 | cons w1 w2=>
   cases w2
   cases w1 with
   |list ho hall=>exact⟨_,_,ns,rfl,rfl,ho,kN ns _ hall,hlen⟩
theorem Xb (l:OpenLaw)(args:List WData):l.row.toRowW.claim.post args (.bool true) args=true :=
 postW_of (r:=l.row.toRowW) (X:=(true == true))
  (show WShape.has [] (.bool true) .bool=true by first|rfl|decide|simp[WShape.has,WShape.arms,WShape.armsAll])
  (show(WTm.eq .res (.lit (.bool true))).value [] {args:=args,res:=some (.bool true),after:=args}=some (.bool (true == true))from w_eq_bool (w_res rfl) w_lit) rfl
theorem attach_call {l:OpenLaw}{n:Nat}{q:Program}{loose:List Str}{XP:(Str→Option Value)→Heap→Prop}{YP:World→Heap→Prop}{d:DefRec}
 (hn:l.most=some n) (hdf:d.params.defaults=[])
 (call:∀(w:World) (s₀ s₁:Shared) (mg mb:Str→Option Value) (fa:Addr) (o:Obj) (pm cd doc:Value) (a:Addr) (vs:List Value) (ns:List Int),
  Ground q loose [] XP w s₀ mg mb s₁.heap→YP w s₁.heap →
  s₁.heap.get? fa=some o→o.data=.func (docDef d.name d.params d.body d.scope pm cd doc)→s₁.heap.CodeRec cd d.name→mg d.name=some (.ref fa) →
  s₁.heap.get? a=some {cls:=.type "list",data:=.seq vs.toArray}→IntsAre vs ns→ns.length≤n→s₁.gens=#[] →
  codeAny (model l.prog w) callerA (.call (.ref fa) ⟨[.ref a],[]⟩) (fun r s'=>r=.ok (.ret (.bool true))∧OldK s₁.heap s'.heap∧s'.os=s₁.os∧AllBare s'.gens) s₁) :
 WalkO q loose XP YP l.row.toRowW d [] (fun f vs=>PySem.call f vs):=by
 intro w s₀ s₁ mg mb G Y fa o pm cd doc dV kV ho hd hcd hD hmg hg args vals as hpre hlay hrd hwl hlo;obtain rfl:dV=.none:=Dflts.none hD hdf;obtain rfl:kV=.none:=Dflts.noKw hD;obtain⟨a,vs,ns,rfl,rfl,hobj,hints,hlen⟩:=Y3 hn hpre hwl;refine enter_call (scE (call w s₀ s₁ mg mb fa o pm cd doc a vs ns G Y ho (fd_plain hd) hcd hmg hobj hints hlen hg) fun r s' hq=>?_);obtain⟨rfl,h2,h3,h4⟩:=hq;exact⟨.inl ⟨.bool true,.bool true,[],rfl,fun _=>rfl,.bool true,Xb l _,fun _=>⟨List.Pairwise.nil,fun _ hm=>(nomatch hm)⟩⟩,h2,h3,h4⟩
section
variable {prog:Program}{w:World}{A:Around}{E:Value→Shared→Prop}{s:Shared}{K:Frag}
end
end Att
namespace L2
open PySem PySem.Spec PyProof.Rows
theorem gS:∀{vs:List Value} {ns:List Int},IntsAre vs ns→ym (ns.map V.int) vs
 |_,_,.nil=>.nil
 |_,_,.cons n t h=>.cons ⟨t,rfl⟩ (gS h)
noncomputable def TL (H:Hp):Prop:=∀b,H b=none∨∃o xs,H b=some (.frz o (.l xs))
theorem Vp {P:Program}{w:World}{K:Frag}{mg mb:Str→Option Value}{CX:ZQ}{k:Nat}{fa a:Addr}{fd:FuncData}{x:Str}{sp:Sp}{s₁:Shared}{vs:List Value}{ns:List Int}
 (KX:K.In s₁.heap) (hns:s₁.heap.Ns mainGlobals mg) (hb:s₁.heap.Ns builtinsNs mb) (hbb:∀x:Str,x ≠ "__name__" → mb x=bootBuiltins x) (hlim:s₁.heap.NoLimit) (hg:s₁.gens=#[])
 (ha:s₁.heap.get? a=some {cls:=.type "list",data:=.seq vs.toArray}) (hi:IntsAre vs ns) (hl:ns.length≤sizeLine) (hr:Room k callerA)
 (F:∀base:Heap,K.In base→base.Ns mainGlobals mg→FnOk P w K mg base CX k fa fd [x] sp) (hbind:∀(s:Shared) (u:Value),BindsTo s fd ⟨[u],[]⟩ [(x,u)])
 (hsp:∀H:Hp,TL H→wx K H a (ns.map V.int)→sp [.ref a] H (fun v _=>v=.bl true) fun _ _ _=>False)
 (hCX:∀H e s',CX [] H s₁ (fun _ _ _=>False) e s'→False) :
 codeAny (model P w) callerA (.call (.ref fa) ⟨[.ref a],[]⟩) (fun r s'=>r=.ok (.ret (.bool true))∧OldK s₁.heap s'.heap∧s'.os=s₁.os∧AllBare s'.gens) s₁:=by
 have rv:=gS hi;have lenV:=hi.length
 have core:∀H:Hp,TL H→wx K H a (ns.map V.int)→nO P w H s₁.heap→(∀b,H b≠none→b=a)→(H a≠none→K.lookup a=none) →
  codeAny (model P w) callerA (.call (.ref fa) ⟨[.ref a],[]⟩) (fun r s'=>r=.ok (.ret (.bool true))∧OldK s₁.heap s'.heap∧s'.os=s₁.os∧AllBare s'.gens) s₁:=by
  intro H hO hS hok hA hK;have base_of:∀{b:Addr} {o:Obj},s₁.heap.get? b=some o→H b=none→(dC s₁.heap H).get? b=some o:=fun e n=>Vx e n
  have noA:∀{b:Addr} {o:Obj} {es:Array DictEntry} {ep:Nat},s₁.heap.get? b=some o→o.data=.dict es ep→H b=none:=fun {b o es ep} e d=>by
   cases q:H b with
   |none=>rfl
   | some u=>
     have e':b=a:=hA b (by rw[q];simp);subst e';rw[ha]at e;cases e;have d':Data.seq vs.toArray _=Data.dict es ep:=d;cases d'
  have nsK:∀{b:Addr} {m:Str→Option Value},s₁.heap.Ns b m→(dC s₁.heap H).Ns b m:=fun {b m} ⟨o,es,ep,e,d,r⟩=>⟨o,es,ep,base_of e (noA e d),d,r⟩
  have hKb:K.In (dC s₁.heap H):=fun b o e=>base_of (KX b o e) (by
   cases q:H b with
   |none=>rfl
   | some u=>
     have e':b=a:=hA b (by rw[q];simp);subst e'
     rw[hK (by rw[q];simp)]at e;cases e)
  have hM:Mod K mg (dC s₁.heap H):=⟨hKb,nsK hns,⟨mb,nsK hb,hbb⟩,let ⟨mc,h1,h2⟩:=hlim;⟨mc,nsK h1,h2⟩⟩
  have e0:Env0 P w K mg (dC s₁.heap H) callerA [] s₁ H:=⟨rfl,hM,fun b o e=>UX e,Nat.le_of_eq (Xv _ _),trivial,fun b hb=>absurd (show b∈([]:List Addr)from hb) (by simp),hok,.of_eq hg⟩
  refine scE ((F _ hKb (nsK hns)).run callerA [] s₁ H ⟨[.ref a],[]⟩ [.ref a] [.ref a] _ _ hr e0 (hbind s₁ (.ref a)) (.cons rfl .nil) (hsp H hO hS)) fun r s' h=>?_
  cases r with
  |error e=>exact(hCX H e s' h).elim
  | ok fl=>
    cases fl with
    |next=>exact False.elim h
    |brk=>exact False.elim h
    |cont=>exact False.elim h
    | ret u=>
      obtain⟨v,H',os,bare,un,hok',r',q⟩:=h;have q':v=.bl true:=q;subst q';obtain rfl:u=Value.bool true:=r';refine⟨rfl,OldK.of_keep fun b o e=>?_,os,bare⟩
      cases q:H b with
      |none=>exact un.keep b o e q (by intro z;exact absurd (show b∈([]:List Addr)from z) (by simp)) (by simp)
      | some u=>
        rcases hO b with z|⟨ob,xs,z⟩
        ·rw[q]at z;cases z
        ·have z2:=un.frzs b ob _ z;obtain⟨e1,_⟩:=hok b _ z;obtain⟨e2,_⟩:=hok' b _ z2;rw[e]at e1;cases e1;exact e2
 cases hk:K.lookup a with
 | some o=>
   have e:=KX a o hk;rw[ha]at e;cases e;refine core (fun _=>none) (fun _=>.inl rfl) (.inr ⟨_,vs.toArray,_,hk,rfl,rfl,rfl,by rw[List.size_toArray,lenV];exact hl,by simpa using rv⟩) (fun b u z=>by have z':(none:Option HO)=some u:=z;cases z') (fun b z=>absurd rfl z) fun z=>absurd rfl z
 | none=>
   refine core (fun b=>if b=a then some (.frz {cls:=.type "list",data:=.seq vs.toArray} (.l (ns.map V.int)))else none) (fun b=>?_) (.inl (.inr ⟨{cls:=.type "list",data:=.seq vs.toArray},sak rfl⟩)) (fun b u z=>?_) (fun b z=>?_) fun _=>hk
   ·by_cases hb:b=a
    ·exact .inr ⟨_,_,sak hb⟩
    ·exact .inl (sal hb)
   ·by_cases hb:b=a
    ·have z':=(sak hb).symm.trans z;cases z';subst hb;exact⟨ha,by rw[sac];exact hl,vs,_,rv,ha⟩
    ·have z':=(sal hb).symm.trans z;cases z'
   ·by_cases hb:b=a
    ·exact hb
    ·exact absurd (sal hb) z
theorem kZ {l:PySem.W.OpenLaw}{n k:Nat}{q:Program}{loose:List Str}{XP:(Str→Option Value)→Heap→Prop}{YP:World→Heap→Prop}{d:DefRec}{K:Params→Frag}{CX:World→ZQ}{sp:World→Sp}{x:Str}
 (hn:l.most=some n) (hn2:n≤sizeLine) (hdf:d.params.defaults=[]) (hr:Room k callerA)
 (hY:∀(w:World) (h:Heap),YP w h→(K w.params).In h)
 (F:∀(w:World) (mg:Str→Option Value) (fa:Addr) (h:Heap),(K w.params).In h→h.Ns mainGlobals mg→mg d.name=some (.ref fa) →
  ∃ fd:FuncData,(∀(s:Shared) (u:Value),BindsTo s fd ⟨[u],[]⟩ [(x,u)]) ∧
    ∀base:Heap,(K w.params).In base→base.Ns mainGlobals mg→FnOk l.prog w (K w.params) mg base (CX w) k fa fd [x] (sp w))
 (hsp:∀(w:World) (H:Hp) (a:Addr) (ns:List Int),ns.length≤n→TL H→wx (K w.params) H a (ns.map V.int)→sp w [.ref a] H (fun v _=>v=.bl true) fun _ _ _=>False)
 (hCX:∀(w:World) (H:Hp) (s:Shared) (e:Value) (s':Shared),CX w [] H s (fun _ _ _=>False) e s'→False) :
 PySem.W.WalkO q loose XP YP l.row.toRowW d [] (fun f vs=>PySem.call f vs):=by
 refine Att.attach_call hn hdf fun w s₀ s₁ mg mb fa o pm cd doc a vs ns G Y ho hd hcd hmg hobj hints hlen hg=>?_;have KX:=hY w _ Y;obtain⟨fd,hb,hF⟩:=F w mg fa _ KX G.T.g hmg;exact Vp KX G.T.g G.T.b G.T.builtins G.T.nolimit hg hobj hints (sbq hlen hn2) hr hF hb (fun H hO hS=>hsp w H a ns hlen hO hS) fun H e s'=>hCX w H s₁ e s'
theorem Wm {l:PySem.W.OpenLaw}{n k:Nat}{q:Program}{loose:List Str}{XP:(Str→Option Value)→Heap→Prop}{YP:World→Heap→Prop}{d:DefRec}{K:Params→Frag}{CX:ZQ}{sp:Frag→Sp}{x:Str}
 (hn:l.most=some n) (hn2:n≤sizeLine) (hdf:d.params.defaults=[]) (hr:Room k callerA)
 (hY:∀(w:World) (h:Heap),YP w h→(K w.params).In h)
 (F:∀(w:World) (mg:Str→Option Value) (fa:Addr) (h:Heap),(K w.params).In h→h.Ns mainGlobals mg→mg d.name=some (.ref fa) →
  ∃ fd:FuncData,(∀(s:Shared) (u:Value),BindsTo s fd ⟨[u],[]⟩ [(x,u)]) ∧
    ∀base:Heap,(K w.params).In base→base.Ns mainGlobals mg→FnOk l.prog w (K w.params) mg base CX k fa fd [x] (sp (K w.params)))
 (hsp:∀(K:Frag) (H:Hp) (a:Addr) (ns:List Int),ns.length≤n→TL H→wx K H a (ns.map V.int)→sp K [.ref a] H (fun v _=>v=.bl true) fun _ _ _=>False)
 (hCX:∀(H:Hp) (s:Shared) (e:Value) (s':Shared),CX [] H s (fun _ _ _=>False) e s'→False) :
 PySem.W.WalkO q loose XP YP l.row.toRowW d [] (fun f vs=>PySem.call f vs) :=
 kZ (K:=K) (CX:=fun _=>CX) (sp:=fun w=>sp (K w.params)) hn hn2 hdf hr hY F (fun w H a ns h1 h2 h3=>hsp (K w.params) H a ns h1 h2 h3) fun _ H s e s'=>hCX H s e s'
noncomputable def vQ (s:Stmt):Arguments:=match s with
 | .FunctionDef _ a _ _ _ _ _ _ _ _=>a
 |_=>{posonlyargs:=[],args:=[],vararg:=none,kwonlyargs:=[],kw_defaults:=[],kwarg:=none,defaults:=[]}
noncomputable def xq (s:Stmt):List Stmt:=match s with
 | .FunctionDef _ _ b _ _ _ _ _ _ _=>b
 |_=>[]
noncomputable def zw (s:Stmt):Scope:=match s with
 | .FunctionDef _ _ _ _ _ _ sc _ _ _=>sc
 |_=>{kind:=.function,names:=[],isGenerator:=false,isCoroutine:=false}
noncomputable abbrev gP:ZQ:=fun _ _ _ _ _ _=>False
noncomputable abbrev E0:XK:=fun _ _ _=>False
theorem Ye {X:Cx}:ZN gP X E0:=fun _ _ _ _ _ _ _ h=>h.elim
structure Fun (K:Frag)(x qual:Str)(st:Stmt)(f:Addr)(fd:FuncData):Prop where
 ex:∃(oc:Value) (od:Option Addr) (kV doc pm:Value) (an:Option Addr) (cdv ct:Value) (osl:Array (Option Value)),
  fd=PySem.W.fnOf x qual (vQ st) (xq st) (zw st) .none kV doc pm an cdv ct∧K.lookup f=some ⟨oc,od,.func fd,osl⟩∧PySem.W.codeIn K cdv qual=true
 kp:PySem.W.keepIn K (.ref f)=true
section
variable {P:Program}{w:World}{K:Frag}{mg:Str→Option Value}{base:Heap}
theorem Fun.ok {x qual:Str}{st:Stmt}{f:Addr}{fd:FuncData}{N ps:List Str}{k:Nat}{sp:Sp}(F:Fun K x qual st f fd)(S:FS_ N ps (zw st))(len:∀vs H Q E,sp vs H Q E→vs.length=ps.length)
 (hbody:∀(cdv:Value) (A:Around) (outer:List Env) (s:Shared) (H:Hp) (vs:List V) (Q:VK) (E:XK),Room k (A.deeper (envOfC qual (zw st) s.heap.objs.size f cdv))→sp vs H Q E →
  ∃t,kI (kR gP P w K mg base N qual (zw st) f cdv A outer s H E).nox (xq st) t∧t {nx:=fun _ H'=>Q .non H',rt:=Q} (zy N vs) H):FnOk P w K mg base gP (k+1) f fd ps sp:=by
 obtain⟨oc,od,kV,doc,pm,an,cdv,ct,osl,rfl,lk,hcd⟩:=F.ex;refine T6 lk hcd S len fun A outer s H vs Q E hr hsp=>?_;obtain⟨t,h,q⟩:=hbody cdv A outer s H vs Q E hr hsp;exact⟨t,h.nox,q⟩
theorem Fun.binds {x qual:Str}{st:Stmt}{f:Addr}{fd:FuncData}{ps:List Str}(F:Fun K x qual st f fd)
 (h:∀(kV doc pm:Value) (an:Option Addr) (cdv ct:Value) (us:List Value),us.length=ps.length→bindArgs (PySem.W.fnOf x qual (vQ st) (xq st) (zw st) .none kV doc pm an cdv ct) ⟨us,[]⟩=pure (ps.zip us)):uX K fd ps []:=by
 obtain⟨oc,od,kV,doc,pm,an,cdv,ct,osl,rfl,lk,hcd⟩:=F.ex;exact .all (h kV doc pm an cdv ct)
theorem yb {x qual:Str}{st:Stmt}{f:Addr}{oc:Value}{od an:Option Addr}{osl:Array (Option Value)}{kV doc pm cdv ct:Value}(l:K.lookup f=some ⟨oc,od,.func (PySem.W.fnOf x qual (vQ st) (xq st) (zw st) .none kV doc pm an cdv ct),osl⟩)
 (c:PySem.W.codeIn K cdv qual=true) (k:PySem.W.keepIn K (.ref f)=true):Fun K x qual st f (PySem.W.fnOf x qual (vQ st) (xq st) (zw st) .none kV doc pm an cdv ct):=⟨⟨oc,od,kV,doc,pm,an,cdv,ct,osl,rfl,l,c⟩,k⟩
end
section
variable {X:Cx}
theorem pv (i:Nat){x:Str}{pos:Pos}(hN:X.N[i]?=some x:=by rfl)(hv:Q2 X.env.scope x:=by first|exact Or.inl rfl|exact Or.inr (Or.inl rfl)|exact Or.inr (Or.inr rfl))(hd:(x == ("__debug__" : Str))=false:=by decide)
 (hcd:(x == ("__classdict__" : Str))=false:=by decide):PE X (.Name x pos) (wa i):=SD hN hv hd hcd
end
theorem mn {A B:Prop}(h:B):if false=true then A else B:=by
 rw[sal sai];exact h
theorem bI {A B:Prop}(h:A):if true=true then A else B:=by
 rw[sak rfl];exact h
noncomputable def zI (H H':Hp):Prop:=∀b o,H b=some o→H' b=some o
theorem zI.refl (H:Hp):zI H H:=fun _ _ h=>h
theorem zI.trans {H H1 H2:Hp}(a:zI H H1)(b:zI H1 H2):zI H H2:=fun c o h=>b c o (a c o h)
theorem zI.free {H H':Hp}(e:zI H H'){l:Addr}(h:H' l=Option.none):H l=Option.none:=by
 cases q:H l with
 |none=>rfl
 | some o=>
   rw[e l o q]at h;cases h
theorem zI.seq {K:Frag}{H H':Hp}{a:Addr}{xs:List V}(e:zI H H')(h:wx K H a xs):wx K H' a xs:=by
 rcases h with(h|⟨o,h⟩)|h
 ·exact .inl (.inl (e _ _ h))
 ·exact .inl (.inr ⟨o,e _ _ h⟩)
 ·exact .inr h
end L2
set_option maxHeartbeats 4000000
namespace DL
open PySem PySem.Spec PyProof.Rows L2
noncomputable abbrev St:=L2.St
inductive D where
 |non
 |bl (b:Bool)
 |int (i:Int)
 |tup (ds:List D)
 |l (ds:List D)
 |scr (ns:List Int)
 |exc (c:Str) (p:Option Int)
inductive Out (α:Type) where
 |bad
 |ok (a:α)
 |exc (c:Str) (p:Option Int)
noncomputable def Out.bind {α β:Type}(x:Out α)(f:α→Out β):Out β :=
 match x with
 | .bad=>.bad
 | .ok a=>f a
 | .exc c p=>.exc c p
@[simp] theorem zh {α β:Type}(a:α)(f:α→Out β):(Out.ok a).bind f=f a:=rfl
@[simp] theorem QM {α β:Type}(f:α→Out β):(Out.bad:Out α).bind f=.bad:=rfl
@[simp] theorem QL {α β:Type}(c:Str)(p:Option Int)(f:α→Out β):(Out.exc c p:Out α).bind f=.exc c p:=rfl
theorem zv {α β:Type}{x:Out α}{f:α→Out β}{b:β}(h:x.bind f=.ok b):∃a,x=.ok a∧f a=.ok b:=by
 cases x with
 |bad=>cases h
 |ok a=>exact⟨a,rfl,h⟩
 |exc c p=>cases h
inductive Val where
 |p (d:D)
 |fresh (ds:List D)
 |brw (i:Nat) (ds:List D)
@[simp] noncomputable def Val.d:Val→D
  | .p d=>d
  | .fresh ds=>.l ds
  | .brw _ ds=>.l ds
@[simp] noncomputable def Val.hold:Val→Out D
  | .p d=>.ok d
  | .fresh ds=>.ok (.l ds)
  | .brw _ _=>.bad
inductive Slot where
 |un
 |p (d:D)
 |own (ds:List D)
noncomputable abbrev Ev:=List Slot
noncomputable abbrev FE:=Ev→Out Val
noncomputable abbrev FT:=Ev→Out Bool
inductive Res where
 |next (env:Ev)
 |ret (v:Val)
noncomputable abbrev FS:=Ev→Out Res
mutual
noncomputable def kH (K:Frag)(G:Hp):D→V→Prop
 | .non,v=>v=.non
 | .bl b,v=>v=.bl b
 | .int i,v=>v=.int i
 | .tup ds,v=>∃a vs,v=.ref a∧G a=some (.tup vs)∧zO K G ds vs
 | .l ds,v=>∃a vs,v=.ref a∧G a=some (.l vs)∧zO K G ds vs
 | .scr ns,v=>∃a,v=.ref a∧wx K G a (ns.map V.int)
 | .exc _ _,_=>False
noncomputable def zO (K:Frag)(G:Hp):List D→List V→Prop
 |[],vs=>vs=[]
 |d::ds,vs=>∃v r,vs=v::r∧kH K G d v∧zO K G ds r
end
section
variable {K:Frag}{G G':Hp}
mutual
theorem kH.mono (s:zI G G'):∀{d:D} {v:V},kH K G d v→kH K G' d v
 | .non,_,h=>h
 | .bl _,_,h=>h
 | .int _,_,h=>h
 | .tup ds,v,h=>by
   obtain⟨a,vs,e,g,r⟩:=h;exact⟨a,vs,e,s _ _ g,zO.mono s r⟩
 | .l ds,v,h=>by
   obtain⟨a,vs,e,g,r⟩:=h;exact⟨a,vs,e,s _ _ g,zO.mono s r⟩
 | .scr ns,v,h=>by
   obtain⟨a,e,g⟩:=h;exact⟨a,e,s.seq g⟩
 | .exc _ _,_,h=>h
theorem zO.mono (s:zI G G'):∀{ds:List D} {vs:List V},zO K G ds vs→zO K G' ds vs
 |[],_,h=>h
 | d::ds,vs,h=>by
   obtain⟨v,r,e,h1,h2⟩:=h;exact⟨v,r,e,kH.mono s h1,zO.mono s h2⟩
end
theorem zO.nil:zO K G [] []:=rfl
theorem zO.cons {d:D}{v:V}{ds:List D}{vs:List V}(h:kH K G d v)(r:zO K G ds vs):zO K G (d::ds) (v::vs):=⟨v,vs,rfl,h,r⟩
theorem zO.length:∀{ds:List D} {vs:List V},zO K G ds vs→ds.length=vs.length
 |[],_,h=>by cases(show _=[]from h);rfl
 | d::ds,vs,h=>by
   obtain⟨v,r,rfl,_,h2⟩:=h;simp[zO.length h2]
theorem zO.get:∀{ds:List D} {vs:List V} {i:Nat} {d:D},zO K G ds vs→ds[i]?=some d→∃v,vs[i]?=some v∧kH K G d v
 |[],_,i,d,h,e=>by simp at e
 | d'::ds,vs,0,d,h,e=>by
   obtain⟨v,r,rfl,h1,h2⟩:=h;simp at e;subst e;exact⟨v,rfl,h1⟩
 | d'::ds,vs,i+1,d,h,e=>by
   obtain⟨v,r,rfl,h1,h2⟩:=h;obtain⟨u,h3,h4⟩:=zO.get (i:=i) h2 (by simpa using e);exact⟨u,by simpa using h3,h4⟩
theorem zO.get':∀{ds:List D} {vs:List V} {i:Nat} {v:V},zO K G ds vs→vs[i]?=some v→∃d,ds[i]?=some d∧kH K G d v
 |[],_,i,d,h,e=>by cases(show _=[]from h);simp at e
 | d'::ds,vs,0,d,h,e=>by
   obtain⟨v,r,rfl,h1,h2⟩:=h;simp at e;subst e;exact⟨d',rfl,h1⟩
 | d'::ds,vs,i+1,d,h,e=>by
   obtain⟨v,r,rfl,h1,h2⟩:=h;obtain⟨u,h3,h4⟩:=zO.get' (i:=i) h2 (by simpa using e);exact⟨u,by simpa using h3,h4⟩
theorem zO.append:∀{ds es:List D} {vs us:List V},zO K G ds vs→zO K G es us→zO K G (ds++es) (vs++us)
 |[],es,vs,us,h,h'=>by cases(show _=[]from h);exact h'
 | d::ds,es,vs,us,h,h'=>by
   obtain⟨v,r,rfl,h1,h2⟩:=h;exact⟨v,r++us,rfl,h1,zO.append h2 h'⟩
theorem zO.take:∀{ds:List D} {vs:List V} (n:Nat),zO K G ds vs→zO K G (ds.take n) (vs.take n)
 |ds,vs,0,h=>by simp only[List.take_zero];exact rfl
 |[],vs,n+1,h=>by cases(show _=[]from h);exact rfl
 | d::ds,vs,n+1,h=>by
   obtain⟨v,r,rfl,h1,h2⟩:=h;exact⟨v,r.take n,rfl,h1,zO.take n h2⟩
theorem zO.drop:∀{ds:List D} {vs:List V} (n:Nat),zO K G ds vs→zO K G (ds.drop n) (vs.drop n)
 |ds,vs,0,h=>by simpa using h
 |[],vs,n+1,h=>by cases(show _=[]from h);exact rfl
 | d::ds,vs,n+1,h=>by
   obtain⟨v,r,rfl,h1,h2⟩:=h;exact zO.drop n h2
theorem zO.dropLast {ds:List D}{vs:List V}(h:zO K G ds vs):zO K G ds.dropLast vs.dropLast:=by
 rw[List.dropLast_eq_take,List.dropLast_eq_take,←h.length];exact h.take _
theorem zO.ints:∀(ns:List Int),zO K G (ns.map D.int) (ns.map V.int)
 |[]=>rfl
 |n::ns=>⟨.int n,ns.map V.int,rfl,rfl,zO.ints ns⟩
theorem zO.ints_of:∀{ns:List Int} {vs:List V},zO K G (ns.map D.int) vs→vs=ns.map V.int
 |[],_,h=>h
 | n::ns,vs,h=>by
   obtain⟨v,r,rfl,h1,h2⟩:=h;rw[zO.ints_of h2];cases(show v=.int n from h1);rfl
end
structure Gw (G H G' H':Hp):Prop where
 g:zI G G'
 h:zI H H'
 n:∀b,H b≠none→G b=none→G' b=none
theorem Gw.refl (G H:Hp):Gw G H G H:=⟨zI.refl _,zI.refl _,fun _ _ h=>h⟩
theorem zI.some_of {H H':Hp}(s:zI H H'){b:Addr}(h:H b≠none):H' b≠none:=by
 cases q:H b with
 |none=>exact absurd q h
 |some o=>rw[s b o q];simp
theorem Gw.trans {G H G1 H1 G2 H2:Hp}(a:Gw G H G1 H1)(b:Gw G1 H1 G2 H2):Gw G H G2 H2 :=
 ⟨a.g.trans b.g,a.h.trans b.h,fun c h1 h2=>b.n c (zI.some_of a.h h1) (a.n c h1 h2)⟩
theorem df {H H':Hp}(s:zI H H'){b:Addr}(h:H' b=none):H b=none:=s.free h
structure SlotOwn (K:Frag)(H₀:Hp)(σ:St)(G H:Hp)(i:Nat)(ds:List D)(a:Addr)(vs:List V):Prop where
 at_:σ[i]?=some (some (.ref a))
 hp:H a=some (.l vs)
 gn:G a=none
 new:H₀ a=none
 rep:zO K G ds vs
noncomputable def RB (K:Frag)(H₀:Hp)(σ:St)(G H:Hp)(i:Nat):Slot→Prop
 | .un=>True
 | .p d=>∃v,σ[i]?=some (some v)∧kH K G d v
 | .own ds=>∃a vs,SlotOwn K H₀ σ G H i ds a vs
structure DI (K:Frag)(G₀ H₀:Hp)(env:Ev)(σ:St)(G H:Hp):Prop where
 le:zI G H
 gr:Gw G₀ H₀ G H
 len:env.length=σ.length
 slot:∀(i:Nat) (s:Slot),env[i]?=some s→RB K H₀ σ G H i s
 apart:∀(i j:Nat) (ds es:List D) (a:Addr),i≠j→env[i]?=some (.own ds)→env[j]?=some (.own es)→σ[i]?=some (some (.ref a))→σ[j]?≠some (some (.ref a))
section
variable {K:Frag}{G₀ H₀ G H G' H':Hp}{env:Ev}{σ:St}
theorem DI.grow (I:DI K G₀ H₀ env σ G H)(g:Gw G H G' H')(l:zI G' H'):DI K G₀ H₀ env σ G' H' where
 le:=l
 gr:=I.gr.trans g
 len:=I.len
 slot:=fun i s e=>by
  have q:=I.slot i s e
  cases s with
  |un=>trivial
  |p d=>obtain⟨v,h1,h2⟩:=q;exact⟨v,h1,h2.mono g.g⟩
  | own ds=>
    obtain⟨a,vs,o⟩:=q;exact⟨a,vs,o.at_,g.h _ _ o.hp,g.n a (by rw[o.hp];simp) o.gn,o.new,o.rep.mono g.g⟩
 apart:=I.apart
theorem DI.own (I:DI K G₀ H₀ env σ G H){i:Nat}{ds:List D}(e:env[i]?=some (.own ds)):∃a vs,SlotOwn K H₀ σ G H i ds a vs:=I.slot i _ e
theorem DI.p (I:DI K G₀ H₀ env σ G H){i:Nat}{d:D}(e:env[i]?=some (.p d)):∃v,σ[i]?=some (some v)∧kH K G d v:=I.slot i _ e
end
noncomputable def sI (K:Frag)(H:Hp)(env:Ev)(σ:St)(G' H':Hp)(v:V):Val→Prop
 | .p d=>kH K G' d v
 | .fresh ds=>∃a vs,v=.ref a∧H a=none∧H' a=some (.l vs)∧G' a=none∧zO K G' ds vs
 | .brw i ds=>∃a,v=.ref a∧env[i]?=some (.own ds)∧σ[i]?=some (some (.ref a))
theorem sI.base {K:Frag}{H H1:Hp}{env:Ev}{σ:St}{G' H':Hp}{v:V}{val:Val}(s:zI H H1)(h:sI K H1 env σ G' H' v val):sI K H env σ G' H' v val:=by
 cases val with
 |p d=>exact h
 | fresh ds=>
   obtain⟨a,vs,e,h1,h2,h3,h4⟩:=h;exact⟨a,vs,e,s.free h1,h2,h3,h4⟩
 |brw i ds=>exact h
noncomputable def ur (K:Frag)(env:Ev)(σ:St)(G:Hp)(v:V)(d:D):Prop :=
 kH K G d v∨∃(i:Nat) (ds:List D) (a:Addr),d=.l ds∧v=.ref a∧env[i]?=some (.own ds)∧σ[i]?=some (some (.ref a))
theorem ur.mono {K:Frag}{env:Ev}{σ:St}{G G':Hp}{v:V}{d:D}(h:ur K env σ G v d)(s:zI G G'):ur K env σ G' v d :=
 h.elim (fun x=>.inl (x.mono s)) .inr
section
variable {K:Frag}{G₀ H₀ G H G' H':Hp}{env:Ev}{σ:St}{v:V}
theorem ur.l {ds:List D}(I:DI K G₀ H₀ env σ G H)(h:ur K env σ G v (.l ds)):∃a vs,v=.ref a∧H a=some (.l vs)∧zO K G ds vs:=by
 rcases h with h|⟨i,es,a,e1,e2,e3,e4⟩
 ·obtain⟨a,vs,e,g,r⟩:=h;exact⟨a,vs,e,I.le _ _ g,r⟩
 ·cases e1;obtain⟨b,vs,o⟩:=I.own e3;have q:=o.at_;rw[e4]at q;cases q;exact⟨a,vs,e2,o.hp,o.rep⟩
theorem ur.tup {ds:List D}(I:DI K G₀ H₀ env σ G H)(h:ur K env σ G v (.tup ds)):∃a vs,v=.ref a∧H a=some (.tup vs)∧zO K G ds vs:=by
 rcases h with h|⟨i,es,a,e1,e2,e3,e4⟩
 ·obtain⟨a,vs,e,g,r⟩:=h;exact⟨a,vs,e,I.le _ _ g,r⟩
 ·cases e1
theorem ur.int {i:Int}(h:ur K env σ G v (.int i)):v=.int i:=by
 rcases h with h|⟨_,_,_,e,_⟩
 ·exact h
 ·cases e
theorem ur.bl {b:Bool}(h:ur K env σ G v (.bl b)):v=.bl b:=by
 rcases h with h|⟨_,_,_,e,_⟩
 ·exact h
 ·cases e
theorem ur.non (h:ur K env σ G v .non):v=.non:=by
 rcases h with h|⟨_,_,_,e,_⟩
 ·exact h
 ·cases e
theorem ur.scr {ns:List Int}(I:DI K G₀ H₀ env σ G H)(h:ur K env σ G v (.scr ns)):∃a,v=.ref a∧wx K H a (ns.map V.int):=by
 rcases h with h|⟨_,_,_,e,_⟩
 ·obtain⟨a,e,q⟩:=h;exact⟨a,e,I.le.seq q⟩
 ·cases e
theorem opd {val:Val}(g:Gw G H G' H')(l:zI G' H')(h:sI K H env σ G' H' v val):∃G'',Gw G H G'' H'∧zI G'' H'∧ur K env σ G'' v val.d:=by
 cases val with
 |p d=>exact⟨G',g,l,.inl h⟩
 | brw i ds=>
   obtain⟨a,e1,e2,e3⟩:=h;exact⟨G',g,l,.inr ⟨i,ds,a,rfl,e1,e2,e3⟩⟩
 | fresh ds=>
   obtain⟨a,vs,e,h1,h2,h3,h4⟩:=h;have s':zI G' (yo G' a (.l vs)):=fun b o q=>by rw[zx (zz q h3)];exact q
   refine⟨yo G' a (.l vs),⟨g.g.trans s',g.h,fun b q1 q2=>?_⟩,fun b o q=>?_,.inl ⟨a,vs,e,zH,h4.mono s'⟩⟩
   ·have hb:b≠a:=fun z=>q1 (z ▸ h1);rw[zx hb];exact g.n b q1 q2
   ·by_cases hb:b=a
    ·subst hb;rw[zH]at q;cases q;exact h2
    ·rw[zx hb]at q;exact l b o q
theorem kQ {val:Val}{d:D}(g:Gw G H G' H')(l:zI G' H')(h:sI K H env σ G' H' v val)(e:val.hold=.ok d):∃G'',Gw G H G'' H'∧zI G'' H'∧kH K G'' d v:=by
 obtain⟨G2,g2,l2,o⟩:=opd g l h
 cases val with
 |p d'=>cases e;exact⟨G',g,l,h⟩
 |brw i ds=>cases e
 | fresh ds=>
   cases e
   rcases o with o|⟨i,es,a,e1,e2,e3,e4⟩
   ·exact⟨G2,g2,l2,o⟩
   ·obtain⟨a',vs,e,h1,h2,h3,h4⟩:=h;have s':zI G' (yo G' a' (.l vs)):=fun b o q=>by rw[zx (zz q h3)];exact q
    refine⟨yo G' a' (.l vs),⟨g.g.trans s',g.h,fun b q1 q2=>?_⟩,fun b o q=>?_,⟨a',vs,e,zH,h4.mono s'⟩⟩
    ·have hb:b≠a':=fun z=>q1 (z ▸ h1);rw[zx hb];exact g.n b q1 q2
    ·by_cases hb:b=a'
     ·subst hb;rw[zH]at q;cases q;exact h2
     ·rw[zx hb]at q;exact l b o q
theorem Gw.laidT {p:Addr}{o:HO}(l:zI G H)(hp:H p=none):Gw G H (yo G p o) (yo H p o)∧zI (yo G p o) (yo H p o):=by
 have gp:=l.free hp;refine⟨⟨fun b u q=>by rw[zx (zz q gp)];exact q,fun b u q=>by rw[zx (zz q hp)];exact q,fun b h1 h2=>?_⟩,fun b u q=>?_⟩
 ·have hb:b≠p:=fun z=>h1 (z ▸ hp);rw[zx hb];exact h2
 ·by_cases hb:b=p
  ·subst hb;rw[zH]at q ⊢;exact q
  ·rw[zx hb]at q ⊢;exact l b u q
theorem Gw.laidL {p:Addr}{o:HO}(l:zI G H)(hp:H p=none):Gw G H G (yo H p o)∧zI G (yo H p o) :=
 ⟨⟨zI.refl _,fun b u q=>by rw[zx (zz q hp)];exact q,fun _ _ h=>h⟩,fun b u q=>by rw[zx (zz q (l.free hp))];exact l b u q⟩
theorem jw {p:Addr}{ds:List D}{vs:List V}{G1 H1:Hp}(l:zI G1 H1)(hp:H1 p=none)(r:zO K G1 ds vs):sI K H1 env σ G1 (yo H1 p (.l vs)) (.ref p) (.fresh ds) :=
 ⟨p,vs,rfl,hp,zH,l.free hp,r⟩
theorem Wn {p:Addr}{ds:List D}{vs:List V}{G1 H1:Hp}(l:zI G1 H1)(hp:H1 p=none)(r:zO K G1 ds vs):sI K H1 env σ (yo G1 p (.tup vs)) (yo H1 p (.tup vs)) (.ref p) (.p (.tup ds)):=by
 have gp:=l.free hp;exact⟨p,vs,rfl,zH,r.mono fun b u q=>by rw[zx (zz q gp)];exact q⟩
end
section
variable (K:Frag)(G₀ H₀:Hp)
noncomputable def tE (f:FE):TE:=fun σ H Q=>∃env G val,DI K G₀ H₀ env σ G H∧f env=.ok val ∧
 ∀v G' H',Gw G H G' H'→zI G' H'→sI K H env σ G' H' v val→Q v H'
noncomputable def tT (f:FT):TT:=fun σ H Q=>∃env G b,DI K G₀ H₀ env σ G H∧f env=.ok b∧∀G' H',Gw G H G' H'→zI G' H'→Q b H'
noncomputable def hJ (env:Ev)(σ:St)(G:Hp)(v:V):Val→Prop
 | .p d=>kH K G d v
 | .fresh _=>False
 | .brw i ds=>∃a,v=.ref a∧env[i]?=some (.own ds)∧σ[i]?=some (some (.ref a))
noncomputable def qG (env:Ev)(σ:St)(G:Hp):List V→List Val→Prop
 |[],vals=>vals=[]
 |v::vs,vals=>∃x r,vals=x::r∧hJ K env σ G v x∧qG env σ G vs r
noncomputable def tA (f:Ev→Out (List Val)):TA:=fun σ H Q=>∃env G vals,DI K G₀ H₀ env σ G H∧f env=.ok vals ∧
 ∀vs G' H',Gw G H G' H'→zI G' H'→qG K env σ G' vs vals→Q vs H'
noncomputable def tH (f:Ev→Out (List D)):TA:=fun σ H Q=>∃env G ds,DI K G₀ H₀ env σ G H∧f env=.ok ds ∧
 ∀vs G' H',Gw G H G' H'→zI G' H'→zO K G' ds vs→Q vs H'
noncomputable def YR (G:Hp)(D:Ends):Res→Prop
 | .next env'=>∀σ' G' H',zI G G'→DI K G₀ H₀ env' σ' G' H'→D.nx σ' H'
 | .ret val=>∀v G' H',Gw G₀ H₀ G' H'→zI G' H'→sI K H₀ [] [] G' H' v val→D.rt v H'
noncomputable def tS (f:FS):TS:=fun D σ H=>∃env G r,DI K G₀ H₀ env σ G H∧f env=.ok r∧YR K G₀ H₀ G D r
end
noncomputable def DE (X:Cx)(G₀ H₀:Hp)(e:Expr)(f:FE):Prop:=PE X e (tE X.K G₀ H₀ f)
noncomputable def DT (X:Cx)(G₀ H₀:Hp)(e:Expr)(f:FT):Prop:=PT X e (tT X.K G₀ H₀ f)
noncomputable def DW (X:Cx)(G₀ H₀:Hp)(e:Expr)(f:FT):Prop:=PW X e (tT X.K G₀ H₀ f)
noncomputable def DA (X:Cx)(G₀ H₀:Hp)(es:List Expr)(f:Ev→Out (List Val)):Prop:=PA X es (tA X.K G₀ H₀ f)
noncomputable def DH (X:Cx)(G₀ H₀:Hp)(es:List Expr)(f:Ev→Out (List D)):Prop:=PA X es (tH X.K G₀ H₀ f)
noncomputable def DS (X:Cx)(G₀ H₀:Hp)(st:Stmt)(f:FS):Prop:=PS X st (tS X.K G₀ H₀ f)
noncomputable def Wc (X:Cx)(G₀ H₀:Hp)(st:List Stmt)(f:FS):Prop:=kI X st (tS X.K G₀ H₀ f)
theorem _root_.L2.PE.imp {X:Cx}{e:Expr}{t t':TE}(h:PE X e t)(i:∀σ H Q,t' σ H Q→t σ H Q):PE X e t':=fun pins s σ H Q I q=>h pins s σ H Q I (i σ H Q q)
theorem _root_.L2.PT.imp {X:Cx}{e:Expr}{t t':TT}(h:PT X e t)(i:∀σ H Q,t' σ H Q→t σ H Q):PT X e t':=fun pins s σ H Q I q=>h pins s σ H Q I (i σ H Q q)
theorem _root_.L2.PW.imp {X:Cx}{e:Expr}{t t':TT}(h:PW X e t)(i:∀σ H Q,t' σ H Q→t σ H Q):PW X e t':=fun wh pins s σ H Q I q=>h wh pins s σ H Q I (i σ H Q q)
theorem _root_.L2.PA.imp {X:Cx}{e:List Expr}{t t':TA}(h:PA X e t)(i:∀σ H Q,t' σ H Q→t σ H Q):PA X e t':=fun pos pins s σ H Q I q=>h pos pins s σ H Q I (i σ H Q q)
theorem _root_.L2.PS.imp {X:Cx}{e:Stmt}{t t':TS}(h:PS X e t)(i:∀D σ H,t' D σ H→t D σ H):PS X e t':=fun pins s σ H D I q=>h pins s σ H D I (i D σ H q)
theorem _root_.L2.kI.imp {X:Cx}{e:List Stmt}{t t':TS}(h:kI X e t)(i:∀D σ H,t' D σ H→t D σ H):kI X e t':=fun pins s σ H D I q=>h pins s σ H D I (i D σ H q)
section
variable {K:Frag}{G₀ H₀ G H:Hp}{env:Ev}{σ:St}
theorem vZ {f:FE}{x:Val}{P:V→Hp→Prop}(I:DI K G₀ H₀ env σ G H)(e:f env=.ok x)
 (k:∀v G' H',Gw G H G' H'→zI G' H'→DI K G₀ H₀ env σ G' H'→ur K env σ G' v x.d→P v H'):tE K G₀ H₀ f σ H P :=
 ⟨env,G,x,I,e,fun v G' H' g l h=>by
  obtain⟨G2,g2,l2,o⟩:=opd g l h
  exact k v G2 H' g2 l2 (I.grow g2 l2) o⟩
theorem aC {f g:FE}{x y:Val}{P:V→V→Hp→Prop}(I:DI K G₀ H₀ env σ G H)(e:f env=.ok x)(e':g env=.ok y)
 (k:∀v u G' H',Gw G H G' H'→zI G' H'→DI K G₀ H₀ env σ G' H'→ur K env σ G' v x.d→ur K env σ G' u y.d→P v u H') :
 tE K G₀ H₀ f σ H fun v H1=>tE K G₀ H₀ g σ H1 fun u H2=>P v u H2 :=
 vZ I e fun v G1 H1 g1 l1 I1 o1=>vZ I1 e' fun u G2 H2 g2 l2 I2 o2=>k v u G2 H2 (g1.trans g2) l2 I2 (o1.mono g2.g) o2
end
@[simp] noncomputable def zf (i:Nat):FE:=fun env=>match env[i]? with
  |some (.p d)=>.ok (.p d)
  |some (.own ds)=>.ok (.brw i ds)
  |_=>.bad
@[simp] noncomputable def fC (d:D):FE:=fun _=>.ok (.p d)
section
variable {X:Cx}{G₀ H₀:Hp}{pos:Pos}
theorem Rn {i:Nat}{x:Str}(h:PE X (.Name x pos) (wa i)):DE X G₀ H₀ (.Name x pos) (zf i):=h.imp fun σ H Q q=>by
 obtain⟨env,G,val,I,e,k⟩:=q;unfold zf at e
 cases q:env[i]? with
 |none=>rw[q]at e;cases e
 | some s=>
   rw[q]at e
   cases s with
   |un=>cases e
   | p d=>
     cases e;obtain⟨v,h1,h2⟩:=I.p q;exact⟨v,h1,k v G H (Gw.refl _ _) I.le h2⟩
   | own ds=>
     cases e;obtain⟨a,vs,o⟩:=I.own q;exact⟨.ref a,o.at_,k _ G H (Gw.refl _ _) I.le ⟨a,rfl,q,o.at_⟩⟩
theorem Rp {e:Expr}{v:V}{d:D}(h:PE X e (tC v))(r:∀G,kH X.K G d v):DE X G₀ H₀ e (fC d):=h.imp fun σ H Q q=>by
 obtain⟨env,G,val,I,e,k⟩:=q;cases e;exact k v G H (Gw.refl _ _) I.le (r G)
theorem zj {i j}:DE X G₀ H₀ (.Constant (.int i) j pos) (fC (.int i)):=Rp aP fun _=>rfl
theorem bY {b j}:DE X G₀ H₀ (.Constant (.bool b) j pos) (fC (.bl b)):=Rp Yd fun _=>rfl
theorem qr {j}:DE X G₀ H₀ (.Constant .none j pos) (fC .non):=Rp eW fun _=>rfl
end
@[simp] noncomputable def f2 (g:D→D→Out Val)(fa fb:FE):FE:=fun env=>(fa env).bind fun x=>(fb env).bind fun y=>g x.d y.d
@[simp] noncomputable def f1 (g:D→Out Val)(fa:FE):FE:=fun env=>(fa env).bind fun x=>g x.d
noncomputable def cD (K:Frag)(r:R2)(g:D→D→Out Val):Prop :=
 ∀ (G₀ H₀:Hp) (env:Ev) (σ:St) (G H:Hp) (v u:V) (d1 d2:D) (val:Val) (Q:VK),DI K G₀ H₀ env σ G H→ur K env σ G v d1→ur K env σ G u d2→g d1 d2=.ok val →
   (∀w G' H',Gw G H G' H'→zI G' H'→sI K H env σ G' H' w val→Q w H')→r v u H Q
noncomputable def P8 (K:Frag)(r:V→Hp→VK→Prop)(g:D→Out Val):Prop :=
 ∀ (G₀ H₀:Hp) (env:Ev) (σ:St) (G H:Hp) (v:V) (d1:D) (val:Val) (Q:VK),DI K G₀ H₀ env σ G H→ur K env σ G v d1→g d1=.ok val →
   (∀w G' H',Gw G H G' H'→zI G' H'→sI K H env σ G' H' w val→Q w H')→r v H Q
section
variable {X:Cx}{G₀ H₀:Hp}{pos:Pos}{a b:Expr}{fa fb:FE}
theorem Td {r:R2}{g:D→D→Out Val}(hd:cD X.K r g)(σ:St)(H:Hp)(Q:VK)(q:tE X.K G₀ H₀ (f2 g fa fb) σ H Q):Y0 r (tE X.K G₀ H₀ fa) (tE X.K G₀ H₀ fb) σ H Q:=by
 obtain⟨env,G,val,I,e,k⟩:=q;obtain⟨x,e1,e⟩:=zv e;obtain⟨y,e2,e⟩:=zv e;exact aC I e1 e2 fun v u G' H' g1 l1 I1 o1 o2=>hd G₀ H₀ env σ G' H' v u _ _ val Q I1 o1 o2 e fun w G2 H2 g2 l2 h2=>k w G2 H2 (g1.trans g2) l2 (h2.base g1.h)
theorem Pq {r:V→Hp→VK→Prop}{g:D→Out Val}(hd:P8 X.K r g)(σ:St)(H:Hp)(Q:VK)(q:tE X.K G₀ H₀ (f1 g fa) σ H Q):PX r (tE X.K G₀ H₀ fa) σ H Q:=by
 obtain⟨env,G,val,I,e,k⟩:=q;obtain⟨x,e1,e⟩:=zv e;exact vZ I e1 fun v G' H' g1 l1 I1 o1=>hd G₀ H₀ env σ G' H' v _ val Q I1 o1 e fun w G2 H2 g2 l2 h2=>k w G2 H2 (g1.trans g2) l2 (h2.base g1.h)
theorem fS {op:Operator}{r:R2}{g:D→D→Out Val}(ho:ow X (binaryOp op) r)(hd:cD X.K r g)(ha:DE X G₀ H₀ a fa)(hb:DE X G₀ H₀ b fb):DE X G₀ H₀ (.BinOp a op b pos) (f2 g fa fb) :=
 (Qb ho ha hb).imp (Td hd)
theorem QB {op:UnaryOp}{r:V→Hp→VK→Prop}{g:D→Out Val}(ho:Q3 X (unaryOp op) r)(hd:P8 X.K r g)(ha:DE X G₀ H₀ a fa):DE X G₀ H₀ (.UnaryOp op a pos) (f1 g fa) :=
 (R_ ho ha).imp (Pq hd)
theorem nB {op:CmpOp}{r:R2}{g:D→D→Out Val}(ho:ow X (compareOp op) r)(hd:cD X.K r g)(ha:DE X G₀ H₀ a fa)(hb:DE X G₀ H₀ b fb)(hm:behindInMarks op b=false):DE X G₀ H₀ (.Compare a [op] [b] pos) (f2 g fa fb) :=
 (r_ ho ha hb hm).imp (Td hd)
theorem QF {r:R2}{g:D→D→Out Val}(hr:Uk X r)(hd:cD X.K r g)(ha:DE X G₀ H₀ a fa)(hb:DE X G₀ H₀ b fb)(hs:cx b):DE X G₀ H₀ (.Subscript a b pos) (f2 g fa fb) :=
 (Qc hr ha hb hs).imp (Td hd)
end
@[simp] noncomputable def gI (C:Int→Int→Bool) (g:Int→Int→Int):D→D→Out Val
  | .int i,.int j=>if C i j then .ok (.p (.int (g i j)))else .bad
  |_,_=>.bad
@[simp] noncomputable def Rc (g:Int→Int→Bool):D→D→Out Val
  | .int i,.int j=>.ok (.p (.bl (g i j)))
  |_,_=>.bad
section
variable {K:Frag}
theorem de {C:Int→Int→Bool}{C':Int→Int→Prop}{g:Int→Int→Int}(hC:∀i j,C i j=true→C' i j):cD K (rI C' fun i j=>.int (g i j)) (gI C g):=by
 intro G₀ H₀ env σ G H v u d1 d2 val Q I o1 o2 e k;unfold gI at e;split at e
 ·rename_i i j;split at e
  ·rename_i hc;cases e;exact⟨i,j,o1.int,o2.int,hC i j hc,k _ G H (Gw.refl _ _) I.le rfl⟩
  ·cases e
 ·cases e
theorem UY {g:Int→Int→Int}:cD K (WS fun i j=>.int (g i j)) (gI (fun _ _=>true) g):=by
 intro G₀ H₀ env σ G H v u d1 d2 val Q I o1 o2 e k;unfold gI at e;split at e
 ·rename_i i j;rw[sak rfl]at e;cases e;exact⟨i,j,o1.int,o2.int,k _ G H (Gw.refl _ _) I.le rfl⟩
 ·cases e
theorem sA {g:Int→Int→Bool}:cD K (WS fun i j=>.bl (g i j)) (Rc g):=by
 intro G₀ H₀ env σ G H v u d1 d2 val Q I o1 o2 e k;unfold Rc at e;split at e
 ·rename_i i j;cases e;exact⟨i,j,o1.int,o2.int,k _ G H (Gw.refl _ _) I.le rfl⟩
 ·cases e
end
noncomputable def nR (i:Int):Bool:=decide (-(2^64)<i)&&decide (i<2^64)
noncomputable def sY (i j:Int):Bool:=nR i ||nR j
noncomputable def Tz (i j:Int):Bool:=decide (0≤j)&&decide (j≤1000000)&&decide (i.natAbs<2^64)
@[simp] noncomputable def qm:=gI (fun _ _=>true) (· - ·)
@[simp] noncomputable def pI:=gI sY (· * ·)
@[simp] noncomputable def yQ:=gI (fun _ j=>decide (0<j)) (· % ·)
@[simp] noncomputable def Xz:=gI Tz (fun i j=>i^j.toNat)
@[simp] noncomputable def mO:=Rc fun i j=>decide (i<j)
@[simp] noncomputable def Q0:=Rc fun i j=>decide (i≤j)
@[simp] noncomputable def XE:=Rc fun i j=>decide (j<i)
@[simp] noncomputable def P3:=Rc fun i j=>decide (j≤i)
@[simp] noncomputable def yM:D→Out Val
  | .int i=>.ok (.p (.int (-i)))
  |_=>.bad
section
variable {X:Cx}{G₀ H₀:Hp}{pos:Pos}{a b:Expr}{fa fb:FE}
theorem w5 (ha:DE X G₀ H₀ a fa)(hb:DE X G₀ H₀ b fb):DE X G₀ H₀ (.BinOp a .Sub b pos) (f2 qm fa fb):=fS SI UY ha hb
theorem vR (ha:DE X G₀ H₀ a fa)(hb:DE X G₀ H₀ b fb):DE X G₀ H₀ (.BinOp a .Mult b pos) (f2 pI fa fb) :=
 fS SK (de fun i j h=>by
  simp only[sY,nR,sbX,saS,saD]at h
  exact h) ha hb
theorem yB (ha:DE X G₀ H₀ a fa)(hb:DE X G₀ H₀ b fb):DE X G₀ H₀ (.BinOp a .Mod b pos) (f2 yQ fa fb):=fS SL (de fun i j h=>scC h) ha hb
theorem Zz (ha:DE X G₀ H₀ a fa)(hb:DE X G₀ H₀ b fb):DE X G₀ H₀ (.BinOp a .Pow b pos) (f2 Xz fa fb) :=
 fS SJ (de fun i j h=>by
  simp only[Tz,saS,saD]at h
  exact⟨h.1.1,h.1.2,h.2⟩) ha hb
theorem QD (ha:DE X G₀ H₀ a fa)(hb:DE X G₀ H₀ b fb):DE X G₀ H₀ (.Compare a [.Lt] [b] pos) (f2 mO fa fb):=nB Yi sA ha hb (xx _)
theorem QE (ha:DE X G₀ H₀ a fa)(hb:DE X G₀ H₀ b fb):DE X G₀ H₀ (.Compare a [.LtE] [b] pos) (f2 Q0 fa fb):=nB Qf sA ha hb (xx _)
theorem QG (ha:DE X G₀ H₀ a fa)(hb:DE X G₀ H₀ b fb):DE X G₀ H₀ (.Compare a [.Gt] [b] pos) (f2 XE fa fb):=nB TY sA ha hb (xx _)
theorem QH (ha:DE X G₀ H₀ a fa)(hb:DE X G₀ H₀ b fb):DE X G₀ H₀ (.Compare a [.GtE] [b] pos) (f2 P3 fa fb):=nB Qg sA ha hb (xx _)
theorem xB (ha:DE X G₀ H₀ a fa):DE X G₀ H₀ (.UnaryOp .USub a pos) (f1 yM fa):=QB Si (by
 intro G₀ H₀ env σ G H v d1 val Q I o1 e k;unfold yM at e;split at e
 ·rename_i i;cases e;exact⟨i,o1.int,k _ G H (Gw.refl _ _) I.le rfl⟩
 ·cases e) ha
end
noncomputable def oC (_ j:Int):Bool:=decide (0<j)&&decide (j<2^250)
theorem W_ {X:Cx}:ow X (binaryOp .FloorDiv) (rI (fun _ j=>0<j∧j<2^250) fun i j=>.int (i / j)):=QY fun i j t u s Q E hc q=>by
 have hne:j≠0:=by lia
 refine floordiv_int hne ?_ (.inl (PyProof.noPylong_of_log2 ?_))
 ·rw[Int.fdiv_eq_ediv_of_nonneg _ (by lia)];exact q
 ·have h1:j.natAbs<2^9000:=sau (m:=2^250) (by have:=hc.2;lia) (Nat.pow_le_pow_right (by decide) (by decide));exact(Nat.log2_lt (by lia)).mpr h1
@[simp] noncomputable def v8:=gI oC (· / ·)
theorem vS {X:Cx}{G₀ H₀:Hp}{pos:Pos}{a b:Expr}{fa fb:FE}(ha:DE X G₀ H₀ a fa)(hb:DE X G₀ H₀ b fb):DE X G₀ H₀ (.BinOp a .FloorDiv b pos) (f2 v8 fa fb) :=
 fS W_ (de fun i j h=>by
  simp only[oC,saS,saD]at h
  exact h) ha hb
mutual
noncomputable def xw:D→PyData
 | .non=>.none
 | .bl b=>.bool b
 | .int i=>.int i
 | .tup ds=>.tuple (wy ds)
 | .l ds=>.list (wy ds)
 | .scr ns=>.list (ns.map .int)
 | .exc _ _=>.none
noncomputable def wy:List D→List PyData
 |[]=>[]
 |d::ds=>xw d::wy ds
end
noncomputable def nN (x y:D):Bool:=PyData.eqv (xw x) (xw y)
noncomputable def iK (xs ys:List D):Bool:=PyData.eqvAll (wy xs) (wy ys)
noncomputable def vE:Nat→D→Bool
 | 0,.tup _=>false
 | 0,.l _=>false
 | 0,_=>true
 |n+1,.tup ds=>ds.all (vE n)
 |n+1,.l ds=>ds.all (vE n)
 |_+1,_=>true
theorem bA:∀ns:List Int,PyData.canLayAll0 (ns.map .int)=true
 |[]=>by simp[PyData.canLayAll0]
 |n::ns=>by simp only[List.map_cons,PyData.canLayAll0,PyData.canLay0,bA ns,Bool.and_self]
mutual
theorem ng:∀d:D,(xw d).canLay0=true
 | .non=>by simp only[xw,PyData.canLay0]
 | .bl _=>by simp only[xw,PyData.canLay0]
 | .int _=>by simp only[xw,PyData.canLay0]
 | .tup ds=>by simp only[xw,PyData.canLay0,mj ds]
 | .l ds=>by simp only[xw,PyData.canLay0,mj ds]
 | .scr ns=>by simp only[xw,PyData.canLay0,bA ns]
 | .exc _ _=>by simp only[xw,PyData.canLay0]
theorem mj:∀ds:List D,PyData.canLayAll0 (wy ds)=true
 |[]=>by simp only[wy,PyData.canLayAll0]
 |d::ds=>by simp only[wy,PyData.canLayAll0,ng d,mj ds,Bool.and_self]
end
theorem iL:∀ns:List Int,PyData.depthAll (ns.map .int)=0
 |[]=>by simp[PyData.depthAll]
 |n::ns=>by simp[PyData.depthAll,PyData.depth,iL ns]
theorem lK {n:Nat}:∀ds:List D,(∀d∈ds,(xw d).depth≤n)→PyData.depthAll (wy ds)≤n
 |[],_=>by simp[wy,PyData.depthAll]
 | d::ds,h=>by
   simp only[wy,PyData.depthAll];exact Nat.max_le.mpr ⟨h d (by simp),lK ds fun x hx=>h x (by simp[hx])⟩
theorem rK:∀(n:Nat) (d:D),vE n d=true→(xw d).depth≤n+1
 |n,.non,_=>by simp[xw,PyData.depth]
 |n,.bl _,_=>by simp[xw,PyData.depth]
 |n,.int _,_=>by simp[xw,PyData.depth]
 |n,.scr ns,_=>by simp[xw,PyData.depth,iL ns]
 |n,.exc _ _,_=>by simp[xw,PyData.depth]
 | 0,.tup ds,h=>by simp[vE]at h
 | 0,.l ds,h=>by simp[vE]at h
 | n+1,.tup ds,h=>by
   simp only[xw,PyData.depth];have:=lK (n:=n+1) ds fun d hd=>rK n d (scu.mp (by simpa[vE]using h) d hd);lia
 | n+1,.l ds,h=>by
   simp only[xw,PyData.depth];have:=lK (n:=n+1) ds fun d hd=>rK n d (scu.mp (by simpa[vE]using h) d hd);lia
section
variable {X:Cx}{pins:List (Addr×Obj)}{σ:St}{G H:Hp}{s:Shared}
theorem jT {h:Heap}:∀{ns:List Int} {us:List Value},ym (ns.map V.int) us→∃as,ReadsAll h us (ns.map .int) as
 |[],us,r=>by cases r;exact⟨[],.nil⟩
 | n::ns,us,r=>by
   cases r with
   | cons r1 r2=>
     obtain⟨t,rfl⟩:=r1;obtain⟨as,q⟩:=jT r2;exact⟨_,.cons (.int n t) q⟩
mutual
theorem bf (I:Inv X pins σ H s)(l:zI G H):∀{d:D} {v:V} {u:Value},kH X.K G d v→yS v u→∃as,Reads s.heap u (xw d) as
 | .non,v,u,h,r=>by cases(show v=.non from h);cases(show u=.none from r);exact⟨[],by simp only[xw];exact .none⟩
 | .bl b,v,u,h,r=>by cases(show v=.bl b from h);cases(show u=.bool b from r);exact⟨[],by simp only[xw];exact .bool b⟩
 | .int i,v,u,h,r=>by
   cases(show v=.int i from h)
   obtain⟨t,rfl⟩:=(show ∃t,u=.int i t from r)
   exact⟨[],by simp only[xw];exact .int i t⟩
 | .tup ds,v,u,h,r=>by
   obtain⟨a,vs,rfl,g,q⟩:=h;cases(show u=.ref a from r);obtain⟨_,its,rv,ob,e,c,n,dd⟩:=I.hok a _ (l _ _ g);obtain⟨as,z⟩:=p_ I l q rv;exact⟨as,by simp only[xw];exact .tuple e c dd (by simpa using z)⟩
 | .l ds,v,u,h,r=>by
   obtain⟨a,vs,rfl,g,q⟩:=h;cases(show u=.ref a from r);obtain⟨_,its,n,rv,e⟩:=I.hok a _ (l _ _ g);obtain⟨as,z⟩:=p_ I l q rv;exact⟨a::as,by simp only[xw];exact .list e rfl rfl (by simpa using z)⟩
 | .scr ns,v,u,h,r=>by
   obtain⟨a,rfl,q⟩:=h;cases(show u=.ref a from r);obtain⟨its,rv,⟨o,n,e,c,_,dd⟩,_⟩:=I.list (l.seq q);obtain⟨as,z⟩:=jT (h:=s.heap) rv;exact⟨a::as,by simp only[xw];exact .list e c dd (by simpa using z)⟩
 | .exc _ _,_,_,h,_=>h.elim
theorem p_ (I:Inv X pins σ H s)(l:zI G H):∀{ds:List D} {vs:List V} {us:List Value},zO X.K G ds vs→ym vs us→∃as,ReadsAll s.heap us (wy ds) as
 | [],vs,us,h,r=>by
   cases(show vs=[]from h);cases r;exact⟨[],by simp only[wy];exact .nil⟩
 | d::ds,vs,us,h,r=>by
   obtain⟨v,vr,rfl,h1,h2⟩:=h
   cases r with
   | cons r1 r2=>
     obtain⟨as,q1⟩:=bf I l h1 r1;obtain⟨bs,q2⟩:=p_ I l h2 r2;exact⟨as++bs,by simp only[wy];exact .cons q1 q2⟩
end
end
noncomputable def RN (K:Frag)(H:Hp)(v:V)(d:D):Prop:=(∃G,zI G H∧kH K G d v)∨∃a vs G ds,d=.l ds∧v=.ref a∧H a=some (.l vs)∧zI G H∧zO K G ds vs
theorem ur.rdv {K:Frag}{G₀ H₀ G H:Hp}{env:Ev}{σ:St}{v:V}{d:D}(I:DI K G₀ H₀ env σ G H)(h:ur K env σ G v d):RN K H v d:=by
 rcases h with h|⟨i,ds,a,e1,e2,e3,e4⟩
 ·exact .inl ⟨G,I.le,h⟩
 ·subst e1;obtain⟨a',vs,e,h1,h2⟩:=ur.l I (.inr ⟨i,ds,a,rfl,e2,e3,e4⟩);exact .inr ⟨a',vs,G,ds,rfl,e,h1,I.le,h2⟩
theorem vw {X:Cx}{pins:List (Addr×Obj)}{σ:St}{H:Hp}{s:Shared}{v:V}{u:Value}{d:D}(I:Inv X pins σ H s)(h:RN X.K H v d)(r:yS v u):∃as,Reads s.heap u (xw d) as:=by
 rcases h with⟨G,l,h⟩|⟨a,vs,G,ds,rfl,rfl,g,l,q⟩
 ·exact bf I l h r
 ·cases(show u=.ref a from r);obtain⟨_,its,n,rv,e⟩:=I.hok a _ g;obtain⟨as,z⟩:=p_ I l q rv;exact⟨a::as,by simp only[xw];exact .list e rfl rfl (by simpa using z)⟩
noncomputable def WT (K:Frag)(neg:Bool):R2:=fun x y H Q=>∃d1 d2,RN K H x d1∧RN K H y d2∧(vE 4 d1 ||vE 4 d2)=true∧Q (.bl (if neg then !nN d1 d2 else nN d1 d2)) H
theorem Z6 {u:Nat}{d1 d2:D}(hu:u+20<cLine)(hs:(vE 4 d1 ||vE 4 d2)=true):u+min (xw d1).depth (xw d2).depth<cLine:=by
 rw[sbX]at hs
 rcases hs with h|h
 ·have:=rK 4 d1 h;have:=Nat.min_le_left (xw d1).depth (xw d2).depth;lia
 ·have:=rK 4 d2 h;have:=Nat.min_le_right (xw d1).depth (xw d2).depth;lia
theorem Va {X:Cx}(hu:X.A.units+20<cLine):ow X (compareOp .Eq) (WT X.K false):=by
 intro pins s σ H x y v u Q I rx ry h;obtain⟨d1,d2,h1,h2,hs,q⟩:=h;obtain⟨as,ra⟩:=vw I h1 rx;obtain⟨bs,rb⟩:=vw I h2 ry;exact SeqAt.compareEq_reads ra rb (ng d1) (ng d2) (Z6 hu hs) ⟨.bl _,H,I,rfl,q⟩
theorem aU {X:Cx}(hu:X.A.units+20<cLine):ow X (compareOp .NotEq) (WT X.K true):=by
 intro pins s σ H x y v u Q I rx ry h;obtain⟨d1,d2,h1,h2,hs,q⟩:=h;obtain⟨as,ra⟩:=vw I h1 rx;obtain⟨bs,rb⟩:=vw I h2 ry;exact SeqAt.compareNe_reads ra rb (ng d1) (ng d2) (Z6 hu hs) ⟨.bl _,H,I,rfl,q⟩
@[simp] noncomputable def nM:D→D→Out Val:=fun x y=>if(vE 4 x ||vE 4 y)=true then .ok (.p (.bl (nN x y)))else .bad
@[simp] noncomputable def oB:D→D→Out Val:=fun x y=>if(vE 4 x ||vE 4 y)=true then .ok (.p (.bl (!nN x y)))else .bad
theorem T3 {K:Frag}:cD K (WT K false) nM:=by
 intro G₀ H₀ env σ G H v u d1 d2 val Q I o1 o2 e k;unfold nM at e;split at e
 ·rename_i hs;cases e;exact⟨d1,d2,o1.rdv I,o2.rdv I,hs,k _ G H (Gw.refl _ _) I.le rfl⟩
 ·cases e
theorem TZ {K:Frag}:cD K (WT K true) oB:=by
 intro G₀ H₀ env σ G H v u d1 d2 val Q I o1 o2 e k;unfold oB at e;split at e
 ·rename_i hs;cases e;exact⟨d1,d2,o1.rdv I,o2.rdv I,hs,k _ G H (Gw.refl _ _) I.le rfl⟩
 ·cases e
noncomputable def UH (K:Frag)(neg:Bool):R2:=fun x y H Q=>∃d ds,RN K H x d∧RN K H y (.l ds)∧vE 4 d=true∧Q (.bl (if neg then !ds.any (fun z=>nN z d)else ds.any (fun z=>nN z d))) H
theorem lV (d:D):∀ds:List D,(wy ds).any (fun y=>PyData.eqv y (xw d))=ds.any (fun z=>nN z d)
 |[]=>by simp[wy]
 |x::ds=>by simp only[wy,List.any_cons,lV d ds];rfl
theorem SM {X:Cx}(hu:X.A.units+20<cLine):ow X (compareOp .In) (UH X.K false):=by
 intro pins s σ H x y v u Q I rx ry h;obtain⟨d,ds,h1,h2,hs,q⟩:=h;obtain⟨as,ra⟩:=vw I h1 rx;obtain⟨bs,rb⟩:=vw I h2 ry;simp only[xw]at rb;refine SeqAt.in_list_reads rb ra (mj ds) (ng d) ?_ ⟨.bl _,H,I,rfl,?_⟩
 ·have:=rK 4 d hs;have:=Nat.min_le_right (PyData.depthAll (wy ds)) (xw d).depth;lia
 ·rw[lV];exact q
theorem US {X:Cx}(hu:X.A.units+20<cLine):ow X (compareOp .NotIn) (UH X.K true):=by
 intro pins s σ H x y v u Q I rx ry h;obtain⟨d,ds,h1,h2,hs,q⟩:=h;obtain⟨as,ra⟩:=vw I h1 rx;obtain⟨bs,rb⟩:=vw I h2 ry;simp only[xw]at rb;refine SeqAt.notIn_list_reads rb ra (mj ds) (ng d) ?_ ⟨.bl _,H,I,rfl,?_⟩
 ·have:=rK 4 d hs;have:=Nat.min_le_right (PyData.depthAll (wy ds)) (xw d).depth;lia
 ·rw[lV];exact q
@[simp] noncomputable def h_:D→D→Out Val
  |x,.l ds=>if vE 4 x=true then .ok (.p (.bl (ds.any fun z=>nN z x)))else .bad
  |_,_=>.bad
@[simp] noncomputable def XA:D→D→Out Val
  |x,.l ds=>if vE 4 x=true then .ok (.p (.bl (!ds.any fun z=>nN z x)))else .bad
  |_,_=>.bad
theorem Qj {K:Frag}:cD K (UH K false) h_:=by
 intro G₀ H₀ env σ G H v u d1 d2 val Q I o1 o2 e k;unfold h_ at e;split at e
 ·split at e
  ·rename_i hs;cases e;exact⟨_,_,o1.rdv I,o2.rdv I,hs,k _ G H (Gw.refl _ _) I.le rfl⟩
  ·cases e
 ·cases e
theorem SR {K:Frag}:cD K (UH K true) XA:=by
 intro G₀ H₀ env σ G H v u d1 d2 val Q I o1 o2 e k;unfold XA at e;split at e
 ·split at e
  ·rename_i hs;cases e;exact⟨_,_,o1.rdv I,o2.rdv I,hs,k _ G H (Gw.refl _ _) I.le rfl⟩
  ·cases e
 ·cases e
@[simp] noncomputable def XD:D→D→Out Val
  | .non,.non=>.ok (.p (.bl true))
  | .int _,.non=>.ok (.p (.bl false))
  | .bl _,.non=>.ok (.p (.bl false))
  | .tup _,.non=>.ok (.p (.bl false))
  | .l _,.non=>.ok (.p (.bl false))
  |_,_=>.bad
@[simp] noncomputable def uV:D→D→Out Val
  | .non,.non=>.ok (.p (.bl false))
  | .int _,.non=>.ok (.p (.bl true))
  | .bl _,.non=>.ok (.p (.bl true))
  | .tup _,.non=>.ok (.p (.bl true))
  | .l _,.non=>.ok (.p (.bl true))
  |_,_=>.bad
theorem SU {K:Frag}:cD K (fun x y H Q=>y=.non∧Q (.bl (decide (x=.non))) H) XD:=by
 intro G₀ H₀ env σ G H v u d1 d2 val Q I o1 o2 e k;unfold XD at e;split at e
 ·cases e;refine⟨o2.non,?_⟩;rw[o1.non];exact k _ G H (Gw.refl _ _) I.le rfl
 ·cases e;refine⟨o2.non,?_⟩;rw[o1.int];exact k _ G H (Gw.refl _ _) I.le rfl
 ·cases e;refine⟨o2.non,?_⟩;rw[o1.bl];exact k _ G H (Gw.refl _ _) I.le rfl
 ·cases e;refine⟨o2.non,?_⟩;obtain⟨a,_,rfl,_⟩:=ur.tup I o1;exact k _ G H (Gw.refl _ _) I.le rfl
 ·cases e;refine⟨o2.non,?_⟩;obtain⟨a,_,rfl,_⟩:=ur.l I o1;exact k _ G H (Gw.refl _ _) I.le rfl
 ·cases e
theorem Yk {K:Frag}:cD K (fun x y H Q=>y=.non∧Q (.bl (!decide (x=.non))) H) uV:=by
 intro G₀ H₀ env σ G H v u d1 d2 val Q I o1 o2 e k;unfold uV at e;split at e
 ·cases e;refine⟨o2.non,?_⟩;rw[o1.non];exact k _ G H (Gw.refl _ _) I.le rfl
 ·cases e;refine⟨o2.non,?_⟩;rw[o1.int];exact k _ G H (Gw.refl _ _) I.le rfl
 ·cases e;refine⟨o2.non,?_⟩;rw[o1.bl];exact k _ G H (Gw.refl _ _) I.le rfl
 ·cases e;refine⟨o2.non,?_⟩;obtain⟨a,_,rfl,_⟩:=ur.tup I o1;exact k _ G H (Gw.refl _ _) I.le rfl
 ·cases e;refine⟨o2.non,?_⟩;obtain⟨a,_,rfl,_⟩:=ur.l I o1;exact k _ G H (Gw.refl _ _) I.le rfl
 ·cases e
section
variable {X:Cx}{G₀ H₀:Hp}{pos:Pos}{a b:Expr}{fa fb:FE}
theorem YI (hu:X.A.units+20<cLine)(ha:DE X G₀ H₀ a fa)(hb:DE X G₀ H₀ b fb):DE X G₀ H₀ (.Compare a [.Eq] [b] pos) (f2 nM fa fb):=nB (Va hu) T3 ha hb (xx _)
theorem QC (hu:X.A.units+20<cLine)(ha:DE X G₀ H₀ a fa)(hb:DE X G₀ H₀ b fb):DE X G₀ H₀ (.Compare a [.NotEq] [b] pos) (f2 oB fa fb):=nB (aU hu) TZ ha hb (xx _)
theorem dR (ha:DE X G₀ H₀ a fa)(hb:DE X G₀ H₀ b fb):DE X G₀ H₀ (.Compare a [.IsNot] [b] pos) (f2 uV fa fb):=nB Yh Yk ha hb (xx _)
end
@[simp] noncomputable def y9:D→D→Out Val
  | .int i,.int j=>.ok (.p (.int (i+j)))
  | .l xs,.l ys=>if xs.length+ys.length≤100000 then .ok (.fresh (xs++ys))else .bad
  |_,_=>.bad
theorem jk {n:Nat}(h:n≤100000):n≤sizeLine:=by rw[sizeLine_eq];lia
theorem SV {K:Frag}:cD K (fun x y H Q=>WS (fun i j=>.int (i+j)) x y H Q∨R8 x y H Q) y9:=by
 intro G₀ H₀ env σ G H v u d1 d2 val Q I o1 o2 e k;unfold y9 at e;split at e
 ·rename_i i j;cases e;exact .inl ⟨i,j,o1.int,o2.int,k _ G H (Gw.refl _ _) I.le rfl⟩
 ·rename_i xs ys;split at e
  ·rename_i hz;cases e;obtain⟨a,vs,e1,h1,r1⟩:=ur.l I o1;obtain⟨b,us,e2,h2,r2⟩:=ur.l I o2;refine .inr ⟨a,b,vs,us,e1,e2,h1,h2,jk (by rw[←r1.length,←r2.length];exact hz),fun p hp=>?_⟩;have g:=Gw.laidL (o:=.l (vs++us)) I.le hp;exact k _ G _ g.1 g.2 (jw I.le hp (r1.append r2))
  ·cases e
 ·cases e
theorem xD {X:Cx}{G₀ H₀:Hp}{pos:Pos}{a b:Expr}{fa fb:FE}(ha:DE X G₀ H₀ a fa)(hb:DE X G₀ H₀ b fb):DE X G₀ H₀ (.BinOp a .Add b pos) (f2 y9 fa fb):=fS (SO.or SN) SV ha hb
@[simp] noncomputable def zT:D→D→Out Val
  | .tup ds,.int i=>match sZ ds i with|some d=>.ok (.p d)|none=>.bad
  | .l ds,.int i=>match sZ ds i with|some d=>.ok (.p d)|none=>.bad
  | .scr ns,.int i=>match sZ ns i with|some n=>.ok (.p (.int n))|none=>.bad
  |_,_=>.bad
theorem YO {K:Frag}{G:Hp}{ds:List D}{vs:List V}{i:Int}{d:D}(r:zO K G ds vs)(h:sZ ds i=some d):∃v,sZ vs i=some v∧kH K G d v:=by
 unfold sZ at h ⊢;rw[←r.length]
 cases q:U_ ds.length i with
 |none=>rw[q]at h;cases h
 | some j=>
   rw[q]at h;obtain⟨v,h1,h2⟩:=r.get (i:=j) (d:=d) h;exact⟨v,h1,h2⟩
theorem TF {α β:Type}(f:α→β)(xs:List α)(i:Int):sZ (xs.map f) i=(sZ xs i).map f:=by
 unfold sZ;rw[sac]
 cases U_ xs.length i with
 |none=>rfl
 |some j=>simp
theorem Qi {K:Frag}:cD K (fun x y H Q=>Sy K x y H Q∨Sw K x y H Q∨Sx x y H Q) zT:=by
 intro G₀ H₀ env σ G H v u d1 d2 val Q I o1 o2 e k;unfold zT at e;split at e
 ·rename_i ds i;split at e
  ·rename_i d hd;cases e;obtain⟨a,vs,e1,h1,r1⟩:=ur.tup I o1;obtain⟨w,hw,rw'⟩:=YO r1 hd;exact .inr (.inl ⟨a,vs,i,w,e1,o2.int,av.of h1,hw,k w G H (Gw.refl _ _) I.le rw'⟩)
  ·cases e
 ·rename_i ds i;split at e
  ·rename_i d hd;cases e;obtain⟨a,vs,e1,h1,r1⟩:=ur.l I o1;obtain⟨w,hw,rw'⟩:=YO r1 hd;exact .inl ⟨a,vs,i,w,e1,o2.int,wx.of h1,hw,k w G H (Gw.refl _ _) I.le rw'⟩
  ·cases e
 ·rename_i ns i;split at e
  ·rename_i n hn;cases e;obtain⟨a,e1,h1⟩:=ur.scr I o1;exact .inl ⟨a,ns.map V.int,i,.int n,e1,o2.int,h1,by rw[TF,hn];rfl,k (.int n) G H (Gw.refl _ _) I.le rfl⟩
  ·cases e
 ·cases e
theorem zC {X:Cx}{G₀ H₀:Hp}{pos:Pos}{a b:Expr}{fa fb:FE}(ha:DE X G₀ H₀ a fa)(hb:DE X G₀ H₀ b fb)(hs:cx b:=by intro _ _;rfl):DE X G₀ H₀ (.Subscript a b pos) (f2 zT fa fb):=QF S4 Qi ha hb hs
noncomputable def sV (xs:List D)(lo hi:Option Int):List D:=(xs.drop (HT.sIx xs.length 0 lo)).take (HT.sIx xs.length xs.length hi - HT.sIx xs.length 0 lo)
theorem YK {K:Frag}{G:Hp}{ds:List D}{vs:List V}(lo hi:Option Int)(r:zO K G ds vs):zO K G (sV ds lo hi) (gz vs lo hi):=by
 unfold sV gz;rw[r.length];exact(r.drop _).take _
noncomputable abbrev FO:=Ev→Out (Option Int)
@[simp] noncomputable def jn:FO:=fun _=>.ok none
@[simp] noncomputable def mQ (f:FE):FO:=fun env=>(f env).bind fun v=>match v.d with
  | .int i=>.ok (some i)
  |_=>.bad
noncomputable def tO (K:Frag)(G₀ H₀:Hp)(f:FO):TO:=fun σ H Q=>∃env G o,DI K G₀ H₀ env σ G H∧f env=.ok o∧∀G' H',Gw G H G' H'→zI G' H'→Q o H'
noncomputable def DO (X:Cx)(G₀ H₀:Hp)(e:Option Expr)(f:FO):Prop:=PO X e (tO X.K G₀ H₀ f)
section
variable {X:Cx}{G₀ H₀:Hp}{pos p2:Pos}{a e:Expr}{lo hi:Option Expr}{fa f:FE}{fl fh:FO}
theorem xM:DO X G₀ H₀ none jn:=fun pins s σ H Q I q=>UM pins s σ H Q I (by
 obtain⟨env,G,o,J,h,k⟩:=q;cases h
 exact k G H (Gw.refl _ _) J.le)
theorem xi (h:DE X G₀ H₀ e f):DO X G₀ H₀ (some e) (mQ f):=fun pins s σ H Q I q=>UL h pins s σ H Q I (by
 obtain⟨env,G,o,J,h,k⟩:=q;obtain⟨x,e1,h⟩:=zv h;refine vZ J e1 fun v G' H' g l J' ov=>?_;split at h
 ·rename_i i hi;cases h;rw[hi]at ov;exact⟨i,ov.int,k G' H' g l⟩
 ·cases h)
@[simp] noncomputable def Oy:D→Option Int→Option Int→Out Val
  | .l ds,lo,hi=>.ok (.fresh (sV ds lo hi))
  | .tup ds,lo,hi=>if HT.sIx ds.length 0 lo=0∧HT.sIx ds.length ds.length hi=ds.length then .bad else .ok (.p (.tup (sV ds lo hi)))
  |_,_,_=>.bad
@[simp] noncomputable def ku (fa:FE)(fl fh:FO):FE:=fun env=>(fa env).bind fun x=>(fl env).bind fun l=>(fh env).bind fun h=>Oy x.d l h
theorem uG (ha:DE X G₀ H₀ a fa)(hl:DO X G₀ H₀ lo fl)(hh:DO X G₀ H₀ hi fh):DE X G₀ H₀ (.Subscript a (.Slice lo hi none p2) pos) (ku fa fl fh) :=
 (W5 (UA.or Sn) ha hl hh).imp fun σ H Q q=>by
  obtain⟨env,G,val,I,e,k⟩:=q;obtain⟨x,e1,e⟩:=zv e;obtain⟨l,e2,e⟩:=zv e;obtain⟨h,e3,e⟩:=zv e
  refine vZ I e1 fun v G1 H1 g1 l1 I1 o1=>⟨env,G1,l,I1,e2,fun G2 H2 g2 l2=>⟨env,G2,h,I1.grow g2 l2,e3,fun G3 H3 g3 l3=>?_⟩⟩
  have I3:=(I1.grow g2 l2).grow g3 l3;have o3:=(o1.mono g2.g).mono g3.g;have g03:=(g1.trans g2).trans g3;generalize x.d=dx at e o3
  cases dx with
  | l ds=>
    cases e;obtain⟨a',vs,ev,h1,r1⟩:=ur.l I3 o3;refine .inl ⟨a',vs,ev,wx.of h1,fun p hp=>?_⟩;have g:=Gw.laidL (o:=.l (gz vs l h)) l3 hp;exact k _ G3 _ (g03.trans g.1) g.2 ((jw l3 hp (YK l h r1)).base g03.h)
  | tup ds=>
    have e':(if HT.sIx ds.length 0 l=0∧HT.sIx ds.length ds.length h=ds.length then Out.bad else Out.ok (.p (.tup (sV ds l h))))=Out.ok val:=e;split at e'
    ·cases e'
    ·rename_i hw;cases e';obtain⟨a',vs,ev,h1,r1⟩:=ur.tup I3 o3;refine .inr ⟨a',vs,ev,av.of h1,by rw[←r1.length];exact hw,fun p hp=>?_⟩;have g:=Gw.laidT (o:=.tup (gz vs l h)) l3 hp;exact k _ _ _ (g03.trans g.1) g.2 ((Wn l3 hp (YK l h r1)).base g03.h)
  |non=>cases e
  |bl b=>cases e
  |int i=>cases e
  |scr ns=>cases e
  |exc c p=>cases e
end
@[simp] noncomputable def zB:Ev→Out (List Val):=fun _=>.ok []
@[simp] noncomputable def frz:Val→Val
  | .fresh ds=>.p (.l ds)
  |v=>v
@[simp] noncomputable def zi (f:FE)(r:Ev→Out (List Val)):Ev→Out (List Val):=fun env=>(f env).bind fun x=>(r env).bind fun xs=>.ok (frz x::xs)
@[simp] noncomputable def yj:Ev→Out (List D):=fun _=>.ok []
@[simp] noncomputable def zK (f:FE)(r:Ev→Out (List D)):Ev→Out (List D):=fun env=>(f env).bind fun x=>x.hold.bind fun d=>(r env).bind fun xs=>.ok (d::xs)
section
variable {K:Frag}{env:Ev}{σ:St}{G G':Hp}
theorem hJ.mono {v:V}{x:Val}(h:hJ K env σ G v x)(s:zI G G'):hJ K env σ G' v x:=by
 cases x with
 |p d=>exact kH.mono s h
 |fresh ds=>exact h
 |brw i ds=>exact h
theorem V9 {val:Val}{v:V}{H H':Hp}(g:Gw G H G' H')(l:zI G' H')(h:sI K H env σ G' H' v val):∃G'',Gw G H G'' H'∧zI G'' H'∧hJ K env σ G'' v (frz val):=by
 cases val with
 |p d=>exact⟨G',g,l,h⟩
 |brw i ds=>exact⟨G',g,l,h⟩
 |fresh ds=>exact kQ g l h rfl
theorem hJ.opd {v:V}{x:Val}(h:hJ K env σ G v x):ur K env σ G v x.d:=by
 cases x with
 |p d=>exact .inl h
 |fresh ds=>exact h.elim
 |brw i ds=>obtain⟨a,e1,e2,e3⟩:=h;exact .inr ⟨i,ds,a,rfl,e1,e2,e3⟩
end
section
variable {X:Cx}{G₀ H₀:Hp}{pos:Pos}{e:Expr}{es:List Expr}{f:FE}{r:Ev→Out (List Val)}{rh:Ev→Out (List D)}
theorem VS:DA X G₀ H₀ [] zB:=yw.imp fun σ H Q q=>by
 obtain⟨env,G,vals,I,h,k⟩:=q;cases h;exact k [] G H (Gw.refl _ _) I.le rfl
theorem qt (he:DE X G₀ H₀ e f)(hr:DA X G₀ H₀ es r)(hs:starEach (e::es) X.env=(false,eval e X.env)::starEach es X.env:=by rfl):DA X G₀ H₀ (e::es) (zi f r) :=
 (zM he hr hs).imp fun σ H Q q=>by
  obtain⟨env,G,vals,I,h,k⟩:=q;obtain⟨x,e1,h⟩:=zv h;obtain⟨xs,e2,h⟩:=zv h;cases h;refine⟨env,G,x,I,e1,fun v G1 H1 g1 l1 o1=>?_⟩;obtain⟨G2,g2,l2,a2⟩:=V9 g1 l1 o1;exact⟨env,G2,xs,I.grow g2 l2,e2,fun vs G3 H3 g3 l3 a3=>k (v::vs) G3 H3 (g2.trans g3) l3 ⟨_,_,rfl,a2.mono g3.g,a3⟩⟩
theorem z0:DH X G₀ H₀ [] yj:=yw.imp fun σ H Q q=>by
 obtain⟨env,G,vals,I,h,k⟩:=q;cases h;exact k [] G H (Gw.refl _ _) I.le rfl
theorem zG (he:DE X G₀ H₀ e f)(hr:DH X G₀ H₀ es rh)(hs:starEach (e::es) X.env=(false,eval e X.env)::starEach es X.env:=by rfl):DH X G₀ H₀ (e::es) (zK f rh) :=
 (zM he hr hs).imp fun σ H Q q=>by
  obtain⟨env,G,vals,I,h,k⟩:=q;obtain⟨x,e1,h⟩:=zv h;obtain⟨d,ed,h⟩:=zv h;obtain⟨xs,e2,h⟩:=zv h;cases h;refine⟨env,G,x,I,e1,fun v G1 H1 g1 l1 o1=>?_⟩;obtain⟨G2,g2,l2,a2⟩:=kQ g1 l1 o1 ed;exact⟨env,G2,xs,I.grow g2 l2,e2,fun vs G3 H3 g3 l3 a3=>k (v::vs) G3 H3 (g2.trans g3) l3 (zO.cons (a2.mono g3.g) a3)⟩
@[simp] noncomputable def uC (r:Ev→Out (List D)):FE:=fun env=>(r env).bind fun ds=>if ds.length≤1000 then .ok (.p (.tup ds))else .bad
@[simp] noncomputable def xV (r:Ev→Out (List D)):FE:=fun env=>(r env).bind fun ds=>if ds.length≤1000 then .ok (.fresh ds)else .bad
theorem xA {x1}(h:DH X G₀ H₀ es rh):DE X G₀ H₀ (.Tuple es x1 pos) (uC rh):=(SE h).imp fun σ H Q q=>by
 obtain⟨env,G,val,I,e,k⟩:=q;obtain⟨ds,e1,e⟩:=zv e;split at e
 ·rename_i hz;cases e;refine⟨env,G,ds,I,e1,fun vs G1 H1 g1 l1 r1=>⟨jk (by rw[←r1.length];lia),fun p hp=>?_⟩⟩;have g:=Gw.laidT (o:=.tup vs) l1 hp;exact k _ _ _ (g1.trans g.1) g.2 ((Wn l1 hp r1).base g1.h)
 ·cases e
theorem xC (h:DH X G₀ H₀ es rh):DE X G₀ H₀ (.List es pos) (xV rh):=(eX h).imp fun σ H Q q=>by
 obtain⟨env,G,val,I,e,k⟩:=q;obtain⟨ds,e1,e⟩:=zv e;split at e
 ·rename_i hz;cases e;refine⟨env,G,ds,I,e1,fun vs G1 H1 g1 l1 r1=>⟨jk (by rw[←r1.length];lia),fun p hp=>?_⟩⟩;have g:=Gw.laidL (o:=.l vs) l1 hp;exact k _ _ _ (g1.trans g.1) g.2 ((jw l1 hp r1).base g1.h)
 ·cases e
end
noncomputable def ej (K:Frag)(r:List V→Hp→VK→Prop)(g:List D→Out Val):Prop :=
 ∀ (G₀ H₀:Hp) (env:Ev) (σ:St) (G H:Hp) (vs:List V) (xs:List Val) (val:Val) (Q:VK),DI K G₀ H₀ env σ G H→qG K env σ G vs xs→g (xs.map Val.d)=.ok val →
   (∀w G' H',Gw G H G' H'→zI G' H'→sI K H env σ G' H' w val→Q w H')→r vs H Q
@[simp] noncomputable def fB (g:List D→Out Val)(r:Ev→Out (List Val)):FE:=fun env=>(r env).bind fun xs=>g (xs.map Val.d)
section
variable {X:Cx}{G₀ H₀:Hp}{x:Str}{p pos:Pos}{e:Expr}{es:List Expr}{f:Ev→Out (List Val)}{id T:String}{r:List V→Hp→VK→Prop}{g:List D→Out Val}
theorem Pp (hd:ej X.K r g)(σ:St)(H:Hp)(Q:VK)(q:tE X.K G₀ H₀ (fB g f) σ H Q):RJ r (tA X.K G₀ H₀ f) σ H Q:=by
 obtain⟨env,G,val,I,e,k⟩:=q;obtain⟨xs,e1,e⟩:=zv e;exact⟨env,G,xs,I,e1,fun vs G1 H1 g1 l1 a1=>hd G₀ H₀ env σ G1 H1 vs xs val Q (I.grow g1 l1) a1 e fun w G2 H2 g2 l2 h2=>k w G2 H2 (g1.trans g2) l2 (h2.base g1.h)⟩
theorem yt (hc:rP X (.builtin id) r)(hd:ej X.K r g)(hm:X.mg x=none)(hv:bootBuiltins x=some (.builtin id))(ha:DA X G₀ H₀ (e::es) f)(hg:Gl X x:=by rfl)(hn:x ≠ "__name__" :=by decide) (hdb:(x == ("__debug__" : Str))=false:=by decide)
 (he:starEach (e::es) X.env=(false,eval e X.env)::starEach es X.env:=by rfl) (hpl:(backTo pos (starEach es X.env)).any (·.1)=false:=by rfl):DE X G₀ H₀ (.Call (.Name x p) (e::es) [] pos) (fB g f) :=
 (ux hc hg hm hv ha hn hdb he hpl).imp (Pp hd)
end
theorem kG {K:Frag}{env:Ev}{σ:St}{G:Hp}{vs:List V}{xs:List Val}{d:D}(h:qG K env σ G vs xs)(e:xs.map Val.d=[d]):∃v,vs=[v]∧ur K env σ G v d:=by
 cases vs with
 |nil=>cases(show xs=[]from h);cases e
 | cons v vs=>
   obtain⟨x,r,rfl,h1,h2⟩:=h;simp only[List.map_cons,List.cons.injEq,List.map_eq_nil_iff]at e;obtain⟨rfl,rfl⟩:=e
   cases vs with
   |nil=>exact⟨v,rfl,h1.opd⟩
   |cons v' vs=>obtain⟨_,_,e,_⟩:=h2;cases e
theorem QN {K:Frag}{env:Ev}{σ:St}{G:Hp}{vs:List V}{xs:List Val}{d d':D}(h:qG K env σ G vs xs)(e:xs.map Val.d=[d,d']):∃v v',vs=[v,v']∧ur K env σ G v d∧ur K env σ G v' d':=by
 cases vs with
 |nil=>cases(show xs=[]from h);cases e
 | cons v vs=>
   obtain⟨x,r,rfl,h1,h2⟩:=h;simp only[List.map_cons,List.cons.injEq]at e;obtain⟨rfl,e⟩:=e;obtain⟨v',rfl,o⟩:=kG h2 e;exact⟨v,v',rfl,h1.opd,o⟩
@[simp] noncomputable def vp:List D→Out Val
  |[.l ds]=>.ok (.p (.int ds.length))
  |[.tup ds]=>.ok (.p (.int ds.length))
  |[.scr ns]=>.ok (.p (.int ns.length))
  |_=>.bad
theorem wK {K:Frag}:ej K (fun xs H Q=>∃p ys,xs=[.ref p]∧(wx K H p ys∨av K H p ys)∧Q (.int ys.length) H) vp:=by
 intro G₀ H₀ env σ G H vs xs val Q I a e k;unfold vp at e;split at e
 ·rename_i ds hx;cases e;obtain⟨v,rfl,o⟩:=kG a hx;obtain⟨p,us,rfl,h1,r1⟩:=ur.l I o;refine⟨p,us,rfl,.inl (wx.of h1),?_⟩;rw[←r1.length];exact k _ G H (Gw.refl _ _) I.le rfl
 ·rename_i ds hx;cases e;obtain⟨v,rfl,o⟩:=kG a hx;obtain⟨p,us,rfl,h1,r1⟩:=ur.tup I o;refine⟨p,us,rfl,.inr (av.of h1),?_⟩;rw[←r1.length];exact k _ G H (Gw.refl _ _) I.le rfl
 ·rename_i ns hx;cases e;obtain⟨v,rfl,o⟩:=kG a hx;obtain⟨p,rfl,h1⟩:=ur.scr I o;refine⟨p,_,rfl,.inl h1,?_⟩;rw[sac];exact k _ G H (Gw.refl _ _) I.le rfl
 ·cases e
@[simp] noncomputable def Yw:List D→Out Val
  |[.int i,.int j]=>.ok (.p (.int (if j<i then j else i)))
  |_=>.bad
theorem Tv {K:Frag}:ej K (fun xs H Q=>∃i j,xs=[.int i,.int j]∧Q (.int (if j<i then j else i)) H) Yw:=by
 intro G₀ H₀ env σ G H vs xs val Q I a e k;unfold Yw at e;split at e
 ·rename_i i j hx;cases e;obtain⟨v,v',rfl,o,o'⟩:=QN a hx;exact⟨i,j,by rw[o.int,o'.int],k _ G H (Gw.refl _ _) I.le rfl⟩
 ·cases e
@[simp] noncomputable def TQ:D→Out Bool
  | .non=>.ok false
  | .bl b=>.ok b
  | .int i=>.ok (i != 0)
  | .l ds=>.ok (!ds.isEmpty)
  | .tup ds=>.ok (!ds.isEmpty)
  |_=>.bad
@[simp] noncomputable def oh (f:FE):FT:=fun env=>(f env).bind fun x=>TQ x.d
@[simp] noncomputable def zV (f:FE):FT:=fun env=>(f env).bind fun x=>match x.d with
  | .bl b=>.ok b
  |_=>.bad
@[simp] noncomputable def vF (f g:FT):FT:=fun env=>(f env).bind fun c=>if c=true then g env else .ok false
@[simp] noncomputable def Qz (f g:FT):FT:=fun env=>(f env).bind fun c=>if c=true then .ok true else g env
@[simp] noncomputable def dH (f:FT):FT:=fun env=>(f env).bind fun c=>.ok (!c)
theorem kl {K:Frag}{G:Hp}{ds:List D}{vs:List V}(r:zO K G ds vs):ds.isEmpty=vs.isEmpty:=by
 have:=r.length
 cases ds <;> cases vs <;> simp_all
section
variable {X:Cx}{G₀ H₀:Hp}{pos:Pos}{a b:Expr}{fa fb:FE}{ft fu:FT}{yv:List Expr}
theorem wJ (ha:DE X G₀ H₀ a fa)(he:∀whole,isTrue a X.env whole=(do let v ← whole;standAt a.pos;holding [v] (truthy v)):=by intro _;rfl):DT X G₀ H₀ a (oh fa) :=
 (WY ha he).imp fun σ H Q q=>by
  obtain⟨env,G,c,I,e,k⟩:=q;obtain⟨x,e1,e⟩:=zv e
  refine vZ I e1 fun v G' H' g l I' o=>⟨c,?_,k G' H' g l⟩
  unfold TQ at e;split at e
  ·rename_i hd;rw[hd]at o;cases e;rw[o.non];exact rfl
  ·rename_i b hd;rw[hd]at o;cases e;rw[o.bl];exact rfl
  ·rename_i i hd;rw[hd]at o;cases e;rw[o.int];exact rfl
  ·rename_i ds hd;rw[hd]at o;cases e;obtain⟨p,vs,rfl,h1,r1⟩:=ur.l I' o;exact .inl ⟨vs,wx.of h1,by rw[kl r1]⟩
  ·rename_i ds hd;rw[hd]at o;cases e;obtain⟨p,vs,rfl,h1,r1⟩:=ur.tup I' o;exact .inr (.inl ⟨vs,av.of h1,by rw[kl r1]⟩)
  ·cases e
theorem ZX {f:FE}{K:Frag}{σ:St}{H:Hp}{Q:Bool→Hp→Prop}(q:tT K G₀ H₀ (zV f) σ H Q):tE K G₀ H₀ f σ H fun x H'=>∃k,x=.bl k∧Q k H':=by
 obtain⟨env,G,c,I,e,k⟩:=q;obtain⟨x,e1,e⟩:=zv e;refine vZ I e1 fun v G' H' g l I' o=>?_;split at e
 ·rename_i b hd;cases e;rw[hd]at o;exact⟨c,o.bl,k G' H' g l⟩
 ·cases e
theorem pN {op:CmpOp}{r:R2}{g:D→D→Out Val}(ho:ow X (compareOp op) r)(hd:cD X.K r g)(ha:DE X G₀ H₀ a fa)(hb:DE X G₀ H₀ b fb)(hm:behindInMarks op b=false):DT X G₀ H₀ (.Compare a [op] [b] pos) (zV (f2 g fa fb)) :=
 (eV ho ha hb hm).imp fun σ H Q q=>Td hd σ H _ (ZX q)
theorem tR (ha:DE X G₀ H₀ a fa)(hb:DE X G₀ H₀ b fb):DT X G₀ H₀ (.Compare a [.Lt] [b] pos) (zV (f2 mO fa fb)):=pN Yi sA ha hb (xx _)
theorem ky (ha:DE X G₀ H₀ a fa)(hb:DE X G₀ H₀ b fb):DT X G₀ H₀ (.Compare a [.Gt] [b] pos) (zV (f2 XE fa fb)):=pN TY sA ha hb (xx _)
theorem qQ (hu:X.A.units+20<cLine)(ha:DE X G₀ H₀ a fa)(hb:DE X G₀ H₀ b fb):DT X G₀ H₀ (.Compare a [.Eq] [b] pos) (zV (f2 nM fa fb)):=pN (Va hu) T3 ha hb (xx _)
theorem kx (hu:X.A.units+20<cLine)(ha:DE X G₀ H₀ a fa)(hb:DE X G₀ H₀ b fb):DT X G₀ H₀ (.Compare a [.NotEq] [b] pos) (zV (f2 oB fa fb)):=pN (aU hu) TZ ha hb (xx _)
theorem YC (hu:X.A.units+20<cLine)(ha:DE X G₀ H₀ a fa)(hb:DE X G₀ H₀ b fb)(hm:behindInMarks .In b=false:=by with_unfolding_all rfl):DT X G₀ H₀ (.Compare a [.In] [b] pos) (zV (f2 h_ fa fb)):=pN (SM hu) Qj ha hb hm
theorem Rj (hu:X.A.units+20<cLine)(ha:DE X G₀ H₀ a fa)(hb:DE X G₀ H₀ b fb)(hm:behindInMarks .NotIn b=false:=by with_unfolding_all rfl):DT X G₀ H₀ (.Compare a [.NotIn] [b] pos) (zV (f2 XA fa fb)):=pN (US hu) SR ha hb hm
theorem Rk (ha:DE X G₀ H₀ a fa)(hb:DE X G₀ H₀ b fb):DT X G₀ H₀ (.Compare a [.Is] [b] pos) (zV (f2 XD fa fb)):=pN aV SU ha hb (xx _)
theorem dO (ha:DE X G₀ H₀ a fa)(hb:DE X G₀ H₀ b fb):DT X G₀ H₀ (.Compare a [.IsNot] [b] pos) (zV (f2 uV fa fb)):=pN Yh Yk ha hb (xx _)
theorem vP (ha:DT X G₀ H₀ a ft):DW X G₀ H₀ (.BoolOp .And [a] pos) ft:=UI ha
theorem VN (ha:DT X G₀ H₀ a ft):DW X G₀ H₀ (.BoolOp .Or [a] pos) ft:=WU ha
theorem tQ (ha:DT X G₀ H₀ a ft)(hb:DW X G₀ H₀ (.BoolOp .And (b::yv) pos) fu):DW X G₀ H₀ (.BoolOp .And (a::b::yv) pos) (vF ft fu) :=
 (Sz ha hb).imp fun σ H Q q=>by
  obtain⟨env,G,c,I,e,k⟩:=q;obtain⟨x,e1,e⟩:=zv e;refine⟨env,G,x,I,e1,fun G' H' g l=>?_⟩
  cases x with
  |true=>exact⟨env,G',c,I.grow g l,e,fun G2 H2 g2 l2=>k G2 H2 (g.trans g2) l2⟩
  |false=>cases e;exact k G' H' g l
theorem T9 (ha:DT X G₀ H₀ a ft)(hb:DW X G₀ H₀ (.BoolOp .Or (b::yv) pos) fu):DW X G₀ H₀ (.BoolOp .Or (a::b::yv) pos) (Qz ft fu) :=
 (TX ha hb).imp fun σ H Q q=>by
  obtain⟨env,G,c,I,e,k⟩:=q;obtain⟨x,e1,e⟩:=zv e;refine⟨env,G,x,I,e1,fun G' H' g l=>?_⟩
  cases x with
  |true=>cases e;exact k G' H' g l
  |false=>exact⟨env,G',c,I.grow g l,e,fun G2 H2 g2 l2=>k G2 H2 (g.trans g2) l2⟩
theorem lI (h:DW X G₀ H₀ a ft):DT X G₀ H₀ a ft:=PW.pt h
theorem dP (ha:DT X G₀ H₀ a ft):DT X G₀ H₀ (.UnaryOp .Not a pos) (dH ft):=(aK ha).imp fun σ H Q q=>by
 obtain⟨env,G,c,I,e,k⟩:=q;obtain⟨x,e1,e⟩:=zv e;cases e;exact⟨env,G,x,I,e1,fun G' H' g l=>k G' H' g l⟩
@[simp] noncomputable def oK (f g:FE):FE:=fun env=>(f env).bind fun x=>match x.d with
  | .bl true=>g env
  | .bl false=>.ok (.p (.bl false))
  |_=>.bad
@[simp] noncomputable def T8 (f:FE):FE:=fun env=>(f env).bind fun x=>match x.d with
  | .bl c=>.ok (.p (.bl (!c)))
  |_=>.bad
theorem iM {op}(h:DE X G₀ H₀ a fa):DE X G₀ H₀ (.BoolOp op [a] pos) fa:=aN h
theorem nC (ha:DE X G₀ H₀ a fa)(hb:DE X G₀ H₀ (.BoolOp .And (b::yv) pos) fb):DE X G₀ H₀ (.BoolOp .And (a::b::yv) pos) (oK fa fb) :=
 (W9 ha hb).imp fun σ H Q q=>by
  obtain⟨env,G,val,I,e,k⟩:=q;obtain⟨x,e1,e⟩:=zv e;refine vZ I e1 fun v G' H' g l I' o=>?_;split at e
  ·rename_i hd;rw[hd]at o;exact⟨true,o.bl,bI ⟨env,G',val,I',e,fun w G2 H2 g2 l2 h2=>k w G2 H2 (g.trans g2) l2 (h2.base g.h)⟩⟩
  ·rename_i hd;rw[hd]at o;cases e;exact⟨false,o.bl,mn (k _ G' H' g l rfl)⟩
  ·cases e
theorem Ro (ha:DE X G₀ H₀ a fa):DE X G₀ H₀ (.UnaryOp .Not a pos) (T8 fa) :=
 (SG ha).imp fun σ H Q q=>by
  obtain⟨env,G,val,I,e,k⟩:=q;obtain⟨x,e1,e⟩:=zv e;refine vZ I e1 fun v G' H' g l I' o=>?_;split at e
  ·rename_i c hd;rw[hd]at o;cases e;exact⟨c,o.bl,k _ G' H' g l rfl⟩
  ·cases e
@[simp] noncomputable def Pt (ft:FT)(fa fb:FE):FE:=fun env=>(ft env).bind fun c=>if c=true then fa env else fb env
theorem T_ {c:Expr}(hc:DT X G₀ H₀ c ft)(ha:DE X G₀ H₀ a fa)(hb:DE X G₀ H₀ b fb):DE X G₀ H₀ (.IfExp c a b pos) (Pt ft fa fb) :=
 (W6 hc ha hb).imp fun σ H Q q=>by
  obtain⟨env,G,val,I,e,k⟩:=q;obtain⟨x,e1,e⟩:=zv e;refine⟨env,G,x,I,e1,fun G' H' g l=>?_⟩
  cases x with
  |true=>exact bI ⟨env,G',val,I.grow g l,e,fun w G2 H2 g2 l2 h2=>k w G2 H2 (g.trans g2) l2 (h2.base g.h)⟩
  |false=>exact mn ⟨env,G',val,I.grow g l,e,fun w G2 H2 g2 l2 h2=>k w G2 H2 (g.trans g2) l2 (h2.base g.h)⟩
@[simp] noncomputable def QA (g g':D→D→Out Val) (fa fb fc:FE):FE:=fun env=>(fa env).bind fun x=>(fb env).bind fun y=>(g x.d y.d).bind fun z=>match z.d with
  | .bl true=>(fc env).bind fun w=>g' y.d w.d
  | .bl false=>.ok (.p (.bl false))
  |_=>.bad
theorem S5 {c:Expr}{fc:FE}{r r':R2}{g g':D→D→Out Val}(hd:cD X.K r g)(hd':cD X.K r' g')(σ:St)(H:Hp)(Q:VK)(q:tE X.K G₀ H₀ (QA g g' fa fb fc) σ H Q) :
 Wx r r' (tE X.K G₀ H₀ fa) (tE X.K G₀ H₀ fb) (tE X.K G₀ H₀ fc) σ H Q:=by
 obtain⟨env,G,val,I,e,k⟩:=q;obtain⟨x,e1,e⟩:=zv e;obtain⟨y,e2,e⟩:=zv e;obtain⟨z,e3,e⟩:=zv e;refine aC I e1 e2 fun v u G1 H1 g1 l1 I1 o1 o2=>hd G₀ H₀ env σ G1 H1 v u _ _ z _ I1 o1 o2 e3 fun w G2 H2 g2 l2 h2=>?_;obtain⟨G3,g3,l3,o3⟩:=opd g2 l2 h2;split at e
 ·rename_i hz;rw[hz]at o3;obtain⟨w',e4,e⟩:=zv e;refine⟨true,o3.bl,bI (vZ (I1.grow g3 l3) e4 fun t G4 H4 g4 l4 I4 o4=>hd' G₀ H₀ env σ G4 H4 u t _ _ val Q I4 ((o2.mono g3.g).mono g4.g) o4 e fun s G5 H5 g5 l5 h5=>?_)⟩;have g04:=(g1.trans g3).trans g4;exact k s G5 H5 (g04.trans g5) l5 (h5.base g04.h)
 ·rename_i hz;rw[hz]at o3;cases e;exact⟨false,o3.bl,mn (k _ G3 H2 (g1.trans g3) l3 rfl)⟩
 ·cases e
theorem YD {c:Expr}{fc:FE}(ha:DE X G₀ H₀ a fa)(hb:DE X G₀ H₀ b fb)(hc:DE X G₀ H₀ c fc)(hm:lastMarks [.Lt,.Lt] [b,c]=false:=by with_unfolding_all rfl):DT X G₀ H₀ (.Compare a [.Lt,.Lt] [b,c] pos) (zV (QA mO mO fa fb fc)) :=
 (WZ Yi Yi ha hb hc hm).imp fun σ H Q q=>S5 (c:=c) sA sA σ H _ (ZX q)
end
theorem xO {α:Type}{l:List α}{i:Nat}{x s:α}(h:(l.set i x)[i]?=some s):s=x∧i<l.length:=by
 rw[sbh]at h;simp at h;exact⟨h.2.symm,h.1⟩
section
variable {K:Frag}{G₀ H₀ G H:Hp}{env:Ev}{σ:St}
theorem DI.setP (I:DI K G₀ H₀ env σ G H){d:D}{v:V}(i:Nat)(r:kH K G d v):DI K G₀ H₀ (env.set i (.p d)) (σ.set i (some v)) G H where
 le:=I.le
 gr:=I.gr
 len:=by simp[I.len]
 slot:=fun j s e=>by
  by_cases hj:i=j
  ·subst hj;obtain⟨rfl,hl⟩:=xO e;exact⟨v,by rw[sbh];simp[I.len ▸ hl],r⟩
  ·rw[sam hj]at e;have q:=I.slot j s e
   cases s with
   |un=>trivial
   |p d'=>obtain⟨u,h1,h2⟩:=q;exact⟨u,by rw[sam hj];exact h1,h2⟩
   |own ds=>obtain⟨a,vs,o⟩:=q;exact⟨a,vs,by rw[sam hj];exact o.at_,o.hp,o.gn,o.new,o.rep⟩
 apart:=fun j k ds es a hjk e1 e2 s1 s2=>by
  have nj:i≠j:=fun z=>by subst z;cases(xO e1).1
  have nk:i≠k:=fun z=>by subst z;cases(xO e2).1
  rw[sam nj]at e1 s1;rw[sam nk]at e2 s2;exact I.apart j k ds es a hjk e1 e2 s1 s2
theorem DI.setO (I:DI K G₀ H₀ env σ G H){ds:List D}{vs:List V}{a:Addr}(i:Nat)(ha:H a=some (.l vs))(hg:G a=none)(h0:H₀ a=none)(r:zO K G ds vs)
 (ne:∀(j:Nat) (es:List D),env[j]?=some (.own es)→σ[j]?≠some (some (.ref a))):DI K G₀ H₀ (env.set i (.own ds)) (σ.set i (some (.ref a))) G H where
 le:=I.le
 gr:=I.gr
 len:=by simp[I.len]
 slot:=fun j s e=>by
  by_cases hj:i=j
  ·subst hj;obtain⟨rfl,hl⟩:=xO e;exact⟨a,vs,by rw[sbh];simp[I.len ▸ hl],ha,hg,h0,r⟩
  ·rw[sam hj]at e;have q:=I.slot j s e
   cases s with
   |un=>trivial
   |p d'=>obtain⟨u,h1,h2⟩:=q;exact⟨u,by rw[sam hj];exact h1,h2⟩
   |own ds=>obtain⟨a,vs,o⟩:=q;exact⟨a,vs,by rw[sam hj];exact o.at_,o.hp,o.gn,o.new,o.rep⟩
 apart:=fun j k ds' es b hjk e1 e2 s1 s2=>by
  by_cases hj:i=j
  ·subst hj;have hl:=(xO e1).2;rw[sbh]at s1;simp[I.len ▸ hl]at s1;subst s1;rw[sam hjk]at e2 s2;exact ne k es e2 s2
  ·by_cases hk:i=k
   ·subst hk;have hl:=(xO e2).2;rw[sbh]at s2;simp[I.len ▸ hl]at s2;subst s2;rw[sam hj]at e1 s1;exact ne j ds' e1 s1
   ·rw[sam hj]at e1 s1;rw[sam hk]at e2 s2;exact I.apart j k ds' es b hjk e1 e2 s1 s2
theorem DI.mut (I:DI K G₀ H₀ env σ G H){i:Nat}{ds ds':List D}{a:Addr}{vs vs':List V}(e:env[i]?=some (.own ds))(o:SlotOwn K H₀ σ G H i ds a vs)(r:zO K G ds' vs') :
 DI K G₀ H₀ (env.set i (.own ds')) σ G (yo H a (.l vs')) where
 le:=fun b u q=>by rw[zx (zz q o.gn)];exact I.le b u q
 gr:=⟨I.gr.g,fun b u q=>by rw[zx (zz q o.new)];exact I.gr.h b u q,I.gr.n⟩
 len:=by simp[I.len]
 slot:=fun j s e'=>by
  by_cases hj:i=j
  ·subst hj;obtain⟨rfl,hl⟩:=xO e';exact⟨a,vs',o.at_,zH,o.gn,o.new,r⟩
  ·rw[sam hj]at e';have q:=I.slot j s e'
   cases s with
   |un=>trivial
   |p d'=>exact q
   | own es=>
     obtain⟨b,us,p⟩:=q;have hb:b≠a:=fun z=>by subst z;exact I.apart i j ds es b hj e e' o.at_ p.at_
     exact⟨b,us,p.at_,by rw[zx hb];exact p.hp,p.gn,p.new,p.rep⟩
 apart:=fun j k ds' es b hjk e1 e2 s1 s2=>by
  have h1:∃ds1,env[j]?=some (.own ds1):=by
   by_cases hj:i=j
   ·subst hj;exact⟨_,e⟩
   ·rw[sam hj]at e1;exact⟨_,e1⟩
  have h2:∃ds1,env[k]?=some (.own ds1):=by
   by_cases hk:i=k
   ·subst hk;exact⟨_,e⟩
   ·rw[sam hk]at e2;exact⟨_,e2⟩
  obtain⟨x1,h1⟩:=h1;obtain⟨x2,h2⟩:=h2;exact I.apart j k x1 x2 b hjk h1 h2 s1 s2
end
theorem YR.mono {K:Frag}{G₀ H₀ G G':Hp}{D:Ends}{r:Res}(h:YR K G₀ H₀ G D r)(s:zI G G'):YR K G₀ H₀ G' D r:=by
 cases r with
 |next env=>exact fun σ' G2 H2 s2 I2=>h σ' G2 H2 (s.trans s2) I2
 |ret v=>exact h
@[simp] noncomputable def zU (i:Nat) (fz:Bool) (f:FE):FS:=fun env=>(f env).bind fun x=>match x with
  | .p d=>.ok (.next (env.set i (.p d)))
  | .fresh ds=>.ok (.next (env.set i (if fz then .p (.l ds)else .own ds)))
  | .brw _ _=>.bad
section
variable {K:Frag}{G₀ H₀:Hp}
theorem g8 {i:Nat}{fz:Bool}{f:FE}{D:Ends}{σ:St}{H:Hp}(q:tS K G₀ H₀ (zU i fz f) D σ H):tE K G₀ H₀ f σ H fun x H1=>D.nx (σ.set i (some x)) H1:=by
 obtain⟨env,G,r,I,e,k⟩:=q;obtain⟨x,e1,e⟩:=zv e;refine⟨env,G,x,I,e1,fun v G' H' g l h=>?_⟩;have I':=I.grow g l
 cases x with
 | p d=>
   cases e;exact k _ G' H' g.g (I'.setP i h)
 |brw j ds=>cases e
 | fresh ds=>
   cases e
   cases fz with
   | true=>
     obtain⟨G2,g2,l2,h2⟩:=kQ g l h rfl;exact k _ G2 H' g2.g ((I.grow g2 l2).setP i h2)
   | false=>
     obtain⟨a,vs,rfl,h1,h2,h3,h4⟩:=h;refine k _ G' H' g.g (I'.setO i h2 h3 (I.gr.h.free h1) h4 fun j es e2 s2=>?_);obtain⟨b,us,o⟩:=I.own e2;have z:=o.at_;rw[s2]at z;cases z;have z:=o.hp;rw[h1]at z;cases z
end
section
variable {X:Cx}{G₀ H₀:Hp}{pos:Pos}
theorem zF {i:Nat}{x:Str}{e:Expr}{f:FE}{pos':Pos}(fz:Bool)(hN:X.N.Nodup)(he:DE X G₀ H₀ e f)(hi:X.N[i]?=some x:=by rfl)(hx:Se X.env.scope x:=by first|exact Or.inl rfl|exact Or.inr rfl)
 (hs:swapsWith e (some (.Name x pos')) pos.line X.env=pure false:=by rfl) (hf:X.fn x=true∨X.env.scope.names.lookup x=some .local:=by first|exact .inl rfl|exact .inr rfl) :
 DS X G₀ H₀ (.Assign [.Name x pos'] e pos) (zU i fz f):=(sP hN hi hx he hs hf).imp fun D σ H q=>g8 q
end
noncomputable def tG (K:Frag)(G₀ H₀:Hp)(g:D→Ev→Out Ev):TG:=fun v σ H Q=>∃env G d env',DI K G₀ H₀ env σ G H∧kH K G d v∧g d env=.ok env'∧∀σ',DI K G₀ H₀ env' σ' G H→Q σ' H
@[simp] noncomputable def setAll:List Nat→List D→Ev→Ev
  |i::is,d::ds,env=>setAll is ds (env.set i (.p d))
  |_,_,env=>env
noncomputable def Oq (K:Frag)(G₀ H₀:Hp)(is:List Nat):Sb:=fun vs σ H Q=>∃env G ds,DI K G₀ H₀ env σ G H∧zO K G ds vs∧ds.length=is.length∧∀σ',DI K G₀ H₀ (setAll is ds env) σ' G H→Q σ' H
noncomputable def DG (X:Cx)(G₀ H₀:Hp)(tg:Expr)(g:D→Ev→Out Ev):Prop:=PG X tg (tG X.K G₀ H₀ g)
noncomputable def Pa (X:Cx)(G₀ H₀:Hp)(ts:List Expr)(is:List Nat):Prop:=QT X ts (Oq X.K G₀ H₀ is)
@[simp] noncomputable def gN (i:Nat):D→Ev→Out Ev:=fun d env=>.ok (env.set i (.p d))
@[simp] noncomputable def gT (is:List Nat):D→Ev→Out Ev:=fun d env=>match d with
  | .tup ds=>if ds.length=is.length then .ok (setAll is ds env)else .bad
  |_=>.bad
section
variable {X:Cx}{G₀ H₀:Hp}{pos:Pos}
theorem yn {i:Nat}{x:Str}(hN:X.N.Nodup)(hi:X.N[i]?=some x:=by rfl)(hx:Se X.env.scope x:=by first|exact Or.inl rfl|exact Or.inr rfl)(hf:X.fn x=true∨X.env.scope.names.lookup x=some .local:=by first|exact .inl rfl|exact .inr rfl) :
 DG X G₀ H₀ (.Name x pos) (gN i):=fun pins s σ H v u Q I r q=>jh hN hi hx hf pins s σ H v u Q I r (by
 obtain⟨env,G,d,env',J,h,e,k⟩:=q;cases e
 exact k _ (J.setP i h))
theorem uo:Pa X G₀ H₀ [] []:=fun pins s σ H vs us Q I r q=>Yb pins s σ H vs us Q I r (by
 obtain⟨env,G,ds,J,h,e,k⟩:=q
 cases ds with
 |nil=>cases(show vs=[]from h);exact⟨rfl,k σ J⟩
 |cons d ds=>cases e)
theorem yf {i:Nat}{x:Str}{es:List Expr}{is:List Nat}(hN:X.N.Nodup)(hr:Pa X G₀ H₀ es is)(hi:X.N[i]?=some x:=by rfl)(hx:Se X.env.scope x:=by first|exact Or.inl rfl|exact Or.inr rfl)(hf:X.fn x=true∨X.env.scope.names.lookup x=some .local:=by first|exact .inl rfl|exact .inr rfl)
 (hs:(assignEach (.Name x pos::es) X.env).map (·.2)=assign (.Name x pos) X.env::(assignEach es X.env).map (·.2):=by rfl) :
 Pa X G₀ H₀ (.Name x pos::es) (i::is):=fun pins s σ H vs us Q I r q=>jZ (jh hN hi hx hf) hr hs pins s σ H vs us Q I r (by
 obtain⟨env,G,ds,J,h,e,k⟩:=q
 cases ds with
 |nil=>cases e
 | cons d ds=>
   obtain⟨v,vr,rfl,h1,h2⟩:=h
   exact⟨v,vr,rfl,env.set i (.p d),G,ds,J.setP i h1,h2,by simpa using e,k⟩)
theorem sU {es:List Expr}{k:Nat}{is:List Nat}(hc:X.calm=true)(h:Pa X G₀ H₀ es is)(hn:(assignEach es X.env).length=is.length:=by rfl)(hst:(assignEach es X.env).findIdx? (·.1)=none:=by rfl) :
 DG X G₀ H₀ (.Tuple es k pos) (gT is):=fun pins s σ H v u Q I r q=>W4 hc h hn hst pins s σ H v u Q I r (by
 obtain⟨env,G,d,env',J,h,e,k⟩:=q;unfold gT at e;split at e
 ·rename_i ds;split at e
  ·rename_i hl;cases e;obtain⟨a,vs,e1,h1,r1⟩:=h;exact⟨a,vs,e1,av.of (J.le _ _ h1),by rw[←r1.length];exact hl,env,G,ds,J,r1,hl,k⟩
  ·cases e
 ·cases e)
end
@[simp] noncomputable def dQ (f:FE):FS:=fun env=>(f env).bind fun _=>.ok (.next env)
@[simp] noncomputable def yJ (f:FE):FS:=fun env=>(f env).bind fun x=>match x with
  | .brw _ ds=>.ok (.ret (.fresh ds))
  |x=>.ok (.ret x)
@[simp] noncomputable def wY:FS:=fun env=>.ok (.next env)
@[simp] noncomputable def wk (ft:FT)(f g:FS):FS:=fun env=>(ft env).bind fun c=>if c=true then f env else g env
@[simp] noncomputable def zL (f g:FS):FS:=fun env=>(f env).bind fun r=>match r with
  | .next env'=>g env'
  | .ret v=>.ok (.ret v)
section
variable {X:Cx}{G₀ H₀:Hp}{pos:Pos}
theorem oi {e:Expr}{f:FE}(he:DE X G₀ H₀ e f)(hs:swapsWith e none pos.line X.env=pure false:=by rfl):DS X G₀ H₀ (.Expr e pos) (dQ f):=(oa he hs).imp fun D σ H q=>by
 obtain⟨env,G,r,I,e,k⟩:=q;obtain⟨x,e1,e⟩:=zv e;cases e;exact⟨env,G,x,I,e1,fun v G' H' g l h=>k σ G' H' g.g (I.grow g l)⟩
theorem z8 {e:Expr}{f:FE}(he:DE X G₀ H₀ e f):DS X G₀ H₀ (.Return (some e) pos) (yJ f):=(oW he).imp fun D σ H q=>by
 obtain⟨env,G,r,I,e,k⟩:=q;obtain⟨x,e1,e⟩:=zv e;refine⟨env,G,x,I,e1,fun v G' H' g l h=>?_⟩
 cases x with
 |p d=>cases e;exact k v G' H' (I.gr.trans g) l h
 | fresh ds=>
   cases e;obtain⟨a,vs,rfl,h1,h2⟩:=h;exact k _ G' H' (I.gr.trans g) l ⟨a,vs,rfl,I.gr.h.free h1,h2⟩
 | brw i ds=>
   cases e;obtain⟨a,rfl,e2,e3⟩:=h;obtain⟨b,vs,o⟩:=(I.grow g l).own e2;have z:=o.at_;rw[e3]at z;cases z;exact k _ G' H' (I.gr.trans g) l ⟨a,vs,rfl,o.new,o.hp,o.gn,o.rep⟩
theorem yR {c:Expr}{a b:List Stmt}{ft:FT}{f g:FS}(hc:DT X G₀ H₀ c ft)(ha:Wc X G₀ H₀ a f)(hb:Wc X G₀ H₀ b g):DS X G₀ H₀ (.If c a b pos) (wk ft f g):=(jV hc ha hb).imp fun D σ H q=>by
 obtain⟨env,G,r,I,e,k⟩:=q;obtain⟨x,e1,e⟩:=zv e;refine⟨env,G,x,I,e1,fun G' H' g l=>?_⟩
 cases x with
 |true=>exact bI ⟨env,G',r,I.grow g l,e,k.mono g.g⟩
 |false=>exact mn ⟨env,G',r,I.grow g l,e,k.mono g.g⟩
theorem z_:Wc X G₀ H₀ [] wY:=jd.imp fun D σ H q=>by
 obtain⟨env,G,r,I,e,k⟩:=q;cases e;exact k σ G H (zI.refl _) I
theorem zm {st:Stmt}{yv:List Stmt}{f g:FS}(h1:DS X G₀ H₀ st f)(h2:Wc X G₀ H₀ yv g):Wc X G₀ H₀ (st::yv) (zL f g):=(w8 h1 h2).imp fun D σ H q=>by
 obtain⟨env,G,r,I,e,k⟩:=q;obtain⟨x,e1,e⟩:=zv e;refine⟨env,G,x,I,e1,?_⟩
 cases x with
 |next env'=>exact fun σ' G' H' s I'=>⟨env',G',r,I',e,k.mono s⟩
 |ret v=>cases e;exact k
theorem zu {st:Stmt}{f:FS}(h1:DS X G₀ H₀ st f):Wc X G₀ H₀ [st] f:=xp h1
theorem uF {st:Stmt}:DS X G₀ H₀ st (fun _=>.bad):=fun pins s σ H D I q=>by
 obtain⟨env,G,r,I,e,k⟩:=q;cases e
end
@[simp] noncomputable def qY (i:Nat) (f:FE):FS:=fun env=>match env[i]? with
  |some (.own ds)=>if ds.length<100000 then(f env).bind fun x=>x.hold.bind fun d=>.ok (.next (env.set i (.own (ds++[d]))))else .bad
  |_=>.bad
@[simp] noncomputable def W1 (i:Nat):FS:=fun env=>match env[i]? with
  |some (.own ds)=>if ds.length=0 then .bad else .ok (.next (env.set i (.own ds.dropLast)))
  |_=>.bad
@[simp] noncomputable def Zw (i:Nat) (f:FE):FS:=fun env=>match env[i]? with
  | some (.own ds)=>(f env).bind fun x=>match x with
    | .p (.l es)=>if ds.length+es.length≤100000 then .ok (.next (env.set i (.own (ds++es))))else .bad
    | .fresh es=>if ds.length+es.length≤100000 then .ok (.next (env.set i (.own (ds++es))))else .bad
    |_=>.bad
  |_=>.bad
@[simp] noncomputable def Ot (i:Nat) (fk f:FE):FS:=fun env=>match env[i]? with
  | some (.own ds)=>(f env).bind fun x=>x.hold.bind fun d=>(fk env).bind fun y=>match y.d with
    | .int k=>match U_ ds.length k with
      |some j=>.ok (.next (env.set i (.own (ds.set j d))))
      |none=>.bad
    |_=>.bad
  |_=>.bad
section
variable {X:Cx}{G₀ H₀:Hp}{pos p1 apos cpos:Pos}{i:Nat}{x:Str}{e:Expr}{f:FE}
theorem wV (hv:PE X (.Name x p1) (wa i))(he:DE X G₀ H₀ e f)(hfew:((backTo cpos (starEach [e] X.env)).all (fun x=> !x.1)&&(backToKw cpos (keywordEach [] X.env)).all (fun x=>x.1.isSome)
 && decide ([e].length+([]:List Keyword).length+(if([]:List Keyword).isEmpty then 0 else 1)<30))=true:=by rfl)
 (hline:(apos.endLine == cpos.line)=true:=by rfl) (hs:starEach [e] X.env=[(false,eval e X.env)]:=by rfl) :
 DS X G₀ H₀ (.Expr (.Call (.Attribute (.Name x p1) "append" apos) [e] [] cpos) pos) (qY i f) :=
 (oa (bp sbE PySem.F.slot_list_append PySem.F.type_list_append og hv (zM he yw hs) rfl hfew hline hs rfl) rfl).imp fun D σ H q=>by
  obtain⟨env,G,r,I,e,k⟩:=q;unfold qY at e;split at e
  ·rename_i ds hd;split at e
   ·rename_i hz;obtain⟨y,e1,e⟩:=zv e;obtain⟨d,e2,e⟩:=zv e;cases e;obtain⟨a,vs,o⟩:=I.own hd;refine⟨.ref a,o.at_,.inl ⟨rfl,vs,wx.of o.hp⟩,env,G,y,I,e1,fun v G' H' g l h=>?_⟩;obtain⟨G2,g2,l2,h2⟩:=kQ g l h e2;have I2:=I.grow g2 l2;obtain⟨b,us,o2⟩:=I2.own hd;have z:=o2.at_;rw[o.at_]at z;cases z;exact⟨a,us,v,rfl,rfl,o2.hp,by rw[←o2.rep.length,sizeLine_eq];lia,k σ G2 _ g2.g (I2.mut hd o2 (o2.rep.append (zO.cons h2 zO.nil)))⟩
   ·cases e
  ·cases e
theorem Rl (hv:PE X (.Name x p1) (wa i))(hline:(apos.endLine == cpos.line)=true:=by rfl) :
 DS X G₀ H₀ (.Expr (.Call (.Attribute (.Name x p1) "pop" apos) [] [] cpos) pos) (W1 i) :=
 (oa (aQ sbE PySem.F.slot_list_pop PySem.F.type_list_pop Vg hv rfl hline) rfl).imp fun D σ H q=>by
  obtain⟨env,G,r,I,e,k⟩:=q;unfold W1 at e;split at e
  ·rename_i ds hd;split at e
   ·cases e
   ·rename_i hz;cases e;obtain⟨a,vs,o⟩:=I.own hd;have hl:=o.rep.length;have hv2:vs[vs.length - 1]?=some (vs[vs.length - 1]'(by lia)):=sae (by lia);exact⟨.ref a,o.at_,.inl ⟨rfl,vs,wx.of o.hp⟩,a,vs,_,rfl,rfl,o.hp,hv2,k σ G _ (zI.refl _) (I.mut hd o o.rep.dropLast)⟩
  ·cases e
theorem lJ (hv:PE X (.Name x p1) (wa i))(he:DE X G₀ H₀ e f)(hfew:((backTo cpos (starEach [e] X.env)).all (fun x=> !x.1)&&(backToKw cpos (keywordEach [] X.env)).all (fun x=>x.1.isSome)
 && decide ([e].length+([]:List Keyword).length+(if([]:List Keyword).isEmpty then 0 else 1)<30))=true:=by rfl)
 (hline:(apos.endLine == cpos.line)=true:=by rfl) (hs:starEach [e] X.env=[(false,eval e X.env)]:=by rfl) :
 DS X G₀ H₀ (.Expr (.Call (.Attribute (.Name x p1) "extend" apos) [e] [] cpos) pos) (Zw i f) :=
 (oa (bp sbE PySem.F.slot_list_extend PySem.F.type_list_extend Xl hv (zM he yw hs) rfl hfew hline hs rfl) rfl).imp fun D σ H q=>by
  obtain⟨env,G,r,I,e,k⟩:=q
  have main:∀ds es y,env[i]?=some (.own ds)→f env=.ok y→y.hold=.ok (.l es)→ds.length+es.length≤100000→r=.next (env.set i (.own (ds++es))) →
   ZY (RK X.K "list" Z_ (wa i) (wW (tE X.K G₀ H₀ f) oR)) D σ H:=by
   intro ds es y hd e1 e2 hz hr;subst hr;obtain⟨a,vs,o⟩:=I.own hd;refine⟨.ref a,o.at_,.inl ⟨rfl,vs,wx.of o.hp⟩,env,G,y,I,e1,fun v G' H' g l h=>?_⟩;obtain⟨G2,g2,l2,h2⟩:=kQ g l h e2;have I2:=I.grow g2 l2;obtain⟨b,us,o2⟩:=I2.own hd;have z:=o2.at_;rw[o.at_]at z;cases z;obtain⟨c,ws,rfl,h3,r3⟩:=h2;exact⟨a,c,us,ws,rfl,rfl,o2.hp,l2 _ _ h3,by rw[←o2.rep.length,←r3.length];exact jk hz,k σ G2 _ g2.g (I2.mut hd o2 (o2.rep.append r3))⟩
  unfold Zw at e;split at e
  ·rename_i ds hd;obtain⟨y,e1,e⟩:=zv e;split at e
   ·rename_i es;split at e
    ·rename_i hz;exact main ds es _ hd e1 rfl hz (by cases e;rfl)
    ·cases e
   ·rename_i es;split at e
    ·rename_i hz;exact main ds es _ hd e1 rfl hz (by cases e;rfl)
    ·cases e
   ·cases e
  ·cases e
end
structure JOk (K:Frag)(J:It)(G:Hp)(ds:List D):Prop where
 go:∀i G' H',zI G G'→zI G' H'→i<ds.length→J.go i H'
 stop:∀i G' H',zI G G'→zI G' H'→ds.length≤i→J.stop i H'
 yld:∀i G' H' x H1,zI G G'→zI G' H'→i<ds.length→J.yld i H' x H1→∃d G1,ds[i]?=some d∧Gw G' H' G1 H1∧zI G1 H1∧kH K G1 d x
noncomputable abbrev FI:=Ev→Out (List D)
noncomputable def tI (K:Frag)(G₀ H₀:Hp)(f:FI):TI:=fun σ H R=>∃env G ds,DI K G₀ H₀ env σ G H∧f env=.ok ds∧∀J G' H',Gw G H G' H'→zI G' H'→JOk K J G' ds→R J H'
noncomputable def TN (X:Cx)(G₀ H₀:Hp)(tg iter:Expr)(f:FI):Prop:=PI X tg iter (tI X.K G₀ H₀ f)
theorem _root_.L2.PI.imp {X:Cx}{tg e:Expr}{t t':TI}(h:PI X tg e t)(i:∀σ H Q,t' σ H Q→t σ H Q):PI X tg e t':=fun pins s σ H Q I q=>h pins s σ H Q I (i σ H Q q)
@[simp] noncomputable def xg (f:FE):FI:=fun env=>(f env).bind fun x=>x.hold.bind fun d=>match d with
  | .l ds=>.ok ds
  | .scr ns=>.ok (ns.map .int)
  |_=>.bad
noncomputable def uv (lo:Int)(n:Nat):List D:=(List.range n).map fun(i:Nat)=>.int (lo+i)
@[simp] noncomputable def rH (f:Ev→Out (List Val)):FI:=fun env=>(f env).bind fun xs=>match xs.map Val.d with
  |[.int j]=>if -1000000≤j∧j≤1000000 then .ok (uv 0 j.toNat)else .bad
  |_=>.bad
theorem bG {K:Frag}{G:Hp}{a:Addr}{ds:List D}{vs:List V}(h:wx K G a vs)(r:zO K G ds vs):JOk K (PU K a) G ds where
 go:=fun i G' H' s l hi=>⟨vs,vs[i]'(by rw[←r.length];exact hi),l.seq (s.seq h),sae _⟩
 stop:=fun i G' H' s l hi=>⟨vs,l.seq (s.seq h),by rw[←r.length];exact hi⟩
 yld:=fun i G' H' x H1 s l hi y=>by
  obtain⟨e,y⟩:=y;subst e;have hx:=y vs (l.seq (s.seq h));obtain⟨d,h1,h2⟩:=r.get' hx;exact⟨d,G',h1,Gw.refl _ _,l,h2.mono s⟩
theorem Xs {K:Frag}{G:Hp}(lo:Int)(n:Nat):JOk K (Q8 lo n) G (uv lo n) where
 go := fun i G' H' s l hi => by have h : i < n :=by simpa[uv]using hi
                                exact h
 stop := fun i G' H' s l hi => by have h : n ≤ i :=by simpa[uv]using hi
                                  exact h
 yld:=fun i G' H' x H1 s l hi y=>by
  obtain⟨e,y⟩:=y;subst e;have hi':i<n:=by simpa[uv]using hi
  exact⟨.int (lo+i),G',by simp[uv,hi'],Gw.refl _ _,l,y⟩
section
variable {X:Cx}{G₀ H₀:Hp}{tg:Expr}
theorem yC {l:Expr}{f:FE}(h:DE X G₀ H₀ l f):TN X G₀ H₀ tg l (xg f):=(Ya h).imp fun σ H R q=>by
 obtain⟨env,G,ds,I,e,k⟩:=q;obtain⟨x,e1,e⟩:=zv e;obtain⟨d,e2,e⟩:=zv e;refine⟨env,G,x,I,e1,fun v G' H' g l h=>?_⟩;obtain⟨G2,g2,l2,h2⟩:=kQ g l h e2;split at e
 ·cases e;obtain⟨a,vs,rfl,h3,r3⟩:=h2;exact⟨a,rfl,⟨vs,wx.of (l2 _ _ h3)⟩,k _ G2 H' g2 l2 (bG (wx.of h3) r3)⟩
 ·rename_i ns;cases e;obtain⟨a,rfl,h3⟩:=h2;exact⟨a,rfl,⟨_,l2.seq h3⟩,k _ G2 H' g2 l2 (bG h3 (zO.ints ns))⟩
 ·cases e
theorem tm {a:Expr}{f:Ev→Out (List Val)}{p pos:Pos}(hm:X.mg "range" = none) (ha:DA X G₀ H₀ [a] f) (hg:Gl X "range" :=by rfl) (hs:starEach [a] X.env=[(false,eval a X.env)]:=by rfl) :
 TN X G₀ H₀ tg (.Call (.Name "range" p) [a] [] pos) (rH f):=(Xd hg hm ha hs).imp fun σ H R q=>by
 obtain⟨env,G,ds,I,e,k⟩:=q;obtain⟨xs,e1,e⟩:=zv e;refine⟨env,G,xs,I,e1,fun vs G' H' g l h=>?_⟩;split at e
 ·rename_i j hj;split at e
  ·rename_i hb;cases e;obtain⟨v,rfl,o⟩:=kG h hj;exact⟨j,by rw[o.int],by lia,by lia,k _ G' H' g l (Xs 0 _)⟩
  ·cases e
 ·cases e
end
noncomputable def x4 (g:D→Ev→Out Ev)(fb:FS):List D→Ev→Out Res
 |[],env=>.ok (.next env)
 | d::ds,env=>(g d env).bind fun env1=>(fb env1).bind fun r=>match r with
   | .next env2=>x4 g fb ds env2
   | .ret v=>.ok (.ret v)
@[simp] noncomputable def vq (fi:FI)(g:D→Ev→Out Ev)(fb:FS):FS:=fun env=>(fi env).bind fun ds=>x4 g fb ds env
noncomputable def q0 (ft:FT)(fb:FS):Nat→Ev→Out Res
 | 0,_=>.bad
 | n+1,env=>(ft env).bind fun c=>if c=true then(fb env).bind fun r=>match r with
   | .next env2=>q0 ft fb n env2
   | .ret v=>.ok (.ret v)
   else .ok (.next env)
section
variable {X:Cx}{G₀ H₀:Hp}{tg:Expr}{pos:Pos}
theorem w4 {iter:Expr}{body:List Stmt}{fi:FI}{g:D→Ev→Out Ev}{fb:FS}(hp:PassesOwn (model X.prog X.w) X.A X.env X.xe)(hi:TN X G₀ H₀ tg iter fi)(hg:DG X G₀ H₀ tg g)(hb:Wc X G₀ H₀ body fb)(hc:X.calm=true:=by rfl)
 (hs:∀x,foldedSetIterable iter X.env x=pure x:=by intro _;rfl):DS X G₀ H₀ (.For tg iter body [] pos) (vq fi g fb):=(aL hp hc hi hg hb hs).imp fun D σ H q=>by
 obtain⟨env,G,r,I,e,k⟩:=q;obtain⟨ds,e1,e⟩:=zv e;refine⟨env,G,ds,I,e1,fun J G1 H1 g1 l1 jok=>?_⟩;refine⟨fun i m σ H=>m=ds.length - i∧i≤ds.length∧∃env' G',zI G1 G'∧DI X.K G₀ H₀ env' σ G' H∧x4 g fb (ds.drop i) env'=.ok r,⟨ds.length,by simp,saT _,env,G1,zI.refl _,I.grow g1 l1,by simpa using e⟩,?_⟩;rintro i m σ' H' ⟨rfl,hi',env',G',s',I',e'⟩;by_cases hlt:i<ds.length
 ·have hd:ds.drop i=ds[i]::ds.drop (i+1):=sbM hlt;rw[hd]at e';obtain⟨env1,e2,e'⟩:=zv e';obtain⟨r1,e3,e'⟩:=zv e';refine .inr ⟨jok.go i G' H' s' I'.le hlt,fun σ2 H2=>∃env2 G2,zI G1 G2∧DI X.K G₀ H₀ env2 σ2 G2 H2∧x4 g fb (ds.drop (i+1)) env2=.ok r,fun σ2 H2 ⟨env2,G2,s2,I2,e2⟩=>⟨ds.length - (i+1),by lia,rfl,hlt,env2,G2,s2,I2,e2⟩,fun x H2 y=>?_⟩;obtain⟨d,G2,hd2,g2,l2,r2⟩:=jok.yld i G' H' x H2 s' I'.le hlt y;have hde:d=ds[i]:=by rw[sae hlt]at hd2;exact(saE hd2).symm
  subst hde;refine⟨env',G2,_,env1,I'.grow g2 l2,r2,e2,fun σ2 I2=>⟨env1,G2,r1,I2,e3,?_⟩⟩
  cases r1 with
  |next env2=>exact fun σ3 G3 H3 s3 I3=>⟨env2,G3,(s'.trans g2.g).trans s3,I3,e'⟩
  |ret v=>cases e';exact k
 ·have hi2:i=ds.length:=by lia
  subst hi2;rw[List.drop_length]at e';cases e';exact .inl ⟨jok.stop _ G' H' s' I'.le (Nat.le_refl _),k σ' G' H' (g1.g.trans s') I'⟩
theorem bX {c:Expr}{body:List Stmt}{ft:FT}{fb:FS}(n:Nat)(hp:PassesOwn (model X.prog X.w) X.A X.env X.xe)(hc:DT X G₀ H₀ c ft)(hb:Wc X G₀ H₀ body fb):DS X G₀ H₀ (.While c body [] pos) (q0 ft fb n) :=
 (W0 hp hc hb).imp fun D σ H q=>by
  obtain⟨env,G,r,I,e,k⟩:=q;refine⟨fun m σ H=>∃env' G',zI G G'∧DI X.K G₀ H₀ env' σ G' H∧q0 ft fb m env'=.ok r,⟨n,env,G,zI.refl _,I,e⟩,?_⟩;rintro m σ' H' ⟨env',G',s',I',e'⟩
  cases m with
  |zero=>cases e'
  | succ m=>
    obtain⟨c',e1,e'⟩:=zv e';refine⟨env',G',c',I',e1,fun G2 H2 g2 l2=>?_⟩
    cases c' with
    | true=>
      rw[sak rfl]at e' ⊢;obtain⟨r1,e2,e'⟩:=zv e';refine⟨fun σ2 H2=>∃env' G',zI G G'∧DI X.K G₀ H₀ env' σ2 G' H2∧q0 ft fb m env'=.ok r,fun σ3 H3 h3=>⟨m,Nat.lt_succ_self _,h3⟩,env',G2,r1,I'.grow g2 l2,e2,?_⟩
      cases r1 with
      |next env2=>exact fun σ3 G3 H3 s3 I3=>⟨env2,G3,(s'.trans g2.g).trans s3,I3,e'⟩
      |ret v=>cases e';exact k
    | false=>
      rw[sal sai]at e' ⊢;cases e';exact k σ' G2 H2 (s'.trans g2.g) (I'.grow g2 l2)
end
noncomputable def Uh (K:Frag)(m:List D→Out Val)(n:Nat):Sp:=fun vs H Q _=>∃G ds val,ds.length=n∧zI G H∧zO K G ds vs∧m ds=.ok val ∧
 ∀v G' H',Gw G H G' H'→zI G' H'→sI K H [] [] G' H' v val→Q v H'
@[simp] noncomputable def zX (n:Nat) (f:FS) (ds:List D):Out Val:=(f (ds.map Slot.p++List.replicate (n - ds.length) .un)).bind fun r=>match r with
  | .ret v=>.ok v
  | .next _=>.ok (.p .non)
theorem jE {K:Frag}{G H:Hp}{ds:List D}{vs:List V}{N:List Str}(l:zI G H)(r:zO K G ds vs)(hl:ds.length≤N.length) :
 DI K G H (ds.map Slot.p++List.replicate (N.length - ds.length) .un) (L2.zy N vs) G H where
 le:=l
 gr:=Gw.refl _ _
 len:=by unfold L2.zy;simp[r.length]
 slot:=fun i s e=>by
  by_cases hi:i<ds.length
  ·rw[saZ (by simpa using hi),sar,sae hi]at e;cases e;obtain⟨v,h1,h2⟩:=r.get (sae hi);refine⟨v,?_,h2⟩;unfold L2.zy;rw[saZ (by simp[←r.length,hi]),sar,h1];rfl
  ·rw[sbt (by simpa using hi),sbD]at e;split at e
   ·cases e;trivial
   ·cases e
 apart:=fun i j es fs a _ e _ _ _=>by
  by_cases hi:i<ds.length
  ·rw[saZ (by simpa using hi),sar,sae hi]at e;cases e
  ·rw[sbt (by simpa using hi),sbD]at e
   split at e <;> cases e
theorem yT {P:Program}{w:World}{K:Frag}{mg:Str→Option Value}{base:Heap}{x qual:Str}{st:Stmt}{f:Addr}{fd:FuncData}{N ps:List Str}{k:Nat}{fb:FS}(F:Fun K x qual st f fd)(S:FS_ N ps (zw st))
 (hb:∀(cdv:Value) (A:Around) (outer:List Env) (s:Shared) (G H:Hp) (E:XK),Room k (A.deeper (envOfC qual (zw st) s.heap.objs.size f cdv)) →
  Wc (kR gP P w K mg base N qual (zw st) f cdv A outer s H E).nox G H (xq st) fb):FnOk P w K mg base gP (k+1) f fd ps (Uh K (zX N.length fb) ps.length):=by
 have hpl:ps.length≤N.length:=by have:=congrArg List.length S.pre;rw[sbn]at this;lia
 refine F.ok S (fun vs H Q E h=>?_) fun cdv A outer s H vs Q E hr h=>?_
 ·obtain⟨G,ds,val,hl,_,r,_⟩:=h;rw[←r.length];exact hl
 ·obtain⟨G,ds,val,hl,l,r,hm,k'⟩:=h;refine⟨_,hb cdv A outer s G H E hr,?_⟩;obtain⟨r',e1,e2⟩:=zv hm;refine⟨_,G,r',jE l r (by lia),e1,?_⟩
  cases r' with
  |next env=>cases e2;exact fun σ' G' H' s' I'=>k' _ G' H' I'.gr I'.le rfl
  |ret v=>cases e2;exact fun v' G' H' g' l' h'=>k' v' G' H' g' l' h'
mutual
noncomputable def j8:D→Bool
 | .tup ds=>oZ ds
 | .l _=>false
 | .scr _=>false
 | .exc _ _=>false
 |_=>true
noncomputable def oZ:List D→Bool
 |[]=>true
 |d::ds=>j8 d&&oZ ds
end
@[simp] noncomputable def Val.calm:Val→Bool
  | .p d=>j8 d
  | .fresh ds=>oZ ds
  | .brw _ _=>false
@[simp] noncomputable def Val.isPers:Val→Bool
  | .p _=>true
  |_=>false
@[simp] noncomputable def fT (m:List D→Out Val)(xs:List Val):Out Val:=(m (xs.map Val.d)).bind fun v=>if(xs.all Val.isPers ||v.calm)=true then .ok v else .bad
@[simp] noncomputable def zA (m:List D→Out Val)(r:Ev→Out (List Val)):FE:=fun env=>(r env).bind fun xs=>fT m xs
theorem ju {K:Frag}{env:Ev}{σ:St}{G:Hp}:∀{vs:List V} {xs:List Val},qG K env σ G vs xs→xs.all Val.isPers=true→zO K G (xs.map Val.d) vs
 |[],xs,h,_=>by cases(show xs=[]from h);rfl
 | v::vs,xs,h,hp=>by
   obtain⟨x,r,rfl,h1,h2⟩:=h;rw[List.all_cons,saS]at hp
   cases x with
   |p d=>exact zO.cons h1 (ju h2 hp.2)
   |fresh ds=>cases hp.1
   |brw i ds=>cases hp.1
noncomputable def sQ (env:Ev)(σ:St)(b:Addr):Prop:=∃(i:Nat) (ds:List D),env[i]?=some (.own ds)∧σ[i]?=some (some (.ref b))
open Classical in
noncomputable def kM (env:Ev)(σ:St)(G H:Hp):Hp:=fun b=>if sQ env σ b then H b else G b
open Classical in
noncomputable def sM (env:Ev)(σ:St)(G:Hp):Hp:=fun b=>if sQ env σ b then none else G b
section
variable {K:Frag}{G₀ H₀ G H:Hp}{env:Ev}{σ:St}
theorem DI.lent (I:DI K G₀ H₀ env σ G H){b:Addr}(h:sQ env σ b):G b=none∧∃vs,H b=some (.l vs):=by
 obtain⟨i,ds,e1,e2⟩:=h;obtain⟨a,vs,o⟩:=I.own e1;have z:=o.at_;rw[e2]at z;cases z;exact⟨o.gn,vs,o.hp⟩
theorem dr (I:DI K G₀ H₀ env σ G H):zI G (kM env σ G H):=fun b o q=>by
 unfold kM;by_cases h:sQ env σ b
 ·rw[(I.lent h).1]at q;cases q
 ·rw[sal h];exact q
theorem U3 (I:DI K G₀ H₀ env σ G H):zI (kM env σ G H) H:=fun b o q=>by
 unfold kM at q;by_cases h:sQ env σ b
 ·rw[sak h]at q;exact q
 ·rw[sal h]at q;exact I.le b o q
theorem fG (I:DI K G₀ H₀ env σ G H):∀{vs:List V} {xs:List Val},qG K env σ G vs xs→zO K (kM env σ G H) (xs.map Val.d) vs
 |[],xs,h=>by cases(show xs=[]from h);rfl
 | v::vs,xs,h=>by
   obtain⟨x,r,rfl,h1,h2⟩:=h;refine zO.cons ?_ (fG I h2)
   cases x with
   |p d=>exact kH.mono (dr I) h1
   |fresh ds=>exact h1.elim
   | brw i ds=>
     obtain⟨a,rfl,e1,e2⟩:=h1;obtain⟨b,us,o⟩:=I.own e1;have z:=o.at_;rw[e2]at z;cases z;exact⟨a,us,rfl,by unfold kM;rw[sak ⟨i,ds,e1,e2⟩];exact o.hp,o.rep.mono (dr I)⟩
mutual
theorem jx (I:DI K G₀ H₀ env σ G H){G':Hp}(s:zI (kM env σ G H) G'):∀{d:D} {v:V},j8 d=true→kH K G' d v→kH K (sM env σ G') d v
 | .non,_,_,h=>h
 | .bl _,_,_,h=>h
 | .int _,_,_,h=>h
 | .tup ds,v,n,h=>by
   obtain⟨a,vs,e,g,r⟩:=h;refine⟨a,vs,e,?_,q9 I s (by simpa[j8]using n) r⟩;unfold sM;by_cases hl:sQ env σ a
   ·obtain⟨_,us,q⟩:=I.lent hl;have z:kM env σ G H a=some (.l us):=by unfold kM;rw[sak hl];exact q
    rw[s _ _ z]at g;cases g
   ·rw[sal hl];exact g
 | .l _,_,n,_=>by simp[j8]at n
 | .scr _,_,n,_=>by simp[j8]at n
 | .exc _ _,_,n,_=>by simp[j8]at n
theorem q9 (I:DI K G₀ H₀ env σ G H){G':Hp}(s:zI (kM env σ G H) G'):∀{ds:List D} {vs:List V},oZ ds=true→zO K G' ds vs→zO K (sM env σ G') ds vs
 |[],_,_,h=>h
 | d::ds,vs,n,h=>by
   obtain⟨v,r,e,h1,h2⟩:=h;simp only[oZ,saS]at n;exact⟨v,r,e,jx I s n.1 h1,q9 I s n.2 h2⟩
end
end
section
variable {X:Cx}{G₀ H₀:Hp}{k:Nat}{f:Addr}{fd:FuncData}{ps:List Str}{x:Str}{p pos:Pos}{e:Expr}{es:List Expr}{r:Ev→Out (List Val)}{m:List D→Out Val}
theorem Tq (F:FnOk X.prog X.w X.K X.mg X.base gP k f fd ps (Uh X.K m ps.length))(hr:Room k X.A)(hm:X.mg x=some (.ref f))(hk:PySem.W.keepIn X.K (.ref f)=true)(hb:uX X.K fd ps [])(ha:DA X G₀ H₀ (e::es) r)
 (hlen:∀env xs,r env=.ok xs→xs.length=ps.length) (hg:Gl X x:=by rfl) (hdb:(x == ("__debug__" : Str))=false:=by decide) (he:starEach (e::es) X.env=(false,eval e X.env)::starEach es X.env:=by rfl) (hpl:(backTo pos (starEach es X.env)).any (·.1)=false:=by rfl) :
 DE X G₀ H₀ (.Call (.Name x p) (e::es) [] pos) (zA m r):=(ji F hr hg hm hk hb .nil Ye ha hdb he hpl).imp fun σ H Q q=>by
 obtain⟨env,G,val,I,e,k'⟩:=q;obtain⟨xs,e1,e⟩:=zv e;obtain⟨v,e2,e⟩:=zv e;split at e
 ·rename_i hc;have ev:v=val:=by cases e;rfl
  subst ev;refine⟨env,G,xs,I,e1,fun vs G1 H1 g1 l1 a1=>?_⟩;show Uh X.K m ps.length (vs++[]) H1 Q E0;rw[sbW];have I1:=I.grow g1 l1;have hl:(xs.map Val.d).length=ps.length:=by rw[sac];exact hlen env xs e1
  by_cases hp:xs.all Val.isPers=true
  ·refine⟨G1,_,v,hl,l1,ju a1 hp,e2,fun w G2 H2 g2 l2 h2=>k' w G2 H2 (g1.trans g2) l2 ?_⟩
   cases v with
   |p d=>exact h2
   | fresh ds=>
     obtain⟨a,us,rfl,h3,h4⟩:=h2;exact⟨a,us,rfl,g1.h.free h3,h4⟩
   |brw i ds=>obtain⟨a,rfl,h3,_⟩:=h2;simp at h3
  ·have hcv:v.calm=true:=by simpa[hp]using hc
   refine⟨kM env σ G1 H1,_,v,hl,U3 I1,fG I1 a1,e2,fun w G2 H2 g2 l2 h2=>?_⟩
   have gu:Gw G1 H1 (sM env σ G2) H2:=by
    refine⟨fun b o q=>?_,g2.h,fun b q1 q2=>?_⟩
    ·unfold sM;by_cases hl:sQ env σ b
     ·rw[(I1.lent hl).1]at q;cases q
     ·rw[sal hl];exact g2.g b o (dr I1 b o q)
    ·unfold sM;by_cases hl:sQ env σ b
     ·rw[sak hl]
     ·rw[sal hl];refine g2.n b q1 ?_;unfold kM;rw[sal hl];exact q2
   have lu:zI (sM env σ G2) H2:=fun b o q=>by
    unfold sM at q;by_cases hl:sQ env σ b
    ·rw[sak hl]at q;cases q
    ·rw[sal hl]at q;exact l2 b o q
   refine k' w (sM env σ G2) H2 (g1.trans gu) lu ?_
   cases v with
   |p d=>exact jx I1 g2.g hcv h2
   | fresh ds=>
     obtain⟨a,us,rfl,h3,h4,h5,h6⟩:=h2;refine⟨a,us,rfl,g1.h.free h3,h4,?_,q9 I1 g2.g hcv h6⟩;unfold sM;by_cases hl:sQ env σ a
     ·rw[sak hl]
     ·rw[sal hl];exact h5
   |brw i ds=>cases hcv
 ·cases e
end
theorem xF:∀(names:List (Str×NameKind)) (n:Nat) (acc:List (Str×Addr)),cellsFrom n names acc=cellsFrom n names []++acc
 |[],n,acc=>rfl
 | (x,k)::r,n,acc=>by
   unfold cellsFrom;split
   ·rw[xF r (n+1) ((x,n)::acc),xF r (n+1) [(x,n)]];simp
   ·exact xF r n acc
theorem sX:∀(names:List (Str×NameKind)) (n:Nat) (x:Str),(x,NameKind.cell)∉names→(cellsFrom n names []).lookup x=none
 |[],n,x,_=>rfl
 | (y,k)::r,n,x,h=>by
   have hr:(x,NameKind.cell)∉r:=fun z=>h (sao _ z);unfold cellsFrom;split
   ·rename_i hk;rw[xF,List.lookup_append,sX r (n+1) x hr]
    have hxy:(x == y)=false:=by
     rw[beq_eq_false_iff_ne];rintro rfl;have:k=.cell:=by simpa using hk
     subst this;exact h saw
    simp[List.lookup_cons,hxy]
   ·exact sX r n x hr
noncomputable def wt (cells:List (Str×Addr)):List (Str×NameKind)→List (Str×Addr)→List (Str×Addr)
 |[],acc=>acc
 |(n,k)::r,acc=>if(k == .free)=true then wt cells r ((n,(cells.lookup n).getD 0)::acc)else wt cells r acc
theorem iR {env:Env}:∀(names:List (Str×NameKind)) (acc:List (Str×Addr)),(∀n,(n,NameKind.free)∈names→∃c,env.cells.lookup n=some c) →
 (forIn names acc fun x r=>if(x.2 == NameKind.free)=true then do let a ← cellOf env x.1;pure (ForInStep.yield ((x.1,a)::r))else pure (ForInStep.yield r):Sem (List (Str×Addr)))=pure (wt env.cells names acc)
 |[],acc,_=>rfl
 | (n,k)::r,acc,h=>by
   have ih:=fun acc=>iR (env:=env) r acc fun m hm=>h m (sao _ hm);rw[List.forIn_cons];unfold wt;by_cases hk:(k == NameKind.free)=true
   ·have:k=.free:=by simpa using hk
    subst this;obtain⟨c,hc⟩:=h n saw;rw[sak hk,sak hk];unfold cellOf;rw[hc];simp only[pure_bind,Option.getD_some];exact ih _
   ·rw[sal hk,sal hk];simp only[pure_bind];exact ih _
theorem oN {scope:Scope}{env:Env}(h:∀n,(n,NameKind.free)∈scope.names→∃c,env.cells.lookup n=some c):closureFor scope env=pure (wt env.cells scope.names []):=by
 have:=iR (env:=env) scope.names [] h;unfold closureFor;simp only[bind_pure];exact this
theorem uq {cells:List (Str×Addr)}:∀(names:List (Str×NameKind)) (acc:List (Str×Addr)) (x:Str) (c:Addr),(∀n,(n,NameKind.free)∈names→∃c,cells.lookup n=some c) →
 (wt cells names acc).lookup x=some c→cells.lookup x=some c∨acc.lookup x=some c
 |[],acc,x,c,_,h=>.inr h
 | (n,k)::r,acc,x,c,hn,h=>by
   have hr:∀m,(m,NameKind.free)∈r→∃c,cells.lookup m=some c:=fun m hm=>hn m (sao _ hm);unfold wt at h;split at h
   ·rename_i hk;have:k=.free:=by simpa using hk
    subst this
    rcases uq r _ x c hr h with q|q
    ·exact .inl q
    ·rw[List.lookup_cons]at q
     cases hx:x == n with
     | true=>
       rw[hx]at q;obtain⟨c',hc⟩:=hn n saw;rw[hc]at q;cases q;rw[beq_iff_eq.mp hx];exact .inl hc
     |false=>rw[hx]at q;exact .inr q
   ·exact uq r _ x c hr h
theorem qw {cells:List (Str×Addr)}:∀(names:List (Str×NameKind)) (acc:List (Str×Addr)) (x:Str),((x,NameKind.free)∈names∨(acc.lookup x).isSome=true)→((wt cells names acc).lookup x).isSome=true
 | [],acc,x,h=>by
   rcases h with h|h
   ·simp at h
   ·exact h
 | (n,k)::r,acc,x,h=>by
   unfold wt;split
   ·refine qw r _ x ?_
    rcases h with h|h
    ·rcases san.mp h with e|e
     ·cases e;exact .inr (by simp[List.lookup_cons])
     ·exact .inl e
    ·refine .inr ?_;rw[List.lookup_cons]
     cases x == n with
     |true=>rfl
     |false=>exact h
   ·rename_i hk;refine qw r _ x ?_
    rcases h with h|h
    ·rcases san.mp h with e|e
     ·cases e;exact absurd rfl hk
     ·exact .inl e
    ·exact .inr h
theorem tJ {env:Env}:∀(names:List (Str×NameKind)) (x:Str) (k:NameKind),
 (names.map fun(n,k)=>if(k == NameKind.free&&env.scope.kind == .function&&env.kindOf n == some .cell)then(n,NameKind.cell)else(n,k)).lookup x=some k →
  names.lookup x=some k∨(k=.cell∧names.lookup x=some .free)
 |[],x,k,h=>by simp at h
 | (n,j)::r,x,k,h=>by
   have ih:=tJ (env:=env) r x k;rw[List.map_cons]at h;by_cases hc:(j == NameKind.free&&env.scope.kind == .function&&env.kindOf n == some .cell)=true
   ·simp only[hc,if_true]at h;rw[List.lookup_cons]at h ⊢
    cases hx:x == n with
    | true=>
      rw[hx]at h;cases h;have:j=.free:=by simp at hc;exact hc.1.1
      exact .inr ⟨rfl,by rw[this]⟩
    |false=>rw[hx]at h;exact ih h
   ·simp only[hc,sax,if_false]at h;rw[List.lookup_cons]at h ⊢
    cases hx:x == n with
    |true=>rw[hx]at h;exact .inl h
    |false=>rw[hx]at h;exact ih h
theorem nX {env:Env}:∀(names:List (Str×NameKind)) (x:Str),names.lookup x=some .free →
 ((names.map fun(n,k)=>if(k == NameKind.free&&env.scope.kind == .function&&env.kindOf n == some .cell)then(n,NameKind.cell)else(n,k)).lookup x=some .cell ∨
  (names.map fun(n,k)=>if(k == NameKind.free&&env.scope.kind == .function&&env.kindOf n == some .cell)then(n,NameKind.cell)else(n,k)).lookup x=some .free)
 |[],x,h=>by simp at h
 | (n,j)::r,x,h=>by
   have ih:=nX (env:=env) r x;rw[List.map_cons];rw[List.lookup_cons]at h;by_cases hc:(j == NameKind.free&&env.scope.kind == .function&&env.kindOf n == some .cell)=true
   ·simp only[hc,if_true];rw[List.lookup_cons]
    cases hx:x == n with
    |true=>exact .inl rfl
    |false=>rw[hx]at h;exact ih h
   ·simp only[hc,sax,if_false];rw[List.lookup_cons]
    cases hx:x == n with
    |true=>rw[hx]at h;exact .inr h
    |false=>rw[hx]at h;exact ih h
theorem ax {M:Model}{A:Around}{E:Value→Shared→Prop}{s:Shared}{scope:Scope}{env:Env}{cl:List (Str×Addr)}{Q:Env→Shared→Prop}
 (h:Q {scope:=scope,locals:=s.heap.objs.size,globals:=env.globals,cells:=cellsFrom (s.heap.objs.size+1) scope.names cl,qual:=env.qual,func:=none,code:=env.code,frame:=env.frame,builtins:=env.builtins}
  {s with heap:=pushCells (s.heap.push {cls:=.type "dict",data:=.dict #[]}) scope.names}) :
 wpAny M A (newFunctionEnv scope env.globals cl [] env.qual none .none (some env)) Q E s:=by
 simp only[newFunctionEnv,Option.isSome_some,if_true];refine saa (wpAny_alloc ?_);refine saa (wpAny_layCells _ (fun name kind cells=>by cases hkc:kind == NameKind.cell <;> simp[hkc]) _ _ _ _ ?_);rw[show({s with heap:=s.heap.push {cls:=.type "dict",data:=.dict #[]}}:Shared).heap.objs.size=s.heap.objs.size+1 from saU ..];exact saa (sad (sad h))
noncomputable def wq (X:Cx)(N':List Str)(scope:Scope)(ex:List Addr)(s:Shared)(H:Hp):Cx :=
 { X with
   N:=N'
   s₀:=s
   H₀:=H
   env:=compEnvC scope (cellsFrom (s.heap.objs.size+1) scope.names (wt X.env.cells scope.names [])) s.heap.objs.size X.env
   outer:=X.stack
   stack:=X.stack
   ex:=ex
   fn:=fun x=>scope.names.lookup x == some .cell
   pn:=[]
   xe:=fun _ _=>False}
structure CompOk (X:Cx)(scope:Scope)(cap:List Nat)(own:List Str):Prop where
 kind:scope.kind=.function
 locals:∀x∈scope.names,x.2=.local→scope.names.lookup x.1=some .local
 nd:(scope.names.map (·.1)).Nodup
 frees:(scope.names.all fun x=>x.2 != .free ||(X.env.scope.names.lookup x.1 == some .cell ||X.env.scope.names.lookup x.1 == some .free))=true
 caps:(cap.all fun i=>match X.N[i]? with|some x=>scope.names.lookup x == some .free|none=>false)=true
noncomputable def t9 (X:Cx)(cap:List Nat)(own:List Str):List Str:=cap.map (fun i=>X.N.getD i "")++own
noncomputable def b8 (cap:List Nat)(n:Nat)(σ:St):St:=cap.map (fun i=>σ.getD i none)++List.replicate n none
@[simp] noncomputable def gB (cap:List Nat)(n:Nat)(env:Ev):Ev:=cap.map (fun i=>match env[i]? with|some (.p d)=>.p d|_=>.un)++List.replicate n .un
noncomputable def sL (env:Ev):Prop:=∀(i:Nat) (ds:List D),env[i]?≠some (.own ds)
theorem lh (cap:List Nat)(n:Nat)(env:Ev):sL (gB cap n env):=by
 intro i ds h;unfold gB at h;by_cases hi:i<cap.length
 ·rw[saZ (by simpa using hi),sar,sae hi]at h;simp only[Option.map_some]at h
  split at h <;> cases h
 ·rw[sbt (by simpa using hi),sbD]at h
  split at h <;> cases h
theorem Rw {K:Frag}{G₀ H₀ G H:Hp}{env:Ev}{σ:St}(I:DI K G₀ H₀ env σ G H)(cap:List Nat)(n:Nat):DI K G₀ H₀ (gB cap n env) (b8 cap n σ) G H where
 le:=I.le
 gr:=I.gr
 len:=by simp[gB,b8]
 slot:=fun i s e=>by
  cases s with
  |un=>trivial
  |own ds=>exact absurd e (lh cap n env i ds)
  | p d=>
    unfold gB at e;by_cases hi:i<cap.length
    ·rw[saZ (by simpa using hi),sar,sae hi]at e;simp only[Option.map_some]at e;split at e
     ·rename_i d' hd;cases e;obtain⟨v,h1,h2⟩:=I.p hd;refine⟨v,?_,h2⟩;unfold b8;rw[saZ (by simpa using hi),sar,sae hi];simp[List.getD_eq_getElem?_getD,h1]
     ·cases e
    ·rw[sbt (by simpa using hi),sbD]at e
     split at e <;> cases e
 apart:=fun i j ds es a _ e _ _ _=>lh cap n env i ds e
section
variable {X:Cx}{pins:List (Addr×Obj)}{σ:St}{H:Hp}{s:Shared}{scope:Scope}{cap:List Nat}{own:List Str}
theorem CompOk.free (C:CompOk X scope cap own){n:Str}(h:(n,NameKind.free)∈scope.names):X.env.kindOf n=some .cell∨X.env.kindOf n=some .free:=by
 have q:=scu.mp C.frees _ h;simp at q;exact q
theorem CompOk.cells (C:CompOk X scope cap own)(I:Inv X pins σ H s):∀n,(n,NameKind.free)∈scope.names→∃c,X.env.cells.lookup n=some c:=fun n h=>I.ok.has n (C.free h)
theorem VU {fp:List Addr}(C:CompOk X scope cap own)(I:Inv X pins σ H s)(hf:∀b∈fp,lY X pins H b)(hex:∀b∈fp,b<s.heap.objs.size) :
 Inv (wq X (t9 X cap own) scope fp s H) [] (b8 cap own.length σ) H {s with heap:=pushCells (s.heap.push {cls:=.type "dict",data:=.dict #[]}) scope.names}:=by
 have hcl:=C.cells I;have keep:∀b o,s.heap.get? b=some o→(pushCells (s.heap.push {cls:=.type "dict",data:=.dict #[]}) scope.names).get? b=some o:=fun b o e=>pushCells_keeps _ _ b o (sab _ e);have ok:=cellsFrom_ok scope.names (s.heap.push {cls:=.type "dict",data:=.dict #[]}) (s.heap.objs.size+1) [] ⟨fun _ _ hm=>(nomatch hm),List.Pairwise.nil⟩ (by rw[saU];exact Nat.le_refl _);rw[saU]at ok
 have cases_cell:∀x c,(cellsFrom (s.heap.objs.size+1) scope.names (wt X.env.cells scope.names [])).lookup x=some c →
  ((cellsFrom (s.heap.objs.size+1) scope.names []).lookup x=some c)∨((cellsFrom (s.heap.objs.size+1) scope.names []).lookup x=none∧X.env.cells.lookup x=some c):=fun x c h=>by
  rw[xF,List.lookup_append]at h
  cases q:(cellsFrom (s.heap.objs.size+1) scope.names []).lookup x with
  |some c'=>rw[q]at h;exact .inl h
  | none=>
    rw[q]at h;simp at h
    rcases uq scope.names [] x c hcl h with z|z
    ·exact .inr ⟨rfl,z⟩
    ·simp at z
 have ownC:∀x c,(cellsFrom (s.heap.objs.size+1) scope.names []).lookup x=some c→(pushCells (s.heap.push {cls:=.type "dict",data:=.dict #[]}) scope.names).IsCell c none∧s.heap.objs.size+1≤c:=fun x c h=>ok.empty x c (sbb h);have oldC:∀x c,X.env.cells.lookup x=some c→c<s.heap.objs.size:=fun x c h=>let ⟨_,z⟩:=I.cell x c h;z.lt;have kindX:∀x,(compEnvC scope (cellsFrom (s.heap.objs.size+1) scope.names (wt X.env.cells scope.names [])) s.heap.objs.size X.env).kindOf x=(relabel scope X.env).names.lookup x:=fun _=>rfl
 refine⟨⟨I.ok.mod,C.kind,I.ok.glob,I.ok.blt,Nat.le_refl _,fun x y c h1 h2=>?_,fun x hx=>?_,fun x c hx h=>?_,I.ok.hd,I.ok.frames,.inl rfl,fun b hb=>?_,I.bs,sbq I.ok.bsz I.sz,fun b o e hb=>?_,fun b hb hs=>?_,I.stack,I.stkFree⟩,
  rfl,I.bare,Un.kept keep,⟨_,(Heap.Ns.new s.heap (.type "dict")).keeps (pushCells_keeps _ _),fun i x v e1 e2 e3=>?_⟩,fun x c h=>?_,I.hok.fresh (Nat.le_refl _),fun x c h=>?_,fun p hp=>absurd (show p∈([]:List (Addr×Obj))from hp) (by simp),I.hok.kept keep,?_⟩
 ·rcases cases_cell x c h1 with z1|⟨_,z1⟩
  ·rcases cases_cell y c h2 with z2|⟨_,z2⟩
   ·exact name_of_addr ok.apart (sbb z1) (sbb z2)
   ·exact absurd (sau (sbr (oldC y c z2)) (ownC x c z1).2) (sby _)
  ·rcases cases_cell y c h2 with z2|⟨_,z2⟩
   ·exact absurd (sau (sbr (oldC x c z1)) (ownC y c z2).2) (sby _)
   ·exact I.ok.inj x y c z1 z2
 ·show ∃c,(cellsFrom (s.heap.objs.size+1) scope.names (wt X.env.cells scope.names [])).lookup x=some c;rw[xF,List.lookup_append]
  cases q:(cellsFrom (s.heap.objs.size+1) scope.names []).lookup x with
  |some c'=>exact⟨c',rfl⟩
  | none=>
    have fr:scope.names.lookup x=some .free→∃c,(none.or ((wt X.env.cells scope.names []).lookup x))=some c:=fun z=>by
     have:=qw (cells:=X.env.cells) scope.names [] x (.inl (sbb z));exact sbP.mp (by simpa using this)
    have hx':(relabel scope X.env).names.lookup x=some .cell∨(relabel scope X.env).names.lookup x=some .free:=hx
    rcases hx' with z|z
    ·rcases tJ scope.names x .cell z with z|⟨_,z⟩
     ·obtain⟨c,z2⟩:=mF (n:=s.heap.objs.size+1) (sc:=scope) z;rw[z2]at q;cases q
     ·exact fr z
    ·rcases tJ scope.names x .free z with z|⟨z,_⟩
     ·exact fr z
     ·cases z
 ·have hx':scope.names.lookup x=some .cell:=by simpa using(show(scope.names.lookup x == some .cell)=true from hx)
  rcases cases_cell x c h with z|⟨z,_⟩
  ·exact sbO (ownC x c z).2
  ·obtain⟨c',z2⟩:=mF (n:=s.heap.objs.size+1) (sc:=scope) hx';rw[z2]at z;cases z
 ·refine⟨saz (hex b hb),fun x c h z=>?_⟩
  rcases cases_cell x c h with q|⟨_,q⟩
  ·exact absurd (sau (sbr (hex b hb)) (z ▸ (ownC x c q).2)) (sby _)
  ·exact(hf b hb).2.2.2.2.1 x c q z
 ·rcases(hf b hb).2.2.2.1 with z|z
  ·exact I.ok.noex b o e z
  ·exact absurd (sau (sag e) (sbq I.ok.bsz z)) (sby _)
 ·rcases san.mp (I.stkSub b hs)with z|z
  ·exact(hf b hb).2.1 z
  ·exact(hf b hb).2.2.1 z
 ·
  have e1':(t9 X cap own)[i]?=some x:=e1;unfold t9 at e1';unfold b8 at e2;by_cases hi:i<cap.length
  ·rw[saZ (by simpa using hi),sar,sae hi]at e1' e2;simp only[Option.map_some,Option.some.injEq]at e1' e2;have hcap:=scu.mp C.caps cap[i] (List.getElem_mem hi)
   cases q:X.N[cap[i]]? with
   |none=>rw[q]at hcap;cases hcap
   | some y=>
     rw[q]at hcap;have hy:scope.names.lookup y=some .free:=by simpa using hcap
     have hxy:x=y:=by rw[←e1',List.getD_eq_getElem?_getD,q];rfl
     subst hxy
     have hs:σ[cap[i]]?=some (some v):=by
      rw[List.getD_eq_getElem?_getD]at e2
      cases z:σ[cap[i]]? with
      |none=>rw[z]at e2;cases e2
      |some w=>rw[z]at e2;simp at e2;rw[e2]
     have hk:=C.free (sbb hy);obtain⟨m,hn,hl⟩:=I.loc;obtain⟨u,ru,lk⟩:=hl cap[i] x v q hs (hk.elim (fun z=>.inr (.inl z)) fun z=>.inr (.inr z));refine⟨u,ru,.inr ⟨?_,?_⟩⟩
     ·exact nX scope.names x hy
     ·rcases lk with⟨z,_⟩|⟨_,c,hc,hcell⟩
      ·rcases hk with z'|z' <;> (rw[z]at z';cases z')
      ·refine⟨c,?_,hcell.keeps keep⟩;show(cellsFrom (s.heap.objs.size+1) scope.names (wt X.env.cells scope.names [])).lookup x=some c;rw[xF,List.lookup_append]
       have hno:(cellsFrom (s.heap.objs.size+1) scope.names []).lookup x=none:=sX _ _ _ fun hm=>by
        have m1:=sbb hy;have:=C.nd;rw[sbZ,sbw]at this;have:=List.Pairwise.forall_of_forall_of_flip (R:=fun a b:Str×NameKind=>a.1≠b.1∨a=b) (l:=scope.names) (fun _ _=>.inr rfl) (this.imp fun h=>.inl h) (this.imp fun h=>.inl h.symm)
        rcases this m1 hm with z|z
        ·exact z rfl
        ·cases z
       rw[hno];have hsome:=qw (cells:=X.env.cells) scope.names [] x (.inl (sbb hy));obtain⟨c',hc'⟩:=sbP.mp hsome
       rcases uq scope.names [] x c' hcl hc' with z|z
       ·rw[hc]at z;cases z;simpa using hc'
       ·simp at z
  ·rw[sbt (by simpa using hi),sbD]at e2
   split at e2 <;> cases e2
 ·rcases cases_cell x c h with z|⟨_,z⟩
  ·exact⟨_,(ownC x c z).1⟩
  ·obtain⟨v,q⟩:=I.cell x c z;exact⟨v,q.keeps keep⟩
 ·rcases cases_cell x c h with z|⟨_,z⟩
  ·exact I.hok.fresh (sbO (ownC x c z).2)
  ·exact I.freeC x c z
 ·show(b8 cap own.length σ).length=(t9 X cap own).length;simp[b8,t9]
end
theorem dU {prog:Program}{w:World}{A:Around}{R:Result→Shared→Prop}{s:Shared}{elt target iter:Expr}{ifs:List Expr}{scope:Scope}{pos:Pos}{it acc:Value}{env:Env}(I:Nat→Shared→Prop)
 (turn:∀n s,I n s→wpAny (model prog w) A (pyNext it) (fun r s₁=>match r with
  |none=>R (.ok .next) s₁
  |some v=>wpAny (model prog w) A (letOwnedTupleGo target it v) (fun _ s₁'=>wpAny (model prog w) A (assign target env v) (fun _ s₂ =>
   wpAny (model prog w) A (forIn ifs true fun c r=>if r=true then do let ok ← isTrue c env (eval c env);pure (ForInStep.yield ok)else pure (ForInStep.yield r)) (fun ok s₃ =>
    if ok=true then wpAny (model prog w) A (eval elt env) (fun x s₄ =>
     wpAny (model prog w) A (call (.builtin "list.append") [acc,x]) (fun _ s₅=>∃m,m<n∧I m s₅) (fun _ _=>False) s₄) (fun _ _=>False) s₃
    else ∃m,m<n∧I m s₃) (fun _ _=>False) s₂) (fun _ _=>False) s₁') (fun _ _=>False) s₁) (fun _ _=>False) s)
 (n:Nat) (h:I n s) :
 codeAny (model prog w) A (.compLoop (.ListComp elt [⟨target,iter,ifs,0⟩] scope pos) 0 it acc env) R s:=by
 refine codeAny_loop rfl I (fun n s hI=>?_) n h;show wpAny _ A ((compTurn (.ListComp elt [⟨target,iter,ifs,0⟩] scope pos) 0 it acc env).onRaise (fun x=>do noteFrame x env;theTreesLotGoes x)) _ _ s;refine wpAny_noted ?_;rw[compTurn_list];refine saa (sco (saa (saR (turn n s hI) (fun r s₁ h₁ =>?_) fun _ _ h'=>h'.elim)))
 cases r with
 |none=>exact sad h₁
 | some v=>
   refine saa (saR h₁ (fun _ s₁' h₁'=>?_) fun _ _ h'=>h'.elim);refine saa (saR h₁' (fun _ s₂ h₂=>saa (saR h₂ (fun ok s₃ h₃ =>?_) fun _ _ h'=>h'.elim)) fun _ _ h'=>h'.elim)
   cases ok with
   |false=>exact sad ⟨rfl,h₃⟩
   | true=>
     exact saa (saa (saR h₃ (fun x s₄ h₄=>saa (saR h₄ (fun _ s₅ h₅=>sad (sad ⟨rfl,h₅⟩)) fun _ _ h'=>h'.elim)) fun _ _ h'=>h'.elim))
noncomputable def xr (g:D→Ev→Out Ev)(ft:FT)(fe:FE):List D→Ev→Out (List D)
 |[],_=>.ok []
 |d::ds,env=>(g d env).bind fun env1=>(ft env1).bind fun c=>if c=true then(fe env1).bind fun x=>x.hold.bind fun y=>(xr g ft fe ds env1).bind fun r=>.ok (y::r)else xr g ft fe ds env1
@[simp] noncomputable def yI (cap:List Nat)(n:Nat)(fi:FI)(g:D→Ev→Out Ev)(ft:FT)(fe:FE):FE:=fun env=>(fi env).bind fun ds=>if ds.length≤100000 then(xr g ft fe ds (gB cap n env)).bind fun out=>.ok (.fresh out)else .bad
noncomputable def QV (X:Cx)(G₀ H₀:Hp)(ifs:List Expr)(ft:FT):Prop:=∀(pins:List (Addr×Obj)) (s:Shared) (σ:St) (H:Hp) (Q:Bool→Hp→Prop),Inv X pins σ H s→tT X.K G₀ H₀ ft σ H Q →
 wpAny (model X.prog X.w) X.A (forIn ifs true fun c r=>if r=true then do let ok ← isTrue c X.env (eval c X.env);pure (ForInStep.yield ok)else pure (ForInStep.yield r)) (TP X pins σ Q) X.xe s
@[simp] noncomputable def uN:FT:=fun _=>.ok true
theorem sG {X:Cx}{G₀ H₀:Hp}:QV X G₀ H₀ [] uN:=fun pins s σ H Q I q=>wpAny_tests_nil (by
 obtain⟨env,G,b,J,e,k⟩:=q;cases e
 exact⟨H,I,k G H (Gw.refl _ _) J.le⟩)
theorem u7 {X:Cx}{G₀ H₀:Hp}{c:Expr}{ft:FT}(h:DT X G₀ H₀ c ft):QV X G₀ H₀ [c] ft:=fun pins s σ H Q I q=>wpAny_tests_one (h pins s σ H Q I q)
noncomputable def Ue (g:D→Ev→Out Ev):Prop:=∀d env env',g d env=.ok env'→sL env→sL env'
theorem sL.set {env:Ev}(h:sL env)(i:Nat)(d:D):sL (env.set i (.p d)):=fun j ds e=>by
 by_cases hj:i=j
 ·subst hj;cases(xO e).1
 ·rw[sam hj]at e;exact h j ds e
theorem yU (i:Nat):Ue (gN i):=fun d env env' e h=>by cases e;exact h.set i d
theorem sL.setAll:∀(is:List Nat) (ds:List D) {env:Ev},sL env→sL (setAll is ds env)
 |[],_,_,h=>h
 |_::_,[],_,h=>h
 |i::is,d::ds,env,h=>sL.setAll is ds (h.set i d)
theorem iT (is:List Nat):Ue (gT is):=fun d env env' e h=>by
 unfold gT at e;split at e
 ·split at e
  ·cases e;exact sL.setAll is _ h
  ·cases e
 ·cases e
theorem DI.other {K:Frag}{G₀ H₀ G H:Hp}{env:Ev}{σ:St}(I:DI K G₀ H₀ env σ G H)(h:sL env){p:Addr}{o:HO}(hg:G p=none)(h0:H₀ p=none):DI K G₀ H₀ env σ G (yo H p o) where
 le:=fun b u q=>by rw[zx (zz q hg)];exact I.le b u q
 gr:=⟨I.gr.g,fun b u q=>by rw[zx (zz q h0)];exact I.gr.h b u q,I.gr.n⟩
 len:=I.len
 slot:=fun i s e=>by
  cases s with
  |un=>trivial
  |p d=>exact I.slot i _ e
  |own ds=>exact absurd e (h i ds)
 apart:=I.apart
section
variable {X:Cx}{G₀ H₀:Hp}{elt iter tg:Expr}{ifs:List Expr}{scope:Scope}{pos:Pos}{fi:FI}{g:D→Ev→Out Ev}{ft:FT}{fe:FE}{cap:List Nat}{own:List Str}
structure CLoop (Iv:St→Hp→Shared→Prop)(K:Frag)(G₀ H₀ G2 H2:Hp)(g:D→Ev→Out Ev)(ft:FT)(fe:FE)(ds out:List D)(fp:List Addr)(a:Addr)(tn:Nat→Heap→Prop)(k:Nat)(s':Shared)(i:Nat)(σ':St)(H' G':Hp)(env':Ev)(accD:List D)(accV:List V)(yv:List D):Prop where
 hk:k=ds.length+1 - i
 hi:i≤ds.length
 iv:Iv σ' H' s'
 st:tn i s'.heap
 fr:∀b∈fp,H' b=none
 di:DI K G₀ H₀ env' σ' G' H'
 no:sL env'
 gr:Gw G2 H2 G' H'
 ha:H' a=some (.l accV)
 ga:G' a=none
 ra:zO K G' accD accV
 la:accD.length≤i
 ec:xr g ft fe (ds.drop i) env'=.ok yv
 eo:out=accD++yv
theorem iQ (C:CompOk X scope cap own)(hc:X.calm=true)
 (hg:∀ex s H,DG (wq X (t9 X cap own) scope ex s H) G₀ H₀ tg g) (hgc:Ue g) (ht:∀ex s H,QV (wq X (t9 X cap own) scope ex s H) G₀ H₀ ifs ft) (he:∀ex s H,DE (wq X (t9 X cap own) scope ex s H) G₀ H₀ elt fe)
 {pins:List (Addr×Obj)} {σ:St} {H2 G2:Hp} {s2:Shared} {env:Ev} {it:Addr} {fp:List Addr} {tn:Nat→Heap→Prop} {J:It} {ds out:List D}
 (I2:Inv X pins σ H2 s2) (D2:DI X.K G₀ H₀ env σ G2 H2) (T:Turn X.prog X.w X.K tg J fp it tn) (st2:tn 0 s2.heap) (f2:∀b∈fp,lY X pins H2 b) (jok:JOk X.K J G2 ds) (hz:ds.length≤100000)
 (e:xr g ft fe ds (gB cap own.length env)=.ok out) {RR:Value→Addr→Result→Shared→Prop} {E:Value→Shared→Prop}
 (fin:∀(D C:Addr) (vs:List V) (G' H':Hp) (s':Shared),s2.heap.objs.size≤C∧H' C=none→H2 D=none→H' D=some (.l vs)→G' D=none→zO X.K G' out vs→Gw G2 H2 G' H'→zI G' H' →
  (∃m,s'.heap.Ns C m)→(∀h',Heap.SameBut C s'.heap h'→Inv X pins σ H' {s' with heap:=h'})→RR (.ref D) C (.ok .next) s') :
 wpAny (model X.prog X.w) X.A (newList []) (fun acc s₃=>wpAny (model X.prog X.w) X.A (newFunctionEnv scope X.env.globals (wt X.env.cells scope.names []) [] X.env.qual none .none (some X.env)) (fun cenv s₄ =>
  codeAny (model X.prog X.w) X.A (.compStart (.ListComp elt [⟨tg,iter,ifs,0⟩] scope pos) 0 (.ref it) acc {cenv with scope:=relabel scope X.env}) (RR acc cenv.locals) s₄) E s₃) E s2:=by
 have hlt:∀b∈fp,b<s2.heap.objs.size:=fun b hb=>let ⟨o,eo,_⟩:=T.obj _ _ st2 b hb;sag eo;refine sck (ax ?_);dsimp only;generalize hD:s2.heap.objs.size=D;have fD:H2 D=none:=by rw[←hD];exact I2.fresh
 have I3:Inv X pins σ (yo H2 D (.l [])) {s2 with heap:=s2.heap.push {cls:=.type "list",data:=.seq ([]:List Value).toArray}}:=by
  have:=I2.lnew (t':=s2.toks) (ys:=[]) (its:=[]) .nil (saT _);rw[hD]at this;exact this
 generalize hs3:({s2 with heap:=s2.heap.push {cls:=.type "list",data:=.seq ([]:List Value).toArray}}:Shared)=s3 at I3;have hs3':s3.heap=s2.heap.push {cls:=.type "list",data:=.seq ([]:List Value).toArray}:=by rw[←hs3]
 have f3:∀b∈fp,lY X pins (yo H2 D (.l [])) b:=fun b hb=>⟨by rw[zx (by rw[←hD];exact saz (hlt b hb))];exact(f2 b hb).1,(f2 b hb).2⟩
 have hlt3:∀b∈fp,b<s3.heap.objs.size:=fun b hb=>by rw[hs3',saU];exact sbr (hlt b hb)
 have I4:=VU C I3 f3 hlt3;have st4:tn 0 (pushCells (s3.heap.push {cls:=.type "dict",data:=.dict #[]}) scope.names):=T.keep _ _ _ st2 fun b hb o eo=>pushCells_keeps _ _ b o (sab _ (by rw[hs3'];exact sab _ eo));have g3:Gw G2 H2 G2 (yo H2 D (.l []))∧zI G2 (yo H2 D (.l [])):=Gw.laidL D2.le fD;have D4:DI X.K G₀ H₀ (gB cap own.length env) (b8 cap own.length σ) G2 (yo H2 D (.l [])):=Rw (D2.grow g3.1 g3.2) cap own.length
 have stat:∀{H':Hp},(∀b∈fp,H' b=none)→∀b∈fp,lY (wq X (t9 X cap own) scope fp s3 (yo H2 D (.l []))) [] H' b:=fun {H'} hn b hb=>
  ⟨hn b hb,(I4.ok.exf b hb).1,I4.ok.exfs b hb,.inl hb,(I4.ok.exf b hb).2,fun p hp=>absurd (show p∈([]:List (Addr×Obj))from hp) (by simp)⟩
 have hG2D:G2 D=none:=D2.le.free fD;have h0D:H₀ D=none:=D2.gr.h.free fD
 have loop:∀s4:Shared,s4={s3 with heap:=pushCells (s3.heap.push {cls:=.type "dict",data:=.dict #[]}) scope.names} →
  codeAny (model X.prog X.w) X.A (.compLoop (.ListComp elt [⟨tg,iter,ifs,0⟩] scope pos) 0 (.ref it) (.ref D) (wq X (t9 X cap own) scope fp s3 (yo H2 D (.l []))).env) (RR (.ref D) s3.heap.objs.size) s4:=by
  rintro s4 rfl
  refine dU (fun k s'=>∃i σ' H' G' env' accD accV yv,CLoop (fun σ H s=>Inv (wq X (t9 X cap own) scope fp s3 (yo H2 D (.l []))) [] σ H s) X.K G₀ H₀ G2 H2 g ft fe ds out fp D tn k s' i σ' H' G' env' accD accV yv) ?_ (ds.length+1)
   ⟨0,_,_,G2,_,[],[],out,rfl,saT _,I4,st4,fun b hb=>(f3 b hb).1,D4,lh _ _ _,g3.1,zH,hG2D,zO.nil,saT _,by simpa using e,rfl⟩
  rintro k s5 ⟨i,σ5,H5,G5,env5,accD,accV,yv,rfl,hi,I5,st5,fr5,D5,no5,gr5,hD5,gD5,ra5,la5,e5,eo⟩;by_cases hlt5:i<ds.length
  ·have hd:ds.drop i=ds[i]::ds.drop (i+1):=sbM hlt5;rw[hd]at e5;obtain⟨env6,e6,e5⟩:=zv e5;obtain⟨c,e7,e5⟩:=zv e5;refine xU (T.item (wq X (t9 X cap own) scope fp s3 (yo H2 D (.l []))) rfl rfl rfl hc i [] s5 σ5 H5 (fun _ _=>False) I5 (stat fr5) st5 (jok.go i G5 H5 gr5.g D5.le hlt5)) fun r s6 ⟨u,hr,h6⟩=>?_;subst hr;refine xU h6 fun _ s7 ⟨x,H7,I7,r7,y7,st7,fr7⟩=>?_;obtain⟨d,G7,hd7,g7,l7,rx7⟩:=jok.yld i G5 H5 x H7 gr5.g D5.le hlt5 y7;have hde:d=ds[i]:=by rw[sae hlt5]at hd7;exact(saE hd7).symm
   subst hde;have D7:=D5.grow g7 l7;have I7':=I7.pinned (stat fr7) (T.obj _ _ st7);refine xU (hg fp s3 (yo H2 D (.l [])) _ s7 σ5 H7 x u (fun σ8 H8=>H8=H7∧DI X.K G₀ H₀ env6 σ8 G7 H7) I7' r7 ⟨env5,G7,_,env6,D7,rx7,e6,fun σ8 D8=>⟨rfl,D8⟩⟩) fun _ s8 ⟨σ8,H8,I8,hH8,D8⟩=>?_;subst hH8;have no8:sL env6:=hgc _ _ _ e6 no5;have hD7:H8 D=some (.l accV):=g7.h _ _ hD5;have gD7:G7 D=none:=g7.n D (by rw[hD5];simp) gD5;refine xU (ht fp s3 (yo H2 D (.l [])) _ s8 σ8 H8 (fun b H9=>b=c∧∃G9,Gw G7 H8 G9 H9∧zI G9 H9) I8 ⟨env6,G7,c,D8,e7,fun G9 H9 g9 l9=>⟨rfl,G9,g9,l9⟩⟩) fun ok s9 ⟨H9,I9,hok,G9,g9,l9⟩=>?_;subst hok;have D9:=D8.grow g9 l9
   have back:∀{s10:Shared} {σ10:St} {H10:Hp},Inv (wq X (t9 X cap own) scope fp s3 (yo H2 D (.l []))) ([]++jY fp s7.heap) σ10 H10 s10 →
    Inv (wq X (t9 X cap own) scope fp s3 (yo H2 D (.l []))) [] σ10 H10 s10∧tn (i+1) s10.heap∧(∀b∈fp,H10 b=none):=fun {s10 σ10 H10} I10=>by
    refine⟨I10.unpinned,T.keep _ _ _ st7 fun b hb o eb=>(I10.pin (b,o) (saX _ (saX _ (qf hb eb)))).1,fun b hb=>?_⟩;obtain⟨o,eb,d⟩:=T.obj _ _ st7 b hb;exact(I10.pin (b,o) (saX _ (saX _ (qf hb eb)))).2.1
   have gr9:Gw G2 H2 G9 H9:=(gr5.trans g7).trans g9
   cases ok with
   | false=>
     rw[sal sai]at e5 ⊢;obtain⟨I10,st10,fr10⟩:=back I9;exact⟨ds.length+1 - (i+1),by lia,i+1,σ8,H9,G9,env6,accD,accV,yv,rfl,hlt5,I10,st10,fr10,D9,no8,gr9,g9.h _ _ hD7,g9.n D (by rw[hD7];simp) gD7,(ra5.mono g7.g).mono g9.g,by lia,e5,eo⟩
   | true=>
     rw[sak rfl]at e5 ⊢;obtain⟨xv,e8,e5⟩:=zv e5;obtain⟨y,e9,e5⟩:=zv e5;obtain⟨rest',e10,e5⟩:=zv e5;cases e5;refine xU (he fp s3 (yo H2 D (.l [])) _ s9 σ8 H9 (fun v H10=>∃G10,Gw G9 H9 G10 H10∧zI G10 H10∧kH X.K G10 y v) I9 ⟨env6,G9,xv,D9,e8,fun v G10 H10 g10 l10 h10=>kQ g10 l10 h10 e9⟩) fun u10 s10 ⟨v10,H10,I10,r10,G10,g10,l10,rep10⟩=>?_;have D10:=D9.grow g10 l10;have hD10:H10 D=some (.l accV):=g10.h _ _ (g9.h _ _ hD7);have gD10:G10 D=none:=g10.n D (by rw[g9.h _ _ hD7];simp) (g9.n D (by rw[hD7];simp) gD7);have ra10:=((ra5.mono g7.g).mono g9.g).mono g10.g
     refine xU (og (X:=wq X (t9 X cap own) scope fp s3 (yo H2 D (.l []))) _ s10 σ8 H10 (.ref D) [v10] (.ref D) [u10] (fun _ H11=>H11=yo H10 D (.l (accV++[v10]))) I10 rfl (.cons r10 .nil)
      ⟨D,accV,v10,rfl,rfl,hD10,by rw[←ra10.length,sizeLine_eq];lia,rfl⟩) fun _ s11 ⟨_,H11,I11,_,hH11⟩=>?_
     subst hH11;obtain⟨I12,st12,fr12⟩:=back I11
     have gr10:Gw G2 H2 G10 (yo H10 D (.l (accV++[v10]))):=by
      have q:=gr9.trans g10;exact⟨q.g,fun b o z=>by rw[zx (zz z fD)];exact q.h b o z,q.n⟩
     exact⟨ds.length+1 - (i+1),by lia,i+1,σ8,_,G10,env6,accD++[y],accV++[v10],rest',rfl,hlt5,I12,st12,fr12,D10.other no8 gD10 h0D,no8,gr10,zH,gD10,ra10.append (zO.cons rep10 zO.nil),by simp;lia,e10,by rw[eo];simp⟩
  ·have hi5:i=ds.length:=by lia
   subst hi5;refine xU (T.done (wq X (t9 X cap own) scope fp s3 (yo H2 D (.l []))) rfl rfl rfl hc _ [] s5 σ5 H5 (fun _ _=>False) I5 (stat fr5) st5 (jok.stop _ G5 H5 gr5.g D5.le (Nat.le_refl _))) fun r s6 ⟨hr,I6⟩=>?_;subst hr;rw[List.drop_length]at e5;cases e5;have eo':out=accD:=by rw[eo];simp
   refine fin D s3.heap.objs.size accV G5 H5 s6 ?_ fD hD5 gD5 (by rw[eo'];exact ra5) gr5 D5.le ?_ fun h' sb=>?_
   ·exact⟨by rw[hs3',saU];exact Nat.le_succ _,I6.free⟩
   ·obtain⟨m,hm,_⟩:=I6.loc;exact⟨m,hm⟩
   ·have ne:∀b o,s3.heap.get? b=some o→b≠s3.heap.objs.size:=fun b o eb=>saz (sag eb);have frC:H5 s3.heap.objs.size=none:=I6.free;have up:∀b o,b≠s3.heap.objs.size→s6.heap.get? b=some o→h'.get? b=some o:=fun b o hb eb=>sb.extBut b o hb eb;have ub:=I6.base
    have U:Un (nv X.stack) fp (yo H2 D (.l [])) H5 s3.heap h' :=
     ⟨fun b o eb n hb hx=>up b o (ne b o eb) (ub.keep b o eb n hb hx),fun b o eb n hb hx=>let ⟨sl,q⟩:=ub.slot b o eb n hb hx;⟨sl,up b _ (ne b o eb) q⟩,ub.free,fun b o eb hx=>let ⟨o',q⟩:=ub.there b o eb hx;⟨o',up b _ (ne b o eb) q⟩,ub.tups,ub.frzs,ub.tbls⟩
    have hok:nO X.prog X.w H5 h':=fun b u eb=>(I6.hok b u eb).stay (fun c v hc' q=>up c v (by
     rcases hc' with rfl|hc'
     ·intro z;rw[z,frC]at eb;cases eb
     ·intro z;rw[z,frC]at hc';cases hc') q) (fun _ q=>q) fun _ _ q=>q
    exact I3.call' (s':={s6 with heap:=h'}) I6.os U hok I6.bare fun b hb=>let ⟨a0,a1,a2,a3,a4,a5⟩:=f3 b hb;⟨a3,a1,a4,a5⟩
 subst hs3;exact codeAny_compStart_list (loop _ rfl) (T.self _ 0 _ _ _ st4 (loop _ rfl))
theorem vg (C:CompOk X scope cap own)(hi:TN X G₀ H₀ tg iter fi)
 (hg:∀ex s H,DG (wq X (t9 X cap own) scope ex s H) G₀ H₀ tg g) (hgc:Ue g) (ht:∀ex s H,QV (wq X (t9 X cap own) scope ex s H) G₀ H₀ ifs ft) (he:∀ex s H,DE (wq X (t9 X cap own) scope ex s H) G₀ H₀ elt fe)
 (hc:X.calm=true:=by rfl) (hs:∀x,foldedSetIterable iter X.env x=pure x:=by intro _;rfl):DE X G₀ H₀ (.ListComp elt [⟨tg,iter,ifs,0⟩] scope pos) (yI cap own.length fi g ft fe):=by
 intro pins s σ H Q I q;obtain⟨env,G,val,D0,e,k⟩:=q;obtain⟨ds,e1,e⟩:=zv e;split at e
 ·rename_i hz;obtain⟨out,e2,e⟩:=zv e;cases e;rw[eval_ListComp];refine wpAny_comprehension_free (use:=none) (cl:=wt X.env.cells scope.names []) rfl hs (oN (C.cells I)) C.kind C.locals ?_;refine xU (hi pins s σ H (fun J H2=>∃G2,Gw G H G2 H2∧zI G2 H2∧JOk X.K J G2 ds) I ⟨env,G,ds,D0,e1,fun J G2 H2 g2 l2 jok=>⟨G2,g2,l2,jok⟩⟩) fun v s1 h1=>xU h1 fun itv s2 h2=>?_;obtain⟨it,fp,tn,J,H2,rfl,I2,T,st2,f2,G2,g2,l2,jok⟩:=h2;refine iQ (RR:=fun acc C=>compPost (model X.prog X.w) X.A X.xe none (EP X pins σ Q) acc C) C hc hg hgc ht he I2 (D0.grow g2 l2) T st2 f2 jok hz e2 fun D C' vs G' H' s' hC fD hD gD r gr l hm hI=>?_;obtain⟨m,hm⟩:=hm;exact⟨m,hm,fun h' sb=>⟨.ref D,H',hI h' sb,rfl,k _ G' H' (g2.trans gr) l ⟨D,vs,rfl,g2.h.free fD,hD,gD,r⟩⟩⟩
 ·cases e
end
theorem VX {X:Cx}:rP X (.builtin "isinstance") (fun xs H Q=>∃x t T b,xs=[x,.ty T]∧TyOf X.K H x t∧PySem.W.kitOne X.K t (.type T)=some b∧Q (.bl b) H):=by
 intro pins s σ H xs us Q I r h;obtain⟨x,t,T,b,rfl,ty,e,q⟩:=h;obtain⟨u,w',rfl,r1,r2⟩:=gU r;cases(show w'=.type T from r2)
 exact Xt I r1 ty e fun tk=>⟨.bl b,H,I.tok _,rfl,q⟩
@[simp] noncomputable def Qr (T:String):D→Option Bool
  | .non=>some false
  | .bl _=>some (decide (T = "int") ||decide (T = "bool"))
  | .int _=>some (decide (T = "int"))
  | .l _=>some (decide (T = "list"))
  | .tup _=>some (decide (T = "tuple"))
  |_=>none
@[simp] noncomputable def Th (T:String) (x:D):Out Val:=match Qr T x with
  |some b=>.ok (.p (.bl b))
  |none=>.bad
structure IsiT (T:String):Prop where
 mem:T = "int" ∨ T = "bool" ∨ T = "list" ∨ T = "tuple"
theorem Ta {K:Frag}{T:String}(h:IsiT T){G₀ H₀:Hp}{env:Ev}{σ:St}{G H:Hp}{v:V}{d:D}{b:Bool}(I:DI K G₀ H₀ env σ G H)(o:ur K env σ G v d)(e:Qr T d=some b) :
 ∃t,TyOf K H v t∧PySem.W.kitOne K t (.type T)=some b:=by
 cases d with
 | non=>
   cases e;rw[o.non];refine⟨_,.non,?_⟩
   rcases h.mem with rfl|rfl|rfl|rfl <;> kernel_rfl
 | bl c=>
   cases e;rw[o.bl];refine⟨_,.bl c,?_⟩
   rcases h.mem with rfl|rfl|rfl|rfl <;> kernel_rfl
 | int i=>
   cases e;rw[o.int];refine⟨_,.int i,?_⟩
   rcases h.mem with rfl|rfl|rfl|rfl <;> kernel_rfl
 | l ds=>
   cases e;obtain⟨a,vs,rfl,h1,_⟩:=ur.l I o;refine⟨_,.l h1,?_⟩
   rcases h.mem with rfl|rfl|rfl|rfl <;> kernel_rfl
 | tup ds=>
   cases e;obtain⟨a,vs,rfl,h1,_⟩:=ur.tup I o;refine⟨_,.tup h1,?_⟩
   rcases h.mem with rfl|rfl|rfl|rfl <;> kernel_rfl
 |scr ns=>cases e
 |exc c p=>cases e
theorem VQ {X:Cx}{G₀ H₀:Hp}{p p2 pos:Pos}{e:Expr}{f:FE}{xT:Str}{T:String}(hT:IsiT T)(he:DE X G₀ H₀ e f)(hm:X.mg "isinstance" = none) (hmT:X.mg xT=none) (hvT:bootBuiltins xT=some (.type T))
 (hg:Gl X "isinstance" :=by rfl) (hgT:Gl X xT:=by rfl) (hn:xT ≠ "__name__" :=by decide) (hd:(xT == ("__debug__" : Str))=false:=by decide)
 (hs:starEach [e,.Name xT p2] X.env=(false,eval e X.env)::starEach [.Name xT p2] X.env:=by rfl) (hs2:starEach [.Name xT p2] X.env=[(false,eval (.Name xT p2) X.env)]:=by rfl) (hpl:(backTo pos (starEach [.Name xT p2] X.env)).any (·.1)=false:=by rfl) :
 DE X G₀ H₀ (.Call (.Name "isinstance" p) [e,.Name xT p2] [] pos) (f1 (Th T) f) :=
 (ux VX hg hm boot_isinstance (zM he (zM (Yc (v:=.ty T) hgT hmT hvT rfl hn hd) yw hs2) hs) (by decide) (by decide) hs hpl).imp fun σ H Q q=>by
  obtain⟨env,G,val,I,e,k⟩:=q;obtain⟨x,e1,e⟩:=zv e;refine vZ I e1 fun v G' H' g l I' o=>?_;unfold Th at e;split at e
  ·rename_i b hb;cases e;obtain⟨t,h1,h2⟩:=Ta hT I' o hb;exact⟨v,t,T,b,rfl,h1,h2,k _ G' H' g l rfl⟩
  ·cases e
theorem Tb:IsiT "int" :=⟨.inl rfl⟩
theorem Vu:IsiT "bool" :=⟨.inr (.inl rfl)⟩
noncomputable def ins (n:Int):List Int→List Int
 |[]=>[n]
 |m::r=>if n≤m then n::m::r else m::ins n r
noncomputable def qN:List Int→List Int
 |[]=>[]
 |n::r=>ins n (qN r)
theorem iC (n:Int):∀l:List Int,(ins n l).Perm (n::l)
 |[]=>sca _
 | m::r=>by
   unfold ins;split
   ·exact sca _
   ·exact((iC n r).cons m).trans (List.Perm.swap n m r)
theorem yW:∀l:List Int,(qN l).Perm l
 |[]=>sca _
 |n::r=>(iC n (qN r)).trans ((yW r).cons n)
theorem iB (n:Int):∀l:List Int,l.Pairwise (· ≤ ·)→(ins n l).Pairwise (· ≤ ·)
 |[],_=>by simp[ins]
 | m::r,h=>by
   unfold ins;have h':=saH.mp h;split
   ·rename_i hn;refine saH.mpr ⟨fun x hx=>?_,h⟩
    rcases san.mp hx with rfl|hx
    ·exact hn
    ·exact Int.le_trans hn (h'.1 x hx)
   ·rename_i hn;refine saH.mpr ⟨fun x hx=>?_,iB n r h'.2⟩
    rcases san.mp ((iC n r).mem_iff.mp hx)with rfl|hx
    ·lia
    ·exact h'.1 x hx
theorem wR:∀l:List Int,(qN l).Pairwise (· ≤ ·)
 |[]=>List.Pairwise.nil
 |n::r=>iB n _ (wR r)
theorem sN:∀{a b:List Int},a.Perm b→a.Pairwise (· ≤ ·)→b.Pairwise (· ≤ ·)→a=b
 |[],b,p,_,_=>by rw[List.Perm.nil_eq p]
 |x::a,[],p,_,_=>by have:=p.length_eq;simp at this
 | x::a,y::b,p,ha,hb=>by
   have ha':=saH.mp ha;have hb':=saH.mp hb
   have e:x=y:=by
    have h1:x∈y::b:=p.mem_iff.mp saw;have h2:y∈x::a:=p.mem_iff.mpr saw
    rcases san.mp h1 with h1|h1
    ·exact h1
    ·rcases san.mp h2 with h2|h2
     ·exact h2.symm
     ·exact Int.le_antisymm (ha'.1 y h2) (hb'.1 x h1)
   subst e;rw[sN ((List.perm_cons x).mp p) ha'.2 hb'.2]
noncomputable def v_:List D→Option (List Int)
 |[]=>some []
 | .int i::ds=>(v_ ds).map (i :: ·)
 |_::_=>none
theorem lT:∀{ds:List D} {ns:List Int},v_ ds=some ns→ds=ns.map .int
 |[],ns,h=>by cases h;rfl
 | .int i::ds,ns,h=>by
   simp only[v_]at h
   cases q:v_ ds with
   |none=>rw[q]at h;cases h
   |some ms=>rw[q]at h;cases h;rw[lT q];rfl
 | .non::ds,ns,h=>by cases h
 | .bl _::ds,ns,h=>by cases h
 | .tup _::ds,ns,h=>by cases h
 | .l _::ds,ns,h=>by cases h
 | .scr _::ds,ns,h=>by cases h
 | .exc _ _::ds,ns,h=>by cases h
theorem nH:∀ns:List Int,v_ (ns.map .int)=some ns
 |[]=>rfl
 |n::ns=>by simp[v_,nH ns]
structure Cal (P:Program)(w:World)(K:Frag)(mg:Str→Option Value)(base:Heap)(k:Nat)(x:Str)(ps:List Str)(m:List D→Out Val):Prop where
 ex:∃(f:Addr) (fd:FuncData),FnOk P w K mg base gP k f fd ps (Uh K m ps.length)∧mg x=some (.ref f)∧PySem.W.keepIn K (.ref f)=true∧uX K fd ps []
theorem Cal.mono {P:Program}{w:World}{K:Frag}{mg:Str→Option Value}{base:Heap}{j k:Nat}{x:Str}{ps:List Str}{m:List D→Out Val}(c:Cal P w K mg base j x ps m)(h:j≤k):Cal P w K mg base k x ps m:=by
 obtain⟨f,fd,F,r⟩:=c.ex;exact⟨f,fd,F.mono h,r⟩
theorem Cal.imp {P:Program}{w:World}{K:Frag}{mg:Str→Option Value}{base:Heap}{k:Nat}{x:Str}{ps:List Str}{m m':List D→Out Val}(c:Cal P w K mg base k x ps m)(h:∀ds v,ds.length=ps.length→m' ds=.ok v→m ds=.ok v):Cal P w K mg base k x ps m':=by
 obtain⟨f,fd,F,r⟩:=c.ex;refine⟨f,fd,F.imp fun vs H Q E q=>?_,r⟩;obtain⟨G,ds,val,h1,h2,h3,h4,h5⟩:=q;exact⟨G,ds,val,h1,h2,h3,h ds val h1 h4,h5⟩
section
variable {X:Cx}{G₀ H₀:Hp}{k:Nat}{ps:List Str}{x:Str}{p pos:Pos}{e:Expr}{es:List Expr}{r:Ev→Out (List Val)}{m:List D→Out Val}
theorem dS (C:Cal X.prog X.w X.K X.mg X.base k x ps m)(hr:Room k X.A)(ha:DA X G₀ H₀ (e::es) r)
 (hlen:∀env xs,r env=.ok xs→xs.length=ps.length) (hg:Gl X x:=by rfl) (hdb:(x == ("__debug__" : Str))=false:=by decide) (he:starEach (e::es) X.env=(false,eval e X.env)::starEach es X.env:=by rfl) (hpl:(backTo pos (starEach es X.env)).any (·.1)=false:=by rfl) :
 DE X G₀ H₀ (.Call (.Name x p) (e::es) [] pos) (zA m r):=by
 obtain⟨f,fd,F,hm,hk,hb⟩:=C.ex;exact Tq F hr hm hk hb ha hlen hg hdb he hpl
end
theorem vf:∀env xs,zB env=.ok xs→xs.length=0:=fun env xs h=>by cases h;rfl
theorem ya {f:FE}{r:Ev→Out (List Val)}{n:Nat}(h:∀env xs,r env=.ok xs→xs.length=n):∀env xs,zi f r env=.ok xs→xs.length=n+1:=fun env xs e=>by
 obtain⟨x,_,e⟩:=zv e;obtain⟨ys,e2,e⟩:=zv e;cases e;simp[h env ys e2]
theorem wU {A:Around}{k:Nat}(hr:Room k A):A.units+20<cLine:=by have:=hr.units;lia
theorem oH:∀(l m:List Nat),l.Nodup→(∀x∈l,x∈m)→l.length≤m.length
 |[],m,_,_=>saT _
 | x::l,m,hn,hs=>by
   have hx:x∈m:=hs x (.head _);have h2:=sbm.mp hn;have:=oH l (m.erase x) h2.2 fun y hy=>(List.mem_erase_of_ne (fun z:y=x=>h2.1 (by rw[←z];exact hy))).mpr (hs y (.tail _ hy));rw[List.length_erase_of_mem hx]at this;have hp:0<m.length:=List.length_pos_of_mem hx;simp only[List.length_cons];lia
theorem bW (xs:List Nat)(n:Nat)(h:xs.length<n):∃e,e<n∧e∉xs:=by
 refine scg fun hc=>?_;have:∀x∈List.range n,x∈xs:=fun x hx=>scg fun hh=>hc ⟨x,sba.mp hx,hh⟩;have h2:=oH (List.range n) xs List.nodup_range this;rw[sbS]at h2;lia
noncomputable def lp (mask:Nat):Nat→Nat×Nat→Nat×Nat
 | 0,x=>x
 |n+1,x=>lp mask n (SetTable.leap mask x.1 x.2)
theorem ir (mask:Nat):∀(n:Nat) (x:Nat×Nat),lp mask (n+1) x=SetTable.leap mask (lp mask n x).1 (lp mask n x).2
 | 0,x=>rfl
 |n+1,x=>ir mask n _
theorem Vk (mask:Nat):∀(m n:Nat) (x:Nat×Nat),lp mask (m+n) x=lp mask n (lp mask m x)
 | 0,n,x=>by rw[scy];rfl
 | m+1,n,x=>by
   rw[Nat.add_right_comm];exact Vk mask m n _
theorem Vj (mask:Nat):∀(n:Nat) (x:Nat×Nat),(lp mask n x).2=x.2 / 32^n
 | 0,x=>by simp[lp]
 | n+1,x=>by
   rw[lp,Vj mask n];simp only[SetTable.leap];rw[Nat.div_div_eq_div_mul,Nat.pow_succ,Nat.mul_comm]
theorem Qn (mask n:Nat)(x:Nat×Nat)(h:x.1≤mask):(lp mask n x).1≤mask:=by
 cases n with
 |zero=>exact h
 | succ n=>
   rw[ir];simp only[SetTable.leap];have:=Nat.mod_lt ((lp mask n x).1*5+1+(lp mask n x).2 / 32) (show 0<mask+1 by lia);lia
noncomputable def lc (mask:Nat):Nat→Nat→Nat
 | 0,i=>i
 |n+1,i=>lc mask n ((i*5+1)%(mask+1))
theorem Yo (mask:Nat):∀(n i:Nat),lp mask n (i,0)=(lc mask n i,0)
 | 0,i=>rfl
 | n+1,i=>by
   show lp mask n (SetTable.leap mask i 0)=_;simp only[SetTable.leap,Nat.zero_div,Nat.add_zero];exact Yo mask n _
noncomputable def lcAll (mask:Nat):Bool:=(List.range (mask+1)).all fun i=>(List.range (mask+1)).all fun e=>(List.range (mask+1)).any fun m=>lc mask m i == e
theorem U6:lcAll 7=true:=by decide +kernel
theorem bz:lcAll 31=true:=by decide +kernel
theorem U5 {mask i e:Nat}(h:lcAll mask=true)(hi:i≤mask)(he:e≤mask):∃m,m≤mask∧lc mask m i=e:=by
 unfold lcAll at h;rw[scu]at h;have h1:=h i (sba.mpr (by lia));rw[scu]at h1;have h2:=h1 e (sba.mpr (by lia));rw[saW]at h2;obtain⟨m,hm,q⟩:=h2;exact⟨m,by have:=sba.mp hm;lia,by simpa using q⟩
theorem TB (h:Int):SetTable.bits h<2^64:=by
 unfold SetTable.bits;have h1:=sbz h (show(2^64:Int)≠0 by decide);have h2:=sbC h (show(0:Int)<2^64 by decide);lia
theorem Yp {mask e:Nat}{h:Int}{i:Nat}(ha:lcAll mask=true)(hi:i≤mask)(he:e≤mask):∃n,n≤13+mask∧(lp mask n (i,SetTable.bits h)).1=e:=by
 have hz:(lp mask 13 (i,SetTable.bits h)).2=0:=by
  rw[Vj];exact Nat.div_eq_of_lt (sau (TB h) (by decide))
 obtain⟨m,hm,q⟩:=U5 ha (Qn mask 13 (i,SetTable.bits h) hi) he;refine⟨13+m,by lia,?_⟩;rw[Vk];have:lp mask 13 (i,SetTable.bits h)=((lp mask 13 (i,SetTable.bits h)).1,0):=by rw[←hz]
 rw[this,Yo];exact q
noncomputable def pX (t:SetTable):Nat→SetTable.Probe→SetTable.Probe
 | 0,p=>p
 |n+1,p=>pX t n (t.advance p)
theorem rN (t:SetTable):∀(m n:Nat) (p:SetTable.Probe),pX t (m+n) p=pX t n (pX t m p)
 | 0,n,p=>by rw[scy];rfl
 |m+1,n,p=>by rw[Nat.add_right_comm];exact rN t m n _
noncomputable def sO (t:SetTable)(x:Nat×Nat):SetTable.Probe:={j:=x.1,more:=SetTable.runEnd t.mask x.1 - x.1,i:=x.1,perturb:=x.2,dummy:=none}
theorem cq (t:SetTable):∀(k:Nat) (p:SetTable.Probe),p.more=k→p.dummy=none→pX t (k+1) p=sO t (SetTable.leap t.mask p.i p.perturb)
 | 0,p,h,hd=>by
   show t.advance p=_;unfold SetTable.advance;rw[sal (by lia)];simp[sO,hd]
 | k+1,p,h,hd=>by
   have e:t.advance p={p with j:=p.j+1,more:=p.more - 1}:=by
    unfold SetTable.advance;rw[sak (by lia)]
   show pX t (k+1) (t.advance p)=_;rw[e];exact cq t k {p with j:=p.j+1,more:=p.more - 1} (by show p.more - 1=k;lia) hd
theorem Y4 (mask i:Nat):SetTable.runEnd mask i - i≤9:=by
 unfold SetTable.runEnd
 split <;> lia
theorem eh (t:SetTable)(x:Nat×Nat):∀n:Nat,∃k,k≤10*n∧pX t k (sO t x)=sO t (lp t.mask n x)
 | 0=>⟨0,saT _,rfl⟩
 | n+1=>by
   obtain⟨k,hk,e⟩:=eh t x n;have h9:=Y4 t.mask (lp t.mask n x).1;refine⟨k+((sO t (lp t.mask n x)).more+1),?_,?_⟩
   ·show k+(SetTable.runEnd t.mask (lp t.mask n x).1 - (lp t.mask n x).1+1)≤_;lia
   ·rw[rN,e,cq t _ _ rfl rfl,ir];rfl
theorem gL (t:SetTable)(p:SetTable.Probe):(t.advance p).dummy=p.dummy:=by
 unfold SetTable.advance
 split <;> rfl
theorem jG {t:SetTable}(hd:t.dummies=#[])(j:Nat):t.slot j=.empty∨∃i,t.slot j=.live i:=by
 unfold SetTable.slot;dsimp only;split
 ·exact .inr ⟨_,rfl⟩
 ·rw[hd,sal (by simp[SetTable.has])];exact .inl rfl
theorem qH {t:SetTable}(hd:t.dummies=#[]){j:Nat}(h:j∉t.place.toList):t.slot j=.empty:=by
 rcases jG hd j with e|⟨i,e⟩
 ·exact e
 ·unfold SetTable.slot at e;dsimp only at e;split at e
  ·rename_i hb;have hb':t.place[SetTable.below t.place j]?=some j:=by simpa using hb
   rw[←saF]at hb';exact absurd (saA hb') h
  ·rw[hd,sal (by simp[SetTable.has])]at e;cases e
structure TabOk (t:SetTable)(n:Nat):Prop where
 plain:t.plain=true
 dummies:t.dummies=#[]
 size:t.place.size=n
 rise:t.place.toList.Pairwise (· < ·)
 mask:(t.mask=7∧n<5)∨(t.mask=31∧n<19)
theorem TabOk.lcAll {t:SetTable}{n:Nat}(h:TabOk t n):lcAll t.mask=true:=by
 rcases h.mask with⟨e,_⟩|⟨e,_⟩ <;> rw[e]
 ·exact U6
 ·exact bz
theorem iZ {xs:Array Nat}{j:Nat}(hr:xs.toList.Pairwise (· < ·)):∀(fuel lo hi:Nat),hi - lo≤fuel→lo≤hi→hi≤xs.size→(∀i x,i<lo→xs[i]?=some x→x<j)→(∀i x,hi≤i→xs[i]?=some x→j≤x) →
 SetTable.below.go xs j fuel lo hi≤xs.size∧(∀i x,i<SetTable.below.go xs j fuel lo hi→xs[i]?=some x→x<j)∧(∀i x,SetTable.below.go xs j fuel lo hi≤i→xs[i]?=some x→j≤x)
 | 0,lo,hi,h1,h2,h3,h4,h5=>by
   have:lo=hi:=by lia
   subst this;exact⟨h3,h4,h5⟩
 | fuel+1,lo,hi,h1,h2,h3,h4,h5=>by
   unfold SetTable.below.go;by_cases hlt:lo<hi
   ·rw[sak hlt];dsimp only;have hmid:(lo+hi) / 2<xs.size:=by lia
    have hrel:∀(a b x y:Nat),a<b→xs[a]?=some x→xs[b]?=some y→x<y:=by
     intro a b x y hab ha hb;rw[←saF]at ha hb;obtain⟨ha1,rfl⟩:=saj.mp ha;obtain⟨hb1,rfl⟩:=saj.mp hb;exact sbN.mp hr a b ha1 hb1 hab
    have hg:xs.getD ((lo+hi) / 2) j=xs[(lo+hi) / 2]:=by simp[Array.getD,hmid]
    rw[hg];by_cases hc:xs[(lo+hi) / 2]<j
    ·rw[sak hc];refine iZ hr fuel _ hi (by lia) (by lia) h3 (fun i x hi' hx=>?_) h5;by_cases hi2:i=(lo+hi) / 2
     ·subst hi2;rw[sav hmid]at hx;cases hx;exact hc
     ·have:=hrel i ((lo+hi) / 2) x _ (by lia) hx (sav hmid);lia
    ·rw[sal hc];refine iZ hr fuel lo _ (by lia) (by lia) (by lia) h4 (fun i x hi' hx=>?_);by_cases hi2:i=(lo+hi) / 2
     ·subst hi2;rw[sav hmid]at hx;cases hx;lia
     ·have:=hrel ((lo+hi) / 2) i _ x (by lia) (sav hmid) hx;lia
   ·rw[sal hlt];have:lo=hi:=by lia
    subst this;exact⟨h3,h4,h5⟩
theorem ah {xs:Array Nat}(j:Nat)(hr:xs.toList.Pairwise (· < ·)) :
 SetTable.below xs j≤xs.size∧(∀i x,i<SetTable.below xs j→xs[i]?=some x→x<j)∧(∀i x,SetTable.below xs j≤i→xs[i]?=some x→j≤x) :=
 iZ hr xs.size 0 xs.size (by lia) (by lia) (Nat.le_refl _) (fun _ _ h=>absurd h (Nat.not_lt_zero _)) fun i x h hx=>by
  rw[sbc h]at hx;cases hx
theorem SA {t:SetTable}{n j:Nat}(T:TabOk t n)(hs:t.slot j=.empty):(t.put j).1={t with place:=SetTable.insertAt t.place (t.put j).2 j}∧(SetTable.insertAt t.place (t.put j).2 j).toList.Pairwise (· < ·)∧(t.put j).2≤n:=by
 have hp:(t.put j).2=SetTable.below t.place j:=rfl;obtain⟨b1,b2,b3⟩:=ah j T.rise;refine⟨?_,?_,by rw[hp,←T.size];exact b1⟩
 ·unfold SetTable.put;dsimp only;rw[T.dummies,sal (by simp[SetTable.has])]
 ·rw[hp,sbQ]
  have hne:t.place[SetTable.below t.place j]?≠some j:=by
   unfold SetTable.slot at hs;dsimp only at hs;split at hs
   ·cases hs
   ·rename_i hb;simpa using hb
  have hrel:∀(a b x y:Nat),a<b→t.place[a]?=some x→t.place[b]?=some y→x<y:=by
   intro a b x y hab ha hb;rw[←saF]at ha hb;obtain⟨ha1,rfl⟩:=saj.mp ha;obtain⟨hb1,rfl⟩:=saj.mp hb;exact sbN.mp T.rise a b ha1 hb1 hab
  have hlow:∀x∈t.place.toList.take (SetTable.below t.place j),x<j:=by
   intro x hx;obtain⟨i,hi⟩:=saQ hx;rw[List.getElem?_take]at hi;split at hi
   ·rename_i h1;rw[saF]at hi;exact b2 i x h1 hi
   ·cases hi
  have hhigh:∀x∈t.place.toList.drop (SetTable.below t.place j),j<x:=by
   intro x hx;obtain⟨i,hi⟩:=saQ hx;rw[List.getElem?_drop,saF]at hi;have h1:=b3 (SetTable.below t.place j+i) x (by lia) hi
   rcases Nat.lt_or_eq_of_le h1 with h2|h2
   ·exact h2
   ·subst h2;exfalso
    cases i with
    |zero=>exact hne hi
    | succ i=>
      have hb:SetTable.below t.place j<t.place.size:=by
       have:=sbu.mp hi;obtain⟨q,_⟩:=this;lia
      have q1:=b3 _ _ (Nat.le_refl _) (sav hb);have q2:=hrel _ _ _ _ (show SetTable.below t.place j<SetTable.below t.place j+(i+1)by lia) (sav hb) hi;lia
  rw[List.pairwise_append];refine⟨T.rise.sublist (List.take_sublist _ _),?_,?_⟩
  ·rw[saH];exact⟨hhigh,T.rise.sublist (List.drop_sublist _ _)⟩
  ·intro a ha b hb
   rcases san.mp hb with rfl|hb
   ·exact hlow a ha
   ·exact Nat.lt_trans (hlow a ha) (hhigh b hb)
theorem fj:∀(l:List (Option Nat)) (j k:Nat),l[j]?=some none→List.Perm ((l.set j (some k)).filterMap id) (k::l.filterMap id)
 |[],j,k,h=>by simp at h
 | a::l,0,k,h=>by
   simp at h;subst h;simp
 | a::l,j+1,k,h=>by
   have ih:=fj l j k (by simpa using h)
   cases a with
   |none=>simpa using ih
   | some b=>
     simp only[List.set_cons_succ,List.filterMap_cons,id];exact(ih.cons b).trans (.swap k b _)
theorem aT {owner:Array (Option Nat)}{n k:Nat}(hs:owner.size=n)(hp:List.Perm (owner.toList.filterMap id) (List.range k))(hk:k<n):∃e,e<n∧owner[e]?=some none:=by
 refine scg fun hc=>?_
 have hall:∀a∈owner.toList,a≠none:=by
  intro a ha z;subst z;obtain⟨i,hi⟩:=saQ ha;rw[saF]at hi;obtain⟨q,_⟩:=sbu.mp hi;exact hc ⟨i,by lia,hi⟩
 have hlen:∀l:List (Option Nat),(∀a∈l,a≠none)→(l.filterMap id).length=l.length:=by
  intro l
  induction l with
  |nil=>intro _;rfl
  | cons a l ih=>
    intro h
    cases a with
    |none=>exact absurd rfl (h none (.head _))
    | some b=>
      simp only[List.filterMap_cons,id,List.length_cons];rw[ih fun a ha=>h a (.tail _ ha)]
 have h1:=hlen owner.toList hall;rw[hp.length_eq,sbS,Array.length_toList]at h1;lia
theorem iF {mask e:Nat}{owner:Array (Option Nat)}(he:owner[e]?=some none):∀(n fuel:Nat) (i p:Nat),n<fuel→(lp mask n (i,p)).1=e→∃j,SetTable.layClean.free mask owner fuel i p=some j∧owner[j]?=some none
 |n,0,i,p,h,_=>absurd h (Nat.not_lt_zero _)
 | n,fuel+1,i,p,h,hq=>by
   unfold SetTable.layClean.free
   cases hf:(List.range (SetTable.runEnd mask i+1 - i)).find? fun k=>(owner.getD (i+k) (some 0)).isNone with
   | some k=>
     dsimp only;refine⟨i+k,rfl,?_⟩;have:=List.find?_some hf;simp only[Option.isNone_iff_eq_none]at this;by_cases hb:i+k<owner.size
     ·rw[sav hb];simp only[Array.getD,hb,dite_true]at this;simpa using this
     ·simp[Array.getD,hb]at this
   | none=>
     dsimp only
     cases n with
     | zero=>
       exfalso;have:i=e:=hq;subst this;rw[List.find?_eq_none]at hf;have h1:=hf 0 (sba.mpr (by unfold SetTable.runEnd;split <;> lia));apply h1;obtain⟨q,q2⟩:=sbu.mp he;simp[Array.getD,q,q2]
     |succ n=>exact iF he n fuel _ _ (by lia) hq
theorem bB (hs:List Int):∀(owner:Array (Option Nat)) (k:Nat),owner.size=32→List.Perm (owner.toList.filterMap id) (List.range k)→k+hs.length<32 →
 ∃ owner',(hs.foldl (init:=some (owner,k)) fun acc h=>do
   let (owner,k) ← acc
   let j ← SetTable.layClean.free 31 owner (SetTable.turns 31) (SetTable.bits h%(31+1)) (SetTable.bits h)
   pure (owner.setIfInBounds j (some k),k+1))=some (owner',k+hs.length)∧owner'.size=32∧List.Perm (owner'.toList.filterMap id) (List.range (k+hs.length)):=by
 induction hs with
 |nil=>intro owner k h1 h2 h3;exact⟨owner,rfl,h1,h2⟩
 | cons h hs ih=>
   intro owner k h1 h2 h3;obtain⟨e,he1,he2⟩:=aT h1 h2 (by lia)
   have hi:SetTable.bits h%(31+1)≤31:=by
    have:=Nat.mod_lt (SetTable.bits h) (show 0<31+1 by lia);lia
   obtain⟨n,hn1,hn2⟩:=Yp (h:=h) bz hi (show e≤31 by lia);obtain⟨j,hj1,hj2⟩:=iF he2 n (SetTable.turns 31) _ _ (by unfold SetTable.turns;lia) hn2;have hjl:j<owner.size:=(sbu.mp hj2).1
   obtain⟨o',e1,e2,e3⟩:=ih (owner.setIfInBounds j (some k)) (k+1) (by simpa using h1) (by
    have hp:=fj owner.toList j k (by rw[saF];exact hj2);have:(owner.setIfInBounds j (some k)).toList=owner.toList.set j (some k):=by simp
    rw[this,List.range_succ]
    exact hp.trans ((h2.cons k).trans (List.perm_append_singleton k _).symm)) (by simp at h3;lia)
   refine⟨o',?_,e2,?_⟩
   ·rw[List.foldl_cons]
    have:(do
     let (owner,k) ← some (owner,k)
     let j ← SetTable.layClean.free 31 owner (SetTable.turns 31) (SetTable.bits h%(31+1)) (SetTable.bits h)
     pure (owner.setIfInBounds j (some k),k+1))=some (owner.setIfInBounds j (some k),k+1):=by
     show(SetTable.layClean.free 31 owner (SetTable.turns 31) (SetTable.bits h%(31+1)) (SetTable.bits h)).bind _=_;rw[hj1];rfl
    rw[this,e1];simp[Nat.add_assoc,Nat.add_comm 1]
   ·have:k+(h::hs).length=k+1+hs.length:=by simp;lia
    rw[this];exact e3
theorem Vm (owner:Array (Option Nat))(n:Nat):(((List.range n).filterMap fun j=>(owner.getD j none).map (j,·)).map (·.1)).Pairwise (· < ·):=by
 rw[sbw,List.pairwise_filterMap];refine List.Pairwise.imp ?_ List.pairwise_lt_range;intro a b hab x hx y hy
 cases q1:owner.getD a none with
 |none=>rw[q1]at hx;cases hx
 | some u=>
   cases q2:owner.getD b none with
   |none=>rw[q2]at hy;cases hy
   |some v=>rw[q1]at hx;rw[q2]at hy;cases hx;cases hy;exact hab
theorem Vl (owner:Array (Option Nat)):(((List.range owner.size).filterMap fun j=>(owner.getD j none).map (j,·)).map (·.2))=owner.toList.filterMap id:=by
 rw[List.map_filterMap]
 have h1:owner.toList=(List.range owner.size).map fun j=>owner.getD j none:=by
  apply List.ext_getElem?;intro i;rw[saF,sar];by_cases hi:i<owner.size
  ·rw[List.getElem?_range hi,sav hi];simp[Array.getD,hi]
  ·rw[sbc (by lia),List.getElem?_eq_none (by simpa using hi)];rfl
 rw[h1,List.filterMap_map];congr 1
 funext j
 simp only[Function.comp]
 cases owner.getD j none <;> rfl
structure SetAt (w:World)(h:Heap)(a:Addr)(es:Array (Int×Value))(ep:Nat)(t:SetTable):Prop where
 ex:∃o:Obj,h.get? a=some o∧o.ExactSet∧o.data=.set es ep t
 tab:TabOk t es.size
 led:t.led = !w.params.followText "set-order"
theorem TabOk.fits {t:SetTable}{n:Nat}(T:TabOk t n):t.fits n=true:=by
 unfold SetTable.fits SetTable.fill;rw[T.size,T.dummies]
 rcases T.mask with⟨q,_⟩|⟨q,_⟩ <;> rw[q] <;> simp <;> lia
theorem SetAt.keep {w:World}{h h':Heap}{a:Addr}{es:Array (Int×Value)}{ep:Nat}{t:SetTable}(S:SetAt w h a es ep t)(hk:∀o,h.get? a=some o→h'.get? a=some o):SetAt w h' a es ep t:=by
 obtain⟨o,ho,r⟩:=S.ex;exact⟨⟨o,hk o ho,r⟩,S.tab,S.led⟩
theorem SetAt.store {w:World}{h:Heap}{a:Addr}{es:Array (Int×Value)}{ep:Nat}{t:SetTable}(S:SetAt w h a es ep t){es':Array (Int×Value)}{t':SetTable}(T:TabOk t' es'.size)(hl:t'.led=t.led) :
 SetAt w (h.update a (Obj.putSet es' t')) a es' (ep+1) t':=by
 obtain⟨o,ho,hx,hd⟩:=S.ex
 have hg:(h.update a (Obj.putSet es' t')).get? a=some {o with data:=.set es' (ep+1) t'}:=by
  have:=saL (Obj.putSet es' t') ho (by rw[putSet_of es' t' hd];rfl);rw[putSet_of es' t' hd]at this;exact this
 exact⟨⟨_,hg,hx,rfl⟩,T,hl.trans S.led⟩
section
variable {prog:Program}{w:World}{A:Around}{E:Value→Shared→Prop}{s:Shared}
end
noncomputable def met (ns:List Int):List Int:=ns.foldl (fun σ k=>if k∈σ then σ else σ++[k]) []
theorem mi (ns:List Int)(k:Int):met (ns++[k])=if k∈met ns then met ns else met ns++[k]:=by
 unfold met;rw[scl];rfl
section
variable {prog:Program}{w:World}{A:Around}{R:Result→Shared→Prop}{I:Addr}{fp wr:List Addr}{G:Array GenState→Array GenState→Prop}{P:Nat→Value→Prop}{St:Nat→Shared→Prop}
end
section
variable {prog:Program}{w:World}{A:Around}{E:Value→Shared→Prop}{s:Shared}
theorem WD (a:Value){Q₁:Value→Shared→Prop}
 (h:Q₁ (.ref s.heap.objs.size) {s with heap:=s.heap.push {cls:=.type "set",dict:=none,data:=.set #[] 0 (.fresh 0 0 (!w.params.followText "set-order"))}}) :
 codeAny (model prog w) A (.call (.builtin "set.__new__") ⟨[.type "set",a],[]⟩) (wants Q₁ E) s:=by
 refine codeAny_of_tree ?_;show wpAny _ A.in1 (do checkBuiltinCall "set.__new__" ⟨[.type "set",a],[]⟩;again (.builtin "set.__new__" ⟨[.type "set",a],[]⟩)) _ _ s;refine saa (wpAny_of_eq (F.newCall_set_1 a) (sad ⟨scp F.plain_set_new _,sbA F.entry_set_new ?_⟩));rw[sbv F.plain_set_new _];unfold Builtin.«set.__new__» Builtin.Frozenset.newClass;have hsub:=sub_set_self;obtain⟨hp,g,d,tk,os⟩:=s;dsimp only
 wp_walk
 refine wpAny_askSetting (sad ?_);dsimp only;simp only[newObj];refine saa (wpAny_alloc (sad ?_));exact sad h
theorem XF (led:Bool):TabOk (.fresh 0 0 led) 0:=⟨rfl,rfl,rfl,List.Pairwise.nil,.inl ⟨rfl,by lia⟩⟩
end
section
variable {prog:Program}{w:World}{A:Around}{E:Value→Shared→Prop}{s:Shared}{a:Addr}{es:Array (Int×Value)}{ep:Nat}{tb:SetTable}
theorem rn (S:SetAt w s.heap a es ep tb){Q:(Array (Int×Value)×Nat×SetTable)→Shared→Prop}(h:Q (es,ep,tb) s):wpAny (model prog w) A (setState a) Q E s:=by
 obtain⟨o,ho,hx,hd⟩:=S.ex;exact wpAny_setState_of ho hd S.tab.fits h
end
theorem dk (P:List Int→Prop)(h0:P [])(h1:∀l k,P l→P (l++[k])):∀l,P l:=by
 intro l
 have:∀(n:Nat) (l:List Int),l.length=n→P l:=by
  intro n
  induction n with
  |zero=>intro l h;rw[saV h];exact h0
  | succ n ih=>
    intro l h
    rcases List.eq_nil_or_concat l with e|⟨m,t,e⟩
    ·subst e;simp at h
    ·have e':l=m++[t]:=by simpa using e
     rw[e']at h ⊢;exact h1 m t (ih m (by simp at h;exact h))
 exact this _ l rfl
theorem Ym (ns:List Int):∀k,k∈met ns↔k∈ns:=by
 refine dk (fun ns=>∀k,k∈met ns↔k∈ns) (fun k=>Iff.rfl) (fun l k ih x=>?_) ns;rw[mi];split
 ·rename_i h;rw[ih x,sas,saf];constructor
  ·exact .inl
  ·rintro(h'|rfl)
   ·exact h'
   ·exact(ih _).mp h
 ·rw[sas,sas,ih x]
theorem Xm (ns:List Int):(met ns).Nodup:=by
 refine dk (fun ns=>(met ns).Nodup) List.nodup_nil (fun l k ih=>?_) ns;rw[mi];split
 ·exact ih
 ·rename_i h;rw[sbT];refine⟨ih,by simp,fun a ha b hb=>?_⟩;rw[saf]at hb;subst hb;exact fun z=>h (z ▸ ha)
theorem uO:∀(n:Nat) (l:List Int),l.length≤n→l.eraseDups.Nodup
 | 0,l,h=>by rw[saV (Nat.le_zero.mp h)];simp
 |n+1,[],_=>by simp
 | n+1,a::l,h=>by
   rw[List.eraseDups_cons,sbm];have hl:=sbx (fun b=> !b == a) l;refine⟨fun hm=>?_,uO n _ (by simp at h;lia)⟩;rw[scz,saI]at hm;simp at hm
theorem ki (ns:List Int):∀n,n≤ns.length→preSum (fun i=>ns.getD i 0) n=(ns.take n).sum
 | 0,_=>by simp[preSum]
 | n+1,h=>by
   have ih:=ki ns n (by lia);show preSum (fun i=>ns.getD i 0) n+ns.getD n 0=_;have e:ns.getD n 0=ns[n]:=by simp[List.getD,show n<ns.length by lia]
   rw[ih,e,sbJ (by lia),List.sum_append];simp
theorem VW {X:Cx}(hc:X.calm=true):rP X (.builtin "sum") (fun xs H Q=>∃(p:Addr) (ns:List Int),xs=[.ref p]∧H p=some (.l (ns.map V.int))∧Q (.int ns.sum) H):=by
 intro pins s σ H xs us Q I r h;obtain⟨p,ns,rfl,hp,q⟩:=h;obtain⟨u,rfl,r1⟩:=q8 r;cases(show u=.ref p from r1);obtain⟨z,its,n,rv,hlen,e⟩:=I.lstM hp;have hi:IntsAre its ns:=iA rv;have hil:its.length=ns.length:=by rw[←hlen,sac]
 have hl:s.heap.IsList p its.toArray:=⟨_,e,rfl,_,rfl⟩
 have hpl:=sag e;refine call_sum_walkAnyS (sbI hl ?_);have hne:p≠s.heap.objs.size:=saz hpl;have W:=(Walks.list (prog:=X.prog) (w:=X.w) (A:=X.A.in1) (by simp[I.ok.hd hc]) s.heap.objs.size p hne its.toArray).toS;refine⟨s.heap.objs.size,_,_,_,_,_,_,fun i=>ns.getD i 0,rfl,W,⟨⟨_,saq _ rfl,rfl,rfl⟩,hl.push _⟩,fun b hb=>?_,fun i v hv=>?_,fun s' t' hm=>?_⟩
 ·rw[saU]
  rcases san.mp hb with e'|hb
  ·rw[e'];exact Nat.lt_succ_self _
  ·rw[saf.mp hb];exact sbr hpl
 ·exact IntsAre.int_at hi i v (by simpa using hv)
 ·have hk:∀b o,s.heap.get? b=some o→s'.heap.get? b=some o:=fun b o eb=>
   hm.heap b o (fun hI=>absurd (sag eb) (by rw[saf.mp hI];exact sby _)) (sab _ eb)
  rw[Moved.eq_with hm];refine⟨.int ns.sum,H,I.kept hk,⟨t',?_⟩,q⟩;have:=ki ns ns.length (Nat.le_refl _);rw[List.take_length]at this;simp only[List.size_toArray,hil,this]
@[simp] noncomputable def VB:List D→Out Val
  | [.l ds]=>match v_ ds with
    |some ns=>.ok (.p (.int ns.sum))
    |none=>.bad
  |_=>.bad
theorem Ru {K:Frag}:ej K (fun xs H Q=>∃(p:Addr) (ns:List Int),xs=[.ref p]∧H p=some (.l (ns.map V.int))∧Q (.int ns.sum) H) VB:=by
 intro G₀ H₀ env σ G H vs xs val Q I a e k;unfold VB at e;split at e
 ·rename_i ds hx;split at e
  ·rename_i ns hn;cases e;obtain⟨v,rfl,o⟩:=kG a hx;obtain⟨p,us,rfl,h1,r1⟩:=ur.l I o;rw[lT hn]at r1;rw[r1.ints_of]at h1;exact⟨p,ns,rfl,h1,k _ G H (Gw.refl _ _) I.le rfl⟩
  ·cases e
 ·cases e
theorem V_ {t t':SetTable}(h:t.mask=t'.mask)(p:SetTable.Probe):t.advance p=t'.advance p:=by
 unfold SetTable.advance;rw[h]
theorem ei {t t':SetTable}(h:t.mask=t'.mask):∀(n:Nat) (p:SetTable.Probe),pX t n p=pX t' n p
 | 0,p=>rfl
 | n+1,p=>by
   show pX t n (t.advance p)=pX t' n (t'.advance p);rw[V_ h,ei h n]
noncomputable def x3 (t:SetTable)(h:Int)(n:Nat):SetTable.Probe:=pX t n (t.probeStart h)
theorem n8 {t t':SetTable}(h:t.mask=t'.mask)(x:Int)(n:Nat):x3 t x n=x3 t' x n:=by
 unfold x3;have:t.probeStart x=t'.probeStart x:=by unfold SetTable.probeStart;rw[h]
 rw[this,ei h]
theorem n6 (t:SetTable)(h:Int)(n:Nat):x3 t h (n+1)=t.advance (x3 t h n):=rN t n 1 _
theorem fw (t:SetTable)(h:Int):∀n,(x3 t h n).dummy=none
 | 0=>rfl
 |n+1=>by rw[n6,gL,fw t h n]
theorem Y2 {t:SetTable}{j i:Nat}(h:t.slot j=.live i):t.place[i]?=some j:=by
 unfold SetTable.slot at h;dsimp only at h;split at h
 ·rename_i hb;cases h;simpa using hb
 ·split at h <;> cases h
theorem oF {t:SetTable}(hr:t.place.toList.Pairwise (· < ·)){j i:Nat}(h:t.place[i]?=some j):t.slot j=.live i:=by
 obtain⟨b1,b2,b3⟩:=ah j hr
 have hrel:∀(a b x y:Nat),a<b→t.place[a]?=some x→t.place[b]?=some y→x<y:=by
  intro a b x y hab ha hb;rw[←saF]at ha hb;obtain⟨ha1,rfl⟩:=saj.mp ha;obtain⟨hb1,rfl⟩:=saj.mp hb;exact sbN.mp hr a b ha1 hb1 hab
 have e:SetTable.below t.place j=i:=by
  rcases Nat.lt_trichotomy (SetTable.below t.place j) i with hlt|heq|hgt
  ·have hi:i<t.place.size:=(sbu.mp h).1;have q:=b3 _ _ (Nat.le_refl _) (sav (show SetTable.below t.place j<t.place.size by lia));have:=hrel _ _ _ _ hlt (sav (show SetTable.below t.place j<t.place.size by lia)) h;lia
  ·exact heq
  ·have:=b2 i j hgt h;lia
 unfold SetTable.slot;dsimp only;rw[e,h];simp
theorem pb {t:SetTable}(hd:t.dummies=#[])(hr:t.place.toList.Pairwise (· < ·))(j:Nat):t.slot j=.empty↔j∉t.place.toList:=by
 constructor
 ·intro h hm;obtain⟨i,hi⟩:=saQ hm;rw[saF]at hi;rw[oF hr hi]at h;cases h
 ·exact qH hd
theorem aR {t:SetTable}{n:Nat}(T:TabOk t n)(h:Int):∃k,k<10*SetTable.turns t.mask∧t.slot (x3 t h k).j=.empty:=by
 obtain⟨e,he,hm⟩:=bW t.place.toList (t.mask+1) (by rw[Array.length_toList,T.size];rcases T.mask with⟨q,_⟩|⟨q,_⟩ <;> lia)
 have hi:SetTable.bits h%(t.mask+1)≤t.mask:=by
  have:=Nat.mod_lt (SetTable.bits h) (show 0<t.mask+1 by lia);lia
 obtain⟨m,hm1,hm2⟩:=Yp (h:=h) T.lcAll hi (show e≤t.mask by lia);obtain⟨k,hk1,hk2⟩:=eh t (SetTable.bits h%(t.mask+1),SetTable.bits h) m;refine⟨k,by unfold SetTable.turns;lia,?_⟩;show t.slot (pX t k (sO t (SetTable.bits h%(t.mask+1),SetTable.bits h))).j=.empty;rw[hk2];show t.slot (lp t.mask m _).1=.empty;rw[hm2];exact qH T.dummies hm
theorem Qo {P:Nat→Prop}:∀n,P n→∃m,m≤n∧P m∧∀k,k<m→¬P k:=by
 intro n
 induction n using Nat.strongRecOn with
 | _ n ih=>
   intro h;by_cases q:∃k,k<n∧P k
   ·obtain⟨k,hk,hp⟩:=q;obtain⟨m,h1,h2,h3⟩:=ih k hk hp;exact⟨m,by lia,h2,h3⟩
   ·exact⟨n,Nat.le_refl _,h,fun k hk hp=>q ⟨k,hk,hp⟩⟩
theorem bP {t:SetTable}{n:Nat}(T:TabOk t n)(h:Int):∃N,N<10*SetTable.turns t.mask∧t.slot (x3 t h N).j=.empty∧∀m,m<N→t.slot (x3 t h m).j≠.empty:=by
 obtain⟨k,hk,e⟩:=aR T h;obtain⟨m,h1,h2,h3⟩:=Qo (P:=fun k=>t.slot (x3 t h k).j=.empty) k e;exact⟨m,by lia,h2,h3⟩
theorem Yv {t:SetTable}{h:Int}{ha:Nat→Int}{N:Nat}(hd:t.dummies=#[])(he:t.slot (x3 t h N).j=.empty)(hf:∀m,m<N→t.slot (x3 t h m).j≠.empty):∀(d m fuel:Nat),N - m=d→m≤N→d<fuel →
 (∃n i,m≤n∧n<N∧t.slot (x3 t h n).j=.live i∧ha i=h∧SetTable.probe.go t ha h fuel (x3 t h m)=some (.candidate (x3 t h n).j i (x3 t h (n+1)))∧∀n',m≤n'→n' < n→∀i',t.slot (x3 t h n').j=.live i'→ha i'≠h) ∨
 (SetTable.probe.go t ha h fuel (x3 t h m)=some (.empty (x3 t h N).j none)∧∀n',m≤n'→n' < N→∀i',t.slot (x3 t h n').j=.live i'→ha i'≠h)
 |d,m,0,_,_,hz=>absurd hz (Nat.not_lt_zero _)
 | 0,m,fuel+1,e,hm,hz=>by
   have:m=N:=by lia
   subst this;refine .inr ⟨?_,fun n' h1 h2=>by lia⟩;unfold SetTable.probe.go;rw[he];simp[fw]
 | d+1,m,fuel+1,e,hm,hz=>by
   have hlt:m<N:=by lia
   rcases jG hd (x3 t h m).j with q|⟨i,q⟩
   ·exact absurd q (hf m hlt)
   ·by_cases hi:ha i=h
    ·refine .inl ⟨m,i,Nat.le_refl _,hlt,q,hi,?_,fun n' h1 h2=>by lia⟩;unfold SetTable.probe.go;rw[q];simp only[hi,beq_self_eq_true,if_true];rw[n6]
    ·have step:SetTable.probe.go t ha h (fuel+1) (x3 t h m)=SetTable.probe.go t ha h fuel (x3 t h (m+1)):=by
      conv=>lhs;unfold SetTable.probe.go
      rw[q];have:(ha i == h)=false:=by simpa using hi
      simp only[this];rw[n6];rfl
     rw[step]
     have hm0:∀i',t.slot (x3 t h m).j=.live i'→ha i'≠h:=fun i' q'=>by
      rw[q]at q';cases q';exact hi
     rcases Yv hd he hf d (m+1) fuel (by lia) (by lia) (by lia)with⟨n,i2,h1,h2,h3,h4,h5,h6⟩|⟨h1,h2⟩
     ·refine .inl ⟨n,i2,by lia,h2,h3,h4,h5,fun n' q1 q2=>?_⟩;by_cases qe:n'=m
      ·rw[qe];exact hm0
      ·exact h6 n' (by lia) q2
     ·refine .inr ⟨h1,fun n' q1 q2=>?_⟩;by_cases qe:n'=m
      ·rw[qe];exact hm0
      ·exact h2 n' (by lia) q2
noncomputable def RI (t:SetTable)(hs:List Int):Prop:=∀q∈hs.zip t.place.toList,∃m,(x3 t q.1 m).j=q.2∧∀m',m' < m→(x3 t q.1 m').j∈t.place.toList
theorem RI.nil {t:SetTable}:RI t []:=fun q h=>by simp at h
theorem Ul {α β:Type}(l:List α)(m:List β)(p:Nat)(x:α)(y:β)(h:l.length=m.length):∀q∈(l.take p++x::l.drop p).zip (m.take p++y::m.drop p),q=(x,y)∨q∈l.zip m:=by
 intro q hq;rw[List.zip_append (by simp[h])]at hq
 rcases sas.mp hq with hq|hq
 ·refine .inr ?_;rw[List.zip_eq_zipWith,←List.take_zipWith]at hq;rw[List.zip_eq_zipWith];exact List.mem_of_mem_take hq
 ·rw[List.zip_cons_cons]at hq
  rcases san.mp hq with hq|hq
  ·exact .inl hq
  ·refine .inr ?_;rw[List.zip_eq_zipWith,←List.drop_zipWith]at hq;rw[List.zip_eq_zipWith];exact List.mem_of_mem_drop hq
theorem RI.put {t:SetTable}{hs:List Int}{h:Int}{N p:Nat}(R:RI t hs)(hl:hs.length=t.place.size)(hd:t.dummies=#[])(hr:t.place.toList.Pairwise (· < ·))(hf:∀m,m<N→t.slot (x3 t h m).j≠.empty) :
 RI {t with place:=SetTable.insertAt t.place p (x3 t h N).j} (hs.take p++h::hs.drop p):=by
 intro q hq;have em:({t with place:=SetTable.insertAt t.place p (x3 t h N).j}:SetTable).mask=t.mask:=rfl
 have hin:∀x,x∈t.place.toList→x∈(SetTable.insertAt t.place p (x3 t h N).j).toList:=fun x hx=>by
  rw[sbQ,sas,san];rw[←List.take_append_drop p t.place.toList,sas]at hx
  rcases hx with hx|hx
  ·exact .inl hx
  ·exact .inr (.inr hx)
 have hq':q=(h,(x3 t h N).j)∨q∈hs.zip t.place.toList:=by
  refine Ul hs t.place.toList p h (x3 t h N).j (by simpa using hl) q ?_;have hq2:=hq;rw[show(({t with place:=SetTable.insertAt t.place p (x3 t h N).j}:SetTable).place.toList)=t.place.toList.take p++(x3 t h N).j::t.place.toList.drop p from sbQ _ _ _]at hq2;exact hq2
 rcases hq' with rfl|hq'
 ·refine⟨N,by rw[n8 em],fun m' hm'=>?_⟩;rw[n8 em];refine hin _ (scg fun hn=>hf m' hm' ?_);exact(pb hd hr _).mpr hn
 ·obtain⟨m,h1,h2⟩:=R q hq';refine⟨m,by rw[n8 em];exact h1,fun m' hm'=>?_⟩;rw[n8 em];exact hin _ (h2 m' hm')
theorem eK (t:SetTable)(x:Nat×Nat):∀k,k≤(sO t x).more→(pX t k (sO t x))={sO t x with j:=x.1+k,more:=(sO t x).more - k}
 | 0,_=>rfl
 | k+1,hk=>by
   have ih:=eK t x k (by lia);rw[rN t k 1];show t.advance (pX t k (sO t x))=_;rw[ih];unfold SetTable.advance;rw[sak (by show(sO t x).more - k>0;lia)];simp only[SetTable.Probe.mk.injEq,and_true,true_and];exact⟨by lia,by lia⟩
theorem fN (t:SetTable){owner:Array (Option Nat)}:∀(fuel:Nat) (x:Nat×Nat) (j:Nat),SetTable.layClean.free t.mask owner fuel x.1 x.2=some j →
 ∃m,(pX t m (sO t x)).j=j∧∀m',m' < m→(owner.getD (pX t m' (sO t x)).j (some 0)).isNone=false
 | 0,x,j,h=>by cases h
 | fuel+1,x,j,h=>by
   unfold SetTable.layClean.free at h;have hmore:(sO t x).more=SetTable.runEnd t.mask x.1 - x.1:=rfl
   have hge:x.1≤SetTable.runEnd t.mask x.1:=by unfold SetTable.runEnd;split <;> lia
   cases hf:(List.range (SetTable.runEnd t.mask x.1+1 - x.1)).find? fun k=>(owner.getD (x.1+k) (some 0)).isNone with
   | some k=>
     rw[hf]at h;dsimp only at h;cases h;have hk:=sba.mp (List.mem_of_find?_eq_some hf);refine⟨k,by rw[eK t x k (by lia)],fun m' hm'=>?_⟩;rw[eK t x m' (by lia)];have:=List.find?_range_eq_some.mp hf;have q:=this.2.2 m' hm';simpa using q
   | none=>
     rw[hf]at h;dsimp only at h;obtain⟨m,h1,h2⟩:=fN t fuel (SetTable.leap t.mask x.1 x.2) j h;have hrun:=cq t (sO t x).more (sO t x) rfl rfl;refine⟨(sO t x).more+1+m,by rw[rN,hrun];exact h1,fun m' hm'=>?_⟩;by_cases hlt:m' < (sO t x).more+1
     ·rw[eK t x m' (by lia)];have:=List.find?_eq_none.mp hf m' (sba.mpr (by lia));exact Bool.eq_false_iff.mpr this
     ·have e:m'=(sO t x).more+1+(m' - ((sO t x).more+1)):=by lia
      rw[e,rN,hrun];exact h2 _ (by lia)
theorem kh {mask i:Nat}(h:i≤mask):SetTable.runEnd mask i≤mask:=by
 unfold SetTable.runEnd;split <;> lia
theorem WW (t:SetTable)(h:Int):∀n,(x3 t h n).j+(x3 t h n).more≤t.mask
 | 0=>by
   have hi:SetTable.bits h%(t.mask+1)≤t.mask:=by
    have:=Nat.mod_lt (SetTable.bits h) (show 0<t.mask+1 by lia);lia
   have h1:=kh hi;show SetTable.bits h%(t.mask+1)+(SetTable.runEnd t.mask (SetTable.bits h%(t.mask+1)) - SetTable.bits h%(t.mask+1))≤t.mask;lia
 | n+1=>by
   have ih:=WW t h n;rw[n6];unfold SetTable.advance;split
   ·show(x3 t h n).j+1+((x3 t h n).more - 1)≤t.mask;lia
   ·show(SetTable.leap t.mask (x3 t h n).i (x3 t h n).perturb).1+(SetTable.runEnd t.mask (SetTable.leap t.mask (x3 t h n).i (x3 t h n).perturb).1 - (SetTable.leap t.mask (x3 t h n).i (x3 t h n).perturb).1)≤t.mask
    have hi:(SetTable.leap t.mask (x3 t h n).i (x3 t h n).perturb).1≤t.mask:=by
     simp only[SetTable.leap];have:=Nat.mod_lt ((x3 t h n).i*5+1+(x3 t h n).perturb / 32) (show 0<t.mask+1 by lia);lia
    have h1:=kh hi;lia
noncomputable def Sd (t:SetTable)(all:List Int)(owner:Array (Option Nat)):Prop:=∀j k,owner[j]?=some (some k)→∃h m,all[k]?=some h∧(x3 t h m).j=j∧∀m',m' < m→(owner.getD (x3 t h m').j (some 0)).isNone=false
theorem dy (t:SetTable)(ht:t.mask=31)(all:List Int):∀(hs:List Int) (owner:Array (Option Nat)) (k:Nat) (owner':Array (Option Nat)) (k':Nat),all.drop k=hs→Sd t all owner →
 (hs.foldl (init:=some (owner,k)) fun acc h=>do
  let (owner,k) ← acc
  let j ← SetTable.layClean.free 31 owner (SetTable.turns 31) (SetTable.bits h%(31+1)) (SetTable.bits h)
  pure (owner.setIfInBounds j (some k),k+1))=some (owner',k')→Sd t all owner':=by
 intro hs
 induction hs with
 |nil=>intro owner k owner' k' _ ho e;cases e;exact ho
 | cons h hs ih=>
   intro owner k owner' k' hall ho e;rw[List.foldl_cons]at e
   have hk:all[k]?=some h:=by
    have:(all.drop k)[0]?=some h:=by rw[hall];rfl
    simpa using this
   cases hj:SetTable.layClean.free 31 owner (SetTable.turns 31) (SetTable.bits h%(31+1)) (SetTable.bits h)with
   | none=>
     exfalso
     have z:(do
      let (owner,k) ← some (owner,k)
      let j ← SetTable.layClean.free 31 owner (SetTable.turns 31) (SetTable.bits h%(31+1)) (SetTable.bits h)
      pure (owner.setIfInBounds j (some k),k+1))=(none:Option (Array (Option Nat)×Nat)):=by
      show(SetTable.layClean.free 31 owner (SetTable.turns 31) (SetTable.bits h%(31+1)) (SetTable.bits h)).bind _=_;rw[hj];rfl
     rw[z]at e
     have dead:∀l:List Int,(l.foldl (init:=(none:Option (Array (Option Nat)×Nat))) fun acc h=>do
      let (owner,k) ← acc
      let j ← SetTable.layClean.free 31 owner (SetTable.turns 31) (SetTable.bits h%(31+1)) (SetTable.bits h)
      pure (owner.setIfInBounds j (some k),k+1))=none:=by
      intro l
      induction l with
      |nil=>rfl
      |cons a l ih=>exact ih
     rw[dead]at e;cases e
   | some j=>
     have z:(do
      let (owner,k) ← some (owner,k)
      let j ← SetTable.layClean.free 31 owner (SetTable.turns 31) (SetTable.bits h%(31+1)) (SetTable.bits h)
      pure (owner.setIfInBounds j (some k),k+1))=some (owner.setIfInBounds j (some k),k+1):=by
      show(SetTable.layClean.free 31 owner (SetTable.turns 31) (SetTable.bits h%(31+1)) (SetTable.bits h)).bind _=_;rw[hj];rfl
     rw[z]at e;refine ih (owner.setIfInBounds j (some k)) (k+1) owner' k' ?_ ?_ e
     ·have:all.drop (k+1)=(all.drop k).drop 1:=by rw[List.drop_drop]
      rw[this,hall];rfl
     ·have grow:∀x,(owner.getD x (some 0)).isNone=false→((owner.setIfInBounds j (some k)).getD x (some 0)).isNone=false:=by
       intro x hx;rw[Array.getD_eq_getD_getElem?,Array.getElem?_setIfInBounds];split
       ·split <;> rfl
       ·rw[←Array.getD_eq_getD_getElem?];exact hx
      intro j' k1 hjk;rw[Array.getElem?_setIfInBounds]at hjk;split at hjk
      ·rename_i hjj;split at hjk
       ·cases hjk;subst hjj;have hj':SetTable.layClean.free t.mask owner (SetTable.turns 31) (SetTable.bits h%(t.mask+1),SetTable.bits h).1 (SetTable.bits h%(t.mask+1),SetTable.bits h).2=some j:=by rw[ht];exact hj
        obtain⟨m,h1,h2⟩:=fN t _ _ _ hj';exact⟨h,m,hk,h1,fun m' hm'=>grow _ (h2 m' hm')⟩
       ·cases hjk
      ·obtain⟨h0,m,q1,q2,q3⟩:=ho j' k1 hjk;exact⟨h0,m,q1,q2,fun m' hm'=>grow _ (q3 m' hm')⟩
theorem Y8 (t:SetTable)(es:Array (Int×Value))(hp:t.plain=true)(hn:es.size=5) :
 ∃es' t' order,t.relaid (es.map (·.1)) (SetTable.grown 5)=some (t',order)∧order.filterMap (es[·]?)=es'∧TabOk t' es'.size∧t'.led=t.led∧List.Perm es'.toList es.toList∧es'.size=5∧RI t' (es'.toList.map (·.1)):=by
 have hw:SetTable.sizeAbove (SetTable.grown 5) - 1=31:=by decide
 have h0:(Array.replicate 32 (none:Option Nat)).toList.filterMap id=[]:=by decide
 obtain⟨owner,e1,e2,e3⟩:=bB (es.map (·.1)).toList (Array.replicate 32 none) 0 (by simp) (by rw[h0];exact .nil) (by simp;lia)
 have hl:SetTable.layClean 31 (es.map (·.1))=some owner:=by
  unfold SetTable.layClean;rw[←Array.foldl_toList];rw[e1];rfl
 have h5:0+(es.map (·.1)).toList.length=5:=by simp[hn]
 rw[h5]at e3
 obtain⟨live,hlive⟩:∃live,live=(List.range 32).filterMap fun j=>(owner.getD j none).map (j,·):=⟨_,rfl⟩
 obtain⟨t',ht'⟩:∃t':SetTable,t'={mask:=31,place:=(live.map (·.1)).toArray,dummies:=#[],finger:=t.finger,led:=t.led,moves:=t.movedTo 31,plain:=t.plain}:=⟨_,rfl⟩
 have hr:t.relaid (es.map (·.1)) (SetTable.grown 5)=some (t',(live.map (·.2)).toArray):=by
  unfold SetTable.relaid SetTable.laid;rw[hw,hl,ht',hlive];rfl
 have h2:=Vl owner;rw[e2,←hlive]at h2
 have hlen:live.length=5:=by
  have:(live.map (·.2)).length=5:=by rw[h2,e3.length_eq,sbS]
  simpa using this
 have hown:=dy t' (by rw[ht']) (es.map (·.1)).toList (es.map (·.1)).toList (Array.replicate 32 none) 0 owner _ (by simp) (fun j k hjk=>by
  exfalso;rw[Array.getElem?_replicate]at hjk
  split at hjk <;> cases hjk) e1
 have hk5:∀q∈live,q.2<5∧owner[q.1]?=some (some q.2):=by
  intro q hq;have hm:q.2∈owner.toList.filterMap id:=by rw[←h2];exact sbL hq
  refine⟨sba.mp (e3.mem_iff.mp hm),?_⟩;rw[hlive]at hq;obtain⟨j,hj,hjq⟩:=scx.mp hq;have hj32:j<owner.size:=by rw[e2];exact sba.mp hj
  cases ho:owner.getD j none with
  |none=>rw[ho]at hjq;cases hjq
  | some k=>
    rw[ho]at hjq;cases hjq;rw[sav hj32];simp only[Array.getD,hj32,dite_true]at ho;exact congrArg some ho
 have hperm:List.Perm (((live.map (·.2)).toArray.filterMap (es[·]?)).toList) es.toList:=by
  rw[Array.toList_filterMap];show List.Perm ((live.map (·.2)).filterMap (es[·]?)) es.toList;rw[h2];exact((e3.filterMap _).trans (by rw[←hn];exact List.Perm.of_eq (filterMap_getElem?_range es)))
 have hsz:((live.map (·.2)).toArray.filterMap (es[·]?)).size=5:=by
  rw[←Array.length_toList,hperm.length_eq,Array.length_toList,hn]
 have hmap:(((live.map (·.2)).toArray.filterMap (es[·]?)).toList)=live.map fun q=>es.getD q.2 (0,.none):=by
  rw[Array.toList_filterMap];show(live.map (·.2)).filterMap (es[·]?)=_;clear hlive h2 hr ht' hown hperm hsz hlen
  induction live with
  |nil=>rfl
  | cons q l ih=>
    have hq:=(hk5 q (.head _)).1;have hq':q.2<es.size:=by lia
    simp only[List.map_cons,List.filterMap_cons,sav hq'];rw[ih fun q hq=>hk5 q (.tail _ hq)];simp[Array.getD,hq']
 refine⟨_,t',_,hr,rfl,?_,by rw[ht'],hperm,hsz,?_⟩
 ·rw[hsz,ht'];exact⟨hp,rfl,by simpa using hlen,by rw[hlive];simpa using Vm owner 32,.inr ⟨rfl,by lia⟩⟩
 ·rw[hmap];have hpl:t'.place.toList=live.map (·.1):=by rw[ht']
  intro q hq;rw[hpl,sbj]at hq;rw[List.zip_map']at hq;obtain⟨x,hx,rfl⟩:=saJ.mp hq;obtain⟨h1,h3⟩:=hk5 x hx;obtain⟨h,m,q1,q2,q3⟩:=hown x.1 x.2 h3
  have hh:(es.getD x.2 (0,.none)).1=h:=by
   have hx5:x.2<es.size:=by lia
   simp[hx5]at q1;simp[Array.getD,hx5,q1]
  show ∃m,(x3 t' (es.getD x.2 (0,.none)).1 m).j=x.1∧∀m',m' < m→(x3 t' (es.getD x.2 (0,.none)).1 m').j∈t'.place.toList;rw[hh];refine⟨m,q2,fun m' hm'=>?_⟩;have q4:=q3 m' hm';have hle:=WW t' h m';have hmask:t'.mask=31:=by rw[ht']
  have hlt:(x3 t' h m').j<owner.size:=by lia
  simp only[Array.getD,hlt,dite_true]at q4
  cases ho:owner[(x3 t' h m').j]'hlt with
  | none=>
    have:(owner[(x3 t' h m').j]'hlt).isNone=true:=by rw[ho];rfl
    rw[show(owner.getInternal (x3 t' h m').j hlt)=owner[(x3 t' h m').j]'hlt from rfl,this]at q4;cases q4
  | some k=>
    rw[hpl];refine saJ.mpr ⟨((x3 t' h m').j,k),?_,rfl⟩;rw[hlive];refine scx.mpr ⟨(x3 t' h m').j,sba.mpr (by lia),?_⟩;simp[Array.getD,hlt,ho]
section
variable {prog:Program}{w:World}{A:Around}{E:Value→Shared→Prop}{s:Shared}
noncomputable abbrev uJ (prog:Program)(w:World)(h:Heap)(k:List Int)(a:Addr):Prop:=IsTupleKey (intKind prog w) h k a
noncomputable def yc (prog:Program)(w:World)(k:List Int):Int:=(tupleKind (intKind prog w)).hash k
theorem fJ {k:List Int}{vs:List Value}(h:ItemsAre (intKind prog w) k vs):∀v∈vs,∃i t,v=Value.int i t:=by
 induction h with
 |nil=>intro v hv;simp at hv
 | @cons k v ks vs h1 _ ih=>
   intro u hu
   rcases san.mp hu with rfl|hu
   ·obtain⟨t,e⟩:=Value.isInt_shape h1;exact⟨_,t,e⟩
   ·exact ih u hu
theorem bH {a:Addr}{o:Obj}{items:Array Value}{n:Nat}{Q:Option (Array Value)→Shared→Prop}(ho:s.heap.get? a=some o)(hd:o.data=.seq items n)(h:Q (some items) s):wpAny (model prog w) A (seqItems? (.ref a)) Q E s:=by
 unfold seqItems?;refine saa (wpAny_load ho ?_);rw[hd];exact sad h
theorem cb {k:List Int}{a:Addr}{Q:Bool→Shared→Prop}(hk:uJ prog w s.heap k a)(h:Q true s):wpAny (model prog w) A (hashByValue 8 (.ref a)) Q E s:=by
 have hT:=hk.typeIs;obtain⟨o,items,n,ho,_,hd,hi⟩:=hk;have hints:=fJ hi;unfold hashByValue;refine saa (wpAny_specialOf hT F.slot_tuple_hash.lookup ?_);dsimp only;refine saa (bH ho hd ?_);refine saa ?_;show wpAny _ _ (forIn items _ _) _ _ s;rw[←Array.forIn_toList];refine wpAny_forIn_list _ (fun yv r s'=>r.1=none∧s'=s∧∀v∈yv,∃i t,v=Value.int i t) _ ?_ ?_ _ _ ⟨rfl,rfl,hints⟩
 ·rintro v yv r s' ⟨hr,rfl,hall⟩;obtain⟨i,t,rfl⟩:=hall v saw;have e:hashByValue 7 (Value.int i t)=pure true:=rfl;rw[e];refine saa (sad ?_);simp only[Bool.not_true,sax,if_false];exact sad ⟨rfl,rfl,fun u hu=>hall u (sao _ hu)⟩
 ·rintro⟨r1,r2⟩ s' ⟨hr,rfl,_⟩;simp only at hr;subst hr;exact sad h
theorem iS {k:List Int}{a:Addr}{Q:Bool→Shared→Prop}(hk:uJ prog w s.heap k a)(h:Q false s):wpAny (model prog w) A (ofAClassStatement 8 (.ref a)) Q E s:=by
 have hT:=hk.typeIs;obtain⟨o,items,n,ho,_,hd,hi⟩:=hk;have hints:=fJ hi;unfold ofAClassStatement;refine saa (wpAny_typeOf hT ?_);dsimp only;rw[sak (by rfl)];refine saa (sad ?_);simp only[Bool.not_true,sax,if_false];refine saa (bH ho hd ?_);dsimp only;refine saa ?_;rw[←Array.forIn_toList];refine wpAny_forIn_list _ (fun yv r s'=>r.1=none∧s'=s∧∀v∈yv,∃i t,v=Value.int i t) _ ?_ ?_ _ _ ⟨rfl,rfl,hints⟩
 ·rintro v yv r s' ⟨hr,rfl,hall⟩;obtain⟨i,t,rfl⟩:=hall v saw;have e:ofAClassStatement 7 (Value.int i t)=pure false:=rfl;rw[e];refine saa (sad ?_);simp only[sax,if_false];exact sad ⟨rfl,rfl,fun u hu=>hall u (sao _ hu)⟩
 ·rintro⟨r1,r2⟩ s' ⟨hr,rfl,_⟩;simp only at hr;subst hr;exact sad h
theorem cG {k:List Int}{a:Addr}{l:List Value}{Q:Bool→Shared→Prop}(hk:uJ prog w s.heap k a)(hl:∀v∈l,∃k' b,v=.ref b∧uJ prog w s.heap k' b)(h:Q false s):wpAny (model prog w) A (searchCouldBeSeen (.ref a) l) Q E s:=by
 unfold searchCouldBeSeen;refine saa ?_;refine wpAny_forIn_list _ (fun yv r s'=>r.1=none∧s'=s∧∀v∈yv,∃k' b,v=.ref b∧uJ prog w s.heap k' b) _ ?_ ?_ _ _ ⟨rfl,rfl,hl⟩
 ·rintro v yv r s' ⟨hr,rfl,hall⟩;obtain⟨k',b,rfl,hb⟩:=hall v saw;have go:∀u∈yv,∃k' b,u=.ref b∧uJ prog w s'.heap k' b:=fun u hu=>hall u (sao _ hu);dsimp only;by_cases hab:(a == b ||(carriedByValue (.ref a)&&carriedByValue (.ref b)))=true
  ·rw[sak hab];exact sad ⟨rfl,rfl,go⟩
  ·rw[sal hab];refine saa ((tupleKind (intKind prog w)).quiet hk ?_);simp only[Bool.not_true,sax,if_false];refine saa ((tupleKind (intKind prog w)).quiet hb ?_);simp only[Bool.not_true,sax,if_false];refine saa (iS hk ?_);simp only[sax,if_false];refine saa (iS hb ?_);simp only[sax,if_false];exact sad ⟨rfl,rfl,go⟩
 ·rintro⟨r1,r2⟩ s' ⟨hr,rfl,_⟩;simp only at hr;subst hr;exact sad h
end
structure EsP (prog:Program)(w:World)(h:Heap)(es:List (Int×Value))(S:List (List Int)):Prop where
 all:∀e∈es,∃k a,e=(yc prog w k,.ref a)∧uJ prog w h k a
 mem:∀k,k∈S↔∃e∈es,∃a,e=(yc prog w k,.ref a)∧uJ prog w h k a
 len:es.length=S.length
structure lW (prog:Program)(w:World)(h:Heap)(sa:Addr)(S:List (List Int))(es:Array (Int×Value))(ep:Nat)(tb:SetTable):Prop where
 at_:SetAt w h sa es ep tb
 ri:RI tb (es.toList.map (·.1))
 es:EsP prog w h es.toList S
section
variable {prog:Program}{w:World}{A:Around}{E:Value→Shared→Prop}{s:Shared}
theorem cS {sa a:Addr}{S:List (List Int)}{es:Array (Int×Value)}{ep:Nat}{tb:SetTable}{k:List Int}{N:Nat}{Q:SetFound→Shared→Prop}(P:lW prog w s.heap sa S es ep tb)(hk:uJ prog w s.heap k a)(hu:A.units<cLine)
 (hN:N<10*SetTable.turns tb.mask) (he:tb.slot (x3 tb (yc prog w k) N).j=.empty) (hf:∀m,m<N→tb.slot (x3 tb (yc prog w k) m).j≠.empty)
 (h1:k∈S→Q (.there none) s) (h2:k∉S→Q (.free (x3 tb (yc prog w k) N).j false) s):∀(d m fuel:Nat) (stand:Option SetTable.Probe),N - m=d→m≤N→d<fuel→stand.getD (tb.probeStart (yc prog w k))=x3 tb (yc prog w k) m →
  (k∈S→∃n i b,m≤n∧n<N∧tb.slot (x3 tb (yc prog w k) n).j=.live i∧es[i]?=some (yc prog w k,.ref b)∧uJ prog w s.heap k b) →
  wpAny (model prog w) A (setSearchFrom sa (.ref a) (yc prog w k) true fuel stand) Q E s:=by
 intro d
 induction d using Nat.strongRecOn with
 | _ d ih=>
   intro m fuel stand hd hm hfu hst hin
   cases fuel with
   |zero=>exact absurd hfu (Nat.not_lt_zero _)
   | succ fuel=>
     unfold setSearchFrom;refine saa (rn P.at_ ?_);dsimp only
     have hgw:tb.gaveWay=false:=by
      unfold SetTable.gaveWay
      rcases P.at_.tab.mask with⟨q,_⟩|⟨q,_⟩ <;> rw[q] <;> rfl
     rw[sal (by rw[hgw];exact sai),hst]
     have live_e:∀n i,tb.slot (x3 tb (yc prog w k) n).j=.live i→∃e,es[i]?=some e:=fun n i hl=>by
      have hp:=Y2 hl;have hlt:i<es.size:=by rw[←P.at_.tab.size];exact(sbu.mp hp).1
      exact⟨_,sav hlt⟩
     have next_pair:∀(n i:Nat) (k':List Int) (b:Addr),m≤n→n<N→tb.slot (x3 tb (yc prog w k) n).j=.live i→(∀n',m≤n'→n' < n→∀i',tb.slot (x3 tb (yc prog w k) n').j=.live i'→(es[i']?.map (·.1)).getD 0≠yc prog w k) →
      es[i]?=some (yc prog w k',.ref b)→uJ prog w s.heap k' b→k'≠k→wpAny (model prog w) A (setSearchFrom sa (.ref a) (yc prog w k) true fuel (some (x3 tb (yc prog w k) (n+1)))) Q E s:=by
      intro n i k' b q1 q2 q3 q6 hei hb hkk;refine ih (N - (n+1)) (by lia) (n+1) fuel (some (x3 tb (yc prog w k) (n+1))) rfl (by lia) (by lia) rfl fun hks=>?_;obtain⟨n',i',b',r1,r2,r3,r4,r5⟩:=hin hks;refine⟨n',i',b',?_,r2,r3,r4,r5⟩
      rcases Nat.lt_or_ge n n' with hlt|hge
      ·exact hlt
      ·exfalso
       rcases Nat.lt_or_eq_of_le hge with hlt|heq
       ·refine q6 n' r1 hlt i' r3 ?_;simp only[r4,Option.map_some,Option.getD_some]
       ·subst heq;rw[q3]at r3;cases r3;rw[hei]at r4;have e2:=(Prod.mk.inj (saE r4)).2;have e3:b=b':=by injection e2
        subst e3;exact hkk (hb.inj r5)
     rcases Yv (ha:=fun i=>(es[i]?.map (·.1)).getD 0) P.at_.tab.dummies he hf d m (10*SetTable.turns tb.mask) hd hm (by lia)with⟨n,i,q1,q2,q3,q4,q5,q6⟩|⟨q5,q6⟩
     ·split
      rotate_left
      ·rename_i hp;exact(hp _ q5).elim
      ·rename_i met hp;have em:met=.candidate (x3 tb (yc prog w k) n).j i (x3 tb (yc prog w k) (n+1)):=saE (hp.symm.trans q5);subst em;dsimp only;obtain⟨e,hei⟩:=live_e n i q3
       have hme:e∈es.toList:=by
        rw[←saF]at hei;exact saA hei
       obtain⟨k',b,rfl,hb⟩:=P.es.all e hme
       have hstored:∀v∈(es.filter fun x=>x.1 == yc prog w k).toList.map (·.2),∃k' b,v=.ref b∧uJ prog w s.heap k' b:=fun v hv=>by
        obtain⟨e,he',rfl⟩:=saJ.mp hv;rw[Array.toList_filter,saI]at he';obtain⟨k2,b2,rfl,hb2⟩:=P.es.all e he'.1;exact⟨k2,b2,rfl,hb2⟩
       have hsm:tb.sameMemory tb.moves tb.mask=some true:=by unfold SetTable.sameMemory;simp
       refine wpAny_ite_split (fun hl=>saa (cG hk hstored ?_)) fun hl=>?_
       ·rw[sal sai,hei];refine saa (saM ((tupleKind (intKind prog w)).eqBool hu hb hk ?_));refine saa (rn P.at_ ?_);by_cases hkk:k'=k
        ·subst hkk;rw[sak (by simp)];exact sad (h1 ((P.es.mem k').mpr ⟨_,hme,b,rfl,hb⟩))
        ·rw[sal (by simp[hkk])];dsimp only;rw[hsm];dsimp only;rw[sak rfl,q3];dsimp only;rw[hei];refine saa (wpAny_isSame_ref_self ?_);refine saa (sad ?_);rw[sak rfl];dsimp only;rw[sal (by simp[hkk])];exact next_pair n i k' b q1 q2 q3 q6 hei hb hkk
       ·rw[hei];refine saa (saM ((tupleKind (intKind prog w)).eqBool hu hb hk ?_));refine saa (rn P.at_ ?_);by_cases hkk:k'=k
        ·subst hkk;rw[sak (by simp)];exact sad (h1 ((P.es.mem k').mpr ⟨_,hme,b,rfl,hb⟩))
        ·rw[sal (by simp[hkk])];dsimp only;rw[hsm];dsimp only;rw[sak rfl,q3];dsimp only;rw[hei];refine saa (wpAny_isSame_ref_self ?_);refine saa (sad ?_);rw[sak rfl];dsimp only;rw[sal (by simp[hkk])];exact next_pair n i k' b q1 q2 q3 q6 hei hb hkk
     ·have hns:k∉S:=fun hks=>by
       obtain⟨n,i,b,r1,r2,r3,r4,_⟩:=hin hks;refine q6 n r1 r2 i r3 ?_;simp only[r4,Option.map_some,Option.getD_some]
      split
      rotate_left
      ·rename_i hp;exact(hp _ q5).elim
      ·rename_i met hp;have em:met=.empty (x3 tb (yc prog w k) N).j none:=saE (hp.symm.trans q5);subst em;exact sad (h2 hns)
theorem Zr {sa:Addr}{S:List (List Int)}{es:Array (Int×Value)}{ep:Nat}{tb:SetTable}{k:List Int}{N:Nat}(P:lW prog w s.heap sa S es ep tb)
 (he:tb.slot (x3 tb (yc prog w k) N).j=.empty) (hf:∀m,m<N→tb.slot (x3 tb (yc prog w k) m).j≠.empty) (hks:k∈S) :
 ∃n i b,0≤n∧n<N∧tb.slot (x3 tb (yc prog w k) n).j=.live i∧es[i]?=some (yc prog w k,.ref b)∧uJ prog w s.heap k b:=by
 obtain⟨e,hme,b,rfl,hb⟩:=(P.es.mem k).mp hks;obtain⟨i,hi⟩:=saQ hme;have hlt:i<es.toList.length:=(saj.mp hi).1;rw[Array.length_toList]at hlt;have hlt2:i<tb.place.size:=by rw[P.at_.tab.size];exact hlt
 have hp:tb.place[i]?=some tb.place[i]:=sav hlt2
 have hz:(yc prog w k,tb.place[i])∈(es.toList.map (·.1)).zip tb.place.toList:=by
  refine saA (i:=i) ?_;rw[List.getElem?_zip_eq_some];refine⟨by rw[sar,hi];rfl,by rw[saF];exact hp⟩
 obtain⟨m,h1,h2⟩:=P.ri _ hz;have hs:=oF P.at_.tab.rise hp
 have hmN:m<N:=by
  rcases Nat.lt_or_ge m N with hlt'|hge
  ·exact hlt'
  ·exfalso
   rcases Nat.lt_or_eq_of_le hge with hlt'|heq
   ·exact(pb P.at_.tab.dummies P.at_.tab.rise _).mp he (h2 N hlt')
   ·subst heq;rw[h1,hs]at he;cases he
 refine⟨m,i,b,saT _,hmN,by rw[h1];exact hs,by rw[←saF];exact hi,hb⟩
theorem uJ.stay {h h':Heap}{k:List Int}{a sa:Addr}{es:Array (Int×Value)}{ep:Nat}{tb:SetTable}(hk:uJ prog w h k a)(S:SetAt w h sa es ep tb)(hs:Heap.SameBut sa h h'):uJ prog w h' k a:=by
 obtain⟨o,items,n,ho,hc,hd,hi⟩:=hk;obtain⟨o2,ho2,_,hd2⟩:=S.ex
 have hne:a≠sa:=by
  rintro rfl;rw[ho]at ho2;cases ho2;rw[hd]at hd2;cases hd2
 exact⟨o,items,n,(hs.2 a hne).trans ho,hc,hd,hi⟩
theorem EsP.stay {h h':Heap}{l:List (Int×Value)}{T:List (List Int)}{sa:Addr}{es:Array (Int×Value)}{ep:Nat}{tb:SetTable}(X:EsP prog w h l T)(S:SetAt w h sa es ep tb)(hs:Heap.SameBut sa h h'):EsP prog w h' l T where
 all:=fun e he=>let ⟨k,a,q,r⟩:=X.all e he;⟨k,a,q,r.stay S hs⟩
 mem:=fun k=>by
  rw[X.mem k];constructor
  ·rintro⟨e,he,a,q,r⟩;exact⟨e,he,a,q,r.stay S hs⟩
  ·rintro⟨e,he,a,q,r⟩;obtain⟨k2,a2,q2,r2⟩:=X.all e he
   have e2:a2=a:=by
    have:=(Prod.mk.inj (q2.symm.trans q)).2;injection this
   subst e2;have:k2=k:=(r2.stay S hs).inj r;subst this;exact⟨e,he,a2,q,r2⟩
 len:=X.len
theorem EsP.of_perm {h:Heap}{l l':List (Int×Value)}{T:List (List Int)}(X:EsP prog w h l T)(p:l'.Perm l):EsP prog w h l' T where
 all:=fun e he=>X.all e (p.mem_iff.mp he)
 mem:=fun k=>by
  rw[X.mem k];constructor
  ·rintro⟨e,he,r⟩;exact⟨e,p.mem_iff.mpr he,r⟩
  ·rintro⟨e,he,r⟩;exact⟨e,p.mem_iff.mp he,r⟩
 len:=p.length_eq.trans X.len
theorem EsP.push {h:Heap}{l:List (Int×Value)}{T:List (List Int)}(X:EsP prog w h l T){k:List Int}{a:Addr}(hk:uJ prog w h k a):EsP prog w h (l++[(yc prog w k,.ref a)]) (T++[k]) where
 all:=fun e he=>by
  rcases sas.mp he with he|he
  ·exact X.all e he
  ·rw[saf]at he;exact⟨k,a,he,hk⟩
 mem:=fun k2=>by
  rw[sas,saf,X.mem k2];constructor
  ·rintro(⟨e,he,r⟩|rfl)
   ·exact⟨e,List.mem_append_left _ he,r⟩
   ·exact⟨_,saX _ (saf.mpr rfl),a,rfl,hk⟩
  ·rintro⟨e,he,a2,q,r⟩
   rcases sas.mp he with he|he
   ·exact .inl ⟨e,he,a2,q,r⟩
   ·rw[saf]at he;rw[he]at q
    have e2:a=a2:=by
     have:=(Prod.mk.inj q).2;injection this
    subst e2;exact .inr (r.inj hk)
 len:=by simp[X.len]
theorem aI {sa:Addr}{o:Obj}{es:Array (Int×Value)}{ep:Nat}{tb:SetTable}{Q:Unit→Shared→Prop}(ho:s.heap.get? sa=some o)(hx:o.ExactSet)(hd:o.data=.set es ep tb)(hf:tb.fits es.size=true)(hp:tb.plain=true)
 (hled:tb.led = !w.params.followText "set-order") (hn:es.size=5)
 (h:∀h' es' ep' tb',Heap.SameBut sa s.heap h'→SetAt w h' sa es' ep' tb'→RI tb' (es'.toList.map (·.1))→List.Perm es'.toList es.toList→Q () {s with heap:=h'}) :
 wpAny (model prog w) A (setRelay sa (SetTable.grown 5)) Q E s:=by
 obtain⟨es2,t2,order,e1,e2,T2,l2,p2,z2,r2⟩:=Y8 tb es hp hn;unfold setRelay;refine saa (wpAny_setState_of ho hd hf ?_);dsimp only;rw[sal (by decide)];rw[e1];refine saa ?_;have hz:((order.filterMap (es[·]?)).size != es.size)=false:=by rw[e2,z2,hn];rfl
 refine wpAny_of_eq (a:=(es2,t2)) (by
  show(if((order.filterMap (es[·]?)).size != es.size)=true then _ else pure (order.filterMap (es[·]?),t2))=_
  rw[hz,sal sai,e2]) ?_
 refine wpAny_storeSet_of ho hd ?_ (by rw[z2,sizeLine_eq];lia)
 have hg:(s.heap.update sa (Obj.putSet es2 t2)).get? sa=some {o with data:=.set es2 (ep+1) t2}:=by
  have:=saL (Obj.putSet es2 t2) ho (by rw[putSet_of _ _ hd];rfl);rw[putSet_of _ _ hd]at this;exact this
 exact h _ es2 (ep+1) t2 (Heap.SameBut.update s.heap sa _) ⟨⟨_,hg,hx,rfl⟩,T2,l2.trans hled⟩ r2 p2
theorem WG {sa a:Addr}{S:List (List Int)}{es:Array (Int×Value)}{ep:Nat}{tb:SetTable}{k:List Int}{Q:Bool→Shared→Prop}(P:lW prog w s.heap sa S es ep tb)(hk:uJ prog w s.heap k a)(hu:A.units<cLine)(hn:S.length<18)
 (h:∀b h' tk es' ep' tb',s.toks≤tk→Heap.SameBut sa s.heap h'→lW prog w h' sa (if k∈S then S else S++[k]) es' ep' tb'→(∀e∈es'.toList,e∈es.toList∨e.2=.ref a)→Q b {s with heap:=h',toks:=tk}) :
 wpAny (model prog w) A (setAdd sa (.ref a)) Q E s:=by
 have hsz:es.size=S.length:=by rw[←Array.length_toList];exact P.es.len
 unfold setAdd;refine saM ?_;refine saa ((tupleKind (intKind prog w)).pyHash (k:=k) hu hk ?_)
 obtain⟨tk,htk⟩:∃tk,tk=s.toks+(tupleKind (intKind prog w)).draws k:=⟨_,rfl⟩
 have hle:s.toks≤tk:=by lia
 rw[←htk];show wpAny (model prog w) A (setAddHashed sa (.ref a) (yc prog w k)) Q E _;obtain⟨N,hN,he,hf⟩:=bP P.at_.tab (yc prog w k);have P1:lW prog w ({s with toks:=tk}:Shared).heap sa S es ep tb:=P;have hk1:uJ prog w ({s with toks:=tk}:Shared).heap k a:=hk;unfold setAddHashed setAddHashedIn;refine saM (saa (rn P1.at_ ?_));dsimp only;have hbs:byScan (.ref a) es=false:=rfl;rw[sal (by rw[hbs];exact sai)];refine saa ?_;unfold setSearch
 refine cS P1 hk1 hu hN he hf (fun hks=>?_) (fun hks=>?_) N 0 100000 none (by lia) (saT _) (by
  have:SetTable.turns tb.mask≤46:=by unfold SetTable.turns;rcases P.at_.tab.mask with⟨q,_⟩|⟨q,_⟩ <;> lia
  lia) rfl fun hks=>Zr P1 he hf hks
 ·refine sad ?_;rw[sak hks]at h;exact h false s.heap tk es ep tb hle (Heap.SameBut.refl sa s.heap) P fun e he=>.inl he
 ·rw[sal hks]at h;refine saa (rn P1.at_ ?_);dsimp only;obtain⟨p1,p2,p3⟩:=SA P.at_.tab he
  obtain⟨p,hp⟩:∃p,p=(tb.put (x3 tb (yc prog w k) N).j).2:=⟨_,rfl⟩
  rw[←hp]at p1 p2 p3;rw[p1,←hp];obtain⟨o,ho,hx,hd⟩:=P.at_.ex
  obtain⟨tb1,htb⟩:∃x,x=({tb with place:=SetTable.insertAt tb.place p (x3 tb (yc prog w k) N).j}:SetTable):=⟨_,rfl⟩
  have z1:(SetTable.insertAt es p (yc prog w k,.ref a)).size=es.size+1:=by
   have:=(SetTable.insertAt_perm es p (yc prog w k,Value.ref a)).length_eq;simpa using this
  have z2:(SetTable.insertAt tb.place p (x3 tb (yc prog w k) N).j).size=es.size+1:=by
   have:=(SetTable.insertAt_perm tb.place p (x3 tb (yc prog w k) N).j).length_eq;rw[←P.at_.tab.size];simpa using this
  have y1:tb1.plain=true:=by rw[htb];exact P.at_.tab.plain
  have y2:tb1.dummies=#[]:=by rw[htb];exact P.at_.tab.dummies
  have y3:tb1.mask=tb.mask:=by rw[htb]
  have y4:tb1.led=tb.led:=by rw[htb]
  have y5:tb1.place.size=es.size+1:=by rw[htb];exact z2
  have y6:tb1.place.toList.Pairwise (· < ·):=by rw[htb];exact p2
  have y7:RI tb1 ((SetTable.insertAt es p (yc prog w k,.ref a)).toList.map (·.1)):=by
   rw[sbQ,saY,List.map_cons,List.map_take,List.map_drop,htb];exact P.ri.put (by simp[P.at_.tab.size]) P.at_.tab.dummies P.at_.tab.rise hf
  rw[←htb];rw[sak y1];refine saa (cb hk1 ?_);simp only[if_true]
  have hE1:EsP prog w s.heap (SetTable.insertAt es p (yc prog w k,.ref a)).toList (S++[k]):=(P.es.push hk).of_perm (by
   have:=SetTable.insertAt_perm es p (yc prog w k,Value.ref a)
   exact this.trans (by
    first
    |exact(List.perm_append_singleton _ _).symm
    |simp))
  have hsub:∀e∈(SetTable.insertAt es p (yc prog w k,Value.ref a)).toList,e∈es.toList∨e.2=.ref a:=fun e he=>by
   rw[sbQ,sas,san]at he
   rcases he with he|rfl|he
   ·exact .inl (List.mem_of_mem_take he)
   ·exact .inr rfl
   ·exact .inl (List.mem_of_mem_drop he)
  refine saa (wpAny_storeSet_of (s:={s with toks:=tk}) ho hd ?_ (by rw[z1,sizeLine_eq];lia));dsimp only;have sb:=Heap.SameBut.update s.heap sa (Obj.putSet (SetTable.insertAt es p (yc prog w k,.ref a)) tb1)
  have hg:(s.heap.update sa (Obj.putSet (SetTable.insertAt es p (yc prog w k,.ref a)) tb1)).get? sa=some {o with data:=.set (SetTable.insertAt es p (yc prog w k,.ref a)) (ep+1) tb1}:=by
   have:=saL (Obj.putSet (SetTable.insertAt es p (yc prog w k,Value.ref a)) tb1) ho (by rw[putSet_of _ _ hd];rfl);rw[putSet_of _ _ hd]at this;exact this
  by_cases h5:tb.mask=7∧es.size=4
  ·have htf:SetTable.tooFull tb1=true:=by
    unfold SetTable.tooFull SetTable.fill;rw[y5,y2,y3,h5.1,h5.2];rfl
   rw[sak (by rw[htf];rfl)]
   have hf1:tb1.fits (SetTable.insertAt es p (yc prog w k,.ref a)).size=true:=by
    unfold SetTable.fits SetTable.fill;rw[z1,y5,y2,y3,h5.1,h5.2];rfl
   have e5:es.size+1=5:=by lia
   rw[e5];refine saa (aI (s:={s with heap:=s.heap.update sa (Obj.putSet (SetTable.insertAt es p (yc prog w k,.ref a)) tb1),toks:=tk}) hg hx rfl hf1 y1 (y4.trans P.at_.led) (by rw[z1];exact e5) fun h' es' ep' tb' sb2 S2 r2 p2'=>?_);refine sad (h true h' tk es' ep' tb' hle (sb.trans sb2) ⟨S2,r2,?_⟩ fun e he=>hsub e (p2'.mem_iff.mp he));exact(hE1.stay P.at_ (sb.trans sb2)).of_perm p2'
  ·have htf:SetTable.tooFull tb1=false:=by
    unfold SetTable.tooFull SetTable.fill;rw[y5,y2,y3]
    rcases P.at_.tab.mask with⟨q,q2⟩|⟨q,q2⟩ <;> rw[q] <;> simp <;> lia
   rw[sal (by rw[htf];simp)]
   have T1:TabOk tb1 (SetTable.insertAt es p (yc prog w k,.ref a)).size:=⟨y1,y2,by rw[z1];exact y5,y6,by
    rw[z1,y3]
    rcases P.at_.tab.mask with⟨q,q2⟩|⟨q,q2⟩
    ·exact .inl ⟨q,by lia⟩
    ·exact .inr ⟨q,by lia⟩⟩
   exact sad (h true _ tk _ (ep+1) tb1 hle sb ⟨P.at_.store T1 y4,y7,hE1.stay P.at_ sb⟩ hsub)
end
noncomputable def wZ (ks:List (List Int)):List (List Int):=ks.foldl (fun σ k=>if k∈σ then σ else σ++[k]) []
theorem lr (ks:List (List Int))(k:List Int):wZ (ks++[k])=if k∈wZ ks then wZ ks else wZ ks++[k]:=by
 unfold wZ;rw[scl];rfl
theorem Xn (ks:List (List Int))(i:Nat)(h:i<ks.length):wZ (ks.take (i+1))=if ks[i]∈wZ (ks.take i)then wZ (ks.take i)else wZ (ks.take i)++[ks[i]]:=by
 rw[sbJ h,lr]
theorem Yn (ks:List (List Int)):(wZ ks).length≤ks.length:=by
 have:∀(l σ:List (List Int)),(l.foldl (fun σ k=>if k∈σ then σ else σ++[k]) σ).length≤σ.length+l.length:=by
  intro l
  induction l with
  |nil=>intro σ;simp
  | cons k l ih=>
    intro σ;rw[List.foldl_cons];refine sbq (ih _) ?_
    split <;> simp <;> lia
 have q:=this ks [];simp only[List.length_nil,scy]at q;exact q
theorem uJ.at {prog:Program}{w:World}{h h':Heap}{k:List Int}{a:Addr}(x:uJ prog w h k a)(hk:∀o,h.get? a=some o→h'.get? a=some o):uJ prog w h' k a:=by
 obtain⟨o,its,n,ho,r⟩:=x;exact⟨o,its,n,hk o ho,r⟩
theorem lW.keep {prog:Program}{w:World}{h h':Heap}{sa B:Addr}{S:List (List Int)}{es:Array (Int×Value)}{ep:Nat}{tb:SetTable}(P:lW prog w h sa S es ep tb)(hB:∀e∈es.toList,∀a,e.2=.ref a→a<B)
 (hk:∀b o,b=sa∨b<B→h.get? b=some o→h'.get? b=some o):lW prog w h' sa S es ep tb where
 at_:=P.at_.keep fun o e=>hk sa o (.inl rfl) e
 ri:=P.ri
 es:={
  all:=fun e he=>let ⟨k,a,q,r⟩:=P.es.all e he;⟨k,a,q,r.at fun o eo=>hk a o (.inr (hB e he a (by rw[q]))) eo⟩
  mem:=fun k=>by
   rw[P.es.mem k];constructor
   ·rintro⟨e,he,a,q,r⟩;exact⟨e,he,a,q,r.at fun o eo=>hk a o (.inr (hB e he a (by rw[q]))) eo⟩
   ·rintro⟨e,he,a,q,r⟩;obtain⟨k2,a2,q2,r2⟩:=P.es.all e he
    have e2:a2=a:=by
     have:=(Prod.mk.inj (q2.symm.trans q)).2;injection this
    subst e2;have:k2=k:=(r2.at fun o eo=>hk a2 o (.inr (hB e he a2 (by rw[q2]))) eo).inj r;subst this;exact⟨e,he,a2,q,r2⟩
  len:=P.es.len}
section
variable {prog:Program}{w:World}{A:Around}{R:Result→Shared→Prop}{I:Addr}{fp wr:List Addr}{G:Array GenState→Array GenState→Prop}{P:Nat→Value→Prop}{St:Nat→Shared→Prop}
theorem ek {B:Addr}{ks:List (List Int)}{as:List Addr}(W:WalksS prog w A.in1 I fp wr G ks.length P St)(S:Addr)(hSf:S∉fp)(hSB:B≤S)(hwr:∀b∈wr,B≤b)(hval:∀i v,P i v→∃a,as[i]?=some a∧v=.ref a)(hlt:∀a∈as,a<B)(hlen:as.length=ks.length)(hb:ks.length<18)(hu:A.in1.units<cLine) :
 ∀ (k i:Nat) (s:Shared) (es:Array (Int×Value)) (ep:Nat) (tb:SetTable),ks.length - i=k→i≤ks.length→St i s→lW prog w s.heap S (wZ (ks.take i)) es ep tb→(∀e∈es.toList,∀a,e.2=.ref a→a<B)→(∀(j:Nat) (a:Addr) (k:List Int),as[j]?=some a→ks[j]?=some k→uJ prog w s.heap k a) →
   (∀s' es' ep' tb',Moved (S::wr) G s s'→lW prog w s'.heap S (wZ ks) es' ep' tb'→R (.ok (.ret .none)) s') →
   codeAny (model prog w) A (.builtin "set.update.loop" ⟨[.ref S,.ref I],[]⟩) R s:=by
 have hSw:S∉wr:=fun h=>hSf (W.sub _ h);have hsub:∀b∈wr,b∈S::wr:=fun b hb=>sao _ hb;have low:∀b,b<B→b∉wr:=fun b h1 h2=>absurd (hwr b h2) (Nat.not_le.mpr h1);intro k
 induction k with
 | zero=>
   intro i s es ep tb hk hi hst hS hB hks hR;have hin:i=ks.length:=by lia
   subst hin;refine sbA F.entry_set_update_loop ?_;rw[sbv F.plain_set_update_loop _];show wpAny _ A.in1 (pyNext (.ref I) >>= _) _ _ s;refine saa (W.done s _ _ hst fun s' hm=>?_);show wpAny _ A.in1 (ret Value.none) _ _ s';rw[List.take_length]at hS
   exact sad (hR s' es ep tb (hm.mono hsub) (hS.keep hB fun b o hb ho=>hm.heap b o (by
    rcases hb with rfl|hb
    ·exact hSw
    ·exact low b hb) ho))
 | succ k ih=>
   intro i s es ep tb hk hi hst hS hB hks hR;have hlt2:i<ks.length:=by lia
   refine sbA F.entry_set_update_loop ?_;rw[sbv F.plain_set_update_loop _];show wpAny _ A.in1 (pyNext (.ref I) >>= _) _ _ s;refine saa (W.item i s _ _ hlt2 hst fun v s' hP hst' hm=>?_);obtain⟨a,ha,rfl⟩:=hval i v hP;have haB:=hlt a (saA ha)
   have keep:∀b o,b=S∨b<B→s.heap.get? b=some o→s'.heap.get? b=some o:=fun b o hb ho=>hm.heap b o (by
    rcases hb with rfl|hb
    ·exact hSw
    ·exact low b hb) ho
   have hS':=hS.keep hB keep;have hks':∀(j:Nat) (a:Addr) (k:List Int),as[j]?=some a→ks[j]?=some k→uJ prog w s'.heap k a:=fun j a k h1 h2=>(hks j a k h1 h2).at fun o ho=>keep a o (.inr (hlt a (saA h1))) ho;show wpAny _ A.in1 (holding [Value.ref a] (setAdd S (.ref a)) >>= _) _ _ s';refine saa (saM ?_);have hl:=Yn (ks.take i);rw[sbn]at hl;refine WG hS' (hks' i a _ ha (sae hlt2)) hu (by lia) fun b h' tk es' ep' tb' htk hsb hS2 hsub2=>?_;rw[←Xn ks i hlt2]at hS2
   have hB2:∀e∈es'.toList,∀a,e.2=.ref a→a<B:=fun e he a2 h2=>by
    rcases hsub2 e he with h3|h3
    ·exact hB e h3 a2 h2
    ·rw[h3]at h2;have:a=a2:=by injection h2
     rw[←this];exact haB
   refine sad ⟨scp F.plain_set_update_loop _,ih (i+1) _ es' ep' tb' (by lia) hlt2 (W.frame _ s' _ _ hst' htk fun b hb o e=>?_) hS2 hB2 (fun j a k h1 h2=>(hks' j a k h1 h2).at fun o ho=>?_) fun s'' es'' ep'' tb'' hm'' hS''=>?_⟩
   ·rw[hsb.2 b (fun h:b=S=>hSf (by rw[←h];exact hb))];exact e
   ·have haS:a≠S:=fun z=>by
     have:=sau (hlt a (saA h1)) hSB;rw[z]at this;exact sby _ this
    rw[hsb.2 a haS];exact ho
   ·refine hR s'' es'' ep'' tb'' (Moved.trans W.gtrans ((hm.mono hsub).then_heap htk fun b o hb e=>?_) hm'') hS'';rw[hsb.2 b (fun h:b=S=>hb (by rw[h];exact saw))];exact e
end
section
variable {prog:Program}{w:World}{A:Around}{E:Value→Shared→Prop}{s:Shared}
theorem XX {l:Addr}{items:Array Value}{ks:List (List Int)}{as:List Addr}{Q:Value→Shared→Prop}
 (hh:A.handled=none) (hu:A.units+10<cLine) (hl:s.heap.IsList l items) (hi:items.toList=as.map Value.ref) (hlen:as.length=ks.length) (hkeys:∀(j:Nat) (a:Addr) (k:List Int),as[j]?=some a→ks[j]?=some k→uJ prog w s.heap k a) (hb:ks.length<18)
 (h:∀(h':Heap) (tk:Nat) es ep tb,s.toks≤tk→lW prog w h' s.heap.objs.size (wZ ks) es ep tb →
  (∀b o,b<s.heap.objs.size→s.heap.get? b=some o→h'.get? b=some o)→Q (.ref s.heap.objs.size) {s with heap:=h',toks:=tk}) :
 wpAny (model prog w) A (call (.type "set") [.ref l]) Q E s:=by
 obtain⟨c,tl,hmro⟩:=scA.mro;have hmade:=scA.made;have hsub:=scA.sub;refine scJ (codeAny_of_tree ?_);show wpAny _ _ (callAny (.type "set") _) _ _ _;refine sad ⟨Code.quiet_builtin _ (by decide +kernel),sbA F.entry_type_call ?_⟩;rw[Around.under_plain (weight_type_call_type "set" [.ref l] []) rfl];have h1:=scA.notType;have h2:=scA.canCreate;have hct:=F.typeCall_set_1 (.ref l)
 repeat (any_goals (first|assumption|wp_step))
 have hlen2:items.size=ks.length:=by rw[←Array.length_toList,hi,sac];exact hlen
 generalize hled:(!w.params.followText "set-order")=led;refine scE (WD (.ref l) (E:=E) (Q₁:=fun obj s₁=>obj=.ref s.heap.objs.size∧s₁={s with heap:=s.heap.push {cls:=.type "set",dict:=none,data:=.set #[] 0 (.fresh 0 0 led)}}) (by rw[hled];exact⟨rfl,rfl⟩)) fun r s₁ hr=>?_
 cases r with
 |error e=>exact hr
 | ok fl=>
   cases fl with
   | ret obj=>
     obtain⟨rfl,rfl⟩:=hr;have hS:(s.heap.push {cls:=.type "set",dict:=none,data:=.set #[] 0 (.fresh 0 0 led)}).get? s.heap.objs.size=some {cls:=.type "set",dict:=none,data:=.set #[] 0 (.fresh 0 0 led)}:=saq _ rfl
     have hT:Shared.TypeIs {s with heap:=s.heap.push {cls:=.type "set",dict:=none,data:=.set #[] 0 (.fresh 0 0 led)}} (.ref s.heap.objs.size) "set" :=⟨_,hS,rfl⟩
     have hli:=scA.init.lookup;have hbi:=scA.init.bind (.ref s.heap.objs.size)
     repeat (any_goals (first|assumption|wp_step))
     refine scE (scm (R:=wants (fun r s₂=>r=.none∧∃h' tk es ep tb,s₂={s with heap:=h',toks:=tk}∧s.toks≤tk∧lW prog w h' s.heap.objs.size (wZ ks) es ep tb ∧
      (∀b o,b<s.heap.objs.size→s.heap.get? b=some o→h'.get? b=some o)) E) scA.init.plain F.entry_set_init (check_set_init_1 hT ?_)) fun r₂ s₂ hr₂ =>?_
     ·obtain⟨ol,hol,hcl,nl,hdl⟩:=hl;obtain⟨ocls,odict,odata,oslots⟩:=ol;simp only at hcl hdl;subst hcl;subst hdl;have hol':(s.heap.push {cls:=.type "set",dict:=none,data:=.set #[] 0 (.fresh 0 0 led)}).get? l=some {cls:=.type "list",dict:=odict,data:=.seq items nl,slots:=oslots}:=sab _ hol;have hsls:=F.sub_list_set;have hslf:=F.sub_list_frozenset;have hne:(Value.type "list" == Value.type "dict")=false:=by decide
      have hl1:(s.heap.push {cls:=.type "set",dict:=none,data:=.set #[] 0 (.fresh 0 0 led)}).IsList l items:=⟨_,hol',rfl,nl,rfl⟩
      unfold Builtin.«set.__init__» noKeywords Builtin.Frozenset.updateFrom;generalize hPI:pyIter=PI
      wp_walk
      subst hPI;refine sbI hl1 ?_;refine saa (wpAny_runValue ?_);have hlS:l<s.heap.objs.size:=sag hol;have hh3:A.in1.in1.in1.handled=none:=by simp[hh]
      have hneI:l≠(s.heap.push {cls:=.type "set",dict:=none,data:=.set #[] 0 (.fresh 0 0 led)}).objs.size:=by
       rw[saU];exact saz (sbr hlS)
      have hSf:s.heap.objs.size∉[(s.heap.push {cls:=.type "set",dict:=none,data:=.set #[] 0 (.fresh 0 0 led)}).objs.size,l]:=by
       rw[saU];simp only[san,saf,sbF,or_false,not_or];exact⟨saz (Nat.lt_succ_self _),sbH hlS⟩
      have hval:∀(i:Nat) (v:Value),items[i]?=some v→∃a,as[i]?=some a∧v=.ref a:=fun i v hv=>by
       rw[←saF,hi,sar]at hv
       cases q:as[i]? with
       |none=>rw[q]at hv;cases hv
       |some a=>rw[q]at hv;cases hv;exact⟨a,rfl,rfl⟩
      have W:=(Walks.list (prog:=prog) (w:=w) hh3 (s.heap.push {cls:=.type "set",dict:=none,data:=.set #[] 0 (.fresh 0 0 led)}).objs.size l hneI items).toS;rw[hlen2]at W
      have hlt:∀a∈as,a<s.heap.objs.size:=fun a ha=>by
       obtain⟨j,hj⟩:=saQ ha;have hjl:j<ks.length:=by rw[←hlen];exact(saj.mp hj).1
       obtain⟨o,_,_,ho,_⟩:=hkeys j a _ hj (sae hjl);exact sag ho
      have hA:A.in1.in1.in1.units<cLine:=by
       show A.units+1+1+1<cLine;lia
      refine ek (B:=s.heap.objs.size) W s.heap.objs.size hSf (Nat.le_refl _) (fun b hb=>?hwr) hval hlt hlen hb hA (ks.length - 0) 0 _ #[] 0 (.fresh 0 0 led) (by lia) (saT _)
       ⟨⟨_,saq _ rfl,rfl,rfl⟩,(hl1.push _)⟩ ?hS0 (fun e he=>by simp at he) (fun j a k h1 h2=>?hk0) ?hR
      case hwr=>
       have:b=(s.heap.push {cls:=.type "set",dict:=none,data:=.set #[] 0 (.fresh 0 0 led)}).objs.size:=by simpa using hb
       rw[this,saU];exact Nat.le_succ _
      case hk0=>
       obtain⟨o,its,n,ho,r⟩:=hkeys j a k h1 h2;exact⟨o,its,n,sab _ (sab _ ho),r⟩
      case hS0=>
       have hget:((s.heap.push {cls:=.type "set",dict:=none,data:=.set #[] 0 (.fresh 0 0 led)}).push {cls:=.type "list_iterator",data:=.fields #[.ref l,.int 0 0]}).get? s.heap.objs.size
        = some {cls:=.type "set",dict:=none,data:=.set #[] 0 (.fresh 0 0 led)}:=sab _ hS
       exact⟨⟨⟨_,hget,⟨rfl,rfl,rfl⟩,rfl⟩,XF led,hled.symm⟩,RI.nil,⟨fun e he=>by simp at he,fun k=>by simp[wZ],by simp[wZ]⟩⟩
      case hR=>
       intro s' es ep tb hm hS';obtain⟨h',g',d',tk',os'⟩:=s';have eg:g'=s.gens:=hm.gens;have ed:d'=s.drawn:=hm.drawn;have eo:os'=s.os:=hm.os;have etk:s.toks≤tk':=hm.toks;subst eg;subst ed;subst eo;show wpAny _ _ _ _ _ _;refine sad ?_;show wpAny _ _ (ret Value.none) _ _ _;refine sad ⟨rfl,h',tk',es,ep,tb,rfl,etk,hS',fun b o hb e=>?_⟩;have hb1:b≠s.heap.objs.size:=saz hb
       have hb2:b≠(s.heap.push {cls:=.type "set",dict:=none,data:=.set #[] 0 (.fresh 0 0 led)}).objs.size:=by
        rw[saU];exact saz (sbr hb)
       exact hm.heap b o (by simp only[san,saf,sbF,or_false,not_or];exact⟨hb1,hb2⟩) (sab _ (sab _ e))
     ·cases r₂ with
      |error e=>exact hr₂
      | ok fl₂ =>
        cases fl₂ with
        | ret r=>
          obtain⟨rfl,h',tk,es,ep,tb,rfl,etk,hS',hk'⟩:=hr₂
          repeat (any_goals (first|assumption|wp_step))
          exact h _ _ _ _ _ etk hS' hk'
        |_=>exact hr₂.elim
   |_=>exact hr.elim
end
end DL
namespace DL
open PySem PySem.Spec PyProof.Rows L2 PySem.W
structure LtOk (n:Nat)(lt:Nat→Nat→Bool):Prop where
 irr:∀i,lt i i=false
 tr:∀i j k,lt i j=true→lt j k=true→lt i k=true
 tot:∀i j,i<n→j<n→i≠j→lt i j=true∨lt j i=true
noncomputable def uK {α:Type}(n:Nat)(lt:Nat→Nat→Bool)(Q:α→Prop):KasT α→Prop
 | .ret a=>Q a
 | .ask i j k=>i<n∧j<n∧uK n lt Q (k (lt i j))
theorem uK.mono {α:Type}{n:Nat}{lt:Nat→Nat→Bool}{Q Q':α→Prop}(h:∀a,Q a→Q' a):∀(t:KasT α),uK n lt Q t→uK n lt Q' t
 | .ret a,g=>h a g
 | .ask i j k,g=>⟨g.1,g.2.1,uK.mono h _ g.2.2⟩
theorem uK.bind {α β:Type}{n:Nat}{lt:Nat→Nat→Bool}{Q:α→Prop}{Q':β→Prop}{f:α→KasT β}(h:∀a,Q a→uK n lt Q' (f a)):∀(t:KasT α),uK n lt Q t→uK n lt Q' (t.bind f)
 | .ret a,g=>h a g
 | .ask i j k,g=>⟨g.1,g.2.1,uK.bind h _ g.2.2⟩
section
variable {n:Nat}{lt:Nat→Nat→Bool}
noncomputable def yX (n:Nat)(p:Array Nat):Prop:=p.toList.Perm (List.range n)
theorem yX.size {p:Array Nat}(h:yX n p):p.size=n:=by
 have:=List.Perm.length_eq h;simpa using this
theorem yX.get {p:Array Nat}(h:yX n p){i:Nat}(hi:i<n):p[i]?=some (p.getD i 0):=by
 have hs:=h.size;have:i<p.size:=by lia
 simp[Array.getD,this]
theorem yX.bd {p:Array Nat}(h:yX n p){i:Nat}(hi:i<n):p.getD i 0<n:=by
 have h1:=h.get hi;rw[←saF]at h1;exact sba.mp ((List.Perm.mem_iff h).mp (saA h1))
theorem yX.ne {p:Array Nat}(h:yX n p){i j:Nat}(hi:i<n)(hj:j<n)(hij:i≠j):p.getD i 0≠p.getD j 0:=by
 intro e;have h1:=h.get hi;have h2:=h.get hj;rw[←saF]at h1 h2;have hnd:p.toList.Nodup:=(List.Perm.nodup_iff h).mpr List.nodup_range;rw[←e]at h2;have hl:i<p.toList.length:=(saj.mp h1).1;exact hij ((List.getElem?_inj hl hnd).mp (h1.trans h2.symm))
noncomputable def ar (lt:Nat→Nat→Bool)(p:Array Nat)(m:Nat):Prop:=∀i j,i<j→j<m→lt (p.getD i 0) (p.getD j 0)=true
noncomputable def RG (lt:Nat→Nat→Bool)(p:Array Nat)(m:Nat):Prop:=∀i j,i<j→j<m→lt (p.getD j 0) (p.getD i 0)=true
theorem ar.one (p:Array Nat):ar lt p 1:=fun i j h1 h2=>by lia
theorem ar.succ (O:LtOk n lt){p:Array Nat}{m:Nat}(h:ar lt p m)(hm:1≤m)(hl:lt (p.getD (m - 1) 0) (p.getD m 0)=true):ar lt p (m+1):=fun i j h1 h2=>by
 by_cases hj:j<m
 ·exact h i j h1 hj
 ·have:j=m:=by lia
  subst this;by_cases hi:i=j - 1
  ·rw[hi];exact hl
  ·exact O.tr _ _ _ (h i (j - 1) (by lia) (by lia)) hl
theorem RG.succ (O:LtOk n lt){p:Array Nat}{m:Nat}(h:RG lt p m)(hm:1≤m)(hl:lt (p.getD m 0) (p.getD (m - 1) 0)=true):RG lt p (m+1):=fun i j h1 h2=>by
 by_cases hj:j<m
 ·exact h i j h1 hj
 ·have:j=m:=by lia
  subst this;by_cases hi:i=j - 1
  ·rw[hi];exact hl
  ·exact O.tr _ _ _ hl (h i (j - 1) (by lia) (by lia))
theorem other (O:LtOk n lt){p:Array Nat}(hp:yX n p){i j:Nat}(hi:i<n)(hj:j<n)(hij:i≠j)(hf:lt (p.getD i 0) (p.getD j 0)=false):lt (p.getD j 0) (p.getD i 0)=true:=by
 rcases O.tot _ _ (hp.bd hi) (hp.bd hj) (hp.ne hi hj hij)with h|h
 ·rw[h]at hf;cases hf
 ·exact h
theorem iE (O:LtOk n lt){p:Array Nat}(hp:yX n p):∀(f m:Nat),m+f=n→1≤m→ar lt p m→uK n lt (fun r=>m≤r∧r≤n∧ar lt p r∧(r=n∨lt (p.getD r 0) (p.getD (r - 1) 0)=true)) (kas_asc p f m)
 | 0,m,e,hm,hs=>⟨Nat.le_refl _,by lia,hs,.inl (by lia)⟩
 | f+1,m,e,hm,hs=>by
   unfold kas_asc;refine⟨hp.bd (by lia),hp.bd (by lia),?_⟩;dsimp only
   cases hl:lt (p.getD m 0) (p.getD (m - 1) 0)with
   |true=>exact⟨Nat.le_refl _,by lia,hs,.inr hl⟩
   | false=>
     rw[sal sai]
     exact(iE O hp f (m+1) (by lia) (by lia) (hs.succ O hm (other O hp (by lia) (by lia) (by lia) hl))).mono fun r hr=>⟨by lia,hr.2⟩
theorem fM (O:LtOk n lt){p:Array Nat}(hp:yX n p):∀(f m:Nat),m+f=n→1≤m→RG lt p m→uK n lt (fun r=>r.1=p∧r.2.2=0∧m≤r.2.1∧r.2.1≤n∧RG lt p r.2.1) (kas_desc f p m 0)
 | 0,m,e,hm,hs=>⟨rfl,rfl,Nat.le_refl _,by show m≤n;lia,hs⟩
 | f+1,m,e,hm,hs=>by
   unfold kas_desc;refine⟨hp.bd (by lia),hp.bd (by lia),?_⟩;dsimp only
   cases hl:lt (p.getD m 0) (p.getD (m - 1) 0)with
   | true=>
     rw[sak rfl,sal (by lia)]
     exact(fM O hp f (m+1) (by lia) (by lia) (hs.succ O hm hl)).mono fun r hr=>⟨hr.1,hr.2.1,by lia,hr.2.2.2⟩
   | false=>
     rw[sal sai];refine⟨hp.bd (by lia),hp.bd (by lia),?_⟩;dsimp only;rw[other O hp (show m<n by lia) (show m - 1<n by lia) (by lia) hl,sak rfl];exact⟨rfl,rfl,Nat.le_refl _,by show m≤n;lia,hs⟩
theorem jS {p:Array Nat}(hp:yX n p)(i j:Nat):yX n (kas_rev p i j):=(mirror_perm p i j _).toList.trans hp
theorem UG {p:Array Nat}(hp:yX n p){m:Nat}(hm:m≤n)(h:RG lt p m):ar lt (kas_rev p 0 m) m:=fun i j h1 h2=>by
 have hs:=hp.size
 have g:∀k,k<m→(kas_rev p 0 m).getD k 0=p.getD (m - 1 - k) 0:=fun k hk=>by
  have:=getElem?_mirror_all (xs:=p) (i:=0) (j:=m) (by lia) k;have e:=(jS hp 0 m).get (show k<n by lia);unfold kas_rev at e ⊢;rw[this,sak ⟨saT _,hk⟩]at e;have e2:=hp.get (show 0+m - 1 - k<n by lia);rw[e2]at e;rw[←saE e];congr 1;lia
 rw[g i (by lia),g j h2];exact h (m - 1 - j) (m - 1 - i) (by lia) (by lia)
theorem Zo (O:LtOk n lt){p:Array Nat}(hp:yX n p){m:Nat}(h1:1≤m)(hm:m≤n)(hd:RG lt p m):uK n lt (fun r=>1≤r.1∧r.1≤n∧yX n r.2∧ar lt r.2 r.1) (kas_tail3 m n p):=by
 unfold kas_tail3;refine uK.bind (fun r hr=>?_) _ (iE O (jS hp 0 m) (n - m) m (by lia) h1 (UG hp hm hd));exact⟨by show 1≤r;lia,hr.2.1,jS hp 0 m,hr.2.2.1⟩
theorem Zp (O:LtOk n lt){p:Array Nat}(hp:yX n p)(h2:2≤n):uK n lt (fun r=>1≤r.1∧r.1≤n∧yX n r.2∧ar lt r.2 r.1) (kas_count n p):=by
 unfold kas_count;refine uK.bind (fun r hr=>?_) _ (iE O hp (n - 1) 1 (by lia) (Nat.le_refl _) (ar.one p));obtain⟨r1,r2,r3,r4⟩:=hr;by_cases e:r=n
 ·rw[sak (by simpa using e)];exact⟨r1,r2,hp,r3⟩
 ·rw[sal (by simpa using e)];have hl:lt (p.getD r 0) (p.getD (r - 1) 0)=true:=r4.resolve_left e;by_cases hr1:r>1
  ·rw[sak hr1];refine⟨hp.bd (by lia),hp.bd (by lia),?_⟩;dsimp only;rw[r3 0 (r - 1) (by lia) (by lia),sak rfl];exact⟨r1,r2,hp,r3⟩
  ·rw[sal hr1];have:r=1:=by lia
   subst this;unfold kas_descPart;refine uK.bind (fun q hq=>?_) _ (fM O hp (n - (1+1)) (1+1) (by lia) (by lia) fun i j h1 h2=>?_)
   ·obtain⟨q1,q2,q3,q4,q5⟩:=hq;rw[sal (by lia),q1];exact Zo O hp (by lia) q4 q5
   ·have:i=0:=by lia
    have:j=1:=by lia
    subst i;subst j;exact hl
theorem nu (O:LtOk n lt){p:Array Nat}(hp:yX n p){k:Nat}(hk:k<n)(hs:ar lt p k):∀(f l r:Nat),r - l≤f→l≤r→r≤k→(∀i,i<l→lt (p.getD i 0) (p.getD k 0)=true)→(∀i,r≤i→i<k→lt (p.getD k 0) (p.getD i 0)=true) →
 uK n lt (fun q=>q≤k∧(∀i,i<q→lt (p.getD i 0) (p.getD k 0)=true)∧∀i,q≤i→i<k→lt (p.getD k 0) (p.getD i 0)=true) (kas_place p k f l r)
 | 0,l,r,hf,hl,hr,h1,h2=>by
   have:l=r:=by lia
   subst this;exact⟨hr,h1,h2⟩
 | f+1,l,r,hf,hl,hr,h1,h2=>by
   unfold kas_place;by_cases hge:l≥r
   ·rw[sak hge];have:l=r:=by lia
    subst this;exact⟨hr,h1,h2⟩
   ·rw[sal hge];have hmk:(l+r) / 2<k:=by lia
    refine⟨hp.bd hk,hp.bd (by lia),?_⟩;dsimp only
    cases hc:lt (p.getD k 0) (p.getD ((l+r) / 2) 0)with
    | true=>
      rw[sak rfl];refine nu O hp hk hs f l ((l+r) / 2) (by lia) (by lia) (by lia) h1 fun i hi hik=>?_;by_cases e:i=(l+r) / 2
      ·rw[e];exact hc
      ·exact O.tr _ _ _ hc (hs _ i (by lia) hik)
    | false=>
      rw[sal sai];have hl2:=other O hp hk (show(l+r) / 2<n by lia) (by lia) hc;refine nu O hp hk hs f ((l+r) / 2+1) r (by lia) (by lia) hr (fun i hi=>?_) h2;by_cases e:i=(l+r) / 2
      ·rw[e];exact hl2
      ·exact O.tr _ _ _ (hs i ((l+r) / 2) (by lia) hmk) hl2
theorem bM (O:LtOk n lt):∀(f:Nat) (p:Array Nat) (k:Nat),k+f=n→yX n p→ar lt p k→uK n lt (fun q=>yX n q∧ar lt q n) (kas_bin f p k)
 | 0, p, k, e, hp, hs => ⟨hp, by have : k = n :=by lia
                                 subst this;exact hs⟩
 | f+1,p,k,e,hp,hs=>by
   unfold kas_bin;have hk:k<n:=by lia
   refine uK.bind (fun l hl=>?_) _ (nu O hp hk hs k 0 k (by lia) (saT _) (Nat.le_refl _) (fun i hi=>by lia) (fun i h1 h2=>by lia));obtain⟨l1,l2,l3⟩:=hl;have hp2:yX n (bubble p k (k - l)):=(bubble_perm p k (k - l)).toList.trans hp;refine bM O f (bubble p k (k - l)) (k+1) (by lia) hp2 fun i j hij hj=>?_;have hsz:=hp.size
   have g:∀x,x<n→(bubble p k (k - l)).getD x 0=if x=l then p.getD k 0 else if l<x∧x≤k then p.getD (x - 1) 0 else p.getD x 0:=fun x hx=>by
    have e1:=hp2.get hx;have e2:=getElem?_bubble (xs:=p) (src:=k) (by lia) (k - l) (by lia) x;rw[e1,show k - (k - l)=l by lia]at e2;split at e2
    ·rename_i hh;rw[sak hh];rw[hp.get hk]at e2;exact saE e2
    ·rename_i hh;rw[sal hh];split at e2
     ·rename_i hh2;rw[sak hh2];rw[hp.get (show x - 1<n by lia)]at e2;exact saE e2
     ·rename_i hh2;rw[sal hh2];rw[hp.get hx]at e2;exact saE e2
   rw[g i (by lia),g j (by lia)];by_cases i1:i=l
   ·rw[sak i1];have hj1:¬j=l:=by lia
    rw[sal hj1,sak (by lia)];exact l3 (j - 1) (by lia) (by lia)
   ·rw[sal i1];by_cases i2:l<i∧i≤k
    ·rw[sak i2,sal (by lia),sak (by lia)];exact hs (i - 1) (j - 1) (by lia) (by lia)
    ·rw[sal i2];by_cases j1:j=l
     ·rw[sak j1];exact l2 i (by lia)
     ·rw[sal j1];by_cases j2:l<j∧j≤k
      ·rw[sak j2];by_cases e3:i=j - 1
       ·lia
       ·exact hs i (j - 1) (by lia) (by lia)
      ·rw[sal j2];exact hs i j hij (by lia)
theorem Xy (O:LtOk n lt)(h2:2≤n):uK n lt (fun q=>yX n q∧ar lt q n) (kas_sort n):=by
 unfold kas_sort;refine uK.bind (fun r hr=>?_) _ (Zp O (p:=List.toArray (List.range n)) (by show((List.range n).toArray).toList.Perm _;exact sca _) h2);obtain⟨r1,r2,r3,r4⟩:=hr;by_cases h:r.1<n
 ·rw[sak h,show max r.1 1=r.1 by lia];exact bM O (n - r.1) r.2 r.1 (by lia) r3 r4
 ·rw[sal h];have:r.1=n:=by lia
  rw[this]at r4;exact⟨r3,r4⟩
end
theorem uK.wp {α:Type}{n:Nat}{lt:Nat→Nat→Bool}{Q:α→Prop}{R:α→Shared→Prop}{s:Shared}{cmp:Nat→Nat→(Bool→Shared→Prop)→Shared→Prop}(hc:∀i j C,i<n→j<n→C (lt i j) s→cmp i j C s)(hR:∀a,Q a→R a s):∀(t:KasT α),uK n lt Q t→t.kasWp cmp R s
 | .ret a,g=>hR a g
 | .ask i j k,g=>hc i j _ g.1 g.2.1 (uK.wp hc hR _ g.2.2)
noncomputable def vt (h:Heap)(a:Addr)(p:Int×Int):Prop:=∃o n t u,h.get? a=some o∧o.cls=.type "tuple" ∧ o.data=.seq #[.int p.1 t,.int p.2 u] n
theorem vt.keep {h h':Heap}{a:Addr}{p:Int×Int}(x:vt h a p)(k:∀o,h.get? a=some o→h'.get? a=some o):vt h' a p:=by
 obtain⟨o,n,t,u,q,r⟩:=x;exact⟨o,n,t,u,k o q,r⟩
noncomputable def r8 (p:Int×Int):List Int:=[p.1,p.2]
theorem vt.key {prog:Program}{w:World}{h:Heap}{a:Addr}{p:Int×Int}(x:vt h a p):uJ prog w h (r8 p) a:=by
 obtain⟨o,n,t,u,q,c,d⟩:=x;exact⟨o,_,n,q,c,d,.cons (intKind_is _ _ _ _) (.cons (intKind_is _ _ _ _) .nil)⟩
noncomputable def oY (p q:Int×Int):Bool:=decide (p.1<q.1∨(p.1=q.1∧p.2<q.2))
theorem Yg (p:Int×Int):oY p p=false:=by simp[oY]
theorem aS {p q r:Int×Int}(h1:oY p q=true)(h2:oY q r=true):oY p r=true:=by
 simp only[oY,saD]at *;lia
theorem Yf {p q:Int×Int}(h:p≠q):oY p q=true∨oY q p=true:=by
 obtain⟨a,b⟩:=p;obtain⟨c,d⟩:=q;simp only[oY,saD];by_cases e:a=c
 ·subst e;have:b≠d:=fun z=>h (by rw[z]);lia
 ·lia
theorem Zb {ps:List (Int×Int)}(hn:ps.Nodup):LtOk ps.length (fun i j=>oY (ps.getD i (0,0)) (ps.getD j (0,0))) where
 irr:=fun i=>Yg _
 tr:=fun i j k h1 h2=>aS h1 h2
 tot:=fun i j hi hj hij=>Yf fun e=>by
  have e1:ps[i]?=some (ps.getD i (0,0)):=by simp[hi]
  have e2:ps[j]?=some (ps.getD j (0,0)):=by simp[hj]
  rw[←e]at e2;exact hij ((List.getElem?_inj hi hn).mp (e1.trans e2.symm))
section
variable {prog:Program}{w:World}{A:Around}{E:Value→Shared→Prop}{s:Shared}
theorem V8 {a b:Addr}{p q:Int×Int}{C:Bool→Shared→Prop}(ha:vt s.heap a p)(hb:vt s.heap b q)(h:C (oY p q) s):wpAny (model prog w) A (keyLt' (tuples' true) (.ref a) (.ref b)) C E s:=by
 obtain⟨o1,n1,t1,u1,q1,_,d1⟩:=ha;obtain⟨o2,n2,t2,u2,q2,_,d2⟩:=hb;refine kat_lt q1 d1 q2 d2 (kat_cons ((intKind prog w).eqBool (intKind_is _ _ _ _) (intKind_is _ _ _ _) (kat_go (fun e1=>kat_yes (kat_cons ((intKind prog w).eqBool (intKind_is _ _ _ _) (intKind_is _ _ _ _) (kat_go (fun e2=>kat_yes (kat_nil ?_)) fun e2=>kat_no ?_)))) fun e1=>kat_no ?_)))
 ·have f1:p.1=q.1:=by simpa using e1
  have f2:p.2=q.2:=by simpa using e2
  have:oY p q=decide ((2:Nat)<2):=by simp[oY,f1,f2]
  rw[this]at h;exact h
 ·have f1:p.1=q.1:=by simpa using e1
  refine kat_one _ _ (lt_int ?_);have:oY p q=decide (p.2<q.2):=by simp[oY,f1]
  rw[this]at h;exact h
 ·have f1:¬p.1=q.1:=by simpa using e1
  refine oneLt_int ?_;have:oY p q=decide (p.1<q.1):=by simp[oY,f1]
  rw[this]at h;exact h
theorem fO:∀{as:List Addr} {ps:List (Int×Int)} {h:Heap},as.length=ps.length→(∀(i:Nat) a p,as[i]?=some a→ps[i]?=some p→vt h a p)→∃fs,KatTups h (as.map Value.ref) fs∧fs.length=as.length∧∀v∈fs,∃i t,v=Value.int i t
 |[],[],h,_,_=>⟨[],trivial,rfl,fun v hv=>by simp at hv⟩
 |[],_::_,_,e,_=>by simp at e
 |_::_,[],_,e,_=>by simp at e
 | a::as,p::ps,h,e,hp=>by
   obtain⟨fs,k1,k2,k3⟩:=fO (as:=as) (ps:=ps) (h:=h) (by simpa using e) fun i a p h1 h2=>hp (i+1) a p (by simpa using h1) (by simpa using h2);obtain⟨o,n,t,u,q,c,d⟩:=hp 0 a p rfl rfl;refine⟨.int p.1 t::fs,⟨⟨a,o,_,n,rfl,q,c,d,rfl⟩,k1⟩,by simp[k2],fun v hv=>?_⟩
   rcases san.mp hv with rfl|hv
   ·exact⟨_,_,rfl⟩
   ·exact k3 v hv
theorem Wf (l:List Value):(l.toArray.zip l.toArray).map (·.2)=((List.range l.length).map fun i=>l.getD i Value.none).toArray:=by
 have h1:∀m:List Value,(m.zip m).map Prod.snd=m:=by
  intro m
  induction m with
  |nil=>rfl
  |cons a m ih=>simp[ih]
 have h2:(List.range l.length).map (fun i=>l.getD i Value.none)=l:=by
  apply List.ext_getElem
  ·simp
  ·intro i h3 h4;simp[h4]
 rw[h2];apply Array.toList_inj.mp;rw[Array.toList_map,Array.toList_zip];exact h1 l
theorem aE {la:Addr}{as:List Addr}{ps:List (Int×Int)}{n:Nat}{P:PySem.Fin→Shared→Prop}(hob:s.heap.get? la=some (seqObj "list" (as.map Value.ref).toArray n)) (hlen:as.length=ps.length) (hps:∀(i:Nat) a p,as[i]?=some a→ps[i]?=some p→vt s.heap a p)
 (hla:∀a∈as,a≠la) (hn:ps.Nodup) (hz:as.length<64)
 (h:∀(is:List Nat),is.Perm (List.range ps.length)→(is.map fun i=>ps.getD i (0,0)).Pairwise (fun p q=>oY p q=true) →
  P (.done (.ret .none)) {s with heap:=sortedHeap s.heap la (as.map Value.ref) (is.map fun i=>(as.map Value.ref).getD i Value.none).toArray}) :
 wpAny (model prog w) A (Builtin.«list.sort» ⟨[.ref la],[]⟩) P E s:=by
 have hsz:(as.map Value.ref).toArray.size=ps.length:=by simp[hlen]
 have hlt:=sag hob
 obtain⟨ep,hob1⟩:∃ep,(s.heap.update la (Obj.mapSeq fun _=>#[])).get? la=some (seqObj "list" #[] ep):=⟨_,get?_update_seq hob (fun _=>#[])⟩
 have hob2:(((s.heap.update la (Obj.mapSeq fun _=>#[])).push (seqObj "tuple" (as.map Value.ref).toArray 0)).push (seqObj "list" #[] 0)).get? la=some (seqObj "list" #[] ep) :=
  sab _ (sab _ hob1)
 rw[list_sort_plain];refine saa (listItems_at hob rfl ?_);refine saa (listUpdate_at hob rfl ?_ (by rw[hsz,sizeLine_eq];lia) (saT _));refine saa (seqEpoch_at hob1 rfl ?_);refine saa (wpAny_newTuple ?_ (by show(as.map Value.ref).length≤_;rw[sac,sizeLine_eq];lia));refine saa (wpAny_newList ?_ (saT _));refine saM ?_;show wpAny (model prog w) A _ P E {s with heap:=((s.heap.update la (Obj.mapSeq fun _=>#[])).push (seqObj "tuple" (as.map Value.ref).toArray 0)).push (seqObj "list" #[] 0)};dsimp only;by_cases hs2:(as.map Value.ref).toArray.size<2
 ·rw[sak hs2,sak hs2];refine saa (sad ?_);rw[StateT.run_pure];refine saa (sad ?_);dsimp only;refine saa (seqEpoch_at hob2 rfl ?_)
  have harr:(arrOf (SortSt.mk' general' ((as.map Value.ref).toArray.zip (as.map Value.ref).toArray) #[] 7 none)).map (·.2)=((List.range ps.length).map fun i=>(as.map Value.ref).getD i Value.none).toArray:=by
   have e:=Wf (as.map Value.ref);rw[sac,hlen]at e;exact e
  rw[harr];refine saa (listUpdate_at hob2 rfl ?_ (saT _) (by rw[List.size_toArray,sac,sbS,sizeLine_eq];lia));simp only[bne_self_eq_false,sax,if_false];refine sad (h (List.range ps.length) (sca _) ?_);rw[hsz]at hs2
  match ps,hs2 with
  |[],_=>exact List.Pairwise.nil
  |[p],_=>exact List.pairwise_singleton _ _
 ·rw[sal hs2,sal hs2];have h2:2≤(as.map Value.ref).length:=by rw[hsz]at hs2;rw[sac];lia
  have hold:∀a p,a≠la→vt s.heap a p→vt (((s.heap.update la (Obj.mapSeq fun _=>#[])).push (seqObj "tuple" (as.map Value.ref).toArray 0)).push (seqObj "list" #[] 0)) a p:=fun a p hne x=>
   x.keep fun o ho=>sab _ (sab _ (by rw[Heap.get?_update_ne _ _ _ _ hne];exact ho))
  have hps2:∀(i:Nat) a p,as[i]?=some a→ps[i]?=some p→vt (((s.heap.update la (Obj.mapSeq fun _=>#[])).push (seqObj "tuple" (as.map Value.ref).toArray 0)).push (seqObj "list" #[] 0)) a p:=fun i a p h1 h2=>hold a p (hla a (saA h1)) (hps i a p h1 h2);obtain⟨fs,k1,k2,k3⟩:=fO hlen hps2;refine saa (kat_kind (T:=.type "int") k1 (by rw[k2];rw[sac]at h2;lia) (fun v hv=>?_) (by decide) ?_)
  ·obtain⟨i,t,rfl⟩:=k3 v hv;exact Looks.of_pure rfl
  ·have hb:(Value.type "int" != Value.type "tuple")=true:=by decide
   rw[hb];have good:=Xy (Zb hn) (by rw[hsz]at hs2;lia)
   refine saa (saR (kat_run (Q:=fun st' s'=>s'={s with heap:=((s.heap.update la (Obj.mapSeq fun _=>#[])).push (seqObj "tuple" (as.map Value.ref).toArray 0)).push (seqObj "list" #[] 0)}∧failedOf st'=none∧∃p:Array Nat,yX ps.length p∧ar (fun i j=>oY (ps.getD i (0,0)) (ps.getD j (0,0))) p ps.length∧(arrOf st').map (·.2)=List.toArray (p.toList.map fun i=>(as.map Value.ref).getD i Value.none))
    (G:=fun p s'=>s'={s with heap:=((s.heap.update la (Obj.mapSeq fun _=>#[])).push (seqObj "tuple" (as.map Value.ref).toArray 0)).push (seqObj "list" #[] 0)}∧yX ps.length p∧ar (fun i j=>oY (ps.getD i (0,0)) (ps.getD j (0,0))) p ps.length)
    rfl h2 (by rw[sac];exact hz) (fun p st' s' a1 a2 a3 a4=>⟨a4.1,a3,p,a4.2.1,a4.2.2,kat_snds rfl a2⟩) ?_) ?_ fun _ _ e=>e)
   ·rw[sac,hlen];refine uK.wp (fun i j C hi hj hC=>?_) (fun p hp=>⟨rfl,hp.1,hp.2⟩) _ good;have gi:as[i]?=some (as.getD i 0):=by simp[hlen,hi]
    have gj:as[j]?=some (as.getD j 0):=by simp[hlen,hj]
    have pi:ps[i]?=some (ps.getD i (0,0)):=by simp[hi]
    have pj:ps[j]?=some (ps.getD j (0,0)):=by simp[hj]
    have vi:(as.map Value.ref).getD i Value.none=.ref (as.getD i 0):=by simp[hlen,hi]
    have vj:(as.map Value.ref).getD j Value.none=.ref (as.getD j 0):=by simp[hlen,hj]
    unfold kas_ask;rw[vi,vj];exact V8 (hps2 i _ _ gi pi) (hps2 j _ _ gj pj) hC
   ·rintro⟨⟨⟩,st'⟩ s' ⟨rfl,hf,p,hp1,hp2,hout⟩;dsimp only;refine saa (seqEpoch_at hob2 rfl ?_);rw[hout];have hpz:p.toList.length=ps.length:=by rw[Array.length_toList];exact hp1.size
    refine saa (listUpdate_at hob2 rfl ?_ (saT _) (by rw[List.size_toArray,sac,hpz,sizeLine_eq];lia));rw[hf];simp only[bne_self_eq_false,sax,if_false];refine sad (h p.toList hp1 ?_);rw[sbN];intro i j hi hj hij;simp only[List.getElem_map];have hj2:j<ps.length:=by rw[sac]at hj;lia
    have e:=hp2 i j hij hj2;have hsz2:=hp1.size;have g1:p.getD i 0=p.toList[i]'(by rw[sac]at hi;exact hi):=by simp[Array.getD,show i<p.size by lia]
    have g2:p.getD j 0=p.toList[j]'(by rw[sac]at hj;exact hj):=by simp[Array.getD,show j<p.size by lia]
    rw[g1,g2]at e;exact e
end
end DL
namespace DL
open PySem PySem.Spec PyProof.Rows L2
noncomputable def Ud (a:Addr)(n:Nat):HO:=.ext fun h=>∃o es ep t,h.get? a=some o∧o.ExactSet∧o.data=.set es ep t∧t.fits es.size=true∧es.size=n∧n<1000
theorem U4 {P:Program}{w:World}{H:Hp}{h:Heap}{a:Addr}{n:Nat}{es:Array (Int×Value)}{ep:Nat}{tb:SetTable}(S:SetAt w h a es ep tb)(hn:es.size=n)(hz:n<1000):we P w H h a (Ud a n):=by
 obtain⟨o,ho,hx,hd⟩:=S.ex;exact⟨⟨o,es,ep,tb,ho,hx,hd,S.tab.fits,hn,hz⟩,⟨o,ho⟩,fun h1 h2 ⟨o,es,ep,t,q,r⟩ hk=>⟨o,es,ep,t,hk o q,r⟩⟩
theorem Zh {h:Heap}{a:Addr}{p:Int×Int}{its:List Value}(r:ym [V.int p.1,V.int p.2] its)(t:IsTup h a its.toArray):vt h a p:=by
 obtain⟨o,ho,hc,n,hd⟩:=t
 cases r with
 | cons r1 r2=>
   cases r2 with
   | cons r3 r4=>
     cases r4;obtain⟨t1,rfl⟩:=r1;obtain⟨t2,rfl⟩:=r3;exact⟨o,n,t1,t2,ho,hc,hd⟩
theorem e_ {X:Cx}{pins:List (Addr×Obj)}{σ:St}{H:Hp}{s:Shared}{a:Addr}{p:Int×Int}(I:Inv X pins σ H s)(h:H a=some (.tup [.int p.1,.int p.2])):vt s.heap a p:=by
 obtain⟨_,its,rv,t⟩:=I.hok a _ h;exact Zh rv t
theorem mU:∀{as:List Addr} {us:List Value},ym (as.map V.ref) us→us=as.map Value.ref
 |[],us,r=>by cases r;rfl
 | a::as,us,r=>by
   cases r with
   | cons r1 r2=>
     rw[mU r2];cases(show _=Value.ref a from r1);rfl
noncomputable def pY (H:Hp)(as:List Addr)(ps:List (Int×Int)):Prop:=as.length=ps.length∧∀(i:Nat) (a:Addr) (q:Int×Int),as[i]?=some a→ps[i]?=some q→H a=some (.tup [.int q.1,.int q.2])
theorem ZD {X:Cx}(hc:X.calm=true)(hu:X.A.units+20<cLine):rP X (.type "set") (fun xs H Q=>∃(p:Addr) (as:List Addr) (ps:List (Int×Int)),xs=[.ref p]∧H p=some (.l (as.map V.ref))∧pY H as ps∧ps.length<18∧∀l,H l=none→Q (.ref l) (yo H l (Ud l (wZ (ps.map r8)).length))):=by
 intro pins s σ H xs us Q I r h;obtain⟨p,as,ps,rfl,hp,hP,hl,q⟩:=h;obtain⟨u,rfl,r1⟩:=q8 r;cases(show u=.ref p from r1);obtain⟨z,its,n,rv,hlen,e⟩:=I.lstM hp;have Tf:=mU rv;subst Tf;refine XX (items:=(as.map Value.ref).toArray) (ks:=ps.map r8) (as:=as) (I.ok.hd hc) (by lia) ⟨_,e,rfl,_,rfl⟩ rfl (by rw[sac];exact hP.1) (fun j a k h1 h2=>?_) (by rw[sac];exact hl) fun h' tk es ep tb _ S hk=>?_
 ·rw[sar]at h2
  cases hq:ps[j]? with
  |none=>rw[hq]at h2;cases h2
  |some q'=>rw[hq]at h2;cases h2;exact(e_ I (hP.2 j a q' h1 hq)).key
 ·have hk':∀b o,s.heap.get? b=some o→h'.get? b=some o:=fun b o eb=>hk b o (sag eb) eb;have hsz:es.size=(wZ (ps.map r8)).length:=by rw[←Array.length_toList];exact S.es.len
  have hml:=Yn (ps.map r8);rw[sac]at hml;exact⟨.ref s.heap.objs.size,_,I.laid (t':=tk) (o:=Ud s.heap.objs.size (wZ (ps.map r8)).length) hk' (Nat.le_refl _) (U4 S.at_ hsz (by lia)),rfl,q _ (I.hok.fresh (Nat.le_refl _))⟩
theorem XZ {X:Cx}:rP X (.builtin "len") (fun xs H Q=>∃(p:Addr) (n:Nat),xs=[.ref p]∧H p=some (Ud p n)∧Q (.int n) H):=by
 intro pins s σ H xs us Q I r h;obtain⟨p,n,rfl,hp,q⟩:=h;obtain⟨u,rfl,r1⟩:=q8 r;cases(show u=.ref p from r1);obtain⟨⟨o,es,ep,t,ho,hx,hd,hf,hn,hz⟩,_⟩:=I.hok p _ hp;refine call_len_set ho hx hd hf (by lia) ?_;exact⟨.int n,H,I.tok _,⟨_,by rw[hn]⟩,q⟩
noncomputable def cp:D→Option (Int×Int)
 | .tup [.int x,.int y]=>some (x,y)
 |_=>none
noncomputable def zd (p:Int×Int):D:=.tup [.int p.1,.int p.2]
theorem X7 {d:D}{p:Int×Int}(h:cp d=some p):d=zd p:=by
 unfold cp at h;split at h
 ·cases h;rfl
 ·cases h
noncomputable def u9:List D→Option (List (Int×Int))
 |[]=>some []
 | d::ds=>match cp d,u9 ds with
   |some p,some ps=>some (p::ps)
   |_,_=>none
theorem qD:∀{ds:List D} {ps:List (Int×Int)},u9 ds=some ps→ds=ps.map zd
 |[],ps,h=>by cases h;rfl
 | d::ds,ps,h=>by
   unfold u9 at h;split at h
   ·rename_i p ps' h1 h2;cases h;rw[X7 h1,qD h2];rfl
   ·cases h
theorem wN:∀ps:List (Int×Int),u9 (ps.map zd)=some ps
 |[]=>rfl
 |p::ps=>by simp[u9,cp,zd,wN ps]
theorem m_ {K:Frag}{G:Hp}:∀{ps:List (Int×Int)} {vs:List V},zO K G (ps.map zd) vs→∃as:List Addr,vs=as.map V.ref∧pY G as ps
 |[],vs,h=>⟨[],h,rfl,fun i a q h1=>by simp at h1⟩
 | p::ps,vs,h=>by
   obtain⟨v,r,rfl,h1,h2⟩:=h;obtain⟨as,rfl,hl,hP⟩:=m_ h2;obtain⟨a,ws,rfl,g,hw⟩:=h1
   have:ws=[.int p.1,.int p.2]:=by
    obtain⟨v1,r1,rfl,e1,e2⟩:=hw;obtain⟨v2,r2,rfl,e3,e4⟩:=e2;cases(show v1=.int p.1 from e1);cases(show v2=.int p.2 from e3);cases(show r2=[]from e4);rfl
   subst this;refine⟨a::as,rfl,by simp[hl],fun i b q h1 h2=>?_⟩
   cases i with
   |zero=>simp at h1 h2;subst h1;subst h2;exact g
   |succ i=>exact hP i b q (by simpa using h1) (by simpa using h2)
theorem pY.mono {G H:Hp}{as:List Addr}{ps:List (Int×Int)}(h:pY G as ps)(s:zI G H):pY H as ps:=⟨h.1,fun i a q h1 h2=>s _ _ (h.2 i a q h1 h2)⟩
@[simp] noncomputable def QZ:D→Out Val
  | .l ds=>match v_ ds with
    |some ns=>if ns.length<18 then .ok (.p (.int (met ns).length))else .bad
    | none=>match u9 ds with
      |some ps=>if ps.length<18 then .ok (.p (.int (wZ (ps.map r8)).length))else .bad
      |none=>.bad
  |_=>.bad
@[simp] noncomputable def xP:D→Out Val
  | .l ds=>match u9 ds with
    |some ps=>if ps.length<18 then .ok (.p (.int (wZ (ps.map r8)).length))else .bad
    |none=>.bad
  |_=>.bad
theorem nA {X:Cx}{G₀ H₀:Hp}{p p2 pos pos2:Pos}{e:Expr}{f:FE}(hu:X.A.units+20<cLine)(he:DE X G₀ H₀ e f)(hm:X.mg "len" = none) (hm2:X.mg "set" = none)
 (hc:X.calm=true:=by rfl) (hg:Gl X "len" :=by rfl) (hg2:Gl X "set" :=by rfl)
 (hs:starEach [.Call (.Name "set" p2) [e] [] pos2] X.env=[(false,eval (.Call (.Name "set" p2) [e] [] pos2) X.env)]:=by rfl) (hs2:starEach [e] X.env=[(false,eval e X.env)]:=by rfl) :
 DE X G₀ H₀ (.Call (.Name "len" p) [.Call (.Name "set" p2) [e] [] pos2] [] pos) (f1 xP f) :=
 (ux XZ hg hm PySem.boot_len (zM (fx (ZD hc hu) hg2 hm2 boot_set (zM he yw hs2) (by decide) (by decide) hs2 rfl) yw hs) (by decide) (by decide) hs rfl).imp fun σ H Q q=>by
  obtain⟨env,G,val,I,e,k⟩:=q;obtain⟨x,e1,e⟩:=zv e;refine vZ I e1 fun v G' H' g l I' o=>?_;unfold xP at e;split at e
  ·rename_i ds hd;rw[hd]at o;obtain⟨a,vs,rfl,h1,r1⟩:=ur.l I' o;split at e
   ·rename_i ps hps;split at e
    ·rename_i hl;cases e;rw[qD hps]at r1;obtain⟨as,rfl,hP⟩:=m_ r1;refine⟨a,as,ps,rfl,h1,hP.mono l,hl,fun b hb=>?_⟩;have g1:=Gw.laidL (o:=Ud b (wZ (ps.map r8)).length) l hb;exact⟨b,(wZ (ps.map r8)).length,rfl,zH,k _ G' _ (g.trans g1.1) g1.2 rfl⟩
    ·cases e
   ·cases e
  ·cases e
theorem dY {X:Cx}:rP X (.builtin "sorted") (fun xs H Q=>∃(p:Addr) (as:List Addr) (ps:List (Int×Int)),xs=[.ref p]∧H p=some (.l (as.map V.ref))∧pY H as ps∧ps.Nodup∧ps.length<64 ∧
 ∀(l:Addr) (is:List Nat),H l=none→is.Perm (List.range ps.length)→(is.map fun i=>ps.getD i (0,0)).Pairwise (fun p q=>oY p q=true)→Q (.ref l) (yo H l (.l ((is.map fun i=>as.getD i 0).map V.ref)))):=by
 intro pins s σ H xs us Q I r h;obtain⟨p,as,ps,rfl,hp,hP,hnd,hl,q⟩:=h;obtain⟨u,rfl,r1⟩:=q8 r;cases(show u=.ref p from r1);obtain⟨z,its,n,rv,hlen,e⟩:=I.lstM hp;have Tf:=mU rv;subst Tf;have hal:as.length<64:=by rw[hP.1];exact hl
 refine Calls.call_function_entry kind_sorted plain_sorted entry_sorted (args_sorted1 _) ?_;unfold Builtin.«sorted»;refine saa (m:=checkCount "sorted" 1 1 _) (sad ?_);refine saa (collect_list (vs:=as.map Value.ref) ⟨_,e,rfl,_,rfl⟩ ?_ (by rw[sac,sizeLine_eq];lia));refine saa (wpAny_newList ?_ (by rw[sac,sizeLine_eq];lia))
 obtain⟨h1,hh1⟩:∃h1,h1=(s.heap.push (seqObj "list" #[] 0)).update s.heap.objs.size (Obj.mapSeq (· ++ (as.map Value.ref).toArray)):=⟨_,rfl⟩
 have k1:∀b o,s.heap.get? b=some o→h1.get? b=some o:=fun b o q=>by
  have hlt:=sag q;rw[hh1,Heap.get?_update_ne _ _ _ _ (saz hlt),Heap.get?_push_ne _ _ _ (saz hlt)];exact q
 show wpAny _ _ _ _ _ {s with heap:=((s.heap.push (seqObj "list" #[] 0)).update s.heap.objs.size (Obj.mapSeq (· ++ (as.map Value.ref).toArray))).push (seqObj "list" (as.map Value.ref).toArray 0)};rw[←hh1];have hoL:(h1.push (seqObj "list" (as.map Value.ref).toArray 0)).get? h1.objs.size=some (seqObj "list" (as.map Value.ref).toArray 0):=saq _ rfl;have k2:∀b o,s.heap.get? b=some o→(h1.push (seqObj "list" (as.map Value.ref).toArray 0)).get? b=some o:=fun b o q=>sab _ (k1 b o q);have hps:∀(i:Nat) a q,as[i]?=some a→ps[i]?=some q→vt (h1.push (seqObj "list" (as.map Value.ref).toArray 0)) a q:=fun i a q' e1 e2=>(e_ I (hP.2 i a q' e1 e2)).keep fun o eo=>k2 a o eo
 have hne:∀a∈as,a≠h1.objs.size:=fun a ha=>by
  obtain⟨j,hj⟩:=saQ ha;have hjl:j<ps.length:=by rw[←hP.1];exact(saj.mp hj).1
  obtain⟨o,_,_,_,ho,_⟩:=e_ I (hP.2 j a _ hj (sae hjl));exact saz (sag (k1 a o ho))
 refine saa (saM (sct slot_list_sort ⟨_,hoL,rfl⟩ entry_list_sort (aE (s:={s with heap:=h1.push (seqObj "list" (as.map Value.ref).toArray 0)}) hoL hP.1 hps hne hnd hal fun is p1 p2=>⟨_,rfl,?_⟩) (args_list_sort _)));obtain⟨c,he⟩:=sortedHeap_at (out:=(is.map fun i=>(as.map Value.ref).getD i Value.none).toArray) hoL;have I1:Inv X pins σ H {s with heap:=h1,toks:=s.toks}:=I.kept (t':=s.toks) k1
 have keep:∀b o,h1.get? b=some o→(sortedHeap (h1.push (seqObj "list" (as.map Value.ref).toArray 0)) h1.objs.size (as.map Value.ref) (is.map fun i=>(as.map Value.ref).getD i Value.none).toArray).get? b=some o:=fun b o eb=>by
  have hlt:=sag eb;rw[sortedHeap_old (saz hlt) (by rw[size_push'];exact sbr hlt),Heap.get?_push_ne _ _ _ (saz hlt)];exact eb
 have hout:is.map (fun i=>(as.map Value.ref).getD i Value.none)=(is.map fun i=>as.getD i 0).map Value.ref:=by
  rw[sbj];refine sbe fun i hi=>?_;have hil:i<as.length:=by rw[hP.1];exact sba.mp (p1.mem_iff.mp hi)
  simp[hil]
 have hisl:is.length=ps.length:=by rw[p1.length_eq,sbS]
 have vr:∀l:List Addr,ym (l.map V.ref) (l.map Value.ref):=by
  intro l
  induction l with
  |nil=>exact .nil
  |cons a l ih=>exact .cons rfl ih
 have hz:((is.map fun i=>as.getD i 0).map V.ref).length≤sizeLine:=by rw[sac,sac,hisl,sizeLine_eq];lia
 refine sad ⟨_,rfl,.ref h1.objs.size,_,I1.laid (t':=s.toks) (o:=.l ((is.map fun i=>as.getD i 0).map V.ref)) keep (Nat.le_refl _) ⟨hz,_,c,vr _,?_⟩,rfl,q _ is (I1.hok.fresh (Nat.le_refl _)) p1 p2⟩;rw[←hout];simpa[seqObj]using he
section
variable {prog:Program}{w:World}{K:Type}[DecidableEq K]{knd:PySem.KeyKind prog w K}{A:Around}{E:Value→Shared→Prop}{s:Shared}
theorem mZ {d:Addr}{kvs:List (K×Value)}{k:K}{key dflt:Value}{Q:Value→Shared→Prop}(hkey:knd.is k key=true)(hm:s.heap.DictOf knd d kvs)(hsz:kvs.length≤sizeLine)
 (h1:∀v,valueAt kvs k=some v→Q v {s with toks:=s.toks+1})
 (h2:valueAt kvs k=none→∀h',h'.DictOf knd d (kvs++[(k,dflt)])→Heap.SameBut d s.heap h'→Q dflt {s with heap:=h',toks:=s.toks+1}) :
 wpAny (model prog w) A (dictSetDefault d key dflt) Q E s:=by
 obtain⟨o,es,ep,hob,hc,hd,hk,hp,hn⟩:=hm
 have hes:es.size≤sizeLine:=by
  have e1:=hp.length;have e2:es.toList.length=es.size:=by simp
  lia
 have hfind:∀x,findBy knd.is es x=valueAt kvs x:=fun x=>by
  rw[←hp.find x];obtain⟨l⟩:=es;simp[findBy]
 unfold dictSetDefault
 try with_reducible refine saM ?_
 refine saa (knd.pyHash hkey ?_);refine saa (wpAny_dictFind_of (s:={s with toks:=s.toks+1}) hkey hob hd hk ?_)
 cases hi:es.findIdx? fun e=>knd.is k e.key with
 | some i=>
   have hv:valueAt kvs k=(es[i]?).map (·.val):=by rw[←hfind k,findBy_of_findIdx?,hi]
   refine saa (wpAny_dictEntries (s:={s with toks:=s.toks+1}) hob hd ?_);have hlt:i<es.size:=(Array.findIdx?_eq_some_iff_findIdx_eq.mp hi).1;rw[sav hlt]at hv ⊢;exact saa (wpAny_rule (sad (h1 _ hv)))
 | none=>
   have hv:valueAt kvs k=none:=by rw[←hfind k,findBy_of_findIdx?,hi]
   have hidx:(es.findIdx? fun e=>knd.is k e.key)=kvs.findIdx? fun kv=>decide (kv.1=k):=by
    rw[←hp.findIdx k];obtain⟨l⟩:=es;simp
   have hnot:k∉kvs.map (·.1):=not_mem_of_findIdx_none (hidx ▸ hi)
   refine saa (wpAny_rule (saa (wpAny_updateDictKeys (hz:=hes) (s:={s with toks:=s.toks+1}) hob hd (sad (h2 hv _ ⟨_,_,ep+1,saL _ hob (Obj.isFreed_of_dict (Obj.data_mapDictKeys hd _)),
    hc.mapDictKeys _,Obj.data_mapDictKeys hd _,hk.push hkey _,?_,?_⟩ (Heap.SameBut.update ..))))))
   ·have:=hp.append hkey (knd.hash k) dflt;obtain⟨l⟩:=es;simpa using this
   ·rw[saY,sbT];refine⟨hn,by simp,fun a ha b hb=>?_⟩;simp only[List.map_cons,List.map_nil,saf]at hb;subst hb;exact fun e=>hnot (e ▸ ha)
theorem lx {d:Addr}{k:K}{key:Value}(hkey:knd.is k key=true)(hd:(d == sysModules)=false)(dflt:Value) :
 MeetsIn prog w (Builtin.«dict.setdefault» ⟨[.ref d,key,dflt],[]⟩) (fun _ R s=>∃kvs,s.heap.DictOf knd d kvs∧kvs.length≤sizeLine ∧
  (∀v,valueAt kvs k=some v→R (.ok (.ret v)) {s with toks:=s.toks+1}) ∧
  (valueAt kvs k=none→∀h',h'.DictOf knd d (kvs++[(k,dflt)])→Heap.SameBut d s.heap h'→R (.ok (.ret dflt)) {s with heap:=h',toks:=s.toks+1})) :=
 .of_wp fun A R s ⟨kvs,hm,hz,h1,h2⟩=>by
  unfold Builtin.«dict.setdefault» Builtin.Dict.keyAndDefault;refine saa (saa (wpAny_notOrdered_dict hm.typeIs ?_));show wpAny _ _ (pure (d,key,some dflt)) _ _ s;refine sad ?_;show wpAny _ _ (if(d == sysModules)=true then _ else(dictSetDefault d key dflt >>= _)) _ _ s;rw[sal (by rw[hd];exact sai)];exact saa (mZ hkey hm hz (fun v hv=>sad ⟨v,rfl,h1 v hv⟩) fun hn h' hm' hs'=>sad ⟨dflt,rfl,h2 hn h' hm' hs'⟩)
end
theorem VT {P:Program}{w:World}{H:Hp}{h:Heap}{a:Addr}{kvs:List (qZ×V)}(ok:nO P w H h)(e:H a=some (.dK kvs)):kvs.length≤sizeLine∧(a == sysModules)=false∧∃vs,KV kvs vs∧h.DictOf (sC P w) a vs:=ok a _ e
theorem fy {α β:Type}{F:α→β→Prop}:∀{l₁ l₃:List α} {l₂ l₄:List β},Paired F l₁ l₂→Paired F l₃ l₄→Paired F (l₁++l₃) (l₂++l₄)
 |_,_,_,_,.nil,q=>q
 |_,_,_,_,.cons r t,q=>.cons r (fy t q)
noncomputable def RL (kvs:List (qZ×V))(k:Int):Option V:=(kvs.find? fun kv=>decide (kv.1=Sum.inl k)).map (·.2)
theorem KV.valueAt:∀{kvs:List (qZ×V)} {vs:List (qZ×Value)} (k:Int),KV kvs vs→cw (RL kvs k) (valueAt vs (Sum.inl k))
 |[],vs,k,r=>by cases r;exact trivial
 | (k',v)::kvs,vs,k,r=>by
   cases r with
   | @cons _ q _ vs' r1 r2=>
     obtain⟨k2,u⟩:=q;obtain⟨e1,e2⟩:=r1;cases(show k'=k2 from e1);have ih:=KV.valueAt k r2;unfold PySem.valueAt RL at ih ⊢;rw[List.find?_cons,List.find?_cons];by_cases hk:k'=Sum.inl k
     ·simp only[sap hk];exact e2
     ·simp only[saB hk];exact ih
noncomputable def eS:V→List V→Hp→VK→Prop:=fun x vs H Q=>∃(d:Addr) (k:Int) (y:V) (kvs:List (qZ×V)),x=.ref d∧vs=[.int k,y]∧H d=some (.dK kvs)∧kvs.length<sizeLine ∧
 ((∃v,RL kvs k=some v∧Q v H)∨(RL kvs k=none∧Q y (yo H d (.dK (kvs++[(Sum.inl k,y)])))))
theorem Xk {X:Cx}:Q6 X "dict.setdefault" eS:=by
 intro pins s σ H x vs v us Q I rx rv h;obtain⟨d,k,y,kvs,rfl,rfl,hH,hz,q⟩:=h;cases rx;obtain⟨u1,u2,rfl,r1,r2⟩:=gU rv;obtain⟨t,rfl⟩:=r1;obtain⟨_,hsm,ws,rel,dd⟩:=VT I.hok hH;have hl:ws.length=kvs.length:=(Paired.length rel).symm;have hv:=KV.valueAt k rel;refine call_meetsIn PySem.F.slot_dict_setdefault dd.typeIs PySem.F.entry_dict_setdefault (PySem.F.args_dict_setdefault_3 _ _ _) (lx (knd:=sC X.prog X.w) (k:=Sum.inl k) (show(sC X.prog X.w).is (Sum.inl k) (.int k t)=true from Xr k t) hsm u2) ⟨ws,dd,by lia,fun v' e'=>?_,fun e' h' dd' sb=>?_⟩
 ·rw[e']at hv
  rcases q with⟨v2,e2,q⟩|⟨e2,_⟩
  ·rw[e2]at hv;exact⟨v2,H,I.tok _,hv,q⟩
  ·rw[e2]at hv;exact hv.elim
 ·rw[e']at hv
  rcases q with⟨v2,e2,_⟩|⟨e2,q⟩
  ·rw[e2]at hv;exact hv.elim
  ·have ho:∃o,h'.get? d=some o:=let ⟨o,_,_,e,_⟩:=dd';⟨o,e⟩;refine⟨y,_,I.write (t':=s.toks+1) (x:=d) (e:=d) (o:=.dK (kvs++[(Sum.inl k,y)])) (by rw[hH];trivial) (.inl rfl) (fun b o hb e=>(sb.2 b hb).trans e) ho ⟨?_,hsm,_,fy rel (.cons ⟨rfl,r2⟩ .nil),dd'⟩,r2,q⟩;rw[saP,List.length_singleton];lia
theorem QU {X:Cx}{pins:List (Addr×Obj)}{σ:St}{H:Hp}{s:Shared}(I:Inv X pins σ H s):∀{a:Addr},s.heap.objs.size≤a→(a == sysModules)=false:=by
 intro a ha;have h:mainGlobals<s.heap.objs.size:=(I.mod.glob.keeps I.bk).lt;exact beq_eq_false_iff_ne.mpr (sce (saz (sau (Nat.lt_trans (by decide) h) ha)))
noncomputable def Ww:TE:=fun _ H Q=>∀p,H p=none→Q (.ref p) (yo H p (.dK []))
theorem W7 {X:Cx}{pos:Pos}:PE X (.Dict [] [] pos) Ww:=fun pins s σ H Q I h=>
 wpAny_Dict_empty ⟨.ref s.heap.objs.size,_,I.laid (a:=s.heap.objs.size) (o:=.dK []) (t':=s.toks) (fun _ _ q=>sab _ q) (Nat.le_refl _) ⟨saT _,QU I (Nat.le_refl _),[],.nil,Heap.DictOf.new _⟩,rfl,h _ (I.hok.fresh (Nat.le_refl _))⟩
noncomputable def lX (r d:Addr):HO:=.ext fun h=>h.IsItemsView r d
noncomputable def WR:V→List V→Hp→VK→Prop:=fun x vs H Q=>∃(d:Addr) (kvs:List (qZ×V)),x=.ref d∧vs=[]∧H d=some (.dK kvs)∧∀r,H r=none→Q (.ref r) (yo H r (lX r d))
theorem Vh {X:Cx}:Q6 X "dict.items" WR:=by
 intro pins s σ H x vs v us Q I rx rv h;obtain⟨d,kvs,rfl,rfl,hH,q⟩:=h;cases rx;cases rv;obtain⟨_,hsm,ws,rel,dd⟩:=VT I.hok hH;refine call_meetsIn PySem.F.slot_dict_items dd.typeIs PySem.F.entry_dict_items (PySem.F.args_dict_items_1 _) (meets_dict_items (sC X.prog X.w) d hsm) ⟨⟨ws,dd⟩,?_⟩
 have hv:(s.heap.push {cls:=.type "dict_items",data:=.fields #[.ref d]}).IsItemsView s.heap.objs.size d:=⟨_,saq _ rfl,rfl,rfl⟩
 refine⟨.ref s.heap.objs.size,_,I.laid (t':=s.toks) (o:=lX s.heap.objs.size d) (fun _ _ e=>sab _ e) (Nat.le_refl _) ⟨hv,⟨_,saq _ rfl⟩,fun h1 h2 ⟨o,e,r⟩ hk=>⟨o,hk o e,r⟩⟩,rfl,q _ (I.hok.fresh (Nat.le_refl _))⟩
theorem Inv.many {X:Cx}{pins:List (Addr×Obj)}{σ:St}{H H':Hp}{s:Shared}{h':Heap}{t':Nat}(I:Inv X pins σ H s)(k:∀b o,s.heap.get? b=some o→h'.get? b=some o)(hs:zI H H')(hn:∀b,b<s.heap.objs.size→H b=none→H' b=none)
 (hok:∀b o,s.heap.objs.size≤b→H' b=some o→we X.prog X.w H' h' b o):Inv X pins σ H' {s with heap:=h',toks:=t'}:=by
 refine I.un ⟨fun b o e _ _ _=>k b o e,fun b o e _ _ _=>⟨o.slots,k b o e⟩,fun b o e n _=>hn b (sag e) n,fun b o e _=>⟨o,k b o e⟩,fun b xs e=>hs _ _ e,fun b o u e=>hs _ _ e,fun b ps e=>⟨#[],by rw[hs _ _ e];simp⟩⟩ fun b o e=>?_
 cases q:H b with
 | some u=>
   have e2:=hs _ _ q;rw[e2]at e;have e3:u=o:=saE e;subst e3;exact(I.hok b u q).stay (fun c v _ x=>k c v x) (fun c x=>hs _ _ x) fun c xs x=>hs _ _ x
 | none=>
   rcases Nat.lt_or_ge b s.heap.objs.size with hlt|hge
   ·rw[hn b hlt q]at e;cases e
   ·exact hok b o hge e
noncomputable def gv (H:Hp):List Addr→List (qZ×V)→Hp
 |a::as,kv::kvs=>yo (gv H as kvs) a (.tup [kV kv.1,kv.2])
 |_,_=>H
theorem qi {H:Hp}:∀{as:List Addr} {kvs:List (qZ×V)} {b:Addr},b∉as→gv H as kvs b=H b
 |[],_,b,_=>rfl
 |a::as,[],b,_=>rfl
 | a::as,kv::kvs,b,h=>by
   have h1:b≠a:=fun z=>h (by rw[z];exact saw);have h2:b∉as:=fun z=>h (sao _ z);unfold gv;rw[zx h1,qi h2]
theorem dw {H:Hp}:∀{as:List Addr} {kvs:List (qZ×V)} {j:Nat} {a:Addr} {kv:qZ×V},as.Nodup→as[j]?=some a→kvs[j]?=some kv→gv H as kvs a=some (.tup [kV kv.1,kv.2])
 |[],_,j,a,kv,_,h,_=>by simp at h
 |a'::as,[],j,a,kv,_,_,h=>by simp at h
 | a'::as,kv'::kvs,0,a,kv,hn,h1,h2=>by
   simp at h1 h2;subst h1;subst h2;exact zH
 | a'::as,kv'::kvs,j+1,a,kv,hn,h1,h2=>by
   have hn':=sbm.mp hn;have hm:a∈as:=saA (by simpa using h1);have hne:a≠a':=fun z=>hn'.1 (z ▸ hm);unfold gv;rw[zx hne];exact dw hn'.2 (by simpa using h1) (by simpa using h2)
theorem Vq:∀{kvs:List (qZ×V)} {ws:List (qZ×Value)} {j:Nat} {k:qZ} {u:Value},KV kvs ws→ws[j]?=some (k,u)→∃v,kvs[j]?=some (k,v)∧yS v u
 |_,_,j,k,u,.nil,h=>by simp at h
 | _,_,0,k,u,.cons (a:=p) (b:=q) r t,h=>by
   simp at h;subst h;obtain⟨k',v⟩:=p;exact⟨v,by simp;exact r.1,r.2⟩
 | _,_,j+1,k,u,.cons r t,h=>by
   obtain⟨v,e,r'⟩:=Vq (j:=j) t (by simpa using h);exact⟨v,by simpa using e,r'⟩
theorem iU {X:Cx}(hc:X.calm=true):rP X (.type "list") (fun xs H Q=>∃(r d:Addr) (kvs:List (qZ×V)),xs=[.ref r]∧H r=some (lX r d)∧H d=some (.dK kvs) ∧
 ∀(l:Addr) (as:List Addr),H l=none→as.length=kvs.length→as.Nodup→(∀a∈as,H a=none∧a≠l)→Q (.ref l) (yo (gv H as kvs) l (.l (as.map V.ref)))):=by
 intro pins s σ H xs us Q I r h;obtain⟨rv,d,kvs,rfl,hr,hH,q⟩:=h;obtain⟨u,rfl,r1⟩:=q8 r;cases(show u=.ref rv from r1);obtain⟨hz,hsm,ws,rel,dd⟩:=VT I.hok hH;obtain⟨hview,_⟩:=I.hok rv _ hr;obtain⟨ep,dat⟩:=dd.dictAt;have hwl:ws.length=kvs.length:=(Paired.length rel).symm;refine PySem.W.kdx_call (knd:=sC X.prog X.w) (I.ok.hd hc) hview dat (by lia) fun h' tk acc c as hk hS hl hG hacc=>?_;have hnd:as.Nodup:=hG.rise.imp fun h=>saz h;have hab:∀a∈as,s.heap.objs.size<a:=hG.above;have hn:∀a,s.heap.objs.size≤a→H a=none:=fun a ha=>I.hok.fresh ha
 have hnl:∀a∈as,H a=none∧a≠s.heap.objs.size:=fun a ha=>⟨hn a (sbO (hab a ha)),sbH (hab a ha)⟩
 have fin:=q s.heap.objs.size as (hn _ (Nat.le_refl _)) (by lia) hnd hnl
 have hlow:∀b,b<s.heap.objs.size→yo (gv H as kvs) s.heap.objs.size (.l (as.map V.ref)) b=H b:=fun b hb=>by
  rw[zx (saz hb),qi fun hm=>absurd (hab b hm) (Nat.not_lt.mpr (sbO hb))]
 have vr:∀l:List Addr,ym (l.map V.ref) (l.map Value.ref):=by
  intro l
  induction l with
  |nil=>exact .nil
  |cons a l ih=>exact .cons rfl ih
 have hsame:zI H (yo (gv H as kvs) s.heap.objs.size (.l (as.map V.ref))):=fun b o e=>by
  have hb:b<s.heap.objs.size:=by
   rcases Nat.lt_or_ge b s.heap.objs.size with hlt|hge
   ·exact hlt
   ·rw[hn b hge]at e;cases e
  rw[hlow b hb];exact e
 refine⟨.ref s.heap.objs.size,_,Inv.many I hk hsame (fun b hb e=>by rw[hlow b hb];exact e) fun b o hb e=>?_,rfl,fin⟩;by_cases hbl:b=s.heap.objs.size
 ·subst hbl;rw[zH]at e;cases e;refine⟨by rw[sac];lia,as.map Value.ref,c,vr as,?_⟩;rw[←hacc];simpa using hS
 ·rw[zx hbl]at e;by_cases hm:b∈as
  ·obtain⟨j,hj⟩:=saQ hm;obtain⟨key,k,x,hw,hkey,ht⟩:=hG.pairs j b hj;obtain⟨v,hv,rvx⟩:=Vq rel hw;rw[dw hnd hj hv]at e;cases e;refine⟨by show 2≤sizeLine;rw[sizeLine_eq];lia,[key,x],.cons ?_ (.cons rvx .nil),⟨_,ht,rfl,_,rfl⟩⟩
   rcases y8 (k:=k) (v:=key) hkey with⟨i,t,rfl,rfl⟩|⟨z,t,rfl,rfl⟩
   ·exact⟨t,rfl⟩
   ·exact⟨t,rfl⟩
  ·rw[qi hm,hn b hb]at e;cases e
noncomputable def jX (p:Int×Int):List (Int×Int)→List (Int×Int)
 |[]=>[p]
 |q::r=>if oY p q=true then p::q::r else q::jX p r
noncomputable def vX:List (Int×Int)→List (Int×Int)
 |[]=>[]
 |p::r=>jX p (vX r)
theorem m8 (p:Int×Int):∀l,(jX p l).Perm (p::l)
 |[]=>sca _
 | q::r=>by
   unfold jX;split
   ·exact sca _
   ·exact((m8 p r).cons q).trans (List.Perm.swap p q r)
theorem tK:∀l,(vX l).Perm l
 |[]=>sca _
 |p::r=>(m8 p (vX r)).trans ((tK r).cons p)
theorem kj {p:Int×Int}:∀{l:List (Int×Int)},p∉l→l.Pairwise (fun p q=>oY p q=true)→(jX p l).Pairwise (fun p q=>oY p q=true)
 |[],_,_=>by simp[jX]
 | q::r,hp,h=>by
   unfold jX;have h':=saH.mp h;have hpq:p≠q:=fun z=>hp (by rw[z];exact saw);split
   ·rename_i hl;refine saH.mpr ⟨fun x hx=>?_,h⟩
    rcases san.mp hx with rfl|hx
    ·exact hl
    ·exact aS hl (h'.1 x hx)
   ·rename_i hl;have hl':oY q p=true:=(Yf hpq).resolve_left hl;refine saH.mpr ⟨fun x hx=>?_,kj (fun z=>hp (sao _ z)) h'.2⟩
    rcases san.mp ((m8 p r).mem_iff.mp hx)with rfl|hx
    ·exact hl'
    ·exact h'.1 x hx
theorem rZ:∀{l:List (Int×Int)},l.Nodup→(vX l).Pairwise (fun p q=>oY p q=true)
 |[],_=>List.Pairwise.nil
 | p::r,h=>by
   have h':=sbm.mp h;exact kj (fun z=>h'.1 ((tK r).mem_iff.mp z)) (rZ h'.2)
theorem pD:∀{a b:List (Int×Int)},a.Perm b→a.Pairwise (fun p q=>oY p q=true)→b.Pairwise (fun p q=>oY p q=true)→a=b
 |[],b,p,_,_=>by rw[List.Perm.nil_eq p]
 |x::a,[],p,_,_=>by have:=p.length_eq;simp at this
 | x::a,y::b,p,ha,hb=>by
   have ha':=saH.mp ha;have hb':=saH.mp hb
   have e:x=y:=by
    have h1:x∈y::b:=p.mem_iff.mp saw;have h2:y∈x::a:=p.mem_iff.mpr saw
    rcases san.mp h1 with h1|h1
    ·exact h1
    ·rcases san.mp h2 with h2|h2
     ·exact h2.symm
     ·have q1:=ha'.1 y h2;have q2:=hb'.1 x h1;have:=aS q1 q2;rw[Yg]at this;cases this
   subst e;rw[pD ((List.perm_cons x).mp p) ha'.2 hb'.2]
noncomputable abbrev TM:=Int×List Int
noncomputable def gO (gs:List TM)(p:Int×Int):List TM:=if gs.any (fun g=>decide (g.1=p.1))=true then gs.map (fun g=>if g.1=p.1 then(g.1,g.2++[p.2])else g)else gs++[(p.1,[p.2])]
noncomputable def v7 (ps:List (Int×Int)):List TM:=ps.foldl gO []
noncomputable def Tg (g:TM):D:=.tup [.int g.1,.l (g.2.map .int)]
noncomputable abbrev GA:=Int×List Int×Addr
noncomputable def kY (gs:List GA)(p:Int×Int)(a:Addr):List GA:=if gs.any (fun g=>decide (g.1=p.1))=true then gs.map (fun g=>if g.1=p.1 then(g.1,g.2.1++[p.2],g.2.2)else g)else gs++[(p.1,[p.2],a)]
noncomputable def da (gs:List GA):List TM:=gs.map fun g=>(g.1,g.2.1)
theorem UW (gs:List GA)(p:Int×Int)(a:Addr):da (kY gs p a)=gO (da gs) p:=by
 unfold kY gO da;have e:(gs.map fun g=>((g.1,g.2.1):TM)).any (fun g=>decide (g.1=p.1))=gs.any (fun g=>decide (g.1=p.1)):=by rw[List.any_map];rfl
 rw[e];split
 ·rw[sbj,sbj];refine sbe fun g _=>?_;simp only[Function.comp]
  split <;> rfl
 ·simp
noncomputable def bC (gs:List GA):List (qZ×V):=gs.map fun g=>(Sum.inl g.1,V.ref g.2.2)
theorem Zd:∀(gs:List GA) (x:Int),RL (bC gs) x=(gs.find? fun g=>decide (g.1=x)).map fun g=>V.ref g.2.2
 |[],x=>rfl
 | g::gs,x=>by
   have ih:=Zd gs x;unfold RL bC at ih ⊢;rw[List.map_cons,List.find?_cons,List.find?_cons];by_cases h:g.1=x
   ·have h':(Sum.inl g.1:qZ)=Sum.inl x:=by rw[h]
    simp only[sap h,sap h'];rfl
   ·have h':¬(Sum.inl g.1:qZ)=Sum.inl x:=fun z=>h (Sum.inl.inj z);simp only[saB h,saB h'];exact ih
structure DicOk (Hs H:Hp)(d l:Addr)(gs:List GA):Prop where
 same:zI Hs H
 nd:Hs d=none
 at_:H d=some (.dK (bC gs))
 lists:∀g∈gs,H g.2.2=some (.l (g.2.1.map V.int))∧Hs g.2.2=none∧g.2.2≠l
 apart:(gs.map (·.2.2)).Nodup
 keys:(gs.map (·.1)).Nodup
theorem DicOk.old {Hs H:Hp}{d l:Addr}{gs:List GA}{x y:Int}{g:GA}(I:DicOk Hs H d l gs)(hf:gs.find? (fun g=>decide (g.1=x))=some g)(a:Addr) :
 DicOk Hs (yo H g.2.2 (.l (g.2.1.map V.int++[.int y]))) d l (kY gs (x,y) a):=by
 have hg:g∈gs:=List.mem_of_find?_eq_some hf;have hx:g.1=x:=by simpa using List.find?_some hf
 obtain⟨h1,h2,h3⟩:=I.lists g hg;have hany:gs.any (fun g=>decide (g.1=x))=true:=saW.mpr ⟨g,hg,by simp[hx]⟩;have hdne:d≠g.2.2:=Qk I.at_ h1 (by intro z;cases z)
 have uniq:∀g'∈gs,g'.1=x→g'=g:=fun g' hg' e=>by
  obtain⟨i,hi⟩:=saQ hg;obtain⟨j,hj⟩:=saQ hg';have e1:(gs.map (·.1))[i]?=some x:=by rw[sar,hi,←hx];rfl
  have e2:(gs.map (·.1))[j]?=some x:=by rw[sar,hj,←e];rfl
  have hij:i=j:=(List.getElem?_inj (saj.mp e1).1 I.keys).mp (e1.trans e2.symm);rw[hij,hj]at hi;exact(saE hi)
 have apart2:∀g'∈gs,g'≠g→g'.2.2≠g.2.2:=fun g' hg' hne e=>by
  obtain⟨i,hi⟩:=saQ hg;obtain⟨j,hj⟩:=saQ hg';have e1:(gs.map (·.2.2))[i]?=some g.2.2:=by rw[sar,hi];rfl
  have e2:(gs.map (·.2.2))[j]?=some g.2.2:=by rw[sar,hj,←e];rfl
  have hij:i=j:=(List.getElem?_inj (saj.mp e1).1 I.apart).mp (e1.trans e2.symm);rw[hij,hj]at hi;exact hne (saE hi)
 have hadd:kY gs (x,y) a=gs.map (fun g=>if g.1=x then(g.1,g.2.1++[y],g.2.2)else g):=by unfold kY;rw[sak hany]
 have m1:((kY gs (x,y) a).map (·.2.2))=gs.map (·.2.2):=by
  rw[hadd,sbj];refine sbe fun g' _=>?_;simp only[Function.comp]
  split <;> rfl
 have m2:((kY gs (x,y) a).map (·.1))=gs.map (·.1):=by
  rw[hadd,sbj];refine sbe fun g' _=>?_;simp only[Function.comp]
  split <;> rfl
 have m3:bC (kY gs (x,y) a)=bC gs:=by
  unfold bC;rw[hadd,sbj];refine sbe fun g' _=>?_;simp only[Function.comp]
  split <;> rfl
 refine⟨fun b o e=>?_,I.nd,?_,fun g' hg'=>?_,by rw[m1];exact I.apart,by rw[m2];exact I.keys⟩
 ·rw[zx (zz e h2)];exact I.same b o e
 ·rw[zx hdne,m3];exact I.at_
 ·rw[hadd]at hg';obtain⟨g2,hg2,rfl⟩:=saJ.mp hg';by_cases e:g2.1=x
  ·have:=uniq g2 hg2 e;subst this;rw[sak e];refine⟨?_,h2,h3⟩;show yo H g2.2.2 _ g2.2.2=_;rw[zH];simp
  ·rw[sal e];obtain⟨q1,q2,q3⟩:=I.lists g2 hg2;refine⟨?_,q2,q3⟩;rw[zx (apart2 g2 hg2 fun z=>e (by rw[z];exact hx))];exact q1
theorem DicOk.laid {Hs H:Hp}{d l p:Addr}{gs:List GA}{o:HO}(I:DicOk Hs H d l gs)(hp:H p=none):DicOk Hs (yo H p o) d l gs where
 same:=fun b u e=>by rw[zx (zz (I.same b u e) hp)];exact I.same b u e
 nd:=I.nd
 at_:=by rw[zx (zz I.at_ hp)];exact I.at_
 lists:=fun g hg=>let ⟨h1,h2,h3⟩:=I.lists g hg;⟨by rw[zx (zz h1 hp)];exact h1,h2,h3⟩
 apart:=I.apart
 keys:=I.keys
theorem DicOk.new {Hs H:Hp}{d l p:Addr}{gs:List GA}{x y:Int}(I:DicOk Hs H d l gs)(hp:H p=none)(hl:H l≠none)(hf:gs.find? (fun g=>decide (g.1=x))=none) :
 DicOk Hs (yo (yo (yo H p (.l [])) d (.dK (bC gs++[(Sum.inl x,.ref p)]))) p (.l ([]++[.int y]))) d l (kY gs (x,y) p):=by
 have hpd:p≠d:=fun z=>by rw[z,I.at_]at hp;cases hp
 have hany:¬gs.any (fun g=>decide (g.1=x))=true:=fun h=>by
  obtain⟨g,hg,e⟩:=saW.mp h;have:=List.find?_eq_none.mp hf g hg;exact this e
 have hadd:kY gs (x,y) p=gs++[(x,[y],p)]:=by unfold kY;rw[sal hany]
 have hsp:Hs p=none:=I.same.free hp;have hpl:p≠l:=fun z=>hl (z ▸ hp);have hne:∀g∈gs,g.2.2≠p:=fun g hg=>zz (I.lists g hg).1 hp
 have hned:∀g∈gs,g.2.2≠d:=fun g hg z=>by
  have:=(I.lists g hg).1;rw[z,I.at_]at this;cases this
 refine⟨fun b o e=>?_,I.nd,?_,fun g hg=>?_,?_,?_⟩
 ·rw[zx (zz e hsp),zx (zz e I.nd),zx (zz e hsp)];exact I.same b o e
 ·rw[zx hpd.symm,zH,hadd];unfold bC;simp
 ·rw[hadd]at hg
  rcases sas.mp hg with hg|hg
  ·obtain⟨q1,q2,q3⟩:=I.lists g hg;refine⟨?_,q2,q3⟩;rw[zx (hne g hg),zx (hned g hg),zx (hne g hg)];exact q1
  ·rw[saf]at hg;subst hg;exact⟨by rw[zH];rfl,hsp,hpl⟩
 ·rw[hadd,saY,sbT];refine⟨I.apart,by simp,fun a ha b hb=>?_⟩;obtain⟨g,hg,rfl⟩:=saJ.mp ha;simp only[List.map_cons,List.map_nil,saf]at hb;subst hb;exact hne g hg
 ·rw[hadd,saY,sbT];refine⟨I.keys,by simp,fun a ha b hb=>?_⟩;obtain⟨g,hg,rfl⟩:=saJ.mp ha;simp only[List.map_cons,List.map_nil,saf]at hb;subst hb;intro z;exact hany (saW.mpr ⟨g,hg,by simpa using z⟩)
noncomputable def Su : List V → Hp → VK → Prop := fun xs H Q => ∃ (p : Addr) (as : List Addr) (ps : List (Int × Int)),xs = [.ref p] ∧ H p = some (.l (as.map V.ref)) ∧ pY H as ps ∧ ps.Nodup ∧ ps.length < 64 ∧
    ∀(l:Addr) (is:List Nat),H l=none→is.Perm (List.range ps.length)→(is.map fun i=>ps.getD i (0,0)).Pairwise (fun p q=>oY p q=true)→Q (.ref l) (yo H l (.l ((is.map fun i=>as.getD i 0).map V.ref)))
noncomputable def Sv : List V → Hp → VK → Prop := fun xs H Q => ∃ (r d : Addr) (kvs : List (qZ × V)),xs = [.ref r] ∧ H r = some (lX r d) ∧ H d = some (.dK kvs) ∧
    ∀(l:Addr) (as:List Addr),H l=none→as.length=kvs.length→as.Nodup→(∀a∈as,H a=none∧a≠l)→Q (.ref l) (yo (gv H as kvs) l (.l (as.map V.ref)))
noncomputable def TU (K:Frag):TS :=
 jA (eD Ww (qO 1)) (jA (RU (T5 K (RJ Su (wW (wa 0) oR))) (Qx K 2 (VC (qO 2) (VC (qO 3) Qy))) (ZY (RK K "list" eT (RK K "dict" eS (wa 1) (wW (wa 2) (wW (Wu oR) oR))) (wW (wa 3) oR))))
  (gb (RJ Sv (wW (RV K "dict" WR (wa 1)) oR))))
@[simp] noncomputable def ly:FS:=fun(env:List Slot)=>match env[0]? with
  | some (Slot.p (.l ds))=>match u9 ds with
    |some ps=>if ps.length<18∧ps.Nodup then .ok (.ret (.fresh ((v7 (vX ps)).map Tg)))else .bad
    |none=>.bad
  |_=>.bad
theorem kq (ps:List (Int×Int))(p:Int×Int):v7 (ps++[p])=gO (v7 ps) p:=by
 unfold v7;rw[scl];rfl
theorem Zf {K:Frag}{Hs H:Hp}{d l:Addr}{gs:List GA}{σ:St}{x y:Int}{D:Ends}(I:DicOk Hs H d l gs)(hl:H l≠none)(hld:l≠d)(hgl:gs.length<1000)(hll:∀g∈gs,g.2.1.length<1000)(s1:σ[1]?=some (some (.ref d)))(s2:σ[2]?=some (some (.int x)))(s3:σ[3]?=some (some (.int y)))
 (h:∀H' a,DicOk Hs H' d l (kY gs (x,y) a)→H' l=H l→D.nx σ H') :
 ZY (RK K "list" eT (RK K "dict" eS (wa 1) (wW (wa 2) (wW (Wu oR) oR))) (wW (wa 3) oR)) D σ H:=by
 refine⟨.ref d,s1,.inr (.inr (.inl ⟨rfl,.inl ⟨_,I.at_⟩⟩)),.int x,s2,⟨saT _,fun p hp=>?_⟩⟩;have hpd:d≠p:=zz I.at_ hp;have hlp:l≠p:=fun z=>hl (z ▸ hp);have hkl:(bC gs).length<sizeLine:=by unfold bC;rw[sac,sizeLine_eq];lia
 refine⟨d,x,.ref p,bC gs,rfl,rfl,by rw[zx hpd];exact I.at_,hkl,?_⟩
 cases hf:gs.find? (fun g=>decide (g.1=x))with
 | some g=>
   have hg:=List.mem_of_find?_eq_some hf;have hL:=I.lists g hg;have hgp:g.2.2≠p:=zz hL.1 hp;have hat:yo H p (.l []) g.2.2=some (.l (g.2.1.map V.int)):=by rw[zx hgp];exact hL.1
   refine .inl ⟨.ref g.2.2,by rw[Zd,hf];rfl,.inl ⟨rfl,_,wx.of hat⟩,.int y,s3,g.2.2,_,.int y,rfl,rfl,hat,by rw[sac,sizeLine_eq];have:=hll g hg;lia,?_⟩;refine h _ p ((I.laid (o:=.l []) hp).old (y:=y) hf p) ?_;rw[zx hL.2.2.symm,zx hlp]
 | none=>
   have hat:yo (yo H p (.l [])) d (.dK (bC gs++[(Sum.inl x,.ref p)])) p=some (.l []):=by rw[zx hpd.symm,zH]
   refine .inr ⟨by rw[Zd,hf];rfl,.inl ⟨rfl,_,wx.of hat⟩,.int y,s3,p,_,.int y,rfl,rfl,hat,by rw[sizeLine_eq];simp,?_⟩;refine h _ p (I.new (y:=y) hp hl hf) ?_;rw[zx hlp,zx hld,zx hlp]
theorem Xx (ps:List (Int×Int)):(v7 ps).length≤ps.length∧∀g∈v7 ps,g.2.length≤ps.length:=by
 have:∀(l:List (Int×Int)) (gs:List TM) (n:Nat),gs.length≤n→(∀g∈gs,g.2.length≤n)→(l.foldl gO gs).length≤n+l.length∧∀g∈l.foldl gO gs,g.2.length≤n+l.length:=by
  intro l
  induction l with
  |nil=>intro gs n h1 h2;exact⟨by simpa using h1,fun g hg=>by simpa using h2 g hg⟩
  | cons p l ih=>
    intro gs n h1 h2
    have q:=ih (gO gs p) (n+1) (by
     unfold gO;split
     ·simp;lia
     ·simp;lia) (fun g hg=>by
     unfold gO at hg;split at hg
     ·obtain⟨g',hg',rfl⟩:=saJ.mp hg;have:=h2 g' hg';split
      ·simp;lia
      ·lia
     ·rcases sas.mp hg with hg|hg
      ·have:=h2 g hg;lia
      ·rw[saf]at hg;rw[hg];simp)
    rw[List.foldl_cons,List.length_cons];exact⟨by lia,fun g hg=>by have:=q.2 g hg;lia⟩
 have q:=this ps [] 0 (Nat.le_refl _) (by simp);simp only[scy]at q;exact q
theorem bN {α:Type}{l:List α}{i:Nat}{x:α}(h:i<l.length):l[i]?=some (l.getD i x):=by simp[h]
theorem Ze {K:Frag}{G₀ H₀:Hp}{D:Ends}{σ:St}{Hs:Hp}(q:tS K G₀ H₀ ly D σ Hs)(hσ:σ.length=4):TU K D σ Hs:=by
 obtain⟨env,G,r,I,e,k⟩:=q;unfold ly at e;split at e
 rotate_left
 ·cases e
 rename_i ds hd;split at e
 rotate_left
 ·cases e
 rename_i ps hps;split at e
 rotate_left
 ·cases e
 rename_i hb;obtain⟨hpl,hnd⟩:=hb;cases e;obtain⟨v0,s0,rep⟩:=I.p hd;obtain⟨pa,vs,rfl,gp,rl⟩:=rep;rw[qD hps]at rl;obtain⟨as,rfl,hP⟩:=m_ rl;intro d hdn
 have hHd:yo Hs d (.dK []) pa=some (.l (as.map V.ref)):=by
  have:=I.le _ _ gp;rw[zx (zz this hdn)];exact this
 have hPd:pY (yo Hs d (.dK [])) as ps:=⟨hP.1,fun i a q h1 h2=>by
  have:=I.le _ _ (hP.2 i a q h1 h2);rw[zx (zz this hdn)]
  exact this⟩
 have hσ0:(σ.set 1 (some (.ref d)))[0]?=some (some (.ref pa)):=by rw[sam (by lia)];exact s0
 have hσ1:(σ.set 1 (some (V.ref d)))[1]?=some (some (.ref d)):=by rw[sbh];simp[hσ]
 refine⟨.ref pa,hσ0,pa,as,ps,rfl,hHd,hPd,hnd,by lia,fun l is hl hperm hsort=>⟨l,rfl,⟨_,wx.of zH⟩,?_⟩⟩
 have hord:is.map (fun i=>ps.getD i (0,0))=vX ps:=by
  refine pD (List.Perm.trans ?_ (tK ps).symm) hsort (rZ hnd)
  have:(List.range ps.length).map (fun i=>ps.getD i (0,0))=ps:=by
   apply List.ext_getElem
   ·simp
   ·intro i h3 h4;simp[h4]
  have h2:=hperm.map (fun i=>ps.getD i (0,0));rw[this]at h2;exact h2
 have hisl:is.length=ps.length:=by rw[hperm.length_eq,sbS]
 have hld:l≠d:=fun z=>by rw[z,zH]at hl;cases hl
 have hsl:Hs l=none:=by rw[zx hld]at hl;exact hl
 have hN:(vX ps).length=ps.length:=(tK ps).length_eq
 have zy:DicOk Hs (yo (yo Hs d (.dK [])) l (.l ((is.map fun i=>as.getD i 0).map V.ref))) d l []:=by
  refine⟨fun b o e=>?_,hdn,?_,fun g hg=>(sbF hg).elim,List.nodup_nil,List.nodup_nil⟩
  ·rw[zx (zz e hsl),zx (zz e hdn)];exact e
  ·rw[zx hld.symm,zH];rfl
 refine⟨fun i m σ' H=>m=ps.length - i∧i≤ps.length∧σ'.length=4∧σ'[1]?=some (some (.ref d))∧H l=some (.l ((is.map fun i=>as.getD i 0).map V.ref))∧∃gs,DicOk Hs H d l gs∧da gs=v7 ((vX ps).take i),⟨ps.length,by simp,saT _,by simp[hσ],hσ1,zH,[],zy,rfl⟩,?_⟩;rintro i m σ' H ⟨rfl,hi,hσl,hs1,hHl,gs,J,hoff⟩;have hgl:=Xx ((vX ps).take i);have htl:((vX ps).take i).length≤ps.length:=by rw[sbn,hN];lia
 have hgsl:gs.length≤ps.length:=by
  have:(da gs).length=gs.length:=by unfold da;simp
  rw[hoff]at this;lia
 have hlsl:∀g∈gs,g.2.1.length≤ps.length:=fun g hg=>by
  have hm:((g.1,g.2.1):TM)∈da gs:=saJ.mpr ⟨g,hg,rfl⟩;rw[hoff]at hm;have:=hgl.2 _ hm;simp only at this;lia
 by_cases hlt:i<ps.length
 ·
  have hii:is[i]?=some (is.getD i 0):=by simp[hisl,hlt]
  have hai:((is.map fun i=>as.getD i 0).map V.ref)[i]?=some (.ref (as.getD (is.getD i 0) 0)):=by
   rw[sar,sar,hii];rfl
  refine .inr ⟨⟨_,_,wx.of hHl,hai⟩,fun σ2 H2=>σ2.length=4∧σ2[1]?=some (some (.ref d))∧H2 l=some (.l ((is.map fun i=>as.getD i 0).map V.ref))∧∃gs,DicOk Hs H2 d l gs∧da gs=v7 ((vX ps).take (i+1)),fun σ2 H2 ⟨a1,a2,a3,a4⟩=>⟨ps.length - (i+1),by lia,rfl,by lia,a1,a2,a3,a4⟩,fun x H2 y=>?_⟩;obtain⟨rfl,yy⟩:=y;have hx:=yy _ (wx.of hHl);rw[hai]at hx;cases hx;have hin:is.getD i 0<ps.length:=sba.mp (hperm.mem_iff.mp (saA hii));have ha:as[is.getD i 0]?=some (as.getD (is.getD i 0) 0):=bN (by rw[hP.1];exact hin);have hp:ps[is.getD i 0]?=some (ps.getD (is.getD i 0) (0,0)):=bN hin;have hpi:(vX ps)[i]?=some (ps.getD (is.getD i 0) (0,0)):=by rw[←hord,sar,hii];rfl
  generalize hpp:ps.getD (is.getD i 0) (0,0)=pp at hp hpi;have htup:H2 (as.getD (is.getD i 0) 0)=some (.tup [.int pp.1,.int pp.2]):=J.same _ _ (I.le _ _ (hP.2 _ _ _ ha hp));refine⟨_,_,rfl,av.of htup,rfl,_,_,rfl,_,_,rfl,rfl,?_⟩
  have z1:((σ'.set 2 (some (V.int pp.1))).set 3 (some (V.int pp.2)))[1]?=some (some (.ref d)):=by
   rw[sam (by lia),sam (by lia)];exact hs1
  have z2:((σ'.set 2 (some (V.int pp.1))).set 3 (some (V.int pp.2)))[2]?=some (some (.int pp.1)):=by
   rw[sam (by lia),sbh];simp[hσl]
  have z3:((σ'.set 2 (some (V.int pp.1))).set 3 (some (V.int pp.2)))[3]?=some (some (.int pp.2)):=by
   rw[sbh];simp[hσl]
  refine Zf J (by rw[hHl];simp) hld (by lia) (fun g hg=>by have:=hlsl g hg;lia) z1 z2 z3 fun H' a J' hl'=>?_;refine⟨by simp[hσl],z1,by rw[hl'];exact hHl,_,J',?_⟩;have hlt2:i<(vX ps).length:=by lia
  have:(vX ps)[i]=pp:=by rw[sae hlt2]at hpi;exact saE hpi
  rw[UW,hoff,sbJ hlt2,kq,this]
 ·
  have hie:i=ps.length:=by lia
  subst hie;rw[List.take_of_length_le (by lia)]at hoff;refine .inl ⟨⟨_,wx.of hHl,by simp[hisl]⟩,?_⟩;refine⟨.ref d,hs1,.inr (.inr (.inl ⟨rfl,.inl ⟨_,J.at_⟩⟩)),d,bC gs,rfl,rfl,J.at_,fun rv hrv=>?_⟩;have hrd:d≠rv:=zz J.at_ hrv;refine⟨rv,d,bC gs,rfl,zH,by rw[zx hrd];exact J.at_,fun z bs hz hbl hbn hbf=>?_⟩;have J2:=J.laid (o:=lX rv d) hrv
  obtain⟨H2,hH2⟩:∃H2,H2=yo H rv (lX rv d):=⟨_,rfl⟩
  rw[←hH2]at J2 hz hbf ⊢
  obtain⟨H3,hH3⟩:∃H3,H3=yo (gv H2 bs (bC gs)) z (.l (bs.map V.ref)):=⟨_,rfl⟩
  rw[←hH3]
  have old:∀b,H2 b≠none→H3 b=H2 b:=fun b hb=>by
   have hbz:b≠z:=fun w=>hb (w ▸ hz);have hbb:b∉bs:=fun w=>hb (hbf b w).1;rw[hH3,zx hbz,qi hbb]
  have oldS:∀b o,Hs b=some o→H3 b=some o:=fun b o e=>by
   have e2:=J2.same b o e;rw[old b (by rw[e2];simp)];exact e2
  let In:Addr→Prop:=fun b=>b∈gs.map (·.2.2)∨b∈bs
  have hIn:∀b,In b→Hs b=none:=fun b hb=>by
   rcases hb with hb|hb
   ·obtain⟨g,hg,rfl⟩:=saJ.mp hb;exact(J2.lists g hg).2.1
   ·exact J2.same.free (hbf b hb).1
  classical
  let G':Hp:=fun b=>if In b then H3 b else G b
  have gOld:∀b o,G b=some o→G' b=some o:=fun b o e=>by
   have hb:¬In b:=fun h=>by
    have:=I.le _ _ e;rw[hIn b h]at this;cases this
   show(if In b then H3 b else G b)=some o;rw[sal hb];exact e
  have h_:∀b,In b→G' b=H3 b:=fun b hb=>sak hb;refine k (.ref z) G' H3 ⟨fun b o e=>gOld b o (I.gr.g b o e),fun b o e=>oldS b o (I.gr.h b o e),fun b h1 h2=>?_⟩ (fun b o e=>?_) ⟨z,bs.map V.ref,rfl,?_,by rw[hH3];exact zH,?_,?_⟩
  ·have hb:¬In b:=fun h=>by
    have:=hIn b h
    cases q:H₀ b with
    |none=>exact h1 q
    |some o=>rw[I.gr.h b o q]at this;cases this
   show(if In b then H3 b else G b)=none;rw[sal hb];exact I.gr.n b h1 h2
  ·by_cases hb:In b
   ·rw[h_ b hb]at e;exact e
   ·have e2:G b=some o:=by
     have:(if In b then H3 b else G b)=some o:=e
     rwa [sal hb]at this
    exact oldS b o (I.le b o e2)
  ·exact I.gr.h.free (J2.same.free hz)
  ·have hb:¬In z:=fun h=>by
    rcases h with h|h
    ·obtain⟨g,hg,e⟩:=saJ.mp h;have:=(J2.lists g hg).1;rw[e,hz]at this;cases this
    ·exact(hbf z h).2 rfl
   show(if In z then H3 z else G z)=none;rw[sal hb];exact I.le.free (J2.same.free hz)
  ·rw[←hoff]
   have all:∀(gs':List GA) (bs':List Addr),bs'.length=gs'.length→(∀(j:Nat) (b:Addr) (g:GA),bs'[j]?=some b→gs'[j]?=some g→∃a,G' b=some (.tup [.int g.1,.ref a])∧G' a=some (.l (g.2.1.map V.int)))→zO K G' ((da gs').map Tg) (bs'.map V.ref):=by
    intro gs'
    induction gs' with
    |nil=>intro bs' hl _;rw[saV hl];rfl
    | cons g gs' ih=>
      intro bs' hl hj
      cases bs' with
      |nil=>simp at hl
      | cons b bs'=>
        obtain⟨a,h1,h2⟩:=hj 0 b g rfl rfl;refine zO.cons ⟨b,_,rfl,h1,zO.cons rfl (zO.cons ⟨a,_,rfl,h2,zO.ints _⟩ zO.nil)⟩ (ih bs' (by simpa using hl) fun j b g e1 e2=>hj (j+1) b g (by simpa using e1) (by simpa using e2))
   refine all gs bs (by rw[hbl];unfold bC;simp) fun j b g e1 e2=>⟨g.2.2,?_,?_⟩
   ·have hm:b∈bs:=saA e1;have hbz:b≠z:=(hbf b hm).2;rw[h_ b (.inr hm),hH3,zx hbz];exact dw (kv:=(Sum.inl g.1,V.ref g.2.2)) hbn e1 (by unfold bC;rw[sar,e2];rfl)
   ·have hg:=saA e2;have hL:=(J2.lists g hg).1;rw[h_ _ (.inl (saJ.mpr ⟨g,hg,rfl⟩)),old _ (by rw[hL];simp)];exact hL
theorem XO {X:Cx}{G₀ H₀:Hp}{body:List Stmt}(h:kI X body (TU X.K))(hN:X.N.length=4):Wc X G₀ H₀ body ly:=fun pins s σ H D I q=>h pins s σ H D I (Ze q (I.len.trans hN))
theorem Inv.turnedL {X:Cx}{pins:List (Addr×Obj)}{σ:St}{H:Hp}{s:Shared}{h':Heap}{t':Nat}{fp:List Addr}{T:Addr}{o:HO}(I:Inv X pins σ H s)(hf:∀b∈fp,lY X pins H b)(k:∀b u,b∉fp→s.heap.get? b=some u→h'.get? b=some u)
 (hT:s.heap.objs.size≤T) (new:we X.prog X.w (yo H T o) h' T o):Inv X pins σ (yo H T o) {s with heap:=h',toks:=t'}:=by
 have hn:=I.hok.fresh hT;have nit:∀b u,H b=some u→b∉fp:=fun b u e hb=>by rw[(hf b hb).1]at e;cases e
 have neT:∀b u,s.heap.get? b=some u→b≠T:=fun b u e=>saz (sau (sag e) hT)
 refine I.step (g':=s.gens) (d':=s.drawn) (ch:=fp) (fun b hb=>let ⟨_,a1,_,a3,a4,a5⟩:=hf b hb;⟨a3,a1,a4,a5⟩) (fun b u _ _ hc e _=>k b u hc e) (fun b u _ _ hc e _=>⟨u.slots,k b u hc e⟩) (fun b u _ e n=>by rw[zx (neT b u e)];exact n)
  (fun b u hc e=>⟨u,k b u hc e⟩) (fun b xs e=>by rw[zx (zz e hn)];exact e) (fun b u x e=>by rw[zx (zz e hn)];exact e) (fun b ps e=>⟨#[],by rw[zx (zz e hn),e];simp⟩) (fun m hm=>?_) (fun b u e=>?_) I.bare
 ·obtain⟨ob,es,ep,ho,r⟩:=hm;exact⟨ob,es,ep,k _ ob (fun hb=>(hf _ hb).2.1 rfl) ho,r⟩
 ·by_cases hb:b=T
  ·subst hb;rw[zH]at e;cases e;exact new
  ·rw[zx hb]at e;refine(I.hok b u e).stay (fun c v hc q=>k c v ?_ q) (fun c q=>by rw[zx (zz q hn)];exact q) fun c xs q=>by rw[zx (zz q hn)];exact q
   rcases hc with z|z
   ·rw[z];exact nit b u e
   ·exact nit c _ z
theorem Inv.turnedF {X:Cx}{pins:List (Addr×Obj)}{σ:St}{H:Hp}{s:Shared}{h':Heap}{t':Nat}{fp:List Addr}(I:Inv X pins σ H s)(hf:∀b∈fp,lY X pins H b)(k:∀b u,b∉fp→s.heap.get? b=some u→h'.get? b=some u):Inv X pins σ H {s with heap:=h',toks:=t'}:=by
 have nit:∀b u,H b=some u→b∉fp:=fun b u e hb=>by rw[(hf b hb).1]at e;cases e
 refine I.step (g':=s.gens) (d':=s.drawn) (ch:=fp) (fun b hb=>let ⟨_,a1,_,a3,a4,a5⟩:=hf b hb;⟨a3,a1,a4,a5⟩) (fun b u _ _ hc e _=>k b u hc e) (fun b u _ _ hc e _=>⟨u.slots,k b u hc e⟩) (fun b u _ e n=>n)
  (fun b u hc e=>⟨u,k b u hc e⟩) (fun b xs e=>e) (fun b u x e=>e) (fun b ps e=>⟨#[],by rw[e];simp⟩) (fun m hm=>?_) (fun b u e=>?_) I.bare
 ·obtain⟨ob,es,ep,ho,r⟩:=hm;exact⟨ob,es,ep,k _ ob (fun hb=>(hf _ hb).2.1 rfl) ho,r⟩
 ·refine(I.hok b u e).stay (fun c v hc q=>k c v ?_ q) (fun c q=>q) fun c xs q=>q
  rcases hc with z|z
  ·rw[z];exact nit b u e
  ·exact nit c _ z
noncomputable def Q9 (K:Frag)(l:Addr):It :=
 ⟨fun i H=>∃xs x,wx K H l xs∧xs[i]?=some x,fun i H x H'=>∃T y,x=.ref T∧H T=none∧H'=yo H T (.tup [.int i,y])∧∀xs,wx K H l xs→xs[i]?=some y,fun i H=>∃xs,wx K H l xs∧xs.length≤i⟩
theorem YZ {P:Program}{w:World}{K:Frag}{elts:List Expr}{kk:Nat}{pos:Pos}(l it e:Addr)(hei:e≠it):Turn P w K (.Tuple elts kk pos) (Q9 K l) [e,it] e (fun i h=>(∃old,IsEnum h e it i old)∧h.IsListIter it l i) where
 mem:=by simp
 obj:=fun i h st b hb=>by
  obtain⟨⟨old,h1⟩,o,h2,c,d⟩:=st
  rcases san.mp hb with rfl|hb
  ·exact⟨_,h1,fun v z=>by
    have z':Data.fields _=Data.cell v:=z
    cases z'⟩
  ·have:b=it:=by simpa using hb
   subst this;exact⟨o,h2,fun v z=>by rw[d]at z;cases z⟩
 keep:=fun i h h' st k=>by
  obtain⟨⟨old,h1⟩,h2⟩:=st;exact⟨⟨old,k e (by simp) _ h1⟩,h2.at fun o x=>k it (by simp) o x⟩
 item:=by
  intro X hP hw hK hc i pins s σ H E I hf st hg;subst hP hw hK;obtain⟨xs,x,hq,hx⟩:=hg;obtain⟨its,rv,p,hz⟩:=I.list hq;obtain⟨u,hu,ru⟩:=rv.get hx;obtain⟨⟨old,h1⟩,h2⟩:=st
  have hle:l≠e:=fun z=>by
   obtain⟨o,ho,hcl,_⟩:=p.isList;rw[z,h1]at ho;cases ho;exact absurd (show Value.type "enumerate" = Value.type "list" from hcl) (by decide)
  have hli:l≠it:=fun z=>by
   obtain⟨o,ho,hcl,_⟩:=p.isList;obtain⟨o2,ho2,hcl2,_⟩:=h2;rw[z,ho2]at ho;cases ho;rw[hcl2]at hcl;exact absurd hcl (by decide)
  have hil:i<its.toArray.size:=by
   have:=(saj.mp hu).1;simpa using this
  have W:=WalksT.enumerate (prog:=X.prog) (w:=X.w) (I.ok.hd hc) e it l hei hle hli its.toArray;refine W.item i s _ _ hil ⟨⟨old,h1⟩,h2,p.isList⟩ fun T vals h' tk hPt hT ht mid k1=>?_;obtain⟨t,u2,hu2,rfl⟩:=hPt
  have eu:u2=u:=by
   rw[show its.toArray[i]?=its[i]? from by simp]at hu2;rw[hu]at hu2;exact(saE hu2).symm
  subst eu;refine⟨.ref T,rfl,W.go elts kk pos i T {s with heap:=h',toks:=tk} _ _ mid fun h3 st3 k3=>?_⟩;have hTw:T∉[e,it]:=W.apart i T h' mid;have hkeep:∀b o,b∉[e,it]→s.heap.get? b=some o→h3.get? b=some o:=fun b o hb eb=>k3 b o hb (k1 b o hb eb);obtain⟨ot,hot,hct,nt,hdt⟩:=ht
  have hnew:we X.prog X.w (yo H T (.tup [.int i,x])) h3 T (.tup [.int i,x]):=⟨by show 2≤sizeLine;rw[sizeLine_eq];lia,[.int i t,u2],.cons ⟨t,rfl⟩ (.cons ru .nil),ot,k3 T ot hTw hot,hct,nt,hdt⟩
  have hHT:H T=none:=I.hok.fresh hT;refine⟨.ref T,_,Inv.turnedL (s:=s) (h':=h3) (t':=tk) I hf hkeep hT hnew,rfl,⟨T,x,rfl,hHT,rfl,fun ys hy=>by rw[I.list_inj hy hq];exact hx⟩,⟨⟨_,st3.1.choose_spec⟩,st3.2.1⟩,fun b hb=>?_⟩;have hbT:b≠T:=fun z=>by rw[z]at hb;exact hTw hb
  rw[zx hbT];exact(hf b hb).1
 done:=by
  intro X hP hw hK hc i pins s σ H E I hf st hg;subst hP hw hK;obtain⟨xs,hq,hx⟩:=hg;obtain⟨its,rv,p,hz⟩:=I.list hq;obtain⟨⟨old,h1⟩,h2⟩:=st;have hl:=rv.length
  refine wpAny_pyNext_enum_end (I.ok.hd hc) h1 h2 p.isList (sbc (by simp;lia)) fun h' eb=>⟨rfl,Inv.turnedF (t':=s.toks) I hf fun b o hb e=>?_⟩
  exact eb b o (fun z=>hb (by simp[z])) e
 self:=fun _ _ _ _ _ st h=>wpAny_pyIter_enum st.1.choose_spec h
noncomputable def Qw (K:Frag)(ta:TA):TI:=fun σ H R=>ta σ H fun vs H1=>∃a,vs=[.ref a]∧(∃xs,wx K H1 a xs)∧R (Q9 K a) H1
theorem UO {X:Cx}{elts:List Expr}{kk:Nat}{pos p cpos:Pos}{l:Expr}{ta:TA}(hm:X.mg "enumerate" = none) (ha:PA X [l] ta) (hg:Gl X "enumerate" :=by rfl) (hs:starEach [l] X.env=[(false,eval l X.env)]:=by rfl):PI X (.Tuple elts kk pos) (.Call (.Name "enumerate" p) [l] [] cpos) (Qw X.K ta):=by
 intro pins s σ H R I h;refine Call_ (sR I hg hm boot_enumerate (sbd (xU (ha cpos pins s σ H _ I h) fun us s1 ⟨vs,H1,I1,r1,q1⟩=>?_) hs rfl));obtain⟨a,rfl,⟨xs,hq⟩,q⟩:=q1;obtain⟨u,rfl,r2⟩:=q8 r1;cases(show u=.ref a from r2);obtain⟨its,rv,pl,hz⟩:=I1.list hq;refine call_enumerate_list pl.isList fun h' h1 h2 hsz hk=>?_;refine wpAny_pyIter_enum h1 ?_;have I2:Inv X pins σ H1 {s1 with heap:=h',toks:=s1.toks}:=I1.kept (t':=s1.toks) hk;refine⟨s1.heap.objs.size+1,[s1.heap.objs.size+1,s1.heap.objs.size],_,Q9 X.K a,H1,rfl,I2,YZ a s1.heap.objs.size (s1.heap.objs.size+1) (Nat.succ_ne_self _),⟨⟨_,h1⟩,h2⟩,fun b hb=>?_,q⟩
 have hb':s1.heap.objs.size≤b:=by
  rcases san.mp hb with rfl|hb
  ·exact Nat.le_succ _
  ·rw[saf.mp hb];exact Nat.le_refl _
 exact I1.fpOk hb' (I1.hok.fresh hb')
noncomputable def uD:Nat→List D→List D
 |_,[]=>[]
 |i,d::ds=>.tup [.int i,d]::uD (i+1) ds
theorem fR:∀(ds:List D) (k i:Nat),(uD k ds)[i]?=ds[i]?.map fun d=>.tup [.int ((k+i:Nat):Int),d]
 |[],k,i=>by simp[uD]
 |d::ds,k,0=>by simp[uD]
 | d::ds,k,i+1=>by
   have:=fR ds (k+1) i;simp only[uD,List.getElem?_cons_succ,this];congr 1
   funext d
   rw[show k+1+i=k+(i+1)by lia]
theorem lF:∀(ds:List D) (k:Nat),(uD k ds).length=ds.length
 |[],k=>rfl
 |d::ds,k=>by simp[uD,lF ds (k+1)]
theorem Vt {K:Frag}{G:Hp}{a:Addr}{ds:List D}{vs:List V}(h:wx K G a vs)(r:zO K G ds vs):JOk K (Q9 K a) G (uD 0 ds) where
 go:=fun i G' H' s l hi=>by
  rw[lF]at hi;exact⟨vs,vs[i]'(by rw[←r.length];exact hi),l.seq (s.seq h),sae _⟩
 stop:=fun i G' H' s l hi=>by
  rw[lF]at hi;exact⟨vs,l.seq (s.seq h),by rw[←r.length];exact hi⟩
 yld:=fun i G' H' x H1 s l hi y=>by
  obtain⟨T,y,rfl,hT,rfl,hy⟩:=y;have hx:=hy vs (l.seq (s.seq h));obtain⟨d,h1,h2⟩:=r.get' hx;have g:=Gw.laidT (o:=.tup [.int i,y]) l hT;refine⟨.tup [.int i,d],_,by rw[fR,h1];simp,g.1,g.2,T,_,rfl,zH,zO.cons rfl (zO.cons ?_ zO.nil)⟩;exact(h2.mono s).mono g.1.g
@[simp] noncomputable def XI (f:FE):FI:=fun env=>(f env).bind fun x=>x.hold.bind fun d=>match d with
  | .l ds=>.ok (uD 0 ds)
  |_=>.bad
theorem jq {X:Cx}{G₀ H₀:Hp}{elts:List Expr}{kk:Nat}{pos p cpos:Pos}{l:Expr}{f:FE}(hm:X.mg "enumerate" = none) (hl:DE X G₀ H₀ l f) (hg:Gl X "enumerate" :=by rfl) (hs:starEach [l] X.env=[(false,eval l X.env)]:=by rfl) :
 TN X G₀ H₀ (.Tuple elts kk pos) (.Call (.Name "enumerate" p) [l] [] cpos) (XI f):=(UO hm (zM hl yw hs) hg hs).imp fun σ H R q=>by
 obtain⟨env,G,ds,I,e,k⟩:=q;obtain⟨x,e1,e⟩:=zv e;obtain⟨d,e2,e⟩:=zv e;refine⟨env,G,x,I,e1,fun v G' H' g l h=>?_⟩;obtain⟨G2,g2,l2,h2⟩:=kQ g l h e2;split at e
 ·cases e;obtain⟨a,vs,rfl,h3,r3⟩:=h2;exact⟨a,rfl,⟨vs,wx.of (l2 _ _ h3)⟩,k _ G2 H' g2 l2 (Vt (wx.of h3) r3)⟩
 ·cases e
noncomputable abbrev ZM (h:Heap)(z ti to t:Addr)(f:Bool):Prop :=
 h.get? z=some {cls:=.type "zip",dict:=none,data:=.fields #[rawInt t,.bool f,.bool false,.ref ti,.ref to],slots:=#[]}
section
variable {prog:Program}{w:World}{A:Around}{E:Value→Shared→Prop}{s:Shared}
theorem gR {z ti to t:Addr}{f:Bool}{ot:Obj}{Q:Bool→Shared→Prop}(hz:ZM s.heap z ti to t f)(ht:s.heap.get? t=some ot)
 (q:∀h',ZM h' z ti to t true→Heap.SameBut z s.heap h'→Q false {s with heap:=h'}):wpAny (model prog w) A (Builtin.SmallTypes.ownedTupleIsFree (.ref z)) Q E s:=by
 unfold Builtin.SmallTypes.ownedTupleIsFree;refine saa (sbo hz rfl (x:=rawInt t) rfl ?_);show wpAny _ _ (loadIfAlive ((t:Int).toNat) >>= _) _ _ _;rw[Int.toNat_natCast];refine saa (PySem.W.kdx_alive ht ?_);simp only[Option.isNone_some,sax,if_false];refine saa (sbo hz rfl (x:=.bool f) rfl ?_)
 cases f with
 | true=>
   rw[sal (show ¬((Value.bool true != Value.bool true)=true)from sai)];exact sad (q s.heap hz (Heap.SameBut.refl _ _))
 | false=>
   rw[sak (show(Value.bool false != Value.bool true)=true from rfl)];refine saa (scb hz (by simp) fun h3 e3 s3=>?_);exact sad (q h3 e3 s3)
theorem YS {z ti to i1 i2 l1 l2 t:Addr}{f:Bool}{ot:Obj}{k1 k2:Nat}{xs ys:Array Value}{x y:Value}{Q:Option Value→Shared→Prop}(D:ZipApart z ti to i1 i2 l1 l2)
 (hz:ZM s.heap z ti to t f) (ht:s.heap.get? t=some ot) (hTI:IsPair s.heap ti (.ref i1) (.ref i2))
 (h1:s.heap.IsListIter i1 l1 k1) (h2:s.heap.IsListIter i2 l2 k2) (hl1:s.heap.IsList l1 xs) (hl2:s.heap.IsList l2 ys) (hx:xs[k1]?=some x) (hy:ys[k2]?=some y)
 (q:∀h',ZM h' z ti to t true→h'.IsListIter i1 l1 (k1+1)→h'.IsListIter i2 l2 (k2+1)→IsPair h' s.heap.objs.size x y→h'.objs.size=s.heap.objs.size+1 →
  (∀c o,c≠z→c≠i1→c≠i2→s.heap.get? c=some o→h'.get? c=some o)→Q (some (.ref s.heap.objs.size)) {s with heap:=h'}) :
 wpAny (model prog w) A (pyNext (.ref z)) Q E s:=by
 have hT:s.TypeIs (.ref z) "zip" :=⟨_,hz,rfl⟩
 unfold pyNext;refine saa (scB (sbR (name:=Str.ofString "__next__") hT sbp (sct sbp hT PySem.F.entry_zip_next ?_ (scv _))));show wpAny _ _ (field (.ref z) 2 >>= _) _ _ _;refine saa (sbo hz rfl (x:=.bool false) rfl ?_);show wpAny _ _ (field (.ref z) 3 >>= _) _ _ _;refine saa (sbo hz rfl (x:=.ref ti) rfl ?_);refine saa (sbf hTI rfl ?_);show wpAny _ _ (Builtin.SmallTypes.ownedTupleIsFree (.ref z) >>= _) _ _ _;refine saa (gR hz ht fun ha za sa=>?_);simp only[sax,if_false];show wpAny _ _ (forIn #[Value.ref i1,Value.ref i2] _ _ >>= _) _ _ _;simp only[←Array.forIn_toList,List.forIn_cons,List.forIn_nil];refine saa ?_;refine saa ?_;refine saa (saM ?_);show wpAny _ _ (Builtin.SmallTypes.nextOf (.ref i1) >>= _) _ _ _;refine saa (sbk (h1.extBut sa.extBut D.i1z) (hl1.extBut sa.extBut D.l1z) hx fun hb ib sb=>sad ?_);refine sad ?_;show wpAny _ _ ((holding (#[x]:Array Value).toList (_:Sem (Option Value)) >>= _) >>= _) _ _ _;refine saa ?_;refine saa (saM ?_);show wpAny _ _ (Builtin.SmallTypes.nextOf (.ref i2) >>= _) _ _ _;have sb':Heap.SameBut i1 ha hb:=sb;refine saa (sbk ((h2.extBut sa.extBut D.i2z).extBut sb'.extBut D.i12.symm) ((hl2.extBut sa.extBut D.l2z).extBut sb'.extBut D.l2i1) hy fun hc ic sc=>sad ?_);have sc':Heap.SameBut i2 hb hc:=sc;refine sad (sad ?_);show wpAny _ _ (newTuple [x,y] >>= _) _ _ _;refine saa (wpAny_newTuple ?_);have hsz:hc.objs.size=s.heap.objs.size:=by rw[sc'.1,sb'.1,sa.1]
 refine sad ⟨_,rfl,sad ?_⟩;show Q (some (.ref hc.objs.size)) _;rw[hsz];have hz3:ZM hc z ti to t true:=sc'.extBut _ _ D.i2z.symm (sb'.extBut _ _ D.i1z.symm za);have g1:hc.IsListIter i1 l1 (k1+1):=ib.extBut sc'.extBut D.i12;refine q _ (sab _ hz3) (g1.at fun o e=>sab _ e) (ic.at fun o e=>sab _ e) (by rw[←hsz];exact saq _ rfl) (by rw[←hsz];exact saU ..) fun c o c1 c2 c3 e=>?_;exact sab _ (sc'.extBut _ _ c3 (sb'.extBut _ _ c2 (sa.extBut _ _ c1 e)))
theorem Wk {z ti to i1 i2 l1 l2 t:Addr}{f:Bool}{ot:Obj}{k1 k2:Nat}{xs ys:Array Value}{Q:Option Value→Shared→Prop}(hh:A.handled=none)(D:ZipApart z ti to i1 i2 l1 l2)
 (hz:ZM s.heap z ti to t f) (ht:s.heap.get? t=some ot) (hTI:IsPair s.heap ti (.ref i1) (.ref i2))
 (h1:s.heap.IsListIter i1 l1 k1) (h2:s.heap.IsListIter i2 l2 k2) (hl1:s.heap.IsList l1 xs) (hl2:s.heap.IsList l2 ys) (he:xs[k1]?=none∨ys[k2]?=none)
 (q:∀h',(∀c o,c≠z→c≠i1→c≠i2→s.heap.get? c=some o→h'.get? c=some o)→Q none {s with heap:=h'}) :
 wpAny (model prog w) A (pyNext (.ref z)) Q E s:=by
 have hT:s.TypeIs (.ref z) "zip" :=⟨_,hz,rfl⟩
 unfold pyNext;refine saa (scB (sbR (name:=Str.ofString "__next__") hT sbp (sct sbp hT PySem.F.entry_zip_next ?_ (scv _))));show wpAny _ _ (field (.ref z) 2 >>= _) _ _ _;refine saa (sbo hz rfl (x:=.bool false) rfl ?_);show wpAny _ _ (field (.ref z) 3 >>= _) _ _ _;refine saa (sbo hz rfl (x:=.ref ti) rfl ?_);refine saa (sbf hTI rfl ?_);show wpAny _ _ (Builtin.SmallTypes.ownedTupleIsFree (.ref z) >>= _) _ _ _;refine saa (gR hz ht fun ha za sa=>?_);simp only[sax,if_false];show wpAny _ _ (forIn #[Value.ref i1,Value.ref i2] _ _ >>= _) _ _ _;simp only[←Array.forIn_toList,List.forIn_cons,List.forIn_nil];refine saa ?_;refine saa ?_;refine saa (saM ?_);show wpAny _ _ (Builtin.SmallTypes.nextOf (.ref i1) >>= _) _ _ _
 cases hx:xs[k1]? with
 | none=>
   refine saa (scf hh (h1.extBut sa.extBut D.i1z) (hl1.extBut sa.extBut D.l1z) hx fun hb e sb ⟨oe,hoe,hce⟩=>?_);refine saa (wpAny_isInstance (T := "StopIteration") (b:=true) ⟨oe,hoe,hce⟩ isSubtype_stop ?_);exact sad (q _ fun c o c1 c2 c3 x=>sb _ _ c2 (sa.extBut _ _ c1 x))
 | some x=>
   have hy:ys[k2]?=none:=by rcases he with h|h;rw[hx]at h;cases h;exact h
   refine saa (sbk (h1.extBut sa.extBut D.i1z) (hl1.extBut sa.extBut D.l1z) hx fun hb ib sb=>sad ?_);refine sad ?_;show wpAny _ _ ((holding (#[x]:Array Value).toList (_:Sem (Option Value)) >>= _) >>= _) _ _ _;refine saa ?_;refine saa (saM ?_);show wpAny _ _ (Builtin.SmallTypes.nextOf (.ref i2) >>= _) _ _ _;have sb':Heap.SameBut i1 ha hb:=sb;refine saa (scf hh ((h2.extBut sa.extBut D.i2z).extBut sb'.extBut D.i12.symm) ((hl2.extBut sa.extBut D.l2z).extBut sb'.extBut D.l2i1) hy fun hc e sc ⟨oe,hoe,hce⟩=>?_);refine saa (wpAny_isInstance (T := "StopIteration") (b:=true) ⟨oe,hoe,hce⟩ isSubtype_stop ?_);exact sad (q _ fun c o c1 c2 c3 x=>sc _ _ c3 (sb'.extBut _ _ c2 (sa.extBut _ _ c1 x)))
structure ZSt (h:Heap)(z ti to i1 i2 l1 l2 S:Addr)(i:Nat)(xs ys:Array Value):Prop where
 own:(IsZip h z ti to .none∧∃a b,IsPair h to a b)∨∃t f ot,ZM h z ti to t f∧h.get? t=some ot∧t≠z∧t≠i1∧t≠i2∧t≠S
 its:IsPair h ti (.ref i1) (.ref i2)
 p1:h.IsListIter i1 l1 i
 p2:h.IsListIter i2 l2 i
 s1:h.IsList l1 xs
 s2:h.IsList l2 ys
theorem ZSt.keep {h h':Heap}{z ti to i1 i2 l1 l2 S:Addr}{i:Nat}{xs ys:Array Value}(x:ZSt h z ti to i1 i2 l1 l2 S i xs ys)(k:∀b o,b≠S→h.get? b=some o→h'.get? b=some o)
 (off:∀b∈[z,ti,to,i1,i2,l1,l2],b≠S):ZSt h' z ti to i1 i2 l1 l2 S i xs ys where
 own:=by
  rcases x.own with⟨a,b,c,d⟩|⟨t,f,ot,a,b,c1,c2,c3,c4⟩
  ·exact .inl ⟨k _ _ (off z (by simp)) a,b,c,k _ _ (off to (by simp)) d⟩
  ·exact .inr ⟨t,f,ot,k _ _ (off z (by simp)) a,k _ _ c4 b,c1,c2,c3,c4⟩
 its:=k _ _ (off ti (by simp)) x.its
 p1:=x.p1.at fun o e=>k _ _ (off i1 (by simp)) e
 p2:=x.p2.at fun o e=>k _ _ (off i2 (by simp)) e
 s1:=x.s1.at fun o e=>k _ _ (off l1 (by simp)) e
 s2:=x.s2.at fun o e=>k _ _ (off l2 (by simp)) e
theorem Wd {z ti to i1 i2 l1 l2 S:Addr}{i:Nat}{xs ys:Array Value}{x y:Value}{Q:Option Value→Shared→Prop}(D:ZipApart z ti to i1 i2 l1 l2)(st:ZSt s.heap z ti to i1 i2 l1 l2 S i xs ys)(hS:S<s.heap.objs.size)(hx:xs[i]?=some x)(hy:ys[i]?=some y)
 (q:∀h',ZSt h' z ti to i1 i2 l1 l2 S (i+1) xs ys→IsPair h' s.heap.objs.size x y→h'.objs.size=s.heap.objs.size+1→(∀c o,c≠z→c≠to→c≠i1→c≠i2→s.heap.get? c=some o→h'.get? c=some o)→Q (some (.ref s.heap.objs.size)) {s with heap:=h'}) :
 wpAny (model prog w) A (pyNext (.ref z)) Q E s:=by
 have lt:∀{c o},s.heap.get? c=some o→s.heap.objs.size≠c:=fun e=>sbH (sag e);have n1:s.heap.objs.size≠i1:=by obtain⟨_,e,_⟩:=st.p1;exact lt e
 have n2:s.heap.objs.size≠i2:=by obtain⟨_,e,_⟩:=st.p2;exact lt e
 rcases st.own with⟨hz,a,b,hO⟩|⟨t,f,ot,hz,ht,c1,c2,c3,c4⟩
 ·refine wpAny_pyNext_zip_item D hz st.its hO st.p1 st.p2 st.s1 st.s2 hx hy fun h' z1 z2 z3 z4 z5 z6 z7=>q h' ⟨.inr ⟨_,false,_,z1,z5,lt hz,n1,n2,sbH hS⟩,z7 _ _ D.TIz D.TITO D.TIi1 D.TIi2 st.its,z3,z4,?_,?_⟩ z5 z6 z7
  ·exact st.s1.at fun o e=>z7 _ o D.l1z D.l1TO D.l1i1 D.l1i2 e
  ·exact st.s2.at fun o e=>z7 _ o D.l2z D.l2TO D.l2i1 D.l2i2 e
 ·refine YS D hz ht st.its st.p1 st.p2 st.s1 st.s2 hx hy fun h' z1 z3 z4 z5 z6 z7=>q h' ⟨.inr ⟨t,true,ot,z1,z7 _ _ c1 c2 c3 ht,c1,c2,c3,c4⟩,z7 _ _ D.TIz D.TIi1 D.TIi2 st.its,z3,z4,?_,?_⟩ z5 z6 fun c o d1 _ d3 d4 e=>z7 c o d1 d3 d4 e
  ·exact st.s1.at fun o e=>z7 _ o D.l1z D.l1i1 D.l1i2 e
  ·exact st.s2.at fun o e=>z7 _ o D.l2z D.l2i1 D.l2i2 e
theorem We {z ti to i1 i2 l1 l2 S:Addr}{i:Nat}{xs ys:Array Value}{Q:Option Value→Shared→Prop}(hh:A.handled=none)(D:ZipApart z ti to i1 i2 l1 l2)(st:ZSt s.heap z ti to i1 i2 l1 l2 S i xs ys)(he:xs[i]?=none∨ys[i]?=none)
 (q:∀h',(∀c o,c≠z→c≠to→c≠i1→c≠i2→s.heap.get? c=some o→h'.get? c=some o)→Q none {s with heap:=h'}):wpAny (model prog w) A (pyNext (.ref z)) Q E s:=by
 rcases st.own with⟨hz,a,b,hO⟩|⟨t,f,ot,hz,ht,c1,c2,c3,c4⟩
 ·exact wpAny_pyNext_zip_end hh D hz st.its hO st.p1 st.p2 st.s1 st.s2 he q
 ·exact Wk hh D hz ht st.its st.p1 st.p2 st.s1 st.s2 he fun h' k=>q h' fun c o d1 _ d3 d4 e=>k c o d1 d3 d4 e
end
structure ZG (xs ys:Array Value)(lo:Addr)(h:Heap)(as:List Addr):Prop where
 rise:as.Pairwise (· < ·)
 above:∀a∈as,lo<a
 pairs:∀(j:Nat) (a:Addr),as[j]?=some a→∃x y,xs[j]?=some x∧ys[j]?=some y∧IsPair h a x y
theorem ZG.there {xs ys:Array Value}{lo:Addr}{h:Heap}{as:List Addr}(g:ZG xs ys lo h as){a:Addr}(ha:a∈as):a<h.objs.size:=by
 obtain⟨j,hj⟩:=List.mem_iff_getElem?.mp ha;obtain⟨_,_,_,_,e⟩:=g.pairs j a hj;exact sag e
theorem YU:typeLookup (.type "zip") "__len__" = pure none:=by rw[typeLookup_type,builtinLookup_eq_fast];kernel_rfl
theorem YT:typeLookup (.type "zip") "__length_hint__" = pure none:=by rw[typeLookup_type,builtinLookup_eq_fast];kernel_rfl
section
variable {prog:Program}{w:World}{A:Around}{s:Shared}{R:Result→Shared→Prop}{xs ys:Array Value}
theorem Wg {z ti to i1 i2 l1 l2 S:Addr}(hh:A.handled=none)(D:ZipApart z ti to i1 i2 l1 l2)(off:∀b∈[z,ti,to,i1,i2,l1,l2],b≠S)(low:∀b∈[z,to,i1,i2],b<S)(hn:min xs.size ys.size≤sizeLine)(res:Value){h₁:Heap}
 (hR:∀h' tk acc c as,(∀b o,b≠S→b∉[z,to,i1,i2]→h₁.get? b=some o→h'.get? b=some o)→h'.get? S=some {cls:=.type "list",dict:=none,data:=.seq acc c,slots:=#[]}→as.length=min xs.size ys.size→ZG xs ys S h' as →
  acc.toList=as.map Value.ref→R (.ok (.ret res)) {s with heap:=h',toks:=tk}) :
 ∀ (k i:Nat) (h:Heap) (tk c:Nat) (acc:Array Value) (as:List Addr),min xs.size ys.size - i=k→i≤min xs.size ys.size→ZSt h z ti to i1 i2 l1 l2 S i xs ys→(∀b o,b≠S→b∉[z,to,i1,i2]→h₁.get? b=some o→h.get? b=some o) →
   h.get? S=some {cls:=.type "list",dict:=none,data:=.seq acc c,slots:=#[]}→acc.toList=as.map Value.ref→as.length=i→ZG xs ys S h as →
   codeAny (model prog w) A (.builtin "list.extend.loop" ⟨[.ref S,.ref z,res],[]⟩) R {s with heap:=h,toks:=tk}:=by
 have hSw:∀b∈[z,to,i1,i2],S≠b:=fun b hb=>sbH (low b hb);have hSn:S∉[z,to,i1,i2]:=fun hb=>hSw S hb rfl;intro k
 induction k with
 | zero=>
   intro i h tk c acc as hk hi st keep hS hacc hal hG;have hin:i=min xs.size ys.size:=by lia
   refine sbA PySem.F.entry_extend_loop ?_;rw[sbv sch _];show wpAny _ A.in1 (pyNext (.ref z) >>= _) _ _ _
   have hend:xs[i]?=none∨ys[i]?=none:=by
    rcases Nat.le_total xs.size ys.size with g|g
    ·exact .inl (sbc (by lia))
    ·exact .inr (sbc (by lia))
   refine saa (We (s:={s with heap:=h,toks:=tk}) (A:=A.in1) hh D st hend fun h' he=>?_);have he':∀b o,b∉[z,to,i1,i2]→h.get? b=some o→h'.get? b=some o:=fun b o hb e=>he b o (fun q=>hb (by simp[q])) (fun q=>hb (by simp[q])) (fun q=>hb (by simp[q])) (fun q=>hb (by simp[q])) e;refine sad (hR h' tk acc c as (fun b o a1 a2 e=>he' b o a2 (keep b o a1 a2 e)) (he' S _ hSn hS) (by lia) ⟨hG.rise,hG.above,fun j a hj=>?_⟩ hacc);obtain⟨x,y,e1,e2,e3⟩:=hG.pairs j a hj;have hab:=hG.above a (saA hj);exact⟨x,y,e1,e2,he' a _ (fun hm=>absurd (low a hm) (Nat.not_lt.mpr (sbO hab))) e3⟩
 | succ k ih=>
   intro i h tk c acc as hk hi st keep hS hacc hal hG;have hlt:i<min xs.size ys.size:=by lia
   have hx:xs[i]?=some (xs[i]'(by lia)):=sav _;have hy:ys[i]?=some (ys[i]'(by lia)):=sav _;have hsz:acc.size=i:=by rw[←Array.length_toList,hacc,sac,hal]
   refine sbA PySem.F.entry_extend_loop ?_;rw[sbv sch _];show wpAny _ A.in1 (pyNext (.ref z) >>= _) _ _ _;refine saa (Wd (s:={s with heap:=h,toks:=tk}) (S:=S) D st (sag hS) hx hy fun h' st' ht hz hkp=>?_);dsimp only at ht hz hkp ⊢;have kp:∀b o,b∉[z,to,i1,i2]→h.get? b=some o→h'.get? b=some o:=fun b o hb e=>hkp b o (fun q=>hb (by simp[q])) (fun q=>hb (by simp[q])) (fun q=>hb (by simp[q])) (fun q=>hb (by simp[q])) e;have hS':=kp S _ hSn hS;have up:∀b o,b≠S→h'.get? b=some o→(h'.update S (Obj.mapSeq (·.push (Value.ref h.objs.size)))).get? b=some o:=fun b o hb e=>(saG _ _ (sce hb)).trans e;have hSl:S<h.objs.size:=sag hS;show wpAny _ A.in1 (updateSeq S (·.push (Value.ref h.objs.size)) >>= _) _ _ _;refine saa ?_
   refine sbY hS' rfl (sad ⟨scp sch _,ih (i+1) _ tk _ (acc.push (Value.ref h.objs.size)) (as++[h.objs.size]) (by lia) hlt (st'.keep up off)
    (fun b o a1 a2 e=>up b o a1 (kp b o a2 (keep b o a1 a2 e))) (saL _ hS' rfl) (by rw[Array.toList_push,hacc,saY];rfl) (by rw[saP,hal];rfl) ⟨?_,?_,?_⟩⟩) (by rw[hsz];lia) (by show(acc.push (Value.ref h.objs.size)).size≤sizeLine+1;rw[Array.size_push,hsz];lia)
   ·refine List.pairwise_append.mpr ⟨hG.rise,List.pairwise_singleton _ _,fun a ha b hb=>?_⟩;rw[saf.mp hb];exact hG.there ha
   ·intro a ha
    rcases sas.mp ha with ha|ha
    ·exact hG.above a ha
    ·rw[saf.mp ha];exact hSl
   ·intro j b hj
    rcases Nat.lt_trichotomy j as.length with g1|g1|g1
    ·rw[saZ g1]at hj;obtain⟨x,y,e1,e2,e3⟩:=hG.pairs j b hj;have hb:=hG.above b (saA hj);exact⟨x,y,e1,e2,up b _ (sbH hb) (kp b _ (fun hm=>absurd (low b hm) (Nat.not_lt.mpr (sbO hb))) e3)⟩
    ·subst g1;have hb:h.objs.size=b:=by simpa using hj
     subst hb;exact⟨_,_,by rw[hal];exact hx,by rw[hal];exact hy,up _ _ (sbH hSl) ht⟩
    ·have hnone:(as++[h.objs.size])[j]?=none:=List.getElem?_eq_none (by rw[saP,List.length_singleton];lia);rw[hnone]at hj;cases hj
end
section
variable {prog:Program}{w:World}{A:Around}{E:Value→Shared→Prop}{s:Shared}{xs ys:Array Value}
theorem Wi {z:Addr}(hT:s.TypeIs (.ref z) "zip") {Q:Bool→Shared→Prop} (h:Q true s):wpAny (model prog w) A (Builtin.List.listLengthHint (.ref z)) Q E s:=by
 unfold Builtin.List.listLengthHint;refine saa (wpAny_specialOf hT YU ?_);refine saa (wpAny_specialOf hT YT ?_);exact sad h
theorem aw {R:Result→Shared→Prop}{z ti to i1 i2 l1 l2 S:Addr}(hh:A.handled=none)(D:ZipApart z ti to i1 i2 l1 l2)(off:∀b∈[z,ti,to,i1,i2,l1,l2],b≠S)(low:∀b∈[z,to,i1,i2],b<S)(hn:min xs.size ys.size≤sizeLine)
 (st:ZSt s.heap z ti to i1 i2 l1 l2 S 0 xs ys) (hz:IsZip s.heap z ti to .none) (res:Value) (c₀:Nat) (hS:s.heap.get? S=some {cls:=.type "list",data:=.seq #[] c₀ })
 (hR:∀h' tk acc c as,(∀b o,b≠S→b∉[z,to,i1,i2]→s.heap.get? b=some o→h'.get? b=some o)→h'.get? S=some {cls:=.type "list",dict:=none,data:=.seq acc c,slots:=#[]}→as.length=min xs.size ys.size→ZG xs ys S h' as →
  acc.toList=as.map Value.ref→R (.ok (.ret res)) {s with heap:=h',toks:=tk}) :
 wpAny (model prog w) A.in1 (Builtin.List.listExtendWith (.ref S) (.ref z) res)
  (fun fin s'=>match fin with| .done f=>R (.ok f) s'| .again c'=>c'.quiet=true∧codeAny (model prog w) A c' R s') (fun e s'=>R (.error e) s') s:=by
 have hT:s.TypeIs (.ref z) "zip" :=⟨_,hz,rfl⟩
 have hzS:S≠z:=sce (off z (by simp));unfold Builtin.List.listExtendWith;refine saa (wpAny_typeOf (T := "zip") hT ?_);have a1:Builtin.List.listSameRef (.ref S) (.ref z)=false:=by simp[Builtin.List.listSameRef,hzS]
 have a2:(Value.type "zip" == Value.type "list")=false:=by decide
 have a3:(Value.type "zip" == Value.type "tuple")=false:=by decide
 simp only[a1,a2,a3,Bool.or_false,sax,if_false];refine saa (wpAny_pyIter_zip hz ?_);refine saa (saM (Wi hT ?_));simp only[Bool.true_or,if_true];refine saa (wpAny_rule ?_);refine saa ?_;show wpAny _ _ (updateSeq S (·.push .none) >>= fun _=>updateSeq S (·.pop)) _ _ _;refine saa (sbY hS rfl ?_);have e2:=saL (Obj.mapSeq (·.push Value.none)) hS rfl;refine sbY (hz:=by seq_fits) e2 rfl ?_;have e3:=saL (Obj.mapSeq (·.pop)) e2 rfl
 have up:∀b o,b≠S→s.heap.get? b=some o→((s.heap.update S (Obj.mapSeq (·.push Value.none))).update S (Obj.mapSeq (·.pop))).get? b=some o:=fun b o hb e=>
  (saG _ _ (sce hb)).trans ((saG _ _ (sce hb)).trans e)
 refine sad ⟨scp sch _,Wg (s:=s) (h₁:=s.heap) hh D off low hn res hR (min xs.size ys.size) 0 _ _ _ #[] [] (Nat.sub_zero _) (saT _) (st.keep up off) (fun b o hb _ e=>up b o hb e) e3 rfl rfl ⟨List.Pairwise.nil,(fun _ ha=>nomatch ha),(fun j a hj=>by simp at hj)⟩⟩
theorem Wh {R:Result→Shared→Prop}{z ti to i1 i2 l1 l2 S:Addr}(hh:A.handled=none)(D:ZipApart z ti to i1 i2 l1 l2)(off:∀b∈[z,ti,to,i1,i2,l1,l2],b≠S)(low:∀b∈[z,to,i1,i2],b<S)(hn:min xs.size ys.size≤sizeLine)
 (st:ZSt s.heap z ti to i1 i2 l1 l2 S 0 xs ys) (hz:IsZip s.heap z ti to .none) (hS:s.heap.get? S=some {cls:=.type "list",data:=.seq #[]})
 (hR:∀h' tk acc c as,(∀b o,b≠S→b∉[z,to,i1,i2]→s.heap.get? b=some o→h'.get? b=some o)→h'.get? S=some {cls:=.type "list",dict:=none,data:=.seq acc c,slots:=#[]}→as.length=min xs.size ys.size→ZG xs ys S h' as →
  acc.toList=as.map Value.ref→R (.ok (.ret .none)) {s with heap:=h',toks:=tk}) :
 wpAny (model prog w) A.in1 (Builtin.«list.__init__» ⟨[.ref S,.ref z],[]⟩)
  (fun fin s'=>match fin with| .done f=>R (.ok f) s'| .again c'=>c'.quiet=true∧codeAny (model prog w) A c' R s') (fun e s'=>R (.error e) s') s:=by
 show wpAny _ _ (do let was ← Builtin.List.listItems (.ref S);Builtin.List.listUpdate (.ref S) (fun _=>#[]);letGo was.toList.reverse;Builtin.List.listExtendWith (.ref S) (.ref z) .none) _ _ s;refine saa ?_;unfold Builtin.List.listItems;refine saa (sbf hS rfl (sad ?_));show wpAny _ _ (updateSeq S (fun _=>#[]) >>= fun _=>letGo (#[]:Array Value).toList.reverse >>= fun _=>Builtin.List.listExtendWith (.ref S) (.ref z) .none) _ _ s;refine saa (sbY hS rfl ?_);have e2:=saL (Obj.mapSeq (fun _=>(#[]:Array Value))) hS rfl;have up:∀b o,b≠S→s.heap.get? b=some o→(s.heap.update S (Obj.mapSeq (fun _=>(#[]:Array Value)))).get? b=some o:=fun b o hb e=>(saG _ _ (sce hb)).trans e;refine saa (scn ?_);exact aw hh D off low hn (st.keep up off) (up _ _ (off z (by simp)) hz) .none _ e2 fun h' tk acc c as k e l g a=>hR h' tk acc c as (fun b o hb hn e=>k b o hb hn (up b o hb e)) e l g a
theorem Wj {Q:Value→Shared→Prop}{z ti to i1 i2 l1 l2:Addr}{a b:Value}(hh:A.handled=none)(D:ZipApart z ti to i1 i2 l1 l2)(hn:min xs.size ys.size≤sizeLine)
 (hz:IsZip s.heap z ti to .none) (hI:IsPair s.heap ti (.ref i1) (.ref i2)) (hO:IsPair s.heap to a b) (g1:s.heap.IsListIter i1 l1 0) (g2:s.heap.IsListIter i2 l2 0) (hl1:s.heap.IsList l1 xs) (hl2:s.heap.IsList l2 ys)
 (hQ:∀h' tk acc c as,(∀b o,b∉[z,to,i1,i2]→s.heap.get? b=some o→h'.get? b=some o)→h'.get? s.heap.objs.size=some {cls:=.type "list",dict:=none,data:=.seq acc c,slots:=#[]}→as.length=min xs.size ys.size→ZG xs ys s.heap.objs.size h' as →
  acc.toList=as.map Value.ref→Q (.ref s.heap.objs.size) {s with heap:=h',toks:=tk}) :
 wpAny (model prog w) A (call (.type "list") [.ref z]) Q E s:=by
 refine callType_codes (Q₁:=fun obj s₁=>obj=.ref s.heap.objs.size∧s₁={s with heap:=s.heap.push {cls:=.type "list",data:=.seq #[]}}) PySem.F.called_list (PySem.F.typeCall_list_1 _) PySem.F.entry_list_init
  (code_list_new _ ⟨rfl,rfl⟩) fun obj s₁ e=>?_
 obtain⟨rfl,rfl⟩:=e;have hS:(s.heap.push {cls:=.type "list",data:=.seq #[]}).get? s.heap.objs.size=some {cls:=.type "list",data:=.seq #[]}:=saq _ rfl;have lt:∀{c o},s.heap.get? c=some o→c<s.heap.objs.size:=fun e=>sag e
 have low7:∀b∈[z,ti,to,i1,i2,l1,l2],b<s.heap.objs.size:=by
  intro b hb;simp at hb
  rcases hb with rfl|rfl|rfl|rfl|rfl|rfl|rfl
  ·exact lt hz
  ·exact lt hI
  ·exact lt hO
  ·obtain⟨_,e,_⟩:=g1;exact lt e
  ·obtain⟨_,e,_⟩:=g2;exact lt e
  ·obtain⟨_,e,_⟩:=hl1;exact lt e
  ·obtain⟨_,e,_⟩:=hl2;exact lt e
 have hz':IsZip (s.heap.push {cls:=.type "list",data:=.seq #[]}) z ti to .none:=sab _ hz
 refine⟨⟨_,hS,rfl⟩,PySem.F.args_list_init_2 _ _,Wh (A:=A.in1) hh D (fun b hb=>saz (low7 b hb)) (fun b hb=>low7 b (by simp at hb ⊢;rcases hb with q|q|q|q <;> simp[q])) hn
  ⟨.inl ⟨hz',a,b,sab _ hO⟩,sab _ hI,g1.at fun o e=>sab _ e,g2.at fun o e=>sab _ e,hl1.push _,hl2.push _⟩ hz' hS fun h' tk acc c as k e l g ac=>?_⟩
 exact⟨rfl,hQ h' tk acc c as (fun b o hb e=>k b o (saz (sag e)) hb (sab _ e)) e l g ac⟩
end
noncomputable def rC (H:Hp):List Addr→List (V×V)→Hp
 |a::as,q::qs=>yo (rC H as qs) a (.tup [q.1,q.2])
 |_,_=>H
theorem v5 {H:Hp}:∀{as:List Addr} {qs:List (V×V)} {b:Addr},b∉as→rC H as qs b=H b
 |[],_,b,_=>rfl
 |a::as,[],b,_=>rfl
 | a::as,q::qs,b,h=>by
   have h1:b≠a:=fun z=>h (by rw[z];exact saw);have h2:b∉as:=fun z=>h (sao _ z);unfold rC;rw[zx h1,v5 h2]
theorem Ys {H:Hp}:∀{as:List Addr} {qs:List (V×V)} {j:Nat} {a:Addr} {q:V×V},as.Nodup→as[j]?=some a→qs[j]?=some q→rC H as qs a=some (.tup [q.1,q.2])
 |[],_,j,a,q,_,h,_=>by simp at h
 |a'::as,[],j,a,q,_,_,h=>by simp at h
 | a'::as,q'::qs,0,a,q,hn,h1,h2=>by
   simp at h1 h2;subst h1;subst h2;exact zH
 | a'::as,q'::qs,j+1,a,q,hn,h1,h2=>by
   have hn':=sbm.mp hn;have hm:a∈as:=saA (by simpa using h1);have hne:a≠a':=fun z=>hn'.1 (z ▸ hm);unfold rC;rw[zx hne];exact Ys hn'.2 (by simpa using h1) (by simpa using h2)
theorem lA {K:Frag}:∀{as:List Addr} {qs:List (V×V)} {G H:Hp},zI G H→as.length=qs.length→as.Nodup→(∀a∈as,H a=none)→Gw G H (rC G as qs) (rC H as qs)∧zI (rC G as qs) (rC H as qs)
 |[],_,G,H,l,_,_,_=>⟨Gw.refl _ _,l⟩
 |a::as,[],G,H,l,e,_,_=>by cases e
 | a::as,q::qs,G,H,l,e,hn,hf=>by
   have hn':=sbm.mp hn;have ih:=lA (K:=K) (as:=as) (qs:=qs) l (by simpa using e) hn'.2 fun b hb=>hf b (sao _ hb);have ha:rC H as qs a=none:=by rw[v5 hn'.1];exact hf a saw
   have g:=Gw.laidT (o:=.tup [q.1,q.2]) ih.2 ha;exact⟨ih.1.trans g.1,g.2⟩
@[simp] noncomputable def Rb:D→D→Out Val
  | .l ds,.l es=>.ok (.fresh ((ds.zip es).map fun p=>.tup [p.1,p.2]))
  |_,_=>.bad
noncomputable def Wv (ta:TA):TE:=fun σ H Q=>ta σ H fun vs H1=>∃(a b:Addr) (xs ys:List V),vs=[.ref a,.ref b]∧H1 a=some (.l xs)∧H1 b=some (.l ys) ∧
 ∀(l:Addr) (as:List Addr),H1 l=none→as.length=(xs.zip ys).length→as.Nodup→(∀p∈as,H1 p=none∧p≠l)→Q (.ref l) (yo (rC H1 as (xs.zip ys)) l (.l (as.map V.ref)))
theorem cF:∀l:List Addr,ym (l.map V.ref) (l.map Value.ref)
 |[]=>.nil
 |a::l=>.cons rfl (cF l)
theorem Ol (n a b:Nat)(ha:a<n)(hb:b<n):ZipApart (n+4) (n+2) (n+3) n (n+1) a b:=by
 constructor <;> (refine fun(z:(_:Nat)=_)=>?_;lia)
theorem Pn {n c:Nat}(h:c<n):c∉[n+4,n+3,n,n+1]:=by
 simp;lia
theorem aO {X:Cx}{p p2 pos pos2:Pos}{e1 e2:Expr}{ta:TA}(hc:X.calm=true)(ha:PA X [e1,e2] ta)(hml:X.mg "list" = none) (hmz:X.mg "zip" = none) (hgl:Gl X "list" :=by rfl) (hgz:Gl X "zip" :=by rfl)
 (hs:starEach [.Call (.Name "zip" p2) [e1,e2] [] pos2] X.env=[(false,eval (.Call (.Name "zip" p2) [e1,e2] [] pos2) X.env)]:=by rfl)
 (hs2:starEach [e1,e2] X.env=(false,eval e1 X.env)::starEach [e2] X.env:=by rfl) (hs3:starEach [e2] X.env=[(false,eval e2 X.env)]:=by rfl) :
 PE X (.Call (.Name "list" p) [.Call (.Name "zip" p2) [e1,e2] [] pos2] [] pos) (Wv ta):=by
 intro pins s σ H Q I h;refine sbB (sR I hgl hml boot_list (sbd ?_ (by rw[hs];rfl) rfl));rw[hs];refine Calls.spliced_cons (sbB (sR I hgz hmz boot_zip (sbd (xU (ha pos2 pins s σ H _ I h) fun us s1 ⟨vs,H1,I1,r1,q1⟩=>?_) hs2 (by rw[hs3];rfl))));obtain⟨a,b,xs,ys,rfl,ea,eb,q⟩:=q1;obtain⟨ua,ub,rfl,ra,rb⟩:=gU r1;cases(show ua=.ref a from ra);cases(show ub=.ref b from rb);obtain⟨za,ia,na,va,la,ha1⟩:=I1.lstM ea;obtain⟨zb,ib,nb,vb,lb,hb1⟩:=I1.lstM eb
 have hl1:s1.heap.IsList a ia.toArray:=⟨_,ha1,rfl,_,rfl⟩
 have hl2:s1.heap.IsList b ib.toArray:=⟨_,hb1,rfl,_,rfl⟩
 have alt:=sag ha1;have blt:=sag hb1;refine call_zip_2 hl1 hl2 fun h2 hz hI hO g1 g2 hsz k2=>?_;refine Calls.spliced_nil ?_;have D:ZipApart (s1.heap.objs.size+4) (s1.heap.objs.size+2) (s1.heap.objs.size+3) s1.heap.objs.size (s1.heap.objs.size+1) a b:=Ol _ _ _ alt blt;have hmin:min ia.toArray.size ib.toArray.size=(xs.zip ys).length:=by simp[la,lb]
 refine Wj (I1.ok.hd hc) D (by rw[hmin];simp;lia) hz hI hO g1 g2 (hl1.at fun o e=>k2 _ _ e) (hl2.at fun o e=>k2 _ _ e) fun h' tk acc c as k3 hS hl hG hacc=>?_;have hk:∀b o,s1.heap.get? b=some o→h'.get? b=some o:=fun c o e=>k3 c o (Pn (sag e)) (k2 c o e);have hnd:as.Nodup:=hG.rise.imp fun h=>saz h;have hsz':s1.heap.objs.size<h2.objs.size:=by lia
 have hn:∀a,s1.heap.objs.size≤a→H1 a=none:=fun a ha=>I1.hok.fresh ha;have hab:∀a∈as,h2.objs.size<a:=hG.above
 have hnl:∀a∈as,H1 a=none∧a≠h2.objs.size:=fun a ha=>⟨hn a (sbO (Nat.lt_trans hsz' (hab a ha))),sbH (hab a ha)⟩
 have fin:=q h2.objs.size as (hn _ (by lia)) (by rw[hl,hmin]) hnd hnl
 have hlow:∀b,b<s1.heap.objs.size→yo (rC H1 as (xs.zip ys)) h2.objs.size (.l (as.map V.ref)) b=H1 b:=fun b hb=>by
  rw[zx (saz (Nat.lt_trans hb hsz')),v5 fun hm=>absurd (Nat.lt_trans hb hsz') (Nat.not_lt.mpr (sbO (hab b hm)))]
 have hsame:zI H1 (yo (rC H1 as (xs.zip ys)) h2.objs.size (.l (as.map V.ref))):=fun b o e=>by
  have hb:b<s1.heap.objs.size:=by
   rcases Nat.lt_or_ge b s1.heap.objs.size with hlt|hge
   ·exact hlt
   ·rw[hn b hge]at e;cases e
  rw[hlow b hb];exact e
 refine⟨.ref h2.objs.size,yo (rC H1 as (xs.zip ys)) h2.objs.size (.l (as.map V.ref)),?_,rfl,fin⟩;show Inv X pins σ _ {s1 with heap:=h',toks:=tk};refine Inv.many I1 hk hsame (fun b hb e=>by rw[hlow b hb];exact e) fun b o hb e=>?_;by_cases hbl:b=h2.objs.size
 ·subst hbl;rw[zH]at e;cases e;refine⟨by rw[sac,hl,hmin];simp;lia,as.map Value.ref,c,cF as,?_⟩;rw[←hacc];simpa using hS
 ·rw[zx hbl]at e;by_cases hm:b∈as
  ·obtain⟨j,hj⟩:=saQ hm;obtain⟨x,y,hx,hy,ht⟩:=hG.pairs j b hj;have hx':ia[j]?=some x:=by simpa using hx
   have hy':ib[j]?=some y:=by simpa using hy
   have jl:j<xs.length:=by rw[la];exact(saj.mp hx').1
   have jr:j<ys.length:=by rw[lb];exact(saj.mp hy').1
   obtain⟨x2,ex2,rx⟩:=va.get (sae jl);obtain⟨y2,ey2,ry⟩:=vb.get (sae jr);have e1:x2=x:=saE (ex2.symm.trans hx');have e2:y2=y:=saE (ey2.symm.trans hy');subst e1;subst e2;have hq:(xs.zip ys)[j]?=some (xs[j],ys[j]):=by simp[List.getElem?_zip_eq_some,jl,jr]
   rw[Ys hnd hj hq]at e;cases e;exact⟨by show 2≤sizeLine;rw[sizeLine_eq];lia,[x2,y2],.cons rx (.cons ry .nil),⟨_,ht,rfl,_,rfl⟩⟩
  ·rw[v5 hm,hn b hb]at e;cases e
theorem ZS {K:Frag}{G:Hp}:∀{as:List Addr} {ds es:List D} {xs ys:List V},zO K G ds xs→zO K G es ys→as.length=(xs.zip ys).length→as.Nodup→(∀a∈as,G a=none) →
 zO K (rC G as (xs.zip ys)) ((ds.zip es).map fun p=>.tup [p.1,p.2]) (as.map V.ref)
 |[],[],es,xs,ys,r1,r2,hl,hn,hf=>by simp;exact zO.nil
 |[],d::ds,[],xs,ys,r1,r2,hl,hn,hf=>by simp;exact zO.nil
 | [],d::ds,e::es,xs,ys,r1,r2,hl,hn,hf=>by
   have l1:=r1.length;have l2:=r2.length;simp at l1 l2 hl;lia
 |a::as,ds,es,[],ys,r1,r2,hl,hn,hf=>by simp at hl
 |a::as,ds,es,x::xs,[],r1,r2,hl,hn,hf=>by simp at hl
 |a::as,[],es,x::xs,y::ys,r1,r2,hl,hn,hf=>by have:=r1.length;simp at this
 |a::as,d::ds,[],x::xs,y::ys,r1,r2,hl,hn,hf=>by have:=r2.length;simp at this
 | a::as,d::ds,e::es,x::xs,y::ys,r1,r2,hl,hn,hf=>by
   obtain⟨v,vs,ev,h1,t1⟩:=r1;cases ev;obtain⟨u,us,eu,h2,t2⟩:=r2;cases eu;have hn':=sbm.mp hn;have hl':as.length=(xs.zip ys).length:=by simpa using hl
   have ih:=ZS t1 t2 hl' hn'.2 fun b hb=>hf b (sao _ hb);have ha:rC G as (xs.zip ys) a=none:=by rw[v5 hn'.1];exact hf a saw
   have g:=(lA (K:=K) (as:=as) (qs:=xs.zip ys) (zI.refl G) hl' hn'.2 fun b hb=>hf b (sao _ hb)).1.g;have g2:zI (rC G as (xs.zip ys)) (yo (rC G as (xs.zip ys)) a (.tup [x,y])):=fun b o q=>by rw[zx (zz q ha)];exact q
   show zO K (yo (rC G as (xs.zip ys)) a (.tup [x,y])) (.tup [d,e]::_) (.ref a::as.map V.ref);refine zO.cons ⟨a,[x,y],rfl,zH,zO.cons ((h1.mono g).mono g2) (zO.cons ((h2.mono g).mono g2) zO.nil)⟩ (ih.mono g2)
theorem ZA {X:Cx}{G₀ H₀:Hp}{p p2 pos pos2:Pos}{e1 e2:Expr}{f1 f2':FE}(h1:DE X G₀ H₀ e1 f1)(h2:DE X G₀ H₀ e2 f2')(hml:X.mg "list" = none) (hmz:X.mg "zip" = none) (hc:X.calm=true:=by rfl) (hgl:Gl X "list" :=by rfl) (hgz:Gl X "zip" :=by rfl)
 (hs:starEach [.Call (.Name "zip" p2) [e1,e2] [] pos2] X.env=[(false,eval (.Call (.Name "zip" p2) [e1,e2] [] pos2) X.env)]:=by rfl)
 (hs2:starEach [e1,e2] X.env=(false,eval e1 X.env)::starEach [e2] X.env:=by rfl) (hs3:starEach [e2] X.env=[(false,eval e2 X.env)]:=by rfl) :
 DE X G₀ H₀ (.Call (.Name "list" p) [.Call (.Name "zip" p2) [e1,e2] [] pos2] [] pos) (f2 Rb f1 f2') :=
 (aO hc (zM h1 (zM h2 yw hs3) hs2) hml hmz hgl hgz hs hs2 hs3).imp fun σ H Q q=>by
  obtain⟨env,G,val,I,e,k⟩:=q;obtain⟨x,ex,e⟩:=zv e;obtain⟨y,ey,e⟩:=zv e;refine aC I ex ey fun v u G' H' g l I' o1 o2=>?_;unfold Rb at e;split at e
  ·rename_i ds es hd he;cases e;rw[hd]at o1;rw[he]at o2;obtain⟨a,xs,rfl,ha,ra⟩:=ur.l I' o1;obtain⟨b,ys,rfl,hb,rb⟩:=ur.l I' o2;refine⟨a,b,xs,ys,rfl,ha,hb,fun p as hp hal hnd hfr=>?_⟩;have gl:=lA (K:=X.K) (as:=as) (qs:=xs.zip ys) l hal hnd fun b hb=>(hfr b hb).1;have hpl:rC H' as (xs.zip ys) p=none:=by rw[v5 fun hm=>(hfr p hm).2 rfl];exact hp
   have g1:=Gw.laidL (o:=.l (as.map V.ref)) gl.2 hpl;refine k _ _ _ ((g.trans gl.1).trans g1.1) g1.2 ?_;refine⟨p,as.map V.ref,rfl,df g.h hp,zH,gl.2.free hpl,ZS ra rb hal hnd fun b hb=>l.free (hfr b hb).1⟩
  ·cases e
noncomputable def Q7 (K:Frag)(l:Addr)(n:Nat):It :=
 ⟨fun i H=>∃xs,wx K H l xs∧xs.length=n∧i<n,fun i H x H'=>H'=H∧∀xs,wx K H l xs→xs[n - 1 - i]?=some x,fun i _=>n≤i⟩
theorem cI {P:Program}{w:World}{K:Frag}{tg:Expr}(l it:Addr)(n:Nat):Turn P w K tg (Q7 K l n) [it] it (fun i h=>i≤n∧h.IsRevIter it l ((n:Int) - 1 - (i:Int))) where
 mem:=by simp
 obj:=fun i h st b hb=>by
  have e:b=it:=by simpa using hb
  subst e;obtain⟨_,o,e,c,d⟩:=st;exact⟨o,e,fun v z=>by rw[d]at z;cases z⟩
 keep:=fun i h h' st k=>⟨st.1,st.2.at fun o e=>k it (by simp) o e⟩
 item:=by
  intro X hP hw hK hc i pins s σ H E I hf st hg;subst hP hw hK;obtain⟨xs,hq,hn,hi⟩:=hg;have hx:xs[n - 1 - i]?=some (xs[n - 1 - i]'(by lia)):=sae _;obtain⟨its,rv,p,hz⟩:=I.list hq;obtain⟨u,hu,ru⟩:=rv.get hx;obtain⟨f0,f1,f2,f3,f4,f5⟩:=hf it (by simp);have en:(n:Int) - 1 - (i:Int)=((n - 1 - i:Nat):Int):=by lia
  have hit:=st.2;rw[en]at hit;refine wpAny_pyNext_rev_item hit p.isList (x:=u) (by simpa using hu) fun h' st' sb=>?_;have en2:((n - 1 - i:Nat):Int) - 1=(n:Int) - 1 - ((i+1:Nat):Int):=by lia
  rw[en2]at st';have I1:Inv X pins σ H {s with heap:=h'}:=I.turned (t':=s.toks) (fun b o hb e=>(sb.2 b hb).trans e) f0 f1 f3 f4 f5;obtain⟨o,e,c,d⟩:=id st';exact⟨u,rfl,Vy (s:={s with heap:=h'}) e c d (by decide) ⟨_,H,I1,ru,⟨rfl,fun ys hy=>by rw[I.list_inj hy hq];exact hx⟩,⟨hi,st'⟩,fun b hb=>(hf b hb).1⟩⟩
 done:=by
  intro X hP hw hK hc i pins s σ H E I hf st hg;subst hP hw hK;obtain⟨f0,f1,f2,f3,f4,f5⟩:=hf it (by simp);have hn:n≤i:=hg;have en:(n:Int) - 1 - (i:Int) = -1:=by have:=st.1;lia
  have hit:=st.2;rw[en]at hit
  exact wpAny_pyNext_rev_end (I.ok.hd hc) hit fun h' eb=>⟨rfl,I.turned (t':=s.toks) (fun b o hb e=>eb b o hb e) f0 f1 f3 f4 f5⟩
 self:=fun _ _ _ _ _ st h=>wpAny_pyIter_revIter st.2 h
noncomputable def Pr (K:Frag)(ta:TA):TI:=fun σ H R=>ta σ H fun vs H1=>∃a xs,vs=[.ref a]∧H1 a=some (.l xs)∧R (Q7 K a xs.length) H1
theorem SC {X:Cx}{tg:Expr}{p cpos:Pos}{l:Expr}{ta:TA}(hm:X.mg "reversed" = none) (ha:PA X [l] ta) (hg:Gl X "reversed" :=by rfl) (hs:starEach [l] X.env=[(false,eval l X.env)]:=by rfl):PI X tg (.Call (.Name "reversed" p) [l] [] cpos) (Pr X.K ta):=by
 intro pins s σ H R I h;refine Call_ (sR I hg hm boot_reversed (sbd (xU (ha cpos pins s σ H _ I h) fun us s1 ⟨vs,H1,I1,r1,q1⟩=>?_) hs rfl));obtain⟨a,xs,rfl,hH,q⟩:=q1;obtain⟨u,rfl,r2⟩:=q8 r1;cases(show u=.ref a from r2);obtain⟨z,its,n,rv,hlen,e⟩:=I1.lstM hH
 have hl:s1.heap.IsList a its.toArray:=⟨_,e,rfl,_,rfl⟩
 refine call_reversed_list hl ?_;have I2:Inv X pins σ H1 {s1 with heap:=s1.heap.push (revObj a ((its.toArray.size:Int) - 1)),toks:=s1.toks}:=I1.kept (t':=s1.toks) fun b o e=>sab _ e
 have hit:(s1.heap.push (revObj a ((its.toArray.size:Int) - 1))).IsRevIter s1.heap.objs.size a ((xs.length:Int) - 1 - ((0:Nat):Int)):=⟨_,saq _ rfl,rfl,by simp[revObj,hlen]⟩
 refine wpAny_pyIter_revIter hit ?_;refine⟨s1.heap.objs.size,[s1.heap.objs.size],_,Q7 X.K a xs.length,H1,rfl,I2,cI a _ xs.length,⟨saT _,hit⟩,fun b hb=>?_,q⟩;have e:b=s1.heap.objs.size:=by simpa using hb
 subst e;exact I1.fpOk (Nat.le_refl _) (I1.hok.fresh (Nat.le_refl _))
theorem U7 {K:Frag}{G:Hp}{a:Addr}{ds:List D}{vs:List V}(h:wx K G a vs)(r:zO K G ds vs):JOk K (Q7 K a vs.length) G ds.reverse where
 go:=fun i G' H' s l hi=>by
  rw[scq,r.length]at hi;exact⟨vs,l.seq (s.seq h),rfl,hi⟩
 stop:=fun i G' H' s l hi=>by
  rw[scq,r.length]at hi;exact hi
 yld:=fun i G' H' x H1 s l hi y=>by
  obtain⟨e,y⟩:=y;subst e;rw[scq]at hi;have hx:=y vs (l.seq (s.seq h));rw[←r.length]at hx;obtain⟨d,h1,h2⟩:=r.get' hx;exact⟨d,G',by rw[List.getElem?_reverse hi];exact h1,Gw.refl _ _,l,h2.mono s⟩
@[simp] noncomputable def Rg (f:FE):FI:=fun env=>(f env).bind fun x=>x.hold.bind fun d=>match d with
  | .l ds=>.ok ds.reverse
  |_=>.bad
theorem Rm {X:Cx}{G₀ H₀:Hp}{tg:Expr}{p cpos:Pos}{l:Expr}{f:FE}(hm:X.mg "reversed" = none) (hl:DE X G₀ H₀ l f) (hg:Gl X "reversed" :=by rfl) (hs:starEach [l] X.env=[(false,eval l X.env)]:=by rfl) :
 TN X G₀ H₀ tg (.Call (.Name "reversed" p) [l] [] cpos) (Rg f):=(SC hm (zM hl yw hs) hg hs).imp fun σ H R q=>by
 obtain⟨env,G,ds,I,e,k⟩:=q;obtain⟨x,e1,e⟩:=zv e;obtain⟨d,e2,e⟩:=zv e;refine⟨env,G,x,I,e1,fun v G' H' g l h=>?_⟩;obtain⟨G2,g2,l2,h2⟩:=kQ g l h e2;split at e
 ·cases e;obtain⟨a,vs,rfl,h3,r3⟩:=h2;exact⟨a,vs,rfl,l2 _ _ h3,k _ G2 H' g2 l2 (U7 (wx.of h3) r3)⟩
 ·cases e
theorem int_at {its:List Value}{ns:List Int}(h:IntsAre its ns){i:Nat}{v:Value}(e:its[i]?=some v):∃t,v=.int (ns.getD i 0) t:=IntsAre.int_at h i v e
@[simp] noncomputable def oU (b a:Int):Int:=if a>b then a else b
@[simp] noncomputable def q_ (b a:Int):Int:=if a<b then a else b
noncomputable def Ov:{f:String→PySem.Builtin // f "max" = PySem.Builtin.«max» }:=by
 refine⟨?f,?h⟩
 case h=>unfold PySem.Builtin.«max»;exact rfl
noncomputable def Ou:{f:String→CmpOp→PySem.Builtin // f "max" .Gt=PySem.Builtin.«max.loop» }:=by
 refine⟨?f,?h⟩
 case h=>unfold PySem.Builtin.«max.loop»;exact rfl
structure MM (nm ln:String)(op:CmpOp)(st:Int→Int→Int)(lt:Int→Int→Bool):Prop where
 eB:entryFor table nm=some (Ov.1 nm)
 eL:entryFor table ln=some (Ou.1 nm op)
 pB:plainId nm=true
 pL:plainId ln=true
 kB:builtinKind nm=none
 eq:(toString nm++toString ".loop" : String)=ln
 cmp:∀(prog:Program) (w:World) (A:Around) (P:Nat→Value→Prop) (val:Nat→Int),(∀i v,P i v→∃t,v=Value.int (val i) t)→CmpOf prog w A op P fun i j=>lt (val i) (val j)
 stp:∀b a,st b a=if lt a b=true then a else b
 n1:Str.ofString nm≠Str.ofString "__name__"
 n2:(Str.ofString nm == Str.ofString "__debug__")=false
 a1:∀x,argsOk nm ⟨[x],[]⟩
 a2:∀x v,argsOk nm ⟨[x],[(Str.ofString "default",v)]⟩
theorem Qm:MM "max" "max.loop" .Gt oU fun a b=>decide (a>b):=⟨PySem.F.entry_max,PySem.F.entry_max_loop,PySem.F.plain_max,PySem.F.plain_max_loop,PySem.F.kind_max,by decide,fun _ _ _ _ v h=>CmpOf.ints_gt v h,fun b a=>by simp,by decide,by decide,fun x=>by unfold argsOk;kernel_rfl,fun x v=>by unfold argsOk;kernel_rfl⟩
theorem Ql:MM "min" "min.loop" .Lt q_ fun a b=>decide (a<b):=⟨PySem.F.entry_min,PySem.F.entry_min_loop,PySem.F.plain_min,PySem.F.plain_min_loop,PySem.F.kind_min,by decide,fun _ _ _ _ v h=>CmpOf.ints_lt v h,fun b a=>by simp,by decide,by decide,fun x=>by unfold argsOk;kernel_rfl,fun x v=>by unfold argsOk;kernel_rfl⟩
section
variable {nm ln:String}{op:CmpOp}{st:Int→Int→Int}{lt:Int→Int→Bool}
section
variable {prog:Program}{w:World}{A:Around}{s:Shared}{R:Result→Shared→Prop}{I l S:Addr}{its:List Value}{ns:List Int}
theorem Ox (M:MM nm ln op st lt)(hh:A.handled=none)(hi:IntsAre its ns)(hlen:its.length=ns.length)(hlI:l≠I)(hSI:S≠I)(hSl:S≠l)(kw:List (Str×Value)){h₁:Heap}
 (q:∀h' tk' t,(∀b o,b≠S→b≠I→h₁.get? b=some o→h'.get? b=some o)→∀b,(∃k,0<k∧k≤ns.length∧b=(ns.drop k).foldl st ((ns.take k).tail.foldl st (ns.getD 0 0)))→R (.ok (.ret (.int b t))) {s with heap:=h',toks:=tk'}) :
 ∀ (r j:Nat) (h:Heap) (tk:Nat) (b:Int) (tb:Tok) (c:Nat),ns.length - j=r→0<j→j≤ns.length→h.IsListIter I l j→h.IsList l its.toArray→b=(ns.take j).tail.foldl st (ns.getD 0 0)→(∀b o,b≠S→b≠I→h₁.get? b=some o→h.get? b=some o) →
   h.get? S=some {cls:=.type "list",dict:=none,data:=.seq #[.int b tb,.int b tb] c,slots:=#[]} →
   codeAny (model prog w) A (.builtin ln ⟨[.ref I,.none,.ref S],kw⟩) R {s with heap:=h,toks:=tk}:=by
 intro r
 induction r with
 | zero=>
   intro j h tk b tb c hr j0 hj hit hl hb keep hS;have hin:j=ns.length:=by lia
   refine sbA M.eL ?_;rw[sbv M.pL _];show wpAny _ A.in1 (seqItems? (.ref S) >>= _) _ _ _;refine saa (sbf hS rfl ?_);show wpAny _ A.in1 (tryCatch (pyNext (.ref I)) _ >>= _) _ _ _;refine saa (wpAny_tryCatch (wpAny_pyNext_list_end (s:={s with heap:=h,toks:=tk}) (A:=A.in1) hh hit hl (sbc (by simp;lia)) fun h' he=>?_));have hS':=he S _ hSI hS;show wpAny _ A.in1 (updateSeq S (fun _=>#[]) >>= _) _ _ _;refine saa ?_;refine sbY hS' rfl (saa (scn (sad ?_)));refine q _ tk tb (fun d o d1 d2 e=>(saG _ _ (sce d1)).trans (he d o d2 (keep d o d1 d2 e))) b ⟨j,j0,hj,?_⟩;rw[hin,List.drop_length,List.foldl_nil,←hin];exact hb
 | succ r ih=>
   intro j h tk b tb c hr j0 hj hit hl hb keep hS;have hlt:j<ns.length:=by lia
   have hx:its.toArray[j]?=some (its[j]'(by lia)):=by simp[show j<its.length by lia]
   obtain⟨t,et⟩:=int_at hi (i:=j) (v:=its[j]'(by lia)) (sae _);have eg:ns.getD j 0=ns[j]:=by simp[hlt]
   have step:(ns.take (j+1)).tail.foldl st (ns.getD 0 0)=st b (ns.getD j 0):=by
    rw[sbJ hlt,List.tail_append_of_ne_nil (by
     intro z
     rcases List.take_eq_nil_iff.mp z with z|z
     ·lia
     ·rw[z]at hlt;simp at hlt),scl,←hb,eg]
    rfl
   refine sbA M.eL ?_;rw[sbv M.pL _];show wpAny _ A.in1 (seqItems? (.ref S) >>= _) _ _ _;refine saa (sbf hS rfl ?_);show wpAny _ A.in1 (tryCatch (pyNext (.ref I)) _ >>= _) _ _ _;refine saa (wpAny_tryCatch (wpAny_pyNext_list_item (s:={s with heap:=h,toks:=tk}) (A:=A.in1) hit hl hx fun h' hit' hs'=>?_));rw[et];have hs2:Heap.SameBut I h h':=hs';have hS':=hs2.extBut S _ hSI hS;have hl':h'.IsList l its.toArray:=hl.at fun o e=>hs2.extBut l o hlI e;show wpAny _ A.in1 (tryCatch (holding [Value.int (ns.getD j 0) t,Value.int (ns.getD j 0) t] (richCompare op (Value.int (ns.getD j 0) t) (.int b tb) >>= _)) _ >>= _) _ _ _;have hcmp:=M.cmp prog w A.in1 (fun i v=>v=.int (if i=1 then ns.getD j 0 else b) (if i=1 then t else tb)) (fun i=>if i=1 then ns.getD j 0 else b) (fun i v e=>⟨_,e⟩);refine saa (wpAny_tryCatch (saM (saa (hcmp 1 0 _ _ _ _ _ rfl rfl ?_))));refine saa (saM (sbg ?_));refine saa (scn (sad ?_));have keep':∀d o,d≠S→d≠I→h₁.get? d=some o→h'.get? d=some o:=fun d o d1 d2 e=>hs2.extBut d o d2 (keep d o d1 d2 e);simp only[if_true,show ¬(0:Nat)=1 from by lia,if_false];by_cases hgt:lt (ns.getD j 0) b=true
   ·rw[sak hgt];refine saa ?_;refine sbY hS' rfl (saa (scn ?_));rw[M.eq]
    refine sad ⟨scp M.pL _,ih (j+1) _ _ (ns.getD j 0) t _ (by lia) (by lia) hlt (hit'.at fun o e=>(saG _ _ hSI).trans e) (hl'.at fun o e=>(saG _ _ hSl).trans e) (by rw[step,M.stp,sak hgt])
     (fun d o d1 d2 e=>(saG _ _ (sce d1)).trans (keep' d o d1 d2 e)) (saL _ hS' rfl)⟩
   ·rw[sal hgt];refine saa (scn ?_);rw[M.eq];exact sad ⟨scp M.pL _,ih (j+1) _ _ b tb _ (by lia) (by lia) hlt hit' hl' (by rw[step,M.stp,sal hgt]) keep' hS'⟩
end
noncomputable def bV (st:Int→Int→Int):List Int→Option Int
 |[]=>none
 |n::ns=>some (ns.foldl st n)
noncomputable def nz:List Int→Option Int
 |[]=>none
 |n::ns=>some (ns.foldl oU n)
noncomputable def ny:List Int→Option Int
 |[]=>none
 |n::ns=>some (ns.foldl q_ n)
theorem R9 {ns:List Int}{b:Int}(h:∃k,0<k∧k≤ns.length∧b=(ns.drop k).foldl st ((ns.take k).tail.foldl st (ns.getD 0 0))):bV st ns=some b:=by
 obtain⟨k,h0,hk,rfl⟩:=h
 cases ns with
 |nil=>simp at hk;lia
 | cons n r=>
   obtain⟨m,rfl⟩:∃m,k=m+1:=⟨k - 1,by lia⟩
   simp only[bV,List.drop_succ_cons,List.take_succ_cons,List.tail_cons,List.getD_cons_zero];rw[←scl,List.take_append_drop]
noncomputable def Qd:Option Int→V
 |none=>.non
 |some b=>.int b
theorem QK {X:Cx}(M:MM nm ln op st lt)(hc:X.calm=true){pins:List (Addr×Obj)}{s1:Shared}{σ:St}{H1:Hp}{a:Addr}{ns:List Int}{Q:VK}{kw:List (Str×Value)}{d:Option Value}(I1:Inv X pins σ H1 s1)(hH:H1 a=some (.l (ns.map V.int)))(ha:argsOk nm ⟨[.ref a],kw⟩)
 (hb:Builtin.Builtins.bindParams nm ["key","default"] 0 ⟨[],kw⟩=pure [none,d]) (hk:(d.toList.map fun v=>(Str.ofString "default",v))=kw) (hn:ns=[]→d=some .none) (q:Q (Qd (bV st ns)) H1):wpAny (model X.prog X.w) X.A (call (.builtin nm) [.ref a] kw) (EP X pins σ Q) X.xe s1:=by
 obtain⟨z,its,n,rv,hlen,e⟩:=I1.lstM hH;have hi:IntsAre its ns:=iA rv;have hil:its.length=ns.length:=by rw[←hlen,sac]
 have hl:s1.heap.IsList a its.toArray:=⟨_,e,rfl,_,rfl⟩
 have hal:=sag e;refine PyProof.Rows.kmb_tree M.kB M.pB M.eB ha ?_;show wpAny _ X.A.in1 (Builtin.Builtins.bindParams nm ["key","default"] 0 ⟨[],kw⟩ >>= _) _ _ s1;refine saa (wpAny_of_eq hb ?_);refine saa (sad ?_);refine saa (sbI hl ?_);refine saa (sck ?_);rw[M.eq,hk]
 have hI2:((s1.heap.push {cls:=.type "list_iterator",data:=.fields #[.ref a,.int 0 0]}).push {cls:=.type "list",data:=.seq ([]:List Value).toArray}).IsListIter s1.heap.objs.size a 0:=⟨_,sab _ (saq _ rfl),rfl,rfl⟩
 have hz:(s1.heap.push {cls:=.type "list_iterator",data:=.fields #[.ref a,.int 0 0]}).objs.size=s1.heap.objs.size+1:=saU ..;have hS2:((s1.heap.push {cls:=.type "list_iterator",data:=.fields #[.ref a,.int 0 0]}).push {cls:=.type "list",data:=.seq ([]:List Value).toArray}).get? (s1.heap.push {cls:=.type "list_iterator",data:=.fields #[.ref a,.int 0 0]}).objs.size=some {cls:=.type "list",data:=.seq #[]}:=saq _ rfl;rw[hz]at hS2;have hl2:((s1.heap.push {cls:=.type "list_iterator",data:=.fields #[.ref a,.int 0 0]}).push {cls:=.type "list",data:=.seq ([]:List Value).toArray}).IsList a its.toArray:=(hl.push _).push _;have hk2:∀b o,s1.heap.get? b=some o→((s1.heap.push {cls:=.type "list_iterator",data:=.fields #[.ref a,.int 0 0]}).push {cls:=.type "list",data:=.seq ([]:List Value).toArray}).get? b=some o:=fun b o e=>sab _ (sab _ e);rw[hz];generalize((s1.heap.push {cls:=.type "list_iterator",data:=.fields #[.ref a,.int 0 0]}).push {cls:=.type "list",data:=.seq ([]:List Value).toArray})=h2 at hI2 hS2 hl2 hk2 ⊢;have nSI:s1.heap.objs.size+1≠s1.heap.objs.size:=Nat.succ_ne_self _;have nlI:a≠s1.heap.objs.size:=saz hal;have nSl:s1.heap.objs.size+1≠a:=sbH (sbr hal)
 have old:∀b o,s1.heap.get? b=some o→b≠s1.heap.objs.size+1∧b≠s1.heap.objs.size:=fun b o e=>⟨saz (sbr (sag e)),saz (sag e)⟩
 refine sad ⟨scp M.pL _,?_⟩;show codeAny _ _ (.builtin ln ⟨[.ref s1.heap.objs.size,.none,.ref (s1.heap.objs.size+1)],kw⟩) _ _;refine sbA M.eL ?_;rw[sbv M.pL _];show wpAny _ X.A.in1 (seqItems? (.ref (s1.heap.objs.size+1)) >>= _) _ _ _;refine saa (sbf hS2 rfl ?_);show wpAny _ X.A.in1 (tryCatch (pyNext (.ref s1.heap.objs.size)) _ >>= _) _ _ _
 cases ns with
 | nil=>
   refine saa (wpAny_tryCatch (wpAny_pyNext_list_end (s:={s1 with heap:=h2}) (A:=X.A.in1) (I1.ok.hd hc) hI2 hl2 (sbc (by simp at hil;simp[hil])) fun h' he=>?_));obtain rfl:=hn rfl;subst hk;refine saa (wpAny_rule (sad ?_));have k3:∀b o,s1.heap.get? b=some o→h'.get? b=some o:=fun b o e=>he b o (old b o e).2 (hk2 b o e);exact⟨.non,H1,I1.kept (t':=s1.toks) k3,rfl,q⟩
 | cons n0 nr=>
   have hx:its.toArray[0]?=some (its[0]'(by rw[hil];simp)):=by simp[hil]
   obtain⟨t,et⟩:=int_at hi (i:=0) (v:=its[0]'(by rw[hil];simp)) (sae _);refine saa (wpAny_tryCatch (wpAny_pyNext_list_item (s:={s1 with heap:=h2}) (A:=X.A.in1) hI2 hl2 hx fun h' hit' hs'=>?_));rw[et];have hs2:Heap.SameBut s1.heap.objs.size h2 h':=hs';have hS3:=hs2.extBut _ _ nSI hS2;show wpAny _ X.A.in1 (updateSeq (s1.heap.objs.size+1) (fun _=>#[_,_]) >>= _) _ _ _;refine saa ?_;refine sbY hS3 rfl ?_;rw[M.eq]
   refine sad ⟨scp M.pL _,Ox M (s:=s1) (h₁:=s1.heap) (A:=X.A) (I1.ok.hd hc) hi hil nlI nSI nSl _ (fun h'' tk'' t'' k b hb=>?_) nr.length 1 _ _ n0 t _ (by simp) (by lia) (by simp) (hit'.at fun o e=>(saG _ _ nSI).trans e)
    ((hl2.at fun o e=>hs2.extBut a o nlI e).at fun o e=>(saG _ _ nSl).trans e) (by simp) (fun b o d1 d2 e=>(saG _ _ (sce d1)).trans (hs2.extBut b o d2 (hk2 b o e))) (saL _ hS3 rfl)⟩
   have hp:=R9 hb;rw[hp]at q;exact⟨.int b,H1,I1.kept (t':=tk'') (fun b o e=>k b o (old b o e).1 (old b o e).2 e),⟨t'',rfl⟩,q⟩
theorem Pm {X:Cx}{p pos kp np:Pos}{kn:_}{e:Expr}{ta:TA}(M:MM nm ln op st lt)(hB:bootBuiltins (Str.ofString nm)=some (Value.builtin nm))(hc:X.calm=true)(ha:PA X [e] ta)(hm:X.mg (Str.ofString nm)=none)(hg:Gl X (Str.ofString nm))(hs:starEach [e] X.env=[(false,eval e X.env)]) :
 PE X (.Call (.Name (Str.ofString nm) p) [e] [⟨some (Str.ofString "default"),.Constant .none kn np,kp⟩] pos) (fun σ H Q=>ta σ H fun vs H1=>∃(a:Addr) (ns:List Int),vs=[.ref a]∧H1 a=some (.l (ns.map V.int))∧Q (Qd (bV st ns)) H1):=by
 intro pins s σ H Q I h;refine sbB (sR (hn:=M.n1) (hd:=M.n2) I hg hm hB (PyProof.Rows.callWith_kw (xU (ha pos pins s σ H _ I h) fun us s1 ⟨vs,H1,I1,r1,q1⟩=>?_) (by rw[hs];rfl) (by rw[hs];rfl) rfl rfl));obtain⟨a,ns,rfl,hH,q⟩:=q1;obtain⟨u,rfl,r2⟩:=q8 r1;cases(show u=.ref a from r2);show wpAny _ _ (evalAll [(do let v ← eval (.Constant .none kn np) X.env;standAt pos;pure v)]) _ _ _;refine wpAny_evalAll_cons (saa (sad (saa (sco (sad (wpAny_evalAll_nil ?_))))));exact QK M hc (d:=some .none) I1 hH (M.a2 _ _) rfl rfl (fun _=>rfl) q
@[simp] noncomputable def gM (st:Int→Int→Int):D→Out Val
  | .l ds=>match v_ ds with
    | some ns=>.ok (.p (match bV st ns with
      |none=>.non
      |some b=>.int b))
    |none=>.bad
  |_=>.bad
theorem QI {X:Cx}{G₀ H₀:Hp}{p pos kp np:Pos}{kn:_}{e:Expr}{f:FE}(M:MM nm ln op st lt)(hB:bootBuiltins (Str.ofString nm)=some (Value.builtin nm))(he:DE X G₀ H₀ e f)(hm:X.mg (Str.ofString nm)=none)(hc:X.calm=true)(hg:Gl X (Str.ofString nm))(hs:starEach [e] X.env=[(false,eval e X.env)]) :
 DE X G₀ H₀ (.Call (.Name (Str.ofString nm) p) [e] [⟨some (Str.ofString "default"),.Constant .none kn np,kp⟩] pos) (f1 (gM st) f) :=
 (Pm M hB hc (zM he yw hs) hm hg hs).imp fun σ H Q q=>by
  obtain⟨env,G,val,I,e,k⟩:=q;obtain⟨x,ex,e⟩:=zv e;refine vZ I ex fun v G' H' g l I' o=>?_;unfold gM at e;split at e
  ·rename_i ds hd;rw[hd]at o;obtain⟨a,vs,rfl,h1,r1⟩:=ur.l I' o;split at e
   ·rename_i ns hn;cases e;rw[lT hn]at r1;rw[r1.ints_of]at h1;refine⟨a,ns,rfl,h1,k _ _ _ g l ?_⟩
    cases hx:bV st ns with
    |none=>rfl
    |some b=>rfl
   ·cases e
  ·cases e
end
theorem XM:bV oU=nz:=funext fun ns=>by cases ns <;> rfl
theorem XJ:bV q_=ny:=funext fun ns=>by cases ns <;> rfl
@[simp] noncomputable def XC:D→Out Val
  | .l ds=>match v_ ds with
    | some ns=>.ok (.p (match nz ns with
      |none=>.non
      |some b=>.int b))
    |none=>.bad
  |_=>.bad
theorem Rr {X:Cx}{G₀ H₀:Hp}{p pos kp np:Pos}{kn:_}{e:Expr}{f:FE}(he:DE X G₀ H₀ e f)(hm:X.mg "max" = none) (hc:X.calm=true:=by rfl) (hg:Gl X "max" :=by rfl) (hs:starEach [e] X.env=[(false,eval e X.env)]:=by rfl) :
 DE X G₀ H₀ (.Call (.Name "max" p) [e] [⟨some "default",.Constant .none kn np,kp⟩] pos) (f1 XC f):=by
 have h:gM oU=XC:=funext fun d=>by unfold gM XC;rw[XM]
 rw[←h];exact QI Qm boot_max he hm hc hg hs
@[simp] noncomputable def XB:D→Out Val
  | .l ds=>match v_ ds with
    | some ns=>.ok (.p (match ny ns with
      |none=>.non
      |some b=>.int b))
    |none=>.bad
  |_=>.bad
theorem Rq {X:Cx}{G₀ H₀:Hp}{p pos kp np:Pos}{kn:_}{e:Expr}{f:FE}(he:DE X G₀ H₀ e f)(hm:X.mg "min" = none) (hc:X.calm=true:=by rfl) (hg:Gl X "min" :=by rfl) (hs:starEach [e] X.env=[(false,eval e X.env)]:=by rfl) :
 DE X G₀ H₀ (.Call (.Name "min" p) [e] [⟨some "default",.Constant .none kn np,kp⟩] pos) (f1 XB f):=by
 have h:gM q_=XB:=funext fun d=>by unfold gM XB;rw[XJ]
 rw[←h];exact QI Ql boot_min he hm hc hg hs
noncomputable def f_:List D→Option (List Bool)
 |[]=>some []
 | .bl b::ds=>(f_ ds).map (b :: ·)
 |_::_=>none
theorem ao:∀{ds:List D} {bs:List Bool},f_ ds=some bs→ds=bs.map D.bl
 |[],bs,h=>by cases h;rfl
 | .bl b::ds,bs,h=>by
   simp only[f_,Option.map_eq_some_iff]at h;obtain⟨cs,h1,rfl⟩:=h;rw[ao h1];rfl
 | .non::ds,bs,h=>by cases h
 | .int _::ds,bs,h=>by cases h
 | .tup _::ds,bs,h=>by cases h
 | .l _::ds,bs,h=>by cases h
 | .scr _::ds,bs,h=>by cases h
 | .exc _ _::ds,bs,h=>by cases h
theorem X9 (bs:List Bool):f_ (bs.map D.bl)=some bs:=by
 induction bs with
 |nil=>rfl
 |cons b bs ih=>simp[f_,ih]
theorem V3 {K:Frag}{G:Hp}:∀{bs:List Bool} {vs:List V},zO K G (bs.map D.bl) vs→vs=bs.map V.bl
 |[],vs,h=>h
 | b::bs,vs,h=>by
   obtain⟨v,us,rfl,h1,h2⟩:=h;rw[V3 h2,show v=.bl b from h1];rfl
theorem Rx:∀{bs:List Bool} {us:List Value} {i:Nat} {v:Value},ym (bs.map V.bl) us→us[i]?=some v→v=.bool (bs.getD i false)
 | bs,us,i,v,r,e=>by
   have hl:=r.length;have hi:i<us.length:=(saj.mp e).1;have hb:i<bs.length:=by rw[sac]at hl;lia
   obtain⟨u,h1,h2⟩:=r.get (i:=i) (x:=.bl bs[i]) (by simp[hb]);rw[e]at h1;cases h1;simp only[List.getD,sae hb,Option.getD_some];exact h2
theorem X0 {X:Cx}(hc:X.calm=true):rP X (.builtin "any") (fun xs H Q=>∃(p:Addr) (bs:List Bool),xs=[.ref p]∧H p=some (.l (bs.map V.bl))∧Q (.bl (bs.any id)) H):=by
 intro pins s σ H xs us Q I r h;obtain⟨p,bs,rfl,hp,q⟩:=h;obtain⟨u,rfl,r1⟩:=q8 r;cases(show u=.ref p from r1);obtain⟨z,its,n,rv,hlen,e⟩:=I.lstM hp;have hil:its.length=bs.length:=by rw[←hlen,sac]
 have hl:s.heap.IsList p its.toArray:=⟨_,e,rfl,_,rfl⟩
 have hpl:=sag e;refine call_any_walkS (sbI hl ?_);have hne:p≠s.heap.objs.size:=saz hpl;have W:=(Walks.list (prog:=X.prog) (w:=X.w) (A:=X.A.in1) (by simp[I.ok.hd hc]) s.heap.objs.size p hne its.toArray).toS;refine⟨s.heap.objs.size,_,_,_,_,_,_,fun i=>bs.getD i false,rfl,W,⟨⟨_,saq _ rfl,rfl,rfl⟩,hl.push _⟩,fun i v s' Q' E' hv hq=>?_,fun s' hm=>?_⟩
 ·have e1:v=.bool (bs.getD i false):=Rx rv (show its[i]?=some v by simpa using hv);rw[e1];exact sbg hq
 ·have hk:∀b o,s.heap.get? b=some o→s'.heap.get? b=some o:=fun b o eb=>
   hm.heap b o (fun hI=>absurd (sag eb) (by rw[saf.mp hI];exact sby _)) (sab _ eb)
  rw[Moved.eq_with hm];refine⟨.bl (bs.any id),H,I.kept hk,?_,q⟩
  have:(List.range its.toArray.size).any (fun i=>bs.getD i false)=bs.any id:=by
   rw[List.size_toArray,hil,sbV,saW,saW];constructor
   ·rintro⟨i,hi,h⟩;have hi':i<bs.length:=sba.mp hi;exact⟨bs[i],List.getElem_mem _,by simpa[hi']using h⟩
   ·rintro⟨b,hb,h⟩;obtain⟨i,hi,rfl⟩:=List.mem_iff_getElem.mp hb;exact⟨i,sba.mpr hi,by simpa[hi]using h⟩
  rw[this];exact rfl
@[simp] noncomputable def VD:List D→Out Val
  | [.l ds]=>match f_ ds with
    |some bs=>.ok (.p (.bl (bs.any id)))
    |none=>.bad
  |_=>.bad
theorem Rv {K:Frag}:ej K (fun xs H Q=>∃(p:Addr) (bs:List Bool),xs=[.ref p]∧H p=some (.l (bs.map V.bl))∧Q (.bl (bs.any id)) H) VD:=by
 intro G₀ H₀ env σ G H vs xs val Q I a e k;unfold VD at e;split at e
 ·rename_i ds hx;split at e
  ·rename_i bs hn;cases e;obtain⟨v,rfl,o⟩:=kG a hx;obtain⟨p,us,rfl,h1,r1⟩:=ur.l I o;rw[ao hn]at r1;rw[V3 r1]at h1;exact⟨p,bs,rfl,h1,k _ G H (Gw.refl _ _) I.le rfl⟩
  ·cases e
 ·cases e
section
variable {X:Cx}{G₀ H₀:Hp}{elt iter tg:Expr}{ifs:List Expr}{scope:Scope}{pos:Pos}{fi:FI}{g:D→Ev→Out Ev}{ft:FT}{fe:FE}{cap:List Nat}{own:List Str}
theorem mz {i:Nat}{x:Str}{pos' spos:Pos}(fz:Bool)(hN:X.N.Nodup)(C:CompOk X scope cap own)(hi:TN X G₀ H₀ tg iter fi)
 (hg:∀ex s H,DG (wq X (t9 X cap own) scope ex s H) G₀ H₀ tg g) (hgc:Ue g) (ht:∀ex s H,QV (wq X (t9 X cap own) scope ex s H) G₀ H₀ ifs ft) (he:∀ex s H,DE (wq X (t9 X cap own) scope ex s H) G₀ H₀ elt fe)
 (hc:X.calm=true:=by rfl) (hs:∀x,foldedSetIterable iter X.env x=pure x:=by intro _;rfl) (hix:X.N[i]?=some x:=by rfl) (hx:Se X.env.scope x:=by first|exact Or.inl rfl|exact Or.inr rfl)
 (hsw:swapsWith (.ListComp elt [⟨tg,iter,ifs,0⟩] scope pos) (some (.Name x pos')) spos.line X.env=pure true:=by rfl) (hf:X.fn x=true∨X.env.scope.names.lookup x=some .local:=by first|exact .inl rfl|exact .inr rfl) :
 DS X G₀ H₀ (.Assign [.Name x pos'] (.ListComp elt [⟨tg,iter,ifs,0⟩] scope pos) spos) (zU i fz (yI cap own.length fi g ft fe)):=by
 intro pins s σ H D I q;obtain⟨env,G,val,D0,e,k⟩:=g8 q;obtain⟨ds,e1,e⟩:=zv e;split at e
 rotate_left
 ·cases e
 rename_i hz;obtain⟨out,e2,e⟩:=zv e;cases e;rw[exec_Assign_Name_used _ _ _ _ hsw];refine saa (sco (saa ?_));show wpAny _ X.A (do let _ ← comprehension (.ListComp elt [⟨tg,iter,ifs,0⟩] scope pos) scope X.env _ (newList []) false (eval iter X.env) (some (assign (.Name x pos') X.env))) _ _ s;refine saa (saR (wpAny_comprehension_free (use:=some (assign (.Name x pos') X.env)) (Q:=fun _ s'=>SP X pins D .next s') (cl:=wt X.env.cells scope.names []) rfl hs (oN (C.cells I)) C.kind C.locals ?_) (fun _ s' hq=>sad (sad hq)) fun _ _ e=>e);refine xU (hi pins s σ H (fun J H2=>∃G2,Gw G H G2 H2∧zI G2 H2∧JOk X.K J G2 ds) I ⟨env,G,ds,D0,e1,fun J G2 H2 g2 l2 jok=>⟨G2,g2,l2,jok⟩⟩) fun v s1 h1=>xU h1 fun itv s2 h2=>?_;obtain⟨it,fp,tn,J,H2,rfl,I2,T,st2,f2,G2,g2,l2,jok⟩:=h2;refine iQ (RR:=fun acc C=>compPost (model X.prog X.w) X.A X.xe (some (assign (.Name x pos') X.env)) (fun _ s'=>SP X pins D .next s') acc C) C hc hg hgc ht he I2 (D0.grow g2 l2) T st2 f2 jok hz e2 fun L C' vs G' H' s' hC fD hD gD r gr l hm hI=>?_;obtain⟨m,hm⟩:=hm;have I':Inv X pins σ H' s':=hI s'.heap (Heap.SameBut.refl _ _);have fC:lY X pins H' C':=I2.fpOk hC.1 hC.2;show wpAny _ X.A (assign (.Name x pos') X.env (.ref L)) _ _ s';refine wpAny_assign_Name (gZ I' hN hix hx (v:=.ref L) rfl (fun s3 I3 ⟨a,sb,ha⟩=>?_) hf)
 have hne:C'≠a:=fun z=>by
  rcases ha with ha|ha
  ·exact fC.2.1 (z.trans ha)
  ·exact fC.2.2.2.2.1 x a ha z.symm
 refine⟨m,hm.sameBut sb hne,fun h' sb'=>?_⟩;have I4:Inv X pins (σ.set i (some (.ref L))) H' {s3 with heap:=h'}:=Inv.turnedF (fp:=[C']) (t':=s3.toks) I3 (fun b hb=>by rw[saf.mp hb];exact fC) fun b u hb e=>sb'.extBut b u (fun z=>hb (by simp[z])) e;exact⟨_,H',I4,k _ G' H' (g2.trans gr) l ⟨L,vs,rfl,g2.h.free fD,hD,gD,r⟩⟩
end
section
variable {prog:Program}{w:World}{A:Around}{E:Value→Shared→Prop}{s:Shared}
end
theorem SH {X:Cx}{k:Nat}{x p1:Str}{m:List D→Out Val}{p pos:Pos}{e:Expr}{es:List Expr}{t:TA}(C:Cal X.prog X.w X.K X.mg X.base k x [p1] m)(hr:Room k X.A)(ha:PA X (e::es) t)
 (hg:Gl X x:=by rfl) (hdb:(x == ("__debug__" : Str))=false:=by decide) (he:starEach (e::es) X.env=(false,eval e X.env)::starEach es X.env:=by rfl) (hpl:(backTo pos (starEach es X.env)).any (·.1)=false:=by rfl) :
 PE X (.Call (.Name x p) (e::es) [] pos) (jB (Uh X.K m 1) [] E0 t):=by
 obtain⟨f,fd,F,hm,hk,hb⟩:=C.ex;exact ji F hr hg hm hk hb .nil Ye ha hdb he hpl
theorem u_ {P:Program}{w:World}{H:Hp}{h:Heap}{a:Addr}{u:HO}(x:we P w H h a u):∃o,h.get? a=some o:=by
 cases u with
 |l xs=>obtain⟨_,_,_,_,e⟩:=x;exact⟨_,e⟩
 |tup xs=>obtain⟨_,_,_,o,e,_⟩:=x;exact⟨o,e⟩
 |dK kvs=>obtain⟨_,_,_,_,o,_,_,e,_⟩:=x;exact⟨o,e⟩
 |dT kvs=>obtain⟨_,_,_,_,o,_,_,e,_⟩:=x;exact⟨o,e⟩
 |set S n=>obtain⟨o,_,_,_,e,_⟩:=x;exact⟨o,e⟩
 |ins C dx fs=>obtain⟨_,_,_,e,_⟩:=x;exact⟨_,e⟩
 |own y=>exact x
 |xd fs=>obtain⟨_,⟨o,_,_,e,_⟩,_⟩:=x;exact⟨o,e⟩
 |rng lo hi=>obtain⟨_,_,_,e⟩:=x;exact⟨_,e⟩
 |frz ob u=>obtain⟨e,_⟩:=x;exact⟨_,e⟩
 |tbl ps=>exact⟨_,x⟩
 |met f y=>exact⟨_,x⟩
 |ext φ=>exact x.2.1
structure Fly (P:Program)(w:World)(outer:List Env)(H H':Hp)(s s':Shared)(e:Addr)(cls:Value):Prop where
 os:s'.os=s.os
 bare:AllBare s'.gens
 same:zI H H'
 un:Un (nv outer) [] H H' s.heap s'.heap
 hok:nO P w H' s'.heap
 fly:∃(B:Heap) (a0:Value),Heap.FlyingW B outer e cls a0 s'.heap∧(∀b o,s.heap.get? b=some o→H b=none→b∉nv outer→B.get? b=some o)∧(∀b u o,H' b=some u→s'.heap.get? b=some o→B.get? b=some o)
section
variable {X:Cx}{pins:List (Addr×Obj)}{σ:St}{H H1:Hp}{s s1:Shared}{B h':Heap}{e:Addr}{cls a0:Value}
theorem bO (I:Inv X pins σ H s)(hex:X.ex=[])(h0:zI X.H₀ H)(sm:zI H H1)(k1:∀b o,s.heap.get? b=some o→H b=none→b∉nv X.stack→B.get? b=some o)(k2:∀b u o,H1 b=some u→s1.heap.get? b=some o→B.get? b=some o)
 (un1:Un (nv X.stack) [] H H1 s.heap s1.heap) (hok1:nO X.prog X.w H1 s1.heap) (st:B.StaysIn h') (up:s1.heap.UpToSlots h') (hos:s1.os=s.os) (hb:AllBare s1.gens) (fl:Heap.FlyingW B X.outer e cls a0 h') :
 Fly X.prog X.w X.outer X.H₀ H1 X.s₀ {s1 with heap:=h'} e cls:=by
 have nx:∀b:Addr,b∉X.ex:=fun b=>by rw[hex];simp
 have neL:∀b o,X.s₀.heap.get? b=some o→b≠X.env.locals:=fun b o e=>saz (sau (sag e) I.ok.above)
 have K1:∀b o,X.s₀.heap.get? b=some o→X.H₀ b=none→b∉nv X.outer→B.get? b=some o:=fun b o e n hb=>
  k1 b o (I.base.keep b o e n hb (nx b)) (I.base.free b o e n (nx b)) fun z=>(san.mp (I.stkSub b z)).elim (neL b o e) hb
 have T:∀b u,H1 b=some u→∀o,s1.heap.get? b=some o→h'.get? b=some o:=fun b u e o q=>st b o (k2 b u o e q)
 have thr:∀b u,H1 b=some u→∃o,h'.get? b=some o:=fun b u e=>by
  obtain⟨o,q⟩:=u_ (hok1 b u e);exact⟨o,T b u e o q⟩
 have slot:∀b o,X.s₀.heap.get? b=some o→X.H₀ b=none→b∈nv X.outer→∃sl,h'.get? b=some {o with slots:=sl}:=fun b o e n hb=>by
  obtain⟨sl,e1⟩:=I.base.slot b o e n hb (nx b)
  have hbs:b∈nv X.stack:=by
   rcases I.ok.stk with z|⟨z,hf⟩
   ·rw[z];exact hb
   ·rw[z];unfold nv;rw[List.filterMap_cons,hf];exact sao _ hb
  obtain⟨sl2,e2⟩:=un1.slot b _ e1 (I.base.free b o e n (nx b)) hbs (by simp);obtain⟨_,o',ho',hd⟩:=I.funs.mem hb;rw[e1]at ho';cases ho';obtain⟨sl3,e3⟩:=up b _ e2 hd;exact⟨sl3,e3⟩
 refine⟨hos.trans I.os,hb,h0.trans sm,⟨fun b o e n hb _=>st b o (K1 b o e n hb),fun b o e n hb _=>slot b o e n hb,fun b o e n _=>?_,fun b o e _=>?_,fun b xs q=>sm _ _ (h0 _ _ q),fun b o u q=>sm _ _ (h0 _ _ q),fun b ps q=>⟨#[],by rw[sm _ _ (h0 _ _ q)];simp⟩⟩,fun b u q=>?_,B,a0,fl,K1,fun b u o q1 q2=>?_⟩
 ·obtain⟨o',e1⟩:=I.base.there b o e (nx b);exact un1.free b o' e1 (I.base.free b o e n (nx b)) (by simp)
 ·cases q:X.H₀ b with
  | none=>
    by_cases hb:b∈nv X.outer
    ·obtain⟨sl,z⟩:=slot b o e q hb;exact⟨_,z⟩
    ·exact⟨o,st b o (K1 b o e q hb)⟩
  |some u=>exact thr b u (sm _ _ (h0 _ _ q))
 ·refine(hok1 b u q).stay (fun c v hc z=>?_) (fun _ z=>z) fun _ _ z=>z
  rcases hc with rfl|hc
  ·exact T _ u q v z
  ·exact T _ _ hc v z
 ·obtain⟨o',z⟩:=u_ (hok1 b u q1);have z2:=k2 b u o' q1 z;have z3:=st b o' z2;rw[show h'.get? b=some o from q2]at z3;cases z3;exact z2
theorem VG {M:Model}{Q:Unit→Shared→Prop}{E:Value→Shared→Prop}(I:Inv X pins σ H s)(hst:X.stack=X.env::X.outer)(hf:X.env.frame=some X.env.locals)(hex:X.ex=[])(h0:zI X.H₀ H)(F:Fly X.prog X.w X.stack H H1 s s1 e cls)
 (hQ:∀s'',Fly X.prog X.w X.outer X.H₀ H1 X.s₀ s'' e cls→Q () s''):wpAny M X.A (leaving X.env (.ref e)) Q E s1:=by
 obtain⟨B,a0,fl,k1,k2⟩:=F.fly;have hfr:X.A.frames=some (X.env::X.outer):=by rw[I.ok.frames,hst]
 rw[hst]at fl;exact wpAny_leaves_onW hfr hf fl fun h' fl' up=>hQ _ (bO I hex h0 F.same k1 k2 F.un F.hok fl'.1 up F.os F.bare fl')
end
noncomputable abbrev SS:=Ev→St→Hp→Hp→Prop
noncomputable def PK (mk:Bool)(X:Cx)(pins:List (Addr×Obj))(S:SS)(c:Str):Prop :=
 (mk=true→∀(σ:St) (H G:Hp) (env:Ev) (s:Shared) (e:Addr) (h1:Heap) (vs:List Value) (C:Addr),Inv X pins σ H s→S env σ G H→X.mg c=some (.ref C)→Heap.MadeExcOf s.heap h1 e (.ref C) vs→X.xe (.ref e) {s with heap:=h1}) ∧
 (∀(σ:St) (H G H1 G1:Hp) (env:Ev) (s s1:Shared) (e C:Addr),Inv X pins σ H s→S env σ G H→X.mg c=some (.ref C)→Fly X.prog X.w X.stack H H1 s s1 e (.ref C)→Gw G H G1 H1→zI G1 H1→X.xe (.ref e) s1)
noncomputable abbrev RR:=Ev→Str→Prop
section
variable (mk:Bool)(X:Cx)(G₀ H₀:Hp)
noncomputable def RW (α:Type)(m:Sem α)(R:RR):Prop:=∀(pins:List (Addr×Obj)) (s:Shared) (σ:St) (H:Hp) (env:Ev) (G:Hp) (c:Str) (Q:α→Shared→Prop) (S:SS),Inv X pins σ H s→DI X.K G₀ H₀ env σ G H→R env c→(∀G' H',Gw G H G' H'→zI G' H'→S env σ G' H')→PK mk X pins S c→wpAny (model X.prog X.w) X.A m Q X.xe s
noncomputable def RE (e:Expr)(R:RR):Prop:=RW mk X G₀ H₀ Value (eval e X.env) R
end
section
variable {mk:Bool}{X:Cx}{G₀ H₀:Hp}{pos:Pos}{R:RR}
end
end DL
namespace DL
open PySem PySem.Spec PyProof.Rows L2 PySem.W PySem.Builtin PySem.Builtin.ObjectAttr PySem.Builtin.Getset_descriptor
structure ExCls (K:Frag)(C:Addr):Prop where
 cl:(clsIn K C).isSome=true
 ga:findIn K (.ref C) "__getattribute__" = some (some (.builtin "BaseException.__getattribute__"))
 gn:findIn K (.ref C) "__getattr__" = some none
 ca:findIn K (.ref C) "__class__" = some (some (.builtin "object.__class__"))
 cg:specialIn K (.builtin "object.__class__") "__get__" = some (some (.builtin "getset_descriptor.__get__"))
 ct:takesIn K (.builtin "object.__class__")=some true
 mo:mroIn K C (.type "object")=some true
 mb:mroIn K C (.type "BaseException")=some true
noncomputable def kJ (e C:Addr)(h:Heap):Prop:=∃ob,h.get? e=some ob∧ob.cls=.ref C
theorem lE {M:Model}{h:Heap}{e C:Addr}(p:kJ e C h):Looks M h (typeOf (.ref e)) (.ref C):=by
 obtain⟨ob,h1,h2⟩:=p;exact h2 ▸ (Looks.ld h1).andThen .now
section
variable {prog:Program}{w:World}{A:Around}{E:Value→Shared→Prop}{s:Shared}{K:Frag}{e C:Addr}
theorem VJ {M:Model}{h:Heap}(X:K.In h)(Z:ExCls K C):Looks M h (find (.ref e) (.ref C) "__class__") (.bind (.builtin "getset_descriptor.__get__") (.builtin "object.__class__")):=by
 have L1:=looks_findIn (M:=M) X Z.ca;have L2:Looks M h (getOf (some (.builtin "object.__class__"))) (some (.builtin "getset_descriptor.__get__")):=looks_specialIn X Z.cg;have L3:=looks_takesIn (M:=M) X Z.ct;have L4:Looks M h (dataDescriptor? (some (.builtin "object.__class__")) (some (.builtin "getset_descriptor.__get__"))) (some (.builtin "getset_descriptor.__get__",.builtin "object.__class__")):=L3.andThen .now;exact L1.andThen (L2.andThen (L4.andThen (Looks.tag .now)))
theorem XN {tp:Value}{R:Result→Shared→Prop}(X:K.In s.heap)(p:kJ e C s.heap)(Z:ExCls K C)(hR:R (.ok (.ret (.ref C))) s) :
 codeAny (model prog w) A (.call (.builtin "getset_descriptor.__get__") ⟨[.builtin "object.__class__",.ref e,tp],[]⟩) R s:=by
 obtain⟨h0,g0,d0,t0,o0⟩:=s;have L0:=lE (M:=model prog w) p;have L1:=looks_mroIn (M:=model prog w) X Z.mo;refine scm (KF.slot_gs.plain) (KF.entry_gs) (KF.slot_gs.check _ _ _ _ _ _ _ _ (KF.type_class) (KF.args_gs _ _ _) (?_));unfold Builtin.«getset_descriptor.__get__» descrGet;rw[dga_obj];refine saa (sad (?_));unfold descrGetter descrCheckInstance descrNameAndClass isInstance;simp only[KF.owner_class]
 repeat lk
 refine⟨Code.quiet_builtin _ (by decide +kernel),sbA (KF.entry_class) (?_)⟩
 unfold Builtin.«object.__class__» shownTypeOf;repeat lk
 exact hR
theorem Rh {tk:Tok}{R:Result→Shared→Prop}(X:K.In s.heap)(p:kJ e C s.heap)(Z:ExCls K C)(hR:R (.ok (.ret (.ref C))) s) :
 codeAny (model prog w) A (.call (.builtin "BaseException.__getattribute__") ⟨[.ref e,.str "__class__" tk],[]⟩) R s:=by
 obtain⟨h0,g0,d0,t0,o0⟩:=s;have L0:=lE (M:=model prog w) p;have L1:=looks_mroIn (M:=model prog w) X Z.mb;have L2:=VJ (M:=model prog w) (e:=e) X Z;have hk:builtinKind "BaseException.__getattribute__" = some .slot:=by decide +kernel
 have hsp:splitId "BaseException.__getattribute__" = some ("BaseException","__getattribute__"):=by decide +kernel
 have hpl:plainId "BaseException.__getattribute__" = true:=by decide +kernel
 have hargs:=F.args_bexc_ga (.ref e) (.str "__class__" tk);refine scm hpl F.entry_bexc_ga ?_;simp only[checkBuiltinCall,hk,hsp];refine saa ?_;unfold isInstance
 repeat (first|lk|wp_step)
 refine wpAny_run (h:=none) (XN X p Z ?_);exact sad (sad hR)
theorem VL {Q:Option Value→Shared→Prop}(X:K.In s.heap)(p:kJ e C s.heap)(Z:ExCls K C)(hQ:Q (some (.ref C)) {s with toks:=s.toks+1}) :
 wpAny (model prog w) A (getAttr? (.ref e) "__class__") Q E s:=by
 obtain⟨h0,g0,d0,t0,o0⟩:=s;have L0:=lE (M:=model prog w) p;have L1:=looks_findIn (M:=model prog w) X Z.ga;have L2:=looks_findIn (M:=model prog w) X Z.gn;have hx2:(Value.builtin "BaseException.__getattribute__" == Value.builtin "object.__getattribute__")=false:=by decide +kernel
 have hx1:(onTheHeap (Value.ref C)&&Value.builtin "BaseException.__getattribute__" == Value.builtin "object.__getattribute__")=false:=by rw[hx2];rfl
 unfold getAttr? getAttrBy? getAttrBy;refine saa (wpAny_mkText (saa (scB (saM (saa (L0.at (saa (L1.at ?_))))))));dsimp only;rw[hx1];simp only[sax,if_false];have hb:=PySem.F.attr_ValueError.ga.bind (.ref e)
 have hx0:∀b,(b&&onTheHeap (Value.builtin "BaseException.__getattribute__"))=false:=fun b=>by cases b <;> rfl
 unfold getAttrByItsOwn;refine saa ?_;show wpAny _ _ (typeLookup (.ref C) "__getattr__") _ _ _;refine L2.at ?_;refine saa (scB (saM ?_));show wpAny _ _ (boundAndCalled (.builtin "BaseException.__getattribute__") (.ref e) (.str "__class__" t0)) _ _ _;unfold boundAndCalled;refine saa (wpAny_of_eq hb ?_);refine scJ (Rh (s:=⟨h0,g0,d0,t0+1,o0⟩) X p Z ?_);exact handed_on rfl (sad hQ)
theorem Vr (Z:ExCls K C):KitX K (.ref e) (.ref C) (kJ e C) where
 ty:=fun _ _ _ p=>lE p
 it:=fun _ _ X _=>by
  obtain⟨cd,hc⟩:=sbP.mp Z.cl;unfold clsIn at hc;split at hc
  ·rename_i ho;exact fun A' Q' E' s' k q=>saa (wpAny_loadPart (k _ _ (X _ _ ho)) (sad q))
  ·cases hc
 ne:=fun h tp dd its n sl X htp=>by
  obtain⟨cd,hc⟩:=sbP.mp Z.cl
  cases hq:(Value.ref C == Value.ref tp)with
  |false=>rfl
  | true=>
    exfalso;have ee:C=tp:=Value.ref.inj (beq_iff_eq.mp hq);rw[←ee]at htp;unfold clsIn at hc;split at hc
    ·rename_i ho;have:=(X _ _ ho).symm.trans htp;cases this
    ·cases hc
 ca:=fun X p k=>VL X p Z k
end
end DL
namespace DL
open PySem PySem.Spec PyProof.Rows L2
noncomputable abbrev iq (X:Cx)(e:Addr):Cx:={X with A:=X.A.mark (some (.ref e)),calm:=false,xe:=fun _ _=>False}
section
variable {X:Cx}{pins:List (Addr×Obj)}{σ:St}{H H1:Hp}{s s1:Shared}{B h':Heap}{e C:Addr}{cls a0:Value}
theorem bJ (I:Inv X pins σ H s)(e:Addr):Inv (iq X e) pins σ H s :=
 ⟨⟨I.ok.mod,I.ok.kind,I.ok.glob,I.ok.blt,I.ok.above,I.ok.inj,I.ok.has,I.ok.cab,(fun z=>by cases z),I.ok.frames,I.ok.stk,I.ok.exf,I.ok.bs,I.ok.bsz,I.ok.noex,I.ok.exfs,I.ok.funs,I.ok.frf⟩,I.os,I.bare,I.base,I.loc,I.cell,I.free,I.freeC,I.pin,I.hok,I.len⟩
theorem Zk (ok:X.Ok)(I:Inv (iq X e) pins σ H s):Inv X pins σ H s:=⟨ok,I.os,I.bare,I.base,I.loc,I.cell,I.free,I.freeC,I.pin,I.hok,I.len⟩
theorem Qp (I:Inv X pins σ H s)(sm:zI H H1)(k1:∀b o,s.heap.get? b=some o→H b=none→b∉nv X.stack→B.get? b=some o)(k2:∀b u o,H1 b=some u→s1.heap.get? b=some o→B.get? b=some o)
 (un1:Un (nv X.stack) [] H H1 s.heap s1.heap) (hok1:nO X.prog X.w H1 s1.heap) (st:B.StaysIn h') (up:s1.heap.UpToSlots h') (hos:s1.os=s.os) (hb:AllBare s1.gens):Inv X pins σ H1 {s1 with heap:=h'}:=by
 have T:∀b u,H1 b=some u→∀o,s1.heap.get? b=some o→h'.get? b=some o:=fun b u e o q=>st b o (k2 b u o e q)
 have slot:∀b o,s.heap.get? b=some o→H b=none→b∈nv X.stack→∃sl,h'.get? b=some {o with slots:=sl}:=fun b o e n hb=>by
  obtain⟨sl,e1⟩:=un1.slot b o e n hb (by simp);obtain⟨_,o',ho',hd⟩:=I.stack.mem hb;rw[e]at ho';cases ho';obtain⟨sl2,e2⟩:=up b _ e1 hd;exact⟨sl2,e2⟩
 refine I.call' (ch:=[]) hos ⟨fun b o e n hb _=>st b o (k1 b o e n hb),fun b o e n hb _=>slot b o e n hb,fun b o e n _=>un1.free b o e n (by simp),fun b o e _=>?_,fun b xs q=>sm _ _ q,fun b o u q=>sm _ _ q,fun b ps q=>⟨#[],by rw[sm _ _ q];simp⟩⟩ (fun b u q=>?_) hb (fun b z=>absurd z (by simp))
 ·cases q:H b with
  | none=>
    by_cases hb:b∈nv X.stack
    ·obtain⟨sl,z⟩:=slot b o e q hb;exact⟨_,z⟩
    ·exact⟨o,st b o (k1 b o e q hb)⟩
  | some u=>
    obtain⟨o',z⟩:=u_ (hok1 b u (sm _ _ q));exact⟨o',T b u (sm _ _ q) o' z⟩
 ·refine(hok1 b u q).stay (fun c v hc z=>?_) (fun _ z=>z) fun _ _ z=>z
  rcases hc with rfl|hc
  ·exact T _ u q v z
  ·exact T _ _ hc v z
end
section
variable {X:Cx}{pins:List (Addr×Obj)}{σ:St}{H H1:Hp}{s s1:Shared}{e C:Addr}
theorem Yx (I:Inv X pins σ H s)(F:Fly X.prog X.w X.stack H H1 s s1 e (.ref C)):s.heap.get? e=none∧H1 e=none:=by
 obtain⟨B,a0,fl,k1,k2⟩:=F.fly;obtain⟨_,f2,_,oe,vs,T,oT,ts,he,_,hd,_⟩:=fl
 have hn:H1 e=none:=by
  cases q:H1 e with
  |none=>rfl
  | some u=>
    have:=k2 e u oe q he;rw[f2]at this;cases this
 refine⟨?_,hn⟩
 cases q:s.heap.get? e with
 |none=>rfl
 | some o=>
   exfalso
   have hH:H e=none:=by
    cases z:H e with
    |none=>rfl
    |some u=>rw[F.same e u z]at hn;cases hn
   by_cases hb:e∈nv X.stack
   ·obtain⟨_,o',ho',hnf⟩:=I.stack.mem hb;rw[q]at ho';cases ho';obtain⟨sl,e1⟩:=F.un.slot e o q hH hb (by simp);rw[he]at e1;cases e1;exact hnf vs hd
   ·have:=k1 e o q hH hb;rw[f2]at this;cases this
theorem Vv {j:Nat}{n:Str}{h':Heap}{m:Str→Option Value}{v:Option Value}{tk:Nat}(I:Inv X pins σ H s)(hN:X.N.Nodup)(hj:X.N[j]?=some n)(hl:X.env.scope.names.lookup n=some .local)
 (hm:s.heap.Ns X.env.locals m) (hn:h'.Ns X.env.locals (fun x=>if x=n then v else m x)) (sb:Heap.SameBut X.env.locals s.heap h'):Inv X pins (σ.set j none) H {s with heap:=h',toks:=tk}:=by
 obtain⟨m0,hm0,hv⟩:=I.loc
 have em:∀x,m0 x=m x:=fun x=>by
  obtain⟨o,es,ep,ho,hd,_,hf⟩:=hm0;obtain⟨o',es',ep',ho',hd',_,hf'⟩:=hm;rw[ho]at ho';cases ho';rw[hd]at hd';cases hd';rw[←hf x,←hf' x]
 have neL:∀b o,X.s₀.heap.get? b=some o→b≠X.env.locals:=fun b o e=>saz (sau (sag e) I.ok.above);refine⟨I.ok,I.os,I.bare,⟨fun b o q z hb hx=>?_,fun b o q z hb hx=>?_,I.base.free,fun b o q hx=>?_,I.base.tups,I.base.frzs,I.base.tbls⟩,⟨_,hn,fun i x w e1 e2 e3=>?_⟩,fun y c q=>?_,I.free,I.freeC,fun p hp=>?_,fun b u q=>?_,by simpa using I.len⟩
 ·exact(sb.2 b (neL b o q)).trans (I.base.keep b o q z hb hx)
 ·obtain⟨sl,z1⟩:=I.base.slot b o q z hb hx;exact⟨sl,(sb.2 b (neL b o q)).trans z1⟩
 ·obtain⟨o',z1⟩:=I.base.there b o q hx;exact⟨o',(sb.2 b (neL b o q)).trans z1⟩
 ·have hij:i≠j:=fun z=>by
   rw[z,sbh]at e2;simp at e2
  rw[sam (sce hij)]at e2;obtain⟨u,r,lk⟩:=hv i x w e1 e2 e3;refine⟨u,r,?_⟩
  rcases lk with⟨k,z⟩|⟨k,c,z1,z2⟩
  ·refine .inl ⟨k,?_⟩;have:x≠n:=fun z'=>hij (j7 hN e1 (z' ▸ hj));simp only[sal this,←em];exact z
  ·exact .inr ⟨k,c,z1,z2.sameBut sb (I.cne x c z1)⟩
 ·obtain⟨w',z⟩:=I.cell y c q;exact⟨w',z.sameBut sb (I.cne y c q)⟩
 ·obtain⟨z1,z2,z3,z4,z5⟩:=I.pin p hp;exact⟨(sb.2 p.1 z3).trans z1,z2,z3,z4,z5⟩
 ·refine(I.hok b u q).stay (fun c w' hc z=>(sb.2 c ?_).trans z) (fun _ z=>z) fun _ _ z=>z;rintro rfl
  rcases hc with z'|z'
  ·rw[←z',I.free]at q;cases q
  ·rw[I.free]at z';cases z'
end
noncomputable abbrev oO:List Value:=[.type "ValueError",.type "Exception",.type "BaseException",.type "object"]
theorem Yz {K:Frag}{h:Heap}{C:Addr}{bmB:List Value}{newId:String}(X:K.In h)(q:PySem.W.excIn K C bmB newId=true) :
 ∃bm N nm qn bs hdct sn sub ab col dd k0 k1 k2 k3 k5 mN,h.get? C=some (excClassObj nm qn C N bs bm hdct sn sub ab col dd k0 k1 k2 k3 k5 newId)∧h.Ns N mN∧mN "__init__" = none∧OwnTail h bmB bm:=by
 unfold PySem.W.excIn at q;split at q
 rotate_left
 ·cases q
 rename_i d1 c1 s1 look;split at q
 rotate_left
 ·cases q
 rename_i C2 b2 j0 j1 j2 j3 nn j5 hmro hsl;simp only[saS,beq_iff_eq,Bool.not_eq_true']at q;obtain⟨⟨⟨⟨⟨e1,e2⟩,nodel⟩,tl⟩,nsok⟩,noinit⟩:=q;subst e1 e2;obtain⟨nm,bs,mro,ns,qn,hd,sn,sub,ab,col,del⟩:=c1;dsimp only at hmro nodel nsok noinit;subst hmro nodel
 have es:s1=#[j0,j1,j2,j3,some (.builtin nn),j5]:=by
  obtain⟨l⟩:=s1;simp only at hsl;rw[hsl]
 subst es;exact⟨b2,ns,nm,qn,bs,hd,sn,sub,ab,col,d1,j0,j1,j2,j3,j5,_,X _ _ look,.of_isNs (PySem.W.isNs_of_in X nsok),PySem.W.nsMap_none_of_in X nsok noinit,PySem.W.tail_of_in X tl⟩
section
variable {mk:Bool}{X:Cx}{G₀ H₀:Hp}{pos:Pos}{R:RR}
end
noncomputable def QJ:V→Option Value
 | .ref a=>some (.ref a)
 | .ty n=>some (.type n)
 |_=>none
theorem Tt {x:V}{u v:Value}(h:QJ x=some v)(r:yS x u):u=v:=by
 cases x with
 |ref a=>cases h;exact r
 |ty n=>cases h;exact r
 |_=>cases h
theorem eH {α:Type}(b c x:α):∀as:List α,(as++[b,c]).set as.length x=as++[x,c]
 |[]=>rfl
 |a::as=>by simp[eH b c x as]
theorem aG {α:Type}(b c x:α):∀as:List α,(as++[b,c]).set (as.length+1) x=as++[b,x]
 |[]=>rfl
 |a::as=>by simp[aG b c x as]
theorem Vz {α:Type}(b c:α):∀as:List α,(as++[b,c])[as.length]?=some b
 |[]=>rfl
 |a::as=>by simp
theorem Ra {α:Type}(b c:α):∀as:List α,(as++[b,c])[as.length+1]?=some c
 |[]=>rfl
 |a::as=>by simp
theorem DI.setU {K:Frag}{G₀ H₀ G H:Hp}{env:Ev}{σ:St}(I:DI K G₀ H₀ env σ G H)(i:Nat)(v:Option V):DI K G₀ H₀ (env.set i .un) (σ.set i v) G H where
 le:=I.le
 gr:=I.gr
 len:=by simp[I.len]
 slot:=fun j s e=>by
  by_cases hj:i=j
  ·subst hj;obtain⟨rfl,hl⟩:=xO e;trivial
  ·rw[sam hj]at e;have q:=I.slot j s e
   cases s with
   |un=>trivial
   |p d'=>obtain⟨u,h1,h2⟩:=q;exact⟨u,by rw[sam hj];exact h1,h2⟩
   |own ds=>obtain⟨a,vs,o⟩:=q;exact⟨a,vs,by rw[sam hj];exact o.at_,o.hp,o.gn,o.new,o.rep⟩
 apart:=fun j k ds es a hjk e1 e2 s1 s2=>by
  have nj:i≠j:=fun z=>by subst z;cases(xO e1).1
  have nk:i≠k:=fun z=>by subst z;cases(xO e2).1
  rw[sam nj]at e1 s1;rw[sam nk]at e2 s2;exact I.apart j k ds es a hjk e1 e2 s1 s2
end DL
namespace DL
open PySem
noncomputable def Dt (e:Addr)(d:Option Addr)(h:Heap):Prop:=∃o,h.get? e=some o∧o.dict=d
noncomputable def Kd {α:Type}:Sem α→Prop
 | .pure _=>True
 | .raise _=>True
 | .unsupported _=>True
 | .finish _=>True
 | .rule _ k=>Kd (k ())
 | .at _ k=>Kd (k ())
 | .load _ _ k=>∀o,Kd (k o)
 | .update _ _ f k=>(∀o:Obj,(f o).dict=o.dict∧(o.isFreed=false→(f o).isFreed=false))∧Kd (k ())
 | .alloc _ k=>∀a,Kd (k a)
 | .loadIfAlive _ k=>∀o,Kd (k o)
 | .point _ k=>Kd (k ())
 | .register _ _=>True
 | .fresh k=>∀t,Kd (k t)
 | .ask k=>∀t,Kd (k t)
 | .handled _ k=>∀t,Kd (k t)
 | .stack k=>∀t,Kd (k t)
 | .thread k=>∀t,Kd (k t)
 |_=>False
theorem Qq {α:Type}{M:Model}{Γ:Ctx}{e:Addr}{d:Option Addr}:∀(t:Sem α) {Q:α→Pos→Shared→Prop} {E:Value→Pos→Shared→Prop} {p:Pos} {s:Shared},Kd t→Sem.wp M Γ t Q E p s→Dt e d s.heap →
 Sem.wp M Γ t (fun a p' s'=>Q a p' s'∧Dt e d s'.heap) (fun v p' s'=>E v p' s'∧Dt e d s'.heap) p s:=by
 intro t
 induction t with
 |pure a=>intro Q E p s _ h hd;rw[Sem.wp]at h ⊢;exact⟨h,hd⟩
 |raise e=>intro Q E p s _ h hd;rw[Sem.wp]at h ⊢;exact⟨h,hd⟩
 |unsupported _=>intro Q E p s _ h hd;rw[Sem.wp]at h;exact h.elim
 |finish _=>intro Q E p s _ h hd;rw[Sem.wp]at h;exact h.elim
 |rule _ k ih=>intro Q E p s c h hd;rw[Sem.wp]at h ⊢;exact ih () c h hd
 | «at» _ k ih=>intro Q E p s c h hd;rw[Sem.wp]at h ⊢;exact ih () c h hd
 |load a _ k ih=>intro Q E p s c h hd;rw[Sem.wp]at h ⊢;obtain⟨o,ho,h⟩:=h;exact⟨o,ho,ih o (c o) h hd⟩
 | update a _ f k ih=>
   intro Q E p s c h hd;rw[Sem.wp]at h ⊢;refine⟨h.1,ih () c.2 h.2 ?_⟩;obtain⟨o,ho,hd⟩:=hd;by_cases q:a=e
   ·subst q;exact⟨_,saL f ho ((c.1 o).2 (Heap.get?_some_iff.mp ho).2),(c.1 o).1.trans hd⟩
   ·exact⟨o,(saG _ f q).trans ho,hd⟩
 | alloc o k ih=>
   intro Q E p s c h hd;rw[Sem.wp]at h ⊢;obtain⟨oe,ho,hd⟩:=hd;exact ih _ (c _) h ⟨oe,sab _ ho,hd⟩
 |loadIfAlive a k ih=>intro Q E p s c h hd;rw[Sem.wp]at h ⊢;exact ih _ (c _) h hd
 |point _ k ih=>intro Q E p s c h hd;rw[Sem.wp]at h ⊢;exact ih () c h hd
 |register _ _ _=>intro Q E p s c h hd;rw[Sem.wp]at h;exact h.elim
 |fresh k ih=>intro Q E p s c h hd;rw[Sem.wp]at h ⊢;exact ih _ (c _) h hd
 |ask k ih=>intro Q E p s c h hd;rw[Sem.wp]at h ⊢;exact ih _ (c _) h hd
 |handled _ k ih=>intro Q E p s c h hd;rw[Sem.wp]at h ⊢;exact ih _ (c _) h hd
 |stack k ih=>intro Q E p s c h hd;rw[Sem.wp]at h ⊢;exact ih _ (c _) h hd
 |thread k ih=>intro Q E p s c h hd;rw[Sem.wp]at h ⊢;exact ih _ (c _) h hd
 |_=>intro Q E p s c;exact False.elim c
theorem iy {α:Type}{M:Model}{A:Around}{e:Addr}{d:Option Addr}{t:Sem α}{Q:α→Shared→Prop}{E:Value→Shared→Prop}{s:Shared}(k:Kd t)(h:wpAny M A t Q E s)(hd:Dt e d s.heap) :
 wpAny M A t (fun a s'=>Q a s'∧Dt e d s'.heap) (fun v s'=>E v s'∧Dt e d s'.heap) s:=fun Γ p hΓ=>Qq t k (h Γ p hΓ) hd
theorem yu {α β:Type}{m:Sem α}{f:α→Sem β}(h:Kd m)(hf:∀a,Kd (f a)):Kd (m >>= f):=by
 show Kd (Sem.bind m f)
 induction m with
 |pure a=>exact hf a
 |raise _=>trivial
 |unsupported _=>trivial
 |finish _=>trivial
 |rule _ k ih=>exact ih () h
 | «at» _ k ih=>exact ih () h
 |load a _ k ih=>exact fun o=>ih o (h o)
 |update a _ g k ih=>exact⟨h.1,ih () h.2⟩
 |alloc o k ih=>exact fun o=>ih o (h o)
 |loadIfAlive a k ih=>exact fun o=>ih o (h o)
 |point _ k ih=>exact ih () h
 |register _ _ _=>trivial
 |fresh k ih=>exact fun o=>ih o (h o)
 |ask k ih=>exact fun o=>ih o (h o)
 |handled _ k ih=>exact fun o=>ih o (h o)
 |stack k ih=>exact fun o=>ih o (h o)
 |thread k ih=>exact fun o=>ih o (h o)
 |_=>exact False.elim h
theorem dA (a:Addr):Kd (load a):=fun _=>trivial
theorem bF (v:Value):Kd (fieldsOf v):=by
 unfold fieldsOf;split
 ·refine yu (dA _) fun o=>?_
  split <;> trivial
 ·trivial
theorem mm (v:Value)(i:Nat):Kd (field v i):=by
 unfold field;refine yu (bF v) fun o=>?_
 split <;> trivial
theorem pF (v:Value)(i:Nat)(x:Value):Kd (setField v i x):=by
 unfold setField;split
 ·unfold updateField;refine yu (dA _) fun o=>?_;split
  ·split
   ·refine⟨fun o=>?_,trivial⟩;obtain⟨c,d,dt,sl⟩:=o
    cases dt <;> exact⟨rfl,fun z=>z⟩
   ·trivial
  ·trivial
 ·trivial
theorem qj (v:Value)(f:Option Addr):Kd (setFlight v f):=by
 unfold setFlight;refine yu (mm _ _) fun o=>?_;split
 ·exact pF _ _ _
 ·trivial
theorem bE:∀l:List Env,Kd (readyFrames l)
 |[]=>trivial
 | env::outer=>by
   unfold readyFrames;split
   ·refine yu (dA _) fun o=>?_;split
    ·trivial
    ·refine yu ?_ fun b=>yu ?_ fun c=>yu ?_ fun _=>bE outer
     ·unfold behindIsImport;split
      ·trivial
      ·split
       ·trivial
       ·exact yu (mm _ _) fun _=>trivial
     ·unfold keptBack;split
      ·split
       ·trivial
       ·unfold underTheClaimsCaller
        first|exact yu (fun _=>trivial) fun _=>trivial|exact yu (yu (fun _=>trivial) fun _=>trivial) fun _=>trivial
      ·trivial
     ·refine⟨fun o=>?_,trivial⟩;obtain⟨c,d,dt,sl⟩:=o
      cases dt <;> exact⟨rfl,fun z=>z⟩
   ·trivial
theorem Zg (env:Env):Kd (frameOf env):=by
 unfold frameOf frameEnvs;refine yu (yu (fun _=>trivial) fun _=>trivial) fun l=>yu ?_ fun f=>?_
 ·unfold frameObject;split
  ·trivial
  ·exact yu (bE _) fun _=>trivial
 ·split <;> trivial
theorem dz (t:String)(vs:List Value):Kd (newFields t vs):=by
 unfold newFields newObj;dsimp only;split
 ·trivial
 ·exact fun _=>trivial
theorem ml (v:Value)(env:Env):Kd (noteFrame v env):=by
 unfold noteFrame;split
 ·rename_i f _;refine yu (mm _ _) fun h=>?_
  have tail:Kd (do setField v 1 (← EntryCells.newEntry h (← frameOf env) .none (rawInt f) .none (← entryPlaceOf f (h != .none)))):=by
   refine yu (Zg _) fun a=>yu ?_ fun p=>yu (dz _ _) fun _=>pF _ _ _;unfold entryPlaceOf;refine yu (fun _=>trivial) fun acts=>?_
   split <;> trivial
  split
  ·refine yu (mm _ _) fun x=>?_;split
   ·trivial
   ·exact yu (pF _ _ _) fun _=>tail
  ·exact tail
 ·trivial
theorem iw (env:Env)(v:Value):Kd (leaving env v):=yu (ml _ _) fun _=>qj _ _
noncomputable abbrev Sa (us:List Value):Obj:={cls:=.type "tuple",data:=.seq us.toArray}
noncomputable abbrev pO (C t:Addr)(dq:Option Addr)(sl:Array (Option Value)):Obj:=⟨.ref C,dq,.fields #[.ref t,.none,.none,.none,.bool false,.none],sl⟩
noncomputable abbrev V5 (C t:Addr):Obj:={cls:=.ref C,data:=.fields #[.ref t,.none,.none,.none,.bool false,.none]}
section
variable {prog:Program}{w:World}{A:Around}{E:Value→Shared→Prop}{h:Heap}{g:Array GenState}{d:Drawn}{t:Nat}{os:OsState}
variable {nm q:Str}{C N:Addr}{bs bm bmB:List Value}{hdct:Bool}{sn:List Str}{sub:List Value}{ab:Bool}{col:Option Bool}{dd:Option Addr}{k0 k1 k2 k3 k5:Option Value}{B newId initId:String}
theorem cM {us:List Value}{fI:Addr}{oI:Obj}{Q:Fin→Shared→Prop}(F:ExcBaseFacts B newId initId bmB)(T:OwnTail h bmB bm)
 (hC:h.get? C=some (excClassObj nm q C N bs bm hdct sn sub ab col dd k0 k1 k2 k3 k5 newId)) (hL:PySem.W.Looks (model prog w) h (typeLookup (.ref C) "__init__") (some (.ref fI))) (hfI:h.get? fI=some oI) (hfc:oI.cls=.type "function")
 (hq:∀h' e,Heap.MadeExcOf h h' e (.ref C) us→wpAny (model prog w) A (call (.ref fI) (.ref e::us)) (fun r s'=>r=.none∧Q (.done (.ret (.ref e))) s') E ⟨h',g,d,t,os⟩) (hus:us.length≤sizeLine) :
 wpAny (model prog w) A (Builtin.«type.__call__» ⟨.ref C::us,[]⟩) Q E ⟨h,g,d,t,os⟩:=by
 repeat (first|with_reducible refine scD hC ?_|with_reducible refine wpAny_madeBy_exc hC ?_|wp_step)
 refine codeAny_call_builtin_code (Code.quiet_builtin _ F.quiet) (wpAny_check_new_subT F T hC ?_);refine codeAny_exc_new_subT F T hC ?_ hus;show wpAny _ _ _ _ _ _;have up:∀b o,h.get? b=some o→((h.push (Sa us)).push (V5 C h.objs.size)).get? b=some o:=fun b o e=>sab _ (sab _ e);have C1:=up _ _ hC;have hget:((h.push (Sa us)).push (V5 C h.objs.size)).get? (h.objs.size+1)=some (V5 C h.objs.size):=by heap_get
 have hcC:(Value.ref C::bm).contains (.ref C)=true:=by simp
 unfold isInstance
 repeat (first|with_reducible refine scD hget ?_|(with_reducible refine wpAny_isSubtype_exc C1 ?_;rw[hcC])|wp_step)
 show wpAny _ _ (typeLookup (.ref C) _) _ _ _;refine hL _ _ _ _ up ?_;refine saM (saa ?_);unfold bindSpecial;refine saa (wpAny_typeOf (T := "function") ⟨_,up _ _ hfI,hfc⟩ ?_);rw[sak (by decide)];refine sad (saa (saR (hq _ (h.objs.size+1) ⟨up,Heap.get?_none_of_le (Nat.le_succ _),h.objs.size,hget,Heap.get?_none_of_le (Nat.le_refl _),sab _ (Heap.get?_push_at rfl rfl)⟩) (fun r s' hr=>?_) fun _ _ x=>x));obtain⟨rfl,hQ⟩:=hr
 wp_walk
 exact hQ
theorem ZE {us:List Value}{fI:Addr}{oI:Obj}{Q:Value→Shared→Prop}(F:ExcBaseFacts B newId initId bmB)(T:OwnTail h bmB bm)
 (hC:h.get? C=some (excClassObj nm q C N bs bm hdct sn sub ab col dd k0 k1 k2 k3 k5 newId)) (hL:PySem.W.Looks (model prog w) h (typeLookup (.ref C) "__init__") (some (.ref fI))) (hfI:h.get? fI=some oI) (hfc:oI.cls=.type "function")
 (hq:∀h' e,Heap.MadeExcOf h h' e (.ref C) us→wpAny (model prog w) (A.under (.builtin "type.__call__" ⟨.ref C::us,[]⟩)) (call (.ref fI) (.ref e::us)) (fun r s'=>r=.none∧Q (.ref e) s') E ⟨h',g,d,t,os⟩) (hus:us.length≤sizeLine) :
 wpAny (model prog w) A (call (.ref C) us) Q E ⟨h,g,d,t,os⟩:=by
 have f1:=tc_lookup;have f2:=tc_bind (.ref C)
 have hT:(⟨h,g,d,t,os⟩:Shared).TypeIs (.ref C) "type" :=⟨_,hC,rfl⟩
 refine scJ (codeAny_of_tree ?_);show wpAny _ _ (callAny (.ref C) _) _ _ _
 repeat (any_goals (first|assumption|with_reducible refine scD hC ?_|wp_step))
 exact⟨rfl,codeAny_call_builtin_at (Code.quiet_builtin _ (by decide +kernel)) entry_typeCall (wpAny_check_type_call_sub hC (cM F T hC hL hfI hfc (fun h' e hm=>hq h' e hm) hus))⟩
end
section
variable {prog:Program}{w:World}{A:Around}{E:Value→Shared→Prop}{s:Shared}{env:Env}
variable {nm q:Str}{C N:Addr}{bs bm bmB:List Value}{hdct:Bool}{sn:List Str}{sub:List Value}{ab:Bool}{col:Option Bool}{dd:Option Addr}{k0 k1 k2 k3 k5:Option Value}{B newId initId:String}
theorem jU {x:Sem Value}{Q:Flow→Shared→Prop}(hbase:bm.contains (.type "BaseException")=true) (hh:A.handled=none)
 (h:wpAny (model prog w) A x (fun v s₁=>∃(e t:Addr) (dq:Option Addr) (sl:Array (Option Value)),v=.ref e∧s₁.heap.get? C=some (excClassObj nm q C N bs bm hdct sn sub ab col dd k0 k1 k2 k3 k5 newId)∧s₁.heap.get? e=some (pO C t dq sl)∧E (.ref e) s₁) E s) :
 wpAny (model prog w) A (raiseStmt env (some x) none) Q E s:=by
 have hcB:(Value.ref C::bm).contains (.type "BaseException")=true:=by rw[List.contains_cons,hbase,Bool.or_true]
 unfold raiseStmt;refine saa (saR h (fun v s₁ h₁ =>?_) fun _ _ x=>x);obtain⟨e,t,dq,sl,rfl,hC,he,hE⟩:=h₁;obtain⟨hp,g,d,tk,os⟩:=s₁
 repeat (first|with_reducible refine scD he ?_|with_reducible refine scD hC ?_|(with_reducible refine wpAny_isSubtype_exc hC ?_;rw[hcB])|wp_step)
 exact wpAny_raiseNew_none hh hE
theorem aJ {x:Str}{np cpos pos:Pos}{args:List Expr}{fI:Addr}{oI:Obj}{Q:Flow→Shared→Prop}(F:ExcBaseFacts B newId initId bmB)
 (hbase:bm.contains (.type "BaseException")=true) (hh:A.handled=none) (hplain:(backTo cpos (starEach args env)).any (·.1)=false) (hfc:oI.cls=.type "function")
 (h:wpAny (model prog w) A (eval (.Name x np) env) (fun f s₁=>f=.ref C∧wpAny (model prog w) A (evalArgs (.ref C) true (backTo cpos (starEach args env)) [])
  (fun a s₂=>a.kw=[]∧a.pos.length≤sizeLine∧s₂.heap.get? C=some (excClassObj nm q C N bs bm hdct sn sub ab col dd k0 k1 k2 k3 k5 newId)∧PySem.W.Looks (model prog w) s₂.heap (typeLookup (.ref C) "__init__") (some (.ref fI))∧OwnTail s₂.heap bmB bm∧s₂.heap.get? fI=some oI ∧
   ∀ h' e,Heap.MadeExcOf s₂.heap h' e (.ref C) a.pos→wpAny (model prog w) (A.under (.builtin "type.__call__" ⟨.ref C::a.pos,[]⟩)) (call (.ref fI) (.ref e::a.pos))
     (fun r s'=>r=.none∧∃(t:Addr) (dq:Option Addr) (sl:Array (Option Value)),s'.heap.get? C=some (excClassObj nm q C N bs bm hdct sn sub ab col dd k0 k1 k2 k3 k5 newId)∧s'.heap.get? e=some (pO C t dq sl)∧E (.ref e) s') E {s₂ with heap:=h'}) E s₁) E s) :
 wpAny (model prog w) A (exec (.Raise (some (.Call (.Name x np) args [] cpos)) none pos) env) Q E s:=by
 rw[arm_exec_Raise]
 first
  |refine saa (sco (jU (C:=C) (nm:=nm) (q:=q) (N:=N) (bs:=bs) (bm:=bm) (hdct:=hdct) (sn:=sn) (sub:=sub) (ab:=ab) (col:=col) (dd:=dd) (k0:=k0) (k1:=k1) (k2:=k2) (k3:=k3) (k5:=k5) (newId:=newId) hbase hh (saa (saR (wpAny_Call_ofName (saR h (fun f s₁ h₁ =>?_) fun _ _ x=>x)) (fun v s₃ h₃=>saa (sco (sad h₃))) fun _ _ x=>x))))
  |(simp only[evalOpt,Option.map];refine saa (sco (jU (C:=C) (nm:=nm) (q:=q) (N:=N) (bs:=bs) (bm:=bm) (hdct:=hdct) (sn:=sn) (sub:=sub) (ab:=ab) (col:=col) (dd:=dd) (k0:=k0) (k1:=k1) (k2:=k2) (k3:=k3) (k5:=k5) (newId:=newId) hbase hh (saa (saR (wpAny_Call_ofName (saR h (fun f s₁ h₁ =>?_) fun _ _ x=>x)) (fun v s₃ h₃=>saa (sco (sad h₃))) fun _ _ x=>x)))))
 obtain⟨rfl,h₁⟩:=h₁;unfold callWith;refine saa (saM (saR h₁ (fun a s₂ h₂=>saa (sco ?_)) fun _ _ x=>x));obtain⟨apos,akw⟩:=a;obtain⟨hkw,hlen,hC,hL,T,hfI,h₂⟩:=h₂;obtain rfl:akw=[]:=hkw;obtain⟨hp,g,d,tk,os⟩:=s₂;simp only[hplain];refine saa (wpAny_keeperOf_exc hC ?_);refine saa (ZE F T hC hL hfI hfc (fun h' e hm=>saR (h₂ h' e hm) (fun r s' z=>⟨z.1,saa (saM (wpAny_point (sad ?_)))⟩) fun _ _ x=>x) hlen);obtain⟨_,t,dq,sl,z⟩:=z;exact⟨e,t,dq,sl,rfl,z⟩
end
end DL
namespace DL
open PySem PySem.Spec PyProof.Rows L2 PySem.W PySem.Builtin PySem.Builtin.ObjectAttr
structure LayCls (K:Frag)(C:Addr)(f:Str):Prop where
 ex:ExCls K C
 hd:hasDictIn K C=true
 sa:findIn K (.ref C) "__setattr__" = some (some (.builtin "object.__setattr__"))
 na:findIn K (.ref C) f=some none
 mr:∃cd,clsIn K C=some cd∧∀self:Value,refuseLoop self "__setattr__" cd.mro=pure ()
section
variable {prog:Program}{w:World}{A:Around}{E:Value→Shared→Prop}{s:Shared}{K:Frag}{e C t:Addr}{f:Str}{v:Value}
theorem Tj {sl:Array (Option Value)}{Q:Unit→Shared→Prop}(X:K.In s.heap)(Z:LayCls K C f)(he:s.heap.get? e=some (pO C t none sl))
 (hQ:∀h' tk,h'.get? e=some (pO C t (some s.heap.objs.size) sl)→h'.Ns1 s.heap.objs.size (fun y=>if y=f then some v else none)→(∀b o,b≠e→s.heap.get? b=some o→h'.get? b=some o)→Q () {s with heap:=h',toks:=tk}) :
 wpAny (model prog w) A (setAttr (.ref e) f v) Q E s:=by
 obtain⟨cd,hc,hr⟩:=Z.mr
 have hdd:cd.hasDict=true:=by
  have:=Z.hd;unfold hasDictIn at this;rw[hc]at this;exact this
 have SF:=PySem.F.store_object;have L0:Looks (model prog w) s.heap (typeOf (.ref e)) (.ref C):=lE ⟨_,he,rfl⟩;have hm:Looks (model prog w) s.heap (mroOf (.ref C)) cd.mro:=(looks_clsIn X hc).andThen .now;have ha:Looks (model prog w) s.heap (typeLookup (.ref C) f) none:=looks_findIn X Z.na;refine saa (wpAny_mkText (saa (saa (saa (L0 _ _ _ _ (fun _ _ e=>e) (looks_findIn X Z.sa _ _ _ _ (fun _ _ e=>e) (saM ?_)))))));rw[SF.slot.bind];refine saa (sad (saa (scJ ?_)));refine scm SF.slot.plain SF.entry (@check_slot (model prog w) _ _ {s with toks:=s.toks+1} "object.__setattr__" "object" "__setattr__" (.ref e) [.str f s.toks,v] [] _ SF.kind SF.split (L0.andThen (looks_mroIn X Z.ex.mo)) (SF.args (.ref e) (.str f s.toks) v) ?_);show wpAny _ _ (Builtin.«object.__setattr__» ⟨[.ref e,.str f s.toks,v],[]⟩) _ _ _;rw[osa_eq,refuse_eq];refine saa (saa (L0.here (s:={s with toks:=s.toks+1}) (saa (hm.here (s:={s with toks:=s.toks+1}) ?_))));rw[hr];refine sad (saa (L0.here (s:={s with toks:=s.toks+1}) (saa (ha.here (s:={s with toks:=s.toks+1}) (saa (sad ?_))))));show wpAny _ _ (storeInOwnDict (.ref e) (.ref C) (.str f s.toks) f v false) _ _ _;refine saa (sad (saa (saa (wpAny_loadPart (s:={s with toks:=s.toks+1}) he (saa ((looks_clsIn X hc).here (s:={s with toks:=s.toks+1}) ?_))))));rw[hdd];have hes:e≠s.heap.objs.size:=saz (sag he);have he1:(s.heap.push {cls:=.type "dict",data:=.dict #[]}).get? e=some (pO C t none sl):=sab _ he;obtain⟨hh,gg,dd,tt,oo⟩:=s;dsimp only at *;refine saa (wpAny_alloc' ?_);refine saa (wpAny_update' he1 ?_);refine sad (a:=some hh.objs.size) ?_
 have hgd:((hh.push {cls:=.type "dict",data:=.dict #[]}).update e fun o=>{o with dict:=some hh.objs.size}).get? hh.objs.size=some {cls:=.type "dict",data:=.dict #[]} :=
  (Heap.get?_update_ne _ _ _ _ hes.symm).trans (Heap.get?_push_at rfl rfl)
 have hnd:((hh.push {cls:=.type "dict",data:=.dict #[]}).update e fun o=>{o with dict:=some hh.objs.size}).Ns hh.objs.size (fun _=>none):=⟨_,#[],_,hgd,rfl,(fun b hb=>absurd hb (by simp)),fun _=>rfl⟩
 have hge:=saL (fun o:Obj=>{o with dict:=some hh.objs.size}) he1 rfl;show wpAny _ _ (storeInDict hh.objs.size (.str f tt) f v) _ _ _;refine saa (sad (saa (wpAny_nsSet1 (Heap.Ns1.of_empty hnd) fun h' hn' hs=>?_)));obtain⟨oD,esD,epD,hoD,hdD,hcD⟩:=hn'.count (Within.cons f v Within.nil);refine saa (wpAny_lookBehind hoD (by rw[hdD];exact pastItsLine_dict (sbq hcD (by rw[List.length_cons,List.length_nil,sizeLine_eq];lia))) ?_);refine sad (sad (sad (hQ h' _ ((hs.2 e hes).trans hge) hn' fun b o hbe hb=>?_)));exact(hs.2 b (saz (sag hb))).trans ((Heap.get?_update_ne _ _ _ _ hbe).trans (sab _ hb))
theorem To {ox od:Obj}{tk:Tok}{R:Result→Shared→Prop}(X:K.In s.heap)(I:InstAt s.heap e ox C (some od))(Z:ExCls K C)(hh:hasDictIn K C=true)(hn:findIn K (.ref C) f=some none)(hl:lookIn f od=some (some v))(hR:R (.ok (.ret v)) s) :
 codeAny (model prog w) A (.call (.builtin "BaseException.__getattribute__") ⟨[.ref e,.str f tk],[]⟩) R s:=by
 obtain⟨h0,g0,d0,t0,o0⟩:=s;have L0:=I.type (M:=model prog w);have L1:=looks_mroIn (M:=model prog w) X Z.mb;have L3:=looks_find (M:=model prog w) X I (findObj_own hh hn rfl hl);have hk:builtinKind "BaseException.__getattribute__" = some .slot:=by decide +kernel
 have hsp:splitId "BaseException.__getattribute__" = some ("BaseException","__getattribute__"):=by decide +kernel
 have hpl:plainId "BaseException.__getattribute__" = true:=by decide +kernel
 have hargs:=F.args_bexc_ga (.ref e) (.str f tk);refine scm hpl F.entry_bexc_ga (@check_slot (model prog w) _ _ ⟨h0,g0,d0,t0,o0⟩ "BaseException.__getattribute__" "BaseException" "__getattribute__" (.ref e) [.str f tk] [] _ hk hsp (L0.andThen L1) hargs ?_);refine saa (sad (saa (sad (saa (L0.at (saa (L3.at ?_)))))));exact sad hR
theorem Tn {ox od:Obj}{expr:Bool}{Q:Value→Shared→Prop}(X:K.In s.heap)(I:InstAt s.heap e ox C (some od))(Z:ExCls K C)(hh:hasDictIn K C=true)(hn:findIn K (.ref C) f=some none)(hl:lookIn f od=some (some v))(hv:handedIn v=true)(hQ:Q v {s with toks:=s.toks+1}) :
 wpAny (model prog w) A (getAttr (.ref e) f expr) Q E s:=by
 obtain⟨h0,g0,d0,t0,o0⟩:=s;have L0:=I.type (M:=model prog w);have L1:=looks_findIn (M:=model prog w) X Z.ga;have L2:=looks_findIn (M:=model prog w) X Z.gn;have hx2:(Value.builtin "BaseException.__getattribute__" == Value.builtin "object.__getattribute__")=false:=by decide +kernel
 have hx1:(onTheHeap (Value.ref C)&&Value.builtin "BaseException.__getattribute__" == Value.builtin "object.__getattribute__")=false:=by rw[hx2];rfl
 have hx0:∀b,(b&&onTheHeap (Value.builtin "BaseException.__getattribute__"))=false:=fun b=>by cases b <;> rfl
 have hb:=PySem.F.attr_ValueError.ga.bind (.ref e);unfold getAttr getAttrBy;refine saa (wpAny_mkText (saM (saa (L0.at (saa (L1.at ?_))))));dsimp only;rw[hx1];simp only[sax,if_false];unfold getAttrByItsOwn;refine saa ?_;show wpAny _ _ (typeLookup (.ref C) "__getattr__") _ _ _;refine L2.at ?_;refine saa (scB (saM ?_));unfold callGetattribute;rw[hx0];show wpAny _ _ (boundAndCalled (.builtin "BaseException.__getattribute__") (.ref e) (.str f t0)) _ _ _;unfold boundAndCalled;refine saa (wpAny_of_eq hb ?_);refine scJ (To (s:=⟨h0,g0,d0,t0+1,o0⟩) X I Z hh hn hl ?_);show wpAny _ _ (handedOut v) _ _ _;rw[handedOut_of hv];exact sad hQ
end
end DL
namespace DL
open PySem PySem.Spec PyProof.Rows L2
noncomputable abbrev Xc:=Str×Option Int
noncomputable abbrev RX:=Ev→Xc→Prop
noncomputable def mM (H:Hp)(dq:Option Addr):Option Int→Prop
 |none=>True
 |some n=>∃dx,dq=some dx∧H dx=some (.xd [("place",.int n)])
theorem mM.mono {H H':Hp}{dq:Option Addr}{n:Option Int}(b:mM H dq n)(s:zI H H'):mM H' dq n:=by
 cases n with
 |none=>trivial
 |some n=>obtain⟨dx,e,h⟩:=b;exact⟨dx,e,s _ _ h⟩
noncomputable def Pb (P:Program)(w:World):ZQ:=fun outer H s E e s'=>∃ea cls H' dq,e=.ref ea∧Fly P w outer H H' s s' ea cls∧Dt ea dq s'.heap∧E cls dq H'
structure Made (X:Cx)(H H1:Hp)(s s1:Shared)(e C:Addr)(dq:Option Addr):Prop where
 new:s.heap.get? e=none
 obj:∃t sl,s1.heap.get? e=some (pO C t dq sl)
 hn:H1 e=none
 same:zI H H1
 un:Un (nv X.stack) [] H H1 s.heap s1.heap
 hok:nO X.prog X.w H1 s1.heap
 os:s1.os=s.os
 bare:AllBare s1.gens
section
variable {X:Cx}{pins:List (Addr×Obj)}{σ:St}{H H1:Hp}{s s1:Shared}{e C:Addr}{dq:Option Addr}{cls:Value}
theorem XH {M:Model}{Q:Unit→Shared→Prop}{E:Value→Shared→Prop}(I:Inv X pins σ H s)(hst:X.stack=X.env::X.outer)(hf:X.env.frame=some X.env.locals)(hex:X.ex=[])(h0:zI X.H₀ H)(m:Made X H H1 s s1 e C dq)
 (hQ:∀s'',Fly X.prog X.w X.outer X.H₀ H1 X.s₀ s'' e (.ref C)→Dt e dq s''.heap→Q () s''):wpAny M X.A (leaving X.env (.ref e)) Q E s1:=by
 obtain⟨t,sl,he⟩:=m.obj;have I1:Inv X pins σ H1 s1:=I.call' (ch:=[]) m.os m.un m.hok m.bare (fun b z=>absurd z (by simp));have hfr:X.A.frames=some (X.env::X.outer):=by rw[I.ok.frames,hst]
 have hin:∀env∈X.stack,∀b,env.frame=some b→b∈e::nv X.stack:=fun env he b hb=>sao _ (scx.mpr ⟨env,he,hb⟩)
 have hl:s1.heap.FunFrames (PySem.W.hideAll s1.heap (e::nv X.stack)) (X.env::X.outer):=by
  rw[←hst];exact PySem.W.funFrames_hide I1.stack hin
 have hne:∀b u,H1 b=some u→b∉e::nv X.stack:=fun b u q z=>by
  rcases san.mp z with z|z
  ·rw[z,m.hn]at q;cases q
  ·rw[I1.stkFree b z]at q;cases q
 have hen:(PySem.W.hideAll s1.heap (e::nv X.stack)).get? e=none:=PySem.W.hideAll_none _ saw;refine saR (iy (e:=e) (d:=dq) (iw _ _) (wpAny_leaving_firstW (E:=E) (Q:=fun _ s''=>Fly X.prog X.w X.outer X.H₀ H1 X.s₀ s'' e (.ref C)) hfr hl hf he (fun b o q=>PySem.W.of_hideAll _ q) hen rfl rfl rfl fun h' hL=>?_) ⟨_,he,rfl⟩) (fun _ s'' z=>hQ s'' z.1 z.2) fun _ _ z=>z.1;obtain⟨k1,⟨_,_,k2⟩,k3,k4⟩:=hL;refine bO I hex h0 m.same (fun b o q n z=>PySem.W.hideAll_get _ (m.un.keep b o q n z (by simp)) fun z'=>?_) (fun b u o q1 q2=>PySem.W.hideAll_get _ q2 (hne b u q1)) m.un m.hok k1 k4 m.os m.bare ⟨k1,hen,k2,k3⟩
 rcases san.mp z' with z'|z'
 ·rw[z',m.new]at q;cases q
 ·exact z z'
theorem XG {M:Model}{Q:Unit→Shared→Prop}{E:Value→Shared→Prop}(I:Inv X pins σ H s)(hst:X.stack=X.env::X.outer)(hf:X.env.frame=some X.env.locals)(hex:X.ex=[])(h0:zI X.H₀ H)(F:Fly X.prog X.w X.stack H H1 s s1 e cls)(hd:Dt e dq s1.heap)
 (hQ:∀s'',Fly X.prog X.w X.outer X.H₀ H1 X.s₀ s'' e cls→Dt e dq s''.heap→Q () s''):wpAny M X.A (leaving X.env (.ref e)) Q E s1 :=
 saR (iy (iw _ _) (VG (E:=E) (Q:=fun _ s''=>Fly X.prog X.w X.outer X.H₀ H1 X.s₀ s'' e cls) I hst hf hex h0 F fun s'' z=>z) hd) (fun _ s'' z=>hQ s'' z.1 z.2) fun _ _ z=>z.1
end
noncomputable def Ua (mk:Bool)(X:Cx)(pins:List (Addr×Obj))(S:SS)(x:Xc):Prop :=
 (mk=true→∀(σ:St) (H G H1 G1:Hp) (env:Ev) (s s1:Shared) (e C:Addr) (dq:Option Addr),Inv X pins σ H s→S env σ G H→X.mg x.1=some (.ref C)→Made X H H1 s s1 e C dq→Gw G H G1 H1→zI G1 H1→mM H1 dq x.2→X.xe (.ref e) s1) ∧
 (∀(σ:St) (H G H1 G1:Hp) (env:Ev) (s s1:Shared) (e C:Addr) (dq:Option Addr),Inv X pins σ H s→S env σ G H→X.mg x.1=some (.ref C)→Fly X.prog X.w X.stack H H1 s s1 e (.ref C)→Dt e dq s1.heap→Gw G H G1 H1→zI G1 H1→mM H1 dq x.2→X.xe (.ref e) s1)
section
variable (mk:Bool)(X:Cx)(G₀ H₀:Hp)
noncomputable def Q4 (α:Type)(m:Sem α)(R:RX):Prop:=∀(pins:List (Addr×Obj)) (s:Shared) (σ:St) (H:Hp) (env:Ev) (G:Hp) (x:Xc) (Q:α→Shared→Prop) (S:SS),Inv X pins σ H s→DI X.K G₀ H₀ env σ G H→R env x→(∀G' H',Gw G H G' H'→zI G' H'→S env σ G' H')→Ua mk X pins S x→wpAny (model X.prog X.w) X.A m Q X.xe s
noncomputable def Ub (st:Stmt)(R:RX):Prop:=Q4 mk X G₀ H₀ Flow (exec st X.env) R
noncomputable def TJ (st:List Stmt)(R:RX):Prop:=Q4 mk X G₀ H₀ Flow (execs st X.env) R
noncomputable def QS (e:Expr)(R:RX):Prop:=Q4 mk X G₀ H₀ Value (eval e X.env) R
noncomputable def Oi (es:List Expr)(R:RX):Prop:=∀pos:Pos,Q4 mk X G₀ H₀ (List Value) (spliced (backTo pos (starEach es X.env))) R
end
noncomputable def TK (X:Cx)(G₀ H₀:Hp)(st:List Stmt)(R:RX):Prop:=∀(pins:List (Addr×Obj)) (s:Shared) (σ:St) (H:Hp) (env:Ev) (G:Hp) (x:Xc) (Q:Flow→Shared→Prop),Inv X pins σ H s→DI X.K G₀ H₀ env σ G H→R env x→(∀pins,Ua true X pins (fun env σ G H=>DI X.K G₀ H₀ env σ G H) x)→wpAny (model X.prog X.w) X.A (execs st X.env) Q X.xe s
noncomputable def Zs (g:D→Ev→Out Ev)(fb:FS)(R:RX):List D→RX
 |[],_,_=>False
 |d::ds,env,x=>∃env1,g d env=.ok env1∧(R env1 x∨∃env2,fb env1=.ok (.next env2)∧Zs g fb R ds env2 x)
section
variable {mk:Bool}{X:Cx}{G₀ H₀:Hp}{pos:Pos}{R:RX}
theorem vv {st:Stmt}{yv:List Stmt}(h:Ub mk X G₀ H₀ st R):TJ mk X G₀ H₀ (st::yv) R:=fun pins s σ H env G x Q S I d r k W=>scs (h pins s σ H env G x _ S I d r k W)
theorem wC {st:Stmt}{yv:List Stmt}(h:Ub true X G₀ H₀ st R):TK X G₀ H₀ (st::yv) R:=fun pins s σ H env G x Q I d r W=>scs (h pins s σ H env G x _ _ I d r (fun G' H' g l=>d.grow g l) (W pins))
theorem pC {st:Stmt}{yv:List Stmt}{f:FS}(h1:DS X G₀ H₀ st f)(h2:TK X G₀ H₀ yv R):TK X G₀ H₀ (st::yv) (fun env x=>∃env',f env=.ok (.next env')∧R env' x):=by
 intro pins s σ H env G x Q I d ⟨env',e,r⟩ W;refine scs (xU (h1 pins s σ H {nx:=fun σ' H'=>∃G',DI X.K G₀ H₀ env' σ' G' H',rt:=fun _ _=>False} I ⟨env,G,.next env',d,e,fun σ' G' H' _ d'=>⟨G',d'⟩⟩) fun f s1 q=>?_)
 cases f with
 | next=>
   obtain⟨σ',H',I',G',d'⟩:=q;exact h2 pins s1 σ' H' env' G' x Q I' d' r W
 |ret v=>obtain⟨_,_,_,_,_,z⟩:=q;exact z.elim
 |brk=>obtain⟨_,_,_,z⟩:=q;exact z.elim
 |cont=>obtain⟨_,_,_,z⟩:=q;exact z.elim
theorem eR {st:List Stmt}{R1 R2:RX}(h1:TK X G₀ H₀ st R1)(h2:TK X G₀ H₀ st R2):TK X G₀ H₀ st (fun env x=>R1 env x∨R2 env x):=fun pins s σ H env G x Q I d r W=>r.elim (fun r=>h1 pins s σ H env G x Q I d r W) (fun r=>h2 pins s σ H env G x Q I d r W)
theorem m6 {c:Expr}{a b:List Stmt}{ft:FT}(hc:DT X G₀ H₀ c ft)(ha:TJ mk X G₀ H₀ a R):Ub mk X G₀ H₀ (.If c a b pos) (fun env x=>ft env=.ok true∧R env x):=by
 intro pins s σ H env G cc Q S I d ⟨e,r⟩ k W;refine wpAny_If (xU (hc pins s σ H (fun b H'=>b=true∧∃G',Gw G H G' H'∧zI G' H') I ⟨env,G,true,d,e,fun G' H' g l=>⟨rfl,G',g,l⟩⟩) fun d' s1 ⟨H1,I1,q1,G1,g1,l1⟩=>?_);subst q1;exact ha pins s1 σ H1 env G1 cc Q S I1 (d.grow g1 l1) r (fun G' H' g l=>k G' H' (g1.trans g) l) W
theorem UD {c:Expr}{a b:List Stmt}{ft:FT}(hc:DT X G₀ H₀ c ft)(hb:TJ mk X G₀ H₀ b R):Ub mk X G₀ H₀ (.If c a b pos) (fun env x=>ft env=.ok false∧R env x):=by
 intro pins s σ H env G cc Q S I d ⟨e,r⟩ k W;refine wpAny_If (xU (hc pins s σ H (fun b H'=>b=false∧∃G',Gw G H G' H'∧zI G' H') I ⟨env,G,false,d,e,fun G' H' g l=>⟨rfl,G',g,l⟩⟩) fun d' s1 ⟨H1,I1,q1,G1,g1,l1⟩=>?_);subst q1;exact hb pins s1 σ H1 env G1 cc Q S I1 (d.grow g1 l1) r (fun G' H' g l=>k G' H' (g1.trans g) l) W
theorem Ss {st:Stmt}{R1 R2:RX}(h1:Ub mk X G₀ H₀ st R1)(h2:Ub mk X G₀ H₀ st R2):Ub mk X G₀ H₀ st (fun env x=>R1 env x∨R2 env x):=fun pins s σ H env G c Q S I d r k W=>r.elim (fun r=>h1 pins s σ H env G c Q S I d r k W) (fun r=>h2 pins s σ H env G c Q S I d r k W)
theorem pz {e:Expr}(h:QS mk X G₀ H₀ e R)(hs:swapsWith e none pos.line X.env=pure false:=by rfl):Ub mk X G₀ H₀ (.Expr e pos) R:=fun pins s σ H env G c Q S I d r k W=>
 wpAny_Expr_any (h pins s σ H env G c _ S I d r k W) I.quiet hs
theorem eM {x:Str}{e:Expr}{pos':Pos}(h:QS mk X G₀ H₀ e R)(hs:swapsWith e (some (.Name x pos')) pos.line X.env=pure false:=by rfl):Ub mk X G₀ H₀ (.Assign [.Name x pos'] e pos) R:=fun pins s σ H env G c Q S I d r k W=>
 wpAny_Assign_Name (h pins s σ H env G c _ S I d r k W) hs
theorem Y_ {e:Expr}{es:List Expr}(h:QS mk X G₀ H₀ e R)(hs:starEach (e::es) X.env=(false,eval e X.env)::starEach es X.env:=by rfl):Oi mk X G₀ H₀ (e::es) R:=by
 intro pos pins s σ H env G c Q S I d r k W;rw[hs];exact Calls.spliced_cons (h pins s σ H env G c _ S I d r k W)
theorem Z9 {tg iter:Expr}{body yv:List Stmt}{fi:FI}{g:D→Ev→Out Ev}{fb:FS}(hp:PassesOwn (model X.prog X.w) X.A X.env X.xe)(hi:TN X G₀ H₀ tg iter fi)(hg:DG X G₀ H₀ tg g)(hb:Wc X G₀ H₀ body fb)(hr:TK X G₀ H₀ body R)(hc:X.calm=true:=by rfl)
 (hs:∀x,foldedSetIterable iter X.env x=pure x:=by intro _;rfl):TK X G₀ H₀ (.For tg iter body [] pos::yv) (fun env x=>∃ds,fi env=.ok ds∧Zs g fb R ds env x):=by
 intro pins s σ H env G x Q I d ⟨ds,e1,e⟩ W;have hb':kI X body (fun D σ H=>tS X.K G₀ H₀ fb D σ H∨∃env G,DI X.K G₀ H₀ env σ G H∧R env x):=fun pins s σ H D I q=>q.elim (hb pins s σ H D I) (fun⟨env,G,d,r⟩=>hr pins s σ H env G x _ I d r W);refine scs (xU (aL (pos:=pos) hp hc hi hg hb' hs pins s σ H {nx:=fun _ _=>False,rt:=fun _ _=>False} I ?_) fun f s1 q=>?_)
 ·refine⟨env,G,ds,d,e1,fun J G1 H1 g1 l1 jok=>?_⟩;refine⟨fun i m σ H=>m=ds.length - i∧i≤ds.length∧∃env' G',zI G1 G'∧DI X.K G₀ H₀ env' σ G' H∧Zs g fb R (ds.drop i) env' x,⟨ds.length,by simp,saT _,env,G1,zI.refl _,d.grow g1 l1,by simpa using e⟩,?_⟩;rintro i m σ' H' ⟨rfl,hi',env',G',s',I',e'⟩;by_cases hlt:i<ds.length
  ·have hd:ds.drop i=ds[i]::ds.drop (i+1):=sbM hlt;rw[hd]at e';obtain⟨env1,e2,e'⟩:=e';refine .inr ⟨jok.go i G' H' s' I'.le hlt,fun σ2 H2=>∃env2 G2,zI G1 G2∧DI X.K G₀ H₀ env2 σ2 G2 H2∧Zs g fb R (ds.drop (i+1)) env2 x,fun σ2 H2 ⟨env2,G2,s2,I2,e2⟩=>⟨ds.length - (i+1),by lia,rfl,hlt,env2,G2,s2,I2,e2⟩,fun y H2 hy=>?_⟩;obtain⟨d',G2,hd2,g2,l2,r2⟩:=jok.yld i G' H' y H2 s' I'.le hlt hy;have hde:d'=ds[i]:=by rw[sae hlt]at hd2;exact(saE hd2).symm
   subst hde;refine⟨env',G2,_,env1,I'.grow g2 l2,r2,e2,fun σ2 I2=>?_⟩
   rcases e' with hR|⟨env2,e3,e'⟩
   ·exact .inr ⟨env1,G2,I2,hR⟩
   ·exact .inl ⟨env1,G2,.next env2,I2,e3,fun σ3 G3 H3 s3 I3=>⟨env2,G3,(s'.trans g2.g).trans s3,I3,e'⟩⟩
  ·have hi2:i=ds.length:=by lia
   subst hi2;rw[List.drop_length]at e';exact e'.elim
 ·cases f with
  |next=>obtain⟨_,_,_,z⟩:=q;exact z.elim
  |ret v=>obtain⟨_,_,_,_,_,z⟩:=q;exact z.elim
  |brk=>obtain⟨_,_,_,z⟩:=q;exact z.elim
  |cont=>obtain⟨_,_,_,z⟩:=q;exact z.elim
noncomputable def Sm (K:Frag)(mg:Str→Option Value)(R:List D→Xc→Prop)(n:Nat):Sp:=fun vs H _ E=>∃G ds x,ds.length=n∧zI G H∧zO K G ds vs∧R ds x ∧
 ∀C dq G' H',Gw G H G' H'→zI G' H'→mg x.1=some (.ref C)→mM H' dq x.2→E (.ref C) dq H'
structure CalR2 (P:Program)(w:World)(K:Frag)(mg:Str→Option Value)(base:Heap)(k:Nat)(x:Str)(ps:List Str)(R:List D→Xc→Prop):Prop where
 ex:∃(f:Addr) (fd:FuncData),FnOk P w K mg base (Pb P w) k f fd ps (Sm K mg R ps.length)∧mg x=some (.ref f)∧PySem.W.keepIn K (.ref f)=true∧uX K fd ps []
theorem CalR2.mono {P:Program}{w:World}{K:Frag}{mg:Str→Option Value}{base:Heap}{j k:Nat}{x:Str}{ps:List Str}{R:List D→Xc→Prop}(c:CalR2 P w K mg base j x ps R)(h:j≤k):CalR2 P w K mg base k x ps R:=by
 obtain⟨f,fd,F,r⟩:=c.ex;exact⟨f,fd,F.mono h,r⟩
theorem uw {k:Nat}{x:Str}{ps:List Str}{p:Pos}{e:Expr}{es:List Expr}{r:Ev→Out (List Val)}{R:List D→Xc→Prop}(C:CalR2 X.prog X.w X.K X.mg X.base k x ps R)(hr:Room k X.A)(ha:DA X G₀ H₀ (e::es) r)
 (hlen:∀env xs,r env=.ok xs→xs.length=ps.length) (hg:Gl X x:=by rfl) (hdb:(x == ("__debug__" : Str))=false:=by decide) (he:starEach (e::es) X.env=(false,eval e X.env)::starEach es X.env:=by rfl) (hpl:(backTo pos (starEach es X.env)).any (·.1)=false:=by rfl) :
 QS mk X G₀ H₀ (.Call (.Name x p) (e::es) [] pos) (fun env c=>∃xs,r env=.ok xs∧xs.all Val.isPers=true∧R (xs.map Val.d) c):=by
 obtain⟨f,fd,F,hm,hk,hb⟩:=C.ex;intro pins s σ H env G c Q S I d ⟨xs,e1,hp,hR⟩ kS W;refine sbB (qh I hg hm ?_ hdb);refine PySem.W.callWith_K (h₀:=X.base) I.ok.mod.kin hk (xU (ha pos pins s σ H (fun vs H1=>∃G1,Gw G H G1 H1∧zI G1 H1∧qG X.K env σ G1 vs xs) I ⟨env,G,xs,d,e1,fun vs G' H' g l a=>⟨G',g,l,a⟩⟩) fun us s1 ⟨vs,H1,I1,rr,G1,g1,l1,a1⟩=>⟨I1.kIn,?_⟩) he hpl;have d1:=d.grow g1 l1;have rep:=ju a1 hp;have hlx:(xs.map Val.d).length=ps.length:=by rw[sac];exact hlen env xs e1
 have hl:(us++[]).length=ps.length:=by rw[sbW,←rr.length,←rep.length];exact hlx
 have hbs:=hb s1 us I1.kIn hl;rw[sbW]at hbs
 have sp:Sm X.K X.mg R ps.length vs H1 (fun _ _=>False) (fun cls dq H2=>∃C G2,cls=.ref C∧X.mg c.1=some (.ref C)∧Gw G1 H1 G2 H2∧zI G2 H2∧mM H2 dq c.2):=⟨G1,xs.map Val.d,c,hlx,l1,rep,hR,fun C dq G' H' g l hm b=>⟨C,G',rfl,hm,g,l,b⟩⟩
 refine scJ (scE (F.run X.A X.stack s1 H1 ⟨us,[]⟩ us vs _ _ hr I1.env0 hbs rr sp) fun r' s' hq=>?_)
 cases r' with
 | error e'=>
   obtain⟨ea,cls,H2,dq,rfl,fl,dt,C',G2,rfl,hm',g2,l2,b2⟩:=hq;exact W.2 σ H1 G1 H2 G2 env s1 s' ea C' dq I1 (kS G1 H1 g1 l1) hm' fl dt g2 l2 b2
 | ok fl=>
   cases fl with
   |ret u=>obtain⟨_,_,_,_,_,_,_,z⟩:=hq;exact z.elim
   |next=>exact False.elim hq
   |brk=>exact False.elim hq
   |cont=>exact False.elim hq
theorem Y9 {x:Str}{f:Addr}{p:Pos}{e:Expr}{es:List Expr}(hm:X.mg x=some (.ref f))(hk:PySem.W.keepIn X.K (.ref f)=true)(ra:Oi mk X G₀ H₀ (e::es) R)
 (hg:Gl X x:=by rfl) (hdb:(x == ("__debug__" : Str))=false:=by decide) (he:starEach (e::es) X.env=(false,eval e X.env)::starEach es X.env:=by rfl) (hpl:(backTo pos (starEach es X.env)).any (·.1)=false:=by rfl) :
 QS mk X G₀ H₀ (.Call (.Name x p) (e::es) [] pos) R:=by
 intro pins s σ H env G c Q S I d r k W;refine sbB (qh I hg hm ?_ hdb);exact PySem.W.callWith_K (h₀:=X.base) I.ok.mod.kin hk (ra pos pins s σ H env G c _ S I d r k W) he hpl
end
noncomputable def c0 (n:Nat)(R:RX)(ds:List D)(x:Xc):Prop:=R (ds.map Slot.p++List.replicate (n - ds.length) .un) x
theorem qo {P:Program}{w:World}{K:Frag}{mg:Str→Option Value}{base:Heap}{x qual:Str}{st:Stmt}{f:Addr}{fd:FuncData}{N ps:List Str}{k:Nat}{R:RX}(F:Fun K x qual st f fd)(S:FS_ N ps (zw st))
 (hb:∀(cdv:Value) (A:Around) (outer:List Env) (s:Shared) (G H:Hp) (E:XK),Room k (A.deeper (envOfC qual (zw st) s.heap.objs.size f cdv)) →
  TK (kR (Pb P w) P w K mg base N qual (zw st) f cdv A outer s H E) G H (xq st) R):FnOk P w K mg base (Pb P w) (k+1) f fd ps (Sm K mg (c0 N.length R) ps.length):=by
 have hpl:ps.length≤N.length:=by have:=congrArg List.length S.pre;rw[sbn]at this;lia
 obtain⟨oc,od,kV,doc,pm,an,cdv,ct,osl,rfl,lk,hcd⟩:=F.ex;refine T6 lk hcd S (fun vs H Q E h=>?_) fun A outer s H vs Q E hr h=>?_
 ·obtain⟨G,ds,c,hl,_,r,_⟩:=h;rw[←r.length];exact hl
 ·obtain⟨G,ds,c,hl,l,r,hR,hE⟩:=h;refine⟨fun _ σ H'=>∃env G' c,DI K G H env σ G' H'∧R env c∧∀pins,Ua true (kR (Pb P w) P w K mg base N qual (zw st) f cdv A outer s H E) pins (fun env σ G' H'=>DI K G H env σ G' H') c,fun pins s1 σ H1 D I ⟨env,G',c',d,r',W⟩=>hb cdv A outer s G H E hr pins s1 σ H1 env G' c' _ I d r' W,?_⟩;refine⟨_,G,c,jE l r (by lia),hR,fun pins=>⟨fun _ σ H1 G1 H2 G2 env s1 s2 e C dq I d hm m g l2 b=>?_,fun σ H1 G1 H2 G2 env s1 s2 e C dq I d hm fl dt g l2 b=>?_⟩⟩
  ·exact XH I rfl rfl rfl d.gr.h m fun s'' fl dt=>⟨e,.ref C,_,dq,rfl,fl,dt,hE C dq _ _ (d.gr.trans g) l2 hm b⟩
  ·exact XG I rfl rfl rfl d.gr.h fl dt fun s'' fl dt=>⟨e,.ref C,_,dq,rfl,fl,dt,hE C dq _ _ (d.gr.trans g) l2 hm b⟩
noncomputable abbrev P9:=Array (Option Value)
noncomputable def qF (e C t:Addr)(sl:P9)(h:Heap):Prop:=h.get? e=some (pO C t none sl)
noncomputable def lZ (e C t dx:Addr)(sl:P9)(h:Heap):Prop:=h.get? e=some (pO C t (some dx) sl)
noncomputable def R5 (K:Frag)(ta tv:TE)(f:Str):TS:=fun D σ H=>tv σ H fun y H1=>ta σ H1 fun x H2=>∃a C t sl,x=.ref a∧H2 a=some (.ext (qF a C t sl))∧LayCls K C f ∧
 ∀dx,H2 dx=none→D.nx σ (yo (yo H2 dx (.xd [(f,y)])) a (.ext (lZ a C t dx sl)))
section
variable {X:Cx}{o value:Expr}{f:Str}{pos pos':Pos}{ta tv:TE}
theorem SB (ha:PE X o ta)(hv:PE X value tv)(hs:swapsWith value (some (.Attribute o f pos')) pos.line X.env=pure false):PS X (.Assign [.Attribute o f pos'] value pos) (R5 X.K ta tv f):=by
 intro pins s σ H D I h;refine plainObj_wpAny_Assign_Attribute (xU (hv pins s σ H _ I h) fun u s1 ⟨y,H1,I1,ry,q⟩=>xU (ha pins s1 σ H1 _ I1 q) fun ov s2 ⟨x,H2,I2,rx,a,C,t,sl,ex,ea,Z,q2⟩=>?_) hs;subst ex;obtain rfl:ov=Value.ref a:=rx;have he:s2.heap.get? a=some (pO C t none sl):=(I2.hok a _ ea).1;refine Tj I2.kIn Z he fun h' tk g1 g2 g3=>?_;have hdx:H2 s2.heap.objs.size=none:=I2.hok.fresh (Nat.le_refl _);have nad:a≠s2.heap.objs.size:=zz ea hdx
 have J1:Inv X pins σ (yo H2 s2.heap.objs.size (.xd [(f,y)])) {s2 with heap:=h'.update a (fun _=>pO C t none sl),toks:=tk}:=by
  refine I2.laid (t':=tk) (fun b ob eb=>?_) (Nat.le_refl _) ?_
  ·by_cases hb:b=a
   ·subst hb;rw[he]at eb;cases eb;exact saL (fun _=>pO C t none sl) g1 rfl
   ·exact(saG _ _ (sce hb)).trans (g3 b ob hb eb)
  ·refine⟨_,g2.at fun ob eb=>(saG _ _ nad).trans eb,fun g=>?_⟩;show cw (List.lookup g [(f,y)]) (if g=f then some u else none);by_cases hg:g=f
   ·subst hg;simp only[List.lookup,beq_self_eq_true,if_true];exact ry
   ·have:(g == f)=false:=by simpa using hg
    simp only[List.lookup,this,sal hg];trivial
 have J2:Inv X pins σ (yo (yo H2 s2.heap.objs.size (.xd [(f,y)])) a (.ext (lZ a C t s2.heap.objs.size sl))) {s2 with heap:=h',toks:=tk}:=by
  refine J1.write (x:=a) (e:=a) (t':=tk) (by rw[zx nad,ea];exact True.intro) (.inl rfl) (fun b ob hb eb=>?_) ⟨_,g1⟩ ⟨g1,⟨_,g1⟩,fun h1 h2 z k=>k _ z⟩;rw[saG _ _ (sce hb)]at eb;exact eb
 exact⟨σ,_,J2,q2 _ hdx⟩
end
noncomputable def jF (K:Frag)(f:Str):Sp:=fun vs H Q _=>∃e C t sl y,vs=[.ref e,y]∧H e=some (.ext (qF e C t sl))∧LayCls K C f∧∀dx,H dx=none→Q .non (yo (yo H dx (.xd [(f,y)])) e (.ext (lZ e C t dx sl)))
theorem Ti {P:Program}{w:World}{K:Frag}{mg:Str→Option Value}{base:Heap}{x qual f:Str}{st:Stmt}{fI:Addr}{fd:FuncData}{N:List Str}{k:Nat}(F:Fun K x qual st fI fd)(S:FS_ N N (zw st))(hN:N.length=2)
 (hb:∀(cdv:Value) (A:Around) (outer:List Env) (s:Shared) (H:Hp) (E:XK),kI (kR gP P w K mg base N qual (zw st) fI cdv A outer s H E).nox (xq st) (R5 K (wa 0) (wa 1) f)):FnOk P w K mg base gP (k+1) fI fd N (jF K f):=by
 refine F.ok S (fun vs H Q E h=>?_) fun cdv A outer s H vs Q E hr h=>?_
 ·obtain⟨e,C,t,sl,y,rfl,_⟩:=h;exact hN.symm
 ·obtain⟨e,C,t,sl,y,rfl,h1,Z,q⟩:=h;refine⟨_,hb cdv A outer s H E,?_⟩
  have e0:L2.zy N [.ref e,y]=[some (.ref e),some y]:=by
   unfold L2.zy;rw[hN];rfl
  rw[e0];exact⟨y,rfl,.ref e,rfl,e,C,t,sl,rfl,h1,Z,fun dx hdx=>q dx hdx⟩
structure InitCls (P:Program)(w:World)(K:Frag)(mg:Str→Option Value)(base:Heap)(k:Nat)(c:Str)(C:Addr):Prop where
 at_:mg c=some (.ref C)
 lay:LayCls K C "place"
 obj:∃B dd nm bs ns qn hd sn sub ab col k0 k1 k2 k3 k5,K.lookup C=some (excClassObj nm qn C ns bs (.ref B::oO) hd sn sub ab col dd k0 k1 k2 k3 k5 "ValueError.__new__")∧PySem.W.excIn K B oO "ValueError.__new__" = true
 init:∃fI fd od sl ps,PySem.W.findIn K (.ref C) "__init__" = some (some (.ref fI))∧K.lookup fI=some ⟨.type "function",od,.func fd,sl⟩∧FnOk P w K mg base gP k fI fd ps (jF K "place")∧uX K fd ps []
theorem fK {X:Cx}{pins:List (Addr×Obj)}{σ:St}{H:Hp}{s:Shared}{e:Addr}{φ:Heap→Prop}(I:Inv X pins σ H s)(p:φ s.heap)(pe:∃o,s.heap.get? e=some o)(ps:∀h1 h2:Heap,φ h1→(∀o,h1.get? e=some o→h2.get? e=some o)→φ h2)
 (hn:H e=none) (ne:e≠X.env.locals) (nc:∀x c,X.env.cells.lookup x=some c→c≠e) (n0:X.s₀.heap.get? e=none) (np:∀q∈X.pn++pins,q.1≠e):Inv X pins σ (yo H e (.ext φ)) s:=by
 have hb:=I.base;have U:∀b u,H b=some u→yo H e (.ext φ) b=some u:=fun b u q=>by rw[zx (zz q hn)];exact q
 refine⟨I.ok,I.os,I.bare,⟨hb.keep,hb.slot,fun b o q n hx=>?_,hb.there,fun b xs q=>U _ _ (hb.tups b xs q),fun b o u q=>U _ _ (hb.frzs b o u q),fun b ps q=>?_⟩,I.loc,I.cell,?_,fun x c q=>?_,fun q hq=>?_,fun b u q=>?_,I.len⟩
 ·have:b≠e:=fun z=>by rw[z,n0]at q;cases q
  rw[zx this];exact hb.free b o q n hx
 ·obtain⟨more,z⟩:=hb.tbls b ps q;exact⟨more,U _ _ z⟩
 ·rw[zx (sce ne)];exact I.free
 ·rw[zx (nc x c q)];exact I.freeC x c q
 ·obtain⟨a1,a2,a3⟩:=I.pin q hq;exact⟨a1,by rw[zx (np q hq)];exact a2,a3⟩
 ·by_cases hbe:b=e
  ·subst hbe;rw[zH]at q;cases q;exact⟨p,pe,ps⟩
  ·rw[zx hbe]at q;exact(I.hok b u q).stay (fun _ _ _ z=>z) (fun c z=>U _ _ z) fun c xs z=>U _ _ z
section
variable {X:Cx}{G₀ H₀:Hp}{pos:Pos}{pins:List (Addr×Obj)}{σ:St}{H:Hp}{s:Shared}{e C:Addr}
theorem fA (I:Inv X pins σ H s)(hex:X.ex=[])(new:s.heap.get? e=none):H e=none∧e≠X.env.locals∧(∀x c,X.env.cells.lookup x=some c→c≠e)∧X.s₀.heap.get? e=none∧∀q∈X.pn++pins,q.1≠e:=by
 have neX:∀b o,s.heap.get? b=some o→b≠e:=fun b o q z=>by rw[z,new]at q;cases q
 refine⟨?_,fun z=>?_,fun y c q=>?_,?_,fun q hq=>neX q.1 q.2 (I.pin q hq).1⟩
 ·cases q:H e with
  |none=>rfl
  | some u=>
    obtain⟨o,z⟩:=u_ (I.hok e u q);rw[new]at z;cases z
 ·obtain⟨_,⟨o,_,_,ho,_⟩,_⟩:=I.loc;exact neX _ o ho z.symm
 ·obtain⟨w',o,ho,_⟩:=I.cell y c q;exact neX c o ho
 ·cases q:X.s₀.heap.get? e with
  |none=>rfl
  | some o=>
    obtain⟨o',z⟩:=I.base.there e o q (by rw[hex];simp);rw[new]at z;cases z
theorem WL {k:Nat}{c:Str}{fI:Addr}{fd:FuncData}{ps:List Str}{y:V}{u:Value}{h':Heap}{E:Value→Shared→Prop}{Q:Value→Shared→Prop}(I:Inv X pins σ H s)(hex:X.ex=[])(hr:Room (k+1) X.A)(Z:LayCls X.K C "place")
 (FI:FnOk X.prog X.w X.K X.mg X.base gP k fI fd ps (jF X.K "place")) (hb:uX X.K fd ps []) (ry:yS y u) (hx:Heap.MadeExcOf s.heap h' e (.ref C) [u])
 (hQ:∀s1 dx,H dx=none→dx≠e→Made X H (yo H dx (.xd [("place",y)])) s s1 e C (some dx)→Q .none s1) :
 wpAny (model X.prog X.w) (X.A.under (.builtin "type.__call__" ⟨.ref C::[u],[]⟩)) (call (.ref fI) [.ref e,u]) Q E {s with heap:=h'}:=by
 obtain⟨t,he,htn,ht⟩:=hx.there;obtain⟨n1,n2,n3,n4,n5⟩:=fA I hex hx.new;have J0:Inv X pins σ H {s with heap:=h'}:=I.kept (t':=s.toks) hx.keeps;have J1:Inv X pins σ (yo H e (.ext (qF e C t #[]))) {s with heap:=h'}:=fK J0 he ⟨_,he⟩ (fun h1 h2 z k=>k _ z) n1 n2 n3 n4 n5;have r2:ym [V.ref e,y] [Value.ref e,u]:=.cons rfl (.cons ry .nil)
 have sp:jF X.K "place" [.ref e,y] (yo H e (.ext (qF e C t #[]))) (fun v H2=>v=.non∧∃dx,yo H e (.ext (qF e C t #[])) dx=none∧H2=yo (yo (yo H e (.ext (qF e C t #[]))) dx (.xd [("place",y)])) e (.ext (lZ e C t dx #[]))) E0 :=
  ⟨e,C,t,#[],y,rfl,zH,Z,fun dx hd=>⟨rfl,dx,hd,rfl⟩⟩
 have hl:([Value.ref e,u]++[]).length=ps.length:=by
  rw[sbW,←r2.length];exact FI.len _ _ _ _ sp
 have hbs:=hb {s with heap:=h'} [.ref e,u] J1.kIn hl;rw[sbW]at hbs;refine scJ (scE (FI.run _ X.stack {s with heap:=h'} _ ⟨[.ref e,u],[]⟩ [.ref e,u] [.ref e,y] _ _ (hr.make C [u] []) (J1.env0.make C [u] []) hbs r2 sp) fun r' s' hq=>?_)
 cases r' with
 |error e'=>exact False.elim hq
 | ok fl=>
   cases fl with
   |next=>exact False.elim hq
   |brk=>exact False.elim hq
   |cont=>exact False.elim hq
   | ret v=>
     obtain⟨v',H2,os,bare,un,hok,rv,hv,dx,hdx,rfl⟩:=hq;subst hv;cases(show v=Value.none from rv);have hde:dx≠e:=fun z=>by rw[z,zH]at hdx;cases hdx
     have hd0:H dx=none:=by rw[zx hde]at hdx;exact hdx
     have L:∀b,b≠e→yo (yo (yo H e (.ext (qF e C t #[]))) dx (.xd [("place",y)])) e (.ext (lZ e C t dx #[])) b=yo H dx (.xd [("place",y)]) b:=fun b hb=>by
      rw[zx hb];by_cases hbd:b=dx
      ·subst hbd;rw[zH,zH]
      ·rw[zx hbd,zx hbd,zx hb]
     have Le:yo H dx (.xd [("place",y)]) e=none:=by rw[zx (sce hde)];exact n1
     have T:∀b u',yo H dx (.xd [("place",y)]) b=some u'→yo (yo (yo H e (.ext (qF e C t #[]))) dx (.xd [("place",y)])) e (.ext (lZ e C t dx #[])) b=some u':=fun b u' q=>by
      rw[L b (zz q Le)];exact q
     have sm:zI H (yo H dx (.xd [("place",y)])):=fun b u' q=>by rw[zx (zz q hd0)];exact q
     have neE:∀b o,s.heap.get? b=some o→b≠e:=fun b o q z=>by rw[z,hx.new]at q;cases q
     have He:∀b o,s.heap.get? b=some o→H b=none→yo H e (.ext (qF e C t #[])) b=none:=fun b o q n=>by rw[zx (neE b o q)];exact n
     refine hQ s' dx hd0 hde ⟨hx.new,⟨t,#[],?_⟩,Le,sm,⟨fun b o q n hb hx'=>un.keep b o (hx.keeps b o q) (He b o q n) hb hx',fun b o q n hb hx'=>un.slot b o (hx.keeps b o q) (He b o q n) hb hx',fun b o q n hx'=>?_,fun b o q hx'=>un.there b o (hx.keeps b o q) hx',fun b xs q=>sm _ _ q,fun b o u' q=>sm _ _ q,fun b ps q=>⟨#[],by rw[sm _ _ q];simp⟩⟩,fun b u' q=>?_,os,bare⟩
     ·exact(hok e _ zH).1
     ·have z:=un.free b o (hx.keeps b o q) (He b o q n) hx';rw[L b (neE b o q)]at z;exact z
     ·refine(hok b u' (T b u' q)).stay (fun _ _ _ z=>z) (fun c z=>?_) fun c xs z=>?_
      ·have hc:c≠e:=fun z'=>by rw[z',zH]at z;cases z
       rw[L c hc]at z;exact z
      ·have hc:c≠e:=fun z'=>by rw[z',zH]at z;cases z
       rw[L c hc]at z;exact z
theorem jP {k:Nat}{c:Str}{a:Expr}{np cpos:Pos}{fe:FE}(Z:InitCls X.prog X.w X.K X.mg X.base k c C)(hr:Room (k+1) X.A)(ha:DE X G₀ H₀ a fe)(hc:X.calm=true:=by rfl)(hex:X.ex=[]:=by rfl)(hg:Gl X c:=by rfl)(hd:(c == ("__debug__" : Str))=false:=by decide)
 (he:starEach [a] X.env=(false,eval a X.env)::starEach [] X.env:=by rfl) :
 Ub true X G₀ H₀ (.Raise (some (.Call (.Name c np) [a] [] cpos)) none pos) (fun env x=>∃n,fe env=.ok (.p (.int n))∧x=(c,some n)):=by
 intro pins s σ H env G x Q S I d ⟨n,e1,ex⟩ kS W;subst ex;obtain⟨B,dd,nm,bs,ns,qn,hdc,sn,sub,ab,col,k0,k1,k2,k3,k5,hlC,qB⟩:=Z.obj;obtain⟨fI,fd,od,sl,ps,hfi,hlI,FI,hb⟩:=Z.init;obtain⟨bmB,NB,nmB,qnB,bsB,hdB,snB,subB,abB,colB,ddB,b0,b1,b2,b3,b5,mB,hB,hNB,hniB,_⟩:=Yz I.ok.mod.kin qB;have T:OwnTail X.base oO (.ref B::oO):=.own hB hNB hniB .base
 refine aJ (C:=C) (nm:=nm) (q:=qn) (N:=ns) (bs:=bs) (bm:=.ref B::oO) (hdct:=hdc) (sn:=sn) (sub:=sub) (ab:=ab) (col:=col) (dd:=dd) (k0:=k0) (k1:=k1) (k2:=k2) (k3:=k3) (k5:=k5) (fI:=fI) (oI:=⟨.type "function",od,.func fd,sl⟩)
  scd (T.hasType scd.hasBase) (I.ok.hd hc) (by rw[he];rfl) rfl (qh I hg Z.at_ ⟨rfl,?_⟩ hd)
 have hp:=qt ha VS he cpos pins s σ H (fun vs H1=>∃G1,Gw G H G1 H1∧zI G1 H1∧qG X.K env σ G1 vs [.p (.int n)]) I ⟨env,G,[.p (.int n)],d,by simp only[zi,zB,e1,zh,List.map_cons,List.map_nil,frz],fun vs G' H' g l a=>⟨G',g,l,a⟩⟩;rw[he]at hp ⊢;refine Calls.evalArgs_plain (saR hp (fun us s2 h2=>?_) fun _ _ y=>y);obtain⟨vs,H1,I1,r,G1,g1,l1,a1⟩:=h2;obtain⟨v,rfl,o⟩:=kG a1 rfl;have hv:=o.int;subst hv;obtain⟨u,rfl,ru⟩:=q8 r;have kb:∀b o,X.base.get? b=some o→s2.heap.get? b=some o:=I1.bk;refine⟨rfl,by show 1≤sizeLine;decide,kb _ _ (I1.ok.mod.kin _ _ hlC),PySem.W.looks_findIn I1.kIn hfi,T.keeps kb,kb _ _ (I1.ok.mod.kin _ _ hlI),fun h' e hx=>?_⟩;refine WL (c:=c) I1 hex hr Z.lay FI hb ru hx fun s1 dx hd0 hde m=>?_;have g2:=Gw.laidL (o:=.xd [("place",.int n)]) l1 hd0;obtain⟨t',sl',ho⟩:=m.obj;refine⟨rfl,t',some dx,sl',?_,ho,W.1 rfl σ H1 G1 _ G1 env s2 s1 e C (some dx) I1 (kS G1 H1 g1 l1) Z.at_ m g2.1 g2.2 ⟨dx,rfl,zH⟩⟩;have hC2:=kb _ _ (I1.ok.mod.kin _ _ hlC)
 exact m.un.keep C _ hC2 (I1.bs _ _ (I1.ok.mod.kin _ _ hlC)).2 (fun z=>by
  have:=(I1.stack.mem z).1;rw[I1.ok.mod.kin _ _ hlC]at this
  cases this) (by simp)
theorem fq {c tx:Str}{np cpos tpos:Pos}{tj:_}(hm:X.mg c=some (.ref C))(q:PySem.W.excIn X.K C oO "ValueError.__new__" = true) (hc:X.calm=true:=by rfl) (hg:Gl X c:=by rfl) (hd:(c == ("__debug__" : Str))=false:=by decide)
 (he:starEach [.Constant (.str tx) tj tpos] X.env=(false,eval (.Constant (.str tx) tj tpos) X.env)::starEach [] X.env:=by rfl) :
 Ub true X G₀ H₀ (.Raise (some (.Call (.Name c np) [.Constant (.str tx) tj tpos] [] cpos)) none pos) (fun _ x=>x=(c,none)):=by
 intro pins s σ H env G x Q S I d e kS W;subst e;obtain⟨bm,N,nm,qn,bs,hdct,sn,sub,ab,col,dd,k0,k1,k2,k3,k5,mN,hC,hN,hni,T⟩:=Yz I.ok.mod.kin q
 refine wpAny_Raise_call_subT (C:=C) (nm:=nm) (q:=qn) (N:=N) (bs:=bs) (bm:=bm) (hdct:=hdct) (sn:=sn) (sub:=sub) (ab:=ab) (col:=col) (dd:=dd) (k0:=k0) (k1:=k1) (k2:=k2) (k3:=k3) (k5:=k5)
  scd (mN:=mN) (T.hasType scd.hasBase) (I.ok.hd hc) (by rw[he];rfl) hni (qh I hg hm ⟨rfl,?_⟩ hd)
 have hp:=zM (X:=X) (es:=[]) (pE (x:=tx) (j:=tj) (pos:=tpos)) yw he cpos pins s σ H (fun vs H'=>vs=[.str tx]∧H'=H) I ⟨rfl,rfl⟩;rw[he]at hp ⊢;refine Calls.evalArgs_plain (saR hp (fun us s2 h2=>?_) fun _ _ y=>y);obtain⟨vs,H',I2,r,rfl,rfl⟩:=h2;have hl:us.length≤sizeLine:=by rw[←r.length];show 1≤sizeLine;decide
 have kb:∀b o,X.base.get? b=some o→s2.heap.get? b=some o:=I2.bk;refine⟨rfl,hl,kb _ _ hC,hN.keeps kb,T.keeps kb,fun h' e hx=>?_⟩;obtain⟨t,ho,_,_⟩:=hx.there
 have hn:H' e=none:=by
  cases z:H' e with
  |none=>rfl
  |some u=>obtain⟨o,z2⟩:=u_ (I2.hok e u z);rw[hx.new]at z2;cases z2
 exact W.1 rfl σ H' G H' G env s2 _ e C none I2 (kS G H' (Gw.refl _ _) d.le) hm ⟨hx.new,⟨t,#[],ho⟩,hn,zI.refl _,Un.kept hx.keeps,I2.hok.kept hx.keeps,rfl,I2.bare⟩ (Gw.refl _ _) d.le trivial
end
noncomputable def uW (e C:Addr)(dq:Option Addr)(h:Heap):Prop:=∃ob,h.get? e=some ob∧ob.cls=.ref C∧ob.dict=dq∧PySem.W.notCls ob=true
theorem uW.at {e C:Addr}{dq:Option Addr}{h:Heap}(x:uW e C dq h):kJ e C h:=let ⟨ob,h1,h2,_⟩:=x;⟨ob,h1,h2⟩
theorem uW.stay {e C:Addr}{dq:Option Addr}(h1 h2:Heap)(z:uW e C dq h1)(k:∀o,h1.get? e=some o→h2.get? e=some o):uW e C dq h2:=by
 obtain⟨ob,z1,z2⟩:=z;exact⟨ob,k ob z1,z2⟩
section
variable {X:Cx}{pins:List (Addr×Obj)}{σ:St}{H H1:Hp}{s s1:Shared}{e C:Addr}{dq:Option Addr}
theorem XU {x n:Str}{j:Nat}{np hpos:Pos}{B0:Addr}{b₀:Stmt}{suite:List Stmt}{t:TS}{Q:Flow→Shared→Prop}(I:Inv X pins σ H s)(F:Fly X.prog X.w X.stack H H1 s s1 e (.ref C))(dt:Dt e dq s1.heap)(hst:X.stack=X.env::X.outer)(hf:X.env.frame=some X.env.locals)(hex:X.ex=[])
 (hm:X.mg x=some (.ref B0)) (hx:PySem.W.exmOne X.K (.ref C) (.ref B0)=some true) (hg:Gl X x) (hN:X.N.Nodup) (hj:X.N[j]?=some n) (hl:X.env.scope.names.lookup n=some .local)
 (hb:kI (iq X e) (b₀::suite) t) {nx:St→Hp→Prop} (ht:t {nx:=nx,rt:=fun _ _=>False} (σ.set j (some (.ref e))) (yo H1 e (.ext (uW e C dq)))) (hnx:∀σ' H' s',nx σ' H'→Inv X pins (σ'.set j none) H' s'→Q .next s') (hd:(x == ("__debug__" : Str))=false:=by decide) :
 wpAny (model X.prog X.w) X.A (noteFrame (.ref e) X.env) (fun _ s₂=>wpAny (model X.prog X.w) X.A (setFlight (.ref e) none) (fun _ s₃=>wpAny (model X.prog X.w) X.A (handleBy (.ref e) X.env [.ExceptHandler (some (.Name x np)) (some n) (b₀::suite) hpos]) Q X.xe s₃) X.xe s₂) X.xe s1:=by
 obtain⟨new1,new2⟩:=Yx I F;obtain⟨B,a0,fl,k1,k2⟩:=F.fly;have hfr:X.A.frames=some (X.env::X.outer):=by rw[I.ok.frames,hst]
 rw[hst]at fl;refine saR (iy (e:=e) (d:=dq) (ml _ _) (wpAny_looks_onW (E:=X.xe) (Q:=fun _ s2=>∃h4,s2={s1 with heap:=h4}∧Heap.HeldW B (X.env::X.outer) e (.ref C) a0 X.env.locals h4∧s1.heap.UpToSlots h4) hfr hf fl fun h4 a b=>⟨h4,rfl,a,b⟩) dt) (fun _ s2 z=>?_) fun _ _ z=>z.1;obtain⟨⟨h4,rfl,held4,up4⟩,dt4⟩:=z;refine saR (iy (e:=e) (d:=dq) (qj _ _) (wpAny_landsW (E:=X.xe) (s:={s1 with heap:=h4}) (Q:=fun _ s3=>∃h5,s3={s1 with heap:=h5}∧Heap.FlyingW B (X.env::X.outer) e (.ref C) a0 h5∧h4.UpToSlots h5) held4 fun h5 a b=>⟨h5,rfl,a,b⟩) dt4) (fun _ s3 z=>?_) fun _ _ z=>z.1;obtain⟨⟨h5,rfl,fl5,up5⟩,dt5⟩:=z;have up15:=up4.trans up5;have J5:=Qp I F.same k1 k2 F.un F.hok fl5.1 up15 F.os F.bare;have M5:=bJ J5 e;have p5:kJ e C h5:=fl5.there;have hkind:X.env.kindOf n=some .local:=hl;refine wpAny_handleBy_cons (codeAny_handlers_test (qh M5 hg hm ?_ hd)) (by intro q;cases q);refine PySem.W.exm_one (M:=model X.prog X.w) J5.kIn (lE p5) hx _ _ _ _ (fun _ _ z=>z) ?_;refine codeAny_handlers_suite_as ?_;refine saR (iy (e:=e) (d:=dq) (qj _ _) (lands_againW (E:=fun _ _=>False) (s:={s1 with heap:=h5}) (Q:=fun _ s6=>∃h6,s6={s1 with heap:=h6}∧Heap.FlyingW B (X.env::X.outer) e (.ref C) a0 h6∧h5.UpToSlots h6) fl5 fun h6 a b=>⟨h6,rfl,a,b⟩) dt5) (fun _ s6 z=>?_) fun _ _ z=>z.1.elim;obtain⟨⟨h6,rfl,fl6,up6⟩,dt6⟩:=z;have J6:Inv X pins σ H1 {s1 with heap:=h6}:=Qp I F.same k1 k2 F.un F.hok fl6.1 (up15.trans up6) F.os F.bare;obtain⟨_,n2,n3,n4,n5⟩:=fA I hex new1
 have p6:uW e C dq h6:=by
  obtain⟨oe,vs,z1,z2,z3,_⟩:=fl6.first
  obtain⟨o',z4,z5⟩:=dt6;rw[show h6.get? e=some oe from z1]at z4;cases z4;exact⟨oe,z1,z2,z5,by unfold PySem.W.notCls;rw[z3]⟩
 have J7:=fK (e:=e) J6 p6 (let ⟨ob,z,_⟩:=p6;⟨ob,z⟩) uW.stay new2 n2 n3 n4 n5;refine jC (X:=iq X e) (v:=V.ref e) (bJ J7 e) hN hj (Or.inl hl) rfl (fun s7 I7=>?_) (.inr hl);refine saR (hb pins s7 _ _ _ I7 ht) (fun f s8 q=>?_) (fun _ _ z=>False.elim z)
 cases f with
 | next=>
   obtain⟨σ',H',I8,q⟩:=q;have I8':=Zk I.ok I8;obtain⟨m,hnm,_⟩:=id I8'.loc;have hcls:(X.env.scope.kind == .class ||(X.env.scope.kind == .module&&X.env.locals != X.env.globals))=false:=by rw[I.ok.kind];rfl
   exact wpAny_nameGoes_keeps hkind hnm hcls fun h9 v hn9 sb=>hnx _ _ _ q (Vv I8' hN hj hl hnm hn9 sb)
 |ret u=>obtain⟨_,_,_,_,_,z⟩:=q;exact z.elim
 |brk=>obtain⟨_,_,_,z⟩:=q;exact z.elim
 |cont=>obtain⟨_,_,_,z⟩:=q;exact z.elim
end
noncomputable def Wt (mg:Str→Option Value)(K:Frag)(G₀ H₀:Hp)(tb:TS)(R:RX)(cs:List Str)(j:Nat)(t:TS):TS:=fun D σ H=>tb D σ H∨∃env G x,DI K G₀ H₀ env σ G H∧R env x∧x.1∈cs ∧
 ∀(e C:Addr) (dq:Option Addr) (G1 H1:Hp),Gw G H G1 H1→zI G1 H1→mg x.1=some (.ref C)→H1 e=none→mM H1 dq x.2→t {nx:=fun σ' H'=>D.nx (σ'.set j none) H',rt:=fun _ _=>False} (σ.set j (some (.ref e))) (yo H1 e (.ext (uW e C dq)))
theorem UK {X:Cx}{G₀ H₀:Hp}{R:RX}{pos:Pos}{x n:Str}{j:Nat}{np hpos:Pos}{B0:Addr}{body:List Stmt}{b₀:Stmt}{suite:List Stmt}{t tb:TS}{cs:List Str}(hq:∀E,kI (X.wish E) body tb)(hr:∀E,TJ false (X.wish E) G₀ H₀ body R)(hb:∀e,kI (iq X e) (b₀::suite) t)
 (hm:X.mg x=some (.ref B0)) (hx:∀c∈cs,∀C,X.mg c=some (.ref C)→PySem.W.exmOne X.K (.ref C) (.ref B0)=some true) (hN:X.N.Nodup) (hj:X.N[j]?=some n) (hl:X.env.scope.names.lookup n=some .local)
 (hst:X.stack=X.env::X.outer:=by rfl) (hf:X.env.frame=some X.env.locals:=by rfl) (hex:X.ex=[]:=by rfl) (hg:Gl X x:=by rfl) (hd:(x == ("__debug__" : Str))=false:=by decide) :
 PS X (.Try body [.ExceptHandler (some (.Name x np)) (some n) (b₀::suite) hpos] [] [] pos) (Wt X.mg X.K G₀ H₀ tb R cs j t):=by
 intro pins s σ H D I h;refine wpAny_Try_except ?_
 rcases h with h|⟨env,G,c,d,r,hc,k⟩
 ·refine saR (hq (fun e s₁=>wpAny (model X.prog X.w) X.A (noteFrame e X.env) (fun _ s₂=>wpAny (model X.prog X.w) X.A (setFlight e none) (fun _ s₃=>wpAny (model X.prog X.w) X.A (handleBy e X.env [.ExceptHandler (some (.Name x np)) (some n) (b₀::suite) hpos]) (SP X pins D) X.xe s₃) X.xe s₂) X.xe s₁) pins s σ H D (I.wish _) h) (fun f s1 q=>?_) fun _ _ z=>z
  cases f with
  | next=>
    obtain⟨σ',H',J,z⟩:=q;exact wpAny_execs_nil ⟨σ',H',J.unwish,z⟩
  |ret u=>obtain⟨v,σ',H',J,z⟩:=q;exact⟨v,σ',H',J.unwish,z⟩
  |brk=>obtain⟨σ',H',J,z⟩:=q;exact⟨σ',H',J.unwish,z⟩
  |cont=>obtain⟨σ',H',J,z⟩:=q;exact⟨σ',H',J.unwish,z⟩
 ·refine hr (fun e s₁=>wpAny (model X.prog X.w) X.A (noteFrame e X.env) (fun _ s₂=>wpAny (model X.prog X.w) X.A (setFlight e none) (fun _ s₃=>wpAny (model X.prog X.w) X.A (handleBy e X.env [.ExceptHandler (some (.Name x np)) (some n) (b₀::suite) hpos]) (SP X pins D) X.xe s₃) X.xe s₂) X.xe s₁) pins s σ H env G c _ (fun env' σ' G' H'=>env'=env∧σ'=σ∧Gw G H G' H') (I.wish _) d r (fun G' H' g _=>⟨rfl,rfl,g⟩) ⟨(fun z=>by cases z),fun σ' H' G' H1 G1 env' s' s1 e C dq I' hS hmc F dt g l b=>?_⟩;obtain⟨rfl,rfl,g0⟩:=hS;have I2:Inv X pins σ' H' s':=I'.unwish;exact XU I2 F dt hst hf hex hm (hx _ hc C hmc) hg hN hj hl (hb e) (k e C dq G1 H1 (g0.trans g) l hmc (Yx I2 F).2 b) (fun σ'' H'' s'' q J=>⟨_,H'',J,q⟩) hd
noncomputable def PZ (K:Frag):List V→Hp→VK→Prop:=fun xs H Q=>∃a C dq x v b,xs=[.ref a,x]∧QJ x=some v∧H a=some (.ext (uW a C dq))∧ExCls K C∧PySem.W.kitOne K (.ref C) v=some b∧Q (.bl b) H
theorem qx {X:Cx}:rP X (.builtin "isinstance") (PZ X.K):=by
 intro pins s σ H xs us Q I r h;obtain⟨a,C,dq,x,v,b,rfl,hv,hH,Z,e,q⟩:=h;obtain⟨u,w',rfl,r1,r2⟩:=gU r;cases(show u=.ref a from r1);cases Tt hv r2;have p:kJ a C s.heap:=((I.hok a _ hH).1:uW a C dq s.heap).at
 exact sbl (Vr Z) I.kIn p e (fun z=>nomatch z) fun tk=>⟨.bl b,H,I.tok _,rfl,q⟩
noncomputable def Pe (K:Frag)(ta:TE)(f:Str):TE:=fun σ H Q=>ta σ H fun x H1=>∃a C dx v,x=.ref a∧H1 a=some (.ext (uW a C (some dx)))∧H1 dx=some (.xd [(f,v)])∧LayCls K C f∧Q v H1
theorem bo {X:Cx}{e:Expr}{f:Str}{pos:Pos}{ta:TE}(he:PE X e ta)(hb:attributeBase e f X.env (eval e X.env)=eval e X.env):PE X (.Attribute e f pos) (Pe X.K ta f):=by
 intro pins s σ H Q I h;refine TC hb (xU (he pins s σ H _ I h) fun u s1 ⟨x,H1,I1,rx,a,C,dx,v,ex,ea,ed,Z,q⟩=>?_);subst ex;obtain rfl:u=Value.ref a:=rx
 obtain⟨ob,h1,h2,h3,h4⟩:=((I1.hok a _ ea).1:uW a C (some dx) s1.heap)
 obtain⟨mA,hns,hr⟩:=(show we X.prog X.w H1 s1.heap dx (.xd [(f,v)])from I1.hok dx _ ed)
 obtain⟨od,ho,hl⟩:=fE hns
 have hf:cw (some v) (mA f):=by
  have:=hr f;simp only[List.lookup,beq_self_eq_true]at this;exact this
 obtain⟨u',hu,ru⟩:=cw.some_of hf;exact Tn I1.kIn ⟨h1,h2,h4,by rw[h3];exact ho⟩ Z.ex Z.hd Z.na (by rw[hl,hu]) (Xw ru) ⟨v,H1,I1.tok _,ru,q⟩
noncomputable def WB (K:Frag)(mg:Str→Option Value)(Qt:List D→Prop)(R:List D→Xc→Prop)(n:Nat)(cs:List Str):Sp:=fun vs H Q _=>∃G ds,ds.length=n∧zI G H∧zO K G ds vs ∧
 ((Qt ds∧∀G' H',Gw G H G' H'→zI G' H'→Q .non H')∨∃x,R ds x∧x.1∈cs ∧
   ∀a C dq G' H',Gw G H G' H'→zI G' H'→mg x.1=some (.ref C)→H' a=some (.ext (uW a C dq))→mM H' dq x.2→Q (.ref a) H')
noncomputable def Wy (mg:Str→Option Value)(K:Frag)(G H:Hp)(fb:FS)(R:RX)(cs:List Str)(n:Nat):TS :=
 jA (eD (tC .non) (qO n)) (jA (Wt mg K G H (tS K G H fb) R cs (n+1) (eD (wa (n+1)) (qO n))) (gb (wa n)))
theorem Zt {P:Program}{w:World}{K:Frag}{mg:Str→Option Value}{base:Heap}{x:Str}{st:Stmt}{f:Addr}{fd:FuncData}{N ps:List Str}{k n:Nat}{fb:FS}{R':RX}{Qt:List D→Prop}{R:List D→Xc→Prop}{cs:List Str}(F:Fun K x x st f fd)(S:FS_ N ps (zw st))
 (hn:ps.length=n) (hN:N.length=n+2)
 (hb:∀(cdv:Value) (A:Around) (outer:List Env) (s:Shared) (G H:Hp) (E:XK),Room k (A.deeper (envOfC x (zw st) s.heap.objs.size f cdv)) →
  kI (kR gP P w K mg base N x (zw st) f cdv A outer s H E).nox (xq st) (Wy mg K G H fb R' cs n))
 (hQ:∀ds,ds.length=n→Qt ds→fb (ds.map Slot.p++[.p .non,.un])=.ok (.next (ds.map Slot.p++[.p .non,.un])))
 (hR:∀ds c,ds.length=n→R ds c→R' (ds.map Slot.p++[.p .non,.un]) c):FnOk P w K mg base gP (k+1) f fd ps (WB K mg Qt R n cs):=by
 refine F.ok S (fun vs H Q E h=>?_) fun cdv A outer s H vs Q E hr h=>?_
 ·obtain⟨G,ds,hl,_,r,_⟩:=h;rw[←r.length,hl,hn]
 ·obtain⟨G,ds,hl,l,r,hh⟩:=h;refine⟨_,hb cdv A outer s G H E hr,?_⟩;have hvl:vs.length=n:=by rw[←r.length];exact hl
  have e0:L2.zy N vs=vs.map some++[none,none]:=by
   unfold L2.zy;rw[hN,hvl,show n+2 - n=2 by lia];rfl
  have d0:=jE (K:=K) (N:=N) l r (by lia)
  have e1:(ds.map Slot.p++List.replicate (N.length - ds.length) Slot.un)=ds.map Slot.p++[.un,.un]:=by
   rw[hN,hl,show n+2 - n=2 by lia];rfl
  rw[e0,e1]at d0;have d1:=d0.setP (d:=.non) (v:=.non) n rfl
  have s1:(vs.map some++[none,none]).set n (some V.non)=vs.map some++[some V.non,none]:=by
   have:=eH (none:Option V) none (some V.non) (vs.map some);rw[sac,hvl]at this;exact this
  have s2:(ds.map Slot.p++[Slot.un,Slot.un]).set n (Slot.p D.non)=ds.map Slot.p++[Slot.p D.non,Slot.un]:=by
   have:=eH Slot.un Slot.un (.p .non) (ds.map Slot.p);rw[sac,hl]at this;exact this
  rw[s1,s2]at d1;show(jA (Wt mg K G H (tS K G H fb) R' cs (n+1) (eD (wa (n+1)) (qO n))) (gb (wa n))) _ ((L2.zy N vs).set n (some V.non)) H;rw[e0,s1]
  rcases hh with⟨hq,hQ'⟩|⟨c,hRc,hc,hQ'⟩
  ·refine .inl ⟨_,G,_,d1,hQ ds hl hq,fun σ' G' H' _ d'=>?_⟩
   have hs:(ds.map Slot.p++[Slot.p D.non,Slot.un])[n]?=some (.p .non):=by
    have:=Vz (Slot.p D.non) Slot.un (ds.map Slot.p);rw[sac,hl]at this;exact this
   obtain⟨v,hv,rv⟩:=d'.slot n _ hs;cases(show v=.non from rv);exact⟨.non,hv,hQ' G' H' d'.gr d'.le⟩
  ·refine .inr ⟨_,G,c,d1,hR ds c hl hRc,hc,fun e C dq G1 H1 g l1 hm hn1 hB=>?_⟩
   have s3:(vs.map some++[some V.non,none]).set (n+1) (some (V.ref e))=vs.map some++[some V.non,some (.ref e)]:=by
    have:=aG (some V.non) none (some (V.ref e)) (vs.map some);rw[sac,hvl]at this;exact this
   rw[s3]
   have s4:(vs.map some++[some V.non,some (V.ref e)])[n+1]?=some (some (.ref e)):=by
    have:=Ra (some V.non) (some (V.ref e)) (vs.map some);rw[sac,hvl]at this;exact this
   refine⟨.ref e,s4,?_⟩
   have s5:(vs.map some++[some V.non,some (V.ref e)]).set n (some (V.ref e))=vs.map some++[some (V.ref e),some (.ref e)]:=by
    have:=eH (some V.non) (some (V.ref e)) (some (V.ref e)) (vs.map some);rw[sac,hvl]at this;exact this
   have s6:(vs.map some++[some (V.ref e),some (V.ref e)]).set (n+1) none=vs.map some++[some (V.ref e),none]:=by
    have:=aG (some (V.ref e)) (some (V.ref e)) none (vs.map some);rw[sac,hvl]at this;exact this
   have s7:(vs.map some++[some (V.ref e),none])[n]?=some (some (.ref e)):=by
    have:=Vz (some (V.ref e)) (none:Option V) (vs.map some);rw[sac,hvl]at this;exact this
   show gb (wa n) _ (((vs.map some++[some V.non,some (V.ref e)]).set n (some (V.ref e))).set (n+1) none) _;rw[s5,s6];have gl:=Gw.laidL (o:=.ext (uW e C dq)) l1 hn1;exact⟨.ref e,s7,hQ' e C dq G1 _ (g.trans gl.1) gl.2 hm zH (hB.mono gl.1.h)⟩
structure CalK2 (P:Program)(w:World)(K:Frag)(mg:Str→Option Value)(base:Heap)(k:Nat)(x:Str)(ps:List Str)(Qt:List D→Prop)(R:List D→Xc→Prop)(cs:List Str):Prop where
 ex:∃(f:Addr) (fd:FuncData),FnOk P w K mg base gP k f fd ps (WB K mg Qt R ps.length cs)∧mg x=some (.ref f)∧PySem.W.keepIn K (.ref f)=true∧uX K fd ps []
theorem CalK2.mono {P:Program}{w:World}{K:Frag}{mg:Str→Option Value}{base:Heap}{j k:Nat}{x:Str}{ps:List Str}{Qt:List D→Prop}{R:List D→Xc→Prop}{cs:List Str}(c:CalK2 P w K mg base j x ps Qt R cs)(h:j≤k):CalK2 P w K mg base k x ps Qt R cs:=by
 obtain⟨f,fd,F,r⟩:=c.ex;exact⟨f,fd,F.mono h,r⟩
theorem W8 {X:Cx}{k n:Nat}{x:Str}{ps:List Str}{Qt:List D→Prop}{R:List D→Xc→Prop}{cs:List Str}{p pos:Pos}{e:Expr}{es:List Expr}{t:TA}(C:CalK2 X.prog X.w X.K X.mg X.base k x ps Qt R cs)(hn:ps.length=n)(hr:Room k X.A)(ha:PA X (e::es) t)
 (hg:Gl X x:=by rfl) (hdb:(x == ("__debug__" : Str))=false:=by decide) (he:starEach (e::es) X.env=(false,eval e X.env)::starEach es X.env:=by rfl) (hpl:(backTo pos (starEach es X.env)).any (·.1)=false:=by rfl) :
 PE X (.Call (.Name x p) (e::es) [] pos) (jB (WB X.K X.mg Qt R n cs) [] E0 t):=by
 obtain⟨f,fd,F,hm,hk,hb⟩:=C.ex;subst hn;exact ji F hr hg hm hk hb .nil Ye ha hdb he hpl
noncomputable abbrev R6:R2:=fun x y H Q=>y=.non∧Q (.bl (decide (x=.non))) H
noncomputable abbrev cC (h:Heap)(T:Addr)(a b c:Value):Prop:=h.get? T=some {cls:=.type "tuple",data:=.seq #[a,b,c]}
theorem nq {a b:Nat}(h:a≠b):@Ne Addr a b:=h
section
variable {prog:Program}{w:World}{A:Around}{E:Value→Shared→Prop}{s:Shared}
theorem nY {T:Addr}{a b c x:Value}{k:Nat}{Q:Unit→Shared→Prop}(hT:cC s.heap T a b c)
 (h:∀h',h'.get? T=some {cls:=.type "tuple",data:=.seq ((#[a,b,c]:Array Value).setIfInBounds k x)}→Heap.SameBut T s.heap h'→Q () {s with heap:=h'}) :
 wpAny (model prog w) A (updateSeq T (·.setIfInBounds k x)) Q E s:=by
 refine sbY hT rfl (h _ ?_ (Heap.SameBut.update ..));rw[saL _ hT rfl];simp[Obj.mapSeq]
structure Z3 (h:Heap)(m l1 l2 l3:Nat)(f:Value)(i:Nat):Prop where
 z:IsZip h (m+5) (m+3) (m+4) f
 ti:cC h (m+3) (.ref m) (.ref (m+1)) (.ref (m+2))
 to:∃a b c,cC h (m+4) a b c
 p1:h.IsListIter m l1 i
 p2:h.IsListIter (m+1) l2 i
 p3:h.IsListIter (m+2) l3 i
noncomputable def rG (m:Nat):List Addr:=[m+5,m+4,m+3,m,m+1,m+2]
theorem Uq {m l1 l2 l3:Nat}{k:Nat}{xs ys zs:Array Value}{x y v:Value}{Q:Value→Shared→Prop}(st:Z3 s.heap m l1 l2 l3 .none k)(n1:l1<m)(n2:l2<m)(n3:l3<m)
 (hl1:s.heap.IsList l1 xs) (hl2:s.heap.IsList l2 ys) (hl3:s.heap.IsList l3 zs) (hx:xs[k]?=some x) (hy:ys[k]?=some y) (hv:zs[k]?=some v)
 (hQ:∀h',Z3 h' m l1 l2 l3 (rawInt s.heap.objs.size) (k+1)→cC h' s.heap.objs.size x y v→h'.objs.size=s.heap.objs.size+1 →
  (∀c o,c∉rG m→s.heap.get? c=some o→h'.get? c=some o)→Q (.ref s.heap.objs.size) {s with heap:=h'}) :
 wpAny (model prog w) A (Builtin.«zip.__next__» ⟨[.ref (m+5)],[]⟩) (fun fin s'=>∃v,fin=.done (.ret v)∧Q v s') E s:=by
 obtain⟨hz,hTI,⟨a,b,c,hTO⟩,h1,h2,h3⟩:=st;show wpAny _ _ (field (.ref (m+5)) 2 >>= _) _ _ _;refine saa (sbo hz rfl (x:=.bool false) rfl ?_);show wpAny _ _ (field (.ref (m+5)) 3 >>= _) _ _ _;refine saa (sbo hz rfl (x:=.ref (m+3)) rfl ?_);refine saa (sbf hTI rfl ?_);show wpAny _ _ (Builtin.SmallTypes.ownedTupleIsFree (.ref (m+5)) >>= _) _ _ _;refine saa ?_;unfold Builtin.SmallTypes.ownedTupleIsFree;refine saa (sbo hz rfl (x:=.none) rfl (sad ?_));simp only[if_true];refine saa (wpAny_rule ?_);refine saa (sbo hz rfl (x:=.ref (m+4)) rfl ?_);refine saa (scb hz (by simp) fun ha za sa=>?_)
 replace za:IsZip ha (m+5) (m+3) (m+4) .ellipsis:=za
 refine saa ?_;simp only[List.zipIdx_cons,List.zipIdx_nil,List.forIn_cons,List.forIn_nil];refine saa (saa (scH ?_));show wpAny _ _ (Builtin.SmallTypes.nextOf (.ref m) >>= _) _ _ _;refine saa (sbk (h1.extBut sa.extBut (nq (by lia))) (hl1.extBut sa.extBut (nq (by lia))) hx fun hb ib sb=>sad ?_);have tb:cC hb (m+4) a b c:=sb.extBut _ _ (nq (by lia)) (sa.extBut _ _ (nq (by lia)) hTO);refine saa (sbf tb rfl ?_);refine saa (nY tb fun hc tc sc=>?_)
 replace tc:cC hc (m+4) x b c:=tc
 refine saa (scn (sad ?_))
 have k1:∀u o,u∉rG m→s.heap.get? u=some o→hc.get? u=some o:=fun u o hu e=>by
  simp only[rG,san,sbF,or_false,not_or]at hu;exact sc.extBut _ _ hu.2.1 (sb.extBut _ _ hu.2.2.2.1 (sa.extBut _ _ hu.1 e))
 have j2:hc.IsListIter (m+1) l2 k:=((h2.extBut sa.extBut (nq (by lia))).extBut sb.extBut (nq (by lia))).extBut sc.extBut (nq (by lia));have j3:hc.IsListIter (m+2) l3 k:=((h3.extBut sa.extBut (nq (by lia))).extBut sb.extBut (nq (by lia))).extBut sc.extBut (nq (by lia));have L2:hc.IsList l2 ys:=((hl2.extBut sa.extBut (nq (by lia))).extBut sb.extBut (nq (by lia))).extBut sc.extBut (nq (by lia));have L3:hc.IsList l3 zs:=((hl3.extBut sa.extBut (nq (by lia))).extBut sb.extBut (nq (by lia))).extBut sc.extBut (nq (by lia));have zc:IsZip hc (m+5) (m+3) (m+4) .ellipsis:=sc.extBut _ _ (nq (by lia)) (sb.extBut _ _ (nq (by lia)) za);have uc:cC hc (m+3) (.ref m) (.ref (m+1)) (.ref (m+2)):=sc.extBut _ _ (nq (by lia)) (sb.extBut _ _ (nq (by lia)) (sa.extBut _ _ (nq (by lia)) hTI));have ic:hc.IsListIter m l1 (k+1):=ib.extBut sc.extBut (nq (by lia));have zsz:hc.objs.size=s.heap.objs.size:=by rw[sc.1,sb.1,sa.1]
 clear sa sb sc tb ib za hTO h1 h2 h3;refine saa (saa (scH ?_));show wpAny _ _ (Builtin.SmallTypes.nextOf (.ref (m+1)) >>= _) _ _ _;refine saa (sbk j2 L2 hy fun hd id sd=>sad ?_);have td:cC hd (m+4) x b c:=sd.extBut _ _ (nq (by lia)) tc;refine saa (sbf td rfl ?_);refine saa (nY td fun he te se=>?_)
 replace te:cC he (m+4) x y c:=te
 refine saa (scn (sad ?_))
 have k2:∀u o,u∉rG m→s.heap.get? u=some o→he.get? u=some o:=fun u o hu e=>by
  have e:=k1 u o hu e;simp only[rG,san,sbF,or_false,not_or]at hu;exact se.extBut _ _ hu.2.1 (sd.extBut _ _ hu.2.2.2.2.1 e)
 have q3:he.IsListIter (m+2) l3 k:=(j3.extBut sd.extBut (nq (by lia))).extBut se.extBut (nq (by lia));have M3:he.IsList l3 zs:=(L3.extBut sd.extBut (nq (by lia))).extBut se.extBut (nq (by lia));have ze:IsZip he (m+5) (m+3) (m+4) .ellipsis:=se.extBut _ _ (nq (by lia)) (sd.extBut _ _ (nq (by lia)) zc);have ue:cC he (m+3) (.ref m) (.ref (m+1)) (.ref (m+2)):=se.extBut _ _ (nq (by lia)) (sd.extBut _ _ (nq (by lia)) uc);have ie:he.IsListIter m l1 (k+1):=(ic.extBut sd.extBut (nq (by lia))).extBut se.extBut (nq (by lia));have je:he.IsListIter (m+1) l2 (k+1):=id.extBut se.extBut (nq (by lia));have zsz2:he.objs.size=s.heap.objs.size:=by rw[se.1,sd.1];exact zsz
 clear sd se td id zc uc ic tc j2 j3 L2 L3 zsz;refine saa (saa (scH ?_));show wpAny _ _ (Builtin.SmallTypes.nextOf (.ref (m+2)) >>= _) _ _ _;refine saa (sbk q3 M3 hv fun hf jf sf=>sad ?_);have tf:cC hf (m+4) x y c:=sf.extBut _ _ (nq (by lia)) te;refine saa (sbf tf rfl ?_);refine saa (nY tf fun hg tg sg=>?_)
 replace tg:cC hg (m+4) x y v:=tg
 refine saa (scn (sad (sad ?_)))
 have k3:∀u o,u∉rG m→s.heap.get? u=some o→hg.get? u=some o:=fun u o hu e=>by
  have e:=k2 u o hu e;simp only[rG,san,sbF,or_false,not_or]at hu;exact sg.extBut _ _ hu.2.1 (sf.extBut _ _ hu.2.2.2.2.2 e)
 have zg:IsZip hg (m+5) (m+3) (m+4) .ellipsis:=sg.extBut _ _ (nq (by lia)) (sf.extBut _ _ (nq (by lia)) ze);have ug:cC hg (m+3) (.ref m) (.ref (m+1)) (.ref (m+2)):=sg.extBut _ _ (nq (by lia)) (sf.extBut _ _ (nq (by lia)) ue);have ig:hg.IsListIter m l1 (k+1):=(ie.extBut sf.extBut (nq (by lia))).extBut sg.extBut (nq (by lia));have jg:hg.IsListIter (m+1) l2 (k+1):=(je.extBut sf.extBut (nq (by lia))).extBut sg.extBut (nq (by lia));have qg:hg.IsListIter (m+2) l3 (k+1):=jf.extBut sg.extBut (nq (by lia));have hsz:hg.objs.size=s.heap.objs.size:=by rw[sg.1,sf.1];exact zsz2
 refine saa (sbf tg rfl ?_);refine saa (wpAny_newTuple ?_);have lt:m+5<hg.objs.size:=sag zg;show wpAny _ _ (Builtin.SmallTypes.ownedTupleHandOut (.ref (m+5)) (.ref hg.objs.size) >>= _) _ _ _;refine saa ?_;unfold Builtin.SmallTypes.ownedTupleHandOut;have zp:IsZip (hg.push {cls:=.type "tuple",data:=.seq #[x,y,v]}) (m+5) (m+3) (m+4) .ellipsis:=sab _ zg;refine saa (scb zp (by simp) fun hr zr sr=>?_)
 replace zr:IsZip hr (m+5) (m+3) (m+4) (rawInt hg.objs.size):=zr
 refine scb zr (by simp) fun ht zt st=>?_
 replace zt:IsZip ht (m+5) (m+3) (m+4) (rawInt hg.objs.size):=zt
 have up:∀u o,u≠m+5→hg.get? u=some o→ht.get? u=some o:=fun u o hu e=>st.extBut _ _ hu (sr.extBut _ _ hu (sab _ e));have nt:cC ht hg.objs.size x y v:=st.extBut _ _ (sbH lt) (sr.extBut _ _ (sbH lt) (saq _ rfl));have tsz:ht.objs.size=hg.objs.size+1:=by rw[st.1,sr.1,saU]
 rw[hsz]at zt nt tsz;refine sad ⟨_,rfl,?_⟩;show Q (.ref hg.objs.size) _;rw[hsz];refine hQ ht ⟨zt,up _ _ (nq (by lia)) ug,⟨x,y,v,up _ _ (nq (by lia)) tg⟩,ig.at fun o e=>up _ o (nq (by lia)) e,jg.at fun o e=>up _ o (nq (by lia)) e,qg.at fun o e=>up _ o (nq (by lia)) e⟩ nt tsz fun u o hu e=>up u o (fun q=>hu (by simp[rG,q])) (k3 u o hu e)
theorem Sg {m l1 l2 l3:Nat}{k:Nat}{xs ys zs:Array Value}{Q:Fin→Shared→Prop}(hh:A.handled=none)(st:Z3 s.heap m l1 l2 l3 .none k)(n1:l1<m)(n2:l2<m)(n3:l3<m)
 (hl1:s.heap.IsList l1 xs) (hl2:s.heap.IsList l2 ys) (hl3:s.heap.IsList l3 zs) (hend:xs[k]?=none∨ys[k]?=none∨zs[k]?=none)
 (hE:∀h' e,(∀c o,c∉rG m→s.heap.get? c=some o→h'.get? c=some o)→(∃o,h'.get? e=some o∧o.cls=.type "StopIteration")→E (.ref e) {s with heap:=h'}) :
 wpAny (model prog w) A (Builtin.«zip.__next__» ⟨[.ref (m+5)],[]⟩) Q E s:=by
 obtain⟨hz,hTI,⟨a,b,c,hTO⟩,h1,h2,h3⟩:=st
 have stop:∀(hp:Heap) (e:Addr) (k0:∀u o,u∉rG m→s.heap.get? u=some o→hp.get? u=some o) (ze:IsZip hp (m+5) (m+3) (m+4) .ellipsis) (oe:Obj) (hoe:hp.get? e=some oe) (hce:oe.cls=.type "StopIteration") (Q':Unit→Shared→Prop) (hq:∀h',(∀c o,c∉rG m→s.heap.get? c=some o→h'.get? c=some o)→(∃o,h'.get? e=some o∧o.cls=.type "StopIteration")→Q' () {s with heap:=h'}),
  wpAny (model prog w) A (setField (.ref (m+5)) 0 .none) Q' E {s with heap:=hp}:=by
  intro hp e k0 ze oe hoe hce Q' hq;have hez:e≠m+5:=fun x=>by subst x;rw[ze]at hoe;cases hoe;simp at hce
  refine scb ze (by simp) fun hr _ sr=>hq hr (fun u o hu q=>?_) ⟨oe,sr.extBut _ _ hez hoe,hce⟩;refine sr.extBut _ _ (fun z=>hu (by simp[rG,z])) (k0 u o hu q)
 show wpAny _ _ (field (.ref (m+5)) 2 >>= _) _ _ _;refine saa (sbo hz rfl (x:=.bool false) rfl ?_);show wpAny _ _ (field (.ref (m+5)) 3 >>= _) _ _ _;refine saa (sbo hz rfl (x:=.ref (m+3)) rfl ?_);refine saa (sbf hTI rfl ?_);show wpAny _ _ (Builtin.SmallTypes.ownedTupleIsFree (.ref (m+5)) >>= _) _ _ _;refine saa ?_;unfold Builtin.SmallTypes.ownedTupleIsFree;refine saa (sbo hz rfl (x:=.none) rfl (sad ?_));simp only[if_true];refine saa (wpAny_rule ?_);refine saa (sbo hz rfl (x:=.ref (m+4)) rfl ?_);refine saa (scb hz (by simp) fun ha za sa=>?_)
 replace za:IsZip ha (m+5) (m+3) (m+4) .ellipsis:=za
 refine saa ?_;simp only[List.zipIdx_cons,List.zipIdx_nil,List.forIn_cons,List.forIn_nil];refine saa (saa (scH ?_));show wpAny _ _ (Builtin.SmallTypes.nextOf (.ref m) >>= _) _ _ _;have g1:ha.IsListIter m l1 k:=h1.extBut sa.extBut (nq (by lia));have gl:ha.IsList l1 xs:=hl1.extBut sa.extBut (nq (by lia));have ka:∀u o,u∉rG m→s.heap.get? u=some o→ha.get? u=some o:=fun u o hu e=>sa.extBut _ _ (fun z=>hu (by simp[rG,z])) e
 cases hx:xs[k]? with
 | none=>
   refine saa (scf hh g1 gl hx fun hb e sb ⟨oe,hoe,hce⟩=>?_);exact stop hb e (fun u o hu q=>sb _ _ (fun z=>hu (by simp[rG,z])) (ka u o hu q)) (sb _ _ (nq (by lia)) za) oe hoe hce _ fun h' p q=>hE h' e p q
 | some x=>
   refine saa (sbk g1 gl hx fun hb ib sb=>sad ?_);have tb:cC hb (m+4) a b c:=sb.extBut _ _ (nq (by lia)) (sa.extBut _ _ (nq (by lia)) hTO);refine saa (sbf tb rfl ?_);refine saa (nY tb fun hc tc sc=>?_)
   replace tc:cC hc (m+4) x b c:=tc
   refine saa (scn (sad ?_));have kc:∀u o,u∉rG m→s.heap.get? u=some o→hc.get? u=some o:=fun u o hu e=>sc.extBut _ _ (fun z=>hu (by simp[rG,z])) (sb.extBut _ _ (fun z=>hu (by simp[rG,z])) (ka u o hu e));have zc:IsZip hc (m+5) (m+3) (m+4) .ellipsis:=sc.extBut _ _ (nq (by lia)) (sb.extBut _ _ (nq (by lia)) za);have j2:hc.IsListIter (m+1) l2 k:=((h2.extBut sa.extBut (nq (by lia))).extBut sb.extBut (nq (by lia))).extBut sc.extBut (nq (by lia));have j3:hc.IsListIter (m+2) l3 k:=((h3.extBut sa.extBut (nq (by lia))).extBut sb.extBut (nq (by lia))).extBut sc.extBut (nq (by lia));have L2:hc.IsList l2 ys:=((hl2.extBut sa.extBut (nq (by lia))).extBut sb.extBut (nq (by lia))).extBut sc.extBut (nq (by lia));have L3:hc.IsList l3 zs:=((hl3.extBut sa.extBut (nq (by lia))).extBut sb.extBut (nq (by lia))).extBut sc.extBut (nq (by lia));refine saa (saa (scH ?_));show wpAny _ _ (Builtin.SmallTypes.nextOf (.ref (m+1)) >>= _) _ _ _
   cases hy:ys[k]? with
   | none=>
     refine saa (scf hh j2 L2 hy fun hd e sd ⟨oe,hoe,hce⟩=>?_);exact stop hd e (fun u o hu q=>sd _ _ (fun z=>hu (by simp[rG,z])) (kc u o hu q)) (sd _ _ (nq (by lia)) zc) oe hoe hce _ fun h' p q=>hE h' e p q
   | some y=>
     have hv:zs[k]?=none:=by
      rcases hend with h|h|h
      ·rw[hx]at h;cases h
      ·rw[hy]at h;cases h
      ·exact h
     refine saa (sbk j2 L2 hy fun hd id sd=>sad ?_);have td:cC hd (m+4) x b c:=sd.extBut _ _ (nq (by lia)) tc;refine saa (sbf td rfl ?_);refine saa (nY td fun he te se=>?_);refine saa (scn (sad ?_));have ke:∀u o,u∉rG m→s.heap.get? u=some o→he.get? u=some o:=fun u o hu e=>se.extBut _ _ (fun z=>hu (by simp[rG,z])) (sd.extBut _ _ (fun z=>hu (by simp[rG,z])) (kc u o hu e));have ze:IsZip he (m+5) (m+3) (m+4) .ellipsis:=se.extBut _ _ (nq (by lia)) (sd.extBut _ _ (nq (by lia)) zc);refine saa (saa (scH ?_));show wpAny _ _ (Builtin.SmallTypes.nextOf (.ref (m+2)) >>= _) _ _ _;refine saa (scf hh ((j3.extBut sd.extBut (nq (by lia))).extBut se.extBut (nq (by lia))) ((L3.extBut sd.extBut (nq (by lia))).extBut se.extBut (nq (by lia))) hv fun hf e sf ⟨oe,hoe,hce⟩=>?_);exact stop hf e (fun u o hu q=>sf _ _ (fun z=>hu (by simp[rG,z])) (ke u o hu q)) (sf _ _ (nq (by lia)) ze) oe hoe hce _ fun h' p q=>hE h' e p q
end
section
variable {prog:Program}{w:World}{A:Around}{E:Value→Shared→Prop}{s:Shared}
theorem Uo {m l1 l2 l3:Nat}{k:Nat}{xs ys zs:Array Value}{x y v:Value}{Q:Option Value→Shared→Prop}(st:Z3 s.heap m l1 l2 l3 .none k)(n1:l1<m)(n2:l2<m)(n3:l3<m)
 (hl1:s.heap.IsList l1 xs) (hl2:s.heap.IsList l2 ys) (hl3:s.heap.IsList l3 zs) (hx:xs[k]?=some x) (hy:ys[k]?=some y) (hv:zs[k]?=some v)
 (hQ:∀h',Z3 h' m l1 l2 l3 (rawInt s.heap.objs.size) (k+1)→cC h' s.heap.objs.size x y v→h'.objs.size=s.heap.objs.size+1 →
  (∀c o,c∉rG m→s.heap.get? c=some o→h'.get? c=some o)→Q (some (.ref s.heap.objs.size)) {s with heap:=h'}):wpAny (model prog w) A (pyNext (.ref (m+5))) Q E s:=by
 have hT:s.TypeIs (.ref (m+5)) "zip" :=⟨_,st.z,rfl⟩
 unfold pyNext;exact saa (scB (sbR (name:=Str.ofString "__next__") hT sbp (sct sbp hT PySem.F.entry_zip_next (Uq st n1 n2 n3 hl1 hl2 hl3 hx hy hv fun h' a1 a2 a3 a4=>sad (hQ h' a1 a2 a3 a4)) (scv _))))
theorem Um {m l1 l2 l3:Nat}{k:Nat}{xs ys zs:Array Value}{Q:Option Value→Shared→Prop}(hh:A.handled=none)(st:Z3 s.heap m l1 l2 l3 .none k)(n1:l1<m)(n2:l2<m)(n3:l3<m)
 (hl1:s.heap.IsList l1 xs) (hl2:s.heap.IsList l2 ys) (hl3:s.heap.IsList l3 zs) (hend:xs[k]?=none∨ys[k]?=none∨zs[k]?=none)
 (hQ:∀h',(∀c o,c∉rG m→s.heap.get? c=some o→h'.get? c=some o)→Q none {s with heap:=h'}):wpAny (model prog w) A (pyNext (.ref (m+5))) Q E s:=by
 have hT:s.TypeIs (.ref (m+5)) "zip" :=⟨_,st.z,rfl⟩
 unfold pyNext;refine saa (scB (sbR (name:=Str.ofString "__next__") hT sbp (sct sbp hT PySem.F.entry_zip_next (Sg hh st n1 n2 n3 hl1 hl2 hl3 hend fun h' e hk he=>?_) (scv _))));obtain⟨o,ho,hc⟩:=he;refine saa (wpAny_isInstance (T := "StopIteration") (b:=true) ⟨o,ho,hc⟩ isSubtype_stop ?_);exact sad (hQ _ hk)
end
noncomputable def Q_ (K:Frag)(l1 l2 l3:Addr):It :=
 ⟨fun i H=>∃xs ys zs x y z,wx K H l1 xs∧wx K H l2 ys∧wx K H l3 zs∧xs[i]?=some x∧ys[i]?=some y∧zs[i]?=some z,
  fun i H x H'=>∃T a b c,x=.ref T∧H T=none∧H'=yo H T (.tup [a,b,c])∧(∀xs,wx K H l1 xs→xs[i]?=some a)∧(∀xs,wx K H l2 xs→xs[i]?=some b)∧(∀xs,wx K H l3 xs→xs[i]?=some c),
  fun i H=>∃xs ys zs,wx K H l1 xs∧wx K H l2 ys∧wx K H l3 zs∧(xs.length≤i∨ys.length≤i∨zs.length≤i)⟩
theorem YW {P:Program}{w:World}{K:Frag}{elts:List Expr}{kk:Nat}{pos:Pos}{m l1 l2 l3:Nat}(n1:l1<m)(n2:l2<m)(n3:l3<m):Turn P w K (.Tuple elts kk pos) (Q_ K l1 l2 l3) (rG m) (m+5) (fun i h=>Z3 h m l1 l2 l3 .none i) where
 mem:=by simp[rG]
 obj:=fun i h st b hb=>by
  obtain⟨hz,hTI,⟨a,b',c,hTO⟩,⟨o1,e1,c1,d1⟩,⟨o2,e2,c2,d2⟩,⟨o3,e3,c3,d3⟩⟩:=st;simp only[rG,san,sbF,or_false]at hb
  rcases hb with rfl|rfl|rfl|rfl|rfl|rfl
  ·exact⟨_,hz,fun v z=>by cases(show Data.fields _=Data.cell v from z)⟩
  ·exact⟨_,hTO,fun v z=>by cases(show Data.seq _ _=Data.cell v from z)⟩
  ·exact⟨_,hTI,fun v z=>by cases(show Data.seq _ _=Data.cell v from z)⟩
  ·exact⟨o1,e1,fun v z=>by rw[d1]at z;cases z⟩
  ·exact⟨o2,e2,fun v z=>by rw[d2]at z;cases z⟩
  ·exact⟨o3,e3,fun v z=>by rw[d3]at z;cases z⟩
 keep:=fun i h h' st k=>by
  obtain⟨hz,hTI,⟨a,b,c,hTO⟩,h1,h2,h3⟩:=st;exact⟨k _ (by simp[rG]) _ hz,k _ (by simp[rG]) _ hTI,⟨a,b,c,k _ (by simp[rG]) _ hTO⟩,h1.at fun o x=>k _ (by simp[rG]) o x,h2.at fun o x=>k _ (by simp[rG]) o x,h3.at fun o x=>k _ (by simp[rG]) o x⟩
 item:=by
  intro X hP hw hK hc i pins s σ H E I hf st hg;subst hP hw hK;obtain⟨xs,ys,zs,x,y,z,q1,q2,q3,hx,hy,hz⟩:=hg;obtain⟨is1,rv1,p1,_⟩:=I.list q1;obtain⟨is2,rv2,p2,_⟩:=I.list q2;obtain⟨is3,rv3,p3,_⟩:=I.list q3;obtain⟨u1,hu1,ru1⟩:=rv1.get hx;obtain⟨u2,hu2,ru2⟩:=rv2.get hy;obtain⟨u3,hu3,ru3⟩:=rv3.get hz;refine Uo st n1 n2 n3 p1.isList p2.isList p3.isList (by simpa using hu1) (by simpa using hu2) (by simpa using hu3) fun h' z' t' sz' k'=>?_;have hzlt:m+5<s.heap.objs.size:=sag st.z;refine⟨.ref s.heap.objs.size,rfl,wpAny_letOwnedTupleGo_zip z'.z fun h3 hz3 hs3=>?_⟩
  have hTw:s.heap.objs.size∉rG m:=fun q=>by
   simp only[rG,san,sbF,or_false]at q;have q:s.heap.objs.size=m+5∨s.heap.objs.size=m+4∨s.heap.objs.size=m+3∨s.heap.objs.size=m∨s.heap.objs.size=m+1∨s.heap.objs.size=m+2:=q;lia
  have hne:∀{b:Addr},b∉rG m→b≠m+5:=fun hb q=>hb (by simp[rG,q]);have hkeep:∀b o,b∉rG m→s.heap.get? b=some o→h3.get? b=some o:=fun b o hb eb=>hs3.extBut _ _ (hne hb) (k' b o hb eb)
  have hnew:we X.prog X.w (yo H s.heap.objs.size (.tup [x,y,z])) h3 s.heap.objs.size (.tup [x,y,z]):=⟨by show 3≤sizeLine;rw[sizeLine_eq];lia,[u1,u2,u3],.cons ru1 (.cons ru2 (.cons ru3 .nil)),_,hs3.extBut _ _ (hne hTw) t',rfl,_,rfl⟩
  have hHT:H s.heap.objs.size=none:=I.hok.fresh (Nat.le_refl _)
  have z4:Z3 h3 m l1 l2 l3 .none (i+1):=by
   obtain⟨_,b1,⟨a,b,c,b2⟩,b3,b4,b5⟩:=z';exact⟨hz3,hs3.extBut _ _ (nq (by lia)) b1,⟨a,b,c,hs3.extBut _ _ (nq (by lia)) b2⟩,b3.extBut hs3.extBut (nq (by lia)),b4.extBut hs3.extBut (nq (by lia)),b5.extBut hs3.extBut (nq (by lia))⟩
  refine⟨.ref s.heap.objs.size,_,Inv.turnedL (s:=s) (h':=h3) (t':=s.toks) I hf hkeep (Nat.le_refl _) hnew,rfl,⟨_,x,y,z,rfl,hHT,rfl,fun vs hv=>by rw[I.list_inj hv q1];exact hx,fun vs hv=>by rw[I.list_inj hv q2];exact hy,fun vs hv=>by rw[I.list_inj hv q3];exact hz⟩,z4,fun b hb=>?_⟩;have hbT:b≠s.heap.objs.size:=fun z=>by rw[z]at hb;exact hTw hb
  rw[zx hbT];exact(hf b hb).1
 done:=by
  intro X hP hw hK hc i pins s σ H E I hf st hg;subst hP hw hK;obtain⟨xs,ys,zs,q1,q2,q3,hend⟩:=hg;obtain⟨is1,rv1,p1,_⟩:=I.list q1;obtain⟨is2,rv2,p2,_⟩:=I.list q2;obtain⟨is3,rv3,p3,_⟩:=I.list q3;have e1:=rv1.length;have e2:=rv2.length;have e3:=rv3.length
  refine Um (I.ok.hd hc) st n1 n2 n3 p1.isList p2.isList p3.isList ?_ fun h' k'=>⟨rfl,Inv.turnedF (t':=s.toks) I hf k'⟩
  rcases hend with q|q|q
  ·exact .inl (sbc (by simp;lia))
  ·exact .inr (.inl (sbc (by simp;lia)))
  ·exact .inr (.inr (sbc (by simp;lia)))
 self:=fun _ _ _ _ _ st h=>wpAny_pyIter_zip st.z h
noncomputable def rm:List D→List D→List D→List D
 |a::x,b::y,c::z=>.tup [a,b,c]::rm x y z
 |_,_,_=>[]
theorem gQ {a b c:D}:∀{x y z:List D} {i:Nat},x[i]?=some a→y[i]?=some b→z[i]?=some c→(rm x y z)[i]?=some (.tup [a,b,c])
 |[],_,_,_,h,_,_=>by simp at h
 |_::_,[],_,_,_,h,_=>by simp at h
 |_::_,_::_,[],_,_,_,h=>by simp at h
 | p::x,q::y,r::z,0,h1,h2,h3=>by
   simp at h1 h2 h3;rw[h1,h2,h3];rfl
 | p::x,q::y,r::z,i+1,h1,h2,h3=>by
   simp only[List.getElem?_cons_succ]at h1 h2 h3;simp only[rm,List.getElem?_cons_succ];exact gQ h1 h2 h3
theorem mT:∀x y z:List D,(rm x y z).length=min x.length (min y.length z.length)
 |[],y,z=>by simp[rm]
 |p::x,[],z=>by simp[rm]
 |p::x,q::y,[]=>by simp[rm]
 | p::x,q::y,r::z=>by
   have:=mT x y z;simp only[rm,List.length_cons];lia
theorem Vs {K:Frag}{G:Hp}{a b c:Addr}{ds es fs:List D}{xs ys zs:List V}(ha:wx K G a xs)(hb:wx K G b ys)(hc:wx K G c zs)(ra:zO K G ds xs)(rb:zO K G es ys)(rc:zO K G fs zs):JOk K (Q_ K a b c) G (rm ds es fs) where
 go:=fun i G' H' s l hi=>by
  rw[mT,ra.length,rb.length,rc.length]at hi;exact⟨xs,ys,zs,xs[i]'(by lia),ys[i]'(by lia),zs[i]'(by lia),l.seq (s.seq ha),l.seq (s.seq hb),l.seq (s.seq hc),sae _,sae _,sae _⟩
 stop:=fun i G' H' s l hi=>by
  rw[mT,ra.length,rb.length,rc.length]at hi;exact⟨xs,ys,zs,l.seq (s.seq ha),l.seq (s.seq hb),l.seq (s.seq hc),by lia⟩
 yld:=fun i G' H' x H1 s l hi y=>by
  obtain⟨T,p,q,r,rfl,hT,rfl,hp,hq,hr⟩:=y;obtain⟨d1,k1,j1⟩:=ra.get' (hp xs (l.seq (s.seq ha)));obtain⟨d2,k2,j2⟩:=rb.get' (hq ys (l.seq (s.seq hb)));obtain⟨d3,k3,j3⟩:=rc.get' (hr zs (l.seq (s.seq hc)));have g:=Gw.laidT (o:=.tup [p,q,r]) l hT;exact⟨.tup [d1,d2,d3],_,gQ k1 k2 k3,g.1,g.2,T,_,rfl,zH,zO.cons ((j1.mono s).mono g.1.g) (zO.cons ((j2.mono s).mono g.1.g) (zO.cons ((j3.mono s).mono g.1.g) zO.nil))⟩
theorem Us (a b c:Value):checkTypeCall "zip" ⟨[a,b,c],[]⟩=pure ():=by kernel_rfl
theorem UZ (a b c:Value):checkBuiltinCall "zip.__new__" ⟨[.type "zip",a,b,c],[]⟩=pure ():=by kernel_rfl
theorem UV (a b c d:Value):argsOk "object.__init__" ⟨[a,b,c,d],[]⟩:=by
 unfold argsOk;rw[signature?_of (id := "object.__init__") (n:=['_','_','t','i','n','i','_','_']) (o:=['t','c','e','j','b','o']) (by kernel_rfl) PySem.F.owner_object]
 kernel_rfl
noncomputable abbrev y1 (h:Heap)(l:Addr):Heap:=h.push {cls:=.type "list_iterator",data:=.fields #[.ref l,.int 0 0]}
noncomputable abbrev y3 (h:Heap)(a b c:Addr):Heap:=y1 (y1 (y1 h a) b) c
noncomputable abbrev y4 (h:Heap)(a b c:Addr):Heap:=(y3 h a b c).push {cls:=.type "tuple",data:=.seq #[.ref h.objs.size,.ref (y1 h a).objs.size,.ref (y1 (y1 h a) b).objs.size]}
noncomputable abbrev y5 (h:Heap)(a b c:Addr):Heap:=(y4 h a b c).push {cls:=.type "tuple",data:=.seq #[.none,.none,.none]}
noncomputable abbrev y6 (h:Heap)(a b c:Addr):Heap:=(y5 h a b c).push {cls:=.type "zip",data:=.fields #[.none,.bool false,.bool false,.ref (y3 h a b c).objs.size,.ref (y4 h a b c).objs.size]}
theorem Vf (a b c:Addr)(xs ys zs:Array Value) :
 Meets (Builtin.«zip.__new__» ⟨[.type "zip",.ref a,.ref b,.ref c],[]⟩) (fun _ R s=>s.heap.IsList a xs∧s.heap.IsList b ys∧s.heap.IsList c zs∧R (.ok (.ret (.ref (y5 s.heap a b c).objs.size))) {s with heap:=y6 s.heap a b c}) :=
 .of_wp fun prog w A R s h=>by
  obtain⟨hp,g,d,tk,os⟩:=s;obtain⟨hl1,hl2,hl3,h⟩:=h;have hsub:=sub_zip;have e1:Heap.IsList (Shared.heap ⟨hp,g,d,tk,os⟩) a xs:=hl1;have e2:Heap.IsList (Shared.heap ⟨y1 hp a,g,d,tk,os⟩) b ys:=Heap.IsList.push hl2 _;have e3:Heap.IsList (Shared.heap ⟨y1 (y1 hp a) b,g,d,tk,os⟩) c zs:=Heap.IsList.push (Heap.IsList.push hl3 _) _
  wp_walk using sbI e1,sbI e2,sbI e3
  exact⟨_,rfl,h⟩
section
variable {prog:Program}{w:World}{A:Around}{E:Value→Shared→Prop}{s:Shared}
theorem XW {a b c:Addr}{xs ys zs:Array Value}{Q:Value→Shared→Prop}(hl1:s.heap.IsList a xs)(hl2:s.heap.IsList b ys)(hl3:s.heap.IsList c zs)
 (h:∀h',Z3 h' s.heap.objs.size a b c .none 0→(∀u o,s.heap.get? u=some o→h'.get? u=some o)→Q (.ref (s.heap.objs.size+5)) {s with heap:=h'}) :
 wpAny (model prog w) A (call (.type "zip") [.ref a,.ref b,.ref c]) Q E s:=by
 refine callType_new PySem.F.called_zip (by decide) (Us _ _ _) (UZ _ _ _) (fun obj=>UV obj _ _ _) PySem.F.entry_zip_new (Vf a b c xs ys zs) ⟨hl1,hl2,hl3,?_⟩;have z1:(y1 s.heap a).objs.size=s.heap.objs.size+1:=saU ..;have z2:(y1 (y1 s.heap a) b).objs.size=s.heap.objs.size+2:=by rw[saU,z1]
 have z3:(y3 s.heap a b c).objs.size=s.heap.objs.size+3:=by rw[saU,z2]
 have z4:(y4 s.heap a b c).objs.size=s.heap.objs.size+4:=by rw[saU,z3]
 have z5:(y5 s.heap a b c).objs.size=s.heap.objs.size+5:=by rw[saU,z4]
 have g6:(y6 s.heap a b c).get? (y5 s.heap a b c).objs.size=some _:=saq _ rfl;have g5:(y6 s.heap a b c).get? (y4 s.heap a b c).objs.size=some _:=sab _ (saq _ rfl);have g4:(y6 s.heap a b c).get? (y3 s.heap a b c).objs.size=some _:=sab _ (sab _ (saq _ rfl));have g3:(y6 s.heap a b c).get? (y1 (y1 s.heap a) b).objs.size=some _:=sab _ (sab _ (sab _ (saq _ rfl)));have g2:(y6 s.heap a b c).get? (y1 s.heap a).objs.size=some _:=sab _ (sab _ (sab _ (sab _ (saq _ rfl))));have g1:(y6 s.heap a b c).get? s.heap.objs.size=some _:=sab _ (sab _ (sab _ (sab _ (sab _ (saq _ rfl)))));show _∧_;rw[z3,z4,z5]at g6;rw[z4]at g5;rw[z1,z2,z3]at g4;rw[z2]at g3;rw[z1]at g2;rw[z5];exact⟨⟨_,g6,rfl⟩,h _ ⟨g6,g4,⟨_,_,_,g5⟩,⟨_,g1,rfl,rfl⟩,⟨_,g2,rfl,rfl⟩,⟨_,g3,rfl,rfl⟩⟩ fun u o x=>sab _ (sab _ (sab _ (sab _ (sab _ (sab _ x)))))⟩
end
theorem RO {x y z:V}{us:List Value}(r:ym [x,y,z] us):∃u v t,us=[u,v,t]∧yS x u∧yS y v∧yS z t:=by
 cases r with
 | cons r1 r2=>
   obtain⟨u,v,rfl,h1,h2⟩:=gU r2;exact⟨_,u,v,rfl,r1,h1,h2⟩
noncomputable def Qu (K:Frag)(ta:TA):TI:=fun σ H R=>ta σ H fun vs H1=>∃a b c,vs=[.ref a,.ref b,.ref c]∧(∃xs,wx K H1 a xs)∧(∃xs,wx K H1 b xs)∧(∃xs,wx K H1 c xs)∧R (Q_ K a b c) H1
theorem UN {X:Cx}{elts:List Expr}{kk:Nat}{pos p cpos:Pos}{e1 e2 e3:Expr}{ta:TA}(hm:X.mg "zip" = none) (ha:PA X [e1,e2,e3] ta) (hg:Gl X "zip" :=by rfl) (hs:starEach [e1,e2,e3] X.env=(false,eval e1 X.env)::starEach [e2,e3] X.env:=by rfl)
 (hs2:starEach [e2,e3] X.env=(false,eval e2 X.env)::starEach [e3] X.env:=by rfl) (hs3:starEach [e3] X.env=[(false,eval e3 X.env)]:=by rfl):PI X (.Tuple elts kk pos) (.Call (.Name "zip" p) [e1,e2,e3] [] cpos) (Qu X.K ta):=by
 intro pins s σ H R I h;refine Call_ (sR I hg hm boot_zip (sbd (xU (ha cpos pins s σ H _ I h) fun us s1 ⟨vs,H1,I1,r1,q1⟩=>?_) hs (by rw[hs2,hs3];rfl)));obtain⟨a,b,c,rfl,⟨xs,qa⟩,⟨ys,qb⟩,⟨zs,qc⟩,q⟩:=q1;obtain⟨u,v,t,rfl,ra,rb,rc⟩:=RO r1;cases(show u=.ref a from ra);cases(show v=.ref b from rb);cases(show t=.ref c from rc);obtain⟨is1,_,p1,_⟩:=I1.list qa;obtain⟨is2,_,p2,_⟩:=I1.list qb;obtain⟨is3,_,p3,_⟩:=I1.list qc;have lt1:a<s1.heap.objs.size:=by obtain⟨o,ho,_⟩:=p1.isList;exact sag ho
 have lt2:b<s1.heap.objs.size:=by obtain⟨o,ho,_⟩:=p2.isList;exact sag ho
 have lt3:c<s1.heap.objs.size:=by obtain⟨o,ho,_⟩:=p3.isList;exact sag ho
 refine XW p1.isList p2.isList p3.isList fun h' hz hk=>?_;refine wpAny_pyIter_zip hz.z ?_;have I2:Inv X pins σ H1 {s1 with heap:=h',toks:=s1.toks}:=I1.kept (t':=s1.toks) hk;refine⟨s1.heap.objs.size+5,rG s1.heap.objs.size,_,Q_ X.K a b c,H1,rfl,I2,YW lt1 lt2 lt3,hz,fun b hb=>?_,q⟩
 have hb':s1.heap.objs.size≤b:=by
  simp only[rG,san,sbF,or_false]at hb
  rcases hb with rfl|rfl|rfl|rfl|rfl|rfl <;> first|exact Nat.le_add_right _ _|exact Nat.le_refl _
 exact I1.fpOk hb' (I1.hok.fresh hb')
@[simp] noncomputable def Yy (f g h:FE):FI:=fun env=>(f env).bind fun x=>x.hold.bind fun d=>(g env).bind fun y=>y.hold.bind fun e=>(h env).bind fun z=>z.hold.bind fun c=>match d,e,c with
  | .l ds,.l es,.l cs=>.ok (rm ds es cs)
  |_,_,_=>.bad
theorem YE {X:Cx}{G₀ H₀:Hp}{elts:List Expr}{kk:Nat}{pos p cpos:Pos}{e1 e2 e3:Expr}{f g h:FE}(hm:X.mg "zip" = none) (h1:DE X G₀ H₀ e1 f) (h2:DE X G₀ H₀ e2 g) (h3:DE X G₀ H₀ e3 h) (hg:Gl X "zip" :=by rfl) (hs:starEach [e1,e2,e3] X.env=(false,eval e1 X.env)::starEach [e2,e3] X.env:=by rfl)
 (hs2:starEach [e2,e3] X.env=(false,eval e2 X.env)::starEach [e3] X.env:=by rfl) (hs3:starEach [e3] X.env=[(false,eval e3 X.env)]:=by rfl) :
 TN X G₀ H₀ (.Tuple elts kk pos) (.Call (.Name "zip" p) [e1,e2,e3] [] cpos) (Yy f g h):=(UN hm (zM h1 (zM h2 (zM h3 yw hs3) hs2) hs) hg hs hs2 hs3).imp fun σ H R q=>by
 obtain⟨env,G,ds,I,e,k⟩:=q;obtain⟨x,ex,e⟩:=zv e;obtain⟨d,hx,e⟩:=zv e;obtain⟨y,ey,e⟩:=zv e;obtain⟨d',hy,e⟩:=zv e;obtain⟨z,ez,e⟩:=zv e;obtain⟨d'',hz,e⟩:=zv e;refine⟨env,G,x,I,ex,fun v1 G1 H1 g1 l1 o1=>?_⟩;obtain⟨G2,g2,l2,r2⟩:=kQ g1 l1 o1 hx;have I2:=I.grow g2 l2;refine⟨env,G2,y,I2,ey,fun v2 G3 H3 g3 l3 o3=>?_⟩;obtain⟨G4,g4,l4,r4⟩:=kQ g3 l3 o3 hy;have I4:=I2.grow g4 l4;refine⟨env,G4,z,I4,ez,fun v3 G5 H5 g5 l5 o5=>?_⟩;obtain⟨G6,g6,l6,r6⟩:=kQ g5 l5 o5 hz;split at e
 ·cases e;obtain⟨a,xs,rfl,ha,ra⟩:=(r2.mono g4.g).mono g6.g;obtain⟨b,ys,rfl,hb,rb⟩:=r4.mono g6.g;obtain⟨c,zs,rfl,hc,rc⟩:=r6;exact⟨a,b,c,rfl,⟨xs,wx.of (l6 _ _ ha)⟩,⟨ys,wx.of (l6 _ _ hb)⟩,⟨zs,wx.of (l6 _ _ hc)⟩,k _ G6 _ ((g2.trans g4).trans g6) l6 (Vs (wx.of ha) (wx.of hb) (wx.of hc) ra rb rc)⟩
 ·cases e
@[simp] noncomputable def jv (i j:Nat):FS:=fun env=>match env[i]?,env[j]? with
  | some (.own ds),some (.own es)=>if ds.length<100000∧i≠j then(match es[es.length - 1]? with
    |some d=>.ok (.next ((env.set j (.own es.dropLast)).set i (.own (ds++[d]))))
    |none=>.bad)else .bad
  |_,_=>.bad
section
variable {X:Cx}{G₀ H₀:Hp}{pos apos cpos p1 apos' cpos' p2:Pos}{i j:Nat}{x y:Str}
theorem XQ (hv:PE X (.Name x p1) (wa i))(hw:PE X (.Name y p2) (wa j))(hfew:((backTo cpos (starEach [.Call (.Attribute (.Name y p2) "pop" apos') [] [] cpos'] X.env)).all (fun x=> !x.1)&&(backToKw cpos (keywordEach [] X.env)).all (fun x=>x.1.isSome)
 && decide ([Expr.Call (.Attribute (.Name y p2) "pop" apos') [] [] cpos'].length+([]:List Keyword).length+(if([]:List Keyword).isEmpty then 0 else 1)<30))=true:=by rfl)
 (hline:(apos.endLine == cpos.line)=true:=by rfl) (hline':(apos'.endLine == cpos'.line)=true:=by rfl) (hs:starEach [.Call (.Attribute (.Name y p2) "pop" apos') [] [] cpos'] X.env=[(false,eval (.Call (.Attribute (.Name y p2) "pop" apos') [] [] cpos') X.env)]:=by rfl) :
 DS X G₀ H₀ (.Expr (.Call (.Attribute (.Name x p1) "append" apos) [.Call (.Attribute (.Name y p2) "pop" apos') [] [] cpos'] [] cpos) pos) (jv i j) :=
 (oa (bp sbE PySem.F.slot_list_append PySem.F.type_list_append og hv (zM (aQ sbE PySem.F.slot_list_pop PySem.F.type_list_pop Vg hw rfl hline') yw hs) rfl hfew hline hs rfl) rfl).imp fun D σ H q=>by
  obtain⟨env,G,r,I,e,k⟩:=q;unfold jv at e;split at e
  ·rename_i ds es hd he;split at e
   ·rename_i hz;split at e
    ·rename_i d hl;cases e;obtain⟨a,vs,o⟩:=I.own hd;obtain⟨b,us,o2⟩:=I.own he;have hlen:=o2.rep.length;have hlt:es.length - 1<es.length:=(saj.mp hl).1;have hu:us[us.length - 1]?=some (us[us.length - 1]'(by lia)):=sae (by lia);obtain⟨d',hd',rd⟩:=o2.rep.get' hu
     have ed:d'=d:=by
      rw[←hlen,hl]at hd';exact(saE hd').symm
     subst ed;have I1:=I.mut he o2 o2.rep.dropLast;have hd1:(env.set j (.own es.dropLast))[i]?=some (.own ds):=by rw[sam (fun q=>hz.2 q.symm)];exact hd
     obtain⟨a',vs',o'⟩:=I1.own hd1;have z:=o'.at_;rw[o.at_]at z;cases z;exact⟨.ref a,o.at_,.inl ⟨rfl,vs,wx.of o.hp⟩,.ref b,o2.at_,.inl ⟨rfl,us,wx.of o2.hp⟩,b,us,_,rfl,rfl,o2.hp,hu,a,vs',_,rfl,rfl,o'.hp,by rw[←o'.rep.length,sizeLine_eq];lia,k σ G _ (zI.refl _) (I1.mut hd1 o' (o'.rep.append (zO.cons rd zO.nil)))⟩
    ·cases e
   ·cases e
  ·cases e
end
section
variable {prog:Program}{w:World}{A:Around}{E:Value→Shared→Prop}{s:Shared}
end
section
variable {prog:Program}{w:World}{A:Around}{E:Value→Shared→Prop}{s:Shared}
end
noncomputable abbrev q3 (h:Heap)(a b:Addr):Heap:=y1 (y1 h a) b
noncomputable abbrev q4 (h:Heap)(a b:Addr):Heap:=(q3 h a b).push {cls:=.type "tuple",data:=.seq #[.ref h.objs.size,.ref (y1 h a).objs.size]}
noncomputable abbrev q5 (h:Heap)(a b:Addr):Heap:=(q4 h a b).push {cls:=.type "tuple",data:=.seq #[.none,.none]}
noncomputable abbrev q6 (h:Heap)(a b:Addr):Heap:=(q5 h a b).push {cls:=.type "zip",data:=.fields #[.none,.bool false,.bool false,.ref (q3 h a b).objs.size,.ref (q4 h a b).objs.size]}
section
variable {prog:Program}{w:World}{A:Around}{E:Value→Shared→Prop}{s:Shared}
end
theorem uk {α:Type}{n:Nat}{l:List α}(h:l.length=n+1):∃a t,l=a::t∧t.length=n:=by
 cases l with
 |nil=>cases h
 |cons a t=>exact⟨a,t,rfl,Nat.succ.inj h⟩
section
variable {K:Frag}{x qual:Str}{st:Stmt}{f:Addr}{fd:FuncData}
theorem Re (F:Fun K x qual st f fd)(p_a:Str)(h:∀(kV doc pm:Value) (an:Option Addr) (cdv ct:Value) (u_a:Value),bindArgs (PySem.W.fnOf x qual (vQ st) (xq st) (zw st) .none kV doc pm an cdv ct) ⟨[u_a],[]⟩=pure (List.zip [p_a] [u_a])):uX K fd [p_a] [] :=
 F.binds fun _ _ _ _ _ _ us0 h0=>by
  obtain⟨_,us1,rfl,h1⟩:=uk h0
  cases us1 with
  |nil=>exact h _ _ _ _ _ _ _
  |cons a t=>cases h1
theorem kr (F:Fun K x qual st f fd)(p_a p_b:Str)(h:∀(kV doc pm:Value) (an:Option Addr) (cdv ct:Value) (u_a u_b:Value),bindArgs (PySem.W.fnOf x qual (vQ st) (xq st) (zw st) .none kV doc pm an cdv ct) ⟨[u_a,u_b],[]⟩=pure (List.zip [p_a,p_b] [u_a,u_b])):uX K fd [p_a,p_b] [] :=
 F.binds fun _ _ _ _ _ _ us0 h0=>by
  obtain⟨_,us1,rfl,h1⟩:=uk h0;obtain⟨_,us2,rfl,h2⟩:=uk h1
  cases us2 with
  |nil=>exact h _ _ _ _ _ _ _ _
  |cons a t=>cases h2
theorem T7 (F:Fun K x qual st f fd)(p_a p_b p_c:Str)(h:∀(kV doc pm:Value) (an:Option Addr) (cdv ct:Value) (u_a u_b u_c:Value),bindArgs (PySem.W.fnOf x qual (vQ st) (xq st) (zw st) .none kV doc pm an cdv ct) ⟨[u_a,u_b,u_c],[]⟩=pure (List.zip [p_a,p_b,p_c] [u_a,u_b,u_c])):uX K fd [p_a,p_b,p_c] [] :=
 F.binds fun _ _ _ _ _ _ us0 h0=>by
  obtain⟨_,us1,rfl,h1⟩:=uk h0;obtain⟨_,us2,rfl,h2⟩:=uk h1;obtain⟨_,us3,rfl,h3⟩:=uk h2
  cases us3 with
  |nil=>exact h _ _ _ _ _ _ _ _ _
  |cons a t=>cases h3
theorem Oz (F:Fun K x qual st f fd)(p_a p_b p_c p_d:Str)(h:∀(kV doc pm:Value) (an:Option Addr) (cdv ct:Value) (u_a u_b u_c u_d:Value),bindArgs (PySem.W.fnOf x qual (vQ st) (xq st) (zw st) .none kV doc pm an cdv ct) ⟨[u_a,u_b,u_c,u_d],[]⟩=pure (List.zip [p_a,p_b,p_c,p_d] [u_a,u_b,u_c,u_d])):uX K fd [p_a,p_b,p_c,p_d] [] :=
 F.binds fun _ _ _ _ _ _ us0 h0=>by
  obtain⟨_,us1,rfl,h1⟩:=uk h0;obtain⟨_,us2,rfl,h2⟩:=uk h1;obtain⟨_,us3,rfl,h3⟩:=uk h2;obtain⟨_,us4,rfl,h4⟩:=uk h3
  cases us4 with
  |nil=>exact h _ _ _ _ _ _ _ _ _ _
  |cons a t=>cases h4
end
section
variable {X:Cx}{G₀ H₀:Hp}{pos p:Pos}{k:Nat}{x a1 a2 a3 a4:Str}{e1 e2 e3 e4:Expr}{f1 f2 f3 f4:FE}{m:List D→Out Val}
theorem dv (i:Nat){x:Str}(hN:X.N[i]?=some x:=by rfl)(hv:Q2 X.env.scope x:=by first|exact Or.inl rfl|exact Or.inr (Or.inl rfl)|exact Or.inr (Or.inr rfl))(hd:(x == ("__debug__" : Str))=false:=by decide) (hc:(x == ("__classdict__" : Str))=false:=by decide):DE X G₀ H₀ (.Name x pos) (zf i):=Rn (pv i hN hv hd hc)
theorem mS (h1:DE X G₀ H₀ e1 f1)(s1:starEach [e1] X.env=(false,eval e1 X.env)::starEach [] X.env:=by rfl):DA X G₀ H₀ [e1] (zi f1 zB):=qt h1 VS s1
theorem Wb (h1:DE X G₀ H₀ e1 f1)(h2:DE X G₀ H₀ e2 f2)(s2:starEach [e2] X.env=(false,eval e2 X.env)::starEach [] X.env:=by rfl)(s1:starEach [e1,e2] X.env=(false,eval e1 X.env)::starEach [e2] X.env:=by rfl):DA X G₀ H₀ [e1,e2] (zi f1 (zi f2 zB)):=qt h1 (mS h2 s2) s1
theorem VR (C:Cal X.prog X.w X.K X.mg X.base k x [a1] m)(hr:Room k X.A)(h1:DE X G₀ H₀ e1 f1)(hg:Gl X x:=by rfl)(hd:(x == ("__debug__" : Str))=false:=by decide) (s1:starEach [e1] X.env=(false,eval e1 X.env)::starEach [] X.env:=by rfl) (hp:(backTo pos (starEach [] X.env)).any (·.1)=false:=by rfl) :
 DE X G₀ H₀ (.Call (.Name x p) [e1] [] pos) (zA m (zi f1 zB)):=dS C hr (mS h1 s1) (ya vf) hg hd s1 hp
theorem rk (C:Cal X.prog X.w X.K X.mg X.base k x [a1,a2] m)(hr:Room k X.A)(h1:DE X G₀ H₀ e1 f1)(h2:DE X G₀ H₀ e2 f2)(hg:Gl X x:=by rfl)(hd:(x == ("__debug__" : Str))=false:=by decide) (s2:starEach [e2] X.env=(false,eval e2 X.env)::starEach [] X.env:=by rfl) (s1:starEach [e1,e2] X.env=(false,eval e1 X.env)::starEach [e2] X.env:=by rfl) (hp:(backTo pos (starEach [e2] X.env)).any (·.1)=false:=by rfl) :
 DE X G₀ H₀ (.Call (.Name x p) [e1,e2] [] pos) (zA m (zi f1 (zi f2 zB))):=dS C hr (Wb h1 h2 s2 s1) (ya (ya vf)) hg hd s1 hp
theorem Wa (C:Cal X.prog X.w X.K X.mg X.base k x [a1,a2,a3] m)(hr:Room k X.A)(h1:DE X G₀ H₀ e1 f1)(h2:DE X G₀ H₀ e2 f2)(h3:DE X G₀ H₀ e3 f3)(hg:Gl X x:=by rfl)(hd:(x == ("__debug__" : Str))=false:=by decide) (s3:starEach [e3] X.env=(false,eval e3 X.env)::starEach [] X.env:=by rfl) (s2:starEach [e2,e3] X.env=(false,eval e2 X.env)::starEach [e3] X.env:=by rfl) (s1:starEach [e1,e2,e3] X.env=(false,eval e1 X.env)::starEach [e2,e3] X.env:=by rfl) (hp:(backTo pos (starEach [e2,e3] X.env)).any (·.1)=false:=by rfl) :
 DE X G₀ H₀ (.Call (.Name x p) [e1,e2,e3] [] pos) (zA m (zi f1 (zi f2 (zi f3 zB)))):=dS C hr (qt h1 (Wb h2 h3 s3 s2) s1) (ya (ya (ya vf))) hg hd s1 hp
theorem Pz (C:Cal X.prog X.w X.K X.mg X.base k x [a1,a2,a3,a4] m)(hr:Room k X.A)(h1:DE X G₀ H₀ e1 f1)(h2:DE X G₀ H₀ e2 f2)(h3:DE X G₀ H₀ e3 f3)(h4:DE X G₀ H₀ e4 f4)(hg:Gl X x:=by rfl)(hd:(x == ("__debug__" : Str))=false:=by decide) (s4:starEach [e4] X.env=(false,eval e4 X.env)::starEach [] X.env:=by rfl) (s3:starEach [e3,e4] X.env=(false,eval e3 X.env)::starEach [e4] X.env:=by rfl) (s2:starEach [e2,e3,e4] X.env=(false,eval e2 X.env)::starEach [e3,e4] X.env:=by rfl) (s1:starEach [e1,e2,e3,e4] X.env=(false,eval e1 X.env)::starEach [e2,e3,e4] X.env:=by rfl) (hp:(backTo pos (starEach [e2,e3,e4] X.env)).any (·.1)=false:=by rfl) :
 DE X G₀ H₀ (.Call (.Name x p) [e1,e2,e3,e4] [] pos) (zA m (zi f1 (zi f2 (zi f3 (zi f4 zB))))):=dS C hr (qt h1 (qt h2 (Wb h3 h4 s4 s3) s2) s1) (ya (ya (ya (ya vf)))) hg hd s1 hp
end
theorem wo {N ps:List Str}{sc:Scope}(h1:sc.kind=.function:=by rfl)(h2:sc.isCoroutine=false:=by rfl)(h3:sc.isGenerator=false:=by rfl)(h4:N.Nodup:=by decide +kernel)(h5:N.take ps.length=ps:=by rfl)
 (h6:∀x∈ps,sc.names.lookup x=some .local∨sc.names.lookup x=some .cell:=by decide +kernel) (h7:∀y∈sc.names,y.2≠.free:=by decide +kernel):FS_ N ps sc:=⟨h1,h2,h3,h4,h5,h6,h7⟩
structure AskC (K:Frag)(cP cR cE C:Addr)(b1 b2 b3:Bool):Prop where
 ex:ExCls K C
 k1:PySem.W.kitOne K (.ref C) (.ref cP)=some b1
 k2:PySem.W.kitOne K (.ref C) (.ref cR)=some b2
 k3:PySem.W.kitOne K (.ref C) (.ref cE)=some b3
 v:PySem.W.kitOne K (.ref C) (.type "ValueError")=some true
noncomputable abbrev hV (nm:Str)(x:Str):Bool:=decide (V.str nm=V.str x)
structure Three (K:Frag)(mg:Str→Option Value)(cP cR cE:Addr):Prop where
 mP:mg "NoPegs" = some (.ref cP)
 mR:mg "NoRope" = some (.ref cR)
 mE:mg "NoEnds" = some (.ref cE)
 lR:LayCls K cR "place"
 zP:AskC K cP cR cE cP true false false
 zR:AskC K cP cR cE cR false true false
 zE:AskC K cP cR cE cE false false true
noncomputable def ZZ (K:Frag)(mg:Str→Option Value):Sp:=fun vs H Q _=>∃G a C dq nm n cP cR cE,vs=[.ref a,.str nm,.int n]∧zI G H∧H a=some (.ext (uW a C dq))∧Three K mg cP cR cE∧AskC K cP cR cE C (hV nm "pegs") (hV nm "rope") (hV nm "ends") ∧
 (hV nm "rope" = true→LayCls K C "place" ∧ ∃dx,dq=some dx∧H dx=some (.xd [("place",.int n)]))∧∀G' H',Gw G H G' H'→zI G' H'→Q (.bl true) H'
noncomputable def Uy (K:Frag)(i:Nat)(v:V):TE:=RJ (PZ K) (wW (wa i) (wW (tC v) oR))
noncomputable def Sl (K:Frag)(nw:List D→Out Val)(cP cR cE:Addr):TS :=
 jA (cO (PY (ZW (Y0 R6 (wa 0) (tC .non))) (Uw (tB (Uy K 0 (.ty "ValueError"))))) (gb (tC (.bl false))) cN)
 (jA (eD (Wu (wW (Uy K 0 (.ref cP)) (wW (Uy K 0 (.ref cR)) (wW (Uy K 0 (.ref cE)) oR)))) (qO 3))
 (jA (cO (ZW (Y0 (WT K true) (wa 3) (Wu (wW (Y0 R7 (wa 1) (tC (.str "pegs"))) (wW (Y0 R7 (wa 1) (tC (.str "rope"))) (wW (Y0 R7 (wa 1) (tC (.str "ends"))) oR)))))) (gb (tC (.bl false))) cN)
 (gb (RQ (Y0 P0 (wa 1) (tC (.str "rope"))) (TV (jB (Uh K nw 1) [] E0 (wW (Pe K (wa 0) "place") oR)) (Y0 R7 (Pe K (wa 0) "place") (wa 2)))))))
theorem Py (a b c:Bool):nN (.l [.bl a,.bl b,.bl c]) (.l [.bl a,.bl b,.bl c])=true:=by
 simp only[nN,xw,wy,PyData.eqv,PyData.eqvAll]
 cases a <;> cases b <;> cases c <;> rfl
theorem VF {P:Program}{w:World}{K:Frag}{mg:Str→Option Value}{base:Heap}{x:Str}{st:Stmt}{f:Addr}{fd:FuncData}{N ps:List Str}{k:Nat}{nw:List D→Out Val}{cP cR cE:Addr}(F:Fun K x x st f fd)(S:FS_ N ps (zw st))
 (hn:ps.length=3) (hN:N.length=4) (Z0:Three K mg cP cR cE) (hw:∀n,nw [.int n]=.ok (.p (.bl true)))
 (hb:∀(cdv:Value) (A:Around) (outer:List Env) (s:Shared) (H:Hp) (E:XK),Room k (A.deeper (envOfC x (zw st) s.heap.objs.size f cdv)) →
  kI (kR gP P w K mg base N x (zw st) f cdv A outer s H E).nox (xq st) (Sl K nw cP cR cE)):FnOk P w K mg base gP (k+1) f fd ps (ZZ K mg):=by
 refine F.ok S (fun vs H Q E h=>?_) fun cdv A outer s H vs Q E hr h=>?_
 ·obtain⟨G,a,C,dq,nm,n,_,_,_,rfl,_⟩:=h;exact hn.symm
 ·obtain⟨G,a,C,dq,nm,n,_,_,_,rfl,l,ha,Y,Z,hp,hQ⟩:=h;cases Y.mP.symm.trans Z0.mP;cases Y.mR.symm.trans Z0.mR;cases Y.mE.symm.trans Z0.mE;refine⟨_,hb cdv A outer s H E hr,?_⟩
  have e0:L2.zy N [V.ref a,.str nm,.int n]=[some (.ref a),some (.str nm),some (.int n),none]:=by
   unfold L2.zy;rw[hN];rfl
  rw[e0];refine⟨.ref a,rfl,rfl,false,rfl,?_⟩;refine mn ?_;refine⟨.ref a,rfl,a,C,dq,.ty "ValueError",.type "ValueError",true,rfl,rfl,ha,Z.ex,Z.v,true,rfl,?_⟩;refine mn ?_;refine⟨.ref a,rfl,a,C,dq,.ref cP,.ref cP,_,rfl,rfl,ha,Z.ex,Z.k1,?_⟩;refine⟨.ref a,rfl,a,C,dq,.ref cR,.ref cR,_,rfl,rfl,ha,Z.ex,Z.k2,?_⟩;refine⟨.ref a,rfl,a,C,dq,.ref cE,.ref cE,_,rfl,rfl,ha,Z.ex,Z.k3,by show 3≤sizeLine;decide,fun p hpn=>?_⟩;refine⟨.ref p,rfl,.str nm,rfl,rfl,.str nm,rfl,rfl,.str nm,rfl,rfl,by show 3≤sizeLine;decide,fun q hqn=>?_⟩;have g1:=Gw.laidL (o:=.l [.bl (hV nm "pegs"),.bl (hV nm "rope"),.bl (hV nm "ends")]) l hpn;have g2:=Gw.laidL (o:=.l [.bl (hV nm "pegs"),.bl (hV nm "rope"),.bl (hV nm "ends")]) g1.2 hqn;have hqp:p≠q:=zz zH hqn
  have rl:∀G:Hp,zO K G [.bl (hV nm "pegs"),.bl (hV nm "rope"),.bl (hV nm "ends")] [.bl (hV nm "pegs"),.bl (hV nm "rope"),.bl (hV nm "ends")]:=fun G=>⟨_,_,rfl,rfl,_,_,rfl,rfl,_,_,rfl,rfl,rfl⟩
  refine⟨.l [.bl (hV nm "pegs"),.bl (hV nm "rope"),.bl (hV nm "ends")],.l [.bl (hV nm "pegs"),.bl (hV nm "rope"),.bl (hV nm "ends")],.inl ⟨_,zI.refl _,p,_,rfl,by rw[zx hqp];exact zH,rl _⟩,.inl ⟨_,zI.refl _,q,_,rfl,zH,rl _⟩,rfl,false,?_,?_⟩
  ·rw[sak rfl,Py];rfl
  refine mn ?_;refine⟨.str nm,rfl,rfl,_,rfl,?_⟩;have g3:=g1.1.trans g2.1
  rcases Bool.eq_false_or_eq_true (decide (V.str nm=V.str "rope"))with hz|hz
  ·obtain⟨L,dx,rfl,hdx⟩:=hp hz;rw[sal (show ¬(!decide (V.str nm=V.str "rope"))=true by rw[hz];decide)];refine⟨.ref a,rfl,a,C,dx,.int n,rfl,g3.h _ _ ha,g3.h _ _ hdx,L,G,[.int n],_,rfl,g2.2,⟨.int n,[],rfl,rfl,rfl⟩,hw n,fun v G5 H5 g5 l5 hv'=>?_⟩;cases(show v=.bl true from hv');refine⟨true,rfl,?_⟩;refine bI ?_;refine⟨.ref a,rfl,a,C,dx,.int n,rfl,g5.h _ _ (g3.h _ _ ha),g5.h _ _ (g3.h _ _ hdx),L,.int n,rfl,rfl,?_⟩;have:=hQ _ _ (g3.trans g5) l5;show Q (.bl (decide (V.int n=V.int n))) _;rw[sap rfl];exact this
  ·rw[sak (show(!decide (V.str nm=V.str "rope"))=true by rw[hz];rfl)];exact hQ _ _ g3 g2.2
structure CalN (P:Program)(w:World)(K:Frag)(mg:Str→Option Value)(base:Heap)(k:Nat)(x:Str)(ps:List Str):Prop where
 ex:∃(f:Addr) (fd:FuncData),FnOk P w K mg base gP k f fd ps (ZZ K mg)∧mg x=some (.ref f)∧PySem.W.keepIn K (.ref f)=true∧uX K fd ps []
theorem CalN.mono {P:Program}{w:World}{K:Frag}{mg:Str→Option Value}{base:Heap}{j k:Nat}{x:Str}{ps:List Str}(c:CalN P w K mg base j x ps)(h:j≤k):CalN P w K mg base k x ps:=by
 obtain⟨f,fd,F,r⟩:=c.ex;exact⟨f,fd,F.mono h,r⟩
theorem eZ {X:Cx}{k:Nat}{x:Str}{ps:List Str}{p pos:Pos}{e:Expr}{es:List Expr}{t:TA}(C:CalN X.prog X.w X.K X.mg X.base k x ps)(hr:Room k X.A)(ha:PA X (e::es) t)
 (hg:Gl X x:=by rfl) (hdb:(x == ("__debug__" : Str))=false:=by decide) (he:starEach (e::es) X.env=(false,eval e X.env)::starEach es X.env:=by rfl) (hpl:(backTo pos (starEach es X.env)).any (·.1)=false:=by rfl) :
 PE X (.Call (.Name x p) (e::es) [] pos) (jB (ZZ X.K X.mg) [] E0 t):=by
 obtain⟨f,fd,F,hm,hk,hb⟩:=C.ex;exact ji F hr hg hm hk hb .nil Ye ha hdb he hpl
noncomputable abbrev TR:List Str:=["NoPegs","NoRope","NoEnds"]
noncomputable def Pf (K:Frag)(mg:Str→Option Value)(i j:Nat)(nm:Str)(te:TE):TS:=eD (jB (ZZ K mg) [] E0 (wW (wa i) (wW (tC (.str nm)) (wW te oR)))) (qO j)
noncomputable def RT (K:Frag)(mg:Str→Option Value)(Qt:List D→Prop)(R:List D→Xc→Prop)(G₀ H₀:Hp)(i j:Nat)(r:Ev→Out (List Val))(fts ftd fte:FT)(fdue:FE):TS :=
 jA (eD (jB (WB K mg Qt R 3 TR) [] E0 (tA K G₀ H₀ r)) (qO i))
 (jA (cO (tT K G₀ H₀ fts) (Pf K mg i j "pegs" (tC (.int 0))) (cO (tT K G₀ H₀ ftd) (Pf K mg i j "rope" (tE K G₀ H₀ fdue)) (cO (tT K G₀ H₀ fte) (Pf K mg i j "ends" (tC (.int 0))) (eD (Y0 R6 (wa i) (tC .non)) (qO j)))))
 (cO (Uw (tB (wa j))) (gb (tC (.bl false))) cN))
open Classical in
noncomputable def Yq (Qt:List D→Prop)(R:List D→Xc→Prop)(r:Ev→Out (List Val))(fts ftd fte:FT)(fdue:FE)(i j:Nat):FS:=fun env=>(r env).bind fun xs=>
 if xs.all Val.isPers=true∧xs.length=3∧((fts env=.ok true∧R (xs.map Val.d) ("NoPegs",none))∨(fts env=.ok false∧((ftd env=.ok true∧∃n,fdue env=.ok (.p (.int n))∧R (xs.map Val.d) ("NoRope",some n)) ∨
  (ftd env=.ok false∧((fte env=.ok true∧R (xs.map Val.d) ("NoEnds",none))∨(fte env=.ok false∧Qt (xs.map Val.d)))))))then .ok (.next ((env.set i .un).set j .un))else .bad
theorem VO {X:Cx}{G₀ H₀:Hp}{st:List Stmt}{Qt:List D→Prop}{R:List D→Xc→Prop}{cP cR cE:Addr}{i j:Nat}{r:Ev→Out (List Val)}{fts ftd fte:FT}{fdue:FE}(Z:Three X.K X.mg cP cR cE)
 (hi:∀env:Ev,env.length=X.N.length→fts (env.set i .un)=fts env∧ftd (env.set i .un)=ftd env∧fte (env.set i .un)=fte env∧fdue (env.set i .un)=fdue env) (hlt:i<X.N.length) (hlj:j<X.N.length)
 (h:kI X st (RT X.K X.mg Qt R G₀ H₀ i j r fts ftd fte fdue)):Wc X G₀ H₀ st (Yq Qt R r fts ftd fte fdue i j):=by
 intro pins s σ H D I q;refine h pins s σ H D I ?_;obtain⟨env,G,res,d,e,k⟩:=q;obtain⟨xs,e1,e⟩:=zv e;split at e
 rotate_left
 ·cases e
 rename_i hh;obtain⟨hp,hn,hh⟩:=hh;cases e;have hel:env.length=X.N.length:=d.len.trans I.len;obtain⟨f1,f2,f3,f4⟩:=hi env hel
 have hv:∀v:V,(σ.set i (some v))[i]?=some (some v):=fun v=>by
  rw[sbh];simp[I.len,hlt]
 have hv2:∀u v:V,((σ.set i (some u)).set j (some v))[j]?=some (some v):=fun u v=>by
  rw[sbh];simp[I.len,hlj]
 have fin:∀(v:V) (G5 H5:Hp),zI G G5→DI X.K G₀ H₀ (env.set i .un) (σ.set i (some v)) G5 H5→(cO (Uw (tB (wa j))) (gb (tC (.bl false))) cN) D ((σ.set i (some v)).set j (some (.bl true))) H5:=fun v G5 H5 sm d5=>
  ⟨.bl true,hv2 _ _,true,rfl,mn (k _ G5 H5 sm (d5.setU j (some (.bl true))))⟩
 refine⟨env,G,xs,d,e1,fun vs G1 H1 g1 l1 a1=>?_⟩;have rep:=ju a1 hp;show WB X.K X.mg Qt R 3 TR (vs++[]) H1 _ E0;rw[sbW];refine⟨G1,xs.map Val.d,by rw[sac];exact hn,l1,rep,?_⟩
 rcases hh with⟨t1,hR⟩|⟨t1,⟨t2,n,t3,hR⟩|⟨t2,⟨t3,hR⟩|⟨t3,hq⟩⟩⟩
 ·refine .inr ⟨("NoPegs",none),hR,by simp,fun a C' dq G2 H2 g2 l2 hc ha hB=>?_⟩;rw[show X.mg "NoPegs" = some (.ref cP)from Z.mP]at hc;cases hc;have d2:=(d.grow (g1.trans g2) l2).setU i (some (.ref a));refine⟨_,G2,true,d2,f1.trans t1,fun G3 H3 g3 l3=>bI ?_⟩;refine⟨.ref a,hv _,G3,a,cP,dq,"pegs",0,cP,cR,cE,rfl,l3,g3.h _ _ ha,Z,Z.zP,(fun z=>by cases z),fun G4 H4 g4 l4=>?_⟩;exact fin _ G4 H4 (((g1.g.trans g2.g).trans g3.g).trans g4.g) (d2.grow (g3.trans g4) l4)
 ·refine .inr ⟨("NoRope",some n),hR,by simp,fun a C' dq G2 H2 g2 l2 hc ha hB=>?_⟩;rw[show X.mg "NoRope" = some (.ref cR)from Z.mR]at hc;cases hc;obtain⟨dx,rfl,hdx⟩:=hB;have d2:=(d.grow (g1.trans g2) l2).setU i (some (.ref a));refine⟨_,G2,false,d2,f1.trans t1,fun G3 H3 g3 l3=>mn ?_⟩;have d3:=d2.grow g3 l3;refine⟨_,G3,true,d3,f2.trans t2,fun G4 H4 g4 l4=>bI ?_⟩;have d4:=d3.grow g4 l4;refine⟨.ref a,hv _,_,G4,_,d4,f4.trans t3,fun v G5 H5 g5 l5 hv'=>?_⟩;cases(show v=.int n from hv');have g35:=(g3.trans g4).trans g5;refine⟨G5,a,cR,some dx,"rope",n,cP,cR,cE,rfl,l5,g35.h _ _ ha,Z,Z.zR,(fun _=>⟨Z.lR,dx,rfl,g35.h _ _ hdx⟩),fun G6 H6 g6 l6=>?_⟩;exact fin _ G6 H6 (((g1.g.trans g2.g).trans g35.g).trans g6.g) (d2.grow (g35.trans g6) l6)
 ·refine .inr ⟨("NoEnds",none),hR,by simp,fun a C' dq G2 H2 g2 l2 hc ha hB=>?_⟩;rw[show X.mg "NoEnds" = some (.ref cE)from Z.mE]at hc;cases hc;have d2:=(d.grow (g1.trans g2) l2).setU i (some (.ref a));refine⟨_,G2,false,d2,f1.trans t1,fun G3 H3 g3 l3=>mn ?_⟩;have d3:=d2.grow g3 l3;refine⟨_,G3,false,d3,f2.trans t2,fun G4 H4 g4 l4=>mn ?_⟩;have d4:=d3.grow g4 l4;refine⟨_,G4,true,d4,f3.trans t3,fun G5 H5 g5 l5=>bI ?_⟩;have g35:=(g3.trans g4).trans g5;refine⟨.ref a,hv _,G5,a,cE,dq,"ends",0,cP,cR,cE,rfl,l5,g35.h _ _ ha,Z,Z.zE,(fun z=>by cases z),fun G6 H6 g6 l6=>?_⟩;exact fin _ G6 H6 (((g1.g.trans g2.g).trans g35.g).trans g6.g) (d2.grow (g35.trans g6) l6)
 ·refine .inl ⟨hq,fun G2 H2 g2 l2=>?_⟩;have d2:=(d.grow (g1.trans g2) l2).setU i (some .non);refine⟨_,G2,false,d2,f1.trans t1,fun G3 H3 g3 l3=>mn ?_⟩;have d3:=d2.grow g3 l3;refine⟨_,G3,false,d3,f2.trans t2,fun G4 H4 g4 l4=>mn ?_⟩;have d4:=d3.grow g4 l4;refine⟨_,G4,false,d4,f3.trans t3,fun G5 H5 g5 l5=>mn ?_⟩;have g35:=(g3.trans g4).trans g5;exact⟨.non,hv _,rfl,fin _ G5 H5 ((g1.g.trans g2.g).trans g35.g) (d2.grow g35 l5)⟩
end DL
namespace My
open PySem PySem.Spec PyProof.Rows L2 DL
theorem lS {α:Type}(xs:List α)(i:Int)(h:0≤i):sZ xs i=xs[i.toNat]?:=by
 unfold sZ U_;rw[sak h];split
 ·rfl
 ·rename_i h2;rw[List.getElem?_eq_none (by lia)];rfl
theorem nG {α:Type}(xs:List α):sZ xs (-1)=xs[xs.length - 1]?:=by
 unfold sZ U_;by_cases h:xs.length=0
 ·have:xs=[]:=saV h;subst this;simp
 ·rw[sal (by lia),sak (by lia)];show xs[(-1+(xs.length:Int)).toNat]?=_;congr 1;lia
theorem qA {i j:Int}(h1 : -(2^64)<i)(h2:i<2^64):sY i j=true:=by
 unfold sY nR;rw[sap h1,sap h2];rfl
theorem iV {i j:Int}(h1 : -(2^64)<j)(h2:j<2^64):sY i j=true:=by
 unfold sY nR;rw[sap h1,sap h2];simp
theorem vk {i j:Int}(h1:0<j)(h2:j<2^250):oC i j=true:=by
 unfold oC;rw[sap h1,sap h2];rfl
@[simp] theorem Q1 (j:Int) (h1:0≤j) (h2:j≤1000000):Tz 10 j=true:=by
  unfold Tz;rw[sap h1,sap h2];decide
@[simp] theorem sE (i j:Int):nN (.int i) (.int j)=(i == j):=rfl
@[simp] theorem Pu:nN .non .non=true:=rfl
@[simp] theorem Pv (i:Int):nN .non (.int i)=false:=rfl
@[simp] theorem Pw (i:Int):nN (.int i) .non=false:=rfl
@[simp] theorem Px (a b:Bool):nN (.bl a) (.bl b)=(a == b):=rfl
@[simp] theorem R3 (n:Nat)(i:Int):vE n (.int i)=true:=by cases n <;> rfl
@[simp] theorem RZ (n:Nat):vE n .non=true:=by cases n <;> rfl
@[simp] theorem QX (n:Nat)(b:Bool):vE n (.bl b)=true:=by cases n <;> rfl
@[simp] theorem RY (n:Nat)(ds:List D):vE (n+1) (.tup ds)=ds.all (vE n):=rfl
@[simp] theorem R0 (n:Nat)(ds:List D):vE (n+1) (.l ds)=ds.all (vE n):=rfl
theorem YA (xs ys:List D):nN (.tup xs) (.tup ys)=iK xs ys:=by simp only[nN,iK,xw,PyData.eqv]
theorem jo (xs ys:List D):nN (.l xs) (.l ys)=iK xs ys:=by simp only[nN,iK,xw,PyData.eqv]
theorem my:iK [] []=true:=by simp only[iK,wy,PyData.eqvAll]
theorem rJ (x y:D)(xs ys:List D):iK (x::xs) (y::ys)=(nN x y&&iK xs ys):=by simp only[iK,nN,wy,PyData.eqvAll]
theorem YB (y:D)(ys:List D):iK (y::ys) []=false:=by simp only[iK,wy,PyData.eqvAll]
theorem iG {g:D→Ev→Out Ev}{fb:FS}(P:Nat→Ev→Prop):∀(ds:List D) (i:Nat) (env:Ev),P i env →
 (∀(j:Nat) (d:D) (env:Ev),i≤j→ds[j - i]?=some d→P j env→∃env1 env2,g d env=.ok env1∧fb env1=.ok (.next env2)∧P (j+1) env2) →
 ∃env',x4 g fb ds env=.ok (.next env')∧P (i+ds.length) env'
 |[],i,env,h,_=>⟨env,rfl,h⟩
 | d::ds,i,env,h,step=>by
   obtain⟨env1,env2,e1,e2,h2⟩:=step i d env (Nat.le_refl _) (by simp) h
   obtain⟨env',e3,h3⟩:=iG P ds (i+1) env2 h2 fun j d' env hj hd hp=>step j d' env (by lia) (by
    have:j - i=(j - (i+1))+1:=by lia
    rw[this];simpa using hd) hp
   refine⟨env',?_,?_⟩
   ·simp only[x4,e1,zh,e2];exact e3
   ·have:i+(d::ds).length=i+1+ds.length:=by simp;lia
    rw[this];exact h3
theorem Z8 {lo:Int}{n j:Nat}{d:D}(h:(uv lo n)[j]?=some d):j<n∧d=.int (lo+j):=by
 have hj:j<n:=by
  have:=(saj.mp h).1;simpa[uv]using this
 refine⟨hj,?_⟩;simp[uv,hj]at h;exact h.symm
@[simp] theorem Z7 (lo:Int)(n:Nat):(uv lo n).length=n:=by simp[uv]
theorem wm {α:Type}{g:D→Ev→Out Ev}{ft:FT}{fe:FE}(P:Ev→Prop)(f:α→D)(h:α→Option D):∀(xs:List α) (env:Ev),P env →
 (∀x env,x∈xs→P env→∃env1,g (f x) env=.ok env1∧P env1∧((h x=none∧ft env1=.ok false)∨∃y v,h x=some y∧ft env1=.ok true∧fe env1=.ok v∧v.hold=.ok y)) →
 xr g ft fe (xs.map f) env=.ok (xs.filterMap h)
 |[],env,_,_=>rfl
 | x::xs,env,hp,step=>by
   obtain⟨env1,e1,p1,r⟩:=step x env (by simp) hp;have ih:=wm P f h xs env1 p1 fun x env hx=>step x env (by simp[hx])
   rcases r with⟨h1,h2⟩|⟨y,v,h1,h2,h3,h4⟩
   ·simp only[List.map_cons,xr,e1,zh,h2,List.filterMap_cons,h1];exact ih
   ·simp only[List.map_cons,xr,e1,zh,h2,List.filterMap_cons,h1,if_true,h3,h4,ih]
noncomputable def zJ (l:Int×List Int):D:=.tup [.int l.1,.l (l.2.map .int)]
theorem mx (p q:Int×Int):nN (zd p) (zd q)=decide (p=q):=by
 unfold zd;rw[YA,rJ,rJ,my,sE,sE];obtain⟨a,b⟩:=p;obtain⟨c,d⟩:=q
 by_cases h1:a=c <;> by_cases h2:b=d <;> simp[h1,h2]
theorem aq (p:Int×Int):∀ps:List (Int×Int),(ps.map zd).any (fun z=>nN z (zd p))=decide (p∈ps)
 |[]=>by simp
 | q::ps=>by
   rw[List.map_cons,List.any_cons,aq p ps,mx];by_cases h1:q=p
   ·simp[h1]
   ·have:¬p=q:=fun h=>h1 h.symm;simp[h1,this]
theorem p4 (n:Nat)(p:Int×Int):vE (n+1) (zd p)=true:=by simp[zd]
theorem bZ (l:List D)(i:Int)(n:Nat)(hi:i=n):sV l none (some i)=l.take n:=by
 subst hi;show(l.drop 0).take ((if(n:Int)<0 then((n:Int)+(l.length:Int)).toNat else min (n:Int).toNat l.length) - 0)=l.take n;rw[sal (by lia),Int.toNat_natCast,List.drop_zero,Nat.sub_zero];by_cases h:n≤l.length
 ·rw[Nat.min_eq_left h]
 ·rw[Nat.min_eq_right (by lia),List.take_of_length_le (Nat.le_refl _),List.take_of_length_le (by lia)]
theorem pP (l:List D)(i:Int)(n:Nat)(hi:i=n):sV l (some i) none=l.drop n:=by
 subst hi;show(l.drop (if(n:Int)<0 then((n:Int)+(l.length:Int)).toNat else min (n:Int).toNat l.length)).take (l.length - (if(n:Int)<0 then((n:Int)+(l.length:Int)).toNat else min (n:Int).toNat l.length))=l.drop n;rw[sal (by lia),Int.toNat_natCast,List.take_of_length_le (by rw[List.length_drop];exact Nat.le_refl _)];by_cases h:n≤l.length
 ·rw[Nat.min_eq_left h]
 ·rw[Nat.min_eq_right (by lia),List.drop_of_length_le (Nat.le_refl _),List.drop_of_length_le (by lia)]
noncomputable def zo (ps:List (Int×Int)):List (Int×List Int):=(qN (ps.map (·.1)).eraseDups).map fun x=>(x,qN ((ps.filter fun p=>p.1 == x).map (·.2)))
theorem oM:∀(n:Nat) (l:List Int),l.length≤n→l.eraseDups.length≤l.length
 | 0,l,h=>by
   have:l=[]:=saV (by lia);subst this;simp
 |n+1,[],h=>by simp
 | n+1,a::l,h=>by
   rw[List.eraseDups_cons];have h1:(l.filter fun b=> !b == a).length≤l.length:=sbx _ _;have h2:=oM n (l.filter fun b=> !b == a) (by simp at h;lia);simp only[List.length_cons];lia
theorem rM (ps:List (Int×Int)):(zo ps).length≤ps.length:=by
 unfold zo;rw[sac,(yW _).length_eq];have:=oM _ (ps.map (·.1)) (Nat.le_refl _);simpa using this
theorem V2 (ps:List (Int×Int)):∀l∈zo ps,l.2.length≤ps.length:=by
 intro l hl;unfold zo at hl;obtain⟨x,_,rfl⟩:=saJ.mp hl;show(qN ((ps.filter fun p=>p.1 == x).map (·.2))).length≤_;rw[(yW _).length_eq,sac];exact sbx _ _
noncomputable def jm:FS :=
 zL (zU 2 true (fC (.int 0)))
 (zL (wk (zV (f2 mO (f2 y9 (fC (.int 1)) (f2 yQ (f2 v8 (zf 1) (fC (.int 8))) (fC (.int 62)))) (fB vp (zi (zf 0) (zB)))))
 (zU 2 true (f2 v8 (f2 zT (zf 0) (f2 y9 (fC (.int 1)) (f2 yQ (f2 v8 (zf 1) (fC (.int 8))) (fC (.int 62))))) (f2 Xz (fC (.int 10)) (fC (.int 64)))))
 (wY))
 (zL (vq (rH (zi (f2 yQ (zf 1) (fC (.int 8))) (zB))) (gN 3)
 (zU 2 true (f2 v8 (zf 2) (fC (.int 2147483587)))))
 (yJ (zf 2))))
noncomputable def Tp:Nat→Int→Int
 | 0,c=>c
 |n+1,c=>Tp n (c / 2147483587)
noncomputable def qC (ns:List Int)(k:Int):Int:=Tp (k%8).toNat (if 1+k / 8%62<(ns.length:Int)then ns.getD (1+k / 8%62).toNat 0 / 10^64 else 0)
theorem fV {a b s:Slot}:∀(xs:List D) (c:Int),(∀d∈xs,∃i,d=.int i) →
 ∃s',x4 (gN 3) (zU 2 true (f2 v8 (zf 2) (fC (.int 2147483587)))) xs [a,b,.p (.int c),s]=.ok (.next [a,b,.p (.int (Tp xs.length c)),s']):=by
 intro xs
 induction xs generalizing s with
 |nil=>intro c _;exact⟨s,rfl⟩
 | cons d xs ih=>
   intro c h;obtain⟨i,rfl⟩:=h d (by simp);obtain⟨s',e⟩:=ih (s:=.p (.int i)) (c / 2147483587) fun d hd=>h d (by simp[hd]);refine⟨s',?_⟩;have hc:oC c 2147483587=true:=vk (by decide) (by decide);simp[x4,hc,Tp];simpa using e
noncomputable def u0:List D→Out Val
 |[.scr ns,.int k]=>if 0≤k then .ok (.p (.int (qC ns k)))else .bad
 |_=>.bad
theorem aY:∀ds v,ds.length=2→u0 ds=.ok v→zX 4 jm ds=.ok v:=by
 intro ds v hlen h;clear hlen;unfold u0 at h;split at h
 ·rename_i ns k;split at h
  ·rename_i hk;cases h;have h8:oC k 8=true:=vk (by decide) (by decide);have hr:(-1000000:Int)≤k%8∧k%8≤1000000:=by lia
   have hp:∀(i:Int),oC i 10000000000000000000000000000000000000000000000000000000000000000=true:=fun i=>vk (by decide) (by decide)
   have all:∀d∈uv 0 (k%8).toNat,∃i,d=D.int i:=by
    intro d hd;simp only[uv,saJ]at hd;obtain⟨i,_,rfl⟩:=hd;exact⟨_,rfl⟩
   unfold qC;by_cases hl:1+k / 8%62<(ns.length:Int)
   ·have hn:(1+k / 8%62).toNat<ns.length:=by lia
    obtain⟨s',e⟩:=fV (a:=.p (.scr ns)) (b:=.p (.int k)) (s:=.un) (uv 0 (k%8).toNat) (ns[(1+k / 8%62).toNat] / 10^64) all;have e':=e;simp at e';simp[jm,h8,hl,lS _ _ (show 0≤1+k / 8%62 by lia),sae hn,hp,hr,e']
   ·obtain⟨s',e⟩:=fV (a:=.p (.scr ns)) (b:=.p (.int k)) (s:=.un) (uv 0 (k%8).toNat) 0 all;have e':=e;simp at e';simp[jm,h8,hl,hr,e']
  ·cases h
 ·cases h
noncomputable def dG:FS :=
 zL (zU 2 true (fC (.int 0)))
 (zL (wk (zV (f2 XE (fB vp (zi (zf 0) (zB))) (fC (.int 0))))
 (zU 2 true (f2 zT (zf 0) (fC (.int 0))))
 (wY))
 (zL (wk (vF (zV (f2 nM (f2 yQ (f2 v8 (zf 2) (f2 Xz (fC (.int 10)) (fC (.int 6)))) (fC (.int 2))) (fC (.int 1)))) (zV (f2 oB (zA u0 (zi (zf 0) (zi (zf 1) (zB)))) (fC (.int 0)))))
 (yJ (f2 yQ (zA u0 (zi (zf 0) (zi (zf 1) (zB)))) (fC (.int 2147483587))))
 (wY))
 (zL (wk (zV (f2 XE (fB vp (zi (zf 0) (zB))) (fC (.int 0))))
 (zU 2 true (f2 zT (zf 0) (f2 yQ (zf 1) (fB Yw (zi (fC (.int 63)) (zi (fB vp (zi (zf 0) (zB))) (zB)))))))
 (wY))
 (zL (zU 3 true (f2 y9 (f2 yQ (zf 2) (f2 Xz (fC (.int 10)) (fC (.int 18)))) (f2 pI (fC (.int 48271)) (f2 y9 (zf 1) (fC (.int 1))))))
 (zL (zU 3 true (f2 y9 (f2 yQ (f2 pI (zf 3) (zf 3)) (fC (.int 2147483629))) (f2 pI (fC (.int 69621)) (zf 1))))
 (yJ (f2 yQ (f2 pI (zf 3) (zf 3)) (fC (.int 2147483587)))))))))
noncomputable def uH (ns:List Int):Int:=if 0<ns.length then ns.getD 0 0 else 0
noncomputable def pT (ns:List Int)(k:Int):Int:=if 0<ns.length then ns.getD (k%(min 63 (ns.length:Int))).toNat 0 else 0
noncomputable def o8 (ns:List Int)(k:Int):Int:=pT ns k%10^18+48271*(k+1)
noncomputable def bt (ns:List Int)(k:Int):Int:=o8 ns k*o8 ns k%2147483629+69621*k
noncomputable def zD (ns:List Int)(k:Int):Int :=
 if uH ns / 10^6%2=1∧qC ns k≠0 then qC ns k%2147483587 else bt ns k*bt ns k%2147483587
theorem Vi (ns:List Int)(k:Int):0≤zD ns k:=by
 unfold zD;split
 ·exact sbz _ (by decide)
 ·exact sbz _ (by decide)
noncomputable def yL:List D→Out Val
 |[.scr ns,.int k]=>if 0≤k∧k≤1000000 then .ok (.p (.int (zD ns k)))else .bad
 |_=>.bad
theorem aX:∀ds v,ds.length=2→yL ds=.ok v→zX 4 dG ds=.ok v:=by
 intro ds v hlen h;clear hlen;unfold yL at h;split at h
 ·rename_i ns k;split at h
  ·rename_i hk;cases h;have hk0:=hk.1;have d6:∀i:Int,oC i 1000000=true:=fun i=>vk (by decide) (by decide);have m1:sY 48271 (k+1)=true:=qA (by decide) (by decide);have m2:sY 69621 k=true:=qA (by decide) (by decide);have hx:=sbz (pT ns k) (show(10:Int)^18≠0 by decide);have hy:=sbC (pT ns k) (show(0:Int)<10^18 by decide)
   have e1:0≤o8 ns k∧o8 ns k<2^64:=by
    unfold o8;lia
   have e2:0≤bt ns k∧bt ns k<2^64:=by
    have h1:=sbz (o8 ns k*o8 ns k) (show(2147483629:Int)≠0 by decide);have h2:=sbC (o8 ns k*o8 ns k) (show(0:Int)<2147483629 by decide);unfold bt;lia
   have m3:sY (o8 ns k) (o8 ns k)=true:=qA (by lia) e1.2;have m4:sY (bt ns k) (bt ns k)=true:=qA (by lia) e2.2;have u1:pT ns k%1000000000000000000+48271*(k+1)=o8 ns k:=by unfold o8;rfl
   have u2:o8 ns k*o8 ns k%2147483629+69621*k=bt ns k:=rfl
   have st:∀{env:Ev} {A B:FS} {c:FT} {b:Bool},c env=.ok b→wk c A B env=if b=true then A env else B env:=fun {env A B c b} q=>by simp only[wk,q,zh]
   have tl:∀(c:Int) (s:Slot),zV (f2 XE (fB vp (zi (zf 0) (zB))) (fC (.int 0))) [.p (.scr ns),.p (.int k),.p (.int c),s]=.ok (decide (0<(ns.length:Int))):=fun c s=>by simp
   have s2:wk (zV (f2 XE (fB vp (zi (zf 0) (zB))) (fC (.int 0)))) (zU 2 true (f2 zT (zf 0) (fC (.int 0)))) (wY) [.p (.scr ns),.p (.int k),.p (.int 0),.un]=.ok (.next [.p (.scr ns),.p (.int k),.p (.int (uH ns)),.un]):=by
    rw[st (tl _ _)];by_cases hn:0<ns.length
    ·have a0:sZ ns 0=some (uH ns):=by
      rw[lS _ _ (by decide)];show ns[0]?=_;unfold uH;rw[sak hn,List.getD_eq_getElem?_getD,sae hn];rfl
     rw[sap (by lia:(0:Int)<ns.length),sak rfl]
     have:f2 zT (zf 0) (fC (.int 0)) [.p (.scr ns),.p (.int k),.p (.int 0),.un]=.ok (.p (.int (uH ns))):=by
      show zT (.scr ns) (.int 0)=_;simp only[zT,a0]
     simp only[zU,this,zh];rfl
    ·rw[saB (by lia:¬(0:Int)<ns.length),sal sai];unfold uH;rw[sal hn];rfl
   have s4:wk (zV (f2 XE (fB vp (zi (zf 0) (zB))) (fC (.int 0)))) (zU 2 true (f2 zT (zf 0) (f2 yQ (zf 1) (fB Yw (zi (fC (.int 63)) (zi (fB vp (zi (zf 0) (zB))) (zB))))))) (wY) [.p (.scr ns),.p (.int k),.p (.int (uH ns)),.un]=.ok (.next [.p (.scr ns),.p (.int k),.p (.int (pT ns k)),.un]):=by
    rw[st (tl _ _)];by_cases hn:0<ns.length
    ·have hmin:(if(ns.length:Int)<63 then(ns.length:Int)else 63)=min 63 (ns.length:Int):=by
      rw[Int.min_def];split <;> split <;> lia
     have hmp:0<min 63 (ns.length:Int):=by lia
     have hq0:0≤k%min 63 (ns.length:Int):=sbz _ (by lia);have hq1:k%min 63 (ns.length:Int)<min 63 (ns.length:Int):=sbC _ hmp;have hq2:(k%min 63 (ns.length:Int)).toNat<ns.length:=by lia
     have ak:sZ ns (k%min 63 (ns.length:Int))=some (pT ns k):=by
      rw[lS _ _ hq0];unfold pT;rw[sak hn,List.getD_eq_getElem?_getD,sae hq2];rfl
     rw[sap (by lia:(0:Int)<ns.length),sak rfl];simp[hmin,hmp,ak]
    ·rw[saB (by lia:¬(0:Int)<ns.length),sal sai];unfold uH pT;rw[sal hn,sal hn];rfl
   have hbl:zA u0 (zi (zf 0) (zi (zf 1) (zB))) [.p (.scr ns),.p (.int k),.p (.int (uH ns)),.un]=.ok (.p (.int (qC ns k))):=by simp[u0,hk0]
   have t3:vF (zV (f2 nM (f2 yQ (f2 v8 (zf 2) (f2 Xz (fC (.int 10)) (fC (.int 6)))) (fC (.int 2))) (fC (.int 1)))) (zV (f2 oB (zA u0 (zi (zf 0) (zi (zf 1) (zB)))) (fC (.int 0)))) [.p (.scr ns),.p (.int k),.p (.int (uH ns)),.un]=.ok (decide (uH ns / 10^6%2=1∧qC ns k≠0)):=by
    have c1:zV (f2 nM (f2 yQ (f2 v8 (zf 2) (f2 Xz (fC (.int 10)) (fC (.int 6)))) (fC (.int 2))) (fC (.int 1))) [.p (.scr ns),.p (.int k),.p (.int (uH ns)),.un]=.ok (decide (uH ns / 10^6%2=1)):=by
     simp[d6];rfl
    have c2:zV (f2 oB (zA u0 (zi (zf 0) (zi (zf 1) (zB)))) (fC (.int 0))) [.p (.scr ns),.p (.int k),.p (.int (uH ns)),.un]=.ok (decide (qC ns k≠0)):=by
     simp only[zV,f2,hbl,zh,fC,Val.d]
     by_cases z:qC ns k=0 <;> simp[z]
    simp only[vF,c1,c2,zh];by_cases z:uH ns / 10^6%2=1
    ·rw[sap z,sak rfl];exact congrArg Out.ok (decide_eq_decide.mpr ⟨fun q=>⟨z,q⟩,fun q=>q.2⟩)
    ·rw[saB z,sal sai,saB (fun q=>z q.1)]
   have sn:∀{A B:FS} {env env':Ev},A env=.ok (.next env')→zL A B env=B env':=fun {A B env env'} q=>by simp only[zL,q,zh]
   unfold dG zD;show(((zL _ _:FS) [.p (.scr ns),.p (.int k),.un,.un]).bind _)=_;rw[sn (env':=[.p (.scr ns),.p (.int k),.p (.int 0),.un]) rfl,sn s2];by_cases hc:uH ns / 10^6%2=1∧qC ns k≠0
   ·rw[sap hc]at t3;rw[sak hc,zL,st t3,sak rfl];simp only[yJ,f2,hbl,zh,fC,Val.d];rfl
   ·rw[saB hc]at t3
    rw[sal hc,sn (env':=[.p (.scr ns),.p (.int k),.p (.int (uH ns)),.un]) (by
     rw[st t3,sal sai]
     rfl),sn s4]
    simp[m1,m2,u1,m3,u2,m4]
  ·cases h
 ·cases h
noncomputable def Zv:FS :=
 zL (zU 1 true (zA yL (zi (zf 0) (zi (fC (.int 0)) (zB)))))
 (zL (zU 2 true (f2 zT (xV (zK (f2 yQ (zf 1) (fC (.int 7))) (zK (f2 yQ (zf 1) (fC (.int 7))) (zK (fC (.int 12)) (yj))))) (f2 yQ (f2 v8 (f2 yQ (f2 v8 (zf 1) (fC (.int 7))) (fC (.int 8))) (fC (.int 3))) (fC (.int 3)))))
 (zL (zU 3 false (xV (yj)))
 (zL (vq (rH (zi (zf 2) (zB))) (gN 4)
 (zL (zU 1 true (zA yL (zi (zf 0) (zi (f2 y9 (fC (.int 1)) (zf 4)) (zB)))))
 (zL (zU 5 true (uC (zK (f2 pI (fC (.int 2)) (f2 yQ (zf 1) (fC (.int 5)))) (zK (f2 yQ (f2 v8 (zf 1) (fC (.int 5))) (fC (.int 7))) (yj)))))
 (wk (zV (f2 XA (zf 5) (zf 3)))
 (qY 3 (zf 5))
 (wY)))))
 (yJ (zf 3)))))
noncomputable def vL (ns:List Int)(k:Nat):Int×Int:=(2*(zD ns (1+k)%5),zD ns (1+k) / 5%7)
noncomputable def vM (ns:List Int):Int:=if zD ns 0 / 7%8 / 3%3=2 then 12 else zD ns 0%7
noncomputable def zY (ns:List Int):Nat→List (Int×Int)
 | 0=>[]
 |n+1=>if vL ns n∈zY ns n then zY ns n else zY ns n++[vL ns n]
noncomputable def xI (ns:List Int):List (Int×Int):=zY ns (vM ns).toNat
theorem dm (ns:List Int):0≤vM ns∧vM ns≤12:=by
 unfold vM
 split <;> lia
theorem n9 (ns:List Int):∀n,(zY ns n).length≤n
 | 0=>Nat.le_refl _
 | n+1=>by
   have:=n9 ns n;unfold zY;split
   ·lia
   ·simp;lia
theorem oX (ns:List Int):∀n,(zY ns n).Nodup
 | 0=>List.nodup_nil
 | n+1=>by
   unfold zY;split
   ·exact oX ns n
   ·rename_i h;rw[sbT];refine⟨oX ns n,by simp,fun a ha b hb=>?_⟩;have:b=vL ns n:=by simpa using hb
    subst this;rintro rfl;exact h ha
theorem bj (ns:List Int)(k:Nat):(∃i:Int,(vL ns k).1=2*i∧0≤i∧i≤4)∧0≤(vL ns k).2∧(vL ns k).2≤6:=by
 unfold vL;refine⟨⟨zD ns (1+k)%5,rfl,by lia,by lia⟩,by lia,by lia⟩
theorem r9 (ns:List Int):∀n,∀p∈zY ns n,(∃i:Int,p.1=2*i∧0≤i∧i≤4)∧0≤p.2∧p.2≤6
 | 0,p,h=>by simp[zY]at h
 | n+1,p,h=>by
   unfold zY at h;split at h
   ·exact r9 ns n p h
   ·rcases sas.mp h with h|h
    ·exact r9 ns n p h
    ·have:p=vL ns n:=by simpa using h
     rw[this];exact bj ns n
noncomputable def dj:List D→Out Val
 |[.scr ns]=>.ok (.fresh ((xI ns).map zd))
 |_=>.bad
theorem Xi:∀ds v,ds.length=1→dj ds=.ok v→zX 6 Zv ds=.ok v:=by
 intro ds v hlen h;clear hlen;unfold dj at h;split at h
 ·rename_i ns;cases h;have hm0:=Vi ns 0;have d7:oC (zD ns 0) 7=true:=vk (by decide) (by decide);have d3:oC (zD ns 0 / 7%8) 3=true:=vk (by decide) (by decide);have hmany:=dm ns
  have hat:sZ [D.int (zD ns 0%7),D.int (zD ns 0%7),D.int 12] (zD ns 0 / 7%8 / 3%3)=some (.int (vM ns)):=by
   rw[lS _ _ (by lia)];unfold vM;have:zD ns 0 / 7%8 / 3%3=0∨zD ns 0 / 7%8 / 3%3=1∨zD ns 0 / 7%8 / 3%3=2:=by lia
   rcases this with h|h|h <;> rw[h] <;> rfl
  have hr:(-1000000:Int)≤vM ns∧vM ns≤1000000:=by lia
  have loop:=iG (g:=gN 4) (fb:=zL (zU 1 true (zA yL (zi (zf 0) (zi (f2 y9 (fC (.int 1)) (zf 4)) (zB)))))
 (zL (zU 5 true (uC (zK (f2 pI (fC (.int 2)) (f2 yQ (zf 1) (fC (.int 5)))) (zK (f2 yQ (f2 v8 (zf 1) (fC (.int 5))) (fC (.int 7))) (yj)))))
 (wk (zV (f2 XA (zf 5) (zf 3)))
 (qY 3 (zf 5))
 (wY)))) (fun i env=>∃s1 s2 s4 s5,env=[.p (.scr ns),s1,s2,.own ((zY ns i).map zd),s4,s5]) (uv 0 (vM ns).toNat) 0
   [.p (.scr ns),.p (.int (zD ns 0)),.p (.int (vM ns)),.own [],.un,.un] ⟨_,_,_,_,rfl⟩ (fun j d env _ hd ⟨s1,s2,s4,s5,he⟩=>by
    subst he;obtain⟨hj,rfl⟩:=Z8 hd;simp only[Nat.sub_zero]at hj ⊢;have hk:(0:Int)≤1+(j:Int)∧1+(j:Int)≤1000000:=by lia
    have c2:sY 2 (zD ns (1+(j:Int))%5)=true:=qA (by decide) (by decide);have d5:oC (zD ns (1+(j:Int))) 5=true:=vk (by decide) (by decide);have hs:vE 4 (.tup [.int (2*(zD ns (1+(j:Int))%5)),.int (zD ns (1+(j:Int)) / 5%7)])=true:=by simp
    have ha:((zY ns j).map zd).any (fun z=>nN z (.tup [.int (2*(zD ns (1+(j:Int))%5)),.int (zD ns (1+(j:Int)) / 5%7)]))=decide (vL ns j∈zY ns j):=aq (vL ns j) _;have hl:=n9 ns j;have hl2:(zY ns j).length<100000:=by lia
    have sn:∀{A B:FS} {env env':Ev},A env=.ok (.next env')→zL A B env=B env':=fun {A B env env'} q=>by simp only[zL,q,zh]
    have b1:zU 1 true (zA yL (zi (zf 0) (zi (f2 y9 (fC (.int 1)) (zf 4)) (zB)))) [.p (.scr ns),s1,s2,.own ((zY ns j).map zd),.p (.int j),s5]=.ok (.next [.p (.scr ns),.p (.int (zD ns (1+(j:Int)))),s2,.own ((zY ns j).map zd),.p (.int j),s5]):=by
     have:zA yL (zi (zf 0) (zi (f2 y9 (fC (.int 1)) (zf 4)) (zB))) [.p (.scr ns),s1,s2,.own ((zY ns j).map zd),.p (.int j),s5]=.ok (.p (.int (zD ns (1+(j:Int))))):=by
      show((if 0≤1+(j:Int)∧1+(j:Int)≤1000000 then Out.ok (Val.p (.int (zD ns (1+(j:Int)))))else Out.bad).bind _)=_;rw[sak hk];rfl
     simp only[zU,this,zh];rfl
    have b2:zU 5 true (uC (zK (f2 pI (fC (.int 2)) (f2 yQ (zf 1) (fC (.int 5)))) (zK (f2 yQ (f2 v8 (zf 1) (fC (.int 5))) (fC (.int 7))) (yj)))) [.p (.scr ns),.p (.int (zD ns (1+(j:Int)))),s2,.own ((zY ns j).map zd),.p (.int j),s5]=.ok (.next [.p (.scr ns),.p (.int (zD ns (1+(j:Int)))),s2,.own ((zY ns j).map zd),.p (.int j),.p (zd (vL ns j))]):=by
     simp[c2,d5,zd,vL]
    have b3:zV (f2 XA (zf 5) (zf 3)) [.p (.scr ns),.p (.int (zD ns (1+(j:Int)))),s2,.own ((zY ns j).map zd),.p (.int j),.p (zd (vL ns j))]=.ok (!decide (vL ns j∈zY ns j)):=by
     rw[←ha];simp[-List.any_map,zd,vL]
    by_cases hin:vL ns j∈zY ns j
    ·rw[sap hin]at b3;refine⟨_,[.p (.scr ns),.p (.int (zD ns (1+(j:Int)))),s2,.own ((zY ns j).map zd),.p (.int j),.p (zd (vL ns j))],rfl,?_,⟨_,_,_,_,by rw[zY,sak hin]⟩⟩;rw[Int.zero_add];show(zL _ _:FS) [.p (.scr ns),s1,s2,.own ((zY ns j).map zd),.p (.int j),s5]=_;rw[sn b1,sn b2];simp only[wk,b3,zh];rfl
    ·rw[saB hin]at b3;refine⟨_,[.p (.scr ns),.p (.int (zD ns (1+(j:Int)))),s2,.own ((zY ns j++[vL ns j]).map zd),.p (.int j),.p (zd (vL ns j))],rfl,?_,⟨_,_,_,_,by rw[zY,sal hin]⟩⟩;rw[Int.zero_add];show(zL _ _:FS) [.p (.scr ns),s1,s2,.own ((zY ns j).map zd),.p (.int j),s5]=_;rw[sn b1,sn b2];simp only[wk,b3,zh]
     simp[hl2])
  obtain⟨env',e,s1,s2,s4,s5,he⟩:=loop;subst he;simp only[Z7,scy]at e;have sn:∀{A B:FS} {env env':Ev},A env=.ok (.next env')→zL A B env=B env':=fun {A B env env'} q=>by simp only[zL,q,zh]
  have ix:f2 yQ (f2 v8 (f2 yQ (f2 v8 (zf 1) (fC (.int 7))) (fC (.int 8))) (fC (.int 3))) (fC (.int 3)) [.p (.scr ns),.p (.int (zD ns 0)),.un,.un,.un,.un]=.ok (.p (.int (zD ns 0 / 7%8 / 3%3))):=by simp[d7,d3]
  have pk:f2 zT (xV (zK (f2 yQ (zf 1) (fC (.int 7))) (zK (f2 yQ (zf 1) (fC (.int 7))) (zK (fC (.int 12)) (yj))))) (f2 yQ (f2 v8 (f2 yQ (f2 v8 (zf 1) (fC (.int 7))) (fC (.int 8))) (fC (.int 3))) (fC (.int 3))) [.p (.scr ns),.p (.int (zD ns 0)),.un,.un,.un,.un]=.ok (.p (.int (vM ns))):=by
   have l:xV (zK (f2 yQ (zf 1) (fC (.int 7))) (zK (f2 yQ (zf 1) (fC (.int 7))) (zK (fC (.int 12)) (yj)))) [.p (.scr ns),.p (.int (zD ns 0)),.un,.un,.un,.un]=.ok (.fresh [.int (zD ns 0%7),.int (zD ns 0%7),.int 12]):=rfl;show((xV (zK (f2 yQ (zf 1) (fC (.int 7))) (zK (f2 yQ (zf 1) (fC (.int 7))) (zK (fC (.int 12)) (yj)))) [.p (.scr ns),.p (.int (zD ns 0)),.un,.un,.un,.un]).bind _)=_;rw[l,zh,ix,zh];simp only[zT,Val.d,hat]
  have rg:rH (zi (zf 2) (zB)) [.p (.scr ns),.p (.int (zD ns 0)),.p (.int (vM ns)),.own [],.un,.un]=.ok (uv 0 (vM ns).toNat):=by
   show(if -1000000≤vM ns∧vM ns≤1000000 then _ else _)=_;rw[sak hr]
  unfold Zv;show(((zL _ _:FS) [.p (.scr ns),.un,.un,.un,.un,.un]).bind _)=_;rw[sn (env':=[.p (.scr ns),.p (.int (zD ns 0)),.un,.un,.un,.un]) rfl]
  rw[sn (env':=[.p (.scr ns),.p (.int (zD ns 0)),.p (.int (vM ns)),.un,.un,.un]) (by
   simp only[zU,pk,zh]
   rfl)]
  rw[sn (env':=[.p (.scr ns),.p (.int (zD ns 0)),.p (.int (vM ns)),.own [],.un,.un]) rfl]
  rw[sn (by
   simp only[vq,rg,zh]
   exact e)]
  rfl
 ·cases h
structure Ga where
 x:Int
 lo:Option Int
 hi:Option Int
 w:Int
deriving DecidableEq
noncomputable def wb:Option Int→D
 |none=>.non
 |some i=>.int i
noncomputable def zl (g:Ga):D:=.tup [.int g.x,wb g.lo,wb g.hi,.int g.w]
theorem VM (a b:Option Int):nN (wb a) (wb b)=decide (a=b):=by
 cases a with
 |none=>cases b <;> simp[wb]
 | some i=>
   cases b with
   |none=>simp[wb]
   |some j=>by_cases h:i=j <;> simp[wb,h]
theorem jJ (n:Nat)(a:Option Int):vE n (wb a)=true:=by cases a <;> simp[wb]
noncomputable def aj:D→Option (Option Int)
 | .non=>some none
 | .int i=>some (some i)
 |_=>none
noncomputable def nI:D→Option Ga
 | .tup [.int x,lo,hi,.int w]=>match aj lo,aj hi with
   |some l,some h=>some ⟨x,l,h,w⟩
   |_,_=>none
 |_=>none
theorem X8 (a:Option Int):aj (wb a)=some a:=by cases a <;> rfl
theorem ai {d:D}{a:Option Int}(h:aj d=some a):d=wb a:=by
 unfold aj at h;split at h
 ·cases h;rfl
 ·cases h;rfl
 ·cases h
theorem kF (g:Ga):nI (zl g)=some g:=by
 simp[nI,zl,X8]
theorem lU {d:D}{g:Ga}(h:nI d=some g):d=zl g:=by
 unfold nI at h;split at h
 ·split at h
  ·rename_i h1 h2;cases h;rw[ai h1,ai h2];rfl
  ·cases h
 ·cases h
noncomputable def oq:List D→Option (List Ga)
 |[]=>some []
 | d::ds=>match nI d,oq ds with
   |some g,some gs=>some (g::gs)
   |_,_=>none
theorem kE:∀gs:List Ga,oq (gs.map zl)=some gs
 |[]=>rfl
 |g::gs=>by simp[oq,kF,kE gs]
theorem i6:∀{ds:List D} {gs:List Ga},oq ds=some gs→ds=gs.map zl
 |[],gs,h=>by cases h;rfl
 | d::ds,gs,h=>by
   unfold oq at h;split at h
   ·rename_i g gs' h1 h2;cases h;rw[lU h1,i6 h2];rfl
   ·cases h
noncomputable def X_ (g h:Ga):Bool:=decide (g.x=h.x∧g.lo=h.lo∧g.hi=h.hi) && !decide (g.w=h.w)
noncomputable def t_ (st:List Ga)(g:Ga):List Ga:=match st.getLast? with
 |some t=>if X_ t g=true then st.dropLast else st++[g]
 |none=>st++[g]
noncomputable def wX (gs:List Ga):List Ga:=gs.foldl t_ []
theorem g_ (st:List Ga)(g:Ga):(t_ st g).length≤st.length+1:=by
 unfold t_;split
 ·split <;> simp
  lia
 ·simp
theorem zq {f g:FS}{env env':Ev}(h:f env=.ok (.next env')):zL f g env=g env':=by
 simp only[zL,h,zh]
theorem uY {f g:FS}{env:Ev}{v:Val}(h:f env=.ok (.ret v)):zL f g env=.ok (.ret v):=by
 simp only[zL,h,zh]
theorem WK:¬(HT.sIx 4 0 none=0∧HT.sIx 4 4 (some 3)=4):=by decide
theorem Py (g h:Ga):nN (.tup [.int g.x,wb g.lo,wb g.hi]) (.tup [.int h.x,wb h.lo,wb h.hi])=decide (g.x=h.x∧g.lo=h.lo∧g.hi=h.hi):=by
 rw[YA,rJ,rJ,rJ,my,sE,VM,VM]
 by_cases h1:g.x=h.x <;> by_cases h2:g.lo=h.lo <;> by_cases h3:g.hi=h.hi <;> simp[h1,h2,h3]
theorem Rt (a b c d:D):sV [a,b,c,d] none (some 3)=[a,b,c]:=rfl
noncomputable def PP (n:Nat):Int→List Ga→Prop
 |h,[]=>0≤h∧h≤n
 |h,g::gs=>0≤h∧h≤n∧PP n (h+g.w) gs
noncomputable def PL (g:Ga):Prop:=g.w=1∨g.w = -1
theorem U0 (ns:List Int):(met ns).Sublist ns:=by
 refine dk (fun ns=>(met ns).Sublist ns) (List.Sublist.refl _) (fun l k ih=>?_) ns;rw[mi];split
 ·exact ih.trans (List.sublist_append_left l [k])
 ·exact ih.append (List.Sublist.refl _)
theorem Zn (qs:List (Int×Int)):v7 qs=(met (qs.map (·.1))).map fun x=>(x,(qs.filter fun p=>p.1 == x).map (·.2)):=by
 have ind:∀(n:Nat) (qs:List (Int×Int)),qs.length=n→v7 qs=(met (qs.map (·.1))).map fun x=>(x,(qs.filter fun p=>p.1 == x).map (·.2)):=by
  intro n
  induction n with
  |zero=>intro qs h;rw[saV h];rfl
  | succ n ih=>
    intro qs h
    rcases List.eq_nil_or_concat qs with e|⟨m,p,e⟩
    ·subst e;simp at h
    ·have e':qs=m++[p]:=by simpa using e
     subst e';have ihm:=ih m (by simpa using h);rw[kq,ihm,saY,List.map_cons,List.map_nil,mi]
     have hany:((met (m.map (·.1))).map fun x=>((x,(m.filter fun p=>p.1 == x).map (·.2)):TM)).any (fun g=>decide (g.1=p.1))=decide (p.1∈met (m.map (·.1))):=by
      rw[List.any_map];by_cases hp:p.1∈met (m.map (·.1))
      ·rw[sap hp,saW];exact⟨p.1,hp,by simp⟩
      ·rw[saB hp,scj];intro x hx;simp only[Function.comp,saD];intro z;exact hp (z ▸ hx)
     unfold gO;rw[hany];by_cases hp:p.1∈met (m.map (·.1))
     ·rw[sak (sap hp),sak hp,sbj];refine sbe fun x _=>?_;simp only[Function.comp,List.filter_append,saY];by_cases hx:x=p.1
      ·subst hx;simp
      ·have hx':¬p.1=x:=fun z=>hx z.symm;simp[hx,hx']
     ·rw[sal (by simp[hp]),sal hp,saY];congr 1
      ·refine sbe fun x hx=>?_;have hx':¬p.1=x:=fun z=>hp (z ▸ hx);simp[List.filter_append,hx']
      ·have hm:m.filter (fun q=>q.1 == p.1)=[]:=by
        rw[List.filter_eq_nil_iff];intro q hq;simp only[beq_iff_eq];intro z;exact hp ((Ym _ _).mpr (saJ.mpr ⟨q,hq,z⟩))
       simp[List.filter_append,hm]
 exact ind _ qs rfl
theorem dD {ps:List (Int×Int)}(hn:ps.Nodup):v7 (vX ps)=zo ps:=by
 have hs:=rZ hn;have hp:=tK ps;rw[Zn];unfold zo
 have e1:met ((vX ps).map (·.1))=qN (ps.map (·.1)).eraseDups:=by
  refine sN (List.Perm.trans ?_ (yW _).symm) ?_ (wR _)
  ·rw[List.perm_ext_iff_of_nodup (Xm _) (uO _ _ (Nat.le_refl _))];intro k;rw[Ym,scz];exact(hp.map (·.1)).mem_iff
  ·refine List.Pairwise.sublist (U0 _) ?_;rw[sbw];refine hs.imp fun {a b} h=>?_;simp only[oY,saD]at h;lia
 rw[e1];refine sbe fun x _=>?_;refine congrArg (Prod.mk x) (sN (List.Perm.trans ((hp.filter _).map _) (yW _).symm) ?_ (wR _));rw[sbw];refine List.Pairwise.imp_of_mem ?_ (hs.filter _);intro a b ha hb h;have h1:a.1=x:=by simpa using(saI.mp ha).2
 have h2:b.1=x:=by simpa using(saI.mp hb).2
 simp only[oY,saD]at h;lia
theorem o9:∀{ks:List (List Int)},ks.Nodup→wZ ks=ks:=by
 intro ks
 have ind:∀(n:Nat) (ks:List (List Int)),ks.length=n→ks.Nodup→wZ ks=ks:=by
  intro n
  induction n with
  |zero=>intro ks h _;rw[saV h];rfl
  | succ n ih=>
    intro ks h hn
    rcases List.eq_nil_or_concat ks with e|⟨m,k,e⟩
    ·subst e;simp at h
    ·have e':ks=m++[k]:=by simpa using e
     subst e';rw[sbT]at hn;rw[lr,ih m (by simpa using h) hn.1,sal];intro hk;exact hn.2.2 k hk k (by simp) rfl
 exact ind _ ks rfl
theorem jW {ps:List (Int×Int)}(hn:ps.Nodup):(ps.map r8).Nodup:=by
 rw[sbZ,sbw];refine(sbZ.mp hn).imp fun {a b} h z=>h ?_;simp only[r8,List.cons.injEq,and_true]at z;obtain⟨a1,a2⟩:=a;obtain⟨b1,b2⟩:=b
 simp_all
noncomputable abbrev zk:=Int×Int
noncomputable abbrev x8:=Int×List Int
noncomputable def near (a b:zk):Prop := -(2^64)<b.1 - a.1∧b.1 - a.1<2^64
noncomputable def xj (a b:zk)(x:Int):Bool:=(decide (a.1<x)&&decide (x<b.1)) ||(decide (b.1<x)&&decide (x<a.1))
noncomputable def kL (a b p:zk):Bool:=decide ((b.2 - a.2)*(p.1 - a.1)=(p.2 - a.2)*(b.1 - a.1))
noncomputable def vo (a b:zk)(ps:List zk):Bool:=ps.any fun p=>xj a b p.1&&kL a b p
theorem cf {a b:zk}{x:Int}(h:xj a b x=true)(n:near a b) : -(2^64)<x - a.1∧x - a.1<2^64:=by
 unfold xj at h;unfold near at n;simp only[sbX,saS,saD]at h;lia
theorem YQ (p:zk):sZ [D.int p.1,D.int p.2] 0=some (.int p.1):=rfl
theorem Rz (p:zk):sZ [D.int p.1,D.int p.2] 1=some (.int p.2):=rfl
noncomputable def uU (a:zk)(ps:List zk):Nat→zk→zk
 | 0,c=>c
 |n+1,c=>if vo a c ps=true then uU a ps n (c.1,c.2+1)else c
theorem Vn (a:zk)(ps:List zk):∀n c,(uU a ps n c).1=c.1
 | 0,c=>rfl
 | n+1,c=>by
   unfold uU;split
   ·rw[Vn a ps n]
   ·rfl
theorem few {α β:Type}(f:α→β→Bool)(uniq:∀p j k,f p j=true→f p k=true→j=k):∀(ps:List α) (js:List β),js.Nodup→(∀j∈js,∃p∈ps,f p j=true)→js.length≤ps.length
 |[],[],_,_=>Nat.le_refl _
 |[],j::js,_,h=>by obtain⟨p,hp,_⟩:=h j (by simp);cases hp
 | p::ps,js,hn,h=>by
   have h1:(js.filter fun j=>f p j).length≤1:=by
    have hn1:(js.filter fun j=>f p j).Nodup:=hn.sublist List.filter_sublist
    match q:js.filter fun j=>f p j with
    |[]=>simp
    |[_]=>simp
    | j::k::r=>
      exfalso;have hj:f p j=true:=(saI.mp (q ▸ saw:j∈js.filter fun j=>f p j)).2;have hk:f p k=true:=(saI.mp (q ▸ sao _ saw:k∈js.filter fun j=>f p j)).2;rw[q]at hn1;have:=uniq p j k hj hk;subst this;simp at hn1
   have h2:(js.filter fun j=> !f p j).length≤ps.length:=few f uniq ps _ (hn.sublist List.filter_sublist) fun j hj=>by
    obtain⟨hj1,hj2⟩:=saI.mp hj;obtain⟨q,hq,hf⟩:=h j hj1
    rcases san.mp hq with rfl|hq
    ·rw[hf]at hj2;cases hj2
    ·exact⟨q,hq,hf⟩
   have h3:js.length=(js.filter fun j=>f p j).length+(js.filter fun j=> !f p j).length:=by
    clear h hn h1 h2
    induction js with
    |nil=>rfl
    | cons j js ih=>
      cases hf:f p j <;> simp[hf,ih] <;> lia
   rw[List.length_cons];lia
theorem Xe {a c p:zk}(hp:p.1≠a.1){i j:Int}(h1:kL a (c.1,i) p=true)(h2:kL a (c.1,j) p=true):i=j:=by
 unfold kL at h1 h2;have e1:=scC h1;have e2:=scC h2;simp only at e1 e2;have e3:(i - a.2)*(p.1 - a.1)=(j - a.2)*(p.1 - a.1):=by rw[e1,e2]
 have e4:=Int.eq_of_mul_eq_mul_right (by lia) e3;lia
theorem ZI {a b:zk}{x:Int}(h:xj a b x=true):x≠a.1:=by
 unfold xj at h;simp only[sbX,saS,saD]at h;lia
theorem fF (a:zk)(ps:List zk):∀(n:Nat) (c:zk),ps.length≤n→vo a (uU a ps n c) ps=false:=by
 have key:∀(n:Nat) (c:zk),vo a (uU a ps n c) ps=true→∀j:Nat,j≤n→vo a (c.1,c.2+j) ps=true:=by
  intro n
  induction n with
  | zero=>
    intro c h j hj;have:j=0:=by lia
    subst this;simpa[uU]using h
  | succ n ih=>
    intro c h j hj;unfold uU at h;by_cases hc:vo a c ps=true
    ·rw[sak hc]at h
     cases j with
     |zero=>simpa using hc
     | succ j=>
       have:=ih (c.1,c.2+1) h j (by lia);have e:c.2+1+(j:Int)=c.2+((j+1:Nat):Int):=by lia
       simpa[e]using this
    ·rw[sal hc]at h;exact absurd h hc
 intro n c hn
 cases q:vo a (uU a ps n c) ps with
 |false=>rfl
 | true=>
   exfalso;have hk:=key n c q
   have:=few (fun(p:zk) (j:Nat)=>xj a c p.1&&kL a (c.1,c.2+j) p) (fun p j k h1 h2=>by
    simp only[saS]at h1 h2;have:=Xe (ZI h1.1) h1.2 h2.2
    lia) ps (List.range (n+1)) List.nodup_range (fun j hj=>by
    have h1:=hk j (by have:=sba.mp hj;lia);unfold vo at h1;obtain⟨p,hp,h2⟩:=saW.mp h1
    exact⟨p,hp,h2⟩)
   rw[sbS]at this;lia
noncomputable def ye (l:List zk):zk:=l.getLastD (0,0)
noncomputable def vh (m:Int):zk:=(2*(m%6) - 1,m / 6%9 - 1)
noncomputable def sH (ns:List Int)(zy:Int)(ps:List zk)(k:Nat)(got:List zk):zk :=
 if k=0 then vh (zD ns (zy+k))else
  uU (ye got) ps 12 (if zD ns (zy+k) / 54%6=1 then ye got else vh (zD ns (zy+k)))
noncomputable def zN (ns:List Int)(zy:Int)(ps:List zk):Nat→List zk
 | 0=>[]
 |k+1=>zN ns zy ps k++[sH ns zy ps k (zN ns zy ps k)]
theorem rz (ns:List Int)(zy:Int)(ps:List zk):∀k,(zN ns zy ps k).length=k
 | 0=>rfl
 |k+1=>by unfold zN;simp[rz ns zy ps k]
noncomputable def gf (c:zk):Prop:=∃i:Int,c.1=2*i - 1∧0≤i∧i≤5
theorem pS (m:Int):gf (vh m):=⟨m%6,rfl,by lia,by lia⟩
theorem pA (ns:List Int)(zy:Int)(ps:List zk):∀k,∀c∈zN ns zy ps k,gf c
 | 0,c,h=>by cases h
 | k+1,c,h=>by
   unfold zN at h
   rcases sas.mp h with h|h
   ·exact pA ns zy ps k c h
   ·rw[saf]at h;subst h;unfold sH;split
    ·exact pS _
    ·unfold gf;rw[Vn];split
     ·rename_i hk _;have hne:zN ns zy ps k≠[]:=fun z=>hk (by rw[←rz ns zy ps k,z];rfl);unfold ye;rw[saC,saK hne,Option.getD_some];exact pA ns zy ps k _ (scF hne)
     ·exact pS _
noncomputable def zW (l:List zk):List (zk×zk):=l.zip l.tail
theorem kC:∀(l:List zk) (c:zk),l≠[]→zW (l++[c])=zW l++[(ye l,c)]
 |[],c,h=>absurd rfl h
 |[a],c,_=>rfl
 | a::b::l,c,_=>by
   have ih:=kC (b::l) c (by simp);unfold zW ye at ih ⊢;simp only[List.cons_append,List.tail_cons,List.zip_cons_cons,List.getLastD_cons]at ih ⊢;rw[ih]
theorem rD {l:List zk}(h:l≠[]):ye l∈l:=by
 unfold ye;rw[saC,saK h,Option.getD_some];exact scF h
theorem fv (ns:List Int)(zy:Int)(ps:List zk)(hp:ps.length≤12):∀k,∀q∈zW (zN ns zy ps k),vo q.1 q.2 ps=false
 | 0,q,h=>by cases h
 | k+1,q,h=>by
   unfold zN at h;by_cases hk:k=0
   ·subst hk;simp[zN,zW]at h
   ·have hne:zN ns zy ps k≠[]:=fun z=>hk (by rw[←rz ns zy ps k,z];rfl);rw[kC _ _ hne]at h
    rcases sas.mp h with h|h
    ·exact fv ns zy ps hp k q h
    ·rw[saf]at h;subst h;show vo _ (sH ns zy ps k _) ps=false;unfold sH;rw[sal hk];exact fF _ ps 12 _ hp
theorem Xg {a b:zk}(ha:gf a)(hb:gf b):near a b:=by
 obtain⟨i,h1,h2,h3⟩:=ha;obtain⟨j,k1,k2,k3⟩:=hb;unfold near;lia
noncomputable def zS (q:zk×zk):D:=.tup [zd q.1,zd q.2]
noncomputable def nQ (a b p:zk):Int:=(b.1 - a.1)*(p.2 - a.2) - (b.2 - a.2)*(p.1 - a.1)
noncomputable def z9 (a b p:zk):Int:=if 0<b.1 - a.1 then nQ a b p else -nQ a b p
noncomputable def yl (B:List x8)(a b:zk):List x8 :=
 if a.1<b.1 then B.filter fun l=>decide (a.1<l.1)&&decide (l.1<b.1)else B.reverse.filter fun l=>decide (b.1<l.1)&&decide (l.1<a.1)
theorem mD {B:List x8}{a b:zk}{l:x8}(h:l∈yl B a b)(n:near a b) : -(2^64)<l.1 - a.1∧l.1 - a.1<2^64:=by
 unfold yl at h;unfold near at n;split at h
 ·have:=(saI.mp h).2;simp at this;lia
 ·have:=(saI.mp h).2;simp at this;lia
theorem pR (B:List x8)(a b:zk):(yl B a b).length≤B.length:=by
 unfold yl;split
 ·exact sbx _ _
 ·have:=sbx (fun l:x8=>decide (b.1<l.1)&&decide (l.1<a.1)) B.reverse;rw[scq]at this;exact this
theorem vC {B:List x8}{a b:zk}{l:x8}(h:l∈yl B a b):l∈B∧xj a b l.1=true:=by
 unfold yl at h;unfold xj;split at h
 ·obtain⟨h1,h2⟩:=saI.mp h;simp at h2;exact⟨h1,by simp[h2]⟩
 ·obtain⟨h1,h2⟩:=saI.mp h;simp at h2;exact⟨List.mem_reverse.mp h1,by simp[h2]⟩
noncomputable def sD (a b:zk)(l:x8):Ga where
 x:=l.1
 lo:=nz (l.2.filter fun y=>decide (z9 a b (l.1,y)<0))
 hi:=ny (l.2.filter fun y=>decide (0<z9 a b (l.1,y)))
 w:=if a.1<l.1 then 1 else -1
noncomputable def yY (B:List x8)(a b:zk):Bool:=(yl B a b).any fun l=>l.2.any fun y=>decide (z9 a b (l.1,y)=0)
theorem PF (q:zk×zk):sZ [zd q.1,zd q.2] 0=some (zd q.1):=rfl
theorem PD (q:zk×zk):sZ [zd q.1,zd q.2] 1=some (zd q.2):=rfl
theorem PH (l:x8):sZ [D.int l.1,D.l (l.2.map .int)] 0=some (.int l.1):=rfl
theorem P4 (l:x8):sZ [D.int l.1,D.l (l.2.map .int)] 1=some (.l (l.2.map .int)):=rfl
theorem qp {α β:Type}(p:α→Bool)(f:α→β):∀l:List α,l.filterMap (fun x=>if p x=true then some (f x)else none)=(l.filter p).map f
 |[]=>rfl
 | x::l=>by
   cases h:p x <;> simp[List.filterMap_cons,List.filter_cons,h,qp p f l]
structure RopeOk (ps rope:List zk):Prop where
 few:ps.length<18
 nodup:ps.Nodup
 two:2≤rope.length
 many:rope.length≤100
 off:∀c∈rope,c.1∉(zo ps).map (·.1)
 near:∀q∈zW rope,My.near q.1 q.2
 free:∀q∈zW rope,yY (zo ps) q.1 q.2=false
theorem lQ (ps:List zk)(h:ps.length<18):∀l∈zo ps,l.2.length≤1000:=fun l hl=>by have:=V2 ps l hl;lia
noncomputable def uZ (B:List x8)(q:zk×zk):List Ga:=(yl B q.1 q.2).map (sD q.1 q.2)
theorem mw:∀(l:List Int) (n:Int),(n::l).Pairwise (· ≤ ·)→some (l.foldl oU n)=(n::l).getLast?
 |[],n,_=>rfl
 | m::l,n,h=>by
   have h':=saH.mp h;have hm:n≤m:=h'.1 m (by simp)
   have e:oU n m=m:=by unfold oU;split <;> lia
   rw[List.foldl_cons,e,List.getLast?_cons_cons];exact mw l m h'.2
theorem bU (l:List Int)(h:l.Pairwise (· ≤ ·)):nz l=l.getLast?:=by
 cases l with
 |nil=>rfl
 |cons n l=>exact mw l n h
theorem mv:∀(l:List Int) (n:Int),(∀m∈l,n≤m)→l.foldl q_ n=n
 |[],n,_=>rfl
 | m::l,n,h=>by
   have hm:=h m (by simp)
   have e:q_ n m=n:=by unfold q_;split <;> lia
   rw[List.foldl_cons,e];exact mv l n fun k hk=>h k (by simp[hk])
theorem bT (l:List Int)(h:l.Pairwise (· ≤ ·)):ny l=l.head?:=by
 cases l with
 |nil=>rfl
 | cons n l=>
   have h':=saH.mp h;show some (l.foldl q_ n)=some n;rw[mv l n h'.1]
theorem oj {ps:List zk}{l:x8}(h:l∈zo ps):(l.1∈ps.map (·.1))∧(∀y∈l.2,(l.1,y)∈ps)∧l.2.Pairwise (· ≤ ·):=by
 unfold zo at h;obtain⟨x,hx,rfl⟩:=saJ.mp h;refine⟨scz.mp ((yW _).mem_iff.mp hx),fun y hy=>?_,wR _⟩;have hy':=(yW _).mem_iff.mp hy;obtain⟨p,hp,rfl⟩:=saJ.mp hy';obtain⟨h1,h2⟩:=saI.mp hp;have:p.1=x:=by simpa using h2
 rw[←this];exact h1
theorem cL {ps:List zk}{a b:zk}(h:vo a b ps=false):yY (zo ps) a b=false:=by
 unfold yY;rw[scj];intro l hl;obtain⟨h1,h2⟩:=vC hl;simp only[saW,saD,not_exists,not_and];intro y hy e;have hp:=(oj h1).2.1 y hy;unfold vo at h;rw[scj]at h;apply h _ hp
 have ho:kL a b (l.1,y)=true:=by
  unfold kL;rw[saD]
  have ht:nQ a b (l.1,y)=0:=by
   unfold z9 at e
   split at e <;> lia
  unfold nQ at ht;have:(b.1 - a.1)*(y - a.2)=(y - a.2)*(b.1 - a.1):=Int.mul_comm _ _;simp only at ht ⊢;lia
 simp[h2,ho]
theorem qv {l:List zk}{q:zk×zk}(h:q∈zW l):q.1∈l∧q.2∈l:=by
 unfold zW at h;have:=List.of_mem_zip (a:=q.1) (b:=q.2) h;exact⟨this.1,List.mem_of_mem_tail this.2⟩
structure Drawn (ps rope:List zk):Prop where
 few:ps.length≤12
 nodup:ps.Nodup
 even:∀p∈ps,∃i:Int,p.1=2*i∧0≤i∧i≤4
 odd:∀c∈rope,gf c
 free:∀q∈zW rope,vo q.1 q.2 ps=false
theorem j4 (ns:List Int)(zy:Int)(k:Nat):Drawn (xI ns) (zN ns zy (xI ns) k) where
 few:=by
  have h1:=n9 ns (vM ns).toNat;have h2:=dm ns;unfold xI;lia
 nodup:=oX ns _
 even:=fun p hp=>(r9 ns _ p hp).1
 odd:=pA ns zy _ k
 free:=fv ns zy _ (by
  have h1:=n9 ns (vM ns).toNat;have h2:=dm ns;unfold xI
  lia) k
theorem WO (lo:Int)(n:Nat):uv lo (n+1)=.int lo::uv (lo+1) n:=by
 unfold uv;rw[List.range_succ_eq_map,List.map_cons,sbj];congr 1
 ·simp
 ·apply sbe;intro i _;simp only[Function.comp_apply];congr 1;lia
theorem eQ {f:Ev→Out (List Val)}{env:Ev}{n:Int}(h:f env=.ok [.p (.int n)])(hn : -1000000≤n∧n≤1000000):rH f env=.ok (uv 0 n.toNat):=by
 simp only[rH,h,zh,List.map_cons,List.map_nil,Val.d];rw[sak hn]
noncomputable def pQ {α:Type}(xs:List α)(lo hi:Option Int):List α:=(xs.drop (HT.sIx xs.length 0 lo)).take (HT.sIx xs.length xs.length hi - HT.sIx xs.length 0 lo)
theorem YL {α:Type}(f:α→D)(xs:List α)(lo hi:Option Int):sV (xs.map f) lo hi=(pQ xs lo hi).map f:=by
 unfold DL.sV pQ;rw[sac,←List.map_drop,←List.map_take]
theorem mC {α:Type}(xs:List α)(lo hi:Option Int):(pQ xs lo hi).Sublist xs:=(List.take_sublist _ _).trans (List.drop_sublist _ _)
theorem mh (ns:List Int)(k:Int)(h:0≤k∧k≤1000000):yL [.scr ns,.int k]=.ok (.p (.int (zD ns k))):=by
 show(if 0≤k∧k≤1000000 then Out.ok (Val.p (.int (zD ns k)))else Out.bad)=_;rw[sak h]
noncomputable def xQ (l:List zk):zk:=l.headD (0,0)
theorem pW {l:List zk}(hne:l≠[]):sZ (l.map zd) 0=some (zd (xQ l)):=by
 rw[lS _ _ (by lia)]
 cases l with
 |nil=>exact absurd rfl hne
 |cons c r=>rfl
theorem om {l:List zk}(hne:l≠[]):sZ (l.map zd) (-1)=some (zd (ye l)):=by
 unfold ye;rw[nG,sac,sar,←sbi,saC,saK hne];rfl
noncomputable def Tf (ps rope:List zk):Bool:=(zW rope).any fun q=>vo q.1 q.2 ps
theorem i0 (rope:List zk)(k:Nat)(i:Int)(hi:i=(k:Int))(h:k<rope.length):sZ (rope.map zd) i=some (zd rope[k]):=by
 rw[lS _ _ (by lia),hi,Int.toNat_natCast,sar,sae h];rfl
theorem fU (ps:List zk):(zo ps).map (·.1)=qN (ps.map (·.1)).eraseDups:=by
 unfold zo;rw[sbj];exact List.map_id _
theorem V0 {ps:List zk}{p:zk}(hp:p∈ps):∃l∈zo ps,l.1=p.1:=by
 have:p.1∈(zo ps).map (·.1):=by
  rw[fU,(yW _).mem_iff,scz];exact sbL hp
 obtain⟨l,h1,h2⟩:=saJ.mp this;exact⟨l,h1,h2⟩
theorem ZC {ps:List zk}{a b p:zk}(hp:p∈ps):p.1∈(yl (zo ps) a b).map (·.1)↔xj a b p.1=true:=by
 constructor
 ·intro h;obtain⟨l,h1,h2⟩:=saJ.mp h;rw[←h2];exact(vC h1).2
 ·intro h;obtain⟨l,h1,h2⟩:=V0 hp;refine saJ.mpr ⟨l,?_,h2⟩;rw[←h2]at h;unfold xj at h;simp only[sbX,saS,saD]at h;unfold yl;split
  ·rename_i hab;exact saI.mpr ⟨h1,by simp;lia⟩
  ·rename_i hab;exact saI.mpr ⟨List.mem_reverse.mpr h1,by simp;lia⟩
theorem X5 {ps:List zk}{p:zk}{l:x8}(hp:p∈ps)(hl:l∈zo ps)(h:l.1=p.1):p.2∈l.2:=by
 unfold zo at hl;obtain⟨x,_,rfl⟩:=saJ.mp hl;simp only at h ⊢;rw[(yW _).mem_iff];refine saJ.mpr ⟨p,saI.mpr ⟨hp,?_⟩,rfl⟩;simp[h]
theorem bL {ps:List zk}{a b:zk}(h:vo a b ps=true):yY (zo ps) a b=true:=by
 unfold vo at h;obtain⟨p,hp,h⟩:=saW.mp h;simp only[saS]at h;obtain⟨l,h1,h2⟩:=saJ.mp ((ZC hp).mpr h.1);unfold yY;refine saW.mpr ⟨l,h1,saW.mpr ⟨p.2,X5 hp (vC h1).1 h2,?_⟩⟩;have ho:=h.2;unfold kL at ho;rw[saD]at ho ⊢
 have:nQ a b (l.1,p.2)=0:=by
  unfold nQ;have:(b.1 - a.1)*(p.2 - a.2)=(p.2 - a.2)*(b.1 - a.1):=Int.mul_comm _ _;simp only at h2 ⊢;rw[h2];lia
 unfold z9
 split <;> lia
theorem jz (ps:List zk)(a b:zk):yY (zo ps) a b=vo a b ps:=by
 cases h:vo a b ps with
 |true=>exact bL h
 |false=>exact cL h
theorem af (ps:List zk)(x:Int):x∈(zo ps).map (·.1)↔x∈ps.map (·.1):=by
 rw[fU,(yW _).mem_iff,scz]
noncomputable def pM (ps rope:List zk):Option Nat:=if rope.length<2 then some 0 else match rope.findIdx? (fun c=>decide (c.1∈ps.map (·.1)))with
 |some i=>some i
 |none=>(zW rope).findIdx? (fun q=>vo q.1 q.2 ps)
noncomputable def lH:Option Nat→D
 |some n=>.int n
 |none=>.non
theorem iI {α:Type}{g:D→Ev→Out Ev}{fb:FS}{p:α→Bool}{mk:Slot→Ev}{xs:List α}(h:∀(j:Nat) (x:α) (s:Slot),xs[j]?=some x→g (.int j) (mk s)=.ok (mk (.p (.int j)))∧fb (mk (.p (.int j)))=if p x=true then .ok (.ret (.p (.int j)))else .ok (.next (mk (.p (.int j))))) :
 ∀(ys:List α) (k:Nat) (s:Slot),xs.drop k=ys→(∃i,ys.findIdx? p=some i∧x4 g fb (uv k ys.length) (mk s)=.ok (.ret (.p (.int (k+i:Nat)))))∨(ys.findIdx? p=none∧∃s',x4 g fb (uv k ys.length) (mk s)=.ok (.next (mk s')))
 |[],k,s,_=>.inr ⟨rfl,s,rfl⟩
 | y::ys,k,s,e=>by
   have hk:xs[k]?=some y:=by
    have:=congrArg (fun l=>l[0]?) e;simpa[List.getElem?_drop]using this
   have e':xs.drop (k+1)=ys:=by
    have:=congrArg List.tail e;simpa[List.tail_drop]using this
   obtain⟨h1,h2⟩:=h k y s hk;have hk1:((k:Int)+1)=((k+1:Nat):Int):=by lia
   rw[List.length_cons,WO,x4,h1,zh,h2,List.findIdx?_cons,hk1]
   cases hp:p y with
   |true=>exact .inl ⟨0,rfl,rfl⟩
   | false=>
     simp only[sax,if_false,zh]
     rcases iI h ys (k+1) (.p (.int k)) e' with⟨i,z1,z2⟩|⟨z1,s',z2⟩
     ·exact .inl ⟨i+1,by rw[z1];rfl,by rw[z2];congr 4;lia⟩
     ·exact .inr ⟨by rw[z1];rfl,s',z2⟩
theorem oV {α:Type}{g:D→Ev→Out Ev}{fb:FS}{R:RX}{p:α→Bool}{toD:α→D}{mk:Slot→Slot→Ev}{c:Str}:∀(xs:List α) (k i:Nat) (s s':Slot),(∀x∈xs,∀(j:Nat) (s s':Slot),g (.tup [.int j,toD x]) (mk s s')=.ok (mk (.p (.int j)) (.p (toD x))) ∧
 (p x=true→R (mk (.p (.int j)) (.p (toD x))) (c,some j))∧(p x=false→fb (mk (.p (.int j)) (.p (toD x)))=.ok (.next (mk (.p (.int j)) (.p (toD x))))))→xs.findIdx? p=some i →
 Zs g fb R (uD k (xs.map toD)) (mk s s') (c,some ((k+i:Nat):Int))
 |[],k,i,s,s',_,e=>by simp at e
 | x::xs,k,i,s,s',h,e=>by
   obtain⟨h1,h2,h3⟩:=h x (by simp) k s s';refine⟨_,h1,?_⟩;rw[List.findIdx?_cons]at e
   cases hp:p x with
   | true=>
     rw[hp]at e;simp only[if_true,Option.some.injEq]at e;subst e;exact .inl (h2 hp)
   | false=>
     rw[hp]at e;simp only[sax,if_false]at e;obtain⟨i',e',rfl⟩:=Option.map_eq_some_iff.mp e;refine .inr ⟨_,h3 hp,?_⟩;have:=oV xs (k+1) i' (.p (.int k)) (.p (toD x)) (fun y hy=>h y (by simp[hy])) e';rw[show k+(i'+1)=k+1+i' by lia];exact this
structure LookOk (ps rope:List zk):Prop where
 few:ps.length<18
 nodup:ps.Nodup
 many:rope.length≤100
 near:∀q∈zW rope,My.near q.1 q.2
theorem Xp {ps rope:List zk}(L:LookOk ps rope)(h:pM ps rope=none):RopeOk ps rope:=by
 unfold pM at h;split at h
 ·cases h
 ·rename_i h2;split at h
  ·cases h
  ·rename_i hc;rw[List.findIdx?_eq_none_iff]at hc h;refine⟨L.few,L.nodup,by lia,L.many,fun c hm hx=>?_,L.near,fun q hq=>?_⟩
   ·have:=hc c hm;rw[scw]at this;exact this ((af ps c.1).mp hx)
   ·rw[jz];exact h q hq
noncomputable def rj (c:zk):Prop:=(-1≤c.1∧c.1≤10) ∧ -1≤c.2∧c.2≤100
theorem U1 {ks:List (List Int)}(hd:¬ks.Nodup):(wZ ks).length<ks.length:=by
 have ind:∀(n:Nat) (ks:List (List Int)),ks.length=n→¬ks.Nodup→(wZ ks).length<ks.length:=by
  intro n
  induction n with
  |zero=>intro ks h hn;rw[saV h]at hn;exact absurd List.nodup_nil hn
  | succ n ih=>
    intro ks h hn
    rcases List.eq_nil_or_concat ks with e|⟨m,k,e⟩
    ·subst e;simp at h
    ·have e':ks=m++[k]:=by simpa using e
     subst e';rw[lr];by_cases hm:m.Nodup
     ·rw[o9 hm]
      have hk:k∈m:=by
       refine Decidable.byContradiction fun z=>hn ?_;rw[sbT];exact⟨hm,by simp,fun a ha b hb=>by simp at hb;subst hb;rintro rfl;exact z ha⟩
      rw[sak hk];simp
     ·have:=ih m (by simpa using h) hm;split
      ·simp;lia
      ·simp;lia
 exact ind _ ks rfl hd
theorem W2 {ps:List (Int×Int)}(h:¬ps.Nodup):¬(ps.map r8).Nodup:=fun z=>h (by
 rw[sbZ]at z ⊢;rw[sbw]at z
 exact z.imp fun {a b} h e=>h (by rw[e]))
theorem WE {ps:List zk}(hl:ps.length<18):xP (.l (ps.map zd))=.ok (.p (.int (wZ (ps.map r8)).length))∧decide (((wZ (ps.map r8)).length:Int)<(ps.length:Int)) = !decide ps.Nodup:=by
 refine⟨by simp only[xP,wN,hl,if_true],?_⟩;by_cases hn:ps.Nodup
 ·have h2:(wZ (ps.map r8)).length=ps.length:=by rw[o9 (jW hn),sac]
  rw[h2,sap hn];simp
 ·have h2:=U1 (W2 hn);rw[sac]at h2;rw[saB hn,sap (by lia)];rfl
theorem cK (h:Int→Int)(a:Int):∀n:Nat,∃m:Nat,m≤n∧(∀k:Nat,k≤n→h (a+k)≤h (a+m))∧(∀k:Nat,k<m→h (a+k)<h (a+m))
 | 0=>⟨0,by lia,fun k hk=>by rw[show k=0 by lia];exact Int.le_refl _,fun k hk=>by lia⟩
 | n+1=>by
   obtain⟨m,h1,h2,h3⟩:=cK h a n;by_cases hh:h (a+m)<h (a+(n+1:Nat))
   ·refine⟨n+1,by lia,fun k hk=>?_,fun k hk=>?_⟩
    ·by_cases z:k≤n
     ·have:=h2 k z;lia
     ·rw[show k=n+1 by lia];exact Int.le_refl _
    ·have:=h2 k (by lia);lia
   ·refine⟨m,by lia,fun k hk=>?_,h3⟩;by_cases z:k≤n
    ·exact h2 k z
    ·rw[show k=n+1 by lia];lia
noncomputable def dd (F:Int→Int)(x:Int):Int:=F (x+1)+F (x - 1) - 2*F x
theorem cmp {F G:Int→Int}{a b:Int}(ha:F a≤G a)(hb:F b≤G b)(hf:∀x,a<x→x<b→dd F x<0→F x≤G x)(hg:∀x,a<x→x<b→0<dd G x→F x≤G x){x:Int}(h1:a≤x)(h2:x≤b):F x≤G x:=by
 obtain⟨m,e1,e2,e3⟩:=cK (fun x=>F x - G x) a (b - a).toNat;have hx:=e2 (x - a).toNat (by lia);rw[show a+((x - a).toNat:Int)=x by lia]at hx;by_cases z:F x≤G x
 ·exact z
 have hm:0<F (a+m) - G (a+m):=by lia
 have m0:m≠0:=by
  intro z;subst z;simp at hm;lia
 have mb:a+m≠b:=by
  intro z;rw[z]at hm;lia
 have l:=e3 (m - 1) (by lia);rw[show a+((m - 1:Nat):Int)=a+m - 1 by lia]at l;have r:=e2 (m+1) (by lia);rw[show a+((m+1:Nat):Int)=a+m+1 by lia]at r;have k1:=hf (a+m) (by lia) (by lia);have k2:=hg (a+m) (by lia) (by lia);unfold dd at k1 k2;lia
noncomputable def bw (a b:zk)(x:Int):Prop:=(a.1<x∧x<b.1)∨(b.1<x∧x<a.1)
noncomputable def Sf (a b:zk)(g:Ga)(p:zk)(d:Int):Prop:=p.1=g.x∧((g.lo=some p.2∧d=z9 a b p)∨(g.hi=some p.2∧d = -z9 a b p))
inductive Pul (run:List Ga):zk→zk→List zk→Prop
 |stop {a b:zk}:(∀g∈run,bw a b g.x→∀p d,Sf a b g p d→d≤0)→Pul run a b [b]
 |split {a b p:zk} {d:Int} {g:Ga} {l1 l2:List zk}:g∈run→bw a b g.x→Sf a b g p d→0<d→(∀g'∈run,bw a b g'.x→∀p' d',Sf a b g' p' d'→d'≤d)→Pul run a p l1→Pul run p b l2→Pul run a b (l1++l2)
noncomputable def wA (o m n:zk):Bool:=decide ((m.1 - o.1)*(n.2 - m.2)=(m.2 - o.2)*(n.1 - m.1))&&decide (0<(m.1 - o.1)*(n.1 - m.1)+(m.2 - o.2)*(n.2 - m.2))
noncomputable def xY:List zk→List zk
 |o::m::n::r=>(if wA o m n=true then[]else[m])++xY (m::n::r)
 |_=>[]
theorem Zl (o m n:zk):∀l:List zk,xY (l++[o,m,n])=xY (l++[o,m])++(if wA o m n=true then[]else[m])
 |[]=>by simp[xY]
 |[x]=>by simp[xY]
 |[x,y]=>by simp[xY]
 | x::y::z::r=>by
   have ih:=Zl o m n (y::z::r);simp only[List.cons_append]at ih ⊢;rw[xY,xY,ih,sbs]
noncomputable def Ow (o:zk):List zk→Bool
 |a::v::_=>wA o a v
 |_=>true
noncomputable def kk (D:Int)(F:Int→Int):Nat→Int→List zk
 | 0,_=>[]
 |n+1,x=>(if dd F (x+1)=0 then[]else[(x+1,F (x+1) / D)])++kk D F n (x+1)
noncomputable def co:Option zk→List zk→List zk
 |none,_=>[]
 |some o,L=>if Ow o L=true then[]else L.take 1
noncomputable def Ui:Option zk→zk→List zk→List zk
 |_,_,[]=>[]
 |o,a,v::r=>if v=a then Ui o a r else co o [a,v]++Ui (some a) v r
inductive Tot:zk→List (List Ga×zk)→List zk→Prop
 |nil {a:zk}:Tot a [] []
 |cons {a b:zk} {run:List Ga} {l l':List zk} {legs:List (List Ga×zk)}:Pul run a b l→Tot b legs l'→Tot a ((run,b)::legs) (l++l')
noncomputable def qT (g:Ga):Ga:=⟨g.x,g.lo,g.hi,-g.w⟩
noncomputable def xG (g h:Ga):Bool:=match g.hi,h.lo with
 |some u,some v=>decide (u≤v)
 |_,_=>false
noncomputable def yh (g h:Ga):zk×zk:=if xG g h=true then((g.x,g.hi.getD 0),(g.x,h.lo.getD 0))else((g.x,g.lo.getD 0),(g.x,h.hi.getD 0))
noncomputable def zQ (R:List Ga):Ga:=R.getLastD ⟨0,none,none,0⟩
noncomputable def ko (R:List Ga):Ga:=R.headD ⟨0,none,none,0⟩
noncomputable def o_:List (List Ga)→zk→List (List Ga×zk)
 |[],e=>[([],e)]
 |[R],e=>[(R,e)]
 |R::S::rs,e=>(R,(yh (zQ R) (ko S)).1)::([],(yh (zQ R) (ko S)).2)::o_ (S::rs) e
structure TurnOk (t g:Ga):Prop where
 x:t.x=g.x
 one:(∃u v,t.hi=some u∧g.lo=some v∧u≤v)∨(∃u v,g.hi=some u∧t.lo=some v∧u≤v)
 tw:∀u v,t.lo=some u→t.hi=some v→u<v
 gw:∀u v,g.lo=some u→g.hi=some v→u<v
theorem cI {t g:Ga}(h:TurnOk t g):yh (qT g) (qT t)=((yh t g).2,(yh t g).1):=by
 have e1:xG (qT g) (qT t)=xG g t:=rfl
 have n:xG t g=true→xG g t=false:=by
  intro q
  cases hh:xG g t with
  |false=>rfl
  | true=>
    unfold xG at q hh
    cases a:t.hi with
    |none=>rw[a]at q;cases q
    | some u=>
      cases b:g.lo with
      |none=>rw[a,b]at q;cases q
      | some v=>
        cases c:g.hi with
        |none=>rw[c]at hh;cases hh
        | some u'=>
          cases d:t.lo with
          |none=>rw[c,d]at hh;cases hh
          | some v'=>
            rw[a,b]at q;rw[c,d]at hh;have q:=scC q;have hh:=scC hh;have:=h.tw _ _ d a;have:=h.gw _ _ b c;lia
 have y:xG t g=true∨xG g t=true:=by
  rcases h.one with⟨u,v,e,e',l⟩|⟨u,v,e,e',l⟩
  ·left;unfold xG;rw[e,e'];exact sap l
  ·right;unfold xG;rw[e,e'];exact sap l
 unfold yh;rw[e1]
 cases q:xG t g with
 | true=>
   rw[n q,sal sai,sak rfl];show((g.x,g.lo.getD 0),(g.x,t.hi.getD 0))=_;rw[←h.x]
 | false=>
   rw[q]at y
   rcases y with y|y
   ·cases y
   ·rw[y,sak rfl,sal sai];show((g.x,g.hi.getD 0),(g.x,t.lo.getD 0))=_;rw[←h.x]
noncomputable def cv:List (List Ga)→Prop
 |R::S::rs=>TurnOk (zQ R) (ko S)∧R≠[]∧S≠[]∧cv (S::rs)
 |_=>True
noncomputable def oQ:List zk→List zk
 |[]=>[]
 |[a]=>[a]
 |a::b::r=>if b=a then oQ (a::r)else a::oQ (b::r)
termination_by l=>l.length
theorem x_ (a:zk)(r:List zk):oQ (a::a::r)=oQ (a::r):=by rw[oQ,sak rfl]
theorem vY {a b:zk}(r:List zk)(h:b≠a):oQ (a::b::r)=a::oQ (b::r):=by rw[oQ,sal h]
theorem uf (a:zk):oQ [a]=[a]:=by rw[oQ]
theorem cH:∀(r:List zk) (a:zk),∃t,oQ (a::r)=a::t
 |[],a=>⟨[],uf a⟩
 | b::r,a=>by
   by_cases z:b=a
   ·subst z;obtain⟨t,e⟩:=cH r b;exact⟨t,by rw[x_,e]⟩
   ·exact⟨_,vY r z⟩
theorem iX:∀(l:List zk) (o a:zk),Ui (some o) a l=xY (o::oQ (a::l))
 |[],o,a=>by rw[uf];rfl
 | v::r,o,a=>by
   show(if v=a then Ui (some o) a r else co (some o) [a,v]++Ui (some a) v r)=_;by_cases z:v=a
   ·subst z;rw[sak rfl,iX r o v,x_]
   ·rw[sal z,iX r a v,vY r z];obtain⟨t,e⟩:=cH r v;rw[e,xY];rfl
theorem ag:∀(l:List zk) (a:zk),Ui none a l=xY (oQ (a::l))
 |[],a=>by rw[uf];rfl
 | v::r,a=>by
   show(if v=a then Ui none a r else[]++Ui (some a) v r)=_;by_cases z:v=a
   ·subst z;rw[sak rfl,ag r v,x_]
   ·rw[sal z,List.nil_append,iX,vY r z]
theorem nP (b:zk):∀(l:List zk) (a:zk),oQ (l++[a,b])=if b=a then oQ (l++[a])else oQ (l++[a])++[b]
 | [],a=>by
   by_cases z:b=a
   ·subst z;rw[sak rfl];exact x_ b []
   ·rw[sal z]
    show oQ (a::b::[])=oQ [a]++[b]
    rw[vY [] z,uf,uf];rfl
 | [x],a=>by
   show oQ (x::a::[b])=if b=a then oQ (x::a::[])else oQ (x::a::[])++[b]
   have ih:=nP b [] a;simp only[List.nil_append]at ih;by_cases q:a=x
   ·subst q;rw[x_,x_,ih]
   ·rw[vY _ q,vY _ q,ih]
    split <;> simp
 | x::y::l,a=>by
   simp only[List.cons_append];by_cases q:y=x
   ·subst q;rw[x_,x_];exact nP b (y::l) a
   ·have ih:=nP b (y::l) a;simp only[List.cons_append]at ih;rw[vY _ q,vY _ q,ih]
    split <;> simp
termination_by l=>l.length
noncomputable def Uc (s:zk)(rs:List (List Ga))(e:zk)(out:List zk):Prop:=∃T,Tot s (o_ rs e) T∧out=s::(Ui none s T++[e])
noncomputable def wB:List Ga→List (List Ga)
 |[]=>[]
 | g::r=>match wB r with
   |(h::R)::rs=>if g.w=h.w then(g::h::R)::rs else[g]::(h::R)::rs
   |_=>[[g]]
noncomputable def Up (a b:Ga):Prop:=a.w=b.w∧(a.w=1→a.x<b.x)∧(a.w≠1→b.x<a.x)
theorem Up.trans {a b c:Ga}(h:Up a b)(k:Up b c):Up a c:=by
 obtain⟨h1,h2,h3⟩:=h;obtain⟨k1,k2,k3⟩:=k;refine⟨h1.trans k1,fun z=>?_,fun z=>?_⟩
 ·have:=h2 z;have:=k2 (by rw[←h1];exact z);lia
 ·have:=h3 z;have:=k3 (by rw[←h1];exact z);lia
noncomputable def i7:List Ga→Prop
 |t::g::r=>(t.w=g.w→Up t g)∧(t.w≠g.w→TurnOk t g)∧i7 (g::r)
 |_=>True
noncomputable def RF (g:Ga):Prop:=∀u v,g.lo=some u→g.hi=some v→u<v
noncomputable def PN:List (List Ga)→Prop
 |[]=>True
 |[R]=>R≠[]∧R.Pairwise Up
 |R::S::rs=>R≠[]∧R.Pairwise Up∧(zQ R).w≠(ko S).w∧TurnOk (zQ R) (ko S)∧PN (S::rs)
theorem p9 {g h:Ga}{r R:List Ga}{rs:List (List Ga)}(e:wB r=(h::R)::rs):wB (g::r)=if g.w=h.w then(g::h::R)::rs else[g]::(h::R)::rs:=by
 rw[wB,e]
theorem fo:∀row:List Ga,(wB row).flatten=row
 |[]=>rfl
 | g::r=>by
   have ih:=fo r
   cases hr:wB r with
   | nil=>
     rw[hr]at ih;rw[wB,hr,←ih];rfl
   | cons R rs=>
     cases R with
     | nil=>
       rw[hr]at ih;exfalso
       cases r with
       |nil=>cases hr
       | cons x r=>
         rw[wB]at hr;split at hr
         ·split at hr <;> cases hr
         ·cases hr
     | cons h R=>
       rw[hr]at ih;rw[p9 hr];split
       ·rw[List.flatten_cons,List.cons_append,←ih,List.flatten_cons]
       ·rw[List.flatten_cons,←ih];rfl
theorem m5:∀(g:Ga) (r:List Ga),∃R rs,wB (g::r)=(g::R)::rs:=by
 intro g r;rw[wB];split
 ·split
  ·exact⟨_,_,rfl⟩
  ·exact⟨_,_,rfl⟩
 ·exact⟨_,_,rfl⟩
theorem cX:∀row:List Ga,i7 row→PN (wB row)
 |[],_=>trivial
 |[g],_=>⟨by simp,by simp⟩
 | g::h::r,⟨w1,w2,w3⟩=>by
   have ih:=cX (h::r) w3;obtain⟨R,rs,e⟩:=m5 h r;rw[p9 e];rw[e]at ih;split
   ·rename_i hw;have u:=w1 hw
    have pw:∀Q:List Ga,(h::Q).Pairwise Up→(g::h::Q).Pairwise Up:=fun Q hQ=>saH.mpr ⟨fun x hx=>by
     rcases san.mp hx with rfl|hx
     ·exact u
     ·exact u.trans ((saH.mp hQ).1 x hx),hQ⟩
    cases rs with
    |nil=>exact⟨by simp,pw R ih.2⟩
    | cons S rs=>
      obtain⟨_,i2,i3,i4,i5⟩:=ih
      have el:zQ (g::h::R)=zQ (h::R):=by
       unfold zQ;rw[saC,saC,List.getLast?_cons_cons]
      exact⟨by simp,pw R i2,by rw[el];exact i3,by rw[el];exact i4,i5⟩
   ·rename_i hw;exact⟨by simp,by simp,hw,w2 hw,ih⟩
theorem ff:∀rs:List (List Ga),PN rs→cv rs
 |[],_=>trivial
 |[R],_=>trivial
 | R :: S :: rs,⟨h1,_,_,h4,h5⟩=>⟨h4,h1,by
     cases rs with
     |nil=>exact h5.1
     |cons _ _=>exact h5.1,ff (S::rs) h5⟩
theorem cY {R:List Ga}(hu:R.Pairwise Up):∀(hR:R≠[]) {r:List Ga},(∀h∈r.head?,(zQ R).w≠h.w)→wB (R++r)=R::wB r:=by
 induction R with
 |nil=>exact fun z=>absurd rfl z
 | cons g R ih=>
   intro _ r hr
   cases R with
   | nil=>
     cases r with
     |nil=>rfl
     | cons h r=>
       obtain⟨Q,rs,e⟩:=m5 h r;show wB (g::h::r)=_;rw[p9 e,sal (show ¬g.w=h.w from hr h (by simp)),e]
   | cons g' R=>
     have el:zQ (g::g'::R)=zQ (g'::R):=by
      unfold zQ;rw[saC,saC,List.getLast?_cons_cons]
     rw[el]at hr;have:=ih (saH.mp hu).2 (by simp) hr;have hw:=((saH.mp hu).1 g' (by simp)).1;show wB (g::(g'::R++r))=_;rw[p9 this,sak hw]
noncomputable def mK (row:List Ga)(p:zk):Prop:=∃g∈row,p.1=g.x∧(g.lo=some p.2∨g.hi=some p.2)
theorem mK.mono {row row':List Ga}{p:zk}(h:mK row p)(k:∀g∈row,g∈row'):mK row' p:=by
 obtain⟨g,hg,e⟩:=h;exact⟨g,k g hg,e⟩
theorem nZ {run:List Ga}{a b:zk}{l:List zk}(h:Pul run a b l):∃m,l=m++[b]∧∀p∈m,mK run p:=by
 induction h with
 |stop _=>exact⟨[],rfl,by simp⟩
 | @split a b p d g l1 l2 hg hb hB _ _ _ _ ih1 ih2=>
   obtain⟨m1,rfl,h1⟩:=ih1;obtain⟨m2,rfl,h2⟩:=ih2;refine⟨m1++[p]++m2,by simp,fun q hq=>?_⟩;simp only[sas,saf]at hq
   rcases hq with(hq|rfl)|hq
   ·exact h1 q hq
   ·exact⟨g,hg,hB.1,hB.2.imp (·.1) (·.1)⟩
   ·exact h2 q hq
theorem YX {t g:Ga}(h:TurnOk t g):mK [t] (yh t g).1∧mK [g] (yh t g).2:=by
 unfold yh;by_cases z:xG t g=true
 ·rw[sak z];unfold xG at z
  cases a:t.hi with
  |none=>rw[a]at z;cases z
  | some u=>
    cases b:g.lo with
    |none=>rw[a,b]at z;cases z
    |some v=>exact⟨⟨t,by simp,rfl,.inr (by simpa using a)⟩,⟨g,by simp,h.x,.inl (by simpa using b)⟩⟩
 ·rw[sal z]
  rcases h.one with⟨u,v,e1,e2,l⟩|⟨u,v,e1,e2,l⟩
  ·unfold xG at z;rw[e1,e2]at z;exact absurd (sap l) z
  ·exact⟨⟨t,by simp,rfl,.inl (by rw[e2];rfl)⟩,⟨g,by simp,h.x,.inr (by rw[e1];rfl)⟩⟩
theorem fH:∀(rs:List (List Ga)) (s e:zk) (T:List zk),cv rs→Tot s (o_ rs e) T→∃m,T=m++[e]∧∀p∈m,mK rs.flatten p
 | [],s,e,T,_,h=>by
   cases h with
   | cons P t=>
     cases t;obtain⟨m,rfl,k⟩:=nZ P;exact⟨m,by simp,fun p hp=>k p hp⟩
 | [R],s,e,T,_,h=>by
   cases h with
   | cons P t=>
     cases t;obtain⟨m,rfl,k⟩:=nZ P;exact⟨m,by simp,fun p hp=>(k p hp).mono fun g hg=>by simpa using hg⟩
 | R::S::rs,s,e,T,⟨k1,k2,k3,k4⟩,h=>by
   cases h with
   | cons P t=>
     cases t with
     | cons P2 t=>
       obtain⟨m1,rfl,h1⟩:=nZ P;obtain⟨m2,rfl,h2⟩:=nZ P2;obtain⟨m3,rfl,h3⟩:=fH (S::rs) _ e _ k4 t;obtain⟨q1,q2⟩:=YX k1
       have lm:zQ R∈R:=by
        unfold zQ;rw[saC,saK k2];exact scF k2
       have hm:ko S∈S:=by
        cases S with
        |nil=>exact absurd rfl k3
        |cons z r=>exact saw
       refine⟨m1++[(yh (zQ R) (ko S)).1]++m2++[(yh (zQ R) (ko S)).2]++m3,by simp,fun p hp=>?_⟩;simp only[sas,saf]at hp
       rcases hp with(((hp|rfl)|hp)|rfl)|hp
       ·exact(h1 p hp).mono fun g hg=>scG.mpr ⟨R,by simp,hg⟩
       ·exact q1.mono fun g hg=>by rw[saf.mp hg];exact scG.mpr ⟨R,by simp,lm⟩
       ·obtain⟨g,hg,_⟩:=h2 p hp;simp at hg
       ·exact q2.mono fun g hg=>by rw[saf.mp hg];exact scG.mpr ⟨S,by simp,hm⟩
       ·exact(h3 p hp).mono fun g hg=>by
         obtain⟨Q,hQ,hg⟩:=scG.mp hg;exact scG.mpr ⟨Q,by simp[san.mp hQ],hg⟩
noncomputable def tq (k:List zk)(p:zk):List zk:=match k.getLast? with
 |some t=>if t=p then k else k++[p]
 |none=>k++[p]
theorem oP:∀(l k:List zk) (a:zk),l.foldl tq (k++[a])=k++oQ (a::l)
 |[],k,a=>by rw[uf];rfl
 | p::l,k,a=>by
   have e:tq (k++[a]) p=if a=p then k++[a]else k++[a]++[p]:=by
    unfold tq;rw[List.getLast?_concat]
   rw[List.foldl_cons,e];by_cases z:a=p
   ·subst z;rw[sak rfl,oP l k a,x_]
   ·rw[sal z,oP l (k++[a]) p,vY l (fun q=>z q.symm),sbs];rfl
theorem mV (l:List zk):l.foldl tq []=oQ l:=by
 cases l with
 |nil=>rw[oQ];rfl
 |cons a l=>exact oP l [] a
theorem eA:∀(l:List zk) (a p:zk),p∈oQ (a::l)→p∈a::l
 |[],a,p,h=>by rw[uf]at h;exact h
 | b::l,a,p,h=>by
   by_cases z:b=a
   ·subst z;rw[x_]at h;exact sao _ (eA l b p h)
   ·rw[vY l z]at h
    rcases san.mp h with rfl|h
    ·simp
    ·exact sao _ (eA l b p h)
theorem gW {l:List zk}{p:zk}(h:p∈l.foldl tq []):p∈l:=by
 rw[mV]at h
 cases l with
 |nil=>rw[oQ]at h;exact h
 |cons a l=>exact eA l a p h
theorem eC:∀(l:List zk) (a:zk),(oQ (a::l)).length≤l.length+1
 |[],a=>by rw[uf];simp
 | b::l,a=>by
   by_cases z:b=a
   ·subst z;rw[x_];have:=eC l b;simp only[List.length_cons];lia
   ·rw[vY l z];have:=eC l b;simp only[List.length_cons];lia
theorem VE (l:List zk):(l.foldl tq []).length≤l.length:=by
 rw[mV]
 cases l with
 |nil=>rw[oQ];simp
 |cons a l=>exact eC l a
theorem Ur {s e:zk}{m:List zk}(h1:∀p∈m,p≠s)(h2:∀p∈m,p≠e):xY (s::(m.foldl tq []++[e]))=Ui none s (m++[e]):=by
 rw[ag,mV]
 cases m with
 | nil=>
   have e0:oQ []=[]:=by rw[oQ]
   rw[e0];show xY [s,e]=xY (oQ [s,e]);by_cases z:e=s
   ·subst z;rw[x_,uf];rfl
   ·rw[vY _ z,uf]
 | cons p r=>
   rw[List.cons_append,vY _ (h1 p (by simp))];have hne:p::r≠[]:=by simp
   obtain⟨q,z,hq⟩:∃q z,p::r=q++[z]:=⟨(p::r).dropLast,(p::r).getLast hne,(List.dropLast_concat_getLast hne).symm⟩
   have e1:p::(r++[e])=q++[z,e]:=by
    rw[←List.cons_append,hq,sbs];rfl
   have hz:e≠z:=fun w=>h2 z (by rw[hq];simp) w.symm;rw[e1,nP,sal hz,hq]
noncomputable def xn:List zk→List (zk×zk×zk)
 |o::m::n::r=>(o,m,n)::xn (m::n::r)
 |_=>[]
theorem fL:∀l:List zk,xY l=(xn l).filterMap fun t=>if wA t.1 t.2.1 t.2.2=true then none else some t.2.1
 |[]=>rfl
 |[_]=>rfl
 |[_,_]=>rfl
 | o::m::n::r=>by
   rw[xY,xn,List.filterMap_cons,fL (m::n::r)]
   cases wA o m n <;> rfl
theorem ZU:∀{l:List zk} {t:zk×zk×zk},t∈xn l→t.1∈l∧t.2.1∈l∧t.2.2∈l
 |[],_,h=>by simp[xn]at h
 |[_],_,h=>by simp[xn]at h
 |[_,_],_,h=>by simp[xn]at h
 | o::m::n::r,t,h=>by
   rcases san.mp h with rfl|h
   ·simp
   ·obtain⟨a,b,c⟩:=ZU h;exact⟨sao _ a,sao _ b,sao _ c⟩
theorem lB:∀l:List zk,(xY l).length≤l.length
 |[]=>Nat.le_refl _
 |[_]=>by simp[xY]
 |[_,_]=>by simp[xY]
 | o::m::n::r=>by
   rw[xY,saP];have:=lB (m::n::r);simp only[List.length_cons]at this ⊢
   split <;> simp <;> lia
theorem bq:∀{l xs:List Int},l.Nodup→(∀x∈l,x∈xs)→l.length≤xs.length
 |[],xs,_,_=>saT _
 | a::l,xs,h,k=>by
   have ha:=k a (by simp);obtain⟨h1,h2⟩:=sbm.mp h;have:=bq (l:=l) (xs:=xs.erase a) h2 (fun x hx=>(List.mem_erase_of_ne (show x≠a from fun e=>h1 (by rw[←e];exact hx))).mpr (k x (by simp[hx])));rw[List.length_erase_of_mem ha]at this;have:=List.length_pos_of_mem ha;simp only[List.length_cons];lia
theorem Wo {R:List Ga}{xs:List Int}(h:R.Pairwise Up)(k:∀g∈R,g.x∈xs):R.length≤xs.length:=by
 rw[←sac (f:=Ga.x)];refine bq ?_ fun x hx=>?_
 ·rw[List.Nodup,sbw];refine h.imp fun {a b} u=>?_;obtain⟨_,u1,u2⟩:=u;by_cases z:a.w=1
  ·have:=u1 z;lia
  ·have:=u2 z;lia
 ·obtain⟨g,hg,rfl⟩:=saJ.mp hx;exact k g hg
noncomputable def vU (l:Int×List Int)(g:Ga):Prop:=g.x=l.1∧∃k,k≤l.2.length∧g.lo=(if k=0 then none else l.2[k - 1]?)∧g.hi=l.2[k]?
noncomputable def mI (B:List (Int×List Int))(h:Int)(g:Ga):Prop:=∃l,vU l g∧∃i:Nat,B[i]?=some l∧((g.w=1∧(i:Int)=h)∨(g.w = -1∧(i:Int)=h - 1))
noncomputable def sJ (B:List (Int×List Int)):Int→List Ga→Prop
 |_,[]=>True
 |h,g::gs=>mI B h g∧sJ B (h+g.w) gs
noncomputable def Uj:List Ga→Prop
 |t::g::r=>g≠qT t∧Uj (g::r)
 |_=>True
structure BoardOk (B:List (Int×List Int)):Prop where
 up:B.Pairwise fun a b=>a.1<b.1
 hs:∀l∈B,l.2.Pairwise (· < ·)
theorem eU {α:Type}{R:α→α→Prop}{l:List α}(h:l.Pairwise R){i j:Nat}{a b:α}(ha:l[i]?=some a)(hb:l[j]?=some b)(hij:i<j):R a b:=by
 obtain⟨h1,rfl⟩:=saj.mp ha;obtain⟨h2,rfl⟩:=saj.mp hb;exact sbN.mp h i j h1 h2 hij
theorem vU.ok {l:Int×List Int}{g:Ga}(h:vU l g)(s:l.2.Pairwise (· < ·)):RF g:=by
 obtain⟨_,k,hk,e1,e2⟩:=h;intro u v h1 h2;rw[e1]at h1;rw[e2]at h2;by_cases z:k=0
 ·rw[sak z]at h1;cases h1
 ·rw[sal z]at h1;exact eU s h1 h2 (by lia)
theorem vU.turn {l:Int×List Int}{t g:Ga}(h:vU l t)(h':vU l g)(s:l.2.Pairwise (· < ·))(hw:t.w≠g.w)(w1:t.w=1∨t.w = -1)(w2:g.w=1∨g.w = -1)(n:g≠qT t):TurnOk t g:=by
 refine⟨h.1.trans h'.1.symm,?_,h.ok s,h'.ok s⟩;obtain⟨x1,k,hk,e1,e2⟩:=h;obtain⟨x2,j,hj,f1,f2⟩:=h'
 have hkj:k≠j:=fun z=>n (by
  subst z;obtain⟨a,b,c,d⟩:=t;obtain⟨a',b',c',d'⟩:=g;simp only[qT,Ga.mk.injEq]at *;refine⟨x2.trans x1.symm,f1.trans e1.symm,f2.trans e2.symm,?_⟩
  lia)
 have le:∀{i j:Nat} {u v:Int},l.2[i]?=some u→l.2[j]?=some v→i≤j→u≤v:=fun {i j u v} a b hij=>by
  rcases Nat.lt_or_eq_of_le hij with q|q
  ·exact Int.le_of_lt (eU s a b q)
  ·subst q;rw[a]at b;cases b;exact Int.le_refl _
 rcases Nat.lt_or_gt_of_ne hkj with q|q
 ·left;have a:k<l.2.length:=by lia
  have b:j - 1<l.2.length:=by lia
  refine⟨l.2[k],l.2[j - 1],by rw[e2,sae a],by rw[f1,sal (by lia),sae b],?_⟩;exact le (sae a) (sae b) (by lia)
 ·right;have a:j<l.2.length:=by lia
  have b:k - 1<l.2.length:=by lia
  refine⟨l.2[j],l.2[k - 1],by rw[f2,sae a],by rw[e1,sal (by lia),sae b],?_⟩;exact le (sae a) (sae b) (by lia)
theorem mI.way {B:List (Int×List Int)}{h:Int}{g:Ga}(s:mI B h g):g.w=1∨g.w = -1:=by
 obtain⟨l,_,i,_,k⟩:=s;exact k.imp (·.1) (·.1)
theorem Y1 {B:List (Int×List Int)}(ok:BoardOk B){h:Int}{t g:Ga}(s:mI B h t)(s':mI B (h+t.w) g)(n:g≠qT t):(t.w=g.w→Up t g)∧(t.w≠g.w→TurnOk t g):=by
 have w1:=s.way;have w2:=s'.way;obtain⟨l,q,i,e,k⟩:=s;obtain⟨l',q',i',e',k'⟩:=s';refine⟨fun z=>?_,fun z=>?_⟩
 ·refine⟨z,fun w=>?_,fun w=>?_⟩
  ·rw[q.1,q'.1];exact eU ok.up e e' (by lia)
  ·rw[q.1,q'.1];exact eU ok.up e' e (by lia)
 ·have hi:i=i':=by lia
  subst hi;rw[e]at e';cases e';exact q.turn q' (ok.hs l (saA e)) z w1 w2 n
theorem kZ {B:List (Int×List Int)}(ok:BoardOk B):∀(gs:List Ga) (h:Int),sJ B h gs→Uj gs→i7 gs
 |[],_,_,_=>trivial
 |[_],_,_,_=>trivial
 | t::g::r,h,⟨p1,p2,p3⟩,⟨r1,r2⟩=>by
   obtain⟨a,b⟩:=Y1 ok p1 p2 r1;exact⟨a,b,kZ ok (g::r) (h+t.w) ⟨p2,p3⟩ r2⟩
noncomputable def oS:List Ga→Int
 |[]=>0
 |g::gs=>g.w+oS gs
theorem mX (g:Ga):∀gs:List Ga,oS (gs++[g])=oS gs+g.w
 |[]=>by simp[oS]
 | t::gs=>by
   have:=mX g gs;simp only[List.cons_append,oS,this];lia
theorem m9 {B:List (Int×List Int)}{g:Ga}:∀{gs:List Ga} {h:Int},sJ B h (gs++[g])↔sJ B h gs∧mI B (h+oS gs) g
 |[],h=>by simp[sJ,oS]
 | t::gs,h=>by
   have:=m9 (B:=B) (g:=g) (gs:=gs) (h:=h+t.w);simp only[List.cons_append,sJ,this,oS,Int.add_assoc,and_assoc]
theorem j6 {B:List (Int×List Int)}{g:Ga}:∀{gs:List Ga} {h:Int},sJ B h gs→g∈gs→∃h',mI B h' g
 | t::gs,h,⟨p1,p2⟩,hg=>by
   rcases san.mp hg with rfl|hg
   ·exact⟨h,p1⟩
   ·exact j6 p2 hg
theorem bb {t g:Ga}(n:g≠qT t):∀{gs:List Ga},Uj (gs++[t])→Uj (gs++[t]++[g])
 |[],_=>⟨n,trivial⟩
 |[a],h=>⟨h.1,n,trivial⟩
 |a::b::gs,h=>⟨h.1,bb (gs:=b::gs) n h.2⟩
theorem bc {t:Ga}:∀{gs:List Ga},Uj (gs++[t])→Uj gs
 |[],_=>trivial
 |[a],_=>trivial
 |a::b::gs,h=>⟨h.1,bc (gs:=b::gs) h.2⟩
noncomputable def jO (st:List Ga)(g:Ga):List Ga:=match st.getLast? with
 |some t=>if t=qT g then st.dropLast else st++[g]
 |none=>st++[g]
theorem Xj (g:Ga):qT (qT g)=g:=by
 obtain⟨a,b,c,d⟩:=g;simp[qT]
theorem WM {B:List (Int×List Int)}{h:Int}{st:List Ga}{g:Ga}(p:sJ B h st)(r:Uj st)(s:mI B (h+oS st) g):sJ B h (jO st g)∧Uj (jO st g)∧h+oS (jO st g)=h+oS st+g.w∧(jO st g).length≤st.length+1:=by
 unfold jO
 cases q:st.getLast? with
 | none=>
   have:st=[]:=List.getLast?_eq_none_iff.mp q;subst this;refine⟨⟨by simpa[oS]using s,trivial⟩,trivial,by simp[oS],by simp⟩
 | some t=>
   have hne:st≠[]:=fun z=>by subst z;cases q
   obtain⟨m,rfl⟩:∃m,st=m++[t]:=by
    refine⟨st.dropLast,?_⟩;have:=List.dropLast_concat_getLast hne;rw[saK hne]at q;cases q;exact this.symm
   simp only[List.dropLast_concat];by_cases z:t=qT g
   ·rw[sak z];refine⟨(m9.mp p).1,bc r,?_,by simp;lia⟩;rw[mX];have:t.w = -g.w:=by rw[z];rfl
    lia
   ·rw[sal z];refine⟨m9.mpr ⟨p,s⟩,bb (fun w=>z (by rw[w,Xj])) r,by rw[mX];lia,by simp⟩
theorem P7 (a b c d:D):sZ [a,b,c,d] 0=some a:=rfl
theorem P6 (a b c d:D):sZ [a,b,c,d] 1=some b:=rfl
theorem P5 (a b c d:D):sZ [a,b,c,d] 2=some c:=rfl
noncomputable def sW (R:List Ga)(a b:zk):List Ga :=
 if a.1<b.1 then R.filter fun l=>decide (a.1<l.x)&&decide (l.x<b.1)else R.reverse.filter fun l=>decide (b.1<l.x)&&decide (l.x<a.1)
theorem qu {R:List Ga}{a b:zk}{g:Ga}:g∈sW R a b↔g∈R∧bw a b g.x:=by
 unfold sW bw;split
 ·rw[saI,saS,saD,saD];refine and_congr_right fun _=>?_;lia
 ·rw[saI,List.mem_reverse,saS,saD,saD];refine and_congr_right fun _=>?_;lia
noncomputable def nF (a b:zk)(g:Ga):List (Int×zk):=(match g.lo with|some y=>[(z9 a b (g.x,y),(g.x,y))]|none=>[])++(match g.hi with|some y=>[(-z9 a b (g.x,y),(g.x,y))]|none=>[])
theorem iY {a b:zk}{g:Ga}{d:Int}{p:zk}:(d,p)∈nF a b g↔Sf a b g p d:=by
 unfold nF Sf;rw[sas];constructor
 ·rintro(h|h)
  ·split at h
   ·rename_i y e;simp only[saf,Prod.mk.injEq]at h;obtain⟨rfl,rfl⟩:=h;exact⟨rfl,.inl ⟨e,rfl⟩⟩
   ·simp at h
  ·split at h
   ·rename_i y e;simp only[saf,Prod.mk.injEq]at h;obtain⟨rfl,rfl⟩:=h;exact⟨rfl,.inr ⟨e,rfl⟩⟩
   ·simp at h
 ·obtain⟨p1,p2⟩:=p;rintro⟨e,⟨h1,h2⟩|⟨h1,h2⟩⟩
  ·left;simp only at e h1;subst e h2;rw[h1];simp
  ·right;simp only at e h1;subst e h2;rw[h1];simp
noncomputable def vD (st:Option zk×Int)(q:Int×zk):Option zk×Int:=if st.2<q.1 then(some q.2,q.1)else st
noncomputable def gy (R:List Ga)(a b:zk):Option zk:=(((sW R a b).flatMap (nF a b)).foldl vD (none,0)).1
theorem iH:∀(l:List (Int×zk)) (st:Option zk×Int),st.2≤(l.foldl vD st).2∧(∀q∈l,q.1≤(l.foldl vD st).2)∧(l.foldl vD st=st∨∃q∈l,st.2<q.1∧l.foldl vD st=(some q.2,q.1))
 |[],st=>⟨Int.le_refl _,by simp,.inl rfl⟩
 | q::l,st=>by
   obtain⟨h1,h2,h3⟩:=iH l (vD st q);rw[List.foldl_cons];unfold vD at h1 h3 ⊢;by_cases z:st.2<q.1
   ·simp only[z,if_true]at h1 h2 h3 ⊢;refine⟨by lia,fun r hr=>?_,.inr ?_⟩
    ·rcases san.mp hr with rfl|hr
     ·exact h1
     ·have:=h2 r hr;unfold vD at this;simpa[z]using this
    ·rcases h3 with e|⟨r,hr,lt,e⟩
     ·exact⟨q,by simp,z,e⟩
     ·exact⟨r,by simp[hr],by lia,e⟩
   ·simp only[z,if_false]at h1 h2 h3 ⊢;refine⟨h1,fun r hr=>?_,?_⟩
    ·rcases san.mp hr with rfl|hr
     ·lia
     ·have:=h2 r hr;unfold vD at this;simpa[z]using this
    ·rcases h3 with e|⟨r,hr,lt,e⟩
     ·exact .inl e
     ·exact .inr ⟨r,by simp[hr],lt,e⟩
theorem VI {R:List Ga}{a b:zk}(h:gy R a b=none):∀g∈R,bw a b g.x→∀p d,Sf a b g p d→d≤0:=by
 intro g hg hb p d k;unfold gy at h;obtain⟨_,h2,h3⟩:=iH ((sW R a b).flatMap (nF a b)) (none,0);have hm:=h2 (d,p) (List.mem_flatMap.mpr ⟨g,qu.mpr ⟨hg,hb⟩,iY.mpr k⟩)
 rcases h3 with e|⟨q,_,_,e⟩
 ·rw[e]at hm;exact hm
 ·rw[e]at h;cases h
theorem VH {R:List Ga}{a b p:zk}(h:gy R a b=some p):∃g d,g∈R∧bw a b g.x∧Sf a b g p d∧0<d∧∀g'∈R,bw a b g'.x→∀p' d',Sf a b g' p' d'→d'≤d:=by
 unfold gy at h;obtain⟨_,h2,h3⟩:=iH ((sW R a b).flatMap (nF a b)) (none,0)
 rcases h3 with e|⟨q,hq,lt,e⟩
 ·rw[e]at h;cases h
 ·rw[e]at h h2;cases h;obtain⟨g,hg,hm⟩:=List.mem_flatMap.mp hq;obtain⟨k1,k2⟩:=qu.mp hg;refine⟨g,q.1,k1,k2,iY.mp hm,lt,fun g' hg' hb' p' d' k'=>?_⟩;exact h2 (d',p') (List.mem_flatMap.mpr ⟨g',qu.mpr ⟨hg',hb'⟩,iY.mpr k'⟩)
noncomputable def PB {α:Type}(X:α→Int)(B:List α)(a b:zk):List α :=
 if a.1<b.1 then B.filter fun l=>decide (a.1<X l)&&decide (X l<b.1)else B.reverse.filter fun l=>decide (b.1<X l)&&decide (X l<a.1)
@[reducible] noncomputable def S9:FS :=
 wk (zV (f2 nM (zf 5) (f2 pI (f2 qm (zf 4) (f2 zT (zf 0) (fC (.int 1)))) (f2 qm (f2 zT (zf 1) (fC (.int 0))) (f2 zT (zf 0) (fC (.int 0)))))))
 (yJ (fC (.bl true)))
 (wY)
@[reducible] noncomputable def S8:FS :=
 wk (Qz (vF (zV (f2 mO (f2 zT (zf 0) (fC (.int 0))) (zf 3))) (zV (f2 mO (zf 3) (f2 zT (zf 1) (fC (.int 0)))))) (vF (zV (f2 mO (f2 zT (zf 1) (fC (.int 0))) (zf 3))) (zV (f2 mO (zf 3) (f2 zT (zf 0) (fC (.int 0)))))))
 (zL (zU 5 true (f2 pI (f2 qm (f2 zT (zf 1) (fC (.int 1))) (f2 zT (zf 0) (fC (.int 1)))) (f2 qm (zf 3) (f2 zT (zf 0) (fC (.int 0))))))
 (S9))
 (wY)
@[reducible] noncomputable def ZJ:FS :=
 S8
noncomputable def bQ:FS :=
 zL (vq (xg (zf 2)) (gT [3,4])
 (ZJ))
 (yJ (fC (.bl false)))
noncomputable def oG:List D→Out Val:=zX 6 bQ
theorem Vd:∀ds v,ds.length=3→oG ds=.ok v→zX 6 bQ ds=.ok v:=fun _ _ _ h=>h
theorem Vw {a b p:zk}(n:near a b)(s2 s5:Slot):∃s5',ZJ [.p (zd a),.p (zd b),s2,.p (.int p.1),.p (.int p.2),s5] =
 if(xj a b p.1&&kL a b p)=true then .ok (.ret (.p (.bl true)))else .ok (.next [.p (zd a),.p (zd b),s2,.p (.int p.1),.p (.int p.2),s5']):=by
 have c1:∀j,sY j (b.1 - a.1)=true:=fun j=>iV n.1 n.2
 cases hb:xj a b p.1 with
 | false=>
   refine⟨s5,?_⟩;unfold xj at hb;simp only[Bool.or_eq_false_iff,Bool.and_eq_false_iff,scw]at hb;obtain⟨h1,h2⟩:=hb
   rcases h1 with h1|h1 <;> rcases h2 with h2|h2 <;> simp[zd,YQ,h1,h2]
 | true=>
   refine⟨.p (.int ((b.2 - a.2)*(p.1 - a.1))),?_⟩;have hn:=cf hb n;have c2:∀j,sY j (p.1 - a.1)=true:=fun j=>iV hn.1 hn.2;unfold xj at hb;simp only[sbX,saS,saD]at hb;unfold kL;by_cases ho:(b.2 - a.2)*(p.1 - a.1)=(p.2 - a.2)*(b.1 - a.1)
   ·rcases hb with⟨h1,h2⟩|⟨h1,h2⟩
    ·simp[zd,YQ,Rz,h1,h2,c1,c2,ho]
    ·have h3:¬a.1<p.1:=by lia
     simp[zd,YQ,Rz,h1,h2,h3,c1,c2,ho]
   ·rcases hb with⟨h1,h2⟩|⟨h1,h2⟩
    ·simp[zd,YQ,Rz,h1,h2,c1,c2,ho]
    ·have h3:¬a.1<p.1:=by lia
     simp[zd,YQ,Rz,h1,h2,h3,c1,c2,ho]
theorem Yu (a b:zk)(n:near a b)(s2:Slot):∀(ps:List zk) (s3 s4 s5:Slot),∃s3' s4' s5',x4 (gT [3,4]) ZJ (ps.map zd) [.p (zd a),.p (zd b),s2,s3,s4,s5] =
 if vo a b ps=true then .ok (.ret (.p (.bl true)))else .ok (.next [.p (zd a),.p (zd b),s2,s3',s4',s5'])
 |[],s3,s4,s5=>⟨s3,s4,s5,rfl⟩
 | p::ps,s3,s4,s5=>by
   have hh:vo a b (p::ps)=((xj a b p.1&&kL a b p) ||vo a b ps):=rfl;obtain⟨t5,eb⟩:=Vw (p:=p) n s2 s5;have hg:gT [3,4] (zd p) [.p (zd a),.p (zd b),s2,s3,s4,s5]=.ok [.p (zd a),.p (zd b),s2,.p (.int p.1),.p (.int p.2),s5]:=rfl
   cases hb:(xj a b p.1&&kL a b p)with
   | true=>
     refine⟨s3,s4,s5,?_⟩;rw[hb]at eb;simp only[List.map_cons,x4,hg,zh,eb,hh,hb,Bool.true_or,if_true]
   | false=>
     obtain⟨s3',s4',s5',e⟩:=Yu a b n s2 ps (.p (.int p.1)) (.p (.int p.2)) t5;refine⟨s3',s4',s5',?_⟩;rw[hb]at eb;simp only[List.map_cons,x4,hg,zh,eb,hh,hb,Bool.false_or,sax,if_false,e]
theorem Zm {a b:zk}(n:near a b)(ps:List zk):oG [zd a,zd b,.l (ps.map zd)]=.ok (.p (.bl (vo a b ps))):=by
 obtain⟨s3,s4,s5,e⟩:=Yu a b n (.p (.l (ps.map zd))) ps .un .un .un;unfold oG
 cases hv:vo a b ps with
 | true=>
   rw[hv]at e;simp only[if_true]at e;simp[bQ,e]
 | false=>
   rw[hv]at e;simp only[sax,if_false]at e;simp[bQ,e]
@[reducible] noncomputable def Te:FS :=
 wk (vF (zV (f2 XE (zf 5) (fC (.int 0)))) (zV (f2 nM (f2 yQ (f2 v8 (zf 6) (fC (.int 54))) (fC (.int 6))) (fC (.int 1)))))
 (zU 7 true (f2 zT (zf 4) (f1 yM (fC (.int 1)))))
 (wY)
@[reducible] noncomputable def eE:FT :=
 vF (zV (f2 XE (zf 5) (fC (.int 0)))) (oh (zA oG (zi (f2 zT (zf 4) (f1 yM (fC (.int 1)))) (zi (zf 7) (zi (zf 3) (zB))))))
@[reducible] noncomputable def ck:FS :=
 zU 7 true (uC (zK (f2 zT (zf 7) (fC (.int 0))) (zK (f2 y9 (f2 zT (zf 7) (fC (.int 1))) (fC (.int 1))) (yj))))
@[reducible] noncomputable def cj:FS :=
 zL (zU 6 true (zA yL (zi (zf 0) (zi (f2 y9 (zf 1) (zf 5)) (zB)))))
 (zL (zU 7 true (uC (zK (f2 qm (f2 pI (fC (.int 2)) (f2 yQ (zf 6) (fC (.int 6)))) (fC (.int 1))) (zK (f2 qm (f2 yQ (f2 v8 (zf 6) (fC (.int 6))) (fC (.int 9))) (fC (.int 1))) (yj)))))
 (zL (Te)
 (zL (q0 (eE)
 (ck) 100)
 (qY 4 (zf 7)))))
noncomputable def dF:FS :=
 zL (zU 4 false (xV (yj)))
 (zL (vq (rH (zi (zf 2) (zB))) (gN 5)
 (cj))
 (yJ (zf 4)))
noncomputable def il:List D→Out Val:=zX 8 dF
theorem Xh:∀ds v,ds.length=4→il ds=.ok v→zX 8 dF ds=.ok v:=fun _ _ _ h=>h
theorem Sh {ft:FT}{fb:FS}{n:Nat}{env:Ev}(h:ft env=.ok false):q0 ft fb (n+1) env=.ok (.next env):=by
 unfold q0;rw[h];rfl
theorem aH (ns:List Int)(s1 s2:Slot)(ps got:List zk)(k:Int)(s6:Slot)(hk:0<k)(hne:got≠[])(hgo:gf (ye got)):∀(n m:Nat) (c:zk),gf c→vo (ye got) (uU (ye got) ps n c) ps=false →
 q0 eE ck (n+1+m) [.p (.scr ns),s1,s2,.p (.l (ps.map zd)),.own (got.map zd),.p (.int k),s6,.p (zd c)] =
  .ok (.next [.p (.scr ns),s1,s2,.p (.l (ps.map zd)),.own (got.map zd),.p (.int k),s6,.p (zd (uU (ye got) ps n c))]):=by
 have hlast:sZ (got.map zd) (-1)=some (zd (ye got)):=by
  unfold ye;rw[nG,sac,sar,←sbi,saC,saK hne];rfl
 have htest:∀c:zk,gf c→eE [.p (.scr ns),s1,s2,.p (.l (ps.map zd)),.own (got.map zd),.p (.int k),s6,.p (zd c)]=.ok (vo (ye got) c ps):=by
  intro c hc;have hh:=Zm (Xg hgo hc) ps;simp[hlast,hh,hk]
 intro n
 induction n with
 | zero=>
   intro m c hc hf;rw[show 0+1+m=m+1 by lia];unfold q0;rw[htest c hc,zh];have hf':vo (ye got) c ps=false:=hf;rw[hf'];rfl
 | succ n ih=>
   intro m c hc hf;rw[show n+1+1+m=(n+1+m)+1 by lia];unfold q0;rw[htest c hc,zh];unfold uU at hf ⊢;by_cases hq:vo (ye got) c ps=true
   ·rw[sak hq]at hf;rw[sak hq,sak hq]
    have hb:ck [.p (.scr ns),s1,s2,.p (.l (ps.map zd)),.own (got.map zd),.p (.int k),s6,.p (zd c)]=.ok (.next [.p (.scr ns),s1,s2,.p (.l (ps.map zd)),.own (got.map zd),.p (.int k),s6,.p (zd (c.1,c.2+1))]):=by
     simp[zd,YQ,Rz]
    rw[hb,zh];exact ih m (c.1,c.2+1) hc hf
   ·rw[sal hq,sal hq]
theorem UF (ns:List Int)(zy many:Int)(ps:List zk)(h0:0≤zy)(h3:zy≤1000)(h1:0≤many)(h2:many≤1000)(hp:ps.length≤12) :
 il [.scr ns,.int zy,.int many,.l (ps.map zd)]=.ok (.fresh ((zN ns zy ps many.toNat).map zd)):=by
 have loop:=iG (g:=gN 5) (fb:=cj) (fun j env=>∃s5 s6 s7,env=[.p (.scr ns),.p (.int zy),.p (.int many),.p (.l (ps.map zd)),.own ((zN ns zy ps j).map zd),s5,s6,s7])
  (uv 0 many.toNat) 0 [.p (.scr ns),.p (.int zy),.p (.int many),.p (.l (ps.map zd)),.own [],.un,.un,.un] ⟨_,_,_,rfl⟩ (by
   rintro j d env _ hd ⟨s5,s6,s7,rfl⟩;obtain⟨hj,rfl⟩:=Z8 hd;rw[Nat.sub_zero]at hj ⊢
   have hm:yL [.scr ns,.int (zy+(0+(j:Int)))]=.ok (.p (.int (zD ns (zy+j)))):=by
    unfold yL;simp;lia
   have hlen:=rz ns zy ps j;refine⟨_,[.p (.scr ns),.p (.int zy),.p (.int many),.p (.l (ps.map zd)),.own ((zN ns zy ps (j+1)).map zd),.p (.int (0+(j:Int))),.p (.int (zD ns (zy+j))),.p (zd (sH ns zy ps j (zN ns zy ps j)))],rfl,?_,⟨_,_,_,rfl⟩⟩;have hd6:oC (zD ns (zy+j)) 6=true:=vk (by decide) (by decide);have hd54:oC (zD ns (zy+j)) 54=true:=vk (by decide) (by decide);have hc2:∀i,sY 2 i=true:=fun i=>qA (by decide) (by decide);have h6:yL [.scr ns,.int (zy+(j:Int))]=.ok (.p (.int (zD ns (zy+j)))):=by simpa using hm
   have hlt:(zN ns zy ps j).length<100000:=by lia
   have hend:∀c:zk,qY 4 (zf 7) [.p (.scr ns),.p (.int zy),.p (.int many),.p (.l (ps.map zd)),.own ((zN ns zy ps j).map zd),.p (.int (0+(j:Int))),.p (.int (zD ns (zy+j))),.p (zd c)] =
    .ok (.next [.p (.scr ns),.p (.int zy),.p (.int many),.p (.l (ps.map zd)),.own ((zN ns zy ps j++[c]).map zd),.p (.int (0+(j:Int))),.p (.int (zD ns (zy+j))),.p (zd c)]):=by
    intro c;simp[hlt]
   unfold cj;rw[zq (env':=[.p (.scr ns),.p (.int zy),.p (.int many),.p (.l (ps.map zd)),.own ((zN ns zy ps j).map zd),.p (.int (0+(j:Int))),.p (.int (zD ns (zy+j))),s7]) (by simp[h6])];rw[zq (env':=[.p (.scr ns),.p (.int zy),.p (.int many),.p (.l (ps.map zd)),.own ((zN ns zy ps j).map zd),.p (.int (0+(j:Int))),.p (.int (zD ns (zy+j))),.p (zd (vh (zD ns (zy+j))))]) (by simp[hd6,hc2,zd,vh])];by_cases hj0:j=0
   ·subst hj0;rw[zq (env':=[.p (.scr ns),.p (.int zy),.p (.int many),.p (.l (ps.map zd)),.own ((zN ns zy ps 0).map zd),.p (.int (0+((0:Nat):Int))),.p (.int (zD ns (zy+(0:Nat)))),.p (zd (vh (zD ns (zy+(0:Nat)))))]) (by simp)];rw[zq (Sh (n:=99) (by simp))];exact hend _
   ·have hjp:(0:Int)<0+(j:Int):=by lia
    have hne:zN ns zy ps j≠[]:=fun z=>hj0 (by rw[←hlen,z];rfl);have hodd:=pA ns zy ps j _ (rD hne)
    have hlast:sZ ((zN ns zy ps j).map zd) (-1)=some (zd (ye (zN ns zy ps j))):=by
     unfold ye;rw[nG,sac,sar,←sbi,saC,saK hne];rfl
    have hcv:sH ns zy ps j (zN ns zy ps j)=uU (ye (zN ns zy ps j)) ps 12 (if zD ns (zy+j) / 54%6=1 then ye (zN ns zy ps j)else vh (zD ns (zy+j))):=by
     unfold sH;rw[sal hj0]
    have hcodd:gf (if zD ns (zy+j) / 54%6=1 then ye (zN ns zy ps j)else vh (zD ns (zy+j))):=by
     split
     ·exact hodd
     ·exact pS _
    rw[zq (env':=[.p (.scr ns),.p (.int zy),.p (.int many),.p (.l (ps.map zd)),.own ((zN ns zy ps j).map zd),.p (.int (0+(j:Int))),.p (.int (zD ns (zy+j))),.p (zd (if zD ns (zy+j) / 54%6=1 then ye (zN ns zy ps j)else vh (zD ns (zy+j))))]) (by
     have hjp':0<j:=by lia
     by_cases hq:zD ns (zy+j) / 54%6=1
     ·simp[hjp',hd54,hq,hlast]
     ·simp[hjp',hd54,hq])]
    rw[zq (aH ns (.p (.int zy)) (.p (.int many)) ps (zN ns zy ps j) (0+(j:Int)) (.p (.int (zD ns (zy+j)))) hjp hne hodd 12 87 _ hcodd (fF _ ps 12 _ hp))];rw[←hcv]
    exact hend _)
 obtain⟨env',e,s5,s6,s7,rfl⟩:=loop;rw[Z7,scy]at e;have hb : -1000000≤many∧many≤1000000:=by lia
 unfold il;simp[dF,hb,e]
@[reducible] noncomputable def tM:FS :=
 wk (vF (zV (f2 nM (f2 yQ (zf 2) (fC (.int 5))) (fC (.int 1)))) (zV (f2 oB (zf 1) (xV (yj)))))
 (zL (zU 3 true (f2 yQ (f2 v8 (zf 2) (fC (.int 5))) (fB vp (zi (zf 0) (zB)))))
 (yJ (f2 y9 (f2 y9 (ku (zf 0) (jn) (mQ (zf 3))) (xV (zK (uC (zK (f2 zT (f2 zT (zf 1) (f1 yM (fC (.int 1)))) (fC (.int 0))) (zK (f2 zT (f2 zT (zf 0) (zf 3)) (fC (.int 1))) (yj)))) (yj)))) (ku (zf 0) (mQ (f2 y9 (zf 3) (fC (.int 1)))) (jn)))))
 (wY)
@[reducible] noncomputable def qk:FS :=
 wk (zV (f2 nM (f2 yQ (zf 2) (fC (.int 5))) (fC (.int 2))))
 (yJ (ku (ku (zf 0) (mQ (f2 yQ (f2 v8 (zf 2) (fC (.int 5))) (fB vp (zi (zf 0) (zB))))) (jn)) (jn) (mQ (fC (.int 1)))))
 (wY)
@[reducible] noncomputable def nh:FS :=
 wk (zV (f2 nM (f2 yQ (zf 2) (fC (.int 5))) (fC (.int 3))))
 (yJ (xV (yj)))
 (wY)
noncomputable def xR:FS :=
 zL (tM)
 (zL (qk)
 (zL (nh)
 (yJ (zf 0))))
noncomputable def vx:List D→Out Val:=zX 4 xR
theorem dg:∀ds v,ds.length=3→vx ds=.ok v→zX 4 xR ds=.ok v:=fun _ _ _ h=>h
theorem aD {ps rope:List zk}(m:Int)(hp:∀p∈ps,0≤p.1∧p.1≤8)(hne:rope≠[])(hl:rope.length≤20)(hb:∀c∈rope,rj c):∃cs:List zk,
 (vx [.l (rope.map zd),.l (ps.map zd),.int m]=.ok (.fresh (cs.map zd))∨vx [.l (rope.map zd),.l (ps.map zd),.int m]=.ok (.p (.l (cs.map zd))))∧cs.length≤50∧∀c∈cs,rj c:=by
 have hd5:oC m 5=true:=vk (by decide) (by decide);have hlp:0<rope.length:=List.length_pos_iff.mpr hne
 obtain⟨a,ha⟩:∃a,a=m / 5%(rope.length:Int):=⟨_,rfl⟩
 have ha0:0≤a:=by rw[ha];exact sbz _ (by lia)
 have ha1:a<rope.length:=by rw[ha];exact sbC _ (by lia)
 have hsub:∀lo hi,∀c∈pQ rope lo hi,rj c:=fun lo hi c hc=>hb c ((mC rope lo hi).subset hc);have hsl:∀lo hi,(pQ rope lo hi).length≤20:=fun lo hi=>sbq (mC rope lo hi).length_le hl
 have hnilp:zV (f2 oB (zf 1) (xV (yj))) [.p (.l (rope.map zd)),.p (.l (ps.map zd)),.p (.int m),.un]=.ok (decide (ps≠[])):=by
  show zV (fun _=>oB (.l (ps.map zd)) (.l [])) []=_;have hs:vE 4 (.l [])=true:=rfl
  cases ps with
  |nil=>simp only[List.map_nil,zV,oB,hs,Bool.or_true,if_true,jo,my];rfl
  |cons c cs=>simp only[List.map_cons,zV,oB,hs,Bool.or_true,if_true,jo,YB];rfl
 have ht:∀v:Int,zV (f2 nM (f2 yQ (zf 2) (fC (.int 5))) (fC (.int v))) [.p (.l (rope.map zd)),.p (.l (ps.map zd)),.p (.int m),.un]=.ok (decide (m%5=v)):=by
  intro v;simp;rfl
 unfold vx;by_cases h1:m%5=1∧ps≠[]
 ·obtain⟨h1,h2⟩:=h1
  obtain⟨i,hi⟩:∃i:Nat,a=i:=⟨a.toNat,by lia⟩
  have hil:i<rope.length:=by lia
  have hat:=i0 rope i a hi hil;have hlast:=om h2;have hbp:=hp _ (rD h2);have hbi:=(hb _ (List.getElem_mem hil)).2;have l1:=hsl none (some a);have l2:=hsl (some (a+1)) none;refine⟨pQ rope none (some a)++[((ye ps).1,rope[i].2)]++pQ rope (some (a+1)) none,.inl ?_,by simp;lia,fun c hc=>?_⟩
  ·show((xR [.p (.l (rope.map zd)),.p (.l (ps.map zd)),.p (.int m),.un]).bind _)=_;unfold xR
   rw[uY (v:=.fresh ((pQ rope none (some a)++[((ye ps).1,rope[i].2)]++pQ rope (some (a+1)) none).map zd)) (by
    simp only[tM,wk,vF,ht,hnilp,zh,h1,h2,ne_eq,not_false_eq_true,decide_true,if_true]
    rw[zq (env':=[.p (.l (rope.map zd)),.p (.l (ps.map zd)),.p (.int m),.p (.int a)]) (by
     simp[hd5,hlp,ha])]
    have c1:(pQ rope none (some a)).length+1≤100000:=by lia
    have c2:(pQ rope none (some a)).length+1+(pQ rope (some (a+1)) none).length≤100000:=by lia
    simp[YL,hat,hlast,zd,YQ,Rz,c1,c2])]
   rfl
  ·rcases sas.mp hc with hc|hc
   ·rcases sas.mp hc with hc|hc
    ·exact hsub _ _ c hc
    ·rw[saf]at hc;subst hc;exact⟨⟨by show -1≤(ye ps).1;lia,by show(ye ps).1≤10;lia⟩,hbi⟩
   ·exact hsub _ _ c hc
 ·have e1:tM [.p (.l (rope.map zd)),.p (.l (ps.map zd)),.p (.int m),.un]=.ok (.next [.p (.l (rope.map zd)),.p (.l (ps.map zd)),.p (.int m),.un]):=by
   by_cases h:m%5=1
   ·have h2:decide (ps≠[])=false:=by
     rw[scw];exact fun z=>h1 ⟨h,z⟩
    simp only[tM,wk,vF,ht,hnilp,zh,h,h2,decide_true,if_true];rfl
   ·simp only[tM,wk,vF,ht,zh,h,decide_false];rfl
  by_cases h2:m%5=2
  ·refine⟨pQ (pQ rope (some a) none) none (some 1),.inl ?_,?_,fun c hc=>hsub _ _ c ((mC _ _ _).subset hc)⟩
   ·show((xR [.p (.l (rope.map zd)),.p (.l (ps.map zd)),.p (.int m),.un]).bind _)=_;unfold xR
    rw[zq e1,uY (v:=.fresh ((pQ (pQ rope (some a) none) none (some 1)).map zd)) (by
     simp only[qk,wk,ht,zh,h2,decide_true,if_true]
     simp[hd5,hlp,YL,←ha])]
    rfl
   ·have:=(mC (pQ rope (some a) none) none (some 1)).length_le;have:=hsl (some a) none;lia
  ·have e2:qk [.p (.l (rope.map zd)),.p (.l (ps.map zd)),.p (.int m),.un]=.ok (.next [.p (.l (rope.map zd)),.p (.l (ps.map zd)),.p (.int m),.un]):=by
    simp only[qk,wk,ht,zh,h2,decide_false];rfl
   by_cases h3:m%5=3
   ·refine⟨[],.inl ?_,by simp,fun c hc=>by cases hc⟩;show((xR [.p (.l (rope.map zd)),.p (.l (ps.map zd)),.p (.int m),.un]).bind _)=_;unfold xR
    rw[zq e1,zq e2,uY (v:=.fresh []) (by
     simp only[nh,wk,ht,zh,h3,decide_true,if_true]
     rfl)]
    rfl
   ·refine⟨rope,.inr ?_,by lia,hb⟩;show((xR [.p (.l (rope.map zd)),.p (.l (ps.map zd)),.p (.int m),.un]).bind _)=_;unfold xR
    rw[zq e1,zq e2,zq (env':=[.p (.l (rope.map zd)),.p (.l (ps.map zd)),.p (.int m),.un]) (by
     simp only[nh,wk,ht,zh,h3,decide_false]
     rfl)]
    rfl
@[reducible] noncomputable def S_:FS :=
 wk (zV (f2 mO (fB vp (zi (zf 1) (zB))) (fC (.int 2))))
 (yJ (fC (.int 0)))
 (wY)
@[reducible] noncomputable def lG:FE :=
 zf 0
@[reducible] noncomputable def S7:FS :=
 wk (zV (f2 h_ (f2 zT (f2 zT (zf 1) (zf 2)) (fC (.int 0))) (yI [] 2 (xg (zf 0)) (gT [0,1]) (uN) (lG))))
 (yJ (zf 2))
 (wY)
@[reducible] noncomputable def V7:FS :=
 S7
@[reducible] noncomputable def S6:FS :=
 wk (oh (zA oG (zi (f2 zT (zf 1) (zf 2)) (zi (f2 zT (zf 1) (f2 y9 (zf 2) (fC (.int 1)))) (zi (zf 0) (zB))))))
 (yJ (zf 2))
 (wY)
@[reducible] noncomputable def V6:FS :=
 S6
noncomputable def bS:FS :=
 zL (S_)
 (zL (vq (rH (zi (fB vp (zi (zf 1) (zB))) (zB))) (gN 2)
 (V7))
 (zL (vq (rH (zi (f2 qm (fB vp (zi (zf 1) (zB))) (fC (.int 1))) (zB))) (gN 2)
 (V6))
 (yJ (fC .non))))
noncomputable def ip:List D→Out Val:=zX 3 bS
theorem Ve:∀ds v,ds.length=2→ip ds=.ok v→zX 3 bS ds=.ok v:=fun _ _ _ h=>h
theorem Ri {ps rope:List zk}(hp:ps.length<18)(hm:rope.length≤100)(hnr:∀q∈zW rope,My.near q.1 q.2):ip [.l (ps.map zd),.l (rope.map zd)]=.ok (.p (lH (pM ps rope))):=by
 have hlen:fB vp (zi (zf 1) (zB)) [.p (.l (ps.map zd)),.p (.l (rope.map zd)),.un]=.ok (.p (.int rope.length)):=by simp
 unfold ip;show((bS [.p (.l (ps.map zd)),.p (.l (rope.map zd)),.un]).bind _)=_;unfold bS pM;by_cases h2:rope.length<2
 ·rw[sak h2,uY (v:=.p (.int 0)) (by
   have:(rope.length:Int)<2:=by lia
   simp[this])]
  rfl
 rw[sal h2,zq (env':=[.p (.l (ps.map zd)),.p (.l (rope.map zd)),.un]) (by
  have:¬(rope.length:Int)<2:=by lia
  simp[this])]
 have hr1:rH (zi (fB vp (zi (zf 1) (zB))) (zB)) [.p (.l (ps.map zd)),.p (.l (rope.map zd)),.un]=.ok (uv 0 rope.length):=by
  rw[eQ (n:=(rope.length:Int)) (by simp) (by lia)];congr 2
 have hxs:∀s,yI [] 2 (xg (zf 0)) (gT [0,1]) (uN) (lG) [.p (.l (ps.map zd)),.p (.l (rope.map zd)),s]=.ok (.fresh ((ps.map (·.1)).map D.int)):=by
  intro s
  have hc:xr (gT [0,1]) uN lG (ps.map zd) [.un,.un]=.ok ((ps.map (·.1)).map D.int):=by
   rw[wm (fun env=>∃s s',env=[s,s']) zd (fun p=>some (.int p.1)) ps [.un,.un] ⟨_,_,rfl⟩ (fun p env _ ⟨s,s',he⟩=>by
    subst he
    exact⟨[.p (.int p.1),.p (.int p.2)],rfl,⟨_,_,rfl⟩,.inr ⟨_,.p (.int p.1),rfl,rfl,rfl,rfl⟩⟩)]
   rw[sbK,sbj];rfl
  have hl:ps.length≤100000:=by lia
  have hi:xg (zf 0) [.p (.l (ps.map zd)),.p (.l (rope.map zd)),s]=.ok (ps.map zd):=rfl;simp only[yI,hi,zh,sac,hl,if_true];show((xr (gT [0,1]) uN lG (ps.map zd) [.un,.un]).bind _)=_;rw[hc];rfl
 have hin:∀x:Int,((ps.map (·.1)).map D.int).any (fun z=>nN z (.int x))=decide (x∈ps.map (·.1)):=by
  intro x;rw[sbV,saW,saD];constructor
  ·rintro⟨z,hz,e⟩;obtain⟨y,hy,rfl⟩:=saJ.mp hz;rw[sE]at e;rw[←eq_of_beq e];exact hy
  ·intro hx;exact⟨.int x,sbL hx,by rw[sE];simp⟩
 have F1:=iI (g:=gN 2) (fb:=V7) (p:=fun c:zk=>decide (c.1∈ps.map (·.1))) (mk:=fun s=>[.p (.l (ps.map zd)),.p (.l (rope.map zd)),s]) (xs:=rope) (fun j c s hj=>by
  refine⟨rfl,?_⟩;obtain⟨hjl,rfl⟩:=saj.mp hj;have ha:=i0 rope j j rfl hjl
  have ht:zV (f2 h_ (f2 zT (f2 zT (zf 1) (zf 2)) (fC (.int 0))) (yI [] 2 (xg (zf 0)) (gT [0,1]) (uN) (lG))) [.p (.l (ps.map zd)),.p (.l (rope.map zd)),.p (.int j)]=.ok (decide (rope[j].1∈ps.map (·.1))):=by
   have hi:f2 zT (f2 zT (zf 1) (zf 2)) (fC (.int 0)) [.p (.l (ps.map zd)),.p (.l (rope.map zd)),.p (.int j)]=.ok (.p (.int rope[j].1)):=by simp[ha,zd,YQ]
   have hg:f2 h_ (f2 zT (f2 zT (zf 1) (zf 2)) (fC (.int 0))) (yI [] 2 (xg (zf 0)) (gT [0,1]) (uN) (lG)) [.p (.l (ps.map zd)),.p (.l (rope.map zd)),.p (.int j)]=h_ (.int rope[j].1) (.l ((ps.map (·.1)).map D.int)):=by
    show((f2 zT (f2 zT (zf 1) (zf 2)) (fC (.int 0)) [.p (.l (ps.map zd)),.p (.l (rope.map zd)),.p (.int j)]).bind _)=_;rw[hi,zh,hxs,zh];rfl
   unfold zV;rw[hg];have hin':=hin rope[j].1;simp only[h_,hin'];rfl
  show wk _ _ _ _=_;simp only[wk,ht,zh]
  split <;> rfl) rope 0 .un rfl
 rcases F1 with⟨i,z1,z2⟩|⟨z1,s',z2⟩
 ·rw[z1,uY (v:=.p (.int ((0+i:Nat):Int))) (by
   simp only[vq,hr1,zh]
   exact z2)]
  simp[lH]
 ·rw[z1,zq (env':=[.p (.l (ps.map zd)),.p (.l (rope.map zd)),s']) (by
   simp only[vq,hr1,zh]
   exact z2)]
  have hr2:rH (zi (f2 qm (fB vp (zi (zf 1) (zB))) (fC (.int 1))) (zB)) [.p (.l (ps.map zd)),.p (.l (rope.map zd)),s']=.ok (uv 0 (zW rope).length):=by
   rw[eQ (n:=(rope.length:Int) - 1) (by simp) (by lia)];congr 2;simp[zW]
  have F2:=iI (g:=gN 2) (fb:=V6) (p:=fun q:zk×zk=>vo q.1 q.2 ps) (mk:=fun s=>[.p (.l (ps.map zd)),.p (.l (rope.map zd)),s]) (xs:=zW rope) (fun j q s hj=>by
   refine⟨rfl,?_⟩;obtain⟨hjl,hjq⟩:=saj.mp hj;have hjl':j+1<rope.length:=by simp[zW]at hjl;lia
   have hq:q=(rope[j],rope[j+1]):=by
    rw[←hjq];simp[zW,List.getElem_zip,List.getElem_tail]
   subst hq;have hh:=Zm (hnr _ (saA hj)) ps;simp only at hh;have ha:=i0 rope j j rfl (by lia);have hb:=i0 rope (j+1) ((j:Int)+1) (by lia) hjl'
   have hc:zA oG (zi (f2 zT (zf 1) (zf 2)) (zi (f2 zT (zf 1) (f2 y9 (zf 2) (fC (.int 1)))) (zi (zf 0) (zB)))) [.p (.l (ps.map zd)),.p (.l (rope.map zd)),.p (.int j)]=.ok (.p (.bl (vo rope[j] rope[j+1] ps))):=by
    simp[ha,hb,hh]
   show wk _ _ _ _=_;simp only[wk,oh,hc,zh,Val.d,TQ]
   split <;> rfl) (zW rope) 0 s' rfl
  rcases F2 with⟨i,z1,z2⟩|⟨z1,s',z2⟩
  ·simp only[z1]
   rw[uY (v:=.p (.int ((0+i:Nat):Int))) (by
    simp only[vq,hr2,zh]
    exact z2)]
   simp[lH]
  ·simp only[z1]
   rw[zq (env':=[.p (.l (ps.map zd)),.p (.l (rope.map zd)),s']) (by
    simp only[vq,hr2,zh]
    exact z2)]
   rfl
noncomputable def wF:FS :=
 yJ (oK (f2 nM (ku (zf 0) (jn) (mQ (fC (.int 3)))) (ku (zf 1) (jn) (mQ (fC (.int 3))))) (f2 oB (f2 zT (zf 0) (fC (.int 3))) (f2 zT (zf 1) (fC (.int 3)))))
noncomputable def yO:List D→Out Val
 | [a,b]=>match nI a,nI b with
   |some g,some h=>.ok (.p (.bl (X_ g h)))
   |_,_=>.bad
 |_=>.bad
theorem ma:∀ds v,ds.length=2→yO ds=.ok v→zX 2 wF ds=.ok v:=by
 intro ds v hlen h;clear hlen;unfold yO at h;split at h
 ·split at h
  ·rename_i g h' h1 h2;cases h;rw[lU h1,lU h2];have a3:∀a b c d:D,sZ [a,b,c,d] 3=some d:=fun _ _ _ _=>rfl;have e3:=Py g h';by_cases hc:g.x=h'.x∧g.lo=h'.lo∧g.hi=h'.hi
   ·rw[sap hc]at e3;have ho:X_ g h' = !decide (g.w=h'.w):=by simp[X_,hc]
    rw[ho];by_cases hw:g.w=h'.w
    ·simp[wF,zl,Rt,WK,jJ,e3,a3,hw]
    ·simp[wF,zl,Rt,WK,jJ,e3,a3,hw]
   ·rw[saB hc]at e3;simp[wF,zl,Rt,WK,jJ,e3,a3,X_,hc]
  ·cases h
 ·cases h
noncomputable def sT:FS :=
 zL (zU 1 false (xV (yj)))
 (zL (vq (xg (zf 0)) (gN 2)
 (wk (vF (oh (zf 1)) (oh (zA yO (zi (f2 zT (zf 1) (f1 yM (fC (.int 1)))) (zi (zf 2) (zB))))))
 (W1 1)
 (qY 1 (zf 2))))
 (yJ (zf 1)))
theorem fg (row s2:Slot):∀(gs st:List Ga) (s2:Slot),st.length+gs.length≤10000 →
 ∃s2',x4 (gN 2) (wk (vF (oh (zf 1)) (oh (zA yO (zi (f2 zT (zf 1) (f1 yM (fC (.int 1)))) (zi (zf 2) (zB))))))
 (W1 1)
 (qY 1 (zf 2))) (gs.map zl) [row,.own (st.map zl),s2]=.ok (.next [row,.own ((gs.foldl t_ st).map zl),s2'])
 |[],st,s2,_=>⟨s2,rfl⟩
 | g::gs,st,s2,hl=>by
   have hstep:=g_ st g;obtain⟨s2',e⟩:=fg row s2 gs (t_ st g) (.p (zl g)) (by simp at hl;lia);refine⟨s2',?_⟩;rw[List.map_cons,List.foldl_cons]
   have body:(wk (vF (oh (zf 1)) (oh (zA yO (zi (f2 zT (zf 1) (f1 yM (fC (.int 1)))) (zi (zf 2) (zB)))))) (W1 1) (qY 1 (zf 2))) [row,.own (st.map zl),.p (zl g)]=.ok (.next [row,.own ((t_ st g).map zl),.p (zl g)]):=by
    unfold t_
    cases q:st.getLast? with
    | none=>
      have:st=[]:=List.getLast?_eq_none_iff.mp q;subst this;simp
    | some t=>
      have hne:st≠[]:=fun z=>by subst z;cases q
      have hpos:0<st.length:=List.length_pos_iff.mpr hne
      have hat:sZ (st.map zl) (-1)=some (zl t):=by
       rw[nG,sac,sar,←sbi,q];rfl
      have hemp:(st.map zl).isEmpty=false:=by cases st <;> simp_all
      have hcall:yO [zl t,zl g]=.ok (.p (.bl (X_ t g))):=by simp[yO,kF]
      have hne2:¬st.length=0:=by lia
      have hlt:st.length<100000:=by simp at hl;lia
      cases ho:X_ t g with
      |true=>simp[hat,hcall,ho,hne,hne2,List.map_dropLast]
      |false=>simp[hat,hcall,ho,hne,hlt]
   simp only[x4,gN,List.set_cons_succ,List.set_cons_zero,zh];rw[body];exact e
noncomputable def xy:List D→Out Val
 | [.l ds]=>match oq ds with
   |some gs=>if gs.length≤10000 then .ok (.fresh ((wX gs).map zl))else .bad
   |none=>.bad
 |_=>.bad
theorem ll:∀ds v,ds.length=1→xy ds=.ok v→zX 3 sT ds=.ok v:=by
 intro ds v hlen h;clear hlen;unfold xy at h;split at h
 ·split at h
  ·rename_i gs hg;split at h
   ·rename_i hl;cases h;rw[i6 hg];obtain⟨s2',e⟩:=fg (.p (.l (gs.map zl))) .un gs [] .un (by simpa using hl);unfold sT;show(((zL _ _:FS) _).bind _)=_;rw[zq (env':=[.p (.l (gs.map zl)),.own [],.un]) (by simp)]
    rw[zq (env':=[.p (.l (gs.map zl)),.own ((gs.foldl t_ []).map zl),s2']) (by
     simp only[vq,xg,zf,List.getElem?_cons_zero,zh,Val.hold]
     exact e)]
    rfl
   ·cases h
  ·cases h
 ·cases h
noncomputable def lD:FS :=
 zL (wk (zV (f2 mO (f1 xP (zf 0)) (fB vp (zi (zf 0) (zB))))) (fun _=>.bad) (wY)) ly
noncomputable def xl:List D→Out Val
 | [.l ds]=>match u9 ds with
   |some ps=>if ps.length<18∧ps.Nodup then .ok (.fresh ((zo ps).map zJ))else .bad
   |none=>.bad
 |_=>.bad
theorem dh:∀ds v,ds.length=1→xl ds=.ok v→zX 4 lD ds=.ok v:=by
 intro ds v hlen h;clear hlen;unfold xl at h;split at h
 ·rename_i ds;split at h
  ·rename_i ps hps;split at h
   ·rename_i hb;cases h;obtain⟨hl,hn⟩:=hb;have hds:=qD hps;subst hds
    have hlen:xP (.l (ps.map zd))=.ok (.p (.int ps.length)):=by
     have h2:(wZ (ps.map r8)).length=ps.length:=by rw[o9 (jW hn),sac]
     simp only[xP,wN,hl,if_true,h2]
    have he:(v7 (vX ps)).map Tg=(zo ps).map zJ:=by rw[dD hn];rfl
    have ht:zV (f2 mO (f1 xP (zf 0)) (fB vp (zi (zf 0) (zB)))) [.p (.l (ps.map zd)),.un,.un,.un]=.ok false:=by
     simp only[zV,f2,f1,zf,List.getElem?_cons_zero,zh,Val.d,hlen,fB,zi,zB,frz,List.map_cons,List.map_nil,vp,sac,mO,Rc,Int.lt_irrefl,decide_false]
    unfold lD;show(((zL _ _:FS) [.p (.l (ps.map zd)),.un,.un,.un]).bind _)=_
    rw[zq (env':=[.p (.l (ps.map zd)),.un,.un,.un]) (by
     simp only[wk,ht,zh]
     rfl)]
    have hl2:ly [.p (.l (ps.map zd)),.un,.un,.un]=.ok (.ret (.fresh ((v7 (vX ps)).map Tg))):=by
     simp only[ly,List.getElem?_cons_zero,wN];rw[sak ⟨hl,hn⟩]
    rw[hl2,zh,he]
   ·cases h
  ·cases h
 ·cases h
noncomputable def Oe:RX:=fun env x=>(zV (f2 mO (f1 xP (zf 0)) (fB vp (zi (zf 0) (zB))))) env=.ok true∧x=(("NoPegs" : Str),none)
noncomputable def ou:List D→Xc→Prop:=c0 4 Oe
theorem Xq {ps:List zk}(hl:ps.length<18)(hn:¬ps.Nodup):ou [.l (ps.map zd)] (("NoPegs" : Str),none):=by
 obtain⟨h1,h2⟩:=WE hl;rw[saB hn]at h2;refine⟨?_,rfl⟩;show((((xP (.l (ps.map zd))).bind _).bind _):Out Bool)=_;rw[h1];show Out.ok (decide (((wZ (ps.map r8)).length:Int)<((ps.map zd).length:Int)))=_;rw[sac,h2];rfl
@[reducible] noncomputable def yx:FE :=
 f2 zT (zf 0) (fC (.int 0))
@[reducible] noncomputable def oA:FS :=
 wk (zV (f2 h_ (f2 zT (zf 4) (fC (.int 0))) (zf 2)))
 (fun _=>.bad)
 (wY)
@[reducible] noncomputable def y0:FS :=
 oA
noncomputable def yH:FS :=
 zL (zU 2 true (yI [] 1 (xg (zf 0)) (gN 0) (uN) (yx)))
 (vq (XI (zf 1)) (gT [3,4])
 (y0))
noncomputable def yG:List D→Out Val:=zX 5 yH
theorem qS:∀ds v,ds.length=2→yG ds=.ok v→zX 5 yH ds=.ok v:=fun _ _ _ h=>h
theorem kA (s0 s1:Slot)(xs:List Int):∀(cs:List zk) (k:Nat) (s3 s4:Slot),(∀c∈cs,c.1∉xs)→∃s3' s4',x4 (gT [3,4]) y0 (uD k (cs.map zd)) [s0,s1,.p (.l (xs.map .int)),s3,s4]=.ok (.next [s0,s1,.p (.l (xs.map .int)),s3',s4'])
 |[],k,s3,s4,_=>⟨s3,s4,rfl⟩
 | c::cs,k,s3,s4,h=>by
   obtain⟨s3',s4',e⟩:=kA s0 s1 xs cs (k+1) (.p (.int k)) (.p (zd c)) fun c hc=>h c (by simp[hc]);refine⟨s3',s4',?_⟩
   have hin:((xs.map D.int).any fun z=>nN z (.int c.1))=false:=by
    rw[scj];intro z hz;obtain⟨x,hx,rfl⟩:=saJ.mp hz;rw[sE];simp;intro q;exact h c (by simp) (q ▸ hx)
   have step:y0 [s0,s1,.p (.l (xs.map .int)),.p (.int k),.p (zd c)]=.ok (.next [s0,s1,.p (.l (xs.map .int)),.p (.int k),.p (zd c)]):=by
    have ht:zV (f2 h_ (f2 zT (zf 4) (fC (.int 0))) (zf 2)) [s0,s1,.p (.l (xs.map .int)),.p (.int k),.p (zd c)]=.ok false:=by
     have hi:f2 zT (zf 4) (fC (.int 0)) [s0,s1,.p (.l (xs.map .int)),.p (.int k),.p (zd c)]=.ok (.p (.int c.1)):=by simp[zd,YQ]
     have hv:zf 2 [s0,s1,.p (.l (xs.map .int)),.p (.int k),.p (zd c)]=.ok (.p (.l (xs.map .int))):=rfl;unfold zV
     rw[show f2 h_ (f2 zT (zf 4) (fC (.int 0))) (zf 2) [s0,s1,.p (.l (xs.map .int)),.p (.int k),.p (zd c)]=h_ (.int c.1) (.l (xs.map .int))by
      show((f2 zT (zf 4) (fC (.int 0)) [s0,s1,.p (.l (xs.map .int)),.p (.int k),.p (zd c)]).bind _)=_
      rw[hi,zh,hv];rfl]
     simp only[h_,hin];rfl
    simp only[wk,ht,zh];rfl
   have hg:gT [3,4] (.tup [.int k,zd c]) [s0,s1,.p (.l (xs.map .int)),s3,s4]=.ok [s0,s1,.p (.l (xs.map .int)),.p (.int k),.p (zd c)]:=rfl;simp only[List.map_cons,uD,x4,hg,zh,step,e]
theorem iP {B:List x8}{rope:List zk}(hB:B.length≤1000)(h:∀c∈rope,c.1∉B.map (·.1)):yG [.l (B.map zJ),.l (rope.map zd)]=.ok (.p .non):=by
 obtain⟨s3,s4,e⟩:=kA (.p (.l (B.map zJ))) (.p (.l (rope.map zd))) (B.map (·.1)) rope 0 .un .un h;have hB2:B.length≤100000:=by lia
 have hc:xr (gN 0) uN yx (B.map zJ) [.un]=.ok ((B.map (·.1)).map .int):=by
  rw[wm (fun env=>∃s,env=[s]) zJ (fun l=>some (.int l.1)) B [.un] ⟨_,rfl⟩ (fun l env _ ⟨s,he⟩=>by
   subst he
   exact⟨[.p (zJ l)],rfl,⟨_,rfl⟩,.inr ⟨_,.p (.int l.1),rfl,rfl,by simp[zJ,PH],rfl⟩⟩)]
  rw[sbK,sbj];rfl
 unfold yG;show(yH [.p (.l (B.map zJ)),.p (.l (rope.map zd)),.un,.un,.un]).bind _=_
 have h0:yH [.p (.l (B.map zJ)),.p (.l (rope.map zd)),.un,.un,.un]=.ok (.next [.p (.l (B.map zJ)),.p (.l (rope.map zd)),.p (.l ((B.map (·.1)).map .int)),s3,s4]):=by
  unfold yH
  rw[zq (env':=[.p (.l (B.map zJ)),.p (.l (rope.map zd)),.p (.l ((B.map (·.1)).map .int)),.un,.un]) (by
   simp only[zU,yI,xg,zf,List.getElem?_cons_zero,zh,Val.hold,sac,hB2,if_true];show(((xr (gN 0) uN yx (B.map zJ) [.un]).bind _).bind _)=_;rw[hc]
   rfl)]
  exact e
 rw[h0];rfl
noncomputable def QR:RX:=fun env x=>(zV (f2 h_ (f2 zT (zf 4) (fC (.int 0))) (zf 2))) env=.ok true∧∃n,(zf 3) env=.ok (.p (.int n))∧x=(("NoRope" : Str),some n)
noncomputable def Oh:RX:=fun env x=>∃env',(zU 2 true (yI [] 1 (xg (zf 0)) (gN 0) (uN) (yx))) env=.ok (.next env')∧∃ds,(XI (zf 1)) env'=.ok ds∧Zs (gT [3,4]) y0 QR ds env' x
noncomputable def x6:List D→Xc→Prop:=c0 5 Oh
theorem gA {B:List x8}{rope:List zk}{i:Nat}(hB:B.length≤1000)(h:rope.findIdx? (fun c=>decide (c.1∈B.map (·.1)))=some i):x6 [.l (B.map zJ),.l (rope.map zd)] (("NoRope" : Str),some (i:Int)):=by
 have hB2:B.length≤100000:=by lia
 have hc:xr (gN 0) uN yx (B.map zJ) [.un]=.ok ((B.map (·.1)).map .int):=by
  rw[wm (fun env=>∃s,env=[s]) zJ (fun l=>some (.int l.1)) B [.un] ⟨_,rfl⟩ (fun l env _ ⟨s,he⟩=>by
   subst he
   exact⟨[.p (zJ l)],rfl,⟨_,rfl⟩,.inr ⟨_,.p (.int l.1),rfl,rfl,by simp[zJ,PH],rfl⟩⟩)]
  rw[sbK,sbj];rfl
 have hin:∀x:Int,((B.map (·.1)).map D.int).any (fun z=>nN z (.int x))=decide (x∈B.map (·.1)):=by
  intro x;rw[sbV,saW,saD];constructor
  ·rintro⟨z,hz,e⟩;obtain⟨y,hy,rfl⟩:=saJ.mp hz;rw[sE]at e;rw[←eq_of_beq e];exact hy
  ·intro hx;exact⟨.int x,sbL hx,by rw[sE];simp⟩
 have ht:∀(c:zk) (j:Nat),(zV (f2 h_ (f2 zT (zf 4) (fC (.int 0))) (zf 2))) [.p (.l (B.map zJ)),.p (.l (rope.map zd)),.p (.l ((B.map (·.1)).map .int)),.p (.int j),.p (zd c)]=.ok (decide (c.1∈B.map (·.1))):=by
  intro c j;have hi:f2 zT (zf 4) (fC (.int 0)) [.p (.l (B.map zJ)),.p (.l (rope.map zd)),.p (.l ((B.map (·.1)).map .int)),.p (.int j),.p (zd c)]=.ok (.p (.int c.1)):=by simp[zd,YQ]
  have hg:f2 h_ (f2 zT (zf 4) (fC (.int 0))) (zf 2) [.p (.l (B.map zJ)),.p (.l (rope.map zd)),.p (.l ((B.map (·.1)).map .int)),.p (.int j),.p (zd c)]=h_ (.int c.1) (.l ((B.map (·.1)).map .int)):=by
   show((f2 zT (zf 4) (fC (.int 0)) [.p (.l (B.map zJ)),.p (.l (rope.map zd)),.p (.l ((B.map (·.1)).map .int)),.p (.int j),.p (zd c)]).bind _)=_;rw[hi,zh];rfl
  unfold zV;rw[hg];have hin':=hin c.1;simp only[h_,hin'];rfl
 refine⟨[.p (.l (B.map zJ)),.p (.l (rope.map zd)),.p (.l ((B.map (·.1)).map .int)),.un,.un],?_,uD 0 (rope.map zd),rfl,?_⟩
 ·simp only[zU,yI,xg,zf,List.map_cons,List.map_nil,List.cons_append,List.getElem?_cons_zero,zh,Val.hold,sac,hB2,if_true];show(((xr (gN 0) uN yx (B.map zJ) [.un]).bind _).bind _)=_;rw[hc];rfl
 ·have:=oV (g:=gT [3,4]) (fb:=y0) (R:=QR) (c := "NoRope") (p:=fun c:zk=>decide (c.1∈B.map (·.1))) (toD:=zd) (mk:=fun s s'=>[.p (.l (B.map zJ)),.p (.l (rope.map zd)),.p (.l ((B.map (·.1)).map .int)),s,s']) rope 0 i .un .un (fun c _ j s s'=>⟨rfl,fun hp=>⟨(ht c j).trans (congrArg Out.ok hp),j,rfl,rfl⟩,fun hp=>by
   show wk _ _ _ _=_;simp only[wk,ht c j,zh,hp]
   rfl⟩) h
  rw[scy]at this;exact this
noncomputable def um:FS :=
 yJ (f2 Rb (zf 0) (ku (zf 0) (mQ (fC (.int 1))) (jn)))
noncomputable def yK:List D→Out Val:=zX 1 um
theorem lj:∀ds v,ds.length=1→yK ds=.ok v→zX 1 um ds=.ok v:=fun _ _ _ h=>h
theorem rW (rope:List zk):yK [.l (rope.map zd)]=.ok (.fresh ((zW rope).map zS)):=by
 have hcut:sV (rope.map zd) (some 1) none=rope.tail.map zd:=by
  rw[pP _ 1 1 rfl,List.drop_one,scI]
 have hz:((rope.map zd).zip (rope.tail.map zd)).map (fun p=>D.tup [p.1,p.2])=(zW rope).map zS:=by
  unfold zW;rw[List.zip_map,sbj];rfl
 unfold yK;simp[um,hcut];rw[←scI];exact hz
@[reducible] noncomputable def rV:FT :=
 zV (QA mO mO (zf 0) (f2 zT (zf 2) (fC (.int 0))) (zf 1))
@[reducible] noncomputable def dN:FE :=
 zf 2
@[reducible] noncomputable def dB:FS :=
 wk (zV (f2 mO (zf 2) (zf 3)))
 (yJ (yI [2,3] 1 (xg (zf 0)) (gN 2) (rV) (dN)))
 (wY)
@[reducible] noncomputable def rR:FT :=
 zV (QA mO mO (zf 0) (f2 zT (zf 2) (fC (.int 0))) (zf 1))
@[reducible] noncomputable def dI:FE :=
 zf 2
noncomputable def vA:FS :=
 zL (zU 2 true (f2 zT (f2 zT (zf 1) (fC (.int 0))) (fC (.int 0))))
 (zL (zU 3 true (f2 zT (f2 zT (zf 1) (fC (.int 1))) (fC (.int 0))))
 (zL (dB)
 (yJ (yI [3,2] 1 (Rg (zf 0)) (gN 2) (rR) (dI)))))
noncomputable def yd:List D→Out Val:=zX 4 vA
theorem ik:∀ds v,ds.length=2→yd ds=.ok v→zX 4 vA ds=.ok v:=fun _ _ _ h=>h
theorem iO {α:Type}{f:α→D}{ft:FT}(x y:Int)(p:α→Bool)(hp:∀l,ft [.p (.int x),.p (.int y),.p (f l)]=.ok (p l))(B:List α) :
 xr (gN 2) ft (zf 2) (B.map f) [.p (.int x),.p (.int y),.un]=.ok ((B.filter p).map f):=by
 rw[wm (fun env=>∃s2,env=[.p (.int x),.p (.int y),s2]) f (fun l=>if p l=true then some (f l)else none) B [.p (.int x),.p (.int y),.un] ⟨_,rfl⟩ (fun l env _ ⟨s2,he⟩=>by
  subst he;refine⟨[.p (.int x),.p (.int y),.p (f l)],rfl,⟨_,rfl⟩,?_⟩;have h:=hp l
  cases q:p l with
  |true=>rw[q]at h;exact .inr ⟨f l,.p (f l),sak rfl,h,rfl,rfl⟩
  |false=>rw[q]at h;exact .inl ⟨sal sai,h⟩)]
 rw[qp]
theorem b6 {α:Type}{f:α→D}{X:α→Int}(h0:∀l,zT (f l) (.int 0)=.ok (.p (.int (X l)))){B:List α}(hl:B.length≤1000)(q:zk×zk):yd [.l (B.map f),zS q]=.ok (.fresh ((PB X B q.1 q.2).map f)):=by
 unfold yd;show(vA [.p (.l (B.map f)),.p (zS q),.un,.un]).bind _=_
 have tst:∀(x y:Int) l,zV (QA mO mO (zf 0) (f2 zT (zf 2) (fC (.int 0))) (zf 1)) [.p (.int x),.p (.int y),.p (f l)]=.ok (decide (x<X l)&&decide (X l<y)):=fun x y l=>by
  have k:f2 zT (zf 2) (fC (.int 0)) [.p (.int x),.p (.int y),.p (f l)]=.ok (.p (.int (X l))):=h0 l
  by_cases h1:x<X l <;> simp[-f2,-zT,k,h1]
 have hl2:B.length≤100000:=by lia
 have h0:vA [.p (.l (B.map f)),.p (zS q),.un,.un]=.ok (.ret (.fresh ((PB X B q.1 q.2).map f))):=by
  unfold vA;rw[zq (env':=[.p (.l (B.map f)),.p (zS q),.p (.int q.1.1),.un]) rfl];rw[zq (env':=[.p (.l (B.map f)),.p (zS q),.p (.int q.1.1),.p (.int q.2.1)]) rfl];have ht:zV (f2 mO (zf 2) (zf 3)) [.p (.l (B.map f)),.p (zS q),.p (.int q.1.1),.p (.int q.2.1)]=.ok (decide (q.1.1<q.2.1)):=rfl;unfold PB;by_cases hlt:q.1.1<q.2.1
  ·rw[sak hlt];rw[sap hlt]at ht;have hc:=iO (f:=f) (ft:=rV) q.1.1 q.2.1 (fun l=>decide (q.1.1<X l)&&decide (X l<q.2.1)) (tst _ _) B;refine uY ?_;simp only[wk];rw[ht,zh,sak rfl];simp only[yJ,yI,xg,zf,List.getElem?_cons_zero,zh,Val.hold,sac,hl2,if_true];show((xr (gN 2) rV (zf 2) (B.map f) [.p (.int q.1.1),.p (.int q.2.1),.un]).bind _).bind _=_;rw[hc];rfl
  ·rw[sal hlt];rw[saB hlt]at ht;have hc:=iO (f:=f) (ft:=rR) q.2.1 q.1.1 (fun l=>decide (q.2.1<X l)&&decide (X l<q.1.1)) (tst _ _) B.reverse;rw[zq (env':=[.p (.l (B.map f)),.p (zS q),.p (.int q.1.1),.p (.int q.2.1)]) (by simp only[wk];rw[ht,zh];rfl)];simp only[yJ,yI,Rg,zf,List.getElem?_cons_zero,zh,Val.hold,scq,sac,hl2,if_true];rw[←List.map_reverse];show((xr (gN 2) rR (zf 2) (B.reverse.map f) [.p (.int q.2.1),.p (.int q.1.1),.un]).bind _).bind _=_;rw[hc];rfl
 rw[h0];rfl
theorem iN {B:List x8}(hl:B.length≤1000)(q:zk×zk):yd [.l (B.map zJ),zS q]=.ok (.fresh ((yl B q.1 q.2).map zJ)):=b6 (X:=fun l=>l.1) (fun _=>rfl) hl q
theorem XR {B:List Ga}(hl:B.length≤1000)(q:zk×zk):yd [.l (B.map zl),zS q]=.ok (.fresh ((sW B q.1 q.2).map zl)):=b6 (X:=Ga.x) (fun _=>rfl) hl q
noncomputable def vy:FS :=
 zL (zU 2 true (f2 zT (zf 0) (fC (.int 0))))
 (zL (zU 3 true (f2 zT (zf 0) (fC (.int 1))))
 (zL (zU 4 true (f2 qm (f2 zT (zf 3) (fC (.int 0))) (f2 zT (zf 2) (fC (.int 0)))))
 (zL (zU 5 true (f2 qm (f2 pI (zf 4) (f2 qm (f2 zT (zf 1) (fC (.int 1))) (f2 zT (zf 2) (fC (.int 1))))) (f2 pI (f2 qm (f2 zT (zf 3) (fC (.int 1))) (f2 zT (zf 2) (fC (.int 1)))) (f2 qm (f2 zT (zf 1) (fC (.int 0))) (f2 zT (zf 2) (fC (.int 0)))))))
 (yJ (Pt (zV (f2 XE (zf 4) (fC (.int 0)))) (zf 5) (f1 yM (zf 5)))))))
noncomputable def yz:List D→Out Val:=zX 6 vy
theorem j_:∀ds v,ds.length=2→yz ds=.ok v→zX 6 vy ds=.ok v:=fun _ _ _ h=>h
theorem eG {q:zk×zk}{p:zk}(hn:near q.1 q.2)(hx : -(2^64)<p.1 - q.1.1∧p.1 - q.1.1<2^64):yz [zS q,zd p]=.ok (.p (.int (z9 q.1 q.2 p))):=by
 have c1:∀j,sY (q.2.1 - q.1.1) j=true:=fun j=>qA hn.1 hn.2;have c2:∀j,sY j (p.1 - q.1.1)=true:=fun j=>iV hx.1 hx.2;unfold yz;show(vy [.p (zS q),.p (zd p),.un,.un,.un,.un]).bind _=_
 have h0:vy [.p (zS q),.p (zd p),.un,.un,.un,.un]=.ok (.ret (.p (.int (z9 q.1 q.2 p)))):=by
  unfold vy;rw[zq (env':=[.p (zS q),.p (zd p),.p (zd q.1),.un,.un,.un]) (by simp[zS,PF])];rw[zq (env':=[.p (zS q),.p (zd p),.p (zd q.1),.p (zd q.2),.un,.un]) (by simp[zS,PD])];rw[zq (env':=[.p (zS q),.p (zd p),.p (zd q.1),.p (zd q.2),.p (.int (q.2.1 - q.1.1)),.un]) (by simp[zd,YQ])];rw[zq (env':=[.p (zS q),.p (zd p),.p (zd q.1),.p (zd q.2),.p (.int (q.2.1 - q.1.1)),.p (.int (nQ q.1 q.2 p))]) (by simp[zd,YQ,Rz,c1,c2,nQ])];unfold z9;by_cases hp:0<q.2.1 - q.1.1
  ·have hp':q.1.1<q.2.1:=by lia
   simp[hp']
  ·have hp':¬q.1.1<q.2.1:=by lia
   simp[hp']
 rw[h0];rfl
@[reducible] noncomputable def yD:FE :=
 f2 nM (zA yz (zi (zf 0) (zi (uC (zK (zf 1) (zK (zf 2) (yj)))) (zB)))) (fC (.int 0))
@[reducible] noncomputable def qU:FS :=
 wk (oh (fB VD (zi (yI [1,2] 1 (xg (zf 3)) (gN 2) (uN) (yD)) (zB))))
 (yJ (fC (.bl true)))
 (wY)
@[reducible] noncomputable def wu:FS :=
 qU
noncomputable def yr:FS :=
 zL (vq (xg (zA yd (zi (zf 0) (zi (zf 1) (zB))))) (gT [2,3])
 (wu))
 (yJ (fC (.bl false)))
noncomputable def yp:List D→Out Val:=zX 4 yr
theorem rB:∀ds v,ds.length=2→yp ds=.ok v→zX 4 yr ds=.ok v:=fun _ _ _ h=>h
theorem l_ {q:zk×zk}(hn:near q.1 q.2)(s0:Slot):∀(ls:List x8) (s2 s3:Slot),(∀l∈ls,(-(2^64)<l.1 - q.1.1∧l.1 - q.1.1<2^64)∧l.2.length≤1000)→∃s2' s3',
 x4 (gT [2,3]) wu (ls.map zJ) [s0,.p (zS q),s2,s3]=if(ls.any fun l=>l.2.any fun y=>decide (z9 q.1 q.2 (l.1,y)=0))=true then .ok (.ret (.p (.bl true)))else .ok (.next [s0,.p (zS q),s2',s3'])
 |[],s2,s3,_=>⟨s2,s3,rfl⟩
 | l::ls,s2,s3,h=>by
   obtain⟨hx,hl⟩:=h l (by simp);have hl2:l.2.length≤100000:=by lia
   have hside:∀y:Int,yz [zS q,.tup [.int l.1,.int y]]=.ok (.p (.int (z9 q.1 q.2 (l.1,y)))):=fun y=>eG (p:=(l.1,y)) hn hx
   have hc:xr (gN 2) uN yD (l.2.map .int) [.p (zS q),.p (.int l.1),.un]=.ok ((l.2.map fun y=>decide (z9 q.1 q.2 (l.1,y)=0)).map .bl):=by
    rw[wm (fun env=>∃s2,env=[.p (zS q),.p (.int l.1),s2]) D.int (fun y=>some (.bl (decide (z9 q.1 q.2 (l.1,y)=0)))) l.2 [.p (zS q),.p (.int l.1),.un] ⟨_,rfl⟩ (fun y env _ ⟨s2,he⟩=>by
     subst he;refine⟨[.p (zS q),.p (.int l.1),.p (.int y)],rfl,⟨_,rfl⟩,.inr ⟨_,.p (.bl (decide (z9 q.1 q.2 (l.1,y)=0))),rfl,rfl,?_,rfl⟩⟩;simp[hside];rw[sbV]
     simp)]
    rw[sbK,sbj];rfl
   have hg:gT [2,3] (zJ l) [s0,.p (zS q),s2,s3]=.ok [s0,.p (zS q),.p (.int l.1),.p (.l (l.2.map .int))]:=rfl
   have ht:oh (fB VD (zi (yI [1,2] 1 (xg (zf 3)) (gN 2) (uN) (yD)) (zB))) [s0,.p (zS q),.p (.int l.1),.p (.l (l.2.map .int))]=.ok (l.2.any fun y=>decide (z9 q.1 q.2 (l.1,y)=0)):=by
    have hcomp:yI [1,2] 1 (xg (zf 3)) (gN 2) (uN) (yD) [s0,.p (zS q),.p (.int l.1),.p (.l (l.2.map .int))]=.ok (.fresh ((l.2.map fun y=>decide (z9 q.1 q.2 (l.1,y)=0)).map .bl)):=by
     have hi:(xg (zf 3)) [s0,.p (zS q),.p (.int l.1),.p (.l (l.2.map .int))]=.ok (l.2.map .int):=by simp
     simp only[yI,hi,zh,sac,hl2,if_true];show((xr (gN 2) uN yD (l.2.map .int) [.p (zS q),.p (.int l.1),.un]).bind _)=_;rw[hc];rfl
    simp only[oh,fB,zi,zB,hcomp,zh,frz,List.map_cons,List.map_nil,Val.d,VD,X9];simp[TQ,Function.comp_def]
   have step:wu [s0,.p (zS q),.p (.int l.1),.p (.l (l.2.map .int))]=if(l.2.any fun y=>decide (z9 q.1 q.2 (l.1,y)=0))=true then .ok (.ret (.p (.bl true)))else .ok (.next [s0,.p (zS q),.p (.int l.1),.p (.l (l.2.map .int))]):=by
    simp only[wk,ht,zh];rfl
   cases hb:(l.2.any fun y=>decide (z9 q.1 q.2 (l.1,y)=0))with
   | true=>
     refine⟨s2,s3,?_⟩;rw[hb]at step;simp only[List.map_cons,x4,hg,zh,step,List.any_cons,hb,Bool.true_or,if_true]
   | false=>
     obtain⟨s2',s3',e⟩:=l_ hn s0 ls (.p (.int l.1)) (.p (.l (l.2.map .int))) fun l hl=>h l (by simp[hl]);refine⟨s2',s3',?_⟩;rw[hb]at step;simp only[List.map_cons,x4,hg,zh,step,List.any_cons,hb,Bool.false_or,sax,if_false,e]
theorem jy {B:List x8}{q:zk×zk}(hB:B.length≤1000)(hh:∀l∈B,l.2.length≤1000)(hn:near q.1 q.2):yp [.l (B.map zJ),zS q]=.ok (.p (.bl (yY B q.1 q.2))):=by
 obtain⟨s2,s3,e⟩:=l_ hn (.p (.l (B.map zJ))) (yl B q.1 q.2) .un .un fun l hl=>⟨mD hl hn,hh l (vC hl).1⟩
 have hc:=iN hB q;have hi:(xg (zA yd (zi (zf 0) (zi (zf 1) (zB))))) [.p (.l (B.map zJ)),.p (zS q),.un,.un]=.ok ((yl B q.1 q.2).map zJ):=by simp[hc]
 unfold yp;show(yr [.p (.l (B.map zJ)),.p (zS q),.un,.un]).bind _=_
 have h0:yr [.p (.l (B.map zJ)),.p (zS q),.un,.un]=.ok (.ret (.p (.bl (yY B q.1 q.2)))):=by
  unfold yr yY
  cases hv:((yl B q.1 q.2).any fun l=>l.2.any fun y=>decide (z9 q.1 q.2 (l.1,y)=0))with
  | true=>
    rw[hv]at e;refine uY ?_;simp only[vq,hi,zh];exact e
  | false=>
    rw[hv]at e
    rw[zq (env':=[.p (.l (B.map zJ)),.p (zS q),s2,s3]) (by
     simp only[vq,hi,zh]
     exact e)]
    rfl
 rw[h0];rfl
@[reducible] noncomputable def qV:FS :=
 wk (oh (zA yp (zi (zf 0) (zi (zf 3) (zB)))))
 (fun _=>.bad)
 (wY)
@[reducible] noncomputable def yE:FS :=
 qV
noncomputable def yq:FS :=
 vq (XI (zA yK (zi (zf 1) (zB)))) (gT [2,3])
 (yE)
noncomputable def yP:List D→Out Val:=zX 4 yq
theorem rA:∀ds v,ds.length=2→yP ds=.ok v→zX 4 yq ds=.ok v:=fun _ _ _ h=>h
theorem oE {B:List x8}(hB:B.length≤1000)(hh:∀l∈B,l.2.length≤1000)(s1:Slot):∀(qs:List (zk×zk)) (k:Nat) (s2 s3:Slot),(∀q∈qs,near q.1 q.2∧yY B q.1 q.2=false)→∃s2' s3',x4 (gT [2,3]) yE (uD k (qs.map zS)) [.p (.l (B.map zJ)),s1,s2,s3]=.ok (.next [.p (.l (B.map zJ)),s1,s2',s3'])
 |[],k,s2,s3,_=>⟨s2,s3,rfl⟩
 | q::qs,k,s2,s3,h=>by
   obtain⟨s2',s3',e⟩:=oE hB hh s1 qs (k+1) (.p (.int k)) (.p (zS q)) fun q hq=>h q (by simp[hq]);refine⟨s2',s3',?_⟩;obtain⟨hn,hf⟩:=h q (by simp);have hc:=jy hB hh hn;rw[hf]at hc
   have step:yE [.p (.l (B.map zJ)),s1,.p (.int k),.p (zS q)]=.ok (.next [.p (.l (B.map zJ)),s1,.p (.int k),.p (zS q)]):=by
    simp[hc]
   have hg:gT [2,3] (.tup [.int k,zS q]) [.p (.l (B.map zJ)),s1,s2,s3]=.ok [.p (.l (B.map zJ)),s1,.p (.int k),.p (zS q)]:=rfl;simp only[List.map_cons,uD,x4,hg,zh,step,e]
theorem oy {B:List x8}{rope:List zk}(hB:B.length≤1000)(hh:∀l∈B,l.2.length≤1000)(h:∀q∈zW rope,near q.1 q.2∧yY B q.1 q.2=false):yP [.l (B.map zJ),.l (rope.map zd)]=.ok (.p .non):=by
 obtain⟨s2,s3,e⟩:=oE hB hh (.p (.l (rope.map zd))) (zW rope) 0 .un .un h;have hs:=rW rope;unfold yP;show(yq [.p (.l (B.map zJ)),.p (.l (rope.map zd)),.un,.un]).bind _=_;have hi:XI (zA yK (zi (zf 1) (zB))) [.p (.l (B.map zJ)),.p (.l (rope.map zd)),.un,.un]=.ok (uD 0 ((zW rope).map zS)):=by simp[hs]
 have h0:yq [.p (.l (B.map zJ)),.p (.l (rope.map zd)),.un,.un]=.ok (.next [.p (.l (B.map zJ)),.p (.l (rope.map zd)),s2,s3]):=by
  unfold yq;simp only[vq,hi,zh];exact e
 rw[h0];rfl
noncomputable def QQ:RX:=fun env x=>(oh (zA yp (zi (zf 0) (zi (zf 3) (zB))))) env=.ok true∧∃n,(zf 2) env=.ok (.p (.int n))∧x=(("NoRope" : Str),some n)
noncomputable def Oc:RX:=fun env x=>∃ds,(XI (zA yK (zi (zf 1) (zB)))) env=.ok ds∧Zs (gT [2,3]) yE QQ ds env x
noncomputable def xt:List D→Xc→Prop:=c0 4 Oc
theorem kK {B:List x8}{rope:List zk}{i:Nat}(hB:B.length≤1000)(hh:∀l∈B,l.2.length≤1000)(hn:∀q∈zW rope,near q.1 q.2)(h:(zW rope).findIdx? (fun q=>yY B q.1 q.2)=some i):xt [.l (B.map zJ),.l (rope.map zd)] (("NoRope" : Str),some (i:Int)):=by
 have hs:=rW rope;refine⟨uD 0 ((zW rope).map zS),by simp[hs],?_⟩
 have:=oV (g:=gT [2,3]) (fb:=yE) (R:=QQ) (c := "NoRope") (p:=fun q:zk×zk=>yY B q.1 q.2) (toD:=zS) (mk:=fun s s'=>[.p (.l (B.map zJ)),.p (.l (rope.map zd)),s,s']) (zW rope) 0 i .un .un (fun q hq j s s'=>by
  have hc:=jy hB hh (hn q hq);refine⟨rfl,fun hp=>⟨?_,j,rfl,rfl⟩,fun hp=>?_⟩
  ·rw[hp]at hc;simp[hc]
  ·rw[hp]at hc
   simp[hc]) h
 rw[scy]at this;exact this
@[reducible] noncomputable def km:FS :=
 wk (zV (f2 mO (fB vp (zi (zf 1) (zB))) (fC (.int 2))))
 (fun _=>.bad)
 (wY)
noncomputable def qq:FS :=
 zL (zU 2 true (zA xl (zi (zf 0) (zB))))
 (zL (km)
 (zL (dQ (zA yG (zi (zf 2) (zi (zf 1) (zB)))))
 (dQ (zA yP (zi (zf 2) (zi (zf 1) (zB)))))))
noncomputable def tL:List D→Out Val:=zX 3 qq
theorem gq:∀ds v,ds.length=2→tL ds=.ok v→zX 3 qq ds=.ok v:=fun _ _ _ h=>h
theorem Xo {ps rope:List zk}(R:RopeOk ps rope):tL [.l (ps.map zd),.l (rope.map zd)]=.ok (.p .non):=by
 have hB:=rM ps;have hfew:=R.few;have hl:xl [.l (ps.map zd)]=.ok (.fresh ((zo ps).map zJ)):=by simp[xl,wN,R.few,R.nodup]
 have hc:=iP (B:=zo ps) (rope:=rope) (by lia) R.off
 have hs:=oy (B:=zo ps) (rope:=rope) (by lia) (lQ ps R.few) fun q hq=>⟨R.near q hq,R.free q hq⟩
 have h2:¬(rope.length:Int)<2:=by have:=R.two;lia
 unfold tL;simp[qq,hl,hc,hs,h2]
noncomputable def Of:RX:=fun env x=>(∃xs,(zi (zf 0) (zB)) env=.ok xs∧xs.all Val.isPers=true∧ou (xs.map Val.d) x)∨∃env',(zU 2 true (zA xl (zi (zf 0) (zB)))) env=.ok (.next env')∧(((zV (f2 mO (fB vp (zi (zf 1) (zB))) (fC (.int 2)))) env'=.ok true∧∃n,(fC (.int 0)) env'=.ok (.p (.int n))∧x=(("NoRope" : Str),some n)) ∨
 ∃ env2,(km) env'=.ok (.next env2)∧((∃xs,(zi (zf 2) (zi (zf 1) (zB))) env2=.ok xs∧xs.all Val.isPers=true∧x6 (xs.map Val.d) x) ∨
   ∃env3,(dQ (zA yG (zi (zf 2) (zi (zf 1) (zB))))) env2=.ok (.next env3)∧∃xs,(zi (zf 2) (zi (zf 1) (zB))) env3=.ok xs∧xs.all Val.isPers=true∧xt (xs.map Val.d) x))
noncomputable def tV:List D→Xc→Prop:=c0 3 Of
theorem sS {α:Type}{p q:α→Bool}:∀{l:List α},(∀x∈l,p x=q x)→l.findIdx? p=l.findIdx? q
 |[],_=>rfl
 |x::l,h=>by rw[List.findIdx?_cons,List.findIdx?_cons,h x (by simp),sS fun y hy=>h y (by simp[hy])]
theorem dn {ps rope:List zk}{n:Nat}(L:LookOk ps rope)(h:pM ps rope=some n):tV [.l (ps.map zd),.l (rope.map zd)] (("NoRope" : Str),some (n:Int)):=by
 have hfew:=L.few;have hB:=rM ps;have hl:xl [.l (ps.map zd)]=.ok (.fresh ((zo ps).map zJ)):=by simp[xl,wN,L.few,L.nodup]
 refine .inr ⟨[.p (.l (ps.map zd)),.p (.l (rope.map zd)),.p (.l ((zo ps).map zJ))],by simp[hl],?_⟩;unfold pM at h;split at h
 ·rename_i h2;cases h;refine .inl ⟨?_,0,rfl,rfl⟩;have:(rope.length:Int)<2:=by lia
  simp[this]
 ·rename_i h2;refine .inr ⟨[.p (.l (ps.map zd)),.p (.l (rope.map zd)),.p (.l ((zo ps).map zJ))],?_,?_⟩
  ·have:¬(rope.length:Int)<2:=by lia
   simp[this]
  ·have hx:rope.findIdx? (fun c=>decide (c.1∈(zo ps).map (·.1)))=rope.findIdx? (fun c=>decide (c.1∈ps.map (·.1))):=sS fun c _=>by
    rw[decide_eq_decide];exact af ps c.1
   split at h
   ·rename_i i hi;cases h;exact .inl ⟨[.p (.l ((zo ps).map zJ)),.p (.l (rope.map zd))],rfl,rfl,gA (by lia) (hx.trans hi)⟩
   ·rename_i hi
    have hc:=iP (B:=zo ps) (rope:=rope) (by lia) (fun c hm=>by
     have:=(List.findIdx?_eq_none_iff.mp (hx.trans hi)) c hm;rw[scw]at this
     exact this)
    refine .inr ⟨[.p (.l (ps.map zd)),.p (.l (rope.map zd)),.p (.l ((zo ps).map zJ))],by simp[hc],[.p (.l ((zo ps).map zJ)),.p (.l (rope.map zd))],rfl,rfl,kK (by lia) (lQ ps L.few) L.near ?_⟩;rw[←h];exact sS fun q _=>jz ps q.1 q.2
theorem Zc {ps:List zk}{d:D}(hl:ps.length<18)(hn:¬ps.Nodup):tV [.l (ps.map zd),d] (("NoPegs" : Str),none) :=
 .inl ⟨[.p (.l (ps.map zd))],rfl,rfl,Xq hl hn⟩
@[reducible] noncomputable def rT:FT :=
 zV (f2 mO (zA yz (zi (zf 0) (zi (uC (zK (zf 1) (zK (zf 2) (yj)))) (zB)))) (fC (.int 0)))
@[reducible] noncomputable def dM:FE :=
 zf 2
@[reducible] noncomputable def rS:FT :=
 zV (f2 XE (zA yz (zi (zf 0) (zi (uC (zK (zf 1) (zK (zf 2) (yj)))) (zB)))) (fC (.int 0)))
@[reducible] noncomputable def dJ:FE :=
 zf 2
noncomputable def vz:FS :=
 zL (zU 2 true (f2 zT (zf 0) (fC (.int 0))))
 (zL (zU 3 true (yI [1,2] 1 (xg (f2 zT (zf 0) (fC (.int 1)))) (gN 2) (rT) (dM)))
 (zL (zU 4 true (yI [1,2] 1 (xg (f2 zT (zf 0) (fC (.int 1)))) (gN 2) (rS) (dJ)))
 (zL (zU 5 true (Pt (zV (f2 mO (f2 zT (f2 zT (zf 1) (fC (.int 0))) (fC (.int 0))) (zf 2))) (fC (.int 1)) (f1 yM (fC (.int 1)))))
 (yJ (uC (zK (zf 2) (zK (f1 XC (zf 3)) (zK (f1 XB (zf 4)) (zK (zf 5) (yj))))))))))
noncomputable def uz:List D→Out Val:=zX 6 vz
theorem ij:∀ds v,ds.length=2→uz ds=.ok v→zX 6 vz ds=.ok v:=fun _ _ _ h=>h
theorem mq {ft:FT}{q:zk×zk}{x:Int}(p:Int→Bool)(hp:∀y,ft [.p (zS q),.p (.int x),.p (.int y)]=.ok (p y))(hs:List Int) :
 xr (gN 2) ft (zf 2) (hs.map .int) [.p (zS q),.p (.int x),.un]=.ok ((hs.filter p).map .int):=by
 rw[wm (fun env=>∃s2,env=[.p (zS q),.p (.int x),s2]) D.int (fun y=>if p y=true then some (.int y)else none) hs [.p (zS q),.p (.int x),.un] ⟨_,rfl⟩ (fun y env _ ⟨s2,he⟩=>by
  subst he;refine⟨[.p (zS q),.p (.int x),.p (.int y)],rfl,⟨_,rfl⟩,?_⟩;have h:=hp y
  cases z:p y with
  |true=>rw[z]at h;exact .inr ⟨.int y,.p (.int y),by simp,h,rfl,rfl⟩
  |false=>rw[z]at h;exact .inl ⟨by simp,h⟩)]
 rw[qp]
theorem Zq {q:zk×zk}{l:x8}(hn:near q.1 q.2)(hx : -(2^64)<l.1 - q.1.1∧l.1 - q.1.1<2^64)(hl:l.2.length≤1000):uz [zJ l,zS q]=.ok (.p (zl (sD q.1 q.2 l))):=by
 have hside:∀y:Int,yz [zS q,.tup [.int l.1,.int y]]=.ok (.p (.int (z9 q.1 q.2 (l.1,y)))):=fun y=>eG (p:=(l.1,y)) hn hx;have c1:=mq (ft:=rT) (q:=q) (x:=l.1) (fun y=>decide (z9 q.1 q.2 (l.1,y)<0)) (fun y=>by simp[hside]) l.2;have c2:=mq (ft:=rS) (q:=q) (x:=l.1) (fun y=>decide (0<z9 q.1 q.2 (l.1,y))) (fun y=>by simp[hside]) l.2;have hl2:l.2.length≤100000:=by lia
 unfold uz;show(vz [.p (zJ l),.p (zS q),.un,.un,.un,.un]).bind _=_
 have h0:vz [.p (zJ l),.p (zS q),.un,.un,.un,.un]=.ok (.ret (.p (zl (sD q.1 q.2 l)))):=by
  unfold vz;rw[zq (env':=[.p (zJ l),.p (zS q),.p (.int l.1),.un,.un,.un]) (by simp[zJ,PH])]
  rw[zq (env':=[.p (zJ l),.p (zS q),.p (.int l.1),.p (.l ((l.2.filter fun y=>decide (z9 q.1 q.2 (l.1,y)<0)).map .int)),.un,.un]) (by
   have hi:(xg (f2 zT (zf 0) (fC (.int 1)))) [.p (zJ l),.p (zS q),.p (.int l.1),.un,.un,.un]=.ok (l.2.map .int):=by simp[zJ,P4]
   simp only[zU,yI,hi,zh,sac,hl2,if_true];show(((xr (gN 2) rT (zf 2) (l.2.map .int) [.p (zS q),.p (.int l.1),.un]).bind _).bind _)=_;rw[c1]
   rfl)]
  rw[zq (env':=[.p (zJ l),.p (zS q),.p (.int l.1),.p (.l ((l.2.filter fun y=>decide (z9 q.1 q.2 (l.1,y)<0)).map .int)),.p (.l ((l.2.filter fun y=>decide (0<z9 q.1 q.2 (l.1,y))).map .int)),.un]) (by
   have hi:(xg (f2 zT (zf 0) (fC (.int 1)))) [.p (zJ l),.p (zS q),.p (.int l.1),.p (.l ((l.2.filter fun y=>decide (z9 q.1 q.2 (l.1,y)<0)).map .int)),.un,.un]=.ok (l.2.map .int):=by simp[zJ,P4]
   simp only[zU,yI,hi,zh,sac,hl2,if_true];show(((xr (gN 2) rS (zf 2) (l.2.map .int) [.p (zS q),.p (.int l.1),.un]).bind _).bind _)=_;rw[c2]
   rfl)]
  have hm1:XC (.l ((l.2.filter fun y=>decide (z9 q.1 q.2 (l.1,y)<0)).map .int))=.ok (.p (wb (nz (l.2.filter fun y=>decide (z9 q.1 q.2 (l.1,y)<0))))):=by
   simp only[XC,nH]
   cases nz (l.2.filter fun y=>decide (z9 q.1 q.2 (l.1,y)<0)) <;> rfl
  have hm2:XB (.l ((l.2.filter fun y=>decide (0<z9 q.1 q.2 (l.1,y))).map .int))=.ok (.p (wb (ny (l.2.filter fun y=>decide (0<z9 q.1 q.2 (l.1,y)))))):=by
   simp only[XB,nH]
   cases ny (l.2.filter fun y=>decide (0<z9 q.1 q.2 (l.1,y))) <;> rfl
  rw[zq (env':=[.p (zJ l),.p (zS q),.p (.int l.1),.p (.l ((l.2.filter fun y=>decide (z9 q.1 q.2 (l.1,y)<0)).map .int)),.p (.l ((l.2.filter fun y=>decide (0<z9 q.1 q.2 (l.1,y))).map .int)),.p (.int (if q.1.1<l.1 then 1 else -1))]) (by
   have hs:sZ [D.tup [D.int q.1.1,D.int q.1.2],D.tup [D.int q.2.1,D.int q.2.2]] 0=some (.tup [D.int q.1.1,D.int q.1.2]):=rfl;by_cases hp:q.1.1<l.1
   ·simp[zS,zd,hs,YQ,hp]
   ·simp[zS,zd,hs,YQ,hp])]
  unfold sD zl;simp only[yJ,uC,zK,yj,zf,f1,List.getElem?_cons_succ,List.getElem?_cons_zero,zh,Val.d,hm1,hm2,Val.hold];rfl
 rw[h0];rfl
@[reducible] noncomputable def sF:FE :=
 zA uz (zi (zf 1) (zi (zf 0) (zB)))
@[reducible] noncomputable def pV:FS :=
 Zw 3 (yI [4] 1 (xg (zA yd (zi (zf 2) (zi (zf 4) (zB))))) (gN 1) (uN) (sF))
noncomputable def v9:FS :=
 zL (dQ (zA tL (zi (zf 0) (zi (zf 1) (zB)))))
 (zL (zU 2 true (zA xl (zi (zf 0) (zB))))
 (zL (zU 3 false (xV (yj)))
 (zL (vq (xg (zA yK (zi (zf 1) (zB)))) (gN 4)
 (pV))
 (yJ (zf 3)))))
noncomputable def xc:List D→Out Val:=zX 5 v9
theorem gh:∀ds v,ds.length=2→xc ds=.ok v→zX 5 v9 ds=.ok v:=fun _ _ _ h=>h
theorem jQ {ps:List zk}(hfew:ps.length<18)(s0 s1:Slot):∀(qs:List (zk×zk)) (got:List Ga) (s4:Slot),(∀q∈qs,near q.1 q.2)→got.length+17*qs.length≤10000 →
 ∃s4',x4 (gN 4) pV (qs.map zS) [s0,s1,.p (.l ((zo ps).map zJ)),.own (got.map zl),s4]=.ok (.next [s0,s1,.p (.l ((zo ps).map zJ)),.own ((got++qs.flatMap (uZ (zo ps))).map zl),s4'])
 |[],got,s4,_,_=>⟨s4,by simp[x4]⟩
 | q::qs,got,s4,hn,hl=>by
   have hB:=rM ps
   have hrl:(uZ (zo ps) q).length≤17:=by
    have:=pR (zo ps) q.1 q.2;unfold uZ;rw[sac];lia
   simp only[List.length_cons]at hl;obtain⟨s4',e⟩:=jQ hfew s0 s1 qs (got++uZ (zo ps) q) (.p (zS q)) (fun q hq=>hn q (by simp[hq])) (by simp;lia);refine⟨s4',?_⟩;have hq:=hn q (by simp);have hcr:=iN (B:=zo ps) (by lia) q;have hcl:(yl (zo ps) q.1 q.2).length≤100000:=by have:=pR (zo ps) q.1 q.2;lia
   have hg:gN 4 (zS q) [s0,s1,.p (.l ((zo ps).map zJ)),.own (got.map zl),s4]=.ok [s0,s1,.p (.l ((zo ps).map zJ)),.own (got.map zl),.p (zS q)]:=rfl
   have hc:xr (gN 1) uN sF ((yl (zo ps) q.1 q.2).map zJ) [.p (zS q),.un]=.ok ((uZ (zo ps) q).map zl):=by
    rw[wm (fun env=>∃s,env=[.p (zS q),s]) zJ (fun l=>some (zl (sD q.1 q.2 l))) (yl (zo ps) q.1 q.2) [.p (zS q),.un] ⟨_,rfl⟩ (fun l env hl ⟨s,he⟩=>by
     subst he;have hgo:=Zq (l:=l) hq (mD hl hq) (lQ ps hfew l (vC hl).1)
     exact⟨[.p (zS q),.p (zJ l)],rfl,⟨_,rfl⟩,.inr ⟨_,.p (zl (sD q.1 q.2 l)),rfl,rfl,by simp[hgo],rfl⟩⟩)]
    rw[sbK];unfold uZ;rw[sbj];rfl
   have step:pV [s0,s1,.p (.l ((zo ps).map zJ)),.own (got.map zl),.p (zS q)]=.ok (.next [s0,s1,.p (.l ((zo ps).map zJ)),.own ((got++uZ (zo ps) q).map zl),.p (zS q)]):=by
    have hi:(xg (zA yd (zi (zf 2) (zi (zf 4) (zB))))) [s0,s1,.p (.l ((zo ps).map zJ)),.own (got.map zl),.p (zS q)]=.ok ((yl (zo ps) q.1 q.2).map zJ):=by simp[hcr]
    have hcomp:yI [4] 1 (xg (zA yd (zi (zf 2) (zi (zf 4) (zB))))) (gN 1) (uN) (sF) [s0,s1,.p (.l ((zo ps).map zJ)),.own (got.map zl),.p (zS q)]=.ok (.fresh ((uZ (zo ps) q).map zl)):=by
     simp only[yI,hi,zh,sac,hcl,if_true];show((xr (gN 1) uN sF ((yl (zo ps) q.1 q.2).map zJ) [.p (zS q),.un]).bind _)=_;rw[hc];rfl
    have hsz:(got.map zl).length+((uZ (zo ps) q).map zl).length≤100000:=by
     rw[sac,sac];lia
    have hv:([s0,s1,.p (.l ((zo ps).map zJ)),.own (got.map zl),.p (zS q)]:Ev)[3]?=some (.own (got.map zl)):=rfl;simp only[Zw,hv,hcomp,zh];rw[sak hsz,←saY];rfl
   simp only[List.map_cons,x4,hg,zh,step,e,List.flatMap_cons,sbs]
theorem m7 {ps rope:List zk}(R:RopeOk ps rope):xc [.l (ps.map zd),.l (rope.map zd)]=.ok (.fresh (((zW rope).flatMap (uZ (zo ps))).map zl)):=by
 have hlo:=Xo R;have hl:xl [.l (ps.map zd)]=.ok (.fresh ((zo ps).map zJ)):=by simp[xl,wN,R.few,R.nodup]
 have hs:=rW rope;have hm:=R.many;obtain⟨s4,e⟩:=jQ R.few (.p (.l (ps.map zd))) (.p (.l (rope.map zd))) (zW rope) [] .un R.near (by simp[zW];lia);simp only[List.map_nil,List.nil_append]at e;unfold xc;show(v9 [.p (.l (ps.map zd)),.p (.l (rope.map zd)),.un,.un,.un]).bind _=_
 have h0:v9 [.p (.l (ps.map zd)),.p (.l (rope.map zd)),.un,.un,.un]=.ok (.ret (.fresh (((zW rope).flatMap (uZ (zo ps))).map zl))):=by
  unfold v9;rw[zq (env':=[.p (.l (ps.map zd)),.p (.l (rope.map zd)),.un,.un,.un]) (by simp[hlo])];rw[zq (env':=[.p (.l (ps.map zd)),.p (.l (rope.map zd)),.p (.l ((zo ps).map zJ)),.un,.un]) (by simp[hl])];rw[zq (env':=[.p (.l (ps.map zd)),.p (.l (rope.map zd)),.p (.l ((zo ps).map zJ)),.own [],.un]) (by simp)]
  rw[zq (env':=_) (by
   have hi:(xg (zA yK (zi (zf 1) (zB)))) [.p (.l (ps.map zd)),.p (.l (rope.map zd)),.p (.l ((zo ps).map zJ)),.own [],.un]=.ok ((zW rope).map zS):=by simp[hs]
   simp only[vq,hi,zh]
   exact e)]
  rfl
 rw[h0];rfl
noncomputable def Od:RX:=fun env x=>∃xs,(zi (zf 0) (zi (zf 1) (zB))) env=.ok xs∧xs.all Val.isPers=true∧tV (xs.map Val.d) x
noncomputable def xH:List D→Xc→Prop:=c0 5 Od
theorem Y5 {ps rope:List zk}{n:Nat}(L:LookOk ps rope)(h:pM ps rope=some n):xH [.l (ps.map zd),.l (rope.map zd)] (("NoRope" : Str),some (n:Int)) :=
 ⟨[.p (.l (ps.map zd)),.p (.l (rope.map zd))],rfl,rfl,dn L h⟩
theorem UE {ps:List zk}{d:D}(hl:ps.length<18)(hn:¬ps.Nodup):xH [.l (ps.map zd),d] (("NoPegs" : Str),none) :=
 ⟨[.p (.l (ps.map zd)),.p d],rfl,rfl,Zc hl hn⟩
@[reducible] noncomputable def kP:FS :=
 wk (Qz (dH (oh (zf 1))) (zV (f2 oB (f2 zT (zf 1) (f1 yM (fC (.int 1)))) (zf 2))))
 (qY 1 (zf 2))
 (wY)
@[reducible] noncomputable def uQ:FS :=
 kP
noncomputable def wD:FS :=
 zL (zU 1 false (xV (yj)))
 (zL (vq (xg (zf 0)) (gN 2)
 (uQ))
 (yJ (zf 1)))
noncomputable def xb:List D→Out Val:=zX 3 wD
theorem n_:∀ds v,ds.length=1→xb ds=.ok v→zX 3 wD ds=.ok v:=fun _ _ _ h=>h
theorem YV (k:List zk)(p:zk):(tq k p).length≤k.length+1:=by
 unfold tq;split
 ·split
  ·lia
  ·simp
 ·simp
theorem gX (s0:Slot):∀(ps k:List zk) (s2:Slot),k.length+ps.length≤10000→∃s2',x4 (gN 2) uQ (ps.map zd) [s0,.own (k.map zd),s2]=.ok (.next [s0,.own ((ps.foldl tq k).map zd),s2'])
 |[],k,s2,_=>⟨s2,rfl⟩
 | p::ps,k,s2,hl=>by
   have hu:=YV k p;obtain⟨s2',e⟩:=gX s0 ps (tq k p) (.p (zd p)) (by simp at hl;lia);refine⟨s2',?_⟩;have hg:gN 2 (zd p) [s0,.own (k.map zd),s2]=.ok [s0,.own (k.map zd),.p (zd p)]:=rfl;have hlt:k.length<100000:=by simp at hl;lia
   have hb:uQ [s0,.own (k.map zd),.p (zd p)]=.ok (.next [s0,.own ((tq k p).map zd),.p (zd p)]):=by
    have hap:qY 1 (zf 2) [s0,.own (k.map zd),.p (zd p)]=.ok (.next [s0,.own ((k++[p]).map zd),.p (zd p)]):=by simp[hlt]
    unfold tq
    cases q:k.getLast? with
    | none=>
      have:k=[]:=List.getLast?_eq_none_iff.mp q;subst this;rfl
    | some t=>
      have hne:k≠[]:=fun z=>by subst z;cases q
      have hat:sZ (k.map zd) (-1)=some (zd t):=by
       rw[nG,sac,sar,←sbi,q];rfl
      have c:Qz (dH (oh (zf 1))) (zV (f2 oB (f2 zT (zf 1) (f1 yM (fC (.int 1)))) (zf 2))) [s0,.own (k.map zd),.p (zd p)]=.ok (decide (t≠p)):=by
       have t1:oh (zf 1) [s0,.own (k.map zd),.p (zd p)]=.ok true:=by
        cases k with
        |nil=>exact absurd rfl hne
        |cons x r=>rfl
       have t2:zV (f2 oB (f2 zT (zf 1) (f1 yM (fC (.int 1)))) (zf 2)) [s0,.own (k.map zd),.p (zd p)]=.ok (decide (t≠p)):=by
        have:f2 oB (f2 zT (zf 1) (f1 yM (fC (.int 1)))) (zf 2) [s0,.own (k.map zd),.p (zd p)]=oB (zd t) (zd p):=by
         have e1:f2 zT (zf 1) (f1 yM (fC (.int 1))) [s0,.own (k.map zd),.p (zd p)]=.ok (.p (zd t)):=by
          show zT (.l (k.map zd)) (.int (-1))=_;simp only[zT,hat]
         show((f2 zT (zf 1) (f1 yM (fC (.int 1))) [s0,.own (k.map zd),.p (zd p)]).bind _)=_;rw[e1];rfl
        unfold zV;rw[this];simp[p4,mx]
       simp only[Qz,dH,t1,t2,zh];rfl
      by_cases z:t=p
      ·rw[saB (fun w=>w z)]at c;simp only[wk,c,zh,sax,if_false,z,if_true];rfl
      ·rw[sap z]at c;simp only[wk,c,zh,if_true,z,if_false];exact hap
   rw[List.map_cons,x4,hg,zh,hb,zh];exact e
theorem Wp {ps:List zk}(hl:ps.length≤10000):xb [.l (ps.map zd)]=.ok (.fresh ((ps.foldl tq []).map zd)):=by
 obtain⟨s2,e⟩:=gX (.p (.l (ps.map zd))) ps [] .un (by simpa using hl);unfold xb;show((wD [.p (.l (ps.map zd)),.un,.un]).bind _)=_;unfold wD;rw[zq (env':=[.p (.l (ps.map zd)),.own [],.un]) rfl]
 rw[zq (by
  have hi:xg (zf 0) [.p (.l (ps.map zd)),.own [],.un]=.ok (ps.map zd):=rfl;simp only[vq,hi,zh]
  exact e)]
 rfl
noncomputable def wH:FS :=
 yJ (oK (f2 uV (f2 zT (zf 0) (fC (.int 2))) (fC .non)) (oK (f2 uV (f2 zT (zf 1) (fC (.int 1))) (fC .non)) (f2 Q0 (f2 zT (zf 0) (fC (.int 2))) (f2 zT (zf 1) (fC (.int 1))))))
noncomputable def xf:List D→Out Val:=zX 2 wH
theorem me:∀ds v,ds.length=2→xf ds=.ok v→zX 2 wH ds=.ok v:=fun _ _ _ h=>h
theorem V4 (g h:Ga):xf [zl g,zl h]=.ok (.p (.bl (xG g h))):=by
 unfold xf;show((wH [.p (zl g),.p (zl h)]).bind _)=_;unfold wH xG;have e1:f2 zT (zf 0) (fC (.int 2)) [.p (zl g),.p (zl h)]=.ok (.p (wb g.hi)):=rfl;have e2:f2 zT (zf 1) (fC (.int 1)) [.p (zl g),.p (zl h)]=.ok (.p (wb h.lo)):=rfl;have n1:f2 uV (f2 zT (zf 0) (fC (.int 2))) (fC .non) [.p (zl g),.p (zl h)]=uV (wb g.hi) .non:=rfl;have n2:f2 uV (f2 zT (zf 1) (fC (.int 1))) (fC .non) [.p (zl g),.p (zl h)]=uV (wb h.lo) .non:=rfl;have n3:f2 Q0 (f2 zT (zf 0) (fC (.int 2))) (f2 zT (zf 1) (fC (.int 1))) [.p (zl g),.p (zl h)]=Q0 (wb g.hi) (wb h.lo):=rfl;simp only[yJ,oK,n1,n2,n3]
 cases g.hi with
 |none=>rfl
 | some u=>
   cases h.lo with
   |none=>rfl
   |some v=>rfl
@[reducible] noncomputable def vN:FS :=
 wk (oh (zA xf (zi (zf 0) (zi (zf 1) (zB)))))
 (yJ (uC (zK (uC (zK (zf 2) (zK (f2 zT (zf 0) (fC (.int 2))) (yj)))) (zK (uC (zK (zf 2) (zK (f2 zT (zf 1) (fC (.int 1))) (yj)))) (yj)))))
 (wY)
noncomputable def xS:FS :=
 zL (zU 2 true (f2 zT (zf 0) (fC (.int 0))))
 (zL (vN)
 (yJ (uC (zK (uC (zK (zf 2) (zK (f2 zT (zf 0) (fC (.int 1))) (yj)))) (zK (uC (zK (zf 2) (zK (f2 zT (zf 1) (fC (.int 2))) (yj)))) (yj))))))
noncomputable def yF:List D→Out Val:=zX 3 xS
theorem oz:∀ds v,ds.length=2→yF ds=.ok v→zX 3 xS ds=.ok v:=fun _ _ _ h=>h
theorem ay {g h:Ga}(ok:TurnOk g h):yF [zl g,zl h]=.ok (.p (.tup [zd (yh g h).1,zd (yh g h).2])):=by
 have hb:zA xf (zi (zf 0) (zi (zf 1) (zB))) [.p (zl g),.p (zl h),.p (.int g.x)]=.ok (.p (.bl (xG g h))):=by
  show((xf [zl g,zl h]).bind _)=_;rw[V4];rfl
 unfold yF;show((xS [.p (zl g),.p (zl h),.un]).bind _)=_;unfold xS yh;rw[zq (env':=[.p (zl g),.p (zl h),.p (.int g.x)]) rfl]
 cases q:xG g h with
 | true=>
   rw[q]at hb;unfold xG at q
   cases a:g.hi with
   |none=>rw[a]at q;cases q
   | some u=>
     cases b:h.lo with
     |none=>rw[a,b]at q;cases q
     | some v=>
       rw[uY (v:=.p (.tup [zd (g.x,u),zd (g.x,v)])) (by
        simp only[vN,wk,oh,hb,zh,Val.d,TQ,if_true];show Out.ok (Res.ret (Val.p (.tup [.tup [.int g.x,wb g.hi],.tup [.int g.x,wb h.lo]])))=_;rw[a,b]
        rfl)]
       rfl
 | false=>
   rw[q]at hb
   rcases ok.one with⟨u,v,e1,e2,l⟩|⟨u,v,e1,e2,l⟩
   ·unfold xG at q;rw[e1,e2]at q;exact absurd l (of_decide_eq_false q)
   ·rw[zq (env':=[.p (zl g),.p (zl h),.p (.int g.x)]) (by
     simp only[vN,wk,oh,hb,zh,Val.d,TQ]
     rfl)]
    show Out.ok (Val.p (.tup [.tup [.int g.x,wb g.lo],.tup [.int g.x,wb h.hi]]))=_;rw[e1,e2];rfl
@[reducible] noncomputable def rF:FS :=
 wk (zV (f2 uV (f2 zT (zf 1) (fC (.int 1))) (fC .non)))
 (zL (zU 3 true (uC (zK (f2 zT (zf 1) (fC (.int 0))) (zK (f2 zT (zf 1) (fC (.int 1))) (yj)))))
 (qY 2 (uC (zK (zA yz (zi (zf 0) (zi (zf 3) (zB)))) (zK (zf 3) (yj))))))
 (wY)
@[reducible] noncomputable def rE:FS :=
 wk (zV (f2 uV (f2 zT (zf 1) (fC (.int 2))) (fC .non)))
 (zL (zU 4 true (uC (zK (f2 zT (zf 1) (fC (.int 0))) (zK (f2 zT (zf 1) (fC (.int 2))) (yj)))))
 (qY 2 (uC (zK (f1 yM (zA yz (zi (zf 0) (zi (zf 4) (zB))))) (zK (zf 4) (yj))))))
 (wY)
noncomputable def wd:FS :=
 zL (zU 2 false (xV (yj)))
 (zL (rF)
 (zL (rE)
 (yJ (zf 2))))
noncomputable def yA:List D→Out Val:=zX 5 wd
theorem o7:∀ds v,ds.length=2→yA ds=.ok v→zX 5 wd ds=.ok v:=fun _ _ _ h=>h
noncomputable def bD (q:Int×zk):D:=.tup [.int q.1,zd q.2]
theorem X6 {a b:zk}{g:Ga}(hn:near a b)(hx : -(2^64)<g.x - a.1∧g.x - a.1<2^64):yA [zS (a,b),zl g]=.ok (.fresh ((nF a b g).map bD)):=by
 have sd:∀y,yz [zS (a,b),.tup [.int g.x,.int y]]=.ok (.p (.int (z9 a b (g.x,y)))):=fun y=>eG (q:=(a,b)) (p:=(g.x,y)) hn hx
 have i1:∃s3,rF [.p (zS (a,b)),.p (zl g),.own [],.un,.un]=.ok (.next [.p (zS (a,b)),.p (zl g),.own ((match g.lo with|some y=>[(z9 a b (g.x,y),(g.x,y))]|none=>[]).map bD),s3,.un]):=by
  cases h:g.lo with
  |none=>exact⟨.un,by simp[zl,wb,h,P6]⟩
  |some y=>exact⟨.p (.tup [.int g.x,.int y]),by simp[zl,wb,h,P7,P6,sd,bD,zd]⟩
 obtain⟨s3,i1⟩:=i1;generalize hL:(match g.lo with|some y=>[(z9 a b (g.x,y),(g.x,y))]|none=>[])=L at i1
 have hl:L.length<100000:=by rw[←hL];split <;> simp
 have i2:∃s4,rE [.p (zS (a,b)),.p (zl g),.own (L.map bD),s3,.un]=.ok (.next [.p (zS (a,b)),.p (zl g),.own ((L++(match g.hi with|some y=>[(-z9 a b (g.x,y),(g.x,y))]|none=>[])).map bD),s3,s4]):=by
  cases h:g.hi with
  |none=>exact⟨.un,by simp[zl,wb,h,P5]⟩
  |some y=>exact⟨.p (.tup [.int g.x,.int y]),by simp[zl,wb,h,P7,P5,sd,bD,zd,hl]⟩
 obtain⟨s4,i2⟩:=i2;unfold yA;show((wd [.p (zS (a,b)),.p (zl g),.un,.un,.un]).bind _)=_;unfold wd;rw[zq (env':=[.p (zS (a,b)),.p (zl g),.own [],.un,.un]) rfl,zq i1,zq i2];unfold nF;rw[hL];rfl
@[reducible] noncomputable def pG:FS :=
 wk (zV (f2 XE (zf 5) (zf 3)))
 (zL (zU 2 true (zf 6))
 (zU 3 true (zf 5)))
 (wY)
@[reducible] noncomputable def wM:FS :=
 pG
@[reducible] noncomputable def wL:FS :=
 vq (xg (zA yA (zi (zf 0) (zi (zf 4) (zB))))) (gT [5,6])
 (wM)
noncomputable def yZ:FS :=
 zL (zU 2 true (fC .non))
 (zL (zU 3 true (fC (.int 0)))
 (zL (vq (xg (zA yd (zi (zf 1) (zi (zf 0) (zB))))) (gN 4)
 (wL))
 (yJ (zf 2))))
noncomputable def yg:List D→Out Val:=zX 7 yZ
theorem qd:∀ds v,ds.length=2→yg ds=.ok v→zX 7 yZ ds=.ok v:=fun _ _ _ h=>h
noncomputable def t8:Option zk→D
 |some p=>zd p
 |none=>.non
theorem fQ {q g:D}(run:D):∀(l:List (Int×zk)) (st:Option zk×Int) (s5 s6:Slot),∃s5' s6',x4 (gT [5,6]) wM (l.map bD) [.p q,.p run,.p (t8 st.1),.p (.int st.2),.p g,s5,s6]=.ok (.next [.p q,.p run,.p (t8 (l.foldl vD st).1),.p (.int (l.foldl vD st).2),.p g,s5',s6'])
 |[],st,s5,s6=>⟨s5,s6,rfl⟩
 | x::l,st,s5,s6=>by
   obtain⟨s5',s6',e⟩:=fQ (q:=q) (g:=g) run l (vD st x) (.p (.int x.1)) (.p (zd x.2));refine⟨s5',s6',?_⟩;have hg:gT [5,6] (bD x) [.p q,.p run,.p (t8 st.1),.p (.int st.2),.p g,s5,s6]=.ok [.p q,.p run,.p (t8 st.1),.p (.int st.2),.p g,.p (.int x.1),.p (zd x.2)]:=rfl
   have hb:wM [.p q,.p run,.p (t8 st.1),.p (.int st.2),.p g,.p (.int x.1),.p (zd x.2)]=.ok (.next [.p q,.p run,.p (t8 (vD st x).1),.p (.int (vD st x).2),.p g,.p (.int x.1),.p (zd x.2)]):=by
    unfold vD;by_cases z:st.2<x.1
    ·simp[z,t8]
    ·simp[z]
   rw[List.map_cons,x4,hg,zh,hb,zh];exact e
theorem fP {a b:zk}{run:D}(hn:near a b):∀(l:List Ga) (st:Option zk×Int) (s4 s5 s6:Slot),(∀g∈l,-(2^64)<g.x - a.1∧g.x - a.1<2^64) →
 ∃s4' s5' s6',x4 (gN 4) wL (l.map zl) [.p (zS (a,b)),.p run,.p (t8 st.1),.p (.int st.2),s4,s5,s6]=.ok (.next [.p (zS (a,b)),.p run,.p (t8 ((l.flatMap (nF a b)).foldl vD st).1),.p (.int ((l.flatMap (nF a b)).foldl vD st).2),s4',s5',s6'])
 |[],st,s4,s5,s6,_=>⟨s4,s5,s6,rfl⟩
 | g::l,st,s4,s5,s6,hx=>by
   obtain⟨t5,t6,e1⟩:=fQ (q:=zS (a,b)) (g:=zl g) run (nF a b g) st s5 s6;obtain⟨u4,u5,u6,e2⟩:=fP (run:=run) hn l ((nF a b g).foldl vD st) (.p (zl g)) t5 t6 (fun x hm=>hx x (by simp[hm]));refine⟨u4,u5,u6,?_⟩
   have hi:xg (zA yA (zi (zf 0) (zi (zf 4) (zB)))) [.p (zS (a,b)),.p run,.p (t8 st.1),.p (.int st.2),.p (zl g),s5,s6]=.ok ((nF a b g).map bD):=by
    have:zA yA (zi (zf 0) (zi (zf 4) (zB))) [.p (zS (a,b)),.p run,.p (t8 st.1),.p (.int st.2),.p (zl g),s5,s6]=.ok (.fresh ((nF a b g).map bD)):=by
     show((yA [zS (a,b),zl g]).bind _)=_;rw[X6 hn (hx g (by simp))];rfl
    simp only[xg,this,zh];rfl
   have hb:wL [.p (zS (a,b)),.p run,.p (t8 st.1),.p (.int st.2),.p (zl g),s5,s6]=.ok (.next [.p (zS (a,b)),.p run,.p (t8 ((nF a b g).foldl vD st).1),.p (.int ((nF a b g).foldl vD st).2),.p (zl g),t5,t6]):=by
    simp only[vq,hi,zh];exact e1
   have hg:gN 4 (zl g) [.p (zS (a,b)),.p run,.p (t8 st.1),.p (.int st.2),s4,s5,s6]=.ok [.p (zS (a,b)),.p run,.p (t8 st.1),.p (.int st.2),.p (zl g),s5,s6]:=rfl;rw[List.map_cons,x4,hg,zh,hb,zh,List.flatMap_cons,scl];exact e2
theorem Rf {a b:zk}{run:List Ga}(hn:near a b)(hl:run.length≤1000):yg [zS (a,b),.l (run.map zl)]=.ok (.p (t8 (gy run a b))):=by
 have hc:=XR hl (a,b)
 have hx:∀g∈sW run a b,-(2^64)<g.x - a.1∧g.x - a.1<2^64:=fun g hg=>by
  obtain⟨_,hb⟩:=qu.mp hg;obtain⟨h1,h2⟩:=hn
  rcases hb with z|z <;> lia
 obtain⟨s4,s5,s6,e⟩:=fP (run:=.l (run.map zl)) hn (sW run a b) (none,0) .un .un .un hx
 have hi:xg (zA yd (zi (zf 1) (zi (zf 0) (zB)))) [.p (zS (a,b)),.p (.l (run.map zl)),.p .non,.p (.int 0),.un,.un,.un]=.ok ((sW run a b).map zl):=by
  have:zA yd (zi (zf 1) (zi (zf 0) (zB))) [.p (zS (a,b)),.p (.l (run.map zl)),.p .non,.p (.int 0),.un,.un,.un]=.ok (.fresh ((sW run a b).map zl)):=by
   show((yd [.l (run.map zl),zS (a,b)]).bind _)=_;rw[hc];rfl
  simp only[xg,this,zh];rfl
 unfold yg;show((yZ [.p (zS (a,b)),.p (.l (run.map zl)),.un,.un,.un,.un,.un]).bind _)=_;unfold yZ;rw[zq (env':=[.p (zS (a,b)),.p (.l (run.map zl)),.p .non,.un,.un,.un,.un]) rfl,zq (env':=[.p (zS (a,b)),.p (.l (run.map zl)),.p .non,.p (.int 0),.un,.un,.un]) rfl]
 rw[zq (by
  simp only[vq,hi,zh]
  exact e)]
 rfl
@[reducible] noncomputable def xk:FT :=
 oh (zf 4)
@[reducible] noncomputable def kO:FS :=
 wk (zV (f2 XD (zf 5) (fC .non)))
 (jv 3 4)
 (qY 4 (zf 5))
@[reducible] noncomputable def xm:FS :=
 zL (zU 5 true (zA yg (zi (uC (zK (f2 zT (zf 3) (f1 yM (fC (.int 1)))) (zK (f2 zT (zf 4) (f1 yM (fC (.int 1)))) (yj)))) (zi (zf 1) (zB)))))
 (kO)
noncomputable def wG:FS :=
 zL (zU 3 false (xV (zK (zf 0) (yj))))
 (zL (zU 4 false (xV (zK (zf 2) (yj))))
 (zL (q0 (xk)
 (xm) 100)
 (yJ (ku (zf 3) (mQ (fC (.int 1))) (jn)))))
noncomputable def yi:List D→Out Val:=zX 6 wG
theorem md:∀ds v,ds.length=3→yi ds=.ok v→zX 6 wG ds=.ok v:=fun _ _ _ h=>h
noncomputable def YM (R:List Ga)(a b:Int):Nat:=R.countP fun g=>decide ((a<g.x∧g.x<b)∨(b<g.x∧g.x<a))
theorem VV {a p b:Int}(h:(a<p∧p<b)∨(b<p∧p<a)):∀R:List Ga,YM R a p+YM R p b+R.countP (fun g=>decide (g.x=p))≤YM R a b
 |[]=>by simp[YM]
 | g::R=>by
   have ih:=VV h R;unfold YM at ih ⊢;simp only[List.countP_cons,saD]
   split <;> split <;> split <;> split <;> lia
theorem XS {R:List Ga}{a p b:Int}{g:Ga}(hg:g∈R)(hx:g.x=p)(h:(a<p∧p<b)∨(b<p∧p<a)):YM R a p+YM R p b+1≤YM R a b:=by
 have:=VV h R;have:0<R.countP (fun g=>decide (g.x=p)):=List.countP_pos_iff.mpr ⟨g,hg,sap hx⟩;lia
theorem bh {run:List Ga}{a b:zk}{l:List zk}(h:Pul run a b l):∃m,l=m++[b]:=by
 induction h with
 |stop _=>exact⟨[],rfl⟩
 | @split a b p d g l1 l2 _ _ _ _ _ _ _ _ ih2=>
   obtain⟨m,rfl⟩:=ih2;exact⟨l1++m,by rw[sbs]⟩
noncomputable def RE (a g:D)(run:List Ga)(r gs:List zk)(s:Slot):Ev:=[.p a,.p (.l (run.map zl)),.p g,.own (r.map zd),.own (gs.map zd),s]
theorem Tr (l:List zk):sV (l.map zd) (some 1) none=(l.tail).map zd:=by
 rw[pP _ 1 1 rfl,List.drop_one,scI]
theorem ZK (l:List zk)(c:zk):sZ ((l++[c]).map zd) (-1)=some (zd c):=by
 rw[nG,sac,saP,saY];simp
theorem cZ {A Z:D}{run:List Ga}{pre gs:List zk}{a b:zk}{s:Slot}(hn:near a b)(hl:run.length≤1000)(hp:pre.length<50000)(hg:gs.length<50000) :
 xm (RE A Z run (pre++[a]) (gs++[b]) s)=.ok (.next (match gy run a b with
  |none=>RE A Z run (pre++[a]++[b]) gs (.p .non)
  |some p=>RE A Z run (pre++[a]) (gs++[b]++[p]) (.p (zd p)))):=by
 have hf:=Rf (run:=run) hn hl
 have ht:uC (zK (f2 zT (zf 3) (f1 yM (fC (.int 1)))) (zK (f2 zT (zf 4) (f1 yM (fC (.int 1)))) (yj))) (RE A Z run (pre++[a]) (gs++[b]) s)=.ok (.p (zS (a,b))):=by
  have e1:f2 zT (zf 3) (f1 yM (fC (.int 1))) (RE A Z run (pre++[a]) (gs++[b]) s)=.ok (.p (zd a)):=by
   show zT (.l ((pre++[a]).map zd)) (.int (-1))=_;simp only[zT,ZK]
  have e2:f2 zT (zf 4) (f1 yM (fC (.int 1))) (RE A Z run (pre++[a]) (gs++[b]) s)=.ok (.p (zd b)):=by
   show zT (.l ((gs++[b]).map zd)) (.int (-1))=_;simp only[zT,ZK]
  simp only[uC,zK,yj,e1,e2,zh];rfl
 have hv:zf 1 (RE A Z run (pre++[a]) (gs++[b]) s)=.ok (.p (.l (run.map zl))):=rfl
 have hc:zA yg (zi (uC (zK (f2 zT (zf 3) (f1 yM (fC (.int 1)))) (zK (f2 zT (zf 4) (f1 yM (fC (.int 1)))) (yj)))) (zi (zf 1) (zB))) (RE A Z run (pre++[a]) (gs++[b]) s)=.ok (.p (t8 (gy run a b))):=by
  simp only[zA,zi,zB,ht,hv,zh];show((yg [zS (a,b),.l (run.map zl)]).bind _)=_;rw[hf];rfl
 unfold xm
 rw[zq (env':=RE A Z run (pre++[a]) (gs++[b]) (.p (t8 (gy run a b)))) (by
  simp only[zU,hc,zh]
  rfl)]
 cases q:gy run a b with
 | none=>
   have c:zV (f2 XD (zf 5) (fC .non)) (RE A Z run (pre++[a]) (gs++[b]) (.p (t8 none)))=.ok true:=rfl;simp only[wk,c,zh,if_true];have hz:(pre++[a]).length<100000:=by simp;lia
   simp[RE,jv,t8,hz];lia
 | some p=>
   have c:zV (f2 XD (zf 5) (fC .non)) (RE A Z run (pre++[a]) (gs++[b]) (.p (t8 (some p))))=.ok false:=rfl;simp only[wk,c,zh,sax,if_false];simp[RE,t8];lia
theorem jN {A Z:D}{run:List Ga}(hl:run.length≤1000):∀(n:Nat) (a b:zk),near a b→YM run a.1 b.1≤n→∃l k,Pul run a b l∧k≤2*YM run a.1 b.1+1∧l.length≤YM run a.1 b.1+1 ∧
 ∀(pre gs:List zk) (s:Slot) (fu:Nat),pre.length+YM run a.1 b.1<40000→gs.length+YM run a.1 b.1<40000→∃s',q0 xk xm (fu+k) (RE A Z run (pre++[a]) (gs++[b]) s)=q0 xk xm fu (RE A Z run (pre++[a]++l) gs s')
 | n,a,b,hn,hc=>by
   have ht:∀(r g:List zk) (c:zk) (s:Slot),xk (RE A Z run r (g++[c]) s)=.ok true:=fun r g c s=>by
    simp[RE]
   cases q:gy run a b with
   | none=>
     refine⟨[b],1,.stop (VI q),by lia,by simp,fun pre gs s fu h1 h2=>⟨.p .non,?_⟩⟩;have hb:=cZ (A:=A) (Z:=Z) (s:=s) (pre:=pre) (gs:=gs) hn hl (by lia) (by lia);rw[q]at hb;rw[q0,ht,zh,sak rfl,hb,zh]
   | some p=>
     obtain⟨g,d,hg,hbw,hB,hd,far⟩:=VH q;have hx:=hB.1;have hs:(a.1<p.1∧p.1<b.1)∨(b.1<p.1∧p.1<a.1):=by rw[hx];exact hbw
     have hcs:=XS hg hx.symm hs;have hn':=hn;obtain⟨m1,m2⟩:=hn';have n1:near a p:=by unfold near;lia
     have n2:near p b:=by unfold near;lia
     match n,hc with
     | 0,hc=>lia
     | n+1,hc=>
       obtain⟨l1,k1,P1,b1,c1,w1⟩:=jN hl n a p n1 (by lia);obtain⟨l2,k2,P2,b2,c2,w2⟩:=jN hl n p b n2 (by lia);refine⟨l1++l2,k2+k1+1,.split hg hbw hB hd far P1 P2,by lia,by simp;lia,fun pre gs s fu h1 h2=>?_⟩;have hb:=cZ (A:=A) (Z:=Z) (s:=s) (pre:=pre) (gs:=gs) hn hl (by lia) (by lia);rw[q]at hb;obtain⟨s1,e1⟩:=w1 pre (gs++[b]) (.p (zd p)) (fu+k2) (by lia) (by simp;lia);obtain⟨t,rfl⟩:=bh P1;obtain⟨s2,e2⟩:=w2 (pre++[a]++t) gs s1 fu (by simp at c1 ⊢;lia) (by lia);refine⟨s2,?_⟩;rw[←Nat.add_assoc,←Nat.add_assoc,q0,ht,zh,sak rfl,hb,zh];simp only;rw[e1];simp only[sbs]at e2 ⊢;exact e2
theorem Sq {run:List Ga}{a b:zk}(hn:near a b)(hl:run.length≤40):∃l,Pul run a b l∧l.length≤run.length+1∧yi [zd a,.l (run.map zl),zd b]=.ok (.fresh (l.map zd)):=by
 have hcl:YM run a.1 b.1≤run.length:=List.countP_le_length;obtain⟨l,k,P,hk,hl2,w⟩:=jN (A:=zd a) (Z:=zd b) (run:=run) (by lia) _ a b hn (Nat.le_refl _);obtain⟨s,e⟩:=w [] [] .un (100 - k) (by simp;lia) (by simp;lia);rw[show 100 - k+k=100 by lia]at e
 obtain⟨j,hj⟩:∃j,100 - k=j+1:=⟨100 - k - 1,by lia⟩
 have ht:xk (RE (zd a) (zd b) run ([]++[a]++l) [] s)=.ok false:=by simp[RE]
 have e0:q0 xk xm (j+1) (RE (zd a) (zd b) run ([]++[a]++l) [] s)=.ok (.next (RE (zd a) (zd b) run ([]++[a]++l) [] s)):=by
  rw[q0,ht,zh,sal sai]
 rw[hj,e0]at e;refine⟨l,P,by lia,?_⟩;unfold yi;show((wG [.p (zd a),.p (.l (run.map zl)),.p (zd b),.un,.un,.un]).bind _)=_;unfold wG;rw[zq (env':=[.p (zd a),.p (.l (run.map zl)),.p (zd b),.own [zd a],.un,.un]) rfl];rw[zq (env':=RE (zd a) (zd b) run ([]++[a]) ([]++[b]) .un) rfl];rw[zq e]
 have hcut:ku (zf 3) (mQ (fC (.int 1))) (jn) (RE (zd a) (zd b) run ([]++[a]++l) [] s)=.ok (.fresh (l.map zd)):=by
  show Out.ok (Val.fresh (sV ((a::l).map zd) (some 1) none))=_;rw[Tr];rfl
 simp only[yJ,hcut,zh]
@[reducible] noncomputable def ql:FS :=
 wk (vF (oh (zf 4)) (zV (f2 oB (f2 zT (f2 zT (zf 4) (f1 yM (fC (.int 1)))) (fC (.int 3))) (f2 zT (zf 5) (fC (.int 3))))))
 (zL (zU 6 true (zA yF (zi (f2 zT (zf 4) (f1 yM (fC (.int 1)))) (zi (zf 5) (zB)))))
 (zL (Zw 3 (zA yi (zi (f2 zT (zf 3) (f1 yM (fC (.int 1)))) (zi (zf 4) (zi (f2 zT (zf 6) (fC (.int 0))) (zB))))))
 (zL (qY 3 (f2 zT (zf 6) (fC (.int 1))))
 (zU 4 false (xV (yj))))))
 (wY)
@[reducible] noncomputable def x5:FS :=
 zL (ql)
 (qY 4 (zf 5))
noncomputable def uA:FS :=
 zL (zU 3 false (xV (zK (zf 0) (yj))))
 (zL (zU 4 false (xV (yj)))
 (zL (vq (xg (zf 1)) (gN 5)
 (x5))
 (zL (Zw 3 (zA yi (zi (f2 zT (zf 3) (f1 yM (fC (.int 1)))) (zi (zf 4) (zi (zf 2) (zB))))))
 (yJ (ku (zf 3) (mQ (fC (.int 1))) (mQ (f1 yM (fC (.int 1)))))))))
noncomputable def xX:List D→Out Val:=zX 7 uA
theorem j9:∀ds v,ds.length=3→xX ds=.ok v→zX 7 uA ds=.ok v:=fun _ _ _ h=>h
theorem nD:∀l:List zk,oZ (l.map zd)=true
 |[]=>rfl
 | p::l=>by
   have:=nD l;simp only[List.map_cons,oZ,this,Bool.and_true];rfl
noncomputable def TE (s e:zk)(row:List Ga)(sp:List zk)(R:List Ga)(s5 s6:Slot):Ev:=[.p (zd s),.p (.l (row.map zl)),.p (zd e),.own (sp.map zd),.own (R.map zl),s5,s6]
theorem gY {s e a:zk}{row:List Ga}{pre:List zk}{R:List Ga}{s5 s6:Slot}{X:FE}{b:zk}(hX:X (TE s e row (pre++[a]) R s5 s6)=.ok (.p (zd b)))(hn:near a b)(hl:R.length≤40)(hp:pre.length<10000) :
 ∃l,Pul R a b l∧l.length≤R.length+1∧Zw 3 (zA yi (zi (f2 zT (zf 3) (f1 yM (fC (.int 1)))) (zi (zf 4) (zi X (zB))))) (TE s e row (pre++[a]) R s5 s6)=.ok (.next (TE s e row (pre++[a]++l) R s5 s6)):=by
 obtain⟨l,P,hll,h⟩:=Sq (run:=R) hn hl;refine⟨l,P,hll,?_⟩
 have e1:f2 zT (zf 3) (f1 yM (fC (.int 1))) (TE s e row (pre++[a]) R s5 s6)=.ok (.p (zd a)):=by
  show zT (.l ((pre++[a]).map zd)) (.int (-1))=_;simp only[zT,ZK]
 have e2:zf 4 (TE s e row (pre++[a]) R s5 s6)=.ok (.brw 4 (R.map zl)):=rfl
 have hc:zA yi (zi (f2 zT (zf 3) (f1 yM (fC (.int 1)))) (zi (zf 4) (zi X (zB)))) (TE s e row (pre++[a]) R s5 s6)=.ok (.fresh (l.map zd)):=by
  simp only[zA,zi,zB,e1,e2,hX,zh];show((yi [zd a,.l (R.map zl),zd b]).bind _)=_
  rw[h,zh,sak (by
   rw[sbX]
   exact .inr (nD l))]
 have hz:(pre++[a]).length+l.length≤100000:=by simp;lia
 show((zA yi (zi (f2 zT (zf 3) (f1 yM (fC (.int 1)))) (zi (zf 4) (zi X (zB)))) (TE s e row (pre++[a]) R s5 s6)).bind _)=_;rw[hc,zh];show(if((pre++[a]).map zd).length+(l.map zd).length≤100000 then _ else _)=_;rw[sak (by rw[sac,sac];exact hz)];rw[←saY];rfl
noncomputable def oJ:List Ga→List Ga→zk→List (List Ga×zk)
 |R,[],e=>[(R,e)]
 |R,g::r,e=>if R≠[]∧(zQ R).w≠g.w then(R,(yh (zQ R) g).1)::([],(yh (zQ R) g).2)::oJ [g] r e else oJ (R++[g]) r e
theorem ZT {R:List Ga}{g:Ga}(h:R.Pairwise Up)(hR:R≠[])(u:Up (zQ R) g):(R++[g]).Pairwise Up:=by
 rw[List.pairwise_append];refine⟨h,by simp,fun x hx y hy=>?_⟩;rw[saf.mp hy]
 obtain⟨m,z,rfl⟩:∃m z,R=m++[z]:=⟨R.dropLast,R.getLast hR,(List.dropLast_concat_getLast hR).symm⟩
 have el:zQ (m++[z])=z:=by
  unfold zQ;rw[saC,List.getLast?_concat];rfl
 rw[el]at u
 rcases sas.mp hx with hx|hx
 ·exact((List.pairwise_append.mp h).2.2 x hx z (by simp)).trans u
 ·rw[saf.mp hx];exact u
theorem lz:∀(r R:List Ga) (e:zk),R≠[]→R.Pairwise Up→i7 (zQ R::r)→oJ R r e=o_ (wB (R++r)) e
 | [],R,e,hR,hu,_=>by
   have:=cY (r:=[]) hu hR (by simp);rw[this];rfl
 | g::r,R,e,hR,hu,⟨w1,w2,w3⟩=>by
   by_cases z:(zQ R).w=g.w
   ·have u:=w1 z
    have el:zQ (R++[g])=g:=by
     unfold zQ;rw[saC,List.getLast?_concat];rfl
    have ih:=lz r (R++[g]) e (by simp) (ZT hu hR u) (by rw[el];exact w3);rw[oJ,sal fun q=>q.2 z,ih,sbs];rfl
   ·have ih:=lz r [g] e (by simp) (by simp) w3;rw[oJ,sak ⟨hR,z⟩,ih,cY (r:=g::r) hu hR (fun h hh=>by simp at hh;rw[←hh];exact z)];obtain⟨Q,rs,er⟩:=m5 g r;show _=o_ (R::wB (g::r)) e;have e2:wB ([g]++r)=wB (g::r):=rfl;rw[e2,er];rfl
theorem Vo {row:List Ga}(e:zk)(h:i7 row):oJ [] row e=o_ (wB row) e:=by
 cases row with
 |nil=>rfl
 | cons g r=>
   rw[oJ,sal fun q=>q.1 rfl];exact lz r [g] e (by simp) (by simp) h
noncomputable def BX (c x:Int):Prop:=c - 2^60<x∧x<c+2^60
theorem jt {C:Int}{a b:zk}(h:BX C a.1)(k:BX C b.1):near a b:=by
 unfold BX at h k;unfold near;lia
theorem Wr (g h:Ga):(yh g h).1.1=g.x∧(yh g h).2.1=g.x:=by
 unfold yh
 split <;> exact⟨rfl,rfl⟩
theorem aB {C:Int}{s e u:zk}{row:List Ga}{pre:List zk}{R:List Ga}{g:Ga}{s6:Slot}(bu:BX C u.1)(bR:∀x∈R,BX C x.x)(hl:R.length≤40)(hp:pre.length<9000)(ht:R≠[]→(zQ R).w≠g.w→TurnOk (zQ R) g) :
 (if R≠[]∧(zQ R).w≠g.w then ∃l s6',Pul R u (yh (zQ R) g).1 l∧l.length≤R.length+1∧x5 (TE s e row (pre++[u]) R (.p (zl g)) s6)=.ok (.next (TE s e row (pre++[u]++l++[(yh (zQ R) g).2]) [g] (.p (zl g)) s6'))
  else x5 (TE s e row (pre++[u]) R (.p (zl g)) s6)=.ok (.next (TE s e row (pre++[u]) (R++[g]) (.p (zl g)) s6))):=by
 have hap:∀(sp:List zk) (Q:List Ga) (z:Slot),Q.length<1000→qY 4 (zf 5) (TE s e row sp Q (.p (zl g)) z)=.ok (.next (TE s e row sp (Q++[g]) (.p (zl g)) z)):=fun sp Q z hQ=>by
  have:Q.length<100000:=by lia
  simp[TE,this]
 by_cases hR:R=[]
 ·subst hR;rw[sal fun q=>q.1 rfl];unfold x5;rw[zq (env':=TE s e row (pre++[u]) [] (.p (zl g)) s6) rfl];exact hap _ _ _ (by simp)
 have lg:sZ (R.map zl) (-1)=some (zl (zQ R)):=by
  unfold zQ;rw[nG,sac,sar,←sbi,saC,saK hR];rfl
 have hlast:f2 zT (zf 4) (f1 yM (fC (.int 1))) (TE s e row (pre++[u]) R (.p (zl g)) s6)=.ok (.p (zl (zQ R))):=by
  show zT (.l (R.map zl)) (.int (-1))=_;simp only[zT,lg]
 have c:vF (oh (zf 4)) (zV (f2 oB (f2 zT (f2 zT (zf 4) (f1 yM (fC (.int 1)))) (fC (.int 3))) (f2 zT (zf 5) (fC (.int 3))))) (TE s e row (pre++[u]) R (.p (zl g)) s6)=.ok (decide ((zQ R).w≠g.w)):=by
  have t1:oh (zf 4) (TE s e row (pre++[u]) R (.p (zl g)) s6)=.ok true:=by
   cases R with
   |nil=>exact absurd rfl hR
   |cons x r=>rfl
  have t2:f2 oB (f2 zT (f2 zT (zf 4) (f1 yM (fC (.int 1)))) (fC (.int 3))) (f2 zT (zf 5) (fC (.int 3))) (TE s e row (pre++[u]) R (.p (zl g)) s6)=oB (.int (zQ R).w) (.int g.w):=by
   have e3:f2 zT (f2 zT (zf 4) (f1 yM (fC (.int 1)))) (fC (.int 3)) (TE s e row (pre++[u]) R (.p (zl g)) s6)=.ok (.p (.int (zQ R).w)):=by
    show((f2 zT (zf 4) (f1 yM (fC (.int 1))) (TE s e row (pre++[u]) R (.p (zl g)) s6)).bind _)=_;rw[hlast];rfl
   show((f2 zT (f2 zT (zf 4) (f1 yM (fC (.int 1)))) (fC (.int 3)) (TE s e row (pre++[u]) R (.p (zl g)) s6)).bind _)=_;rw[e3];rfl
  simp only[vF,t1,zh,if_true,zV,t2]
  by_cases z:(zQ R).w=g.w <;> simp[z]
 by_cases z:(zQ R).w=g.w
 ·rw[sal fun q=>q.2 z];unfold x5;rw[saB (fun w=>w z)]at c
  rw[zq (env':=TE s e row (pre++[u]) R (.p (zl g)) s6) (by
   simp only[ql,wk,c,zh]
   rfl)]
  exact hap _ _ _ (by lia)
 ·rw[sak ⟨hR,z⟩];rw[sap z]at c;have hT:=ay (ht hR z)
  have hm:zQ R∈R:=by
   unfold zQ;rw[saC,saK hR];exact scF hR
  obtain⟨tx1,tx2⟩:=Wr (zQ R) g;have b1:BX C (yh (zQ R) g).1.1:=by rw[tx1];exact bR _ hm
  obtain⟨l,P,hll,hx⟩:=gY (s:=s) (e:=e) (row:=row) (pre:=pre) (R:=R) (s5:=.p (zl g)) (s6:=.p (.tup [zd (yh (zQ R) g).1,zd (yh (zQ R) g).2])) (X:=f2 zT (zf 6) (fC (.int 0))) (b:=(yh (zQ R) g).1) rfl (jt bu b1) hl (by lia);refine⟨l,.p (.tup [zd (yh (zQ R) g).1,zd (yh (zQ R) g).2]),P,hll,?_⟩
  have hc6:zA yF (zi (f2 zT (zf 4) (f1 yM (fC (.int 1)))) (zi (zf 5) (zB))) (TE s e row (pre++[u]) R (.p (zl g)) s6)=.ok (.p (.tup [zd (yh (zQ R) g).1,zd (yh (zQ R) g).2])):=by
   have e5:zf 5 (TE s e row (pre++[u]) R (.p (zl g)) s6)=.ok (.p (zl g)):=rfl;simp only[zA,zi,zB,hlast,e5,zh];show((yF [zl (zQ R),zl g]).bind _)=_;rw[hT];rfl
  have hap3:qY 3 (f2 zT (zf 6) (fC (.int 1))) (TE s e row (pre++[u]++l) R (.p (zl g)) (.p (.tup [zd (yh (zQ R) g).1,zd (yh (zQ R) g).2])))=.ok (.next (TE s e row (pre++[u]++l++[(yh (zQ R) g).2]) R (.p (zl g)) (.p (.tup [zd (yh (zQ R) g).1,zd (yh (zQ R) g).2])))):=by
   have hlen:((pre++[u]++l).map zd).length<100000:=by simp;lia
   show(if((pre++[u]++l).map zd).length<100000 then _ else _)=_;rw[sak hlen];unfold TE;rw[saY (l₂:=[(yh (zQ R) g).2])];rfl
  unfold x5
  rw[zq (env':=TE s e row (pre++[u]++l++[(yh (zQ R) g).2]) [] (.p (zl g)) (.p (.tup [zd (yh (zQ R) g).1,zd (yh (zQ R) g).2]))) (by
   simp only[ql,wk,c,zh,if_true]
   rw[zq (env':=TE s e row (pre++[u]) R (.p (zl g)) (.p (.tup [zd (yh (zQ R) g).1,zd (yh (zQ R) g).2]))) (by
    simp only[zU,hc6,zh]
    rfl),zq hx,zq hap3]
   rfl)]
  exact hap _ [] _ (by simp)
theorem WV (a b:zk):Pul [] a b [b]:=.stop fun g hg=>absurd hg (by simp)
theorem mW {C:Int}{s e:zk}{row:List Ga}{xs:List Int}(hxs:xs.length≤40):∀(yv R:List Ga) (pre:List zk) (u:zk) (s5 s6:Slot),BX C u.1→(∀x∈R,BX C x.x∧x.x∈xs)→(∀x∈yv,BX C x.x∧x.x∈xs)→R.Pairwise Up→pre.length+R.length+3*yv.length<9000→(R=[]→i7 yv)→(R≠[]→i7 (zQ R::yv)) →
 ∃(pre':List zk) (u':zk) (R':List Ga) (T:List zk) (s5' s6':Slot),x4 (gN 5) x5 (yv.map zl) (TE s e row (pre++[u]) R s5 s6)=.ok (.next (TE s e row (pre'++[u']) R' s5' s6'))∧pre'++[u']=pre++[u]++T∧BX C u'.1∧R'.length≤40∧pre'.length<9000∧∀l,Pul R' u' e l→Tot u (oJ R yv e) (T++l)
 |[],R,pre,u,s5,s6,bu,bR,_,hu,hp,_,_=>⟨pre,u,R,[],s5,s6,rfl,by simp,bu,sbq (Wo hu fun g hg=>(bR g hg).2) hxs,by lia,fun l P=>by
  have:=Tot.cons P (Tot.nil (a:=e));rw[sbW]at this
  exact this⟩
 | g::yv,R,pre,u,s5,s6,bu,bR,bg,hu,hp,w0,w1=>by
   simp only[List.length_cons]at hp;have ht:R≠[]→(zQ R).w≠g.w→TurnOk (zQ R) g:=fun h z=>(w1 h).2.1 z;have hR40:R.length≤40:=sbq (Wo hu fun g hg=>(bR g hg).2) hxs;have st:=aB (s:=s) (e:=e) (row:=row) (pre:=pre) (R:=R) (g:=g) (s6:=s6) bu (fun x hx=>(bR x hx).1) hR40 (by lia) ht;have hg:gN 5 (zl g) (TE s e row (pre++[u]) R s5 s6)=.ok (TE s e row (pre++[u]) R (.p (zl g)) s6):=rfl;have bg':∀x∈yv,BX C x.x∧x.x∈xs:=fun x hx=>bg x (by simp[hx])
   have wg:i7 (g::yv):=by
    by_cases h:R=[]
    ·exact w0 h
    ·exact(w1 h).2.2
   by_cases c:R≠[]∧(zQ R).w≠g.w
   ·rw[sak c]at st;obtain⟨l1,s6',P1,hl1,hb⟩:=st
    have hm:zQ R∈R:=by
     unfold zQ;rw[saC,saK c.1];exact scF c.1
    have b2:BX C (yh (zQ R) g).2.1:=by rw[(Wr (zQ R) g).2];exact(bR _ hm).1
    obtain⟨pre',u',R',T,s5',s6'',e1,e2,b',k1,k2,tot⟩:=mW (s:=s) (e:=e) (row:=row) hxs yv [g] (pre++[u]++l1) (yh (zQ R) g).2 (.p (zl g)) s6' b2 (fun x hx=>by rw[saf.mp hx];exact bg g (by simp)) bg' (by simp) (by simp;lia) (fun z=>by simp at z) (fun _=>wg);refine⟨pre',u',R',l1++([(yh (zQ R) g).2]++T),s5',s6'',?_,by rw[e2];simp,b',k1,k2,fun l P=>?_⟩
    ·rw[List.map_cons,x4,hg,zh,hb,zh];exact e1
    ·rw[oJ,sak c,sbs,sbs];exact .cons P1 (.cons (WV _ _) (tot l P))
   ·rw[sal c]at st
    have el:zQ (R++[g])=g:=by
     unfold zQ;rw[saC,List.getLast?_concat];rfl
    have hu':(R++[g]).Pairwise Up:=by
     by_cases h:R=[]
     ·subst h;simp
     ·have hw:(zQ R).w=g.w:=Decidable.byContradiction fun z=>c ⟨h,z⟩;exact ZT hu h ((w1 h).1 hw)
    obtain⟨pre',u',R',T,s5',s6'',e1,e2,b',k1,k2,tot⟩:=mW (s:=s) (e:=e) (row:=row) hxs yv (R++[g]) pre u (.p (zl g)) s6 bu (fun x hx=>by
     rcases sas.mp hx with hx|hx
     ·exact bR x hx
     ·rw[saf.mp hx];exact bg g (by simp)) bg' hu' (by simp;lia) (fun z=>by simp at z) (fun _=>by rw[el];exact wg)
    refine⟨pre',u',R',T,s5',s6'',?_,e2,b',k1,k2,fun l P=>?_⟩
    ·rw[List.map_cons,x4,hg,zh,st,zh];exact e1
    ·rw[oJ,sal c];exact tot l P
theorem Ts (a:zk)(m:List zk)(e:zk):sV ((a::(m++[e])).map zd) (some 1) (some (-1))=m.map zd:=by
 have hl:((a::(m++[e])).map zd).length=m.length+2:=by simp
 unfold DL.sV;rw[hl];show(((a::(m++[e])).map zd).drop (if(1:Int)<0 then((1:Int)+((m.length+2:Nat):Int)).toNat else min (1:Int).toNat (m.length+2))).take ((if(-1:Int)<0 then((-1:Int)+((m.length+2:Nat):Int)).toNat else min (-1:Int).toNat (m.length+2)) - (if(1:Int)<0 then((1:Int)+((m.length+2:Nat):Int)).toNat else min (1:Int).toNat (m.length+2)))=_;rw[sak (show(-1:Int)<0 by lia),sal (show ¬(1:Int)<0 by lia)]
 have e1:min (1:Int).toNat (m.length+2)=1:=by
  show min 1 (m.length+2)=1;lia
 have e2:((-1:Int)+((m.length+2:Nat):Int)).toNat=m.length+1:=by lia
 rw[e1,e2];simp
theorem aA {C:Int}{s e:zk}{row:List Ga}{xs:List Int}(bs:BX C s.1)(be:BX C e.1)(bg:∀g∈row,BX C g.x∧g.x∈xs)(hxs:xs.length≤40)(hl:row.length≤2500)(w:i7 row) :
 ∃m,Tot s (o_ (wB row) e) (m++[e])∧m.length≤9100∧xX [zd s,.l (row.map zl),zd e]=.ok (.fresh (m.map zd)):=by
 obtain⟨pre,u,R,T,s5,s6,ef,ep,bu,hR,hp,tot⟩:=mW (s:=s) (e:=e) (row:=row) hxs row [] [] s .un .un bs (by simp) bg (by simp) (by simp;lia) (fun _=>w) (fun z=>absurd rfl z);obtain⟨l,P,hll,hx⟩:=gY (s:=s) (e:=e) (a:=u) (row:=row) (pre:=pre) (R:=R) (s5:=s5) (s6:=s6) (X:=zf 2) (b:=e) rfl (jt bu be) hR (by lia);obtain⟨z,rfl⟩:=bh P;have tt:=tot _ P;rw[Vo e w,←sbs]at tt;have hlen:=congrArg List.length ep;simp only[saP,List.length_cons,List.length_nil]at hlen hll;refine⟨T++z,tt,by rw[saP];lia,?_⟩;have e4:pre++[u]++(z++[e])=s::((T++z)++[e]):=by rw[ep];simp
 have hcut:ku (zf 3) (mQ (fC (.int 1))) (mQ (f1 yM (fC (.int 1)))) (TE s e row (s::((T++z)++[e])) R s5 s6)=.ok (.fresh ((T++z).map zd)):=by
  show Out.ok (Val.fresh (sV ((s::((T++z)++[e])).map zd) (some 1) (some (-1))))=_;rw[Ts]
 unfold xX;show((uA [.p (zd s),.p (.l (row.map zl)),.p (zd e),.un,.un,.un,.un]).bind _)=_;unfold uA;rw[zq (env':=[.p (zd s),.p (.l (row.map zl)),.p (zd e),.own [zd s],.un,.un,.un]) rfl];rw[zq (env':=TE s e row ([]++[s]) [] .un .un) rfl]
 rw[zq (by
  have hi:xg (zf 1) (TE s e row ([]++[s]) [] .un .un)=.ok (row.map zl):=rfl;simp only[vq,hi,zh]
  exact ef)]
 rw[zq hx,e4];simp only[yJ,hcut,zh]
noncomputable def wc:FS :=
 zL (zU 3 true (f2 qm (f2 zT (zf 1) (fC (.int 0))) (f2 zT (zf 0) (fC (.int 0)))))
 (zL (zU 4 true (f2 qm (f2 zT (zf 1) (fC (.int 1))) (f2 zT (zf 0) (fC (.int 1)))))
 (zL (zU 5 true (f2 qm (f2 zT (zf 2) (fC (.int 0))) (f2 zT (zf 1) (fC (.int 0)))))
 (zL (zU 6 true (f2 qm (f2 zT (zf 2) (fC (.int 1))) (f2 zT (zf 1) (fC (.int 1)))))
 (yJ (oK (f2 nM (f2 pI (zf 3) (zf 6)) (f2 pI (zf 4) (zf 5))) (f2 XE (f2 y9 (f2 pI (zf 3) (zf 5)) (f2 pI (zf 4) (zf 6))) (fC (.int 0))))))))
noncomputable def yV:List D→Out Val:=zX 7 wc
theorem o6:∀ds v,ds.length=3→yV ds=.ok v→zX 7 wc ds=.ok v:=fun _ _ _ h=>h
theorem cQ {o m n:zk}(h1:near o m)(h2:near m n)(h3:sY (m.2 - o.2) (n.2 - m.2)=true):yV [zd o,zd m,zd n]=.ok (.p (.bl (wA o m n))):=by
 have c1:∀j,sY (m.1 - o.1) j=true:=fun j=>qA h1.1 h1.2;have c2:∀j,sY j (n.1 - m.1)=true:=fun j=>iV h2.1 h2.2;unfold yV;show((wc [.p (zd o),.p (zd m),.p (zd n),.un,.un,.un,.un]).bind _)=_;unfold wc;rw[zq (env':=[.p (zd o),.p (zd m),.p (zd n),.p (.int (m.1 - o.1)),.un,.un,.un]) rfl];rw[zq (env':=[.p (zd o),.p (zd m),.p (zd n),.p (.int (m.1 - o.1)),.p (.int (m.2 - o.2)),.un,.un]) rfl];rw[zq (env':=[.p (zd o),.p (zd m),.p (zd n),.p (.int (m.1 - o.1)),.p (.int (m.2 - o.2)),.p (.int (n.1 - m.1)),.un]) rfl];rw[zq (env':=[.p (zd o),.p (zd m),.p (zd n),.p (.int (m.1 - o.1)),.p (.int (m.2 - o.2)),.p (.int (n.1 - m.1)),.p (.int (n.2 - m.2))]) rfl];unfold wA;by_cases z:(m.1 - o.1)*(n.2 - m.2)=(m.2 - o.2)*(n.1 - m.1)
 ·simp[c1,c2,h3,z]
 ·have zb:((m.1 - o.1)*(n.2 - m.2) == (m.2 - o.2)*(n.1 - m.1))=false:=beq_eq_false_iff_ne.mpr z;simp[c1,c2,h3,zb,z]
@[reducible] noncomputable def xW:FT :=
 dH (oh (zA yV (zi (zf 0) (zi (zf 1) (zi (zf 2) (zB))))))
@[reducible] noncomputable def vB:FE :=
 zf 1
noncomputable def tP:FS :=
 zL (zU 3 true (f2 y9 (f2 y9 (xV (zK (zf 0) (yj))) (zA xb (zi (zA xX (zi (zf 0) (zi (zf 1) (zi (zf 2) (zB))))) (zB)))) (xV (zK (zf 2) (yj)))))
 (zL (zU 4 true (yI [] 3 (Yy (zf 3) (ku (zf 3) (mQ (fC (.int 1))) (jn)) (ku (zf 3) (mQ (fC (.int 2))) (jn))) (gT [0,1,2]) (xW) (vB)))
 (yJ (f2 y9 (f2 y9 (xV (zK (zf 0) (yj))) (zf 4)) (xV (zK (zf 2) (yj))))))
noncomputable def vn:List D→Out Val:=zX 5 tP
theorem gm:∀ds v,ds.length=3→vn ds=.ok v→zX 5 tP ds=.ok v:=fun _ _ _ h=>h
noncomputable def cJ (t:zk×zk×zk):D:=.tup [zd t.1,zd t.2.1,zd t.2.2]
theorem ZR:∀l:List zk,rm (l.map zd) (l.tail.map zd) (l.tail.tail.map zd)=(xn l).map cJ
 |[]=>rfl
 |[_]=>rfl
 |[_,_]=>rfl
 | o::m::n::r=>by
   have ih:=ZR (m::n::r);simp only[List.tail_cons,List.map_cons]at ih ⊢;rw[rm,xn,List.map_cons,←ih];rfl
theorem ZV:∀l:List zk,(xn l).length≤l.length
 |[]=>Nat.le_refl _
 |[_]=>saT _
 |[_,_]=>saT _
 | o::m::n::r=>by
   have:=ZV (m::n::r);rw[xn,List.length_cons,List.length_cons];lia
theorem b7:∀(ts:List (zk×zk×zk)) (a b c:Slot),(∀t∈ts,near t.1 t.2.1∧near t.2.1 t.2.2∧sY (t.2.1.2 - t.1.2) (t.2.2.2 - t.2.1.2)=true)→xr (gT [0,1,2]) xW vB (ts.map cJ) [a,b,c]=.ok ((ts.filterMap fun t=>if wA t.1 t.2.1 t.2.2=true then none else some t.2.1).map zd)
 |[],_,_,_,_=>rfl
 | t::ts,a,b,c,h=>by
   obtain⟨h1,h2,h3⟩:=h t (by simp);have st:=cQ h1 h2 h3;have ih:=b7 ts (.p (zd t.1)) (.p (zd t.2.1)) (.p (zd t.2.2)) (fun x hx=>h x (by simp[hx]));have hg:gT [0,1,2] (cJ t) [a,b,c]=.ok [.p (zd t.1),.p (zd t.2.1),.p (zd t.2.2)]:=rfl
   have ht:xW [.p (zd t.1),.p (zd t.2.1),.p (zd t.2.2)]=.ok (!wA t.1 t.2.1 t.2.2):=by
    have hc:zA yV (zi (zf 0) (zi (zf 1) (zi (zf 2) (zB)))) [.p (zd t.1),.p (zd t.2.1),.p (zd t.2.2)]=.ok (.p (.bl (wA t.1 t.2.1 t.2.2))):=by
     show((yV [zd t.1,zd t.2.1,zd t.2.2]).bind _)=_;rw[st];rfl
    simp only[xW,dH,oh,hc,zh,Val.d,TQ]
   rw[List.map_cons,xr,hg,zh,ht,zh,List.filterMap_cons]
   cases wA t.1 t.2.1 t.2.2 with
   |true=>exact ih
   | false=>
     show((xr (gT [0,1,2]) xW vB (ts.map cJ) [.p (zd t.1),.p (zd t.2.1),.p (zd t.2.2)]).bind _)=_;rw[ih];rfl
theorem Ws:∀{l:List zk} {e:zk} {t:zk×zk×zk},t∈xn (l++[e])→t.1∈l∧t.2.1∈l∧t.2.1∈(l++[e]).tail∧t.2.2∈(l++[e]).tail
 |[],_,_,h=>by cases h
 |[_],_,_,h=>by cases h
 | [o,m],e,t,h=>by
   cases saf.mp h;simp
 | o::m::n::r,e,t,h=>by
   rcases san.mp h with rfl|h
   ·simp
   ·obtain⟨h1,h2,h3,h4⟩:=Ws (l:=m::n::r) h;exact⟨.tail _ h1,.tail _ h2,.tail _ h3,.tail _ h4⟩
noncomputable def RD (c:Int)(p:zk):Prop:=c≤p.2∧p.2<c+2^64
structure PullOk (s e:zk)(row:List Ga):Prop where
 bx:∃C:Int,BX C s.1∧BX C e.1∧∀g∈row,BX C g.x
 xs:∃xs:List Int,xs.length≤40∧∀g∈row,g.x∈xs
 len:row.length≤2500
 walk:i7 row
 sx:∀g∈row,g.x≠s.1
 ex:∀g∈row,g.x≠e.1
 hh:∃c:Int,(∀p,mK row p→RD c p)∧(RD c s∨RD c e)
theorem Xa {s e:zk}{row:List Ga}(ok:PullOk s e row):∃out,Uc s (wB row) e out∧out.length≤9200∧vn [zd s,.l (row.map zl),zd e]=.ok (.fresh (out.map zd)):=by
 obtain⟨xs,hxs,hx⟩:=ok.xs;obtain⟨C,bs,be,bg⟩:=ok.bx;obtain⟨m,tot,hm,ht⟩:=aA bs be (fun g hg=>⟨bg g hg,hx g hg⟩) hxs ok.len ok.walk;have tn:=ff _ (cX row ok.walk);obtain⟨m',em,hp⟩:=fH (wB row) s e (m++[e]) tn tot;obtain rfl:m=m':=(List.append_inj' em rfl).1;rw[fo]at hp
 have n1:∀p∈m,p≠s:=fun p k q=>by
  obtain⟨g,hg,w,_⟩:=hp p k;exact ok.sx g hg (by rw[←w,q])
 have n2:∀p∈m,p≠e:=fun p k q=>by
  obtain⟨g,hg,w,_⟩:=hp p k;exact ok.ex g hg (by rw[←w,q])
 have hu:=Wp (ps:=m) (by lia);have hul:=VE m;generalize hU:m.foldl tq []=U at hu hul
 have hin:∀p∈s::(U++[e]),p=s∨p=e∨mK row p:=fun p k=>by
  rcases san.mp k with k|k
  ·exact .inl k
  ·rcases sas.mp k with k|k
   ·rw[←hU]at k;exact .inr (.inr (hp p (gW k)))
   ·exact .inr (.inl (saf.mp k))
 have hbx:∀p∈s::(U++[e]),BX C p.1:=fun p k=>by
  rcases hin p k with rfl|rfl|⟨g,hg,w,_⟩
  ·exact bs
  ·exact be
  ·rw[w];exact bg g hg
 have hin2:∀t∈xn (s::(U++[e])),sY (t.2.1.2 - t.1.2) (t.2.2.2 - t.2.1.2)=true:=fun t k=>by
  obtain⟨c,hp',hc⟩:=ok.hh;obtain⟨k1,k2,k3,k4⟩:=Ws (l:=s::U) k;have pu:∀p∈U,RD c p:=fun p hq=>hp' p (hp p (gW (by rw[hU];exact hq)))
  rcases hc with hc|hc
  ·have q:∀p∈s::U,RD c p:=fun p hq=>(san.mp hq).elim (fun z=>z ▸ hc) (pu p);obtain⟨a1,a2⟩:=q _ k1;obtain⟨b1,b2⟩:=q _ k2;exact qA (by lia) (by lia)
  ·have q:∀p∈U++[e],RD c p:=fun p hq=>(sas.mp hq).elim (pu p) fun z=>saf.mp z ▸ hc;obtain⟨a1,a2⟩:=q _ k3;obtain⟨b1,b2⟩:=q _ k4;exact iV (by lia) (by lia)
 have hwl:(s::(U++[e])).length≤9102:=by simp;lia
 refine⟨s::(xY (s::(U++[e]))++[e]),⟨m++[e],tot,by rw[←hU,Ur n1 n2]⟩,by
  have:=lB (s::(U++[e]));simp only[List.length_cons,saP,List.length_nil]at this hwl ⊢
  lia,?_⟩
 have E0:∀s4:Slot,∃E:Ev,E=[.p (zd s),.p (.l (row.map zl)),.p (zd e),s4,.un]:=fun s4=>⟨_,rfl⟩
 have ct:zA xX (zi (zf 0) (zi (zf 1) (zi (zf 2) (zB)))) [.p (zd s),.p (.l (row.map zl)),.p (zd e),.un,.un]=.ok (.fresh (m.map zd)):=by
  show((xX [zd s,.l (row.map zl),zd e]).bind _)=_;rw[ht];rfl
 have cu:zA xb (zi (zA xX (zi (zf 0) (zi (zf 1) (zi (zf 2) (zB))))) (zB)) [.p (zd s),.p (.l (row.map zl)),.p (zd e),.un,.un]=.ok (.fresh (U.map zd)):=by
  rw[zA,zi,ct,zh];show((xb [.l (m.map zd)]).bind _)=_
  rw[hu,zh,sak (by
   rw[sbX]
   exact .inr (nD U))]
 have add3:∀(L:List zk),L.length≤9102→∀(X:FE) (E:Ev),X E=.ok (.fresh (L.map zd))∨X E=.ok (.p (.l (L.map zd)))→E[0]?=some (.p (zd s))→E[2]?=some (.p (zd e))→f2 y9 (f2 y9 (xV (zK (zf 0) (yj))) X) (xV (zK (zf 2) (yj))) E=.ok (.fresh ((s::(L++[e])).map zd)):=by
  intro L hL X E hX h0 h2
  have v0:xV (zK (zf 0) (yj)) E=.ok (.fresh [zd s]):=by
   simp only[xV,zK,yj,zf,h0,zh];rfl
  have v2:xV (zK (zf 2) (yj)) E=.ok (.fresh [zd e]):=by
   simp only[xV,zK,yj,zf,h2,zh];rfl
  have a1:f2 y9 (xV (zK (zf 0) (yj))) X E=.ok (.fresh ((s::L).map zd)):=by
   have:f2 y9 (xV (zK (zf 0) (yj))) X E=y9 (.l [zd s]) (.l (L.map zd)):=by
    rcases hX with hX|hX <;> simp only[f2,v0,hX,zh,Val.d]
   rw[this,y9,sak (by simp only[List.length_cons,List.length_nil,sac];lia)];rfl
  have:f2 y9 (f2 y9 (xV (zK (zf 0) (yj))) X) (xV (zK (zf 2) (yj))) E=y9 (.l ((s::L).map zd)) (.l [zd e]):=by
   show((f2 y9 (xV (zK (zf 0) (yj))) X E).bind _)=_;rw[a1,zh,v2,zh];rfl
  rw[this,y9,sak (by simp only[List.length_cons,List.length_nil,sac];lia)];simp only[List.map_cons,saY,List.map_nil,List.cons_append]
 have hway:=add3 U (by lia) _ [.p (zd s),.p (.l (row.map zl)),.p (zd e),.un,.un] (.inl cu) rfl rfl;generalize hW:s::(U++[e])=W at hway hin hin2 hbx hwl
 have hcomp:xr (gT [0,1,2]) xW vB ((xn W).map cJ) [.un,.un,.un]=.ok ((xY W).map zd):=by
  rw[b7 _ _ _ _ fun t k=>?_,fL];obtain⟨k1,k2,k3⟩:=ZU k;exact⟨jt (hbx _ k1) (hbx _ k2),jt (hbx _ k2) (hbx _ k3),hin2 _ k⟩
 have hz:Yy (zf 3) (ku (zf 3) (mQ (fC (.int 1))) (jn)) (ku (zf 3) (mQ (fC (.int 2))) (jn)) [.p (zd s),.p (.l (row.map zl)),.p (zd e),.p (.l (W.map zd)),.un]=.ok ((xn W).map cJ):=by
  show Out.ok (rm (W.map zd) (sV (W.map zd) (some 1) none) (sV (W.map zd) (some 2) none))=_;rw[pP _ 1 1 rfl,pP _ 2 2 rfl,←ZR,scI,scI,scI,←List.drop_one,←List.drop_one,List.drop_drop]
 have hb:yI [] 3 (Yy (zf 3) (ku (zf 3) (mQ (fC (.int 1))) (jn)) (ku (zf 3) (mQ (fC (.int 2))) (jn))) (gT [0,1,2]) (xW) (vB) [.p (zd s),.p (.l (row.map zl)),.p (zd e),.p (.l (W.map zd)),.un]=.ok (.fresh ((xY W).map zd)):=by
  have hl:((xn W).map cJ).length≤100000:=by
   rw[sac];have:=ZV W;lia
  rw[yI,hz,zh,sak hl];show((xr (gT [0,1,2]) xW vB ((xn W).map cJ) [.un,.un,.un]).bind _)=_;rw[hcomp];rfl
 have hil:=lB W;have hlast:=add3 (xY W) (by lia) (zf 4) [.p (zd s),.p (.l (row.map zl)),.p (zd e),.p (.l (W.map zd)),.p (.l ((xY W).map zd))] (.inr rfl) rfl rfl;unfold vn;show((tP [.p (zd s),.p (.l (row.map zl)),.p (zd e),.un,.un]).bind _)=_;unfold tP
 rw[zq (env':=[.p (zd s),.p (.l (row.map zl)),.p (zd e),.p (.l (W.map zd)),.un]) (by
  rw[zU,hway]
  rfl)]
 rw[zq (env':=[.p (zd s),.p (.l (row.map zl)),.p (zd e),.p (.l (W.map zd)),.p (.l ((xY W).map zd))]) (by
  rw[zU,hb]
  rfl)]
 rw[yJ,hlast];rfl
noncomputable def pJ:FS :=
 zL (zU 2 true (zA xy (zi (zA xc (zi (zf 0) (zi (zf 1) (zB)))) (zB))))
 (yJ (zA vn (zi (f2 zT (zf 1) (fC (.int 0))) (zi (zf 2) (zi (f2 zT (zf 1) (f1 yM (fC (.int 1)))) (zB))))))
noncomputable def uy:List D→Out Val:=zX 3 pJ
theorem br:∀ds v,ds.length=2→uy ds=.ok v→zX 3 pJ ds=.ok v:=fun _ _ _ h=>h
noncomputable def Ob:RX:=fun env x=>∃xs,(zi (zf 0) (zi (zf 1) (zB))) env=.ok xs∧xs.all Val.isPers=true∧xH (xs.map Val.d) x
noncomputable def mJ:List D→Xc→Prop:=c0 3 Ob
theorem Ut {a b:D}{x:Xc}(h:xH [a,b] x):mJ [a,b] x:=⟨[.p a,.p b],rfl,rfl,h⟩
noncomputable def wI:FS :=
 yJ (oK (f2 nM (f2 zT (zf 0) (fC (.int 0))) (f2 zT (zf 1) (fC (.int 0)))) (oK (f2 uV (f2 zT (zf 0) (fC (.int 1))) (fC .non)) (f2 P3 (f2 zT (zf 0) (fC (.int 1))) (f2 zT (zf 1) (fC (.int 1))))))
noncomputable def xN:List D→Out Val:=zX 2 wI
theorem mf:∀ds v,ds.length=2→xN ds=.ok v→zX 2 wI ds=.ok v:=fun _ _ _ h=>h
@[reducible] noncomputable def wz:FT :=
 oh (zA xN (zi (zf 1) (zi (zf 0) (zB))))
@[reducible] noncomputable def vO:FE :=
 f1 yM (f2 zT (zf 1) (fC (.int 3)))
noncomputable def w_:FS :=
 yJ (fB VB (zi (yI [0] 1 (xg (zf 1)) (gN 1) (wz) (vO)) (zB)))
noncomputable def wj:List D→Out Val:=zX 2 w_
theorem lq:∀ds v,ds.length=2→wj ds=.ok v→zX 2 w_ ds=.ok v:=fun _ _ _ h=>h
@[reducible] noncomputable def bK:FS :=
 wk (zV (f2 oB (f2 zT (zf 1) (fC (.int 0))) (f2 zT (zf 1) (f1 yM (fC (.int 1))))))
 (fun _=>.bad)
 (wY)
@[reducible] noncomputable def pK:FE :=
 zA wj (zi (zf 1) (zi (zf 0) (zB)))
noncomputable def tN:FS :=
 zL (zU 2 true (zA xc (zi (zf 0) (zi (zf 1) (zB)))))
 (zL (bK)
 (yJ (yI [2] 1 (xg (zf 0)) (gN 1) (uN) (pK))))
noncomputable def vm:List D→Out Val:=zX 3 tN
theorem gk:∀ds v,ds.length=2→vm ds=.ok v→zX 3 tN ds=.ok v:=fun _ _ _ h=>h
noncomputable def Og:RX:=fun env x=>(∃xs,(zi (zf 0) (zi (zf 1) (zB))) env=.ok xs∧xs.all Val.isPers=true∧xH (xs.map Val.d) x)∨∃env',(zU 2 true (zA xc (zi (zf 0) (zi (zf 1) (zB))))) env=.ok (.next env')∧(zV (f2 oB (f2 zT (zf 1) (fC (.int 0))) (f2 zT (zf 1) (f1 yM (fC (.int 1)))))) env'=.ok true∧x=(("NoEnds" : Str),none)
noncomputable def tU:List D→Xc→Prop:=c0 3 Og
theorem Y6 {a b:D}{x:Xc}(h:xH [a,b] x):tU [a,b] x:=.inl ⟨[.p a,.p b],rfl,rfl,h⟩
theorem ba {ps rope:List zk}(R:RopeOk ps rope)(hne:rope≠[])(h:xQ rope≠ye rope):tU [.l (ps.map zd),.l (rope.map zd)] (("NoEnds" : Str),none):=by
 have w:=m7 R;generalize(zW rope).flatMap (uZ (zo ps))=gs at w;refine .inr ⟨[.p (.l (ps.map zd)),.p (.l (rope.map zd)),.p (.l (gs.map zl))],?_,?_,rfl⟩
 ·show(((xc [.l (ps.map zd),.l (rope.map zd)]).bind _).bind _)=_;rw[w];rfl
 ·simp[pW hne,om hne,h,p4,mx]
noncomputable def Oa:RX:=fun env x=>((zV (f2 nM (zf 0) (fC (.int 0)))) env=.ok true∧∃xs,(zi (zf 1) (zi (zf 2) (zB))) env=.ok xs∧xs.all Val.isPers=true∧mJ (xs.map Val.d) x)∨((zV (f2 nM (zf 0) (fC (.int 0)))) env=.ok false∧∃xs,(zi (zf 1) (zi (zf 2) (zB))) env=.ok xs∧xs.all Val.isPers=true∧tU (xs.map Val.d) x)
noncomputable def RM:FS:=wk (zV (f2 nM (zf 0) (fC (.int 0))))
 (dQ (zA uy (zi (zf 1) (zi (zf 2) (zB)))))
 (dQ (zA vm (zi (zf 1) (zi (zf 2) (zB)))))
noncomputable def rO:List D→Xc→Prop:=fun ds x=>Oa (ds.map Slot.p++[.p .non,.un]) x
noncomputable def i8:List D→Prop:=fun ds=>RM (ds.map Slot.p++[.p .non,.un])=.ok (.next (ds.map Slot.p++[.p .non,.un]))
noncomputable def dE:FS :=
 yJ (oK (f1 (Th "int") (zf 0)) (T8 (f1 (Th "bool") (zf 0))))
noncomputable def jj:List D→Out Val
 |[.int _]=>.ok (.p (.bl true))
 |[.bl _]=>.ok (.p (.bl false))
 |[.non]=>.ok (.p (.bl false))
 |[.tup _]=>.ok (.p (.bl false))
 |[.l _]=>.ok (.p (.bl false))
 |_=>.bad
theorem aW:∀ds v,ds.length=1→jj ds=.ok v→zX 1 dE ds=.ok v:=by
 intro ds v hlen h;clear hlen;unfold jj at h
 split at h <;> first|(cases h;simp[dE])|cases h
@[reducible] noncomputable def iD:FS :=
 wk (vF (zV (f2 nM (f2 yQ (zA yL (zi (zf 0) (zi (fC (.int 50)) (zB)))) (fC (.int 2))) (fC (.int 1)))) (dH (oh (zA oG (zi (f2 zT (zf 2) (f1 yM (fC (.int 1)))) (zi (f2 zT (zf 2) (fC (.int 0))) (zi (zf 1) (zB))))))))
 (zU 2 true (f2 y9 (zf 2) (ku (zf 2) (jn) (mQ (fC (.int 1))))))
 (wY)
@[reducible] noncomputable def ni:FS :=
 wk (vF (zV (f2 nM (f2 yQ (zf 3) (fC (.int 3))) (fC (.int 1)))) (zV (f2 oB (zf 1) (xV (yj)))))
 (zL (zU 1 true (ku (zf 1) (jn) (mQ (fC (.int 11)))))
 (zL (zU 4 true (f2 yQ (f2 v8 (zf 3) (fC (.int 3))) (fB vp (zi (zf 1) (zB)))))
 (zL (zU 5 true (f2 zT (zf 1) (f2 yQ (f2 v8 (zf 3) (fC (.int 27))) (fB vp (zi (zf 1) (zB))))))
 (zU 1 true (f2 y9 (f2 y9 (ku (zf 1) (jn) (mQ (zf 4))) (xV (zK (zf 5) (yj)))) (ku (zf 1) (mQ (zf 4)) (jn)))))))
 (wY)
@[reducible] noncomputable def cm:FS :=
 Yq i8 rO (zi (zf 8) (zi (zf 1) (zi (zf 2) (zB)))) (oh (zf 6)) (zV (f2 uV (zf 7) (fC .non))) (vF (zV (f2 nM (zf 8) (fC (.int 1)))) (zV (f2 oB (f2 zT (zf 2) (fC (.int 0))) (f2 zT (zf 2) (f1 yM (fC (.int 1))))))) (zf 7) 9 10
noncomputable def iJ:FS :=
 zL (zU 1 true (zA dj (zi (zf 0) (zB))))
 (zL (zU 2 true (zA il (zi (zf 0) (zi (fC (.int 23)) (zi (f2 y9 (fC (.int 2)) (f2 yQ (zA yL (zi (zf 0) (zi (fC (.int 22)) (zB)))) (fC (.int 5)))) (zi (zf 1) (zB)))))))
 (zL (iD)
 (zL (zU 2 true (zA vx (zi (zf 2) (zi (zf 1) (zi (zA yL (zi (zf 0) (zi (fC (.int 52)) (zB)))) (zB))))))
 (zL (zU 3 true (zA yL (zi (zf 0) (zi (fC (.int 53)) (zB)))))
 (zL (ni)
 (zL (zU 6 true (f2 mO (f1 xP (zf 1)) (fB vp (zi (zf 1) (zB)))))
 (zL (zU 7 true (zA ip (zi (zf 1) (zi (zf 2) (zB)))))
 (zL (vq (rH (zi (fC (.int 2)) (zB))) (gN 8)
 (cm))
 (yJ (fC (.bl true)))))))))))
theorem UP (ns:List Int):(xI ns).length≤12:=(j4 ns 0 0).few
theorem lC {l:List zk}(h:l≠[]):xQ l∈l:=by
 cases l with
 |nil=>exact absurd rfl h
 |cons c r=>exact saw
noncomputable def Rd (l:List Ga):Prop:=∀a g h b,l=a++g::h::b→X_ g h=false
theorem UR (g h:Ga):X_ g h=true↔(g.x=h.x∧g.lo=h.lo∧g.hi=h.hi)∧g.w≠h.w:=by simp[X_]
theorem aF (gs:List Ga):(wX gs).length≤gs.length:=by
 have:∀(gs s:List Ga),(gs.foldl t_ s).length≤s.length+gs.length:=by
  intro gs
  induction gs with
  |nil=>intro s;simp
  | cons g gs ih=>
    intro s;rw[List.foldl_cons];have:=ih (t_ s g);have:=g_ s g;simp;lia
 simpa[wX]using this gs []
noncomputable abbrev xZ (B:List x8)(l:List zk):List Ga:=(zW l).flatMap (uZ B)
theorem c_ {ps:List zk}(hf:ps.length<18):∀qs:List (zk×zk),(qs.flatMap (uZ (zo ps))).length≤17*qs.length
 |[]=>by simp
 | q::qs=>by
   have ih:=c_ hf qs;have hB:=rM ps
   have hrl:(uZ (zo ps) q).length≤17:=by
    have:=pR (zo ps) q.1 q.2;unfold uZ;rw[sac];lia
   rw[List.flatMap_cons,saP,List.length_cons];lia
theorem iW (ps:List zk):(zo ps).Pairwise (fun a b=>a.1<b.1):=by
 have hnd:(qN (ps.map (·.1)).eraseDups).Nodup:=(yW _).nodup_iff.mpr (uO _ _ (Nat.le_refl _));have hso:=wR (ps.map (·.1)).eraseDups
 have hlt:(qN (ps.map (·.1)).eraseDups).Pairwise (· < ·):=by
  have:=hso.and hnd;exact this.imp fun⟨h1,h2⟩=>by lia
 unfold zo;rw[sbw];exact hlt
theorem V1 {ps:List (Int×Int)}(hn:ps.Nodup):BoardOk (zo ps):=by
 refine⟨iW ps,fun l hl=>?_⟩
 ·unfold zo at hl;obtain⟨x,_,rfl⟩:=saJ.mp hl
  have nd:((ps.filter fun p=>p.1 == x).map (·.2)).Nodup:=by
   rw[List.Nodup,sbw];refine List.Pairwise.imp_of_mem ?_ (hn.filter fun p=>p.1 == x);intro a b ha hb h e;have h1:a.1=x:=by simpa using(saI.mp ha).2
   have h2:b.1=x:=by simpa using(saI.mp hb).2
   exact h (Prod.ext (h1.trans h2.symm) e)
  have hnd:(qN ((ps.filter fun p=>p.1 == x).map (·.2))).Nodup:=(yW _).nodup_iff.mpr nd;exact((wR _).and hnd).imp fun⟨h1,h2⟩=>by lia
theorem YJ (p:Int→Bool)(hp:∀x y,x≤y→p y=true→p x=true):∀hs:List Int,hs.Pairwise (· ≤ ·)→hs.filter p=hs.take (hs.filter p).length∧(hs.filter fun y=> !p y)=hs.drop (hs.filter p).length
 |[],_=>⟨rfl,rfl⟩
 | h::hs,hw=>by
   have hw':=saH.mp hw;obtain⟨i1,i2⟩:=YJ p hp hs hw'.2
   cases q:p h with
   | true=>
     constructor
     ·rw[sbG q,List.length_cons,List.take_succ_cons,←i1]
     ·rw[sbG q,List.length_cons,List.drop_succ_cons,←i2,sbU (by simp[q])]
   | false=>
     have hn:∀y∈hs,p y=false:=by
      intro y hy
      cases z:p y with
      |false=>rfl
      |true=>rw[hp h y (hw'.1 y hy) z]at q;cases q
     have e1:hs.filter p=[]:=List.filter_eq_nil_iff.mpr fun y hy=>by simp[hn y hy]
     have e2:(hs.filter fun y=> !p y)=hs:=List.filter_eq_self.mpr fun y hy=>by simp[hn y hy]
     rw[sbU (by simp[q]),e1,sbG (by simp[q]),e2];exact⟨rfl,rfl⟩
theorem UB {a b:zk}(hne:a.1≠b.1)(x:Int){y z:Int}(h:y≤z):z9 a b (x,y)≤z9 a b (x,z):=by
 unfold z9 nQ;simp only
 rcases Int.lt_or_gt_of_ne hne with h1|h1
 ·rw[sak (by lia),sak (by lia)];have:=Int.mul_le_mul_of_nonneg_left (show y - a.2≤z - a.2 by lia) (show 0≤b.1 - a.1 by lia);lia
 ·rw[sal (by lia),sal (by lia)];have:=Int.mul_le_mul_of_nonneg_left (show y - a.2≤z - a.2 by lia) (show 0≤a.1 - b.1 by lia)
  have e:∀t:Int,(a.1 - b.1)*t = -((b.1 - a.1)*t):=by
   intro t;rw[←Int.neg_mul,Int.neg_sub]
  rw[e,e]at this;lia
theorem VA {a b:zk}{l:x8}(hb:xj a b l.1=true)(hs:l.2.Pairwise (· ≤ ·))(hz:∀y∈l.2,z9 a b (l.1,y)≠0):vU l (sD a b l):=by
 have hne:a.1≠b.1:=by
  unfold xj at hb;simp at hb;lia
 have hcut:=YJ (fun y=>decide (z9 a b (l.1,y)<0)) (fun x y hxy h=>by
  have:=UB hne l.1 hxy;rw[saD]at h ⊢
  lia) l.2 hs
 have h2:(l.2.filter fun y=>decide (0<z9 a b (l.1,y)))=l.2.filter fun y=> !decide (z9 a b (l.1,y)<0):=by
  apply List.filter_congr;intro y hy;have:=hz y hy;by_cases h:z9 a b (l.1,y)<0
  ·have h':¬ 0<z9 a b (l.1,y):=by lia
   simp[h,h']
  ·have h':0<z9 a b (l.1,y):=by lia
   simp[h,h']
 obtain⟨k,hk⟩:∃k,k=(l.2.filter fun y=>decide (z9 a b (l.1,y)<0)).length:=⟨_,rfl⟩
 have hkl:k≤l.2.length:=by rw[hk];exact sbx _ _
 rw[←hk]at hcut;refine⟨rfl,k,hkl,?_,?_⟩
 ·show nz (l.2.filter fun y=>decide (z9 a b (l.1,y)<0))=_;rw[bU _ (hs.sublist List.filter_sublist),hcut.1];rw[sbi,sbn,Nat.min_eq_left hkl];by_cases h0:k=0
  ·rw[sak h0,h0];rfl
  ·rw[sal h0,List.getElem?_take_of_lt (by lia)]
 ·show ny (l.2.filter fun y=>decide (0<z9 a b (l.1,y)))=_;rw[bT _ (hs.sublist List.filter_sublist),h2,hcut.2,List.head?_drop]
inductive Steps (B:List x8):Nat→List Ga→Nat→Prop
 |nil (h:Nat):Steps B h [] h
 |right {h h':Nat} {g:Ga} {gs:List Ga} {l:x8} (e:B[h]?=some l) (n:vU l g) (w:g.w=1) (t:Steps B (h+1) gs h'):Steps B h (g::gs) h'
 |left {h h':Nat} {g:Ga} {gs:List Ga} {l:x8} (e:B[h]?=some l) (n:vU l g) (w:g.w = -1) (t:Steps B h gs h'):Steps B (h+1) (g::gs) h'
theorem Steps.append {B:List x8}{h h':Nat}{gs hs:List Ga}{h'':Nat}(a:Steps B h gs h')(b:Steps B h' hs h''):Steps B h (gs++hs) h'':=by
 induction a with
 |nil h=>exact b
 |right e n w t ih=>exact .right e n w (ih b)
 |left e n w t ih=>exact .left e n w (ih b)
theorem kf {B:List x8}{G:x8→Ga}:∀(n h:Nat),h+n≤B.length→(∀l∈(B.drop h).take n,vU l (G l)∧(G l).w=1)→Steps B h (((B.drop h).take n).map G) (h+n)
 | 0,h,_,_=>by simp;exact .nil h
 | n+1,h,hl,hg=>by
   have hd:B.drop h=B[h]'(by lia)::B.drop (h+1):=sbM (by lia);rw[hd,List.take_succ_cons]at hg ⊢;rw[List.map_cons];have hh:=hg (B[h]'(by lia)) (by simp);refine .right (sae (by lia)) hh.1 hh.2 ?_;have:=kf (B:=B) (G:=G) n (h+1) (by lia) fun l hl=>hg l (by simp[hl]);rw[show h+(n+1)=h+1+n by lia];exact this
theorem jD {B:List x8}{G:x8→Ga}:∀(n h:Nat),h+n≤B.length→(∀l∈(B.drop h).take n,vU l (G l)∧(G l).w = -1)→Steps B (h+n) (((B.drop h).take n).map G).reverse h
 | 0,h,_,_=>by simp;exact .nil h
 | n+1,h,hl,hg=>by
   have hd:B.drop h=B[h]'(by lia)::B.drop (h+1):=sbM (by lia);rw[hd,List.take_succ_cons]at hg ⊢;rw[List.map_cons,List.reverse_cons];have hh:=hg (B[h]'(by lia)) (by simp);have:=jD (B:=B) (G:=G) n (h+1) (by lia) fun l hl=>hg l (by simp[hl]);rw[show h+(n+1)=h+1+n by lia];exact this.append (.left (sae (by lia)) hh.1 hh.2 (.nil h))
noncomputable def y_ (B:List x8)(x:Int):Nat:=(B.filter fun l=>decide (l.1<x)).length
theorem dW (x:Int):∀B:List x8,B.Pairwise (fun a b=>a.1<b.1)→(B.filter fun l=>decide (l.1<x))=B.take (y_ B x)∧(B.filter fun l=> !decide (l.1<x))=B.drop (y_ B x)
 |[],_=>⟨rfl,rfl⟩
 | l::B,hw=>by
   have hw':=saH.mp hw;obtain⟨i1,i2⟩:=dW x B hw'.2;unfold y_ at i1 i2 ⊢;by_cases q:l.1<x
   ·have f1:((l::B).filter fun l=>decide (l.1<x))=l::B.filter fun l=>decide (l.1<x):=sbG (by simp[q]);have f2:((l::B).filter fun l=> !decide (l.1<x))=B.filter fun l=> !decide (l.1<x):=sbU (by simp[q]);rw[f1,f2,List.length_cons,List.take_succ_cons,List.drop_succ_cons,←i1,←i2];exact⟨rfl,rfl⟩
   ·have hn:∀m∈B,¬m.1<x:=by
     intro m hm;have:=hw'.1 m hm;lia
    have e1:(B.filter fun l=>decide (l.1<x))=[]:=List.filter_eq_nil_iff.mpr fun m hm=>by simp;have:=hn m hm;lia
    have e2:(B.filter fun l=> !decide (l.1<x))=B:=List.filter_eq_self.mpr fun m hm=>by simp;have:=hn m hm;lia
    have f1:((l::B).filter fun l=>decide (l.1<x))=B.filter fun l=>decide (l.1<x):=sbU (by simp[q]);have f2:((l::B).filter fun l=> !decide (l.1<x))=l::B.filter fun l=> !decide (l.1<x):=sbG (by simp[q]);rw[f1,f2,e1,e2];exact⟨rfl,rfl⟩
theorem Yl {B:List x8}(hw:B.Pairwise (fun a b=>a.1<b.1)){x y:Int}(hx:x∉B.map (·.1))(hxy:x<y) :
 y_ B x≤y_ B y∧y_ B y≤B.length∧(B.filter fun l=>decide (x<l.1)&&decide (l.1<y))=(B.drop (y_ B x)).take (y_ B y - y_ B x):=by
 have hx1:=dW x B hw;have hw2:(B.drop (y_ B x)).Pairwise (fun a b=>a.1<b.1):=hw.sublist (List.drop_sublist _ _);have hy2:=dW y (B.drop (y_ B x)) hw2
 have e1:(B.filter fun l=>decide (x<l.1)&&decide (l.1<y))=(B.drop (y_ B x)).filter fun l=>decide (l.1<y):=by
  rw[←hx1.2,List.filter_filter];apply List.filter_congr;intro l hl;have hne:l.1≠x:=fun z=>hx (by rw[←z];exact sbL hl);by_cases h1:x<l.1
  ·have h2:¬l.1<x:=by lia
   simp[h1,h2]
  ·have h2:l.1<x:=by lia
   simp[h1,h2]
 have e2:y_ B y=y_ B x+y_ (B.drop (y_ B x)) y:=by
  have hsp:B=B.take (y_ B x)++B.drop (y_ B x):=(List.take_append_drop _ _).symm
  have:y_ B y=y_ (B.take (y_ B x)) y+y_ (B.drop (y_ B x)) y:=by
   conv=>lhs;rw[hsp]
   unfold y_;rw[List.filter_append,saP]
  have h3:y_ (B.take (y_ B x)) y=y_ B x:=by
   rw[←hx1.1];unfold y_;rw[List.filter_filter];congr 1;apply List.filter_congr;intro l _;by_cases h1:l.1<x
   ·have h2:l.1<y:=by lia
    simp[h1,h2]
   ·simp[h1]
  rw[this,h3]
 have e3:y_ B y≤B.length:=sbx _ _;refine⟨by lia,e3,?_⟩;rw[e1,hy2.1];congr 1;lia
theorem gc {ps:List zk}{a b:zk}(ha:a.1∉(zo ps).map (·.1))(hb:b.1∉(zo ps).map (·.1))(hf:yY (zo ps) a b=false) :
 Steps (zo ps) (y_ (zo ps) a.1) (uZ (zo ps) (a,b)) (y_ (zo ps) b.1):=by
 have hw:=iW ps
 have nb:∀l∈yl (zo ps) a b,vU l (sD a b l):=by
  intro l hl;obtain⟨h1,h2⟩:=vC hl;refine VA h2 (oj h1).2.2 fun y hy e=>?_;unfold yY at hf;rw[scj]at hf;apply hf l hl;rw[saW];exact⟨y,hy,by simp[e]⟩
 unfold uZ;simp only;unfold yl at nb ⊢;by_cases h1:a.1<b.1
 ·rw[sak h1]at nb ⊢;obtain⟨c1,c2,c3⟩:=Yl hw ha h1
  have hmem:∀l∈(zo ps).filter fun l=>decide (a.1<l.1)&&decide (l.1<b.1),vU l (sD a b l)∧(sD a b l).w=1:=by
   intro l hl;refine⟨nb l hl,?_⟩;have:=(saI.mp hl).2;simp at this;show(if a.1<l.1 then(1:Int)else -1)=1;rw[sak this.1]
  rw[c3]at hmem ⊢;have:=kf (G:=sD a b) (y_ (zo ps) b.1 - y_ (zo ps) a.1) (y_ (zo ps) a.1) (by lia) hmem;rw[show y_ (zo ps) a.1+(y_ (zo ps) b.1 - y_ (zo ps) a.1)=y_ (zo ps) b.1 by lia]at this;exact this
 ·rw[sal h1]at nb ⊢;rw[List.filter_reverse,List.map_reverse];by_cases h2:b.1<a.1
  ·obtain⟨c1,c2,c3⟩:=Yl hw hb h2
   have hmem:∀l∈(zo ps).filter fun l=>decide (b.1<l.1)&&decide (l.1<a.1),vU l (sD a b l)∧(sD a b l).w = -1:=by
    intro l hl;refine⟨nb l (by rw[List.filter_reverse];exact List.mem_reverse.mpr hl),?_⟩;have:=(saI.mp hl).2;simp at this;show(if a.1<l.1 then(1:Int)else -1) = -1;rw[sal (by lia)]
   rw[c3]at hmem ⊢;have:=jD (G:=sD a b) (y_ (zo ps) a.1 - y_ (zo ps) b.1) (y_ (zo ps) b.1) (by lia) hmem;rw[show y_ (zo ps) b.1+(y_ (zo ps) a.1 - y_ (zo ps) b.1)=y_ (zo ps) a.1 by lia]at this;exact this
  ·have e:a.1=b.1:=by lia
   have:((zo ps).filter fun l=>decide (b.1<l.1)&&decide (l.1<a.1))=[]:=by
    rw[List.filter_eq_nil_iff];intro l _;simp;lia
   rw[this,e];exact .nil _
theorem jR {ps:List zk}:∀(rope:List zk) (c:zk),(∀d∈c::rope,d.1∉(zo ps).map (·.1))→(∀q∈zW (c::rope),yY (zo ps) q.1 q.2=false) →
 Steps (zo ps) (y_ (zo ps) c.1) ((zW (c::rope)).flatMap (uZ (zo ps))) (y_ (zo ps) (ye (c::rope)).1)
 |[],c,_,_=>by simp[zW,ye];exact .nil _
 | d::rope,c,ho,hf=>by
   have e:zW (c::d::rope)=(c,d)::zW (d::rope):=rfl;rw[e]at hf ⊢;rw[List.flatMap_cons];have ih:=jR rope d (fun x hx=>ho x (by simp[hx])) fun q hq=>hf q (by simp[hq]);have h1:=gc (ho c (by simp)) (ho d (by simp)) (hf (c,d) (by simp));exact h1.append ih
theorem WC {gs:List Ga}(h:gs.length≤10000):xy [.l (gs.map zl)]=.ok (.fresh ((wX gs).map zl)):=by
 simp only[xy,kE];rw[sak h]
theorem eN {ps l:List zk}(R:RopeOk ps l):(xZ (zo ps) l).length≤2000:=by
 have h1:=c_ R.few (zW l);have h2:(zW l).length≤100:=by have:=R.many;unfold zW;simp;lia
 unfold xZ;lia
theorem UQ {B:List x8}{h h':Nat}{gs:List Ga}(s:Steps B h gs h'):sJ B (h:Int) gs:=by
 induction s with
 |nil h=>trivial
 |@right h _ g _ l e n w t ih=>exact⟨⟨l,n,h,e,.inl ⟨w,rfl⟩⟩,by rw[w];exact ih⟩
 |@left h _ g _ l e n w t ih=>exact⟨⟨l,n,h,e,.inr ⟨w,by lia⟩⟩,by rw[w,show((h+1:Nat):Int) + -1=h by lia];exact ih⟩
theorem Uz {st:List Ga}{g:Ga}(h:∀t∈st,PL t)(hg:PL g):t_ st g=jO st g:=by
 unfold t_ jO
 cases q:st.getLast? with
 |none=>rfl
 | some t=>
   have ht:=h t (List.mem_of_getLast? q)
   have e:X_ t g=true↔t=qT g:=by
    rw[UR];unfold PL at ht hg;obtain⟨a,b,c,d⟩:=t;obtain⟨a',b',c',d'⟩:=g;simp only[qT,Ga.mk.injEq]at ht hg ⊢;constructor
    ·rintro⟨⟨h1,h2,h3⟩,h4⟩;exact⟨h1,h2,h3,by lia⟩
    ·rintro⟨h1,h2,h3,h4⟩;exact⟨⟨h1,h2,h3⟩,by lia⟩
   show(if X_ t g=true then st.dropLast else st++[g])=if t=qT g then st.dropLast else st++[g]
   by_cases z:t=qT g
   ·rw[sak z,sak (e.mpr z)]
   ·rw[sal z,sal fun k=>z (e.mp k)]
theorem jI {B:List x8}{h:Int}:∀(gs st:List Ga),sJ B h st→Uj st→sJ B (h+oS st) gs→sJ B h (gs.foldl t_ st)∧Uj (gs.foldl t_ st)
 |[],_,p,r,_=>⟨p,r⟩
 | g::gs,st,p,r,⟨k1,k2⟩=>by
   have e:=Uz (st:=st) (g:=g) (fun t ht=>(j6 p ht).elim fun _ s=>s.way) k1.way;obtain⟨a,b,c,_⟩:=WM p r k1;rw[List.foldl_cons,e];exact jI gs _ a b (by rw[c];exact k2)
theorem WA {ps:List zk}{h:Int}{g:Ga}(s:mI (zo ps) h g):∃l∈zo ps,g.x=l.1∧∀y,g.lo=some y∨g.hi=some y→y∈l.2:=by
 obtain⟨l,⟨gx,k,_,lo,hi⟩,i,e,_⟩:=s;refine⟨l,saA e,gx,fun y hy=>?_⟩
 rcases hy with hy|hy
 ·rw[lo]at hy;split at hy
  ·cases hy
  ·exact saA hy
 ·rw[hi]at hy;exact saA hy
theorem WN {ps rope:List zk}(R:RopeOk ps rope):∃h,sJ (zo ps) h (wX (xZ (zo ps) rope))∧i7 (wX (xZ (zo ps) rope)):=by
 match rope,R with
 | c::r,R=>
   obtain⟨p,q⟩:=jI _ [] (h:=(y_ (zo ps) c.1:Int)) trivial trivial (by
    rw[oS,Int.add_zero]
    exact UQ (jR r c R.off R.free))
   exact⟨_,p,kZ (V1 R.nodup) _ _ p q⟩
theorem Zu {l:List zk}(h:l≠[]):xQ l∈l∧ye l∈l:=⟨lC h,rD h⟩
theorem RopeOk.ne {ps rope:List zk}(R:RopeOk ps rope):rope≠[]:=fun z=>by have:=R.two;rw[z]at this;simp at this
noncomputable def vT (g:Ga)(p:zk):Bool:=decide (g.x=p.1)&&(match g.lo with|none=>false|some y=>decide (p.2≤y))
noncomputable def kd (gs:List Ga)(p:zk):Int:=((gs.filter (vT · p)).map fun g=> -g.w).sum
theorem U2 (g:Ga)(p:zk):xN [zl g,zd p]=.ok (.p (.bl (vT g p))):=by
 obtain⟨x,lo,hi,w⟩:=g;obtain⟨px,py⟩:=p;unfold xN vT;show((wI [.p (.tup [.int x,wb lo,wb hi,.int w]),.p (.tup [.int px,.int py])]).bind _)=_
 have e1:f2 nM (f2 zT (zf 0) (fC (.int 0))) (f2 zT (zf 1) (fC (.int 0))) [.p (.tup [.int x,wb lo,wb hi,.int w]),.p (.tup [.int px,.int py])]=.ok (.p (.bl (decide (x=px)))):=by
  show nM (.int x) (.int px)=_;simp;rfl
 have e2:f2 uV (f2 zT (zf 0) (fC (.int 1))) (fC .non) [.p (.tup [.int x,wb lo,wb hi,.int w]),.p (.tup [.int px,.int py])]=.ok (.p (.bl (lo.isSome))):=by
  show uV (wb lo) .non=_
  cases lo <;> rfl
 unfold wI;simp only[yJ,oK,e1,zh,Val.d];by_cases h:x=px
 ·rw[sap h];simp only[e2,zh,Val.d,Bool.true_and]
  cases lo with
  |none=>rfl
  |some y=>rfl
 ·rw[saB h];rfl
theorem kD:∀(ns:List Int),v_ (ns.map D.int)=some ns
 |[]=>rfl
 |n::ns=>by simp[v_,kD ns]
theorem Wz (gs:List Ga)(p:zk):gs.filterMap (fun g=>if vT g p=true then some (D.int (-g.w))else none)=(((gs.filter (vT · p)).map fun g=> -g.w)).map D.int:=by
 induction gs with
 |nil=>rfl
 | cons g gs ih=>
   by_cases h:vT g p=true
   ·rw[List.filterMap_cons,sak h,sbG (p:=fun x=>vT x p) h,List.map_cons,List.map_cons,ih]
   ·rw[List.filterMap_cons,sal h,sbU (p:=fun x=>vT x p) h,ih]
theorem eO (gs:List Ga)(hl:gs.length≤100000)(p:zk):wj [zd p,.l (gs.map zl)]=.ok (.p (.int (kd gs p))):=by
 unfold wj;show((w_ [.p (zd p),.p (.l (gs.map zl))]).bind _)=_
 have loop:=wm (g:=gN 1) (ft:=wz) (fe:=vO) (fun env=>∃s1,env=[.p (zd p),s1]) zl (fun g=>if vT g p=true then some (D.int (-g.w))else none) gs [.p (zd p),.un] ⟨_,rfl⟩ (fun g env _ ⟨s1,h⟩=>by
  subst h
  have ht:wz [.p (zd p),.p (zl g)]=.ok (vT g p):=by
   have hc:zA xN (zi (zf 1) (zi (zf 0) (zB))) [.p (zd p),.p (zl g)]=.ok (.p (.bl (vT g p))):=by
    simp only[zA,zi,zf,List.getElem?_cons_zero,List.getElem?_cons_succ,zh,zB,frz,fT,List.map_cons,List.map_nil,Val.d,U2];rfl
   show oh _ _=_;simp only[oh,hc,zh,Val.d,TQ]
  refine⟨[.p (zd p),.p (zl g)],rfl,⟨_,rfl⟩,?_⟩;by_cases h:vT g p=true
  ·exact .inr ⟨.int (-g.w),.p (.int (-g.w)),by rw[sak h],by rw[ht,h],rfl,rfl⟩
  ·exact .inl ⟨by rw[sal h],by rw[ht];simp at h;rw[h]⟩)
 have hc:yI [0] 1 (xg (zf 1)) (gN 1) (wz) (vO) [.p (zd p),.p (.l (gs.map zl))]=.ok (.fresh ((((gs.filter (vT · p)).map fun g=> -g.w)).map D.int)):=by
  have hi:xg (zf 1) [.p (zd p),.p (.l (gs.map zl))]=.ok (gs.map zl):=rfl;have hcap:gB [0] 1 [.p (zd p),.p (.l (gs.map zl))]=[.p (zd p),.un]:=rfl;unfold yI;simp only[hi,zh,hcap,loop];rw[sak (by rw[sac];exact hl),Wz]
 unfold w_
 have hs:fB VB (zi (yI [0] 1 (xg (zf 1)) (gN 1) (wz) (vO)) (zB)) [.p (zd p),.p (.l (gs.map zl))]=.ok (.p (.int (kd gs p))):=by
  have hi:=kD (((gs.filter (vT · p)).map fun g=> -g.w));simp only[fB,zi,hc,zh,zB,frz,List.map_cons,List.map_nil,Val.d,VB,hi];rfl
 simp only[yJ,hs,zh]
theorem Y7 {ps rope:List zk}(R:RopeOk ps rope)(hne:rope≠[])(hc:xQ rope=ye rope)(hr:((zW rope).flatMap (uZ (zo ps))).length≤100000) :
 vm [.l (ps.map zd),.l (rope.map zd)]=.ok (.fresh (ps.map fun p=>.int (kd ((zW rope).flatMap (uZ (zo ps))) p))):=by
 have hA:=pW hne;have hZ:=om hne;have hrow:=m7 R
 obtain⟨row,hrw⟩:∃row,row=(zW rope).flatMap (uZ (zo ps)):=⟨_,rfl⟩
 rw[←hrw]at hrow hr;unfold vm;show((tN [.p (.l (ps.map zd)),.p (.l (rope.map zd)),.un]).bind _)=_;unfold tN
 have h1:zA xc (zi (zf 0) (zi (zf 1) (zB))) [.p (.l (ps.map zd)),.p (.l (rope.map zd)),.un]=.ok (.fresh (row.map zl)):=by
  simp only[zA,zi,zf,List.getElem?_cons_zero,List.getElem?_cons_succ,zh,zB,frz,fT,List.map_cons,List.map_nil,Val.d,hrow];rfl
 rw[zq (env':=[.p (.l (ps.map zd)),.p (.l (rope.map zd)),.p (.l (row.map zl))]) (by simp only[zU,h1,zh];rfl)];rw[zq (env':=[.p (.l (ps.map zd)),.p (.l (rope.map zd)),.p (.l (row.map zl))]) (by simp[hA,hZ,hc,p4,mx])]
 have loop:=wm (g:=gN 1) (ft:=uN) (fe:=pK) (fun env=>∃s1,env=[.p (.l (row.map zl)),s1]) zd (fun p=>some (D.int (kd row p))) ps [.p (.l (row.map zl)),.un] ⟨_,rfl⟩ (fun p env _ ⟨s1,h⟩=>by
  subst h;refine⟨[.p (.l (row.map zl)),.p (zd p)],rfl,⟨_,rfl⟩,.inr ⟨.int (kd row p),.p (.int (kd row p)),rfl,rfl,?_,rfl⟩⟩;show zA wj _ _=_;simp only[zA,zi,zf,List.getElem?_cons_zero,List.getElem?_cons_succ,zh,zB,frz,fT,List.map_cons,List.map_nil,Val.d,eO row hr p]
  rfl)
 have hcm:yI [2] 1 (xg (zf 0)) (gN 1) (uN) (pK) [.p (.l (ps.map zd)),.p (.l (rope.map zd)),.p (.l (row.map zl))]=.ok (.fresh (ps.map fun p=>.int (kd ((zW rope).flatMap (uZ (zo ps))) p))):=by
  have hi:xg (zf 0) [.p (.l (ps.map zd)),.p (.l (rope.map zd)),.p (.l (row.map zl))]=.ok (ps.map zd):=rfl;have hcap:gB [2] 1 [.p (.l (ps.map zd)),.p (.l (rope.map zd)),.p (.l (row.map zl))]=[.p (.l (row.map zl)),.un]:=rfl;unfold yI;simp only[hi,zh,hcap,loop];have hf:=R.few;rw[sak (by rw[sac];lia),sbK];congr 2;apply sbe;intro p hp;rw[hrw]
 simp only[yJ,hcm,zh]
theorem T4 {ds:List D}{i:Int}{d:D}(h:sZ ds i=some d):zT (.l ds) (.int i)=.ok (.p d):=by
 show(match sZ ds i with|some d=>Out.ok (Val.p d)|none=>.bad)=_;rw[h]
theorem UJ {ps rope:List zk}(hp:∀p∈ps,rj p)(R:RopeOk ps rope)(hr:∀c∈rope,rj c):PullOk (xQ rope) (ye rope) (wX (xZ (zo ps) rope)):=by
 obtain⟨h,P,W⟩:=WN R;obtain⟨m1,m2⟩:=Zu R.ne;have st:∀g∈wX (xZ (zo ps) rope),∃l∈zo ps,g.x=l.1∧∀y,g.lo=some y∨g.hi=some y→y∈l.2:=fun g hg=>(j6 P hg).elim fun _ s=>WA s
 have bx:∀c:zk,rj c→BX 0 c.1:=fun c hc=>by
  obtain⟨⟨h1,h2⟩,_⟩:=hc;exact⟨by lia,by lia⟩
 have rg:∀c:zk,rj c→RD (-1) c:=fun c hc=>by
  obtain⟨_,h1,h2⟩:=hc;exact⟨h1,by lia⟩
 have off:∀c∈rope,∀g∈wX (xZ (zo ps) rope),g.x≠c.1:=fun c hc g hg z=>by
  obtain⟨l,hm,e,_⟩:=st g hg;exact R.off c hc (by rw[←z,e];exact sbL hm)
 refine⟨⟨0,bx _ (hr _ m1),bx _ (hr _ m2),fun g hg=>?_⟩,⟨(zo ps).map (·.1),?_,fun g hg=>?_⟩,?_,W,off _ m1,off _ m2,⟨-1,fun p hq=>?_,.inl (rg _ (hr _ m1))⟩⟩
 ·obtain⟨l,hm,e,_⟩:=st g hg;obtain⟨p,hq,e'⟩:=saJ.mp (oj hm).1;rw[e,←e'];exact bx _ (hp p hq)
 ·have:=rM ps;have:=R.few;rw[sac];lia
 ·obtain⟨l,hm,e,_⟩:=st g hg;rw[e];exact sbL hm
 ·have:=aF (xZ (zo ps) rope);have:=eN R;lia
 ·obtain⟨g,hg,e1,e2⟩:=hq;obtain⟨l,hm,e,k⟩:=st g hg;have:=(oj hm).2.1 p.2 (k p.2 e2);rw[←e,←e1]at this;exact rg _ (hp _ this)
theorem Uv {ps rope:List zk}(R:RopeOk ps rope){out:List zk}(h:vn [zd (xQ rope),.l ((wX (xZ (zo ps) rope)).map zl),zd (ye rope)]=.ok (.fresh (out.map zd))):uy [.l (ps.map zd),.l (rope.map zd)]=.ok (.fresh (out.map zd)):=by
 have w:=m7 R;have so:=WC (gs:=xZ (zo ps) rope) (by have:=eN R;lia);unfold uy;show((pJ [.p (.l (ps.map zd)),.p (.l (rope.map zd)),.un]).bind _)=_;unfold pJ
 rw[zq (env':=[.p (.l (ps.map zd)),.p (.l (rope.map zd)),.p (.l ((wX (xZ (zo ps) rope)).map zl))]) (by
  have k1:zA xc (zi (zf 0) (zi (zf 1) (zB))) [.p (.l (ps.map zd)),.p (.l (rope.map zd)),.un]=.ok (.fresh ((xZ (zo ps) rope).map zl)):=by
   show((xc [.l (ps.map zd),.l (rope.map zd)]).bind _)=_;rw[w];rfl
  rw[zU,zA,zi,k1,zh];show(((xy [.l ((xZ (zo ps) rope).map zl)]).bind _).bind _)=_;rw[so]
  rfl)]
 have v0:f2 zT (zf 1) (fC (.int 0)) [.p (.l (ps.map zd)),.p (.l (rope.map zd)),.p (.l ((wX (xZ (zo ps) rope)).map zl))]=.ok (.p (zd (xQ rope))):=by
  show zT (.l (rope.map zd)) (.int 0)=_;rw[T4 (pW R.ne)]
 have v1:f2 zT (zf 1) (f1 yM (fC (.int 1))) [.p (.l (ps.map zd)),.p (.l (rope.map zd)),.p (.l ((wX (xZ (zo ps) rope)).map zl))]=.ok (.p (zd (ye rope))):=by
  show zT (.l (rope.map zd)) (.int (-1))=_;rw[T4 (om R.ne)]
 have v2:zf 2 [.p (.l (ps.map zd)),.p (.l (rope.map zd)),.p (.l ((wX (xZ (zo ps) rope)).map zl))]=.ok (.p (.l ((wX (xZ (zo ps) rope)).map zl))):=rfl;rw[yJ,zA,zi,v0,zh,zi,v2,zh,zi,v1,zh,zB];show((((vn [zd (xQ rope),.l ((wX (xZ (zo ps) rope)).map zl),zd (ye rope)]).bind _).bind _).bind _)=_;rw[h];rfl
theorem Uu {ps rope:List zk}(hp:∀p∈ps,rj p)(R:RopeOk ps rope)(hr:∀c∈rope,rj c):∃out:List zk,uy [.l (ps.map zd),.l (rope.map zd)]=.ok (.fresh (out.map zd)):=by
 obtain⟨out,_,_,h⟩:=Xa (UJ hp R hr);exact⟨out,Uv R h⟩
theorem Yr (a:zk)(ps:List zk):∀(n:Nat) (c:zk),c.2≤(uU a ps n c).2∧(uU a ps n c).2≤c.2+n
 | 0,c=>⟨Int.le_refl _,by show c.2≤c.2+((0:Nat):Int);lia⟩
 | n+1,c=>by
   rw[uU];split
   ·obtain⟨h1,h2⟩:=Yr a ps n (c.1,c.2+1);have h1:c.2+1≤_:=h1;have h2:_≤c.2+1+(n:Int):=h2;lia
   ·lia
theorem eP (ns:List Int)(zy:Int)(ps:List zk):∀(k:Nat),∀c∈zN ns zy ps k,-1≤c.2∧c.2≤7+12*(k:Int)
 | 0,c,h=>by cases h
 | k+1,c,h=>by
   rw[zN]at h
   have b0:∀m:Int,-1≤(vh m).2∧(vh m).2≤7:=fun m=>by
    show -1≤m / 6%9 - 1∧m / 6%9 - 1≤7;lia
   rcases sas.mp h with h|h
   ·have:=eP ns zy ps k c h;lia
   ·rw[saf]at h;have bm:=b0 (zD ns (zy+k));rw[h];unfold sH;split
    ·lia
    ·rename_i hk;have hl:=Yr (ye (zN ns zy ps k)) ps 12 (if zD ns (zy+k) / 54%6=1 then ye (zN ns zy ps k)else vh (zD ns (zy+k)));split
     ·rename_i h1;have hne:zN ns zy ps k≠[]:=fun z=>hk (by rw[←rz ns zy ps k,z];rfl);have:=eP ns zy ps k _ (rD hne);rw[sak h1]at hl;lia
     ·rename_i h1;rw[sal h1]at hl;lia
theorem aZ {c d:zk}(hc:rj c)(hd:rj d):near c d:=by
 obtain⟨⟨h1,h2⟩,_⟩:=hc;obtain⟨⟨h3,h4⟩,_⟩:=hd;exact⟨by lia,by lia⟩
noncomputable abbrev vV (ps:List zk):D:=.l (ps.map zd)
theorem b_ {n:List D→Out Val}{A B C:FE}{env:Ev}{a b c:Val}(h1:A env=.ok a)(h2:B env=.ok b)(h3:C env=.ok c):zA n (zi A (zi B (zi C (zB)))) env=fT n [frz a,frz b,frz c]:=by
 simp only[zA,zi,zB,h1,h2,h3,zh]
theorem pH {i:Nat}{f:FE}{env:Ev}{ds:List D}(h:f env=.ok (.fresh ds)∨f env=.ok (.p (.l ds))):zU i true f env=.ok (.next (env.set i (.p (.l ds)))):=by
 rcases h with h|h
 ·simp only[zU,h,zh];rfl
 ·simp only[zU,h,zh]
noncomputable def EL (ns:List Int)(ps rope:List zk)(m a mo tw du w:Slot):Ev:=[.p (.scr ns),.p (vV ps),.p (vV rope),m,a,mo,tw,du,w,.un,.un]
theorem XT (ns:List Int){ps r0:List zk}(hne:r0≠[])(hl:r0.length≤10)(hb:∀c∈r0,rj c):∃r1:List zk,iD (EL ns ps r0 .un .un .un .un .un .un)=.ok (.next (EL ns ps r1 .un .un .un .un .un .un))∧r1≠[]∧r1.length≤20∧∀c∈r1,rj c:=by
 have hm:=mh ns 50 (by lia);generalize zD ns 50=m at hm
 obtain⟨E,hE⟩:∃E,E=EL ns ps r0 .un .un .un .un .un .un:=⟨_,rfl⟩
 have t1:zV (f2 nM (f2 yQ (zA yL (zi (zf 0) (zi (fC (.int 50)) (zB)))) (fC (.int 2))) (fC (.int 1))) E=.ok (decide (m%2=1)):=by
  rw[hE];simp[EL,hm];rfl
 have a0:f2 zT (zf 2) (fC (.int 0)) E=.ok (.p (zd (xQ r0))):=by
  rw[hE];show zT (vV r0) (.int 0)=_;simp only[zT,pW hne]
 have a1:f2 zT (zf 2) (f1 yM (fC (.int 1))) E=.ok (.p (zd (ye r0))):=by
  rw[hE];show zT (vV r0) (.int (-1))=_;simp only[zT,om hne]
 have t2:oh (zA oG (zi (f2 zT (zf 2) (f1 yM (fC (.int 1)))) (zi (f2 zT (zf 2) (fC (.int 0))) (zi (zf 1) (zB))))) E=.ok (vo (ye r0) (xQ r0) ps):=by
  have hh:=Zm (aZ (hb _ (rD hne)) (hb _ (lC hne))) ps;have v1:zf 1 E=.ok (.p (vV ps)):=by rw[hE];rfl
  rw[oh,b_ a1 a0 v1];show(((oG [zd (ye r0),zd (xQ r0),vV ps]).bind _).bind _)=_;rw[hh];rfl
 rw[←hE];by_cases h1:m%2=1
 ·rw[sap h1]at t1
  cases h2:vo (ye r0) (xQ r0) ps with
  | true=>
    rw[h2]at t2;refine⟨r0,?_,hne,by lia,hb⟩;simp only[iD,wk,vF,dH,t1,t2,zh,if_true];rw[hE];rfl
  | false=>
    rw[h2]at t2;refine⟨r0++[xQ r0],?_,by simp,by simp;lia,fun c hc=>?_⟩
    ·simp only[iD,wk,vF,dH,t1,t2,zh,if_true]
     have e:f2 y9 (zf 2) (ku (zf 2) (jn) (mQ (fC (.int 1)))) E=.ok (.fresh ((r0++[xQ r0]).map zd)):=by
      rw[hE];show y9 (vV r0) (.l (sV (r0.map zd) none (some 1)))=_
      have:sV (r0.map zd) none (some 1)=[zd (xQ r0)]:=by
       match r0,hne with
       |c::r,_=>rfl
      rw[this];simp only[y9,sac,List.length_cons,List.length_nil];rw[sak (by lia),saY];rfl
     rw[sak (show(!false)=true from rfl),pH (.inl e),hE];rfl
    ·rcases sas.mp hc with hc|hc
     ·exact hb c hc
     ·rw[saf]at hc;rw[hc];exact hb _ (lC hne)
 ·rw[saB h1]at t1;refine⟨r0,?_,hne,by lia,hb⟩;simp only[iD,wk,vF,t1,zh];rw[hE];rfl
theorem Zy (ns:List Int){ps rope:List zk}(m:Int)(hl:ps.length≤12)(hb:∀p∈ps,rj p):∃(ps':List zk) (a mo:Slot),ni (EL ns ps rope (.p (.int m)) .un .un .un .un .un)=.ok (.next (EL ns ps' rope (.p (.int m)) a mo .un .un .un))∧ps'.length≤12∧∀p∈ps',rj p:=by
 have hd3:oC m 3=true:=vk (by decide) (by decide);have hd27:oC m 27=true:=vk (by decide) (by decide)
 obtain⟨E,hE⟩:∃E,E=EL ns ps rope (.p (.int m)) .un .un .un .un .un:=⟨_,rfl⟩
 have t1:zV (f2 nM (f2 yQ (zf 3) (fC (.int 3))) (fC (.int 1))) E=.ok (decide (m%3=1)):=by
  rw[hE];simp[EL];rfl
 have t2:zV (f2 oB (zf 1) (xV (yj))) E=.ok (decide (ps≠[])):=by
  rw[hE];show zV (fun _=>oB (.l (ps.map zd)) (.l [])) []=_;have hs:vE 4 (.l [])=true:=rfl
  cases ps with
  |nil=>simp only[List.map_nil,zV,oB,hs,Bool.or_true,if_true,jo,my];rfl
  |cons c cs=>simp only[List.map_cons,zV,oB,hs,Bool.or_true,if_true,jo,YB];rfl
 have same:ni E=.ok (.next E)→∃(ps':List zk) (a mo:Slot),ni E=.ok (.next (EL ns ps' rope (.p (.int m)) a mo .un .un .un))∧ps'.length≤12∧∀p∈ps',rj p:=fun h=>⟨ps,.un,.un,by rw[h,hE],hl,hb⟩
 rw[←hE];by_cases h1:m%3=1
 rotate_left
 ·rw[saB h1]at t1;exact same (by simp only[ni,wk,vF,t1,zh];rfl)
 by_cases h2:ps=[]
 ·have:decide (ps≠[])=false:=by simp[h2]
  rw[this]at t2;rw[sap h1]at t1;exact same (by simp only[ni,wk,vF,t1,t2,zh,if_true];rfl)
 rw[sap h1]at t1;rw[sap h2]at t2
 obtain⟨qs,hq⟩:∃qs,qs=ps.take 11:=⟨_,rfl⟩
 have hql:qs.length≤11:=by rw[hq];simp;lia
 have hq1:0<qs.length:=by rw[hq,sbn];have:=List.length_pos_iff.mpr h2;lia
 have hqb:∀p∈qs,rj p:=fun p h=>hb p (List.mem_of_mem_take (by rw[←hq];exact h))
 obtain⟨a,ha⟩:∃a,a=m / 3%(qs.length:Int):=⟨_,rfl⟩
 obtain⟨b,hbb⟩:∃b,b=m / 27%(qs.length:Int):=⟨_,rfl⟩
 have ha0:0≤a:=by rw[ha];exact sbz _ (by lia)
 have ha1:a<qs.length:=by rw[ha];exact sbC _ (by lia)
 have hb0:0≤b:=by rw[hbb];exact sbz _ (by lia)
 have hb1:b<qs.length:=by rw[hbb];exact sbC _ (by lia)
 have hB:b.toNat<qs.length:=by lia
 refine⟨qs.take a.toNat++[qs[b.toNat]]++qs.drop a.toNat,.p (.int a),.p (zd qs[b.toNat]),?_,by simp;lia,fun p hp=>?_⟩
 ·simp only[ni,wk,vF,t1,t2,zh,if_true]
  rw[zq (env':=EL ns qs rope (.p (.int m)) .un .un .un .un .un) (by
   refine(pH (ds:=qs.map zd) (.inl ?_)).trans (by rw[hE];rfl);rw[hE];show Out.ok (Val.fresh (sV (ps.map zd) none (some 11)))=_
   rw[bZ _ 11 11 rfl,←List.map_take,hq])]
  rw[zq (env':=EL ns qs rope (.p (.int m)) (.p (.int a)) .un .un .un .un) (by
   have:f2 yQ (f2 v8 (zf 3) (fC (.int 3))) (fB vp (zi (zf 1) (zB))) (EL ns qs rope (.p (.int m)) .un .un .un .un .un)=.ok (.p (.int a)):=by
    rw[ha];simp[EL,hd3,hq1]
   simp only[zU,this,zh]
   rfl)]
  have hat:=i0 qs b.toNat b (by lia) hB
  rw[zq (env':=EL ns qs rope (.p (.int m)) (.p (.int a)) (.p (zd qs[b.toNat])) .un .un .un) (by
   have e:f2 yQ (f2 v8 (zf 3) (fC (.int 27))) (fB vp (zi (zf 1) (zB))) (EL ns qs rope (.p (.int m)) (.p (.int a)) .un .un .un .un)=.ok (.p (.int b)):=by
    rw[hbb];simp[EL,hd27,hq1]
   have e2:f2 zT (zf 1) (f2 yQ (f2 v8 (zf 3) (fC (.int 27))) (fB vp (zi (zf 1) (zB)))) (EL ns qs rope (.p (.int m)) (.p (.int a)) .un .un .un .un)=.ok (.p (zd qs[b.toNat])):=by
    have v:zf 1 (EL ns qs rope (.p (.int m)) (.p (.int a)) .un .un .un .un)=.ok (.p (vV qs)):=rfl;rw[f2,v,zh,e,zh];show zT (vV qs) (.int b)=_;simp only[zT,hat]
   simp only[zU,e2,zh]
   rfl)]
  refine(pH (ds:=(qs.take a.toNat++[qs[b.toNat]]++qs.drop a.toNat).map zd) (.inl ?_)).trans rfl;have hA:a=((a.toNat:Nat):Int):=by lia
  obtain⟨F,hF⟩:∃F,F=EL ns qs rope (.p (.int m)) (.p (.int a)) (.p (zd qs[b.toNat])) .un .un .un:=⟨_,rfl⟩
  have e1:ku (zf 1) (jn) (mQ (zf 4)) F=.ok (.fresh ((qs.take a.toNat).map zd)):=by
   rw[List.map_take,←bZ _ a a.toNat hA,hF];rfl
  have e2:xV (zK (zf 5) (yj)) F=.ok (.fresh [zd qs[b.toNat]]):=by rw[hF];rfl
  have e3:ku (zf 1) (mQ (zf 4)) (jn) F=.ok (.fresh ((qs.drop a.toNat).map zd)):=by
   rw[List.map_drop,←pP _ a a.toNat hA,hF];rfl
  rw[←hF]
  have e4:f2 y9 (ku (zf 1) (jn) (mQ (zf 4))) (xV (zK (zf 5) (yj))) F=.ok (.fresh ((qs.take a.toNat++[qs[b.toNat]]).map zd)):=by
   rw[f2,e1,zh,e2,zh];show y9 (.l ((qs.take a.toNat).map zd)) (.l [zd qs[b.toNat]])=_;simp only[y9,sac,List.length_cons,List.length_nil,sbn];rw[sak (by lia),saY];rfl
  rw[f2,e4,zh,e3,zh];show y9 (.l ((qs.take a.toNat++[qs[b.toNat]]).map zd)) (.l ((qs.drop a.toNat).map zd))=_;simp only[y9,sac,List.length_cons,List.length_nil,sbn,saP,List.length_drop];rw[sak (by lia),saY (l₁:=qs.take a.toNat++[qs[b.toNat]])]
 ·rcases sas.mp hp with hp|hp
  ·rcases sas.mp hp with hp|hp
   ·exact hqb p (List.mem_of_mem_take hp)
   ·rw[saf]at hp;rw[hp];exact hqb _ (List.getElem_mem hB)
  ·exact hqb p (List.mem_of_mem_drop hp)
theorem Wl (ns:List Int){ps rope:List zk}(m a mo w9:Slot){w:Int}(hw:w=0∨w=1)(hl:ps.length<18)(hr:rope.length≤50)(hp:∀p∈ps,rj p)(hb:∀c∈rope,rj c) :
 cm (EL ns ps rope m a mo (.p (.bl (!decide ps.Nodup))) (.p (lH (pM ps rope))) (.p (.int w)))=.ok (.next (EL ns ps rope m a mo (.p (.bl (!decide ps.Nodup))) (.p (lH (pM ps rope))) (.p (.int w)))):=by
 have tk:∀x,xH [vV ps,vV rope] x→rO [.int w,vV ps,vV rope] x:=fun x h=>by
  rcases hw with rfl|rfl
  ·exact .inl ⟨rfl,[.p (vV ps),.p (vV rope)],rfl,rfl,Ut h⟩
  ·exact .inr ⟨rfl,[.p (vV ps),.p (vV rope)],rfl,rfl,Y6 h⟩
 show Yq _ _ _ _ _ _ _ _ _ _=_;unfold Yq;refine sak ⟨rfl,rfl,?_⟩
 show(_=_∧rO [.int w,vV ps,vV rope] _)∨_∧((_∧∃n,_∧rO [.int w,vV ps,vV rope] _)∨_∧((_∧rO [.int w,vV ps,vV rope] _)∨_∧i8 [.int w,vV ps,vV rope]))
 by_cases hn:ps.Nodup
 rotate_left
 ·rw[saB hn];exact .inl ⟨rfl,tk _ (UE hl hn)⟩
 rw[sap hn]
 have L:LookOk ps rope:=⟨hl,hn,by lia,fun q hq=>aZ (hb _ (qv hq).1) (hb _ (qv hq).2)⟩
 refine .inr ⟨rfl,?_⟩
 cases hd:pM ps rope with
 |some n=>exact .inl ⟨rfl,n,rfl,tk _ (Y5 L hd)⟩
 | none=>
   have R:=Xp L hd;refine .inr ⟨rfl,?_⟩
   obtain⟨E,hE⟩:∃E,E=EL ns ps rope m a mo (.p (.bl (!true))) (.p (lH none)) (.p (.int w)):=⟨_,rfl⟩
   have t1:zV (f2 nM (zf 8) (fC (.int 1))) E=.ok (decide (w=1)):=by
    rw[hE];simp[EL];rfl
   have a0:f2 zT (zf 2) (fC (.int 0)) E=.ok (.p (zd (xQ rope))):=by
    rw[hE];show zT (vV rope) (.int 0)=_;simp only[zT,pW R.ne]
   have a1:f2 zT (zf 2) (f1 yM (fC (.int 1))) E=.ok (.p (zd (ye rope))):=by
    rw[hE];show zT (vV rope) (.int (-1))=_;simp only[zT,om R.ne]
   have t2:zV (f2 oB (f2 zT (zf 2) (fC (.int 0))) (f2 zT (zf 2) (f1 yM (fC (.int 1))))) E=.ok (!decide (xQ rope=ye rope)):=by
    have:f2 oB (f2 zT (zf 2) (fC (.int 0))) (f2 zT (zf 2) (f1 yM (fC (.int 1)))) E=oB (zd (xQ rope)) (zd (ye rope)):=by
     rw[f2,a0,zh,a1];rfl
    unfold zV;rw[this];simp[p4,mx]
   rw[←hE]
   rcases hw with rfl|rfl
   ·refine .inr ⟨by simp only[vF,t1,zh];rfl,?_⟩;obtain⟨out,ho⟩:=Uu hp R hb;show RM [.p (.int 0),.p (vV ps),.p (vV rope),.p .non,.un]=_
    have e:zA uy (zi (zf 1) (zi (zf 2) (zB))) [.p (.int 0),.p (vV ps),.p (vV rope),.p .non,.un]=.ok (.fresh (out.map zd)):=by
     show((uy [vV ps,vV rope]).bind _)=_;rw[ho];rfl
    have t:zV (f2 nM (zf 0) (fC (.int 0))) [.p (.int 0),.p (vV ps),.p (vV rope),.p .non,.un]=.ok true:=rfl;simp only[RM,wk,t,zh,if_true,dQ,e];rfl
   ·by_cases hc:xQ rope=ye rope
    ·refine .inr ⟨by simp only[vF,t1,t2,hc,zh];rfl,?_⟩;have ho:=Y7 R R.ne hc (by have:=eN R;unfold xZ at this;lia);generalize(ps.map fun p=>D.int (kd ((zW rope).flatMap (uZ (zo ps))) p))=out at ho;show RM [.p (.int 1),.p (vV ps),.p (vV rope),.p .non,.un]=_
     have e:zA vm (zi (zf 1) (zi (zf 2) (zB))) [.p (.int 1),.p (vV ps),.p (vV rope),.p .non,.un]=.ok (.fresh out):=by
      show((vm [vV ps,vV rope]).bind _)=_;rw[ho];rfl
     have t:zV (f2 nM (zf 0) (fC (.int 0))) [.p (.int 1),.p (vV ps),.p (vV rope),.p .non,.un]=.ok false:=rfl;simp only[RM,wk,t,zh,dQ,e];rfl
    ·refine .inl ⟨by simp only[vF,t1,t2,saB hc,zh];rfl,?_⟩;exact .inr ⟨rfl,[.p (vV ps),.p (vV rope)],rfl,rfl,ba R R.ne hc⟩
theorem main:∀ns:List Int,ns.length≤63→zX 11 iJ [.scr ns]=.ok (.p (.bl true)):=by
 intro ns _;have hpl:=UP ns;have D0:=j4 ns 0 0
 have hpx:∀p∈xI ns,0≤p.1∧p.1≤8:=fun p hp=>by
  obtain⟨i,h1,h2,h3⟩:=D0.even p hp;lia
 have hpb:∀p∈xI ns,rj p:=fun p hp=>by
  obtain⟨⟨i,h1,h2,h3⟩,h4,h5⟩:=r9 ns _ p hp;exact⟨⟨by lia,by lia⟩,by lia,by lia⟩
 have hm22:=mh ns 22 (by lia);have hm52:=mh ns 52 (by lia);have hm53:=mh ns 53 (by lia);generalize zD ns 22=m22 at hm22;generalize zD ns 52=m52 at hm52;generalize zD ns 53=m53 at hm53;have h0:0≤m22%5:=sbz _ (by decide);have h5:m22%5<5:=sbC _ (by decide);have hrope:=UF ns 23 (2+m22%5) (xI ns) (by lia) (by lia) (by lia) (by lia) hpl;have hlen:=rz ns 23 (xI ns) (2+m22%5).toNat;have hodd:=pA ns 23 (xI ns) (2+m22%5).toNat;have hhi:=eP ns 23 (xI ns) (2+m22%5).toNat;generalize zN ns 23 (xI ns) (2+m22%5).toNat=r0 at hrope hlen hodd hhi;have hne:r0≠[]:=fun z=>by rw[z]at hlen;simp at hlen;lia
 have hbr:∀c∈r0,rj c:=fun c hc=>by
  obtain⟨i,h1,h2,h3⟩:=hodd c hc;obtain⟨h4,h6⟩:=hhi c hc;exact⟨⟨by lia,by lia⟩,by lia,by lia⟩
 obtain⟨r1,e2,hn1,hl1,hb1⟩:=XT ns (ps:=xI ns) hne (by lia) hbr;obtain⟨rope,hsp,hlr,hbb⟩:=aD (ps:=xI ns) m52 hpx hn1 hl1 hb1;obtain⟨ps,a,mo,e5,hps,hpp⟩:=Zy ns (rope:=rope) m53 hpl hpb;have d:=Ri (ps:=ps) (rope:=rope) (by lia) (by lia) (fun q hq=>aZ (hbb _ (qv hq).1) (hbb _ (qv hq).2));obtain⟨s1,s2⟩:=WE (ps:=ps) (by lia);unfold iJ;show(((zL _ _:FS) [.p (.scr ns),.un,.un,.un,.un,.un,.un,.un,.un,.un,.un]).bind _)=_;rw[zq (env':=[.p (.scr ns),.p (vV (xI ns)),.un,.un,.un,.un,.un,.un,.un,.un,.un]) rfl]
 rw[zq (env':=EL ns (xI ns) r0 .un .un .un .un .un .un) ((pH (ds:=r0.map zd) (.inl (by
  obtain⟨E,hE⟩:∃E:Ev,E=[.p (.scr ns),.p (vV (xI ns)),.un,.un,.un,.un,.un,.un,.un,.un,.un]:=⟨_,rfl⟩
  have e:f2 y9 (fC (.int 2)) (f2 yQ (zA yL (zi (zf 0) (zi (fC (.int 22)) (zB)))) (fC (.int 5))) E=.ok (.p (.int (2+m22%5))):=by rw[hE];simp[hm22]
  have e0:zf 0 E=.ok (.p (.scr ns)):=by rw[hE];rfl
  have e2:zf 1 E=.ok (.p (vV (xI ns))):=by rw[hE];rfl
  rw[←hE];simp only[zA,zi,e,e0,e2,fC,zh,zB,frz,fT,List.map_cons,List.map_nil,Val.d,hrope]
  rfl))).trans rfl)]
 rw[zq e2]
 rw[zq (env':=EL ns (xI ns) rope .un .un .un .un .un .un) ((pH (ds:=rope.map zd) (by
  have e1:zf 2 (EL ns (xI ns) r1 .un .un .un .un .un .un)=.ok (.p (vV r1)):=rfl;have e2:zf 1 (EL ns (xI ns) r1 .un .un .un .un .un .un)=.ok (.p (vV (xI ns))):=rfl;have e3:zA yL (zi (zf 0) (zi (fC (.int 52)) (zB))) (EL ns (xI ns) r1 .un .un .un .un .un .un)=.ok (.p (.int m52)):=by simp[EL,hm52]
  rw[b_ e1 e2 e3];show((vx [vV r1,vV (xI ns),.int m52]).bind _)=_∨((vx [vV r1,vV (xI ns),.int m52]).bind _)=_
  rcases hsp with hso|hso
  ·rw[hso];exact .inl rfl
  ·rw[hso];exact .inr rfl)).trans rfl)]
 rw[zq (env':=EL ns (xI ns) rope (.p (.int m53)) .un .un .un .un .un) (by
  have e3:zA yL (zi (zf 0) (zi (fC (.int 53)) (zB))) (EL ns (xI ns) rope .un .un .un .un .un .un)=.ok (.p (.int m53)):=by simp[EL,hm53]
  simp only[zU,e3,zh]
  rfl)]
 rw[zq e5]
 rw[zq (env':=EL ns ps rope (.p (.int m53)) a mo (.p (.bl (!decide ps.Nodup))) .un .un) (by
  have e3:f2 mO (f1 xP (zf 1)) (fB vp (zi (zf 1) (zB))) (EL ns ps rope (.p (.int m53)) a mo .un .un .un)=.ok (.p (.bl (!decide ps.Nodup))):=by
   show((xP (vV ps)).bind _)=_;rw[s1];show Out.ok (Val.p (.bl (decide (((wZ (ps.map r8)).length:Int)<((ps.map zd).length:Int)))))=_;rw[sac,s2]
  simp only[zU,e3,zh]
  rfl)]
 rw[zq (env':=EL ns ps rope (.p (.int m53)) a mo (.p (.bl (!decide ps.Nodup))) (.p (lH (pM ps rope))) .un) (by
  have e3:zA ip (zi (zf 1) (zi (zf 2) (zB))) (EL ns ps rope (.p (.int m53)) a mo (.p (.bl (!decide ps.Nodup))) .un .un)=.ok (.p (lH (pM ps rope))):=by
   show((ip [vV ps,vV rope]).bind _)=_;rw[d];rfl
  simp only[zU,e3,zh]
  rfl)]
 have w0:=Wl ns (m:=.p (.int m53)) (a:=a) (mo:=mo) (w9:=.un) (w:=0) (.inl rfl) (show ps.length<18 by lia) hlr hpp hbb;have w1:=Wl ns (m:=.p (.int m53)) (a:=a) (mo:=mo) (w9:=.un) (w:=1) (.inr rfl) (show ps.length<18 by lia) hlr hpp hbb
 rw[zq (env':=EL ns ps rope (.p (.int m53)) a mo (.p (.bl (!decide ps.Nodup))) (.p (lH (pM ps rope))) (.p (.int 1))) (by
  show((rH _ _).bind _)=_;rw[eQ (n:=2) rfl (by decide),zh];show x4 (gN 8) cm [.int 0,.int 1] _=_;rw[x4,show gN 8 (.int 0) (EL ns ps rope (.p (.int m53)) a mo (.p (.bl (!decide ps.Nodup))) (.p (lH (pM ps rope))) .un)=.ok (EL ns ps rope (.p (.int m53)) a mo (.p (.bl (!decide ps.Nodup))) (.p (lH (pM ps rope))) (.p (.int 0)))from rfl,zh,w0,zh];show x4 (gN 8) cm [.int 1] _=_;rw[x4,show gN 8 (.int 1) (EL ns ps rope (.p (.int m53)) a mo (.p (.bl (!decide ps.Nodup))) (.p (lH (pM ps rope))) (.p (.int 0)))=.ok (EL ns ps rope (.p (.int m53)) a mo (.p (.bl (!decide ps.Nodup))) (.p (lH (pM ps rope))) (.p (.int 1)))from rfl,zh,w1,zh]
  rfl)]
 rfl
noncomputable def qR (i:Nat):Stmt:=PySem.Challenge.pw_tautline_k44_taut_and_rounds_refused.main.body.getD i (.Pass ⟨0,0,0,0⟩)
noncomputable abbrev jc:Stmt:=qR 37
theorem cW:FS_ ["_law_script","_law_k","_law_cell","_law_j"] ["_law_script","_law_k"] (zw jc):=wo
noncomputable abbrev jb:Stmt:=qR 38
theorem cV:FS_ ["_law_script","_law_k","_law_cell","_law_number"] ["_law_script","_law_k"] (zw jb):=wo
noncomputable abbrev eJ:Stmt:=qR 39
theorem Z2:FS_ ["_law_script","_law_number","_law_many","_law_found","_law_k","_law_peg"] ["_law_script"] (zw eJ):=wo
noncomputable abbrev Z4:Stmt:=qR 40
theorem WI:FS_ ["_law_one","_law_other","_law_pegs_here","_law_x","_law_y","_law_rise"] ["_law_one","_law_other","_law_pegs_here"] (zw Z4):=wo
noncomputable abbrev eI:Stmt:=qR 41
theorem Z1:FS_ ["_law_script","_law_start","_law_many","_law_pegs_here","_law_found","_law_k","_law_number","_law_corner"] ["_law_script","_law_start","_law_many","_law_pegs_here"] (zw eI):=wo
noncomputable abbrev p8:Stmt:=qR 42
theorem jK:FS_ ["_law_rope_here","_law_pegs_here","_law_number","_law_at"] ["_law_rope_here","_law_pegs_here","_law_number"] (zw p8):=wo
noncomputable abbrev Z5:Stmt:=qR 43
theorem WJ:FS_ ["_law_pegs_here","_law_rope_here","_law_place"] ["_law_pegs_here","_law_rope_here"] (zw Z5):=wo
noncomputable abbrev vH:Stmt:=qR 18
theorem qJ:FS_ ["gate","later"] ["gate","later"] (zw vH):=wo
noncomputable abbrev ui:Stmt:=qR 17
theorem pf:FS_ ["row","kept","gate"] ["row"] (zw ui):=wo
noncomputable abbrev rq:Stmt:=qR 6
theorem rX:FS_ ["pegs","heights_by_x","x","y"] ["pegs"] (zw rq):=wo
noncomputable abbrev xa:Stmt:=qR 8
theorem xJ:FS_ ["board","rope","taken","place","corner"] ["board","rope"] (zw xa):=wo
noncomputable abbrev uh:Stmt:=qR 10
theorem pd:FS_ ["rope"] ["rope"] (zw uh):=wo
noncomputable abbrev sy:Stmt:=qR 12
theorem nV:FS_ ["board","stretch","start","end"] ["board","stretch"] (zw sy):=wo
noncomputable abbrev su:Stmt:=qR 13
theorem nT:FS_ ["stretch","peg","start","end","across","turn"] ["stretch","peg"] (zw su):=wo
noncomputable abbrev xo:Stmt:=qR 11
theorem vW:FS_ ["board","stretch","x","heights"] ["board","stretch"] (zw xo):=wo
noncomputable abbrev yN:Stmt:=qR 9
theorem xh:FS_ ["board","rope","place","stretch"] ["board","rope"] (zw yN):=wo
noncomputable abbrev tF:Stmt:=qR 7
theorem sk:FS_ ["pegs","rope","board"] ["pegs","rope"] (zw tF):=wo
noncomputable abbrev sv:Stmt:=qR 16
theorem nU:FS_ ["line","stretch","x","below","above","way"] ["line","stretch"] (zw sv):=wo
noncomputable abbrev tu:Stmt:=qR 15
theorem si:FS_ ["pegs","rope","board","row","stretch"] ["pegs","rope"] (zw tu):=wo
noncomputable abbrev vG:Stmt:=qR 27
theorem qI:FS_ ["pegs","kept","peg"] ["pegs"] (zw vG):=wo
noncomputable abbrev vJ:Stmt:=qR 23
theorem qL:FS_ ["gate","later"] ["gate","later"] (zw vJ):=wo
noncomputable abbrev wQ:Stmt:=qR 22
theorem sh:FS_ ["gate","later","x"] ["gate","later"] (zw wQ):=wo
noncomputable abbrev ve:Stmt:=qR 26
theorem rp:FS_ ["stretch","gate","told","low","high"] ["stretch","gate"] (zw ve):=wo
noncomputable abbrev xK:Stmt:=qR 25
theorem uu:FS_ ["stretch","run","farthest","most","gate","beyond","peg"] ["stretch","run"] (zw xK):=wo
noncomputable abbrev vI:Stmt:=qR 24
theorem qK:FS_ ["start","run","goal","reached","goals","peg"] ["start","run","goal"] (zw vI):=wo
noncomputable abbrev sq:Stmt:=qR 21
theorem nS:FS_ ["start","row","end","spots","run","gate","turn"] ["start","row","end"] (zw sq):=wo
noncomputable abbrev vd:Stmt:=qR 28
theorem ro:FS_ ["one","middle","other","across","up","next_across","next_up"] ["one","middle","other"] (zw vd):=wo
noncomputable abbrev rY:Stmt:=qR 20
theorem kg:FS_ ["start","row","end","way","bends"] ["start","row","end"] (zw rY):=wo
noncomputable abbrev pq:Stmt:=qR 30
theorem p7:FS_ ["pegs","rope","row"] ["pegs","rope"] (zw pq):=wo
noncomputable abbrev vK:Stmt:=qR 33
theorem qM:FS_ ["gate","peg"] ["gate","peg"] (zw vK):=wo
noncomputable abbrev uj:Stmt:=qR 32
theorem ph:FS_ ["peg","row"] ["peg","row"] (zw uj):=wo
noncomputable abbrev tD:Stmt:=qR 31
theorem sj:FS_ ["pegs","rope","row"] ["pegs","rope"] (zw tD):=wo
noncomputable abbrev nW:Stmt:=qR 44
theorem fm:FS_ ["_law_way","_law_pegs_here","_law_rope_here","_law_caught_here","e"] ["_law_way","_law_pegs_here","_law_rope_here"] (zw nW):=wo
noncomputable abbrev k_:Stmt:=qR 36
theorem cT:FS_ ["_law_found"] ["_law_found"] (zw k_):=wo
noncomputable abbrev ja:Stmt:=qR 45
theorem cU:FS_ ["_law_caught_here","_law_name","_law_place","_law_kinds"] ["_law_caught_here","_law_name","_law_place"] (zw ja):=wo
noncomputable abbrev jL:Stmt:=qR 46
theorem WH:FS_ ["_law_script","_law_pegs_here","_law_rope_here","_law_number","_law_at","_law_more","_law_twice","_law_due_here","_law_way","_law_caught_here","_law_right"] ["_law_script"] (zw jL):=wo
section
variable (P:Program)(w:World)(K:Frag)(mg:Str→Option Value)(base:Heap)(k:Nat)
noncomputable abbrev cA:Prop:=Cal P w K mg base k "_law_block" ["_law_script","_law_k"] u0
noncomputable abbrev mL:Prop:=Cal P w K mg base k "_law_mixed" ["_law_script","_law_k"] yL
noncomputable abbrev ZP:Prop:=Cal P w K mg base k "_law_pegs" ["_law_script"] dj
noncomputable abbrev au:Prop:=Cal P w K mg base k "_law_hit" ["_law_one","_law_other","_law_pegs_here"] oG
noncomputable abbrev ZO:Prop:=Cal P w K mg base k "_law_rope" ["_law_script","_law_start","_law_many","_law_pegs_here"] il
noncomputable abbrev l0:Prop:=Cal P w K mg base k "_law_spoiled" ["_law_rope_here","_law_pegs_here","_law_number"] vx
noncomputable abbrev Ug:Prop:=Cal P w K mg base k "_law_due" ["_law_pegs_here","_law_rope_here"] ip
noncomputable abbrev tX:Prop:=Cal P w K mg base k "to_and_fro" ["gate","later"] yO
noncomputable abbrev s_:Prop:=Cal P w K mg base k "shortened" ["row"] xy
noncomputable abbrev rQ:Prop:=Cal P w K mg base k "lines" ["pegs"] xl
noncomputable abbrev x9:Prop:=Cal P w K mg base k "refuse_corners" ["board","rope"] yG
noncomputable abbrev vc:Prop:=Cal P w K mg base k "stretches" ["rope"] yK
noncomputable abbrev uM:Prop:=Cal P w K mg base k "crossed" ["board","stretch"] yd
noncomputable abbrev uL:Prop:=Cal P w K mg base k "side_of" ["stretch","peg"] yz
noncomputable abbrev xu:Prop:=Cal P w K mg base k "goes_through_peg" ["board","stretch"] yp
noncomputable abbrev wO:Prop:=Cal P w K mg base k "refuse_stretches" ["board","rope"] yP
noncomputable abbrev nL:Prop:=Cal P w K mg base k "looked" ["pegs","rope"] tL
noncomputable abbrev p0:Prop:=Cal P w K mg base k "gate_of" ["line","stretch"] uz
noncomputable abbrev tZ:Prop:=Cal P w K mg base k "row_of" ["pegs","rope"] xc
noncomputable abbrev tW:Prop:=Cal P w K mg base k "unrepeated" ["pegs"] xb
noncomputable abbrev t4:Prop:=Cal P w K mg base k "lies_below" ["gate","later"] xf
noncomputable abbrev ud:Prop:=Cal P w K mg base k "turning_pegs" ["gate","later"] yF
noncomputable abbrev uT:Prop:=Cal P w K mg base k "pegs_beyond" ["stretch","gate"] yA
noncomputable abbrev w6:Prop:=Cal P w K mg base k "farthest_beyond" ["stretch","run"] yg
noncomputable abbrev tY:Prop:=Cal P w K mg base k "run_pulled" ["start","run","goal"] yi
noncomputable abbrev pZ:Prop:=Cal P w K mg base k "touched" ["start","row","end"] xX
noncomputable abbrev uS:Prop:=Cal P w K mg base k "straight_on" ["one","middle","other"] yV
noncomputable abbrev nK:Prop:=Cal P w K mg base k "pulled" ["start","row","end"] vn
noncomputable abbrev i9:Prop:=Cal P w K mg base k "taut" ["pegs","rope"] uy
noncomputable abbrev t7:Prop:=Cal P w K mg base k "lies_above" ["gate","peg"] xN
noncomputable abbrev rf:Prop:=Cal P w K mg base k "rounds_of" ["peg","row"] wj
noncomputable abbrev nJ:Prop:=Cal P w K mg base k "rounds" ["pegs","rope"] vm
noncomputable abbrev i_:Prop:=CalK2 P w K mg base k "_law_caught" ["_law_way","_law_pegs_here","_law_rope_here"] i8 rO ["NoPegs","NoRope","NoEnds"]
noncomputable abbrev cy:Prop:=Cal P w K mg base k "_law_whole" ["_law_found"] jj
noncomputable abbrev cz:Prop:=CalN P w K mg base k "_law_named" ["_law_caught_here","_law_name","_law_place"]
end
section
variable {P:Program}{w:World}{K:Frag}{mg:Str→Option Value}{base:Heap}{k:Nat}{f:Addr}{fd:FuncData}
theorem X4 (F:Fun K "_law_block" "_law_block" jc f fd) (hm:mg "_law_block" = some (.ref f))  (b_len:mg "len" = none) (b_range:mg "range" = none):cA P w K mg base (k+1):=by
 have nd:=(cW).nd
 exact Cal.imp (m:=zX 4 jm) ⟨f,fd,yT (N:=["_law_script","_law_k","_law_cell","_law_j"]) F cW fun cdv A outer s G H E hr=>
  zm (zF (i:=2) true nd zj)
  (zm (yR (tR (xD zj (yB (vS (dv 1) zj) zj)) (yt zZ wK b_len PySem.boot_len (mS (dv 0))))
  (zu (zF (i:=2) true nd (vS (zC (dv 0) (xD zj (yB (vS (dv 1) zj) zj))) (Zz zj zj))))
  z_)
  (zm (w4 saO (tm b_range (mS (yB (dv 1) zj))) (yn (i:=3) nd)
  (zu (zF (i:=2) true nd (vS (dv 2) zj))))
  (zu (z8 (dv 2))))),hm,F.kp,kr F "_law_script" "_law_k" fun _ _ _ _ _ _ _ _=>rfl⟩ aY
theorem X3 (F:Fun K "_law_mixed" "_law_mixed" jb f fd) (hm:mg "_law_mixed" = some (.ref f)) (c_block:cA P w K mg base k) (b_len:mg "len" = none) (b_min:mg "min" = none):mL P w K mg base (k+1):=by
 have nd:=(cV).nd
 exact Cal.imp (m:=zX 4 dG) ⟨f,fd,yT (N:=["_law_script","_law_k","_law_cell","_law_number"]) F cV fun cdv A outer s G H E hr=>
  zm (zF (i:=2) true nd zj)
  (zm (yR (ky (yt zZ wK b_len PySem.boot_len (mS (dv 0))) zj)
  (zu (zF (i:=2) true nd (zC (dv 0) zj)))
  z_)
  (zm (yR (lI (tQ (qQ (wU hr) (yB (vS (dv 2) (Zz zj zj)) zj) zj) (vP (kx (wU hr) (rk c_block hr (dv 0) (dv 1)) zj))))
  (zu (z8 (yB (rk c_block hr (dv 0) (dv 1)) zj)))
  z_)
  (zm (yR (ky (yt zZ wK b_len PySem.boot_len (mS (dv 0))) zj)
  (zu (zF (i:=2) true nd (zC (dv 0) (yB (dv 1) (yt (XY rfl) Tv b_min boot_min (Wb zj (yt zZ wK b_len PySem.boot_len (mS (dv 0)))))))))
  z_)
  (zm (zF (i:=3) true nd (xD (yB (dv 2) (Zz zj zj)) (vR zj (xD (dv 1) zj))))
  (zm (zF (i:=3) true nd (xD (yB (vR (dv 3) (dv 3)) zj) (vR zj (dv 1))))
  (zu (z8 (yB (vR (dv 3) (dv 3)) zj)))))))),hm,F.kp,kr F "_law_script" "_law_k" fun _ _ _ _ _ _ _ _=>rfl⟩ aX
theorem VZ (F:Fun K "_law_pegs" "_law_pegs" eJ f fd) (hm:mg "_law_pegs" = some (.ref f)) (c_mixed:mL P w K mg base k) (b_range:mg "range" = none):ZP P w K mg base (k+1):=by
 have nd:=(Z2).nd
 exact Cal.imp (m:=zX 6 Zv) ⟨f,fd,yT (N:=["_law_script","_law_number","_law_many","_law_found","_law_k","_law_peg"]) F Z2 fun cdv A outer s G H E hr=>
  zm (zF (i:=1) true nd (rk c_mixed hr (dv 0) zj))
  (zm (zF (i:=2) true nd (zC (xC (zG (yB (dv 1) zj) (zG (yB (dv 1) zj) (zG zj z0)))) (yB (vS (yB (vS (dv 1) zj) zj) zj) zj)))
  (zm (zF (i:=3) false nd (xC z0))
  (zm (w4 saO (tm b_range (mS (dv 2))) (yn (i:=4) nd)
  (zm (zF (i:=1) true nd (rk c_mixed hr (dv 0) (xD zj (dv 4))))
  (zm (zF (i:=5) true nd (xA (zG (vR zj (yB (dv 1) zj)) (zG (yB (vS (dv 1) zj) zj) z0))))
  (zu (yR (Rj (wU hr) (dv 5) (dv 3))
  (zu (wV (pv 3) (dv 5)))
  z_)))))
  (zu (z8 (dv 3)))))),hm,F.kp,Re F "_law_script" fun _ _ _ _ _ _ _=>rfl⟩ Xi
theorem Tw (F:Fun K "_law_hit" "_law_hit" Z4 f fd) (hm:mg "_law_hit" = some (.ref f))   : au P w K mg base (k+1):=by
 have nd:=(WI).nd
 exact Cal.imp (m:=zX 6 bQ) ⟨f,fd,yT (N:=["_law_one","_law_other","_law_pegs_here","_law_x","_law_y","_law_rise"]) F WI fun cdv A outer s G H E hr=>
  zm (w4 saO (yC (dv 2)) (sU rfl (yf (i:=3) nd (yf (i:=4) nd (uo))))
  (zu (yR (lI (T9 (lI (tQ (tR (zC (dv 0) zj) (dv 3)) (vP (tR (dv 3) (zC (dv 1) zj))))) (VN (lI (tQ (tR (zC (dv 1) zj) (dv 3)) (vP (tR (dv 3) (zC (dv 0) zj))))))))
  (zm (zF (i:=5) true nd (vR (w5 (zC (dv 1) zj) (zC (dv 0) zj)) (w5 (dv 3) (zC (dv 0) zj))))
  (zu (yR (qQ (wU hr) (dv 5) (vR (w5 (dv 4) (zC (dv 0) zj)) (w5 (zC (dv 1) zj) (zC (dv 0) zj))))
  (zu (z8 bY))
  z_)))
  z_)))
  (zu (z8 bY)),hm,F.kp,T7 F "_law_one" "_law_other" "_law_pegs_here" fun _ _ _ _ _ _ _ _ _=>rfl⟩ Vd
theorem VY (F:Fun K "_law_rope" "_law_rope" eI f fd) (hm:mg "_law_rope" = some (.ref f)) (c_mixed:mL P w K mg base k) (c_hit:au P w K mg base k) (b_range:mg "range" = none):ZO P w K mg base (k+1):=by
 have nd:=(Z1).nd
 exact Cal.imp (m:=zX 8 dF) ⟨f,fd,yT (N:=["_law_script","_law_start","_law_many","_law_pegs_here","_law_found","_law_k","_law_number","_law_corner"]) F Z1 fun cdv A outer s G H E hr=>
  zm (zF (i:=4) false nd (xC z0))
  (zm (w4 saO (tm b_range (mS (dv 2))) (yn (i:=5) nd)
  (zm (zF (i:=6) true nd (rk c_mixed hr (dv 0) (xD (dv 1) (dv 5))))
  (zm (zF (i:=7) true nd (xA (zG (w5 (vR zj (yB (dv 6) zj)) zj) (zG (w5 (yB (vS (dv 6) zj) zj) zj) z0))))
  (zm (yR (lI (tQ (ky (dv 5) zj) (vP (qQ (wU hr) (yB (vS (dv 6) zj) zj) zj))))
  (zu (zF (i:=7) true nd (zC (dv 4) (xB zj))))
  z_)
  (zm (bX 100 saO (lI (tQ (ky (dv 5) zj) (vP (wJ (Wa c_hit hr (zC (dv 4) (xB zj)) (dv 7) (dv 3))))))
  (zu (zF (i:=7) true nd (xA (zG (zC (dv 7) zj) (zG (xD (zC (dv 7) zj) zj) z0))))))
  (zu (wV (pv 4) (dv 7))))))))
  (zu (z8 (dv 4)))),hm,F.kp,Oz F "_law_script" "_law_start" "_law_many" "_law_pegs_here" fun _ _ _ _ _ _ _ _ _ _=>rfl⟩ Xh
theorem aa (F:Fun K "_law_spoiled" "_law_spoiled" p8 f fd) (hm:mg "_law_spoiled" = some (.ref f))  (b_len:mg "len" = none):l0 P w K mg base (k+1):=by
 have nd:=(jK).nd
 exact Cal.imp (m:=zX 4 xR) ⟨f,fd,yT (N:=["_law_rope_here","_law_pegs_here","_law_number","_law_at"]) F jK fun cdv A outer s G H E hr=>
  zm (yR (lI (tQ (qQ (wU hr) (yB (dv 2) zj) zj) (vP (kx (wU hr) (dv 1) (xC z0)))))
  (zm (zF (i:=3) true nd (yB (vS (dv 2) zj) (yt zZ wK b_len PySem.boot_len (mS (dv 0)))))
  (zu (z8 (xD (xD (uG (dv 0) (xM) (xi (dv 3))) (xC (zG (xA (zG (zC (zC (dv 1) (xB zj)) zj) (zG (zC (zC (dv 0) (dv 3)) zj) z0))) z0))) (uG (dv 0) (xi (xD (dv 3) zj)) (xM))))))
  z_)
  (zm (yR (qQ (wU hr) (yB (dv 2) zj) zj)
  (zu (z8 (uG (uG (dv 0) (xi (yB (vS (dv 2) zj) (yt zZ wK b_len PySem.boot_len (mS (dv 0))))) (xM)) (xM) (xi zj))))
  z_)
  (zm (yR (qQ (wU hr) (yB (dv 2) zj) zj)
  (zu (z8 (xC z0)))
  z_)
  (zu (z8 (dv 0))))),hm,F.kp,T7 F "_law_rope_here" "_law_pegs_here" "_law_number" fun _ _ _ _ _ _ _ _ _=>rfl⟩ dg
theorem Tx (F:Fun K "_law_due" "_law_due" Z5 f fd) (hm:mg "_law_due" = some (.ref f)) (c_hit:au P w K mg base k) (b_len:mg "len" = none) (b_range:mg "range" = none):Ug P w K mg base (k+1):=by
 have nd:=(WJ).nd
 exact Cal.imp (m:=zX 3 bS) ⟨f,fd,yT (N:=["_law_pegs_here","_law_rope_here","_law_place"]) F WJ fun cdv A outer s G H E hr=>
  zm (yR (tR (yt zZ wK b_len PySem.boot_len (mS (dv 1))) zj)
  (zu (z8 zj))
  z_)
  (zm (w4 saO (tm b_range (mS (yt zZ wK b_len PySem.boot_len (mS (dv 1))))) (yn (i:=2) nd)
  (zu (yR (YC (wU hr) (zC (zC (dv 1) (dv 2)) zj) (vg (cap:=[]) (own:=["_law_x","_law_y"]) ⟨rfl,by decide +kernel,by decide +kernel,rfl,rfl⟩ (yC (dv 0)) (fun _ _ _=>sU rfl (yf (i:=0) (show(["_law_x","_law_y"]:List Str).Nodup from by decide +kernel) (yf (i:=1) (show(["_law_x","_law_y"]:List Str).Nodup from by decide +kernel) (uo)))) (iT [0,1]) (fun _ _ _=>sG) (fun _ _ _=>dv 0)))
  (zu (z8 (dv 2)))
  z_)))
  (zm (w4 saO (tm b_range (mS (w5 (yt zZ wK b_len PySem.boot_len (mS (dv 1))) zj))) (yn (i:=2) nd)
  (zu (yR (wJ (Wa c_hit hr (zC (dv 1) (dv 2)) (zC (dv 1) (xD (dv 2) zj)) (dv 0)))
  (zu (z8 (dv 2)))
  z_)))
  (zu (z8 qr)))),hm,F.kp,kr F "_law_pegs_here" "_law_rope_here" fun _ _ _ _ _ _ _ _=>rfl⟩ Ve
theorem lM (F:Fun K "to_and_fro" "to_and_fro" vH f fd) (hm:mg "to_and_fro" = some (.ref f))   : tX P w K mg base (k+1):=by
 have nd:=(qJ).nd
 exact Cal.imp (m:=zX 2 wF) ⟨f,fd,yT (N:=["gate","later"]) F qJ fun cdv A outer s G H E hr=>
  zu (z8 (nC (YI (wU hr) (uG (dv 0) (xM) (xi zj)) (uG (dv 1) (xM) (xi zj))) (iM (QC (wU hr) (zC (dv 0) zj) (zC (dv 1) zj))))),hm,F.kp,kr F "gate" "later" fun _ _ _ _ _ _ _ _=>rfl⟩ ma
theorem kU (F:Fun K "shortened" "shortened" ui f fd) (hm:mg "shortened" = some (.ref f)) (c_p_to_and_fro:tX P w K mg base k)  : s_ P w K mg base (k+1):=by
 have nd:=(pf).nd
 exact Cal.imp (m:=zX 3 sT) ⟨f,fd,yT (N:=["row","kept","gate"]) F pf fun cdv A outer s G H E hr=>
  zm (zF (i:=1) false nd (xC z0))
  (zm (w4 saO (yC (dv 0)) (yn (i:=2) nd)
  (zu (yR (lI (tQ (wJ (dv 1)) (vP (wJ (rk c_p_to_and_fro hr (zC (dv 1) (xB zj)) (dv 2))))))
  (zu (Rl (pv 1)))
  (zu (wV (pv 1) (dv 2))))))
  (zu (z8 (dv 1)))),hm,F.kp,Re F "row" fun _ _ _ _ _ _ _=>rfl⟩ ll
theorem dX (F:Fun K "lines" "lines" rq f fd) (hm:mg "lines" = some (.ref f)) {cE:Addr} (hE:mg "NoPegs" = some (.ref cE)) (qE:PySem.W.excIn K cE oO "ValueError.__new__" = true) (b_len:mg "len" = none) (b_set:mg "set" = none):CalR2 P w K mg base (k+1) "lines" ["pegs"] ou:=by
 have nd:=(rX).nd;exact⟨f,fd,qo (N:=["pegs","heights_by_x","x","y"]) (R:=Oe) F rX fun cdv A outer s G H E hr=>wC (m6 (tR (nA (wU hr) (dv 0) b_len b_set) (yt zZ wK b_len PySem.boot_len (mS (dv 0)))) (vv (fq hE qE))),hm,F.kp,Re F "pegs" fun _ _ _ _ _ _ _=>rfl⟩
theorem ae (F:Fun K "lines" "lines" rq f fd) (hm:mg "lines" = some (.ref f))  (b_len:mg "len" = none) (b_set:mg "set" = none) (b_sorted:mg "sorted" = none) (b_list:mg "list" = none):rQ P w K mg base (k+1):=by
 have nd:=(rX).nd
 exact Cal.imp (m:=zX 4 lD) ⟨f,fd,yT (N:=["pegs","heights_by_x","x","y"]) F rX fun cdv A outer s G H E hr=>
  zm (yR (tR (nA (wU hr) (dv 0) b_len b_set) (yt zZ wK b_len PySem.boot_len (mS (dv 0))))
  (zu uF) z_)
  (XO (w8 (sP (i:=1) nd rfl (Or.inl rfl) W7)
  (w8 (aL saO rfl (Ya (ux dY rfl b_sorted boot_sorted (zM (pv 0) yw))) (W4 rfl (jZ (jh (i:=2) nd rfl (Or.inl rfl)) (jZ (jh (i:=3) nd rfl (Or.inl rfl)) Yb)))
  (xp (oa (bp sbE PySem.F.slot_list_append PySem.F.type_list_append og (bp PySem.F.plainAttrs_dict PySem.F.slot_dict_setdefault PySem.F.type_dict_setdefault Xk (pv 1) (zM (pv 2) (zM (eX yw) yw))) (zM (pv 3) yw)))))
  (xp (oW (fx (iU rfl) rfl b_list boot_list (zM (aQ PySem.F.plainAttrs_dict PySem.F.slot_dict_items PySem.F.type_dict_items Vh (pv 1)) yw)))))) rfl),hm,F.kp,Re F "pegs" fun _ _ _ _ _ _ _=>rfl⟩ dh
noncomputable def Tu:Stmt→List Stmt
 | .ClassDef _ _ _ body .. =>body
 |_=>[]
noncomputable abbrev jM:Stmt:=(Tu (qR 4)).getD 0 (.Pass ⟨0,0,0,0⟩)
theorem UC:FS_ ["self","place"] ["self","place"] (zw jM):=wo
theorem UU (F:Fun K "__init__" "NoRope.__init__" jM f fd):FnOk P w K mg base gP 1 f fd ["self","place"] (jF K "place") :=
 Ti (k:=0) F UC rfl fun cdv A outer s H E=>xp (SB (pv 0) (pv 1) rfl)
theorem qW (F:Fun K "refuse_corners" "refuse_corners" xa f fd) (hm:mg "refuse_corners" = some (.ref f)) (hk:2≤k) {cR:Addr} (Z:InitCls P w K mg base 1 "NoRope" cR) (b_enumerate:mg "enumerate" = none):CalR2 P w K mg base (k+1) "refuse_corners" ["board","rope"] x6:=by
 have nd:=(xJ).nd
 exact⟨f,fd,qo (N:=["board","rope","taken","place","corner"]) (R:=Oh) F xJ fun cdv A outer s G H E hr=>pC ((by first|exact mz (i:=2) true nd (cap:=[]) (own:=["line"]) ⟨rfl,by decide +kernel,by decide +kernel,rfl,rfl⟩ (yC (dv 0)) (fun _ _ _=>yn (i:=0) (show(["line"]:List Str).Nodup from by decide +kernel)) (yU 0) (fun _ _ _=>sG) (fun _ _ _=>zC (dv 0) zj)|exact zF (i:=2) true nd (vg (cap:=[]) (own:=["line"]) ⟨rfl,by decide +kernel,by decide +kernel,rfl,rfl⟩ (yC (dv 0)) (fun _ _ _=>yn (i:=0) (show(["line"]:List Str).Nodup from by decide +kernel)) (yU 0) (fun _ _ _=>sG) (fun _ _ _=>zC (dv 0) zj)))) (Z9 PassesOwn.leaving (jq b_enumerate (dv 1)) (sU rfl (yf (i:=3) nd (yf (i:=4) nd (uo)))) (zu (yR (YC (wU hr) (zC (dv 4) zj) (dv 2))
 (zu uF)
 z_)) (wC (m6 (YC (wU hr) (zC (dv 4) zj) (dv 2)) (vv (jP Z (hr.mono (by lia)) (dv 3)))))),hm,F.kp,kr F "board" "rope" fun _ _ _ _ _ _ _ _=>rfl⟩
theorem pU (F:Fun K "refuse_corners" "refuse_corners" xa f fd) (hm:mg "refuse_corners" = some (.ref f))  (b_enumerate:mg "enumerate" = none):x9 P w K mg base (k+1):=by
 have nd:=(xJ).nd
 exact Cal.imp (m:=zX 5 yH) ⟨f,fd,yT (N:=["board","rope","taken","place","corner"]) F xJ fun cdv A outer s G H E hr=>
  zm ((by first|exact mz (i:=2) true nd (cap:=[]) (own:=["line"]) ⟨rfl,by decide +kernel,by decide +kernel,rfl,rfl⟩ (yC (dv 0)) (fun _ _ _=>yn (i:=0) (show(["line"]:List Str).Nodup from by decide +kernel)) (yU 0) (fun _ _ _=>sG) (fun _ _ _=>zC (dv 0) zj)|exact zF (i:=2) true nd (vg (cap:=[]) (own:=["line"]) ⟨rfl,by decide +kernel,by decide +kernel,rfl,rfl⟩ (yC (dv 0)) (fun _ _ _=>yn (i:=0) (show(["line"]:List Str).Nodup from by decide +kernel)) (yU 0) (fun _ _ _=>sG) (fun _ _ _=>zC (dv 0) zj))))
  (zu (w4 saO (jq b_enumerate (dv 1)) (sU rfl (yf (i:=3) nd (yf (i:=4) nd (uo))))
  (zu (yR (YC (wU hr) (zC (dv 4) zj) (dv 2))
  (zu uF)
  z_)))),hm,F.kp,kr F "board" "rope" fun _ _ _ _ _ _ _ _=>rfl⟩ qS
theorem kT (F:Fun K "stretches" "stretches" uh f fd) (hm:mg "stretches" = some (.ref f))  (b_list:mg "list" = none) (b_zip:mg "zip" = none):vc P w K mg base (k+1):=by
 have nd:=(pd).nd
 exact Cal.imp (m:=zX 1 um) ⟨f,fd,yT (N:=["rope"]) F pd fun cdv A outer s G H E hr=>
  zu (z8 (ZA (dv 0) (uG (dv 0) (xi zj) (xM)) b_list b_zip)),hm,F.kp,Re F "rope" fun _ _ _ _ _ _ _=>rfl⟩ lj
theorem gK (F:Fun K "crossed" "crossed" sy f fd) (hm:mg "crossed" = some (.ref f))  (b_reversed:mg "reversed" = none):uM P w K mg base (k+1):=by
 have nd:=(nV).nd
 exact Cal.imp (m:=zX 4 vA) ⟨f,fd,yT (N:=["board","stretch","start","end"]) F nV fun cdv A outer s G H E hr=>
  zm (zF (i:=2) true nd (zC (zC (dv 1) zj) zj))
  (zm (zF (i:=3) true nd (zC (zC (dv 1) zj) zj))
  (zm (yR (tR (dv 2) (dv 3))
  (zu (z8 (vg (cap:=[2,3]) (own:=["line"]) ⟨rfl,by decide +kernel,by decide +kernel,rfl,rfl⟩ (yC (dv 0)) (fun _ _ _=>yn (i:=2) (show(["start","end","line"]:List Str).Nodup from by decide +kernel)) (yU 2) (fun _ _ _=>u7 (YD (dv 0) (zC (dv 2) zj) (dv 1))) (fun _ _ _=>dv 2))))
  z_)
  (zu (z8 (vg (cap:=[3,2]) (own:=["line"]) ⟨rfl,by decide +kernel,by decide +kernel,rfl,rfl⟩ (Rm b_reversed (dv 0)) (fun _ _ _=>yn (i:=2) (show(["end","start","line"]:List Str).Nodup from by decide +kernel)) (yU 2) (fun _ _ _=>u7 (YD (dv 0) (zC (dv 2) zj) (dv 1))) (fun _ _ _=>dv 2)))))),hm,F.kp,kr F "board" "stretch" fun _ _ _ _ _ _ _ _=>rfl⟩ ik
theorem gH (F:Fun K "side_of" "side_of" su f fd) (hm:mg "side_of" = some (.ref f))   : uL P w K mg base (k+1):=by
 have nd:=(nT).nd
 exact Cal.imp (m:=zX 6 vy) ⟨f,fd,yT (N:=["stretch","peg","start","end","across","turn"]) F nT fun cdv A outer s G H E hr=>
  zm (zF (i:=2) true nd (zC (dv 0) zj))
  (zm (zF (i:=3) true nd (zC (dv 0) zj))
  (zm (zF (i:=4) true nd (w5 (zC (dv 3) zj) (zC (dv 2) zj)))
  (zm (zF (i:=5) true nd (w5 (vR (dv 4) (w5 (zC (dv 1) zj) (zC (dv 2) zj))) (vR (w5 (zC (dv 3) zj) (zC (dv 2) zj)) (w5 (zC (dv 1) zj) (zC (dv 2) zj)))))
  (zu (z8 (T_ (ky (dv 4) zj) (dv 5) (xB (dv 5)))))))),hm,F.kp,kr F "stretch" "peg" fun _ _ _ _ _ _ _ _=>rfl⟩ j_
theorem qz (F:Fun K "goes_through_peg" "goes_through_peg" xo f fd) (hm:mg "goes_through_peg" = some (.ref f)) (c_p_crossed:uM P w K mg base k) (c_p_side_of:uL P w K mg base k) (b_any:mg "any" = none):xu P w K mg base (k+1):=by
 have nd:=(vW).nd
 exact Cal.imp (m:=zX 4 yr) ⟨f,fd,yT (N:=["board","stretch","x","heights"]) F vW fun cdv A outer s G H E hr=>
  zm (w4 saO (yC (rk c_p_crossed hr (dv 0) (dv 1))) (sU rfl (yf (i:=2) nd (yf (i:=3) nd (uo))))
  (zu (yR (wJ (yt (X0 rfl) Rv b_any boot_any (mS (vg (cap:=[1,2]) (own:=["y"]) ⟨rfl,by decide +kernel,by decide +kernel,rfl,rfl⟩ (yC (dv 3)) (fun _ _ _=>yn (i:=2) (show(["stretch","x","y"]:List Str).Nodup from by decide +kernel)) (yU 2) (fun _ _ _=>sG) (fun _ _ _=>YI (wU hr) (rk c_p_side_of hr (dv 0) (xA (zG (dv 1) (zG (dv 2) z0)))) zj)))))
  (zu (z8 bY))
  z_)))
  (zu (z8 bY)),hm,F.kp,kr F "board" "stretch" fun _ _ _ _ _ _ _ _=>rfl⟩ rB
theorem rL (F:Fun K "refuse_stretches" "refuse_stretches" yN f fd) (hm:mg "refuse_stretches" = some (.ref f)) (hk:2≤k) {cR:Addr} (Z:InitCls P w K mg base 1 "NoRope" cR) (b_enumerate:mg "enumerate" = none) (c_p_stretches:vc P w K mg base k) (c_p_goes_through_peg:xu P w K mg base k):CalR2 P w K mg base (k+1) "refuse_stretches" ["board","rope"] xt:=by
 have nd:=(xh).nd
 exact⟨f,fd,qo (N:=["board","rope","place","stretch"]) (R:=Oc) F xh fun cdv A outer s G H E hr=>Z9 PassesOwn.leaving (jq b_enumerate (VR c_p_stretches hr (dv 1))) (sU rfl (yf (i:=2) nd (yf (i:=3) nd (uo)))) (zu (yR (wJ (rk c_p_goes_through_peg hr (dv 0) (dv 3)))
 (zu uF)
 z_)) (wC (m6 (wJ (rk c_p_goes_through_peg hr (dv 0) (dv 3))) (vv (jP Z (hr.mono (by lia)) (dv 2))))),hm,F.kp,kr F "board" "rope" fun _ _ _ _ _ _ _ _=>rfl⟩
theorem qy (F:Fun K "refuse_stretches" "refuse_stretches" yN f fd) (hm:mg "refuse_stretches" = some (.ref f)) (c_p_stretches:vc P w K mg base k) (c_p_goes_through_peg:xu P w K mg base k) (b_enumerate:mg "enumerate" = none):wO P w K mg base (k+1):=by
 have nd:=(xh).nd
 exact Cal.imp (m:=zX 4 yq) ⟨f,fd,yT (N:=["board","rope","place","stretch"]) F xh fun cdv A outer s G H E hr=>
  zu (w4 saO (jq b_enumerate (VR c_p_stretches hr (dv 1))) (sU rfl (yf (i:=2) nd (yf (i:=3) nd (uo))))
  (zu (yR (wJ (rk c_p_goes_through_peg hr (dv 0) (dv 3)))
  (zu uF)
  z_))),hm,F.kp,kr F "board" "rope" fun _ _ _ _ _ _ _ _=>rfl⟩ rA
theorem gF (F:Fun K "looked" "looked" tF f fd) (hm:mg "looked" = some (.ref f)) (hk:2≤k) {cR:Addr} (Z:InitCls P w K mg base 1 "NoRope" cR) (b_len:mg "len" = none) (r_p_lines:CalR2 P w K mg base k "lines" ["pegs"] ou) (c_p_lines:rQ P w K mg base k) (c_p_refuse_corners:x9 P w K mg base k) (r_p_refuse_corners:CalR2 P w K mg base k "refuse_corners" ["board","rope"] x6) (r_p_refuse_stretches:CalR2 P w K mg base k "refuse_stretches" ["board","rope"] xt):CalR2 P w K mg base (k+1) "looked" ["pegs","rope"] tV:=by
 have nd:=(sk).nd
 exact⟨f,fd,qo (N:=["pegs","rope","board"]) (R:=Of) F sk fun cdv A outer s G H E hr=>eR (wC (eM (uw r_p_lines hr (mS (dv 0)) (ya vf)))) (pC (zF (i:=2) true nd (VR c_p_lines hr (dv 0))) (eR (wC (m6 (tR (yt zZ wK b_len PySem.boot_len (mS (dv 1))) zj) (vv (jP Z (hr.mono (by lia)) zj)))) (pC (yR (tR (yt zZ wK b_len PySem.boot_len (mS (dv 1))) zj)
 (zu uF)
 z_) (eR (wC (pz (uw r_p_refuse_corners hr (Wb (dv 2) (dv 1)) (ya (ya vf))))) (pC (oi (rk c_p_refuse_corners hr (dv 2) (dv 1))) (wC (pz (uw r_p_refuse_stretches hr (Wb (dv 2) (dv 1)) (ya (ya vf)))))))))),hm,F.kp,kr F "pegs" "rope" fun _ _ _ _ _ _ _ _=>rfl⟩
theorem d_ (F:Fun K "looked" "looked" tF f fd) (hm:mg "looked" = some (.ref f)) (c_p_lines:rQ P w K mg base k) (c_p_refuse_corners:x9 P w K mg base k) (c_p_refuse_stretches:wO P w K mg base k) (b_len:mg "len" = none):nL P w K mg base (k+1):=by
 have nd:=(sk).nd
 exact Cal.imp (m:=zX 3 qq) ⟨f,fd,yT (N:=["pegs","rope","board"]) F sk fun cdv A outer s G H E hr=>
  zm (zF (i:=2) true nd (VR c_p_lines hr (dv 0)))
  (zm (yR (tR (yt zZ wK b_len PySem.boot_len (mS (dv 1))) zj)
  (zu uF)
  z_)
  (zm (oi (rk c_p_refuse_corners hr (dv 2) (dv 1)))
  (zu (oi (rk c_p_refuse_stretches hr (dv 2) (dv 1)))))),hm,F.kp,kr F "pegs" "rope" fun _ _ _ _ _ _ _ _=>rfl⟩ gq
theorem gJ (F:Fun K "gate_of" "gate_of" sv f fd) (hm:mg "gate_of" = some (.ref f)) (c_p_side_of:uL P w K mg base k) (b_min:mg "min" = none) (b_max:mg "max" = none):p0 P w K mg base (k+1):=by
 have nd:=(nU).nd
 exact Cal.imp (m:=zX 6 vz) ⟨f,fd,yT (N:=["line","stretch","x","below","above","way"]) F nU fun cdv A outer s G H E hr=>
  zm (zF (i:=2) true nd (zC (dv 0) zj))
  (zm ((by first|exact mz (i:=3) true nd (cap:=[1,2]) (own:=["y"]) ⟨rfl,by decide +kernel,by decide +kernel,rfl,rfl⟩ (yC (zC (dv 0) zj)) (fun _ _ _=>yn (i:=2) (show(["stretch","x","y"]:List Str).Nodup from by decide +kernel)) (yU 2) (fun _ _ _=>u7 (tR (rk c_p_side_of hr (dv 0) (xA (zG (dv 1) (zG (dv 2) z0)))) zj)) (fun _ _ _=>dv 2)|exact zF (i:=3) true nd (vg (cap:=[1,2]) (own:=["y"]) ⟨rfl,by decide +kernel,by decide +kernel,rfl,rfl⟩ (yC (zC (dv 0) zj)) (fun _ _ _=>yn (i:=2) (show(["stretch","x","y"]:List Str).Nodup from by decide +kernel)) (yU 2) (fun _ _ _=>u7 (tR (rk c_p_side_of hr (dv 0) (xA (zG (dv 1) (zG (dv 2) z0)))) zj)) (fun _ _ _=>dv 2))))
  (zm ((by first|exact mz (i:=4) true nd (cap:=[1,2]) (own:=["y"]) ⟨rfl,by decide +kernel,by decide +kernel,rfl,rfl⟩ (yC (zC (dv 0) zj)) (fun _ _ _=>yn (i:=2) (show(["stretch","x","y"]:List Str).Nodup from by decide +kernel)) (yU 2) (fun _ _ _=>u7 (ky (rk c_p_side_of hr (dv 0) (xA (zG (dv 1) (zG (dv 2) z0)))) zj)) (fun _ _ _=>dv 2)|exact zF (i:=4) true nd (vg (cap:=[1,2]) (own:=["y"]) ⟨rfl,by decide +kernel,by decide +kernel,rfl,rfl⟩ (yC (zC (dv 0) zj)) (fun _ _ _=>yn (i:=2) (show(["stretch","x","y"]:List Str).Nodup from by decide +kernel)) (yU 2) (fun _ _ _=>u7 (ky (rk c_p_side_of hr (dv 0) (xA (zG (dv 1) (zG (dv 2) z0)))) zj)) (fun _ _ _=>dv 2))))
  (zm (zF (i:=5) true nd (T_ (tR (zC (zC (dv 1) zj) zj) (dv 2)) zj (xB zj)))
  (zu (z8 (xA (zG (dv 2) (zG (Rr (dv 3) b_max) (zG (Rq (dv 4) b_min) (zG (dv 5) z0)))))))))),hm,F.kp,kr F "line" "stretch" fun _ _ _ _ _ _ _ _=>rfl⟩ ij
theorem gC (F:Fun K "row_of" "row_of" tu f fd) (hm:mg "row_of" = some (.ref f)) (hk:2≤k) {cR:Addr} (Z:InitCls P w K mg base 1 "NoRope" cR) (r_p_looked:CalR2 P w K mg base k "looked" ["pegs","rope"] tV):CalR2 P w K mg base (k+1) "row_of" ["pegs","rope"] xH:=by
 have nd:=(si).nd;exact⟨f,fd,qo (N:=["pegs","rope","board","row","stretch"]) (R:=Od) F si fun cdv A outer s G H E hr=>wC (pz (uw r_p_looked hr (Wb (dv 0) (dv 1)) (ya (ya vf)))),hm,F.kp,kr F "pegs" "rope" fun _ _ _ _ _ _ _ _=>rfl⟩
theorem dZ (F:Fun K "row_of" "row_of" tu f fd) (hm:mg "row_of" = some (.ref f)) (c_p_looked:nL P w K mg base k) (c_p_lines:rQ P w K mg base k) (c_p_stretches:vc P w K mg base k) (c_p_crossed:uM P w K mg base k) (c_p_gate_of:p0 P w K mg base k)  : tZ P w K mg base (k+1):=by
 have nd:=(si).nd
 exact Cal.imp (m:=zX 5 v9) ⟨f,fd,yT (N:=["pegs","rope","board","row","stretch"]) F si fun cdv A outer s G H E hr=>
  zm (oi (rk c_p_looked hr (dv 0) (dv 1)))
  (zm (zF (i:=2) true nd (VR c_p_lines hr (dv 0)))
  (zm (zF (i:=3) false nd (xC z0))
  (zm (w4 saO (yC (VR c_p_stretches hr (dv 1))) (yn (i:=4) nd)
  (zu (lJ (pv 3) (vg (cap:=[4]) (own:=["line"]) ⟨rfl,by decide +kernel,by decide +kernel,rfl,rfl⟩ (yC (rk c_p_crossed hr (dv 2) (dv 4))) (fun _ _ _=>yn (i:=1) (show(["stretch","line"]:List Str).Nodup from by decide +kernel)) (yU 1) (fun _ _ _=>sG) (fun _ _ _=>rk c_p_gate_of hr (dv 1) (dv 0))))))
  (zu (z8 (dv 3)))))),hm,F.kp,kr F "pegs" "rope" fun _ _ _ _ _ _ _ _=>rfl⟩ gh
theorem lL (F:Fun K "unrepeated" "unrepeated" vG f fd) (hm:mg "unrepeated" = some (.ref f))   : tW P w K mg base (k+1):=by
 have nd:=(qI).nd
 exact Cal.imp (m:=zX 3 wD) ⟨f,fd,yT (N:=["pegs","kept","peg"]) F qI fun cdv A outer s G H E hr=>
  zm (zF (i:=1) false nd (xC z0))
  (zm (w4 saO (yC (dv 0)) (yn (i:=2) nd)
  (zu (yR (lI (T9 (dP (wJ (dv 1))) (VN (kx (wU hr) (zC (dv 1) (xB zj)) (dv 2)))))
  (zu (wV (pv 1) (dv 2)))
  z_)))
  (zu (z8 (dv 1)))),hm,F.kp,Re F "pegs" fun _ _ _ _ _ _ _=>rfl⟩ n_
theorem lO (F:Fun K "lies_below" "lies_below" vJ f fd) (hm:mg "lies_below" = some (.ref f))   : t4 P w K mg base (k+1):=by
 have nd:=(qL).nd
 exact Cal.imp (m:=zX 2 wH) ⟨f,fd,yT (N:=["gate","later"]) F qL fun cdv A outer s G H E hr=>
  zu (z8 (nC (dR (zC (dv 0) zj) qr) (nC (dR (zC (dv 1) zj) qr) (iM (QE (zC (dv 0) zj) (zC (dv 1) zj)))))),hm,F.kp,kr F "gate" "later" fun _ _ _ _ _ _ _ _=>rfl⟩ me
theorem nE (F:Fun K "turning_pegs" "turning_pegs" wQ f fd) (hm:mg "turning_pegs" = some (.ref f)) (c_p_lies_below:t4 P w K mg base k)  : ud P w K mg base (k+1):=by
 have nd:=(sh).nd
 exact Cal.imp (m:=zX 3 xS) ⟨f,fd,yT (N:=["gate","later","x"]) F sh fun cdv A outer s G H E hr=>
  zm (zF (i:=2) true nd (zC (dv 0) zj))
  (zm (yR (wJ (rk c_p_lies_below hr (dv 0) (dv 1)))
  (zu (z8 (xA (zG (xA (zG (dv 2) (zG (zC (dv 0) zj) z0))) (zG (xA (zG (dv 2) (zG (zC (dv 1) zj) z0))) z0)))))
  z_)
  (zu (z8 (xA (zG (xA (zG (dv 2) (zG (zC (dv 0) zj) z0))) (zG (xA (zG (dv 2) (zG (zC (dv 1) zj) z0))) z0)))))),hm,F.kp,kr F "gate" "later" fun _ _ _ _ _ _ _ _=>rfl⟩ oz
theorem mH (F:Fun K "pegs_beyond" "pegs_beyond" ve f fd) (hm:mg "pegs_beyond" = some (.ref f)) (c_p_side_of:uL P w K mg base k)  : uT P w K mg base (k+1):=by
 have nd:=(rp).nd
 exact Cal.imp (m:=zX 5 wd) ⟨f,fd,yT (N:=["stretch","gate","told","low","high"]) F rp fun cdv A outer s G H E hr=>
  zm (zF (i:=2) false nd (xC z0))
  (zm (yR (dO (zC (dv 1) zj) qr)
  (zm (zF (i:=3) true nd (xA (zG (zC (dv 1) zj) (zG (zC (dv 1) zj) z0))))
  (zu (wV (pv 2) (xA (zG (rk c_p_side_of hr (dv 0) (dv 3)) (zG (dv 3) z0))))))
  z_)
  (zm (yR (dO (zC (dv 1) zj) qr)
  (zm (zF (i:=4) true nd (xA (zG (zC (dv 1) zj) (zG (zC (dv 1) zj) z0))))
  (zu (wV (pv 2) (xA (zG (xB (rk c_p_side_of hr (dv 0) (dv 4))) (zG (dv 4) z0))))))
  z_)
  (zu (z8 (dv 2))))),hm,F.kp,kr F "stretch" "gate" fun _ _ _ _ _ _ _ _=>rfl⟩ o7
theorem qX (F:Fun K "farthest_beyond" "farthest_beyond" xK f fd) (hm:mg "farthest_beyond" = some (.ref f)) (c_p_crossed:uM P w K mg base k) (c_p_pegs_beyond:uT P w K mg base k)  : w6 P w K mg base (k+1):=by
 have nd:=(uu).nd
 exact Cal.imp (m:=zX 7 yZ) ⟨f,fd,yT (N:=["stretch","run","farthest","most","gate","beyond","peg"]) F uu fun cdv A outer s G H E hr=>
  zm (zF (i:=2) true nd qr)
  (zm (zF (i:=3) true nd zj)
  (zm (w4 saO (yC (rk c_p_crossed hr (dv 1) (dv 0))) (yn (i:=4) nd)
  (zu (w4 saO (yC (rk c_p_pegs_beyond hr (dv 0) (dv 4))) (sU rfl (yf (i:=5) nd (yf (i:=6) nd (uo))))
  (zu (yR (ky (dv 5) (dv 3))
  (zm (zF (i:=2) true nd (dv 6))
  (zu (zF (i:=3) true nd (dv 5))))
  z_)))))
  (zu (z8 (dv 2))))),hm,F.kp,kr F "stretch" "run" fun _ _ _ _ _ _ _ _=>rfl⟩ qd
theorem lN (F:Fun K "run_pulled" "run_pulled" vI f fd) (hm:mg "run_pulled" = some (.ref f)) (c_p_farthest_beyond:w6 P w K mg base k)  : tY P w K mg base (k+1):=by
 have nd:=(qK).nd
 exact Cal.imp (m:=zX 6 wG) ⟨f,fd,yT (N:=["start","run","goal","reached","goals","peg"]) F qK fun cdv A outer s G H E hr=>
  zm (zF (i:=3) false nd (xC (zG (dv 0) z0)))
  (zm (zF (i:=4) false nd (xC (zG (dv 2) z0)))
  (zm (bX 100 saO (wJ (dv 4))
  (zm (zF (i:=5) true nd (rk c_p_farthest_beyond hr (xA (zG (zC (dv 3) (xB zj)) (zG (zC (dv 4) (xB zj)) z0))) (dv 1)))
  (zu (yR (Rk (dv 5) qr)
  (zu (XQ (pv 3) (pv 4)))
  (zu (wV (pv 4) (dv 5)))))))
  (zu (z8 (uG (dv 3) (xi zj) (xM)))))),hm,F.kp,T7 F "start" "run" "goal" fun _ _ _ _ _ _ _ _ _=>rfl⟩ md
theorem gG (F:Fun K "touched" "touched" sq f fd) (hm:mg "touched" = some (.ref f)) (c_p_turning_pegs:ud P w K mg base k) (c_p_run_pulled:tY P w K mg base k)  : pZ P w K mg base (k+1):=by
 have nd:=(nS).nd
 exact Cal.imp (m:=zX 7 uA) ⟨f,fd,yT (N:=["start","row","end","spots","run","gate","turn"]) F nS fun cdv A outer s G H E hr=>
  zm (zF (i:=3) false nd (xC (zG (dv 0) z0)))
  (zm (zF (i:=4) false nd (xC z0))
  (zm (w4 saO (yC (dv 1)) (yn (i:=5) nd)
  (zm (yR (lI (tQ (wJ (dv 4)) (vP (kx (wU hr) (zC (zC (dv 4) (xB zj)) zj) (zC (dv 5) zj)))))
  (zm (zF (i:=6) true nd (rk c_p_turning_pegs hr (zC (dv 4) (xB zj)) (dv 5)))
  (zm (lJ (pv 3) (Wa c_p_run_pulled hr (zC (dv 3) (xB zj)) (dv 4) (zC (dv 6) zj)))
  (zm (wV (pv 3) (zC (dv 6) zj))
  (zu (zF (i:=4) false nd (xC z0))))))
  z_)
  (zu (wV (pv 4) (dv 5)))))
  (zm (lJ (pv 3) (Wa c_p_run_pulled hr (zC (dv 3) (xB zj)) (dv 4) (dv 2)))
  (zu (z8 (uG (dv 3) (xi zj) (xi (xB zj)))))))),hm,F.kp,T7 F "start" "row" "end" fun _ _ _ _ _ _ _ _ _=>rfl⟩ j9
theorem mG (F:Fun K "straight_on" "straight_on" vd f fd) (hm:mg "straight_on" = some (.ref f))   : uS P w K mg base (k+1):=by
 have nd:=(ro).nd
 exact Cal.imp (m:=zX 7 wc) ⟨f,fd,yT (N:=["one","middle","other","across","up","next_across","next_up"]) F ro fun cdv A outer s G H E hr=>
  zm (zF (i:=3) true nd (w5 (zC (dv 1) zj) (zC (dv 0) zj)))
  (zm (zF (i:=4) true nd (w5 (zC (dv 1) zj) (zC (dv 0) zj)))
  (zm (zF (i:=5) true nd (w5 (zC (dv 2) zj) (zC (dv 1) zj)))
  (zm (zF (i:=6) true nd (w5 (zC (dv 2) zj) (zC (dv 1) zj)))
  (zu (z8 (nC (YI (wU hr) (vR (dv 3) (dv 6)) (vR (dv 4) (dv 5))) (iM (QG (xD (vR (dv 3) (dv 5)) (vR (dv 4) (dv 6))) zj)))))))),hm,F.kp,T7 F "one" "middle" "other" fun _ _ _ _ _ _ _ _ _=>rfl⟩ o6
theorem d9 (F:Fun K "pulled" "pulled" rY f fd) (hm:mg "pulled" = some (.ref f)) (c_p_unrepeated:tW P w K mg base k) (c_p_touched:pZ P w K mg base k) (c_p_straight_on:uS P w K mg base k) (b_zip:mg "zip" = none):nK P w K mg base (k+1):=by
 have nd:=(kg).nd
 exact Cal.imp (m:=zX 5 tP) ⟨f,fd,yT (N:=["start","row","end","way","bends"]) F kg fun cdv A outer s G H E hr=>
  zm (zF (i:=3) true nd (xD (xD (xC (zG (dv 0) z0)) (VR c_p_unrepeated hr (Wa c_p_touched hr (dv 0) (dv 1) (dv 2)))) (xC (zG (dv 2) z0))))
  (zm ((by first|exact mz (i:=4) true nd (cap:=[]) (own:=["one","middle","other"]) ⟨rfl,by decide +kernel,by decide +kernel,rfl,rfl⟩ (YE b_zip (dv 3) (uG (dv 3) (xi zj) (xM)) (uG (dv 3) (xi zj) (xM))) (fun _ _ _=>sU rfl (yf (i:=0) (show(["one","middle","other"]:List Str).Nodup from by decide +kernel) (yf (i:=1) (show(["one","middle","other"]:List Str).Nodup from by decide +kernel) (yf (i:=2) (show(["one","middle","other"]:List Str).Nodup from by decide +kernel) (uo))))) (iT [0,1,2]) (fun _ _ _=>u7 (dP (wJ (Wa c_p_straight_on hr (dv 0) (dv 1) (dv 2))))) (fun _ _ _=>dv 1)|exact zF (i:=4) true nd (vg (cap:=[]) (own:=["one","middle","other"]) ⟨rfl,by decide +kernel,by decide +kernel,rfl,rfl⟩ (YE b_zip (dv 3) (uG (dv 3) (xi zj) (xM)) (uG (dv 3) (xi zj) (xM))) (fun _ _ _=>sU rfl (yf (i:=0) (show(["one","middle","other"]:List Str).Nodup from by decide +kernel) (yf (i:=1) (show(["one","middle","other"]:List Str).Nodup from by decide +kernel) (yf (i:=2) (show(["one","middle","other"]:List Str).Nodup from by decide +kernel) (uo))))) (iT [0,1,2]) (fun _ _ _=>u7 (dP (wJ (Wa c_p_straight_on hr (dv 0) (dv 1) (dv 2))))) (fun _ _ _=>dv 1))))
  (zu (z8 (xD (xD (xC (zG (dv 0) z0)) (dv 4)) (xC (zG (dv 2) z0)))))),hm,F.kp,T7 F "start" "row" "end" fun _ _ _ _ _ _ _ _ _=>rfl⟩ gm
theorem b9 (F:Fun K "taut" "taut" pq f fd) (hm:mg "taut" = some (.ref f)) (hk:2≤k) {cR:Addr} (Z:InitCls P w K mg base 1 "NoRope" cR) (r_p_row_of:CalR2 P w K mg base k "row_of" ["pegs","rope"] xH) {fs:Addr} (ms:mg "shortened" = some (.ref fs)) (ks:PySem.W.keepIn K (.ref fs)=true):CalR2 P w K mg base (k+1) "taut" ["pegs","rope"] mJ:=by
 have nd:=(p7).nd;exact⟨f,fd,qo (N:=["pegs","rope","row"]) (R:=Ob) F p7 fun cdv A outer s G H E hr=>wC (eM (Y9 ms ks (Y_ (uw r_p_row_of hr (Wb (dv 0) (dv 1)) (ya (ya vf)))))),hm,F.kp,kr F "pegs" "rope" fun _ _ _ _ _ _ _ _=>rfl⟩
theorem ZF (F:Fun K "taut" "taut" pq f fd) (hm:mg "taut" = some (.ref f)) (c_p_shortened:s_ P w K mg base k) (c_p_row_of:tZ P w K mg base k) (c_p_pulled:nK P w K mg base k)  : i9 P w K mg base (k+1):=by
 have nd:=(p7).nd
 exact Cal.imp (m:=zX 3 pJ) ⟨f,fd,yT (N:=["pegs","rope","row"]) F p7 fun cdv A outer s G H E hr=>
  zm (zF (i:=2) true nd (VR c_p_shortened hr (rk c_p_row_of hr (dv 0) (dv 1))))
  (zu (z8 (Wa c_p_pulled hr (zC (dv 1) zj) (dv 2) (zC (dv 1) (xB zj))))),hm,F.kp,kr F "pegs" "rope" fun _ _ _ _ _ _ _ _=>rfl⟩ br
theorem lP (F:Fun K "lies_above" "lies_above" vK f fd) (hm:mg "lies_above" = some (.ref f))   : t7 P w K mg base (k+1):=by
 have nd:=(qM).nd
 exact Cal.imp (m:=zX 2 wI) ⟨f,fd,yT (N:=["gate","peg"]) F qM fun cdv A outer s G H E hr=>
  zu (z8 (nC (YI (wU hr) (zC (dv 0) zj) (zC (dv 1) zj)) (nC (dR (zC (dv 0) zj) qr) (iM (QH (zC (dv 0) zj) (zC (dv 1) zj)))))),hm,F.kp,kr F "gate" "peg" fun _ _ _ _ _ _ _ _=>rfl⟩ mf
theorem kW (F:Fun K "rounds_of" "rounds_of" uj f fd) (hm:mg "rounds_of" = some (.ref f)) (c_p_lies_above:t7 P w K mg base k) (b_sum:mg "sum" = none):rf P w K mg base (k+1):=by
 have nd:=(ph).nd
 exact Cal.imp (m:=zX 2 w_) ⟨f,fd,yT (N:=["peg","row"]) F ph fun cdv A outer s G H E hr=>
  zu (z8 (yt (VW rfl) Ru b_sum boot_sum (mS (vg (cap:=[0]) (own:=["gate"]) ⟨rfl,by decide +kernel,by decide +kernel,rfl,rfl⟩ (yC (dv 1)) (fun _ _ _=>yn (i:=1) (show(["peg","gate"]:List Str).Nodup from by decide +kernel)) (yU 1) (fun _ _ _=>u7 (wJ (rk c_p_lies_above hr (dv 1) (dv 0)))) (fun _ _ _=>xB (zC (dv 1) zj)))))),hm,F.kp,kr F "peg" "row" fun _ _ _ _ _ _ _ _=>rfl⟩ lq
theorem gE (F:Fun K "rounds" "rounds" tD f fd) (hm:mg "rounds" = some (.ref f)) (hk:2≤k) {cR:Addr} (Z:InitCls P w K mg base 1 "NoRope" cR) (c_p_row_of:tZ P w K mg base k) (r_p_row_of:CalR2 P w K mg base k "row_of" ["pegs","rope"] xH) {cE:Addr} (hE:mg "NoEnds" = some (.ref cE)) (qE:PySem.W.excIn K cE oO "ValueError.__new__" = true):CalR2 P w K mg base (k+1) "rounds" ["pegs","rope"] tU:=by
 have nd:=(sj).nd;exact⟨f,fd,qo (N:=["pegs","rope","row"]) (R:=Og) F sj fun cdv A outer s G H E hr=>eR (wC (eM (uw r_p_row_of hr (Wb (dv 0) (dv 1)) (ya (ya vf))))) (pC (zF (i:=2) true nd (rk c_p_row_of hr (dv 0) (dv 1))) (wC (m6 (kx (wU hr) (zC (dv 1) zj) (zC (dv 1) (xB zj))) (vv (fq hE qE))))),hm,F.kp,kr F "pegs" "rope" fun _ _ _ _ _ _ _ _=>rfl⟩
theorem d8 (F:Fun K "rounds" "rounds" tD f fd) (hm:mg "rounds" = some (.ref f)) (c_p_row_of:tZ P w K mg base k) (c_p_rounds_of:rf P w K mg base k)  : nJ P w K mg base (k+1):=by
 have nd:=(sj).nd
 exact Cal.imp (m:=zX 3 tN) ⟨f,fd,yT (N:=["pegs","rope","row"]) F sj fun cdv A outer s G H E hr=>
  zm (zF (i:=2) true nd (rk c_p_row_of hr (dv 0) (dv 1)))
  (zm (yR (kx (wU hr) (zC (dv 1) zj) (zC (dv 1) (xB zj)))
  (zu uF)
  z_)
  (zu (z8 (vg (cap:=[2]) (own:=["peg"]) ⟨rfl,by decide +kernel,by decide +kernel,rfl,rfl⟩ (yC (dv 0)) (fun _ _ _=>yn (i:=1) (show(["row","peg"]:List Str).Nodup from by decide +kernel)) (yU 1) (fun _ _ _=>sG) (fun _ _ _=>rk c_p_rounds_of hr (dv 1) (dv 0)))))),hm,F.kp,kr F "pegs" "rope" fun _ _ _ _ _ _ _ _=>rfl⟩ gk
theorem ZH (F:Fun K "_law_caught" "_law_caught" nW f fd) (hm:mg "_law_caught" = some (.ref f)) (c_p_taut:i9 P w K mg base k) (c_p_rounds:nJ P w K mg base k) (r_p_taut:CalR2 P w K mg base k "taut" ["pegs","rope"] mJ) (r_p_rounds:CalR2 P w K mg base k "rounds" ["pegs","rope"] tU) {cB:Addr} (hB:mg "RopeError" = some (.ref cB)) (hx:∀c∈(["NoPegs","NoRope","NoEnds"]:List Str),∀C,mg c=some (.ref C)→PySem.W.exmOne K (.ref C) (.ref cB)=some true):i_ P w K mg base (k+1):=by
 have nd:=(fm).nd
 exact⟨f,fd,Zt (N:=["_law_way","_law_pegs_here","_law_rope_here","_law_caught_here","e"]) (n:=3) (fb:=RM) (R':=Oa) (cs:=["NoPegs","NoRope","NoEnds"]) F fm rfl rfl (fun cdv A outer s G H E hr=>
  w8 (sP (i:=3) nd rfl (Or.inl rfl) eW)
  (w8 (UK (j:=4) (cs:=["NoPegs","NoRope","NoEnds"]) (fun E=>zu (yR (qQ (wU hr) (dv 0) zj)
 (zu (oi (rk c_p_taut hr (dv 1) (dv 2))))
 (zu (oi (rk c_p_rounds hr (dv 1) (dv 2)))))) (fun E=>vv (Ss (m6 (qQ (wU hr) (dv 0) zj) (vv (pz (uw r_p_taut hr (Wb (dv 1) (dv 2)) (ya (ya vf)))))) (UD (qQ (wU hr) (dv 0) zj) (vv (pz (uw r_p_rounds hr (Wb (dv 1) (dv 2)) (ya (ya vf))))))))
   (fun e=>xp (sP (i:=3) nd rfl (Or.inl rfl) (pv 4))) hB hx nd rfl rfl)
  (xp (oW (pv 3))))) (fun ds hl h=>h) (fun ds c hl h=>h),hm,F.kp,T7 F "_law_way" "_law_pegs_here" "_law_rope_here" fun _ _ _ _ _ _ _ _ _=>rfl⟩
theorem X1 (F:Fun K "_law_whole" "_law_whole" k_ f fd) (hm:mg "_law_whole" = some (.ref f))  (b_isinstance:mg "isinstance" = none) (b_int:mg "int" = none) (b_bool:mg "bool" = none):cy P w K mg base (k+1):=by
 have nd:=(cT).nd
 exact Cal.imp (m:=zX 1 dE) ⟨f,fd,yT (N:=["_law_found"]) F cT fun cdv A outer s G H E hr=>
  zu (z8 (nC (VQ Tb (dv 0) b_isinstance b_int boot_int) (iM (Ro (VQ Vu (dv 0) b_isinstance b_bool boot_bool))))),hm,F.kp,Re F "_law_found" fun _ _ _ _ _ _ _=>rfl⟩ aW
theorem kX:bootBuiltins "ValueError" = some (.type "ValueError"):=by decide +kernel
theorem X2 (F:Fun K "_law_named" "_law_named" ja f fd) (hm:mg "_law_named" = some (.ref f)) (c_whole:cy P w K mg base k) (b_isinstance:mg "isinstance" = none) (b_ValueError:mg "ValueError" = none) {cP cR cE:Addr} (Z:Three K mg cP cR cE):cz P w K mg base (k+1):=by
 have nd:=(cU).nd
 exact⟨f,fd,VF (N:=["_law_caught_here","_law_name","_law_place","_law_kinds"]) (nw:=jj) F cU rfl rfl Z (fun n=>rfl) (fun cdv A outer s H E hr=>
  w8 (jV (PW.pt (TX (eV aV (pv 0) eW (xx _)) (WU (aK (WX (ux qx rfl b_isinstance boot_isinstance (zM (pv 0) (zM (Yc rfl b_ValueError kX rfl) yw)))))))) (xp (oW Yd)) jd)
  (w8 (sP (i:=3) nd rfl (Or.inl rfl) (eX (zM (ux qx rfl b_isinstance boot_isinstance (zM (pv 0) (zM (eY rfl Z.mP rfl) yw))) (zM (ux qx rfl b_isinstance boot_isinstance (zM (pv 0) (zM (eY rfl Z.mR rfl) yw))) (zM (ux qx rfl b_isinstance boot_isinstance (zM (pv 0) (zM (eY rfl Z.mE rfl) yw))) yw)))))
  (w8 (jV (eV (aU (wU hr)) (pv 3) (eX (zM (r_ Yj (pv 1) pE (xx _)) (zM (r_ Yj (pv 1) pE (xx _)) (zM (r_ Yj (pv 1) pE (xx _)) yw)))) (xx _)) (xp (oW Yd)) jd)
  (xp (oW (Qa (r_ Qe (pv 1) pE (xx _)) (aN (W9 (SH c_whole hr (zM (bo (pv 0) rfl) yw)) (aN (r_ Yj (bo (pv 0) rfl) (pv 2) (xx _))))))))))),hm,F.kp,T7 F "_law_caught_here" "_law_name" "_law_place" fun _ _ _ _ _ _ _ _ _=>rfl⟩
theorem SQ (F:Fun K "law" "law" jL f fd) (c_pegs:ZP P w K mg base k) (c_rope:ZO P w K mg base k) (c_mixed:mL P w K mg base k) (c_hit:au P w K mg base k) (c_spoiled:l0 P w K mg base k) (c_due:Ug P w K mg base k) (c_caught:i_ P w K mg base k) (c_named:cz P w K mg base k) (b_len:mg "len" = none) (b_set:mg "set" = none) (b_range:mg "range" = none) {cP cR cE:Addr} (Z:Three K mg cP cR cE):FnOk P w K mg base gP (k+1) f fd ["_law_script"] (Uh K (zX 11 iJ) 1):=by
 have nd:=(WH).nd
 exact yT (N:=["_law_script","_law_pegs_here","_law_rope_here","_law_number","_law_at","_law_more","_law_twice","_law_due_here","_law_way","_law_caught_here","_law_right"]) F WH fun cdv A outer s G H E hr=>
  zm (zF (i:=1) true nd (VR c_pegs hr (dv 0)))
  (zm (zF (i:=2) true nd (Pz c_rope hr (dv 0) zj (xD zj (yB (rk c_mixed hr (dv 0) zj) zj)) (dv 1)))
  (zm (yR (lI (tQ (qQ (wU hr) (yB (rk c_mixed hr (dv 0) zj) zj) zj) (vP (dP (wJ (Wa c_hit hr (zC (dv 2) (xB zj)) (zC (dv 2) zj) (dv 1)))))))
  (zu (zF (i:=2) true nd (xD (dv 2) (uG (dv 2) (xM) (xi zj)))))
  z_)
  (zm (zF (i:=2) true nd (Wa c_spoiled hr (dv 2) (dv 1) (rk c_mixed hr (dv 0) zj)))
  (zm (zF (i:=3) true nd (rk c_mixed hr (dv 0) zj))
  (zm (yR (lI (tQ (qQ (wU hr) (yB (dv 3) zj) zj) (vP (kx (wU hr) (dv 1) (xC z0)))))
  (zm (zF (i:=1) true nd (uG (dv 1) (xM) (xi zj)))
  (zm (zF (i:=4) true nd (yB (vS (dv 3) zj) (yt zZ wK b_len PySem.boot_len (mS (dv 1)))))
  (zm (zF (i:=5) true nd (zC (dv 1) (yB (vS (dv 3) zj) (yt zZ wK b_len PySem.boot_len (mS (dv 1))))))
  (zu (zF (i:=1) true nd (xD (xD (uG (dv 1) (xM) (xi (dv 4))) (xC (zG (dv 5) z0))) (uG (dv 1) (xi (dv 4)) (xM))))))))
  z_)
  (zm (zF (i:=6) true nd (QD (nA (wU hr) (dv 1) b_len b_set) (yt zZ wK b_len PySem.boot_len (mS (dv 1)))))
  (zm (zF (i:=7) true nd (rk c_due hr (dv 1) (dv 2)))
  (zm (w4 saO (tm b_range (mS zj)) (yn (i:=8) nd)
  (VO (i:=9) (j:=10) Z (fun env he=>match env,he with|[_,_,_,_,_,_,_,_,_,_,_],_=>⟨rfl,rfl,rfl,rfl⟩) (show 9<11 by decide) (show 10<11 by decide)
  (w8 (sP (i:=9) nd rfl (Or.inl rfl) (W8 c_caught rfl hr (qt (dv 8) (Wb (dv 1) (dv 2)))))
  (w8 (jV (wJ (dv 6)) (xp (sP (i:=10) nd rfl (Or.inl rfl) (eZ c_named hr (zM (pv 9) (zM pE (zM (aP) yw)))))) (xp (jV (dO (dv 7) qr) (xp (sP (i:=10) nd rfl (Or.inl rfl) (eZ c_named hr (zM (pv 9) (zM pE (zM (dv 7) yw)))))) (xp (jV (lI (tQ (qQ (wU hr) (dv 8) zj) (vP (kx (wU hr) (zC (dv 2) zj) (zC (dv 2) (xB zj)))))) (xp (sP (i:=10) nd rfl (Or.inl rfl) (eZ c_named hr (zM (pv 9) (zM pE (zM (aP) yw)))))) (xp (sP (i:=10) nd rfl (Or.inl rfl) (r_ aV (pv 9) eW (xx _)))))))))
  (xp (jV (aK (WX (pv 10))) (xp (oW Yd)) jd))))))
  (zu (z8 bY))))))))))
end
noncomputable abbrev A_ (K:Frag)(x:Str)(f:Addr):Prop:=PySem.W.nsIn K mainGlobals x=some (some (.ref f))
noncomputable abbrev L_ (K:Frag)(f:Addr)(x:Str)(s:Stmt)(oc kV dc pm cd ct:Value)(od an:Option Addr)(sl:Array (Option Value)):Prop:=K.lookup f=some ⟨oc,od,.func (PySem.W.fnOf x x (vQ s) (xq s) (zw s) .none kV dc pm an cd ct),sl⟩
noncomputable abbrev D_ (K:Frag)(cd:Value)(x:Str):Prop:=PySem.W.codeIn K cd x=true
noncomputable abbrev P_ (K:Frag)(f:Addr):Prop:=PySem.W.keepIn K (.ref f)=true
theorem RA {l:PySem.W.OpenLaw}{w:World}{K:Frag}{h:Heap}{mg:Str→Option Value}{fa f1 f2 f3 f4 f5 f6 f7 f8 f9 f10 f11 f12 f13 f14 f15 f16 f17 f18 f19 f20 f21 f22 f23 f24 f25 f26 f27 f28 f29 f30 f31 f32 f33 f34 f35 f36 uB uP uE uR uI:Addr}(X:K.In h)(G:h.Ns mainGlobals mg)(hfa:mg "law" = some (.ref fa))
 {od1 an1 od2 an2 od3 an3 od4 an4 od5 an5 od6 an6 od7 an7 od8 an8 od9 an9 od10 an10 od11 an11 od12 an12 od13 an13 od14 an14 od15 an15 od16 an16 od17 an17 od18 an18 od19 an19 od20 an20 od21 an21 od22 an22 od23 an23 od24 an24 od25 an25 od26 an26 od27 an27 od28 an28 od29 an29 od30 an30 od31 an31 od32 an32 od33 an33 od34 an34 od35 an35 od36 an36:Option Addr} {sl1 sl2 sl3 sl4 sl5 sl6 sl7 sl8 sl9 sl10 sl11 sl12 sl13 sl14 sl15 sl16 sl17 sl18 sl19 sl20 sl21 sl22 sl23 sl24 sl25 sl26 sl27 sl28 sl29 sl30 sl31 sl32 sl33 sl34 sl35 sl36:Array (Option Value)} {oc1 kV1 VR pm1 cd1 ct1 oc2 kV2 rk pm2 cd2 ct2 oc3 kV3 Wa pm3 cd3 ct3 oc4 kV4 Pz pm4 cd4 ct4 oc5 kV5 dc5 pm5 cd5 ct5 oc6 kV6 dc6 pm6 cd6 ct6 oc7 kV7 dc7 pm7 cd7 ct7 oc8 kV8 dc8 pm8 cd8 ct8 oc9 kV9 dc9 pm9 cd9 ct9 oc10 kV10 dc10 pm10 cd10 ct10 oc11 kV11 dc11 pm11 cd11 ct11 oc12 kV12 dc12 pm12 cd12 ct12 oc13 kV13 dc13 pm13 cd13 ct13 oc14 kV14 dc14 pm14 cd14 ct14 oc15 kV15 dc15 pm15 cd15 ct15 oc16 kV16 dc16 pm16 cd16 ct16 oc17 kV17 dc17 pm17 cd17 ct17 oc18 kV18 dc18 pm18 cd18 ct18 oc19 kV19 dc19 pm19 cd19 ct19 oc20 kV20 dc20 pm20 cd20 ct20 oc21 kV21 dc21 pm21 cd21 ct21 oc22 kV22 dc22 pm22 cd22 ct22 oc23 kV23 dc23 pm23 cd23 ct23 oc24 kV24 dc24 pm24 cd24 ct24 oc25 kV25 dc25 pm25 cd25 ct25 oc26 kV26 dc26 pm26 cd26 ct26 oc27 kV27 dc27 pm27 cd27 ct27 oc28 kV28 dc28 pm28 cd28 ct28 oc29 kV29 dc29 pm29 cd29 ct29 oc30 kV30 dc30 pm30 cd30 ct30 oc31 kV31 dc31 pm31 cd31 ct31 oc32 kV32 dc32 pm32 cd32 ct32 oc33 kV33 dc33 pm33 cd33 ct33 oc34 kV34 dc34 pm34 cd34 ct34 oc35 kV35 dc35 pm35 cd35 ct35 oc36 kV36 dc36 pm36 cd36 ct36:Value}
 (a1:A_ K "_law_block" f1) (l1:L_ K f1 "_law_block" jc oc1 kV1 VR pm1 cd1 ct1 od1 an1 sl1) (c1:D_ K cd1 "_law_block") (k1:P_ K f1)
 (a2:A_ K "_law_mixed" f2) (l2:L_ K f2 "_law_mixed" jb oc2 kV2 rk pm2 cd2 ct2 od2 an2 sl2) (c2:D_ K cd2 "_law_mixed") (k2:P_ K f2)
 (a3:A_ K "_law_pegs" f3) (l3:L_ K f3 "_law_pegs" eJ oc3 kV3 Wa pm3 cd3 ct3 od3 an3 sl3) (c3:D_ K cd3 "_law_pegs") (k3:P_ K f3)
 (a4:A_ K "_law_hit" f4) (l4:L_ K f4 "_law_hit" Z4 oc4 kV4 Pz pm4 cd4 ct4 od4 an4 sl4) (c4:D_ K cd4 "_law_hit") (k4:P_ K f4)
 (a5:A_ K "_law_rope" f5) (l5:L_ K f5 "_law_rope" eI oc5 kV5 dc5 pm5 cd5 ct5 od5 an5 sl5) (c5:D_ K cd5 "_law_rope") (k5:P_ K f5)
 (a6:A_ K "_law_spoiled" f6) (l6:L_ K f6 "_law_spoiled" p8 oc6 kV6 dc6 pm6 cd6 ct6 od6 an6 sl6) (c6:D_ K cd6 "_law_spoiled") (k6:P_ K f6)
 (a7:A_ K "_law_due" f7) (l7:L_ K f7 "_law_due" Z5 oc7 kV7 dc7 pm7 cd7 ct7 od7 an7 sl7) (c7:D_ K cd7 "_law_due") (k7:P_ K f7)
 (a8:A_ K "to_and_fro" f8) (l8:L_ K f8 "to_and_fro" vH oc8 kV8 dc8 pm8 cd8 ct8 od8 an8 sl8) (c8:D_ K cd8 "to_and_fro") (k8:P_ K f8)
 (a9:A_ K "shortened" f9) (l9:L_ K f9 "shortened" ui oc9 kV9 dc9 pm9 cd9 ct9 od9 an9 sl9) (c9:D_ K cd9 "shortened") (k9:P_ K f9)
 (a10:A_ K "lines" f10) (l10:L_ K f10 "lines" rq oc10 kV10 dc10 pm10 cd10 ct10 od10 an10 sl10) (c10:D_ K cd10 "lines") (k10:P_ K f10)
 (a11:A_ K "refuse_corners" f11) (l11:L_ K f11 "refuse_corners" xa oc11 kV11 dc11 pm11 cd11 ct11 od11 an11 sl11) (c11:D_ K cd11 "refuse_corners") (k11:P_ K f11)
 (a12:A_ K "stretches" f12) (l12:L_ K f12 "stretches" uh oc12 kV12 dc12 pm12 cd12 ct12 od12 an12 sl12) (c12:D_ K cd12 "stretches") (k12:P_ K f12)
 (a13:A_ K "crossed" f13) (l13:L_ K f13 "crossed" sy oc13 kV13 dc13 pm13 cd13 ct13 od13 an13 sl13) (c13:D_ K cd13 "crossed") (k13:P_ K f13)
 (a14:A_ K "side_of" f14) (l14:L_ K f14 "side_of" su oc14 kV14 dc14 pm14 cd14 ct14 od14 an14 sl14) (c14:D_ K cd14 "side_of") (k14:P_ K f14)
 (a15:A_ K "goes_through_peg" f15) (l15:L_ K f15 "goes_through_peg" xo oc15 kV15 dc15 pm15 cd15 ct15 od15 an15 sl15) (c15:D_ K cd15 "goes_through_peg") (k15:P_ K f15)
 (a16:A_ K "refuse_stretches" f16) (l16:L_ K f16 "refuse_stretches" yN oc16 kV16 dc16 pm16 cd16 ct16 od16 an16 sl16) (c16:D_ K cd16 "refuse_stretches") (k16:P_ K f16)
 (a17:A_ K "looked" f17) (l17:L_ K f17 "looked" tF oc17 kV17 dc17 pm17 cd17 ct17 od17 an17 sl17) (c17:D_ K cd17 "looked") (k17:P_ K f17)
 (a18:A_ K "gate_of" f18) (l18:L_ K f18 "gate_of" sv oc18 kV18 dc18 pm18 cd18 ct18 od18 an18 sl18) (c18:D_ K cd18 "gate_of") (k18:P_ K f18)
 (a19:A_ K "row_of" f19) (l19:L_ K f19 "row_of" tu oc19 kV19 dc19 pm19 cd19 ct19 od19 an19 sl19) (c19:D_ K cd19 "row_of") (k19:P_ K f19)
 (a20:A_ K "unrepeated" f20) (l20:L_ K f20 "unrepeated" vG oc20 kV20 dc20 pm20 cd20 ct20 od20 an20 sl20) (c20:D_ K cd20 "unrepeated") (k20:P_ K f20)
 (a21:A_ K "lies_below" f21) (l21:L_ K f21 "lies_below" vJ oc21 kV21 dc21 pm21 cd21 ct21 od21 an21 sl21) (c21:D_ K cd21 "lies_below") (k21:P_ K f21)
 (a22:A_ K "turning_pegs" f22) (l22:L_ K f22 "turning_pegs" wQ oc22 kV22 dc22 pm22 cd22 ct22 od22 an22 sl22) (c22:D_ K cd22 "turning_pegs") (k22:P_ K f22)
 (a23:A_ K "pegs_beyond" f23) (l23:L_ K f23 "pegs_beyond" ve oc23 kV23 dc23 pm23 cd23 ct23 od23 an23 sl23) (c23:D_ K cd23 "pegs_beyond") (k23:P_ K f23)
 (a24:A_ K "farthest_beyond" f24) (l24:L_ K f24 "farthest_beyond" xK oc24 kV24 dc24 pm24 cd24 ct24 od24 an24 sl24) (c24:D_ K cd24 "farthest_beyond") (k24:P_ K f24)
 (a25:A_ K "run_pulled" f25) (l25:L_ K f25 "run_pulled" vI oc25 kV25 dc25 pm25 cd25 ct25 od25 an25 sl25) (c25:D_ K cd25 "run_pulled") (k25:P_ K f25)
 (a26:A_ K "touched" f26) (l26:L_ K f26 "touched" sq oc26 kV26 dc26 pm26 cd26 ct26 od26 an26 sl26) (c26:D_ K cd26 "touched") (k26:P_ K f26)
 (a27:A_ K "straight_on" f27) (l27:L_ K f27 "straight_on" vd oc27 kV27 dc27 pm27 cd27 ct27 od27 an27 sl27) (c27:D_ K cd27 "straight_on") (k27:P_ K f27)
 (a28:A_ K "pulled" f28) (l28:L_ K f28 "pulled" rY oc28 kV28 dc28 pm28 cd28 ct28 od28 an28 sl28) (c28:D_ K cd28 "pulled") (k28:P_ K f28)
 (a29:A_ K "taut" f29) (l29:L_ K f29 "taut" pq oc29 kV29 dc29 pm29 cd29 ct29 od29 an29 sl29) (c29:D_ K cd29 "taut") (k29:P_ K f29)
 (a30:A_ K "lies_above" f30) (l30:L_ K f30 "lies_above" vK oc30 kV30 dc30 pm30 cd30 ct30 od30 an30 sl30) (c30:D_ K cd30 "lies_above") (k30:P_ K f30)
 (a31:A_ K "rounds_of" f31) (l31:L_ K f31 "rounds_of" uj oc31 kV31 dc31 pm31 cd31 ct31 od31 an31 sl31) (c31:D_ K cd31 "rounds_of") (k31:P_ K f31)
 (a32:A_ K "rounds" f32) (l32:L_ K f32 "rounds" tD oc32 kV32 dc32 pm32 cd32 ct32 od32 an32 sl32) (c32:D_ K cd32 "rounds") (k32:P_ K f32)
 (a33:A_ K "_law_caught" f33) (l33:L_ K f33 "_law_caught" nW oc33 kV33 dc33 pm33 cd33 ct33 od33 an33 sl33) (c33:D_ K cd33 "_law_caught") (k33:P_ K f33)
 (a34:A_ K "_law_whole" f34) (l34:L_ K f34 "_law_whole" k_ oc34 kV34 dc34 pm34 cd34 ct34 od34 an34 sl34) (c34:D_ K cd34 "_law_whole") (k34:P_ K f34)
 (a35:A_ K "_law_named" f35) (l35:L_ K f35 "_law_named" ja oc35 kV35 dc35 pm35 cd35 ct35 od35 an35 sl35) (c35:D_ K cd35 "_law_named") (k35:P_ K f35)
 (a36:A_ K "law" f36) (l36:L_ K f36 "law" jL oc36 kV36 dc36 pm36 cd36 ct36 od36 an36 sl36) (c36:D_ K cd36 "law") (k36:P_ K f36)
 (e_RopeError:A_ K "RopeError" uB)
 (e_NoPegs:A_ K "NoPegs" uP)
 (e_NoEnds:A_ K "NoEnds" uE)
 (e_NoRope:A_ K "NoRope" uR)
 (qB:PySem.W.excIn K uB [.type "ValueError",.type "Exception",.type "BaseException",.type "object"] "ValueError.__new__" = true)
 (xE:PySem.W.exmOne K (.ref uR) (.ref uB)=some true)
 {cd_uR:ClassData}
 (xcl_uR:PySem.W.clsIn K uR=some cd_uR)
 (xga_uR:PySem.W.findIn K (.ref uR) "__getattribute__" = some (some (.builtin "BaseException.__getattribute__")))
 (xgn_uR:PySem.W.findIn K (.ref uR) "__getattr__" = some none)
 (xca_uR:PySem.W.findIn K (.ref uR) "__class__" = some (some (.builtin "object.__class__")))
 (xcg_uR:PySem.W.specialIn K (.builtin "object.__class__") "__get__" = some (some (.builtin "getset_descriptor.__get__")))
 (xct_uR:PySem.W.takesIn K (.builtin "object.__class__")=some true)
 (xmo_uR:PySem.W.mroIn K uR (.type "object")=some true)
 (xmb_uR:PySem.W.mroIn K uR (.type "BaseException")=some true)
 {ddR:Option Addr} {nmR qnR:Str} {bsR:List Value} {nsR:Addr} {hdR abR:Bool} {snR:List Str} {subR:List Value} {colR:Option Bool} {k0R k1R k2R k3R k5R:Option Value}
 (ilR:K.lookup uR=some (excClassObj nmR qnR uR nsR bsR (.ref uB::oO) hdR snR subR abR colR ddR k0R k1R k2R k3R k5R "ValueError.__new__"))
 (ihd:PySem.W.hasDictIn K uR=true)
 (isa:PySem.W.findIn K (.ref uR) "__setattr__" = some (some (.builtin "object.__setattr__")))
 (ina:PySem.W.findIn K (.ref uR) "place" = some none)
 (ifi:PySem.W.findIn K (.ref uR) "__init__" = some (some (.ref uI)))
 {odI anI:Option Addr} {slI:Array (Option Value)} {kVI dcI pmI cdI ctI:Value}
 (ilI:K.lookup uI=some ⟨.type "function",odI,.func (PySem.W.fnOf "__init__" "NoRope.__init__" (vQ jM) (xq jM) (zw jM) .none kVI dcI pmI anI cdI ctI),slI⟩)
 (icI:PySem.W.codeIn K cdI "NoRope.__init__" = true)
 (ikI:PySem.W.keepIn K (.ref uI)=true)
 (qE:PySem.W.excIn K uE [.type "ValueError",.type "Exception",.type "BaseException",.type "object"] "ValueError.__new__" = true)
 (qP:PySem.W.excIn K uP [.type "ValueError",.type "Exception",.type "BaseException",.type "object"] "ValueError.__new__" = true)
 (xEE:PySem.W.exmOne K (.ref uE) (.ref uB)=some true)
 (xEP:PySem.W.exmOne K (.ref uP) (.ref uB)=some true)
 {cd_uE:ClassData}
 (xcl_uE:PySem.W.clsIn K uE=some cd_uE)
 (xga_uE:PySem.W.findIn K (.ref uE) "__getattribute__" = some (some (.builtin "BaseException.__getattribute__")))
 (xgn_uE:PySem.W.findIn K (.ref uE) "__getattr__" = some none)
 (xca_uE:PySem.W.findIn K (.ref uE) "__class__" = some (some (.builtin "object.__class__")))
 (xcg_uE:PySem.W.specialIn K (.builtin "object.__class__") "__get__" = some (some (.builtin "getset_descriptor.__get__")))
 (xct_uE:PySem.W.takesIn K (.builtin "object.__class__")=some true)
 (xmo_uE:PySem.W.mroIn K uE (.type "object")=some true)
 (xmb_uE:PySem.W.mroIn K uE (.type "BaseException")=some true)
 {cd_uP:ClassData}
 (xcl_uP:PySem.W.clsIn K uP=some cd_uP)
 (xga_uP:PySem.W.findIn K (.ref uP) "__getattribute__" = some (some (.builtin "BaseException.__getattribute__")))
 (xgn_uP:PySem.W.findIn K (.ref uP) "__getattr__" = some none)
 (xca_uP:PySem.W.findIn K (.ref uP) "__class__" = some (some (.builtin "object.__class__")))
 (xcg_uP:PySem.W.specialIn K (.builtin "object.__class__") "__get__" = some (some (.builtin "getset_descriptor.__get__")))
 (xct_uP:PySem.W.takesIn K (.builtin "object.__class__")=some true)
 (xmo_uP:PySem.W.mroIn K uP (.type "object")=some true)
 (xmb_uP:PySem.W.mroIn K uP (.type "BaseException")=some true)
 (kPP:PySem.W.kitOne K (.ref uP) (.ref uP)=some true)
 (kPR:PySem.W.kitOne K (.ref uP) (.ref uR)=some false)
 (kPE:PySem.W.kitOne K (.ref uP) (.ref uE)=some false)
 (kvP:PySem.W.kitOne K (.ref uP) (.type "ValueError")=some true)
 (kRP:PySem.W.kitOne K (.ref uR) (.ref uP)=some false)
 (kRR:PySem.W.kitOne K (.ref uR) (.ref uR)=some true)
 (kRE:PySem.W.kitOne K (.ref uR) (.ref uE)=some false)
 (kvR:PySem.W.kitOne K (.ref uR) (.type "ValueError")=some true)
 (kEP:PySem.W.kitOne K (.ref uE) (.ref uP)=some false)
 (kER:PySem.W.kitOne K (.ref uE) (.ref uR)=some false)
 (kEE:PySem.W.kitOne K (.ref uE) (.ref uE)=some true)
 (kvE:PySem.W.kitOne K (.ref uE) (.type "ValueError")=some true)
 (z_len:PySem.W.nsIn K mainGlobals "len" = some none)
 (z_range:PySem.W.nsIn K mainGlobals "range" = some none)
 (z_min:PySem.W.nsIn K mainGlobals "min" = some none)
 (z_set:PySem.W.nsIn K mainGlobals "set" = some none)
 (z_sorted:PySem.W.nsIn K mainGlobals "sorted" = some none)
 (z_list:PySem.W.nsIn K mainGlobals "list" = some none)
 (z_enumerate:PySem.W.nsIn K mainGlobals "enumerate" = some none)
 (z_zip:PySem.W.nsIn K mainGlobals "zip" = some none)
 (z_reversed:PySem.W.nsIn K mainGlobals "reversed" = some none)
 (z_any:PySem.W.nsIn K mainGlobals "any" = some none)
 (z_max:PySem.W.nsIn K mainGlobals "max" = some none)
 (z_sum:PySem.W.nsIn K mainGlobals "sum" = some none)
 (z_isinstance:PySem.W.nsIn K mainGlobals "isinstance" = some none)
 (z_int:PySem.W.nsIn K mainGlobals "int" = some none)
 (z_bool:PySem.W.nsIn K mainGlobals "bool" = some none)
 (z_ValueError:PySem.W.nsIn K mainGlobals "ValueError" = some none) :
 ∃fd:FuncData,(∀(s:Shared) (v:Value),BindsTo s fd ⟨[v],[]⟩ [("_law_script",v)])∧∀base:Heap,K.In base→base.Ns mainGlobals mg→FnOk l.prog w K mg base gP 9 fa fd ["_law_script"] (Uh K (zX 11 iJ) 1):=by
 have e:=hfa.symm.trans (sah X G a36);cases e;have b_len:=saN X G z_len;have b_range:=saN X G z_range;have b_min:=saN X G z_min;have b_set:=saN X G z_set;have b_sorted:=saN X G z_sorted;have b_list:=saN X G z_list;have b_enumerate:=saN X G z_enumerate;have b_zip:=saN X G z_zip;have b_reversed:=saN X G z_reversed;have b_any:=saN X G z_any;have b_max:=saN X G z_max;have b_sum:=saN X G z_sum;have b_isinstance:=saN X G z_isinstance;have b_int:=saN X G z_int;have b_bool:=saN X G z_bool;have b_ValueError:=saN X G z_ValueError;have F1:=yb (st:=jc) l1 c1 k1;have F2:=yb (st:=jb) l2 c2 k2;have F3:=yb (st:=eJ) l3 c3 k3;have F4:=yb (st:=Z4) l4 c4 k4;have F5:=yb (st:=eI) l5 c5 k5;have F6:=yb (st:=p8) l6 c6 k6;have F7:=yb (st:=Z5) l7 c7 k7;have F8:=yb (st:=vH) l8 c8 k8;have F9:=yb (st:=ui) l9 c9 k9;have F10:=yb (st:=rq) l10 c10 k10;have F11:=yb (st:=xa) l11 c11 k11;have F12:=yb (st:=uh) l12 c12 k12;have F13:=yb (st:=sy) l13 c13 k13;have F14:=yb (st:=su) l14 c14 k14;have F15:=yb (st:=xo) l15 c15 k15;have F16:=yb (st:=yN) l16 c16 k16;have F17:=yb (st:=tF) l17 c17 k17;have F18:=yb (st:=sv) l18 c18 k18;have F19:=yb (st:=tu) l19 c19 k19;have F20:=yb (st:=vG) l20 c20 k20;have F21:=yb (st:=vJ) l21 c21 k21;have F22:=yb (st:=wQ) l22 c22 k22;have F23:=yb (st:=ve) l23 c23 k23;have F24:=yb (st:=xK) l24 c24 k24;have F25:=yb (st:=vI) l25 c25 k25;have F26:=yb (st:=sq) l26 c26 k26;have F27:=yb (st:=vd) l27 c27 k27;have F28:=yb (st:=rY) l28 c28 k28;have F29:=yb (st:=pq) l29 c29 k29;have F30:=yb (st:=vK) l30 c30 k30;have F31:=yb (st:=uj) l31 c31 k31;have F32:=yb (st:=tD) l32 c32 k32;have F33:=yb (st:=nW) l33 c33 k33;have F34:=yb (st:=k_) l34 c34 k34;have F35:=yb (st:=ja) l35 c35 k35;have F36:=yb (st:=jL) l36 c36 k36;refine⟨PySem.W.fnOf "law" "law" (vQ jL) (xq jL) (zw jL) .none kV36 dc36 pm36 an36 cd36 ct36,fun s v=>.of_eq rfl,fun base _ _=>?run⟩
 case run=>
  have q_block:cA l.prog w K mg base 1:=X4 (k:=0) F1 (sah X G a1)  b_len b_range;have q_mixed:mL l.prog w K mg base 2:=X3 (k:=1) F2 (sah X G a2) (q_block.mono (by decide)) b_len b_min;have q_pegs:ZP l.prog w K mg base 3:=VZ (k:=2) F3 (sah X G a3) (q_mixed.mono (by decide)) b_range;have q_hit:au l.prog w K mg base 1:=Tw (k:=0) F4 (sah X G a4);have q_rope:ZO l.prog w K mg base 3:=VY (k:=2) F5 (sah X G a5) (q_mixed.mono (by decide)) (q_hit.mono (by decide)) b_range;have q_spoiled:l0 l.prog w K mg base 1:=aa (k:=0) F6 (sah X G a6)  b_len;have q_due:Ug l.prog w K mg base 2:=Tx (k:=1) F7 (sah X G a7) (q_hit.mono (by decide)) b_len b_range;have q_p_to_and_fro:tX l.prog w K mg base 1:=lM (k:=0) F8 (sah X G a8)
  have m_short:=(sah X G a9)
  have k_short:=(F9).kp;have q_p_shortened:s_ l.prog w K mg base 2:=kU (k:=1) F9 (sah X G a9) (q_p_to_and_fro.mono (by decide));have r_p_lines:=dX (P:=l.prog) (w:=w) (base:=base) (k:=0) F10 (sah X G a10) (sah X G e_NoPegs) qP b_len b_set;have q_p_lines:rQ l.prog w K mg base 1:=ae (k:=0) F10 (sah X G a10)  b_len b_set b_sorted b_list;have Zi:InitCls l.prog w K mg base 1 "NoRope" uR:=⟨sah X G e_NoRope,⟨⟨(by rw[xcl_uR];rfl),xga_uR,xgn_uR,xca_uR,xcg_uR,xct_uR,xmo_uR,xmb_uR⟩,ihd,isa,ina,⟨_,by unfold PySem.W.clsIn;rw[ilR],fun self=>by show refuseLoop self "__setattr__" (.ref uR::.ref uB::oO)=pure ();rw[refuseLoop_ref,refuseLoop_ref];exact PySem.F.store_ValueError.passes self⟩⟩,⟨uB,_,_,_,_,_,_,_,_,_,_,_,_,_,_,_,ilR,qB⟩,⟨uI,_,_,_,["self","place"],ifi,ilI,UU (yb ilI icI ikI),Fun.binds (ps:=["self","place"]) (yb ilI icI ikI) fun _ _ _ _ _ _ us hl=>match us,hl with|[_,_],_=>rfl⟩⟩
  have Z3:Three K mg uP uR uE:=⟨sah X G e_NoPegs,sah X G e_NoRope,sah X G e_NoEnds,Zi.lay,⟨⟨(by rw[xcl_uP];rfl),xga_uP,xgn_uP,xca_uP,xcg_uP,xct_uP,xmo_uP,xmb_uP⟩,kPP,kPR,kPE,kvP⟩,⟨Zi.lay.ex,kRP,kRR,kRE,kvR⟩,⟨⟨(by rw[xcl_uE];rfl),xga_uE,xgn_uE,xca_uE,xcg_uE,xct_uE,xmo_uE,xmb_uE⟩,kEP,kER,kEE,kvE⟩⟩
  have r_p_refuse_corners:=qW (P:=l.prog) (w:=w) (base:=base) (k:=2) F11 (sah X G a11) (by decide) Zi b_enumerate;have q_p_refuse_corners:x9 l.prog w K mg base 1:=pU (k:=0) F11 (sah X G a11)  b_enumerate;have q_p_stretches:vc l.prog w K mg base 1:=kT (k:=0) F12 (sah X G a12)  b_list b_zip;have q_p_crossed:uM l.prog w K mg base 1:=gK (k:=0) F13 (sah X G a13)  b_reversed;have q_p_side_of:uL l.prog w K mg base 1:=gH (k:=0) F14 (sah X G a14);have q_p_goes_through_peg:xu l.prog w K mg base 2:=qz (k:=1) F15 (sah X G a15) (q_p_crossed.mono (by decide)) (q_p_side_of.mono (by decide)) b_any;have r_p_refuse_stretches:=rL (P:=l.prog) (w:=w) (base:=base) (k:=2) F16 (sah X G a16) (by decide) Zi b_enumerate (q_p_stretches.mono (by decide)) (q_p_goes_through_peg.mono (by decide));have q_p_refuse_stretches:wO l.prog w K mg base 3:=qy (k:=2) F16 (sah X G a16) (q_p_stretches.mono (by decide)) (q_p_goes_through_peg.mono (by decide)) b_enumerate;have r_p_looked:=gF (P:=l.prog) (w:=w) (base:=base) (k:=3) F17 (sah X G a17) (by decide) Zi b_len (r_p_lines.mono (by decide)) (q_p_lines.mono (by decide)) (q_p_refuse_corners.mono (by decide)) (r_p_refuse_corners.mono (by decide)) (r_p_refuse_stretches.mono (by decide));have q_p_looked:nL l.prog w K mg base 4:=d_ (k:=3) F17 (sah X G a17) (q_p_lines.mono (by decide)) (q_p_refuse_corners.mono (by decide)) (q_p_refuse_stretches.mono (by decide)) b_len;have q_p_gate_of:p0 l.prog w K mg base 2:=gJ (k:=1) F18 (sah X G a18) (q_p_side_of.mono (by decide)) b_min b_max;have r_p_row_of:=gC (P:=l.prog) (w:=w) (base:=base) (k:=4) F19 (sah X G a19) (by decide) Zi (r_p_looked.mono (by decide));have q_p_row_of:tZ l.prog w K mg base 5:=dZ (k:=4) F19 (sah X G a19) (q_p_looked.mono (by decide)) (q_p_lines.mono (by decide)) (q_p_stretches.mono (by decide)) (q_p_crossed.mono (by decide)) (q_p_gate_of.mono (by decide));have q_p_unrepeated:tW l.prog w K mg base 1:=lL (k:=0) F20 (sah X G a20);have q_p_lies_below:t4 l.prog w K mg base 1:=lO (k:=0) F21 (sah X G a21);have q_p_turning_pegs:ud l.prog w K mg base 2:=nE (k:=1) F22 (sah X G a22) (q_p_lies_below.mono (by decide));have q_p_pegs_beyond:uT l.prog w K mg base 2:=mH (k:=1) F23 (sah X G a23) (q_p_side_of.mono (by decide));have q_p_farthest_beyond:w6 l.prog w K mg base 3:=qX (k:=2) F24 (sah X G a24) (q_p_crossed.mono (by decide)) (q_p_pegs_beyond.mono (by decide));have q_p_run_pulled:tY l.prog w K mg base 4:=lN (k:=3) F25 (sah X G a25) (q_p_farthest_beyond.mono (by decide));have q_p_touched:pZ l.prog w K mg base 5:=gG (k:=4) F26 (sah X G a26) (q_p_turning_pegs.mono (by decide)) (q_p_run_pulled.mono (by decide));have q_p_straight_on:uS l.prog w K mg base 1:=mG (k:=0) F27 (sah X G a27);have q_p_pulled:nK l.prog w K mg base 6:=d9 (k:=5) F28 (sah X G a28) (q_p_unrepeated.mono (by decide)) (q_p_touched.mono (by decide)) (q_p_straight_on.mono (by decide)) b_zip;have r_p_taut:=b9 (P:=l.prog) (w:=w) (base:=base) (k:=6) F29 (sah X G a29) (by decide) Zi (r_p_row_of.mono (by decide)) m_short k_short;have q_p_taut:i9 l.prog w K mg base 7:=ZF (k:=6) F29 (sah X G a29) (q_p_shortened.mono (by decide)) (q_p_row_of.mono (by decide)) (q_p_pulled.mono (by decide));have q_p_lies_above:t7 l.prog w K mg base 1:=lP (k:=0) F30 (sah X G a30);have q_p_rounds_of:rf l.prog w K mg base 2:=kW (k:=1) F31 (sah X G a31) (q_p_lies_above.mono (by decide)) b_sum;have r_p_rounds:=gE (P:=l.prog) (w:=w) (base:=base) (k:=5) F32 (sah X G a32) (by decide) Zi (q_p_row_of.mono (by decide)) (r_p_row_of.mono (by decide)) (sah X G e_NoEnds) qE;have q_p_rounds:nJ l.prog w K mg base 6:=d8 (k:=5) F32 (sah X G a32) (q_p_row_of.mono (by decide)) (q_p_rounds_of.mono (by decide))
  have q_caught:i_ l.prog w K mg base 8:=ZH (k:=7) F33 (sah X G a33) (q_p_taut.mono (by decide)) (q_p_rounds.mono (by decide)) (r_p_taut.mono (by decide)) (r_p_rounds.mono (by decide)) (sah X G e_RopeError) (fun c hc C hC=>by
   rcases san.mp hc with rfl|hc
   ·cases hC.symm.trans (sah X G e_NoPegs);exact xEP
   rcases san.mp hc with rfl|hc
   ·cases hC.symm.trans (sah X G e_NoRope);exact xE
   ·rw[saf]at hc;subst hc
    cases hC.symm.trans (sah X G e_NoEnds);exact xEE)
  have q_whole:cy l.prog w K mg base 1:=X1 (k:=0) F34 (sah X G a34)  b_isinstance b_int b_bool;have q_named:cz l.prog w K mg base 2:=X2 (k:=1) F35 (sah X G a35) (q_whole.mono (by decide)) b_isinstance b_ValueError Z3;exact SQ (k:=8) F36 (q_pegs.mono (by decide)) (q_rope.mono (by decide)) (q_mixed.mono (by decide)) (q_hit.mono (by decide)) (q_spoiled.mono (by decide)) (q_due.mono (by decide)) (q_caught.mono (by decide)) (q_named.mono (by decide)) b_len b_set b_range Z3
theorem SW (main:∀ns:List Int,ns.length≤63→zX 11 iJ [.scr ns]=.ok (.p (.bl true)))(K:Frag)(H:Hp)(a:Addr)(ns:List Int)(hl:ns.length≤63)(hS:wx K H a (ns.map V.int)) :
 Uh K (zX 11 iJ) 1 [.ref a] H (fun v _=>v=.bl true) fun _ _ _=>False :=
 ⟨H,[.scr ns],_,rfl,zI.refl _,⟨_,_,rfl,⟨a,rfl,hS⟩,rfl⟩,main ns hl,fun v G' H' _ _ h=>h⟩
end My
open PySem PySem.W PyProof.Rows
theorem PySem.W.Fast.te18243663289802556534:True:=trivial
noncomputable def PySem.W.Fast.tw12132251954303712691:PySem.Program:=PySem.Challenge.pw_tautline_k44_taut_and_rounds_refused
theorem PySem.W.Fast.te12132251954303712691:PySem.Challenge.pw_tautline_k44_taut_and_rounds_refused=PySem.W.Fast.tw12132251954303712691:=rfl
theorem PySem.W.Fast.tw6035890830254449585:True:=trivial
theorem PySem.W.Fast.tw158200598093750625:True:=trivial
theorem PySem.W.Fast.tw3949852596819704768:True:=trivial
theorem PySem.W.Fast.tw9438027096941828662:True:=trivial
theorem PySem.W.Fast.tw18209190681081761914:True:=trivial
theorem PySem.W.Fast.tw12596484285326856283:True:=trivial
theorem PySem.W.Fast.tw4805755419580371836:True:=trivial
theorem PySem.W.Fast.tw614315811414276735:True:=trivial
theorem PySem.W.Fast.tw17187847786041797331:True:=trivial
theorem PySem.W.Fast.tw12264008351367492701:True:=trivial
theorem PySem.W.Fast.tw13887154257040863191:True:=trivial
set_option maxRecDepth 100000 in
set_option maxHeartbeats 0 in
theorem PySem.Challenge.cw_tautline_k44_taut_and_rounds_refused_holds : PySem.Challenge.rw_tautline_k44_taut_and_rounds_refused.Holds := by
 w_on;o_law;k_head;(case hw=>w_witness2)
 k_fill
 refine L2.Wm (l:=PySem.Challenge.rw_tautline_k44_taut_and_rounds_refused) (n:=63) (k:=9) (x := "_law_script") (CX:=L2.gP) (sp:=fun K=>DL.Uh K (DL.zX 11 My.iJ) 1) rfl (by decide) rfl ⟨rfl,by decide,by decide⟩ (fun w h Y=>PySem.W.kIn_of Y) ?F ?S ?C
 case F=>
  intro w mg fa h KX G hmg;refine' My.RA KX G hmg ..
  all_goals try (unfold My.A_;k_is)
  all_goals try (unfold My.L_;k_is)
  all_goals try (unfold My.D_;k_is)
  all_goals try (unfold My.P_;k_is)
  all_goals try first|k_is|k_exc|kts_exm|kit_is
 case S=>exact fun K H a ns hl hO hS=>My.SW My.main K H a ns hl hS
 case C=>exact fun _ _ _ _ z=>z