import PyProof.Rows.All
import Wide.All
import OpenK.AllK
import Wide.FinOn
import Lean
import PyProof.EqAt
import PyProof.EqKinds
import PyProof.TupleCall
import KE.KItemsList
import KE.KMinBuiltin
import KE.KRevIter
import KE.KTryMore
import PyProof.ExcArgs
import PyProof.ExcAttrAll.ValueError
import PyProof.NsDelKeeps
import PySem.Challenge.RW_tautline_k16_joined_and_back
set_option Elab.async false
set_option linter.all false
set_option maxRecDepth 100000
namespace L2
open PySem PySem.Spec PyProof.Rows
abbrev Key := Sum Int Str
def keyIs : Key → Value → Bool
  | .inl k, v => Value.isInt k v
  | .inr x, v => Value.isStrOf x v
def keyH (w : World) : Key → Int
  | .inl k => hashInt k
  | .inr x => hashStr w x
theorem keyIs_shape : ∀ {k : Key} {v : Value}, keyIs k v = true → (∃ i t, k = Sum.inl i ∧ v = Value.int i t) ∨ (∃ x t, k = Sum.inr x ∧ v = Value.str x t)
  | .inl i, v, h => by
    obtain ⟨t, e⟩ := Value.isInt_shape (k := i) (v := v) h
    exact .inl ⟨i, t, rfl, e⟩
  | .inr x, v, h => by
    obtain ⟨t, e⟩ := Value.isStrOf_shape (x := x) (v := v) h
    exact .inr ⟨x, t, rfl, e⟩
theorem key_ll (a b : Int) : decide ((Sum.inl a : Key) = Sum.inl b) = (a == b) := by
  by_cases e : a = b
  · subst e; simp
  · have h : ¬ (Sum.inl a : Key) = Sum.inl b := fun q => e (Sum.inl.inj q)
    rw [decide_eq_false h]
    exact (beq_eq_false_iff_ne.mpr e).symm
theorem key_rr (a b : Str) : decide ((Sum.inr a : Key) = Sum.inr b) = decide (a = b) := by
  by_cases e : a = b
  · subst e; simp
  · have h : ¬ (Sum.inr a : Key) = Sum.inr b := fun q => e (Sum.inr.inj q)
    rw [decide_eq_false h, decide_eq_false e]
theorem key_lr (a : Int) (b : Str) : decide ((Sum.inl a : Key) = Sum.inr b) = false := decide_eq_false (fun q => nomatch q)
theorem key_rl (a : Str) (b : Int) : decide ((Sum.inr a : Key) = Sum.inl b) = false := decide_eq_false (fun q => nomatch q)
def mixKind (prog : Program) (w : World) : PySem.KeyKind prog w Key where
  is := keyIs
  hash := keyH w
  inj := fun v a b ha hb => by
    rcases keyIs_shape ha with ⟨i, t, rfl, rfl⟩ | ⟨x, t, rfl, rfl⟩
    · rcases keyIs_shape hb with ⟨j, u, rfl, e⟩ | ⟨y, u, rfl, e⟩
      · injection e with e1 _; rw [e1]
      · exact nomatch e
    · rcases keyIs_shape hb with ⟨j, u, rfl, e⟩ | ⟨y, u, rfl, e⟩
      · exact nomatch e
      · injection e with e1 _; rw [e1]
  byValue := fun k v h => by
    rcases keyIs_shape h with ⟨i, t, rfl, rfl⟩ | ⟨x, t, rfl, rfl⟩ <;> rfl
  pyHash := fun hv h => by
    rcases keyIs_shape hv with ⟨i, t, rfl, rfl⟩ | ⟨x, t, rfl, rfl⟩
    · exact wpAny_pyHash_int h
    · exact wpAny_pyHash_str h
  eqBool := fun hu hv h => by
    rcases keyIs_shape hu with ⟨i, t, rfl, rfl⟩ | ⟨x, t, rfl, rfl⟩
    · rcases keyIs_shape hv with ⟨j, u, rfl, rfl⟩ | ⟨y, u, rfl, rfl⟩
      · rw [key_ll] at h; exact wpAny_eqBool_int h
      · rw [key_lr] at h; exact SeqAt.EqAt.int_str i t y u _ _ _ _ h
    · rcases keyIs_shape hv with ⟨j, u, rfl, rfl⟩ | ⟨y, u, rfl, rfl⟩
      · rw [key_rl] at h; exact SeqAt.EqAt.str_int x t j u _ _ _ _ h
      · rw [key_rr] at h; exact wpAny_eqBool_str h
  «strs» := fun k x t v h => by
    rcases keyIs_shape h with ⟨i, u, rfl, e⟩ | ⟨y, u, rfl, e⟩
    · exact nomatch e
    · injection e with e1 _
      subst e1
      cases v <;> rfl
end L2
namespace L2
open PySem PySem.Spec PyProof.Rows
inductive V where
  | non | bl (b : Bool) | int (i : Int) | str (x : Str) | byt (b : Array UInt8) | flt (b : UInt64) | ref (a : Addr) | ty (n : String)
  deriving DecidableEq
def RelV : V → Value → Prop
  | .non, u => u = Value.none
  | .bl b, u => u = Value.bool b
  | .int i, u => ∃ t, u = Value.int i t
  | .str x, u => ∃ t, u = Value.str x t
  | .byt b, u => ∃ t, u = Value.bytes b t
  | .flt b, u => ∃ t, u = Value.float b t
  | .ref a, u => u = Value.ref a
  | .ty n, u => u = Value.type n
abbrev Vals : List V → List Value → Prop := Paired RelV
theorem Vals.length {xs : List V} {us : List Value} (r : Vals xs us) : xs.length = us.length := Paired.length r
theorem Vals.get : ∀ {xs : List V} {us : List Value} {i : Nat} {x : V}, Vals xs us → xs[i]? = some x → ∃ u, us[i]? = some u ∧ RelV x u
  | _, _, _, _, .nil, e => by simp at e
  | _, _, 0, _, .cons r _, e => by simp at e; subst e; exact ⟨_, rfl, r⟩
  | _, _, i + 1, x, .cons _ t, e => by
    obtain ⟨u, h1, h2⟩ := Vals.get (i := i) (x := x) t (by simpa using e)
    exact ⟨u, by simpa using h1, h2⟩
theorem Vals.set {x : V} {u : Value} (r : RelV x u) : ∀ {xs : List V} {us : List Value} (i : Nat), Vals xs us → Vals (xs.set i x) (us.set i u)
  | _, _, _, .nil => .nil
  | _, _, 0, .cons _ t => .cons r t
  | _, _, i + 1, .cons q t => .cons q (Vals.set r i t)
theorem Vals.append : ∀ {xs ys : List V} {us ws : List Value}, Vals xs us → Vals ys ws → Vals (xs ++ ys) (us ++ ws)
  | _, _, _, _, .nil, s => s
  | _, _, _, _, .cons r t, s => .cons r (Vals.append t s)
theorem Vals.take : ∀ {xs : List V} {us : List Value} (n : Nat), Vals xs us → Vals (xs.take n) (us.take n)
  | _, _, 0, _ => .nil
  | _, _, _ + 1, .nil => .nil
  | _, _, n + 1, .cons r t => .cons r (Vals.take n t)
theorem Vals.drop : ∀ {xs : List V} {us : List Value} (n : Nat), Vals xs us → Vals (xs.drop n) (us.drop n)
  | _, _, 0, r => r
  | _, _, _ + 1, .nil => .nil
  | _, _, n + 1, .cons _ t => Vals.drop n t
def RelO : Option V → Option Value → Prop
  | some v, some u => RelV v u
  | none, none => True
  | _, _ => False
def KV {κ : Type} : List (κ × V) → List (κ × Value) → Prop := Paired fun (p : κ × V) (q : κ × Value) => p.1 = q.1 ∧ RelV p.2 q.2
def kV : Key → V
  | .inl i => .int i
  | .inr x => .str x
inductive HO where
  | lst (xs : List V)
  | tup (xs : List V)
  | dK (kvs : List (Key × V)) | dT (kvs : List (List Key × V))
  | set (S : Int → Bool) (n : Nat)
  | ins (C dx : Addr) (fs : List (Str × V))
  | own (x : Addr)
  | xd (fs : List (Str × V))
  | met (f x : Addr)
  | rng (lo hi : Int)
  | frz (o : Obj) (u : HO)
  | tbl (ps : Array Value)
  | ext (φ : Heap → Prop)
abbrev Hp := Addr → Option HO
def upd (H : Hp) (a : Addr) (o : HO) : Hp := fun b => if b = a then some o else H b
theorem upd_same {H : Hp} {a : Addr} {o : HO} : upd H a o a = some o := by unfold upd; rw [if_pos rfl]
theorem upd_ne {H : Hp} {a b : Addr} {o : HO} (h : b ≠ a) : upd H a o b = H b := by unfold upd; rw [if_neg h]
theorem ne_of_none {H : Hp} {a b : Addr} {o : HO} (h : H a = some o) (h' : H b = none) : a ≠ b := by
  intro e; subst e; rw [h] at h'; cases h'
section
variable (P : Program) (w : World)
def ObjOk (H : Hp) (h : Heap) (a : Addr) : HO → Prop
  | .lst xs => xs.length ≤ sizeLine ∧ ∃ (its : List Value) (n : Nat), Vals xs its ∧ h.get? a = some { cls := .type "list", data := .seq its.toArray n }
  | .tup xs => xs.length ≤ sizeLine ∧ ∃ its : List Value, Vals xs its ∧ IsTup h a its.toArray
  | .dK kvs => kvs.length ≤ sizeLine ∧ (a == sysModules) = false ∧ ∃ vs, KV kvs vs ∧ h.DictOf (mixKind P w) a vs
  | .dT kvs => kvs.length ≤ sizeLine ∧ (a == sysModules) = false ∧ ∃ xs : List (List Key × Addr × Value),
      Paired (fun (p : List Key × V) (q : List Key × Addr × Value) => p.1 = q.1 ∧ H q.2.1 = some (.tup (p.1.map kV)) ∧ RelV p.2 q.2.2) kvs xs ∧
      ∃ o es ep, h.get? a = some o ∧ o.ExactDict ∧ o.data = .dict es ep ∧ es.toList = xs.map (entryOfKey (tupleKind (mixKind P w))) ∧ (xs.map (·.1)).Nodup
  | .set S n => h.SetOf (intKind P w) a S n
  | .ins C dx fs => H dx = some (.own a) ∧ fs.length ≤ 1000 ∧ dx ≠ a ∧ h.get? a = some (PySem.W.instObj C dx) ∧
      ∃ mA, h.Ns1 dx mA ∧ (∀ f, RelO (fs.lookup f) (mA f)) ∧ PySem.Within mA (fs.map (·.1))
  | .own _ => ∃ o, h.get? a = some o
  | .xd fs => ∃ mA, h.Ns1 a mA ∧ ∀ f, RelO (fs.lookup f) (mA f)
  | .rng lo hi => ∃ t u v, h.get? a = some { cls := .type "range", data := .fields #[.int lo t, .int hi u, .int 1 v] }
  | .frz o u => h.get? a = some o ∧ ObjOk H h a u
  | .tbl ps => h.get? a = some { cls := .none, data := .fields ps }
  | .met f x => h.get? a = some (PySem.W.methodObj (.ref f) (.ref x))
  | .ext φ => φ h ∧ (∃ o, h.get? a = some o) ∧ ∀ h1 h2 : Heap, φ h1 → (∀ o, h1.get? a = some o → h2.get? a = some o) → φ h2
def HOk (H : Hp) (h : Heap) : Prop := ∀ a o, H a = some o → ObjOk P w H h a o
end
section
variable {P : Program} {w : World} {H H' : Hp} {h h' : Heap} {a : Addr} {o : HO}
theorem ObjOk.lt (x : ObjOk P w H h a o) : a < h.objs.size := by
  cases o with
  | lst xs => obtain ⟨_, _, _, _, e⟩ := x; exact Heap.lt_size e
  | tup xs => obtain ⟨_, _, _, p⟩ := x; exact p.lt
  | dK kvs => obtain ⟨_, _, _, _, o, _, _, e, _⟩ := x; exact Heap.lt_size e
  | dT kvs => obtain ⟨_, _, _, _, o, _, _, e, _⟩ := x; exact Heap.lt_size e
  | set S n => obtain ⟨o, _, _, _, e, _⟩ := x; exact Heap.lt_size e
  | ins C dx fs => obtain ⟨_, _, _, e, _⟩ := x; exact Heap.lt_size e
  | own y => obtain ⟨_, e⟩ := x; exact Heap.lt_size e
  | xd fs => obtain ⟨_, ⟨_, _, _, e, _⟩, _⟩ := x; exact Heap.lt_size e
  | rng lo hi => obtain ⟨_, _, _, e⟩ := x; exact Heap.lt_size e
  | frz ob u => obtain ⟨e, _⟩ := x; exact Heap.lt_size e
  | tbl ps => exact Heap.lt_size (show h.get? a = some _ from x)
  | met f y => exact Heap.lt_size (show h.get? a = some _ from x)
  | ext φ => obtain ⟨_, ⟨_, e⟩, _⟩ := x; exact Heap.lt_size e
theorem Paired.mapP {α β : Type} {F G : α → β → Prop} : ∀ {l₁ : List α} {l₂ : List β}, Paired F l₁ l₂ → (∀ a b, F a b → G a b) → Paired G l₁ l₂
  | _, _, .nil, _ => .nil
  | _, _, .cons r t, f => .cons (f _ _ r) (Paired.mapP t f)
theorem ObjOk.stay (x : ObjOk P w H h a o) (k : ∀ b u, (b = a ∨ H b = some (.own a)) → h.get? b = some u → h'.get? b = some u)
    (ho : ∀ b, H b = some (.own a) → H' b = some (.own a)) (ht : ∀ b xs, H b = some (.tup xs) → H' b = some (.tup xs)) : ObjOk P w H' h' a o := by
  induction o with
  | lst xs => obtain ⟨z, its, n, r, e⟩ := x; exact ⟨z, its, n, r, k _ _ (.inl rfl) e⟩
  | tup xs => obtain ⟨z, its, r, ob, e, c⟩ := x; exact ⟨z, its, r, ob, k _ _ (.inl rfl) e, c⟩
  | dK kvs => obtain ⟨z, y, vs, r, ob, es, ep, e, c⟩ := x; exact ⟨z, y, vs, r, ob, es, ep, k _ _ (.inl rfl) e, c⟩
  | dT kvs =>
    obtain ⟨z, y, xs, r, ob, es, ep, e, c⟩ := x
    exact ⟨z, y, xs, Paired.mapP r fun p q z => ⟨z.1, ht _ _ z.2.1, z.2.2⟩, ob, es, ep, k _ _ (.inl rfl) e, c⟩
  | set S n => obtain ⟨ob, es, ep, t, e, c⟩ := x; exact ⟨ob, es, ep, t, k _ _ (.inl rfl) e, c⟩
  | ins C dx fs =>
    obtain ⟨d, z, ne, e, mA, ⟨od, es, ep, e2, c⟩, r⟩ := x
    exact ⟨ho _ d, z, ne, k _ _ (.inl rfl) e, mA, ⟨od, es, ep, k _ _ (.inr d) e2, c⟩, r⟩
  | own y => obtain ⟨ob, e⟩ := x; exact ⟨ob, k _ _ (.inl rfl) e⟩
  | xd fs => obtain ⟨mA, ⟨od, es, ep, e, c⟩, r⟩ := x; exact ⟨mA, ⟨od, es, ep, k _ _ (.inl rfl) e, c⟩, r⟩
  | rng lo hi => obtain ⟨t, u, v, e⟩ := x; exact ⟨t, u, v, k _ _ (.inl rfl) e⟩
  | frz ob u ih => obtain ⟨e, q⟩ := x; exact ⟨k _ _ (.inl rfl) e, ih q⟩
  | tbl ps =>
    have e : h.get? a = some { cls := .none, data := .fields ps } := x
    show h'.get? a = some { cls := .none, data := .fields ps }
    exact k a _ (.inl rfl) e
  | met f y =>
    have e : h.get? a = some (PySem.W.methodObj (.ref f) (.ref y)) := x
    show h'.get? a = some (PySem.W.methodObj (.ref f) (.ref y))
    exact k a _ (.inl rfl) e
  | ext φ => obtain ⟨p, ⟨o, e⟩, st⟩ := x; exact ⟨st _ _ p fun o q => k _ _ (.inl rfl) q, ⟨o, k _ _ (.inl rfl) e⟩, st⟩
theorem HOk.lt (x : HOk P w H h) (e : H a = some o) : a < h.objs.size := (x a o e).lt
theorem HOk.fresh (x : HOk P w H h) (e : h.objs.size ≤ a) : H a = none := by
  cases q : H a with
  | none => rfl
  | some u => exact absurd (Nat.lt_of_lt_of_le (x.lt q) e) (Nat.lt_irrefl _)
theorem HOk.kept (x : HOk P w H h) (k : ∀ b u, h.get? b = some u → h'.get? b = some u) : HOk P w H h' := fun a o e =>
  (x a o e).stay (fun b u _ q => k b u q) (fun _ q => q) fun _ _ q => q
theorem HOk.laid (x : HOk P w H h) (k : ∀ b u, h.get? b = some u → h'.get? b = some u) (hp : h.objs.size ≤ a) (new : ObjOk P w (upd H a o) h' a o) : HOk P w (upd H a o) h' := fun b u e => by
  have hn := x.fresh hp
  by_cases hb : b = a
  · subst hb; rw [upd_same] at e; cases e; exact new
  · rw [upd_ne hb] at e
    exact (x b u e).stay (fun c v _ q => k c v q) (fun c q => by rw [upd_ne (ne_of_none q hn)]; exact q) fun c xs q => by rw [upd_ne (ne_of_none q hn)]; exact q
end
def Rd (H : Hp) (a : Addr) (u : HO) : Prop := H a = some u ∨ ∃ o, H a = some (.frz o u)
theorem Rd.of {H : Hp} {a : Addr} {u : HO} (h : H a = some u) : Rd H a u := .inl h
theorem Rd.ok {P : Program} {w : World} {H : Hp} {h : Heap} {a : Addr} {u : HO} (r : Rd H a u) (x : HOk P w H h) : ObjOk P w H h a u := by
  rcases r with r | ⟨o, r⟩
  · exact x a u r
  · obtain ⟨_, q⟩ := x a _ r
    exact q
def Mut : Option HO → Prop
  | some (.lst _) => True
  | some (.dK _) => True
  | some (.dT _) => True
  | some (.set _ _) => True
  | some (.ins _ _ _) => True
  | some (.ext _) => True
  | _ => False
section
variable {P : Program} {w : World} {H : Hp} {h h' : Heap} {x e : Addr} {o' : HO}
theorem HOk.write (ok : HOk P w H h) (mu : Mut (H x)) (he : e = x ∨ H e = some (.own x)) (k : ∀ b u, b ≠ e → h.get? b = some u → h'.get? b = some u) (heo : ∃ u, h'.get? e = some u)
    (new : ObjOk P w (upd H x o') h' x o') : HOk P w (upd H x o') h' := fun b u q => by
  have nown : ∀ c y, H c = some (.own y) → c ≠ x := fun c y r z => by subst z; rw [r] at mu; exact mu
  have ntup : ∀ c xs, H c = some (.tup xs) → c ≠ x := fun c xs r z => by subst z; rw [r] at mu; exact mu
  by_cases hb : b = x
  · subst hb; rw [upd_same] at q; cases q; exact new
  · rw [upd_ne hb] at q
    by_cases hbe : b = e
    · have q' : H b = some (.own x) := by
        rcases he with z | z
        · exact absurd (hbe.trans z) hb
        · rw [hbe]; exact z
      rw [q] at q'; cases q'
      obtain ⟨v, hv⟩ := heo
      exact ⟨v, by rw [hbe]; exact hv⟩
    · refine (ok b u q).stay (fun c v hc r => k c v ?_ r) (fun c r => by rw [upd_ne (nown c b r)]; exact r) fun c xs r => by rw [upd_ne (ntup c xs r)]; exact r
      rcases hc with rfl | hc
      · exact hbe
      · rintro rfl
        rcases he with z | z
        · exact nown c b hc z
        · rw [hc] at z; cases z; exact hb rfl
end
structure Un (fs ex : List Addr) (H H' : Hp) (h h' : Heap) : Prop where
  keep : ∀ b o, h.get? b = some o → H b = none → b ∉ fs → b ∉ ex → h'.get? b = some o
  slot : ∀ b o, h.get? b = some o → H b = none → b ∈ fs → b ∉ ex → ∃ sl, h'.get? b = some { o with slots := sl }
  free : ∀ b o, h.get? b = some o → H b = none → b ∉ ex → H' b = none
  there : ∀ b o, h.get? b = some o → b ∉ ex → ∃ o', h'.get? b = some o'
  tups : ∀ b xs, H b = some (.tup xs) → H' b = some (.tup xs)
  frzs : ∀ b o u, H b = some (.frz o u) → H' b = some (.frz o u)
  tbls : ∀ b ps, H b = some (.tbl ps) → ∃ more, H' b = some (.tbl (ps ++ more))
section
variable {fs fs' ex ex' : List Addr} {H H1 H2 : Hp} {h h1 h2 h' : Heap} {a x e : Addr} {o : HO}
theorem Un.any (u : Un fs ex H H1 h h1) {b : Addr} {ob : Obj} (q : h.get? b = some ob) (n : H b = none) (hx : b ∉ ex) : ∃ sl, h1.get? b = some { ob with slots := sl } := by
  by_cases hb : b ∈ fs
  · exact u.slot b ob q n hb hx
  · exact ⟨ob.slots, u.keep b ob q n hb hx⟩
theorem Un.trans (a : Un fs ex H H1 h h1) (b : Un fs ex H1 H2 h1 h2) : Un fs ex H H2 h h2 where
  keep := fun c ob q n hc hx => b.keep c ob (a.keep c ob q n hc hx) (a.free c ob q n hx) hc hx
  slot := fun c ob q n hc hx => by
    obtain ⟨sl, e1⟩ := a.slot c ob q n hc hx
    obtain ⟨sl', e2⟩ := b.slot c _ e1 (a.free c ob q n hx) hc hx
    exact ⟨sl', e2⟩
  free := fun c ob q n hx => by
    obtain ⟨o', e1⟩ := a.there c ob q hx
    exact b.free c o' e1 (a.free c ob q n hx) hx
  there := fun c ob q hx => by
    obtain ⟨o', e1⟩ := a.there c ob q hx
    exact b.there c o' e1 hx
  tups := fun c xs q => b.tups c xs (a.tups c xs q)
  frzs := fun c ob xs q => b.frzs c ob xs (a.frzs c ob xs q)
  tbls := fun c ps q => by
    obtain ⟨m1, e1⟩ := a.tbls c ps q
    obtain ⟨m2, e2⟩ := b.tbls c _ e1
    exact ⟨m1 ++ m2, by rw [e2, Array.append_assoc]⟩
theorem Un.kept (k : ∀ b u, h.get? b = some u → h'.get? b = some u) : Un fs ex H H h h' :=
  ⟨fun b ob q _ _ _ => k b ob q, fun b ob q _ _ _ => ⟨ob.slots, k b ob q⟩, fun _ _ _ n _ => n, fun b ob q _ => ⟨ob, k b ob q⟩, fun _ _ q => q, fun _ _ _ q => q, fun _ ps q => ⟨#[], by rw [q]; simp⟩⟩
theorem Un.refl : Un fs ex H H h h := Un.kept fun _ _ q => q
theorem Un.laid (k : ∀ b u, h.get? b = some u → h'.get? b = some u) (hp : h.objs.size ≤ a) (hn : H a = none) : Un fs ex H (upd H a o) h h' where
  keep := fun b u q _ _ _ => k b u q
  slot := fun b u q _ _ _ => ⟨u.slots, k b u q⟩
  free := fun b u q n _ => by rw [upd_ne (Nat.ne_of_lt (Nat.lt_of_lt_of_le (Heap.lt_size q) hp))]; exact n
  there := fun b u q _ => ⟨u, k b u q⟩
  tups := fun b xs q => by rw [upd_ne (ne_of_none q hn)]; exact q
  frzs := fun b u xs q => by rw [upd_ne (ne_of_none q hn)]; exact q
  tbls := fun b ps q => ⟨#[], by rw [upd_ne (ne_of_none q hn), q]; simp⟩
theorem Un.write (mu : Mut (H x)) (he : e = x ∨ H e = some (.own x)) (k : ∀ b u, b ≠ e → h.get? b = some u → h'.get? b = some u) (heo : ∃ u, h'.get? e = some u) : Un fs ex H (upd H x o) h h' := by
  have hx : ∀ b, H b = none → b ≠ x := fun b n z => by subst z; rw [n] at mu; exact mu
  have hb : ∀ b, H b = none → b ≠ e := fun b n z => by
    subst z
    rcases he with r | r
    · exact hx b n r
    · rw [n] at r; cases r
  have hm : ∀ b u, H b = some u → ¬ Mut (some u) → b ≠ x := fun b u q nm z => by subst z; rw [q] at mu; exact nm mu
  refine ⟨fun b u q n _ _ => k b u (hb b n) q, fun b u q n _ _ => ⟨u.slots, k b u (hb b n) q⟩, fun b u q n _ => by rw [upd_ne (hx b n)]; exact n, fun b u q _ => ?_,
    fun b xs q => by rw [upd_ne (hm b _ q fun z => z)]; exact q, fun b u xs q => by rw [upd_ne (hm b _ q fun z => z)]; exact q, fun b ps q => ⟨#[], by rw [upd_ne (hm b _ q fun z => z), q]; simp⟩⟩
  by_cases hbe : b = e
  · subst hbe; exact heo
  · exact ⟨u, k b u hbe q⟩
theorem Un.mono (u : Un fs ex H H1 h h1) (hs : ∀ b ∈ fs, b ∈ fs') (hx : ∀ b ∈ ex, b ∈ ex') : Un fs' ex' H H1 h h1 :=
  ⟨fun b ob q n hb he => u.keep b ob q n (fun z => hb (hs b z)) fun z => he (hx b z), fun _ _ q n _ he => u.any q n fun z => he (hx _ z), fun b ob q n he => u.free b ob q n fun z => he (hx b z), fun b ob q he => u.there b ob q fun z => he (hx b z), u.tups, u.frzs, u.tbls⟩
end
def trk (h : Heap) (H : Hp) : List Addr := (List.range h.objs.size).filter fun a => (H a).isSome
def hidT (h : Heap) (H : Hp) : Heap := PySem.W.hideAll h (trk h H)
theorem hidT_size (h : Heap) (H : Hp) : (hidT h H).objs.size = h.objs.size := PySem.W.hideAll_size _ _
theorem hidT_get {h : Heap} {H : Hp} {b : Addr} {o : Obj} (e : h.get? b = some o) (n : H b = none) : (hidT h H).get? b = some o :=
  PySem.W.hideAll_get _ e fun hm => by
    have q : (H b).isSome = true := (List.mem_filter.mp hm).2
    rw [n] at q; simp at q
theorem of_hidT {h : Heap} {H : Hp} {b : Addr} {o : Obj} (e : (hidT h H).get? b = some o) : h.get? b = some o ∧ H b = none := by
  have e' : h.get? b = some o := PySem.W.of_hideAll (trk h H) e
  refine ⟨e', ?_⟩
  cases q : H b with
  | none => rfl
  | some x =>
    have hm : b ∈ trk h H := List.mem_filter.mpr ⟨List.mem_range.mpr (Heap.lt_size e'), by simp [q]⟩
    have z : (hidT h H).get? b = none := PySem.W.hideAll_none (trk h H) hm
    rw [z] at e; cases e
def allNews (g h : Heap) (L : Addr) : List (Addr × Obj) := (List.range h.objs.size).filterMap fun a => if a = L ∨ (g.get? a).isSome = true then none else (h.get? a).map fun o => (a, o)
def rest (g h : Heap) (L d : Addr) : List (Addr × Obj) := (allNews g h L).filter fun p => decide (p.1 ≠ d)
end L2
namespace L2
open PySem PySem.Spec PyProof.Rows
structure Mod (K : PySem.W.Frag) (mg : Str → Option Value) (base : Heap) : Prop where
  kin : K.In base
  glob : base.Ns mainGlobals mg
  blt : ∃ mb, base.Ns builtinsNs mb ∧ ∀ x : Str, x ≠ "__name__" → mb x = bootBuiltins x
  nolimit : base.NoLimit
structure Cx where
  prog : Program
  w : World
  K : PySem.W.Frag
  mg : Str → Option Value
  base : Heap
  A : Around
  N : List Str
  s₀ : Shared
  H₀ : Hp
  env : Env
  outer : List Env
  stack : List Env
  ex : List Addr
  fn : Str → Bool
  calm : Bool
  pn : List (Addr × Obj)
  xe : Value → Shared → Prop
def frs (l : List Env) : List Addr := l.filterMap (·.frame)
abbrev Cx.fs (X : Cx) : List Addr := frs X.outer
def Vis (sc : Scope) (x : Str) : Prop := sc.names.lookup x = some .local ∨ sc.names.lookup x = some .cell ∨ sc.names.lookup x = some .free
def Loc (sc : Scope) (x : Str) : Prop := sc.names.lookup x = some .local ∨ sc.names.lookup x = some .cell
def Look (env : Env) (h : Heap) (m : Str → Option Value) (x : Str) (u : Value) : Prop :=
  (env.kindOf x = some .local ∧ m x = some u) ∨ ((env.kindOf x = some .cell ∨ env.kindOf x = some .free) ∧ ∃ c, env.cells.lookup x = some c ∧ h.IsCell c (some u))
structure Cx.Ok (X : Cx) : Prop where
  mod : Mod X.K X.mg X.base
  kind : X.env.scope.kind = .function
  glob : X.env.globals = mainGlobals
  blt : X.env.builtins = builtinsNs
  above : X.s₀.heap.objs.size ≤ X.env.locals
  inj : ∀ x y c, X.env.cells.lookup x = some c → X.env.cells.lookup y = some c → x = y
  has : ∀ x, (X.env.kindOf x = some .cell ∨ X.env.kindOf x = some .free) → ∃ c, X.env.cells.lookup x = some c
  cab : ∀ x c, X.fn x = true → X.env.cells.lookup x = some c → X.s₀.heap.objs.size ≤ c
  hd : X.calm = true → X.A.handled = none
  frames : X.A.frames = some X.stack
  stk : X.stack = X.outer ∨ (X.stack = X.env :: X.outer ∧ X.env.frame = some X.env.locals)
  exf : ∀ b ∈ X.ex, b ≠ X.env.locals ∧ ∀ x c, X.env.cells.lookup x = some c → c ≠ b
  bs : ∀ b o, X.base.get? b = some o → X.s₀.heap.get? b = some o ∧ X.H₀ b = none
  bsz : X.base.objs.size ≤ X.s₀.heap.objs.size
  noex : ∀ b o, X.base.get? b = some o → b ∉ X.ex
  exfs : ∀ b ∈ X.ex, b ∉ X.fs
  funs : X.s₀.heap.FunFrames X.base X.outer
  frf : ∀ b ∈ X.fs, X.H₀ b = none
structure Inv (X : Cx) (pins : List (Addr × Obj)) (σ : List (Option V)) (H : Hp) (s : Shared) : Prop where
  ok : X.Ok
  os : s.os = X.s₀.os
  bare : AllBare s.gens
  base : Un X.fs X.ex X.H₀ H X.s₀.heap s.heap
  loc : ∃ m, s.heap.Ns X.env.locals m ∧ ∀ (i : Nat) (x : Str) (v : V), X.N[i]? = some x → σ[i]? = some (some v) → Vis X.env.scope x → ∃ u, RelV v u ∧ Look X.env s.heap m x u
  cell : ∀ x c, X.env.cells.lookup x = some c → ∃ v, s.heap.IsCell c v
  free : H X.env.locals = none
  freeC : ∀ x c, X.env.cells.lookup x = some c → H c = none
  pin : ∀ p ∈ X.pn ++ pins, s.heap.get? p.1 = some p.2 ∧ H p.1 = none ∧ p.1 ≠ X.env.locals ∧ p.1 ∉ X.fs ∧ ∀ v, p.2.data ≠ .cell v
  hok : HOk X.prog X.w H s.heap
  len : σ.length = X.N.length
section
variable {X : Cx} {pins : List (Addr × Obj)} {σ : List (Option V)} {H H' : Hp} {s : Shared} {h' : Heap}
theorem Cx.Ok.nofr (ok : X.Ok) {b : Addr} {o : Obj} (e : X.base.get? b = some o) : b ∉ X.fs := fun hb => by
  have := (ok.funs.mem hb).1
  rw [e] at this; cases this
theorem Inv.bs (I : Inv X pins σ H s) : ∀ b o, X.base.get? b = some o → s.heap.get? b = some o ∧ H b = none := fun b o e =>
  ⟨I.base.keep b o (I.ok.bs b o e).1 (I.ok.bs b o e).2 (I.ok.nofr e) (I.ok.noex b o e), I.base.free b o (I.ok.bs b o e).1 (I.ok.bs b o e).2 (I.ok.noex b o e)⟩
theorem Inv.bk (I : Inv X pins σ H s) : ∀ b o, X.base.get? b = some o → s.heap.get? b = some o := fun b o e => (I.bs b o e).1
theorem Inv.mod (I : Inv X pins σ H s) : Mod X.K X.mg X.base := I.ok.mod
theorem Inv.kIn (I : Inv X pins σ H s) : X.K.In s.heap := I.ok.mod.kin.keeps I.bk
theorem Inv.nolimit (I : Inv X pins σ H s) : s.heap.NoLimit := I.ok.mod.nolimit.keeps I.bk
theorem Inv.fr (I : Inv X pins σ H s) : ∃ m, Fr X.base X.env.locals s.heap m :=
  let ⟨m, hn, _⟩ := I.loc
  ⟨m, hn, I.bk, Nat.le_trans I.ok.bsz I.ok.above⟩
theorem Inv.lt (I : Inv X pins σ H s) : X.env.locals < s.heap.objs.size := let ⟨_, hn, _⟩ := I.loc; hn.lt
theorem Inv.sz (I : Inv X pins σ H s) : X.s₀.heap.objs.size ≤ s.heap.objs.size := Nat.le_trans I.ok.above (Nat.le_of_lt I.lt)
theorem Inv.nofs (I : Inv X pins σ H s) {a : Addr} (h : s.heap.objs.size ≤ a) : a ∉ X.fs := fun hb => by
  obtain ⟨_, o, ho, _⟩ := I.ok.funs.mem hb
  exact absurd (Nat.lt_of_lt_of_le (Heap.lt_size ho) (Nat.le_trans I.sz h)) (Nat.lt_irrefl _)
theorem Inv.cne (I : Inv X pins σ H s) : ∀ x c, X.env.cells.lookup x = some c → c ≠ X.env.locals := fun x c e z => by
  obtain ⟨v, o, ho, hd⟩ := I.cell x c e
  obtain ⟨m, ⟨o', es, ep, ho', hd', _⟩, _⟩ := I.loc
  rw [z, ho'] at ho; cases ho; rw [hd'] at hd; cases hd
theorem Inv.funs (I : Inv X pins σ H s) : s.heap.FunFrames X.base X.outer := by
  have all : ∀ (l : List Env), (∀ b ∈ frs l, b ∈ X.fs) → X.s₀.heap.FunFrames X.base l → s.heap.FunFrames X.base l := by
    intro l
    induction l with
    | nil => intro _ _; trivial
    | cons env r ih =>
      intro hs hl
      obtain ⟨hk, ⟨L, o, hf, hn, ho, hd⟩, hr⟩ := hl
      have hL : L ∈ X.fs := hs L (by unfold frs; rw [List.filterMap_cons, hf]; exact List.mem_cons_self)
      obtain ⟨sl, e⟩ := I.base.slot L o ho (I.ok.frf L hL) hL fun z => I.ok.exfs L z hL
      exact ⟨hk, ⟨L, _, hf, hn, e, hd⟩, ih (fun b hb => hs b (by unfold frs; rw [List.filterMap_cons, hf]; exact List.mem_cons_of_mem _ hb)) hr⟩
  exact all X.outer (fun _ hb => hb) I.ok.funs
theorem Inv.stack (I : Inv X pins σ H s) : s.heap.FunFrames X.base X.stack := by
  rcases I.ok.stk with e | ⟨e, hf⟩
  · rw [e]; exact I.funs
  · rw [e]
    obtain ⟨m, hn, _⟩ := I.loc
    refine .cons (by rw [I.ok.kind]; decide) hf hn ?_ I.funs
    exact Heap.get?_none_of_le (Nat.le_trans I.ok.bsz I.ok.above)
theorem Inv.stkSub (I : Inv X pins σ H s) : ∀ b ∈ frs X.stack, b ∈ X.env.locals :: X.fs := fun b hb => by
  rcases I.ok.stk with e | ⟨e, hf⟩
  · rw [e] at hb; exact List.mem_cons_of_mem _ hb
  · rw [e] at hb
    unfold frs at hb
    rw [List.filterMap_cons, hf] at hb
    exact hb
theorem Inv.stkFree (I : Inv X pins σ H s) : ∀ b ∈ frs X.stack, H b = none := fun b hb => by
  rcases List.mem_cons.mp (I.stkSub b hb) with e | hb
  · rw [e]; exact I.free
  · obtain ⟨_, o, ho, _⟩ := I.ok.funs.mem hb
    exact I.base.free b o ho (I.ok.frf b hb) fun z => I.ok.exfs b z hb
theorem Inv.step {g' : Array GenState} {t' : Nat} {d' : Drawn} {ch : List Addr} (I : Inv X pins σ H s)
    (hch : ∀ b ∈ ch, (b ∈ X.ex ∨ X.s₀.heap.objs.size ≤ b) ∧ b ≠ X.env.locals ∧ (∀ x c, X.env.cells.lookup x = some c → c ≠ b) ∧ ∀ p ∈ X.pn ++ pins, p.1 ≠ b)
    (keep : ∀ b o, b ≠ X.env.locals → b ∉ X.fs → b ∉ ch → s.heap.get? b = some o → H b = none → h'.get? b = some o)
    (slot : ∀ b o, b ≠ X.env.locals → b ∈ X.fs → b ∉ ch → s.heap.get? b = some o → H b = none → ∃ sl, h'.get? b = some { o with slots := sl }) (free : ∀ b o, b ∉ ch → s.heap.get? b = some o → H b = none → H' b = none)
    (there : ∀ b o, b ∉ ch → s.heap.get? b = some o → ∃ o', h'.get? b = some o')
    (tups : ∀ b xs, H b = some (.tup xs) → H' b = some (.tup xs)) (frzs : ∀ b o u, H b = some (.frz o u) → H' b = some (.frz o u)) (tbls : ∀ b ps, H b = some (.tbl ps) → ∃ more, H' b = some (.tbl (ps ++ more)))
    (ns : ∀ m, s.heap.Ns X.env.locals m → h'.Ns X.env.locals m) (hok : HOk X.prog X.w H' h') (hg : AllBare g') :
    Inv X pins σ H' { s with heap := h', gens := g', drawn := d', toks := t' } := by
  have neL : ∀ b o, X.s₀.heap.get? b = some o → b ≠ X.env.locals := fun b o e => Nat.ne_of_lt (Nat.lt_of_lt_of_le (Heap.lt_size e) I.ok.above)
  have neC : ∀ b o, X.s₀.heap.get? b = some o → b ∉ X.ex → b ∉ ch := fun b o e hx hb => by
    rcases (hch b hb).1 with z | z
    · exact hx z
    · exact absurd (Nat.lt_of_lt_of_le (Heap.lt_size e) z) (Nat.lt_irrefl _)
  have cellK : ∀ x c, X.env.cells.lookup x = some c → ∀ v, s.heap.IsCell c v → h'.IsCell c v := fun x c e v ⟨o, ho, hd⟩ => by
    have nch : c ∉ ch := fun z => (hch c z).2.2.1 x c e rfl
    by_cases hc : c ∈ X.fs
    · obtain ⟨sl, q⟩ := slot c o (I.cne x c e) hc nch ho (I.freeC x c e)
      exact ⟨_, q, hd⟩
    · exact ⟨o, keep c o (I.cne x c e) hc nch ho (I.freeC x c e), hd⟩
  refine ⟨I.ok, I.os, hg, ⟨fun b o e n hb hx => ?_, fun b o e n hb hx => ?_, fun b o e n hx => ?_, fun b o e hx => ?_, fun b xs e => tups b xs (I.base.tups b xs e), fun b o xs e => frzs b o xs (I.base.frzs b o xs e), fun b ps e => ?_⟩, ?_, fun x c e => ?_, ?_, fun x c e => ?_, fun p hp => ?_, hok, I.len⟩
  · exact keep b o (neL b o e) hb (neC b o e hx) (I.base.keep b o e n hb hx) (I.base.free b o e n hx)
  · obtain ⟨sl, e1⟩ := I.base.slot b o e n hb hx
    obtain ⟨sl', e2⟩ := slot b _ (neL b o e) hb (neC b o e hx) e1 (I.base.free b o e n hx)
    exact ⟨sl', e2⟩
  · obtain ⟨o', e1⟩ := I.base.there b o e hx
    exact free b o' (neC b o e hx) e1 (I.base.free b o e n hx)
  · obtain ⟨o', e1⟩ := I.base.there b o e hx
    exact there b o' (neC b o e hx) e1
  · obtain ⟨m1, e1⟩ := I.base.tbls b ps e
    obtain ⟨m2, e2⟩ := tbls b _ e1
    exact ⟨m1 ++ m2, by rw [e2, Array.append_assoc]⟩
  · obtain ⟨m, hn, hl⟩ := I.loc
    refine ⟨m, ns m hn, fun i x v e1 e2 e3 => ?_⟩
    obtain ⟨u, r, l⟩ := hl i x v e1 e2 e3
    refine ⟨u, r, ?_⟩
    rcases l with l | ⟨k, c, e, z⟩
    · exact .inl l
    · exact .inr ⟨k, c, e, cellK x c e _ z⟩
  · obtain ⟨v, z⟩ := I.cell x c e
    exact ⟨v, cellK x c e v z⟩
  · obtain ⟨m, ⟨o, _, _, ho, _⟩, _⟩ := I.loc
    exact free _ o (fun z => (hch _ z).2.1 rfl) ho I.free
  · obtain ⟨v, o, ho, hd⟩ := I.cell x c e
    exact free c o (fun z => (hch c z).2.2.1 x c e rfl) ho (I.freeC x c e)
  · obtain ⟨e, n, ne, nf, d⟩ := I.pin p hp
    have nch : p.1 ∉ ch := fun z => (hch p.1 z).2.2.2 p hp rfl
    exact ⟨keep p.1 p.2 ne nf nch e n, free p.1 p.2 nch e n, ne, nf, d⟩
theorem Inv.un {t' : Nat} (I : Inv X pins σ H s) (u : Un X.fs [] H H' s.heap h') (hok : HOk X.prog X.w H' h') : Inv X pins σ H' { s with heap := h', toks := t' } := by
  obtain ⟨m, ⟨o, es, ep, ho, r⟩, _⟩ := id I.loc
  obtain ⟨sl, hL⟩ := u.any ho I.free (by simp)
  exact I.step (g' := s.gens) (d' := s.drawn) (ch := []) (fun _ z => nomatch z) (fun b o _ hb _ e n => u.keep b o e n hb (by simp)) (fun b o _ hb _ e n => u.slot b o e n hb (by simp)) (fun b o _ e n => u.free b o e n (by simp)) (fun b o _ e => u.there b o e (by simp)) u.tups u.frzs u.tbls (fun m' hm => by
    obtain ⟨o', es', ep', ho', r'⟩ := hm
    rw [ho] at ho'; cases ho'
    exact ⟨_, es', ep', hL, r'⟩) hok I.bare
theorem Inv.call {g' : Array GenState} {t' : Nat} {d' : Drawn} {ch : List Addr} (I : Inv X pins σ H s) (u : Un (frs X.stack) ch H H' s.heap h') (hok : HOk X.prog X.w H' h') (hg : AllBare g')
    (hch : ∀ b ∈ ch, (b ∈ X.ex ∨ X.s₀.heap.objs.size ≤ b) ∧ b ≠ X.env.locals ∧ (∀ x c, X.env.cells.lookup x = some c → c ≠ b) ∧ ∀ p ∈ X.pn ++ pins, p.1 ≠ b) :
    Inv X pins σ H' { s with heap := h', gens := g', drawn := d', toks := t' } := by
  obtain ⟨m, ⟨o, es, ep, ho, r⟩, _⟩ := id I.loc
  obtain ⟨sl, hL⟩ := u.any ho I.free fun z => (hch _ z).2.1 rfl
  exact I.step (ch := ch) hch (fun b o hL hb hc e n => u.keep b o e n (fun z => (List.mem_cons.mp (I.stkSub b z)).elim hL hb) hc) (fun b o _ _ hc e n => u.any e n hc) (fun b o hc e n => u.free b o e n hc) (fun b o hc e => u.there b o e hc) u.tups u.frzs u.tbls (fun m' hm => by
    obtain ⟨o', es', ep', ho', r'⟩ := hm
    rw [ho] at ho'; cases ho'
    exact ⟨_, es', ep', hL, r'⟩) hok hg
theorem Inv.turned {t' : Nat} {it : Addr} (I : Inv X pins σ H s) (k : ∀ b o, b ≠ it → s.heap.get? b = some o → h'.get? b = some o) (hn : H it = none) (hL : it ≠ X.env.locals)
    (h1 : it ∈ X.ex ∨ X.s₀.heap.objs.size ≤ it) (h2 : ∀ x c, X.env.cells.lookup x = some c → c ≠ it) (h3 : ∀ p ∈ X.pn ++ pins, p.1 ≠ it) : Inv X pins σ H { s with heap := h', toks := t' } := by
  have nit : ∀ b u, H b = some u → b ≠ it := fun b u e z => by rw [z, hn] at e; cases e
  refine I.step (g' := s.gens) (d' := s.drawn) (ch := [it]) (fun b hb => ?_) (fun b o _ _ hc e _ => k b o (fun z => hc (by simp [z])) e) (fun b o _ _ hc e _ => ⟨o.slots, k b o (fun z => hc (by simp [z])) e⟩) (fun _ _ _ _ n => n)
    (fun b o hc e => ⟨o, k b o (fun z => hc (by simp [z])) e⟩) (fun _ _ e => e) (fun _ _ _ e => e) (fun b ps e => ⟨#[], by rw [e]; simp⟩) (fun m hm => ?_) (fun b u e => ?_) I.bare
  · have e : b = it := by simpa using hb
    subst e
    exact ⟨h1, hL, h2, h3⟩
  · obtain ⟨o, es, ep, ho, r⟩ := hm
    exact ⟨o, es, ep, k _ o (Ne.symm hL) ho, r⟩
  · refine (I.hok b u e).stay (fun c v hc q => k c v ?_ q) (fun _ q => q) fun _ _ q => q
    rcases hc with z | z
    · rw [z]; exact nit b u e
    · exact nit c _ z
theorem Inv.tok (I : Inv X pins σ H s) (t : Nat) : Inv X pins σ H { s with toks := t } := I.un (h' := s.heap) (t' := t) Un.refl I.hok
theorem Inv.kept {t' : Nat} (I : Inv X pins σ H s) (k : ∀ b u, s.heap.get? b = some u → h'.get? b = some u) : Inv X pins σ H { s with heap := h', toks := t' } := I.un (Un.kept k) (I.hok.kept k)
theorem Inv.laid {a : Addr} {o : HO} {t' : Nat} (I : Inv X pins σ H s) (k : ∀ b u, s.heap.get? b = some u → h'.get? b = some u) (hp : s.heap.objs.size ≤ a) (new : ObjOk X.prog X.w (upd H a o) h' a o) :
    Inv X pins σ (upd H a o) { s with heap := h', toks := t' } := I.un (Un.laid k hp (I.hok.fresh hp)) (I.hok.laid k hp new)
theorem Inv.write {x e : Addr} {o : HO} {t' : Nat} (I : Inv X pins σ H s) (mu : Mut (H x)) (he : e = x ∨ H e = some (.own x)) (k : ∀ b u, b ≠ e → s.heap.get? b = some u → h'.get? b = some u) (heo : ∃ u, h'.get? e = some u)
    (new : ObjOk X.prog X.w (upd H x o) h' x o) : Inv X pins σ (upd H x o) { s with heap := h', toks := t' } := I.un (Un.write mu he k heo) (I.hok.write mu he k heo new)
theorem Inv.pins_of {pins' : List (Addr × Obj)} (I : Inv X pins σ H s) (h : ∀ p ∈ pins', s.heap.get? p.1 = some p.2 ∧ H p.1 = none ∧ p.1 ≠ X.env.locals ∧ p.1 ∉ X.fs ∧ ∀ v, p.2.data ≠ .cell v) : Inv X pins' σ H s :=
  ⟨I.ok, I.os, I.bare, I.base, I.loc, I.cell, I.free, I.freeC, fun p hp => (List.mem_append.mp hp).elim (fun z => I.pin p (List.mem_append_left _ z)) (h p), I.hok, I.len⟩
theorem nodup_ix {N : List Str} (hN : N.Nodup) {i j : Nat} {x : Str} (a : N[i]? = some x) (b : N[j]? = some x) : i = j := by
  obtain ⟨h1, e1⟩ := List.getElem?_eq_some_iff.mp a
  obtain ⟨h2, e2⟩ := List.getElem?_eq_some_iff.mp b
  exact (List.getElem_inj hN).mp (e1.trans e2.symm)
theorem store_ok2 {M : Model} {A : Around} {E : Value → Shared → Prop} {i : Nat} {x : Str} {v : V} {u : Value} {Q : Unit → Shared → Prop} (I : Inv X pins σ H s) (hN : X.N.Nodup) (hi : X.N[i]? = some x) (hx : Loc X.env.scope x) (r : RelV v u)
    (h : ∀ s', Inv X pins (σ.set i (some v)) H s' → (∃ a, Heap.SameBut a s.heap s'.heap ∧ (a = X.env.locals ∨ X.env.cells.lookup x = some a)) → Q () s') (hf : X.fn x = true ∨ X.env.scope.names.lookup x = some .local := by first | exact .inl rfl | exact .inr rfl | assumption) : wpAny M A (storeName X.env x u) Q E s := by
  obtain ⟨m, hn, hl⟩ := id I.loc
  have hcls : (X.env.scope.kind == .class || (X.env.scope.kind == .module && X.env.locals != X.env.globals)) = false := by rw [I.ok.kind]; rfl
  have hiσ : i < σ.length := by rw [I.len]; exact (List.getElem?_eq_some_iff.mp hi).1
  have cne := I.cne
  have tracked : ∀ {a : Addr} {h' : Heap}, (∃ o, s.heap.get? a = some o ∧ H a = none) → Heap.SameBut a s.heap h' → HOk X.prog X.w H h' := fun {a h'} ha hs b ob e => by
    obtain ⟨_, _, hfree⟩ := ha
    refine (I.hok b ob e).stay (fun c w' hc q => (hs.2 c ?_).trans q) (fun _ q => q) fun _ _ q => q
    rintro rfl
    rcases hc with rfl | hc
    · rw [hfree] at e; cases e
    · rw [hfree] at hc; cases hc
  rcases hx with hk | hk
  · refine wpAny_storeName_local hk hn (fun h' hn' hs => ?_) hcls
    obtain ⟨oL, _, _, hoL, _⟩ := id hn
    refine h _ ⟨I.ok, I.os, I.bare, ⟨fun b o e n hb hx => ?_, fun b o e n hb hx => ?_, I.base.free, fun b o e hx => ?_, I.base.tups, I.base.frzs, I.base.tbls⟩, ⟨_, hn', fun j y v' e1 e2 e3 => ?_⟩, fun y c e => ?_, I.free, I.freeC, fun p hp => ?_, tracked ⟨oL, hoL, I.free⟩ hs, by simpa using I.len⟩ ⟨_, hs, .inl rfl⟩
    · exact (hs.2 b (Nat.ne_of_lt (Nat.lt_of_lt_of_le (Heap.lt_size e) I.ok.above))).trans (I.base.keep b o e n hb hx)
    · obtain ⟨sl, e1⟩ := I.base.slot b o e n hb hx
      exact ⟨sl, (hs.2 b (Nat.ne_of_lt (Nat.lt_of_lt_of_le (Heap.lt_size e) I.ok.above))).trans e1⟩
    · obtain ⟨o', e1⟩ := I.base.there b o e hx
      exact ⟨o', (hs.2 b (Nat.ne_of_lt (Nat.lt_of_lt_of_le (Heap.lt_size e) I.ok.above))).trans e1⟩
    · by_cases hj : j = i
      · subst hj
        rw [hi] at e1; cases e1
        rw [List.getElem?_set_self hiσ] at e2
        cases e2
        exact ⟨u, r, .inl ⟨hk, by simp⟩⟩
      · rw [List.getElem?_set_ne (Ne.symm hj)] at e2
        obtain ⟨u', r', q⟩ := hl j y v' e1 e2 e3
        refine ⟨u', r', ?_⟩
        rcases q with ⟨k, e⟩ | ⟨k, c, e, z⟩
        · refine .inl ⟨k, ?_⟩
          have : y ≠ x := fun e => hj (nodup_ix hN e1 (e ▸ hi))
          simp [this, e]
        · exact .inr ⟨k, c, e, z.sameBut hs (cne y c e)⟩
    · obtain ⟨w', z⟩ := I.cell y c e
      exact ⟨w', z.sameBut hs (cne y c e)⟩
    · obtain ⟨e, n, ne, nf, d⟩ := I.pin p hp
      exact ⟨(hs.2 p.1 ne).trans e, n, ne, nf, d⟩
  · have hfn : X.fn x = true := by
      rcases hf with z | z
      · exact z
      · rw [z] at hk; cases hk
    obtain ⟨c, hc⟩ := I.ok.has x (.inl hk)
    obtain ⟨w', z⟩ := I.cell x c hc
    refine wpAny_storeName_cell I.ok.kind hk hc z (fun h' hc' hs => ?_)
    obtain ⟨oc, hoc, hocd⟩ := id z
    refine h { s with heap := h' } ⟨I.ok, I.os, I.bare, ⟨fun b o e n hb hx => ?_, fun b o e n hb hx => ?_, I.base.free, fun b o e hx => ?_, I.base.tups, I.base.frzs, I.base.tbls⟩, ⟨m, hn.sameBut hs (Ne.symm (cne x c hc)), fun j y v' e1 e2 e3 => ?_⟩, fun y c' e => ?_, I.free, I.freeC, fun p hp => ?_, tracked ⟨oc, hoc, I.freeC x c hc⟩ hs, by simpa using I.len⟩ ⟨c, hs, .inr hc⟩
    · exact (hs.2 b (Nat.ne_of_lt (Nat.lt_of_lt_of_le (Heap.lt_size e) (I.ok.cab x c hfn hc)))).trans (I.base.keep b o e n hb hx)
    · obtain ⟨sl, e1⟩ := I.base.slot b o e n hb hx
      exact ⟨sl, (hs.2 b (Nat.ne_of_lt (Nat.lt_of_lt_of_le (Heap.lt_size e) (I.ok.cab x c hfn hc)))).trans e1⟩
    · obtain ⟨o', e1⟩ := I.base.there b o e hx
      exact ⟨o', (hs.2 b (Nat.ne_of_lt (Nat.lt_of_lt_of_le (Heap.lt_size e) (I.ok.cab x c hfn hc)))).trans e1⟩
    · by_cases hj : j = i
      · subst hj
        rw [hi] at e1; cases e1
        rw [List.getElem?_set_self hiσ] at e2
        cases e2
        exact ⟨u, r, .inr ⟨.inl hk, c, hc, hc'⟩⟩
      · rw [List.getElem?_set_ne (Ne.symm hj)] at e2
        obtain ⟨u', r', q⟩ := hl j y v' e1 e2 e3
        refine ⟨u', r', ?_⟩
        rcases q with q | ⟨k, c', e, z'⟩
        · exact .inl q
        · refine .inr ⟨k, c', e, z'.sameBut hs ?_⟩
          rintro rfl
          exact hj (nodup_ix hN e1 (I.ok.inj _ _ _ e hc ▸ hi))
    · by_cases hcc : c' = c
      · subst hcc; exact ⟨_, hc'⟩
      · obtain ⟨w2, z2⟩ := I.cell y c' e
        exact ⟨w2, z2.sameBut hs hcc⟩
    · obtain ⟨e, n, ne, nf, d⟩ := I.pin p hp
      refine ⟨(hs.2 p.1 ?_).trans e, n, ne, nf, d⟩
      intro q
      rw [q, hoc] at e
      have q' : oc = p.2 := Option.some.inj e
      exact d w' (by rw [← q']; exact hocd)
theorem store_ok {M : Model} {A : Around} {E : Value → Shared → Prop} {i : Nat} {x : Str} {v : V} {u : Value} {Q : Unit → Shared → Prop} (I : Inv X pins σ H s) (hN : X.N.Nodup) (hi : X.N[i]? = some x) (hx : Loc X.env.scope x) (r : RelV v u)
    (h : ∀ s', Inv X pins (σ.set i (some v)) H s' → Q () s') (hf : X.fn x = true ∨ X.env.scope.names.lookup x = some .local := by first | exact .inl rfl | exact .inr rfl | assumption) : wpAny M A (storeName X.env x u) Q E s :=
  store_ok2 I hN hi hx r (fun s' I' _ => h s' I') hf
theorem Inv.call' {s' : Shared} {ch : List Addr} (I : Inv X pins σ H s) (ho : s'.os = s.os) (u : Un (frs X.stack) ch H H' s.heap s'.heap) (hok : HOk X.prog X.w H' s'.heap) (hg : AllBare s'.gens)
    (hch : ∀ b ∈ ch, (b ∈ X.ex ∨ X.s₀.heap.objs.size ≤ b) ∧ b ≠ X.env.locals ∧ (∀ x c, X.env.cells.lookup x = some c → c ≠ b) ∧ ∀ p ∈ X.pn ++ pins, p.1 ≠ b) : Inv X pins σ H' s' := by
  obtain ⟨h', g', d', t', o'⟩ := s'
  have e : o' = s.os := ho
  subst e
  exact I.call (g' := g') (t' := t') (d' := d') u hok hg hch
end
abbrev XK := Value → Option Addr → Hp → Prop
abbrev St := List (Option V)
abbrev VK := V → Hp → Prop
abbrev TE := St → Hp → VK → Prop
abbrev TT := St → Hp → (Bool → Hp → Prop) → Prop
abbrev TA := St → Hp → (List V → Hp → Prop) → Prop
structure Ends where
  nx : St → Hp → Prop
  rt : VK
  bk : St → Hp → Prop := fun _ _ => False
  ct : St → Hp → Prop := fun _ _ => False
abbrev TS := Ends → St → Hp → Prop
def EP (X : Cx) (pins : List (Addr × Obj)) (σ : St) (Q : VK) (u : Value) (s' : Shared) : Prop := ∃ v H', Inv X pins σ H' s' ∧ RelV v u ∧ Q v H'
def TP (X : Cx) (pins : List (Addr × Obj)) (σ : St) (Q : Bool → Hp → Prop) (b : Bool) (s' : Shared) : Prop := ∃ H', Inv X pins σ H' s' ∧ Q b H'
def AP (X : Cx) (pins : List (Addr × Obj)) (σ : St) (Q : List V → Hp → Prop) (us : List Value) (s' : Shared) : Prop := ∃ vs H', Inv X pins σ H' s' ∧ Vals vs us ∧ Q vs H'
def SP (X : Cx) (pins : List (Addr × Obj)) (D : Ends) (f : Flow) (s' : Shared) : Prop :=
  match f with
  | .next => ∃ σ' H', Inv X pins σ' H' s' ∧ D.nx σ' H'
  | .brk => ∃ σ' H', Inv X pins σ' H' s' ∧ D.bk σ' H'
  | .cont => ∃ σ' H', Inv X pins σ' H' s' ∧ D.ct σ' H'
  | .ret u => ∃ v σ' H', Inv X pins σ' H' s' ∧ RelV v u ∧ D.rt v H'
def PE (X : Cx) (e : Expr) (t : TE) : Prop :=
  ∀ (pins : List (Addr × Obj)) (s : Shared) (σ : St) (H : Hp) (Q : VK), Inv X pins σ H s → t σ H Q → wpAny (model X.prog X.w) X.A (eval e X.env) (EP X pins σ Q) X.xe s
def PT (X : Cx) (e : Expr) (t : TT) : Prop :=
  ∀ (pins : List (Addr × Obj)) (s : Shared) (σ : St) (H : Hp) (Q : Bool → Hp → Prop), Inv X pins σ H s → t σ H Q → wpAny (model X.prog X.w) X.A (isTrue e X.env (eval e X.env)) (TP X pins σ Q) X.xe s
def PW (X : Cx) (e : Expr) (t : TT) : Prop :=
  ∀ (whole : Sem Value) (pins : List (Addr × Obj)) (s : Shared) (σ : St) (H : Hp) (Q : Bool → Hp → Prop), Inv X pins σ H s → t σ H Q → wpAny (model X.prog X.w) X.A (isTrue e X.env whole) (TP X pins σ Q) X.xe s
theorem PW.pt {X : Cx} {e : Expr} {t : TT} (h : PW X e t) : PT X e t := h _
def PA (X : Cx) (es : List Expr) (t : TA) : Prop :=
  ∀ (pos : Pos) (pins : List (Addr × Obj)) (s : Shared) (σ : St) (H : Hp) (Q : List V → Hp → Prop), Inv X pins σ H s → t σ H Q → wpAny (model X.prog X.w) X.A (spliced (backTo pos (starEach es X.env))) (AP X pins σ Q) X.xe s
def PS (X : Cx) (st : Stmt) (t : TS) : Prop :=
  ∀ (pins : List (Addr × Obj)) (s : Shared) (σ : St) (H : Hp) (D : Ends), Inv X pins σ H s → t D σ H → wpAny (model X.prog X.w) X.A (exec st X.env) (SP X pins D) X.xe s
def PSs (X : Cx) (st : List Stmt) (t : TS) : Prop :=
  ∀ (pins : List (Addr × Obj)) (s : Shared) (σ : St) (H : Hp) (D : Ends), Inv X pins σ H s → t D σ H → wpAny (model X.prog X.w) X.A (execs st X.env) (SP X pins D) X.xe s
theorem thn {α : Type} {t : Sem α} {Q Q' : α → Shared → Prop} {M : Model} {A : Around} {E : Value → Shared → Prop} {s : Shared} (h : wpAny M A t Q E s) (hQ : ∀ a s, Q a s → Q' a s) : wpAny M A t Q' E s := wpAny_mono h hQ fun _ _ x => x
end L2
namespace L2
open PySem PySem.Spec PyProof.Rows
section
variable {X : Cx}
def tVar (i : Nat) : TE := fun σ H Q => ∃ v, σ[i]? = some (some v) ∧ Q v H
def tC (v : V) : TE := fun _ H Q => Q v H
theorem pe_var {i : Nat} {x : Str} {pos : Pos} (hN : X.N[i]? = some x) (hv : Vis X.env.scope x) (hd : (x == ("__debug__" : Str)) = false := by decide) (hcd : (x == ("__classdict__" : Str)) = false := by decide) : PE X (.Name x pos) (tVar i) := by
  intro pins s σ H Q I h
  obtain ⟨v, e, h⟩ := h
  obtain ⟨m, hn, hl⟩ := I.loc
  obtain ⟨u, r, l⟩ := hl i x v hN e hv
  have fin : EP X pins σ Q u s := ⟨v, H, I, r, h⟩
  rcases l with ⟨hk, hm⟩ | ⟨hk, c, hc, hcell⟩
  · exact wpAny_Name (wpAny_loadName_local I.ok.kind hk hn hm fin) hd
  · rcases hk with hk | hk
    · exact wpAny_Name (wpAny_loadName_cell I.ok.kind hk hc hcell fin) hd
    · exact wpAny_Name (wpAny_loadName_free I.ok.kind hk hc hcell fin hcd) hd
theorem pe_int {i j pos} : PE X (.Constant (.int i) j pos) (tC (.int i)) := fun _ _ _ H _ I h => wpAny_Constant_int ⟨.int i, H, I.tok _, ⟨_, rfl⟩, h⟩
theorem pe_bl {b j pos} : PE X (.Constant (.bool b) j pos) (tC (.bl b)) := fun _ _ _ H _ I h => Constant_bool ⟨.bl b, H, I, rfl, h⟩
theorem pe_non {j pos} : PE X (.Constant .none j pos) (tC .non) := fun _ _ _ H _ I h => Constant_none ⟨.non, H, I, rfl, h⟩
theorem pe_str {x j pos} : PE X (.Constant (.str x) j pos) (tC (.str x)) := fun _ _ _ H _ I h => Calls.Constant_str ⟨.str x, H, I.tok _, ⟨_, rfl⟩, h⟩
def Gl (X : Cx) (x : Str) : Prop := X.env.kindOf x = some .globalImplicit
theorem ld_glob {E : Value → Shared → Prop} {pins : List (Addr × Obj)} {s : Shared} {σ : St} {H : Hp} {x : Str} {u : Value} {pos : Pos} {Q : Value → Shared → Prop} (I : Inv X pins σ H s) (hg : Gl X x) (hm : X.mg x = some u) (h : Q u s)
    (hd : (x == ("__debug__" : Str)) = false := by decide) : wpAny (model X.prog X.w) X.A (eval (.Name x pos) X.env) Q E s :=
  Calls.Name_function_global I.ok.kind hg (Calls.loadGlobal_global (by rw [I.ok.glob]; exact I.mod.glob.keeps I.bk) hm h) hd
theorem ld_blt {E : Value → Shared → Prop} {pins : List (Addr × Obj)} {s : Shared} {σ : St} {H : Hp} {x : Str} {u : Value} {pos : Pos} {Q : Value → Shared → Prop} (I : Inv X pins σ H s) (hg : Gl X x) (hm : X.mg x = none) (hv : bootBuiltins x = some u) (h : Q u s)
    (hn : x ≠ "__name__" := by decide) (hd : (x == ("__debug__" : Str)) = false := by decide) : wpAny (model X.prog X.w) X.A (eval (.Name x pos) X.env) Q E s := by
  obtain ⟨mb, h1, h2⟩ := I.mod.blt
  exact Calls.Name_function_global I.ok.kind hg (Calls.loadGlobal_builtin (by rw [I.ok.glob]; exact I.mod.glob.keeps I.bk) hm (by rw [I.ok.blt]; exact h1.keeps I.bk) ((h2 x hn).trans hv) h) hd
theorem pe_glob {x : Str} {v : V} {u : Value} {pos : Pos} (hg : Gl X x) (hm : X.mg x = some u) (r : RelV v u) (hd : (x == ("__debug__" : Str)) = false := by decide) : PE X (.Name x pos) (tC v) :=
  fun _ _ _ H _ I h => ld_glob I hg hm ⟨v, H, I, r, h⟩ hd
theorem pe_bltn {x : Str} {v : V} {u : Value} {pos : Pos} (hg : Gl X x) (hm : X.mg x = none) (hv : bootBuiltins x = some u) (r : RelV v u) (hn : x ≠ "__name__" := by decide) (hd : (x == ("__debug__" : Str)) = false := by decide) : PE X (.Name x pos) (tC v) :=
  fun _ _ _ H _ I h => ld_blt I hg hm hv ⟨v, H, I, r, h⟩ hn hd
variable {a b : Expr} {ta tb : TE} {pos : Pos}
def tB (t : TE) : TT := fun σ H Q => t σ H fun x H1 => ∃ c, x = .bl c ∧ Q c H1
theorem pt_val {e : Expr} {t : TE} (h : PE X e t) (he : ∀ whole, isTrue e X.env whole = (do let v ← whole; standAt e.pos; holding [v] (truthy v)) := by intro _; rfl) : PT X e (tB t) := by
  intro pins s σ H Q I hw
  refine isTrue_plain (thn (h pins s σ H _ I hw) fun v s1 ⟨x, H1, I1, r1, q1⟩ => ?_) (he _)
  obtain ⟨d, rfl, q⟩ := q1
  cases r1
  exact wpAny_truthy_bool ⟨H1, I1, q⟩
variable {tA tB' : TT} {rest : List Expr}
def tOr (t u : TT) : TT := fun σ H Q => t σ H fun c H1 => if c = true then Q true H1 else u σ H1 Q
def tNot (t : TT) : TT := fun σ H Q => t σ H fun c H1 => Q (!c) H1
theorem pw_or1 (ha : PT X a tA) : PW X (.BoolOp .Or [a] pos) tA := by
  intro wh pins s σ H Q I h
  refine isTrue_or (thn (ha pins s σ H Q I h) fun c s1 e => ?_)
  cases c with
  | false => exact isTrue_or_nil e
  | true => exact e
theorem pw_or (ha : PT X a tA) (hb : PW X (.BoolOp .Or (b :: rest) pos) tB') : PW X (.BoolOp .Or (a :: b :: rest) pos) (tOr tA tB') := by
  intro wh pins s σ H Q I h
  refine isTrue_or (thn (ha pins s σ H _ I h) fun c s1 ⟨H1, I1, q1⟩ => ?_)
  cases c with
  | true => exact ⟨H1, I1, q1⟩
  | false => exact hb wh pins s1 σ H1 Q I1 q1
theorem pt_not (ha : PT X a tA) : PT X (.UnaryOp .Not a pos) (tNot tA) := by
  intro pins s σ H Q I h
  exact isTrue_not (ha pins s σ H (fun c H1 => Q (!c) H1) I h)
def tAndV (ta tb : TE) : TE := fun σ H Q => ta σ H fun x H1 => ∃ c, x = .bl c ∧ if c = true then tb σ H1 Q else Q (.bl false) H1
theorem pe_one {op} {t : TE} (h : PE X a t) : PE X (.BoolOp op [a] pos) t := fun pins s σ H Q I hw => BoolOp_one (h pins s σ H Q I hw)
theorem pe_and (ha : PE X a ta) (hb : PE X (.BoolOp .And (b :: rest) pos) tb) : PE X (.BoolOp .And (a :: b :: rest) pos) (tAndV ta tb) := by
  intro pins s σ H Q I h
  refine BoolOp_and (thn (ha pins s σ H _ I h) fun v s1 ⟨x, H1, I1, r1, q1⟩ => ?_)
  obtain ⟨c, rfl, q1⟩ := q1
  cases r1
  refine wpAny_truthy_bool ?_
  cases c with
  | true => exact hb pins s1 σ H1 Q I1 q1
  | false => exact ⟨.bl false, H1, I1, rfl, q1⟩
end
end L2
namespace L2
open PySem PySem.Spec PyProof.Rows
def SqL (K : PySem.W.Frag) (H : Hp) (a : Addr) (xs : List V) : Prop :=
  Rd H a (.lst xs) ∨
    ∃ (o : Obj) (its : Array Value) (n : Nat), K.lookup a = some o ∧ o.cls = .type "list" ∧ o.dict = none ∧ o.data = .seq its n ∧ its.size ≤ sizeLine ∧ Vals xs its.toList
def SqT (K : PySem.W.Frag) (H : Hp) (a : Addr) (xs : List V) : Prop :=
  Rd H a (.tup xs) ∨
    ∃ (o : Obj) (its : Array Value) (n : Nat), K.lookup a = some o ∧ o.cls = .type "tuple" ∧ o.data = .seq its n ∧ its.size ≤ sizeLine ∧ Vals xs its.toList
def absV : Value → Option V
  | .none => some .non
  | .bool b => some (.bl b)
  | .int i _ => some (.int i)
  | .str x _ => some (.str x)
  | .bytes b _ => some (.byt b)
  | .float b _ => some (.flt b)
  | .ref a => some (.ref a)
  | .type n => some (.ty n)
  | _ => none
theorem RelV.abs {x : V} {u : Value} (r : RelV x u) : absV u = some x := by
  cases x with
  | non => cases r; rfl
  | bl _ => cases r; rfl
  | int _ => obtain ⟨t, rfl⟩ := r; rfl
  | str _ => obtain ⟨t, rfl⟩ := r; rfl
  | byt _ => obtain ⟨t, rfl⟩ := r; rfl
  | flt _ => obtain ⟨t, rfl⟩ := r; rfl
  | ref _ => cases r; rfl
  | ty _ => cases r; rfl
theorem RelV.inj {x y : V} {u : Value} (r : RelV x u) (q : RelV y u) : x = y := Option.some.inj (r.abs.symm.trans q.abs)
theorem Vals.inj : ∀ {xs ys : List V} {us : List Value}, Vals xs us → Vals ys us → xs = ys
  | _, _, _, .nil, .nil => rfl
  | _, _, _, .cons r t, .cons r' t' => by rw [r.inj r', Vals.inj t t']
section
variable {X : Cx} {pins : List (Addr × Obj)} {σ : St} {H : Hp} {s : Shared} {a : Addr} {xs ys : List V}
theorem SqL.of {K : PySem.W.Frag} (h : H a = some (.lst xs)) : SqL K H a xs := .inl (.inl h)
theorem SqT.of {K : PySem.W.Frag} (h : H a = some (.tup xs)) : SqT K H a xs := .inl (.inl h)
theorem Inv.list (I : Inv X pins σ H s) (h : SqL X.K H a xs) : ∃ its : List Value, Vals xs its ∧ PlainL s.heap a its.toArray ∧ xs.length ≤ sizeLine := by
  rcases h with h | ⟨o, its, n, hk, hc, hd, hs, hz, r⟩
  · obtain ⟨z, its, n, r, e⟩ := h.ok I.hok
    exact ⟨its, r, ⟨_, n, e, rfl, rfl, rfl⟩, z⟩
  · refine ⟨its.toList, r, ⟨o, n, I.kIn a o hk, hc, hd, by simpa using hs⟩, ?_⟩
    have e := r.length
    simp only [Array.length_toList] at e
    omega
theorem Inv.tuple (I : Inv X pins σ H s) (h : SqT X.K H a xs) : ∃ its : List Value, Vals xs its ∧ IsTup s.heap a its.toArray ∧ xs.length ≤ sizeLine := by
  rcases h with h | ⟨o, its, n, hk, hc, hs, hz, r⟩
  · obtain ⟨z, its, r, p⟩ := h.ok I.hok
    exact ⟨its, r, p, z⟩
  · refine ⟨its.toList, r, ⟨o, I.kIn a o hk, hc, n, by simpa using hs⟩, ?_⟩
    have e := r.length
    simp only [Array.length_toList] at e
    omega
end
abbrev Cx.wish (X : Cx) (E : Value → Shared → Prop) : Cx := { X with xe := E }
abbrev Cx.nox (X : Cx) : Cx := X.wish fun _ _ => False
theorem Cx.Ok.wish {X : Cx} (ok : X.Ok) (E : Value → Shared → Prop) : (X.wish E).Ok :=
  ⟨ok.mod, ok.kind, ok.glob, ok.blt, ok.above, ok.inj, ok.has, ok.cab, ok.hd, ok.frames, ok.stk, ok.exf, ok.bs, ok.bsz, ok.noex, ok.exfs, ok.funs, ok.frf⟩
theorem Cx.Ok.unwish {X : Cx} {E : Value → Shared → Prop} (ok : (X.wish E).Ok) : X.Ok :=
  ⟨ok.mod, ok.kind, ok.glob, ok.blt, ok.above, ok.inj, ok.has, ok.cab, ok.hd, ok.frames, ok.stk, ok.exf, ok.bs, ok.bsz, ok.noex, ok.exfs, ok.funs, ok.frf⟩
section
variable {X : Cx} {pins : List (Addr × Obj)} {σ : St} {H : Hp} {s : Shared} {E : Value → Shared → Prop}
theorem Inv.wish (I : Inv X pins σ H s) (E : Value → Shared → Prop) : Inv (X.wish E) pins σ H s := ⟨I.ok.wish E, I.os, I.bare, I.base, I.loc, I.cell, I.free, I.freeC, I.pin, I.hok, I.len⟩
theorem Inv.unwish (I : Inv (X.wish E) pins σ H s) : Inv X pins σ H s := ⟨I.ok.unwish, I.os, I.bare, I.base, I.loc, I.cell, I.free, I.freeC, I.pin, I.hok, I.len⟩
theorem SP.unwish {D : Ends} {f : Flow} {s' : Shared} (h : SP (X.wish E) pins D f s') : SP X pins D f s' := by
  cases f with
  | next => obtain ⟨σ', H', I, q⟩ := h; exact ⟨σ', H', I.unwish, q⟩
  | brk => obtain ⟨σ', H', I, q⟩ := h; exact ⟨σ', H', I.unwish, q⟩
  | cont => obtain ⟨σ', H', I, q⟩ := h; exact ⟨σ', H', I.unwish, q⟩
  | ret u => obtain ⟨v, σ', H', I, r, q⟩ := h; exact ⟨v, σ', H', I.unwish, r, q⟩
theorem PE.nox {e : Expr} {t : TE} (h : PE X.nox e t) : PE X e t := fun pins s σ H Q I hw =>
  wpAny_mono (h pins s σ H Q (I.wish _) hw) (fun _ _ ⟨v, H', I', r, q⟩ => ⟨v, H', I'.unwish, r, q⟩) fun _ _ z => False.elim z
theorem PT.nox {e : Expr} {t : TT} (h : PT X.nox e t) : PT X e t := fun pins s σ H Q I hw =>
  wpAny_mono (h pins s σ H Q (I.wish _) hw) (fun _ _ ⟨H', I', q⟩ => ⟨H', I'.unwish, q⟩) fun _ _ z => False.elim z
theorem PSs.nox {st : List Stmt} {t : TS} (h : PSs X.nox st t) : PSs X st t := fun pins s σ H D I hw =>
  wpAny_mono (h pins s σ H D (I.wish _) hw) (fun _ _ q => q.unwish) fun _ _ z => False.elim z
end
section
variable {X : Cx} {st : Stmt} {rest : List Stmt} {t u : TS} {e : Expr} {te : TE} {pos : Pos}
def tNext : TS := fun D σ H => D.nx σ H
def tSeq (t u : TS) : TS := fun D σ H => t { D with nx := u D } σ H
theorem pss_nil : PSs X [] tNext := fun _ _ σ H _ I h => wpAny_execs_nil ⟨σ, H, I, h⟩
theorem pss_cons (h1 : PS X st t) (h2 : PSs X rest u) : PSs X (st :: rest) (tSeq t u) := by
  intro pins s σ H D I h
  refine wpAny_execs_cons (thn (h1 pins s σ H { D with nx := u D } I h) fun f s1 q => ?_)
  cases f with
  | next =>
    obtain ⟨σ', H', I', q⟩ := q
    exact h2 pins s1 σ' H' D I' q
  | ret v => exact q
  | brk => exact q
  | cont => exact q
theorem pss_one (h1 : PS X st t) : PSs X [st] t := by
  intro pins s σ H D I h
  refine wpAny_execs_cons (thn (h1 pins s σ H D I h) fun f s1 q => ?_)
  cases f with
  | next => exact wpAny_execs_nil q
  | ret v => exact q
  | brk => exact q
  | cont => exact q
theorem Inv.quiet {pins : List (Addr × Obj)} {σ : St} {H : Hp} {s : Shared} (I : Inv X pins σ H s) : interactive X.env = false := by simp [interactive, I.ok.kind]
def tDrop (te : TE) : TS := fun D σ H => te σ H fun _ H1 => D.nx σ H1
theorem ps_expr (he : PE X e te) (hs : swapsWith e none pos.line X.env = pure false := by rfl) : PS X (.Expr e pos) (tDrop te) := by
  intro pins s σ H D I h
  exact wpAny_Expr_any (thn (he pins s σ H _ I h) fun v s1 ⟨x, H1, I1, r1, q1⟩ => ⟨σ, H1, I1, q1⟩) I.quiet hs
def tRet (te : TE) : TS := fun D σ H => te σ H D.rt
theorem ps_ret (he : PE X e te) : PS X (.Return (some e) pos) (tRet te) := by
  intro pins s σ H D I h
  exact wpAny_Return_some (thn (he pins s σ H _ I h) fun v s1 ⟨x, H1, I1, r1, q1⟩ => ⟨x, σ, H1, I1, r1, q1⟩)
def tIfS (c : TT) (t u : TS) : TS := fun D σ H => c σ H fun b H1 => if b = true then t D σ H1 else u D σ H1
theorem ps_if {c : Expr} {a b : List Stmt} {tc : TT} (hc : PT X c tc) (ha : PSs X a t) (hb : PSs X b u) : PS X (.If c a b pos) (tIfS tc t u) := by
  intro pins s σ H D I h
  refine wpAny_If (thn (hc pins s σ H _ I h) fun d s1 ⟨H1, I1, q1⟩ => ?_)
  cases d with
  | true => exact ha pins s1 σ H1 D I1 q1
  | false => exact hb pins s1 σ H1 D I1 q1
end
abbrev TG := V → St → Hp → (St → Hp → Prop) → Prop
def PG (X : Cx) (target : Expr) (t : TG) : Prop :=
  ∀ (pins : List (Addr × Obj)) (s : Shared) (σ : St) (H : Hp) (v : V) (u : Value) (Q : St → Hp → Prop), Inv X pins σ H s → RelV v u → t v σ H Q →
    wpAny (model X.prog X.w) X.A (assign target X.env u) (fun _ s' => ∃ σ' H', Inv X pins σ' H' s' ∧ Q σ' H') X.xe s
abbrev TSet := V → V → V → Hp → (Hp → Prop) → Prop
def PSet (X : Cx) (t : TSet) : Prop :=
  ∀ (pins : List (Addr × Obj)) (s : Shared) (σ : St) (H : Hp) (o i v : V) (ov iv u : Value) (Q : Hp → Prop), Inv X pins σ H s → RelV o ov → RelV i iv → RelV v u → t o i v H Q →
    wpAny (model X.prog X.w) X.A (setItem ov iv u) (fun _ s' => ∃ H', Inv X pins σ H' s' ∧ Q H') X.xe s
section
variable {X : Cx} {pos : Pos}
def gName (i : Nat) : TG := fun v σ H Q => Q (σ.set i (some v)) H
theorem pg_name {i : Nat} {x : Str} (hN : X.N.Nodup) (hi : X.N[i]? = some x) (hx : Loc X.env.scope x) (hf : X.fn x = true ∨ X.env.scope.names.lookup x = some .local := by first | exact .inl rfl | exact .inr rfl | assumption) : PG X (.Name x pos) (gName i) := by
  intro pins s σ H v u Q I r h
  exact wpAny_assign_Name (store_ok I hN hi hx r (fun s' I' => ⟨_, H, I', h⟩) hf)
def gSub (to ti : TE) (t : TSet) : TG := fun v σ H Q => to σ H fun o H1 => ti σ H1 fun i H2 => t o i v H2 fun H3 => Q σ H3
theorem pg_sub {o i : Expr} {to ti : TE} {t : TSet} (ho : PE X o to) (hi : PE X i ti) (hs : PSet X t)
    (ha : ∀ v, assign (.Subscript o i pos) X.env v = (do
      let ov ← holding [v] (eval o X.env)
      let iv ← holding [v, ov] (eval i X.env)
      standAt pos
      holding [v, ov, iv] (setItem ov iv v)
      release [v, ov, iv] []) := by intro _; rfl) : PG X (.Subscript o i pos) (gSub to ti t) := by
  intro pins s σ H v u Q I r h
  rw [ha]
  refine wpAny_bind (wpAny_holding (thn (ho pins s σ H _ I h) fun ov s1 ⟨x, H1, I1, r1, q1⟩ => ?_))
  refine wpAny_bind (wpAny_holding (thn (hi pins s1 σ H1 _ I1 q1) fun iv s2 ⟨y, H2, I2, r2, q2⟩ => ?_))
  refine wpAny_bind (wpAny_standAt (wpAny_bind (wpAny_holding (thn (hs pins s2 σ H2 x y v ov iv u _ I2 r1 r2 r q2) fun _ s3 ⟨H3, I3, q3⟩ => ?_))))
  exact wpAny_release ⟨σ, H3, I3, q3⟩
def tAsg (te : TE) (g : TG) : TS := fun D σ H => te σ H fun x H1 => g x σ H1 D.nx
theorem ps_asg {tg e : Expr} {te : TE} {g : TG} (he : PE X e te) (hg : PG X tg g) (hs : swapsWithSole [tg] e pos.line X.env = pure false := by rfl) (hw : swappedStores [tg] e X.env = pure none := by rfl)
    (h1 : (assignEach [tg] X.env).map (·.2) = [assign tg X.env] := by rfl) : PS X (.Assign [tg] e pos) (tAsg te g) := by
  intro pins s σ H D I h
  refine wpAny_Assign_stores (thn (he pins s σ H _ I h) fun v s1 ⟨x, H1, I1, r1, q1⟩ => ?_) hs hw
  rw [h1]
  exact thn (hg pins s1 σ H1 x v _ I1 r1 q1) fun _ s2 q => q
theorem ps_set {i : Nat} {x : Str} {e : Expr} {te : TE} {pos' : Pos} (hN : X.N.Nodup) (hi : X.N[i]? = some x) (hx : Loc X.env.scope x) (he : PE X e te) (hs : swapsWith e (some (.Name x pos')) pos.line X.env = pure false := by rfl) (hf : X.fn x = true ∨ X.env.scope.names.lookup x = some .local := by first | exact .inl rfl | exact .inr rfl | assumption) :
    PS X (.Assign [.Name x pos'] e pos) (tAsg te (gName i)) := by
  intro pins s σ H D I h
  refine wpAny_Assign_Name (thn (he pins s σ H _ I h) fun v s1 ⟨y, H1, I1, r1, q1⟩ => ?_) hs
  exact store_ok I1 hN hi hx r1 (fun s2 I2 => ⟨_, H1, I2, q1⟩) hf
end
section
variable {X : Cx} {pos : Pos}
end
structure It where
  go : Nat → Hp → Prop
  yld : Nat → Hp → V → Hp → Prop
  stop : Nat → Hp → Prop
def FpOk (X : Cx) (pins : List (Addr × Obj)) (H : Hp) (b : Addr) : Prop :=
  H b = none ∧ b ≠ X.env.locals ∧ b ∉ X.fs ∧ (b ∈ X.ex ∨ X.s₀.heap.objs.size ≤ b) ∧ (∀ x c, X.env.cells.lookup x = some c → c ≠ b) ∧ ∀ p ∈ X.pn ++ pins, p.1 ≠ b
theorem Inv.fpOk {X : Cx} {pins : List (Addr × Obj)} {σ : St} {H H' : Hp} {s : Shared} {b : Addr} (I : Inv X pins σ H s) (hb : s.heap.objs.size ≤ b) (hn : H' b = none) : FpOk X pins H' b := by
  refine ⟨hn, Nat.ne_of_gt (Nat.lt_of_lt_of_le I.lt hb), I.nofs hb, .inr (Nat.le_trans I.sz hb), fun x c e z => ?_, fun p hp z => ?_⟩
  · obtain ⟨v, q⟩ := I.cell x c e
    exact absurd (Nat.lt_of_lt_of_le q.lt (by rw [z]; exact hb)) (Nat.lt_irrefl _)
  · exact absurd (Nat.lt_of_lt_of_le (Heap.lt_size (I.pin p hp).1) (by rw [z]; exact hb)) (Nat.lt_irrefl _)
structure Turn (P : Program) (w : World) (K : PySem.W.Frag) (tg : Expr) (J : It) (fp : List Addr) (it : Addr) (tn : Nat → Heap → Prop) : Prop where
  mem : it ∈ fp
  obj : ∀ i h, tn i h → ∀ b ∈ fp, ∃ o, h.get? b = some o ∧ ∀ v, o.data ≠ .cell v
  keep : ∀ i h h', tn i h → (∀ b ∈ fp, ∀ o, h.get? b = some o → h'.get? b = some o) → tn i h'
  item : ∀ (X : Cx), X.prog = P → X.w = w → X.K = K → X.calm = true → ∀ (i : Nat) (pins : List (Addr × Obj)) (s : Shared) (σ : St) (H : Hp) (E : Value → Shared → Prop), Inv X pins σ H s → (∀ b ∈ fp, FpOk X pins H b) → tn i s.heap → J.go i H →
    wpAny (model P w) X.A (pyNext (.ref it)) (fun r s1 => ∃ u, r = some u ∧
      wpAny (model P w) X.A (letOwnedTupleGo tg (.ref it) u) (fun _ s2 => ∃ x H', Inv X pins σ H' s2 ∧ RelV x u ∧ J.yld i H x H' ∧ tn (i + 1) s2.heap ∧ ∀ b ∈ fp, H' b = none) E s1) E s
  done : ∀ (X : Cx), X.prog = P → X.w = w → X.K = K → X.calm = true → ∀ (i : Nat) (pins : List (Addr × Obj)) (s : Shared) (σ : St) (H : Hp) (E : Value → Shared → Prop), Inv X pins σ H s → (∀ b ∈ fp, FpOk X pins H b) → tn i s.heap → J.stop i H →
    wpAny (model P w) X.A (pyNext (.ref it)) (fun r s1 => r = none ∧ Inv X pins σ H s1) E s
  self : ∀ (A : Around) (i : Nat) (s : Shared) (Q : Value → Shared → Prop) (E : Value → Shared → Prop), tn i s.heap → Q (.ref it) s → wpAny (model P w) A (pyIter (.ref it)) Q E s
abbrev TI := St → Hp → (It → Hp → Prop) → Prop
def PIE (X : Cx) (pins : List (Addr × Obj)) (σ : St) (tg : Expr) (R : It → Hp → Prop) (itv : Value) (s2 : Shared) : Prop :=
  ∃ (it : Addr) (fp : List Addr) (tn : Nat → Heap → Prop) (J : It) (H' : Hp), itv = .ref it ∧ Inv X pins σ H' s2 ∧ Turn X.prog X.w X.K tg J fp it tn ∧ tn 0 s2.heap ∧ (∀ b ∈ fp, FpOk X pins H' b) ∧ R J H'
def PI (X : Cx) (tg iter : Expr) (wi : TI) : Prop :=
  ∀ (pins : List (Addr × Obj)) (s : Shared) (σ : St) (H : Hp) (R : It → Hp → Prop), Inv X pins σ H s → wi σ H R →
    wpAny (model X.prog X.w) X.A (eval iter X.env) (fun v s1 => wpAny (model X.prog X.w) X.A (pyIter v) (PIE X pins σ tg R) X.xe s1) X.xe s
theorem go_of {M : Model} {A : Around} {E : Value → Shared → Prop} {s : Shared} {tg : Expr} {it : Addr} {u : Value} {o : Obj} {n : String} {vs : Array Value} {Q : Unit → Shared → Prop} (ho : s.heap.get? it = some o) (hc : o.cls = .type n) (hd : o.data = .fields vs)
    (hn : ["enumerate", "zip", "dict_itemiterator", "dict_reverseitemiterator", "odict_iterator", "itertools.zip_longest", "itertools.pairwise"].contains n = false) (hQ : Q () s) : wpAny M A (letOwnedTupleGo tg (.ref it) u) Q E s := by
  unfold letOwnedTupleGo
  cases tg <;> first
    | exact wpAny_pure hQ
    | (cases u <;> first
        | exact wpAny_pure hQ
        | (refine wpAny_bind (wpAny_load ho ?_)
           rw [hc, hd]
           show wpAny M A (if (["enumerate", "zip", "dict_itemiterator", "dict_reverseitemiterator", "odict_iterator", "itertools.zip_longest", "itertools.pairwise"].contains n && vs[0]? == some (rawInt _)) = true then _ else _) Q E s
           rw [if_neg (by intro h; rw [hn, Bool.false_and] at h; cases h)]
           exact wpAny_pure hQ))
def Itr (lo : Int) (n : Nat) : It := ⟨fun i _ => i < n, fun i H x H' => H' = H ∧ x = .int (lo + i), fun i _ => n ≤ i⟩
theorem turn_range {P : Program} {w : World} {K : PySem.W.Frag} {tg : Expr} (it : Addr) (lo : Int) (n : Nat) : Turn P w K tg (Itr lo n) [it] it (fun i h => IsRangeIter h it (lo + (i : Nat) * 1) ((n : Int) - (i : Nat)) 1) where
  mem := by simp
  obj := fun i h st b hb => by
    have e : b = it := by simpa using hb
    subst e
    exact ⟨_, st, fun v z => by
      have z' : Data.fields _ = Data.cell v := z
      cases z'⟩
  keep := fun i h h' st k => k it (by simp) _ st
  item := by
    intro X hP hw hK hc i pins s σ H E I hf st hg
    subst hP hw hK
    obtain ⟨f0, f1, f2, f3, f4, f5⟩ := hf it (by simp)
    have W := Walks.range (prog := X.prog) (w := X.w) (I.ok.hd hc) it lo 1 n
    refine W.item i s _ _ hg st fun v h' tk hv st' kk => ?_
    obtain ⟨t, rfl⟩ := hv
    have I1 : Inv X pins σ H { s with heap := h', toks := tk } := I.turned (fun b o hb e => kk b o (by simpa using hb) e) f0 f1 f3 f4 f5
    refine ⟨_, rfl, go_of (s := { s with heap := h', toks := tk }) (n := "range_iterator") st' rfl rfl (by decide) ⟨.int (lo + i), H, I1, ⟨t, ?_⟩, ⟨rfl, rfl⟩, st', fun b hb => (hf b hb).1⟩⟩
    rw [Int.mul_one]
  done := by
    intro X hP hw hK hc i pins s σ H E I hf st hg
    subst hP hw hK
    obtain ⟨f0, f1, f2, f3, f4, f5⟩ := hf it (by simp)
    exact wpAny_pyNext_range_end (I.ok.hd hc) st (by have : n ≤ i := hg; omega) fun h' eb => ⟨rfl, I.turned (t' := s.toks) (fun b o hb e => eb b o hb e) f0 f1 f3 f4 f5⟩
  self := fun _ _ _ _ _ st h => wpAny_pyIter_rangeiter st h
end L2
namespace L2
open PySem PySem.Spec PyProof.Rows
section
variable {X : Cx} {tg : Expr}
theorem range_it {pins : List (Addr × Obj)} {σ : St} {H : Hp} {s : Shared} {R : It → Hp → Prop} {E : Value → Shared → Prop} {lo hi : Int} {t u v : Tok} {tk : Nat} (I : Inv X pins σ H s) (h1 : -(2 ^ 62) ≤ lo) (h2 : lo < 2 ^ 62) (h3 : -(2 ^ 62) ≤ hi) (h4 : hi < 2 ^ 62)
    (q : R (Itr lo (hi - lo).toNat) H) : wpAny (model X.prog X.w) X.A (pyIter (.ref s.heap.objs.size)) (PIE X pins σ tg R) E { s with heap := s.heap.push { cls := .type "range", data := .fields #[.int lo t, .int hi u, .int 1 v] }, toks := tk } := by
  refine wpAny_pyIter_range (IsRange.new ..) (small_one h1 h2 h3 h4) ?_
  have I1 : Inv X pins σ H { s with heap := s.heap.push { cls := .type "range", data := .fields #[.int lo t, .int hi u, .int 1 v] }, toks := tk } := I.kept fun b o e => Heap.get?_push_of_some _ e
  refine ⟨(s.heap.push { cls := .type "range", data := .fields #[.int lo t, .int hi u, .int 1 v] }).objs.size, [(s.heap.push { cls := .type "range", data := .fields #[.int lo t, .int hi u, .int 1 v] }).objs.size], _, _, H, rfl,
    I1.kept (t' := tk) fun b o e => Heap.get?_push_of_some _ e, turn_range _ lo (hi - lo).toNat, ?_, fun b hb => ?_, q⟩
  · have e1 : lo + ((0 : Nat) : Int) * 1 = lo := by simp
    have e2 : (((hi - lo).toNat : Nat) : Int) - ((0 : Nat) : Int) = Builtin.Range.rangeSize lo hi 1 := by rw [rangeSize_one]; split <;> omega
    show IsRangeIter _ _ (lo + ((0 : Nat) : Int) * 1) ((((hi - lo).toNat : Nat) : Int) - ((0 : Nat) : Int)) 1
    rw [e1, e2]
    exact Heap.get?_push_size _ rfl
  · have e : b = (s.heap.push { cls := .type "range", data := .fields #[.int lo t, .int hi u, .int 1 v] }).objs.size := by simpa using hb
    subst e
    exact I1.fpOk (Nat.le_refl _) (I1.hok.fresh (Nat.le_refl _))
def iRng1 (ta : TA) : TI := fun σ H R => ta σ H fun vs H1 => ∃ j : Int, vs = [.int j] ∧ -(2 ^ 62) ≤ j ∧ j < 2 ^ 62 ∧ R (Itr 0 j.toNat) H1
theorem pi_range1 {a : Expr} {ta : TA} {p pos : Pos} (hg : Gl X "range") (hm : X.mg "range" = none) (ha : PA X [a] ta) (hs : starEach [a] X.env = [(false, eval a X.env)] := by rfl) : PI X tg (.Call (.Name "range" p) [a] [] pos) (iRng1 ta) := by
  intro pins s σ H R I h
  refine Call_ (ld_blt I hg hm boot_range (PyProof.Rows.callWith_type1 (thn (ha pos pins s σ H _ I h) fun us s1 ⟨vs, H1, I1, r1, q1⟩ => ?_) hs rfl))
  obtain ⟨j, e, q1, q2, q⟩ := q1
  subst e
  cases r1 with
  | cons r rr =>
    cases rr
    obtain ⟨t, rfl⟩ := r
    exact call_range_1 (range_it I1 (by omega) (by omega) q1 q2 (by simpa using q))
def tFor (wi : TI) (g : TG) (tb : TS) : TS := fun D σ H => wi σ H fun J H1 => ∃ W : Nat → Nat → St → Hp → Prop, (∃ m, W 0 m σ H1) ∧ ∀ i m σ H, W i m σ H →
  (J.stop i H ∧ D.nx σ H) ∨ (J.go i H ∧ ∃ N : St → Hp → Prop, (∀ σ' H', N σ' H' → ∃ m', m' < m ∧ W (i + 1) m' σ' H') ∧ ∀ x H', J.yld i H x H' → g x σ H' fun σ2 H2 => tb { D with nx := N, ct := N, bk := D.nx } σ2 H2)
def pinsAt (fp : List Addr) (h : Heap) : List (Addr × Obj) := fp.filterMap fun b => (h.get? b).map fun o => (b, o)
theorem mem_pinsAt {fp : List Addr} {h : Heap} {b : Addr} {o : Obj} (hb : b ∈ fp) (e : h.get? b = some o) : (b, o) ∈ pinsAt fp h := List.mem_filterMap.mpr ⟨b, hb, by rw [e]; rfl⟩
theorem of_pinsAt {fp : List Addr} {h : Heap} {p : Addr × Obj} (hp : p ∈ pinsAt fp h) : p.1 ∈ fp ∧ h.get? p.1 = some p.2 := by
  obtain ⟨b, hb, e⟩ := List.mem_filterMap.mp hp
  cases q : h.get? b with
  | none => rw [q] at e; cases e
  | some o =>
    rw [q] at e
    have e' : (b, o) = p := Option.some.inj e
    subst e'
    exact ⟨hb, q⟩
theorem Inv.pinned {pins : List (Addr × Obj)} {σ : St} {H : Hp} {s : Shared} {fp : List Addr} (I : Inv X pins σ H s) (hf : ∀ b ∈ fp, FpOk X pins H b) (ho : ∀ b ∈ fp, ∃ o, s.heap.get? b = some o ∧ ∀ v, o.data ≠ .cell v) : Inv X (pins ++ pinsAt fp s.heap) σ H s :=
  I.pins_of fun p hp => (List.mem_append.mp hp).elim (fun z => I.pin p (List.mem_append_right _ z)) fun z => by
    obtain ⟨hb, e⟩ := of_pinsAt z
    obtain ⟨f0, f1, f2, _⟩ := hf p.1 hb
    obtain ⟨o, e', d⟩ := ho p.1 hb
    rw [e] at e'; cases e'
    exact ⟨e, f0, f1, f2, d⟩
theorem Inv.unpinned {pins pl : List (Addr × Obj)} {σ : St} {H : Hp} {s : Shared} (I : Inv X (pins ++ pl) σ H s) : Inv X pins σ H s := I.pins_of fun p hp => I.pin p (List.mem_append_right _ (List.mem_append_left _ hp))
theorem ps_for {iter : Expr} {body : List Stmt} {wi : TI} {g : TG} {tb : TS} {pos : Pos} (hp : PassesOwn (model X.prog X.w) X.A X.env X.xe) (hc : X.calm = true) (hi : PI X tg iter wi) (hg : PG X tg g) (hb : PSs X body tb)
    (hs : ∀ x, foldedSetIterable iter X.env x = pure x := by intro _; rfl) : PS X (.For tg iter body [] pos) (tFor wi g tb) := by
  intro pins s σ H D I h
  refine wpAny_For (thn (hi pins s σ H _ I h) fun v s1 h1 => thn h1 fun itv s2 h2 => ?_) hs
  obtain ⟨it, fp, tn, J, H2, e, I2, T, st2, f2, W, ⟨m0, w0⟩, turn⟩ := h2
  subst e
  have stat : ∀ {H' : Hp}, (∀ b ∈ fp, H' b = none) → ∀ b ∈ fp, FpOk X pins H' b := fun hn b hb => ⟨hn b hb, (f2 b hb).2⟩
  refine codeAny_forLoop_any (fun n s' => ∃ i σ' H', Inv X pins σ' H' s' ∧ tn i s'.heap ∧ (∀ b ∈ fp, H' b = none) ∧ W i n σ' H') ?_ m0 ⟨0, σ, H2, I2, st2, fun b hb => (f2 b hb).1, w0⟩
  rintro n s3 ⟨i, σ3, H3, I3, st3, fr3, w3⟩
  rcases turn i n σ3 H3 w3 with ⟨stop, qn⟩ | ⟨go, N, hN, step⟩
  · refine wpAny_passesOwn hp (thn (T.done X rfl rfl rfl hc i pins s3 σ3 H3 X.xe I3 (stat fr3) st3 stop) fun r s4 ⟨hr, I4⟩ => ?_)
    subst hr
    exact wpAny_execs_nil ⟨σ3, H3, I4, qn⟩
  · refine wpAny_passesOwn hp (thn (T.item X rfl rfl rfl hc i pins s3 σ3 H3 X.xe I3 (stat fr3) st3 go) fun r s4 ⟨u, hr, h4⟩ => ?_)
    subst hr
    refine wpAny_passesOwn hp (thn h4 fun _ s5 ⟨x, H5, I5, r5, y5, st5, fr5⟩ => ?_)
    have I5' := I5.pinned (stat fr5) (T.obj _ _ st5)
    refine wpAny_passesOwn hp (thn (hg _ s5 σ3 H5 x u _ I5' r5 (step x H5 y5)) fun _ s6 ⟨σ6, H6, I6, q6⟩ => ?_)
    refine wpAny_passesOwn hp (thn (hb _ s6 σ6 H6 _ I6 q6) fun f s7 q7 => ?_)
    have again : ∀ {σ7 : St} {H7 : Hp}, Inv X (pins ++ pinsAt fp s5.heap) σ7 H7 s7 → N σ7 H7 → ∃ m, m < n ∧ ∃ i σ' H', Inv X pins σ' H' s7 ∧ tn i s7.heap ∧ (∀ b ∈ fp, H' b = none) ∧ W i m σ' H' := fun {σ7 H7} I7 n7 => by
      obtain ⟨m', hm, w7⟩ := hN σ7 H7 n7
      refine ⟨m', hm, i + 1, σ7, H7, I7.unpinned, T.keep _ _ _ st5 fun b hb o e => (I7.pin (b, o) (List.mem_append_right _ (List.mem_append_right _ (mem_pinsAt hb e)))).1, fun b hb => ?_, w7⟩
      obtain ⟨o, e, d⟩ := T.obj _ _ st5 b hb
      exact (I7.pin (b, o) (List.mem_append_right _ (List.mem_append_right _ (mem_pinsAt hb e)))).2.1
    cases f with
    | next => obtain ⟨σ7, H7, I7, n7⟩ := q7; exact again I7 n7
    | cont => obtain ⟨σ7, H7, I7, n7⟩ := q7; exact again I7 n7
    | brk => obtain ⟨σ7, H7, I7, q7⟩ := q7; exact ⟨σ7, H7, I7.unpinned, q7⟩
    | ret v => obtain ⟨x7, σ7, H7, I7, r7, q7⟩ := q7; exact ⟨x7, σ7, H7, I7.unpinned, r7, q7⟩
end
end L2
namespace L2
open PySem PySem.Spec PyProof.Rows
abbrev R2 := V → V → Hp → VK → Prop
def OpR (X : Cx) (f : Value → Value → Sem Value) (r : R2) : Prop :=
  ∀ (pins : List (Addr × Obj)) (s : Shared) (σ : St) (H : Hp) (x y : V) (v u : Value) (Q : VK), Inv X pins σ H s → RelV x v → RelV y u → r x y H Q →
    wpAny (model X.prog X.w) X.A (f v u) (EP X pins σ Q) X.xe s
def UnR (X : Cx) (f : Value → Sem Value) (r : V → Hp → VK → Prop) : Prop :=
  ∀ (pins : List (Addr × Obj)) (s : Shared) (σ : St) (H : Hp) (x : V) (v : Value) (Q : VK), Inv X pins σ H s → RelV x v → r x H Q →
    wpAny (model X.prog X.w) X.A (f v) (EP X pins σ Q) X.xe s
def CallR (X : Cx) (f : Value) (r : List V → Hp → VK → Prop) : Prop :=
  ∀ (pins : List (Addr × Obj)) (s : Shared) (σ : St) (H : Hp) (xs : List V) (us : List Value) (Q : VK), Inv X pins σ H s → Vals xs us → r xs H Q →
    wpAny (model X.prog X.w) X.A (call f us) (EP X pins σ Q) X.xe s
def TruR (X : Cx) (r : V → Hp → (Bool → Hp → Prop) → Prop) : Prop :=
  ∀ (pins : List (Addr × Obj)) (s : Shared) (σ : St) (H : Hp) (x : V) (v : Value) (Q : Bool → Hp → Prop), Inv X pins σ H s → RelV x v → r x H Q →
    wpAny (model X.prog X.w) X.A (truthy v) (TP X pins σ Q) X.xe s
def tOp (r : R2) (ta tb : TE) : TE := fun σ H Q => ta σ H fun x H1 => tb σ H1 fun y H2 => r x y H2 Q
def tUn (r : V → Hp → VK → Prop) (ta : TE) : TE := fun σ H Q => ta σ H fun x H1 => r x H1 Q
def rI (C : Int → Int → Prop) (g : Int → Int → V) : R2 := fun x y H Q => ∃ i j, x = .int i ∧ y = .int j ∧ C i j ∧ Q (g i j) H
def rI0 (g : Int → Int → V) : R2 := fun x y H Q => ∃ i j, x = .int i ∧ y = .int j ∧ Q (g i j) H
def rU (g : Int → V) : V → Hp → VK → Prop := fun x H Q => ∃ i, x = .int i ∧ Q (g i) H
section
variable {X : Cx} {a b c : Expr} {ta tb tc : TE} {pos : Pos}
theorem binT (ha : PE X a ta) (hb : PE X b tb) {pins : List (Addr × Obj)} {s : Shared} {σ : St} {H : Hp} {R : V → V → Hp → Prop} (I : Inv X pins σ H s)
    (h : ta σ H fun x H1 => tb σ H1 fun y H2 => R x y H2) {Q : Value → Shared → Prop} {f : Value → Value → Sem Value}
    (hf : ∀ v u s2 x y H2, Inv X pins σ H2 s2 → RelV x v → RelV y u → R x y H2 → wpAny (model X.prog X.w) X.A (f v u) Q X.xe s2) :
    wpAny (model X.prog X.w) X.A (eval a X.env) (fun v s₁ => wpAny (model X.prog X.w) X.A (eval b X.env) (fun u s₂ => wpAny (model X.prog X.w) X.A (f v u) Q X.xe s₂) X.xe s₁) X.xe s := by
  refine thn (ha pins s σ H _ I h) fun v s1 ⟨x, H1, I1, r1, q1⟩ => ?_
  refine thn (hb pins s1 σ H1 _ I1 q1) fun u s2 ⟨y, H2, I2, r2, q2⟩ => ?_
  exact hf v u s2 x y H2 I2 r1 r2 q2
theorem pe_op {op : Operator} {r : R2} (ho : OpR X (binaryOp op) r) (ha : PE X a ta) (hb : PE X b tb) : PE X (.BinOp a op b pos) (tOp r ta tb) := by
  intro pins s σ H Q I h
  exact wpAny_BinOp (binT ha hb I h fun v u s2 x y H2 I2 rx ry q => ho pins s2 σ H2 x y v u Q I2 rx ry q)
theorem pe_un {op : UnaryOp} {r : V → Hp → VK → Prop} (ho : UnR X (unaryOp op) r) (ha : PE X a ta) : PE X (.UnaryOp op a pos) (tUn r ta) := by
  intro pins s σ H Q I h
  exact UnaryOp_ (thn (ha pins s σ H _ I h) fun v s1 ⟨x, H1, I1, r1, q1⟩ => ho pins s1 σ H1 x v Q I1 r1 q1)
theorem opI {f : Value → Value → Sem Value} {C : Int → Int → Prop} {g : Int → Int → Int}
    (rule : ∀ (i j : Int) (t u : Tok) (s : Shared) (Q : Value → Shared → Prop) (E : Value → Shared → Prop), C i j → Q (.int (g i j) s.toks) { s with toks := s.toks + 1 } → wpAny (model X.prog X.w) X.A (f (.int i t) (.int j u)) Q E s) :
    OpR X f (rI C fun i j => .int (g i j)) := by
  intro pins s σ H x y v u Q I rx ry h
  obtain ⟨i, j, rfl, rfl, hc, q⟩ := h
  obtain ⟨t, rfl⟩ := rx
  obtain ⟨t', rfl⟩ := ry
  exact rule i j t t' s _ _ hc ⟨.int (g i j), H, I.tok _, ⟨_, rfl⟩, q⟩
theorem opI0 {f : Value → Value → Sem Value} {g : Int → Int → Int}
    (rule : ∀ (i j : Int) (t u : Tok) (s : Shared) (Q : Value → Shared → Prop) (E : Value → Shared → Prop), Q (.int (g i j) s.toks) { s with toks := s.toks + 1 } → wpAny (model X.prog X.w) X.A (f (.int i t) (.int j u)) Q E s) :
    OpR X f (rI0 fun i j => .int (g i j)) := by
  intro pins s σ H x y v u Q I rx ry h
  obtain ⟨i, j, rfl, rfl, q⟩ := h
  obtain ⟨t, rfl⟩ := rx
  obtain ⟨t', rfl⟩ := ry
  exact rule i j t t' s _ _ ⟨.int (g i j), H, I.tok _, ⟨_, rfl⟩, q⟩
theorem opB0 {f : Value → Value → Sem Value} {g : Int → Int → Bool}
    (rule : ∀ (i j : Int) (t u : Tok) (s : Shared) (Q : Value → Shared → Prop) (E : Value → Shared → Prop), Q (.bool (g i j)) s → wpAny (model X.prog X.w) X.A (f (.int i t) (.int j u)) Q E s) :
    OpR X f (rI0 fun i j => .bl (g i j)) := by
  intro pins s σ H x y v u Q I rx ry h
  obtain ⟨i, j, rfl, rfl, q⟩ := h
  obtain ⟨t, rfl⟩ := rx
  obtain ⟨t', rfl⟩ := ry
  exact rule i j t t' s _ _ ⟨.bl (g i j), H, I, rfl, q⟩
def CPow (i j : Int) : Prop := 0 ≤ j ∧ j ≤ 1000000 ∧ i.natAbs < 2 ^ 64
def CMul (i j : Int) : Prop := (-(2 ^ 64) < i ∧ i < 2 ^ 64) ∨ (-(2 ^ 64) < j ∧ j < 2 ^ 64)
theorem CMul.ok {i j : Int} (h : CMul i j) : IntMulOk i j := by
  rcases h with ⟨h1, h2⟩ | ⟨h1, h2⟩
  · exact .of_left (intBits_le_64 h1 h2)
  · exact .of_right (intBits_le_64 h1 h2)
theorem op_add : OpR X (binaryOp .Add) (rI0 fun i j => .int (i + j)) := opI0 fun _ _ _ _ _ _ _ q => add_int q
theorem op_sub : OpR X (binaryOp .Sub) (rI0 fun i j => .int (i - j)) := opI0 fun _ _ _ _ _ _ _ q => sub_int q
theorem op_mul : OpR X (binaryOp .Mult) (rI CMul fun i j => .int (i * j)) := opI fun _ _ _ _ _ _ _ hc q => mul_int q hc.ok
theorem op_mod : OpR X (binaryOp .Mod) (rI (fun _ j => 0 < j) fun i j => .int (i % j)) := opI fun i j _ _ _ _ _ hc q => by
  have h1 : (0 : Int) < j := hc
  exact mod_int' (by omega) (by rw [Int.fmod_eq_emod_of_nonneg i (by omega)]; exact q)
theorem op_pow : OpR X (binaryOp .Pow) (rI CPow fun i j => .int (i ^ j.toNat)) := opI fun _ _ _ _ _ _ _ hc q => pow_int_small hc.1 hc.2.1 hc.2.2 q
theorem unI {f : Value → Sem Value} {g : Int → Int}
    (rule : ∀ (i : Int) (t : Tok) (s : Shared) (Q : Value → Shared → Prop) (E : Value → Shared → Prop), Q (.int (g i) s.toks) { s with toks := s.toks + 1 } → wpAny (model X.prog X.w) X.A (f (.int i t)) Q E s) :
    UnR X f (rU fun i => .int (g i)) := by
  intro pins s σ H x v Q I rx h
  obtain ⟨i, rfl, q⟩ := h
  obtain ⟨t, rfl⟩ := rx
  exact rule i t s _ _ ⟨.int (g i), H, I.tok _, ⟨_, rfl⟩, q⟩
theorem un_neg : UnR X (unaryOp .USub) (rU fun i => .int (-i)) := unI fun _ _ _ _ _ q => neg_int q
end
section
variable {X : Cx} {a b c : Expr} {ta tb tc : TE} {pos : Pos}
theorem op_lt : OpR X (compareOp .Lt) (rI0 fun i j => .bl (decide (i < j))) := opB0 fun _ _ _ _ _ _ _ q => lt_int q
def isObj : HO → Bool
  | .lst _ => true
  | .ins _ _ _ => true
  | _ => false
theorem obj_there {pins : List (Addr × Obj)} {s : Shared} {σ : St} {H : Hp} {a : Addr} {o : HO} (I : Inv X pins σ H s) (h : H a = some o) (p : isObj o = true) : ∃ ob, s.heap.get? a = some ob ∧ ob.cls ≠ .type "tuple" := by
  cases o with
  | lst xs =>
    obtain ⟨_, its, n, _, e⟩ : xs.length ≤ sizeLine ∧ ∃ (its : List Value) (n : Nat), Vals xs its ∧ s.heap.get? a = some { cls := .type "list", data := .seq its.toArray n } := I.hok a _ h
    exact ⟨_, e, (by show Value.type "list" ≠ .type "tuple"; decide +kernel)⟩
  | ins C dx fs =>
    have x := I.hok a _ h
    obtain ⟨_, _, _, e, _⟩ := x
    exact ⟨_, e, (by show Value.ref C ≠ .type "tuple"; exact fun z => by cases z)⟩
  | _ => exact absurd (show false = true from p) Bool.false_ne_true
theorem OpR.or {f : Value → Value → Sem Value} {r r' : R2} (h : OpR X f r) (h' : OpR X f r') : OpR X f (fun x y H Q => r x y H Q ∨ r' x y H Q) := by
  intro pins s σ H x y v u Q I rx ry q
  rcases q with q | q
  · exact h pins s σ H x y v u Q I rx ry q
  · exact h' pins s σ H x y v u Q I rx ry q
theorem nomark (b : Expr) {op : CmpOp} (h : op ≠ .In := by decide) (h2 : op ≠ .NotIn := by decide) : behindInMarks op b = false := by
  have e1 : (op == CmpOp.In) = false := by cases op <;> first | rfl | exact absurd rfl h
  have e2 : (op == CmpOp.NotIn) = false := by cases op <;> first | rfl | exact absurd rfl h2
  cases b <;> simp [behindInMarks, e1, e2]
theorem pe_cmpR {op : CmpOp} {r : R2} (ho : OpR X (compareOp op) r) (ha : PE X a ta) (hb : PE X b tb) (hm : behindInMarks op b = false) : PE X (.Compare a [op] [b] pos) (tOp r ta tb) := by
  intro pins s σ H Q I h
  exact wpAny_Compare1 (binT ha hb I h fun v u s2 x y H2 I2 rx ry q => ho pins s2 σ H2 x y v u Q I2 rx ry q) hm
def tTest (t : TE) : TT := fun σ H Q => t σ H fun x H' => ∃ k, x = .bl k ∧ Q k H'
theorem pt_cmpR {op : CmpOp} {r : R2} (ho : OpR X (compareOp op) r) (ha : PE X a ta) (hb : PE X b tb) (hm : behindInMarks op b = false) : PT X (.Compare a [op] [b] pos) (tTest (tOp r ta tb)) := by
  intro pins s σ H Q I h
  refine wpAny_isTrue_Compare1 (thn (ha pins s σ H _ I h) fun v s1 ⟨x, H1, I1, r1, q1⟩ => thn (hb pins s1 σ H1 _ I1 q1) fun u s2 ⟨y, H2, I2, r2, q2⟩ =>
    thn (ho pins s2 σ H2 x y v u _ I2 r1 r2 q2) fun c s3 ⟨z, H3, I3, r3, k, e, q3⟩ => ?_) hm
  subst e
  cases r3
  exact wpAny_truthy_bool ⟨H3, I3, q3⟩
def TruV (K : PySem.W.Frag) (x : V) (H : Hp) (k : Bool) : Prop :=
  match x with
  | .non => k = false
  | .bl b => k = b
  | .int i => k = (i != 0)
  | .str y => y.length ≤ sizeLine ∧ k = ((y.length : Int) != 0)
  | .byt y => y.size ≤ sizeLine ∧ k = ((y.size : Int) != 0)
  | .ref p => (∃ xs, SqL K H p xs ∧ k = !xs.isEmpty) ∨ (∃ xs, SqT K H p xs ∧ k = !xs.isEmpty) ∨ ∃ kvs, H p = some (.dK kvs) ∧ k = !kvs.isEmpty
  | _ => False
theorem isEmpty_kv {κ : Type} {kvs : List (κ × V)} {vs : List (κ × Value)} (r : KV kvs vs) : (!vs.isEmpty) = !kvs.isEmpty := by
  cases r <;> rfl
theorem isEmpty_of {xs : List V} {its : List Value} (r : Vals xs its) : (!its.toArray.isEmpty) = !xs.isEmpty := by
  cases r <;> simp
theorem line63 : (sizeLine : Nat) < 2 ^ 63 := by rw [sizeLine_eq]; decide
theorem tru_ok : TruR X (fun x H Q => ∃ k, TruV X.K x H k ∧ Q k H) := by
  intro pins s σ H x v Q I rx h
  obtain ⟨k, e, q⟩ := h
  have hl := line63
  have hs : sizeLine = 16777216 := sizeLine_eq
  cases x with
  | non =>
    cases rx
    have e' : k = false := e
    subst e'
    exact truthy_none ⟨H, I, q⟩
  | bl b =>
    cases rx
    have e' : k = b := e
    subst e'
    exact wpAny_truthy_bool ⟨H, I, q⟩
  | int i =>
    obtain ⟨t, rfl⟩ := rx
    have e' : k = (i != 0) := e
    subst e'
    exact PySem.P.truthy_int ⟨H, I, q⟩
  | str y =>
    obtain ⟨t, rfl⟩ := rx
    obtain ⟨hy, e'⟩ : y.length ≤ sizeLine ∧ k = ((y.length : Int) != 0) := e
    subst e'
    exact PySem.P.truthy_str (by omega) ⟨H, I.tok _, q⟩
  | byt y =>
    obtain ⟨t, rfl⟩ := rx
    obtain ⟨hy, e'⟩ : y.size ≤ sizeLine ∧ k = ((y.size : Int) != 0) := e
    subst e'
    exact PySem.W.truthy_bytes (by omega) ⟨H, I.tok _, q⟩
  | ref p =>
    cases rx
    have e' : (∃ xs, SqL X.K H p xs ∧ k = !xs.isEmpty) ∨ (∃ xs, SqT X.K H p xs ∧ k = !xs.isEmpty) ∨ ∃ kvs, H p = some (.dK kvs) ∧ k = !kvs.isEmpty := e
    rcases e' with ⟨xs, hx, e'⟩ | ⟨xs, hx, e'⟩ | ⟨kvs, hx, e'⟩
    · subst e'
      obtain ⟨its, r, pl, hz⟩ := I.list hx
      have hlen := r.length
      exact wpAny_truthy_list pl.isList (by simp only [List.size_toArray]; omega) ⟨H, I.tok _, by rw [isEmpty_of r]; exact q⟩
    · subst e'
      obtain ⟨its, r, pl, hz⟩ := I.tuple hx
      have hlen := r.length
      exact truthy_tuple pl (by simp only [List.size_toArray]; omega) ⟨H, I.tok _, by rw [isEmpty_of r]; exact q⟩
    · subst e'
      obtain ⟨hz, hS, vs, r, m⟩ : kvs.length ≤ sizeLine ∧ (p == sysModules) = false ∧ ∃ vs, KV kvs vs ∧ s.heap.DictOf (mixKind X.prog X.w) p vs := I.hok p _ hx
      have hlen : kvs.length = vs.length := Paired.length r
      exact wpAny_truthy_dict hS m (by omega) ⟨H, I.tok _, by rw [isEmpty_kv r]; exact q⟩
  | _ => exact (show False from e).elim
theorem pt_truth (ha : PE X a ta) (he : ∀ whole, isTrue a X.env whole = (do let v ← whole; standAt a.pos; holding [v] (truthy v))) :
    PT X a (fun σ H Q => ta σ H fun x H' => ∃ k, TruV X.K x H' k ∧ Q k H') := by
  intro pins s σ H Q I h
  exact isTrue_plain (thn (ha pins s σ H _ I h) fun v s1 ⟨x, H1, I1, r1, q1⟩ => tru_ok pins s1 σ H1 x v Q I1 r1 q1) (he _)
theorem vals1 {x : V} {us : List Value} (r : Vals [x] us) : ∃ u, us = [u] ∧ RelV x u := by
  cases r with
  | cons r1 r2 => cases r2; exact ⟨_, rfl, r1⟩
theorem vals2 {x y : V} {us : List Value} (r : Vals [x, y] us) : ∃ u w', us = [u, w'] ∧ RelV x u ∧ RelV y w' := by
  cases r with
  | cons r1 r2 =>
    cases r2 with
    | cons r3 r4 => cases r4; exact ⟨_, _, rfl, r1, r3⟩
end
end L2
namespace L2
open PySem PySem.Spec PyProof.Rows
structure ObjM (h : Heap) (x dx C : Addr) (mA : Str → Option Value) : Prop where
  obj : h.get? x = some (PySem.W.instObj C dx)
  ns : h.Ns1 dx mA
  ne : dx ≠ x
theorem lookIn_ns {h : Heap} {dx : Addr} {mA : Str → Option Value} (n : h.Ns1 dx mA) : ∃ od, h.get? dx = some od ∧ ∀ name, PySem.W.lookIn name od = some (mA name) := by
  obtain ⟨o, es, ep, ho, hd, hk, _, hm⟩ := n
  refine ⟨o, ho, fun name => ?_⟩
  have e := hm name
  unfold nsFind findBy at e
  rw [← Array.find?_toList] at e
  unfold PySem.W.lookIn
  rw [hd]
  dsimp only
  split
  · rename_i y q
    rw [q] at e
    exact congrArg some e
  · rename_i q
    rw [q] at e
    have a : es.toList.any (·.refKey) = false := by
      rw [List.any_eq_false]
      intro y hy
      obtain ⟨z, t, hkey⟩ := hk y (Array.mem_toList_iff.mp hy)
      simp [DictEntry.refKey, hkey]
    have a' : ¬ es.toList.any (·.refKey) = true := by rw [a]; exact Bool.false_ne_true
    rw [if_neg a']
    exact congrArg some e
theorem ObjM.look {h : Heap} {x dx C : Addr} {mA : Str → Option Value} (I : ObjM h x dx C mA) : ∃ od, PySem.W.InstAt h x (PySem.W.instObj C dx) C (some od) ∧ ∀ name, PySem.W.lookIn name od = some (mA name) :=
  let ⟨od, ho, hl⟩ := lookIn_ns I.ns
  ⟨od, ⟨I.obj, rfl, rfl, ho⟩, hl⟩
section
variable {prog : Program} {w : World} {A : Around} {E : Value → Shared → Prop} {s : Shared} {K : PySem.W.Frag} {x dx C f : Addr} {mA : Str → Option Value} {name : Str} {v : Value}
end
theorem RelO.some_of {v : V} {o : Option Value} (r : RelO (some v) o) : ∃ u, o = some u ∧ RelV v u := by
  cases o with
  | none => exact (show False from r).elim
  | some u => exact ⟨u, rfl, r⟩
section
variable {P : Program} {w : World} {H H' : Hp} {h h' : Heap} {a C dx : Addr} {fs fs' : List (Str × V)}
theorem ins_get (hok : HOk P w H h) (e : H a = some (.ins C dx fs)) : ∃ mA, ObjM h a dx C mA ∧ (∀ f, RelO (fs.lookup f) (mA f)) ∧ PySem.Within mA (fs.map (·.1)) ∧ fs.length ≤ 1000 ∧ H dx = some (.own a) := by
  obtain ⟨d, z, ne, ob, mA, n, r, q⟩ := (show ObjOk P w H h a (.ins C dx fs) from hok a _ e)
  exact ⟨mA, ⟨ob, n, ne⟩, r, q, z, d⟩
end
structure Cls (K : PySem.W.Frag) (C : Addr) : Prop where
  pg : PySem.W.plainGet K C Str.empty = true
  hd : PySem.W.hasDictIn K C = true
  po : PySem.W.plainOver K C = true
  sa : PySem.W.findIn K (.ref C) "__setattr__" = some (some (.builtin "object.__setattr__"))
theorem Cls.get {K : PySem.W.Frag} {C : Addr} (c : Cls K C) (f : Str) : PySem.W.plainGet K C f = true := c.pg
structure Con (K : PySem.W.Frag) (C : Addr) (f : Str) (v : V) (u : Value) : Prop where
  at_ : PySem.W.findIn K (.ref C) f = some (some u)
  rel : RelV v u
  get : PySem.W.specialIn K u "__get__" = some none
  cp : PySem.W.copiedNames.contains f = false
structure Meth (K : PySem.W.Frag) (C : Addr) (m : Str) (f : Addr) : Prop where
  at_ : PySem.W.findIn K (.ref C) m = some (some (.ref f))
  fn : PySem.W.isFn K (.ref f) = true
  kp : PySem.W.keepIn K (.ref f) = true
section
variable {X : Cx} {pins : List (Addr × Obj)} {σ : St} {H : Hp} {s : Shared} {a C dx : Addr} {fs : List (Str × V)} {f : Str} {v : V} {A : Around} {E : Value → Shared → Prop}
end
section
variable {X : Cx} {o e value : Expr} {f : Str} {pos pos' tpos : Pos} {ta tv : TE}
end
section
variable {X : Cx} {pins : List (Addr × Obj)} {σ : St} {H : Hp} {s : Shared} {A : Around} {E : Value → Shared → Prop} {Q : Value → Shared → Prop} {c : Value} {b : Bool}
inductive TyOf (K : PySem.W.Frag) (H : Hp) : V → Value → Prop where
  | non : TyOf K H .non (.type "NoneType")
  | bl (x : Bool) : TyOf K H (.bl x) (.type "bool")
  | int (i : Int) : TyOf K H (.int i) (.type "int")
  | str (x : Str) : TyOf K H (.str x) (.type "str")
  | flt (x : UInt64) : TyOf K H (.flt x) (.type "float")
  | lst {a : Addr} {xs : List V} (e : H a = some (.lst xs)) : TyOf K H (.ref a) (.type "list")
  | frz {a : Addr} {o : Obj} {xs : List V} (e : H a = some (.frz o (.lst xs))) : TyOf K H (.ref a) (.type "list")
  | tup {a : Addr} {xs : List V} (e : H a = some (.tup xs)) : TyOf K H (.ref a) (.type "tuple")
  | dK {a : Addr} {kvs : List (Key × V)} (e : H a = some (.dK kvs)) : TyOf K H (.ref a) (.type "dict")
  | dT {a : Addr} {kvs : List (List Key × V)} (e : H a = some (.dT kvs)) : TyOf K H (.ref a) (.type "dict")
  | ins {a C dx : Addr} {fs : List (Str × V)} (e : H a = some (.ins C dx fs)) (cl : Cls K C) (ha : PySem.W.findIn K (.ref C) "__class__" = some (some (.builtin "object.__class__")))
      (hn : PySem.W.specialIn K (.builtin "object.__class__") "__get__" = some (some (.builtin "getset_descriptor.__get__"))) (htk : PySem.W.takesIn K (.builtin "object.__class__") = some true)
      (hm : PySem.W.mroIn K C (.type "object") = some true) : TyOf K H (.ref a) (.ref C)
theorem isinst_ok {x : V} {u t : Value} (I : Inv X pins σ H s) (rx : RelV x u) (ty : TyOf X.K H x t) (e : PySem.W.kitOne X.K t c = some b) (h : ∀ tk, Q (.bool b) { s with toks := tk }) :
    wpAny (model X.prog X.w) A (call (.builtin "isinstance") [u, c]) Q E s := by
  cases ty with
  | non => cases (show u = Value.none from rx); exact PySem.W.kia_one PySem.W.kitx_none I.kIn True.intro e (fun z => nomatch z) h
  | bl y => cases (show u = Value.bool y from rx); exact PySem.W.kia_one PySem.W.kitx_bool I.kIn True.intro e (fun z => nomatch z) h
  | int i => obtain ⟨t, q⟩ := (show ∃ t, u = Value.int i t from rx); cases q; exact PySem.W.kia_one PySem.W.kitx_int I.kIn True.intro e (fun z => nomatch z) h
  | str y => obtain ⟨t, q⟩ := (show ∃ t, u = Value.str y t from rx); cases q; exact PySem.W.kia_one PySem.W.kitx_str I.kIn True.intro e (fun z => nomatch z) h
  | flt y => obtain ⟨t, q⟩ := (show ∃ t, u = Value.float y t from rx); cases q; exact PySem.W.kia_one PySem.W.kitx_float I.kIn True.intro e (fun z => nomatch z) h
  | @lst a xs ea =>
    cases (show u = Value.ref a from rx)
    obtain ⟨_, _, n, _, h1⟩ := (show ObjOk X.prog X.w H s.heap a (.lst xs) from I.hok a _ ea)
    exact PySem.W.kia_one PySem.W.kitx_list I.kIn ⟨_, h1, rfl⟩ e (fun z => nomatch z) h
  | @frz a ob xs ea =>
    cases (show u = Value.ref a from rx)
    obtain ⟨_, _, _, n, _, h1⟩ := (show ObjOk X.prog X.w H s.heap a (.frz ob (.lst xs)) from I.hok a _ ea)
    exact PySem.W.kia_one PySem.W.kitx_list I.kIn ⟨_, h1, rfl⟩ e (fun z => nomatch z) h
  | @tup a xs ea =>
    cases (show u = Value.ref a from rx)
    obtain ⟨_, _, _, p⟩ := (show ObjOk X.prog X.w H s.heap a (.tup xs) from I.hok a _ ea)
    obtain ⟨o, h1, h2, _⟩ := p
    exact PySem.W.kia_one PySem.W.kitx_tuple I.kIn ⟨o, h1, h2⟩ e (fun z => nomatch z) h
  | @dK a kvs ea =>
    cases (show u = Value.ref a from rx)
    obtain ⟨_, _, vs, _, p⟩ := (show ObjOk X.prog X.w H s.heap a (.dK kvs) from I.hok a _ ea)
    obtain ⟨o, es, ep, h1, h2, _⟩ := p
    exact PySem.W.kia_one PySem.W.kitx_dict I.kIn ⟨o, h1, h2.1⟩ e (fun z => nomatch z) h
  | @dT a kvs ea =>
    cases (show u = Value.ref a from rx)
    obtain ⟨_, _, xs, _, o, es, ep, h1, h2, _⟩ := (show ObjOk X.prog X.w H s.heap a (.dT kvs) from I.hok a _ ea)
    exact PySem.W.kia_one PySem.W.kitx_dict I.kIn ⟨o, h1, h2.1⟩ e (fun z => nomatch z) h
  | @ins a C dx fs ea cl ha hn htk hm =>
    cases (show u = Value.ref a from rx)
    obtain ⟨mA, O, _⟩ := ins_get I.hok ea
    obtain ⟨od, J, _⟩ := O.look
    exact PySem.W.kia_one (PySem.W.kitx_own (cl.get _) cl.hd ha hn htk hm) I.kIn J e (fun z => nomatch z) h
end
end L2
namespace L2
open PySem PySem.Spec PyProof.Rows
structure Room (k : Nat) (A : Around) : Prop where
  hd : A.handled = none
  dp : A.depth + 3 * k + 5 < recursionLimit
  un : A.units + 16 * k + 200 < cLine
theorem Room.mono {j k : Nat} {A : Around} (r : Room k A) (h : j ≤ k) : Room j A := ⟨r.hd, by have := r.dp; omega, by have := r.un; omega⟩
theorem Room.deeper {k : Nat} {A : Around} (r : Room (k + 1) A) (env : Env) : Room k (A.deeper env) :=
  ⟨r.hd, by have := r.dp; show A.depth + 1 + 3 * k + 5 < _; omega, by have := r.un; show A.units + 3 + 16 * k + 200 < _; omega⟩
theorem Room.in1 {k : Nat} {A : Around} (r : Room (k + 1) A) : Room k A.in1 :=
  ⟨r.hd, by have := r.dp; show A.depth + 3 * k + 5 < _; omega, by have := r.un; show A.units + 1 + 16 * k + 200 < _; omega⟩
theorem Room.depth {k : Nat} {A : Around} (r : Room k A) : A.depth < recursionLimit := by have := r.dp; omega
theorem Room.units {k : Nat} {A : Around} (r : Room k A) : A.units + 64 < cLine := by have := r.un; omega
def tNil : TA := fun _ H Q => Q [] H
def tCons (ta : TE) (tr : TA) : TA := fun σ H Q => ta σ H fun x H1 => tr σ H1 fun xs H2 => Q (x :: xs) H2
section
variable {X : Cx} {e : Expr} {es : List Expr} {te : TE} {t : TA} {pos : Pos}
theorem pa_nil : PA X [] tNil := fun _ _ _ _ H Q I h => Calls.spliced_nil ⟨[], H, I, .nil, h⟩
theorem pa_cons (ha : PE X e te) (hr : PA X es t) (hs : starEach (e :: es) X.env = (false, eval e X.env) :: starEach es X.env := by rfl) : PA X (e :: es) (tCons te t) := by
  intro pos pins s σ H Q I h
  rw [hs]
  show wpAny _ _ (spliced ((false, eval e X.env) :: backTo pos (starEach es X.env))) _ _ s
  refine Calls.spliced_cons (thn (ha pins s σ H _ I h) fun u s1 ⟨x, H1, I1, r1, q1⟩ => ?_)
  exact thn (hr pos pins s1 σ H1 _ I1 q1) fun us s2 ⟨xs, H2, I2, r2, q2⟩ => ⟨x :: xs, H2, I2, .cons r1 r2, q2⟩
def tTup (t : TA) : TE := fun σ H Q => t σ H fun xs H1 => xs.length ≤ sizeLine ∧ ∀ p, H1 p = none → Q (.ref p) (upd H1 p (.tup xs))
def tLst (t : TA) : TE := fun σ H Q => t σ H fun xs H1 => xs.length ≤ sizeLine ∧ ∀ p, H1 p = none → Q (.ref p) (upd H1 p (.lst xs))
theorem pe_tup {x1} (h : PA X es t) : PE X (.Tuple es x1 pos) (tTup t) := by
  intro pins s σ H Q I hq
  refine wpAny_Tuple_spliced (thn (h pos pins s σ H _ I hq) fun us s1 ⟨xs, H1, I1, r, z, q⟩ => ⟨by rw [← r.length]; exact z, ?_⟩)
  have hf : H1 s1.heap.objs.size = none := I1.hok.fresh (Nat.le_refl _)
  refine ⟨.ref s1.heap.objs.size, upd H1 s1.heap.objs.size (.tup xs), I1.laid (t' := s1.toks) (fun b u e => Heap.get?_push_of_some _ e) (Nat.le_refl _) ?_, rfl, q _ hf⟩
  exact ⟨z, us, r, ⟨_, Heap.get?_push_size _ rfl, rfl, _, rfl⟩⟩
theorem pe_lst (h : PA X es t) : PE X (.List es pos) (tLst t) := by
  intro pins s σ H Q I hq
  refine wpAny_List_spliced (thn (h pos pins s σ H _ I hq) fun us s1 ⟨xs, H1, I1, r, z, q⟩ => ⟨by rw [← r.length]; exact z, ?_⟩)
  have hf : H1 s1.heap.objs.size = none := I1.hok.fresh (Nat.le_refl _)
  refine ⟨.ref s1.heap.objs.size, upd H1 s1.heap.objs.size (.lst xs), I1.laid (t' := s1.toks) (fun b u e => Heap.get?_push_of_some _ e) (Nat.le_refl _) ?_, rfl, q _ hf⟩
  exact ⟨z, us, 0, r, Heap.get?_push_size _ rfl⟩
end
abbrev Sp := List V → Hp → VK → XK → Prop
abbrev CXT := List Env → Hp → Shared → XK → Value → Shared → Prop
structure Env0 (P : Program) (w : World) (K : PySem.W.Frag) (mg : Str → Option Value) (base : Heap) (A : Around) (outer : List Env) (s : Shared) (H : Hp) : Prop where
  frames : A.frames = some outer
  mod : Mod K mg base
  bs : ∀ b o, base.get? b = some o → s.heap.get? b = some o ∧ H b = none
  bsz : base.objs.size ≤ s.heap.objs.size
  funs : s.heap.FunFrames base outer
  frf : ∀ b ∈ frs outer, H b = none
  hok : HOk P w H s.heap
  bare : AllBare s.gens
def CE (outer : List Env) (P : Program) (w : World) (H : Hp) (s : Shared) (Q : VK) (u : Value) (s' : Shared) : Prop :=
  ∃ v H', s'.os = s.os ∧ AllBare s'.gens ∧ Un (frs outer) [] H H' s.heap s'.heap ∧ HOk P w H' s'.heap ∧ RelV v u ∧ Q v H'
def CR (CX : CXT) (outer : List Env) (P : Program) (w : World) (H : Hp) (s : Shared) (Q : VK) (E : XK) (r : Result) (s' : Shared) : Prop :=
  match r with
  | .ok (.ret u) => CE outer P w H s Q u s'
  | .ok _ => False
  | .error e => CX outer H s E e s'
structure FnOk (P : Program) (w : World) (K : PySem.W.Frag) (mg : Str → Option Value) (base : Heap) (CX : CXT) (k : Nat) (f : Addr) (fd : FuncData) (ps : List Str) (sp : Sp) : Prop where
  len : ∀ vs H Q E, sp vs H Q E → vs.length = ps.length
  run : ∀ (A : Around) (outer : List Env) (s : Shared) (H : Hp) (args : Args) (us : List Value) (vs : List V) (Q : VK) (E : XK), Room k A → Env0 P w K mg base A outer s H → BindsTo s fd args (ps.zip us) → Vals vs us → sp vs H Q E →
    codeAny (model P w) A (.call (.ref f) args) (CR CX outer P w H s Q E) s
theorem FnOk.mono {P : Program} {w : World} {K : PySem.W.Frag} {mg : Str → Option Value} {base : Heap} {CX : CXT} {j k : Nat} {f : Addr} {fd : FuncData} {ps : List Str} {sp : Sp} (F : FnOk P w K mg base CX j f fd ps sp) (h : j ≤ k) :
    FnOk P w K mg base CX k f fd ps sp := ⟨F.len, fun A outer s H args us vs Q E hr => F.run A outer s H args us vs Q E (hr.mono h)⟩
theorem FnOk.imp {P : Program} {w : World} {K : PySem.W.Frag} {mg : Str → Option Value} {base : Heap} {CX : CXT} {k : Nat} {f : Addr} {fd : FuncData} {ps : List Str} {sp sp' : Sp} (F : FnOk P w K mg base CX k f fd ps sp)
    (h : ∀ vs H Q E, sp' vs H Q E → sp vs H Q E) : FnOk P w K mg base CX k f fd ps sp' :=
  ⟨fun vs H Q E q => F.len vs H Q E (h _ _ _ _ q), fun A outer s H args us vs Q E hr he hb hv hs => F.run A outer s H args us vs Q E hr he hb hv (h _ _ _ _ hs)⟩
theorem Env0.in1 {P : Program} {w : World} {K : PySem.W.Frag} {mg : Str → Option Value} {base : Heap} {A : Around} {outer : List Env} {s : Shared} {H : Hp} (e : Env0 P w K mg base A outer s H) :
    Env0 P w K mg base A.in1 outer s H := ⟨e.frames, e.mod, e.bs, e.bsz, e.funs, e.frf, e.hok, e.bare⟩
section
variable {X : Cx} {pins : List (Addr × Obj)} {σ : St} {H : Hp} {s s' : Shared}
theorem Inv.env0 (I : Inv X pins σ H s) : Env0 X.prog X.w X.K X.mg X.base X.A X.stack s H :=
  ⟨I.ok.frames, I.ok.mod, I.bs, Nat.le_trans I.ok.bsz I.sz, I.stack, I.stkFree, I.hok, I.bare⟩
theorem Inv.after {Q : VK} {u : Value} (I : Inv X pins σ H s) (h : CE X.stack X.prog X.w H s Q u s') : EP X pins σ Q u s' := by
  obtain ⟨v, H', os, bare, un, hok, r, q⟩ := h
  obtain ⟨hh, g, d, t, os'⟩ := s'
  obtain rfl : os' = s.os := os
  exact ⟨v, H', I.call (h' := hh) (g' := g) (d' := d) (t' := t) (ch := []) un hok bare (fun b z => absurd z (by simp)), r, q⟩
end
def tCall (sp : Sp) (dvs : List V) (E : XK) (t : TA) : TE := fun σ H Q => t σ H fun vs H1 => sp (vs ++ dvs) H1 Q E
def Binds (K : PySem.W.Frag) (fd : FuncData) (ps : List Str) (ds : List Value) : Prop :=
  ∀ (s : Shared) (us : List Value), K.In s.heap → (us ++ ds).length = ps.length → BindsTo s fd ⟨us, []⟩ (ps.zip (us ++ ds))
theorem Binds.all {K : PySem.W.Frag} {fd : FuncData} {ps : List Str} (h : ∀ us : List Value, us.length = ps.length → bindArgs fd ⟨us, []⟩ = pure (ps.zip us)) : Binds K fd ps [] := fun s us _ hl => by
  rw [List.append_nil] at hl ⊢
  exact .of_eq (h us hl)
def Passes (CX : CXT) (X : Cx) (E : XK) : Prop := ∀ (pins : List (Addr × Obj)) (σ : St) (H : Hp) (s : Shared) (e : Value) (s' : Shared), Inv X pins σ H s → CX X.stack H s E e s' → X.xe e s'
section
variable {X : Cx} {CX : CXT} {k : Nat} {f C : Addr} {fd : FuncData} {ps : List Str} {sp : Sp} {dvs : List V} {ds : List Value} {E : XK} {x m : Str} {p pos apos : Pos} {e o : Expr} {es : List Expr} {ta : TE} {t : TA}
theorem run_fn {pins : List (Addr × Obj)} {σ : St} {H : Hp} {s : Shared} {Q : VK} {us : List Value} {vs : List V} (F : FnOk X.prog X.w X.K X.mg X.base CX k f fd ps sp) (hr : Room k X.A) (hb : Binds X.K fd ps ds) (hd : Vals dvs ds) (hx : Passes CX X E)
    (I : Inv X pins σ H s) (r : Vals vs us) (h : sp (vs ++ dvs) H Q E) : wpAny (model X.prog X.w) X.A (call (.ref f) us) (EP X pins σ Q) X.xe s := by
  have r2 : Vals (vs ++ dvs) (us ++ ds) := r.append hd
  have hl : (us ++ ds).length = ps.length := by rw [← r2.length]; exact F.len _ _ _ _ h
  refine wpAny_call (codeAny_mono (F.run X.A X.stack s H ⟨us, []⟩ (us ++ ds) (vs ++ dvs) Q E hr I.env0 (hb s us I.kIn hl) r2 h) fun r s' hq => ?_)
  cases r with
  | error e => exact hx pins σ H s e s' I hq
  | ok fl =>
    cases fl with
    | ret u => exact I.after hq
    | next => exact False.elim hq
    | brk => exact False.elim hq
    | cont => exact False.elim hq
theorem pe_call (F : FnOk X.prog X.w X.K X.mg X.base CX k f fd ps sp) (hr : Room k X.A) (hg : Gl X x) (hm : X.mg x = some (.ref f)) (hk : PySem.W.keepIn X.K (.ref f) = true) (hb : Binds X.K fd ps ds) (hd : Vals dvs ds) (hx : Passes CX X E)
    (ha : PA X (e :: es) t) (hdb : (x == ("__debug__" : Str)) = false := by decide) (he : starEach (e :: es) X.env = (false, eval e X.env) :: starEach es X.env := by rfl) (hpl : (backTo pos (starEach es X.env)).any (·.1) = false := by rfl) :
    PE X (.Call (.Name x p) (e :: es) [] pos) (tCall sp dvs E t) := by
  intro pins s σ H Q I h
  refine wpAny_Call_Name_kw (ld_glob I hg hm ?_ hdb)
  refine PySem.W.callWith_K (h₀ := X.base) I.ok.mod.kin hk (thn (ha pos pins s σ H _ I h) fun us s1 ⟨vs, H1, I1, r, q⟩ => ⟨I1.kIn, ?_⟩) he hpl
  exact run_fn F hr hb hd hx I1 r q
structure Mk (K : PySem.W.Frag) (C f : Addr) : Prop where
  makes : PySem.W.makesIn K C = true
  init : PySem.W.findIn K (.ref C) "__init__" = some (some (.ref f))
  fn : PySem.W.isFn K (.ref f) = true
  kp : PySem.W.keepIn K (.ref C) = true
end
section
variable {X : Cx} {CX : CXT} {k : Nat} {f C : Addr} {fd : FuncData} {ps ks : List Str} {sp : Sp} {E : XK} {x m : Str} {p pos apos kpos : Pos} {e o : Expr} {es : List Expr} {kws : List Keyword} {te ta : TE} {t tk : TA} {nm : Option Str}
structure KBinds (K : PySem.W.Frag) (fd : FuncData) (ps ks : List Str) (g : List Value → List Value → List Value) (gV : List V → List V → List V) : Prop where
  to : ∀ (s : Shared) (us ws : List Value), K.In s.heap → (g us ws).length = ps.length → BindsTo s fd ⟨us, ks.zip ws⟩ (ps.zip (g us ws))
  rel : ∀ {vs : List V} {us : List Value} {zs : List V} {ws : List Value}, Vals vs us → Vals zs ws → Vals (gV vs zs) (g us ws)
variable {g : List Value → List Value → List Value} {gV : List V → List V → List V}
end
structure FnScope (N P : List Str) (sc : Scope) : Prop where
  kind : sc.kind = .function
  co : sc.isCoroutine = false
  gen : sc.isGenerator = false
  nd : N.Nodup
  pre : N.take P.length = P
  par : ∀ x ∈ P, sc.names.lookup x = some .local ∨ sc.names.lookup x = some .cell
  nofree : ∀ y ∈ sc.names, y.2 ≠ .free
theorem bindL_out {kindOf : Str → Option NameKind} {x : Str} : ∀ {binds : List (Str × Value)} {m : Str → Option Value}, (∀ v, (x, v) ∉ binds) → bindL kindOf binds m x = m x
  | [], _, _ => rfl
  | (n, v) :: r, m, h => by
    unfold bindL
    rw [bindL_out fun w hw => h w (List.mem_cons_of_mem _ hw)]
    split
    · have : x ≠ n := by rintro rfl; exact h v List.mem_cons_self
      simp [this]
    · rfl
theorem bindC_out {kindOf : Str → Option NameKind} {x : Str} : ∀ {binds : List (Str × Value)} {m : Str → Option Value}, (∀ v, (x, v) ∉ binds) → bindC kindOf binds m x = m x
  | [], _, _ => rfl
  | (n, v) :: r, m, h => by
    unfold bindC
    rw [bindC_out fun w hw => h w (List.mem_cons_of_mem _ hw)]
    split
    · rfl
    · have : x ≠ n := by rintro rfl; exact h v List.mem_cons_self
      simp [this]
theorem bindL_get {kindOf : Str → Option NameKind} {x : Str} {v : Value} : ∀ {P : List Str} {vs : List Value} {i : Nat} {m : Str → Option Value}, P.Nodup → P[i]? = some x → vs[i]? = some v → kindOf x = some .local →
    bindL kindOf (P.zip vs) m x = some v
  | [], _, _, _, _, h, _, _ => by simp at h
  | _ :: _, [], _, _, _, _, h, _ => by simp at h
  | p :: P, w :: vs, 0, m, nd, h1, h2, hk => by
    simp at h1 h2; subst h1; subst h2
    show bindL kindOf ((p, w) :: P.zip vs) m p = _
    unfold bindL
    rw [bindL_out fun v hv => (List.nodup_cons.mp nd).1 (List.of_mem_zip hv).1, if_pos hk]
    simp
  | p :: P, w :: vs, i + 1, m, nd, h1, h2, hk => by
    show bindL kindOf ((p, w) :: P.zip vs) m x = _
    unfold bindL
    exact bindL_get (i := i) (List.nodup_cons.mp nd).2 (by simpa using h1) (by simpa using h2) hk
theorem bindC_get {kindOf : Str → Option NameKind} {x : Str} {v : Value} : ∀ {P : List Str} {vs : List Value} {i : Nat} {m : Str → Option Value}, P.Nodup → P[i]? = some x → vs[i]? = some v → kindOf x ≠ some .local →
    bindC kindOf (P.zip vs) m x = some v
  | [], _, _, _, _, h, _, _ => by simp at h
  | _ :: _, [], _, _, _, _, h, _ => by simp at h
  | p :: P, w :: vs, 0, m, nd, h1, h2, hk => by
    simp at h1 h2; subst h1; subst h2
    show bindC kindOf ((p, w) :: P.zip vs) m p = _
    unfold bindC
    rw [bindC_out fun v hv => (List.nodup_cons.mp nd).1 (List.of_mem_zip hv).1, if_neg hk]
    simp
  | p :: P, w :: vs, i + 1, m, nd, h1, h2, hk => by
    show bindC kindOf ((p, w) :: P.zip vs) m x = _
    unfold bindC
    exact bindC_get (i := i) (List.nodup_cons.mp nd).2 (by simpa using h1) (by simpa using h2) hk
def start (N : List Str) (vs : List V) : St := vs.map some ++ List.replicate (N.length - vs.length) none
def cxOf (CX : CXT) (P : Program) (w : World) (K : PySem.W.Frag) (mg : Str → Option Value) (base : Heap) (N : List Str) (qual : Str) (scope : Scope) (f : Addr) (cd : Value) (A : Around) (outer : List Env) (s : Shared) (H : Hp) (E : XK) : Cx where
  prog := P
  w := w
  K := K
  mg := mg
  base := base
  A := A.deeper (envOfC qual scope s.heap.objs.size f cd)
  N := N
  s₀ := s
  H₀ := H
  env := envOfC qual scope s.heap.objs.size f cd
  outer := outer
  stack := envOfC qual scope s.heap.objs.size f cd :: outer
  ex := []
  calm := true
  fn := fun _ => true
  pn := []
  xe := fun e s' => wpAny (model P w) (A.deeper (envOfC qual scope s.heap.objs.size f cd)) (leaving (envOfC qual scope s.heap.objs.size f cd) e) (fun _ s'' => CX outer H s E e s'') (fun e' s'' => CX outer H s E e' s'') s'
theorem cell_has {sc : Scope} {n : Nat} {x : Str} (h : sc.names.lookup x = some .cell) : ∃ c, (cellsFrom n sc.names []).lookup x = some c := by
  have q := PySem.W.cellsFrom_some sc.names n [] (.inl h)
  exact Option.isSome_iff_exists.mp q
theorem inv_start {CX : CXT} {P : Program} {w : World} {K : PySem.W.Frag} {mg : Str → Option Value} {base : Heap} {N ps : List Str} {qual : Str} {scope : Scope} {f : Addr} {cd : Value} {A : Around} {outer : List Env} {s s1 : Shared} {H : Hp} {E : XK} {us : List Value} {vs : List V}
    (S : FnScope N ps scope) (hd : A.handled = none) (e0 : Env0 P w K mg base A outer s H) (hl : vs.length = ps.length) (r : Vals vs us)
    (x : InCallC s s.heap.objs.size (bindL (envOfC qual scope s.heap.objs.size f cd).kindOf (ps.zip us) fun _ => none) (cellsFrom (s.heap.objs.size + 1) scope.names []) (bindC (envOfC qual scope s.heap.objs.size f cd).kindOf (ps.zip us) fun _ => none) s1) :
    Inv (cxOf CX P w K mg base N qual scope f cd A outer s H E) [] (start N vs) H s1 := by
  have hpl : ps.length ≤ N.length := by have := congrArg List.length S.pre; rw [List.length_take] at this; omega
  obtain ⟨h1, tk, rfl, hk⟩ := x.done
  have noA : ∀ b : Addr, b ∉ (cxOf CX P w K mg base N qual scope f cd A outer s H E).ex := fun b z => absurd (show b ∈ ([] : List Addr) from z) (by simp)
  refine ⟨⟨e0.mod, S.kind, rfl, rfl, Nat.le_refl _, fun y z c h1 h2 => ?_, fun y hy => ?_, fun y c _ h => ?_, fun _ => hd, Around.frames_deeper e0.frames, .inr ⟨rfl, rfl⟩, fun b z => absurd z (noA b), e0.bs, e0.bsz, fun b _ _ => noA b, fun b z => absurd z (noA b), e0.funs, e0.frf⟩,
    rfl, e0.bare, Un.kept hk, ⟨_, x.toInCall.ns, fun i y v h1 h2 h3 => ?_⟩, fun y c h => ⟨_, x.cell y c h⟩, e0.hok.fresh (Nat.le_refl _), fun y c h => ?_, fun p hp => absurd (show p ∈ ([] : List (Addr × Obj)) from hp) (by simp), e0.hok.kept hk, ?_⟩
  · exact name_of_addr x.apart (PySem.mem_of_lookup h1) (PySem.mem_of_lookup h2)
  · have hy : scope.names.lookup y = some .cell ∨ scope.names.lookup y = some .free := hy
    rcases hy with hy | hy
    · exact cell_has hy
    · exact absurd rfl (S.nofree _ (PySem.mem_of_lookup hy))
  · exact Nat.le_of_lt (x.above y c (PySem.mem_of_lookup h))
  · have hi : i < vs.length := by
      unfold start at h2
      by_cases hi : i < vs.length
      · exact hi
      · rw [List.getElem?_append_right (by simpa using hi)] at h2
        rw [List.getElem?_replicate] at h2
        split at h2 <;> cases h2
    have ha : vs[i]? = some v := by
      unfold start at h2
      rw [List.getElem?_append_left (by simpa using hi), List.getElem?_map] at h2
      cases e : vs[i]? with
      | none => rw [e] at h2; cases h2
      | some a => rw [e] at h2; cases h2; rfl
    obtain ⟨u, hu, rv⟩ := r.get ha
    have hp : ps[i]? = some y := by
      rw [← S.pre, List.getElem?_take_of_lt (by omega)]; exact h1
    have ndP : ps.Nodup := by rw [← S.pre]; exact S.nd.sublist (List.take_sublist _ _)
    refine ⟨u, rv, ?_⟩
    rcases S.par y (List.mem_of_getElem? hp) with k | k
    · exact .inl ⟨k, bindL_get ndP hp hu k⟩
    · obtain ⟨c, e⟩ := cell_has (n := s.heap.objs.size + 1) k
      refine .inr ⟨.inl k, c, e, ?_⟩
      have q := x.cell y c e
      rw [bindC_get ndP hp hu (by show scope.names.lookup y ≠ _; rw [k]; decide)] at q
      exact q
  · exact e0.hok.fresh (Nat.le_of_lt (x.above y c (PySem.mem_of_lookup h)))
  · unfold start
    show _ = N.length
    rw [List.length_append, List.length_map, List.length_replicate]
    omega
theorem fn_of {CX : CXT} {P : Program} {w : World} {K : PySem.W.Frag} {mg : Str → Option Value} {base : Heap} {k : Nat} {f : Addr} {name qual : Str} {params : Arguments} {body : List Stmt} {scope : Scope} {dV kV doc pm cdv ct oc : Value} {an od : Option Addr}
    {osl : Array (Option Value)} {N ps : List Str} {sp : Sp} (lk : K.lookup f = some ⟨oc, od, .func (PySem.W.fnOf name qual params body scope dV kV doc pm an cdv ct), osl⟩) (hcd : PySem.W.codeIn K cdv qual = true) (S : FnScope N ps scope)
    (len : ∀ vs H Q E, sp vs H Q E → vs.length = ps.length)
    (hbody : ∀ (A : Around) (outer : List Env) (s : Shared) (H : Hp) (vs : List V) (Q : VK) (E : XK), Room k (A.deeper (envOfC qual scope s.heap.objs.size f cdv)) → sp vs H Q E →
      ∃ t, PSs (cxOf CX P w K mg base N qual scope f cdv A outer s H E) body t ∧ t { nx := fun _ H' => Q .non H', rt := Q } (start N vs) H) :
    FnOk P w K mg base CX (k + 1) f (PySem.W.fnOf name qual params body scope dV kV doc pm an cdv ct) ps sp := by
  refine ⟨len, fun A outer s H args us vs Q E hr e0 hb r hsp => ?_⟩
  have hl := len _ _ _ _ hsp
  have KX : K.In s.heap := e0.mod.kin.keeps fun b o e => (e0.bs b o e).1
  have lim : s.heap.NoLimit := e0.mod.nolimit.keeps fun b o e => (e0.bs b o e).1
  have hkind : ∀ y ∈ ps.zip us, scope.names.lookup y.1 = some .local ∨ (scope.names.lookup y.1 = some .cell ∧ ((cellsFrom (s.heap.objs.size + 1) scope.names []).lookup y.1).isSome = true) := fun ⟨n, v⟩ hy => by
    rcases S.par n (List.of_mem_zip hy).1 with q | q
    · exact .inl q
    · exact .inr ⟨q, PySem.W.cellsFrom_some _ _ _ (.inl q)⟩
  refine codeAny_call_function hr.depth (KX _ _ lk) rfl S.co S.gen rfl (PySem.W.codeRec_of KX hcd) (hb _ _ _ _ ?_)
  refine wpAny_newFunctionEnv_cells S.kind hkind fun env he s1 x => ?_
  subst he
  refine ⟨lim.keeps x.toInCall.keep, codeAny_func ?_⟩
  obtain ⟨t, ht, hq⟩ := hbody A outer s H vs Q E (hr.deeper _) hsp
  have I : Inv (cxOf CX P w K mg base N qual scope f cdv A outer s H E) [] (start N vs) H s1 := inv_start S hr.hd e0 hl r x
  refine wpAny_mono (ht [] s1 (start N vs) H _ I hq) (fun fl s' hs => ?_) fun e s' hs => hs
  have fin : ∀ {σ' : St} {H' : Hp} {v : V} {u : Value}, Inv (cxOf CX P w K mg base N qual scope f cdv A outer s H E) [] σ' H' s' → RelV v u → Q v H' → CE outer P w H s Q u s' :=
    fun {σ' H' v u} J rv q => ⟨v, H', J.os, J.bare, J.base, J.hok, rv, q⟩
  cases fl with
  | ret u =>
    obtain ⟨v, σ', H', J, rv, q⟩ := hs
    exact fin J rv q
  | next =>
    obtain ⟨σ', H', J, q⟩ := hs
    exact fin (v := V.non) (u := Value.none) J rfl q
  | brk =>
    obtain ⟨_, _, _, q⟩ := hs
    exact False.elim q
  | cont =>
    obtain ⟨_, _, _, q⟩ := hs
    exact False.elim q
end L2
namespace L2
open PySem PySem.Spec PyProof.Rows
section
variable {X : Cx} {x : Str} {p pos : Pos} {e : Expr} {es : List Expr} {t : TA} {id T : String} {r : List V → Hp → VK → Prop}
def tCB (r : List V → Hp → VK → Prop) (t : TA) : TE := fun σ H Q => t σ H fun vs H1 => r vs H1 Q
theorem pe_callB (hc : CallR X (.builtin id) r) (hg : Gl X x) (hm : X.mg x = none) (hv : bootBuiltins x = some (.builtin id)) (ha : PA X (e :: es) t) (hn : x ≠ "__name__" := by decide) (hdb : (x == ("__debug__" : Str)) = false := by decide)
    (he : starEach (e :: es) X.env = (false, eval e X.env) :: starEach es X.env := by rfl) (hpl : (backTo pos (starEach es X.env)).any (·.1) = false := by rfl) : PE X (.Call (.Name x p) (e :: es) [] pos) (tCB r t) := by
  intro pins s σ H Q I h
  refine wpAny_Call_Name_kw (ld_blt I hg hm hv ?_ hn hdb)
  exact PyProof.Rows.callWith_builtin1 (thn (ha pos pins s σ H _ I h) fun us s1 ⟨vs, H1, I1, r1, q1⟩ => hc pins s1 σ H1 vs us Q I1 r1 q1) he hpl
theorem pe_callTy (hc : CallR X (.type T) r) (hg : Gl X x) (hm : X.mg x = none) (hv : bootBuiltins x = some (.type T)) (ha : PA X (e :: es) t) (hn : x ≠ "__name__" := by decide) (hdb : (x == ("__debug__" : Str)) = false := by decide)
    (he : starEach (e :: es) X.env = (false, eval e X.env) :: starEach es X.env := by rfl) (hpl : (backTo pos (starEach es X.env)).any (·.1) = false := by rfl) : PE X (.Call (.Name x p) (e :: es) [] pos) (tCB r t) := by
  intro pins s σ H Q I h
  refine wpAny_Call_Name_kw (ld_blt I hg hm hv ?_ hn hdb)
  exact PyProof.Rows.callWith_type1 (thn (ha pos pins s σ H _ I h) fun us s1 ⟨vs, H1, I1, r1, q1⟩ => hc pins s1 σ H1 vs us Q I1 r1 q1) he hpl
end
end L2
namespace HT
open PySem PyProof.Rows
section
open PySem.SeqAt
open PySem.AutoSeq1 (wpAny_loadPart')
open PySem.MeetsSeq PySem.MeetsSeq2 PySem.MeetsSeq3
end
section
variable {prog : Program} {w : World} {A : Around} {E : Value → Shared → Prop} {s : Shared}
def sIx (n d : Nat) : Option Int → Nat
  | none => d
  | some v => if v < 0 then (v + (n : Int)).toNat else min v.toNat n
theorem sIx_le (n d : Nat) (hd : d ≤ n) (o : Option Int) : sIx n d o ≤ n := by
  cases o with
  | none => exact hd
  | some v =>
    show (if v < 0 then (v + (n : Int)).toNat else min v.toNat n) ≤ n
    by_cases hv : v < 0
    · rw [if_pos hv]; omega
    · rw [if_neg hv]; exact Nat.min_le_right _ _
theorem clip_eq (v : Int) (n d : Nat) : (if v < 0 then max (v + (n : Int)) 0 else min v (n : Int)) = ((sIx n d (some v) : Nat) : Int) := by
  show (if v < 0 then max (v + (n : Int)) 0 else min v (n : Int)) = (((if v < 0 then (v + (n : Int)).toNat else min v.toNat n) : Nat) : Int)
  by_cases hv : v < 0
  · simp only [if_pos hv]; omega
  · simp only [if_neg hv]; omega
theorem adjust_gen (lo hi : Option Int) (n : Nat) : Builtin.Slice.sliceAdjust lo hi 1 (n : Int) = (((sIx n 0 lo : Nat) : Int), ((sIx n n hi : Nat) : Int)) := by
  have h1 : ¬ ((1 : Int) < 0) := by omega
  unfold Builtin.Slice.sliceAdjust
  simp only [h1, if_false]
  refine Prod.ext ?_ ?_
  · cases lo with
    | none => rfl
    | some v => exact clip_eq v n 0
  · cases hi with
    | none => rfl
    | some v => exact clip_eq v n n
theorem places_gen (i j : Nat) : Builtin.Slice.slicePlaces (i : Int) (j : Int) 1 = j - i := by
  unfold Builtin.Slice.slicePlaces
  have h1 : (1 : Int) > 0 := by omega
  simp only [h1, if_true, Int.ediv_one]
  split <;> omega
theorem slicePart_ {v : Value} {o : Option Int} {Q : Option Int → Shared → Prop} (p : IsPart v o) (h : Q o s) : wpAny (model prog w) A (Builtin.Slice.slicePartIndex v) Q E s := by
  cases p with
  | none => exact slicePart_none h
  | int i t => exact slicePart_int h
theorem sliceApplied_gen {sl : Addr} {vl vu : Value} {lo hi : Option Int} {n : Nat} {Q : Int × Int × Nat → Shared → Prop} (hs : s.heap.IsSliceOf sl vl vu .none) (pl : IsPart vl lo) (pu : IsPart vu hi)
    (h : Q (((sIx n 0 lo : Nat) : Int), 1, sIx n n hi - sIx n 0 lo) s) : wpAny (model prog w) A (Builtin.Slice.sliceApplied (.ref sl) (pure (n : Int))) Q E s := by
  obtain ⟨os, hos, hcs, hds⟩ := id hs
  unfold Builtin.Slice.sliceApplied Builtin.Slice.sliceFields
  refine wpAny_bind (wpAny_bind (wpAny_field hos hds (x := vl) rfl (wpAny_bind (wpAny_field hos hds (x := vu) rfl (wpAny_bind (wpAny_field hos hds (x := .none) rfl (wpAny_pure ?_)))))))
  refine wpAny_bind (slicePart_none ?_)
  show wpAny _ _ (if ((1 : Int) == 0) = true then _ else _) _ _ s
  rw [if_neg (by decide)]
  refine wpAny_bind (slicePart_ pl (wpAny_bind (slicePart_ pu (wpAny_bind (wpAny_pure ?_)))))
  show wpAny _ _ (match Builtin.Slice.sliceAdjust lo hi 1 (n : Int) with | (lo, hi) => pure (lo, (1 : Int), Builtin.Slice.slicePlaces lo hi 1)) _ _ s
  rw [adjust_gen lo hi n]
  show wpAny _ _ (pure (((sIx n 0 lo : Nat) : Int), (1 : Int), Builtin.Slice.slicePlaces ((sIx n 0 lo : Nat) : Int) ((sIx n n hi : Nat) : Int) 1)) _ _ s
  rw [places_gen]
  exact wpAny_pure h
theorem pick_gen (xs : Array Value) (i k : Nat) : ((List.range k).filterMap fun (m : Nat) => xs[((i : Int) + (m : Int) * 1).toNat]?).toArray = ((xs.toList.drop i).take k).toArray := by
  have e : (fun (m : Nat) => xs[((i : Int) + (m : Int) * 1).toNat]?) = fun m => xs[i + m]? := by
    funext m
    have : ((i : Int) + (m : Int) * 1).toNat = i + m := by omega
    rw [this]
  rw [e]
  have := pick_run xs i k
  rw [List.filterMap_map] at this
  have e2 : ((fun x => xs[x]?) ∘ fun x => i + x) = fun m => xs[i + m]? := rfl
  rw [e2] at this
  rw [this]
theorem getItem_tuple_cut {t sl : Addr} {items : Array Value} {vl vu : Value} {lo hi : Option Int} {Q : Value → Shared → Prop} (ht : IsTup s.heap t items) (hs : s.heap.IsSliceOf sl vl vu .none) (pl : IsPart vl lo) (pu : IsPart vu hi)
    (hw : ¬ (sIx items.size 0 lo = 0 ∧ sIx items.size items.size hi = items.size))
    (h : Q (.ref s.heap.objs.size) { s with heap := s.heap.push { cls := .type "tuple", data := .seq ((items.toList.drop (sIx items.size 0 lo)).take (sIx items.size items.size hi - sIx items.size 0 lo)).toArray } })
    (hsz : items.size ≤ sizeLine) : wpAny (model prog w) A (getItem (.ref t) (.ref sl)) Q E s := by
  have htake : sizeOk (.seq ((items.toList.drop (sIx items.size 0 lo)).take (sIx items.size items.size hi - sIx items.size 0 lo)).toArray) := by
    show ((items.toList.drop (sIx items.size 0 lo)).take (sIx items.size items.size hi - sIx items.size 0 lo)).toArray.size ≤ sizeLine
    rw [List.size_toArray, List.length_take, List.length_drop, Array.length_toList]
    omega
  have hj : sIx items.size items.size hi ≤ items.size := sIx_le _ _ (Nat.le_refl _) hi
  obtain ⟨os, hos, hcs, hds⟩ := id hs
  have hTs : s.TypeIs (.ref sl) "slice" := ⟨os, hos, hcs⟩
  unfold getItem
  try with_reducible refine wpAny_holding ?_
  first | refine wpAny_bind (wpAny_pure ?_) | skip
  refine wpAny_bind (wpAny_sequenceKey ht.typeIs (by decide) ?_)
  refine wpAny_bind (wpAny_callSpecial?_slot (name := Str.ofString "__getitem__") ht.typeIs PyProof.Rows.slot_tuple_getitem
    (wpAny_call_entry PyProof.Rows.slot_tuple_getitem ht.typeIs entry_tuple_getitem ?_ (args_tuple_getitem _ _)))
  show wpAny _ _ (Builtin.Tuple.tupleItemsOf (.ref t) >>= _) _ _ s
  refine wpAny_bind (tupleItemsOf_ ht ?_)
  refine wpAny_bind (wpAny_typeOf hTs ?_)
  rw [if_pos (by decide)]
  refine wpAny_bind (sliceApplied_gen hs pl pu ?_)
  have hno : ¬ ((((sIx items.size 0 lo : Nat) : Int) == 0 && (1 : Int) == 1 && (sIx items.size items.size hi - sIx items.size 0 lo) == items.size) = true) := by
    intro q
    rw [Bool.and_eq_true, Bool.and_eq_true] at q
    have q1 : ((sIx items.size 0 lo : Nat) : Int) = 0 := eq_of_beq q.1.1
    have q2 : sIx items.size items.size hi - sIx items.size 0 lo = items.size := eq_of_beq q.2
    exact hw ⟨by omega, by omega⟩
  show wpAny _ _ (if (((sIx items.size 0 lo : Nat) : Int) == 0 && (1 : Int) == 1 && (sIx items.size items.size hi - sIx items.size 0 lo) == items.size) = true then _ else _) _ _ s
  rw [if_neg hno, pick_gen]
  first
    | exact wpAny_bind (m := Builtin.Tuple.tupleExact _) (wpAny_newObj_type (wpAny_pure ⟨_, rfl, wpAny_pure h⟩) htake)
    | exact wpAny_bind (m := Builtin.Tuple.tupleExact _) (wpAny_newObj_type (wpAny_bind (wpAny_pure (wpAny_pure ⟨_, rfl, wpAny_pure h⟩))) htake)
    | exact wpAny_bind (wpAny_bind (m := Builtin.Tuple.tupleExact _) (wpAny_newObj_type (wpAny_pure (wpAny_pure ⟨_, rfl, wpAny_pure h⟩)) htake))
    | exact wpAny_bind (wpAny_bind (m := Builtin.Tuple.tupleExact _) (wpAny_newObj_type (wpAny_pure ⟨_, rfl, wpAny_pure h⟩) htake))
end
end HT
namespace L2
open PySem PySem.Spec PyProof.Rows
abbrev TO := St → Hp → (Option Int → Hp → Prop) → Prop
def PO (X : Cx) (e : Option Expr) (t : TO) : Prop :=
  ∀ (pins : List (Addr × Obj)) (s : Shared) (σ : St) (H : Hp) (Q : Option Int → Hp → Prop), Inv X pins σ H s → t σ H Q →
    wpAny (model X.prog X.w) X.A (evalPart e X.env) (fun u s' => ∃ o H', Inv X pins σ H' s' ∧ IsPart u o ∧ Q o H') X.xe s
def tNoPart : TO := fun _ H Q => Q none H
def tPart (t : TE) : TO := fun σ H Q => t σ H fun x H1 => ∃ i, x = .int i ∧ Q (some i) H1
section
variable {X : Cx} {e : Expr} {te : TE} {lo hi : Option Expr} {tl th : TO} {pos p2 : Pos}
theorem po_none : PO X none tNoPart := by
  intro pins s σ H Q I h
  rw [evalPart_none]
  exact wpAny_pure ⟨none, H, I, .none, h⟩
theorem po_some (h : PE X e te) : PO X (some e) (tPart te) := by
  intro pins s σ H Q I hw
  rw [evalPart_some]
  refine thn (h pins s σ H _ I hw) fun u s1 ⟨x, H1, I1, r1, q1⟩ => ?_
  obtain ⟨i, rfl, q⟩ := q1
  obtain ⟨t, rfl⟩ := r1
  exact ⟨some i, H1, I1, .int i t, q⟩
def SlR (X : Cx) (r : V → Option Int → Option Int → Hp → VK → Prop) : Prop :=
  ∀ (pins : List (Addr × Obj)) (s : Shared) (σ : St) (H : Hp) (x : V) (v vl vu : Value) (lo hi : Option Int) (sl : Addr) (Q : VK), Inv X pins σ H s → RelV x v → s.heap.IsSliceOf sl vl vu .none → IsPart vl lo → IsPart vu hi → r x lo hi H Q →
    ∃ T id, typeLookup (.type T) "__getitem__" = pure (some (.builtin id)) ∧ s.TypeIs v T ∧ wpAny (model X.prog X.w) X.A (getItem v (.ref sl)) (EP X pins σ Q) X.xe s
theorem SlR.or {r r' : V → Option Int → Option Int → Hp → VK → Prop} (h : SlR X r) (h' : SlR X r') : SlR X (fun x lo hi H Q => r x lo hi H Q ∨ r' x lo hi H Q) := by
  intro pins s σ H x v vl vu lo hi sl Q I rx hs pl pu q
  rcases q with q | q
  · exact h pins s σ H x v vl vu lo hi sl Q I rx hs pl pu q
  · exact h' pins s σ H x v vl vu lo hi sl Q I rx hs pl pu q
def tSl (r : V → Option Int → Option Int → Hp → VK → Prop) (te : TE) (tl th : TO) : TE := fun σ H Q => te σ H fun x H1 => tl σ H1 fun l H2 => th σ H2 fun u H3 => r x l u H3 Q
theorem pe_slice {r : V → Option Int → Option Int → Hp → VK → Prop} (hr : SlR X r) (he : PE X e te) (hl : PO X lo tl) (hu : PO X hi th) : PE X (.Subscript e (.Slice lo hi none p2) pos) (tSl r te tl th) := by
  intro pins s σ H Q I h
  refine Subscript_ (thn (he pins s σ H _ I h) fun v s1 ⟨x, H1, I1, r1, q1⟩ => ?_)
  refine wpAny_Slice (thn (hl pins s1 σ H1 _ I1 q1) fun vl s2 ⟨l, H2, I2, pl, q2⟩ => thn (hu pins s2 σ H2 _ I2 q2) fun vu s3 ⟨u, H3, I3, pu, q3⟩ => ?_)
  rw [evalPart_none]
  refine wpAny_pure ?_
  have I4 : Inv X pins σ H3 { s3 with heap := s3.heap.push { cls := .type "slice", data := .fields #[vl, vu, .none] } } := I3.kept (t' := s3.toks) fun b ob q => Heap.get?_push_of_some _ q
  obtain ⟨T, id, hT, ht, hg⟩ := hr pins { s3 with heap := s3.heap.push { cls := .type "slice", data := .fields #[vl, vu, .none] } } σ H3 x v vl vu l u s3.heap.objs.size Q I4 r1 (Heap.IsSliceOf.new ..) pl pu q3
  show wpAny (model X.prog X.w) X.A (subscriptTail e (.Slice lo hi none p2) v (.ref s3.heap.objs.size)) (EP X pins σ Q) X.xe { s3 with heap := s3.heap.push { cls := .type "slice", data := .fields #[vl, vu, .none] } }
  exact tail_any (ops := [.ref s3.heap.objs.size, v]) ht hT hg (by with_unfolding_all rfl)
def cutV (xs : List V) (lo hi : Option Int) : List V := (xs.drop (HT.sIx xs.length 0 lo)).take (HT.sIx xs.length xs.length hi - HT.sIx xs.length 0 lo)
theorem cutV_length (xs : List V) (lo hi : Option Int) : (cutV xs lo hi).length ≤ xs.length := by
  unfold cutV
  rw [List.length_take, List.length_drop]
  omega
def rSlT (K : PySem.W.Frag) : V → Option Int → Option Int → Hp → VK → Prop := fun x lo hi H Q => ∃ a xs, x = .ref a ∧ SqT K H a xs ∧
  ¬ (HT.sIx xs.length 0 lo = 0 ∧ HT.sIx xs.length xs.length hi = xs.length) ∧ ∀ p, H p = none → Q (.ref p) (upd H p (.tup (cutV xs lo hi)))
theorem sl_tup : SlR X (rSlT X.K) := by
  intro pins s σ H x v vl vu lo hi sl Q I rx hs pl pu h
  obtain ⟨a, xs, rfl, hx, hw, q⟩ := h
  cases rx
  obtain ⟨its, r, ht, hz⟩ := I.tuple hx
  have hlen : its.toArray.size = xs.length := by rw [List.size_toArray]; exact r.length.symm
  refine ⟨"tuple", _, PyProof.Rows.slot_tuple_getitem.lookup, ht.typeIs, ?_⟩
  refine HT.getItem_tuple_cut ht hs pl pu (by rw [hlen]; exact hw) ?_ (by rw [hlen]; exact hz)
  rw [hlen]
  refine ⟨.ref s.heap.objs.size, _, I.laid (t' := s.toks) (o := .tup (cutV xs lo hi)) (fun b ob q => Heap.get?_push_of_some _ q) (Nat.le_refl _) ?_, rfl, q _ (I.hok.fresh (Nat.le_refl _))⟩
  exact ⟨Nat.le_trans (cutV_length xs lo hi) hz, _, (r.drop (HT.sIx xs.length 0 lo)).take (HT.sIx xs.length xs.length hi - HT.sIx xs.length 0 lo), IsTup.new _ _⟩
end
end L2
namespace L2
open PySem PySem.Spec PyProof.Rows
def ixN (n : Nat) (i : Int) : Option Nat := if 0 ≤ i then (if i < n then some i.toNat else none) else if -(n : Int) ≤ i then some (i + n).toNat else none
def atI {α : Type} (xs : List α) (i : Int) : Option α := (ixN xs.length i).bind fun j => xs[j]?
theorem ixN_seq {n : Nat} {i : Int} {j : Nat} (h : ixN n i = some j) : seqIndex? i n = some j ∧ j < n ∧ -(n : Int) ≤ i ∧ i < n := by
  unfold ixN at h
  by_cases h0 : 0 ≤ i
  · rw [if_pos h0] at h
    by_cases h1 : i < n
    · rw [if_pos h1] at h
      have e : i.toNat = j := Option.some.inj h
      exact ⟨by rw [seqIndex_of h0 h1, e], by omega, by omega, h1⟩
    · rw [if_neg h1] at h; cases h
  · rw [if_neg h0] at h
    by_cases h1 : -(n : Int) ≤ i
    · rw [if_pos h1] at h
      have e : (i + n).toNat = j := Option.some.inj h
      exact ⟨by rw [seqIndex_neg (by omega) h1, e], by omega, h1, by omega⟩
    · rw [if_neg h1] at h; cases h
theorem atI_get {α : Type} {xs : List α} {i : Int} {v : α} (h : atI xs i = some v) : ∃ j, seqIndex? i xs.length = some j ∧ xs[j]? = some v ∧ j < xs.length ∧ -(xs.length : Int) ≤ i ∧ i < xs.length := by
  unfold atI at h
  cases e : ixN xs.length i with
  | none => rw [e] at h; cases h
  | some j =>
    rw [e] at h
    obtain ⟨h1, h2, h3, h4⟩ := ixN_seq e
    exact ⟨j, h1, h, h2, h3, h4⟩
def PlainIx (b : Expr) : Prop := ∀ o i, subscripted b false o i = operate [o, i] (getItem o i)
def IxR (X : Cx) (r : R2) : Prop :=
  ∀ (value slice : Expr) (pins : List (Addr × Obj)) (s : Shared) (σ : St) (H : Hp) (x y : V) (v u : Value) (Q : VK), Inv X pins σ H s → RelV x v → RelV y u → r x y H Q →
    subscripted slice false v u = operate [v, u] (getItem v u) → wpAny (model X.prog X.w) X.A (subscriptTail value slice v u) (EP X pins σ Q) X.xe s
def MtR (X : Cx) (id : String) (r : V → List V → Hp → VK → Prop) : Prop :=
  ∀ (pins : List (Addr × Obj)) (s : Shared) (σ : St) (H : Hp) (x : V) (xs : List V) (v : Value) (us : List Value) (Q : VK), Inv X pins σ H s → RelV x v → Vals xs us → r x xs H Q →
    wpAny (model X.prog X.w) X.A (call (.builtin id) (v :: us)) (EP X pins σ Q) X.xe s
section
variable {X : Cx} {a b : Expr} {ta tb : TE} {pos : Pos}
theorem IxR.or {r r' : R2} (h : IxR X r) (h' : IxR X r') : IxR X (fun x y H Q => r x y H Q ∨ r' x y H Q) := by
  intro value slice pins s σ H x y v u Q I rx ry q hs
  rcases q with q | q
  · exact h value slice pins s σ H x y v u Q I rx ry q hs
  · exact h' value slice pins s σ H x y v u Q I rx ry q hs
theorem MtR.or {id : String} {r r' : V → List V → Hp → VK → Prop} (h : MtR X id r) (h' : MtR X id r') : MtR X id (fun x xs H Q => r x xs H Q ∨ r' x xs H Q) := by
  intro pins s σ H x xs v us Q I rx rs q
  rcases q with q | q
  · exact h pins s σ H x xs v us Q I rx rs q
  · exact h' pins s σ H x xs v us Q I rx rs q
theorem pe_ix {r : R2} (hr : IxR X r) (ha : PE X a ta) (hb : PE X b tb) (hs : PlainIx b) : PE X (.Subscript a b pos) (tOp r ta tb) := by
  intro pins s σ H Q I h
  exact Subscript_ (binT ha hb I h fun v u s2 x y H2 I2 rx ry q => hr a b pins s2 σ H2 x y v u Q I2 rx ry q (hs _ _))
def rIxL (K : PySem.W.Frag) : R2 := fun x y H Q => ∃ p xs i v, x = .ref p ∧ y = .int i ∧ SqL K H p xs ∧ atI xs i = some v ∧ Q v H
def rIxT (K : PySem.W.Frag) : R2 := fun x y H Q => ∃ p xs i v, x = .ref p ∧ y = .int i ∧ SqT K H p xs ∧ atI xs i = some v ∧ Q v H
def rIxS : R2 := fun x y H Q => ∃ z i c, x = .str z ∧ y = .int i ∧ z.length ≤ sizeLine ∧ atI z.cps.toList i = some c ∧ Q (.str ⟨#[c]⟩) H
theorem ix_list : IxR X (rIxL X.K) := by
  intro value slice pins s σ H x y v u Q I rx ry h hs
  obtain ⟨p, xs, i, z, rfl, rfl, hq, he, q⟩ := h
  cases rx
  obtain ⟨t, rfl⟩ := ry
  obtain ⟨its, r, pl, hz⟩ := I.list hq
  obtain ⟨j, h1, h2, h3, h4, h5⟩ := atI_get he
  obtain ⟨w, ew, rw'⟩ := r.get h2
  have hl := r.length
  have hn := line63
  have fin : EP X pins σ Q w s := ⟨z, H, I, rw', q⟩
  by_cases h0 : 0 ≤ i
  · have hj : i.toNat = j := by
      rw [seqIndex_of h0 h5] at h1
      exact Option.some.inj h1
    exact item_listR pl.isList h0 (by omega) (by rw [hj]; simpa using ew) fin hs
  · have hj : (i + (its.toArray.size : Int)).toNat = j := by
      rw [seqIndex_neg (by omega) h4] at h1
      rw [List.size_toArray, ← hl]
      exact Option.some.inj h1
    exact subscriptTail_builtinR (x := w) pl.isList.typeIs slot_list_getitem.lookup
      (wpAny_getItem_list_neg (Q := fun r s' => r = w ∧ EP X pins σ Q r s') pl.isList (by omega) (by rw [List.size_toArray] <;> omega) (by omega) (by rw [hj]; simpa using ew) ⟨rfl, fin⟩) hs
theorem ix_tup : IxR X (rIxT X.K) := by
  intro value slice pins s σ H x y v u Q I rx ry h hs
  obtain ⟨p, xs, i, z, rfl, rfl, hq, he, q⟩ := h
  cases rx
  obtain ⟨t, rfl⟩ := ry
  obtain ⟨its, r, pl, hz⟩ := I.tuple hq
  obtain ⟨j, h1, h2, h3, h4, h5⟩ := atI_get he
  obtain ⟨w, ew, rw'⟩ := r.get h2
  have hl := r.length
  have hn := line63
  have fin : EP X pins σ Q w s := ⟨z, H, I, rw', q⟩
  exact subscriptTail_builtinR (x := w) pl.typeIs slot_tuple_getitem.lookup
    (getItem_tuple (j := j) (Q := fun r s' => r = w ∧ EP X pins σ Q r s') pl (by omega) (by omega) (by rw [List.size_toArray, ← hl]; exact h1) (by simpa using ew) ⟨rfl, fin⟩) hs
theorem ix_str : IxR X rIxS := by
  intro value slice pins s σ H x y v u Q I rx ry h hs
  obtain ⟨z, i, c, rfl, rfl, hz, he, q⟩ := h
  obtain ⟨t, rfl⟩ := rx
  obtain ⟨t', rfl⟩ := ry
  obtain ⟨j, h1, h2, h3, h4, h5⟩ := atI_get he
  have hl : z.cps.toList.length = z.length := by simp [Str.length]
  rw [hl] at h1 h4 h5
  have hn := line63
  exact tail_any (typeIs_str s z t) slot_str_getitem.lookup (getItem_str (c := c) (by
    have e1 : decide (i < -(2 ^ 63 : Int)) = false := decide_eq_false (by omega)
    have e2 : decide (i ≥ 2 ^ 63) = false := decide_eq_false (by omega)
    rw [e1, e2, Bool.or_false]) (by rw [h1]; simpa using h2) ⟨.str ⟨#[c]⟩, H, I.tok _, ⟨_, rfl⟩, q⟩) hs
def rIx (K : PySem.W.Frag) : R2 := fun x y H Q => rIxL K x y H Q ∨ rIxT K x y H Q ∨ rIxS x y H Q
theorem ix_seq : IxR X (rIx X.K) := ix_list.or (ix_tup.or ix_str)
theorem mapSeq_set (its : List Value) (n j : Nat) (u : Value) : Obj.mapSeq (·.setIfInBounds j u) { cls := .type "list", data := .seq its.toArray n } = { cls := .type "list", data := .seq (its.set j u).toArray n } := by
  simp [Obj.mapSeq]
theorem Inv.lst {pins : List (Addr × Obj)} {σ : St} {H : Hp} {s : Shared} {p : Addr} {xs : List V} (I : Inv X pins σ H s) (h : H p = some (.lst xs)) :
    ∃ (its : List Value) (n : Nat), Vals xs its ∧ s.heap.get? p = some { cls := .type "list", data := .seq its.toArray n } ∧ xs.length ≤ sizeLine := by
  obtain ⟨z, its, n, r, e⟩ := I.hok p _ h
  exact ⟨its, n, r, e, z⟩
theorem Inv.lstUpd {pins : List (Addr × Obj)} {σ : St} {H : Hp} {s : Shared} {p : Addr} {xs ys : List V} {its its' : List Value} {n n' : Nat} {f : Obj → Obj} (I : Inv X pins σ H s) (h : H p = some (.lst xs))
    (ho : s.heap.get? p = some { cls := .type "list", data := .seq its.toArray n }) (hf : f { cls := .type "list", data := .seq its.toArray n } = { cls := .type "list", data := .seq its'.toArray n' }) (r : Vals ys its') (hz : ys.length ≤ sizeLine) (t : Nat) :
    Inv X pins σ (upd H p (.lst ys)) { s with heap := s.heap.update p f, toks := t } := by
  have e : (s.heap.update p f).get? p = some { cls := .type "list", data := .seq its'.toArray n' } := by
    rw [Heap.get?_update_self f ho (by rw [hf] <;> rfl), hf]
  refine I.write (x := p) (e := p) (by rw [h]; trivial) (.inl rfl) (fun b u hb q => (Heap.get?_update_other _ _ (Ne.symm hb)).trans q) ⟨_, e⟩ ?_
  exact ⟨hz, its', n', r, e⟩
def rSetL : V → V → V → Hp → (Hp → Prop) → Prop := fun o i v H Q => ∃ p xs k j, o = .ref p ∧ i = .int k ∧ H p = some (.lst xs) ∧ ixN xs.length k = some j ∧ Q (upd H p (.lst (xs.set j v)))
theorem set_list : PSet X rSetL := by
  intro pins s σ H o i v ov iv u Q I ro ri rv h
  obtain ⟨p, xs, k, j, rfl, rfl, hp, hj, q⟩ := h
  cases ro
  obtain ⟨t, rfl⟩ := ri
  obtain ⟨its, n, r, ho, hz⟩ := I.lst hp
  obtain ⟨h1, h2, h3, h4⟩ := ixN_seq hj
  have hl := r.length
  have hn := line63
  have I' : Inv X pins σ (upd H p (.lst (xs.set j v))) { s with heap := s.heap.update p (Obj.mapSeq (·.setIfInBounds j u)) } :=
    I.lstUpd hp ho (mapSeq_set its n j u) (r.set rv j) (by rw [List.length_set]; exact hz) s.toks
  by_cases h0 : 0 ≤ k
  · have hk : k.toNat = j := by
      rw [seqIndex_of h0 h4] at h1
      exact Option.some.inj h1
    exact PySem.W.ki_setAt ho h0 (by omega) (by rw [List.size_toArray, ← hl]; exact h4) (by rw [hk]; exact ⟨_, I', q⟩)
  · have hk : (k + (its.toArray.size : Int)).toNat = j := by
      rw [seqIndex_neg (by omega) h3] at h1
      rw [List.size_toArray, ← hl]
      exact Option.some.inj h1
    exact PySem.W.ki_setBack ho (by omega) (by rw [List.size_toArray, ← hl]; exact h3) (by omega) (by rw [hk]; exact ⟨_, I', q⟩)
theorem slice_bounds (lo hi : Option Int) (n : Nat) : (sliceBounds lo hi none n).1 = ((HT.sIx n 0 lo : Nat) : Int) ∧ (sliceBounds lo hi none n).2.1 = ((HT.sIx n n hi : Nat) : Int) ∧ (sliceBounds lo hi none n).2.2 = 1 := by
  refine ⟨?_, ?_, rfl⟩
  · cases lo with
    | none => simp [sliceBounds, HT.sIx]
    | some i =>
      simp only [sliceBounds, HT.sIx, Option.getD_none, show (1 : Int) > 0 by decide, if_true]
      by_cases h : i < 0
      · simp only [h, if_true] <;> omega
      · simp only [h, if_false] <;> omega
  · cases hi with
    | none => simp [sliceBounds, HT.sIx]
    | some i =>
      simp only [sliceBounds, HT.sIx, Option.getD_none, show (1 : Int) > 0 by decide, if_true]
      by_cases h : i < 0
      · simp only [h, if_true] <;> omega
      · simp only [h, if_false] <;> omega
theorem slicePick_cut (its : List Value) (lo hi : Option Int) : slicePick its.toArray lo hi none = ((its.drop (HT.sIx its.length 0 lo)).take (HT.sIx its.length its.length hi - HT.sIx its.length 0 lo)).toArray := by
  obtain ⟨h1, h2, h3⟩ := slice_bounds lo hi its.toArray.size
  unfold slicePick
  rw [h1, h2, h3]
  simp only [sliceRange_one, pick_run, List.size_toArray] <;> rfl
def rSlL (K : PySem.W.Frag) : V → Option Int → Option Int → Hp → VK → Prop := fun x lo hi H Q => ∃ a xs, x = .ref a ∧ SqL K H a xs ∧ ∀ p, H p = none → Q (.ref p) (upd H p (.lst (cutV xs lo hi)))
theorem sl_list : SlR X (rSlL X.K) := by
  intro pins s σ H x v vl vu lo hi sl Q I rx hs pl pu h
  obtain ⟨a, xs, rfl, hx, q⟩ := h
  cases rx
  obtain ⟨its, r, ht, hz⟩ := I.list hx
  have hlen := r.length
  refine ⟨"list", _, slot_list_getitem.lookup, ht.isList.typeIs, ?_⟩
  refine wpAny_getItem_list_slice ht.isList hs pl pu .none (by simp) ?_ (by rw [List.size_toArray] <;> omega)
  rw [slicePick_cut, ← hlen]
  refine ⟨.ref s.heap.objs.size, _, I.laid (t' := s.toks) (o := .lst (cutV xs lo hi)) (fun b ob q => Heap.get?_push_of_some _ q) (Nat.le_refl _) ?_, rfl, q _ (I.hok.fresh (Nat.le_refl _))⟩
  exact ⟨Nat.le_trans (cutV_length xs lo hi) hz, _, 0, (r.drop (HT.sIx xs.length 0 lo)).take (HT.sIx xs.length xs.length hi - HT.sIx xs.length 0 lo), Heap.get?_push_size _ rfl⟩
theorem call_len_seq : CallR X (.builtin "len") (fun xs H Q => ∃ p ys, xs = [.ref p] ∧ (SqL X.K H p ys ∨ SqT X.K H p ys) ∧ Q (.int ys.length) H) := by
  intro pins s σ H xs us Q I r h
  obtain ⟨p, ys, rfl, hq, q⟩ := h
  obtain ⟨u, rfl, rx⟩ := vals1 r
  cases rx
  have hn := line63
  rcases hq with hq | hq
  · obtain ⟨its, r', pl, hz⟩ := I.list hq
    have hlen := r'.length
    exact Calls.call_len_list pl.isList (by simp only [List.size_toArray] <;> omega) ⟨.int ys.length, H, I.tok _, ⟨s.toks + 1, by rw [List.size_toArray, hlen]⟩, q⟩
  · obtain ⟨its, r', pl, hz⟩ := I.tuple hq
    have hlen := r'.length
    exact len_tuple pl (by simp only [List.size_toArray] <;> omega) ⟨.int ys.length, H, I.tok _, ⟨s.toks + 1, by rw [List.size_toArray, hlen]⟩, q⟩
theorem CallR.or {f : Value} {r r' : List V → Hp → VK → Prop} (h : CallR X f r) (h' : CallR X f r') : CallR X f (fun xs H Q => r xs H Q ∨ r' xs H Q) := by
  intro pins s σ H xs us Q I rs q
  rcases q with q | q
  · exact h pins s σ H xs us Q I rs q
  · exact h' pins s σ H xs us Q I rs q
theorem call_list_of : CallR X (.type "list") (fun xs H Q => ∃ p ys, xs = [.ref p] ∧ (SqL X.K H p ys ∨ SqT X.K H p ys) ∧ ∀ l, H l = none → Q (.ref l) (upd H l (.lst ys))) := by
  intro pins s σ H xs us Q I r h
  obtain ⟨p, ys, rfl, hq, q⟩ := h
  obtain ⟨u, rfl, rx⟩ := vals1 r
  cases rx
  have fin : ∀ (its : List Value), Vals ys its → ys.length ≤ sizeLine → ∀ (h' : Heap) (c' : Nat), (∀ b o', s.heap.get? b = some o' → h'.get? b = some o') →
      h'.get? s.heap.objs.size = some { cls := .type "list", dict := none, data := .seq its.toArray c', slots := #[] } → EP X pins σ Q (.ref s.heap.objs.size) { s with heap := h' } := fun its r' hz h' c' kp e =>
    ⟨.ref s.heap.objs.size, _, I.laid (t' := s.toks) kp (Nat.le_refl _) (show ObjOk X.prog X.w _ h' _ (.lst ys) from ⟨hz, its, c', r', e⟩), rfl, q _ (I.hok.fresh (Nat.le_refl _))⟩
  rcases hq with hq | hq
  · obtain ⟨its, r', pl, hz⟩ := I.list hq
    have hlen := r'.length
    obtain ⟨o, ho, hc, n, hd⟩ := pl.isList
    exact call_list_seq p (.inl rfl) ho hc hd (fun h' c' kp e => fin its r' hz h' c' kp e) (by simp only [List.size_toArray] <;> omega)
  · obtain ⟨its, r', pl, hz⟩ := I.tuple hq
    have hlen := r'.length
    obtain ⟨o, ho, hc, n, hd⟩ := pl
    exact call_list_seq p (.inr rfl) ho hc hd (fun h' c' kp e => fin its r' hz h' c' kp e) (by simp only [List.size_toArray] <;> omega)
def tyV (K : PySem.W.Frag) (T : String) (x : V) (H : Hp) : Prop := match x with
  | .str _ => T = "str"
  | .int _ => T = "int"
  | .ref p => (T = "list" ∧ ∃ xs, SqL K H p xs) ∨ (T = "tuple" ∧ ∃ o, K.lookup p = some o ∧ o.cls = .type "tuple" ∧ o.dict = none) ∨
      (T = "dict" ∧ ((∃ kvs, H p = some (.dK kvs)) ∨ ∃ kvs, H p = some (.dT kvs))) ∨ (T = "set" ∧ ∃ S n, H p = some (.set S n))
  | _ => False
theorem tyV_is {pins : List (Addr × Obj)} {σ : St} {H : Hp} {s : Shared} {T : String} {x : V} {v : Value} (I : Inv X pins σ H s) (r : RelV x v) (ty : tyV X.K T x H) :
    s.TypeIs v T ∧ ∀ a, v = .ref a → ∃ ob, s.heap.get? a = some ob ∧ ob.dict = none := by
  cases x with
  | str z =>
    obtain ⟨t, rfl⟩ := r
    cases (show T = "str" from ty)
    exact ⟨typeIs_str s z t, fun _ e => nomatch e⟩
  | int i =>
    obtain ⟨t, rfl⟩ := r
    cases (show T = "int" from ty)
    exact ⟨typeIs_int s i t, fun _ e => nomatch e⟩
  | ref p =>
    cases r
    rcases ty with ⟨rfl, xs, hq⟩ | ⟨rfl, o, hk, hc, hd⟩ | ⟨rfl, hk⟩ | ⟨rfl, S, n, hk⟩
    · obtain ⟨its, _, pl, _⟩ := I.list hq
      refine ⟨pl.isList.typeIs, fun a e => ?_⟩
      cases e
      obtain ⟨o, n, e, c, hd, _⟩ := pl
      exact ⟨o, e, hd⟩
    · refine ⟨⟨o, I.kIn p o hk, hc⟩, fun a e => ?_⟩
      cases e
      exact ⟨o, I.kIn _ o hk, hd⟩
    · have z : ∃ o, s.heap.get? p = some o ∧ o.ExactDict := by
        rcases hk with ⟨kvs, hk⟩ | ⟨kvs, hk⟩
        · obtain ⟨_, _, _, _, o, _, _, e, ex, _⟩ := I.hok p _ hk
          exact ⟨o, e, ex⟩
        · obtain ⟨_, _, _, _, o, _, _, e, ex, _⟩ := I.hok p _ hk
          exact ⟨o, e, ex⟩
      obtain ⟨o, e, ex⟩ := z
      refine ⟨⟨o, e, ex.1⟩, fun a e2 => ?_⟩
      cases e2
      exact ⟨o, e, ex.2.1⟩
    · obtain ⟨o, _, _, _, e, ex, _⟩ := I.hok p _ hk
      refine ⟨⟨o, e, ex.1⟩, fun a e2 => ?_⟩
      cases e2
      exact ⟨o, e, ex.2.1⟩
  | _ => exact False.elim ty
def tBM0 (K : PySem.W.Frag) (T : String) (r : V → List V → Hp → VK → Prop) (to : TE) : TE := fun σ H Q => to σ H fun x H1 => tyV K T x H1 ∧ r x [] H1 Q
def tBM (K : PySem.W.Frag) (T : String) (r : V → List V → Hp → VK → Prop) (to : TE) (t : TA) : TE := fun σ H Q => to σ H fun x H1 => tyV K T x H1 ∧ t σ H1 fun xs H2 => r x xs H2 Q
variable {o e : Expr} {es : List Expr} {to : TE} {t : TA} {name : Str} {apos cpos : Pos} {T id : String} {r : V → List V → Hp → VK → Prop}
theorem pe_bm0 (pa : PlainAttrs T) (slot : Slot T name id) (hty : typeOf (.builtin id) = pure (.type "method_descriptor")) (hm : MtR X id r) (ho : PE X o to)
    (hbase : attributeBase o name X.env (eval o X.env) = eval o X.env := by rfl) (hline : (apos.endLine == cpos.line) = true := by rfl) : PE X (.Call (.Attribute o name apos) [] [] cpos) (tBM0 X.K T r to) := by
  intro pins s σ H Q I h
  refine wpAny_Call_method0_late hbase hline (thn (ho pins s σ H _ I h) fun v s1 ⟨x, H1, I1, r1, ty, q1⟩ => ?_)
  obtain ⟨h1, h2⟩ := tyV_is I1 r1 ty
  exact ⟨T, id, pa, slot, hty, h1, h2, Calls.callWith_builtin rfl (PySem.evalArgs_none (hm pins s1 σ H1 x [] v [] Q I1 r1 .nil q1))⟩
theorem pe_bm (pa : PlainAttrs T) (slot : Slot T name id) (hty : typeOf (.builtin id) = pure (.type "method_descriptor")) (hm : MtR X id r) (ho : PE X o to) (ha : PA X (e :: es) t)
    (hbase : attributeBase o name X.env (eval o X.env) = eval o X.env := by rfl)
    (hfew : ((backTo cpos (starEach (e :: es) X.env)).all (fun x => !x.1) && (backToKw cpos (keywordEach [] X.env)).all (fun x => x.1.isSome)
      && decide ((e :: es).length + ([] : List Keyword).length + (if ([] : List Keyword).isEmpty then 0 else 1) < 30)) = true := by rfl)
    (hline : (apos.endLine == cpos.line) = true := by rfl) (hs : starEach (e :: es) X.env = (false, eval e X.env) :: starEach es X.env := by rfl) (hplain : (backTo cpos (starEach es X.env)).any (·.1) = false := by rfl) :
    PE X (.Call (.Attribute o name apos) (e :: es) [] cpos) (tBM X.K T r to t) := by
  intro pins s σ H Q I h
  refine wpAny_Call_method_late hbase hfew hline rfl (thn (ho pins s σ H _ I h) fun v s1 ⟨x, H1, I1, r1, ty, q1⟩ => ?_)
  obtain ⟨h1, h2⟩ := tyV_is I1 r1 ty
  refine ⟨T, id, pa, slot, hty, h1, h2, ?_⟩
  have hA := ha cpos pins s1 σ H1 _ I1 q1
  rw [hs] at hA ⊢
  refine Calls.callWith_builtin (by show (false || (backTo cpos (starEach es X.env)).any (·.1)) = false; rw [hplain] <;> rfl) (Calls.evalArgs_plain ?_)
  exact thn hA fun us s2 ⟨vs, H2, I2, r2, q2⟩ => hm pins s2 σ H2 x vs v us Q I2 r1 r2 q2
end
end L2
namespace L2
open PySem PySem.Spec PyProof.Rows
def MtM (X : Cx) (id : String) (r : V → List V → Hp → VK → Prop) : Prop :=
  ∀ (pins : List (Addr × Obj)) (s : Shared) (σ : St) (H : Hp) (x : V) (xs : List V) (v : Value) (us : List Value) (Q : VK), Inv X pins σ H s → RelV x v → Vals xs us → r x xs H Q →
    wpAny (model X.prog X.w) X.A (call (.builtin id) (v :: us)) (EP X pins σ Q) X.xe s
theorem Vals.one : ∀ {x : V} {us : List Value}, Vals [x] us → ∃ u, us = [u] ∧ RelV x u
  | _, _, .cons r .nil => ⟨_, rfl, r⟩
theorem Vals.zero : ∀ {us : List Value}, Vals [] us → us = []
  | _, .nil => rfl
theorem Vals.reverse {xs : List V} {us : List Value} (h : Vals xs us) : Vals xs.reverse us.reverse := by
  induction h with
  | nil => exact .nil
  | cons r t ih => rw [List.reverse_cons, List.reverse_cons]; exact Vals.append ih (.cons r .nil)
theorem Vals.rep {xs : List V} {us : List Value} (h : Vals xs us) : ∀ k : Nat, Vals (List.replicate k xs).flatten (List.replicate k us).flatten
  | 0 => .nil
  | k + 1 => by
    rw [List.replicate_succ, List.replicate_succ, List.flatten_cons, List.flatten_cons]
    exact Vals.append h (Vals.rep h k)
section
variable {X : Cx} {pins : List (Addr × Obj)} {σ : St} {H : Hp} {s : Shared} {l b : Addr} {xs ys zs : List V}
theorem Inv.lset {its its' : List Value} {n : Nat} {f : Array Value → Array Value} {t' : Nat} (I : Inv X pins σ H s) (hH : H l = some (.lst xs))
    (e : s.heap.get? l = some { cls := .type "list", data := .seq its.toArray n }) (hf : f its.toArray = its'.toArray) (hv : Vals ys its') (hz : ys.length ≤ sizeLine) :
    Inv X pins σ (upd H l (.lst ys)) { s with heap := s.heap.update l (Obj.mapSeq f), toks := t' } := by
  have q := PySem.IsL.update e f
  rw [hf] at q
  refine I.write (x := l) (e := l) (by rw [hH]; exact trivial) (.inl rfl) (fun b' u hb hu => (Heap.get?_update_other s.heap (Obj.mapSeq f) (Ne.symm hb)).trans hu) ⟨_, q⟩ ?_
  exact ⟨hz, its', _, hv, q⟩
theorem Inv.lnew {its : List Value} {t' : Nat} (I : Inv X pins σ H s) (hv : Vals ys its) (hz : ys.length ≤ sizeLine) :
    Inv X pins σ (upd H s.heap.objs.size (.lst ys)) { s with heap := s.heap.push { cls := .type "list", data := .seq its.toArray }, toks := t' } :=
  I.laid (fun _ _ q => Heap.get?_push_of_some _ q) (Nat.le_refl _) ⟨hz, its, 0, hv, Heap.get?_push_size _ rfl⟩
theorem Inv.fresh (I : Inv X pins σ H s) : H s.heap.objs.size = none := I.hok.fresh (Nat.le_refl _)
theorem Inv.lstM (I : Inv X pins σ H s) (hH : H l = some (.lst xs)) : xs.length ≤ sizeLine ∧ ∃ (its : List Value) (n : Nat), Vals xs its ∧ xs.length = its.length ∧ s.heap.get? l = some { cls := .type "list", data := .seq its.toArray n } := by
  obtain ⟨z, its, n, r, e⟩ := I.hok l _ hH
  exact ⟨z, its, n, r, r.length, e⟩
theorem notLongL {n : Nat} (h : n ≤ sizeLine) : Builtin.List.listTooLong n = false := by
  unfold Builtin.List.listTooLong
  exact decide_eq_false (by omega)
end
section
variable {X : Cx}
def rAppend : V → List V → Hp → VK → Prop := fun x vs H Q => ∃ l xs y, x = .ref l ∧ vs = [y] ∧ H l = some (.lst xs) ∧ xs.length < sizeLine ∧ Q .non (upd H l (.lst (xs ++ [y])))
theorem mt_append : MtM X "list.append" rAppend := by
  intro pins s σ H x vs v us Q I rx rv h
  obtain ⟨l, xs, y, rfl, rfl, hH, hz, q⟩ := h
  cases rx
  obtain ⟨u, rfl, ru⟩ := rv.one
  obtain ⟨z, its, n, r, hl, e⟩ := I.lstM hH
  refine call_meets F.slot_list_append ⟨_, e, rfl⟩ F.entry_list_append (F.args_list_append_2 _ _) (PySem.list_append l its.toArray n u (by rw [List.size_toArray]; omega)) ⟨e, ?_⟩
  refine ⟨.non, _, I.lset (its' := its ++ [u]) hH e (by simp) (r.append (.cons ru .nil)) ?_, rfl, q⟩
  rw [List.length_append, List.length_singleton]
  omega
def rClear : V → List V → Hp → VK → Prop := fun x vs H Q => ∃ l xs, x = .ref l ∧ vs = [] ∧ H l = some (.lst xs) ∧ Q .non (upd H l (.lst []))
theorem mt_clear : MtM X "list.clear" rClear := by
  intro pins s σ H x vs v us Q I rx rv h
  obtain ⟨l, xs, rfl, rfl, hH, q⟩ := h
  cases rx
  have hus := rv.zero
  subst hus
  obtain ⟨z, its, n, r, hl, e⟩ := I.lstM hH
  refine call_meets F.slot_list_clear ⟨_, e, rfl⟩ F.entry_list_clear (F.args_list_clear_1 _) (AutoSeq1.list_clear_list_0 l its.toArray n (by rw [List.size_toArray]; omega)) ⟨e, ?_⟩
  exact ⟨.non, _, I.lset (its' := []) (ys := []) hH e rfl .nil (Nat.zero_le _), rfl, q⟩
def rCat : R2 := fun x y H Q => ∃ l b xs zs, x = .ref l ∧ y = .ref b ∧ H l = some (.lst xs) ∧ H b = some (.lst zs) ∧ xs.length + zs.length ≤ sizeLine ∧ ∀ p, H p = none → Q (.ref p) (upd H p (.lst (xs ++ zs)))
theorem op_cat : OpR X (binaryOp .Add) rCat := by
  intro pins s σ H x y v u Q I rx ry h
  obtain ⟨l, b, xs, zs, rfl, rfl, hH, hB, hz, q⟩ := h
  cases rx
  cases ry
  obtain ⟨z, its, n, r, hl, e⟩ := I.lstM hH
  obtain ⟨z2, its2, n2, r2, hl2, e2⟩ := I.lstM hB
  refine PySem.P.add_list e e2 ?_ (by rw [List.size_toArray, List.size_toArray]; omega)
  have ea : its.toArray ++ its2.toArray = (its ++ its2).toArray := by simp
  rw [ea]
  exact ⟨.ref _, _, I.lnew (t' := s.toks) (r.append r2) (by rw [List.length_append]; omega), rfl, q _ I.fresh⟩
end
section
variable {prog : Program} {w : World} {A : Around} {E : Value → Shared → Prop} {s : Shared}
theorem bounds_run {a c n : Nat} (hac : a ≤ c) (hc : c ≤ n) : sliceBounds (some (a : Int)) (some (c : Int)) none n = ((a : Int), (c : Int), 1) := by
  simp only [sliceBounds, Option.getD_none]
  have h1 : ¬ ((a : Int) < 0) := by omega
  have h2 : ¬ ((c : Int) < 0) := by omega
  simp only [h1, h2, if_false, show (1 : Int) > 0 by decide, if_true]
  congr 1
  · omega
  · congr 1; omega
set_option maxRecDepth 100000 in
theorem setItem_slice {l b sl : Addr} {items new : Array Value} {n n2 : Nat} {vl vu : Value} {a c : Nat} {Q : Unit → Shared → Prop}
    (e : s.heap.get? l = some { cls := .type "list", data := .seq items n }) (e2 : s.heap.get? b = some { cls := .type "list", data := .seq new n2 }) (hne : l ≠ b)
    (hs : s.heap.IsSliceOf sl vl vu .none) (pl : IsPart vl (some (a : Int))) (pu : IsPart vu (some (c : Int))) (hac : a ≤ c) (hc : c ≤ items.size)
    (hsz : items.size + new.size ≤ sizeLine) (h : Q () { s with heap := s.heap.update l (Obj.mapSeq fun xs => xs.extract 0 a ++ new ++ xs.extract c xs.size) }) :
    wpAny (model prog w) A (setItem (.ref l) (.ref sl) (.ref b)) Q E s := by
  have hl : s.heap.IsList l items := PySem.IsL.isList e
  have hb : s.heap.IsList b new := PySem.IsL.isList e2
  obtain ⟨os, hos, hcs, hds⟩ := id hs
  have hTs : s.TypeIs (.ref sl) "slice" := ⟨os, hos, hcs⟩
  have hstep : ¬ ((rawPart none == rawInt 0) = true) := Bool.false_ne_true
  have hsame : Builtin.List.listSameRef (.ref l) (.ref b) = false := by
    unfold Builtin.List.listSameRef
    exact beq_eq_false_iff_ne.mpr hne
  have hmax : (max (a : Int) (c : Int)).toNat = c := by omega
  have hz' : ((fun xs : Array Value => xs.extract 0 a ++ new ++ xs.extract c xs.size) items).size ≤ sizeLine + 1 := by
    simp only [Array.size_append, Array.size_extract]
    omega
  unfold setItem
  try with_reducible refine wpAny_holding ?_
  first | refine wpAny_bind (wpAny_pure ?_) | skip
  refine wpAny_bind (wpAny_sequenceKey hl.typeIs (by decide) ?_)
  refine wpAny_bind (wpAny_callSpecial?_slot (name := Str.ofString "__setitem__") hl.typeIs slot_list_setitem
    (wpAny_call_entry slot_list_setitem hl.typeIs entry_list_setitem ?_ (args_list_setitem _ _ _)))
  show wpAny _ _ (Builtin.List.listSubscript? (.ref sl) >>= _) _ _ s
  refine wpAny_bind ?_
  unfold Builtin.List.listSubscript?
  refine wpAny_bind (wpAny_specialOf hTs slice_no_index ?_)
  simp only [Option.isNone_none, if_true]
  refine wpAny_pure ?_
  show wpAny _ _ (typeOf (.ref sl) >>= _) _ _ s
  refine wpAny_bind (wpAny_typeOf hTs ?_)
  first
    | rw [if_neg (by decide)]
    | refine PySem.W.KFB.if_not (by decide) ?_
  rw [listSliceParts_eq]
  refine wpAny_bind (wpAny_bind (wpAny_field hos hds (x := .none) rfl (wpAny_bind (wpAny_listPart .none ?_))))
  rw [if_neg hstep]
  refine wpAny_bind (wpAny_field hos hds (x := vl) rfl (wpAny_bind (wpAny_listPart pl ?_)))
  refine wpAny_bind (wpAny_field hos hds (x := vu) rfl (wpAny_bind (wpAny_listPart pu (wpAny_pure ?_))))
  first
    | simp only [hsame, Bool.false_eq_true, if_false]
    | refine PySem.W.KFB.if_not hsame ?_
    | (dsimp only
       rw [if_neg (by rw [hsame]; exact Bool.false_ne_true)])
  refine wpAny_bind (m := Builtin.List.listAllItems (.ref b) "must assign iterable to extended slice") ?_
  unfold Builtin.List.listAllItems
  refine wpAny_bind (wpAny_typeOf hb.typeIs ?_)
  first
    | refine PySem.W.KFB.if_so (by decide) ?_
    | rw [if_pos (by decide)]
    | simp only [beq_self_eq_true, Bool.true_or, if_true]
  unfold Builtin.List.listItems
  refine wpAny_bind (wpAny_seqItems e2 rfl (wpAny_pure ?_))
  refine wpAny_bind (wpAny_bind (wpAny_seqItems e rfl (wpAny_pure ?_)))
  refine wpAny_bind (wpAny_of_eq ((sliceIndices_raw (some (a : Int)) (some (c : Int)) none items.size (by simp)).trans (congrArg (pure : Int × Int × Int → Sem (Int × Int × Int)) (bounds_run hac hc))) ?_)
  show wpAny _ _ (if ((1 : Int) == 1) = true then _ else _) _ _ s
  rw [if_pos (by decide)]
  refine wpAny_bind (wpAny_rule ?_)
  first
    | simp only [notLongL hsz, Bool.false_eq_true, if_false]
    | refine PySem.W.KFB.if_not (notLongL hsz) ?_
  first | refine wpAny_bind (wpAny_pure ?_) | skip
  show wpAny _ _ (updateSeq l (fun xs => xs.extract 0 ((a : Int)).toNat ++ new ++ xs.extract (max (a : Int) (c : Int)).toNat xs.size) >>= _) _ _ s
  rw [hmax, Int.toNat_natCast]
  refine wpAny_bind (wpAny_updateSeq (hz := Nat.le_trans (Nat.le_add_right _ _) hsz) (_hz' := hz') e rfl ?_)
  refine wpAny_bind (wpAny_letGo ?_)
  first
    | exact wpAny_bind (wpAny_pure (wpAny_pure ⟨.none, rfl, wpAny_pure h⟩))
    | exact wpAny_pure ⟨.none, rfl, wpAny_pure h⟩
end
section
variable {X : Cx}
end
end L2
namespace Att
open PySem PySem.W PySem.Calls PyProof.Rows
theorem ints_of_wellAll {P : Params} {h : Heap} : ∀ (ns : List Int) (vs : List Value), WellAll P h vs (ns.map WData.int) → IntsAre vs ns := by
  intro ns
  induction ns with
  | nil =>
    intro vs w
    rw [List.map_nil] at w
    cases w
    exact .nil
  | cons n ns ih =>
    intro vs w
    rw [List.map_cons] at w
    cases w with
    | cons a b =>
      cases a
      exact .cons _ _ (ih _ b)
theorem script_of {l : OpenLaw} {n : Nat} (hn : l.most = some n) {P : Params} {h : Heap} {args : List WData} {vals : List Value}
    (hpre : l.row.toRowW.claim.pre args = true) (hwl : WellAll P h vals args) :
    ∃ a vs ns, vals = [Value.ref a] ∧ args = [WData.list (ns.map WData.int)] ∧ h.get? a = some { cls := .type "list", data := .seq vs.toArray } ∧ IntsAre vs ns ∧ ns.length ≤ n := by
  have hsh : WShape.hasAll [] args [.list .int] = true := (pre_splitW hpre).1
  have hc : l.pre.holds [] { args := args } = true := (pre_splitW hpre).2
  obtain ⟨d, r, rfl, h1, h2⟩ := hasAllW_cons hsh
  obtain rfl := hasAllW_nil h2
  obtain ⟨xs, rfl, h3⟩ := hasW_list h1
  obtain ⟨ns, rfl⟩ := items_int h3
  have hlen : ns.length ≤ n := by
    unfold OpenLaw.pre at hc
    have h4 : (WTm.not (.lt (.lit (.int (n : Int))) (.len (.arg 0)))).holds [] { args := [.list (ns.map .int)] } = true := by
      have h4 := (holds_andW hc).1
      rw [hn] at h4
      exact h4
    have h5 := condW_of h4 (w_not (w_lt w_lit (w_len_list (w_arg rfl))))
    rw [List.length_map] at h5
    refine Nat.le_of_not_lt fun q => ?_
    have q' : (n : Int) < ((ns.length : Nat) : Int) := by omega
    first
      | (rw [decide_eq_true q'] at h5; exact absurd h5 (by decide))
      | (simp at h5; omega)
  cases hwl with
  | cons w1 w2 =>
    cases w2
    cases w1 with
    | list ho hall => exact ⟨_, _, ns, rfl, rfl, ho, ints_of_wellAll ns _ hall, hlen⟩
theorem post_true (l : OpenLaw) (args : List WData) : l.row.toRowW.claim.post args (.bool true) args = true :=
  postW_of (r := l.row.toRowW) (X := (true == true))
    (show WShape.has [] (.bool true) .bool = true by first | rfl | decide | simp [WShape.has, WShape.arms, WShape.armsAll])
    (show (WTm.eq .res (.lit (.bool true))).value [] { args := args, res := some (.bool true), after := args } = some (.bool (true == true)) from w_eq_bool (w_res rfl) w_lit) rfl
theorem attach_call {l : OpenLaw} {n : Nat} {q : Program} {loose : List Str} {XP : (Str → Option Value) → Heap → Prop} {YP : World → Heap → Prop} {d : DefRec}
    (hn : l.most = some n) (hdf : d.params.defaults = [])
    (call : ∀ (w : World) (s₀ s₁ : Shared) (mg mb : Str → Option Value) (fa : Addr) (o : Obj) (pm cd doc : Value) (a : Addr) (vs : List Value) (ns : List Int),
      Ground q loose [] XP w s₀ mg mb s₁.heap → YP w s₁.heap →
      s₁.heap.get? fa = some o → o.data = .func (docDef d.name d.params d.body d.scope pm cd doc) → s₁.heap.CodeRec cd d.name → mg d.name = some (.ref fa) →
      s₁.heap.get? a = some { cls := .type "list", data := .seq vs.toArray } → IntsAre vs ns → ns.length ≤ n → s₁.gens = #[] →
      codeAny (model l.prog w) callerA (.call (.ref fa) ⟨[.ref a], []⟩) (fun r s' => r = .ok (.ret (.bool true)) ∧ OldK s₁.heap s'.heap ∧ s'.os = s₁.os ∧ AllBare s'.gens) s₁) :
    WalkO q loose XP YP l.row.toRowW d [] (fun f vs => PySem.call f vs) := by
  intro w s₀ s₁ mg mb G Y fa o pm cd doc dV kV ho hd hcd hD hmg hg args vals as hpre hlay hrd hwl hlo
  obtain rfl : dV = .none := Dflts.none hD hdf
  obtain rfl : kV = .none := Dflts.noKw hD
  obtain ⟨a, vs, ns, rfl, rfl, hobj, hints, hlen⟩ := script_of hn hpre hwl
  refine enter_call (codeAny_mono (call w s₀ s₁ mg mb fa o pm cd doc a vs ns G Y ho (fd_plain hd) hcd hmg hobj hints hlen hg) fun r s' hq => ?_)
  obtain ⟨rfl, h2, h3, h4⟩ := hq
  exact ⟨.inl ⟨.bool true, .bool true, [], rfl, fun _ => rfl, .bool true, post_true l _, fun _ => ⟨List.Pairwise.nil, fun _ hm => (nomatch hm)⟩⟩, h2, h3, h4⟩
section
variable {prog : Program} {w : World} {A : Around} {E : Value → Shared → Prop} {s : Shared} {K : Frag}
end
end Att
namespace L2
open PySem PySem.Spec PyProof.Rows
theorem vals_ints : ∀ {vs : List Value} {ns : List Int}, IntsAre vs ns → Vals (ns.map V.int) vs
  | _, _, .nil => .nil
  | _, _, .cons n t h => .cons ⟨t, rfl⟩ (vals_ints h)
def Only (H : Hp) : Prop := ∀ b, H b = none ∨ ∃ o xs, H b = some (.frz o (.lst xs))
theorem law_call {P : Program} {w : World} {K : PySem.W.Frag} {mg mb : Str → Option Value} {CX : CXT} {k : Nat} {fa a : Addr} {fd : FuncData} {x : Str} {sp : Sp} {s₁ : Shared} {vs : List Value} {ns : List Int}
    (KX : K.In s₁.heap) (hns : s₁.heap.Ns mainGlobals mg) (hb : s₁.heap.Ns builtinsNs mb) (hbb : ∀ x : Str, x ≠ "__name__" → mb x = bootBuiltins x) (hlim : s₁.heap.NoLimit) (hg : s₁.gens = #[])
    (ha : s₁.heap.get? a = some { cls := .type "list", data := .seq vs.toArray }) (hi : IntsAre vs ns) (hl : ns.length ≤ sizeLine) (hr : Room k callerA)
    (F : ∀ base : Heap, K.In base → base.Ns mainGlobals mg → FnOk P w K mg base CX k fa fd [x] sp) (hbind : ∀ (s : Shared) (u : Value), BindsTo s fd ⟨[u], []⟩ [(x, u)])
    (hsp : ∀ H : Hp, Only H → SqL K H a (ns.map V.int) → sp [.ref a] H (fun v _ => v = .bl true) fun _ _ _ => False)
    (hCX : ∀ H e s', CX [] H s₁ (fun _ _ _ => False) e s' → False) :
    codeAny (model P w) callerA (.call (.ref fa) ⟨[.ref a], []⟩) (fun r s' => r = .ok (.ret (.bool true)) ∧ OldK s₁.heap s'.heap ∧ s'.os = s₁.os ∧ AllBare s'.gens) s₁ := by
  have rv := vals_ints hi
  have lenV := hi.length
  have core : ∀ H : Hp, Only H → SqL K H a (ns.map V.int) → HOk P w H s₁.heap → (∀ b, H b ≠ none → b = a) → (H a ≠ none → K.lookup a = none) →
      codeAny (model P w) callerA (.call (.ref fa) ⟨[.ref a], []⟩) (fun r s' => r = .ok (.ret (.bool true)) ∧ OldK s₁.heap s'.heap ∧ s'.os = s₁.os ∧ AllBare s'.gens) s₁ := by
    intro H hO hS hok hA hK
    have base_of : ∀ {b : Addr} {o : Obj}, s₁.heap.get? b = some o → H b = none → (hidT s₁.heap H).get? b = some o := fun e n => hidT_get e n
    have noA : ∀ {b : Addr} {o : Obj} {es : Array DictEntry} {ep : Nat}, s₁.heap.get? b = some o → o.data = .dict es ep → H b = none := fun {b o es ep} e d => by
      cases q : H b with
      | none => rfl
      | some u =>
        have e' : b = a := hA b (by rw [q]; simp)
        subst e'
        rw [ha] at e; cases e
        have d' : Data.seq vs.toArray _ = Data.dict es ep := d
        cases d'
    have nsK : ∀ {b : Addr} {m : Str → Option Value}, s₁.heap.Ns b m → (hidT s₁.heap H).Ns b m := fun {b m} ⟨o, es, ep, e, d, r⟩ => ⟨o, es, ep, base_of e (noA e d), d, r⟩
    have hKb : K.In (hidT s₁.heap H) := fun b o e => base_of (KX b o e) (by
      cases q : H b with
      | none => rfl
      | some u =>
        have e' : b = a := hA b (by rw [q]; simp)
        subst e'
        rw [hK (by rw [q]; simp)] at e; cases e)
    have hM : Mod K mg (hidT s₁.heap H) := ⟨hKb, nsK hns, ⟨mb, nsK hb, hbb⟩, let ⟨mc, h1, h2⟩ := hlim; ⟨mc, nsK h1, h2⟩⟩
    have e0 : Env0 P w K mg (hidT s₁.heap H) callerA [] s₁ H := ⟨rfl, hM, fun b o e => of_hidT e, Nat.le_of_eq (hidT_size _ _), trivial, fun b hb => absurd (show b ∈ ([] : List Addr) from hb) (by simp), hok, .of_eq hg⟩
    refine codeAny_mono ((F _ hKb (nsK hns)).run callerA [] s₁ H ⟨[.ref a], []⟩ [.ref a] [.ref a] _ _ hr e0 (hbind s₁ (.ref a)) (.cons rfl .nil) (hsp H hO hS)) fun r s' h => ?_
    cases r with
    | error e => exact (hCX H e s' h).elim
    | ok fl =>
      cases fl with
      | next => exact False.elim h
      | brk => exact False.elim h
      | cont => exact False.elim h
      | ret u =>
        obtain ⟨v, H', os, bare, un, hok', r', q⟩ := h
        have q' : v = .bl true := q
        subst q'
        obtain rfl : u = Value.bool true := r'
        refine ⟨rfl, OldK.of_keep fun b o e => ?_, os, bare⟩
        cases q : H b with
        | none => exact un.keep b o e q (by intro z; exact absurd (show b ∈ ([] : List Addr) from z) (by simp)) (by simp)
        | some u =>
          rcases hO b with z | ⟨ob, xs, z⟩
          · rw [q] at z; cases z
          · have z2 := un.frzs b ob _ z
            obtain ⟨e1, _⟩ := hok b _ z
            obtain ⟨e2, _⟩ := hok' b _ z2
            rw [e] at e1; cases e1
            exact e2
  cases hk : K.lookup a with
  | some o =>
    have e := KX a o hk
    rw [ha] at e
    cases e
    refine core (fun _ => none) (fun _ => .inl rfl) (.inr ⟨_, vs.toArray, _, hk, rfl, rfl, rfl, by rw [List.size_toArray, lenV]; exact hl, by simpa using rv⟩) (fun b u z => by have z' : (none : Option HO) = some u := z; cases z') (fun b z => absurd rfl z) fun z => absurd rfl z
  | none =>
    refine core (fun b => if b = a then some (.frz { cls := .type "list", data := .seq vs.toArray } (.lst (ns.map V.int))) else none) (fun b => ?_) (.inl (.inr ⟨{ cls := .type "list", data := .seq vs.toArray }, if_pos rfl⟩)) (fun b u z => ?_) (fun b z => ?_) fun _ => hk
    · by_cases hb : b = a
      · exact .inr ⟨_, _, if_pos hb⟩
      · exact .inl (if_neg hb)
    · by_cases hb : b = a
      · have z' := (if_pos hb).symm.trans z
        cases z'
        subst hb
        exact ⟨ha, by rw [List.length_map]; exact hl, vs, _, rv, ha⟩
      · have z' := (if_neg hb).symm.trans z
        cases z'
    · by_cases hb : b = a
      · exact hb
      · exact absurd (if_neg hb) z
end L2
namespace L2
open PySem PySem.Spec PyProof.Rows
theorem walk_of {l : PySem.W.OpenLaw} {n k : Nat} {q : Program} {loose : List Str} {XP : (Str → Option Value) → Heap → Prop} {YP : World → Heap → Prop} {d : DefRec} {K : Params → PySem.W.Frag} {CX : World → CXT} {sp : World → Sp} {x : Str}
    (hn : l.most = some n) (hn2 : n ≤ sizeLine) (hdf : d.params.defaults = []) (hr : Room k callerA)
    (hY : ∀ (w : World) (h : Heap), YP w h → (K w.params).In h)
    (F : ∀ (w : World) (mg : Str → Option Value) (fa : Addr) (h : Heap), (K w.params).In h → h.Ns mainGlobals mg → mg d.name = some (.ref fa) →
      ∃ fd : FuncData, (∀ (s : Shared) (u : Value), BindsTo s fd ⟨[u], []⟩ [(x, u)]) ∧
        ∀ base : Heap, (K w.params).In base → base.Ns mainGlobals mg → FnOk l.prog w (K w.params) mg base (CX w) k fa fd [x] (sp w))
    (hsp : ∀ (w : World) (H : Hp) (a : Addr) (ns : List Int), ns.length ≤ n → Only H → SqL (K w.params) H a (ns.map V.int) → sp w [.ref a] H (fun v _ => v = .bl true) fun _ _ _ => False)
    (hCX : ∀ (w : World) (H : Hp) (s : Shared) (e : Value) (s' : Shared), CX w [] H s (fun _ _ _ => False) e s' → False) :
    PySem.W.WalkO q loose XP YP l.row.toRowW d [] (fun f vs => PySem.call f vs) := by
  refine Att.attach_call hn hdf fun w s₀ s₁ mg mb fa o pm cd doc a vs ns G Y ho hd hcd hmg hobj hints hlen hg => ?_
  have KX := hY w _ Y
  obtain ⟨fd, hb, hF⟩ := F w mg fa _ KX G.T.g hmg
  exact law_call KX G.T.g G.T.b G.T.builtins G.T.nolimit hg hobj hints (Nat.le_trans hlen hn2) hr hF hb (fun H hO hS => hsp w H a ns hlen hO hS) fun H e s' => hCX w H s₁ e s'
theorem walk_ofK {l : PySem.W.OpenLaw} {n k : Nat} {q : Program} {loose : List Str} {XP : (Str → Option Value) → Heap → Prop} {YP : World → Heap → Prop} {d : DefRec} {K : Params → PySem.W.Frag} {CX : CXT} {sp : PySem.W.Frag → Sp} {x : Str}
    (hn : l.most = some n) (hn2 : n ≤ sizeLine) (hdf : d.params.defaults = []) (hr : Room k callerA)
    (hY : ∀ (w : World) (h : Heap), YP w h → (K w.params).In h)
    (F : ∀ (w : World) (mg : Str → Option Value) (fa : Addr) (h : Heap), (K w.params).In h → h.Ns mainGlobals mg → mg d.name = some (.ref fa) →
      ∃ fd : FuncData, (∀ (s : Shared) (u : Value), BindsTo s fd ⟨[u], []⟩ [(x, u)]) ∧
        ∀ base : Heap, (K w.params).In base → base.Ns mainGlobals mg → FnOk l.prog w (K w.params) mg base CX k fa fd [x] (sp (K w.params)))
    (hsp : ∀ (K : PySem.W.Frag) (H : Hp) (a : Addr) (ns : List Int), ns.length ≤ n → Only H → SqL K H a (ns.map V.int) → sp K [.ref a] H (fun v _ => v = .bl true) fun _ _ _ => False)
    (hCX : ∀ (H : Hp) (s : Shared) (e : Value) (s' : Shared), CX [] H s (fun _ _ _ => False) e s' → False) :
    PySem.W.WalkO q loose XP YP l.row.toRowW d [] (fun f vs => PySem.call f vs) :=
  walk_of (K := K) (CX := fun _ => CX) (sp := fun w => sp (K w.params)) hn hn2 hdf hr hY F (fun w H a ns h1 h2 h3 => hsp (K w.params) H a ns h1 h2 h3) fun _ H s e s' => hCX H s e s'
end L2
namespace L2
open PySem PySem.Spec PyProof.Rows
def defArgs (s : Stmt) : Arguments := match s with
  | .FunctionDef _ a _ _ _ _ _ _ _ _ => a
  | _ => { posonlyargs := [], args := [], vararg := none, kwonlyargs := [], kw_defaults := [], kwarg := none, defaults := [] }
def defBody (s : Stmt) : List Stmt := match s with
  | .FunctionDef _ _ b _ _ _ _ _ _ _ => b
  | _ => []
def defScope (s : Stmt) : Scope := match s with
  | .FunctionDef _ _ _ _ _ _ sc _ _ _ => sc
  | _ => { kind := .function, names := [], isGenerator := false, isCoroutine := false }
abbrev CX0 : CXT := fun _ _ _ _ _ _ => False
abbrev E0 : XK := fun _ _ _ => False
theorem pass0 {X : Cx} : Passes CX0 X E0 := fun _ _ _ _ _ _ _ h => h.elim
structure Fun (K : PySem.W.Frag) (x qual : Str) (st : Stmt) (f : Addr) (fd : FuncData) : Prop where
  ex : ∃ (oc : Value) (od : Option Addr) (kV doc pm : Value) (an : Option Addr) (cdv ct : Value) (osl : Array (Option Value)),
    fd = PySem.W.fnOf x qual (defArgs st) (defBody st) (defScope st) .none kV doc pm an cdv ct ∧ K.lookup f = some ⟨oc, od, .func fd, osl⟩ ∧ PySem.W.codeIn K cdv qual = true
  kp : PySem.W.keepIn K (.ref f) = true
section
variable {P : Program} {w : World} {K : PySem.W.Frag} {mg : Str → Option Value} {base : Heap}
theorem Fun.ok {x qual : Str} {st : Stmt} {f : Addr} {fd : FuncData} {N ps : List Str} {k : Nat} {sp : Sp} (F : Fun K x qual st f fd) (S : FnScope N ps (defScope st)) (len : ∀ vs H Q E, sp vs H Q E → vs.length = ps.length)
    (hbody : ∀ (cdv : Value) (A : Around) (outer : List Env) (s : Shared) (H : Hp) (vs : List V) (Q : VK) (E : XK), Room k (A.deeper (envOfC qual (defScope st) s.heap.objs.size f cdv)) → sp vs H Q E →
      ∃ t, PSs (cxOf CX0 P w K mg base N qual (defScope st) f cdv A outer s H E).nox (defBody st) t ∧ t { nx := fun _ H' => Q .non H', rt := Q } (start N vs) H) : FnOk P w K mg base CX0 (k + 1) f fd ps sp := by
  obtain ⟨oc, od, kV, doc, pm, an, cdv, ct, osl, rfl, lk, hcd⟩ := F.ex
  refine fn_of lk hcd S len fun A outer s H vs Q E hr hsp => ?_
  obtain ⟨t, h, q⟩ := hbody cdv A outer s H vs Q E hr hsp
  exact ⟨t, h.nox, q⟩
theorem Fun.binds {x qual : Str} {st : Stmt} {f : Addr} {fd : FuncData} {ps : List Str} (F : Fun K x qual st f fd)
    (h : ∀ (kV doc pm : Value) (an : Option Addr) (cdv ct : Value) (us : List Value), us.length = ps.length → bindArgs (PySem.W.fnOf x qual (defArgs st) (defBody st) (defScope st) .none kV doc pm an cdv ct) ⟨us, []⟩ = pure (ps.zip us)) : Binds K fd ps [] := by
  obtain ⟨oc, od, kV, doc, pm, an, cdv, ct, osl, rfl, lk, hcd⟩ := F.ex
  exact .all (h kV doc pm an cdv ct)
theorem fun_mk {x qual : Str} {st : Stmt} {f : Addr} {oc : Value} {od an : Option Addr} {osl : Array (Option Value)} {kV doc pm cdv ct : Value} (l : K.lookup f = some ⟨oc, od, .func (PySem.W.fnOf x qual (defArgs st) (defBody st) (defScope st) .none kV doc pm an cdv ct), osl⟩)
    (c : PySem.W.codeIn K cdv qual = true) (k : PySem.W.keepIn K (.ref f) = true) : Fun K x qual st f (PySem.W.fnOf x qual (defArgs st) (defBody st) (defScope st) .none kV doc pm an cdv ct) := ⟨⟨oc, od, kV, doc, pm, an, cdv, ct, osl, rfl, l, c⟩, k⟩
end
section
variable {X : Cx}
theorem pv (i : Nat) {x : Str} {pos : Pos} (hN : X.N[i]? = some x := by rfl) (hv : Vis X.env.scope x := by first | exact Or.inl rfl | exact Or.inr (Or.inl rfl) | exact Or.inr (Or.inr rfl)) (hd : (x == ("__debug__" : Str)) = false := by decide)
    (hcd : (x == ("__classdict__" : Str)) = false := by decide) : PE X (.Name x pos) (tVar i) := pe_var hN hv hd hcd
end
theorem iteF {A B : Prop} (h : B) : if false = true then A else B := by
  rw [if_neg Bool.false_ne_true]
  exact h
theorem iteT {A B : Prop} (h : A) : if true = true then A else B := by
  rw [if_pos rfl]
  exact h
def Same (H H' : Hp) : Prop := ∀ b o, H b = some o → H' b = some o
theorem Same.refl (H : Hp) : Same H H := fun _ _ h => h
theorem Same.trans {H H1 H2 : Hp} (a : Same H H1) (b : Same H1 H2) : Same H H2 := fun c o h => b c o (a c o h)
theorem Same.free {H H' : Hp} (e : Same H H') {l : Addr} (h : H' l = Option.none) : H l = Option.none := by
  cases q : H l with
  | none => rfl
  | some o =>
    rw [e l o q] at h
    cases h
theorem Same.seq {K : PySem.W.Frag} {H H' : Hp} {a : Addr} {xs : List V} (e : Same H H') (h : SqL K H a xs) : SqL K H' a xs := by
  rcases h with (h | ⟨o, h⟩) | h
  · exact .inl (.inl (e _ _ h))
  · exact .inl (.inr ⟨o, e _ _ h⟩)
  · exact .inr h
end L2
set_option Elab.async false
set_option linter.all false
set_option maxRecDepth 100000
set_option maxHeartbeats 4000000
namespace DL
open PySem PySem.Spec PyProof.Rows L2
abbrev St := L2.St
inductive D where
  | non
  | bl (b : Bool)
  | int (i : Int)
  | tup (ds : List D)
  | lst (ds : List D)
  | scr (ns : List Int)
  | exc (c : Str) (p : Option Int)
inductive Out (α : Type) where
  | bad
  | ok (a : α)
  | exc (c : Str) (p : Option Int)
def Out.bind {α β : Type} (x : Out α) (f : α → Out β) : Out β :=
  match x with
  | .bad => .bad
  | .ok a => f a
  | .exc c p => .exc c p
@[simp] theorem bind_ok {α β : Type} (a : α) (f : α → Out β) : (Out.ok a).bind f = f a := rfl
@[simp] theorem bind_bad {α β : Type} (f : α → Out β) : (Out.bad : Out α).bind f = .bad := rfl
@[simp] theorem bind_exc {α β : Type} (c : Str) (p : Option Int) (f : α → Out β) : (Out.exc c p : Out α).bind f = .exc c p := rfl
theorem bind_inv {α β : Type} {x : Out α} {f : α → Out β} {b : β} (h : x.bind f = .ok b) : ∃ a, x = .ok a ∧ f a = .ok b := by
  cases x with
  | bad => cases h
  | ok a => exact ⟨a, rfl, h⟩
  | exc c p => cases h
inductive Val where
  | pers (d : D)
  | fresh (ds : List D)
  | brw (i : Nat) (ds : List D)
@[simp] def Val.d : Val → D
  | .pers d => d
  | .fresh ds => .lst ds
  | .brw _ ds => .lst ds
@[simp] def Val.hold : Val → Out D
  | .pers d => .ok d
  | .fresh ds => .ok (.lst ds)
  | .brw _ _ => .bad
inductive Slot where
  | un
  | pers (d : D)
  | own (ds : List D)
abbrev Ev := List Slot
abbrev FE := Ev → Out Val
abbrev FT := Ev → Out Bool
inductive Res where
  | next (env : Ev)
  | ret (v : Val)
abbrev FS := Ev → Out Res
mutual
def Rep (K : PySem.W.Frag) (G : Hp) : D → V → Prop
  | .non, v => v = .non
  | .bl b, v => v = .bl b
  | .int i, v => v = .int i
  | .tup ds, v => ∃ a vs, v = .ref a ∧ G a = some (.tup vs) ∧ RepL K G ds vs
  | .lst ds, v => ∃ a vs, v = .ref a ∧ G a = some (.lst vs) ∧ RepL K G ds vs
  | .scr ns, v => ∃ a, v = .ref a ∧ SqL K G a (ns.map V.int)
  | .exc _ _, _ => False
def RepL (K : PySem.W.Frag) (G : Hp) : List D → List V → Prop
  | [], vs => vs = []
  | d :: ds, vs => ∃ v r, vs = v :: r ∧ Rep K G d v ∧ RepL K G ds r
end
section
variable {K : PySem.W.Frag} {G G' : Hp}
mutual
theorem Rep.mono (s : Same G G') : ∀ {d : D} {v : V}, Rep K G d v → Rep K G' d v
  | .non, _, h => h
  | .bl _, _, h => h
  | .int _, _, h => h
  | .tup ds, v, h => by
    obtain ⟨a, vs, e, g, r⟩ := h
    exact ⟨a, vs, e, s _ _ g, RepL.mono s r⟩
  | .lst ds, v, h => by
    obtain ⟨a, vs, e, g, r⟩ := h
    exact ⟨a, vs, e, s _ _ g, RepL.mono s r⟩
  | .scr ns, v, h => by
    obtain ⟨a, e, g⟩ := h
    exact ⟨a, e, s.seq g⟩
  | .exc _ _, _, h => h
theorem RepL.mono (s : Same G G') : ∀ {ds : List D} {vs : List V}, RepL K G ds vs → RepL K G' ds vs
  | [], _, h => h
  | d :: ds, vs, h => by
    obtain ⟨v, r, e, h1, h2⟩ := h
    exact ⟨v, r, e, Rep.mono s h1, RepL.mono s h2⟩
end
theorem RepL.nil : RepL K G [] [] := rfl
theorem RepL.cons {d : D} {v : V} {ds : List D} {vs : List V} (h : Rep K G d v) (r : RepL K G ds vs) : RepL K G (d :: ds) (v :: vs) := ⟨v, vs, rfl, h, r⟩
theorem RepL.length : ∀ {ds : List D} {vs : List V}, RepL K G ds vs → ds.length = vs.length
  | [], _, h => by cases (show _ = [] from h); rfl
  | d :: ds, vs, h => by
    obtain ⟨v, r, rfl, _, h2⟩ := h
    simp [RepL.length h2]
theorem RepL.get : ∀ {ds : List D} {vs : List V} {i : Nat} {d : D}, RepL K G ds vs → ds[i]? = some d → ∃ v, vs[i]? = some v ∧ Rep K G d v
  | [], _, i, d, h, e => by simp at e
  | d' :: ds, vs, 0, d, h, e => by
    obtain ⟨v, r, rfl, h1, h2⟩ := h
    simp at e
    subst e
    exact ⟨v, rfl, h1⟩
  | d' :: ds, vs, i + 1, d, h, e => by
    obtain ⟨v, r, rfl, h1, h2⟩ := h
    obtain ⟨u, h3, h4⟩ := RepL.get (i := i) h2 (by simpa using e)
    exact ⟨u, by simpa using h3, h4⟩
theorem RepL.append : ∀ {ds es : List D} {vs us : List V}, RepL K G ds vs → RepL K G es us → RepL K G (ds ++ es) (vs ++ us)
  | [], es, vs, us, h, h' => by cases (show _ = [] from h); exact h'
  | d :: ds, es, vs, us, h, h' => by
    obtain ⟨v, r, rfl, h1, h2⟩ := h
    exact ⟨v, r ++ us, rfl, h1, RepL.append h2 h'⟩
theorem RepL.take : ∀ {ds : List D} {vs : List V} (n : Nat), RepL K G ds vs → RepL K G (ds.take n) (vs.take n)
  | ds, vs, 0, h => by simp only [List.take_zero]; exact rfl
  | [], vs, n + 1, h => by cases (show _ = [] from h); exact rfl
  | d :: ds, vs, n + 1, h => by
    obtain ⟨v, r, rfl, h1, h2⟩ := h
    exact ⟨v, r.take n, rfl, h1, RepL.take n h2⟩
theorem RepL.drop : ∀ {ds : List D} {vs : List V} (n : Nat), RepL K G ds vs → RepL K G (ds.drop n) (vs.drop n)
  | ds, vs, 0, h => by simpa using h
  | [], vs, n + 1, h => by cases (show _ = [] from h); exact rfl
  | d :: ds, vs, n + 1, h => by
    obtain ⟨v, r, rfl, h1, h2⟩ := h
    exact RepL.drop n h2
theorem RepL.reverse {ds : List D} : ∀ {vs : List V}, RepL K G ds vs → RepL K G ds.reverse vs.reverse := by
  induction ds with
  | nil => intro vs h; cases (show _ = [] from h); exact rfl
  | cons d ds ih =>
    intro vs h
    obtain ⟨v, r, rfl, h1, h2⟩ := h
    rw [List.reverse_cons, List.reverse_cons]
    exact RepL.append (ih h2) (RepL.cons h1 RepL.nil)
theorem RepL.set {d : D} {v : V} (hd : Rep K G d v) : ∀ {ds : List D} {vs : List V} (i : Nat), RepL K G ds vs → RepL K G (ds.set i d) (vs.set i v)
  | [], vs, i, h => by cases (show _ = [] from h); exact rfl
  | d' :: ds, vs, 0, h => by
    obtain ⟨u, r, rfl, h1, h2⟩ := h
    exact ⟨v, r, rfl, hd, h2⟩
  | d' :: ds, vs, i + 1, h => by
    obtain ⟨u, r, rfl, h1, h2⟩ := h
    exact ⟨u, r.set i v, rfl, h1, RepL.set hd i h2⟩
end
structure Grow (G H G' H' : Hp) : Prop where
  g : Same G G'
  h : Same H H'
  n : ∀ b, H b ≠ none → G b = none → G' b = none
theorem Grow.refl (G H : Hp) : Grow G H G H := ⟨Same.refl _, Same.refl _, fun _ _ h => h⟩
theorem Same.some_of {H H' : Hp} (s : Same H H') {b : Addr} (h : H b ≠ none) : H' b ≠ none := by
  cases q : H b with
  | none => exact absurd q h
  | some o => rw [s b o q]; simp
theorem Grow.trans {G H G1 H1 G2 H2 : Hp} (a : Grow G H G1 H1) (b : Grow G1 H1 G2 H2) : Grow G H G2 H2 :=
  ⟨a.g.trans b.g, a.h.trans b.h, fun c h1 h2 => b.n c (Same.some_of a.h h1) (a.n c h1 h2)⟩
theorem none_of_same {H H' : Hp} (s : Same H H') {b : Addr} (h : H' b = none) : H b = none := s.free h
structure SlotOwn (K : PySem.W.Frag) (H₀ : Hp) (σ : St) (G H : Hp) (i : Nat) (ds : List D) (a : Addr) (vs : List V) : Prop where
  at_ : σ[i]? = some (some (.ref a))
  hp : H a = some (.lst vs)
  gn : G a = none
  new : H₀ a = none
  rep : RepL K G ds vs
def SlotOk (K : PySem.W.Frag) (H₀ : Hp) (σ : St) (G H : Hp) (i : Nat) : Slot → Prop
  | .un => True
  | .pers d => ∃ v, σ[i]? = some (some v) ∧ Rep K G d v
  | .own ds => ∃ a vs, SlotOwn K H₀ σ G H i ds a vs
structure DI (K : PySem.W.Frag) (G₀ H₀ : Hp) (env : Ev) (σ : St) (G H : Hp) : Prop where
  le : Same G H
  gr : Grow G₀ H₀ G H
  len : env.length = σ.length
  slot : ∀ (i : Nat) (s : Slot), env[i]? = some s → SlotOk K H₀ σ G H i s
  apart : ∀ (i j : Nat) (ds es : List D) (a : Addr), i ≠ j → env[i]? = some (.own ds) → env[j]? = some (.own es) → σ[i]? = some (some (.ref a)) → σ[j]? ≠ some (some (.ref a))
section
variable {K : PySem.W.Frag} {G₀ H₀ G H G' H' : Hp} {env : Ev} {σ : St}
theorem DI.grow (I : DI K G₀ H₀ env σ G H) (g : Grow G H G' H') (l : Same G' H') : DI K G₀ H₀ env σ G' H' where
  le := l
  gr := I.gr.trans g
  len := I.len
  slot := fun i s e => by
    have q := I.slot i s e
    cases s with
    | un => trivial
    | pers d => obtain ⟨v, h1, h2⟩ := q; exact ⟨v, h1, h2.mono g.g⟩
    | own ds =>
      obtain ⟨a, vs, o⟩ := q
      exact ⟨a, vs, o.at_, g.h _ _ o.hp, g.n a (by rw [o.hp]; simp) o.gn, o.new, o.rep.mono g.g⟩
  apart := I.apart
theorem DI.own (I : DI K G₀ H₀ env σ G H) {i : Nat} {ds : List D} (e : env[i]? = some (.own ds)) : ∃ a vs, SlotOwn K H₀ σ G H i ds a vs := I.slot i _ e
theorem DI.pers (I : DI K G₀ H₀ env σ G H) {i : Nat} {d : D} (e : env[i]? = some (.pers d)) : ∃ v, σ[i]? = some (some v) ∧ Rep K G d v := I.slot i _ e
end
def ValOk (K : PySem.W.Frag) (H : Hp) (env : Ev) (σ : St) (G' H' : Hp) (v : V) : Val → Prop
  | .pers d => Rep K G' d v
  | .fresh ds => ∃ a vs, v = .ref a ∧ H a = none ∧ H' a = some (.lst vs) ∧ G' a = none ∧ RepL K G' ds vs
  | .brw i ds => ∃ a, v = .ref a ∧ env[i]? = some (.own ds) ∧ σ[i]? = some (some (.ref a))
theorem ValOk.base {K : PySem.W.Frag} {H H1 : Hp} {env : Ev} {σ : St} {G' H' : Hp} {v : V} {val : Val} (s : Same H H1) (h : ValOk K H1 env σ G' H' v val) : ValOk K H env σ G' H' v val := by
  cases val with
  | pers d => exact h
  | fresh ds =>
    obtain ⟨a, vs, e, h1, h2, h3, h4⟩ := h
    exact ⟨a, vs, e, s.free h1, h2, h3, h4⟩
  | brw i ds => exact h
def Opd (K : PySem.W.Frag) (env : Ev) (σ : St) (G : Hp) (v : V) (d : D) : Prop :=
  Rep K G d v ∨ ∃ (i : Nat) (ds : List D) (a : Addr), d = .lst ds ∧ v = .ref a ∧ env[i]? = some (.own ds) ∧ σ[i]? = some (some (.ref a))
theorem Opd.mono {K : PySem.W.Frag} {env : Ev} {σ : St} {G G' : Hp} {v : V} {d : D} (h : Opd K env σ G v d) (s : Same G G') : Opd K env σ G' v d :=
  h.elim (fun x => .inl (x.mono s)) .inr
section
variable {K : PySem.W.Frag} {G₀ H₀ G H G' H' : Hp} {env : Ev} {σ : St} {v : V}
theorem Opd.lst {ds : List D} (I : DI K G₀ H₀ env σ G H) (h : Opd K env σ G v (.lst ds)) : ∃ a vs, v = .ref a ∧ H a = some (.lst vs) ∧ RepL K G ds vs := by
  rcases h with h | ⟨i, es, a, e1, e2, e3, e4⟩
  · obtain ⟨a, vs, e, g, r⟩ := h
    exact ⟨a, vs, e, I.le _ _ g, r⟩
  · cases e1
    obtain ⟨b, vs, o⟩ := I.own e3
    have q := o.at_
    rw [e4] at q
    cases q
    exact ⟨a, vs, e2, o.hp, o.rep⟩
theorem Opd.tup {ds : List D} (I : DI K G₀ H₀ env σ G H) (h : Opd K env σ G v (.tup ds)) : ∃ a vs, v = .ref a ∧ H a = some (.tup vs) ∧ RepL K G ds vs := by
  rcases h with h | ⟨i, es, a, e1, e2, e3, e4⟩
  · obtain ⟨a, vs, e, g, r⟩ := h
    exact ⟨a, vs, e, I.le _ _ g, r⟩
  · cases e1
theorem Opd.int {i : Int} (h : Opd K env σ G v (.int i)) : v = .int i := by
  rcases h with h | ⟨_, _, _, e, _⟩
  · exact h
  · cases e
theorem Opd.bl {b : Bool} (h : Opd K env σ G v (.bl b)) : v = .bl b := by
  rcases h with h | ⟨_, _, _, e, _⟩
  · exact h
  · cases e
theorem Opd.non (h : Opd K env σ G v .non) : v = .non := by
  rcases h with h | ⟨_, _, _, e, _⟩
  · exact h
  · cases e
theorem Opd.scr {ns : List Int} (I : DI K G₀ H₀ env σ G H) (h : Opd K env σ G v (.scr ns)) : ∃ a, v = .ref a ∧ SqL K H a (ns.map V.int) := by
  rcases h with h | ⟨_, _, _, e, _⟩
  · obtain ⟨a, e, q⟩ := h
    exact ⟨a, e, I.le.seq q⟩
  · cases e
theorem opd {val : Val} (g : Grow G H G' H') (l : Same G' H') (h : ValOk K H env σ G' H' v val) : ∃ G'', Grow G H G'' H' ∧ Same G'' H' ∧ Opd K env σ G'' v val.d := by
  cases val with
  | pers d => exact ⟨G', g, l, .inl h⟩
  | brw i ds =>
    obtain ⟨a, e1, e2, e3⟩ := h
    exact ⟨G', g, l, .inr ⟨i, ds, a, rfl, e1, e2, e3⟩⟩
  | fresh ds =>
    obtain ⟨a, vs, e, h1, h2, h3, h4⟩ := h
    have s' : Same G' (upd G' a (.lst vs)) := fun b o q => by rw [upd_ne (ne_of_none q h3)]; exact q
    refine ⟨upd G' a (.lst vs), ⟨g.g.trans s', g.h, fun b q1 q2 => ?_⟩, fun b o q => ?_, .inl ⟨a, vs, e, upd_same, h4.mono s'⟩⟩
    · have hb : b ≠ a := fun z => q1 (z ▸ h1)
      rw [upd_ne hb]
      exact g.n b q1 q2
    · by_cases hb : b = a
      · subst hb; rw [upd_same] at q; cases q; exact h2
      · rw [upd_ne hb] at q; exact l b o q
theorem held {val : Val} {d : D} (g : Grow G H G' H') (l : Same G' H') (h : ValOk K H env σ G' H' v val) (e : val.hold = .ok d) : ∃ G'', Grow G H G'' H' ∧ Same G'' H' ∧ Rep K G'' d v := by
  obtain ⟨G2, g2, l2, o⟩ := opd g l h
  cases val with
  | pers d' => cases e; exact ⟨G', g, l, h⟩
  | brw i ds => cases e
  | fresh ds =>
    cases e
    rcases o with o | ⟨i, es, a, e1, e2, e3, e4⟩
    · exact ⟨G2, g2, l2, o⟩
    · obtain ⟨a', vs, e, h1, h2, h3, h4⟩ := h
      have s' : Same G' (upd G' a' (.lst vs)) := fun b o q => by rw [upd_ne (ne_of_none q h3)]; exact q
      refine ⟨upd G' a' (.lst vs), ⟨g.g.trans s', g.h, fun b q1 q2 => ?_⟩, fun b o q => ?_, ⟨a', vs, e, upd_same, h4.mono s'⟩⟩
      · have hb : b ≠ a' := fun z => q1 (z ▸ h1)
        rw [upd_ne hb]
        exact g.n b q1 q2
      · by_cases hb : b = a'
        · subst hb; rw [upd_same] at q; cases q; exact h2
        · rw [upd_ne hb] at q; exact l b o q
theorem Grow.laidT {p : Addr} {o : HO} (l : Same G H) (hp : H p = none) : Grow G H (upd G p o) (upd H p o) ∧ Same (upd G p o) (upd H p o) := by
  have gp := l.free hp
  refine ⟨⟨fun b u q => by rw [upd_ne (ne_of_none q gp)]; exact q, fun b u q => by rw [upd_ne (ne_of_none q hp)]; exact q, fun b h1 h2 => ?_⟩, fun b u q => ?_⟩
  · have hb : b ≠ p := fun z => h1 (z ▸ hp)
    rw [upd_ne hb]; exact h2
  · by_cases hb : b = p
    · subst hb; rw [upd_same] at q ⊢; exact q
    · rw [upd_ne hb] at q ⊢; exact l b u q
theorem Grow.laidL {p : Addr} {o : HO} (l : Same G H) (hp : H p = none) : Grow G H G (upd H p o) ∧ Same G (upd H p o) :=
  ⟨⟨Same.refl _, fun b u q => by rw [upd_ne (ne_of_none q hp)]; exact q, fun _ _ h => h⟩, fun b u q => by rw [upd_ne (ne_of_none q (l.free hp))]; exact l b u q⟩
theorem valFresh {p : Addr} {ds : List D} {vs : List V} {G1 H1 : Hp} (l : Same G1 H1) (hp : H1 p = none) (r : RepL K G1 ds vs) : ValOk K H1 env σ G1 (upd H1 p (.lst vs)) (.ref p) (.fresh ds) :=
  ⟨p, vs, rfl, hp, upd_same, l.free hp, r⟩
theorem valTup {p : Addr} {ds : List D} {vs : List V} {G1 H1 : Hp} (l : Same G1 H1) (hp : H1 p = none) (r : RepL K G1 ds vs) : ValOk K H1 env σ (upd G1 p (.tup vs)) (upd H1 p (.tup vs)) (.ref p) (.pers (.tup ds)) := by
  have gp := l.free hp
  exact ⟨p, vs, rfl, upd_same, r.mono fun b u q => by rw [upd_ne (ne_of_none q gp)]; exact q⟩
end
section
variable (K : PySem.W.Frag) (G₀ H₀ : Hp)
def tE (f : FE) : TE := fun σ H Q => ∃ env G val, DI K G₀ H₀ env σ G H ∧ f env = .ok val ∧
  ∀ v G' H', Grow G H G' H' → Same G' H' → ValOk K H env σ G' H' v val → Q v H'
def tT (f : FT) : TT := fun σ H Q => ∃ env G b, DI K G₀ H₀ env σ G H ∧ f env = .ok b ∧ ∀ G' H', Grow G H G' H' → Same G' H' → Q b H'
def ArgOk (env : Ev) (σ : St) (G : Hp) (v : V) : Val → Prop
  | .pers d => Rep K G d v
  | .fresh _ => False
  | .brw i ds => ∃ a, v = .ref a ∧ env[i]? = some (.own ds) ∧ σ[i]? = some (some (.ref a))
def ArgsOk (env : Ev) (σ : St) (G : Hp) : List V → List Val → Prop
  | [], vals => vals = []
  | v :: vs, vals => ∃ x r, vals = x :: r ∧ ArgOk K env σ G v x ∧ ArgsOk env σ G vs r
def tA (f : Ev → Out (List Val)) : TA := fun σ H Q => ∃ env G vals, DI K G₀ H₀ env σ G H ∧ f env = .ok vals ∧
  ∀ vs G' H', Grow G H G' H' → Same G' H' → ArgsOk K env σ G' vs vals → Q vs H'
def tH (f : Ev → Out (List D)) : TA := fun σ H Q => ∃ env G ds, DI K G₀ H₀ env σ G H ∧ f env = .ok ds ∧
  ∀ vs G' H', Grow G H G' H' → Same G' H' → RepL K G' ds vs → Q vs H'
def EndOk (G : Hp) (D : Ends) : Res → Prop
  | .next env' => ∀ σ' G' H', Same G G' → DI K G₀ H₀ env' σ' G' H' → D.nx σ' H'
  | .ret val => ∀ v G' H', Grow G₀ H₀ G' H' → Same G' H' → ValOk K H₀ [] [] G' H' v val → D.rt v H'
def tS (f : FS) : TS := fun D σ H => ∃ env G r, DI K G₀ H₀ env σ G H ∧ f env = .ok r ∧ EndOk K G₀ H₀ G D r
end
def DE (X : Cx) (G₀ H₀ : Hp) (e : Expr) (f : FE) : Prop := PE X e (tE X.K G₀ H₀ f)
def DT (X : Cx) (G₀ H₀ : Hp) (e : Expr) (f : FT) : Prop := PT X e (tT X.K G₀ H₀ f)
def DW (X : Cx) (G₀ H₀ : Hp) (e : Expr) (f : FT) : Prop := PW X e (tT X.K G₀ H₀ f)
def DA (X : Cx) (G₀ H₀ : Hp) (es : List Expr) (f : Ev → Out (List Val)) : Prop := PA X es (tA X.K G₀ H₀ f)
def DH (X : Cx) (G₀ H₀ : Hp) (es : List Expr) (f : Ev → Out (List D)) : Prop := PA X es (tH X.K G₀ H₀ f)
def DS (X : Cx) (G₀ H₀ : Hp) (st : Stmt) (f : FS) : Prop := PS X st (tS X.K G₀ H₀ f)
def DSs (X : Cx) (G₀ H₀ : Hp) (st : List Stmt) (f : FS) : Prop := PSs X st (tS X.K G₀ H₀ f)
theorem _root_.L2.PE.imp {X : Cx} {e : Expr} {t t' : TE} (h : PE X e t) (i : ∀ σ H Q, t' σ H Q → t σ H Q) : PE X e t' := fun pins s σ H Q I q => h pins s σ H Q I (i σ H Q q)
theorem _root_.L2.PT.imp {X : Cx} {e : Expr} {t t' : TT} (h : PT X e t) (i : ∀ σ H Q, t' σ H Q → t σ H Q) : PT X e t' := fun pins s σ H Q I q => h pins s σ H Q I (i σ H Q q)
theorem _root_.L2.PW.imp {X : Cx} {e : Expr} {t t' : TT} (h : PW X e t) (i : ∀ σ H Q, t' σ H Q → t σ H Q) : PW X e t' := fun wh pins s σ H Q I q => h wh pins s σ H Q I (i σ H Q q)
theorem _root_.L2.PA.imp {X : Cx} {e : List Expr} {t t' : TA} (h : PA X e t) (i : ∀ σ H Q, t' σ H Q → t σ H Q) : PA X e t' := fun pos pins s σ H Q I q => h pos pins s σ H Q I (i σ H Q q)
theorem _root_.L2.PS.imp {X : Cx} {e : Stmt} {t t' : TS} (h : PS X e t) (i : ∀ D σ H, t' D σ H → t D σ H) : PS X e t' := fun pins s σ H D I q => h pins s σ H D I (i D σ H q)
theorem _root_.L2.PSs.imp {X : Cx} {e : List Stmt} {t t' : TS} (h : PSs X e t) (i : ∀ D σ H, t' D σ H → t D σ H) : PSs X e t' := fun pins s σ H D I q => h pins s σ H D I (i D σ H q)
section
variable {K : PySem.W.Frag} {G₀ H₀ G H : Hp} {env : Ev} {σ : St}
theorem tE_one {f : FE} {x : Val} {P : V → Hp → Prop} (I : DI K G₀ H₀ env σ G H) (e : f env = .ok x)
    (k : ∀ v G' H', Grow G H G' H' → Same G' H' → DI K G₀ H₀ env σ G' H' → Opd K env σ G' v x.d → P v H') : tE K G₀ H₀ f σ H P :=
  ⟨env, G, x, I, e, fun v G' H' g l h => by
    obtain ⟨G2, g2, l2, o⟩ := opd g l h
    exact k v G2 H' g2 l2 (I.grow g2 l2) o⟩
theorem tE_two {f g : FE} {x y : Val} {P : V → V → Hp → Prop} (I : DI K G₀ H₀ env σ G H) (e : f env = .ok x) (e' : g env = .ok y)
    (k : ∀ v u G' H', Grow G H G' H' → Same G' H' → DI K G₀ H₀ env σ G' H' → Opd K env σ G' v x.d → Opd K env σ G' u y.d → P v u H') :
    tE K G₀ H₀ f σ H fun v H1 => tE K G₀ H₀ g σ H1 fun u H2 => P v u H2 :=
  tE_one I e fun v G1 H1 g1 l1 I1 o1 => tE_one I1 e' fun u G2 H2 g2 l2 I2 o2 => k v u G2 H2 (g1.trans g2) l2 I2 (o1.mono g2.g) o2
end
@[simp] def fVar (i : Nat) : FE := fun env => match env[i]? with
  | some (.pers d) => .ok (.pers d)
  | some (.own ds) => .ok (.brw i ds)
  | _ => .bad
@[simp] def fC (d : D) : FE := fun _ => .ok (.pers d)
section
variable {X : Cx} {G₀ H₀ : Hp} {pos : Pos}
theorem de_var {i : Nat} {x : Str} (h : PE X (.Name x pos) (tVar i)) : DE X G₀ H₀ (.Name x pos) (fVar i) := h.imp fun σ H Q q => by
  obtain ⟨env, G, val, I, e, k⟩ := q
  unfold fVar at e
  cases q : env[i]? with
  | none => rw [q] at e; cases e
  | some s =>
    rw [q] at e
    cases s with
    | un => cases e
    | pers d =>
      cases e
      obtain ⟨v, h1, h2⟩ := I.pers q
      exact ⟨v, h1, k v G H (Grow.refl _ _) I.le h2⟩
    | own ds =>
      cases e
      obtain ⟨a, vs, o⟩ := I.own q
      exact ⟨.ref a, o.at_, k _ G H (Grow.refl _ _) I.le ⟨a, rfl, q, o.at_⟩⟩
theorem de_c {e : Expr} {v : V} {d : D} (h : PE X e (tC v)) (r : ∀ G, Rep X.K G d v) : DE X G₀ H₀ e (fC d) := h.imp fun σ H Q q => by
  obtain ⟨env, G, val, I, e, k⟩ := q
  cases e
  exact k v G H (Grow.refl _ _) I.le (r G)
theorem de_int {i j} : DE X G₀ H₀ (.Constant (.int i) j pos) (fC (.int i)) := de_c pe_int fun _ => rfl
theorem de_bl {b j} : DE X G₀ H₀ (.Constant (.bool b) j pos) (fC (.bl b)) := de_c pe_bl fun _ => rfl
end
@[simp] def f2 (g : D → D → Out Val) (fa fb : FE) : FE := fun env => (fa env).bind fun x => (fb env).bind fun y => g x.d y.d
@[simp] def f1 (g : D → Out Val) (fa : FE) : FE := fun env => (fa env).bind fun x => g x.d
def OpD (K : PySem.W.Frag) (r : R2) (g : D → D → Out Val) : Prop :=
  ∀ (G₀ H₀ : Hp) (env : Ev) (σ : St) (G H : Hp) (v u : V) (d1 d2 : D) (val : Val) (Q : VK), DI K G₀ H₀ env σ G H → Opd K env σ G v d1 → Opd K env σ G u d2 → g d1 d2 = .ok val →
    (∀ w G' H', Grow G H G' H' → Same G' H' → ValOk K H env σ G' H' w val → Q w H') → r v u H Q
def UnD (K : PySem.W.Frag) (r : V → Hp → VK → Prop) (g : D → Out Val) : Prop :=
  ∀ (G₀ H₀ : Hp) (env : Ev) (σ : St) (G H : Hp) (v : V) (d1 : D) (val : Val) (Q : VK), DI K G₀ H₀ env σ G H → Opd K env σ G v d1 → g d1 = .ok val →
    (∀ w G' H', Grow G H G' H' → Same G' H' → ValOk K H env σ G' H' w val → Q w H') → r v H Q
section
variable {X : Cx} {G₀ H₀ : Hp} {pos : Pos} {a b : Expr} {fa fb : FE}
theorem imp2 {r : R2} {g : D → D → Out Val} (hd : OpD X.K r g) (σ : St) (H : Hp) (Q : VK) (q : tE X.K G₀ H₀ (f2 g fa fb) σ H Q) : tOp r (tE X.K G₀ H₀ fa) (tE X.K G₀ H₀ fb) σ H Q := by
  obtain ⟨env, G, val, I, e, k⟩ := q
  obtain ⟨x, e1, e⟩ := bind_inv e
  obtain ⟨y, e2, e⟩ := bind_inv e
  exact tE_two I e1 e2 fun v u G' H' g1 l1 I1 o1 o2 => hd G₀ H₀ env σ G' H' v u _ _ val Q I1 o1 o2 e fun w G2 H2 g2 l2 h2 => k w G2 H2 (g1.trans g2) l2 (h2.base g1.h)
theorem imp1 {r : V → Hp → VK → Prop} {g : D → Out Val} (hd : UnD X.K r g) (σ : St) (H : Hp) (Q : VK) (q : tE X.K G₀ H₀ (f1 g fa) σ H Q) : tUn r (tE X.K G₀ H₀ fa) σ H Q := by
  obtain ⟨env, G, val, I, e, k⟩ := q
  obtain ⟨x, e1, e⟩ := bind_inv e
  exact tE_one I e1 fun v G' H' g1 l1 I1 o1 => hd G₀ H₀ env σ G' H' v _ val Q I1 o1 e fun w G2 H2 g2 l2 h2 => k w G2 H2 (g1.trans g2) l2 (h2.base g1.h)
theorem de_op {op : Operator} {r : R2} {g : D → D → Out Val} (ho : OpR X (binaryOp op) r) (hd : OpD X.K r g) (ha : DE X G₀ H₀ a fa) (hb : DE X G₀ H₀ b fb) : DE X G₀ H₀ (.BinOp a op b pos) (f2 g fa fb) :=
  (pe_op ho ha hb).imp (imp2 hd)
theorem de_un {op : UnaryOp} {r : V → Hp → VK → Prop} {g : D → Out Val} (ho : UnR X (unaryOp op) r) (hd : UnD X.K r g) (ha : DE X G₀ H₀ a fa) : DE X G₀ H₀ (.UnaryOp op a pos) (f1 g fa) :=
  (pe_un ho ha).imp (imp1 hd)
theorem de_cmp {op : CmpOp} {r : R2} {g : D → D → Out Val} (ho : OpR X (compareOp op) r) (hd : OpD X.K r g) (ha : DE X G₀ H₀ a fa) (hb : DE X G₀ H₀ b fb) (hm : behindInMarks op b = false) : DE X G₀ H₀ (.Compare a [op] [b] pos) (f2 g fa fb) :=
  (pe_cmpR ho ha hb hm).imp (imp2 hd)
theorem de_ix {r : R2} {g : D → D → Out Val} (hr : IxR X r) (hd : OpD X.K r g) (ha : DE X G₀ H₀ a fa) (hb : DE X G₀ H₀ b fb) (hs : PlainIx b) : DE X G₀ H₀ (.Subscript a b pos) (f2 g fa fb) :=
  (pe_ix hr ha hb hs).imp (imp2 hd)
end
@[simp] def gI (C : Int → Int → Bool) (g : Int → Int → Int) : D → D → Out Val
  | .int i, .int j => if C i j then .ok (.pers (.int (g i j))) else .bad
  | _, _ => .bad
@[simp] def gIB (g : Int → Int → Bool) : D → D → Out Val
  | .int i, .int j => .ok (.pers (.bl (g i j)))
  | _, _ => .bad
section
variable {K : PySem.W.Frag}
theorem od_int {C : Int → Int → Bool} {C' : Int → Int → Prop} {g : Int → Int → Int} (hC : ∀ i j, C i j = true → C' i j) : OpD K (rI C' fun i j => .int (g i j)) (gI C g) := by
  intro G₀ H₀ env σ G H v u d1 d2 val Q I o1 o2 e k
  unfold gI at e
  split at e
  · rename_i i j
    split at e
    · rename_i hc
      cases e
      exact ⟨i, j, o1.int, o2.int, hC i j hc, k _ G H (Grow.refl _ _) I.le rfl⟩
    · cases e
  · cases e
theorem od_int0 {g : Int → Int → Int} : OpD K (rI0 fun i j => .int (g i j)) (gI (fun _ _ => true) g) := by
  intro G₀ H₀ env σ G H v u d1 d2 val Q I o1 o2 e k
  unfold gI at e
  split at e
  · rename_i i j
    rw [if_pos rfl] at e
    cases e
    exact ⟨i, j, o1.int, o2.int, k _ G H (Grow.refl _ _) I.le rfl⟩
  · cases e
theorem od_intB {g : Int → Int → Bool} : OpD K (rI0 fun i j => .bl (g i j)) (gIB g) := by
  intro G₀ H₀ env σ G H v u d1 d2 val Q I o1 o2 e k
  unfold gIB at e
  split at e
  · rename_i i j
    cases e
    exact ⟨i, j, o1.int, o2.int, k _ G H (Grow.refl _ _) I.le rfl⟩
  · cases e
end
def small64 (i : Int) : Bool := decide (-(2 ^ 64) < i) && decide (i < 2 ^ 64)
def cMul (i j : Int) : Bool := small64 i || small64 j
def cPow (i j : Int) : Bool := decide (0 ≤ j) && decide (j ≤ 1000000) && decide (i.natAbs < 2 ^ 64)
@[simp] def gSub := gI (fun _ _ => true) (· - ·)
@[simp] def gMul := gI cMul (· * ·)
@[simp] def gMod := gI (fun _ j => decide (0 < j)) (· % ·)
@[simp] def gPow := gI cPow (fun i j => i ^ j.toNat)
@[simp] def gLt := gIB fun i j => decide (i < j)
@[simp] def gNeg : D → Out Val
  | .int i => .ok (.pers (.int (-i)))
  | _ => .bad
section
variable {X : Cx} {G₀ H₀ : Hp} {pos : Pos} {a b : Expr} {fa fb : FE}
theorem de_sub (ha : DE X G₀ H₀ a fa) (hb : DE X G₀ H₀ b fb) : DE X G₀ H₀ (.BinOp a .Sub b pos) (f2 gSub fa fb) := de_op op_sub od_int0 ha hb
theorem de_mul (ha : DE X G₀ H₀ a fa) (hb : DE X G₀ H₀ b fb) : DE X G₀ H₀ (.BinOp a .Mult b pos) (f2 gMul fa fb) :=
  de_op op_mul (od_int fun i j h => by
    simp only [cMul, small64, Bool.or_eq_true, Bool.and_eq_true, decide_eq_true_eq] at h
    exact h) ha hb
theorem de_mod (ha : DE X G₀ H₀ a fa) (hb : DE X G₀ H₀ b fb) : DE X G₀ H₀ (.BinOp a .Mod b pos) (f2 gMod fa fb) := de_op op_mod (od_int fun i j h => of_decide_eq_true h) ha hb
theorem de_pow (ha : DE X G₀ H₀ a fa) (hb : DE X G₀ H₀ b fb) : DE X G₀ H₀ (.BinOp a .Pow b pos) (f2 gPow fa fb) :=
  de_op op_pow (od_int fun i j h => by
    simp only [cPow, Bool.and_eq_true, decide_eq_true_eq] at h
    exact ⟨h.1.1, h.1.2, h.2⟩) ha hb
theorem de_neg (ha : DE X G₀ H₀ a fa) : DE X G₀ H₀ (.UnaryOp .USub a pos) (f1 gNeg fa) := de_un un_neg (by
  intro G₀ H₀ env σ G H v d1 val Q I o1 e k
  unfold gNeg at e
  split at e
  · rename_i i
    cases e
    exact ⟨i, o1.int, k _ G H (Grow.refl _ _) I.le rfl⟩
  · cases e) ha
end
end DL
set_option Elab.async false
set_option linter.all false
set_option maxRecDepth 100000
set_option maxHeartbeats 4000000
namespace DL
open PySem PySem.Spec PyProof.Rows L2
def cDiv (_ j : Int) : Bool := decide (0 < j) && decide (j < 2 ^ 250)
theorem op_fdivB {X : Cx} : OpR X (binaryOp .FloorDiv) (rI (fun _ j => 0 < j ∧ j < 2 ^ 250) fun i j => .int (i / j)) := opI fun i j t u s Q E hc q => by
  have hne : j ≠ 0 := by omega
  refine floordiv_int hne ?_ (.inl (PyProof.noPylong_of_log2 ?_))
  · rw [Int.fdiv_eq_ediv_of_nonneg _ (by omega)]
    exact q
  · have h1 : j.natAbs < 2 ^ 9000 := Nat.lt_of_lt_of_le (m := 2 ^ 250) (by have := hc.2; omega) (Nat.pow_le_pow_right (by decide) (by decide))
    exact (Nat.log2_lt (by omega)).mpr h1
@[simp] def gDiv := gI cDiv (· / ·)
theorem de_div {X : Cx} {G₀ H₀ : Hp} {pos : Pos} {a b : Expr} {fa fb : FE} (ha : DE X G₀ H₀ a fa) (hb : DE X G₀ H₀ b fb) : DE X G₀ H₀ (.BinOp a .FloorDiv b pos) (f2 gDiv fa fb) :=
  de_op op_fdivB (od_int fun i j h => by
    simp only [cDiv, Bool.and_eq_true, decide_eq_true_eq] at h
    exact h) ha hb
mutual
def toPy : D → PyData
  | .non => .none
  | .bl b => .bool b
  | .int i => .int i
  | .tup ds => .tuple (toPyL ds)
  | .lst ds => .list (toPyL ds)
  | .scr ns => .list (ns.map .int)
  | .exc _ _ => .none
def toPyL : List D → List PyData
  | [] => []
  | d :: ds => toPy d :: toPyL ds
end
def eqD (x y : D) : Bool := PyData.eqv (toPy x) (toPy y)
def eqDL (xs ys : List D) : Bool := PyData.eqvAll (toPyL xs) (toPyL ys)
def shal : Nat → D → Bool
  | 0, .tup _ => false
  | 0, .lst _ => false
  | 0, _ => true
  | n + 1, .tup ds => ds.all (shal n)
  | n + 1, .lst ds => ds.all (shal n)
  | _ + 1, _ => true
theorem lay_ints : ∀ ns : List Int, PyData.canLayAll0 (ns.map .int) = true
  | [] => by simp [PyData.canLayAll0]
  | n :: ns => by simp only [List.map_cons, PyData.canLayAll0, PyData.canLay0, lay_ints ns, Bool.and_self]
mutual
theorem lay_ok : ∀ d : D, (toPy d).canLay0 = true
  | .non => by simp only [toPy, PyData.canLay0]
  | .bl _ => by simp only [toPy, PyData.canLay0]
  | .int _ => by simp only [toPy, PyData.canLay0]
  | .tup ds => by simp only [toPy, PyData.canLay0, layL_ok ds]
  | .lst ds => by simp only [toPy, PyData.canLay0, layL_ok ds]
  | .scr ns => by simp only [toPy, PyData.canLay0, lay_ints ns]
  | .exc _ _ => by simp only [toPy, PyData.canLay0]
theorem layL_ok : ∀ ds : List D, PyData.canLayAll0 (toPyL ds) = true
  | [] => by simp only [toPyL, PyData.canLayAll0]
  | d :: ds => by simp only [toPyL, PyData.canLayAll0, lay_ok d, layL_ok ds, Bool.and_self]
end
theorem depth_ints : ∀ ns : List Int, PyData.depthAll (ns.map .int) = 0
  | [] => by simp [PyData.depthAll]
  | n :: ns => by simp [PyData.depthAll, PyData.depth, depth_ints ns]
theorem depthL_le {n : Nat} : ∀ ds : List D, (∀ d ∈ ds, (toPy d).depth ≤ n) → PyData.depthAll (toPyL ds) ≤ n
  | [], _ => by simp [toPyL, PyData.depthAll]
  | d :: ds, h => by
    simp only [toPyL, PyData.depthAll]
    exact Nat.max_le.mpr ⟨h d (by simp), depthL_le ds fun x hx => h x (by simp [hx])⟩
theorem depth_le : ∀ (n : Nat) (d : D), shal n d = true → (toPy d).depth ≤ n + 1
  | n, .non, _ => by simp [toPy, PyData.depth]
  | n, .bl _, _ => by simp [toPy, PyData.depth]
  | n, .int _, _ => by simp [toPy, PyData.depth]
  | n, .scr ns, _ => by simp [toPy, PyData.depth, depth_ints ns]
  | n, .exc _ _, _ => by simp [toPy, PyData.depth]
  | 0, .tup ds, h => by simp [shal] at h
  | 0, .lst ds, h => by simp [shal] at h
  | n + 1, .tup ds, h => by
    simp only [toPy, PyData.depth]
    have := depthL_le (n := n + 1) ds fun d hd => depth_le n d (List.all_eq_true.mp (by simpa [shal] using h) d hd)
    omega
  | n + 1, .lst ds, h => by
    simp only [toPy, PyData.depth]
    have := depthL_le (n := n + 1) ds fun d hd => depth_le n d (List.all_eq_true.mp (by simpa [shal] using h) d hd)
    omega
section
variable {X : Cx} {pins : List (Addr × Obj)} {σ : St} {G H : Hp} {s : Shared}
theorem reads_ints {h : Heap} : ∀ {ns : List Int} {us : List Value}, Vals (ns.map V.int) us → ∃ as, ReadsAll h us (ns.map .int) as
  | [], us, r => by cases r; exact ⟨[], .nil⟩
  | n :: ns, us, r => by
    cases r with
    | cons r1 r2 =>
      obtain ⟨t, rfl⟩ := r1
      obtain ⟨as, q⟩ := reads_ints r2
      exact ⟨_, .cons (.int n t) q⟩
mutual
theorem reads_of (I : Inv X pins σ H s) (l : Same G H) : ∀ {d : D} {v : V} {u : Value}, Rep X.K G d v → RelV v u → ∃ as, Reads s.heap u (toPy d) as
  | .non, v, u, h, r => by cases (show v = .non from h); cases (show u = .none from r); exact ⟨[], by simp only [toPy]; exact .none⟩
  | .bl b, v, u, h, r => by cases (show v = .bl b from h); cases (show u = .bool b from r); exact ⟨[], by simp only [toPy]; exact .bool b⟩
  | .int i, v, u, h, r => by
    cases (show v = .int i from h)
    obtain ⟨t, rfl⟩ := (show ∃ t, u = .int i t from r)
    exact ⟨[], by simp only [toPy]; exact .int i t⟩
  | .tup ds, v, u, h, r => by
    obtain ⟨a, vs, rfl, g, q⟩ := h
    cases (show u = .ref a from r)
    obtain ⟨_, its, rv, ob, e, c, n, dd⟩ := I.hok a _ (l _ _ g)
    obtain ⟨as, z⟩ := readsL_of I l q rv
    exact ⟨as, by simp only [toPy]; exact .tuple e c dd (by simpa using z)⟩
  | .lst ds, v, u, h, r => by
    obtain ⟨a, vs, rfl, g, q⟩ := h
    cases (show u = .ref a from r)
    obtain ⟨_, its, n, rv, e⟩ := I.hok a _ (l _ _ g)
    obtain ⟨as, z⟩ := readsL_of I l q rv
    exact ⟨a :: as, by simp only [toPy]; exact .list e rfl rfl (by simpa using z)⟩
  | .scr ns, v, u, h, r => by
    obtain ⟨a, rfl, q⟩ := h
    cases (show u = .ref a from r)
    obtain ⟨its, rv, ⟨o, n, e, c, _, dd⟩, _⟩ := I.list (l.seq q)
    obtain ⟨as, z⟩ := reads_ints (h := s.heap) rv
    exact ⟨a :: as, by simp only [toPy]; exact .list e c dd (by simpa using z)⟩
  | .exc _ _, _, _, h, _ => h.elim
theorem readsL_of (I : Inv X pins σ H s) (l : Same G H) : ∀ {ds : List D} {vs : List V} {us : List Value}, RepL X.K G ds vs → Vals vs us → ∃ as, ReadsAll s.heap us (toPyL ds) as
  | [], vs, us, h, r => by
    cases (show vs = [] from h)
    cases r
    exact ⟨[], by simp only [toPyL]; exact .nil⟩
  | d :: ds, vs, us, h, r => by
    obtain ⟨v, vr, rfl, h1, h2⟩ := h
    cases r with
    | cons r1 r2 =>
      obtain ⟨as, q1⟩ := reads_of I l h1 r1
      obtain ⟨bs, q2⟩ := readsL_of I l h2 r2
      exact ⟨as ++ bs, by simp only [toPyL]; exact .cons q1 q2⟩
end
end
def RdV (K : PySem.W.Frag) (H : Hp) (v : V) (d : D) : Prop := (∃ G, Same G H ∧ Rep K G d v) ∨ ∃ a vs G ds, d = .lst ds ∧ v = .ref a ∧ H a = some (.lst vs) ∧ Same G H ∧ RepL K G ds vs
theorem Opd.rdv {K : PySem.W.Frag} {G₀ H₀ G H : Hp} {env : Ev} {σ : St} {v : V} {d : D} (I : DI K G₀ H₀ env σ G H) (h : Opd K env σ G v d) : RdV K H v d := by
  rcases h with h | ⟨i, ds, a, e1, e2, e3, e4⟩
  · exact .inl ⟨G, I.le, h⟩
  · subst e1
    obtain ⟨a', vs, e, h1, h2⟩ := Opd.lst I (.inr ⟨i, ds, a, rfl, e2, e3, e4⟩)
    exact .inr ⟨a', vs, G, ds, rfl, e, h1, I.le, h2⟩
theorem reads_rdv {X : Cx} {pins : List (Addr × Obj)} {σ : St} {H : Hp} {s : Shared} {v : V} {u : Value} {d : D} (I : Inv X pins σ H s) (h : RdV X.K H v d) (r : RelV v u) : ∃ as, Reads s.heap u (toPy d) as := by
  rcases h with ⟨G, l, h⟩ | ⟨a, vs, G, ds, rfl, rfl, g, l, q⟩
  · exact reads_of I l h r
  · cases (show u = .ref a from r)
    obtain ⟨_, its, n, rv, e⟩ := I.hok a _ g
    obtain ⟨as, z⟩ := readsL_of I l q rv
    exact ⟨a :: as, by simp only [toPy]; exact .list e rfl rfl (by simpa using z)⟩
def rEqD (K : PySem.W.Frag) (neg : Bool) : R2 := fun x y H Q => ∃ d1 d2, RdV K H x d1 ∧ RdV K H y d2 ∧ (shal 4 d1 || shal 4 d2) = true ∧ Q (.bl (if neg then !eqD d1 d2 else eqD d1 d2)) H
theorem room_eq {u : Nat} {d1 d2 : D} (hu : u + 20 < cLine) (hs : (shal 4 d1 || shal 4 d2) = true) : u + min (toPy d1).depth (toPy d2).depth < cLine := by
  rw [Bool.or_eq_true] at hs
  rcases hs with h | h
  · have := depth_le 4 d1 h
    have := Nat.min_le_left (toPy d1).depth (toPy d2).depth
    omega
  · have := depth_le 4 d2 h
    have := Nat.min_le_right (toPy d1).depth (toPy d2).depth
    omega
theorem op_eqD {X : Cx} (hu : X.A.units + 20 < cLine) : OpR X (compareOp .Eq) (rEqD X.K false) := by
  intro pins s σ H x y v u Q I rx ry h
  obtain ⟨d1, d2, h1, h2, hs, q⟩ := h
  obtain ⟨as, ra⟩ := reads_rdv I h1 rx
  obtain ⟨bs, rb⟩ := reads_rdv I h2 ry
  exact SeqAt.compareEq_reads ra rb (lay_ok d1) (lay_ok d2) (room_eq hu hs) ⟨.bl _, H, I, rfl, q⟩
theorem op_neD {X : Cx} (hu : X.A.units + 20 < cLine) : OpR X (compareOp .NotEq) (rEqD X.K true) := by
  intro pins s σ H x y v u Q I rx ry h
  obtain ⟨d1, d2, h1, h2, hs, q⟩ := h
  obtain ⟨as, ra⟩ := reads_rdv I h1 rx
  obtain ⟨bs, rb⟩ := reads_rdv I h2 ry
  exact SeqAt.compareNe_reads ra rb (lay_ok d1) (lay_ok d2) (room_eq hu hs) ⟨.bl _, H, I, rfl, q⟩
@[simp] def gEq : D → D → Out Val := fun x y => if (shal 4 x || shal 4 y) = true then .ok (.pers (.bl (eqD x y))) else .bad
@[simp] def gNe : D → D → Out Val := fun x y => if (shal 4 x || shal 4 y) = true then .ok (.pers (.bl (!eqD x y))) else .bad
theorem od_eq {K : PySem.W.Frag} : OpD K (rEqD K false) gEq := by
  intro G₀ H₀ env σ G H v u d1 d2 val Q I o1 o2 e k
  unfold gEq at e
  split at e
  · rename_i hs
    cases e
    exact ⟨d1, d2, o1.rdv I, o2.rdv I, hs, k _ G H (Grow.refl _ _) I.le rfl⟩
  · cases e
theorem od_ne {K : PySem.W.Frag} : OpD K (rEqD K true) gNe := by
  intro G₀ H₀ env σ G H v u d1 d2 val Q I o1 o2 e k
  unfold gNe at e
  split at e
  · rename_i hs
    cases e
    exact ⟨d1, d2, o1.rdv I, o2.rdv I, hs, k _ G H (Grow.refl _ _) I.le rfl⟩
  · cases e
section
variable {X : Cx} {G₀ H₀ : Hp} {pos : Pos} {a b : Expr} {fa fb : FE}
theorem de_eq (hu : X.A.units + 20 < cLine) (ha : DE X G₀ H₀ a fa) (hb : DE X G₀ H₀ b fb) : DE X G₀ H₀ (.Compare a [.Eq] [b] pos) (f2 gEq fa fb) := de_cmp (op_eqD hu) od_eq ha hb (nomark _)
end
@[simp] def gAdd : D → D → Out Val
  | .int i, .int j => .ok (.pers (.int (i + j)))
  | .lst xs, .lst ys => if xs.length + ys.length ≤ 100000 then .ok (.fresh (xs ++ ys)) else .bad
  | _, _ => .bad
theorem le_line {n : Nat} (h : n ≤ 100000) : n ≤ sizeLine := by rw [sizeLine_eq]; omega
theorem od_add {K : PySem.W.Frag} : OpD K (fun x y H Q => rI0 (fun i j => .int (i + j)) x y H Q ∨ rCat x y H Q) gAdd := by
  intro G₀ H₀ env σ G H v u d1 d2 val Q I o1 o2 e k
  unfold gAdd at e
  split at e
  · rename_i i j
    cases e
    exact .inl ⟨i, j, o1.int, o2.int, k _ G H (Grow.refl _ _) I.le rfl⟩
  · rename_i xs ys
    split at e
    · rename_i hz
      cases e
      obtain ⟨a, vs, e1, h1, r1⟩ := Opd.lst I o1
      obtain ⟨b, us, e2, h2, r2⟩ := Opd.lst I o2
      refine .inr ⟨a, b, vs, us, e1, e2, h1, h2, le_line (by rw [← r1.length, ← r2.length]; exact hz), fun p hp => ?_⟩
      have g := Grow.laidL (o := .lst (vs ++ us)) I.le hp
      exact k _ G _ g.1 g.2 (valFresh I.le hp (r1.append r2))
    · cases e
  · cases e
theorem de_add {X : Cx} {G₀ H₀ : Hp} {pos : Pos} {a b : Expr} {fa fb : FE} (ha : DE X G₀ H₀ a fa) (hb : DE X G₀ H₀ b fb) : DE X G₀ H₀ (.BinOp a .Add b pos) (f2 gAdd fa fb) := de_op (op_add.or op_cat) od_add ha hb
@[simp] def gIx : D → D → Out Val
  | .tup ds, .int i => match atI ds i with | some d => .ok (.pers d) | none => .bad
  | .lst ds, .int i => match atI ds i with | some d => .ok (.pers d) | none => .bad
  | .scr ns, .int i => match atI ns i with | some n => .ok (.pers (.int n)) | none => .bad
  | _, _ => .bad
theorem atI_rep {K : PySem.W.Frag} {G : Hp} {ds : List D} {vs : List V} {i : Int} {d : D} (r : RepL K G ds vs) (h : atI ds i = some d) : ∃ v, atI vs i = some v ∧ Rep K G d v := by
  unfold atI at h ⊢
  rw [← r.length]
  cases q : ixN ds.length i with
  | none => rw [q] at h; cases h
  | some j =>
    rw [q] at h
    obtain ⟨v, h1, h2⟩ := r.get (i := j) (d := d) h
    exact ⟨v, h1, h2⟩
theorem atI_map {α β : Type} (f : α → β) (xs : List α) (i : Int) : atI (xs.map f) i = (atI xs i).map f := by
  unfold atI
  rw [List.length_map]
  cases ixN xs.length i with
  | none => rfl
  | some j => simp
theorem od_ix {K : PySem.W.Frag} : OpD K (fun x y H Q => rIxL K x y H Q ∨ rIxT K x y H Q ∨ rIxS x y H Q) gIx := by
  intro G₀ H₀ env σ G H v u d1 d2 val Q I o1 o2 e k
  unfold gIx at e
  split at e
  · rename_i ds i
    split at e
    · rename_i d hd
      cases e
      obtain ⟨a, vs, e1, h1, r1⟩ := Opd.tup I o1
      obtain ⟨w, hw, rw'⟩ := atI_rep r1 hd
      exact .inr (.inl ⟨a, vs, i, w, e1, o2.int, SqT.of h1, hw, k w G H (Grow.refl _ _) I.le rw'⟩)
    · cases e
  · rename_i ds i
    split at e
    · rename_i d hd
      cases e
      obtain ⟨a, vs, e1, h1, r1⟩ := Opd.lst I o1
      obtain ⟨w, hw, rw'⟩ := atI_rep r1 hd
      exact .inl ⟨a, vs, i, w, e1, o2.int, SqL.of h1, hw, k w G H (Grow.refl _ _) I.le rw'⟩
    · cases e
  · rename_i ns i
    split at e
    · rename_i n hn
      cases e
      obtain ⟨a, e1, h1⟩ := Opd.scr I o1
      exact .inl ⟨a, ns.map V.int, i, .int n, e1, o2.int, h1, by rw [atI_map, hn]; rfl, k (.int n) G H (Grow.refl _ _) I.le rfl⟩
    · cases e
  · cases e
theorem de_at {X : Cx} {G₀ H₀ : Hp} {pos : Pos} {a b : Expr} {fa fb : FE} (ha : DE X G₀ H₀ a fa) (hb : DE X G₀ H₀ b fb) (hs : PlainIx b := by intro _ _; rfl) : DE X G₀ H₀ (.Subscript a b pos) (f2 gIx fa fb) := de_ix ix_seq od_ix ha hb hs
def cutD (xs : List D) (lo hi : Option Int) : List D := (xs.drop (HT.sIx xs.length 0 lo)).take (HT.sIx xs.length xs.length hi - HT.sIx xs.length 0 lo)
theorem cut_rep {K : PySem.W.Frag} {G : Hp} {ds : List D} {vs : List V} (lo hi : Option Int) (r : RepL K G ds vs) : RepL K G (cutD ds lo hi) (cutV vs lo hi) := by
  unfold cutD cutV
  rw [r.length]
  exact (r.drop _).take _
abbrev FO := Ev → Out (Option Int)
@[simp] def fNo : FO := fun _ => .ok none
@[simp] def fSo (f : FE) : FO := fun env => (f env).bind fun v => match v.d with
  | .int i => .ok (some i)
  | _ => .bad
def tO (K : PySem.W.Frag) (G₀ H₀ : Hp) (f : FO) : TO := fun σ H Q => ∃ env G o, DI K G₀ H₀ env σ G H ∧ f env = .ok o ∧ ∀ G' H', Grow G H G' H' → Same G' H' → Q o H'
def DO (X : Cx) (G₀ H₀ : Hp) (e : Option Expr) (f : FO) : Prop := PO X e (tO X.K G₀ H₀ f)
section
variable {X : Cx} {G₀ H₀ : Hp} {pos p2 : Pos} {a e : Expr} {lo hi : Option Expr} {fa f : FE} {fl fh : FO}
theorem do_none : DO X G₀ H₀ none fNo := fun pins s σ H Q I q => po_none pins s σ H Q I (by
  obtain ⟨env, G, o, J, h, k⟩ := q
  cases h
  exact k G H (Grow.refl _ _) J.le)
theorem do_some (h : DE X G₀ H₀ e f) : DO X G₀ H₀ (some e) (fSo f) := fun pins s σ H Q I q => po_some h pins s σ H Q I (by
  obtain ⟨env, G, o, J, h, k⟩ := q
  obtain ⟨x, e1, h⟩ := bind_inv h
  refine tE_one J e1 fun v G' H' g l J' ov => ?_
  split at h
  · rename_i i hi
    cases h
    rw [hi] at ov
    exact ⟨i, ov.int, k G' H' g l⟩
  · cases h)
@[simp] def gSl : D → Option Int → Option Int → Out Val
  | .lst ds, lo, hi => .ok (.fresh (cutD ds lo hi))
  | .tup ds, lo, hi => if HT.sIx ds.length 0 lo = 0 ∧ HT.sIx ds.length ds.length hi = ds.length then .bad else .ok (.pers (.tup (cutD ds lo hi)))
  | _, _, _ => .bad
@[simp] def fSl (fa : FE) (fl fh : FO) : FE := fun env => (fa env).bind fun x => (fl env).bind fun l => (fh env).bind fun h => gSl x.d l h
theorem de_sl (ha : DE X G₀ H₀ a fa) (hl : DO X G₀ H₀ lo fl) (hh : DO X G₀ H₀ hi fh) : DE X G₀ H₀ (.Subscript a (.Slice lo hi none p2) pos) (fSl fa fl fh) :=
  (pe_slice (sl_list.or sl_tup) ha hl hh).imp fun σ H Q q => by
    obtain ⟨env, G, val, I, e, k⟩ := q
    obtain ⟨x, e1, e⟩ := bind_inv e
    obtain ⟨l, e2, e⟩ := bind_inv e
    obtain ⟨h, e3, e⟩ := bind_inv e
    refine tE_one I e1 fun v G1 H1 g1 l1 I1 o1 => ⟨env, G1, l, I1, e2, fun G2 H2 g2 l2 => ⟨env, G2, h, I1.grow g2 l2, e3, fun G3 H3 g3 l3 => ?_⟩⟩
    have I3 := (I1.grow g2 l2).grow g3 l3
    have o3 := (o1.mono g2.g).mono g3.g
    have g03 := (g1.trans g2).trans g3
    generalize x.d = dx at e o3
    cases dx with
    | lst ds =>
      cases e
      obtain ⟨a', vs, ev, h1, r1⟩ := Opd.lst I3 o3
      refine .inl ⟨a', vs, ev, SqL.of h1, fun p hp => ?_⟩
      have g := Grow.laidL (o := .lst (cutV vs l h)) l3 hp
      exact k _ G3 _ (g03.trans g.1) g.2 ((valFresh l3 hp (cut_rep l h r1)).base g03.h)
    | tup ds =>
      have e' : (if HT.sIx ds.length 0 l = 0 ∧ HT.sIx ds.length ds.length h = ds.length then Out.bad else Out.ok (.pers (.tup (cutD ds l h)))) = Out.ok val := e
      split at e'
      · cases e'
      · rename_i hw
        cases e'
        obtain ⟨a', vs, ev, h1, r1⟩ := Opd.tup I3 o3
        refine .inr ⟨a', vs, ev, SqT.of h1, by rw [← r1.length]; exact hw, fun p hp => ?_⟩
        have g := Grow.laidT (o := .tup (cutV vs l h)) l3 hp
        exact k _ _ _ (g03.trans g.1) g.2 ((valTup l3 hp (cut_rep l h r1)).base g03.h)
    | non => cases e
    | bl b => cases e
    | int i => cases e
    | scr ns => cases e
    | exc c p => cases e
end
@[simp] def fNil : Ev → Out (List Val) := fun _ => .ok []
@[simp] def frz : Val → Val
  | .fresh ds => .pers (.lst ds)
  | v => v
@[simp] def fCons (f : FE) (r : Ev → Out (List Val)) : Ev → Out (List Val) := fun env => (f env).bind fun x => (r env).bind fun xs => .ok (frz x :: xs)
@[simp] def hNil : Ev → Out (List D) := fun _ => .ok []
@[simp] def hCons (f : FE) (r : Ev → Out (List D)) : Ev → Out (List D) := fun env => (f env).bind fun x => x.hold.bind fun d => (r env).bind fun xs => .ok (d :: xs)
section
variable {K : PySem.W.Frag} {env : Ev} {σ : St} {G G' : Hp}
theorem ArgOk.mono {v : V} {x : Val} (h : ArgOk K env σ G v x) (s : Same G G') : ArgOk K env σ G' v x := by
  cases x with
  | pers d => exact Rep.mono s h
  | fresh ds => exact h
  | brw i ds => exact h
theorem ArgsOk.mono : ∀ {vs : List V} {xs : List Val}, ArgsOk K env σ G vs xs → Same G G' → ArgsOk K env σ G' vs xs
  | [], _, h, _ => h
  | v :: vs, xs, h, s => by
    obtain ⟨x, r, e, h1, h2⟩ := h
    exact ⟨x, r, e, h1.mono s, h2.mono s⟩
theorem argOk_of {val : Val} {v : V} {H H' : Hp} (g : Grow G H G' H') (l : Same G' H') (h : ValOk K H env σ G' H' v val) : ∃ G'', Grow G H G'' H' ∧ Same G'' H' ∧ ArgOk K env σ G'' v (frz val) := by
  cases val with
  | pers d => exact ⟨G', g, l, h⟩
  | brw i ds => exact ⟨G', g, l, h⟩
  | fresh ds => exact held g l h rfl
theorem ArgOk.opd {v : V} {x : Val} (h : ArgOk K env σ G v x) : Opd K env σ G v x.d := by
  cases x with
  | pers d => exact .inl h
  | fresh ds => exact h.elim
  | brw i ds => obtain ⟨a, e1, e2, e3⟩ := h; exact .inr ⟨i, ds, a, rfl, e1, e2, e3⟩
end
section
variable {X : Cx} {G₀ H₀ : Hp} {pos : Pos} {e : Expr} {es : List Expr} {f : FE} {r : Ev → Out (List Val)} {rh : Ev → Out (List D)}
theorem da_nil : DA X G₀ H₀ [] fNil := pa_nil.imp fun σ H Q q => by
  obtain ⟨env, G, vals, I, h, k⟩ := q
  cases h
  exact k [] G H (Grow.refl _ _) I.le rfl
theorem da_cons (he : DE X G₀ H₀ e f) (hr : DA X G₀ H₀ es r) (hs : starEach (e :: es) X.env = (false, eval e X.env) :: starEach es X.env := by rfl) : DA X G₀ H₀ (e :: es) (fCons f r) :=
  (pa_cons he hr hs).imp fun σ H Q q => by
    obtain ⟨env, G, vals, I, h, k⟩ := q
    obtain ⟨x, e1, h⟩ := bind_inv h
    obtain ⟨xs, e2, h⟩ := bind_inv h
    cases h
    refine ⟨env, G, x, I, e1, fun v G1 H1 g1 l1 o1 => ?_⟩
    obtain ⟨G2, g2, l2, a2⟩ := argOk_of g1 l1 o1
    exact ⟨env, G2, xs, I.grow g2 l2, e2, fun vs G3 H3 g3 l3 a3 => k (v :: vs) G3 H3 (g2.trans g3) l3 ⟨_, _, rfl, a2.mono g3.g, a3⟩⟩
theorem dh_nil : DH X G₀ H₀ [] hNil := pa_nil.imp fun σ H Q q => by
  obtain ⟨env, G, vals, I, h, k⟩ := q
  cases h
  exact k [] G H (Grow.refl _ _) I.le rfl
theorem dh_cons (he : DE X G₀ H₀ e f) (hr : DH X G₀ H₀ es rh) (hs : starEach (e :: es) X.env = (false, eval e X.env) :: starEach es X.env := by rfl) : DH X G₀ H₀ (e :: es) (hCons f rh) :=
  (pa_cons he hr hs).imp fun σ H Q q => by
    obtain ⟨env, G, vals, I, h, k⟩ := q
    obtain ⟨x, e1, h⟩ := bind_inv h
    obtain ⟨d, ed, h⟩ := bind_inv h
    obtain ⟨xs, e2, h⟩ := bind_inv h
    cases h
    refine ⟨env, G, x, I, e1, fun v G1 H1 g1 l1 o1 => ?_⟩
    obtain ⟨G2, g2, l2, a2⟩ := held g1 l1 o1 ed
    exact ⟨env, G2, xs, I.grow g2 l2, e2, fun vs G3 H3 g3 l3 a3 => k (v :: vs) G3 H3 (g2.trans g3) l3 (RepL.cons (a2.mono g3.g) a3)⟩
@[simp] def fTup (r : Ev → Out (List D)) : FE := fun env => (r env).bind fun ds => if ds.length ≤ 1000 then .ok (.pers (.tup ds)) else .bad
@[simp] def fLst (r : Ev → Out (List D)) : FE := fun env => (r env).bind fun ds => if ds.length ≤ 1000 then .ok (.fresh ds) else .bad
theorem de_tup {x1} (h : DH X G₀ H₀ es rh) : DE X G₀ H₀ (.Tuple es x1 pos) (fTup rh) := (pe_tup h).imp fun σ H Q q => by
  obtain ⟨env, G, val, I, e, k⟩ := q
  obtain ⟨ds, e1, e⟩ := bind_inv e
  split at e
  · rename_i hz
    cases e
    refine ⟨env, G, ds, I, e1, fun vs G1 H1 g1 l1 r1 => ⟨le_line (by rw [← r1.length]; omega), fun p hp => ?_⟩⟩
    have g := Grow.laidT (o := .tup vs) l1 hp
    exact k _ _ _ (g1.trans g.1) g.2 ((valTup l1 hp r1).base g1.h)
  · cases e
theorem de_lst (h : DH X G₀ H₀ es rh) : DE X G₀ H₀ (.List es pos) (fLst rh) := (pe_lst h).imp fun σ H Q q => by
  obtain ⟨env, G, val, I, e, k⟩ := q
  obtain ⟨ds, e1, e⟩ := bind_inv e
  split at e
  · rename_i hz
    cases e
    refine ⟨env, G, ds, I, e1, fun vs G1 H1 g1 l1 r1 => ⟨le_line (by rw [← r1.length]; omega), fun p hp => ?_⟩⟩
    have g := Grow.laidL (o := .lst vs) l1 hp
    exact k _ _ _ (g1.trans g.1) g.2 ((valFresh l1 hp r1).base g1.h)
  · cases e
end
def CallD (K : PySem.W.Frag) (r : List V → Hp → VK → Prop) (g : List D → Out Val) : Prop :=
  ∀ (G₀ H₀ : Hp) (env : Ev) (σ : St) (G H : Hp) (vs : List V) (xs : List Val) (val : Val) (Q : VK), DI K G₀ H₀ env σ G H → ArgsOk K env σ G vs xs → g (xs.map Val.d) = .ok val →
    (∀ w G' H', Grow G H G' H' → Same G' H' → ValOk K H env σ G' H' w val → Q w H') → r vs H Q
@[simp] def fB (g : List D → Out Val) (r : Ev → Out (List Val)) : FE := fun env => (r env).bind fun xs => g (xs.map Val.d)
section
variable {X : Cx} {G₀ H₀ : Hp} {x : Str} {p pos : Pos} {e : Expr} {es : List Expr} {f : Ev → Out (List Val)} {id T : String} {r : List V → Hp → VK → Prop} {g : List D → Out Val}
theorem impB (hd : CallD X.K r g) (σ : St) (H : Hp) (Q : VK) (q : tE X.K G₀ H₀ (fB g f) σ H Q) : tCB r (tA X.K G₀ H₀ f) σ H Q := by
  obtain ⟨env, G, val, I, e, k⟩ := q
  obtain ⟨xs, e1, e⟩ := bind_inv e
  exact ⟨env, G, xs, I, e1, fun vs G1 H1 g1 l1 a1 => hd G₀ H₀ env σ G1 H1 vs xs val Q (I.grow g1 l1) a1 e fun w G2 H2 g2 l2 h2 => k w G2 H2 (g1.trans g2) l2 (h2.base g1.h)⟩
theorem de_callB (hc : CallR X (.builtin id) r) (hd : CallD X.K r g) (hm : X.mg x = none) (hv : bootBuiltins x = some (.builtin id)) (ha : DA X G₀ H₀ (e :: es) f) (hg : Gl X x := by rfl) (hn : x ≠ "__name__" := by decide) (hdb : (x == ("__debug__" : Str)) = false := by decide)
    (he : starEach (e :: es) X.env = (false, eval e X.env) :: starEach es X.env := by rfl) (hpl : (backTo pos (starEach es X.env)).any (·.1) = false := by rfl) : DE X G₀ H₀ (.Call (.Name x p) (e :: es) [] pos) (fB g f) :=
  (pe_callB hc hg hm hv ha hn hdb he hpl).imp (impB hd)
theorem de_callT (hc : CallR X (.type T) r) (hd : CallD X.K r g) (hm : X.mg x = none) (hv : bootBuiltins x = some (.type T)) (ha : DA X G₀ H₀ (e :: es) f) (hg : Gl X x := by rfl) (hn : x ≠ "__name__" := by decide) (hdb : (x == ("__debug__" : Str)) = false := by decide)
    (he : starEach (e :: es) X.env = (false, eval e X.env) :: starEach es X.env := by rfl) (hpl : (backTo pos (starEach es X.env)).any (·.1) = false := by rfl) : DE X G₀ H₀ (.Call (.Name x p) (e :: es) [] pos) (fB g f) :=
  (pe_callTy hc hg hm hv ha hn hdb he hpl).imp (impB hd)
end
theorem args1 {K : PySem.W.Frag} {env : Ev} {σ : St} {G : Hp} {vs : List V} {xs : List Val} {d : D} (h : ArgsOk K env σ G vs xs) (e : xs.map Val.d = [d]) : ∃ v, vs = [v] ∧ Opd K env σ G v d := by
  cases vs with
  | nil => cases (show xs = [] from h); cases e
  | cons v vs =>
    obtain ⟨x, r, rfl, h1, h2⟩ := h
    simp only [List.map_cons, List.cons.injEq, List.map_eq_nil_iff] at e
    obtain ⟨rfl, rfl⟩ := e
    cases vs with
    | nil => exact ⟨v, rfl, h1.opd⟩
    | cons v' vs => obtain ⟨_, _, e, _⟩ := h2; cases e
@[simp] def gLen : List D → Out Val
  | [.lst ds] => .ok (.pers (.int ds.length))
  | [.tup ds] => .ok (.pers (.int ds.length))
  | [.scr ns] => .ok (.pers (.int ns.length))
  | _ => .bad
theorem cd_len {K : PySem.W.Frag} : CallD K (fun xs H Q => ∃ p ys, xs = [.ref p] ∧ (SqL K H p ys ∨ SqT K H p ys) ∧ Q (.int ys.length) H) gLen := by
  intro G₀ H₀ env σ G H vs xs val Q I a e k
  unfold gLen at e
  split at e
  · rename_i ds hx
    cases e
    obtain ⟨v, rfl, o⟩ := args1 a hx
    obtain ⟨p, us, rfl, h1, r1⟩ := Opd.lst I o
    refine ⟨p, us, rfl, .inl (SqL.of h1), ?_⟩
    rw [← r1.length]
    exact k _ G H (Grow.refl _ _) I.le rfl
  · rename_i ds hx
    cases e
    obtain ⟨v, rfl, o⟩ := args1 a hx
    obtain ⟨p, us, rfl, h1, r1⟩ := Opd.tup I o
    refine ⟨p, us, rfl, .inr (SqT.of h1), ?_⟩
    rw [← r1.length]
    exact k _ G H (Grow.refl _ _) I.le rfl
  · rename_i ns hx
    cases e
    obtain ⟨v, rfl, o⟩ := args1 a hx
    obtain ⟨p, rfl, h1⟩ := Opd.scr I o
    refine ⟨p, _, rfl, .inl h1, ?_⟩
    rw [List.length_map]
    exact k _ G H (Grow.refl _ _) I.le rfl
  · cases e
@[simp] def gList : List D → Out Val
  | [.lst ds] => .ok (.fresh ds)
  | [.tup ds] => .ok (.fresh ds)
  | _ => .bad
theorem cd_list {K : PySem.W.Frag} : CallD K (fun xs H Q => ∃ p ys, xs = [.ref p] ∧ (SqL K H p ys ∨ SqT K H p ys) ∧ ∀ l, H l = none → Q (.ref l) (upd H l (.lst ys))) gList := by
  intro G₀ H₀ env σ G H vs xs val Q I a e k
  unfold gList at e
  split at e
  · rename_i ds hx
    cases e
    obtain ⟨v, rfl, o⟩ := args1 a hx
    obtain ⟨p, us, rfl, h1, r1⟩ := Opd.lst I o
    refine ⟨p, us, rfl, .inl (SqL.of h1), fun l hl => ?_⟩
    have g := Grow.laidL (o := .lst us) I.le hl
    exact k _ G _ g.1 g.2 (valFresh I.le hl r1)
  · rename_i ds hx
    cases e
    obtain ⟨v, rfl, o⟩ := args1 a hx
    obtain ⟨p, us, rfl, h1, r1⟩ := Opd.tup I o
    refine ⟨p, us, rfl, .inr (SqT.of h1), fun l hl => ?_⟩
    have g := Grow.laidL (o := .lst us) I.le hl
    exact k _ G _ g.1 g.2 (valFresh I.le hl r1)
  · cases e
end DL
set_option Elab.async false
set_option linter.all false
set_option maxRecDepth 100000
set_option maxHeartbeats 4000000
namespace DL
open PySem PySem.Spec PyProof.Rows L2
@[simp] def trD : D → Out Bool
  | .non => .ok false
  | .bl b => .ok b
  | .int i => .ok (i != 0)
  | .lst ds => .ok (!ds.isEmpty)
  | .tup ds => .ok (!ds.isEmpty)
  | _ => .bad
@[simp] def fTr (f : FE) : FT := fun env => (f env).bind fun x => trD x.d
@[simp] def fTrB (f : FE) : FT := fun env => (f env).bind fun x => match x.d with
  | .bl b => .ok b
  | _ => .bad
@[simp] def fOr (f g : FT) : FT := fun env => (f env).bind fun c => if c = true then .ok true else g env
@[simp] def fNot (f : FT) : FT := fun env => (f env).bind fun c => .ok (!c)
theorem isEmpty_rep {K : PySem.W.Frag} {G : Hp} {ds : List D} {vs : List V} (r : RepL K G ds vs) : ds.isEmpty = vs.isEmpty := by
  have := r.length
  cases ds <;> cases vs <;> simp_all
section
variable {X : Cx} {G₀ H₀ : Hp} {pos : Pos} {a b : Expr} {fa fb : FE} {ft fu : FT} {rest : List Expr}
theorem dt_val (ha : DE X G₀ H₀ a fa) (he : ∀ whole, isTrue a X.env whole = (do let v ← whole; standAt a.pos; holding [v] (truthy v)) := by intro _; rfl) : DT X G₀ H₀ a (fTr fa) :=
  (pt_truth ha he).imp fun σ H Q q => by
    obtain ⟨env, G, c, I, e, k⟩ := q
    obtain ⟨x, e1, e⟩ := bind_inv e
    refine tE_one I e1 fun v G' H' g l I' o => ⟨c, ?_, k G' H' g l⟩
    unfold trD at e
    split at e
    · rename_i hd; rw [hd] at o; cases e; rw [o.non]; exact rfl
    · rename_i b hd; rw [hd] at o; cases e; rw [o.bl]; exact rfl
    · rename_i i hd; rw [hd] at o; cases e; rw [o.int]; exact rfl
    · rename_i ds hd; rw [hd] at o; cases e
      obtain ⟨p, vs, rfl, h1, r1⟩ := Opd.lst I' o
      exact .inl ⟨vs, SqL.of h1, by rw [isEmpty_rep r1]⟩
    · rename_i ds hd; rw [hd] at o; cases e
      obtain ⟨p, vs, rfl, h1, r1⟩ := Opd.tup I' o
      exact .inr (.inl ⟨vs, SqT.of h1, by rw [isEmpty_rep r1]⟩)
    · cases e
theorem tE_bool {f : FE} {K : PySem.W.Frag} {σ : St} {H : Hp} {Q : Bool → Hp → Prop} (q : tT K G₀ H₀ (fTrB f) σ H Q) : tE K G₀ H₀ f σ H fun x H' => ∃ k, x = .bl k ∧ Q k H' := by
  obtain ⟨env, G, c, I, e, k⟩ := q
  obtain ⟨x, e1, e⟩ := bind_inv e
  refine tE_one I e1 fun v G' H' g l I' o => ?_
  split at e
  · rename_i b hd
    cases e
    rw [hd] at o
    exact ⟨c, o.bl, k G' H' g l⟩
  · cases e
theorem dt_cmp {op : CmpOp} {r : R2} {g : D → D → Out Val} (ho : OpR X (compareOp op) r) (hd : OpD X.K r g) (ha : DE X G₀ H₀ a fa) (hb : DE X G₀ H₀ b fb) (hm : behindInMarks op b = false) : DT X G₀ H₀ (.Compare a [op] [b] pos) (fTrB (f2 g fa fb)) :=
  (pt_cmpR ho ha hb hm).imp fun σ H Q q => imp2 hd σ H _ (tE_bool q)
theorem dt_lt (ha : DE X G₀ H₀ a fa) (hb : DE X G₀ H₀ b fb) : DT X G₀ H₀ (.Compare a [.Lt] [b] pos) (fTrB (f2 gLt fa fb)) := dt_cmp op_lt od_intB ha hb (nomark _)
theorem dt_eq (hu : X.A.units + 20 < cLine) (ha : DE X G₀ H₀ a fa) (hb : DE X G₀ H₀ b fb) : DT X G₀ H₀ (.Compare a [.Eq] [b] pos) (fTrB (f2 gEq fa fb)) := dt_cmp (op_eqD hu) od_eq ha hb (nomark _)
theorem dt_ne (hu : X.A.units + 20 < cLine) (ha : DE X G₀ H₀ a fa) (hb : DE X G₀ H₀ b fb) : DT X G₀ H₀ (.Compare a [.NotEq] [b] pos) (fTrB (f2 gNe fa fb)) := dt_cmp (op_neD hu) od_ne ha hb (nomark _)
theorem dw_or1 (ha : DT X G₀ H₀ a ft) : DW X G₀ H₀ (.BoolOp .Or [a] pos) ft := pw_or1 ha
theorem dw_or (ha : DT X G₀ H₀ a ft) (hb : DW X G₀ H₀ (.BoolOp .Or (b :: rest) pos) fu) : DW X G₀ H₀ (.BoolOp .Or (a :: b :: rest) pos) (fOr ft fu) :=
  (pw_or ha hb).imp fun σ H Q q => by
    obtain ⟨env, G, c, I, e, k⟩ := q
    obtain ⟨x, e1, e⟩ := bind_inv e
    refine ⟨env, G, x, I, e1, fun G' H' g l => ?_⟩
    cases x with
    | true => cases e; exact k G' H' g l
    | false => exact ⟨env, G', c, I.grow g l, e, fun G2 H2 g2 l2 => k G2 H2 (g.trans g2) l2⟩
theorem dt_w (h : DW X G₀ H₀ a ft) : DT X G₀ H₀ a ft := PW.pt h
theorem dt_not (ha : DT X G₀ H₀ a ft) : DT X G₀ H₀ (.UnaryOp .Not a pos) (fNot ft) := (pt_not ha).imp fun σ H Q q => by
  obtain ⟨env, G, c, I, e, k⟩ := q
  obtain ⟨x, e1, e⟩ := bind_inv e
  cases e
  exact ⟨env, G, x, I, e1, fun G' H' g l => k G' H' g l⟩
@[simp] def fAndV (f g : FE) : FE := fun env => (f env).bind fun x => match x.d with
  | .bl true => g env
  | .bl false => .ok (.pers (.bl false))
  | _ => .bad
theorem de_one {op} (h : DE X G₀ H₀ a fa) : DE X G₀ H₀ (.BoolOp op [a] pos) fa := pe_one h
theorem de_and (ha : DE X G₀ H₀ a fa) (hb : DE X G₀ H₀ (.BoolOp .And (b :: rest) pos) fb) : DE X G₀ H₀ (.BoolOp .And (a :: b :: rest) pos) (fAndV fa fb) :=
  (pe_and ha hb).imp fun σ H Q q => by
    obtain ⟨env, G, val, I, e, k⟩ := q
    obtain ⟨x, e1, e⟩ := bind_inv e
    refine tE_one I e1 fun v G' H' g l I' o => ?_
    split at e
    · rename_i hd; rw [hd] at o
      exact ⟨true, o.bl, iteT ⟨env, G', val, I', e, fun w G2 H2 g2 l2 h2 => k w G2 H2 (g.trans g2) l2 (h2.base g.h)⟩⟩
    · rename_i hd; rw [hd] at o; cases e
      exact ⟨false, o.bl, iteF (k _ G' H' g l rfl)⟩
    · cases e
end
theorem getSet_eq {α : Type} {l : List α} {i : Nat} {x s : α} (h : (l.set i x)[i]? = some s) : s = x ∧ i < l.length := by
  rw [List.getElem?_set] at h
  simp at h
  exact ⟨h.2.symm, h.1⟩
section
variable {K : PySem.W.Frag} {G₀ H₀ G H : Hp} {env : Ev} {σ : St}
theorem DI.setP (I : DI K G₀ H₀ env σ G H) {d : D} {v : V} (i : Nat) (r : Rep K G d v) : DI K G₀ H₀ (env.set i (.pers d)) (σ.set i (some v)) G H where
  le := I.le
  gr := I.gr
  len := by simp [I.len]
  slot := fun j s e => by
    by_cases hj : i = j
    · subst hj
      obtain ⟨rfl, hl⟩ := getSet_eq e
      exact ⟨v, by rw [List.getElem?_set]; simp [I.len ▸ hl], r⟩
    · rw [List.getElem?_set_ne hj] at e
      have q := I.slot j s e
      cases s with
      | un => trivial
      | pers d' => obtain ⟨u, h1, h2⟩ := q; exact ⟨u, by rw [List.getElem?_set_ne hj]; exact h1, h2⟩
      | own ds => obtain ⟨a, vs, o⟩ := q; exact ⟨a, vs, by rw [List.getElem?_set_ne hj]; exact o.at_, o.hp, o.gn, o.new, o.rep⟩
  apart := fun j k ds es a hjk e1 e2 s1 s2 => by
    have nj : i ≠ j := fun z => by subst z; cases (getSet_eq e1).1
    have nk : i ≠ k := fun z => by subst z; cases (getSet_eq e2).1
    rw [List.getElem?_set_ne nj] at e1 s1
    rw [List.getElem?_set_ne nk] at e2 s2
    exact I.apart j k ds es a hjk e1 e2 s1 s2
theorem DI.setO (I : DI K G₀ H₀ env σ G H) {ds : List D} {vs : List V} {a : Addr} (i : Nat) (ha : H a = some (.lst vs)) (hg : G a = none) (h0 : H₀ a = none) (r : RepL K G ds vs)
    (ne : ∀ (j : Nat) (es : List D), env[j]? = some (.own es) → σ[j]? ≠ some (some (.ref a))) : DI K G₀ H₀ (env.set i (.own ds)) (σ.set i (some (.ref a))) G H where
  le := I.le
  gr := I.gr
  len := by simp [I.len]
  slot := fun j s e => by
    by_cases hj : i = j
    · subst hj
      obtain ⟨rfl, hl⟩ := getSet_eq e
      exact ⟨a, vs, by rw [List.getElem?_set]; simp [I.len ▸ hl], ha, hg, h0, r⟩
    · rw [List.getElem?_set_ne hj] at e
      have q := I.slot j s e
      cases s with
      | un => trivial
      | pers d' => obtain ⟨u, h1, h2⟩ := q; exact ⟨u, by rw [List.getElem?_set_ne hj]; exact h1, h2⟩
      | own ds => obtain ⟨a, vs, o⟩ := q; exact ⟨a, vs, by rw [List.getElem?_set_ne hj]; exact o.at_, o.hp, o.gn, o.new, o.rep⟩
  apart := fun j k ds' es b hjk e1 e2 s1 s2 => by
    by_cases hj : i = j
    · subst hj
      have hl := (getSet_eq e1).2
      rw [List.getElem?_set] at s1
      simp [I.len ▸ hl] at s1
      subst s1
      rw [List.getElem?_set_ne hjk] at e2 s2
      exact ne k es e2 s2
    · by_cases hk : i = k
      · subst hk
        have hl := (getSet_eq e2).2
        rw [List.getElem?_set] at s2
        simp [I.len ▸ hl] at s2
        subst s2
        rw [List.getElem?_set_ne hj] at e1 s1
        exact ne j ds' e1 s1
      · rw [List.getElem?_set_ne hj] at e1 s1
        rw [List.getElem?_set_ne hk] at e2 s2
        exact I.apart j k ds' es b hjk e1 e2 s1 s2
theorem DI.mut (I : DI K G₀ H₀ env σ G H) {i : Nat} {ds ds' : List D} {a : Addr} {vs vs' : List V} (e : env[i]? = some (.own ds)) (o : SlotOwn K H₀ σ G H i ds a vs) (r : RepL K G ds' vs') :
    DI K G₀ H₀ (env.set i (.own ds')) σ G (upd H a (.lst vs')) where
  le := fun b u q => by rw [upd_ne (ne_of_none q o.gn)]; exact I.le b u q
  gr := ⟨I.gr.g, fun b u q => by rw [upd_ne (ne_of_none q o.new)]; exact I.gr.h b u q, I.gr.n⟩
  len := by simp [I.len]
  slot := fun j s e' => by
    by_cases hj : i = j
    · subst hj
      obtain ⟨rfl, hl⟩ := getSet_eq e'
      exact ⟨a, vs', o.at_, upd_same, o.gn, o.new, r⟩
    · rw [List.getElem?_set_ne hj] at e'
      have q := I.slot j s e'
      cases s with
      | un => trivial
      | pers d' => exact q
      | own es =>
        obtain ⟨b, us, p⟩ := q
        have hb : b ≠ a := fun z => by subst z; exact I.apart i j ds es b hj e e' o.at_ p.at_
        exact ⟨b, us, p.at_, by rw [upd_ne hb]; exact p.hp, p.gn, p.new, p.rep⟩
  apart := fun j k ds' es b hjk e1 e2 s1 s2 => by
    have h1 : ∃ ds1, env[j]? = some (.own ds1) := by
      by_cases hj : i = j
      · subst hj; exact ⟨_, e⟩
      · rw [List.getElem?_set_ne hj] at e1; exact ⟨_, e1⟩
    have h2 : ∃ ds1, env[k]? = some (.own ds1) := by
      by_cases hk : i = k
      · subst hk; exact ⟨_, e⟩
      · rw [List.getElem?_set_ne hk] at e2; exact ⟨_, e2⟩
    obtain ⟨x1, h1⟩ := h1
    obtain ⟨x2, h2⟩ := h2
    exact I.apart j k x1 x2 b hjk h1 h2 s1 s2
end
theorem EndOk.mono {K : PySem.W.Frag} {G₀ H₀ G G' : Hp} {D : Ends} {r : Res} (h : EndOk K G₀ H₀ G D r) (s : Same G G') : EndOk K G₀ H₀ G' D r := by
  cases r with
  | next env => exact fun σ' G2 H2 s2 I2 => h σ' G2 H2 (s.trans s2) I2
  | ret v => exact h
@[simp] def setS (i : Nat) (fz : Bool) (f : FE) : FS := fun env => (f env).bind fun x => match x with
  | .pers d => .ok (.next (env.set i (.pers d)))
  | .fresh ds => .ok (.next (env.set i (if fz then .pers (.lst ds) else .own ds)))
  | .brw _ _ => .bad
section
variable {K : PySem.W.Frag} {G₀ H₀ : Hp}
theorem store_imp {i : Nat} {fz : Bool} {f : FE} {D : Ends} {σ : St} {H : Hp} (q : tS K G₀ H₀ (setS i fz f) D σ H) : tE K G₀ H₀ f σ H fun x H1 => D.nx (σ.set i (some x)) H1 := by
  obtain ⟨env, G, r, I, e, k⟩ := q
  obtain ⟨x, e1, e⟩ := bind_inv e
  refine ⟨env, G, x, I, e1, fun v G' H' g l h => ?_⟩
  have I' := I.grow g l
  cases x with
  | pers d =>
    cases e
    exact k _ G' H' g.g (I'.setP i h)
  | brw j ds => cases e
  | fresh ds =>
    cases e
    cases fz with
    | true =>
      obtain ⟨G2, g2, l2, h2⟩ := held g l h rfl
      exact k _ G2 H' g2.g ((I.grow g2 l2).setP i h2)
    | false =>
      obtain ⟨a, vs, rfl, h1, h2, h3, h4⟩ := h
      refine k _ G' H' g.g (I'.setO i h2 h3 (I.gr.h.free h1) h4 fun j es e2 s2 => ?_)
      obtain ⟨b, us, o⟩ := I.own e2
      have z := o.at_
      rw [s2] at z
      cases z
      have z := o.hp
      rw [h1] at z
      cases z
end
section
variable {X : Cx} {G₀ H₀ : Hp} {pos : Pos}
theorem ds_set {i : Nat} {x : Str} {e : Expr} {f : FE} {pos' : Pos} (fz : Bool) (hN : X.N.Nodup) (he : DE X G₀ H₀ e f) (hi : X.N[i]? = some x := by rfl) (hx : Loc X.env.scope x := by first | exact Or.inl rfl | exact Or.inr rfl)
    (hs : swapsWith e (some (.Name x pos')) pos.line X.env = pure false := by rfl) (hf : X.fn x = true ∨ X.env.scope.names.lookup x = some .local := by first | exact .inl rfl | exact .inr rfl) :
    DS X G₀ H₀ (.Assign [.Name x pos'] e pos) (setS i fz f) := (ps_set hN hi hx he hs hf).imp fun D σ H q => store_imp q
end
def tG (K : PySem.W.Frag) (G₀ H₀ : Hp) (g : D → Ev → Out Ev) : TG := fun v σ H Q => ∃ env G d env', DI K G₀ H₀ env σ G H ∧ Rep K G d v ∧ g d env = .ok env' ∧ ∀ σ', DI K G₀ H₀ env' σ' G H → Q σ' H
def DG (X : Cx) (G₀ H₀ : Hp) (tg : Expr) (g : D → Ev → Out Ev) : Prop := PG X tg (tG X.K G₀ H₀ g)
@[simp] def gN (i : Nat) : D → Ev → Out Ev := fun d env => .ok (env.set i (.pers d))
section
variable {X : Cx} {G₀ H₀ : Hp} {pos : Pos}
theorem dg_name {i : Nat} {x : Str} (hN : X.N.Nodup) (hi : X.N[i]? = some x := by rfl) (hx : Loc X.env.scope x := by first | exact Or.inl rfl | exact Or.inr rfl) (hf : X.fn x = true ∨ X.env.scope.names.lookup x = some .local := by first | exact .inl rfl | exact .inr rfl) :
    DG X G₀ H₀ (.Name x pos) (gN i) := fun pins s σ H v u Q I r q => pg_name hN hi hx hf pins s σ H v u Q I r (by
  obtain ⟨env, G, d, env', J, h, e, k⟩ := q
  cases e
  exact k _ (J.setP i h))
end
@[simp] def retS (f : FE) : FS := fun env => (f env).bind fun x => match x with
  | .brw _ ds => .ok (.ret (.fresh ds))
  | x => .ok (.ret x)
@[simp] def nxtS : FS := fun env => .ok (.next env)
@[simp] def ifS (ft : FT) (f g : FS) : FS := fun env => (ft env).bind fun c => if c = true then f env else g env
@[simp] def seqS (f g : FS) : FS := fun env => (f env).bind fun r => match r with
  | .next env' => g env'
  | .ret v => .ok (.ret v)
section
variable {X : Cx} {G₀ H₀ : Hp} {pos : Pos}
theorem ds_ret {e : Expr} {f : FE} (he : DE X G₀ H₀ e f) : DS X G₀ H₀ (.Return (some e) pos) (retS f) := (ps_ret he).imp fun D σ H q => by
  obtain ⟨env, G, r, I, e, k⟩ := q
  obtain ⟨x, e1, e⟩ := bind_inv e
  refine ⟨env, G, x, I, e1, fun v G' H' g l h => ?_⟩
  cases x with
  | pers d => cases e; exact k v G' H' (I.gr.trans g) l h
  | fresh ds =>
    cases e
    obtain ⟨a, vs, rfl, h1, h2⟩ := h
    exact k _ G' H' (I.gr.trans g) l ⟨a, vs, rfl, I.gr.h.free h1, h2⟩
  | brw i ds =>
    cases e
    obtain ⟨a, rfl, e2, e3⟩ := h
    obtain ⟨b, vs, o⟩ := (I.grow g l).own e2
    have z := o.at_
    rw [e3] at z
    cases z
    exact k _ G' H' (I.gr.trans g) l ⟨a, vs, rfl, o.new, o.hp, o.gn, o.rep⟩
theorem ds_if {c : Expr} {a b : List Stmt} {ft : FT} {f g : FS} (hc : DT X G₀ H₀ c ft) (ha : DSs X G₀ H₀ a f) (hb : DSs X G₀ H₀ b g) : DS X G₀ H₀ (.If c a b pos) (ifS ft f g) := (ps_if hc ha hb).imp fun D σ H q => by
  obtain ⟨env, G, r, I, e, k⟩ := q
  obtain ⟨x, e1, e⟩ := bind_inv e
  refine ⟨env, G, x, I, e1, fun G' H' g l => ?_⟩
  cases x with
  | true => exact iteT ⟨env, G', r, I.grow g l, e, k.mono g.g⟩
  | false => exact iteF ⟨env, G', r, I.grow g l, e, k.mono g.g⟩
theorem dss_nil : DSs X G₀ H₀ [] nxtS := pss_nil.imp fun D σ H q => by
  obtain ⟨env, G, r, I, e, k⟩ := q
  cases e
  exact k σ G H (Same.refl _) I
theorem dss_cons {st : Stmt} {rest : List Stmt} {f g : FS} (h1 : DS X G₀ H₀ st f) (h2 : DSs X G₀ H₀ rest g) : DSs X G₀ H₀ (st :: rest) (seqS f g) := (pss_cons h1 h2).imp fun D σ H q => by
  obtain ⟨env, G, r, I, e, k⟩ := q
  obtain ⟨x, e1, e⟩ := bind_inv e
  refine ⟨env, G, x, I, e1, ?_⟩
  cases x with
  | next env' => exact fun σ' G' H' s I' => ⟨env', G', r, I', e, k.mono s⟩
  | ret v => cases e; exact k
theorem dss_one {st : Stmt} {f : FS} (h1 : DS X G₀ H₀ st f) : DSs X G₀ H₀ [st] f := pss_one h1
theorem ds_never {st : Stmt} : DS X G₀ H₀ st (fun _ => .bad) := fun pins s σ H D I q => by
  obtain ⟨env, G, r, I, e, k⟩ := q
  cases e
end
@[simp] def appS (i : Nat) (f : FE) : FS := fun env => match env[i]? with
  | some (.own ds) => if ds.length < 100000 then (f env).bind fun x => x.hold.bind fun d => .ok (.next (env.set i (.own (ds ++ [d])))) else .bad
  | _ => .bad
@[simp] def clrS (i : Nat) : FS := fun env => match env[i]? with
  | some (.own _) => .ok (.next (env.set i (.own [])))
  | _ => .bad
@[simp] def putS (i : Nat) (fk f : FE) : FS := fun env => match env[i]? with
  | some (.own ds) => (f env).bind fun x => x.hold.bind fun d => (fk env).bind fun y => match y.d with
    | .int k => match ixN ds.length k with
      | some j => .ok (.next (env.set i (.own (ds.set j d))))
      | none => .bad
    | _ => .bad
  | _ => .bad
section
variable {X : Cx} {G₀ H₀ : Hp} {pos p1 apos cpos : Pos} {i : Nat} {x : Str} {e : Expr} {f : FE}
theorem ds_append (hv : PE X (.Name x p1) (tVar i)) (he : DE X G₀ H₀ e f) (hfew : ((backTo cpos (starEach [e] X.env)).all (fun x => !x.1) && (backToKw cpos (keywordEach [] X.env)).all (fun x => x.1.isSome)
      && decide ([e].length + ([] : List Keyword).length + (if ([] : List Keyword).isEmpty then 0 else 1) < 30)) = true := by rfl)
    (hline : (apos.endLine == cpos.line) = true := by rfl) (hs : starEach [e] X.env = [(false, eval e X.env)] := by rfl) :
    DS X G₀ H₀ (.Expr (.Call (.Attribute (.Name x p1) "append" apos) [e] [] cpos) pos) (appS i f) :=
  (ps_expr (pe_bm PySem.F.plainAttrs_list PySem.F.slot_list_append PySem.F.type_list_append mt_append hv (pa_cons he pa_nil hs) rfl hfew hline hs rfl) rfl).imp fun D σ H q => by
    obtain ⟨env, G, r, I, e, k⟩ := q
    unfold appS at e
    split at e
    · rename_i ds hd
      split at e
      · rename_i hz
        obtain ⟨y, e1, e⟩ := bind_inv e
        obtain ⟨d, e2, e⟩ := bind_inv e
        cases e
        obtain ⟨a, vs, o⟩ := I.own hd
        refine ⟨.ref a, o.at_, .inl ⟨rfl, vs, SqL.of o.hp⟩, env, G, y, I, e1, fun v G' H' g l h => ?_⟩
        obtain ⟨G2, g2, l2, h2⟩ := held g l h e2
        have I2 := I.grow g2 l2
        obtain ⟨b, us, o2⟩ := I2.own hd
        have z := o2.at_
        rw [o.at_] at z
        cases z
        exact ⟨a, us, v, rfl, rfl, o2.hp, by rw [← o2.rep.length, sizeLine_eq]; omega, k σ G2 _ g2.g (I2.mut hd o2 (o2.rep.append (RepL.cons h2 RepL.nil)))⟩
      · cases e
    · cases e
theorem ds_clear (hv : PE X (.Name x p1) (tVar i)) (hline : (apos.endLine == cpos.line) = true := by rfl) :
    DS X G₀ H₀ (.Expr (.Call (.Attribute (.Name x p1) "clear" apos) [] [] cpos) pos) (clrS i) :=
  (ps_expr (pe_bm0 PySem.F.plainAttrs_list PySem.F.slot_list_clear PySem.F.type_list_clear mt_clear hv rfl hline) rfl).imp fun D σ H q => by
    obtain ⟨env, G, r, I, e, k⟩ := q
    unfold clrS at e
    split at e
    · rename_i ds hd
      cases e
      obtain ⟨a, vs, o⟩ := I.own hd
      exact ⟨.ref a, o.at_, .inl ⟨rfl, vs, SqL.of o.hp⟩, a, vs, rfl, rfl, o.hp, k σ G _ (Same.refl _) (I.mut hd o RepL.nil)⟩
    · cases e
theorem ds_put {tpos : Pos} {ek : Expr} {fk : FE} (hv : PE X (.Name x p1) (tVar i)) (hk : DE X G₀ H₀ ek fk) (he : DE X G₀ H₀ e f)
    (ha : ∀ v, assign (.Subscript (.Name x p1) ek tpos) X.env v = (do
      let ov ← holding [v] (eval (.Name x p1) X.env)
      let iv ← holding [v, ov] (eval ek X.env)
      standAt tpos
      holding [v, ov, iv] (setItem ov iv v)
      release [v, ov, iv] []) := by intro _; rfl)
    (hs : swapsWithSole [.Subscript (.Name x p1) ek tpos] e pos.line X.env = pure false := by rfl) (hw : swappedStores [.Subscript (.Name x p1) ek tpos] e X.env = pure none := by rfl)
    (h1 : (assignEach [.Subscript (.Name x p1) ek tpos] X.env).map (·.2) = [assign (.Subscript (.Name x p1) ek tpos) X.env] := by rfl) :
    DS X G₀ H₀ (.Assign [.Subscript (.Name x p1) ek tpos] e pos) (putS i fk f) :=
  (ps_asg he (pg_sub hv hk set_list ha) hs hw h1).imp fun D σ H q => by
    obtain ⟨env, G, r, I, e, k⟩ := q
    unfold putS at e
    split at e
    · rename_i ds hd
      obtain ⟨y, e1, e⟩ := bind_inv e
      obtain ⟨d, e2, e⟩ := bind_inv e
      obtain ⟨z, e3, e⟩ := bind_inv e
      split at e
      · rename_i kk hkk
        split at e
        · rename_i j hj
          cases e
          refine ⟨env, G, y, I, e1, fun v G' H' g l h => ?_⟩
          obtain ⟨G2, g2, l2, h2⟩ := held g l h e2
          have I2 := I.grow g2 l2
          obtain ⟨b, us, o2⟩ := I2.own hd
          refine ⟨.ref b, o2.at_, tE_one I2 e3 fun w G3 H3 g3 l3 I3 o3 => ?_⟩
          rw [hkk] at o3
          obtain ⟨c, ws, o4⟩ := I3.own hd
          have z := o4.at_
          rw [o2.at_] at z
          cases z
          exact ⟨b, ws, kk, j, rfl, o3.int, o4.hp, by rw [← o4.rep.length]; exact hj, k σ G3 _ (g2.g.trans g3.g) (I3.mut hd o4 (o4.rep.set (h2.mono g3.g) j))⟩
        · cases e
      · cases e
    · cases e
end
structure JOk (K : PySem.W.Frag) (J : It) (G : Hp) (ds : List D) : Prop where
  go : ∀ i G' H', Same G G' → Same G' H' → i < ds.length → J.go i H'
  stop : ∀ i G' H', Same G G' → Same G' H' → ds.length ≤ i → J.stop i H'
  yld : ∀ i G' H' x H1, Same G G' → Same G' H' → i < ds.length → J.yld i H' x H1 → ∃ d G1, ds[i]? = some d ∧ Grow G' H' G1 H1 ∧ Same G1 H1 ∧ Rep K G1 d x
theorem JOk.mono {K : PySem.W.Frag} {J : It} {G G' : Hp} {ds : List D} (h : JOk K J G ds) (s : Same G G') : JOk K J G' ds :=
  ⟨fun i G2 H2 s2 l2 hi => h.go i G2 H2 (s.trans s2) l2 hi, fun i G2 H2 s2 l2 hi => h.stop i G2 H2 (s.trans s2) l2 hi, fun i G2 H2 x H1 s2 l2 hi => h.yld i G2 H2 x H1 (s.trans s2) l2 hi⟩
abbrev FI := Ev → Out (List D)
def tI (K : PySem.W.Frag) (G₀ H₀ : Hp) (f : FI) : TI := fun σ H R => ∃ env G ds, DI K G₀ H₀ env σ G H ∧ f env = .ok ds ∧ ∀ J G' H', Grow G H G' H' → Same G' H' → JOk K J G' ds → R J H'
def DIt (X : Cx) (G₀ H₀ : Hp) (tg iter : Expr) (f : FI) : Prop := PI X tg iter (tI X.K G₀ H₀ f)
theorem _root_.L2.PI.imp {X : Cx} {tg e : Expr} {t t' : TI} (h : PI X tg e t) (i : ∀ σ H Q, t' σ H Q → t σ H Q) : PI X tg e t' := fun pins s σ H Q I q => h pins s σ H Q I (i σ H Q q)
def rngD (lo : Int) (n : Nat) : List D := (List.range n).map fun (i : Nat) => .int (lo + i)
@[simp] def fRng1 (f : Ev → Out (List Val)) : FI := fun env => (f env).bind fun xs => match xs.map Val.d with
  | [.int j] => if -1000000 ≤ j ∧ j ≤ 1000000 then .ok (rngD 0 j.toNat) else .bad
  | _ => .bad
theorem jok_range {K : PySem.W.Frag} {G : Hp} (lo : Int) (n : Nat) : JOk K (Itr lo n) G (rngD lo n) where
  go := fun i G' H' s l hi => by have h : i < n := by simpa [rngD] using hi
                                 exact h
  stop := fun i G' H' s l hi => by have h : n ≤ i := by simpa [rngD] using hi
                                   exact h
  yld := fun i G' H' x H1 s l hi y => by
    obtain ⟨e, y⟩ := y
    subst e
    have hi' : i < n := by simpa [rngD] using hi
    exact ⟨.int (lo + i), G', by simp [rngD, hi'], Grow.refl _ _, l, y⟩
section
variable {X : Cx} {G₀ H₀ : Hp} {tg : Expr}
theorem di_range1 {a : Expr} {f : Ev → Out (List Val)} {p pos : Pos} (hm : X.mg "range" = none) (ha : DA X G₀ H₀ [a] f) (hg : Gl X "range" := by rfl) (hs : starEach [a] X.env = [(false, eval a X.env)] := by rfl) :
    DIt X G₀ H₀ tg (.Call (.Name "range" p) [a] [] pos) (fRng1 f) := (pi_range1 hg hm ha hs).imp fun σ H R q => by
  obtain ⟨env, G, ds, I, e, k⟩ := q
  obtain ⟨xs, e1, e⟩ := bind_inv e
  refine ⟨env, G, xs, I, e1, fun vs G' H' g l h => ?_⟩
  split at e
  · rename_i j hj
    split at e
    · rename_i hb
      cases e
      obtain ⟨v, rfl, o⟩ := args1 h hj
      exact ⟨j, by rw [o.int], by omega, by omega, k _ G' H' g l (jok_range 0 _)⟩
    · cases e
  · cases e
end
def forD (g : D → Ev → Out Ev) (fb : FS) : List D → Ev → Out Res
  | [], env => .ok (.next env)
  | d :: ds, env => (g d env).bind fun env1 => (fb env1).bind fun r => match r with
    | .next env2 => forD g fb ds env2
    | .ret v => .ok (.ret v)
@[simp] def forS (fi : FI) (g : D → Ev → Out Ev) (fb : FS) : FS := fun env => (fi env).bind fun ds => forD g fb ds env
section
variable {X : Cx} {G₀ H₀ : Hp} {tg : Expr} {pos : Pos}
theorem ds_for {iter : Expr} {body : List Stmt} {fi : FI} {g : D → Ev → Out Ev} {fb : FS} (hp : PassesOwn (model X.prog X.w) X.A X.env X.xe) (hi : DIt X G₀ H₀ tg iter fi) (hg : DG X G₀ H₀ tg g) (hb : DSs X G₀ H₀ body fb) (hc : X.calm = true := by rfl)
    (hs : ∀ x, foldedSetIterable iter X.env x = pure x := by intro _; rfl) : DS X G₀ H₀ (.For tg iter body [] pos) (forS fi g fb) := (ps_for hp hc hi hg hb hs).imp fun D σ H q => by
  obtain ⟨env, G, r, I, e, k⟩ := q
  obtain ⟨ds, e1, e⟩ := bind_inv e
  refine ⟨env, G, ds, I, e1, fun J G1 H1 g1 l1 jok => ?_⟩
  refine ⟨fun i m σ H => m = ds.length - i ∧ i ≤ ds.length ∧ ∃ env' G', Same G1 G' ∧ DI X.K G₀ H₀ env' σ G' H ∧ forD g fb (ds.drop i) env' = .ok r, ⟨ds.length, by simp, Nat.zero_le _, env, G1, Same.refl _, I.grow g1 l1, by simpa using e⟩, ?_⟩
  rintro i m σ' H' ⟨rfl, hi', env', G', s', I', e'⟩
  by_cases hlt : i < ds.length
  · have hd : ds.drop i = ds[i] :: ds.drop (i + 1) := List.drop_eq_getElem_cons hlt
    rw [hd] at e'
    obtain ⟨env1, e2, e'⟩ := bind_inv e'
    obtain ⟨r1, e3, e'⟩ := bind_inv e'
    refine .inr ⟨jok.go i G' H' s' I'.le hlt, fun σ2 H2 => ∃ env2 G2, Same G1 G2 ∧ DI X.K G₀ H₀ env2 σ2 G2 H2 ∧ forD g fb (ds.drop (i + 1)) env2 = .ok r, fun σ2 H2 ⟨env2, G2, s2, I2, e2⟩ => ⟨ds.length - (i + 1), by omega, rfl, hlt, env2, G2, s2, I2, e2⟩, fun x H2 y => ?_⟩
    obtain ⟨d, G2, hd2, g2, l2, r2⟩ := jok.yld i G' H' x H2 s' I'.le hlt y
    have hde : d = ds[i] := by rw [List.getElem?_eq_getElem hlt] at hd2; exact (Option.some.inj hd2).symm
    subst hde
    refine ⟨env', G2, _, env1, I'.grow g2 l2, r2, e2, fun σ2 I2 => ⟨env1, G2, r1, I2, e3, ?_⟩⟩
    cases r1 with
    | next env2 => exact fun σ3 G3 H3 s3 I3 => ⟨env2, G3, (s'.trans g2.g).trans s3, I3, e'⟩
    | ret v => cases e'; exact k
  · have hi2 : i = ds.length := by omega
    subst hi2
    rw [List.drop_length] at e'
    cases e'
    exact .inl ⟨jok.stop _ G' H' s' I'.le (Nat.le_refl _), k σ' G' H' (g1.g.trans s') I'⟩
end
def spD (K : PySem.W.Frag) (m : List D → Out Val) (n : Nat) : Sp := fun vs H Q _ => ∃ G ds val, ds.length = n ∧ Same G H ∧ RepL K G ds vs ∧ m ds = .ok val ∧
  ∀ v G' H', Grow G H G' H' → Same G' H' → ValOk K H [] [] G' H' v val → Q v H'
@[simp] def runD (n : Nat) (f : FS) (ds : List D) : Out Val := (f (ds.map Slot.pers ++ List.replicate (n - ds.length) .un)).bind fun r => match r with
  | .ret v => .ok v
  | .next _ => .ok (.pers .non)
theorem start_DI {K : PySem.W.Frag} {G H : Hp} {ds : List D} {vs : List V} {N : List Str} (l : Same G H) (r : RepL K G ds vs) (hl : ds.length ≤ N.length) :
    DI K G H (ds.map Slot.pers ++ List.replicate (N.length - ds.length) .un) (L2.start N vs) G H where
  le := l
  gr := Grow.refl _ _
  len := by unfold L2.start; simp [r.length]
  slot := fun i s e => by
    by_cases hi : i < ds.length
    · rw [List.getElem?_append_left (by simpa using hi), List.getElem?_map, List.getElem?_eq_getElem hi] at e
      cases e
      obtain ⟨v, h1, h2⟩ := r.get (List.getElem?_eq_getElem hi)
      refine ⟨v, ?_, h2⟩
      unfold L2.start
      rw [List.getElem?_append_left (by simp [← r.length, hi]), List.getElem?_map, h1]
      rfl
    · rw [List.getElem?_append_right (by simpa using hi), List.getElem?_replicate] at e
      split at e
      · cases e; trivial
      · cases e
  apart := fun i j es fs a _ e _ _ _ => by
    by_cases hi : i < ds.length
    · rw [List.getElem?_append_left (by simpa using hi), List.getElem?_map, List.getElem?_eq_getElem hi] at e
      cases e
    · rw [List.getElem?_append_right (by simpa using hi), List.getElem?_replicate] at e
      split at e <;> cases e
theorem fn_ok {P : Program} {w : World} {K : PySem.W.Frag} {mg : Str → Option Value} {base : Heap} {x qual : Str} {st : Stmt} {f : Addr} {fd : FuncData} {N ps : List Str} {k : Nat} {fb : FS} (F : Fun K x qual st f fd) (S : FnScope N ps (defScope st))
    (hb : ∀ (cdv : Value) (A : Around) (outer : List Env) (s : Shared) (G H : Hp) (E : XK), Room k (A.deeper (envOfC qual (defScope st) s.heap.objs.size f cdv)) →
      DSs (cxOf CX0 P w K mg base N qual (defScope st) f cdv A outer s H E).nox G H (defBody st) fb) : FnOk P w K mg base CX0 (k + 1) f fd ps (spD K (runD N.length fb) ps.length) := by
  have hpl : ps.length ≤ N.length := by have := congrArg List.length S.pre; rw [List.length_take] at this; omega
  refine F.ok S (fun vs H Q E h => ?_) fun cdv A outer s H vs Q E hr h => ?_
  · obtain ⟨G, ds, val, hl, _, r, _⟩ := h
    rw [← r.length]; exact hl
  · obtain ⟨G, ds, val, hl, l, r, hm, k'⟩ := h
    refine ⟨_, hb cdv A outer s G H E hr, ?_⟩
    obtain ⟨r', e1, e2⟩ := bind_inv hm
    refine ⟨_, G, r', start_DI l r (by omega), e1, ?_⟩
    cases r' with
    | next env => cases e2; exact fun σ' G' H' s' I' => k' _ G' H' I'.gr I'.le rfl
    | ret v => cases e2; exact fun v' G' H' g' l' h' => k' v' G' H' g' l' h'
mutual
def noLst : D → Bool
  | .tup ds => noLstL ds
  | .lst _ => false
  | .scr _ => false
  | .exc _ _ => false
  | _ => true
def noLstL : List D → Bool
  | [] => true
  | d :: ds => noLst d && noLstL ds
end
@[simp] def Val.calm : Val → Bool
  | .pers d => noLst d
  | .fresh ds => noLstL ds
  | .brw _ _ => false
@[simp] def Val.isPers : Val → Bool
  | .pers _ => true
  | _ => false
@[simp] def callG (m : List D → Out Val) (xs : List Val) : Out Val := (m (xs.map Val.d)).bind fun v => if (xs.all Val.isPers || v.calm) = true then .ok v else .bad
@[simp] def fCall (m : List D → Out Val) (r : Ev → Out (List Val)) : FE := fun env => (r env).bind fun xs => callG m xs
theorem argsRep {K : PySem.W.Frag} {env : Ev} {σ : St} {G : Hp} : ∀ {vs : List V} {xs : List Val}, ArgsOk K env σ G vs xs → xs.all Val.isPers = true → RepL K G (xs.map Val.d) vs
  | [], xs, h, _ => by cases (show xs = [] from h); rfl
  | v :: vs, xs, h, hp => by
    obtain ⟨x, r, rfl, h1, h2⟩ := h
    rw [List.all_cons, Bool.and_eq_true] at hp
    cases x with
    | pers d => exact RepL.cons h1 (argsRep h2 hp.2)
    | fresh ds => cases hp.1
    | brw i ds => cases hp.1
def lentAt (env : Ev) (σ : St) (b : Addr) : Prop := ∃ (i : Nat) (ds : List D), env[i]? = some (.own ds) ∧ σ[i]? = some (some (.ref b))
open Classical in
noncomputable def lend (env : Ev) (σ : St) (G H : Hp) : Hp := fun b => if lentAt env σ b then H b else G b
open Classical in
noncomputable def unlend (env : Ev) (σ : St) (G : Hp) : Hp := fun b => if lentAt env σ b then none else G b
section
variable {K : PySem.W.Frag} {G₀ H₀ G H : Hp} {env : Ev} {σ : St}
theorem DI.lent (I : DI K G₀ H₀ env σ G H) {b : Addr} (h : lentAt env σ b) : G b = none ∧ ∃ vs, H b = some (.lst vs) := by
  obtain ⟨i, ds, e1, e2⟩ := h
  obtain ⟨a, vs, o⟩ := I.own e1
  have z := o.at_
  rw [e2] at z
  cases z
  exact ⟨o.gn, vs, o.hp⟩
theorem lend_ge (I : DI K G₀ H₀ env σ G H) : Same G (lend env σ G H) := fun b o q => by
  unfold lend
  by_cases h : lentAt env σ b
  · rw [(I.lent h).1] at q; cases q
  · rw [if_neg h]; exact q
theorem lend_le (I : DI K G₀ H₀ env σ G H) : Same (lend env σ G H) H := fun b o q => by
  unfold lend at q
  by_cases h : lentAt env σ b
  · rw [if_pos h] at q; exact q
  · rw [if_neg h] at q; exact I.le b o q
theorem lend_args (I : DI K G₀ H₀ env σ G H) : ∀ {vs : List V} {xs : List Val}, ArgsOk K env σ G vs xs → RepL K (lend env σ G H) (xs.map Val.d) vs
  | [], xs, h => by cases (show xs = [] from h); rfl
  | v :: vs, xs, h => by
    obtain ⟨x, r, rfl, h1, h2⟩ := h
    refine RepL.cons ?_ (lend_args I h2)
    cases x with
    | pers d => exact Rep.mono (lend_ge I) h1
    | fresh ds => exact h1.elim
    | brw i ds =>
      obtain ⟨a, rfl, e1, e2⟩ := h1
      obtain ⟨b, us, o⟩ := I.own e1
      have z := o.at_
      rw [e2] at z
      cases z
      exact ⟨a, us, rfl, by unfold lend; rw [if_pos ⟨i, ds, e1, e2⟩]; exact o.hp, o.rep.mono (lend_ge I)⟩
mutual
theorem unlend_rep (I : DI K G₀ H₀ env σ G H) {G' : Hp} (s : Same (lend env σ G H) G') : ∀ {d : D} {v : V}, noLst d = true → Rep K G' d v → Rep K (unlend env σ G') d v
  | .non, _, _, h => h
  | .bl _, _, _, h => h
  | .int _, _, _, h => h
  | .tup ds, v, n, h => by
    obtain ⟨a, vs, e, g, r⟩ := h
    refine ⟨a, vs, e, ?_, unlend_repL I s (by simpa [noLst] using n) r⟩
    unfold unlend
    by_cases hl : lentAt env σ a
    · obtain ⟨_, us, q⟩ := I.lent hl
      have z : lend env σ G H a = some (.lst us) := by unfold lend; rw [if_pos hl]; exact q
      rw [s _ _ z] at g
      cases g
    · rw [if_neg hl]; exact g
  | .lst _, _, n, _ => by simp [noLst] at n
  | .scr _, _, n, _ => by simp [noLst] at n
  | .exc _ _, _, n, _ => by simp [noLst] at n
theorem unlend_repL (I : DI K G₀ H₀ env σ G H) {G' : Hp} (s : Same (lend env σ G H) G') : ∀ {ds : List D} {vs : List V}, noLstL ds = true → RepL K G' ds vs → RepL K (unlend env σ G') ds vs
  | [], _, _, h => h
  | d :: ds, vs, n, h => by
    obtain ⟨v, r, e, h1, h2⟩ := h
    simp only [noLstL, Bool.and_eq_true] at n
    exact ⟨v, r, e, unlend_rep I s n.1 h1, unlend_repL I s n.2 h2⟩
end
end
section
variable {X : Cx} {G₀ H₀ : Hp} {k : Nat} {f : Addr} {fd : FuncData} {ps : List Str} {x : Str} {p pos : Pos} {e : Expr} {es : List Expr} {r : Ev → Out (List Val)} {m : List D → Out Val}
theorem de_call (F : FnOk X.prog X.w X.K X.mg X.base CX0 k f fd ps (spD X.K m ps.length)) (hr : Room k X.A) (hm : X.mg x = some (.ref f)) (hk : PySem.W.keepIn X.K (.ref f) = true) (hb : Binds X.K fd ps []) (ha : DA X G₀ H₀ (e :: es) r)
    (hlen : ∀ env xs, r env = .ok xs → xs.length = ps.length) (hg : Gl X x := by rfl) (hdb : (x == ("__debug__" : Str)) = false := by decide) (he : starEach (e :: es) X.env = (false, eval e X.env) :: starEach es X.env := by rfl) (hpl : (backTo pos (starEach es X.env)).any (·.1) = false := by rfl) :
    DE X G₀ H₀ (.Call (.Name x p) (e :: es) [] pos) (fCall m r) := (pe_call F hr hg hm hk hb .nil pass0 ha hdb he hpl).imp fun σ H Q q => by
  obtain ⟨env, G, val, I, e, k'⟩ := q
  obtain ⟨xs, e1, e⟩ := bind_inv e
  obtain ⟨v, e2, e⟩ := bind_inv e
  split at e
  · rename_i hc
    have ev : v = val := by cases e; rfl
    subst ev
    refine ⟨env, G, xs, I, e1, fun vs G1 H1 g1 l1 a1 => ?_⟩
    show spD X.K m ps.length (vs ++ []) H1 Q E0
    rw [List.append_nil]
    have I1 := I.grow g1 l1
    have hl : (xs.map Val.d).length = ps.length := by rw [List.length_map]; exact hlen env xs e1
    by_cases hp : xs.all Val.isPers = true
    · refine ⟨G1, _, v, hl, l1, argsRep a1 hp, e2, fun w G2 H2 g2 l2 h2 => k' w G2 H2 (g1.trans g2) l2 ?_⟩
      cases v with
      | pers d => exact h2
      | fresh ds =>
        obtain ⟨a, us, rfl, h3, h4⟩ := h2
        exact ⟨a, us, rfl, g1.h.free h3, h4⟩
      | brw i ds => obtain ⟨a, rfl, h3, _⟩ := h2; simp at h3
    · have hcv : v.calm = true := by simpa [hp] using hc
      refine ⟨lend env σ G1 H1, _, v, hl, lend_le I1, lend_args I1 a1, e2, fun w G2 H2 g2 l2 h2 => ?_⟩
      have gu : Grow G1 H1 (unlend env σ G2) H2 := by
        refine ⟨fun b o q => ?_, g2.h, fun b q1 q2 => ?_⟩
        · unfold unlend
          by_cases hl : lentAt env σ b
          · rw [(I1.lent hl).1] at q; cases q
          · rw [if_neg hl]; exact g2.g b o (lend_ge I1 b o q)
        · unfold unlend
          by_cases hl : lentAt env σ b
          · rw [if_pos hl]
          · rw [if_neg hl]
            refine g2.n b q1 ?_
            unfold lend
            rw [if_neg hl]; exact q2
      have lu : Same (unlend env σ G2) H2 := fun b o q => by
        unfold unlend at q
        by_cases hl : lentAt env σ b
        · rw [if_pos hl] at q; cases q
        · rw [if_neg hl] at q; exact l2 b o q
      refine k' w (unlend env σ G2) H2 (g1.trans gu) lu ?_
      cases v with
      | pers d => exact unlend_rep I1 g2.g hcv h2
      | fresh ds =>
        obtain ⟨a, us, rfl, h3, h4, h5, h6⟩ := h2
        refine ⟨a, us, rfl, g1.h.free h3, h4, ?_, unlend_repL I1 g2.g hcv h6⟩
        unfold unlend
        by_cases hl : lentAt env σ a
        · rw [if_pos hl]
        · rw [if_neg hl]; exact h5
      | brw i ds => cases hcv
  · cases e
end
end DL
set_option Elab.async false
set_option linter.all false
set_option maxRecDepth 100000
set_option maxHeartbeats 4000000
namespace DL
open PySem PySem.Spec PyProof.Rows L2
structure CompOk (X : Cx) (scope : Scope) (cap : List Nat) (own : List Str) : Prop where
  kind : scope.kind = .function
  locals : ∀ x ∈ scope.names, x.2 = .local → scope.names.lookup x.1 = some .local
  nd : (scope.names.map (·.1)).Nodup
  frees : (scope.names.all fun x => x.2 != .free || (X.env.scope.names.lookup x.1 == some .cell || X.env.scope.names.lookup x.1 == some .free)) = true
  caps : (cap.all fun i => match X.N[i]? with | some x => scope.names.lookup x == some .free | none => false) = true
def NoOwn (env : Ev) : Prop := ∀ (i : Nat) (ds : List D), env[i]? ≠ some (.own ds)
section
variable {X : Cx} {pins : List (Addr × Obj)} {σ : St} {H : Hp} {s : Shared} {scope : Scope} {cap : List Nat} {own : List Str}
theorem CompOk.free (C : CompOk X scope cap own) {n : Str} (h : (n, NameKind.free) ∈ scope.names) : X.env.kindOf n = some .cell ∨ X.env.kindOf n = some .free := by
  have q := List.all_eq_true.mp C.frees _ h
  simp at q
  exact q
theorem CompOk.cells (C : CompOk X scope cap own) (I : Inv X pins σ H s) : ∀ n, (n, NameKind.free) ∈ scope.names → ∃ c, X.env.cells.lookup n = some c := fun n h => I.ok.has n (C.free h)
end
end DL
set_option Elab.async false
set_option linter.all false
set_option maxRecDepth 100000
set_option maxHeartbeats 4000000
namespace DL
open PySem PySem.Spec PyProof.Rows L2
theorem NoOwn.set {env : Ev} (h : NoOwn env) (i : Nat) (d : D) : NoOwn (env.set i (.pers d)) := fun j ds e => by
  by_cases hj : i = j
  · subst hj; cases (getSet_eq e).1
  · rw [List.getElem?_set_ne hj] at e; exact h j ds e
theorem DI.other {K : PySem.W.Frag} {G₀ H₀ G H : Hp} {env : Ev} {σ : St} (I : DI K G₀ H₀ env σ G H) (h : NoOwn env) {p : Addr} {o : HO} (hg : G p = none) (h0 : H₀ p = none) : DI K G₀ H₀ env σ G (upd H p o) where
  le := fun b u q => by rw [upd_ne (ne_of_none q hg)]; exact I.le b u q
  gr := ⟨I.gr.g, fun b u q => by rw [upd_ne (ne_of_none q h0)]; exact I.gr.h b u q, I.gr.n⟩
  len := I.len
  slot := fun i s e => by
    cases s with
    | un => trivial
    | pers d => exact I.slot i _ e
    | own ds => exact absurd e (h i ds)
  apart := I.apart
section
variable {X : Cx} {G₀ H₀ : Hp} {elt iter tg : Expr} {ifs : List Expr} {scope : Scope} {pos : Pos} {fi : FI} {g : D → Ev → Out Ev} {ft : FT} {fe : FE} {cap : List Nat} {own : List Str}
end
end DL
set_option Elab.async false
set_option linter.all false
set_option maxRecDepth 100000
set_option maxHeartbeats 4000000
namespace DL
open PySem PySem.Spec PyProof.Rows L2
theorem call_isi {X : Cx} : CallR X (.builtin "isinstance") (fun xs H Q => ∃ x t T b, xs = [x, .ty T] ∧ TyOf X.K H x t ∧ PySem.W.kitOne X.K t (.type T) = some b ∧ Q (.bl b) H) := by
  intro pins s σ H xs us Q I r h
  obtain ⟨x, t, T, b, rfl, ty, e, q⟩ := h
  obtain ⟨u, w', rfl, r1, r2⟩ := vals2 r
  cases (show w' = .type T from r2)
  exact isinst_ok I r1 ty e fun tk => ⟨.bl b, H, I.tok _, rfl, q⟩
@[simp] def isiD (T : String) : D → Option Bool
  | .non => some false
  | .bl _ => some (decide (T = "int") || decide (T = "bool"))
  | .int _ => some (decide (T = "int"))
  | .lst _ => some (decide (T = "list"))
  | .tup _ => some (decide (T = "tuple"))
  | _ => none
@[simp] def gIsi (T : String) (x : D) : Out Val := match isiD T x with
  | some b => .ok (.pers (.bl b))
  | none => .bad
structure IsiT (T : String) : Prop where
  mem : T = "int" ∨ T = "bool" ∨ T = "list" ∨ T = "tuple"
theorem isi_kit {K : PySem.W.Frag} {T : String} (h : IsiT T) {G₀ H₀ : Hp} {env : Ev} {σ : St} {G H : Hp} {v : V} {d : D} {b : Bool} (I : DI K G₀ H₀ env σ G H) (o : Opd K env σ G v d) (e : isiD T d = some b) :
    ∃ t, TyOf K H v t ∧ PySem.W.kitOne K t (.type T) = some b := by
  cases d with
  | non =>
    cases e; rw [o.non]; refine ⟨_, .non, ?_⟩
    rcases h.mem with rfl | rfl | rfl | rfl <;> kernel_rfl
  | bl c =>
    cases e; rw [o.bl]; refine ⟨_, .bl c, ?_⟩
    rcases h.mem with rfl | rfl | rfl | rfl <;> kernel_rfl
  | int i =>
    cases e; rw [o.int]; refine ⟨_, .int i, ?_⟩
    rcases h.mem with rfl | rfl | rfl | rfl <;> kernel_rfl
  | lst ds =>
    cases e
    obtain ⟨a, vs, rfl, h1, _⟩ := Opd.lst I o
    refine ⟨_, .lst h1, ?_⟩
    rcases h.mem with rfl | rfl | rfl | rfl <;> kernel_rfl
  | tup ds =>
    cases e
    obtain ⟨a, vs, rfl, h1, _⟩ := Opd.tup I o
    refine ⟨_, .tup h1, ?_⟩
    rcases h.mem with rfl | rfl | rfl | rfl <;> kernel_rfl
  | scr ns => cases e
  | exc c p => cases e
theorem de_isi {X : Cx} {G₀ H₀ : Hp} {p p2 pos : Pos} {e : Expr} {f : FE} {xT : Str} {T : String} (hT : IsiT T) (he : DE X G₀ H₀ e f) (hm : X.mg "isinstance" = none) (hmT : X.mg xT = none) (hvT : bootBuiltins xT = some (.type T))
    (hg : Gl X "isinstance" := by rfl) (hgT : Gl X xT := by rfl) (hn : xT ≠ "__name__" := by decide) (hd : (xT == ("__debug__" : Str)) = false := by decide)
    (hs : starEach [e, .Name xT p2] X.env = (false, eval e X.env) :: starEach [.Name xT p2] X.env := by rfl) (hs2 : starEach [.Name xT p2] X.env = [(false, eval (.Name xT p2) X.env)] := by rfl) (hpl : (backTo pos (starEach [.Name xT p2] X.env)).any (·.1) = false := by rfl) :
    DE X G₀ H₀ (.Call (.Name "isinstance" p) [e, .Name xT p2] [] pos) (f1 (gIsi T) f) :=
  (pe_callB call_isi hg hm boot_isinstance (pa_cons he (pa_cons (pe_bltn (v := .ty T) hgT hmT hvT rfl hn hd) pa_nil hs2) hs) (by decide) (by decide) hs hpl).imp fun σ H Q q => by
    obtain ⟨env, G, val, I, e, k⟩ := q
    obtain ⟨x, e1, e⟩ := bind_inv e
    refine tE_one I e1 fun v G' H' g l I' o => ?_
    unfold gIsi at e
    split at e
    · rename_i b hb
      cases e
      obtain ⟨t, h1, h2⟩ := isi_kit hT I' o hb
      exact ⟨v, t, T, b, rfl, h1, h2, k _ G' H' g l rfl⟩
    · cases e
theorem isi_list : IsiT "list" := ⟨.inr (.inr (.inl rfl))⟩
def ins (n : Int) : List Int → List Int
  | [] => [n]
  | m :: r => if n ≤ m then n :: m :: r else m :: ins n r
structure Cal (P : Program) (w : World) (K : PySem.W.Frag) (mg : Str → Option Value) (base : Heap) (k : Nat) (x : Str) (ps : List Str) (m : List D → Out Val) : Prop where
  ex : ∃ (f : Addr) (fd : FuncData), FnOk P w K mg base CX0 k f fd ps (spD K m ps.length) ∧ mg x = some (.ref f) ∧ PySem.W.keepIn K (.ref f) = true ∧ Binds K fd ps []
theorem Cal.mono {P : Program} {w : World} {K : PySem.W.Frag} {mg : Str → Option Value} {base : Heap} {j k : Nat} {x : Str} {ps : List Str} {m : List D → Out Val} (c : Cal P w K mg base j x ps m) (h : j ≤ k) : Cal P w K mg base k x ps m := by
  obtain ⟨f, fd, F, r⟩ := c.ex
  exact ⟨f, fd, F.mono h, r⟩
theorem Cal.imp {P : Program} {w : World} {K : PySem.W.Frag} {mg : Str → Option Value} {base : Heap} {k : Nat} {x : Str} {ps : List Str} {m m' : List D → Out Val} (c : Cal P w K mg base k x ps m) (h : ∀ ds v, ds.length = ps.length → m' ds = .ok v → m ds = .ok v) : Cal P w K mg base k x ps m' := by
  obtain ⟨f, fd, F, r⟩ := c.ex
  refine ⟨f, fd, F.imp fun vs H Q E q => ?_, r⟩
  obtain ⟨G, ds, val, h1, h2, h3, h4, h5⟩ := q
  exact ⟨G, ds, val, h1, h2, h3, h ds val h1 h4, h5⟩
section
variable {X : Cx} {G₀ H₀ : Hp} {k : Nat} {ps : List Str} {x : Str} {p pos : Pos} {e : Expr} {es : List Expr} {r : Ev → Out (List Val)} {m : List D → Out Val}
theorem de_cal (C : Cal X.prog X.w X.K X.mg X.base k x ps m) (hr : Room k X.A) (ha : DA X G₀ H₀ (e :: es) r)
    (hlen : ∀ env xs, r env = .ok xs → xs.length = ps.length) (hg : Gl X x := by rfl) (hdb : (x == ("__debug__" : Str)) = false := by decide) (he : starEach (e :: es) X.env = (false, eval e X.env) :: starEach es X.env := by rfl) (hpl : (backTo pos (starEach es X.env)).any (·.1) = false := by rfl) :
    DE X G₀ H₀ (.Call (.Name x p) (e :: es) [] pos) (fCall m r) := by
  obtain ⟨f, fd, F, hm, hk, hb⟩ := C.ex
  exact de_call F hr hm hk hb ha hlen hg hdb he hpl
end
theorem len_nil : ∀ env xs, fNil env = .ok xs → xs.length = 0 := fun env xs h => by cases h; rfl
theorem len_cons {f : FE} {r : Ev → Out (List Val)} {n : Nat} (h : ∀ env xs, r env = .ok xs → xs.length = n) : ∀ env xs, fCons f r env = .ok xs → xs.length = n + 1 := fun env xs e => by
  obtain ⟨x, _, e⟩ := bind_inv e
  obtain ⟨ys, e2, e⟩ := bind_inv e
  cases e
  simp [h env ys e2]
theorem hu20 {A : Around} {k : Nat} (hr : Room k A) : A.units + 20 < cLine := by have := hr.units; omega
end DL
set_option Elab.async false
set_option linter.all false
set_option maxRecDepth 100000
set_option maxHeartbeats 4000000
namespace DL
open PySem PySem.Spec PyProof.Rows L2
def advN (t : SetTable) : Nat → SetTable.Probe → SetTable.Probe
  | 0, p => p
  | n + 1, p => advN t n (t.advance p)
structure TabOk (t : SetTable) (n : Nat) : Prop where
  plain : t.plain = true
  dummies : t.dummies = #[]
  size : t.place.size = n
  rise : t.place.toList.Pairwise (· < ·)
  mask : (t.mask = 7 ∧ n < 5) ∨ (t.mask = 31 ∧ n < 19)
end DL
set_option Elab.async false
set_option linter.all false
set_option maxRecDepth 100000
set_option maxHeartbeats 4000000
namespace DL
open PySem PySem.Spec PyProof.Rows L2
end DL
set_option Elab.async false
set_option linter.all false
set_option maxRecDepth 100000
set_option maxHeartbeats 4000000
namespace DL
open PySem PySem.Spec PyProof.Rows L2
def keyE (e : Int × Value) : Int := match e.2 with
  | .int k _ => k
  | _ => 0
structure EsOk (es : List (Int × Value)) (ns : List Int) : Prop where
  all : ∀ e ∈ es, ∃ (k : Int) (t : Tok), e = (hashInt k, .int k t)
  perm : (es.map keyE).Perm ns
theorem EsOk.nil : EsOk [] [] := ⟨fun e h => (List.not_mem_nil h).elim, List.Perm.nil⟩
theorem EsOk.push {es : List (Int × Value)} {ns : List Int} (h : EsOk es ns) (k : Int) (t : Tok) : EsOk (es ++ [(hashInt k, .int k t)]) (ns ++ [k]) :=
  ⟨fun e he => by
    rcases List.mem_append.mp he with he | he
    · exact h.all e he
    · rw [List.mem_singleton] at he; exact ⟨k, t, he⟩, by
    rw [List.map_append]
    exact h.perm.append (.refl _)⟩
theorem EsOk.length {es : List (Int × Value)} {ns : List Int} (h : EsOk es ns) : es.length = ns.length := by
  rw [← h.perm.length_eq, List.length_map]
theorem EsOk.mem {prog : Program} {w : World} {es : List (Int × Value)} {ns : List Int} (h : EsOk es ns) (k : Int) : k ∈ ns ↔ ∃ e ∈ es, (intKind prog w).is k e.2 = true := by
  rw [← h.perm.mem_iff, List.mem_map]
  constructor
  · rintro ⟨e, he, rfl⟩
    obtain ⟨k, t, rfl⟩ := h.all e he
    exact ⟨_, he, intKind_is _ _ _ _⟩
  · rintro ⟨e, he, q⟩
    obtain ⟨k', t, rfl⟩ := h.all e he
    refine ⟨_, he, ?_⟩
    exact (intKind prog w).inj _ _ _ (intKind_is _ _ _ _) q
structure SetAt (w : World) (h : Heap) (a : Addr) (es : Array (Int × Value)) (ep : Nat) (t : SetTable) : Prop where
  ex : ∃ o : Obj, h.get? a = some o ∧ o.ExactSet ∧ o.data = .set es ep t
  tab : TabOk t es.size
  led : t.led = !w.params.followText "set-order"
theorem SetAt.keep {w : World} {h h' : Heap} {a : Addr} {es : Array (Int × Value)} {ep : Nat} {t : SetTable} (S : SetAt w h a es ep t) (hk : ∀ o, h.get? a = some o → h'.get? a = some o) : SetAt w h' a es ep t := by
  obtain ⟨o, ho, r⟩ := S.ex
  exact ⟨⟨o, hk o ho, r⟩, S.tab, S.led⟩
theorem SetAt.typeIs {w : World} {s : Shared} {a : Addr} {es : Array (Int × Value)} {ep : Nat} {t : SetTable} (S : SetAt w s.heap a es ep t) : s.TypeIs (.ref a) "set" := by
  obtain ⟨o, ho, hx, _⟩ := S.ex
  exact ⟨o, ho, hx.1⟩
theorem SetAt.lt {w : World} {h : Heap} {a : Addr} {es : Array (Int × Value)} {ep : Nat} {t : SetTable} (S : SetAt w h a es ep t) : a < h.objs.size := by
  obtain ⟨o, ho, _⟩ := S.ex
  exact Heap.lt_size ho
section
variable {prog : Program} {w : World} {A : Around} {E : Value → Shared → Prop} {s : Shared}
end
end DL
set_option Elab.async false
set_option linter.all false
set_option maxRecDepth 100000
set_option maxHeartbeats 4000000
namespace DL
open PySem PySem.Spec PyProof.Rows L2
def met (ns : List Int) : List Int := ns.foldl (fun σ k => if k ∈ σ then σ else σ ++ [k]) []
section
variable {prog : Program} {w : World} {A : Around} {R : Result → Shared → Prop} {I : Addr} {fp wr : List Addr} {G : Array GenState → Array GenState → Prop} {P : Nat → Value → Prop} {St : Nat → Shared → Prop}
end
section
variable {prog : Program} {w : World} {A : Around} {E : Value → Shared → Prop} {s : Shared}
end
end DL
set_option Elab.async false
set_option linter.all false
set_option maxRecDepth 100000
set_option maxHeartbeats 4000000
namespace DL
open PySem PySem.Spec PyProof.Rows L2
section
variable {prog : Program} {w : World} {A : Around} {E : Value → Shared → Prop} {s : Shared} {a : Addr} {es : Array (Int × Value)} {ep : Nat} {tb : SetTable}
end
end DL
set_option Elab.async false
set_option linter.all false
set_option maxRecDepth 100000
set_option maxHeartbeats 4000000
namespace DL
open PySem PySem.Spec PyProof.Rows L2
end DL
set_option Elab.async false
set_option linter.all false
set_option maxRecDepth 100000
set_option maxHeartbeats 4000000
namespace DL
open PySem PySem.Spec PyProof.Rows L2
end DL
set_option Elab.async false
set_option linter.all false
set_option maxRecDepth 100000
set_option maxHeartbeats 4000000
namespace DL
open PySem PySem.Spec PyProof.Rows L2
def pth (t : SetTable) (h : Int) (n : Nat) : SetTable.Probe := advN t n (t.probeStart h)
def RI (t : SetTable) (hs : List Int) : Prop := ∀ q ∈ hs.zip t.place.toList, ∃ m, (pth t q.1 m).j = q.2 ∧ ∀ m', m' < m → (pth t q.1 m').j ∈ t.place.toList
theorem RI.nil {t : SetTable} : RI t [] := fun q h => by simp at h
end DL
set_option Elab.async false
set_option linter.all false
set_option maxRecDepth 100000
set_option maxHeartbeats 4000000
namespace DL
open PySem PySem.Spec PyProof.Rows L2
end DL
set_option Elab.async false
set_option linter.all false
set_option maxRecDepth 100000
set_option maxHeartbeats 4000000
namespace DL
open PySem PySem.Spec PyProof.Rows L2
section
variable {prog : Program} {w : World} {A : Around} {E : Value → Shared → Prop} {s : Shared}
abbrev PKey (prog : Program) (w : World) (h : Heap) (k : List Int) (a : Addr) : Prop := IsTupleKey (intKind prog w) h k a
def pHash (prog : Program) (w : World) (k : List Int) : Int := (tupleKind (intKind prog w)).hash k
end
structure EsP (prog : Program) (w : World) (h : Heap) (es : List (Int × Value)) (S : List (List Int)) : Prop where
  all : ∀ e ∈ es, ∃ k a, e = (pHash prog w k, .ref a) ∧ PKey prog w h k a
  mem : ∀ k, k ∈ S ↔ ∃ e ∈ es, ∃ a, e = (pHash prog w k, .ref a) ∧ PKey prog w h k a
  len : es.length = S.length
structure PSet (prog : Program) (w : World) (h : Heap) (sa : Addr) (S : List (List Int)) (es : Array (Int × Value)) (ep : Nat) (tb : SetTable) : Prop where
  at_ : SetAt w h sa es ep tb
  ri : RI tb (es.toList.map (·.1))
  es : EsP prog w h es.toList S
section
variable {prog : Program} {w : World} {A : Around} {E : Value → Shared → Prop} {s : Shared}
theorem PKey.stay {h h' : Heap} {k : List Int} {a sa : Addr} {es : Array (Int × Value)} {ep : Nat} {tb : SetTable} (hk : PKey prog w h k a) (S : SetAt w h sa es ep tb) (hs : Heap.SameBut sa h h') : PKey prog w h' k a := by
  obtain ⟨o, items, n, ho, hc, hd, hi⟩ := hk
  obtain ⟨o2, ho2, _, hd2⟩ := S.ex
  have hne : a ≠ sa := by
    rintro rfl
    rw [ho] at ho2
    cases ho2
    rw [hd] at hd2
    cases hd2
  exact ⟨o, items, n, (hs.2 a hne).trans ho, hc, hd, hi⟩
theorem EsP.stay {h h' : Heap} {l : List (Int × Value)} {T : List (List Int)} {sa : Addr} {es : Array (Int × Value)} {ep : Nat} {tb : SetTable} (X : EsP prog w h l T) (S : SetAt w h sa es ep tb) (hs : Heap.SameBut sa h h') : EsP prog w h' l T where
  all := fun e he => let ⟨k, a, q, r⟩ := X.all e he; ⟨k, a, q, r.stay S hs⟩
  mem := fun k => by
    rw [X.mem k]
    constructor
    · rintro ⟨e, he, a, q, r⟩
      exact ⟨e, he, a, q, r.stay S hs⟩
    · rintro ⟨e, he, a, q, r⟩
      obtain ⟨k2, a2, q2, r2⟩ := X.all e he
      have e2 : a2 = a := by
        have := (Prod.mk.inj (q2.symm.trans q)).2
        injection this
      subst e2
      have : k2 = k := (r2.stay S hs).inj r
      subst this
      exact ⟨e, he, a2, q, r2⟩
  len := X.len
theorem EsP.push {h : Heap} {l : List (Int × Value)} {T : List (List Int)} (X : EsP prog w h l T) {k : List Int} {a : Addr} (hk : PKey prog w h k a) : EsP prog w h (l ++ [(pHash prog w k, .ref a)]) (T ++ [k]) where
  all := fun e he => by
    rcases List.mem_append.mp he with he | he
    · exact X.all e he
    · rw [List.mem_singleton] at he; exact ⟨k, a, he, hk⟩
  mem := fun k2 => by
    rw [List.mem_append, List.mem_singleton, X.mem k2]
    constructor
    · rintro (⟨e, he, r⟩ | rfl)
      · exact ⟨e, List.mem_append_left _ he, r⟩
      · exact ⟨_, List.mem_append_right _ (List.mem_singleton.mpr rfl), a, rfl, hk⟩
    · rintro ⟨e, he, a2, q, r⟩
      rcases List.mem_append.mp he with he | he
      · exact .inl ⟨e, he, a2, q, r⟩
      · rw [List.mem_singleton] at he
        rw [he] at q
        have e2 : a = a2 := by
          have := (Prod.mk.inj q).2
          injection this
        subst e2
        exact .inr (r.inj hk)
  len := by simp [X.len]
end
end DL
set_option Elab.async false
set_option linter.all false
set_option maxRecDepth 100000
set_option maxHeartbeats 4000000
namespace DL
open PySem PySem.Spec PyProof.Rows L2
theorem PKey.at {prog : Program} {w : World} {h h' : Heap} {k : List Int} {a : Addr} (x : PKey prog w h k a) (hk : ∀ o, h.get? a = some o → h'.get? a = some o) : PKey prog w h' k a := by
  obtain ⟨o, its, n, ho, r⟩ := x
  exact ⟨o, its, n, hk o ho, r⟩
theorem PSet.keep {prog : Program} {w : World} {h h' : Heap} {sa B : Addr} {S : List (List Int)} {es : Array (Int × Value)} {ep : Nat} {tb : SetTable} (P : PSet prog w h sa S es ep tb) (hB : ∀ e ∈ es.toList, ∀ a, e.2 = .ref a → a < B)
    (hk : ∀ b o, b = sa ∨ b < B → h.get? b = some o → h'.get? b = some o) : PSet prog w h' sa S es ep tb where
  at_ := P.at_.keep fun o e => hk sa o (.inl rfl) e
  ri := P.ri
  es := {
    all := fun e he => let ⟨k, a, q, r⟩ := P.es.all e he; ⟨k, a, q, r.at fun o eo => hk a o (.inr (hB e he a (by rw [q]))) eo⟩
    mem := fun k => by
      rw [P.es.mem k]
      constructor
      · rintro ⟨e, he, a, q, r⟩
        exact ⟨e, he, a, q, r.at fun o eo => hk a o (.inr (hB e he a (by rw [q]))) eo⟩
      · rintro ⟨e, he, a, q, r⟩
        obtain ⟨k2, a2, q2, r2⟩ := P.es.all e he
        have e2 : a2 = a := by
          have := (Prod.mk.inj (q2.symm.trans q)).2
          injection this
        subst e2
        have : k2 = k := (r2.at fun o eo => hk a2 o (.inr (hB e he a2 (by rw [q2]))) eo).inj r
        subst this
        exact ⟨e, he, a2, q, r2⟩
    len := P.es.len }
section
variable {prog : Program} {w : World} {A : Around} {R : Result → Shared → Prop} {I : Addr} {fp wr : List Addr} {G : Array GenState → Array GenState → Prop} {P : Nat → Value → Prop} {St : Nat → Shared → Prop}
end
section
variable {prog : Program} {w : World} {A : Around} {E : Value → Shared → Prop} {s : Shared}
end
end DL
set_option Elab.async false
set_option linter.all false
set_option maxRecDepth 100000
set_option maxHeartbeats 4000000
namespace DL
open PySem PySem.Spec PyProof.Rows L2 PySem.W
structure LtOk (n : Nat) (lt : Nat → Nat → Bool) : Prop where
  irr : ∀ i, lt i i = false
  tr : ∀ i j k, lt i j = true → lt j k = true → lt i k = true
  tot : ∀ i j, i < n → j < n → i ≠ j → lt i j = true ∨ lt j i = true
def Good {α : Type} (n : Nat) (lt : Nat → Nat → Bool) (Q : α → Prop) : KasT α → Prop
  | .ret a => Q a
  | .ask i j k => i < n ∧ j < n ∧ Good n lt Q (k (lt i j))
theorem Good.mono {α : Type} {n : Nat} {lt : Nat → Nat → Bool} {Q Q' : α → Prop} (h : ∀ a, Q a → Q' a) : ∀ (t : KasT α), Good n lt Q t → Good n lt Q' t
  | .ret a, g => h a g
  | .ask i j k, g => ⟨g.1, g.2.1, Good.mono h _ g.2.2⟩
theorem Good.bind {α β : Type} {n : Nat} {lt : Nat → Nat → Bool} {Q : α → Prop} {Q' : β → Prop} {f : α → KasT β} (h : ∀ a, Q a → Good n lt Q' (f a)) : ∀ (t : KasT α), Good n lt Q t → Good n lt Q' (t.bind f)
  | .ret a, g => h a g
  | .ask i j k, g => ⟨g.1, g.2.1, Good.bind h _ g.2.2⟩
section
variable {n : Nat} {lt : Nat → Nat → Bool}
def PermOk (n : Nat) (p : Array Nat) : Prop := p.toList.Perm (List.range n)
theorem PermOk.size {p : Array Nat} (h : PermOk n p) : p.size = n := by
  have := List.Perm.length_eq h
  simpa using this
theorem PermOk.get {p : Array Nat} (h : PermOk n p) {i : Nat} (hi : i < n) : p[i]? = some (p.getD i 0) := by
  have hs := h.size
  have : i < p.size := by omega
  simp [Array.getD, this]
theorem PermOk.bd {p : Array Nat} (h : PermOk n p) {i : Nat} (hi : i < n) : p.getD i 0 < n := by
  have h1 := h.get hi
  rw [← Array.getElem?_toList] at h1
  exact List.mem_range.mp ((List.Perm.mem_iff h).mp (List.mem_of_getElem? h1))
theorem PermOk.ne {p : Array Nat} (h : PermOk n p) {i j : Nat} (hi : i < n) (hj : j < n) (hij : i ≠ j) : p.getD i 0 ≠ p.getD j 0 := by
  intro e
  have h1 := h.get hi
  have h2 := h.get hj
  rw [← Array.getElem?_toList] at h1 h2
  have hnd : p.toList.Nodup := (List.Perm.nodup_iff h).mpr List.nodup_range
  rw [← e] at h2
  have hl : i < p.toList.length := (List.getElem?_eq_some_iff.mp h1).1
  exact hij ((List.getElem?_inj hl hnd).mp (h1.trans h2.symm))
def Srt (lt : Nat → Nat → Bool) (p : Array Nat) (m : Nat) : Prop := ∀ i j, i < j → j < m → lt (p.getD i 0) (p.getD j 0) = true
theorem Srt.one (p : Array Nat) : Srt lt p 1 := fun i j h1 h2 => by omega
theorem other (O : LtOk n lt) {p : Array Nat} (hp : PermOk n p) {i j : Nat} (hi : i < n) (hj : j < n) (hij : i ≠ j) (hf : lt (p.getD i 0) (p.getD j 0) = false) : lt (p.getD j 0) (p.getD i 0) = true := by
  rcases O.tot _ _ (hp.bd hi) (hp.bd hj) (hp.ne hi hj hij) with h | h
  · rw [h] at hf; cases hf
  · exact h
end
end DL
set_option Elab.async false
set_option linter.all false
set_option maxRecDepth 100000
set_option maxHeartbeats 4000000
namespace DL
open PySem PySem.Spec PyProof.Rows L2 PySem.W
def PairAt (h : Heap) (a : Addr) (p : Int × Int) : Prop := ∃ o n t u, h.get? a = some o ∧ o.cls = .type "tuple" ∧ o.data = .seq #[.int p.1 t, .int p.2 u] n
theorem PairAt.keep {h h' : Heap} {a : Addr} {p : Int × Int} (x : PairAt h a p) (k : ∀ o, h.get? a = some o → h'.get? a = some o) : PairAt h' a p := by
  obtain ⟨o, n, t, u, q, r⟩ := x
  exact ⟨o, n, t, u, k o q, r⟩
section
variable {prog : Program} {w : World} {A : Around} {E : Value → Shared → Prop} {s : Shared}
end
end DL
set_option Elab.async false
set_option linter.all false
set_option maxRecDepth 100000
set_option maxHeartbeats 4000000
namespace DL
open PySem PySem.Spec PyProof.Rows L2
def PairsH (H : Hp) (as : List Addr) (ps : List (Int × Int)) : Prop := as.length = ps.length ∧ ∀ (i : Nat) (a : Addr) (q : Int × Int), as[i]? = some a → ps[i]? = some q → H a = some (.tup [.int q.1, .int q.2])
def asSpot : D → Option (Int × Int)
  | .tup [.int x, .int y] => some (x, y)
  | _ => none
def spotD (p : Int × Int) : D := .tup [.int p.1, .int p.2]
def asSpots : List D → Option (List (Int × Int))
  | [] => some []
  | d :: ds => match asSpot d, asSpots ds with
    | some p, some ps => some (p :: ps)
    | _, _ => none
theorem PairsH.mono {G H : Hp} {as : List Addr} {ps : List (Int × Int)} (h : PairsH G as ps) (s : Same G H) : PairsH H as ps := ⟨h.1, fun i a q h1 h2 => s _ _ (h.2 i a q h1 h2)⟩
end DL
set_option Elab.async false
set_option linter.all false
set_option maxRecDepth 100000
set_option maxHeartbeats 4000000
namespace DL
open PySem PySem.Spec PyProof.Rows L2
section
variable {prog : Program} {w : World} {K : Type} [DecidableEq K] {knd : PySem.KeyKind prog w K} {A : Around} {E : Value → Shared → Prop} {s : Shared}
end
end DL
set_option Elab.async false
set_option linter.all false
set_option maxRecDepth 100000
set_option maxHeartbeats 4000000
namespace DL
open PySem PySem.Spec PyProof.Rows L2
theorem Inv.many {X : Cx} {pins : List (Addr × Obj)} {σ : St} {H H' : Hp} {s : Shared} {h' : Heap} {t' : Nat} (I : Inv X pins σ H s) (k : ∀ b o, s.heap.get? b = some o → h'.get? b = some o) (hs : Same H H') (hn : ∀ b, b < s.heap.objs.size → H b = none → H' b = none)
    (hok : ∀ b o, s.heap.objs.size ≤ b → H' b = some o → ObjOk X.prog X.w H' h' b o) : Inv X pins σ H' { s with heap := h', toks := t' } := by
  refine I.un ⟨fun b o e _ _ _ => k b o e, fun b o e _ _ _ => ⟨o.slots, k b o e⟩, fun b o e n _ => hn b (Heap.lt_size e) n, fun b o e _ => ⟨o, k b o e⟩, fun b xs e => hs _ _ e, fun b o u e => hs _ _ e, fun b ps e => ⟨#[], by rw [hs _ _ e]; simp⟩⟩ fun b o e => ?_
  cases q : H b with
  | some u =>
    have e2 := hs _ _ q
    rw [e2] at e
    have e3 : u = o := Option.some.inj e
    subst e3
    exact (I.hok b u q).stay (fun c v _ x => k c v x) (fun c x => hs _ _ x) fun c xs x => hs _ _ x
  | none =>
    rcases Nat.lt_or_ge b s.heap.objs.size with hlt | hge
    · rw [hn b hlt q] at e; cases e
    · exact hok b o hge e
end DL
set_option Elab.async false
set_option linter.all false
set_option maxRecDepth 100000
set_option maxHeartbeats 4000000
namespace DL
open PySem PySem.Spec PyProof.Rows L2
abbrev Grp := Int × List Int
def grpD (g : Grp) : D := .tup [.int g.1, .lst (g.2.map .int)]
abbrev GA := Int × List Int × Addr
def addA (gs : List GA) (p : Int × Int) (a : Addr) : List GA := if gs.any (fun g => decide (g.1 = p.1)) = true then gs.map (fun g => if g.1 = p.1 then (g.1, g.2.1 ++ [p.2], g.2.2) else g) else gs ++ [(p.1, [p.2], a)]
def kvA (gs : List GA) : List (Key × V) := gs.map fun g => (Sum.inl g.1, V.ref g.2.2)
structure DicOk (Hs H : Hp) (d l : Addr) (gs : List GA) : Prop where
  same : Same Hs H
  nd : Hs d = none
  at_ : H d = some (.dK (kvA gs))
  lists : ∀ g ∈ gs, H g.2.2 = some (.lst (g.2.1.map V.int)) ∧ Hs g.2.2 = none ∧ g.2.2 ≠ l
  apart : (gs.map (·.2.2)).Nodup
  keys : (gs.map (·.1)).Nodup
theorem DicOk.laid {Hs H : Hp} {d l p : Addr} {gs : List GA} {o : HO} (I : DicOk Hs H d l gs) (hp : H p = none) : DicOk Hs (upd H p o) d l gs where
  same := fun b u e => by rw [upd_ne (ne_of_none (I.same b u e) hp)]; exact I.same b u e
  nd := I.nd
  at_ := by rw [upd_ne (ne_of_none I.at_ hp)]; exact I.at_
  lists := fun g hg => let ⟨h1, h2, h3⟩ := I.lists g hg; ⟨by rw [upd_ne (ne_of_none h1 hp)]; exact h1, h2, h3⟩
  apart := I.apart
  keys := I.keys
theorem DicOk.new {Hs H : Hp} {d l p : Addr} {gs : List GA} {x y : Int} (I : DicOk Hs H d l gs) (hp : H p = none) (hl : H l ≠ none) (hf : gs.find? (fun g => decide (g.1 = x)) = none) :
    DicOk Hs (upd (upd (upd H p (.lst [])) d (.dK (kvA gs ++ [(Sum.inl x, .ref p)]))) p (.lst ([] ++ [.int y]))) d l (addA gs (x, y) p) := by
  have hpd : p ≠ d := fun z => by rw [z, I.at_] at hp; cases hp
  have hany : ¬ gs.any (fun g => decide (g.1 = x)) = true := fun h => by
    obtain ⟨g, hg, e⟩ := List.any_eq_true.mp h
    have := List.find?_eq_none.mp hf g hg
    exact this e
  have hadd : addA gs (x, y) p = gs ++ [(x, [y], p)] := by unfold addA; rw [if_neg hany]
  have hsp : Hs p = none := I.same.free hp
  have hpl : p ≠ l := fun z => hl (z ▸ hp)
  have hne : ∀ g ∈ gs, g.2.2 ≠ p := fun g hg => ne_of_none (I.lists g hg).1 hp
  have hned : ∀ g ∈ gs, g.2.2 ≠ d := fun g hg z => by
    have := (I.lists g hg).1
    rw [z, I.at_] at this
    cases this
  refine ⟨fun b o e => ?_, I.nd, ?_, fun g hg => ?_, ?_, ?_⟩
  · rw [upd_ne (ne_of_none e hsp), upd_ne (ne_of_none e I.nd), upd_ne (ne_of_none e hsp)]
    exact I.same b o e
  · rw [upd_ne hpd.symm, upd_same, hadd]
    unfold kvA
    simp
  · rw [hadd] at hg
    rcases List.mem_append.mp hg with hg | hg
    · obtain ⟨q1, q2, q3⟩ := I.lists g hg
      refine ⟨?_, q2, q3⟩
      rw [upd_ne (hne g hg), upd_ne (hned g hg), upd_ne (hne g hg)]
      exact q1
    · rw [List.mem_singleton] at hg
      subst hg
      exact ⟨by rw [upd_same]; rfl, hsp, hpl⟩
  · rw [hadd, List.map_append, List.nodup_append]
    refine ⟨I.apart, by simp, fun a ha b hb => ?_⟩
    obtain ⟨g, hg, rfl⟩ := List.mem_map.mp ha
    simp only [List.map_cons, List.map_nil, List.mem_singleton] at hb
    subst hb
    exact hne g hg
  · rw [hadd, List.map_append, List.nodup_append]
    refine ⟨I.keys, by simp, fun a ha b hb => ?_⟩
    obtain ⟨g, hg, rfl⟩ := List.mem_map.mp ha
    simp only [List.map_cons, List.map_nil, List.mem_singleton] at hb
    subst hb
    intro z
    exact hany (List.any_eq_true.mpr ⟨g, hg, by simpa using z⟩)
end DL
set_option Elab.async false
set_option linter.all false
set_option maxRecDepth 100000
set_option maxHeartbeats 4000000
namespace DL
open PySem PySem.Spec PyProof.Rows L2
end DL
set_option Elab.async false
set_option linter.all false
set_option maxRecDepth 100000
set_option maxHeartbeats 4000000
namespace DL
open PySem PySem.Spec PyProof.Rows L2
end DL
set_option Elab.async false
set_option linter.all false
set_option maxRecDepth 100000
set_option maxHeartbeats 4000000
namespace DL
open PySem PySem.Spec PyProof.Rows L2
end DL
set_option Elab.async false
set_option linter.all false
set_option maxRecDepth 100000
set_option maxHeartbeats 4000000
namespace DL
open PySem PySem.Spec PyProof.Rows L2
abbrev ZOut (h : Heap) (z ti to t : Addr) (f : Bool) : Prop :=
  h.get? z = some { cls := .type "zip", dict := none, data := .fields #[rawInt t, .bool f, .bool false, .ref ti, .ref to], slots := #[] }
section
variable {prog : Program} {w : World} {A : Around} {E : Value → Shared → Prop} {s : Shared}
structure ZSt (h : Heap) (z ti to i1 i2 l1 l2 S : Addr) (i : Nat) (xs ys : Array Value) : Prop where
  own : (IsZip h z ti to .none ∧ ∃ a b, IsPair h to a b) ∨ ∃ t f ot, ZOut h z ti to t f ∧ h.get? t = some ot ∧ t ≠ z ∧ t ≠ i1 ∧ t ≠ i2 ∧ t ≠ S
  its : IsPair h ti (.ref i1) (.ref i2)
  p1 : h.IsListIter i1 l1 i
  p2 : h.IsListIter i2 l2 i
  s1 : h.IsList l1 xs
  s2 : h.IsList l2 ys
theorem ZSt.keep {h h' : Heap} {z ti to i1 i2 l1 l2 S : Addr} {i : Nat} {xs ys : Array Value} (x : ZSt h z ti to i1 i2 l1 l2 S i xs ys) (k : ∀ b o, b ≠ S → h.get? b = some o → h'.get? b = some o)
    (off : ∀ b ∈ [z, ti, to, i1, i2, l1, l2], b ≠ S) : ZSt h' z ti to i1 i2 l1 l2 S i xs ys where
  own := by
    rcases x.own with ⟨a, b, c, d⟩ | ⟨t, f, ot, a, b, c1, c2, c3, c4⟩
    · exact .inl ⟨k _ _ (off z (by simp)) a, b, c, k _ _ (off to (by simp)) d⟩
    · exact .inr ⟨t, f, ot, k _ _ (off z (by simp)) a, k _ _ c4 b, c1, c2, c3, c4⟩
  its := k _ _ (off ti (by simp)) x.its
  p1 := x.p1.at fun o e => k _ _ (off i1 (by simp)) e
  p2 := x.p2.at fun o e => k _ _ (off i2 (by simp)) e
  s1 := x.s1.at fun o e => k _ _ (off l1 (by simp)) e
  s2 := x.s2.at fun o e => k _ _ (off l2 (by simp)) e
end
end DL
set_option Elab.async false
set_option linter.all false
set_option maxRecDepth 100000
set_option maxHeartbeats 4000000
namespace DL
open PySem PySem.Spec PyProof.Rows L2
structure ZG (xs ys : Array Value) (lo : Addr) (h : Heap) (as : List Addr) : Prop where
  rise : as.Pairwise (· < ·)
  above : ∀ a ∈ as, lo < a
  pairs : ∀ (j : Nat) (a : Addr), as[j]? = some a → ∃ x y, xs[j]? = some x ∧ ys[j]? = some y ∧ IsPair h a x y
theorem ZG.there {xs ys : Array Value} {lo : Addr} {h : Heap} {as : List Addr} (g : ZG xs ys lo h as) {a : Addr} (ha : a ∈ as) : a < h.objs.size := by
  obtain ⟨j, hj⟩ := List.mem_iff_getElem?.mp ha
  obtain ⟨_, _, _, _, e⟩ := g.pairs j a hj
  exact Heap.lt_size e
section
variable {prog : Program} {w : World} {A : Around} {s : Shared} {R : Result → Shared → Prop} {xs ys : Array Value}
end
section
variable {prog : Program} {w : World} {A : Around} {E : Value → Shared → Prop} {s : Shared} {xs ys : Array Value}
end
end DL
set_option Elab.async false
set_option linter.all false
set_option maxRecDepth 100000
set_option maxHeartbeats 4000000
namespace DL
open PySem PySem.Spec PyProof.Rows L2
end DL
set_option Elab.async false
set_option linter.all false
set_option maxRecDepth 100000
set_option maxHeartbeats 4000000
namespace DL
open PySem PySem.Spec PyProof.Rows L2
end DL
set_option Elab.async false
set_option linter.all false
set_option maxRecDepth 100000
set_option maxHeartbeats 4000000
namespace DL
open PySem PySem.Spec PyProof.Rows L2
section
variable {prog : Program} {w : World} {A : Around} {s : Shared} {R : Result → Shared → Prop} {I l S : Addr} {its : List Value} {ns : List Int}
end
section
variable {prog : Program} {w : World} {A : Around} {s : Shared} {R : Result → Shared → Prop} {I l S : Addr} {its : List Value} {ns : List Int}
end
end DL
set_option Elab.async false
set_option linter.all false
set_option maxRecDepth 100000
set_option maxHeartbeats 4000000
namespace DL
open PySem PySem.Spec PyProof.Rows L2
end DL
set_option Elab.async false
set_option linter.all false
set_option maxRecDepth 100000
set_option maxHeartbeats 4000000
namespace DL
open PySem PySem.Spec PyProof.Rows L2
section
variable {X : Cx} {G₀ H₀ : Hp} {elt iter tg : Expr} {ifs : List Expr} {scope : Scope} {pos : Pos} {fi : FI} {g : D → Ev → Out Ev} {ft : FT} {fe : FE} {cap : List Nat} {own : List Str}
end
end DL
set_option Elab.async false
set_option linter.all false
set_option maxRecDepth 100000
set_option maxHeartbeats 4000000
namespace DL
open PySem PySem.Spec PyProof.Rows L2
theorem rev_len : typeLookup (.type "list_reverseiterator") "__len__" = pure none := by rw [typeLookup_type, builtinLookup_eq_fast]; kernel_rfl
theorem rev_lhint : typeLookup (.type "list_reverseiterator") "__length_hint__" = pure (some (.builtin "list_reverseiterator.__length_hint__")) := by rw [typeLookup_type, builtinLookup_eq_fast]; kernel_rfl
section
variable {prog : Program} {w : World} {A : Around} {E : Value → Shared → Prop} {s : Shared}
theorem rev_hint {r : Addr} (hT : s.TypeIs (.ref r) "list_reverseiterator") {Q : Bool → Shared → Prop} (h : Q false s) : wpAny (model prog w) A (Builtin.List.listLengthHint (.ref r)) Q E s := by
  unfold Builtin.List.listLengthHint
  refine wpAny_bind (wpAny_specialOf hT rev_len ?_)
  refine wpAny_bind (wpAny_specialOf hT rev_lhint ?_)
  generalize hid : ("list_reverseiterator.__length_hint__" : String) = id0
  wp_delta
  rw [show splitId id0 = some ("list_reverseiterator", "__length_hint__") from by subst hid; decide +kernel]
  subst hid
  refine wpAny_bind (wpAny_isInstance (T := "list_reverseiterator") (b := true) hT (by rw [isSubtype_type]; kernel_rfl) ?_)
  refine wpAny_ite_split (fun hab => absurd hab (by decide)) (fun _ => ?_)
  refine wpAny_ite_split (fun _ => ?_) (fun hab => absurd (by decide +kernel) hab)
  refine wpAny_ite_split (fun hab => absurd hab (by decide)) (fun _ => ?_)
  exact wpAny_pure h
theorem rev_extend {R : Result → Shared → Prop} {r l S : Addr} {its : Array Value} (hh : A.handled = none) (hn : its.size ≤ sizeLine) (hlr : l ≠ r) (hSr : S ≠ r) (hSl : S ≠ l)
    (hit : s.heap.IsRevIter r l ((its.size : Int) - 1)) (hl : s.heap.IsList l its) (res : Value) (c₀ : Nat) (hS : s.heap.get? S = some { cls := .type "list", data := .seq #[] c₀ })
    (hR : ∀ s' acc c, (∀ b o, b ≠ S → b ≠ r → s.heap.get? b = some o → s'.heap.get? b = some o) → s' = { s with heap := s'.heap, toks := s'.toks } → s'.heap.get? S = some { cls := .type "list", dict := none, data := .seq acc c, slots := #[] } → acc.toList = its.toList.reverse → R (.ok (.ret res)) s') :
    wpAny (model prog w) A.in1 (Builtin.List.listExtendWith (.ref S) (.ref r) res)
      (fun fin s' => match fin with | .done f => R (.ok f) s' | .again c' => c'.quiet = true ∧ codeAny (model prog w) A c' R s') (fun e s' => R (.error e) s') s := by
  have hT : s.TypeIs (.ref r) "list_reverseiterator" := hit.typeIs
  unfold Builtin.List.listExtendWith
  refine wpAny_bind (wpAny_typeOf (T := "list_reverseiterator") hT ?_)
  have a1 : Builtin.List.listSameRef (.ref S) (.ref r) = false := by simp [Builtin.List.listSameRef, hSr]
  have a2 : (Value.type "list_reverseiterator" == Value.type "list") = false := by decide
  have a3 : (Value.type "list_reverseiterator" == Value.type "tuple") = false := by decide
  simp only [a1, a2, a3, Bool.or_false, Bool.false_eq_true, if_false]
  refine wpAny_bind (wpAny_pyIter_revIter hit ?_)
  refine wpAny_bind (wpAny_holding (rev_hint hT ?_))
  refine wpAny_ite_split (fun hab => absurd hab (by decide +kernel)) (fun _ => ?_)
  have W := (Walks.listRev (prog := prog) (w := w) (A := A.in1) (by simpa using hh) r l hlr its).toS
  refine wpAny_pure ⟨plainId_quiet PySem.F.plain_extend_loop _, codeAny_extend_loopS W hn S (by simp; exact ⟨hSr, hSl⟩) res its.size 0 s #[] c₀ (Nat.sub_zero _) (Nat.zero_le _) ⟨Nat.zero_le _, by simpa using hit, hl⟩ hS (ItemsOf.nil _) fun s' acc c hm hS' hacc => ?_⟩
  refine hR s' acc c (fun b o b1 b2 e => hm.heap b o (by simp; exact ⟨b1, b2⟩) e) (Moved.eq_with hm) hS' ?_
  apply List.ext_getElem?
  intro j
  by_cases hj : j < its.size
  · have h1 : j < acc.size := by rw [hacc.1]; exact hj
    have := hacc.2 j acc[j] (Array.getElem?_eq_getElem h1)
    rw [List.getElem?_reverse (by simpa using hj)]
    simp only [Array.getElem?_toList, Array.length_toList]
    rw [this, Array.getElem?_eq_getElem h1]
  · have h1 : ¬ j < acc.size := by rw [hacc.1]; exact hj
    rw [List.getElem?_eq_none (by simp; omega), List.getElem?_eq_none (by simp; omega)]
theorem rev_call {Q : Value → Shared → Prop} {r l : Addr} {its : Array Value} (hh : A.handled = none) (hn : its.size ≤ sizeLine) (hlr : l ≠ r) (hit : s.heap.IsRevIter r l ((its.size : Int) - 1)) (hl : s.heap.IsList l its)
    (hQ : ∀ h' tk acc c, (∀ b o, b ≠ r → s.heap.get? b = some o → h'.get? b = some o) → h'.get? s.heap.objs.size = some { cls := .type "list", dict := none, data := .seq acc c, slots := #[] } → acc.toList = its.toList.reverse → Q (.ref s.heap.objs.size) { s with heap := h', toks := tk }) :
    wpAny (model prog w) A (call (.type "list") [.ref r]) Q E s := by
  refine callType_codes (Q₁ := fun obj s₁ => obj = .ref s.heap.objs.size ∧ s₁ = { s with heap := s.heap.push { cls := .type "list", data := .seq #[] } }) PySem.F.called_list (PySem.F.typeCall_list_1 _) PySem.F.entry_list_init
    (code_list_new _ ⟨rfl, rfl⟩) fun obj s₁ e => ?_
  obtain ⟨rfl, rfl⟩ := e
  have hS : (s.heap.push { cls := .type "list", data := .seq #[] }).get? s.heap.objs.size = some { cls := .type "list", data := .seq #[] } := Heap.get?_push_size _ rfl
  have hrl : r < s.heap.objs.size := by obtain ⟨_, e, _⟩ := hit; exact Heap.lt_size e
  have hll : l < s.heap.objs.size := by obtain ⟨_, e, _⟩ := hl; exact Heap.lt_size e
  refine ⟨⟨_, hS, rfl⟩, PySem.F.args_list_init_2 _ _, ?_⟩
  show wpAny _ _ (do let was ← Builtin.List.listItems (.ref s.heap.objs.size); Builtin.List.listUpdate (.ref s.heap.objs.size) (fun _ => #[]); letGo was.toList.reverse; Builtin.List.listExtendWith (.ref s.heap.objs.size) (.ref r) .none) _ _ _
  refine wpAny_bind ?_
  unfold Builtin.List.listItems
  refine wpAny_bind (wpAny_seqItems hS rfl (wpAny_pure ?_))
  show wpAny _ _ (updateSeq s.heap.objs.size (fun _ => #[]) >>= fun _ => letGo (#[] : Array Value).toList.reverse >>= fun _ => Builtin.List.listExtendWith (.ref s.heap.objs.size) (.ref r) .none) _ _ _
  refine wpAny_bind (wpAny_updateSeq hS rfl ?_)
  have e2 := Heap.get?_update_self (Obj.mapSeq (fun _ => (#[] : Array Value))) hS rfl
  have up : ∀ b o, b ≠ s.heap.objs.size → s.heap.get? b = some o → ((s.heap.push { cls := .type "list", data := .seq #[] }).update s.heap.objs.size (Obj.mapSeq (fun _ => (#[] : Array Value)))).get? b = some o := fun b o hb e => (Heap.get?_update_other _ _ (Ne.symm hb)).trans (Heap.get?_push_of_some _ e)
  refine wpAny_bind (wpAny_letGo ?_)
  refine rev_extend (A := A.in1) hh hn hlr (Nat.ne_of_gt hrl) (Nat.ne_of_gt hll) (hit.at fun o e => up _ _ (Nat.ne_of_lt hrl) e) (hl.at fun o e => up _ _ (Nat.ne_of_lt hll) e) .none _ e2 fun s' acc c k es hS' ha => ?_
  refine ⟨rfl, ?_⟩
  rw [es]
  exact hQ s'.heap s'.toks acc c (fun b o hb e => k b o (Nat.ne_of_lt (Heap.lt_size e)) hb (up b o (Nat.ne_of_lt (Heap.lt_size e)) e)) hS' ha
end
theorem vals_rev {xs : List V} {us : List Value} (r : Vals xs us) : Vals xs.reverse us.reverse := by
  induction r with
  | nil => exact .nil
  | cons h t ih => rw [List.reverse_cons, List.reverse_cons]; exact ih.append (.cons h .nil)
def tListRev (ta : TA) : TE := fun σ H Q => ta σ H fun vs H1 => ∃ (a : Addr) (xs : List V), vs = [.ref a] ∧ H1 a = some (.lst xs) ∧ ∀ l, H1 l = none → Q (.ref l) (upd H1 l (.lst xs.reverse))
theorem pe_listRev {X : Cx} {p p2 pos pos2 : Pos} {e1 : Expr} {ta : TA} (hc : X.calm = true) (ha : PA X [e1] ta) (hml : X.mg "list" = none) (hmz : X.mg "reversed" = none) (hgl : Gl X "list" := by rfl) (hgz : Gl X "reversed" := by rfl)
    (hs : starEach [.Call (.Name "reversed" p2) [e1] [] pos2] X.env = [(false, eval (.Call (.Name "reversed" p2) [e1] [] pos2) X.env)] := by rfl)
    (hs2 : starEach [e1] X.env = [(false, eval e1 X.env)] := by rfl) :
    PE X (.Call (.Name "list" p) [.Call (.Name "reversed" p2) [e1] [] pos2] [] pos) (tListRev ta) := by
  intro pins s σ H Q I h
  refine wpAny_Call_Name_kw (ld_blt I hgl hml boot_list (PyProof.Rows.callWith_type1 ?_ (by rw [hs]; rfl) rfl))
  rw [hs]
  refine Calls.spliced_cons (wpAny_Call_Name_kw (ld_blt I hgz hmz boot_reversed (PyProof.Rows.callWith_type1 (thn (ha pos2 pins s σ H _ I h) fun us s1 ⟨vs, H1, I1, r1, q1⟩ => ?_) hs2 rfl)))
  obtain ⟨a, xs, rfl, ea, q⟩ := q1
  obtain ⟨ua, rfl, ra⟩ := vals1 r1
  cases (show ua = .ref a from ra)
  obtain ⟨za, ia, na, va, la, ha1⟩ := I1.lstM ea
  have hl1 : s1.heap.IsList a ia.toArray := ⟨_, ha1, rfl, _, rfl⟩
  have alt := Heap.lt_size ha1
  refine call_reversed_list hl1 ?_
  refine Calls.spliced_nil ?_
  have hne : a ≠ s1.heap.objs.size := Nat.ne_of_lt alt
  refine rev_call (its := ia.toArray) (I1.ok.hd hc) (by simp; omega) hne ⟨_, Heap.get?_push_size _ rfl, rfl, rfl⟩ (hl1.push _) fun h' tk acc c k3 hS hacc => ?_
  have hz : (s1.heap.push (revObj a ((ia.toArray.size : Int) - 1))).objs.size = s1.heap.objs.size + 1 := Heap.size_push ..
  have hk : ∀ b o, s1.heap.get? b = some o → h'.get? b = some o := fun b o e => k3 b o (Nat.ne_of_lt (Heap.lt_size e)) (Heap.get?_push_of_some _ e)
  have fr : H1 (s1.heap.objs.size + 1) = none := I1.hok.fresh (Nat.le_succ _)
  have hS2 : h'.get? (s1.heap.objs.size + 1) = some { cls := .type "list", dict := none, data := .seq acc c, slots := #[] } := by
    have := hS
    rw [show (Shared.heap { s1 with heap := s1.heap.push (revObj a ((ia.toArray.size : Int) - 1)) }).objs.size = s1.heap.objs.size + 1 from hz] at this
    exact this
  show EP X pins σ Q (.ref (s1.heap.push (revObj a ((ia.toArray.size : Int) - 1))).objs.size) _
  rw [hz]
  refine ⟨.ref (s1.heap.objs.size + 1), upd H1 (s1.heap.objs.size + 1) (.lst xs.reverse), ?_, rfl, q _ fr⟩
  show Inv X pins σ _ { s1 with heap := h', toks := tk }
  refine I1.laid (a := s1.heap.objs.size + 1) (o := .lst xs.reverse) (t' := tk) hk (Nat.le_succ _) ⟨by rw [List.length_reverse]; exact za, ia.reverse, c, vals_rev va, ?_⟩
  have : acc = ia.reverse.toArray := by
    apply Array.ext'
    rw [hacc]
  rw [← this]
  exact hS2
@[simp] def gRevL : D → Out Val
  | .lst ds => .ok (.fresh ds.reverse)
  | _ => .bad
theorem de_listRev {X : Cx} {G₀ H₀ : Hp} {p p2 pos pos2 : Pos} {e1 : Expr} {f : FE} (h1 : DE X G₀ H₀ e1 f) (hml : X.mg "list" = none) (hmz : X.mg "reversed" = none) (hc : X.calm = true := by rfl) (hgl : Gl X "list" := by rfl) (hgz : Gl X "reversed" := by rfl)
    (hs : starEach [.Call (.Name "reversed" p2) [e1] [] pos2] X.env = [(false, eval (.Call (.Name "reversed" p2) [e1] [] pos2) X.env)] := by rfl)
    (hs2 : starEach [e1] X.env = [(false, eval e1 X.env)] := by rfl) :
    DE X G₀ H₀ (.Call (.Name "list" p) [.Call (.Name "reversed" p2) [e1] [] pos2] [] pos) (f1 gRevL f) :=
  (pe_listRev hc (pa_cons h1 pa_nil hs2) hml hmz hgl hgz hs hs2).imp fun σ H Q q => by
    obtain ⟨env, G, val, I, e, k⟩ := q
    obtain ⟨x, ex, e⟩ := bind_inv e
    refine tE_one I ex fun v G' H' g l I' o => ?_
    unfold gRevL at e
    split at e
    · rename_i ds hd
      cases e
      rw [hd] at o
      obtain ⟨a, xs, rfl, ha, ra⟩ := Opd.lst I' o
      refine ⟨a, xs, rfl, ha, fun p hp => ?_⟩
      have g1 := Grow.laidL (o := .lst xs.reverse) l hp
      exact k _ _ _ (g.trans g1.1) g1.2 ⟨p, xs.reverse, rfl, none_of_same g.h hp, upd_same, l.free hp, ra.reverse⟩
    · cases e
end DL
set_option Elab.async false
set_option linter.all false
set_option maxRecDepth 100000
set_option maxHeartbeats 4000000
namespace DL
open PySem PySem.Spec PyProof.Rows L2
end DL
set_option Elab.async false
set_option linter.all false
set_option maxRecDepth 100000
set_option maxHeartbeats 4000000
namespace DL
open PySem PySem.Spec PyProof.Rows L2
def GoodG (gs : List Grp) : Prop := gs.length < 1000 ∧ ∀ g ∈ gs, g.2 ≠ [] ∧ g.2.length < 1000
open Classical in
noncomputable def nestS (m : List D → Out Val) (ft : FT) (f6 : FS) : FS := fun env => match env with
  | [.pers a, .pers b, .pers (.lst ds), _] => match asSpots ds with
    | some _ => match m [.lst ds] with
      | .ok (.fresh es) => if ∃ gs : List Grp, es = gs.map grpD ∧ GoodG gs then
          match ft [.pers a, .pers b, .pers (.lst ds), .pers (.lst es)] with
          | .ok true => .ok (.ret (.pers (.bl false)))
          | .ok false => f6 [.pers a, .pers b, .pers (.lst ds), .un]
          | _ => .bad
        else .bad
      | _ => .bad
    | none => .bad
  | _ => .bad
end DL
set_option Elab.async false
set_option linter.all false
set_option maxRecDepth 100000
set_option maxHeartbeats 4000000
namespace DL
open PySem PySem.Spec PyProof.Rows L2
theorem obj_there {P : Program} {w : World} {H : Hp} {h : Heap} {a : Addr} {u : HO} (x : ObjOk P w H h a u) : ∃ o, h.get? a = some o := by
  cases u with
  | lst xs => obtain ⟨_, _, _, _, e⟩ := x; exact ⟨_, e⟩
  | tup xs => obtain ⟨_, _, _, o, e, _⟩ := x; exact ⟨o, e⟩
  | dK kvs => obtain ⟨_, _, _, _, o, _, _, e, _⟩ := x; exact ⟨o, e⟩
  | dT kvs => obtain ⟨_, _, _, _, o, _, _, e, _⟩ := x; exact ⟨o, e⟩
  | set S n => obtain ⟨o, _, _, _, e, _⟩ := x; exact ⟨o, e⟩
  | ins C dx fs => obtain ⟨_, _, _, e, _⟩ := x; exact ⟨_, e⟩
  | own y => exact x
  | xd fs => obtain ⟨_, ⟨o, _, _, e, _⟩, _⟩ := x; exact ⟨o, e⟩
  | rng lo hi => obtain ⟨_, _, _, e⟩ := x; exact ⟨_, e⟩
  | frz ob u => obtain ⟨e, _⟩ := x; exact ⟨_, e⟩
  | tbl ps => exact ⟨_, x⟩
  | met f y => exact ⟨_, x⟩
  | ext φ => exact x.2.1
structure Fly (P : Program) (w : World) (outer : List Env) (H H' : Hp) (s s' : Shared) (e : Addr) (cls : Value) : Prop where
  os : s'.os = s.os
  bare : AllBare s'.gens
  same : Same H H'
  un : Un (frs outer) [] H H' s.heap s'.heap
  hok : HOk P w H' s'.heap
  fly : ∃ (B : Heap) (a0 : Value), Heap.FlyingW B outer e cls a0 s'.heap ∧ (∀ b o, s.heap.get? b = some o → H b = none → b ∉ frs outer → B.get? b = some o) ∧ (∀ b u o, H' b = some u → s'.heap.get? b = some o → B.get? b = some o)
def CXd (P : Program) (w : World) : CXT := fun outer H s E e s' => ∃ ea cls H', e = .ref ea ∧ Fly P w outer H H' s s' ea cls ∧ E cls none H'
section
variable {X : Cx} {pins : List (Addr × Obj)} {σ : St} {H H1 : Hp} {s s1 : Shared} {B h' : Heap} {e : Addr} {cls a0 : Value}
theorem fly_step (I : Inv X pins σ H s) (hex : X.ex = []) (h0 : Same X.H₀ H) (sm : Same H H1) (k1 : ∀ b o, s.heap.get? b = some o → H b = none → b ∉ frs X.stack → B.get? b = some o) (k2 : ∀ b u o, H1 b = some u → s1.heap.get? b = some o → B.get? b = some o)
    (un1 : Un (frs X.stack) [] H H1 s.heap s1.heap) (hok1 : HOk X.prog X.w H1 s1.heap) (st : B.StaysIn h') (up : s1.heap.UpToSlots h') (hos : s1.os = s.os) (hb : AllBare s1.gens) (fl : Heap.FlyingW B X.outer e cls a0 h') :
    Fly X.prog X.w X.outer X.H₀ H1 X.s₀ { s1 with heap := h' } e cls := by
  have nx : ∀ b : Addr, b ∉ X.ex := fun b => by rw [hex]; simp
  have neL : ∀ b o, X.s₀.heap.get? b = some o → b ≠ X.env.locals := fun b o e => Nat.ne_of_lt (Nat.lt_of_lt_of_le (Heap.lt_size e) I.ok.above)
  have K1 : ∀ b o, X.s₀.heap.get? b = some o → X.H₀ b = none → b ∉ frs X.outer → B.get? b = some o := fun b o e n hb =>
    k1 b o (I.base.keep b o e n hb (nx b)) (I.base.free b o e n (nx b)) fun z => (List.mem_cons.mp (I.stkSub b z)).elim (neL b o e) hb
  have T : ∀ b u, H1 b = some u → ∀ o, s1.heap.get? b = some o → h'.get? b = some o := fun b u e o q => st b o (k2 b u o e q)
  have thr : ∀ b u, H1 b = some u → ∃ o, h'.get? b = some o := fun b u e => by
    obtain ⟨o, q⟩ := obj_there (hok1 b u e)
    exact ⟨o, T b u e o q⟩
  have slot : ∀ b o, X.s₀.heap.get? b = some o → X.H₀ b = none → b ∈ frs X.outer → ∃ sl, h'.get? b = some { o with slots := sl } := fun b o e n hb => by
    obtain ⟨sl, e1⟩ := I.base.slot b o e n hb (nx b)
    have hbs : b ∈ frs X.stack := by
      rcases I.ok.stk with z | ⟨z, hf⟩
      · rw [z]; exact hb
      · rw [z]
        unfold frs
        rw [List.filterMap_cons, hf]
        exact List.mem_cons_of_mem _ hb
    obtain ⟨sl2, e2⟩ := un1.slot b _ e1 (I.base.free b o e n (nx b)) hbs (by simp)
    obtain ⟨_, o', ho', hd⟩ := I.funs.mem hb
    rw [e1] at ho'
    cases ho'
    obtain ⟨sl3, e3⟩ := up b _ e2 hd
    exact ⟨sl3, e3⟩
  refine ⟨hos.trans I.os, hb, h0.trans sm, ⟨fun b o e n hb _ => st b o (K1 b o e n hb), fun b o e n hb _ => slot b o e n hb, fun b o e n _ => ?_, fun b o e _ => ?_, fun b xs q => sm _ _ (h0 _ _ q), fun b o u q => sm _ _ (h0 _ _ q), fun b ps q => ⟨#[], by rw [sm _ _ (h0 _ _ q)]; simp⟩⟩, fun b u q => ?_, B, a0, fl, K1, fun b u o q1 q2 => ?_⟩
  · obtain ⟨o', e1⟩ := I.base.there b o e (nx b)
    exact un1.free b o' e1 (I.base.free b o e n (nx b)) (by simp)
  · cases q : X.H₀ b with
    | none =>
      by_cases hb : b ∈ frs X.outer
      · obtain ⟨sl, z⟩ := slot b o e q hb
        exact ⟨_, z⟩
      · exact ⟨o, st b o (K1 b o e q hb)⟩
    | some u => exact thr b u (sm _ _ (h0 _ _ q))
  · refine (hok1 b u q).stay (fun c v hc z => ?_) (fun _ z => z) fun _ _ z => z
    rcases hc with rfl | hc
    · exact T _ u q v z
    · exact T _ _ hc v z
  · obtain ⟨o', z⟩ := obj_there (hok1 b u q1)
    have z2 := k2 b u o' q1 z
    have z3 := st b o' z2
    rw [show h'.get? b = some o from q2] at z3
    cases z3
    exact z2
theorem fly_made {M : Model} {Q : Unit → Shared → Prop} {E : Value → Shared → Prop} {h1 : Heap} {vs : List Value} (I : Inv X pins σ H s) (hst : X.stack = X.env :: X.outer) (hf : X.env.frame = some X.env.locals) (hex : X.ex = []) (h0 : Same X.H₀ H) (hx : Heap.MadeExcOf s.heap h1 e cls vs)
    (hQ : ∀ s'', Fly X.prog X.w X.outer X.H₀ H X.s₀ s'' e cls → Q () s'') : wpAny M X.A (leaving X.env (.ref e)) Q E { s with heap := h1 } := by
  have hin : ∀ env ∈ X.stack, ∀ b, env.frame = some b → b ∈ frs X.stack := fun env he b hb => List.mem_filterMap.mpr ⟨env, he, hb⟩
  have hfr : X.A.frames = some (X.env :: X.outer) := by rw [I.ok.frames, hst]
  have hl : s.heap.FunFrames (PySem.W.hideAll s.heap (frs X.stack)) (X.env :: X.outer) := by
    rw [← hst]
    exact PySem.W.funFrames_hide I.stack hin
  refine wpAny_leaves_madeW (s := { s with heap := h1 }) hfr hf (fun b o q => PySem.W.of_hideAll _ q) hl hx fun h' t fl _ _ up => hQ _ ?_
  have nfr : ∀ b u, H b = some u → b ∉ frs X.stack := fun b u q z => by rw [I.stkFree b z] at q; cases q
  exact fly_step (s1 := { s with heap := h1 }) I hex h0 (Same.refl _) (fun b o q n z => PySem.W.hideAll_get _ q z) (fun b u o q1 q2 => by
    obtain ⟨o', z⟩ := obj_there (I.hok b u q1)
    have := hx.keeps b o' z
    rw [show h1.get? b = some o from q2] at this
    cases this
    exact PySem.W.hideAll_get _ z (nfr b u q1)) (Un.kept hx.keeps) (I.hok.kept hx.keeps) fl.1 up rfl I.bare fl
theorem fly_pass {M : Model} {Q : Unit → Shared → Prop} {E : Value → Shared → Prop} (I : Inv X pins σ H s) (hst : X.stack = X.env :: X.outer) (hf : X.env.frame = some X.env.locals) (hex : X.ex = []) (h0 : Same X.H₀ H) (F : Fly X.prog X.w X.stack H H1 s s1 e cls)
    (hQ : ∀ s'', Fly X.prog X.w X.outer X.H₀ H1 X.s₀ s'' e cls → Q () s'') : wpAny M X.A (leaving X.env (.ref e)) Q E s1 := by
  obtain ⟨B, a0, fl, k1, k2⟩ := F.fly
  have hfr : X.A.frames = some (X.env :: X.outer) := by rw [I.ok.frames, hst]
  rw [hst] at fl
  exact wpAny_leaves_onW hfr hf fl fun h' fl' up => hQ _ (fly_step I hex h0 F.same k1 k2 F.un F.hok fl'.1 up F.os F.bare fl')
end
end DL
set_option Elab.async false
set_option linter.all false
set_option maxRecDepth 100000
set_option maxHeartbeats 4000000
namespace DL
open PySem PySem.Spec PyProof.Rows L2
abbrev SS := Ev → St → Hp → Hp → Prop
def Wish (mk : Bool) (X : Cx) (pins : List (Addr × Obj)) (S : SS) (c : Str) : Prop :=
  (mk = true → ∀ (σ : St) (H G : Hp) (env : Ev) (s : Shared) (e : Addr) (h1 : Heap) (vs : List Value) (C : Addr), Inv X pins σ H s → S env σ G H → X.mg c = some (.ref C) → Heap.MadeExcOf s.heap h1 e (.ref C) vs → X.xe (.ref e) { s with heap := h1 }) ∧
  (∀ (σ : St) (H G H1 G1 : Hp) (env : Ev) (s s1 : Shared) (e C : Addr), Inv X pins σ H s → S env σ G H → X.mg c = some (.ref C) → Fly X.prog X.w X.stack H H1 s s1 e (.ref C) → Grow G H G1 H1 → Same G1 H1 → X.xe (.ref e) s1)
abbrev RR := Ev → Str → Prop
section
variable (mk : Bool) (X : Cx) (G₀ H₀ : Hp)
def RW (α : Type) (m : Sem α) (R : RR) : Prop := ∀ (pins : List (Addr × Obj)) (s : Shared) (σ : St) (H : Hp) (env : Ev) (G : Hp) (c : Str) (Q : α → Shared → Prop) (S : SS), Inv X pins σ H s → DI X.K G₀ H₀ env σ G H → R env c → (∀ G' H', Grow G H G' H' → Same G' H' → S env σ G' H') → Wish mk X pins S c → wpAny (model X.prog X.w) X.A m Q X.xe s
def RS (st : Stmt) (R : RR) : Prop := RW mk X G₀ H₀ Flow (exec st X.env) R
def RSs (st : List Stmt) (R : RR) : Prop := RW mk X G₀ H₀ Flow (execs st X.env) R
def RE (e : Expr) (R : RR) : Prop := RW mk X G₀ H₀ Value (eval e X.env) R
end
def RG (X : Cx) (G₀ H₀ : Hp) (st : List Stmt) (R : RR) : Prop := ∀ (pins : List (Addr × Obj)) (s : Shared) (σ : St) (H : Hp) (env : Ev) (G : Hp) (c : Str) (Q : Flow → Shared → Prop), Inv X pins σ H s → DI X.K G₀ H₀ env σ G H → R env c → Wish true X pins (fun env σ G H => DI X.K G₀ H₀ env σ G H) c → wpAny (model X.prog X.w) X.A (execs st X.env) Q X.xe s
section
variable {mk : Bool} {X : Cx} {G₀ H₀ : Hp} {pos : Pos} {R : RR}
theorem rss_head {st : Stmt} {rest : List Stmt} (h : RS mk X G₀ H₀ st R) : RSs mk X G₀ H₀ (st :: rest) R := fun pins s σ H env G c Q S I d r k W => wpAny_execs_cons (h pins s σ H env G c _ S I d r k W)
theorem rg_head {st : Stmt} {rest : List Stmt} (h : RS true X G₀ H₀ st R) : RG X G₀ H₀ (st :: rest) R := fun pins s σ H env G c Q I d r W => wpAny_execs_cons (h pins s σ H env G c _ _ I d r (fun G' H' g l => d.grow g l) W)
theorem rs_if {c : Expr} {a b : List Stmt} {ft : FT} (hc : DT X G₀ H₀ c ft) (ha : RSs mk X G₀ H₀ a R) : RS mk X G₀ H₀ (.If c a b pos) (fun env c => ft env = .ok true ∧ R env c) := by
  intro pins s σ H env G cc Q S I d ⟨e, r⟩ k W
  refine wpAny_If (thn (hc pins s σ H (fun b H' => b = true ∧ ∃ G', Grow G H G' H' ∧ Same G' H') I ⟨env, G, true, d, e, fun G' H' g l => ⟨rfl, G', g, l⟩⟩) fun d' s1 ⟨H1, I1, q1, G1, g1, l1⟩ => ?_)
  subst q1
  exact ha pins s1 σ H1 env G1 cc Q S I1 (d.grow g1 l1) r (fun G' H' g l => k G' H' (g1.trans g) l) W
def spR (K : PySem.W.Frag) (mg : Str → Option Value) (R : List D → Str → Prop) (n : Nat) : Sp := fun vs H _ E => ∃ G ds c, ds.length = n ∧ Same G H ∧ RepL K G ds vs ∧ R ds c ∧
  ∀ C G' H', Grow G H G' H' → Same G' H' → mg c = some (.ref C) → E (.ref C) none H'
structure CalR (P : Program) (w : World) (K : PySem.W.Frag) (mg : Str → Option Value) (base : Heap) (k : Nat) (x : Str) (ps : List Str) (R : List D → Str → Prop) : Prop where
  ex : ∃ (f : Addr) (fd : FuncData), FnOk P w K mg base (CXd P w) k f fd ps (spR K mg R ps.length) ∧ mg x = some (.ref f) ∧ PySem.W.keepIn K (.ref f) = true ∧ Binds K fd ps []
theorem CalR.mono {P : Program} {w : World} {K : PySem.W.Frag} {mg : Str → Option Value} {base : Heap} {j k : Nat} {x : Str} {ps : List Str} {R : List D → Str → Prop} (c : CalR P w K mg base j x ps R) (h : j ≤ k) : CalR P w K mg base k x ps R := by
  obtain ⟨f, fd, F, r⟩ := c.ex
  exact ⟨f, fd, F.mono h, r⟩
theorem re_call {k : Nat} {x : Str} {ps : List Str} {p : Pos} {e : Expr} {es : List Expr} {r : Ev → Out (List Val)} {R : List D → Str → Prop} (C : CalR X.prog X.w X.K X.mg X.base k x ps R) (hr : Room k X.A) (ha : DA X G₀ H₀ (e :: es) r)
    (hlen : ∀ env xs, r env = .ok xs → xs.length = ps.length) (hg : Gl X x := by rfl) (hdb : (x == ("__debug__" : Str)) = false := by decide) (he : starEach (e :: es) X.env = (false, eval e X.env) :: starEach es X.env := by rfl) (hpl : (backTo pos (starEach es X.env)).any (·.1) = false := by rfl) :
    RE mk X G₀ H₀ (.Call (.Name x p) (e :: es) [] pos) (fun env c => ∃ xs, r env = .ok xs ∧ xs.all Val.isPers = true ∧ R (xs.map Val.d) c) := by
  obtain ⟨f, fd, F, hm, hk, hb⟩ := C.ex
  intro pins s σ H env G c Q S I d ⟨xs, e1, hp, hR⟩ kS W
  refine wpAny_Call_Name_kw (ld_glob I hg hm ?_ hdb)
  refine PySem.W.callWith_K (h₀ := X.base) I.ok.mod.kin hk (thn (ha pos pins s σ H (fun vs H1 => ∃ G1, Grow G H G1 H1 ∧ Same G1 H1 ∧ ArgsOk X.K env σ G1 vs xs) I ⟨env, G, xs, d, e1, fun vs G' H' g l a => ⟨G', g, l, a⟩⟩) fun us s1 ⟨vs, H1, I1, rr, G1, g1, l1, a1⟩ => ⟨I1.kIn, ?_⟩) he hpl
  have d1 := d.grow g1 l1
  have rep := argsRep a1 hp
  have hlx : (xs.map Val.d).length = ps.length := by rw [List.length_map]; exact hlen env xs e1
  have hl : (us ++ []).length = ps.length := by rw [List.append_nil, ← rr.length, ← rep.length]; exact hlx
  have hbs := hb s1 us I1.kIn hl
  rw [List.append_nil] at hbs
  have sp : spR X.K X.mg R ps.length vs H1 (fun _ _ => False) (fun cls _ H2 => ∃ C G2, cls = .ref C ∧ X.mg c = some (.ref C) ∧ Grow G1 H1 G2 H2 ∧ Same G2 H2) := ⟨G1, xs.map Val.d, c, hlx, l1, rep, hR, fun C G' H' g l hm => ⟨C, G', rfl, hm, g, l⟩⟩
  refine wpAny_call (codeAny_mono (F.run X.A X.stack s1 H1 ⟨us, []⟩ us vs _ _ hr I1.env0 hbs rr sp) fun r' s' hq => ?_)
  cases r' with
  | error e' =>
    obtain ⟨ea, cls, H2, rfl, fl, C', G2, rfl, hm', g2, l2⟩ := hq
    exact W.2 σ H1 G1 H2 G2 env s1 s' ea C' I1 (kS G1 H1 g1 l1) hm' fl g2 l2
  | ok fl =>
    cases fl with
    | ret u => obtain ⟨_, _, _, _, _, _, _, z⟩ := hq; exact z.elim
    | next => exact False.elim hq
    | brk => exact False.elim hq
    | cont => exact False.elim hq
end
def runR (n : Nat) (R : RR) (ds : List D) (c : Str) : Prop := R (ds.map Slot.pers ++ List.replicate (n - ds.length) .un) c
theorem fnx_ok {P : Program} {w : World} {K : PySem.W.Frag} {mg : Str → Option Value} {base : Heap} {x qual : Str} {st : Stmt} {f : Addr} {fd : FuncData} {N ps : List Str} {k : Nat} {R : RR} (F : Fun K x qual st f fd) (S : FnScope N ps (defScope st))
    (hb : ∀ (cdv : Value) (A : Around) (outer : List Env) (s : Shared) (G H : Hp) (E : XK), Room k (A.deeper (envOfC qual (defScope st) s.heap.objs.size f cdv)) →
      RG (cxOf (CXd P w) P w K mg base N qual (defScope st) f cdv A outer s H E) G H (defBody st) R) : FnOk P w K mg base (CXd P w) (k + 1) f fd ps (spR K mg (runR N.length R) ps.length) := by
  have hpl : ps.length ≤ N.length := by have := congrArg List.length S.pre; rw [List.length_take] at this; omega
  obtain ⟨oc, od, kV, doc, pm, an, cdv, ct, osl, rfl, lk, hcd⟩ := F.ex
  refine fn_of lk hcd S (fun vs H Q E h => ?_) fun A outer s H vs Q E hr h => ?_
  · obtain ⟨G, ds, c, hl, _, r, _⟩ := h
    rw [← r.length]; exact hl
  · obtain ⟨G, ds, c, hl, l, r, hR, hE⟩ := h
    refine ⟨fun _ σ H' => ∃ env G' c, DI K G H env σ G' H' ∧ R env c ∧ ∀ pins, Wish true (cxOf (CXd P w) P w K mg base N qual (defScope st) f cdv A outer s H E) pins (fun env σ G' H' => DI K G H env σ G' H') c, fun pins s1 σ H1 D I ⟨env, G', c', d, r', W⟩ => hb cdv A outer s G H E hr pins s1 σ H1 env G' c' _ I d r' (W pins), ?_⟩
    refine ⟨_, G, c, start_DI l r (by omega), hR, fun pins => ⟨fun _ σ H1 G1 env s1 e h1 vs C I d hm hx => ?_, fun σ H1 G1 H2 G2 env s1 s2 e C I d hm fl g l2 => ?_⟩⟩
    · exact fly_made I rfl rfl rfl d.gr.h hx fun s'' fl => ⟨e, .ref C, _, rfl, fl, hE C _ _ d.gr d.le hm⟩
    · exact fly_pass I rfl rfl rfl d.gr.h fl fun s'' fl => ⟨e, .ref C, _, rfl, fl, hE C _ _ (d.gr.trans g) l2 hm⟩
end DL
set_option Elab.async false
set_option linter.all false
set_option maxRecDepth 100000
set_option maxHeartbeats 4000000
namespace DL
open PySem PySem.Spec PyProof.Rows L2 PySem.W PySem.Builtin PySem.Builtin.ObjectAttr PySem.Builtin.Getset_descriptor
structure ExCls (K : PySem.W.Frag) (C : Addr) : Prop where
  cl : (clsIn K C).isSome = true
  ga : findIn K (.ref C) "__getattribute__" = some (some (.builtin "BaseException.__getattribute__"))
  gn : findIn K (.ref C) "__getattr__" = some none
  ca : findIn K (.ref C) "__class__" = some (some (.builtin "object.__class__"))
  cg : specialIn K (.builtin "object.__class__") "__get__" = some (some (.builtin "getset_descriptor.__get__"))
  ct : takesIn K (.builtin "object.__class__") = some true
  mo : mroIn K C (.type "object") = some true
  mb : mroIn K C (.type "BaseException") = some true
def ExcAt (e C : Addr) (h : Heap) : Prop := ∃ ob, h.get? e = some ob ∧ ob.cls = .ref C
theorem exc_ty {M : Model} {h : Heap} {e C : Addr} (p : ExcAt e C h) : Looks M h (typeOf (.ref e)) (.ref C) := by
  obtain ⟨ob, h1, h2⟩ := p
  exact h2 ▸ (Looks.ld h1).andThen .now
section
variable {prog : Program} {w : World} {A : Around} {E : Value → Shared → Prop} {s : Shared} {K : PySem.W.Frag} {e C : Addr}
theorem exc_find {M : Model} {h : Heap} (X : K.In h) (Z : ExCls K C) : Looks M h (find (.ref e) (.ref C) "__class__") (.bind (.builtin "getset_descriptor.__get__") (.builtin "object.__class__")) := by
  have L1 := looks_findIn (M := M) X Z.ca
  have L2 : Looks M h (getOf (some (.builtin "object.__class__"))) (some (.builtin "getset_descriptor.__get__")) := looks_specialIn X Z.cg
  have L3 := looks_takesIn (M := M) X Z.ct
  have L4 : Looks M h (dataDescriptor? (some (.builtin "object.__class__")) (some (.builtin "getset_descriptor.__get__"))) (some (.builtin "getset_descriptor.__get__", .builtin "object.__class__")) := L3.andThen .now
  exact L1.andThen (L2.andThen (L4.andThen (Looks.tag .now)))
theorem exc_class {tp : Value} {R : Result → Shared → Prop} (X : K.In s.heap) (p : ExcAt e C s.heap) (Z : ExCls K C) (hR : R (.ok (.ret (.ref C))) s) :
    codeAny (model prog w) A (.call (.builtin "getset_descriptor.__get__") ⟨[.builtin "object.__class__", .ref e, tp], []⟩) R s := by
  obtain ⟨h0, g0, d0, t0, o0⟩ := s
  have L0 := exc_ty (M := model prog w) p
  have L1 := looks_mroIn (M := model prog w) X Z.mo
  refine codeAny_call_builtin (KF.slot_gs.plain) (KF.entry_gs) (KF.slot_gs.check _ _ _ _ _ _ _ _ (KF.type_class) (KF.args_gs _ _ _) (?_))
  unfold Builtin.«getset_descriptor.__get__» descrGet
  rw [dga_obj]; refine wpAny_bind (wpAny_pure (?_))
  unfold descrGetter descrCheckInstance descrNameAndClass isInstance; simp only [KF.owner_class]
  repeat lk
  refine ⟨Code.quiet_builtin _ (by decide +kernel), codeAny_builtin (KF.entry_class) (?_)⟩
  unfold Builtin.«object.__class__» shownTypeOf; repeat lk
  exact hR
theorem exc_ga {tk : Tok} {R : Result → Shared → Prop} (X : K.In s.heap) (p : ExcAt e C s.heap) (Z : ExCls K C) (hR : R (.ok (.ret (.ref C))) s) :
    codeAny (model prog w) A (.call (.builtin "BaseException.__getattribute__") ⟨[.ref e, .str "__class__" tk], []⟩) R s := by
  obtain ⟨h0, g0, d0, t0, o0⟩ := s
  have L0 := exc_ty (M := model prog w) p
  have L1 := looks_mroIn (M := model prog w) X Z.mb
  have L2 := exc_find (M := model prog w) (e := e) X Z
  have hk : builtinKind "BaseException.__getattribute__" = some .slot := by decide +kernel
  have hsp : splitId "BaseException.__getattribute__" = some ("BaseException", "__getattribute__") := by decide +kernel
  have hpl : plainId "BaseException.__getattribute__" = true := by decide +kernel
  have hargs := F.args_bexc_ga (.ref e) (.str "__class__" tk)
  refine codeAny_call_builtin hpl F.entry_bexc_ga ?_
  simp only [checkBuiltinCall, hk, hsp]
  refine wpAny_bind ?_
  unfold isInstance
  repeat (first | lk | wp_step)
  refine wpAny_run (h := none) (exc_class X p Z ?_)
  exact wpAny_pure (wpAny_pure hR)
theorem exc_attr {Q : Option Value → Shared → Prop} (X : K.In s.heap) (p : ExcAt e C s.heap) (Z : ExCls K C) (hQ : Q (some (.ref C)) { s with toks := s.toks + 1 }) :
    wpAny (model prog w) A (getAttr? (.ref e) "__class__") Q E s := by
  obtain ⟨h0, g0, d0, t0, o0⟩ := s
  have L0 := exc_ty (M := model prog w) p
  have L1 := looks_findIn (M := model prog w) X Z.ga
  have L2 := looks_findIn (M := model prog w) X Z.gn
  have hx2 : (Value.builtin "BaseException.__getattribute__" == Value.builtin "object.__getattribute__") = false := by decide +kernel
  have hx1 : (onTheHeap (Value.ref C) && Value.builtin "BaseException.__getattribute__" == Value.builtin "object.__getattribute__") = false := by rw [hx2]; rfl
  unfold getAttr? getAttrBy? getAttrBy
  refine wpAny_bind (wpAny_mkText (wpAny_bind (wpAny_attempt (wpAny_holding (wpAny_bind (L0.at (wpAny_bind (L1.at ?_))))))))
  dsimp only
  rw [hx1]
  simp only [Bool.false_eq_true, if_false]
  have hb := PySem.F.attr_ValueError.ga.bind (.ref e)
  have hx0 : ∀ b, (b && onTheHeap (Value.builtin "BaseException.__getattribute__")) = false := fun b => by cases b <;> rfl
  unfold getAttrByItsOwn
  refine wpAny_bind ?_
  show wpAny _ _ (typeLookup (.ref C) "__getattr__") _ _ _
  refine L2.at ?_
  refine wpAny_bind (wpAny_attempt (wpAny_holding ?_))
  show wpAny _ _ (boundAndCalled (.builtin "BaseException.__getattribute__") (.ref e) (.str "__class__" t0)) _ _ _
  unfold boundAndCalled
  refine wpAny_bind (wpAny_of_eq hb ?_)
  refine wpAny_call (exc_ga (s := ⟨h0, g0, d0, t0 + 1, o0⟩) X p Z ?_)
  exact handed_on rfl (wpAny_pure hQ)
theorem kitx_exc (Z : ExCls K C) : KitX K (.ref e) (.ref C) (ExcAt e C) where
  ty := fun _ _ _ p => exc_ty p
  it := fun _ _ X _ => by
    obtain ⟨cd, hc⟩ := Option.isSome_iff_exists.mp Z.cl
    unfold clsIn at hc
    split at hc
    · rename_i ho
      exact fun A' Q' E' s' k q => wpAny_bind (wpAny_loadPart (k _ _ (X _ _ ho)) (wpAny_pure q))
    · cases hc
  ne := fun h tp dd its n sl X htp => by
    obtain ⟨cd, hc⟩ := Option.isSome_iff_exists.mp Z.cl
    cases hq : (Value.ref C == Value.ref tp) with
    | false => rfl
    | true =>
      exfalso
      have ee : C = tp := Value.ref.inj (beq_iff_eq.mp hq)
      rw [← ee] at htp
      unfold clsIn at hc
      split at hc
      · rename_i ho
        have := (X _ _ ho).symm.trans htp
        cases this
      · cases hc
  ca := fun X p k => exc_attr X p Z k
end
end DL
set_option Elab.async false
set_option linter.all false
set_option maxRecDepth 100000
set_option maxHeartbeats 4000000
namespace DL
open PySem PySem.Spec PyProof.Rows L2
abbrev marked (X : Cx) (e : Addr) : Cx := { X with A := X.A.mark (some (.ref e)), calm := false, xe := fun _ _ => False }
section
variable {X : Cx} {pins : List (Addr × Obj)} {σ : St} {H H1 : Hp} {s s1 : Shared} {B h' : Heap} {e C : Addr} {cls a0 : Value}
theorem inv_mark (I : Inv X pins σ H s) (e : Addr) : Inv (marked X e) pins σ H s :=
  ⟨⟨I.ok.mod, I.ok.kind, I.ok.glob, I.ok.blt, I.ok.above, I.ok.inj, I.ok.has, I.ok.cab, (fun z => by cases z), I.ok.frames, I.ok.stk, I.ok.exf, I.ok.bs, I.ok.bsz, I.ok.noex, I.ok.exfs, I.ok.funs, I.ok.frf⟩, I.os, I.bare, I.base, I.loc, I.cell, I.free, I.freeC, I.pin, I.hok, I.len⟩
theorem inv_unmark (ok : X.Ok) (I : Inv (marked X e) pins σ H s) : Inv X pins σ H s := ⟨ok, I.os, I.bare, I.base, I.loc, I.cell, I.free, I.freeC, I.pin, I.hok, I.len⟩
theorem land (I : Inv X pins σ H s) (sm : Same H H1) (k1 : ∀ b o, s.heap.get? b = some o → H b = none → b ∉ frs X.stack → B.get? b = some o) (k2 : ∀ b u o, H1 b = some u → s1.heap.get? b = some o → B.get? b = some o)
    (un1 : Un (frs X.stack) [] H H1 s.heap s1.heap) (hok1 : HOk X.prog X.w H1 s1.heap) (st : B.StaysIn h') (up : s1.heap.UpToSlots h') (hos : s1.os = s.os) (hb : AllBare s1.gens) : Inv X pins σ H1 { s1 with heap := h' } := by
  have T : ∀ b u, H1 b = some u → ∀ o, s1.heap.get? b = some o → h'.get? b = some o := fun b u e o q => st b o (k2 b u o e q)
  have slot : ∀ b o, s.heap.get? b = some o → H b = none → b ∈ frs X.stack → ∃ sl, h'.get? b = some { o with slots := sl } := fun b o e n hb => by
    obtain ⟨sl, e1⟩ := un1.slot b o e n hb (by simp)
    obtain ⟨_, o', ho', hd⟩ := I.stack.mem hb
    rw [e] at ho'
    cases ho'
    obtain ⟨sl2, e2⟩ := up b _ e1 hd
    exact ⟨sl2, e2⟩
  refine I.call' (ch := []) hos ⟨fun b o e n hb _ => st b o (k1 b o e n hb), fun b o e n hb _ => slot b o e n hb, fun b o e n _ => un1.free b o e n (by simp), fun b o e _ => ?_, fun b xs q => sm _ _ q, fun b o u q => sm _ _ q, fun b ps q => ⟨#[], by rw [sm _ _ q]; simp⟩⟩ (fun b u q => ?_) hb (fun b z => absurd z (by simp))
  · cases q : H b with
    | none =>
      by_cases hb : b ∈ frs X.stack
      · obtain ⟨sl, z⟩ := slot b o e q hb
        exact ⟨_, z⟩
      · exact ⟨o, st b o (k1 b o e q hb)⟩
    | some u =>
      obtain ⟨o', z⟩ := obj_there (hok1 b u (sm _ _ q))
      exact ⟨o', T b u (sm _ _ q) o' z⟩
  · refine (hok1 b u q).stay (fun c v hc z => ?_) (fun _ z => z) fun _ _ z => z
    rcases hc with rfl | hc
    · exact T _ u q v z
    · exact T _ _ hc v z
theorem inv_hold (I : Inv X pins σ H s) (hex : X.ex = []) (p : ExcAt e C s.heap) (hn : H e = none) (ne : e ≠ X.env.locals) (nc : ∀ x c, X.env.cells.lookup x = some c → c ≠ e) (n0 : X.s₀.heap.get? e = none) (np : ∀ q ∈ X.pn ++ pins, q.1 ≠ e) : Inv X pins σ (upd H e (.ext (ExcAt e C))) s := by
  have hb := I.base
  have U : ∀ b u, H b = some u → upd H e (.ext (ExcAt e C)) b = some u := fun b u q => by rw [upd_ne (ne_of_none q hn)]; exact q
  refine ⟨I.ok, I.os, I.bare, ⟨hb.keep, hb.slot, fun b o q n hx => ?_, hb.there, fun b xs q => U _ _ (hb.tups b xs q), fun b o u q => U _ _ (hb.frzs b o u q), fun b ps q => ?_⟩, I.loc, I.cell, ?_, fun x c q => ?_, fun q hq => ?_, fun b u q => ?_, I.len⟩
  · have : b ≠ e := fun z => by rw [z, n0] at q; cases q
    rw [upd_ne this]
    exact hb.free b o q n hx
  · obtain ⟨more, z⟩ := hb.tbls b ps q
    exact ⟨more, U _ _ z⟩
  · rw [upd_ne (Ne.symm ne)]; exact I.free
  · rw [upd_ne (nc x c q)]; exact I.freeC x c q
  · obtain ⟨a1, a2, a3⟩ := I.pin q hq
    exact ⟨a1, by rw [upd_ne (np q hq)]; exact a2, a3⟩
  · by_cases hbe : b = e
    · subst hbe
      rw [upd_same] at q
      cases q
      refine ⟨p, ?_, fun h1 h2 z k => ?_⟩
      · obtain ⟨ob, z, _⟩ := p; exact ⟨ob, z⟩
      · obtain ⟨ob, z1, z2⟩ := z; exact ⟨ob, k ob z1, z2⟩
    · rw [upd_ne hbe] at q
      exact (I.hok b u q).stay (fun _ _ _ z => z) (fun c z => U _ _ z) fun c xs z => U _ _ z
end
end DL
set_option Elab.async false
set_option linter.all false
set_option maxRecDepth 100000
set_option maxHeartbeats 4000000
namespace DL
open PySem PySem.Spec PyProof.Rows L2
section
variable {X : Cx} {pins : List (Addr × Obj)} {σ : St} {H H1 : Hp} {s s1 : Shared} {e C : Addr}
theorem fly_new (I : Inv X pins σ H s) (F : Fly X.prog X.w X.stack H H1 s s1 e (.ref C)) : s.heap.get? e = none ∧ H1 e = none := by
  obtain ⟨B, a0, fl, k1, k2⟩ := F.fly
  obtain ⟨_, f2, _, oe, vs, T, oT, ts, he, _, hd, _⟩ := fl
  have hn : H1 e = none := by
    cases q : H1 e with
    | none => rfl
    | some u =>
      have := k2 e u oe q he
      rw [f2] at this
      cases this
  refine ⟨?_, hn⟩
  cases q : s.heap.get? e with
  | none => rfl
  | some o =>
    exfalso
    have hH : H e = none := by
      cases z : H e with
      | none => rfl
      | some u => rw [F.same e u z] at hn; cases hn
    by_cases hb : e ∈ frs X.stack
    · obtain ⟨_, o', ho', hnf⟩ := I.stack.mem hb
      rw [q] at ho'
      cases ho'
      obtain ⟨sl, e1⟩ := F.un.slot e o q hH hb (by simp)
      rw [he] at e1
      cases e1
      exact hnf vs hd
    · have := k1 e o q hH hb
      rw [f2] at this
      cases this
theorem inv_drop {j : Nat} {n : Str} {h' : Heap} {m : Str → Option Value} {v : Option Value} {tk : Nat} (I : Inv X pins σ H s) (hN : X.N.Nodup) (hj : X.N[j]? = some n) (hl : X.env.scope.names.lookup n = some .local)
    (hm : s.heap.Ns X.env.locals m) (hn : h'.Ns X.env.locals (fun x => if x = n then v else m x)) (sb : Heap.SameBut X.env.locals s.heap h') : Inv X pins (σ.set j none) H { s with heap := h', toks := tk } := by
  obtain ⟨m0, hm0, hv⟩ := I.loc
  have em : ∀ x, m0 x = m x := fun x => by
    obtain ⟨o, es, ep, ho, hd, _, hf⟩ := hm0
    obtain ⟨o', es', ep', ho', hd', _, hf'⟩ := hm
    rw [ho] at ho'
    cases ho'
    rw [hd] at hd'
    cases hd'
    rw [← hf x, ← hf' x]
  have neL : ∀ b o, X.s₀.heap.get? b = some o → b ≠ X.env.locals := fun b o e => Nat.ne_of_lt (Nat.lt_of_lt_of_le (Heap.lt_size e) I.ok.above)
  refine ⟨I.ok, I.os, I.bare, ⟨fun b o q z hb hx => ?_, fun b o q z hb hx => ?_, I.base.free, fun b o q hx => ?_, I.base.tups, I.base.frzs, I.base.tbls⟩, ⟨_, hn, fun i x w e1 e2 e3 => ?_⟩, fun y c q => ?_, I.free, I.freeC, fun p hp => ?_, fun b u q => ?_, by simpa using I.len⟩
  · exact (sb.2 b (neL b o q)).trans (I.base.keep b o q z hb hx)
  · obtain ⟨sl, z1⟩ := I.base.slot b o q z hb hx
    exact ⟨sl, (sb.2 b (neL b o q)).trans z1⟩
  · obtain ⟨o', z1⟩ := I.base.there b o q hx
    exact ⟨o', (sb.2 b (neL b o q)).trans z1⟩
  · have hij : i ≠ j := fun z => by
      rw [z, List.getElem?_set] at e2
      simp at e2
    rw [List.getElem?_set_ne (Ne.symm hij)] at e2
    obtain ⟨u, r, lk⟩ := hv i x w e1 e2 e3
    refine ⟨u, r, ?_⟩
    rcases lk with ⟨k, z⟩ | ⟨k, c, z1, z2⟩
    · refine .inl ⟨k, ?_⟩
      have : x ≠ n := fun z' => hij (nodup_ix hN e1 (z' ▸ hj))
      simp only [if_neg this, ← em]
      exact z
    · exact .inr ⟨k, c, z1, z2.sameBut sb (I.cne x c z1)⟩
  · obtain ⟨w', z⟩ := I.cell y c q
    exact ⟨w', z.sameBut sb (I.cne y c q)⟩
  · obtain ⟨z1, z2, z3, z4, z5⟩ := I.pin p hp
    exact ⟨(sb.2 p.1 z3).trans z1, z2, z3, z4, z5⟩
  · refine (I.hok b u q).stay (fun c w' hc z => (sb.2 c ?_).trans z) (fun _ z => z) fun _ _ z => z
    rintro rfl
    rcases hc with z' | z'
    · rw [← z', I.free] at q; cases q
    · rw [I.free] at z'; cases z'
theorem catch_as {x n : Str} {j : Nat} {np hpos : Pos} {B0 : Addr} {b₀ : Stmt} {suite : List Stmt} {t : TS} {Q : Flow → Shared → Prop} (I : Inv X pins σ H s) (F : Fly X.prog X.w X.stack H H1 s s1 e (.ref C)) (hst : X.stack = X.env :: X.outer) (hf : X.env.frame = some X.env.locals) (hex : X.ex = [])
    (hm : X.mg x = some (.ref B0)) (hx : PySem.W.exmOne X.K (.ref C) (.ref B0) = some true) (hg : Gl X x) (hN : X.N.Nodup) (hj : X.N[j]? = some n) (hl : X.env.scope.names.lookup n = some .local)
    (hb : PSs (marked X e) (b₀ :: suite) t) {nx : St → Hp → Prop} (ht : t { nx := nx, rt := fun _ _ => False } (σ.set j (some (.ref e))) (upd H1 e (.ext (ExcAt e C)))) (hnx : ∀ σ' H' s', nx σ' H' → Inv X pins (σ'.set j none) H' s' → Q .next s') (hd : (x == ("__debug__" : Str)) = false := by decide) :
    wpAny (model X.prog X.w) X.A (noteFrame (.ref e) X.env) (fun _ s₂ => wpAny (model X.prog X.w) X.A (setFlight (.ref e) none) (fun _ s₃ => wpAny (model X.prog X.w) X.A (handleBy (.ref e) X.env [.ExceptHandler (some (.Name x np)) (some n) (b₀ :: suite) hpos]) Q X.xe s₃) X.xe s₂) X.xe s1 := by
  obtain ⟨new1, new2⟩ := fly_new I F
  obtain ⟨B, a0, fl, k1, k2⟩ := F.fly
  have hfr : X.A.frames = some (X.env :: X.outer) := by rw [I.ok.frames, hst]
  rw [hst] at fl
  refine wpAny_looks_onW hfr hf fl fun h4 held4 up4 => ?_
  refine wpAny_landsW (s := { s1 with heap := h4 }) held4 fun h5 fl5 up5 => ?_
  have up15 := up4.trans up5
  have J5 := land I F.same k1 k2 F.un F.hok fl5.1 up15 F.os F.bare
  have M5 := inv_mark J5 e
  have p5 : ExcAt e C h5 := fl5.there
  have hkind : X.env.kindOf n = some .local := hl
  refine wpAny_handleBy_cons (codeAny_handlers_test (ld_glob M5 hg hm ?_ hd)) (by intro q; cases q)
  refine PySem.W.exm_one (M := model X.prog X.w) J5.kIn (exc_ty p5) hx _ _ _ _ (fun _ _ z => z) ?_
  refine codeAny_handlers_suite_as ?_
  refine lands_againW (s := { s1 with heap := h5 }) fl5 fun h6 fl6 up6 => ?_
  have J6 : Inv X pins σ H1 { s1 with heap := h6 } := land I F.same k1 k2 F.un F.hok fl6.1 (up15.trans up6) F.os F.bare
  have neX : ∀ b o, s.heap.get? b = some o → b ≠ e := fun b o q z => by rw [z, new1] at q; cases q
  have J7 := inv_hold (C := C) J6 hex fl6.there new2 (fun z => by
      obtain ⟨_, ⟨o, _, _, ho, _⟩, _⟩ := I.loc
      exact neX _ o ho z.symm) (fun y c q => by
      obtain ⟨w', o, ho, _⟩ := I.cell y c q
      exact neX c o ho) (by
      cases q : X.s₀.heap.get? e with
      | none => rfl
      | some o =>
        obtain ⟨o', z⟩ := I.base.there e o q (by rw [hex]; simp)
        rw [new1] at z
        cases z) (fun q hq => neX q.1 q.2 (I.pin q hq).1)
  refine store_ok (X := marked X e) (v := V.ref e) (inv_mark J7 e) hN hj (Or.inl hl) rfl (fun s7 I7 => ?_) (.inr hl)
  refine wpAny_mono (hb pins s7 _ _ _ I7 ht) (fun f s8 q => ?_) (fun _ _ z => False.elim z)
  cases f with
  | next =>
    obtain ⟨σ', H', I8, q⟩ := q
    have I8' := inv_unmark I.ok I8
    obtain ⟨m, hnm, _⟩ := id I8'.loc
    have hcls : (X.env.scope.kind == .class || (X.env.scope.kind == .module && X.env.locals != X.env.globals)) = false := by rw [I.ok.kind]; rfl
    exact wpAny_nameGoes_keeps hkind hnm hcls fun h9 v hn9 sb => hnx _ _ _ q (inv_drop I8' hN hj hl hnm hn9 sb)
  | ret u => obtain ⟨_, _, _, _, _, z⟩ := q; exact z.elim
  | brk => obtain ⟨_, _, _, z⟩ := q; exact z.elim
  | cont => obtain ⟨_, _, _, z⟩ := q; exact z.elim
end
end DL
set_option Elab.async false
set_option linter.all false
set_option maxRecDepth 100000
set_option maxHeartbeats 4000000
namespace DL
open PySem PySem.Spec PyProof.Rows L2
abbrev bmVal : List Value := [.type "ValueError", .type "Exception", .type "BaseException", .type "object"]
theorem exc_obj {K : PySem.W.Frag} {h : Heap} {C : Addr} {bmB : List Value} {newId : String} (X : K.In h) (q : PySem.W.excIn K C bmB newId = true) :
    ∃ bm N nm qn bs hdct sn sub ab col dd k0 k1 k2 k3 k5 mN, h.get? C = some (excClassObj nm qn C N bs bm hdct sn sub ab col dd k0 k1 k2 k3 k5 newId) ∧ h.Ns N mN ∧ mN "__init__" = none ∧ OwnTail h bmB bm := by
  unfold PySem.W.excIn at q
  split at q
  rotate_left
  · cases q
  rename_i d1 c1 s1 look
  split at q
  rotate_left
  · cases q
  rename_i C2 b2 j0 j1 j2 j3 nn j5 hmro hsl
  simp only [Bool.and_eq_true, beq_iff_eq, Bool.not_eq_true'] at q
  obtain ⟨⟨⟨⟨⟨e1, e2⟩, nodel⟩, tl⟩, nsok⟩, noinit⟩ := q
  subst e1 e2
  obtain ⟨nm, bs, mro, ns, qn, hd, sn, sub, ab, col, del⟩ := c1
  dsimp only at hmro nodel nsok noinit
  subst hmro nodel
  have es : s1 = #[j0, j1, j2, j3, some (.builtin nn), j5] := by
    obtain ⟨l⟩ := s1
    simp only at hsl
    rw [hsl]
  subst es
  exact ⟨b2, ns, nm, qn, bs, hd, sn, sub, ab, col, d1, j0, j1, j2, j3, j5, _, X _ _ look, .of_isNs (PySem.W.isNs_of_in X nsok), PySem.W.nsMap_none_of_in X nsok noinit, PySem.W.tail_of_in X tl⟩
section
variable {mk : Bool} {X : Cx} {G₀ H₀ : Hp} {pos : Pos} {R : RR}
theorem rs_raise {c tx : Str} {C : Addr} {np cpos tpos : Pos} {tj : _} (hm : X.mg c = some (.ref C)) (q : PySem.W.excIn X.K C bmVal "ValueError.__new__" = true) (hc : X.calm = true := by rfl) (hg : Gl X c := by rfl) (hd : (c == ("__debug__" : Str)) = false := by decide)
    (he : starEach [.Constant (.str tx) tj tpos] X.env = (false, eval (.Constant (.str tx) tj tpos) X.env) :: starEach [] X.env := by rfl) :
    RS true X G₀ H₀ (.Raise (some (.Call (.Name c np) [.Constant (.str tx) tj tpos] [] cpos)) none pos) (fun _ c' => c' = c) := by
  intro pins s σ H env G c' Q S I d e kS W
  subst e
  obtain ⟨bm, N, nm, qn, bs, hdct, sn, sub, ab, col, dd, k0, k1, k2, k3, k5, mN, hC, hN, hni, T⟩ := exc_obj I.ok.mod.kin q
  refine wpAny_Raise_call_subT (C := C) (nm := nm) (q := qn) (N := N) (bs := bs) (bm := bm) (hdct := hdct) (sn := sn) (sub := sub) (ab := ab) (col := col) (dd := dd) (k0 := k0) (k1 := k1) (k2 := k2) (k3 := k3) (k5 := k5)
    PySem.F.excBase_ValueError (mN := mN) (T.hasType PySem.F.excBase_ValueError.hasBase) (I.ok.hd hc) (by rw [he]; rfl) hni (ld_glob I hg hm ⟨rfl, ?_⟩ hd)
  have hp := pa_cons (X := X) (es := []) (pe_str (x := tx) (j := tj) (pos := tpos)) pa_nil he cpos pins s σ H (fun vs H' => vs = [.str tx] ∧ H' = H) I ⟨rfl, rfl⟩
  rw [he] at hp ⊢
  refine Calls.evalArgs_plain (wpAny_mono hp (fun us s2 h2 => ?_) fun _ _ y => y)
  obtain ⟨vs, H', I2, r, rfl, rfl⟩ := h2
  have hl : us.length ≤ sizeLine := by rw [← r.length]; show 1 ≤ sizeLine; decide
  have kb : ∀ b o, X.base.get? b = some o → s2.heap.get? b = some o := I2.bk
  exact ⟨rfl, hl, kb _ _ hC, hN.keeps kb, T.keeps kb, fun h' e hx => W.1 rfl σ H' G env s2 e h' us C I2 (kS G H' (Grow.refl _ _) d.le) hm hx⟩
theorem rs_expr {e : Expr} (h : RE mk X G₀ H₀ e R) (hs : swapsWith e none pos.line X.env = pure false := by rfl) : RS mk X G₀ H₀ (.Expr e pos) R := fun pins s σ H env G c Q S I d r k W =>
  wpAny_Expr_any (h pins s σ H env G c _ S I d r k W) I.quiet hs
def tTry (mg : Str → Option Value) (K : PySem.W.Frag) (G₀ H₀ : Hp) (R : RR) (cs : List Str) (j : Nat) (t : TS) : TS := fun D σ H => ∃ env G c, DI K G₀ H₀ env σ G H ∧ R env c ∧ c ∈ cs ∧
  ∀ (e C : Addr) (G1 H1 : Hp), Grow G H G1 H1 → Same G1 H1 → mg c = some (.ref C) → H1 e = none → t { nx := fun σ' H' => D.nx (σ'.set j none) H', rt := fun _ _ => False } (σ.set j (some (.ref e))) (upd H1 e (.ext (ExcAt e C)))
theorem ps_try {x n : Str} {j : Nat} {np hpos : Pos} {B0 : Addr} {body : List Stmt} {b₀ : Stmt} {suite : List Stmt} {t : TS} {cs : List Str} (hr : ∀ E, RSs false (X.wish E) G₀ H₀ body R) (hb : ∀ e, PSs (marked X e) (b₀ :: suite) t)
    (hm : X.mg x = some (.ref B0)) (hx : ∀ c ∈ cs, ∀ C, X.mg c = some (.ref C) → PySem.W.exmOne X.K (.ref C) (.ref B0) = some true) (hN : X.N.Nodup) (hj : X.N[j]? = some n) (hl : X.env.scope.names.lookup n = some .local)
    (hst : X.stack = X.env :: X.outer := by rfl) (hf : X.env.frame = some X.env.locals := by rfl) (hex : X.ex = [] := by rfl) (hg : Gl X x := by rfl) (hd : (x == ("__debug__" : Str)) = false := by decide) :
    PS X (.Try body [.ExceptHandler (some (.Name x np)) (some n) (b₀ :: suite) hpos] [] [] pos) (tTry X.mg X.K G₀ H₀ R cs j t) := by
  intro pins s σ H D I ⟨env, G, c, d, r, hc, k⟩
  refine wpAny_Try_except ?_
  refine hr (fun e s₁ => wpAny (model X.prog X.w) X.A (noteFrame e X.env) (fun _ s₂ => wpAny (model X.prog X.w) X.A (setFlight e none) (fun _ s₃ => wpAny (model X.prog X.w) X.A (handleBy e X.env [.ExceptHandler (some (.Name x np)) (some n) (b₀ :: suite) hpos]) (SP X pins D) X.xe s₃) X.xe s₂) X.xe s₁) pins s σ H env G c _ (fun env' σ' G' H' => env' = env ∧ σ' = σ ∧ Grow G H G' H') (I.wish _) d r (fun G' H' g _ => ⟨rfl, rfl, g⟩) ⟨(fun z => by cases z), fun σ' H' G' H1 G1 env' s' s1 e C I' hS hmc F g l => ?_⟩
  obtain ⟨rfl, rfl, g0⟩ := hS
  have I2 : Inv X pins σ' H' s' := I'.unwish
  exact catch_as I2 F hst hf hex hm (hx c hc C hmc) hg hN hj hl (hb e) (k e C G1 H1 (g0.trans g) l hmc (fly_new I2 F).2) (fun σ'' H'' s'' q J => ⟨_, H'', J, q⟩) hd
end
end DL
set_option Elab.async false
set_option linter.all false
set_option maxRecDepth 100000
set_option maxHeartbeats 4000000
namespace DL
open PySem PySem.Spec PyProof.Rows L2
def clsV : V → Option Value
  | .ref a => some (.ref a)
  | .ty n => some (.type n)
  | _ => none
theorem clsV_of {x : V} {u v : Value} (h : clsV x = some v) (r : RelV x u) : u = v := by
  cases x with
  | ref a => cases h; exact r
  | ty n => cases h; exact r
  | _ => cases h
theorem call_isiX {X : Cx} : CallR X (.builtin "isinstance") (fun xs H Q => ∃ a C x v b, xs = [.ref a, x] ∧ clsV x = some v ∧ H a = some (.ext (ExcAt a C)) ∧ ExCls X.K C ∧ PySem.W.kitOne X.K (.ref C) v = some b ∧ Q (.bl b) H) := by
  intro pins s σ H xs us Q I r h
  obtain ⟨a, C, x, v, b, rfl, hv, hH, Z, e, q⟩ := h
  obtain ⟨u, w', rfl, r1, r2⟩ := vals2 r
  cases (show u = .ref a from r1)
  cases clsV_of hv r2
  have p : ExcAt a C s.heap := (I.hok a _ hH).1
  exact PySem.W.kia_one (kitx_exc Z) I.kIn p e (fun z => nomatch z) fun tk => ⟨.bl b, H, I.tok _, rfl, q⟩
theorem call_isiT {X : Cx} : CallR X (.builtin "isinstance") (fun xs H Q => ∃ a C p C1 C2 b, xs = [.ref a, .ref p] ∧ H p = some (.tup [.ref C1, .ref C2]) ∧ H a = some (.ext (ExcAt a C)) ∧ ExCls X.K C ∧ PySem.W.kitAny X.K (.ref C) [.ref C1, .ref C2] = some b ∧ Q (.bl b) H) := by
  intro pins s σ H xs us Q I r h
  obtain ⟨a, C, p, C1, C2, b, rfl, hp, hH, Z, e, q⟩ := h
  obtain ⟨u, w', rfl, r1, r2⟩ := vals2 r
  cases (show u = .ref a from r1)
  cases (show w' = .ref p from r2)
  have pe : ExcAt a C s.heap := (I.hok a _ hH).1
  obtain ⟨_, its, rv, o, ho, hcls, hdat⟩ := (show ObjOk X.prog X.w H s.heap p (.tup [.ref C1, .ref C2]) from I.hok p _ hp)
  have hits : its = [.ref C1, .ref C2] := by
    obtain ⟨u1, u2, rfl, z1, z2⟩ := vals2 rv
    cases (show u1 = .ref C1 from z1)
    cases (show u2 = .ref C2 from z2)
    rfl
  subst hits
  obtain ⟨oc, od, oda, osl⟩ := o
  dsimp only at hcls
  subst hcls
  obtain ⟨nn, hdd⟩ := hdat
  dsimp only at hdd
  subst hdd
  exact PySem.W.kia_tup (kitx_exc Z) I.kIn pe ho e (fun z => nomatch z) fun tk => ⟨.bl b, H, I.tok _, rfl, q⟩
theorem set_n0 {α : Type} (b c x : α) : ∀ as : List α, (as ++ [b, c]).set as.length x = as ++ [x, c]
  | [] => rfl
  | a :: as => by simp [set_n0 b c x as]
theorem set_n1 {α : Type} (b c x : α) : ∀ as : List α, (as ++ [b, c]).set (as.length + 1) x = as ++ [b, x]
  | [] => rfl
  | a :: as => by simp [set_n1 b c x as]
theorem get_n0 {α : Type} (b c : α) : ∀ as : List α, (as ++ [b, c])[as.length]? = some b
  | [] => rfl
  | a :: as => by simp
theorem get_n1 {α : Type} (b c : α) : ∀ as : List α, (as ++ [b, c])[as.length + 1]? = some c
  | [] => rfl
  | a :: as => by simp
def spK (K : PySem.W.Frag) (mg : Str → Option Value) (R : List D → Str → Prop) (n : Nat) (cs : List Str) : Sp := fun vs H Q _ => ∃ G ds c, ds.length = n ∧ Same G H ∧ RepL K G ds vs ∧ R ds c ∧ c ∈ cs ∧
  ∀ a C G' H', Grow G H G' H' → Same G' H' → mg c = some (.ref C) → H' a = some (.ext (ExcAt a C)) → Q (.ref a) H'
def tCaught (mg : Str → Option Value) (K : PySem.W.Frag) (G H : Hp) (R : RR) (cs : List Str) (n : Nat) : TS :=
  tSeq (tAsg (tC .non) (gName n)) (tSeq (tTry mg K G H R cs (n + 1) (tAsg (tVar (n + 1)) (gName n))) (tRet (tVar n)))
theorem fn_caught {P : Program} {w : World} {K : PySem.W.Frag} {mg : Str → Option Value} {base : Heap} {x : Str} {st : Stmt} {f : Addr} {fd : FuncData} {N ps : List Str} {k n : Nat} {R' : RR} {R : List D → Str → Prop} {cs : List Str} (F : Fun K x x st f fd) (S : FnScope N ps (defScope st))
    (hn : ps.length = n) (hN : N.length = n + 2)
    (hb : ∀ (cdv : Value) (A : Around) (outer : List Env) (s : Shared) (G H : Hp) (E : XK), Room k (A.deeper (envOfC x (defScope st) s.heap.objs.size f cdv)) →
      PSs (cxOf CX0 P w K mg base N x (defScope st) f cdv A outer s H E).nox (defBody st) (tCaught mg K G H R' cs n))
    (hR : ∀ ds c, ds.length = n → R ds c → R' (ds.map Slot.pers ++ [.pers .non, .un]) c) : FnOk P w K mg base CX0 (k + 1) f fd ps (spK K mg R n cs) := by
  refine F.ok S (fun vs H Q E h => ?_) fun cdv A outer s H vs Q E hr h => ?_
  · obtain ⟨G, ds, c, hl, _, r, _⟩ := h
    rw [← r.length, hl, hn]
  · obtain ⟨G, ds, c, hl, l, r, hRc, hc, hQ⟩ := h
    refine ⟨_, hb cdv A outer s G H E hr, ?_⟩
    have hvl : vs.length = n := by rw [← r.length]; exact hl
    have e0 : L2.start N vs = vs.map some ++ [none, none] := by
      unfold L2.start
      rw [hN, hvl, show n + 2 - n = 2 by omega]
      rfl
    have d0 := start_DI (K := K) (N := N) l r (by omega)
    have e1 : (ds.map Slot.pers ++ List.replicate (N.length - ds.length) Slot.un) = ds.map Slot.pers ++ [.un, .un] := by
      rw [hN, hl, show n + 2 - n = 2 by omega]
      rfl
    rw [e0, e1] at d0
    have d1 := d0.setP (d := .non) (v := .non) n rfl
    have s1 : (vs.map some ++ [none, none]).set n (some V.non) = vs.map some ++ [some V.non, none] := by
      have := set_n0 (none : Option V) none (some V.non) (vs.map some)
      rw [List.length_map, hvl] at this
      exact this
    have s2 : (ds.map Slot.pers ++ [Slot.un, Slot.un]).set n (Slot.pers D.non) = ds.map Slot.pers ++ [Slot.pers D.non, Slot.un] := by
      have := set_n0 Slot.un Slot.un (.pers .non) (ds.map Slot.pers)
      rw [List.length_map, hl] at this
      exact this
    rw [s1, s2] at d1
    show (tSeq (tTry mg K G H R' cs (n + 1) (tAsg (tVar (n + 1)) (gName n))) (tRet (tVar n))) _ ((L2.start N vs).set n (some V.non)) H
    rw [e0, s1]
    refine ⟨_, G, c, d1, hR ds c hl hRc, hc, fun e C G1 H1 g l1 hm hn1 => ?_⟩
    have s3 : (vs.map some ++ [some V.non, none]).set (n + 1) (some (V.ref e)) = vs.map some ++ [some V.non, some (.ref e)] := by
      have := set_n1 (some V.non) none (some (V.ref e)) (vs.map some)
      rw [List.length_map, hvl] at this
      exact this
    rw [s3]
    have s4 : (vs.map some ++ [some V.non, some (V.ref e)])[n + 1]? = some (some (.ref e)) := by
      have := get_n1 (some V.non) (some (V.ref e)) (vs.map some)
      rw [List.length_map, hvl] at this
      exact this
    refine ⟨.ref e, s4, ?_⟩
    have s5 : (vs.map some ++ [some V.non, some (V.ref e)]).set n (some (V.ref e)) = vs.map some ++ [some (V.ref e), some (.ref e)] := by
      have := set_n0 (some V.non) (some (V.ref e)) (some (V.ref e)) (vs.map some)
      rw [List.length_map, hvl] at this
      exact this
    have s6 : (vs.map some ++ [some (V.ref e), some (V.ref e)]).set (n + 1) none = vs.map some ++ [some (V.ref e), none] := by
      have := set_n1 (some (V.ref e)) (some (V.ref e)) none (vs.map some)
      rw [List.length_map, hvl] at this
      exact this
    have s7 : (vs.map some ++ [some (V.ref e), none])[n]? = some (some (.ref e)) := by
      have := get_n0 (some (V.ref e)) (none : Option V) (vs.map some)
      rw [List.length_map, hvl] at this
      exact this
    show tRet (tVar n) _ (((vs.map some ++ [some V.non, some (V.ref e)]).set n (some (V.ref e))).set (n + 1) none) _
    rw [s5, s6]
    refine ⟨.ref e, s7, hQ e C G1 _ ⟨g.g, fun b u q => ?_, g.n⟩ (fun b u q => ?_) hm upd_same⟩
    · rw [upd_ne (ne_of_none (g.h b u q) hn1)]; exact g.h b u q
    · rw [upd_ne (ne_of_none (l1 b u q) hn1)]; exact l1 b u q
end DL
set_option Elab.async false
set_option linter.all false
set_option maxRecDepth 100000
set_option maxHeartbeats 4000000
namespace DL
open PySem PySem.Spec PyProof.Rows L2
structure CalK (P : Program) (w : World) (K : PySem.W.Frag) (mg : Str → Option Value) (base : Heap) (k : Nat) (x : Str) (ps : List Str) (R : List D → Str → Prop) (cs : List Str) : Prop where
  ex : ∃ (f : Addr) (fd : FuncData), FnOk P w K mg base CX0 k f fd ps (spK K mg R ps.length cs) ∧ mg x = some (.ref f) ∧ PySem.W.keepIn K (.ref f) = true ∧ Binds K fd ps []
theorem CalK.mono {P : Program} {w : World} {K : PySem.W.Frag} {mg : Str → Option Value} {base : Heap} {j k : Nat} {x : Str} {ps : List Str} {R : List D → Str → Prop} {cs : List Str} (c : CalK P w K mg base j x ps R cs) (h : j ≤ k) : CalK P w K mg base k x ps R cs := by
  obtain ⟨f, fd, F, r⟩ := c.ex
  exact ⟨f, fd, F.mono h, r⟩
theorem pe_calK {X : Cx} {k n : Nat} {x : Str} {ps : List Str} {R : List D → Str → Prop} {cs : List Str} {p pos : Pos} {e : Expr} {es : List Expr} {t : TA} (C : CalK X.prog X.w X.K X.mg X.base k x ps R cs) (hn : ps.length = n) (hr : Room k X.A) (ha : PA X (e :: es) t)
    (hg : Gl X x := by rfl) (hdb : (x == ("__debug__" : Str)) = false := by decide) (he : starEach (e :: es) X.env = (false, eval e X.env) :: starEach es X.env := by rfl) (hpl : (backTo pos (starEach es X.env)).any (·.1) = false := by rfl) :
    PE X (.Call (.Name x p) (e :: es) [] pos) (tCall (spK X.K X.mg R n cs) [] E0 t) := by
  obtain ⟨f, fd, F, hm, hk, hb⟩ := C.ex
  subst hn
  exact pe_call F hr hg hm hk hb .nil pass0 ha hdb he hpl
def rX (K : PySem.W.Frag) : List V → Hp → VK → Prop := fun xs H Q => ∃ a C x v b, xs = [.ref a, x] ∧ clsV x = some v ∧ H a = some (.ext (ExcAt a C)) ∧ ExCls K C ∧ PySem.W.kitOne K (.ref C) v = some b ∧ Q (.bl b) H
def rT (K : PySem.W.Frag) : List V → Hp → VK → Prop := fun xs H Q => ∃ a C p C1 C2 b, xs = [.ref a, .ref p] ∧ H p = some (.tup [.ref C1, .ref C2]) ∧ H a = some (.ext (ExcAt a C)) ∧ ExCls K C ∧ PySem.W.kitAny K (.ref C) [.ref C1, .ref C2] = some b ∧ Q (.bl b) H
structure Kin (K : PySem.W.Frag) (mg : Str → Option Value) (c : Str) (C C1 C2 : Addr) : Prop where
  at_ : mg c = some (.ref C)
  ex : ExCls K C
  no : PySem.W.kitAny K (.ref C) [.ref C1, .ref C2] = some false
  yes : PySem.W.kitOne K (.ref C) (.ref C) = some true
  val : PySem.W.kitOne K (.ref C) (.type "ValueError") = some true
def tAsked (K : PySem.W.Frag) (mg : Str → Option Value) (R : List D → Str → Prop) (c : Str) (C C1 C2 : Addr) : TS :=
  tSeq (tAsg (tCall (spK K mg R 2 [c]) [] E0 (tCons (tVar 0) (tCons (tVar 1) tNil))) (gName 2))
  (tSeq (tIfS (tB (tCB (rT K) (tCons (tVar 2) (tCons (tTup (tCons (tC (.ref C1)) (tCons (tC (.ref C2)) tNil))) tNil)))) (tRet (tC (.bl false))) tNext)
  (tRet (tAndV (tCB (rX K) (tCons (tVar 2) (tCons (tC (.ref C)) tNil))) (tCB (rX K) (tCons (tVar 2) (tCons (tC (.ty "ValueError")) tNil))))))
open Classical in
noncomputable def askedV (R : List D → Str → Prop) (c : Str) (ds : List D) : Out Val := if R ds c then .ok (.pers (.bl true)) else .bad
theorem fn_asked {P : Program} {w : World} {K : PySem.W.Frag} {mg : Str → Option Value} {base : Heap} {x : Str} {st : Stmt} {f : Addr} {fd : FuncData} {N ps : List Str} {k : Nat} {R : List D → Str → Prop} {c : Str} {C C1 C2 : Addr} (F : Fun K x x st f fd) (S : FnScope N ps (defScope st))
    (hn : ps.length = 2) (hN : N.length = 3) (Z : Kin K mg c C C1 C2)
    (hb : ∀ (cdv : Value) (A : Around) (outer : List Env) (s : Shared) (H : Hp) (E : XK), Room k (A.deeper (envOfC x (defScope st) s.heap.objs.size f cdv)) →
      PSs (cxOf CX0 P w K mg base N x (defScope st) f cdv A outer s H E).nox (defBody st) (tAsked K mg R c C C1 C2)) : FnOk P w K mg base CX0 (k + 1) f fd ps (spD K (askedV R c) 2) := by
  refine F.ok S (fun vs H Q E h => ?_) fun cdv A outer s H vs Q E hr h => ?_
  · obtain ⟨G, ds, val, hl, _, r, _⟩ := h
    rw [← r.length, hl, hn]
  · obtain ⟨G, ds, val, hl, l, r, hm, hQ⟩ := h
    refine ⟨_, hb cdv A outer s H E hr, ?_⟩
    have hR : R ds c ∧ val = .pers (.bl true) := by
      unfold askedV at hm
      split at hm
      · rename_i z; cases hm; exact ⟨z, rfl⟩
      · cases hm
    obtain ⟨hR, rfl⟩ := hR
    have hvl : vs.length = 2 := by rw [← r.length]; exact hl
    obtain ⟨v0, v1, rfl⟩ : ∃ v0 v1, vs = [v0, v1] := by
      match vs, hvl with
      | [v0, v1], _ => exact ⟨v0, v1, rfl⟩
    have e0 : L2.start N [v0, v1] = [some v0, some v1, none] := by
      unfold L2.start
      rw [hN]
      rfl
    rw [e0]
    refine ⟨v0, rfl, v1, rfl, G, ds, c, hl, l, r, hR, List.mem_singleton.mpr rfl, fun a C' G' H' g l' hc ha => ?_⟩
    rw [Z.at_] at hc
    cases hc
    refine ⟨.ref a, rfl, by show 2 ≤ sizeLine; decide, fun p hp => ?_⟩
    have hap : a ≠ p := ne_of_none ha hp
    refine ⟨a, C, p, C1, C2, false, rfl, upd_same, by rw [upd_ne hap]; exact ha, Z.ex, Z.no, false, rfl, ?_⟩
    refine iteF ?_
    have ha2 : upd H' p (.tup [.ref C1, .ref C2]) a = some (.ext (ExcAt a C)) := by rw [upd_ne hap]; exact ha
    refine ⟨.ref a, rfl, a, C, .ref C, .ref C, true, rfl, rfl, ha2, Z.ex, Z.yes, true, rfl, ?_⟩
    refine iteT ?_
    refine ⟨.ref a, rfl, a, C, .ty "ValueError", .type "ValueError", true, rfl, rfl, ha2, Z.ex, Z.val, ?_⟩
    refine hQ _ G' _ ⟨g.g, fun b u q => ?_, g.n⟩ (fun b u q => ?_) rfl
    · rw [upd_ne (ne_of_none (g.h b u q) hp)]; exact g.h b u q
    · rw [upd_ne (ne_of_none (l' b u q) hp)]; exact l' b u q
end DL
set_option Elab.async false
set_option linter.all false
set_option maxRecDepth 100000
set_option maxHeartbeats 4000000
namespace DL
open PySem PySem.Spec PyProof.Rows L2
@[simp] def frzE (i : Nat) (env : Ev) : Ev := match env[i]? with
  | some (.own ds) => env.set i (.pers (.lst ds))
  | _ => env
@[simp] def frzS (i : Nat) (g : FS) : FS := fun env => g (frzE i env)
theorem DI.freeze {K : PySem.W.Frag} {G₀ H₀ G H : Hp} {env : Ev} {σ : St} {i : Nat} {ds : List D} (I : DI K G₀ H₀ env σ G H) (e : env[i]? = some (.own ds)) : ∃ G', Same G G' ∧ DI K G₀ H₀ (env.set i (.pers (.lst ds))) σ G' H := by
  obtain ⟨a, vs, o⟩ := I.own e
  have s' : Same G (upd G a (.lst vs)) := fun b u q => by rw [upd_ne (ne_of_none q o.gn)]; exact q
  refine ⟨upd G a (.lst vs), s', ⟨fun b u q => ?_, ⟨I.gr.g.trans s', I.gr.h, fun b h1 h2 => ?_⟩, by simp [I.len], fun j s e' => ?_, fun j k ds' es b hjk e1 e2 s1 s2 => ?_⟩⟩
  · by_cases hb : b = a
    · subst hb; rw [upd_same] at q; cases q; exact o.hp
    · rw [upd_ne hb] at q; exact I.le b u q
  · have hb : b ≠ a := fun z => h1 (z ▸ o.new)
    rw [upd_ne hb]
    exact I.gr.n b h1 h2
  · by_cases hj : i = j
    · subst hj
      obtain ⟨rfl, hl⟩ := getSet_eq e'
      exact ⟨.ref a, o.at_, a, vs, rfl, upd_same, o.rep.mono s'⟩
    · rw [List.getElem?_set_ne hj] at e'
      have q := I.slot j s e'
      cases s with
      | un => trivial
      | pers d' => obtain ⟨u, h1, h2⟩ := q; exact ⟨u, h1, h2.mono s'⟩
      | own es =>
        obtain ⟨b, us, p⟩ := q
        have hb : b ≠ a := fun z => by subst z; exact I.apart i j ds es b hj e e' o.at_ p.at_
        exact ⟨b, us, p.at_, p.hp, by rw [upd_ne hb]; exact p.gn, p.new, p.rep.mono s'⟩
  · have nj : i ≠ j := fun z => by subst z; cases (getSet_eq e1).1
    have nk : i ≠ k := fun z => by subst z; cases (getSet_eq e2).1
    rw [List.getElem?_set_ne nj] at e1
    rw [List.getElem?_set_ne nk] at e2
    exact I.apart j k ds' es b hjk e1 e2 s1 s2
theorem dss_frz {X : Cx} {G₀ H₀ : Hp} {st : List Stmt} {g : FS} (i : Nat) (h : DSs X G₀ H₀ st g) : DSs X G₀ H₀ st (frzS i g) := by
  intro pins s σ H D I q
  refine h pins s σ H D I ?_
  obtain ⟨env, G, r, d, e, k⟩ := q
  unfold frzS frzE at e
  split at e
  · rename_i ds ho
    obtain ⟨G', s', d'⟩ := d.freeze ho
    refine ⟨_, G', r, d', e, ?_⟩
    cases r with
    | next env' => exact fun σ' G2 H2 q z => k σ' G2 H2 (s'.trans q) z
    | ret v => exact k
  · exact ⟨env, G, r, d, e, k⟩
end DL
set_option Elab.async false
set_option linter.all false
set_option maxRecDepth 100000
set_option maxHeartbeats 4000000
namespace My
open PySem PySem.Spec PyProof.Rows L2 DL
theorem atI_nn {α : Type} (xs : List α) (i : Int) (h : 0 ≤ i) : atI xs i = xs[i.toNat]? := by
  unfold atI ixN
  rw [if_pos h]
  split
  · rfl
  · rename_i h2
    rw [List.getElem?_eq_none (by omega)]
    rfl
theorem atI_m1 {α : Type} (xs : List α) : atI xs (-1) = xs[xs.length - 1]? := by
  unfold atI ixN
  by_cases h : xs.length = 0
  · have : xs = [] := List.eq_nil_of_length_eq_zero h
    subst this
    simp
  · rw [if_neg (by omega), if_pos (by omega)]
    show xs[(-1 + (xs.length : Int)).toNat]? = _
    congr 1
    omega
theorem cMul_l {i j : Int} (h1 : -(2 ^ 64) < i) (h2 : i < 2 ^ 64) : cMul i j = true := by
  unfold cMul small64
  rw [decide_eq_true h1, decide_eq_true h2]
  rfl
theorem cDiv_of {i j : Int} (h1 : 0 < j) (h2 : j < 2 ^ 250) : cDiv i j = true := by
  unfold cDiv
  rw [decide_eq_true h1, decide_eq_true h2]
  rfl
@[simp] theorem cPow_10 (j : Int) (h1 : 0 ≤ j) (h2 : j ≤ 1000000) : cPow 10 j = true := by
  unfold cPow
  rw [decide_eq_true h1, decide_eq_true h2]
  decide
@[simp] theorem eqD_int (i j : Int) : eqD (.int i) (.int j) = (i == j) := rfl
@[simp] theorem eqD_nn : eqD .non .non = true := rfl
@[simp] theorem eqD_ni (i : Int) : eqD .non (.int i) = false := rfl
@[simp] theorem eqD_in (i : Int) : eqD (.int i) .non = false := rfl
@[simp] theorem eqD_bb (a b : Bool) : eqD (.bl a) (.bl b) = (a == b) := rfl
@[simp] theorem shal_int (n : Nat) (i : Int) : shal n (.int i) = true := by cases n <;> rfl
@[simp] theorem shal_non (n : Nat) : shal n .non = true := by cases n <;> rfl
@[simp] theorem shal_bl (n : Nat) (b : Bool) : shal n (.bl b) = true := by cases n <;> rfl
@[simp] theorem shal_tup (n : Nat) (ds : List D) : shal (n + 1) (.tup ds) = ds.all (shal n) := rfl
@[simp] theorem shal_lst (n : Nat) (ds : List D) : shal (n + 1) (.lst ds) = ds.all (shal n) := rfl
theorem eqD_tup (xs ys : List D) : eqD (.tup xs) (.tup ys) = eqDL xs ys := by simp only [eqD, eqDL, toPy, PyData.eqv]
theorem eqD_lst (xs ys : List D) : eqD (.lst xs) (.lst ys) = eqDL xs ys := by simp only [eqD, eqDL, toPy, PyData.eqv]
theorem eqDL_nil : eqDL [] [] = true := by simp only [eqDL, toPyL, PyData.eqvAll]
theorem eqDL_cons (x y : D) (xs ys : List D) : eqDL (x :: xs) (y :: ys) = (eqD x y && eqDL xs ys) := by simp only [eqDL, eqD, toPyL, PyData.eqvAll]
theorem eqDL_nc (y : D) (ys : List D) : eqDL [] (y :: ys) = false := by simp only [eqDL, toPyL, PyData.eqvAll]
theorem eqDL_cn (y : D) (ys : List D) : eqDL (y :: ys) [] = false := by simp only [eqDL, toPyL, PyData.eqvAll]
theorem eqDL_map {α : Type} [DecidableEq α] (f : α → D) (h : ∀ x y, eqD (f x) (f y) = decide (x = y)) : ∀ xs ys : List α, eqDL (xs.map f) (ys.map f) = decide (xs = ys)
  | [], [] => by simp [eqDL_nil]
  | [], y :: ys => by simp [eqDL_nc]
  | x :: xs, [] => by simp [eqDL_cn]
  | x :: xs, y :: ys => by
    rw [List.map_cons, List.map_cons, eqDL_cons, h, eqDL_map f h xs ys]
    by_cases h1 : x = y <;> by_cases h2 : xs = ys <;> simp [h1, h2]
theorem forD_inv {g : D → Ev → Out Ev} {fb : FS} (P : Nat → Ev → Prop) : ∀ (ds : List D) (i : Nat) (env : Ev), P i env →
    (∀ (j : Nat) (d : D) (env : Ev), i ≤ j → ds[j - i]? = some d → P j env → ∃ env1 env2, g d env = .ok env1 ∧ fb env1 = .ok (.next env2) ∧ P (j + 1) env2) →
    ∃ env', forD g fb ds env = .ok (.next env') ∧ P (i + ds.length) env'
  | [], i, env, h, _ => ⟨env, rfl, h⟩
  | d :: ds, i, env, h, step => by
    obtain ⟨env1, env2, e1, e2, h2⟩ := step i d env (Nat.le_refl _) (by simp) h
    obtain ⟨env', e3, h3⟩ := forD_inv P ds (i + 1) env2 h2 fun j d' env hj hd hp => step j d' env (by omega) (by
      have : j - i = (j - (i + 1)) + 1 := by omega
      rw [this]; simpa using hd) hp
    refine ⟨env', ?_, ?_⟩
    · simp only [forD, e1, bind_ok, e2]
      exact e3
    · have : i + (d :: ds).length = i + 1 + ds.length := by simp; omega
      rw [this]; exact h3
theorem rng_get {lo : Int} {n j : Nat} {d : D} (h : (rngD lo n)[j]? = some d) : j < n ∧ d = .int (lo + j) := by
  have hj : j < n := by
    have := (List.getElem?_eq_some_iff.mp h).1
    simpa [rngD] using this
  refine ⟨hj, ?_⟩
  simp [rngD, hj] at h
  exact h.symm
@[simp] theorem rng_len (lo : Int) (n : Nat) : (rngD lo n).length = n := by simp [rngD]
theorem eq_spot (p q : Int × Int) : eqD (spotD p) (spotD q) = decide (p = q) := by
  unfold spotD
  rw [eqD_tup, eqDL_cons, eqDL_cons, eqDL_nil, eqD_int, eqD_int]
  obtain ⟨a, b⟩ := p
  obtain ⟨c, d⟩ := q
  by_cases h1 : a = c <;> by_cases h2 : b = d <;> simp [h1, h2]
theorem shal_spot (n : Nat) (p : Int × Int) : shal (n + 1) (spotD p) = true := by simp [spotD]
theorem cut_drop (l : List D) (i : Int) (n : Nat) (hi : i = n) : cutD l (some i) none = l.drop n := by
  subst hi
  show (l.drop (if (n : Int) < 0 then ((n : Int) + (l.length : Int)).toNat else min (n : Int).toNat l.length)).take (l.length - (if (n : Int) < 0 then ((n : Int) + (l.length : Int)).toNat else min (n : Int).toNat l.length)) = l.drop n
  rw [if_neg (by omega), Int.toNat_natCast, List.take_of_length_le (by rw [List.length_drop]; exact Nat.le_refl _)]
  by_cases h : n ≤ l.length
  · rw [Nat.min_eq_left h]
  · rw [Nat.min_eq_right (by omega), List.drop_of_length_le (Nat.le_refl _), List.drop_of_length_le (by omega)]
structure Frm where
  w : Int
  h : Int
  s : Int
  r : Int
  u : Int
structure FrmOk (f : Frm) : Prop where
  w1 : 1 ≤ f.w
  w2 : f.w ≤ 10 ^ 9
  h1 : 1 ≤ f.h
  h2 : f.h ≤ 10 ^ 18
  s1 : -3 ≤ f.s
  s2 : f.s ≤ 3
  r1 : -(10 ^ 30) ≤ f.r
  r2 : f.r ≤ 10 ^ 30
  u1 : -(10 ^ 30) ≤ f.u
  u2 : f.u ≤ 10 ^ 30
def f_cell_at : FS :=
 seqS (ifS (fTrB (f2 gLt (fVar 1) (fB gLen (fCons (fVar 0) (fNil)))))
 (retS (f2 gIx (fVar 0) (fVar 1)))
 (nxtS))
 (retS (fC (.int 0)))
def n_cell_at : List D → Out Val
  | [.scr ns, .int k] => if 0 ≤ k then .ok (.pers (.int (ns.getD k.toNat 0))) else .bad
  | _ => .bad
theorem nice_cell_at : ∀ ds v, ds.length = 2 → n_cell_at ds = .ok v → runD 2 f_cell_at ds = .ok v := by
  intro ds v hlen h
  clear hlen
  unfold n_cell_at at h
  split at h
  · rename_i ns k
    split at h
    · rename_i hk
      cases h
      by_cases hl : k < (ns.length : Int)
      · have hn : k.toNat < ns.length := by omega
        simp [f_cell_at, atI_nn _ _ hk, hl, List.getElem?_eq_getElem hn]
      · have hn : ns.length ≤ k.toNat := by omega
        simp [f_cell_at, atI_nn _ _ hk, hl, List.getElem?_eq_none hn]
    · cases h
  · cases h
end My
set_option Elab.async false
set_option linter.all false
set_option maxRecDepth 100000
set_option maxHeartbeats 4000000
namespace My
open PySem PySem.Spec PyProof.Rows L2 DL
theorem seq_next {f g : FS} {env env' : Ev} (h : f env = .ok (.next env')) : seqS f g env = g env' := by
  simp only [seqS, h, bind_ok]
theorem seq_ret {f g : FS} {env : Ev} {v : Val} (h : f env = .ok (.ret v)) : seqS f g env = .ok (.ret v) := by
  simp only [seqS, h, bind_ok]
abbrev Spot := Int × Int
theorem eq_spots (ps : List Spot) : eqD (.lst (ps.map spotD)) (.lst (ps.map spotD)) = true := by rw [eqD_lst, eqDL_map spotD eq_spot, decide_eq_true rfl]
theorem shal_spots (n : Nat) (ps : List Spot) : shal (n + 2) (.lst (ps.map spotD)) = true := by
  rw [shal_lst, List.all_map, List.all_eq_true]
  intro l _
  exact shal_spot n l
def lastV (l : List Spot) : Spot := l.getLastD (0, 0)
def firstV (l : List Spot) : Spot := l.headD (0, 0)
theorem at_first {l : List Spot} (hne : l ≠ []) : atI (l.map spotD) 0 = some (spotD (firstV l)) := by
  rw [atI_nn _ _ (by omega)]
  cases l with
  | nil => exact absurd rfl hne
  | cons c r => rfl
theorem at_last {l : List Spot} (hne : l ≠ []) : atI (l.map spotD) (-1) = some (spotD (lastV l)) := by
  unfold lastV
  rw [atI_m1, List.length_map, List.getElem?_map, ← List.getLast?_eq_getElem?, List.getLastD_eq_getLast?, List.getLast?_eq_some_getLast hne]
  rfl
theorem atLast_tail (l : List Spot) : cutD (l.map spotD) (some 1) none = (l.tail).map spotD := by
  rw [cut_drop _ 1 1 rfl, List.drop_one, List.map_tail]
theorem rng1_is {f : Ev → Out (List Val)} {env : Ev} {n : Int} (h : f env = .ok [.pers (.int n)]) (hn : -1000000 ≤ n ∧ n ≤ 1000000) : fRng1 f env = .ok (rngD 0 n.toNat) := by
  simp only [fRng1, h, bind_ok, List.map_cons, List.map_nil, Val.d]
  rw [if_pos hn]
@[reducible] def i1_spots : FS :=
 ifS (fTrB (f2 gEq (f2 gMod (f2 gDiv (fVar 5) (fC (.int 361))) (fC (.int 3))) (fC (.int 1))))
 (setS 6 true (fTup (hCons (f2 gSub (f2 gMod (fVar 5) (f2 gMul (fC (.int 2)) (f2 gPow (fC (.int 10)) (fC (.int 30))))) (f2 gPow (fC (.int 10)) (fC (.int 30)))) (hCons (f2 gMod (f2 gDiv (fVar 5) (fC (.int 7))) (f2 gPow (fC (.int 10)) (fC (.int 30)))) (hNil)))))
 (nxtS)
@[reducible] def b2_spots : FS :=
 seqS (setS 5 true (fCall n_cell_at (fCons (fVar 0) (fCons (f2 gAdd (fVar 1) (fVar 4)) (fNil)))))
 (seqS (setS 6 true (fTup (hCons (f2 gSub (f2 gMod (fVar 5) (fC (.int 19))) (fC (.int 9))) (hCons (f2 gSub (f2 gMod (f2 gDiv (fVar 5) (fC (.int 19))) (fC (.int 19))) (fC (.int 9))) (hNil)))))
 (seqS (i1_spots)
 (appS 3 (fVar 6))))
def f_spots : FS :=
 seqS (setS 3 false (fLst (hNil)))
 (seqS (forS (fRng1 (fCons (fVar 2) (fNil))) (gN 4)
 (b2_spots))
 (retS (fVar 3)))
def n_spots : List D → Out Val := runD 7 f_spots
theorem nice_spots : ∀ ds v, ds.length = 3 → n_spots ds = .ok v → runD 7 f_spots ds = .ok v := fun _ _ _ h => h
def spotAt (ns : List Int) (k : Int) : Spot := if ns.getD k.toNat 0 / 361 % 3 = 1 then (ns.getD k.toNat 0 % (2 * 10 ^ 30) - 10 ^ 30, ns.getD k.toNat 0 / 7 % 10 ^ 30) else (ns.getD k.toNat 0 % 19 - 9, ns.getD k.toNat 0 / 19 % 19 - 9)
def spotsV (ns : List Int) (start : Int) (n : Nat) : List Spot := (List.range n).map fun k => spotAt ns (start + (k : Nat))
theorem spots_succ (ns : List Int) (start : Int) (n : Nat) : spotsV ns start (n + 1) = spotsV ns start n ++ [spotAt ns (start + n)] := by
  unfold spotsV
  rw [List.range_succ, List.map_append]
  rfl
theorem spots_len (ns : List Int) (start : Int) (n : Nat) : (spotsV ns start n).length = n := by simp [spotsV]
theorem spots_step (ns : List Int) (start many : Int) (acc : List D) (k : Nat) (s5 s6 : Slot) (hs : 0 ≤ start) (hl : acc.length < 100000) :
    ∃ t5 t6, b2_spots [.pers (.scr ns), .pers (.int start), .pers (.int many), .own acc, .pers (.int (k : Int)), s5, s6] = .ok (.next [.pers (.scr ns), .pers (.int start), .pers (.int many), .own (acc ++ [spotD (spotAt ns (start + k))]), .pers (.int (k : Int)), t5, t6]) := by
  have hc : fCall n_cell_at (fCons (fVar 0) (fCons (f2 gAdd (fVar 1) (fVar 4)) (fNil))) [.pers (.scr ns), .pers (.int start), .pers (.int many), .own acc, .pers (.int (k : Int)), s5, s6] = .ok (.pers (.int (ns.getD (start + (k : Nat)).toNat 0))) := by
    have h0 : 0 ≤ start + (k : Int) := by omega
    simp [n_cell_at, h0]
  generalize hv : ns.getD (start + (k : Nat)).toNat 0 = c at hc
  have d19 : cDiv c 19 = true := cDiv_of (by decide) (by decide)
  have d361 : cDiv c 361 = true := cDiv_of (by decide) (by decide)
  have d7 : cDiv c 7 = true := cDiv_of (by decide) (by decide)
  have m2 : cMul 2 1000000000000000000000000000000 = true := cMul_l (by decide) (by decide)
  have hsp : spotAt ns (start + k) = if c / 361 % 3 = 1 then (c % (2 * 10 ^ 30) - 10 ^ 30, c / 7 % 10 ^ 30) else (c % 19 - 9, c / 19 % 19 - 9) := by
    unfold spotAt
    rw [hv]
  have hset : setS 5 true (fCall n_cell_at (fCons (fVar 0) (fCons (f2 gAdd (fVar 1) (fVar 4)) (fNil)))) [.pers (.scr ns), .pers (.int start), .pers (.int many), .own acc, .pers (.int (k : Int)), s5, s6] = .ok (.next [.pers (.scr ns), .pers (.int start), .pers (.int many), .own acc, .pers (.int (k : Int)), .pers (.int c), s6]) := by
    simp only [setS, hc, bind_ok]
    rfl
  unfold b2_spots
  rw [seq_next hset, hsp]
  rw [seq_next (env' := [.pers (.scr ns), .pers (.int start), .pers (.int many), .own acc, .pers (.int (k : Int)), .pers (.int c), .pers (spotD (c % 19 - 9, c / 19 % 19 - 9))]) (by simp [d19, spotD])]
  by_cases h : c / 361 % 3 = 1
  · rw [if_pos h]
    rw [seq_next (env' := [.pers (.scr ns), .pers (.int start), .pers (.int many), .own acc, .pers (.int (k : Int)), .pers (.int c), .pers (spotD (c % (2 * 10 ^ 30) - 10 ^ 30, c / 7 % 10 ^ 30))]) (by simp [d361, d7, m2, h, spotD])]
    exact ⟨_, _, by simp [hl]; exact ⟨rfl, rfl⟩⟩
  · rw [if_neg h]
    rw [seq_next (env' := [.pers (.scr ns), .pers (.int start), .pers (.int many), .own acc, .pers (.int (k : Int)), .pers (.int c), .pers (spotD (c % 19 - 9, c / 19 % 19 - 9))]) (by simp [d361, h, spotD])]
    exact ⟨_, _, by simp [hl]; exact ⟨rfl, rfl⟩⟩
theorem spots_is (ns : List Int) (start many : Int) (hs : 0 ≤ start) (hm : 0 ≤ many ∧ many ≤ 1000) : n_spots [.scr ns, .int start, .int many] = .ok (.fresh ((spotsV ns start many.toNat).map spotD)) := by
  obtain ⟨env', he, s4, s5, s6, rfl⟩ := forD_inv (g := gN 4) (fb := b2_spots) (fun j env => ∃ s4 s5 s6, env = [.pers (.scr ns), .pers (.int start), .pers (.int many), .own ((spotsV ns start j).map spotD), s4, s5, s6])
    (rngD 0 many.toNat) 0 [.pers (.scr ns), .pers (.int start), .pers (.int many), .own [], .un, .un, .un] ⟨_, _, _, rfl⟩ (by
      rintro j d env _ hd ⟨s4, s5, s6, rfl⟩
      obtain ⟨hj, rfl⟩ := rng_get hd
      obtain ⟨t5, t6, e⟩ := spots_step ns start many ((spotsV ns start j).map spotD) j s5 s6 hs (by rw [List.length_map, spots_len]; omega)
      refine ⟨_, _, rfl, ?_, .pers (.int (j : Int)), t5, t6, rfl⟩
      rw [spots_succ, List.map_append]
      rw [show (0 : Int) + ((j - 0 : Nat) : Int) = (j : Int) by omega]
      exact e)
  unfold n_spots
  show ((f_spots [.pers (.scr ns), .pers (.int start), .pers (.int many), .un, .un, .un, .un]).bind _) = _
  unfold f_spots
  rw [seq_next (env' := [.pers (.scr ns), .pers (.int start), .pers (.int many), .own [], .un, .un, .un]) (by simp)]
  have hr : fRng1 (fCons (fVar 2) (fNil)) [.pers (.scr ns), .pers (.int start), .pers (.int many), .own [], .un, .un, .un] = .ok (rngD 0 many.toNat) := rng1_is rfl (by omega)
  rw [seq_next (env' := [.pers (.scr ns), .pers (.int start), .pers (.int many), .own ((spotsV ns start (0 + (rngD 0 many.toNat).length)).map spotD), s4, s5, s6]) (by simp only [forS, hr, bind_ok]; exact he)]
  have hl : 0 + (rngD 0 many.toNat).length = many.toNat := by simp [rngD]
  rw [hl]
  simp
def f_p_back : FS :=
 retS (f1 gRevL (fVar 0))
def n_p_back : List D → Out Val := runD 1 f_p_back
theorem nice_p_back : ∀ ds v, ds.length = 1 → n_p_back ds = .ok v → runD 1 f_p_back ds = .ok v := fun _ _ _ h => h
theorem back_is (rope : List Spot) : n_p_back [.lst (rope.map spotD)] = .ok (.fresh (rope.reverse.map spotD)) := by
  unfold n_p_back
  simp [f_p_back]
@[reducible] def i1_p_joined : FS :=
 ifS (fTrB (f2 gNe (f2 gIx (fVar 0) (f1 gNeg (fC (.int 1)))) (f2 gIx (fVar 1) (fC (.int 0)))))
 (fun _ => .bad)
 (nxtS)
def f_p_joined : FS :=
 seqS (i1_p_joined)
 (retS (f2 gAdd (fVar 0) (fSl (fVar 1) (fSo (fC (.int 1))) (fNo))))
def n_p_joined : List D → Out Val := runD 2 f_p_joined
theorem nice_p_joined : ∀ ds v, ds.length = 2 → n_p_joined ds = .ok v → runD 2 f_p_joined ds = .ok v := fun _ _ _ h => h
theorem joined_is {one other : List Spot} (h1 : one ≠ []) (h2 : other ≠ []) (he : lastV one = firstV other) (hl : one.length + other.length ≤ 1000) :
    n_p_joined [.lst (one.map spotD), .lst (other.map spotD)] = .ok (.fresh ((one ++ other.tail).map spotD)) := by
  have hA := at_first h2
  have hZ := at_last h1
  unfold n_p_joined
  show ((f_p_joined [.pers (.lst (one.map spotD)), .pers (.lst (other.map spotD))]).bind _) = _
  unfold f_p_joined
  rw [seq_next (env' := [.pers (.lst (one.map spotD)), .pers (.lst (other.map spotD))]) (by simp [hA, hZ, he, shal_spot, eq_spot])]
  have hs : fSl (fVar 1) (fSo (fC (.int 1))) (fNo) [.pers (.lst (one.map spotD)), .pers (.lst (other.map spotD))] = .ok (.fresh ((other.tail).map spotD)) := by
    rw [← atLast_tail]
    rfl
  simp only [retS, f2, fVar, List.getElem?_cons_zero, List.getElem?_cons_succ, hs, bind_ok, Val.d, gAdd]
  rw [if_pos (by simp; omega)]
  simp
def RRj : RR := fun env c => (fTrB (f2 gNe (f2 gIx (fVar 0) (f1 gNeg (fC (.int 1)))) (f2 gIx (fVar 1) (fC (.int 0))))) env = .ok true ∧ c = "NoEnds"
def Rj : List D → Str → Prop := runR 2 RRj
noncomputable def n_refused : List D → Out Val := askedV Rj "NoEnds"
@[reducible] def i1_law : FS :=
 ifS (fTrB (f2 gNe (f2 gMod (f2 gDiv (fCall n_cell_at (fCons (fVar 0) (fCons (fC (.int 0)) (fNil)))) (fC (.int 361))) (fC (.int 4))) (fC (.int 1))))
 (putS 2 (fC (.int 0)) (f2 gIx (fVar 1) (f1 gNeg (fC (.int 1)))))
 (nxtS)
@[reducible] def i2_law : FS :=
 ifS (fOr (fNot (fTr (f1 (gIsi "list") (fVar 4)))) (fOr (fTrB (f2 gNe (fVar 4) (f1 gRevL (fVar 1)))) (fTrB (f2 gNe (fVar 3) (fLst (hCons (fVar 1) (hCons (fVar 2) (hNil))))))))
 (retS (fC (.bl false)))
 (nxtS)
@[reducible] noncomputable def i3_law : FS :=
 ifS (fTrB (f2 gNe (f2 gIx (fVar 1) (f1 gNeg (fC (.int 1)))) (f2 gIx (fVar 2) (fC (.int 0)))))
 (retS (fAndV (fCall n_refused (fCons (f2 gIx (fVar 3) (fC (.int 0))) (fCons (f2 gIx (fVar 3) (fC (.int 1))) (fNil)))) (f2 gEq (fVar 3) (fLst (hCons (fVar 1) (hCons (fVar 2) (hNil)))))))
 (nxtS)
@[reducible] def i4_law : FS :=
 ifS (fOr (fNot (fTr (f1 (gIsi "list") (fVar 5)))) (fOr (fTrB (f2 gNe (fVar 5) (f2 gAdd (fVar 1) (fSl (fVar 2) (fSo (fC (.int 1))) (fNo))))) (fTrB (f2 gNe (fVar 3) (fLst (hCons (fVar 1) (hCons (fVar 2) (hNil))))))))
 (retS (fC (.bl false)))
 (nxtS)
noncomputable def f_law : FS :=
 seqS (setS 1 true (fCall n_spots (fCons (fVar 0) (fCons (fC (.int 1)) (fCons (f2 gAdd (fC (.int 2)) (f2 gMod (fCall n_cell_at (fCons (fVar 0) (fCons (fC (.int 0)) (fNil)))) (fC (.int 19)))) (fNil))))))
 (seqS (setS 2 false (fCall n_spots (fCons (fVar 0) (fCons (fC (.int 22)) (fCons (f2 gAdd (fC (.int 2)) (f2 gMod (f2 gDiv (fCall n_cell_at (fCons (fVar 0) (fCons (fC (.int 0)) (fNil)))) (fC (.int 19))) (fC (.int 19)))) (fNil))))))
 (seqS (i1_law)
 (frzS 2 (seqS (setS 3 true (fLst (hCons (fB gList (fCons (fVar 1) (fNil))) (hCons (fB gList (fCons (fVar 2) (fNil))) (hNil)))))
 (seqS (setS 4 false (fCall n_p_back (fCons (f2 gIx (fVar 3) (fC (.int 0))) (fNil))))
 (seqS (i2_law)
 (seqS (clrS 4)
 (seqS (i3_law)
 (seqS (setS 5 false (fCall n_p_joined (fCons (f2 gIx (fVar 3) (fC (.int 0))) (fCons (f2 gIx (fVar 3) (fC (.int 1))) (fNil)))))
 (seqS (i4_law)
 (seqS (clrS 5)
 (retS (fAndV (f2 gEq (fVar 3) (fLst (hCons (fVar 1) (hCons (fVar 2) (hNil))))) (f2 gEq (fCall n_p_joined (fCons (f2 gIx (fVar 3) (fC (.int 0))) (fCons (f2 gIx (fVar 3) (fC (.int 1))) (fNil)))) (f2 gAdd (fVar 1) (fSl (fVar 2) (fSo (fC (.int 1))) (fNo)))))))))))))))))
end My
set_option Elab.async false
set_option linter.all false
set_option maxRecDepth 100000
set_option maxHeartbeats 4000000
namespace My
open PySem PySem.Spec PyProof.Rows L2 DL
theorem asked_is {one other : List Spot} (h1 : one ≠ []) (h2 : other ≠ []) (he : lastV one ≠ firstV other) : n_refused [.lst (one.map spotD), .lst (other.map spotD)] = .ok (.pers (.bl true)) := by
  unfold n_refused askedV
  rw [if_pos]
  refine ⟨?_, rfl⟩
  show fTrB _ [.pers (.lst (one.map spotD)), .pers (.lst (other.map spotD))] = _
  have hA := at_first h2
  have hZ := at_last h1
  simp [hA, hZ, he, shal_spot, eq_spot]
theorem handed_eq (a b : List Spot) : eqD (.lst [.lst (a.map spotD), .lst (b.map spotD)]) (.lst [.lst (a.map spotD), .lst (b.map spotD)]) = true := by rw [eqD_lst, eqDL_cons, eqDL_cons, eqDL_nil, eq_spots, eq_spots]; rfl
theorem handed_shal (a b : List Spot) : shal 4 (.lst [.lst (a.map spotD), .lst (b.map spotD)]) = true := by
  rw [shal_lst]
  simp only [List.all_cons, List.all_nil, shal_spots 1 a, shal_spots 1 b, Bool.and_self]
section
variable {ns : List Int} {one other : List Spot} {t u : Slot}
def E6 (ns : List Int) (one other : List Spot) (t u : Slot) : Ev := [.pers (.scr ns), .pers (.lst (one.map spotD)), .pers (.lst (other.map spotD)), .pers (.lst [.lst (one.map spotD), .lst (other.map spotD)]), t, u]
theorem g0 : f2 gIx (fVar 3) (fC (.int 0)) (E6 ns one other t u) = .ok (.pers (.lst (one.map spotD))) := rfl
theorem g1 : f2 gIx (fVar 3) (fC (.int 1)) (E6 ns one other t u) = .ok (.pers (.lst (other.map spotD))) := rfl
theorem gEqH : f2 gEq (fVar 3) (fLst (hCons (fVar 1) (hCons (fVar 2) (hNil)))) (E6 ns one other t u) = .ok (.pers (.bl true)) := by
  show gEq (.lst [.lst (one.map spotD), .lst (other.map spotD)]) (.lst [.lst (one.map spotD), .lst (other.map spotD)]) = _
  unfold gEq
  rw [if_pos (by rw [handed_shal]; rfl), handed_eq]
theorem gNeH : fTrB (f2 gNe (fVar 3) (fLst (hCons (fVar 1) (hCons (fVar 2) (hNil))))) (E6 ns one other t u) = .ok false := by
  have : f2 gNe (fVar 3) (fLst (hCons (fVar 1) (hCons (fVar 2) (hNil)))) (E6 ns one other t u) = .ok (.pers (.bl false)) := by
    show gNe (.lst [.lst (one.map spotD), .lst (other.map spotD)]) (.lst [.lst (one.map spotD), .lst (other.map spotD)]) = _
    unfold gNe
    rw [if_pos (by rw [handed_shal]; rfl), handed_eq]
    rfl
  simp only [fTrB, this, bind_ok, Val.d]
theorem gNe_same (a : List Spot) : gNe (.lst (a.map spotD)) (.lst (a.map spotD)) = .ok (.pers (.bl false)) := by
  unfold gNe
  rw [if_pos (by rw [shal_spots 2]; rfl), eq_spots]
  rfl
theorem gEq_same (a : List Spot) : gEq (.lst (a.map spotD)) (.lst (a.map spotD)) = .ok (.pers (.bl true)) := by
  unfold gEq
  rw [if_pos (by rw [shal_spots 2]; rfl), eq_spots]
theorem gBack : fCall n_p_back (fCons (f2 gIx (fVar 3) (fC (.int 0))) (fNil)) (E6 ns one other t u) = .ok (.fresh (one.reverse.map spotD)) := by
  simp only [fCall, fCons, g0, bind_ok, fNil, callG, frz, List.map_cons, List.map_nil, Val.d, back_is]
  rfl
theorem gJoin (h1 : one ≠ []) (h2 : other ≠ []) (he : lastV one = firstV other) (hl : one.length + other.length ≤ 1000) : fCall n_p_joined (fCons (f2 gIx (fVar 3) (fC (.int 0))) (fCons (f2 gIx (fVar 3) (fC (.int 1))) (fNil))) (E6 ns one other t u) = .ok (.fresh ((one ++ other.tail).map spotD)) := by
  simp only [fCall, fCons, g0, g1, bind_ok, fNil, callG, frz, List.map_cons, List.map_nil, Val.d, joined_is h1 h2 he hl]
  rfl
theorem gDue (hl : one.length + other.length ≤ 1000) : f2 gAdd (fVar 1) (fSl (fVar 2) (fSo (fC (.int 1))) (fNo)) (E6 ns one other t u) = .ok (.fresh ((one ++ other.tail).map spotD)) := by
  have hs : fSl (fVar 2) (fSo (fC (.int 1))) (fNo) (E6 ns one other t u) = .ok (.fresh ((other.tail).map spotD)) := by
    rw [← atLast_tail]
    rfl
  have h1 : fVar 1 (E6 ns one other t u) = .ok (.pers (.lst (one.map spotD))) := rfl
  simp only [f2, h1, hs, bind_ok, Val.d, gAdd]
  rw [if_pos (by simp; omega)]
  simp
theorem gRef (h1 : one ≠ []) (h2 : other ≠ []) (he : lastV one ≠ firstV other) : fCall n_refused (fCons (f2 gIx (fVar 3) (fC (.int 0))) (fCons (f2 gIx (fVar 3) (fC (.int 1))) (fNil))) (E6 ns one other t u) = .ok (.pers (.bl true)) := by
  simp only [fCall, fCons, g0, g1, bind_ok, fNil, callG, frz, List.map_cons, List.map_nil, Val.d, asked_is h1 h2 he]
  rfl
theorem gEnds (h1 : one ≠ []) (h2 : other ≠ []) : fTrB (f2 gNe (f2 gIx (fVar 1) (f1 gNeg (fC (.int 1)))) (f2 gIx (fVar 2) (fC (.int 0)))) (E6 ns one other t u) = .ok (decide (lastV one ≠ firstV other)) := by
  have hA := at_first h2
  have hZ := at_last h1
  simp [E6, hA, hZ, shal_spot, eq_spot]
end
theorem rest_is (ns : List Int) (one other : List Spot) (t u : Slot) (h1 : one ≠ []) (h2 : other ≠ []) (hl : one.length + other.length ≤ 1000) :
    (seqS (setS 4 false (fCall n_p_back (fCons (f2 gIx (fVar 3) (fC (.int 0))) (fNil))))
 (seqS (i2_law)
 (seqS (clrS 4)
 (seqS (i3_law)
 (seqS (setS 5 false (fCall n_p_joined (fCons (f2 gIx (fVar 3) (fC (.int 0))) (fCons (f2 gIx (fVar 3) (fC (.int 1))) (fNil)))))
 (seqS (i4_law)
 (seqS (clrS 5)
 (retS (fAndV (f2 gEq (fVar 3) (fLst (hCons (fVar 1) (hCons (fVar 2) (hNil))))) (f2 gEq (fCall n_p_joined (fCons (f2 gIx (fVar 3) (fC (.int 0))) (fCons (f2 gIx (fVar 3) (fC (.int 1))) (fNil)))) (f2 gAdd (fVar 1) (fSl (fVar 2) (fSo (fC (.int 1))) (fNo))))))))))))) (E6 ns one other t u) = .ok (.ret (.pers (.bl true))) := by
  rw [seq_next (env' := E6 ns one other (.own (one.reverse.map spotD)) u) (by simp only [setS, gBack, bind_ok]; rfl)]
  have n1 : fTrB (f2 gNe (fVar 4) (f1 gRevL (fVar 1))) (E6 ns one other (.own (one.reverse.map spotD)) u) = .ok false := by
    have e1 : fVar 4 (E6 ns one other (.own (one.reverse.map spotD)) u) = .ok (.brw 4 (one.reverse.map spotD)) := rfl
    have e2 : f1 gRevL (fVar 1) (E6 ns one other (.own (one.reverse.map spotD)) u) = .ok (.fresh (one.reverse.map spotD)) := by simp [E6]
    have e3 : f2 gNe (fVar 4) (f1 gRevL (fVar 1)) (E6 ns one other (.own (one.reverse.map spotD)) u) = .ok (.pers (.bl false)) := by
      show (fVar 4 _).bind _ = _
      rw [e1, bind_ok]
      show (f1 gRevL _ _).bind _ = _
      rw [e2, bind_ok]
      exact gNe_same _
    simp only [fTrB, e3, bind_ok, Val.d]
  have n0 : fNot (fTr (f1 (gIsi "list") (fVar 4))) (E6 ns one other (.own (one.reverse.map spotD)) u) = .ok false := rfl
  rw [seq_next (env' := E6 ns one other (.own (one.reverse.map spotD)) u) (by simp only [i2_law, ifS, fOr, n0, n1, gNeH, bind_ok]; rfl)]
  rw [seq_next (env' := E6 ns one other (.own []) u) rfl]
  by_cases he : lastV one = firstV other
  · rw [seq_next (env' := E6 ns one other (.own []) u) (by simp only [i3_law, ifS, gEnds h1 h2, bind_ok]; rw [decide_eq_false (by simp [he])]; rfl)]
    rw [seq_next (env' := E6 ns one other (.own []) (.own ((one ++ other.tail).map spotD))) (by simp only [setS, gJoin h1 h2 he hl, bind_ok]; rfl)]
    have n2 : fTrB (f2 gNe (fVar 5) (f2 gAdd (fVar 1) (fSl (fVar 2) (fSo (fC (.int 1))) (fNo)))) (E6 ns one other (.own []) (.own ((one ++ other.tail).map spotD))) = .ok false := by
      have e1 : fVar 5 (E6 ns one other (.own []) (.own ((one ++ other.tail).map spotD))) = .ok (.brw 5 ((one ++ other.tail).map spotD)) := rfl
      have e3 : f2 gNe (fVar 5) (f2 gAdd (fVar 1) (fSl (fVar 2) (fSo (fC (.int 1))) (fNo))) (E6 ns one other (.own []) (.own ((one ++ other.tail).map spotD))) = .ok (.pers (.bl false)) := by
        show (fVar 5 _).bind _ = _
        rw [e1, bind_ok]
        show (f2 gAdd _ _ _).bind _ = _
        rw [gDue hl, bind_ok]
        exact gNe_same _
      simp only [fTrB, e3, bind_ok, Val.d]
    have n3 : fNot (fTr (f1 (gIsi "list") (fVar 5))) (E6 ns one other (.own []) (.own ((one ++ other.tail).map spotD))) = .ok false := rfl
    rw [seq_next (env' := E6 ns one other (.own []) (.own ((one ++ other.tail).map spotD))) (by simp only [i4_law, ifS, fOr, n3, n2, gNeH, bind_ok]; rfl)]
    rw [seq_next (env' := E6 ns one other (.own []) (.own [])) rfl]
    have e4 : f2 gEq (fCall n_p_joined (fCons (f2 gIx (fVar 3) (fC (.int 0))) (fCons (f2 gIx (fVar 3) (fC (.int 1))) (fNil)))) (f2 gAdd (fVar 1) (fSl (fVar 2) (fSo (fC (.int 1))) (fNo))) (E6 ns one other (.own []) (.own [])) = .ok (.pers (.bl true)) := by
      show (fCall n_p_joined _ _).bind _ = _
      rw [gJoin h1 h2 he hl, bind_ok]
      show (f2 gAdd _ _ _).bind _ = _
      rw [gDue hl, bind_ok]
      exact gEq_same _
    simp only [retS, fAndV, gEqH, e4, bind_ok, Val.d]
  · rw [seq_ret (v := .pers (.bl true)) (by simp only [i3_law, ifS, gEnds h1 h2, bind_ok]; rw [decide_eq_true he]; simp only [if_true, retS, fAndV, gRef h1 h2 he, gEqH, bind_ok, Val.d])]
theorem main : ∀ ns : List Int, ns.length ≤ 63 → runD 6 f_law [.scr ns] = .ok (.pers (.bl true)) := by
  intro ns _
  have hc0 : ∀ (a b c d e : Slot), fCall n_cell_at (fCons (fVar 0) (fCons (fC (.int 0)) (fNil))) [.pers (.scr ns), a, b, c, d, e] = .ok (.pers (.int (ns.getD 0 0))) := fun a b c d e => rfl
  generalize ns.getD 0 0 = c at hc0
  have d19 : cDiv c 19 = true := cDiv_of (by decide) (by decide)
  have d361 : cDiv c 361 = true := cDiv_of (by decide) (by decide)
  obtain ⟨one, hone⟩ : ∃ one, one = spotsV ns 1 (2 + c % 19).toNat := ⟨_, rfl⟩
  obtain ⟨oth, hoth⟩ : ∃ oth, oth = spotsV ns 22 (2 + c / 19 % 19).toNat := ⟨_, rfl⟩
  have l1 : one.length = (2 + c % 19).toNat := by rw [hone, spots_len]
  have l2 : oth.length = (2 + c / 19 % 19).toNat := by rw [hoth, spots_len]
  have n1 : one ≠ [] := fun z => by rw [z] at l1; simp at l1; omega
  have n2 : oth ≠ [] := fun z => by rw [z] at l2; simp at l2; omega
  show ((f_law [.pers (.scr ns), .un, .un, .un, .un, .un]).bind _) = _
  unfold f_law
  have s1 : fCall n_spots (fCons (fVar 0) (fCons (fC (.int 1)) (fCons (f2 gAdd (fC (.int 2)) (f2 gMod (fCall n_cell_at (fCons (fVar 0) (fCons (fC (.int 0)) (fNil)))) (fC (.int 19)))) (fNil)))) [.pers (.scr ns), .un, .un, .un, .un, .un] = .ok (.fresh (one.map spotD)) := by
    have e : f2 gAdd (fC (.int 2)) (f2 gMod (fCall n_cell_at (fCons (fVar 0) (fCons (fC (.int 0)) (fNil)))) (fC (.int 19))) [.pers (.scr ns), .un, .un, .un, .un, .un] = .ok (.pers (.int (2 + c % 19))) := by
      simp only [f2, fC, hc0, bind_ok, Val.d, gMod, gI]
      rfl
    have h0 : fVar 0 [.pers (.scr ns), .un, .un, .un, .un, .un] = .ok (.pers (.scr ns)) := rfl
    simp only [fCall, fCons, h0, e, fC, bind_ok, fNil, callG, frz, List.map_cons, List.map_nil, Val.d]
    rw [spots_is ns 1 (2 + c % 19) (by omega) (by omega), ← hone]
    rfl
  rw [seq_next (env' := [.pers (.scr ns), .pers (.lst (one.map spotD)), .un, .un, .un, .un]) (by simp only [setS, s1, bind_ok]; rfl)]
  have s2 : fCall n_spots (fCons (fVar 0) (fCons (fC (.int 22)) (fCons (f2 gAdd (fC (.int 2)) (f2 gMod (f2 gDiv (fCall n_cell_at (fCons (fVar 0) (fCons (fC (.int 0)) (fNil)))) (fC (.int 19))) (fC (.int 19)))) (fNil)))) [.pers (.scr ns), .pers (.lst (one.map spotD)), .un, .un, .un, .un] = .ok (.fresh (oth.map spotD)) := by
    have e : f2 gAdd (fC (.int 2)) (f2 gMod (f2 gDiv (fCall n_cell_at (fCons (fVar 0) (fCons (fC (.int 0)) (fNil)))) (fC (.int 19))) (fC (.int 19))) [.pers (.scr ns), .pers (.lst (one.map spotD)), .un, .un, .un, .un] = .ok (.pers (.int (2 + c / 19 % 19))) := by
      simp only [f2, fC, hc0, bind_ok, Val.d, gMod, gDiv, gI, d19]
      simp
    have h0 : fVar 0 [.pers (.scr ns), .pers (.lst (one.map spotD)), .un, .un, .un, .un] = .ok (.pers (.scr ns)) := rfl
    simp only [fCall, fCons, h0, e, fC, bind_ok, fNil, callG, frz, List.map_cons, List.map_nil, Val.d]
    rw [spots_is ns 22 (2 + c / 19 % 19) (by omega) (by omega), ← hoth]
    rfl
  rw [seq_next (env' := [.pers (.scr ns), .pers (.lst (one.map spotD)), .own (oth.map spotD), .un, .un, .un]) (by simp only [setS, s2, bind_ok]; rfl)]
  obtain ⟨other, ho, n3, l3⟩ : ∃ other : List Spot, i1_law [.pers (.scr ns), .pers (.lst (one.map spotD)), .own (oth.map spotD), .un, .un, .un] = .ok (.next [.pers (.scr ns), .pers (.lst (one.map spotD)), .own (other.map spotD), .un, .un, .un]) ∧ other ≠ [] ∧ other.length = oth.length := by
    have e : fTrB (f2 gNe (f2 gMod (f2 gDiv (fCall n_cell_at (fCons (fVar 0) (fCons (fC (.int 0)) (fNil)))) (fC (.int 361))) (fC (.int 4))) (fC (.int 1))) [.pers (.scr ns), .pers (.lst (one.map spotD)), .own (oth.map spotD), .un, .un, .un] = .ok (decide (c / 361 % 4 ≠ 1)) := by
      simp only [fTrB, f2, fC, hc0, bind_ok, Val.d, gMod, gDiv, gI, d361]
      simp
      rfl
    by_cases hq : c / 361 % 4 = 1
    · refine ⟨oth, ?_, n2, rfl⟩
      simp only [i1_law, ifS, e, bind_ok]
      rw [decide_eq_false (by simp [hq])]
      rfl
    · refine ⟨oth.set 0 (lastV one), ?_, fun z => n2 (by simpa using z), by simp⟩
      simp only [i1_law, ifS, e, bind_ok]
      rw [decide_eq_true hq]
      have hix : f2 gIx (fVar 1) (f1 gNeg (fC (.int 1))) [.pers (.scr ns), .pers (.lst (one.map spotD)), .own (oth.map spotD), .un, .un, .un] = .ok (.pers (spotD (lastV one))) := by
        have hZ := at_last n1
        simp [hZ]
      have hn : ixN (oth.map spotD).length 0 = some 0 := by
        rw [List.length_map]
        unfold ixN
        rw [if_pos (by omega), if_pos (by omega)]
        rfl
      simp only [if_true, putS, List.getElem?_cons_succ, List.getElem?_cons_zero, hix, bind_ok, Val.hold, fC, Val.d, hn, List.map_set]
      rfl
  rw [seq_next ho]
  show ((frzS 2 _ _).bind _) = _
  unfold frzS
  rw [show frzE 2 [.pers (.scr ns), .pers (.lst (one.map spotD)), .own (other.map spotD), .un, .un, .un] = [.pers (.scr ns), .pers (.lst (one.map spotD)), .pers (.lst (other.map spotD)), .un, .un, .un] from rfl]
  rw [seq_next (env' := E6 ns one other .un .un) rfl]
  rw [rest_is ns one other .un .un n1 n3 (by omega)]
  rfl
end My
set_option Elab.async false
set_option linter.all false
set_option maxRecDepth 100000
set_option maxHeartbeats 4000000
namespace My
open PySem PySem.Spec PyProof.Rows L2 DL
def top (i : Nat) : Stmt := PySem.Challenge.pw_tautline_k16_joined_and_back.main.body.getD i (.Pass ⟨0, 0, 0, 0⟩)
abbrev s_cell_at : Stmt := top 9
theorem sc_cell_at : FnScope ["_law_script", "_law_k"] ["_law_script", "_law_k"] (defScope s_cell_at) := ⟨rfl, rfl, rfl, by decide +kernel, rfl, by decide +kernel, by decide +kernel⟩
abbrev s_spots : Stmt := top 11
theorem sc_spots : FnScope ["_law_script", "_law_start", "_law_many", "_law_found", "_law_k", "_law_cell", "_law_spot"] ["_law_script", "_law_start", "_law_many"] (defScope s_spots) := ⟨rfl, rfl, rfl, by decide +kernel, rfl, by decide +kernel, by decide +kernel⟩
abbrev s_p_back : Stmt := top 7
theorem sc_p_back : FnScope ["rope"] ["rope"] (defScope s_p_back) := ⟨rfl, rfl, rfl, by decide +kernel, rfl, by decide +kernel, by decide +kernel⟩
abbrev s_p_joined : Stmt := top 6
theorem sc_p_joined : FnScope ["one", "other"] ["one", "other"] (defScope s_p_joined) := ⟨rfl, rfl, rfl, by decide +kernel, rfl, by decide +kernel, by decide +kernel⟩
abbrev s_caught : Stmt := top 12
theorem sc_caught : FnScope ["_law_one", "_law_other", "_law_caught_here", "e"] ["_law_one", "_law_other"] (defScope s_caught) := ⟨rfl, rfl, rfl, by decide +kernel, rfl, by decide +kernel, by decide +kernel⟩
abbrev s_refused : Stmt := top 13
theorem sc_refused : FnScope ["_law_one", "_law_other", "_law_caught_here"] ["_law_one", "_law_other"] (defScope s_refused) := ⟨rfl, rfl, rfl, by decide +kernel, rfl, by decide +kernel, by decide +kernel⟩
abbrev s_law : Stmt := top 14
theorem sc_law : FnScope ["_law_script", "_law_one", "_law_other", "_law_handed", "_law_turned", "_law_found"] ["_law_script"] (defScope s_law) := ⟨rfl, rfl, rfl, by decide +kernel, rfl, by decide +kernel, by decide +kernel⟩
section
variable (P : Program) (w : World) (K : PySem.W.Frag) (mg : Str → Option Value) (base : Heap) (k : Nat)
abbrev C_cell_at : Prop := Cal P w K mg base k "_law_cell_at" ["_law_script", "_law_k"] n_cell_at
abbrev C_spots : Prop := Cal P w K mg base k "_law_spots" ["_law_script", "_law_start", "_law_many"] n_spots
abbrev C_p_back : Prop := Cal P w K mg base k "back" ["rope"] n_p_back
abbrev C_p_joined : Prop := Cal P w K mg base k "joined" ["one", "other"] n_p_joined
abbrev C_caught : Prop := CalK P w K mg base k "_law_caught" ["_law_one", "_law_other"] Rj ["NoEnds"]
abbrev C_refused : Prop := Cal P w K mg base k "_law_refused" ["_law_one", "_law_other"] n_refused
end
section
variable {P : Program} {w : World} {K : PySem.W.Frag} {mg : Str → Option Value} {base : Heap} {k : Nat} {f : Addr} {fd : FuncData}
theorem cal_cell_at (F : Fun K "_law_cell_at" "_law_cell_at" s_cell_at f fd) (hm : mg "_law_cell_at" = some (.ref f))  (b_len : mg "len" = none) : C_cell_at P w K mg base (k + 1) := by
 have nd := (sc_cell_at).nd
 exact Cal.imp (m := runD 2 f_cell_at) ⟨f, fd, fn_ok (N := ["_law_script", "_law_k"]) F sc_cell_at fun cdv A outer s G H E hr =>
   dss_cons (ds_if (dt_lt (de_var (pv 1)) (de_callB call_len_seq cd_len b_len PySem.boot_len (da_cons (de_var (pv 0)) (da_nil))))
   (dss_one (ds_ret (de_at (de_var (pv 0)) (de_var (pv 1)))))
   (dss_nil))
   (dss_one (ds_ret (de_int))), hm, F.kp, F.binds (ps := ["_law_script", "_law_k"]) fun _ _ _ _ _ _ us hl => match us, hl with | [_, _], _ => rfl⟩ nice_cell_at
theorem cal_spots (F : Fun K "_law_spots" "_law_spots" s_spots f fd) (hm : mg "_law_spots" = some (.ref f)) (c_cell_at : C_cell_at P w K mg base k) (b_range : mg "range" = none) : C_spots P w K mg base (k + 1) := by
 have nd := (sc_spots).nd
 exact Cal.imp (m := runD 7 f_spots) ⟨f, fd, fn_ok (N := ["_law_script", "_law_start", "_law_many", "_law_found", "_law_k", "_law_cell", "_law_spot"]) F sc_spots fun cdv A outer s G H E hr =>
   dss_cons (ds_set (i := 3) false nd (de_lst (dh_nil)))
   (dss_cons (ds_for PassesOwn.never (di_range1 b_range (da_cons (de_var (pv 2)) (da_nil))) (dg_name (i := 4) nd)
   (dss_cons (ds_set (i := 5) true nd (de_cal c_cell_at hr (da_cons (de_var (pv 0)) (da_cons (de_add (de_var (pv 1)) (de_var (pv 4))) (da_nil))) (len_cons (len_cons (len_nil)))))
   (dss_cons (ds_set (i := 6) true nd (de_tup (dh_cons (de_sub (de_mod (de_var (pv 5)) (de_int)) (de_int)) (dh_cons (de_sub (de_mod (de_div (de_var (pv 5)) (de_int)) (de_int)) (de_int)) (dh_nil)))))
   (dss_cons (ds_if (dt_eq (hu20 hr) (de_mod (de_div (de_var (pv 5)) (de_int)) (de_int)) (de_int))
   (dss_one (ds_set (i := 6) true nd (de_tup (dh_cons (de_sub (de_mod (de_var (pv 5)) (de_mul (de_int) (de_pow (de_int) (de_int)))) (de_pow (de_int) (de_int))) (dh_cons (de_mod (de_div (de_var (pv 5)) (de_int)) (de_pow (de_int) (de_int))) (dh_nil))))))
   (dss_nil))
   (dss_one (ds_append (pv 3) (de_var (pv 6))))))))
   (dss_one (ds_ret (de_var (pv 3))))), hm, F.kp, F.binds (ps := ["_law_script", "_law_start", "_law_many"]) fun _ _ _ _ _ _ us hl => match us, hl with | [_, _, _], _ => rfl⟩ nice_spots
theorem cal_p_back (F : Fun K "back" "back" s_p_back f fd) (hm : mg "back" = some (.ref f))  (b_list : mg "list" = none) (b_reversed : mg "reversed" = none) : C_p_back P w K mg base (k + 1) := by
 have nd := (sc_p_back).nd
 exact Cal.imp (m := runD 1 f_p_back) ⟨f, fd, fn_ok (N := ["rope"]) F sc_p_back fun cdv A outer s G H E hr =>
   dss_one (ds_ret (de_listRev (de_var (pv 0)) b_list b_reversed)), hm, F.kp, F.binds (ps := ["rope"]) fun _ _ _ _ _ _ us hl => match us, hl with | [_], _ => rfl⟩ nice_p_back
theorem calr_p_joined (F : Fun K "joined" "joined" s_p_joined f fd) (hm : mg "joined" = some (.ref f)) {cE : Addr} (hE : mg "NoEnds" = some (.ref cE)) (qE : PySem.W.excIn K cE bmVal "ValueError.__new__" = true) : CalR P w K mg base (k + 1) "joined" ["one", "other"] Rj := by
 have nd := (sc_p_joined).nd
 exact ⟨f, fd, fnx_ok (N := ["one", "other"]) (R := RRj) F sc_p_joined fun cdv A outer s G H E hr => rg_head (rs_if (dt_ne (hu20 hr) (de_at (de_var (pv 0)) (de_neg (de_int))) (de_at (de_var (pv 1)) (de_int))) (rss_head (rs_raise hE qE))), hm, F.kp, F.binds (ps := ["one", "other"]) fun _ _ _ _ _ _ us hl => match us, hl with | [_, _], _ => rfl⟩
theorem cal_p_joined (F : Fun K "joined" "joined" s_p_joined f fd) (hm : mg "joined" = some (.ref f))   : C_p_joined P w K mg base (k + 1) := by
 have nd := (sc_p_joined).nd
 exact Cal.imp (m := runD 2 f_p_joined) ⟨f, fd, fn_ok (N := ["one", "other"]) F sc_p_joined fun cdv A outer s G H E hr =>
   dss_cons (ds_if (dt_ne (hu20 hr) (de_at (de_var (pv 0)) (de_neg (de_int))) (de_at (de_var (pv 1)) (de_int)))
   (dss_one (ds_never))
   (dss_nil))
   (dss_one (ds_ret (de_add (de_var (pv 0)) (de_sl (de_var (pv 1)) (do_some (de_int)) (do_none))))), hm, F.kp, F.binds (ps := ["one", "other"]) fun _ _ _ _ _ _ us hl => match us, hl with | [_, _], _ => rfl⟩ nice_p_joined
theorem cal_caught (F : Fun K "_law_caught" "_law_caught" s_caught f fd) (hm : mg "_law_caught" = some (.ref f)) (c_j : CalR P w K mg base k "joined" ["one", "other"] Rj) {cB : Addr} (hB : mg "RopeError" = some (.ref cB)) (hx : ∀ C, mg "NoEnds" = some (.ref C) → PySem.W.exmOne K (.ref C) (.ref cB) = some true) : C_caught P w K mg base (k + 1) := by
 have nd := (sc_caught).nd
 exact ⟨f, fd, fn_caught (N := ["_law_one", "_law_other", "_law_caught_here", "e"]) (n := 2) (cs := ["NoEnds"]) F sc_caught rfl rfl (fun cdv A outer s G H E hr =>
   pss_cons (ps_set (i := 2) nd rfl (Or.inl rfl) pe_non)
   (pss_cons (ps_try (j := 3) (cs := ["NoEnds"]) (fun E => rss_head (rs_expr (re_call c_j hr (da_cons (de_var (pv 0)) (da_cons (de_var (pv 1)) da_nil)) (len_cons (len_cons len_nil)))))
     (fun e => pss_one (ps_set (i := 2) nd rfl (Or.inl rfl) (pv 3))) hB (fun c hc C hC => hx C (by rw [List.mem_singleton] at hc; rw [← hc]; exact hC)) nd rfl rfl)
   (pss_one (ps_ret (pv 2)))))
   (fun ds c hl h => match ds, hl, h with | [a, b], _, h => ⟨[.pers a, .pers b], rfl, rfl, h⟩), hm, F.kp, F.binds (ps := ["_law_one", "_law_other"]) fun _ _ _ _ _ _ us hl => match us, hl with | [_, _], _ => rfl⟩
theorem boot_ValueError : bootBuiltins "ValueError" = some (.type "ValueError") := by decide +kernel
theorem cal_refused (F : Fun K "_law_refused" "_law_refused" s_refused f fd) (hm : mg "_law_refused" = some (.ref f)) (c_caught : C_caught P w K mg base k) (b_isinstance : mg "isinstance" = none) (b_ValueError : mg "ValueError" = none) {cE c1 c2 : Addr} (Z : Kin K mg "NoEnds" cE c1 c2) (m1 : mg "NoPegs" = some (.ref c1)) (m2 : mg "NoRope" = some (.ref c2)) : C_refused P w K mg base (k + 1) := by
 have nd := (sc_refused).nd
 exact ⟨f, fd, fn_asked (N := ["_law_one", "_law_other", "_law_caught_here"]) F sc_refused rfl rfl Z (fun cdv A outer s H E hr =>
   pss_cons (ps_set (i := 2) nd rfl (Or.inl rfl) (pe_calK c_caught rfl hr (pa_cons (pv 0) (pa_cons (pv 1) pa_nil))))
   (pss_cons (ps_if (pt_val (pe_callB call_isiT rfl b_isinstance boot_isinstance (pa_cons (pv 2) (pa_cons (pe_tup (pa_cons (pe_glob rfl m1 rfl) (pa_cons (pe_glob rfl m2 rfl) pa_nil))) pa_nil)))) (pss_one (ps_ret pe_bl)) pss_nil)
   (pss_one (ps_ret (pe_and (pe_callB call_isiX rfl b_isinstance boot_isinstance (pa_cons (pv 2) (pa_cons (pe_glob rfl Z.at_ rfl) pa_nil))) (pe_one (pe_callB call_isiX rfl b_isinstance boot_isinstance (pa_cons (pv 2) (pa_cons (pe_bltn rfl b_ValueError boot_ValueError rfl) pa_nil))))))))), hm, F.kp, F.binds (ps := ["_law_one", "_law_other"]) fun _ _ _ _ _ _ us hl => match us, hl with | [_, _], _ => rfl⟩
theorem ok_law (F : Fun K "law" "law" s_law f fd) (c_spots : C_spots P w K mg base k) (c_cell_at : C_cell_at P w K mg base k) (c_p_back : C_p_back P w K mg base k) (c_refused : C_refused P w K mg base k) (c_p_joined : C_p_joined P w K mg base k) (b_list : mg "list" = none) (b_isinstance : mg "isinstance" = none) (b_reversed : mg "reversed" = none) : FnOk P w K mg base CX0 (k + 1) f fd ["_law_script"] (spD K (runD 6 f_law) 1) := by
 have nd := (sc_law).nd
 exact fn_ok (N := ["_law_script", "_law_one", "_law_other", "_law_handed", "_law_turned", "_law_found"]) F sc_law fun cdv A outer s G H E hr =>
   dss_cons (ds_set (i := 1) true nd (de_cal c_spots hr (da_cons (de_var (pv 0)) (da_cons (de_int) (da_cons (de_add (de_int) (de_mod (de_cal c_cell_at hr (da_cons (de_var (pv 0)) (da_cons (de_int) (da_nil))) (len_cons (len_cons (len_nil)))) (de_int))) (da_nil)))) (len_cons (len_cons (len_cons (len_nil))))))
   (dss_cons (ds_set (i := 2) false nd (de_cal c_spots hr (da_cons (de_var (pv 0)) (da_cons (de_int) (da_cons (de_add (de_int) (de_mod (de_div (de_cal c_cell_at hr (da_cons (de_var (pv 0)) (da_cons (de_int) (da_nil))) (len_cons (len_cons (len_nil)))) (de_int)) (de_int))) (da_nil)))) (len_cons (len_cons (len_cons (len_nil))))))
   (dss_cons (ds_if (dt_ne (hu20 hr) (de_mod (de_div (de_cal c_cell_at hr (da_cons (de_var (pv 0)) (da_cons (de_int) (da_nil))) (len_cons (len_cons (len_nil)))) (de_int)) (de_int)) (de_int))
   (dss_one (ds_put (pv 2) (de_int) (de_at (de_var (pv 1)) (de_neg (de_int)))))
   (dss_nil))
   (dss_frz 2 (dss_cons (ds_set (i := 3) true nd (de_lst (dh_cons (de_callT call_list_of cd_list b_list boot_list (da_cons (de_var (pv 1)) (da_nil))) (dh_cons (de_callT call_list_of cd_list b_list boot_list (da_cons (de_var (pv 2)) (da_nil))) (dh_nil)))))
   (dss_cons (ds_set (i := 4) false nd (de_cal c_p_back hr (da_cons (de_at (de_var (pv 3)) (de_int)) (da_nil)) (len_cons (len_nil))))
   (dss_cons (ds_if (dt_w (dw_or (dt_not (dt_val (de_isi isi_list (de_var (pv 4)) b_isinstance b_list boot_list))) (dw_or (dt_ne (hu20 hr) (de_var (pv 4)) (de_listRev (de_var (pv 1)) b_list b_reversed)) (dw_or1 (dt_ne (hu20 hr) (de_var (pv 3)) (de_lst (dh_cons (de_var (pv 1)) (dh_cons (de_var (pv 2)) (dh_nil)))))))))
   (dss_one (ds_ret (de_bl)))
   (dss_nil))
   (dss_cons (ds_clear (pv 4))
   (dss_cons (ds_if (dt_ne (hu20 hr) (de_at (de_var (pv 1)) (de_neg (de_int))) (de_at (de_var (pv 2)) (de_int)))
   (dss_one (ds_ret (de_and (de_cal c_refused hr (da_cons (de_at (de_var (pv 3)) (de_int)) (da_cons (de_at (de_var (pv 3)) (de_int)) (da_nil))) (len_cons (len_cons (len_nil)))) (de_one (de_eq (hu20 hr) (de_var (pv 3)) (de_lst (dh_cons (de_var (pv 1)) (dh_cons (de_var (pv 2)) (dh_nil)))))))))
   (dss_nil))
   (dss_cons (ds_set (i := 5) false nd (de_cal c_p_joined hr (da_cons (de_at (de_var (pv 3)) (de_int)) (da_cons (de_at (de_var (pv 3)) (de_int)) (da_nil))) (len_cons (len_cons (len_nil)))))
   (dss_cons (ds_if (dt_w (dw_or (dt_not (dt_val (de_isi isi_list (de_var (pv 5)) b_isinstance b_list boot_list))) (dw_or (dt_ne (hu20 hr) (de_var (pv 5)) (de_add (de_var (pv 1)) (de_sl (de_var (pv 2)) (do_some (de_int)) (do_none)))) (dw_or1 (dt_ne (hu20 hr) (de_var (pv 3)) (de_lst (dh_cons (de_var (pv 1)) (dh_cons (de_var (pv 2)) (dh_nil)))))))))
   (dss_one (ds_ret (de_bl)))
   (dss_nil))
   (dss_cons (ds_clear (pv 5))
   (dss_one (ds_ret (de_and (de_eq (hu20 hr) (de_var (pv 3)) (de_lst (dh_cons (de_var (pv 1)) (dh_cons (de_var (pv 2)) (dh_nil))))) (de_one (de_eq (hu20 hr) (de_cal c_p_joined hr (da_cons (de_at (de_var (pv 3)) (de_int)) (da_cons (de_at (de_var (pv 3)) (de_int)) (da_nil))) (len_cons (len_cons (len_nil)))) (de_add (de_var (pv 1)) (de_sl (de_var (pv 2)) (do_some (de_int)) (do_none)))))))))))))))))))
end
end My
set_option Elab.async false
set_option linter.all false
set_option maxRecDepth 100000
set_option maxHeartbeats 4000000
namespace My
open PySem PySem.Spec PyProof.Rows L2 DL
abbrev A_ (K : PySem.W.Frag) (x : Str) (f : Addr) : Prop := PySem.W.nsIn K mainGlobals x = some (some (.ref f))
abbrev L_ (K : PySem.W.Frag) (f : Addr) (x : Str) (s : Stmt) (oc kV dc pm cd ct : Value) (od an : Option Addr) (sl : Array (Option Value)) : Prop := K.lookup f = some ⟨oc, od, .func (PySem.W.fnOf x x (defArgs s) (defBody s) (defScope s) .none kV dc pm an cd ct), sl⟩
abbrev D_ (K : PySem.W.Frag) (cd : Value) (x : Str) : Prop := PySem.W.codeIn K cd x = true
abbrev P_ (K : PySem.W.Frag) (f : Addr) : Prop := PySem.W.keepIn K (.ref f) = true
theorem all_mk {l : PySem.W.OpenLaw} {w : World} {K : PySem.W.Frag} {h : Heap} {mg : Str → Option Value} {fa f1 f2 f3 f4 f5 f6 f7 uB uP uR uE : Addr} (X : K.In h) (G : h.Ns mainGlobals mg) (hfa : mg "law" = some (.ref fa))
  {od1 an1 od2 an2 od3 an3 od4 an4 od5 an5 od6 an6 od7 an7 : Option Addr} {sl1 sl2 sl3 sl4 sl5 sl6 sl7 : Array (Option Value)} {oc1 kV1 dc1 pm1 cd1 ct1 oc2 kV2 dc2 pm2 cd2 ct2 oc3 kV3 dc3 pm3 cd3 ct3 oc4 kV4 dc4 pm4 cd4 ct4 oc5 kV5 dc5 pm5 cd5 ct5 oc6 kV6 dc6 pm6 cd6 ct6 oc7 kV7 dc7 pm7 cd7 ct7 : Value}
  (a1 : A_ K "_law_cell_at" f1) (l1 : L_ K f1 "_law_cell_at" s_cell_at oc1 kV1 dc1 pm1 cd1 ct1 od1 an1 sl1) (c1 : D_ K cd1 "_law_cell_at") (k1 : P_ K f1)
  (a2 : A_ K "_law_spots" f2) (l2 : L_ K f2 "_law_spots" s_spots oc2 kV2 dc2 pm2 cd2 ct2 od2 an2 sl2) (c2 : D_ K cd2 "_law_spots") (k2 : P_ K f2)
  (a3 : A_ K "back" f3) (l3 : L_ K f3 "back" s_p_back oc3 kV3 dc3 pm3 cd3 ct3 od3 an3 sl3) (c3 : D_ K cd3 "back") (k3 : P_ K f3)
  (a4 : A_ K "joined" f4) (l4 : L_ K f4 "joined" s_p_joined oc4 kV4 dc4 pm4 cd4 ct4 od4 an4 sl4) (c4 : D_ K cd4 "joined") (k4 : P_ K f4)
  (a5 : A_ K "_law_caught" f5) (l5 : L_ K f5 "_law_caught" s_caught oc5 kV5 dc5 pm5 cd5 ct5 od5 an5 sl5) (c5 : D_ K cd5 "_law_caught") (k5 : P_ K f5)
  (a6 : A_ K "_law_refused" f6) (l6 : L_ K f6 "_law_refused" s_refused oc6 kV6 dc6 pm6 cd6 ct6 od6 an6 sl6) (c6 : D_ K cd6 "_law_refused") (k6 : P_ K f6)
  (a7 : A_ K "law" f7) (l7 : L_ K f7 "law" s_law oc7 kV7 dc7 pm7 cd7 ct7 od7 an7 sl7) (c7 : D_ K cd7 "law") (k7 : P_ K f7)
  (e_RopeError : A_ K "RopeError" uB)
  (e_NoPegs : A_ K "NoPegs" uP)
  (e_NoRope : A_ K "NoRope" uR)
  (e_NoEnds : A_ K "NoEnds" uE)
  (qE : PySem.W.excIn K uE [.type "ValueError", .type "Exception", .type "BaseException", .type "object"] "ValueError.__new__" = true)
  (xE : PySem.W.exmOne K (.ref uE) (.ref uB) = some true)
  {cd_uE : ClassData}
  (xcl_uE : PySem.W.clsIn K uE = some cd_uE)
  (xga_uE : PySem.W.findIn K (.ref uE) "__getattribute__" = some (some (.builtin "BaseException.__getattribute__")))
  (xgn_uE : PySem.W.findIn K (.ref uE) "__getattr__" = some none)
  (xca_uE : PySem.W.findIn K (.ref uE) "__class__" = some (some (.builtin "object.__class__")))
  (xcg_uE : PySem.W.specialIn K (.builtin "object.__class__") "__get__" = some (some (.builtin "getset_descriptor.__get__")))
  (xct_uE : PySem.W.takesIn K (.builtin "object.__class__") = some true)
  (xmo_uE : PySem.W.mroIn K uE (.type "object") = some true)
  (xmb_uE : PySem.W.mroIn K uE (.type "BaseException") = some true)
  (kno : PySem.W.kitAny K (.ref uE) [.ref uP, .ref uR] = some false)
  (kyes : PySem.W.kitOne K (.ref uE) (.ref uE) = some true)
  (kval : PySem.W.kitOne K (.ref uE) (.type "ValueError") = some true)
  (z_len : PySem.W.nsIn K mainGlobals "len" = some none)
  (z_range : PySem.W.nsIn K mainGlobals "range" = some none)
  (z_list : PySem.W.nsIn K mainGlobals "list" = some none)
  (z_reversed : PySem.W.nsIn K mainGlobals "reversed" = some none)
  (z_isinstance : PySem.W.nsIn K mainGlobals "isinstance" = some none)
  (z_ValueError : PySem.W.nsIn K mainGlobals "ValueError" = some none) :
  ∃ fd : FuncData, (∀ (s : Shared) (v : Value), BindsTo s fd ⟨[v], []⟩ [("_law_script", v)]) ∧ ∀ base : Heap, K.In base → base.Ns mainGlobals mg → FnOk l.prog w K mg base CX0 4 fa fd ["_law_script"] (spD K (runD 6 f_law) 1) := by
  have e := hfa.symm.trans (PySem.W.mg_of X G a7)
  cases e
  have b_len := PySem.W.mg_none_of X G z_len
  have b_range := PySem.W.mg_none_of X G z_range
  have b_list := PySem.W.mg_none_of X G z_list
  have b_reversed := PySem.W.mg_none_of X G z_reversed
  have b_isinstance := PySem.W.mg_none_of X G z_isinstance
  have b_ValueError := PySem.W.mg_none_of X G z_ValueError
  have F1 := fun_mk (st := s_cell_at) l1 c1 k1
  have F2 := fun_mk (st := s_spots) l2 c2 k2
  have F3 := fun_mk (st := s_p_back) l3 c3 k3
  have F4 := fun_mk (st := s_p_joined) l4 c4 k4
  have F5 := fun_mk (st := s_caught) l5 c5 k5
  have F6 := fun_mk (st := s_refused) l6 c6 k6
  have F7 := fun_mk (st := s_law) l7 c7 k7
  refine ⟨PySem.W.fnOf "law" "law" (defArgs s_law) (defBody s_law) (defScope s_law) .none kV7 dc7 pm7 an7 cd7 ct7, fun s v => .of_eq rfl, fun base _ _ => ?run⟩
  case run =>
    have q_cell_at : C_cell_at l.prog w K mg base 1 := cal_cell_at (k := 0) F1 (PySem.W.mg_of X G a1)  b_len
    have q_spots : C_spots l.prog w K mg base 2 := cal_spots (k := 1) F2 (PySem.W.mg_of X G a2) (q_cell_at.mono (by decide)) b_range
    have q_p_back : C_p_back l.prog w K mg base 1 := cal_p_back (k := 0) F3 (PySem.W.mg_of X G a3)  b_list b_reversed
    have r_p_joined : CalR l.prog w K mg base 1 "joined" ["one", "other"] Rj := calr_p_joined (k := 0) F4 (PySem.W.mg_of X G a4) (PySem.W.mg_of X G e_NoEnds) qE
    have q_p_joined : C_p_joined l.prog w K mg base 1 := cal_p_joined (k := 0) F4 (PySem.W.mg_of X G a4)
    have q_caught : C_caught l.prog w K mg base 2 := cal_caught (k := 1) F5 (PySem.W.mg_of X G a5) (r_p_joined.mono (by decide)) (PySem.W.mg_of X G e_RopeError) (fun C hC => by cases hC.symm.trans (PySem.W.mg_of X G e_NoEnds); exact xE)
    have q_refused : C_refused l.prog w K mg base 3 := cal_refused (k := 2) F6 (PySem.W.mg_of X G a6) (q_caught.mono (by decide)) b_isinstance b_ValueError ⟨PySem.W.mg_of X G e_NoEnds, ⟨(by rw [xcl_uE]; rfl), xga_uE, xgn_uE, xca_uE, xcg_uE, xct_uE, xmo_uE, xmb_uE⟩, kno, kyes, kval⟩ (PySem.W.mg_of X G e_NoPegs) (PySem.W.mg_of X G e_NoRope)
    exact ok_law (k := 3) F7 (q_spots.mono (by decide)) (q_cell_at.mono (by decide)) (q_p_back.mono (by decide)) (q_refused.mono (by decide)) (q_p_joined.mono (by decide)) b_list b_isinstance b_reversed
theorem law_sp (main : ∀ ns : List Int, ns.length ≤ 63 → runD 6 f_law [.scr ns] = .ok (.pers (.bl true))) (K : PySem.W.Frag) (H : Hp) (a : Addr) (ns : List Int) (hl : ns.length ≤ 63) (hS : SqL K H a (ns.map V.int)) :
    spD K (runD 6 f_law) 1 [.ref a] H (fun v _ => v = .bl true) fun _ _ _ => False :=
  ⟨H, [.scr ns], _, rfl, Same.refl _, ⟨_, _, rfl, ⟨a, rfl, hS⟩, rfl⟩, main ns hl, fun v G' H' _ _ h => h⟩
end My
set_option Elab.async false
set_option linter.all false
set_option maxRecDepth 100000
set_option maxHeartbeats 4000000
namespace My
open PySem PySem.Spec PyProof.Rows L2 DL
end My
open PySem PySem.W PyProof.Rows
set_option maxRecDepth 100000 in
set_option maxHeartbeats 0 in
theorem PySem.Challenge.cw_tautline_k16_joined_and_back_holds : PySem.Challenge.rw_tautline_k16_joined_and_back.Holds := by
  w_on; o_law; k_head; (case hw => w_witness2)
  k_fill
  refine L2.walk_ofK (l := PySem.Challenge.rw_tautline_k16_joined_and_back) (n := 63) (k := 4) (x := "_law_script") (CX := L2.CX0) (sp := fun K => DL.spD K (DL.runD 6 My.f_law) 1) rfl (by decide) rfl ⟨rfl, by decide, by decide⟩ (fun w h Y => PySem.W.kIn_of Y) ?F ?S ?C
  case F =>
    intro w mg fa h KX G hmg
    refine' My.all_mk KX G hmg ?a1 ?l1 ?c1 ?k1 ?a2 ?l2 ?c2 ?k2 ?a3 ?l3 ?c3 ?k3 ?a4 ?l4 ?c4 ?k4 ?a5 ?l5 ?c5 ?k5 ?a6 ?l6 ?c6 ?k6 ?a7 ?l7 ?c7 ?k7 ?e_RopeError ?e_NoPegs ?e_NoRope ?e_NoEnds ?qE ?xE ?xcl_uE ?xga_uE ?xgn_uE ?xca_uE ?xcg_uE ?xct_uE ?xmo_uE ?xmb_uE ?kno ?kyes ?kval ?z_len ?z_range ?z_list ?z_reversed ?z_isinstance ?z_ValueError
    (case a1 => unfold My.A_; k_is); (case l1 => unfold My.L_; k_is); (case c1 => unfold My.D_; k_is); (case k1 => unfold My.P_; k_is)
    (case a2 => unfold My.A_; k_is); (case l2 => unfold My.L_; k_is); (case c2 => unfold My.D_; k_is); (case k2 => unfold My.P_; k_is)
    (case a3 => unfold My.A_; k_is); (case l3 => unfold My.L_; k_is); (case c3 => unfold My.D_; k_is); (case k3 => unfold My.P_; k_is)
    (case a4 => unfold My.A_; k_is); (case l4 => unfold My.L_; k_is); (case c4 => unfold My.D_; k_is); (case k4 => unfold My.P_; k_is)
    (case a5 => unfold My.A_; k_is); (case l5 => unfold My.L_; k_is); (case c5 => unfold My.D_; k_is); (case k5 => unfold My.P_; k_is)
    (case a6 => unfold My.A_; k_is); (case l6 => unfold My.L_; k_is); (case c6 => unfold My.D_; k_is); (case k6 => unfold My.P_; k_is)
    (case a7 => unfold My.A_; k_is); (case l7 => unfold My.L_; k_is); (case c7 => unfold My.D_; k_is); (case k7 => unfold My.P_; k_is)
    (case e_RopeError => unfold My.A_; k_is)
    (case e_NoPegs => unfold My.A_; k_is)
    (case e_NoRope => unfold My.A_; k_is)
    (case e_NoEnds => unfold My.A_; k_is)
    (case qE => k_exc)
    (case xE => kts_exm)
    (case xcl_uE => k_is)
    (case xga_uE => k_is)
    (case xgn_uE => k_is)
    (case xca_uE => k_is)
    (case xcg_uE => k_is)
    (case xct_uE => k_is)
    (case xmo_uE => k_is)
    (case xmb_uE => k_is)
    (case kno => kit_is)
    (case kyes => kit_is)
    (case kval => kit_is)
    (case z_len => k_is)
    (case z_range => k_is)
    (case z_list => k_is)
    (case z_reversed => k_is)
    (case z_isinstance => k_is)
    (case z_ValueError => k_is)
  case S => exact fun K H a ns hl hO hS => My.law_sp My.main K H a ns hl hS
  case C => exact fun _ _ _ _ z => z
