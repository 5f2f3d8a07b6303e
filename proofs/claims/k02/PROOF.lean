import PyProof.Rows.All
import Wide.All
import OpenK.AllK
import Wide.FinOn
import Lean
import PyProof.EqAt
import PyProof.EqKinds
import PyProof.TupleCall
import KE.KItemsList
import KE.KMinBuiltin
import KE.KRevIter
import KE.KTryMore
import PyProof.ExcArgs
import PyProof.ExcAttrAll.ValueError
import PyProof.NsDelKeeps
import PySem.Challenge.RW_tautline_k02_two_pegs_alike
set_option Elab.async false
set_option linter.all false
set_option maxRecDepth 100000
namespace L2
open PySem PySem.Spec PyProof.Rows
abbrev Key := Sum Int Str
noncomputable def keyIs : Key → Value → Bool
  | .inl k, v => Value.isInt k v
  | .inr x, v => Value.isStrOf x v
noncomputable def keyH (w : World) : Key → Int
  | .inl k => hashInt k
  | .inr x => hashStr w x
theorem keyIs_shape : ∀ {k : Key} {v : Value}, keyIs k v = true → (∃ i t, k = Sum.inl i ∧ v = Value.int i t) ∨ (∃ x t, k = Sum.inr x ∧ v = Value.str x t)
  | .inl i, v, h => by
    obtain ⟨t, e⟩ := Value.isInt_shape (k := i) (v := v) h
    exact .inl ⟨i, t, rfl, e⟩
  | .inr x, v, h => by
    obtain ⟨t, e⟩ := Value.isStrOf_shape (x := x) (v := v) h
    exact .inr ⟨x, t, rfl, e⟩
theorem keyIs_int (i : Int) (t : Tok) : keyIs (.inl i) (.int i t) = true := by simp [keyIs, Value.isInt]
theorem key_ll (a b : Int) : decide ((Sum.inl a : Key) = Sum.inl b) = (a == b) := by
  by_cases e : a = b
  · subst e; simp
  · have h : ¬ (Sum.inl a : Key) = Sum.inl b := fun q => e (Sum.inl.inj q)
    rw [decide_eq_false h]
    exact (beq_eq_false_iff_ne.mpr e).symm
theorem key_rr (a b : Str) : decide ((Sum.inr a : Key) = Sum.inr b) = decide (a = b) := by
  by_cases e : a = b
  · subst e; simp
  · have h : ¬ (Sum.inr a : Key) = Sum.inr b := fun q => e (Sum.inr.inj q)
    rw [decide_eq_false h, decide_eq_false e]
theorem key_lr (a : Int) (b : Str) : decide ((Sum.inl a : Key) = Sum.inr b) = false := decide_eq_false (fun q => nomatch q)
theorem key_rl (a : Str) (b : Int) : decide ((Sum.inr a : Key) = Sum.inl b) = false := decide_eq_false (fun q => nomatch q)
noncomputable def mixKind (prog : Program) (w : World) : PySem.KeyKind prog w Key where
  is := keyIs
  hash := keyH w
  inj := fun v a b ha hb => by
    rcases keyIs_shape ha with ⟨i, t, rfl, rfl⟩ | ⟨x, t, rfl, rfl⟩
    · rcases keyIs_shape hb with ⟨j, u, rfl, e⟩ | ⟨y, u, rfl, e⟩
      · injection e with e1 _; rw [e1]
      · exact nomatch e
    · rcases keyIs_shape hb with ⟨j, u, rfl, e⟩ | ⟨y, u, rfl, e⟩
      · exact nomatch e
      · injection e with e1 _; rw [e1]
  byValue := fun k v h => by
    rcases keyIs_shape h with ⟨i, t, rfl, rfl⟩ | ⟨x, t, rfl, rfl⟩ <;> rfl
  pyHash := fun hv h => by
    rcases keyIs_shape hv with ⟨i, t, rfl, rfl⟩ | ⟨x, t, rfl, rfl⟩
    · exact wpAny_pyHash_int h
    · exact wpAny_pyHash_str h
  eqBool := fun hu hv h => by
    rcases keyIs_shape hu with ⟨i, t, rfl, rfl⟩ | ⟨x, t, rfl, rfl⟩
    · rcases keyIs_shape hv with ⟨j, u, rfl, rfl⟩ | ⟨y, u, rfl, rfl⟩
      · rw [key_ll] at h; exact wpAny_eqBool_int h
      · rw [key_lr] at h; exact SeqAt.EqAt.int_str i t y u _ _ _ _ h
    · rcases keyIs_shape hv with ⟨j, u, rfl, rfl⟩ | ⟨y, u, rfl, rfl⟩
      · rw [key_rl] at h; exact SeqAt.EqAt.str_int x t j u _ _ _ _ h
      · rw [key_rr] at h; exact wpAny_eqBool_str h
  «strs» := fun k x t v h => by
    rcases keyIs_shape h with ⟨i, u, rfl, e⟩ | ⟨y, u, rfl, e⟩
    · exact nomatch e
    · injection e with e1 _
      subst e1
      cases v <;> rfl
end L2
namespace L2
open PySem PySem.Spec PyProof.Rows
inductive V where
  | non | bl (b : Bool) | int (i : Int) | str (x : Str) | byt (b : Array UInt8) | flt (b : UInt64) | ref (a : Addr) | ty (n : String)
  deriving DecidableEq
def RelV : V → Value → Prop
  | .non, u => u = Value.none
  | .bl b, u => u = Value.bool b
  | .int i, u => ∃ t, u = Value.int i t
  | .str x, u => ∃ t, u = Value.str x t
  | .byt b, u => ∃ t, u = Value.bytes b t
  | .flt b, u => ∃ t, u = Value.float b t
  | .ref a, u => u = Value.ref a
  | .ty n, u => u = Value.type n
noncomputable abbrev Vals : List V → List Value → Prop := Paired RelV
theorem Vals.length {xs : List V} {us : List Value} (r : Vals xs us) : xs.length = us.length := Paired.length r
theorem Vals.get : ∀ {xs : List V} {us : List Value} {i : Nat} {x : V}, Vals xs us → xs[i]? = some x → ∃ u, us[i]? = some u ∧ RelV x u
  | _, _, _, _, .nil, e => by simp at e
  | _, _, 0, _, .cons r _, e => by simp at e; subst e; exact ⟨_, rfl, r⟩
  | _, _, i + 1, x, .cons _ t, e => by
    obtain ⟨u, h1, h2⟩ := Vals.get (i := i) (x := x) t (by simpa using e)
    exact ⟨u, by simpa using h1, h2⟩
theorem Vals.set {x : V} {u : Value} (r : RelV x u) : ∀ {xs : List V} {us : List Value} (i : Nat), Vals xs us → Vals (xs.set i x) (us.set i u)
  | _, _, _, .nil => .nil
  | _, _, 0, .cons _ t => .cons r t
  | _, _, i + 1, .cons q t => .cons q (Vals.set r i t)
theorem Vals.append : ∀ {xs ys : List V} {us ws : List Value}, Vals xs us → Vals ys ws → Vals (xs ++ ys) (us ++ ws)
  | _, _, _, _, .nil, s => s
  | _, _, _, _, .cons r t, s => .cons r (Vals.append t s)
theorem Vals.take : ∀ {xs : List V} {us : List Value} (n : Nat), Vals xs us → Vals (xs.take n) (us.take n)
  | _, _, 0, _ => .nil
  | _, _, _ + 1, .nil => .nil
  | _, _, n + 1, .cons r t => .cons r (Vals.take n t)
theorem Vals.drop : ∀ {xs : List V} {us : List Value} (n : Nat), Vals xs us → Vals (xs.drop n) (us.drop n)
  | _, _, 0, r => r
  | _, _, _ + 1, .nil => .nil
  | _, _, n + 1, .cons _ t => Vals.drop n t
def RelO : Option V → Option Value → Prop
  | some v, some u => RelV v u
  | none, none => True
  | _, _ => False
noncomputable def KV {κ : Type} : List (κ × V) → List (κ × Value) → Prop := Paired fun (p : κ × V) (q : κ × Value) => p.1 = q.1 ∧ RelV p.2 q.2
noncomputable def kV : Key → V
  | .inl i => .int i
  | .inr x => .str x
inductive HO where
  | lst (xs : List V)
  | tup (xs : List V)
  | dK (kvs : List (Key × V)) | dT (kvs : List (List Key × V))
  | set (S : Int → Bool) (n : Nat)
  | ins (C dx : Addr) (fs : List (Str × V))
  | own (x : Addr)
  | xd (fs : List (Str × V))
  | met (f x : Addr)
  | rng (lo hi : Int)
  | frz (o : Obj) (u : HO)
  | tbl (ps : Array Value)
  | ext (φ : Heap → Prop)
abbrev Hp := Addr → Option HO
noncomputable def upd (H : Hp) (a : Addr) (o : HO) : Hp := fun b => if b = a then some o else H b
theorem upd_same {H : Hp} {a : Addr} {o : HO} : upd H a o a = some o := by unfold upd; rw [if_pos rfl]
theorem upd_ne {H : Hp} {a b : Addr} {o : HO} (h : b ≠ a) : upd H a o b = H b := by unfold upd; rw [if_neg h]
theorem ne_of {H : Hp} {a b : Addr} {o u : HO} (h : H a = some o) (h' : H b = some u) (d : o ≠ u) : a ≠ b := by
  intro e; subst e; rw [h] at h'; exact d (Option.some.inj h')
theorem ne_of_none {H : Hp} {a b : Addr} {o : HO} (h : H a = some o) (h' : H b = none) : a ≠ b := by
  intro e; subst e; rw [h] at h'; cases h'
section
variable (P : Program) (w : World)
def ObjOk (H : Hp) (h : Heap) (a : Addr) : HO → Prop
  | .lst xs => xs.length ≤ sizeLine ∧ ∃ (its : List Value) (n : Nat), Vals xs its ∧ h.get? a = some { cls := .type "list", data := .seq its.toArray n }
  | .tup xs => xs.length ≤ sizeLine ∧ ∃ its : List Value, Vals xs its ∧ IsTup h a its.toArray
  | .dK kvs => kvs.length ≤ sizeLine ∧ (a == sysModules) = false ∧ ∃ vs, KV kvs vs ∧ h.DictOf (mixKind P w) a vs
  | .dT kvs => kvs.length ≤ sizeLine ∧ (a == sysModules) = false ∧ ∃ xs : List (List Key × Addr × Value),
      Paired (fun (p : List Key × V) (q : List Key × Addr × Value) => p.1 = q.1 ∧ H q.2.1 = some (.tup (p.1.map kV)) ∧ RelV p.2 q.2.2) kvs xs ∧
      ∃ o es ep, h.get? a = some o ∧ o.ExactDict ∧ o.data = .dict es ep ∧ es.toList = xs.map (entryOfKey (tupleKind (mixKind P w))) ∧ (xs.map (·.1)).Nodup
  | .set S n => h.SetOf (intKind P w) a S n
  | .ins C dx fs => H dx = some (.own a) ∧ fs.length ≤ 1000 ∧ dx ≠ a ∧ h.get? a = some (PySem.W.instObj C dx) ∧
      ∃ mA, h.Ns1 dx mA ∧ (∀ f, RelO (fs.lookup f) (mA f)) ∧ PySem.Within mA (fs.map (·.1))
  | .own _ => ∃ o, h.get? a = some o
  | .xd fs => ∃ mA, h.Ns1 a mA ∧ ∀ f, RelO (fs.lookup f) (mA f)
  | .rng lo hi => ∃ t u v, h.get? a = some { cls := .type "range", data := .fields #[.int lo t, .int hi u, .int 1 v] }
  | .frz o u => h.get? a = some o ∧ ObjOk H h a u
  | .tbl ps => h.get? a = some { cls := .none, data := .fields ps }
  | .met f x => h.get? a = some (PySem.W.methodObj (.ref f) (.ref x))
  | .ext φ => φ h ∧ (∃ o, h.get? a = some o) ∧ ∀ h1 h2 : Heap, φ h1 → (∀ o, h1.get? a = some o → h2.get? a = some o) → φ h2
def HOk (H : Hp) (h : Heap) : Prop := ∀ a o, H a = some o → ObjOk P w H h a o
end
section
variable {P : Program} {w : World} {H H' : Hp} {h h' : Heap} {a : Addr} {o : HO}
theorem ObjOk.lt (x : ObjOk P w H h a o) : a < h.objs.size := by
  cases o with
  | lst xs => obtain ⟨_, _, _, _, e⟩ := x; exact Heap.lt_size e
  | tup xs => obtain ⟨_, _, _, p⟩ := x; exact p.lt
  | dK kvs => obtain ⟨_, _, _, _, o, _, _, e, _⟩ := x; exact Heap.lt_size e
  | dT kvs => obtain ⟨_, _, _, _, o, _, _, e, _⟩ := x; exact Heap.lt_size e
  | set S n => obtain ⟨o, _, _, _, e, _⟩ := x; exact Heap.lt_size e
  | ins C dx fs => obtain ⟨_, _, _, e, _⟩ := x; exact Heap.lt_size e
  | own y => obtain ⟨_, e⟩ := x; exact Heap.lt_size e
  | xd fs => obtain ⟨_, ⟨_, _, _, e, _⟩, _⟩ := x; exact Heap.lt_size e
  | rng lo hi => obtain ⟨_, _, _, e⟩ := x; exact Heap.lt_size e
  | frz ob u => obtain ⟨e, _⟩ := x; exact Heap.lt_size e
  | tbl ps => exact Heap.lt_size (show h.get? a = some _ from x)
  | met f y => exact Heap.lt_size (show h.get? a = some _ from x)
  | ext φ => obtain ⟨_, ⟨_, e⟩, _⟩ := x; exact Heap.lt_size e
theorem Paired.mapP {α β : Type} {F G : α → β → Prop} : ∀ {l₁ : List α} {l₂ : List β}, Paired F l₁ l₂ → (∀ a b, F a b → G a b) → Paired G l₁ l₂
  | _, _, .nil, _ => .nil
  | _, _, .cons r t, f => .cons (f _ _ r) (Paired.mapP t f)
theorem ObjOk.stay (x : ObjOk P w H h a o) (k : ∀ b u, (b = a ∨ H b = some (.own a)) → h.get? b = some u → h'.get? b = some u)
    (ho : ∀ b, H b = some (.own a) → H' b = some (.own a)) (ht : ∀ b xs, H b = some (.tup xs) → H' b = some (.tup xs)) : ObjOk P w H' h' a o := by
  induction o with
  | lst xs => obtain ⟨z, its, n, r, e⟩ := x; exact ⟨z, its, n, r, k _ _ (.inl rfl) e⟩
  | tup xs => obtain ⟨z, its, r, ob, e, c⟩ := x; exact ⟨z, its, r, ob, k _ _ (.inl rfl) e, c⟩
  | dK kvs => obtain ⟨z, y, vs, r, ob, es, ep, e, c⟩ := x; exact ⟨z, y, vs, r, ob, es, ep, k _ _ (.inl rfl) e, c⟩
  | dT kvs =>
    obtain ⟨z, y, xs, r, ob, es, ep, e, c⟩ := x
    exact ⟨z, y, xs, Paired.mapP r fun p q z => ⟨z.1, ht _ _ z.2.1, z.2.2⟩, ob, es, ep, k _ _ (.inl rfl) e, c⟩
  | set S n => obtain ⟨ob, es, ep, t, e, c⟩ := x; exact ⟨ob, es, ep, t, k _ _ (.inl rfl) e, c⟩
  | ins C dx fs =>
    obtain ⟨d, z, ne, e, mA, ⟨od, es, ep, e2, c⟩, r⟩ := x
    exact ⟨ho _ d, z, ne, k _ _ (.inl rfl) e, mA, ⟨od, es, ep, k _ _ (.inr d) e2, c⟩, r⟩
  | own y => obtain ⟨ob, e⟩ := x; exact ⟨ob, k _ _ (.inl rfl) e⟩
  | xd fs => obtain ⟨mA, ⟨od, es, ep, e, c⟩, r⟩ := x; exact ⟨mA, ⟨od, es, ep, k _ _ (.inl rfl) e, c⟩, r⟩
  | rng lo hi => obtain ⟨t, u, v, e⟩ := x; exact ⟨t, u, v, k _ _ (.inl rfl) e⟩
  | frz ob u ih => obtain ⟨e, q⟩ := x; exact ⟨k _ _ (.inl rfl) e, ih q⟩
  | tbl ps =>
    have e : h.get? a = some { cls := .none, data := .fields ps } := x
    show h'.get? a = some { cls := .none, data := .fields ps }
    exact k a _ (.inl rfl) e
  | met f y =>
    have e : h.get? a = some (PySem.W.methodObj (.ref f) (.ref y)) := x
    show h'.get? a = some (PySem.W.methodObj (.ref f) (.ref y))
    exact k a _ (.inl rfl) e
  | ext φ => obtain ⟨p, ⟨o, e⟩, st⟩ := x; exact ⟨st _ _ p fun o q => k _ _ (.inl rfl) q, ⟨o, k _ _ (.inl rfl) e⟩, st⟩
theorem HOk.lt (x : HOk P w H h) (e : H a = some o) : a < h.objs.size := (x a o e).lt
theorem HOk.fresh (x : HOk P w H h) (e : h.objs.size ≤ a) : H a = none := by
  cases q : H a with
  | none => rfl
  | some u => exact absurd (Nat.lt_of_lt_of_le (x.lt q) e) (Nat.lt_irrefl _)
theorem HOk.kept (x : HOk P w H h) (k : ∀ b u, h.get? b = some u → h'.get? b = some u) : HOk P w H h' := fun a o e =>
  (x a o e).stay (fun b u _ q => k b u q) (fun _ q => q) fun _ _ q => q
theorem HOk.laid (x : HOk P w H h) (k : ∀ b u, h.get? b = some u → h'.get? b = some u) (hp : h.objs.size ≤ a) (new : ObjOk P w (upd H a o) h' a o) : HOk P w (upd H a o) h' := fun b u e => by
  have hn := x.fresh hp
  by_cases hb : b = a
  · subst hb; rw [upd_same] at e; cases e; exact new
  · rw [upd_ne hb] at e
    exact (x b u e).stay (fun c v _ q => k c v q) (fun c q => by rw [upd_ne (ne_of_none q hn)]; exact q) fun c xs q => by rw [upd_ne (ne_of_none q hn)]; exact q
end
def Rd (H : Hp) (a : Addr) (u : HO) : Prop := H a = some u ∨ ∃ o, H a = some (.frz o u)
theorem Rd.of {H : Hp} {a : Addr} {u : HO} (h : H a = some u) : Rd H a u := .inl h
theorem Rd.ok {P : Program} {w : World} {H : Hp} {h : Heap} {a : Addr} {u : HO} (r : Rd H a u) (x : HOk P w H h) : ObjOk P w H h a u := by
  rcases r with r | ⟨o, r⟩
  · exact x a u r
  · obtain ⟨_, q⟩ := x a _ r
    exact q
def Mut : Option HO → Prop
  | some (.lst _) => True
  | some (.dK _) => True
  | some (.dT _) => True
  | some (.set _ _) => True
  | some (.ins _ _ _) => True
  | some (.ext _) => True
  | _ => False
section
variable {P : Program} {w : World} {H : Hp} {h h' : Heap} {x e : Addr} {o' : HO}
theorem HOk.write (ok : HOk P w H h) (mu : Mut (H x)) (he : e = x ∨ H e = some (.own x)) (k : ∀ b u, b ≠ e → h.get? b = some u → h'.get? b = some u) (heo : ∃ u, h'.get? e = some u)
    (new : ObjOk P w (upd H x o') h' x o') : HOk P w (upd H x o') h' := fun b u q => by
  have nown : ∀ c y, H c = some (.own y) → c ≠ x := fun c y r z => by subst z; rw [r] at mu; exact mu
  have ntup : ∀ c xs, H c = some (.tup xs) → c ≠ x := fun c xs r z => by subst z; rw [r] at mu; exact mu
  by_cases hb : b = x
  · subst hb; rw [upd_same] at q; cases q; exact new
  · rw [upd_ne hb] at q
    by_cases hbe : b = e
    · have q' : H b = some (.own x) := by
        rcases he with z | z
        · exact absurd (hbe.trans z) hb
        · rw [hbe]; exact z
      rw [q] at q'; cases q'
      obtain ⟨v, hv⟩ := heo
      exact ⟨v, by rw [hbe]; exact hv⟩
    · refine (ok b u q).stay (fun c v hc r => k c v ?_ r) (fun c r => by rw [upd_ne (nown c b r)]; exact r) fun c xs r => by rw [upd_ne (ntup c xs r)]; exact r
      rcases hc with rfl | hc
      · exact hbe
      · rintro rfl
        rcases he with z | z
        · exact nown c b hc z
        · rw [hc] at z; cases z; exact hb rfl
end
structure Un (fs ex : List Addr) (H H' : Hp) (h h' : Heap) : Prop where
  keep : ∀ b o, h.get? b = some o → H b = none → b ∉ fs → b ∉ ex → h'.get? b = some o
  slot : ∀ b o, h.get? b = some o → H b = none → b ∈ fs → b ∉ ex → ∃ sl, h'.get? b = some { o with slots := sl }
  free : ∀ b o, h.get? b = some o → H b = none → b ∉ ex → H' b = none
  there : ∀ b o, h.get? b = some o → b ∉ ex → ∃ o', h'.get? b = some o'
  tups : ∀ b xs, H b = some (.tup xs) → H' b = some (.tup xs)
  frzs : ∀ b o u, H b = some (.frz o u) → H' b = some (.frz o u)
  tbls : ∀ b ps, H b = some (.tbl ps) → ∃ more, H' b = some (.tbl (ps ++ more))
section
variable {fs fs' ex ex' : List Addr} {H H1 H2 : Hp} {h h1 h2 h' : Heap} {a x e : Addr} {o : HO}
theorem Un.any (u : Un fs ex H H1 h h1) {b : Addr} {ob : Obj} (q : h.get? b = some ob) (n : H b = none) (hx : b ∉ ex) : ∃ sl, h1.get? b = some { ob with slots := sl } := by
  by_cases hb : b ∈ fs
  · exact u.slot b ob q n hb hx
  · exact ⟨ob.slots, u.keep b ob q n hb hx⟩
theorem Un.trans (a : Un fs ex H H1 h h1) (b : Un fs ex H1 H2 h1 h2) : Un fs ex H H2 h h2 where
  keep := fun c ob q n hc hx => b.keep c ob (a.keep c ob q n hc hx) (a.free c ob q n hx) hc hx
  slot := fun c ob q n hc hx => by
    obtain ⟨sl, e1⟩ := a.slot c ob q n hc hx
    obtain ⟨sl', e2⟩ := b.slot c _ e1 (a.free c ob q n hx) hc hx
    exact ⟨sl', e2⟩
  free := fun c ob q n hx => by
    obtain ⟨o', e1⟩ := a.there c ob q hx
    exact b.free c o' e1 (a.free c ob q n hx) hx
  there := fun c ob q hx => by
    obtain ⟨o', e1⟩ := a.there c ob q hx
    exact b.there c o' e1 hx
  tups := fun c xs q => b.tups c xs (a.tups c xs q)
  frzs := fun c ob xs q => b.frzs c ob xs (a.frzs c ob xs q)
  tbls := fun c ps q => by
    obtain ⟨m1, e1⟩ := a.tbls c ps q
    obtain ⟨m2, e2⟩ := b.tbls c _ e1
    exact ⟨m1 ++ m2, by rw [e2, Array.append_assoc]⟩
theorem Un.kept (k : ∀ b u, h.get? b = some u → h'.get? b = some u) : Un fs ex H H h h' :=
  ⟨fun b ob q _ _ _ => k b ob q, fun b ob q _ _ _ => ⟨ob.slots, k b ob q⟩, fun _ _ _ n _ => n, fun b ob q _ => ⟨ob, k b ob q⟩, fun _ _ q => q, fun _ _ _ q => q, fun _ ps q => ⟨#[], by rw [q]; simp⟩⟩
theorem Un.refl : Un fs ex H H h h := Un.kept fun _ _ q => q
theorem Un.laid (k : ∀ b u, h.get? b = some u → h'.get? b = some u) (hp : h.objs.size ≤ a) (hn : H a = none) : Un fs ex H (upd H a o) h h' where
  keep := fun b u q _ _ _ => k b u q
  slot := fun b u q _ _ _ => ⟨u.slots, k b u q⟩
  free := fun b u q n _ => by rw [upd_ne (Nat.ne_of_lt (Nat.lt_of_lt_of_le (Heap.lt_size q) hp))]; exact n
  there := fun b u q _ => ⟨u, k b u q⟩
  tups := fun b xs q => by rw [upd_ne (ne_of_none q hn)]; exact q
  frzs := fun b u xs q => by rw [upd_ne (ne_of_none q hn)]; exact q
  tbls := fun b ps q => ⟨#[], by rw [upd_ne (ne_of_none q hn), q]; simp⟩
theorem Un.write (mu : Mut (H x)) (he : e = x ∨ H e = some (.own x)) (k : ∀ b u, b ≠ e → h.get? b = some u → h'.get? b = some u) (heo : ∃ u, h'.get? e = some u) : Un fs ex H (upd H x o) h h' := by
  have hx : ∀ b, H b = none → b ≠ x := fun b n z => by subst z; rw [n] at mu; exact mu
  have hb : ∀ b, H b = none → b ≠ e := fun b n z => by
    subst z
    rcases he with r | r
    · exact hx b n r
    · rw [n] at r; cases r
  have hm : ∀ b u, H b = some u → ¬ Mut (some u) → b ≠ x := fun b u q nm z => by subst z; rw [q] at mu; exact nm mu
  refine ⟨fun b u q n _ _ => k b u (hb b n) q, fun b u q n _ _ => ⟨u.slots, k b u (hb b n) q⟩, fun b u q n _ => by rw [upd_ne (hx b n)]; exact n, fun b u q _ => ?_,
    fun b xs q => by rw [upd_ne (hm b _ q fun z => z)]; exact q, fun b u xs q => by rw [upd_ne (hm b _ q fun z => z)]; exact q, fun b ps q => ⟨#[], by rw [upd_ne (hm b _ q fun z => z), q]; simp⟩⟩
  by_cases hbe : b = e
  · subst hbe; exact heo
  · exact ⟨u, k b u hbe q⟩
theorem Un.mono (u : Un fs ex H H1 h h1) (hs : ∀ b ∈ fs, b ∈ fs') (hx : ∀ b ∈ ex, b ∈ ex') : Un fs' ex' H H1 h h1 :=
  ⟨fun b ob q n hb he => u.keep b ob q n (fun z => hb (hs b z)) fun z => he (hx b z), fun _ _ q n _ he => u.any q n fun z => he (hx _ z), fun b ob q n he => u.free b ob q n fun z => he (hx b z), fun b ob q he => u.there b ob q fun z => he (hx b z), u.tups, u.frzs, u.tbls⟩
end
noncomputable def trk (h : Heap) (H : Hp) : List Addr := (List.range h.objs.size).filter fun a => (H a).isSome
noncomputable def hidT (h : Heap) (H : Hp) : Heap := PySem.W.hideAll h (trk h H)
theorem hidT_size (h : Heap) (H : Hp) : (hidT h H).objs.size = h.objs.size := PySem.W.hideAll_size _ _
theorem hidT_get {h : Heap} {H : Hp} {b : Addr} {o : Obj} (e : h.get? b = some o) (n : H b = none) : (hidT h H).get? b = some o :=
  PySem.W.hideAll_get _ e fun hm => by
    have q : (H b).isSome = true := (List.mem_filter.mp hm).2
    rw [n] at q; simp at q
theorem of_hidT {h : Heap} {H : Hp} {b : Addr} {o : Obj} (e : (hidT h H).get? b = some o) : h.get? b = some o ∧ H b = none := by
  have e' : h.get? b = some o := PySem.W.of_hideAll (trk h H) e
  refine ⟨e', ?_⟩
  cases q : H b with
  | none => rfl
  | some x =>
    have hm : b ∈ trk h H := List.mem_filter.mpr ⟨List.mem_range.mpr (Heap.lt_size e'), by simp [q]⟩
    have z : (hidT h H).get? b = none := PySem.W.hideAll_none (trk h H) hm
    rw [z] at e; cases e
noncomputable def allNews (g h : Heap) (L : Addr) : List (Addr × Obj) := (List.range h.objs.size).filterMap fun a => if a = L ∨ (g.get? a).isSome = true then none else (h.get? a).map fun o => (a, o)
noncomputable def rest (g h : Heap) (L d : Addr) : List (Addr × Obj) := (allNews g h L).filter fun p => decide (p.1 ≠ d)
end L2
namespace L2
open PySem PySem.Spec PyProof.Rows
structure Mod (K : PySem.W.Frag) (mg : Str → Option Value) (base : Heap) : Prop where
  kin : K.In base
  glob : base.Ns mainGlobals mg
  blt : ∃ mb, base.Ns builtinsNs mb ∧ ∀ x : Str, x ≠ "__name__" → mb x = bootBuiltins x
  nolimit : base.NoLimit
structure Cx where
  prog : Program
  w : World
  K : PySem.W.Frag
  mg : Str → Option Value
  base : Heap
  A : Around
  N : List Str
  s₀ : Shared
  H₀ : Hp
  env : Env
  outer : List Env
  stack : List Env
  ex : List Addr
  fn : Str → Bool
  calm : Bool
  pn : List (Addr × Obj)
  xe : Value → Shared → Prop
noncomputable def frs (l : List Env) : List Addr := l.filterMap (·.frame)
noncomputable abbrev Cx.fs (X : Cx) : List Addr := frs X.outer
def Vis (sc : Scope) (x : Str) : Prop := sc.names.lookup x = some .local ∨ sc.names.lookup x = some .cell ∨ sc.names.lookup x = some .free
def Loc (sc : Scope) (x : Str) : Prop := sc.names.lookup x = some .local ∨ sc.names.lookup x = some .cell
def Look (env : Env) (h : Heap) (m : Str → Option Value) (x : Str) (u : Value) : Prop :=
  (env.kindOf x = some .local ∧ m x = some u) ∨ ((env.kindOf x = some .cell ∨ env.kindOf x = some .free) ∧ ∃ c, env.cells.lookup x = some c ∧ h.IsCell c (some u))
structure Cx.Ok (X : Cx) : Prop where
  mod : Mod X.K X.mg X.base
  kind : X.env.scope.kind = .function
  glob : X.env.globals = mainGlobals
  blt : X.env.builtins = builtinsNs
  above : X.s₀.heap.objs.size ≤ X.env.locals
  inj : ∀ x y c, X.env.cells.lookup x = some c → X.env.cells.lookup y = some c → x = y
  has : ∀ x, (X.env.kindOf x = some .cell ∨ X.env.kindOf x = some .free) → ∃ c, X.env.cells.lookup x = some c
  cab : ∀ x c, X.fn x = true → X.env.cells.lookup x = some c → X.s₀.heap.objs.size ≤ c
  hd : X.calm = true → X.A.handled = none
  frames : X.A.frames = some X.stack
  stk : X.stack = X.outer ∨ (X.stack = X.env :: X.outer ∧ X.env.frame = some X.env.locals)
  exf : ∀ b ∈ X.ex, b ≠ X.env.locals ∧ ∀ x c, X.env.cells.lookup x = some c → c ≠ b
  bs : ∀ b o, X.base.get? b = some o → X.s₀.heap.get? b = some o ∧ X.H₀ b = none
  bsz : X.base.objs.size ≤ X.s₀.heap.objs.size
  noex : ∀ b o, X.base.get? b = some o → b ∉ X.ex
  exfs : ∀ b ∈ X.ex, b ∉ X.fs
  funs : X.s₀.heap.FunFrames X.base X.outer
  frf : ∀ b ∈ X.fs, X.H₀ b = none
structure Inv (X : Cx) (pins : List (Addr × Obj)) (σ : List (Option V)) (H : Hp) (s : Shared) : Prop where
  ok : X.Ok
  os : s.os = X.s₀.os
  bare : AllBare s.gens
  base : Un X.fs X.ex X.H₀ H X.s₀.heap s.heap
  loc : ∃ m, s.heap.Ns X.env.locals m ∧ ∀ (i : Nat) (x : Str) (v : V), X.N[i]? = some x → σ[i]? = some (some v) → Vis X.env.scope x → ∃ u, RelV v u ∧ Look X.env s.heap m x u
  cell : ∀ x c, X.env.cells.lookup x = some c → ∃ v, s.heap.IsCell c v
  free : H X.env.locals = none
  freeC : ∀ x c, X.env.cells.lookup x = some c → H c = none
  pin : ∀ p ∈ X.pn ++ pins, s.heap.get? p.1 = some p.2 ∧ H p.1 = none ∧ p.1 ≠ X.env.locals ∧ p.1 ∉ X.fs ∧ ∀ v, p.2.data ≠ .cell v
  hok : HOk X.prog X.w H s.heap
  len : σ.length = X.N.length
section
variable {X : Cx} {pins : List (Addr × Obj)} {σ : List (Option V)} {H H' : Hp} {s : Shared} {h' : Heap}
theorem Cx.Ok.nofr (ok : X.Ok) {b : Addr} {o : Obj} (e : X.base.get? b = some o) : b ∉ X.fs := fun hb => by
  have := (ok.funs.mem hb).1
  rw [e] at this; cases this
theorem Inv.bs (I : Inv X pins σ H s) : ∀ b o, X.base.get? b = some o → s.heap.get? b = some o ∧ H b = none := fun b o e =>
  ⟨I.base.keep b o (I.ok.bs b o e).1 (I.ok.bs b o e).2 (I.ok.nofr e) (I.ok.noex b o e), I.base.free b o (I.ok.bs b o e).1 (I.ok.bs b o e).2 (I.ok.noex b o e)⟩
theorem Inv.bk (I : Inv X pins σ H s) : ∀ b o, X.base.get? b = some o → s.heap.get? b = some o := fun b o e => (I.bs b o e).1
theorem Inv.mod (I : Inv X pins σ H s) : Mod X.K X.mg X.base := I.ok.mod
theorem Inv.kIn (I : Inv X pins σ H s) : X.K.In s.heap := I.ok.mod.kin.keeps I.bk
theorem Inv.nolimit (I : Inv X pins σ H s) : s.heap.NoLimit := I.ok.mod.nolimit.keeps I.bk
theorem Inv.fr (I : Inv X pins σ H s) : ∃ m, Fr X.base X.env.locals s.heap m :=
  let ⟨m, hn, _⟩ := I.loc
  ⟨m, hn, I.bk, Nat.le_trans I.ok.bsz I.ok.above⟩
theorem Inv.lt (I : Inv X pins σ H s) : X.env.locals < s.heap.objs.size := let ⟨_, hn, _⟩ := I.loc; hn.lt
theorem Inv.sz (I : Inv X pins σ H s) : X.s₀.heap.objs.size ≤ s.heap.objs.size := Nat.le_trans I.ok.above (Nat.le_of_lt I.lt)
theorem Inv.nofs (I : Inv X pins σ H s) {a : Addr} (h : s.heap.objs.size ≤ a) : a ∉ X.fs := fun hb => by
  obtain ⟨_, o, ho, _⟩ := I.ok.funs.mem hb
  exact absurd (Nat.lt_of_lt_of_le (Heap.lt_size ho) (Nat.le_trans I.sz h)) (Nat.lt_irrefl _)
theorem Inv.cne (I : Inv X pins σ H s) : ∀ x c, X.env.cells.lookup x = some c → c ≠ X.env.locals := fun x c e z => by
  obtain ⟨v, o, ho, hd⟩ := I.cell x c e
  obtain ⟨m, ⟨o', es, ep, ho', hd', _⟩, _⟩ := I.loc
  rw [z, ho'] at ho; cases ho; rw [hd'] at hd; cases hd
theorem Inv.funs (I : Inv X pins σ H s) : s.heap.FunFrames X.base X.outer := by
  have all : ∀ (l : List Env), (∀ b ∈ frs l, b ∈ X.fs) → X.s₀.heap.FunFrames X.base l → s.heap.FunFrames X.base l := by
    intro l
    induction l with
    | nil => intro _ _; trivial
    | cons env r ih =>
      intro hs hl
      obtain ⟨hk, ⟨L, o, hf, hn, ho, hd⟩, hr⟩ := hl
      have hL : L ∈ X.fs := hs L (by unfold frs; rw [List.filterMap_cons, hf]; exact List.mem_cons_self)
      obtain ⟨sl, e⟩ := I.base.slot L o ho (I.ok.frf L hL) hL fun z => I.ok.exfs L z hL
      exact ⟨hk, ⟨L, _, hf, hn, e, hd⟩, ih (fun b hb => hs b (by unfold frs; rw [List.filterMap_cons, hf]; exact List.mem_cons_of_mem _ hb)) hr⟩
  exact all X.outer (fun _ hb => hb) I.ok.funs
theorem Inv.stack (I : Inv X pins σ H s) : s.heap.FunFrames X.base X.stack := by
  rcases I.ok.stk with e | ⟨e, hf⟩
  · rw [e]; exact I.funs
  · rw [e]
    obtain ⟨m, hn, _⟩ := I.loc
    refine .cons (by rw [I.ok.kind]; decide) hf hn ?_ I.funs
    exact Heap.get?_none_of_le (Nat.le_trans I.ok.bsz I.ok.above)
theorem Inv.stkSub (I : Inv X pins σ H s) : ∀ b ∈ frs X.stack, b ∈ X.env.locals :: X.fs := fun b hb => by
  rcases I.ok.stk with e | ⟨e, hf⟩
  · rw [e] at hb; exact List.mem_cons_of_mem _ hb
  · rw [e] at hb
    unfold frs at hb
    rw [List.filterMap_cons, hf] at hb
    exact hb
theorem Inv.stkFree (I : Inv X pins σ H s) : ∀ b ∈ frs X.stack, H b = none := fun b hb => by
  rcases List.mem_cons.mp (I.stkSub b hb) with e | hb
  · rw [e]; exact I.free
  · obtain ⟨_, o, ho, _⟩ := I.ok.funs.mem hb
    exact I.base.free b o ho (I.ok.frf b hb) fun z => I.ok.exfs b z hb
theorem Inv.step {g' : Array GenState} {t' : Nat} {d' : Drawn} {ch : List Addr} (I : Inv X pins σ H s)
    (hch : ∀ b ∈ ch, (b ∈ X.ex ∨ X.s₀.heap.objs.size ≤ b) ∧ b ≠ X.env.locals ∧ (∀ x c, X.env.cells.lookup x = some c → c ≠ b) ∧ ∀ p ∈ X.pn ++ pins, p.1 ≠ b)
    (keep : ∀ b o, b ≠ X.env.locals → b ∉ X.fs → b ∉ ch → s.heap.get? b = some o → H b = none → h'.get? b = some o)
    (slot : ∀ b o, b ≠ X.env.locals → b ∈ X.fs → b ∉ ch → s.heap.get? b = some o → H b = none → ∃ sl, h'.get? b = some { o with slots := sl }) (free : ∀ b o, b ∉ ch → s.heap.get? b = some o → H b = none → H' b = none)
    (there : ∀ b o, b ∉ ch → s.heap.get? b = some o → ∃ o', h'.get? b = some o')
    (tups : ∀ b xs, H b = some (.tup xs) → H' b = some (.tup xs)) (frzs : ∀ b o u, H b = some (.frz o u) → H' b = some (.frz o u)) (tbls : ∀ b ps, H b = some (.tbl ps) → ∃ more, H' b = some (.tbl (ps ++ more)))
    (ns : ∀ m, s.heap.Ns X.env.locals m → h'.Ns X.env.locals m) (hok : HOk X.prog X.w H' h') (hg : AllBare g') :
    Inv X pins σ H' { s with heap := h', gens := g', drawn := d', toks := t' } := by
  have neL : ∀ b o, X.s₀.heap.get? b = some o → b ≠ X.env.locals := fun b o e => Nat.ne_of_lt (Nat.lt_of_lt_of_le (Heap.lt_size e) I.ok.above)
  have neC : ∀ b o, X.s₀.heap.get? b = some o → b ∉ X.ex → b ∉ ch := fun b o e hx hb => by
    rcases (hch b hb).1 with z | z
    · exact hx z
    · exact absurd (Nat.lt_of_lt_of_le (Heap.lt_size e) z) (Nat.lt_irrefl _)
  have cellK : ∀ x c, X.env.cells.lookup x = some c → ∀ v, s.heap.IsCell c v → h'.IsCell c v := fun x c e v ⟨o, ho, hd⟩ => by
    have nch : c ∉ ch := fun z => (hch c z).2.2.1 x c e rfl
    by_cases hc : c ∈ X.fs
    · obtain ⟨sl, q⟩ := slot c o (I.cne x c e) hc nch ho (I.freeC x c e)
      exact ⟨_, q, hd⟩
    · exact ⟨o, keep c o (I.cne x c e) hc nch ho (I.freeC x c e), hd⟩
  refine ⟨I.ok, I.os, hg, ⟨fun b o e n hb hx => ?_, fun b o e n hb hx => ?_, fun b o e n hx => ?_, fun b o e hx => ?_, fun b xs e => tups b xs (I.base.tups b xs e), fun b o xs e => frzs b o xs (I.base.frzs b o xs e), fun b ps e => ?_⟩, ?_, fun x c e => ?_, ?_, fun x c e => ?_, fun p hp => ?_, hok, I.len⟩
  · exact keep b o (neL b o e) hb (neC b o e hx) (I.base.keep b o e n hb hx) (I.base.free b o e n hx)
  · obtain ⟨sl, e1⟩ := I.base.slot b o e n hb hx
    obtain ⟨sl', e2⟩ := slot b _ (neL b o e) hb (neC b o e hx) e1 (I.base.free b o e n hx)
    exact ⟨sl', e2⟩
  · obtain ⟨o', e1⟩ := I.base.there b o e hx
    exact free b o' (neC b o e hx) e1 (I.base.free b o e n hx)
  · obtain ⟨o', e1⟩ := I.base.there b o e hx
    exact there b o' (neC b o e hx) e1
  · obtain ⟨m1, e1⟩ := I.base.tbls b ps e
    obtain ⟨m2, e2⟩ := tbls b _ e1
    exact ⟨m1 ++ m2, by rw [e2, Array.append_assoc]⟩
  · obtain ⟨m, hn, hl⟩ := I.loc
    refine ⟨m, ns m hn, fun i x v e1 e2 e3 => ?_⟩
    obtain ⟨u, r, l⟩ := hl i x v e1 e2 e3
    refine ⟨u, r, ?_⟩
    rcases l with l | ⟨k, c, e, z⟩
    · exact .inl l
    · exact .inr ⟨k, c, e, cellK x c e _ z⟩
  · obtain ⟨v, z⟩ := I.cell x c e
    exact ⟨v, cellK x c e v z⟩
  · obtain ⟨m, ⟨o, _, _, ho, _⟩, _⟩ := I.loc
    exact free _ o (fun z => (hch _ z).2.1 rfl) ho I.free
  · obtain ⟨v, o, ho, hd⟩ := I.cell x c e
    exact free c o (fun z => (hch c z).2.2.1 x c e rfl) ho (I.freeC x c e)
  · obtain ⟨e, n, ne, nf, d⟩ := I.pin p hp
    have nch : p.1 ∉ ch := fun z => (hch p.1 z).2.2.2 p hp rfl
    exact ⟨keep p.1 p.2 ne nf nch e n, free p.1 p.2 nch e n, ne, nf, d⟩
theorem Inv.un {t' : Nat} (I : Inv X pins σ H s) (u : Un X.fs [] H H' s.heap h') (hok : HOk X.prog X.w H' h') : Inv X pins σ H' { s with heap := h', toks := t' } := by
  obtain ⟨m, ⟨o, es, ep, ho, r⟩, _⟩ := id I.loc
  obtain ⟨sl, hL⟩ := u.any ho I.free (by simp)
  exact I.step (g' := s.gens) (d' := s.drawn) (ch := []) (fun _ z => nomatch z) (fun b o _ hb _ e n => u.keep b o e n hb (by simp)) (fun b o _ hb _ e n => u.slot b o e n hb (by simp)) (fun b o _ e n => u.free b o e n (by simp)) (fun b o _ e => u.there b o e (by simp)) u.tups u.frzs u.tbls (fun m' hm => by
    obtain ⟨o', es', ep', ho', r'⟩ := hm
    rw [ho] at ho'; cases ho'
    exact ⟨_, es', ep', hL, r'⟩) hok I.bare
theorem Inv.call {g' : Array GenState} {t' : Nat} {d' : Drawn} {ch : List Addr} (I : Inv X pins σ H s) (u : Un (frs X.stack) ch H H' s.heap h') (hok : HOk X.prog X.w H' h') (hg : AllBare g')
    (hch : ∀ b ∈ ch, (b ∈ X.ex ∨ X.s₀.heap.objs.size ≤ b) ∧ b ≠ X.env.locals ∧ (∀ x c, X.env.cells.lookup x = some c → c ≠ b) ∧ ∀ p ∈ X.pn ++ pins, p.1 ≠ b) :
    Inv X pins σ H' { s with heap := h', gens := g', drawn := d', toks := t' } := by
  obtain ⟨m, ⟨o, es, ep, ho, r⟩, _⟩ := id I.loc
  obtain ⟨sl, hL⟩ := u.any ho I.free fun z => (hch _ z).2.1 rfl
  exact I.step (ch := ch) hch (fun b o hL hb hc e n => u.keep b o e n (fun z => (List.mem_cons.mp (I.stkSub b z)).elim hL hb) hc) (fun b o _ _ hc e n => u.any e n hc) (fun b o hc e n => u.free b o e n hc) (fun b o hc e => u.there b o e hc) u.tups u.frzs u.tbls (fun m' hm => by
    obtain ⟨o', es', ep', ho', r'⟩ := hm
    rw [ho] at ho'; cases ho'
    exact ⟨_, es', ep', hL, r'⟩) hok hg
theorem Inv.turned {t' : Nat} {it : Addr} (I : Inv X pins σ H s) (k : ∀ b o, b ≠ it → s.heap.get? b = some o → h'.get? b = some o) (hn : H it = none) (hL : it ≠ X.env.locals)
    (h1 : it ∈ X.ex ∨ X.s₀.heap.objs.size ≤ it) (h2 : ∀ x c, X.env.cells.lookup x = some c → c ≠ it) (h3 : ∀ p ∈ X.pn ++ pins, p.1 ≠ it) : Inv X pins σ H { s with heap := h', toks := t' } := by
  have nit : ∀ b u, H b = some u → b ≠ it := fun b u e z => by rw [z, hn] at e; cases e
  refine I.step (g' := s.gens) (d' := s.drawn) (ch := [it]) (fun b hb => ?_) (fun b o _ _ hc e _ => k b o (fun z => hc (by simp [z])) e) (fun b o _ _ hc e _ => ⟨o.slots, k b o (fun z => hc (by simp [z])) e⟩) (fun _ _ _ _ n => n)
    (fun b o hc e => ⟨o, k b o (fun z => hc (by simp [z])) e⟩) (fun _ _ e => e) (fun _ _ _ e => e) (fun b ps e => ⟨#[], by rw [e]; simp⟩) (fun m hm => ?_) (fun b u e => ?_) I.bare
  · have e : b = it := by simpa using hb
    subst e
    exact ⟨h1, hL, h2, h3⟩
  · obtain ⟨o, es, ep, ho, r⟩ := hm
    exact ⟨o, es, ep, k _ o (Ne.symm hL) ho, r⟩
  · refine (I.hok b u e).stay (fun c v hc q => k c v ?_ q) (fun _ q => q) fun _ _ q => q
    rcases hc with z | z
    · rw [z]; exact nit b u e
    · exact nit c _ z
theorem Inv.tok (I : Inv X pins σ H s) (t : Nat) : Inv X pins σ H { s with toks := t } := I.un (h' := s.heap) (t' := t) Un.refl I.hok
theorem Inv.kept {t' : Nat} (I : Inv X pins σ H s) (k : ∀ b u, s.heap.get? b = some u → h'.get? b = some u) : Inv X pins σ H { s with heap := h', toks := t' } := I.un (Un.kept k) (I.hok.kept k)
theorem Inv.laid {a : Addr} {o : HO} {t' : Nat} (I : Inv X pins σ H s) (k : ∀ b u, s.heap.get? b = some u → h'.get? b = some u) (hp : s.heap.objs.size ≤ a) (new : ObjOk X.prog X.w (upd H a o) h' a o) :
    Inv X pins σ (upd H a o) { s with heap := h', toks := t' } := I.un (Un.laid k hp (I.hok.fresh hp)) (I.hok.laid k hp new)
theorem Inv.write {x e : Addr} {o : HO} {t' : Nat} (I : Inv X pins σ H s) (mu : Mut (H x)) (he : e = x ∨ H e = some (.own x)) (k : ∀ b u, b ≠ e → s.heap.get? b = some u → h'.get? b = some u) (heo : ∃ u, h'.get? e = some u)
    (new : ObjOk X.prog X.w (upd H x o) h' x o) : Inv X pins σ (upd H x o) { s with heap := h', toks := t' } := I.un (Un.write mu he k heo) (I.hok.write mu he k heo new)
theorem Inv.pins_of {pins' : List (Addr × Obj)} (I : Inv X pins σ H s) (h : ∀ p ∈ pins', s.heap.get? p.1 = some p.2 ∧ H p.1 = none ∧ p.1 ≠ X.env.locals ∧ p.1 ∉ X.fs ∧ ∀ v, p.2.data ≠ .cell v) : Inv X pins' σ H s :=
  ⟨I.ok, I.os, I.bare, I.base, I.loc, I.cell, I.free, I.freeC, fun p hp => (List.mem_append.mp hp).elim (fun z => I.pin p (List.mem_append_left _ z)) (h p), I.hok, I.len⟩
theorem nodup_ix {N : List Str} (hN : N.Nodup) {i j : Nat} {x : Str} (a : N[i]? = some x) (b : N[j]? = some x) : i = j := by
  obtain ⟨h1, e1⟩ := List.getElem?_eq_some_iff.mp a
  obtain ⟨h2, e2⟩ := List.getElem?_eq_some_iff.mp b
  exact (List.getElem_inj hN).mp (e1.trans e2.symm)
theorem store_ok2 {M : Model} {A : Around} {E : Value → Shared → Prop} {i : Nat} {x : Str} {v : V} {u : Value} {Q : Unit → Shared → Prop} (I : Inv X pins σ H s) (hN : X.N.Nodup) (hi : X.N[i]? = some x) (hx : Loc X.env.scope x) (r : RelV v u)
    (h : ∀ s', Inv X pins (σ.set i (some v)) H s' → (∃ a, Heap.SameBut a s.heap s'.heap ∧ (a = X.env.locals ∨ X.env.cells.lookup x = some a)) → Q () s') (hf : X.fn x = true ∨ X.env.scope.names.lookup x = some .local := by first | exact .inl rfl | exact .inr rfl | assumption) : wpAny M A (storeName X.env x u) Q E s := by
  obtain ⟨m, hn, hl⟩ := id I.loc
  have hcls : (X.env.scope.kind == .class || (X.env.scope.kind == .module && X.env.locals != X.env.globals)) = false := by rw [I.ok.kind]; rfl
  have hiσ : i < σ.length := by rw [I.len]; exact (List.getElem?_eq_some_iff.mp hi).1
  have cne := I.cne
  have tracked : ∀ {a : Addr} {h' : Heap}, (∃ o, s.heap.get? a = some o ∧ H a = none) → Heap.SameBut a s.heap h' → HOk X.prog X.w H h' := fun {a h'} ha hs b ob e => by
    obtain ⟨_, _, hfree⟩ := ha
    refine (I.hok b ob e).stay (fun c w' hc q => (hs.2 c ?_).trans q) (fun _ q => q) fun _ _ q => q
    rintro rfl
    rcases hc with rfl | hc
    · rw [hfree] at e; cases e
    · rw [hfree] at hc; cases hc
  rcases hx with hk | hk
  · refine wpAny_storeName_local hk hn (fun h' hn' hs => ?_) hcls
    obtain ⟨oL, _, _, hoL, _⟩ := id hn
    refine h _ ⟨I.ok, I.os, I.bare, ⟨fun b o e n hb hx => ?_, fun b o e n hb hx => ?_, I.base.free, fun b o e hx => ?_, I.base.tups, I.base.frzs, I.base.tbls⟩, ⟨_, hn', fun j y v' e1 e2 e3 => ?_⟩, fun y c e => ?_, I.free, I.freeC, fun p hp => ?_, tracked ⟨oL, hoL, I.free⟩ hs, by simpa using I.len⟩ ⟨_, hs, .inl rfl⟩
    · exact (hs.2 b (Nat.ne_of_lt (Nat.lt_of_lt_of_le (Heap.lt_size e) I.ok.above))).trans (I.base.keep b o e n hb hx)
    · obtain ⟨sl, e1⟩ := I.base.slot b o e n hb hx
      exact ⟨sl, (hs.2 b (Nat.ne_of_lt (Nat.lt_of_lt_of_le (Heap.lt_size e) I.ok.above))).trans e1⟩
    · obtain ⟨o', e1⟩ := I.base.there b o e hx
      exact ⟨o', (hs.2 b (Nat.ne_of_lt (Nat.lt_of_lt_of_le (Heap.lt_size e) I.ok.above))).trans e1⟩
    · by_cases hj : j = i
      · subst hj
        rw [hi] at e1; cases e1
        rw [List.getElem?_set_self hiσ] at e2
        cases e2
        exact ⟨u, r, .inl ⟨hk, by simp⟩⟩
      · rw [List.getElem?_set_ne (Ne.symm hj)] at e2
        obtain ⟨u', r', q⟩ := hl j y v' e1 e2 e3
        refine ⟨u', r', ?_⟩
        rcases q with ⟨k, e⟩ | ⟨k, c, e, z⟩
        · refine .inl ⟨k, ?_⟩
          have : y ≠ x := fun e => hj (nodup_ix hN e1 (e ▸ hi))
          simp [this, e]
        · exact .inr ⟨k, c, e, z.sameBut hs (cne y c e)⟩
    · obtain ⟨w', z⟩ := I.cell y c e
      exact ⟨w', z.sameBut hs (cne y c e)⟩
    · obtain ⟨e, n, ne, nf, d⟩ := I.pin p hp
      exact ⟨(hs.2 p.1 ne).trans e, n, ne, nf, d⟩
  · have hfn : X.fn x = true := by
      rcases hf with z | z
      · exact z
      · rw [z] at hk; cases hk
    obtain ⟨c, hc⟩ := I.ok.has x (.inl hk)
    obtain ⟨w', z⟩ := I.cell x c hc
    refine wpAny_storeName_cell I.ok.kind hk hc z (fun h' hc' hs => ?_)
    obtain ⟨oc, hoc, hocd⟩ := id z
    refine h { s with heap := h' } ⟨I.ok, I.os, I.bare, ⟨fun b o e n hb hx => ?_, fun b o e n hb hx => ?_, I.base.free, fun b o e hx => ?_, I.base.tups, I.base.frzs, I.base.tbls⟩, ⟨m, hn.sameBut hs (Ne.symm (cne x c hc)), fun j y v' e1 e2 e3 => ?_⟩, fun y c' e => ?_, I.free, I.freeC, fun p hp => ?_, tracked ⟨oc, hoc, I.freeC x c hc⟩ hs, by simpa using I.len⟩ ⟨c, hs, .inr hc⟩
    · exact (hs.2 b (Nat.ne_of_lt (Nat.lt_of_lt_of_le (Heap.lt_size e) (I.ok.cab x c hfn hc)))).trans (I.base.keep b o e n hb hx)
    · obtain ⟨sl, e1⟩ := I.base.slot b o e n hb hx
      exact ⟨sl, (hs.2 b (Nat.ne_of_lt (Nat.lt_of_lt_of_le (Heap.lt_size e) (I.ok.cab x c hfn hc)))).trans e1⟩
    · obtain ⟨o', e1⟩ := I.base.there b o e hx
      exact ⟨o', (hs.2 b (Nat.ne_of_lt (Nat.lt_of_lt_of_le (Heap.lt_size e) (I.ok.cab x c hfn hc)))).trans e1⟩
    · by_cases hj : j = i
      · subst hj
        rw [hi] at e1; cases e1
        rw [List.getElem?_set_self hiσ] at e2
        cases e2
        exact ⟨u, r, .inr ⟨.inl hk, c, hc, hc'⟩⟩
      · rw [List.getElem?_set_ne (Ne.symm hj)] at e2
        obtain ⟨u', r', q⟩ := hl j y v' e1 e2 e3
        refine ⟨u', r', ?_⟩
        rcases q with q | ⟨k, c', e, z'⟩
        · exact .inl q
        · refine .inr ⟨k, c', e, z'.sameBut hs ?_⟩
          rintro rfl
          exact hj (nodup_ix hN e1 (I.ok.inj _ _ _ e hc ▸ hi))
    · by_cases hcc : c' = c
      · subst hcc; exact ⟨_, hc'⟩
      · obtain ⟨w2, z2⟩ := I.cell y c' e
        exact ⟨w2, z2.sameBut hs hcc⟩
    · obtain ⟨e, n, ne, nf, d⟩ := I.pin p hp
      refine ⟨(hs.2 p.1 ?_).trans e, n, ne, nf, d⟩
      intro q
      rw [q, hoc] at e
      have q' : oc = p.2 := Option.some.inj e
      exact d w' (by rw [← q']; exact hocd)
theorem store_ok {M : Model} {A : Around} {E : Value → Shared → Prop} {i : Nat} {x : Str} {v : V} {u : Value} {Q : Unit → Shared → Prop} (I : Inv X pins σ H s) (hN : X.N.Nodup) (hi : X.N[i]? = some x) (hx : Loc X.env.scope x) (r : RelV v u)
    (h : ∀ s', Inv X pins (σ.set i (some v)) H s' → Q () s') (hf : X.fn x = true ∨ X.env.scope.names.lookup x = some .local := by first | exact .inl rfl | exact .inr rfl | assumption) : wpAny M A (storeName X.env x u) Q E s :=
  store_ok2 I hN hi hx r (fun s' I' _ => h s' I') hf
theorem Inv.call' {s' : Shared} {ch : List Addr} (I : Inv X pins σ H s) (ho : s'.os = s.os) (u : Un (frs X.stack) ch H H' s.heap s'.heap) (hok : HOk X.prog X.w H' s'.heap) (hg : AllBare s'.gens)
    (hch : ∀ b ∈ ch, (b ∈ X.ex ∨ X.s₀.heap.objs.size ≤ b) ∧ b ≠ X.env.locals ∧ (∀ x c, X.env.cells.lookup x = some c → c ≠ b) ∧ ∀ p ∈ X.pn ++ pins, p.1 ≠ b) : Inv X pins σ H' s' := by
  obtain ⟨h', g', d', t', o'⟩ := s'
  have e : o' = s.os := ho
  subst e
  exact I.call (g' := g') (t' := t') (d' := d') u hok hg hch
end
abbrev XK := Value → Option Addr → Hp → Prop
abbrev St := List (Option V)
abbrev VK := V → Hp → Prop
abbrev TE := St → Hp → VK → Prop
abbrev TT := St → Hp → (Bool → Hp → Prop) → Prop
abbrev TA := St → Hp → (List V → Hp → Prop) → Prop
structure Ends where
  nx : St → Hp → Prop
  rt : VK
  bk : St → Hp → Prop := fun _ _ => False
  ct : St → Hp → Prop := fun _ _ => False
abbrev TS := Ends → St → Hp → Prop
def EP (X : Cx) (pins : List (Addr × Obj)) (σ : St) (Q : VK) (u : Value) (s' : Shared) : Prop := ∃ v H', Inv X pins σ H' s' ∧ RelV v u ∧ Q v H'
def TP (X : Cx) (pins : List (Addr × Obj)) (σ : St) (Q : Bool → Hp → Prop) (b : Bool) (s' : Shared) : Prop := ∃ H', Inv X pins σ H' s' ∧ Q b H'
def AP (X : Cx) (pins : List (Addr × Obj)) (σ : St) (Q : List V → Hp → Prop) (us : List Value) (s' : Shared) : Prop := ∃ vs H', Inv X pins σ H' s' ∧ Vals vs us ∧ Q vs H'
def SP (X : Cx) (pins : List (Addr × Obj)) (D : Ends) (f : Flow) (s' : Shared) : Prop :=
  match f with
  | .next => ∃ σ' H', Inv X pins σ' H' s' ∧ D.nx σ' H'
  | .brk => ∃ σ' H', Inv X pins σ' H' s' ∧ D.bk σ' H'
  | .cont => ∃ σ' H', Inv X pins σ' H' s' ∧ D.ct σ' H'
  | .ret u => ∃ v σ' H', Inv X pins σ' H' s' ∧ RelV v u ∧ D.rt v H'
def PE (X : Cx) (e : Expr) (t : TE) : Prop :=
  ∀ (pins : List (Addr × Obj)) (s : Shared) (σ : St) (H : Hp) (Q : VK), Inv X pins σ H s → t σ H Q → wpAny (model X.prog X.w) X.A (eval e X.env) (EP X pins σ Q) X.xe s
def PT (X : Cx) (e : Expr) (t : TT) : Prop :=
  ∀ (pins : List (Addr × Obj)) (s : Shared) (σ : St) (H : Hp) (Q : Bool → Hp → Prop), Inv X pins σ H s → t σ H Q → wpAny (model X.prog X.w) X.A (isTrue e X.env (eval e X.env)) (TP X pins σ Q) X.xe s
def PW (X : Cx) (e : Expr) (t : TT) : Prop :=
  ∀ (whole : Sem Value) (pins : List (Addr × Obj)) (s : Shared) (σ : St) (H : Hp) (Q : Bool → Hp → Prop), Inv X pins σ H s → t σ H Q → wpAny (model X.prog X.w) X.A (isTrue e X.env whole) (TP X pins σ Q) X.xe s
theorem PW.pt {X : Cx} {e : Expr} {t : TT} (h : PW X e t) : PT X e t := h _
def PA (X : Cx) (es : List Expr) (t : TA) : Prop :=
  ∀ (pos : Pos) (pins : List (Addr × Obj)) (s : Shared) (σ : St) (H : Hp) (Q : List V → Hp → Prop), Inv X pins σ H s → t σ H Q → wpAny (model X.prog X.w) X.A (spliced (backTo pos (starEach es X.env))) (AP X pins σ Q) X.xe s
def PS (X : Cx) (st : Stmt) (t : TS) : Prop :=
  ∀ (pins : List (Addr × Obj)) (s : Shared) (σ : St) (H : Hp) (D : Ends), Inv X pins σ H s → t D σ H → wpAny (model X.prog X.w) X.A (exec st X.env) (SP X pins D) X.xe s
def PSs (X : Cx) (st : List Stmt) (t : TS) : Prop :=
  ∀ (pins : List (Addr × Obj)) (s : Shared) (σ : St) (H : Hp) (D : Ends), Inv X pins σ H s → t D σ H → wpAny (model X.prog X.w) X.A (execs st X.env) (SP X pins D) X.xe s
theorem thn {α : Type} {t : Sem α} {Q Q' : α → Shared → Prop} {M : Model} {A : Around} {E : Value → Shared → Prop} {s : Shared} (h : wpAny M A t Q E s) (hQ : ∀ a s, Q a s → Q' a s) : wpAny M A t Q' E s := wpAny_mono h hQ fun _ _ x => x
end L2
namespace L2
open PySem PySem.Spec PyProof.Rows
section
variable {X : Cx}
def tVar (i : Nat) : TE := fun σ H Q => ∃ v, σ[i]? = some (some v) ∧ Q v H
def tC (v : V) : TE := fun _ H Q => Q v H
theorem pe_var {i : Nat} {x : Str} {pos : Pos} (hN : X.N[i]? = some x) (hv : Vis X.env.scope x) (hd : (x == ("__debug__" : Str)) = false := by decide) (hcd : (x == ("__classdict__" : Str)) = false := by decide) : PE X (.Name x pos) (tVar i) := by
  intro pins s σ H Q I h
  obtain ⟨v, e, h⟩ := h
  obtain ⟨m, hn, hl⟩ := I.loc
  obtain ⟨u, r, l⟩ := hl i x v hN e hv
  have fin : EP X pins σ Q u s := ⟨v, H, I, r, h⟩
  rcases l with ⟨hk, hm⟩ | ⟨hk, c, hc, hcell⟩
  · exact wpAny_Name (wpAny_loadName_local I.ok.kind hk hn hm fin) hd
  · rcases hk with hk | hk
    · exact wpAny_Name (wpAny_loadName_cell I.ok.kind hk hc hcell fin) hd
    · exact wpAny_Name (wpAny_loadName_free I.ok.kind hk hc hcell fin hcd) hd
theorem pe_int {i j pos} : PE X (.Constant (.int i) j pos) (tC (.int i)) := fun _ _ _ H _ I h => wpAny_Constant_int ⟨.int i, H, I.tok _, ⟨_, rfl⟩, h⟩
theorem pe_bl {b j pos} : PE X (.Constant (.bool b) j pos) (tC (.bl b)) := fun _ _ _ H _ I h => Constant_bool ⟨.bl b, H, I, rfl, h⟩
theorem pe_non {j pos} : PE X (.Constant .none j pos) (tC .non) := fun _ _ _ H _ I h => Constant_none ⟨.non, H, I, rfl, h⟩
theorem pe_str {x j pos} : PE X (.Constant (.str x) j pos) (tC (.str x)) := fun _ _ _ H _ I h => Calls.Constant_str ⟨.str x, H, I.tok _, ⟨_, rfl⟩, h⟩
def Gl (X : Cx) (x : Str) : Prop := X.env.kindOf x = some .globalImplicit
theorem ld_glob {E : Value → Shared → Prop} {pins : List (Addr × Obj)} {s : Shared} {σ : St} {H : Hp} {x : Str} {u : Value} {pos : Pos} {Q : Value → Shared → Prop} (I : Inv X pins σ H s) (hg : Gl X x) (hm : X.mg x = some u) (h : Q u s)
    (hd : (x == ("__debug__" : Str)) = false := by decide) : wpAny (model X.prog X.w) X.A (eval (.Name x pos) X.env) Q E s :=
  Calls.Name_function_global I.ok.kind hg (Calls.loadGlobal_global (by rw [I.ok.glob]; exact I.mod.glob.keeps I.bk) hm h) hd
theorem ld_blt {E : Value → Shared → Prop} {pins : List (Addr × Obj)} {s : Shared} {σ : St} {H : Hp} {x : Str} {u : Value} {pos : Pos} {Q : Value → Shared → Prop} (I : Inv X pins σ H s) (hg : Gl X x) (hm : X.mg x = none) (hv : bootBuiltins x = some u) (h : Q u s)
    (hn : x ≠ "__name__" := by decide) (hd : (x == ("__debug__" : Str)) = false := by decide) : wpAny (model X.prog X.w) X.A (eval (.Name x pos) X.env) Q E s := by
  obtain ⟨mb, h1, h2⟩ := I.mod.blt
  exact Calls.Name_function_global I.ok.kind hg (Calls.loadGlobal_builtin (by rw [I.ok.glob]; exact I.mod.glob.keeps I.bk) hm (by rw [I.ok.blt]; exact h1.keeps I.bk) ((h2 x hn).trans hv) h) hd
theorem pe_glob {x : Str} {v : V} {u : Value} {pos : Pos} (hg : Gl X x) (hm : X.mg x = some u) (r : RelV v u) (hd : (x == ("__debug__" : Str)) = false := by decide) : PE X (.Name x pos) (tC v) :=
  fun _ _ _ H _ I h => ld_glob I hg hm ⟨v, H, I, r, h⟩ hd
theorem pe_bltn {x : Str} {v : V} {u : Value} {pos : Pos} (hg : Gl X x) (hm : X.mg x = none) (hv : bootBuiltins x = some u) (r : RelV v u) (hn : x ≠ "__name__" := by decide) (hd : (x == ("__debug__" : Str)) = false := by decide) : PE X (.Name x pos) (tC v) :=
  fun _ _ _ H _ I h => ld_blt I hg hm hv ⟨v, H, I, r, h⟩ hn hd
variable {a b : Expr} {ta tb : TE} {pos : Pos}
def tB (t : TE) : TT := fun σ H Q => t σ H fun x H1 => ∃ c, x = .bl c ∧ Q c H1
theorem pt_val {e : Expr} {t : TE} (h : PE X e t) (he : ∀ whole, isTrue e X.env whole = (do let v ← whole; standAt e.pos; holding [v] (truthy v)) := by intro _; rfl) : PT X e (tB t) := by
  intro pins s σ H Q I hw
  refine isTrue_plain (thn (h pins s σ H _ I hw) fun v s1 ⟨x, H1, I1, r1, q1⟩ => ?_) (he _)
  obtain ⟨d, rfl, q⟩ := q1
  cases r1
  exact wpAny_truthy_bool ⟨H1, I1, q⟩
variable {tA tB' : TT} {rest : List Expr}
def tAnd (t u : TT) : TT := fun σ H Q => t σ H fun c H1 => if c = true then u σ H1 Q else Q false H1
def tOr (t u : TT) : TT := fun σ H Q => t σ H fun c H1 => if c = true then Q true H1 else u σ H1 Q
def tNot (t : TT) : TT := fun σ H Q => t σ H fun c H1 => Q (!c) H1
theorem pw_and1 (ha : PT X a tA) : PW X (.BoolOp .And [a] pos) tA := by
  intro wh pins s σ H Q I h
  refine isTrue_and (thn (ha pins s σ H Q I h) fun c s1 e => ?_)
  cases c with
  | true => exact isTrue_and_nil e
  | false => exact e
theorem pw_or1 (ha : PT X a tA) : PW X (.BoolOp .Or [a] pos) tA := by
  intro wh pins s σ H Q I h
  refine isTrue_or (thn (ha pins s σ H Q I h) fun c s1 e => ?_)
  cases c with
  | false => exact isTrue_or_nil e
  | true => exact e
theorem pw_and (ha : PT X a tA) (hb : PW X (.BoolOp .And (b :: rest) pos) tB') : PW X (.BoolOp .And (a :: b :: rest) pos) (tAnd tA tB') := by
  intro wh pins s σ H Q I h
  refine isTrue_and (thn (ha pins s σ H _ I h) fun c s1 ⟨H1, I1, q1⟩ => ?_)
  cases c with
  | true => exact hb wh pins s1 σ H1 Q I1 q1
  | false => exact ⟨H1, I1, q1⟩
theorem pw_or (ha : PT X a tA) (hb : PW X (.BoolOp .Or (b :: rest) pos) tB') : PW X (.BoolOp .Or (a :: b :: rest) pos) (tOr tA tB') := by
  intro wh pins s σ H Q I h
  refine isTrue_or (thn (ha pins s σ H _ I h) fun c s1 ⟨H1, I1, q1⟩ => ?_)
  cases c with
  | true => exact ⟨H1, I1, q1⟩
  | false => exact hb wh pins s1 σ H1 Q I1 q1
theorem pt_not (ha : PT X a tA) : PT X (.UnaryOp .Not a pos) (tNot tA) := by
  intro pins s σ H Q I h
  exact isTrue_not (ha pins s σ H (fun c H1 => Q (!c) H1) I h)
end
end L2
namespace L2
open PySem PySem.Spec PyProof.Rows
def SqL (K : PySem.W.Frag) (H : Hp) (a : Addr) (xs : List V) : Prop :=
  Rd H a (.lst xs) ∨
    ∃ (o : Obj) (its : Array Value) (n : Nat), K.lookup a = some o ∧ o.cls = .type "list" ∧ o.dict = none ∧ o.data = .seq its n ∧ its.size ≤ sizeLine ∧ Vals xs its.toList
def SqT (K : PySem.W.Frag) (H : Hp) (a : Addr) (xs : List V) : Prop :=
  Rd H a (.tup xs) ∨
    ∃ (o : Obj) (its : Array Value) (n : Nat), K.lookup a = some o ∧ o.cls = .type "tuple" ∧ o.data = .seq its n ∧ its.size ≤ sizeLine ∧ Vals xs its.toList
noncomputable def absV : Value → Option V
  | .none => some .non
  | .bool b => some (.bl b)
  | .int i _ => some (.int i)
  | .str x _ => some (.str x)
  | .bytes b _ => some (.byt b)
  | .float b _ => some (.flt b)
  | .ref a => some (.ref a)
  | .type n => some (.ty n)
  | _ => none
theorem RelV.abs {x : V} {u : Value} (r : RelV x u) : absV u = some x := by
  cases x with
  | non => cases r; rfl
  | bl _ => cases r; rfl
  | int _ => obtain ⟨t, rfl⟩ := r; rfl
  | str _ => obtain ⟨t, rfl⟩ := r; rfl
  | byt _ => obtain ⟨t, rfl⟩ := r; rfl
  | flt _ => obtain ⟨t, rfl⟩ := r; rfl
  | ref _ => cases r; rfl
  | ty _ => cases r; rfl
theorem RelV.inj {x y : V} {u : Value} (r : RelV x u) (q : RelV y u) : x = y := Option.some.inj (r.abs.symm.trans q.abs)
theorem Vals.inj : ∀ {xs ys : List V} {us : List Value}, Vals xs us → Vals ys us → xs = ys
  | _, _, _, .nil, .nil => rfl
  | _, _, _, .cons r t, .cons r' t' => by rw [r.inj r', Vals.inj t t']
section
variable {X : Cx} {pins : List (Addr × Obj)} {σ : St} {H : Hp} {s : Shared} {a : Addr} {xs ys : List V}
theorem SqL.of {K : PySem.W.Frag} (h : H a = some (.lst xs)) : SqL K H a xs := .inl (.inl h)
theorem SqT.of {K : PySem.W.Frag} (h : H a = some (.tup xs)) : SqT K H a xs := .inl (.inl h)
theorem Inv.list (I : Inv X pins σ H s) (h : SqL X.K H a xs) : ∃ its : List Value, Vals xs its ∧ PlainL s.heap a its.toArray ∧ xs.length ≤ sizeLine := by
  rcases h with h | ⟨o, its, n, hk, hc, hd, hs, hz, r⟩
  · obtain ⟨z, its, n, r, e⟩ := h.ok I.hok
    exact ⟨its, r, ⟨_, n, e, rfl, rfl, rfl⟩, z⟩
  · refine ⟨its.toList, r, ⟨o, n, I.kIn a o hk, hc, hd, by simpa using hs⟩, ?_⟩
    have e := r.length
    simp only [Array.length_toList] at e
    omega
theorem Inv.tuple (I : Inv X pins σ H s) (h : SqT X.K H a xs) : ∃ its : List Value, Vals xs its ∧ IsTup s.heap a its.toArray ∧ xs.length ≤ sizeLine := by
  rcases h with h | ⟨o, its, n, hk, hc, hs, hz, r⟩
  · obtain ⟨z, its, r, p⟩ := h.ok I.hok
    exact ⟨its, r, p, z⟩
  · refine ⟨its.toList, r, ⟨o, I.kIn a o hk, hc, n, by simpa using hs⟩, ?_⟩
    have e := r.length
    simp only [Array.length_toList] at e
    omega
theorem Inv.list_inj (I : Inv X pins σ H s) (h : SqL X.K H a xs) (h' : SqL X.K H a ys) : xs = ys := by
  obtain ⟨its, r, ⟨o, n, e, _, _, d⟩, _⟩ := I.list h
  obtain ⟨its', r', ⟨o', n', e', _, _, d'⟩, _⟩ := I.list h'
  rw [e] at e'; cases e'
  rw [d] at d'
  injection d' with d1 _
  have : its = its' := by simpa using congrArg Array.toList d1
  subst this
  exact r.inj r'
end
noncomputable abbrev Cx.wish (X : Cx) (E : Value → Shared → Prop) : Cx := { X with xe := E }
noncomputable abbrev Cx.nox (X : Cx) : Cx := X.wish fun _ _ => False
theorem Cx.Ok.wish {X : Cx} (ok : X.Ok) (E : Value → Shared → Prop) : (X.wish E).Ok :=
  ⟨ok.mod, ok.kind, ok.glob, ok.blt, ok.above, ok.inj, ok.has, ok.cab, ok.hd, ok.frames, ok.stk, ok.exf, ok.bs, ok.bsz, ok.noex, ok.exfs, ok.funs, ok.frf⟩
theorem Cx.Ok.unwish {X : Cx} {E : Value → Shared → Prop} (ok : (X.wish E).Ok) : X.Ok :=
  ⟨ok.mod, ok.kind, ok.glob, ok.blt, ok.above, ok.inj, ok.has, ok.cab, ok.hd, ok.frames, ok.stk, ok.exf, ok.bs, ok.bsz, ok.noex, ok.exfs, ok.funs, ok.frf⟩
section
variable {X : Cx} {pins : List (Addr × Obj)} {σ : St} {H : Hp} {s : Shared} {E : Value → Shared → Prop}
theorem Inv.wish (I : Inv X pins σ H s) (E : Value → Shared → Prop) : Inv (X.wish E) pins σ H s := ⟨I.ok.wish E, I.os, I.bare, I.base, I.loc, I.cell, I.free, I.freeC, I.pin, I.hok, I.len⟩
theorem Inv.unwish (I : Inv (X.wish E) pins σ H s) : Inv X pins σ H s := ⟨I.ok.unwish, I.os, I.bare, I.base, I.loc, I.cell, I.free, I.freeC, I.pin, I.hok, I.len⟩
theorem SP.unwish {D : Ends} {f : Flow} {s' : Shared} (h : SP (X.wish E) pins D f s') : SP X pins D f s' := by
  cases f with
  | next => obtain ⟨σ', H', I, q⟩ := h; exact ⟨σ', H', I.unwish, q⟩
  | brk => obtain ⟨σ', H', I, q⟩ := h; exact ⟨σ', H', I.unwish, q⟩
  | cont => obtain ⟨σ', H', I, q⟩ := h; exact ⟨σ', H', I.unwish, q⟩
  | ret u => obtain ⟨v, σ', H', I, r, q⟩ := h; exact ⟨v, σ', H', I.unwish, r, q⟩
theorem PE.nox {e : Expr} {t : TE} (h : PE X.nox e t) : PE X e t := fun pins s σ H Q I hw =>
  wpAny_mono (h pins s σ H Q (I.wish _) hw) (fun _ _ ⟨v, H', I', r, q⟩ => ⟨v, H', I'.unwish, r, q⟩) fun _ _ z => False.elim z
theorem PT.nox {e : Expr} {t : TT} (h : PT X.nox e t) : PT X e t := fun pins s σ H Q I hw =>
  wpAny_mono (h pins s σ H Q (I.wish _) hw) (fun _ _ ⟨H', I', q⟩ => ⟨H', I'.unwish, q⟩) fun _ _ z => False.elim z
theorem PSs.nox {st : List Stmt} {t : TS} (h : PSs X.nox st t) : PSs X st t := fun pins s σ H D I hw =>
  wpAny_mono (h pins s σ H D (I.wish _) hw) (fun _ _ q => q.unwish) fun _ _ z => False.elim z
end
section
variable {X : Cx} {st : Stmt} {rest : List Stmt} {t u : TS} {e : Expr} {te : TE} {pos : Pos}
def tNext : TS := fun D σ H => D.nx σ H
def tSeq (t u : TS) : TS := fun D σ H => t { D with nx := u D } σ H
theorem pss_nil : PSs X [] tNext := fun _ _ σ H _ I h => wpAny_execs_nil ⟨σ, H, I, h⟩
theorem pss_cons (h1 : PS X st t) (h2 : PSs X rest u) : PSs X (st :: rest) (tSeq t u) := by
  intro pins s σ H D I h
  refine wpAny_execs_cons (thn (h1 pins s σ H { D with nx := u D } I h) fun f s1 q => ?_)
  cases f with
  | next =>
    obtain ⟨σ', H', I', q⟩ := q
    exact h2 pins s1 σ' H' D I' q
  | ret v => exact q
  | brk => exact q
  | cont => exact q
theorem pss_one (h1 : PS X st t) : PSs X [st] t := by
  intro pins s σ H D I h
  refine wpAny_execs_cons (thn (h1 pins s σ H D I h) fun f s1 q => ?_)
  cases f with
  | next => exact wpAny_execs_nil q
  | ret v => exact q
  | brk => exact q
  | cont => exact q
theorem Inv.quiet {pins : List (Addr × Obj)} {σ : St} {H : Hp} {s : Shared} (I : Inv X pins σ H s) : interactive X.env = false := by simp [interactive, I.ok.kind]
def tDrop (te : TE) : TS := fun D σ H => te σ H fun _ H1 => D.nx σ H1
theorem ps_expr (he : PE X e te) (hs : swapsWith e none pos.line X.env = pure false := by rfl) : PS X (.Expr e pos) (tDrop te) := by
  intro pins s σ H D I h
  exact wpAny_Expr_any (thn (he pins s σ H _ I h) fun v s1 ⟨x, H1, I1, r1, q1⟩ => ⟨σ, H1, I1, q1⟩) I.quiet hs
def tRet (te : TE) : TS := fun D σ H => te σ H D.rt
theorem ps_ret (he : PE X e te) : PS X (.Return (some e) pos) (tRet te) := by
  intro pins s σ H D I h
  exact wpAny_Return_some (thn (he pins s σ H _ I h) fun v s1 ⟨x, H1, I1, r1, q1⟩ => ⟨x, σ, H1, I1, r1, q1⟩)
def tIfS (c : TT) (t u : TS) : TS := fun D σ H => c σ H fun b H1 => if b = true then t D σ H1 else u D σ H1
theorem ps_if {c : Expr} {a b : List Stmt} {tc : TT} (hc : PT X c tc) (ha : PSs X a t) (hb : PSs X b u) : PS X (.If c a b pos) (tIfS tc t u) := by
  intro pins s σ H D I h
  refine wpAny_If (thn (hc pins s σ H _ I h) fun d s1 ⟨H1, I1, q1⟩ => ?_)
  cases d with
  | true => exact ha pins s1 σ H1 D I1 q1
  | false => exact hb pins s1 σ H1 D I1 q1
end
abbrev TG := V → St → Hp → (St → Hp → Prop) → Prop
abbrev TGs := List V → St → Hp → (St → Hp → Prop) → Prop
def PG (X : Cx) (target : Expr) (t : TG) : Prop :=
  ∀ (pins : List (Addr × Obj)) (s : Shared) (σ : St) (H : Hp) (v : V) (u : Value) (Q : St → Hp → Prop), Inv X pins σ H s → RelV v u → t v σ H Q →
    wpAny (model X.prog X.w) X.A (assign target X.env u) (fun _ s' => ∃ σ' H', Inv X pins σ' H' s' ∧ Q σ' H') X.xe s
def PGs (X : Cx) (ts : List Expr) (t : TGs) : Prop :=
  ∀ (pins : List (Addr × Obj)) (s : Shared) (σ : St) (H : Hp) (vs : List V) (us : List Value) (Q : St → Hp → Prop), Inv X pins σ H s → Vals vs us → t vs σ H Q →
    wpAny (model X.prog X.w) X.A (assignInOrder ((assignEach ts X.env).map (·.2)) us) (fun _ s' => ∃ σ' H', Inv X pins σ' H' s' ∧ Q σ' H') X.xe s
abbrev TSet := V → V → V → Hp → (Hp → Prop) → Prop
def PSet (X : Cx) (t : TSet) : Prop :=
  ∀ (pins : List (Addr × Obj)) (s : Shared) (σ : St) (H : Hp) (o i v : V) (ov iv u : Value) (Q : Hp → Prop), Inv X pins σ H s → RelV o ov → RelV i iv → RelV v u → t o i v H Q →
    wpAny (model X.prog X.w) X.A (setItem ov iv u) (fun _ s' => ∃ H', Inv X pins σ H' s' ∧ Q H') X.xe s
section
variable {X : Cx} {pos : Pos}
def gName (i : Nat) : TG := fun v σ H Q => Q (σ.set i (some v)) H
theorem pg_name {i : Nat} {x : Str} (hN : X.N.Nodup) (hi : X.N[i]? = some x) (hx : Loc X.env.scope x) (hf : X.fn x = true ∨ X.env.scope.names.lookup x = some .local := by first | exact .inl rfl | exact .inr rfl | assumption) : PG X (.Name x pos) (gName i) := by
  intro pins s σ H v u Q I r h
  exact wpAny_assign_Name (store_ok I hN hi hx r (fun s' I' => ⟨_, H, I', h⟩) hf)
noncomputable def gNil : TGs := fun vs σ H Q => vs = [] ∧ Q σ H
noncomputable def gCons (t : TG) (u : TGs) : TGs := fun vs σ H Q => ∃ v r, vs = v :: r ∧ t v σ H fun σ' H' => u r σ' H' Q
theorem pgs_nil : PGs X [] gNil := by
  intro pins s σ H vs us Q I r h
  obtain ⟨e, h⟩ := h
  subst e
  cases r
  exact assignInOrder_nil ⟨σ, H, I, h⟩
theorem pgs_cons {e : Expr} {es : List Expr} {t : TG} {u : TGs} (h1 : PG X e t) (h2 : PGs X es u)
    (hs : (assignEach (e :: es) X.env).map (·.2) = assign e X.env :: (assignEach es X.env).map (·.2) := by rfl) : PGs X (e :: es) (gCons t u) := by
  intro pins s σ H vs us Q I r h
  obtain ⟨v, vr, e1, h⟩ := h
  subst e1
  cases r with
  | cons r rr =>
    rw [hs]
    refine assignInOrder_cons (thn (h1 pins s σ H _ _ _ I r h) fun _ s1 ⟨σ1, H1, I1, q1⟩ => ?_)
    exact h2 pins s1 σ1 H1 _ _ Q I1 rr q1
def gTup (K : PySem.W.Frag) (n : Nat) (t : TGs) : TG := fun v σ H Q => ∃ a xs, v = .ref a ∧ SqT K H a xs ∧ xs.length = n ∧ t xs σ H Q
theorem pg_tup {es : List Expr} {k : Nat} {t : TGs} {n : Nat} (hc : X.calm = true) (h : PGs X es t)
    (hn : (assignEach es X.env).length = n := by rfl) (hst : (assignEach es X.env).findIdx? (·.1) = none := by rfl) : PG X (.Tuple es k pos) (gTup X.K n t) := by
  intro pins s σ H v u Q I r hw
  obtain ⟨a, xs, e1, hq, hl, hw⟩ := hw
  subst e1
  cases r
  obtain ⟨its, rv, ht, hz⟩ := I.tuple hq
  refine assign_Tuple_tuple (I.ok.hd hc) ht (by simp [hn, ← hl, rv.length]) hst fun h' hx => ?_
  have I1 : Inv X pins σ H { s with heap := h' } := I.kept (t' := s.toks) fun b o e => hx b o (Nat.ne_of_lt (Heap.lt_size e)) e
  exact h pins _ σ H xs _ Q I1 (by simpa using rv) hw
def gSub (to ti : TE) (t : TSet) : TG := fun v σ H Q => to σ H fun o H1 => ti σ H1 fun i H2 => t o i v H2 fun H3 => Q σ H3
def tAsg (te : TE) (g : TG) : TS := fun D σ H => te σ H fun x H1 => g x σ H1 D.nx
theorem ps_asg {tg e : Expr} {te : TE} {g : TG} (he : PE X e te) (hg : PG X tg g) (hs : swapsWithSole [tg] e pos.line X.env = pure false := by rfl) (hw : swappedStores [tg] e X.env = pure none := by rfl)
    (h1 : (assignEach [tg] X.env).map (·.2) = [assign tg X.env] := by rfl) : PS X (.Assign [tg] e pos) (tAsg te g) := by
  intro pins s σ H D I h
  refine wpAny_Assign_stores (thn (he pins s σ H _ I h) fun v s1 ⟨x, H1, I1, r1, q1⟩ => ?_) hs hw
  rw [h1]
  exact thn (hg pins s1 σ H1 x v _ I1 r1 q1) fun _ s2 q => q
theorem ps_set {i : Nat} {x : Str} {e : Expr} {te : TE} {pos' : Pos} (hN : X.N.Nodup) (hi : X.N[i]? = some x) (hx : Loc X.env.scope x) (he : PE X e te) (hs : swapsWith e (some (.Name x pos')) pos.line X.env = pure false := by rfl) (hf : X.fn x = true ∨ X.env.scope.names.lookup x = some .local := by first | exact .inl rfl | exact .inr rfl | assumption) :
    PS X (.Assign [.Name x pos'] e pos) (tAsg te (gName i)) := by
  intro pins s σ H D I h
  refine wpAny_Assign_Name (thn (he pins s σ H _ I h) fun v s1 ⟨y, H1, I1, r1, q1⟩ => ?_) hs
  exact store_ok I1 hN hi hx r1 (fun s2 I2 => ⟨_, H1, I2, q1⟩) hf
end
section
variable {X : Cx} {pos : Pos}
end
structure It where
  go : Nat → Hp → Prop
  yld : Nat → Hp → V → Hp → Prop
  stop : Nat → Hp → Prop
def FpOk (X : Cx) (pins : List (Addr × Obj)) (H : Hp) (b : Addr) : Prop :=
  H b = none ∧ b ≠ X.env.locals ∧ b ∉ X.fs ∧ (b ∈ X.ex ∨ X.s₀.heap.objs.size ≤ b) ∧ (∀ x c, X.env.cells.lookup x = some c → c ≠ b) ∧ ∀ p ∈ X.pn ++ pins, p.1 ≠ b
theorem Inv.fpOk {X : Cx} {pins : List (Addr × Obj)} {σ : St} {H H' : Hp} {s : Shared} {b : Addr} (I : Inv X pins σ H s) (hb : s.heap.objs.size ≤ b) (hn : H' b = none) : FpOk X pins H' b := by
  refine ⟨hn, Nat.ne_of_gt (Nat.lt_of_lt_of_le I.lt hb), I.nofs hb, .inr (Nat.le_trans I.sz hb), fun x c e z => ?_, fun p hp z => ?_⟩
  · obtain ⟨v, q⟩ := I.cell x c e
    exact absurd (Nat.lt_of_lt_of_le q.lt (by rw [z]; exact hb)) (Nat.lt_irrefl _)
  · exact absurd (Nat.lt_of_lt_of_le (Heap.lt_size (I.pin p hp).1) (by rw [z]; exact hb)) (Nat.lt_irrefl _)
structure Turn (P : Program) (w : World) (K : PySem.W.Frag) (tg : Expr) (J : It) (fp : List Addr) (it : Addr) (tn : Nat → Heap → Prop) : Prop where
  mem : it ∈ fp
  obj : ∀ i h, tn i h → ∀ b ∈ fp, ∃ o, h.get? b = some o ∧ ∀ v, o.data ≠ .cell v
  keep : ∀ i h h', tn i h → (∀ b ∈ fp, ∀ o, h.get? b = some o → h'.get? b = some o) → tn i h'
  item : ∀ (X : Cx), X.prog = P → X.w = w → X.K = K → X.calm = true → ∀ (i : Nat) (pins : List (Addr × Obj)) (s : Shared) (σ : St) (H : Hp) (E : Value → Shared → Prop), Inv X pins σ H s → (∀ b ∈ fp, FpOk X pins H b) → tn i s.heap → J.go i H →
    wpAny (model P w) X.A (pyNext (.ref it)) (fun r s1 => ∃ u, r = some u ∧
      wpAny (model P w) X.A (letOwnedTupleGo tg (.ref it) u) (fun _ s2 => ∃ x H', Inv X pins σ H' s2 ∧ RelV x u ∧ J.yld i H x H' ∧ tn (i + 1) s2.heap ∧ ∀ b ∈ fp, H' b = none) E s1) E s
  done : ∀ (X : Cx), X.prog = P → X.w = w → X.K = K → X.calm = true → ∀ (i : Nat) (pins : List (Addr × Obj)) (s : Shared) (σ : St) (H : Hp) (E : Value → Shared → Prop), Inv X pins σ H s → (∀ b ∈ fp, FpOk X pins H b) → tn i s.heap → J.stop i H →
    wpAny (model P w) X.A (pyNext (.ref it)) (fun r s1 => r = none ∧ Inv X pins σ H s1) E s
  self : ∀ (A : Around) (i : Nat) (s : Shared) (Q : Value → Shared → Prop) (E : Value → Shared → Prop), tn i s.heap → Q (.ref it) s → wpAny (model P w) A (pyIter (.ref it)) Q E s
abbrev TI := St → Hp → (It → Hp → Prop) → Prop
def PIE (X : Cx) (pins : List (Addr × Obj)) (σ : St) (tg : Expr) (R : It → Hp → Prop) (itv : Value) (s2 : Shared) : Prop :=
  ∃ (it : Addr) (fp : List Addr) (tn : Nat → Heap → Prop) (J : It) (H' : Hp), itv = .ref it ∧ Inv X pins σ H' s2 ∧ Turn X.prog X.w X.K tg J fp it tn ∧ tn 0 s2.heap ∧ (∀ b ∈ fp, FpOk X pins H' b) ∧ R J H'
def PI (X : Cx) (tg iter : Expr) (wi : TI) : Prop :=
  ∀ (pins : List (Addr × Obj)) (s : Shared) (σ : St) (H : Hp) (R : It → Hp → Prop), Inv X pins σ H s → wi σ H R →
    wpAny (model X.prog X.w) X.A (eval iter X.env) (fun v s1 => wpAny (model X.prog X.w) X.A (pyIter v) (PIE X pins σ tg R) X.xe s1) X.xe s
theorem go_of {M : Model} {A : Around} {E : Value → Shared → Prop} {s : Shared} {tg : Expr} {it : Addr} {u : Value} {o : Obj} {n : String} {vs : Array Value} {Q : Unit → Shared → Prop} (ho : s.heap.get? it = some o) (hc : o.cls = .type n) (hd : o.data = .fields vs)
    (hn : ["enumerate", "zip", "dict_itemiterator", "dict_reverseitemiterator", "odict_iterator", "itertools.zip_longest", "itertools.pairwise"].contains n = false) (hQ : Q () s) : wpAny M A (letOwnedTupleGo tg (.ref it) u) Q E s := by
  unfold letOwnedTupleGo
  cases tg <;> first
    | exact wpAny_pure hQ
    | (cases u <;> first
        | exact wpAny_pure hQ
        | (refine wpAny_bind (wpAny_load ho ?_)
           rw [hc, hd]
           show wpAny M A (if (["enumerate", "zip", "dict_itemiterator", "dict_reverseitemiterator", "odict_iterator", "itertools.zip_longest", "itertools.pairwise"].contains n && vs[0]? == some (rawInt _)) = true then _ else _) Q E s
           rw [if_neg (by intro h; rw [hn, Bool.false_and] at h; cases h)]
           exact wpAny_pure hQ))
noncomputable def Itl (K : PySem.W.Frag) (a : Addr) : It :=
  ⟨fun i H => ∃ xs x, SqL K H a xs ∧ xs[i]? = some x, fun i H x H' => H' = H ∧ ∀ xs, SqL K H a xs → xs[i]? = some x, fun i H => ∃ xs, SqL K H a xs ∧ xs.length ≤ i⟩
noncomputable def Itr (lo : Int) (n : Nat) : It := ⟨fun i _ => i < n, fun i H x H' => H' = H ∧ x = .int (lo + i), fun i _ => n ≤ i⟩
theorem turn_list {P : Program} {w : World} {K : PySem.W.Frag} {tg : Expr} (a it : Addr) : Turn P w K tg (Itl K a) [it] it (fun i h => h.IsListIter it a i) where
  mem := by simp
  obj := fun i h st b hb => by
    have e : b = it := by simpa using hb
    subst e
    obtain ⟨o, e, c, d⟩ := st
    exact ⟨o, e, fun v z => by rw [d] at z; cases z⟩
  keep := fun i h h' st k => st.at fun o e => k it (by simp) o e
  item := by
    intro X hP hw hK hc i pins s σ H E I hf st hg
    subst hP hw hK
    obtain ⟨xs, x, hq, hx⟩ := hg
    obtain ⟨its, rv, p, hz⟩ := I.list hq
    obtain ⟨u, hu, ru⟩ := rv.get hx
    obtain ⟨f0, f1, f2, f3, f4, f5⟩ := hf it (by simp)
    refine wpAny_pyNext_list_item st p.isList (x := u) (by simpa using hu) fun h' st' sb => ?_
    have I1 : Inv X pins σ H { s with heap := h' } := I.turned (t' := s.toks) (fun b o hb e => (sb.2 b hb).trans e) f0 f1 f3 f4 f5
    obtain ⟨o, e, c, d⟩ := id st'
    exact ⟨u, rfl, go_of (s := { s with heap := h' }) e c d (by decide) ⟨x, H, I1, ru, ⟨rfl, fun ys hy => by rw [I.list_inj hy hq]; exact hx⟩, st', fun b hb => (hf b hb).1⟩⟩
  done := by
    intro X hP hw hK hc i pins s σ H E I hf st hg
    subst hP hw hK
    obtain ⟨xs, hq, hx⟩ := hg
    obtain ⟨its, rv, p, hz⟩ := I.list hq
    obtain ⟨f0, f1, f2, f3, f4, f5⟩ := hf it (by simp)
    have hl := rv.length
    exact wpAny_pyNext_list_end (I.ok.hd hc) st p.isList (by simp; omega) fun h' eb => ⟨rfl, I.turned (t' := s.toks) (fun b o hb e => eb b o hb e) f0 f1 f3 f4 f5⟩
  self := fun _ _ _ _ _ st h => wpAny_pyIter_listiter st h
theorem turn_range {P : Program} {w : World} {K : PySem.W.Frag} {tg : Expr} (it : Addr) (lo : Int) (n : Nat) : Turn P w K tg (Itr lo n) [it] it (fun i h => IsRangeIter h it (lo + (i : Nat) * 1) ((n : Int) - (i : Nat)) 1) where
  mem := by simp
  obj := fun i h st b hb => by
    have e : b = it := by simpa using hb
    subst e
    exact ⟨_, st, fun v z => by
      have z' : Data.fields _ = Data.cell v := z
      cases z'⟩
  keep := fun i h h' st k => k it (by simp) _ st
  item := by
    intro X hP hw hK hc i pins s σ H E I hf st hg
    subst hP hw hK
    obtain ⟨f0, f1, f2, f3, f4, f5⟩ := hf it (by simp)
    have W := Walks.range (prog := X.prog) (w := X.w) (I.ok.hd hc) it lo 1 n
    refine W.item i s _ _ hg st fun v h' tk hv st' kk => ?_
    obtain ⟨t, rfl⟩ := hv
    have I1 : Inv X pins σ H { s with heap := h', toks := tk } := I.turned (fun b o hb e => kk b o (by simpa using hb) e) f0 f1 f3 f4 f5
    refine ⟨_, rfl, go_of (s := { s with heap := h', toks := tk }) (n := "range_iterator") st' rfl rfl (by decide) ⟨.int (lo + i), H, I1, ⟨t, ?_⟩, ⟨rfl, rfl⟩, st', fun b hb => (hf b hb).1⟩⟩
    rw [Int.mul_one]
  done := by
    intro X hP hw hK hc i pins s σ H E I hf st hg
    subst hP hw hK
    obtain ⟨f0, f1, f2, f3, f4, f5⟩ := hf it (by simp)
    exact wpAny_pyNext_range_end (I.ok.hd hc) st (by have : n ≤ i := hg; omega) fun h' eb => ⟨rfl, I.turned (t' := s.toks) (fun b o hb e => eb b o hb e) f0 f1 f3 f4 f5⟩
  self := fun _ _ _ _ _ st h => wpAny_pyIter_rangeiter st h
end L2
namespace L2
open PySem PySem.Spec PyProof.Rows
section
variable {X : Cx} {tg : Expr}
def iList (K : PySem.W.Frag) (tl : TE) : TI := fun σ H R => tl σ H fun x H1 => ∃ a, x = .ref a ∧ (∃ xs, SqL K H1 a xs) ∧ R (Itl K a) H1
theorem pi_list {l : Expr} {tl : TE} (hl : PE X l tl) : PI X tg l (iList X.K tl) := by
  intro pins s σ H R I h
  refine thn (hl pins s σ H _ I h) fun v s1 ⟨x, H1, I1, r1, q1⟩ => ?_
  obtain ⟨a, e, ⟨xs, hq⟩, q⟩ := q1
  subst e
  cases r1
  obtain ⟨its, rv, p, hz⟩ := I1.list hq
  refine wpAny_pyIter_list p.isList ?_
  refine ⟨s1.heap.objs.size, [s1.heap.objs.size], _, _, H1, rfl, I1.kept (t' := s1.toks) fun b o e => Heap.get?_push_of_some _ e, turn_list a _, ⟨_, Heap.get?_push_size _ rfl, rfl, rfl⟩, fun b hb => ?_, q⟩
  have e : b = s1.heap.objs.size := by simpa using hb
  subst e
  exact I1.fpOk (Nat.le_refl _) (I1.hok.fresh (Nat.le_refl _))
theorem range_it {pins : List (Addr × Obj)} {σ : St} {H : Hp} {s : Shared} {R : It → Hp → Prop} {E : Value → Shared → Prop} {lo hi : Int} {t u v : Tok} {tk : Nat} (I : Inv X pins σ H s) (h1 : -(2 ^ 62) ≤ lo) (h2 : lo < 2 ^ 62) (h3 : -(2 ^ 62) ≤ hi) (h4 : hi < 2 ^ 62)
    (q : R (Itr lo (hi - lo).toNat) H) : wpAny (model X.prog X.w) X.A (pyIter (.ref s.heap.objs.size)) (PIE X pins σ tg R) E { s with heap := s.heap.push { cls := .type "range", data := .fields #[.int lo t, .int hi u, .int 1 v] }, toks := tk } := by
  refine wpAny_pyIter_range (IsRange.new ..) (small_one h1 h2 h3 h4) ?_
  have I1 : Inv X pins σ H { s with heap := s.heap.push { cls := .type "range", data := .fields #[.int lo t, .int hi u, .int 1 v] }, toks := tk } := I.kept fun b o e => Heap.get?_push_of_some _ e
  refine ⟨(s.heap.push { cls := .type "range", data := .fields #[.int lo t, .int hi u, .int 1 v] }).objs.size, [(s.heap.push { cls := .type "range", data := .fields #[.int lo t, .int hi u, .int 1 v] }).objs.size], _, _, H, rfl,
    I1.kept (t' := tk) fun b o e => Heap.get?_push_of_some _ e, turn_range _ lo (hi - lo).toNat, ?_, fun b hb => ?_, q⟩
  · have e1 : lo + ((0 : Nat) : Int) * 1 = lo := by simp
    have e2 : (((hi - lo).toNat : Nat) : Int) - ((0 : Nat) : Int) = Builtin.Range.rangeSize lo hi 1 := by rw [rangeSize_one]; split <;> omega
    show IsRangeIter _ _ (lo + ((0 : Nat) : Int) * 1) ((((hi - lo).toNat : Nat) : Int) - ((0 : Nat) : Int)) 1
    rw [e1, e2]
    exact Heap.get?_push_size _ rfl
  · have e : b = (s.heap.push { cls := .type "range", data := .fields #[.int lo t, .int hi u, .int 1 v] }).objs.size := by simpa using hb
    subst e
    exact I1.fpOk (Nat.le_refl _) (I1.hok.fresh (Nat.le_refl _))
def iRng1 (ta : TA) : TI := fun σ H R => ta σ H fun vs H1 => ∃ j : Int, vs = [.int j] ∧ -(2 ^ 62) ≤ j ∧ j < 2 ^ 62 ∧ R (Itr 0 j.toNat) H1
theorem pi_range1 {a : Expr} {ta : TA} {p pos : Pos} (hg : Gl X "range") (hm : X.mg "range" = none) (ha : PA X [a] ta) (hs : starEach [a] X.env = [(false, eval a X.env)] := by rfl) : PI X tg (.Call (.Name "range" p) [a] [] pos) (iRng1 ta) := by
  intro pins s σ H R I h
  refine Call_ (ld_blt I hg hm boot_range (PyProof.Rows.callWith_type1 (thn (ha pos pins s σ H _ I h) fun us s1 ⟨vs, H1, I1, r1, q1⟩ => ?_) hs rfl))
  obtain ⟨j, e, q1, q2, q⟩ := q1
  subst e
  cases r1 with
  | cons r rr =>
    cases rr
    obtain ⟨t, rfl⟩ := r
    exact call_range_1 (range_it I1 (by omega) (by omega) q1 q2 (by simpa using q))
def tFor (wi : TI) (g : TG) (tb : TS) : TS := fun D σ H => wi σ H fun J H1 => ∃ W : Nat → Nat → St → Hp → Prop, (∃ m, W 0 m σ H1) ∧ ∀ i m σ H, W i m σ H →
  (J.stop i H ∧ D.nx σ H) ∨ (J.go i H ∧ ∃ N : St → Hp → Prop, (∀ σ' H', N σ' H' → ∃ m', m' < m ∧ W (i + 1) m' σ' H') ∧ ∀ x H', J.yld i H x H' → g x σ H' fun σ2 H2 => tb { D with nx := N, ct := N, bk := D.nx } σ2 H2)
noncomputable def pinsAt (fp : List Addr) (h : Heap) : List (Addr × Obj) := fp.filterMap fun b => (h.get? b).map fun o => (b, o)
theorem mem_pinsAt {fp : List Addr} {h : Heap} {b : Addr} {o : Obj} (hb : b ∈ fp) (e : h.get? b = some o) : (b, o) ∈ pinsAt fp h := List.mem_filterMap.mpr ⟨b, hb, by rw [e]; rfl⟩
theorem of_pinsAt {fp : List Addr} {h : Heap} {p : Addr × Obj} (hp : p ∈ pinsAt fp h) : p.1 ∈ fp ∧ h.get? p.1 = some p.2 := by
  obtain ⟨b, hb, e⟩ := List.mem_filterMap.mp hp
  cases q : h.get? b with
  | none => rw [q] at e; cases e
  | some o =>
    rw [q] at e
    have e' : (b, o) = p := Option.some.inj e
    subst e'
    exact ⟨hb, q⟩
theorem Inv.pinned {pins : List (Addr × Obj)} {σ : St} {H : Hp} {s : Shared} {fp : List Addr} (I : Inv X pins σ H s) (hf : ∀ b ∈ fp, FpOk X pins H b) (ho : ∀ b ∈ fp, ∃ o, s.heap.get? b = some o ∧ ∀ v, o.data ≠ .cell v) : Inv X (pins ++ pinsAt fp s.heap) σ H s :=
  I.pins_of fun p hp => (List.mem_append.mp hp).elim (fun z => I.pin p (List.mem_append_right _ z)) fun z => by
    obtain ⟨hb, e⟩ := of_pinsAt z
    obtain ⟨f0, f1, f2, _⟩ := hf p.1 hb
    obtain ⟨o, e', d⟩ := ho p.1 hb
    rw [e] at e'; cases e'
    exact ⟨e, f0, f1, f2, d⟩
theorem Inv.unpinned {pins pl : List (Addr × Obj)} {σ : St} {H : Hp} {s : Shared} (I : Inv X (pins ++ pl) σ H s) : Inv X pins σ H s := I.pins_of fun p hp => I.pin p (List.mem_append_right _ (List.mem_append_left _ hp))
theorem ps_for {iter : Expr} {body : List Stmt} {wi : TI} {g : TG} {tb : TS} {pos : Pos} (hp : PassesOwn (model X.prog X.w) X.A X.env X.xe) (hc : X.calm = true) (hi : PI X tg iter wi) (hg : PG X tg g) (hb : PSs X body tb)
    (hs : ∀ x, foldedSetIterable iter X.env x = pure x := by intro _; rfl) : PS X (.For tg iter body [] pos) (tFor wi g tb) := by
  intro pins s σ H D I h
  refine wpAny_For (thn (hi pins s σ H _ I h) fun v s1 h1 => thn h1 fun itv s2 h2 => ?_) hs
  obtain ⟨it, fp, tn, J, H2, e, I2, T, st2, f2, W, ⟨m0, w0⟩, turn⟩ := h2
  subst e
  have stat : ∀ {H' : Hp}, (∀ b ∈ fp, H' b = none) → ∀ b ∈ fp, FpOk X pins H' b := fun hn b hb => ⟨hn b hb, (f2 b hb).2⟩
  refine codeAny_forLoop_any (fun n s' => ∃ i σ' H', Inv X pins σ' H' s' ∧ tn i s'.heap ∧ (∀ b ∈ fp, H' b = none) ∧ W i n σ' H') ?_ m0 ⟨0, σ, H2, I2, st2, fun b hb => (f2 b hb).1, w0⟩
  rintro n s3 ⟨i, σ3, H3, I3, st3, fr3, w3⟩
  rcases turn i n σ3 H3 w3 with ⟨stop, qn⟩ | ⟨go, N, hN, step⟩
  · refine wpAny_passesOwn hp (thn (T.done X rfl rfl rfl hc i pins s3 σ3 H3 X.xe I3 (stat fr3) st3 stop) fun r s4 ⟨hr, I4⟩ => ?_)
    subst hr
    exact wpAny_execs_nil ⟨σ3, H3, I4, qn⟩
  · refine wpAny_passesOwn hp (thn (T.item X rfl rfl rfl hc i pins s3 σ3 H3 X.xe I3 (stat fr3) st3 go) fun r s4 ⟨u, hr, h4⟩ => ?_)
    subst hr
    refine wpAny_passesOwn hp (thn h4 fun _ s5 ⟨x, H5, I5, r5, y5, st5, fr5⟩ => ?_)
    have I5' := I5.pinned (stat fr5) (T.obj _ _ st5)
    refine wpAny_passesOwn hp (thn (hg _ s5 σ3 H5 x u _ I5' r5 (step x H5 y5)) fun _ s6 ⟨σ6, H6, I6, q6⟩ => ?_)
    refine wpAny_passesOwn hp (thn (hb _ s6 σ6 H6 _ I6 q6) fun f s7 q7 => ?_)
    have again : ∀ {σ7 : St} {H7 : Hp}, Inv X (pins ++ pinsAt fp s5.heap) σ7 H7 s7 → N σ7 H7 → ∃ m, m < n ∧ ∃ i σ' H', Inv X pins σ' H' s7 ∧ tn i s7.heap ∧ (∀ b ∈ fp, H' b = none) ∧ W i m σ' H' := fun {σ7 H7} I7 n7 => by
      obtain ⟨m', hm, w7⟩ := hN σ7 H7 n7
      refine ⟨m', hm, i + 1, σ7, H7, I7.unpinned, T.keep _ _ _ st5 fun b hb o e => (I7.pin (b, o) (List.mem_append_right _ (List.mem_append_right _ (mem_pinsAt hb e)))).1, fun b hb => ?_, w7⟩
      obtain ⟨o, e, d⟩ := T.obj _ _ st5 b hb
      exact (I7.pin (b, o) (List.mem_append_right _ (List.mem_append_right _ (mem_pinsAt hb e)))).2.1
    cases f with
    | next => obtain ⟨σ7, H7, I7, n7⟩ := q7; exact again I7 n7
    | cont => obtain ⟨σ7, H7, I7, n7⟩ := q7; exact again I7 n7
    | brk => obtain ⟨σ7, H7, I7, q7⟩ := q7; exact ⟨σ7, H7, I7.unpinned, q7⟩
    | ret v => obtain ⟨x7, σ7, H7, I7, r7, q7⟩ := q7; exact ⟨x7, σ7, H7, I7.unpinned, r7, q7⟩
end
end L2
namespace L2
open PySem PySem.Spec PyProof.Rows
abbrev R2 := V → V → Hp → VK → Prop
def OpR (X : Cx) (f : Value → Value → Sem Value) (r : R2) : Prop :=
  ∀ (pins : List (Addr × Obj)) (s : Shared) (σ : St) (H : Hp) (x y : V) (v u : Value) (Q : VK), Inv X pins σ H s → RelV x v → RelV y u → r x y H Q →
    wpAny (model X.prog X.w) X.A (f v u) (EP X pins σ Q) X.xe s
def CallR (X : Cx) (f : Value) (r : List V → Hp → VK → Prop) : Prop :=
  ∀ (pins : List (Addr × Obj)) (s : Shared) (σ : St) (H : Hp) (xs : List V) (us : List Value) (Q : VK), Inv X pins σ H s → Vals xs us → r xs H Q →
    wpAny (model X.prog X.w) X.A (call f us) (EP X pins σ Q) X.xe s
def tOp (r : R2) (ta tb : TE) : TE := fun σ H Q => ta σ H fun x H1 => tb σ H1 fun y H2 => r x y H2 Q
noncomputable def rI (C : Int → Int → Prop) (g : Int → Int → V) : R2 := fun x y H Q => ∃ i j, x = .int i ∧ y = .int j ∧ C i j ∧ Q (g i j) H
noncomputable def rI0 (g : Int → Int → V) : R2 := fun x y H Q => ∃ i j, x = .int i ∧ y = .int j ∧ Q (g i j) H
section
variable {X : Cx} {a b c : Expr} {ta tb tc : TE} {pos : Pos}
theorem binT (ha : PE X a ta) (hb : PE X b tb) {pins : List (Addr × Obj)} {s : Shared} {σ : St} {H : Hp} {R : V → V → Hp → Prop} (I : Inv X pins σ H s)
    (h : ta σ H fun x H1 => tb σ H1 fun y H2 => R x y H2) {Q : Value → Shared → Prop} {f : Value → Value → Sem Value}
    (hf : ∀ v u s2 x y H2, Inv X pins σ H2 s2 → RelV x v → RelV y u → R x y H2 → wpAny (model X.prog X.w) X.A (f v u) Q X.xe s2) :
    wpAny (model X.prog X.w) X.A (eval a X.env) (fun v s₁ => wpAny (model X.prog X.w) X.A (eval b X.env) (fun u s₂ => wpAny (model X.prog X.w) X.A (f v u) Q X.xe s₂) X.xe s₁) X.xe s := by
  refine thn (ha pins s σ H _ I h) fun v s1 ⟨x, H1, I1, r1, q1⟩ => ?_
  refine thn (hb pins s1 σ H1 _ I1 q1) fun u s2 ⟨y, H2, I2, r2, q2⟩ => ?_
  exact hf v u s2 x y H2 I2 r1 r2 q2
theorem pe_op {op : Operator} {r : R2} (ho : OpR X (binaryOp op) r) (ha : PE X a ta) (hb : PE X b tb) : PE X (.BinOp a op b pos) (tOp r ta tb) := by
  intro pins s σ H Q I h
  exact wpAny_BinOp (binT ha hb I h fun v u s2 x y H2 I2 rx ry q => ho pins s2 σ H2 x y v u Q I2 rx ry q)
theorem opI {f : Value → Value → Sem Value} {C : Int → Int → Prop} {g : Int → Int → Int}
    (rule : ∀ (i j : Int) (t u : Tok) (s : Shared) (Q : Value → Shared → Prop) (E : Value → Shared → Prop), C i j → Q (.int (g i j) s.toks) { s with toks := s.toks + 1 } → wpAny (model X.prog X.w) X.A (f (.int i t) (.int j u)) Q E s) :
    OpR X f (rI C fun i j => .int (g i j)) := by
  intro pins s σ H x y v u Q I rx ry h
  obtain ⟨i, j, rfl, rfl, hc, q⟩ := h
  obtain ⟨t, rfl⟩ := rx
  obtain ⟨t', rfl⟩ := ry
  exact rule i j t t' s _ _ hc ⟨.int (g i j), H, I.tok _, ⟨_, rfl⟩, q⟩
theorem opI0 {f : Value → Value → Sem Value} {g : Int → Int → Int}
    (rule : ∀ (i j : Int) (t u : Tok) (s : Shared) (Q : Value → Shared → Prop) (E : Value → Shared → Prop), Q (.int (g i j) s.toks) { s with toks := s.toks + 1 } → wpAny (model X.prog X.w) X.A (f (.int i t) (.int j u)) Q E s) :
    OpR X f (rI0 fun i j => .int (g i j)) := by
  intro pins s σ H x y v u Q I rx ry h
  obtain ⟨i, j, rfl, rfl, q⟩ := h
  obtain ⟨t, rfl⟩ := rx
  obtain ⟨t', rfl⟩ := ry
  exact rule i j t t' s _ _ ⟨.int (g i j), H, I.tok _, ⟨_, rfl⟩, q⟩
theorem opB0 {f : Value → Value → Sem Value} {g : Int → Int → Bool}
    (rule : ∀ (i j : Int) (t u : Tok) (s : Shared) (Q : Value → Shared → Prop) (E : Value → Shared → Prop), Q (.bool (g i j)) s → wpAny (model X.prog X.w) X.A (f (.int i t) (.int j u)) Q E s) :
    OpR X f (rI0 fun i j => .bl (g i j)) := by
  intro pins s σ H x y v u Q I rx ry h
  obtain ⟨i, j, rfl, rfl, q⟩ := h
  obtain ⟨t, rfl⟩ := rx
  obtain ⟨t', rfl⟩ := ry
  exact rule i j t t' s _ _ ⟨.bl (g i j), H, I, rfl, q⟩
def CPow (i j : Int) : Prop := 0 ≤ j ∧ j ≤ 1000000 ∧ i.natAbs < 2 ^ 64
def CMul (i j : Int) : Prop := (-(2 ^ 64) < i ∧ i < 2 ^ 64) ∨ (-(2 ^ 64) < j ∧ j < 2 ^ 64)
theorem CMul.ok {i j : Int} (h : CMul i j) : IntMulOk i j := by
  rcases h with ⟨h1, h2⟩ | ⟨h1, h2⟩
  · exact .of_left (intBits_le_64 h1 h2)
  · exact .of_right (intBits_le_64 h1 h2)
theorem op_add : OpR X (binaryOp .Add) (rI0 fun i j => .int (i + j)) := opI0 fun _ _ _ _ _ _ _ q => add_int q
theorem op_sub : OpR X (binaryOp .Sub) (rI0 fun i j => .int (i - j)) := opI0 fun _ _ _ _ _ _ _ q => sub_int q
theorem op_mul : OpR X (binaryOp .Mult) (rI CMul fun i j => .int (i * j)) := opI fun _ _ _ _ _ _ _ hc q => mul_int q hc.ok
theorem op_mod : OpR X (binaryOp .Mod) (rI (fun _ j => 0 < j) fun i j => .int (i % j)) := opI fun i j _ _ _ _ _ hc q => by
  have h1 : (0 : Int) < j := hc
  exact mod_int' (by omega) (by rw [Int.fmod_eq_emod_of_nonneg i (by omega)]; exact q)
theorem op_pow : OpR X (binaryOp .Pow) (rI CPow fun i j => .int (i ^ j.toNat)) := opI fun _ _ _ _ _ _ _ hc q => pow_int_small hc.1 hc.2.1 hc.2.2 q
end
section
variable {X : Cx} {a b c : Expr} {ta tb tc : TE} {pos : Pos}
theorem op_lt : OpR X (compareOp .Lt) (rI0 fun i j => .bl (decide (i < j))) := opB0 fun _ _ _ _ _ _ _ q => lt_int q
theorem op_gt : OpR X (compareOp .Gt) (rI0 fun i j => .bl (decide (j < i))) := opB0 fun _ _ _ _ _ _ _ q => gt_int q
noncomputable def isObj : HO → Bool
  | .lst _ => true
  | .ins _ _ _ => true
  | _ => false
theorem obj_there {pins : List (Addr × Obj)} {s : Shared} {σ : St} {H : Hp} {a : Addr} {o : HO} (I : Inv X pins σ H s) (h : H a = some o) (p : isObj o = true) : ∃ ob, s.heap.get? a = some ob ∧ ob.cls ≠ .type "tuple" := by
  cases o with
  | lst xs =>
    obtain ⟨_, its, n, _, e⟩ : xs.length ≤ sizeLine ∧ ∃ (its : List Value) (n : Nat), Vals xs its ∧ s.heap.get? a = some { cls := .type "list", data := .seq its.toArray n } := I.hok a _ h
    exact ⟨_, e, (by show Value.type "list" ≠ .type "tuple"; decide +kernel)⟩
  | ins C dx fs =>
    have x := I.hok a _ h
    obtain ⟨_, _, _, e, _⟩ := x
    exact ⟨_, e, (by show Value.ref C ≠ .type "tuple"; exact fun z => by cases z)⟩
  | _ => exact absurd (show false = true from p) Bool.false_ne_true
theorem OpR.or {f : Value → Value → Sem Value} {r r' : R2} (h : OpR X f r) (h' : OpR X f r') : OpR X f (fun x y H Q => r x y H Q ∨ r' x y H Q) := by
  intro pins s σ H x y v u Q I rx ry q
  rcases q with q | q
  · exact h pins s σ H x y v u Q I rx ry q
  · exact h' pins s σ H x y v u Q I rx ry q
theorem nomark (b : Expr) {op : CmpOp} (h : op ≠ .In := by decide) (h2 : op ≠ .NotIn := by decide) : behindInMarks op b = false := by
  have e1 : (op == CmpOp.In) = false := by cases op <;> first | rfl | exact absurd rfl h
  have e2 : (op == CmpOp.NotIn) = false := by cases op <;> first | rfl | exact absurd rfl h2
  cases b <;> simp [behindInMarks, e1, e2]
theorem pe_cmpR {op : CmpOp} {r : R2} (ho : OpR X (compareOp op) r) (ha : PE X a ta) (hb : PE X b tb) (hm : behindInMarks op b = false) : PE X (.Compare a [op] [b] pos) (tOp r ta tb) := by
  intro pins s σ H Q I h
  exact wpAny_Compare1 (binT ha hb I h fun v u s2 x y H2 I2 rx ry q => ho pins s2 σ H2 x y v u Q I2 rx ry q) hm
def tTest (t : TE) : TT := fun σ H Q => t σ H fun x H' => ∃ k, x = .bl k ∧ Q k H'
theorem pt_cmpR {op : CmpOp} {r : R2} (ho : OpR X (compareOp op) r) (ha : PE X a ta) (hb : PE X b tb) (hm : behindInMarks op b = false) : PT X (.Compare a [op] [b] pos) (tTest (tOp r ta tb)) := by
  intro pins s σ H Q I h
  refine wpAny_isTrue_Compare1 (thn (ha pins s σ H _ I h) fun v s1 ⟨x, H1, I1, r1, q1⟩ => thn (hb pins s1 σ H1 _ I1 q1) fun u s2 ⟨y, H2, I2, r2, q2⟩ =>
    thn (ho pins s2 σ H2 x y v u _ I2 r1 r2 q2) fun c s3 ⟨z, H3, I3, r3, k, e, q3⟩ => ?_) hm
  subst e
  cases r3
  exact wpAny_truthy_bool ⟨H3, I3, q3⟩
theorem line63 : (sizeLine : Nat) < 2 ^ 63 := by rw [sizeLine_eq]; decide
theorem vals1 {x : V} {us : List Value} (r : Vals [x] us) : ∃ u, us = [u] ∧ RelV x u := by
  cases r with
  | cons r1 r2 => cases r2; exact ⟨_, rfl, r1⟩
theorem vals2 {x y : V} {us : List Value} (r : Vals [x, y] us) : ∃ u w', us = [u, w'] ∧ RelV x u ∧ RelV y w' := by
  cases r with
  | cons r1 r2 =>
    cases r2 with
    | cons r3 r4 => cases r4; exact ⟨_, _, rfl, r1, r3⟩
theorem call_min2 (hc : X.calm = true) : CallR X (.builtin "min") (fun xs H Q => ∃ i j, xs = [.int i, .int j] ∧ Q (.int (if j < i then j else i)) H) := by
  intro pins s σ H xs us Q I r h
  obtain ⟨i, j, rfl, q⟩ := h
  obtain ⟨u, w', rfl, ⟨t, rfl⟩, ⟨t', rfl⟩⟩ := vals2 r
  refine min_two_ints (I.ok.hd hc) fun h' tk k => ⟨_, H, I.kept k, ?_, q⟩
  by_cases hj : j < i
  · rw [if_pos hj, if_pos hj]; exact ⟨_, rfl⟩
  · rw [if_neg hj, if_neg hj]; exact ⟨_, rfl⟩
end
end L2
namespace L2
open PySem PySem.Spec PyProof.Rows
structure ObjM (h : Heap) (x dx C : Addr) (mA : Str → Option Value) : Prop where
  obj : h.get? x = some (PySem.W.instObj C dx)
  ns : h.Ns1 dx mA
  ne : dx ≠ x
theorem lookIn_ns {h : Heap} {dx : Addr} {mA : Str → Option Value} (n : h.Ns1 dx mA) : ∃ od, h.get? dx = some od ∧ ∀ name, PySem.W.lookIn name od = some (mA name) := by
  obtain ⟨o, es, ep, ho, hd, hk, _, hm⟩ := n
  refine ⟨o, ho, fun name => ?_⟩
  have e := hm name
  unfold nsFind findBy at e
  rw [← Array.find?_toList] at e
  unfold PySem.W.lookIn
  rw [hd]
  dsimp only
  split
  · rename_i y q
    rw [q] at e
    exact congrArg some e
  · rename_i q
    rw [q] at e
    have a : es.toList.any (·.refKey) = false := by
      rw [List.any_eq_false]
      intro y hy
      obtain ⟨z, t, hkey⟩ := hk y (Array.mem_toList_iff.mp hy)
      simp [DictEntry.refKey, hkey]
    have a' : ¬ es.toList.any (·.refKey) = true := by rw [a]; exact Bool.false_ne_true
    rw [if_neg a']
    exact congrArg some e
theorem ObjM.look {h : Heap} {x dx C : Addr} {mA : Str → Option Value} (I : ObjM h x dx C mA) : ∃ od, PySem.W.InstAt h x (PySem.W.instObj C dx) C (some od) ∧ ∀ name, PySem.W.lookIn name od = some (mA name) :=
  let ⟨od, ho, hl⟩ := lookIn_ns I.ns
  ⟨od, ⟨I.obj, rfl, rfl, ho⟩, hl⟩
section
variable {prog : Program} {w : World} {A : Around} {E : Value → Shared → Prop} {s : Shared} {K : PySem.W.Frag} {x dx C f : Addr} {mA : Str → Option Value} {name : Str} {v : Value}
end
theorem RelO.some_of {v : V} {o : Option Value} (r : RelO (some v) o) : ∃ u, o = some u ∧ RelV v u := by
  cases o with
  | none => exact (show False from r).elim
  | some u => exact ⟨u, rfl, r⟩
section
variable {P : Program} {w : World} {H H' : Hp} {h h' : Heap} {a C dx : Addr} {fs fs' : List (Str × V)}
end
structure Cls (K : PySem.W.Frag) (C : Addr) : Prop where
  pg : PySem.W.plainGet K C Str.empty = true
  hd : PySem.W.hasDictIn K C = true
  po : PySem.W.plainOver K C = true
  sa : PySem.W.findIn K (.ref C) "__setattr__" = some (some (.builtin "object.__setattr__"))
theorem Cls.get {K : PySem.W.Frag} {C : Addr} (c : Cls K C) (f : Str) : PySem.W.plainGet K C f = true := c.pg
structure Con (K : PySem.W.Frag) (C : Addr) (f : Str) (v : V) (u : Value) : Prop where
  at_ : PySem.W.findIn K (.ref C) f = some (some u)
  rel : RelV v u
  get : PySem.W.specialIn K u "__get__" = some none
  cp : PySem.W.copiedNames.contains f = false
structure Meth (K : PySem.W.Frag) (C : Addr) (m : Str) (f : Addr) : Prop where
  at_ : PySem.W.findIn K (.ref C) m = some (some (.ref f))
  fn : PySem.W.isFn K (.ref f) = true
  kp : PySem.W.keepIn K (.ref f) = true
section
variable {X : Cx} {pins : List (Addr × Obj)} {σ : St} {H : Hp} {s : Shared} {a C dx : Addr} {fs : List (Str × V)} {f : Str} {v : V} {A : Around} {E : Value → Shared → Prop}
theorem Inv.made (I : Inv X pins σ H s) : Inv X pins σ (upd (upd H s.heap.objs.size (.own (s.heap.objs.size + 1))) (s.heap.objs.size + 1) (.ins C s.heap.objs.size []))
    { s with heap := (s.heap.push PySem.W.emptyDict).push (PySem.W.instObj C s.heap.objs.size) } := by
  have e1 : (s.heap.push PySem.W.emptyDict).get? s.heap.objs.size = some PySem.W.emptyDict := Heap.get?_push_size s.heap rfl
  have e2 : ((s.heap.push PySem.W.emptyDict).push (PySem.W.instObj C s.heap.objs.size)).get? (s.heap.objs.size + 1) = some (PySem.W.instObj C s.heap.objs.size) := by
    have := Heap.get?_push_size (s.heap.push PySem.W.emptyDict) (o := PySem.W.instObj C s.heap.objs.size) rfl
    rwa [Heap.size_push] at this
  have e3 : (s.heap.push PySem.W.emptyDict).Ns s.heap.objs.size (fun _ => none) := ⟨PySem.W.emptyDict, #[], _, e1, rfl, (fun e he => absurd he (by simp)), fun _ => rfl⟩
  have I1 := I.laid (a := s.heap.objs.size) (o := .own (s.heap.objs.size + 1)) (h' := s.heap.push PySem.W.emptyDict) (t' := s.toks) (fun b u q => Heap.get?_push_of_some _ q) (Nat.le_refl _) ⟨_, e1⟩
  refine I1.laid (a := s.heap.objs.size + 1) (o := .ins C s.heap.objs.size []) (t' := s.toks) (fun b u q => Heap.get?_push_of_some _ q) (Nat.le_of_eq (Heap.size_push _ _)) ?_
  have ne : s.heap.objs.size ≠ s.heap.objs.size + 1 := Nat.ne_of_lt (Nat.lt_succ_self _)
  refine ⟨by rw [upd_ne ne, upd_same], Nat.zero_le _, ne, e2, fun _ => none, (Heap.Ns1.of_empty e3).at fun o q => Heap.get?_push_of_some _ q, fun _ => True.intro, fun y hy => absurd rfl hy⟩
end
section
variable {X : Cx} {o e value : Expr} {f : Str} {pos pos' tpos : Pos} {ta tv : TE}
end
section
variable {X : Cx} {pins : List (Addr × Obj)} {σ : St} {H : Hp} {s : Shared} {A : Around} {E : Value → Shared → Prop} {Q : Value → Shared → Prop} {c : Value} {b : Bool}
inductive TyOf (K : PySem.W.Frag) (H : Hp) : V → Value → Prop where
  | non : TyOf K H .non (.type "NoneType")
  | bl (x : Bool) : TyOf K H (.bl x) (.type "bool")
  | int (i : Int) : TyOf K H (.int i) (.type "int")
  | str (x : Str) : TyOf K H (.str x) (.type "str")
  | flt (x : UInt64) : TyOf K H (.flt x) (.type "float")
  | lst {a : Addr} {xs : List V} (e : H a = some (.lst xs)) : TyOf K H (.ref a) (.type "list")
  | frz {a : Addr} {o : Obj} {xs : List V} (e : H a = some (.frz o (.lst xs))) : TyOf K H (.ref a) (.type "list")
  | tup {a : Addr} {xs : List V} (e : H a = some (.tup xs)) : TyOf K H (.ref a) (.type "tuple")
  | dK {a : Addr} {kvs : List (Key × V)} (e : H a = some (.dK kvs)) : TyOf K H (.ref a) (.type "dict")
  | dT {a : Addr} {kvs : List (List Key × V)} (e : H a = some (.dT kvs)) : TyOf K H (.ref a) (.type "dict")
  | ins {a C dx : Addr} {fs : List (Str × V)} (e : H a = some (.ins C dx fs)) (cl : Cls K C) (ha : PySem.W.findIn K (.ref C) "__class__" = some (some (.builtin "object.__class__")))
      (hn : PySem.W.specialIn K (.builtin "object.__class__") "__get__" = some (some (.builtin "getset_descriptor.__get__"))) (htk : PySem.W.takesIn K (.builtin "object.__class__") = some true)
      (hm : PySem.W.mroIn K C (.type "object") = some true) : TyOf K H (.ref a) (.ref C)
end
end L2
namespace L2
open PySem PySem.Spec PyProof.Rows
structure Room (k : Nat) (A : Around) : Prop where
  hd : A.handled = none
  dp : A.depth + 3 * k + 5 < recursionLimit
  un : A.units + 16 * k + 200 < cLine
theorem Room.mono {j k : Nat} {A : Around} (r : Room k A) (h : j ≤ k) : Room j A := ⟨r.hd, by have := r.dp; omega, by have := r.un; omega⟩
theorem Room.deeper {k : Nat} {A : Around} (r : Room (k + 1) A) (env : Env) : Room k (A.deeper env) :=
  ⟨r.hd, by have := r.dp; show A.depth + 1 + 3 * k + 5 < _; omega, by have := r.un; show A.units + 3 + 16 * k + 200 < _; omega⟩
theorem Room.in1 {k : Nat} {A : Around} (r : Room (k + 1) A) : Room k A.in1 :=
  ⟨r.hd, by have := r.dp; show A.depth + 3 * k + 5 < _; omega, by have := r.un; show A.units + 1 + 16 * k + 200 < _; omega⟩
theorem Room.depth {k : Nat} {A : Around} (r : Room k A) : A.depth < recursionLimit := by have := r.dp; omega
theorem Room.units {k : Nat} {A : Around} (r : Room k A) : A.units + 64 < cLine := by have := r.un; omega
def tNil : TA := fun _ H Q => Q [] H
def tCons (ta : TE) (tr : TA) : TA := fun σ H Q => ta σ H fun x H1 => tr σ H1 fun xs H2 => Q (x :: xs) H2
section
variable {X : Cx} {e : Expr} {es : List Expr} {te : TE} {t : TA} {pos : Pos}
theorem pa_nil : PA X [] tNil := fun _ _ _ _ H Q I h => Calls.spliced_nil ⟨[], H, I, .nil, h⟩
theorem pa_cons (ha : PE X e te) (hr : PA X es t) (hs : starEach (e :: es) X.env = (false, eval e X.env) :: starEach es X.env := by rfl) : PA X (e :: es) (tCons te t) := by
  intro pos pins s σ H Q I h
  rw [hs]
  show wpAny _ _ (spliced ((false, eval e X.env) :: backTo pos (starEach es X.env))) _ _ s
  refine Calls.spliced_cons (thn (ha pins s σ H _ I h) fun u s1 ⟨x, H1, I1, r1, q1⟩ => ?_)
  exact thn (hr pos pins s1 σ H1 _ I1 q1) fun us s2 ⟨xs, H2, I2, r2, q2⟩ => ⟨x :: xs, H2, I2, .cons r1 r2, q2⟩
def tTup (t : TA) : TE := fun σ H Q => t σ H fun xs H1 => xs.length ≤ sizeLine ∧ ∀ p, H1 p = none → Q (.ref p) (upd H1 p (.tup xs))
def tLst (t : TA) : TE := fun σ H Q => t σ H fun xs H1 => xs.length ≤ sizeLine ∧ ∀ p, H1 p = none → Q (.ref p) (upd H1 p (.lst xs))
theorem pe_tup {x1} (h : PA X es t) : PE X (.Tuple es x1 pos) (tTup t) := by
  intro pins s σ H Q I hq
  refine wpAny_Tuple_spliced (thn (h pos pins s σ H _ I hq) fun us s1 ⟨xs, H1, I1, r, z, q⟩ => ⟨by rw [← r.length]; exact z, ?_⟩)
  have hf : H1 s1.heap.objs.size = none := I1.hok.fresh (Nat.le_refl _)
  refine ⟨.ref s1.heap.objs.size, upd H1 s1.heap.objs.size (.tup xs), I1.laid (t' := s1.toks) (fun b u e => Heap.get?_push_of_some _ e) (Nat.le_refl _) ?_, rfl, q _ hf⟩
  exact ⟨z, us, r, ⟨_, Heap.get?_push_size _ rfl, rfl, _, rfl⟩⟩
theorem pe_lst (h : PA X es t) : PE X (.List es pos) (tLst t) := by
  intro pins s σ H Q I hq
  refine wpAny_List_spliced (thn (h pos pins s σ H _ I hq) fun us s1 ⟨xs, H1, I1, r, z, q⟩ => ⟨by rw [← r.length]; exact z, ?_⟩)
  have hf : H1 s1.heap.objs.size = none := I1.hok.fresh (Nat.le_refl _)
  refine ⟨.ref s1.heap.objs.size, upd H1 s1.heap.objs.size (.lst xs), I1.laid (t' := s1.toks) (fun b u e => Heap.get?_push_of_some _ e) (Nat.le_refl _) ?_, rfl, q _ hf⟩
  exact ⟨z, us, 0, r, Heap.get?_push_size _ rfl⟩
end
abbrev Sp := List V → Hp → VK → XK → Prop
abbrev CXT := List Env → Hp → Shared → XK → Value → Shared → Prop
structure Env0 (P : Program) (w : World) (K : PySem.W.Frag) (mg : Str → Option Value) (base : Heap) (A : Around) (outer : List Env) (s : Shared) (H : Hp) : Prop where
  frames : A.frames = some outer
  mod : Mod K mg base
  bs : ∀ b o, base.get? b = some o → s.heap.get? b = some o ∧ H b = none
  bsz : base.objs.size ≤ s.heap.objs.size
  funs : s.heap.FunFrames base outer
  frf : ∀ b ∈ frs outer, H b = none
  hok : HOk P w H s.heap
  bare : AllBare s.gens
def CE (outer : List Env) (P : Program) (w : World) (H : Hp) (s : Shared) (Q : VK) (u : Value) (s' : Shared) : Prop :=
  ∃ v H', s'.os = s.os ∧ AllBare s'.gens ∧ Un (frs outer) [] H H' s.heap s'.heap ∧ HOk P w H' s'.heap ∧ RelV v u ∧ Q v H'
def CR (CX : CXT) (outer : List Env) (P : Program) (w : World) (H : Hp) (s : Shared) (Q : VK) (E : XK) (r : Result) (s' : Shared) : Prop :=
  match r with
  | .ok (.ret u) => CE outer P w H s Q u s'
  | .ok _ => False
  | .error e => CX outer H s E e s'
structure FnOk (P : Program) (w : World) (K : PySem.W.Frag) (mg : Str → Option Value) (base : Heap) (CX : CXT) (k : Nat) (f : Addr) (fd : FuncData) (ps : List Str) (sp : Sp) : Prop where
  len : ∀ vs H Q E, sp vs H Q E → vs.length = ps.length
  run : ∀ (A : Around) (outer : List Env) (s : Shared) (H : Hp) (args : Args) (us : List Value) (vs : List V) (Q : VK) (E : XK), Room k A → Env0 P w K mg base A outer s H → BindsTo s fd args (ps.zip us) → Vals vs us → sp vs H Q E →
    codeAny (model P w) A (.call (.ref f) args) (CR CX outer P w H s Q E) s
theorem FnOk.mono {P : Program} {w : World} {K : PySem.W.Frag} {mg : Str → Option Value} {base : Heap} {CX : CXT} {j k : Nat} {f : Addr} {fd : FuncData} {ps : List Str} {sp : Sp} (F : FnOk P w K mg base CX j f fd ps sp) (h : j ≤ k) :
    FnOk P w K mg base CX k f fd ps sp := ⟨F.len, fun A outer s H args us vs Q E hr => F.run A outer s H args us vs Q E (hr.mono h)⟩
theorem FnOk.imp {P : Program} {w : World} {K : PySem.W.Frag} {mg : Str → Option Value} {base : Heap} {CX : CXT} {k : Nat} {f : Addr} {fd : FuncData} {ps : List Str} {sp sp' : Sp} (F : FnOk P w K mg base CX k f fd ps sp)
    (h : ∀ vs H Q E, sp' vs H Q E → sp vs H Q E) : FnOk P w K mg base CX k f fd ps sp' :=
  ⟨fun vs H Q E q => F.len vs H Q E (h _ _ _ _ q), fun A outer s H args us vs Q E hr he hb hv hs => F.run A outer s H args us vs Q E hr he hb hv (h _ _ _ _ hs)⟩
theorem Env0.in1 {P : Program} {w : World} {K : PySem.W.Frag} {mg : Str → Option Value} {base : Heap} {A : Around} {outer : List Env} {s : Shared} {H : Hp} (e : Env0 P w K mg base A outer s H) :
    Env0 P w K mg base A.in1 outer s H := ⟨e.frames, e.mod, e.bs, e.bsz, e.funs, e.frf, e.hok, e.bare⟩
section
variable {X : Cx} {pins : List (Addr × Obj)} {σ : St} {H : Hp} {s s' : Shared}
theorem Inv.env0 (I : Inv X pins σ H s) : Env0 X.prog X.w X.K X.mg X.base X.A X.stack s H :=
  ⟨I.ok.frames, I.ok.mod, I.bs, Nat.le_trans I.ok.bsz I.sz, I.stack, I.stkFree, I.hok, I.bare⟩
theorem Inv.after {Q : VK} {u : Value} (I : Inv X pins σ H s) (h : CE X.stack X.prog X.w H s Q u s') : EP X pins σ Q u s' := by
  obtain ⟨v, H', os, bare, un, hok, r, q⟩ := h
  obtain ⟨hh, g, d, t, os'⟩ := s'
  obtain rfl : os' = s.os := os
  exact ⟨v, H', I.call (h' := hh) (g' := g) (d' := d) (t' := t) (ch := []) un hok bare (fun b z => absurd z (by simp)), r, q⟩
end
def tCall (sp : Sp) (dvs : List V) (E : XK) (t : TA) : TE := fun σ H Q => t σ H fun vs H1 => sp (vs ++ dvs) H1 Q E
def Binds (K : PySem.W.Frag) (fd : FuncData) (ps : List Str) (ds : List Value) : Prop :=
  ∀ (s : Shared) (us : List Value), K.In s.heap → (us ++ ds).length = ps.length → BindsTo s fd ⟨us, []⟩ (ps.zip (us ++ ds))
theorem Binds.all {K : PySem.W.Frag} {fd : FuncData} {ps : List Str} (h : ∀ us : List Value, us.length = ps.length → bindArgs fd ⟨us, []⟩ = pure (ps.zip us)) : Binds K fd ps [] := fun s us _ hl => by
  rw [List.append_nil] at hl ⊢
  exact .of_eq (h us hl)
def Passes (CX : CXT) (X : Cx) (E : XK) : Prop := ∀ (pins : List (Addr × Obj)) (σ : St) (H : Hp) (s : Shared) (e : Value) (s' : Shared), Inv X pins σ H s → CX X.stack H s E e s' → X.xe e s'
section
variable {X : Cx} {CX : CXT} {k : Nat} {f C : Addr} {fd : FuncData} {ps : List Str} {sp : Sp} {dvs : List V} {ds : List Value} {E : XK} {x m : Str} {p pos apos : Pos} {e o : Expr} {es : List Expr} {ta : TE} {t : TA}
theorem run_fn {pins : List (Addr × Obj)} {σ : St} {H : Hp} {s : Shared} {Q : VK} {us : List Value} {vs : List V} (F : FnOk X.prog X.w X.K X.mg X.base CX k f fd ps sp) (hr : Room k X.A) (hb : Binds X.K fd ps ds) (hd : Vals dvs ds) (hx : Passes CX X E)
    (I : Inv X pins σ H s) (r : Vals vs us) (h : sp (vs ++ dvs) H Q E) : wpAny (model X.prog X.w) X.A (call (.ref f) us) (EP X pins σ Q) X.xe s := by
  have r2 : Vals (vs ++ dvs) (us ++ ds) := r.append hd
  have hl : (us ++ ds).length = ps.length := by rw [← r2.length]; exact F.len _ _ _ _ h
  refine wpAny_call (codeAny_mono (F.run X.A X.stack s H ⟨us, []⟩ (us ++ ds) (vs ++ dvs) Q E hr I.env0 (hb s us I.kIn hl) r2 h) fun r s' hq => ?_)
  cases r with
  | error e => exact hx pins σ H s e s' I hq
  | ok fl =>
    cases fl with
    | ret u => exact I.after hq
    | next => exact False.elim hq
    | brk => exact False.elim hq
    | cont => exact False.elim hq
theorem pe_call (F : FnOk X.prog X.w X.K X.mg X.base CX k f fd ps sp) (hr : Room k X.A) (hg : Gl X x) (hm : X.mg x = some (.ref f)) (hk : PySem.W.keepIn X.K (.ref f) = true) (hb : Binds X.K fd ps ds) (hd : Vals dvs ds) (hx : Passes CX X E)
    (ha : PA X (e :: es) t) (hdb : (x == ("__debug__" : Str)) = false := by decide) (he : starEach (e :: es) X.env = (false, eval e X.env) :: starEach es X.env := by rfl) (hpl : (backTo pos (starEach es X.env)).any (·.1) = false := by rfl) :
    PE X (.Call (.Name x p) (e :: es) [] pos) (tCall sp dvs E t) := by
  intro pins s σ H Q I h
  refine wpAny_Call_Name_kw (ld_glob I hg hm ?_ hdb)
  refine PySem.W.callWith_K (h₀ := X.base) I.ok.mod.kin hk (thn (ha pos pins s σ H _ I h) fun us s1 ⟨vs, H1, I1, r, q⟩ => ⟨I1.kIn, ?_⟩) he hpl
  exact run_fn F hr hb hd hx I1 r q
structure Mk (K : PySem.W.Frag) (C f : Addr) : Prop where
  makes : PySem.W.makesIn K C = true
  init : PySem.W.findIn K (.ref C) "__init__" = some (some (.ref f))
  fn : PySem.W.isFn K (.ref f) = true
  kp : PySem.W.keepIn K (.ref C) = true
end
section
variable {X : Cx} {CX : CXT} {k : Nat} {f C : Addr} {fd : FuncData} {ps ks : List Str} {sp : Sp} {E : XK} {x m : Str} {p pos apos kpos : Pos} {e o : Expr} {es : List Expr} {kws : List Keyword} {te ta : TE} {t tk : TA} {nm : Option Str}
structure KBinds (K : PySem.W.Frag) (fd : FuncData) (ps ks : List Str) (g : List Value → List Value → List Value) (gV : List V → List V → List V) : Prop where
  to : ∀ (s : Shared) (us ws : List Value), K.In s.heap → (g us ws).length = ps.length → BindsTo s fd ⟨us, ks.zip ws⟩ (ps.zip (g us ws))
  rel : ∀ {vs : List V} {us : List Value} {zs : List V} {ws : List Value}, Vals vs us → Vals zs ws → Vals (gV vs zs) (g us ws)
variable {g : List Value → List Value → List Value} {gV : List V → List V → List V}
end
structure FnScope (N P : List Str) (sc : Scope) : Prop where
  kind : sc.kind = .function
  co : sc.isCoroutine = false
  gen : sc.isGenerator = false
  nd : N.Nodup
  pre : N.take P.length = P
  par : ∀ x ∈ P, sc.names.lookup x = some .local ∨ sc.names.lookup x = some .cell
  nofree : ∀ y ∈ sc.names, y.2 ≠ .free
theorem bindL_out {kindOf : Str → Option NameKind} {x : Str} : ∀ {binds : List (Str × Value)} {m : Str → Option Value}, (∀ v, (x, v) ∉ binds) → bindL kindOf binds m x = m x
  | [], _, _ => rfl
  | (n, v) :: r, m, h => by
    unfold bindL
    rw [bindL_out fun w hw => h w (List.mem_cons_of_mem _ hw)]
    split
    · have : x ≠ n := by rintro rfl; exact h v List.mem_cons_self
      simp [this]
    · rfl
theorem bindC_out {kindOf : Str → Option NameKind} {x : Str} : ∀ {binds : List (Str × Value)} {m : Str → Option Value}, (∀ v, (x, v) ∉ binds) → bindC kindOf binds m x = m x
  | [], _, _ => rfl
  | (n, v) :: r, m, h => by
    unfold bindC
    rw [bindC_out fun w hw => h w (List.mem_cons_of_mem _ hw)]
    split
    · rfl
    · have : x ≠ n := by rintro rfl; exact h v List.mem_cons_self
      simp [this]
theorem bindL_get {kindOf : Str → Option NameKind} {x : Str} {v : Value} : ∀ {P : List Str} {vs : List Value} {i : Nat} {m : Str → Option Value}, P.Nodup → P[i]? = some x → vs[i]? = some v → kindOf x = some .local →
    bindL kindOf (P.zip vs) m x = some v
  | [], _, _, _, _, h, _, _ => by simp at h
  | _ :: _, [], _, _, _, _, h, _ => by simp at h
  | p :: P, w :: vs, 0, m, nd, h1, h2, hk => by
    simp at h1 h2; subst h1; subst h2
    show bindL kindOf ((p, w) :: P.zip vs) m p = _
    unfold bindL
    rw [bindL_out fun v hv => (List.nodup_cons.mp nd).1 (List.of_mem_zip hv).1, if_pos hk]
    simp
  | p :: P, w :: vs, i + 1, m, nd, h1, h2, hk => by
    show bindL kindOf ((p, w) :: P.zip vs) m x = _
    unfold bindL
    exact bindL_get (i := i) (List.nodup_cons.mp nd).2 (by simpa using h1) (by simpa using h2) hk
theorem bindC_get {kindOf : Str → Option NameKind} {x : Str} {v : Value} : ∀ {P : List Str} {vs : List Value} {i : Nat} {m : Str → Option Value}, P.Nodup → P[i]? = some x → vs[i]? = some v → kindOf x ≠ some .local →
    bindC kindOf (P.zip vs) m x = some v
  | [], _, _, _, _, h, _, _ => by simp at h
  | _ :: _, [], _, _, _, _, h, _ => by simp at h
  | p :: P, w :: vs, 0, m, nd, h1, h2, hk => by
    simp at h1 h2; subst h1; subst h2
    show bindC kindOf ((p, w) :: P.zip vs) m p = _
    unfold bindC
    rw [bindC_out fun v hv => (List.nodup_cons.mp nd).1 (List.of_mem_zip hv).1, if_neg hk]
    simp
  | p :: P, w :: vs, i + 1, m, nd, h1, h2, hk => by
    show bindC kindOf ((p, w) :: P.zip vs) m x = _
    unfold bindC
    exact bindC_get (i := i) (List.nodup_cons.mp nd).2 (by simpa using h1) (by simpa using h2) hk
noncomputable def start (N : List Str) (vs : List V) : St := vs.map some ++ List.replicate (N.length - vs.length) none
noncomputable def cxOf (CX : CXT) (P : Program) (w : World) (K : PySem.W.Frag) (mg : Str → Option Value) (base : Heap) (N : List Str) (qual : Str) (scope : Scope) (f : Addr) (cd : Value) (A : Around) (outer : List Env) (s : Shared) (H : Hp) (E : XK) : Cx where
  prog := P
  w := w
  K := K
  mg := mg
  base := base
  A := A.deeper (envOfC qual scope s.heap.objs.size f cd)
  N := N
  s₀ := s
  H₀ := H
  env := envOfC qual scope s.heap.objs.size f cd
  outer := outer
  stack := envOfC qual scope s.heap.objs.size f cd :: outer
  ex := []
  calm := true
  fn := fun _ => true
  pn := []
  xe := fun e s' => wpAny (model P w) (A.deeper (envOfC qual scope s.heap.objs.size f cd)) (leaving (envOfC qual scope s.heap.objs.size f cd) e) (fun _ s'' => CX outer H s E e s'') (fun e' s'' => CX outer H s E e' s'') s'
theorem cell_has {sc : Scope} {n : Nat} {x : Str} (h : sc.names.lookup x = some .cell) : ∃ c, (cellsFrom n sc.names []).lookup x = some c := by
  have q := PySem.W.cellsFrom_some sc.names n [] (.inl h)
  exact Option.isSome_iff_exists.mp q
theorem inv_start {CX : CXT} {P : Program} {w : World} {K : PySem.W.Frag} {mg : Str → Option Value} {base : Heap} {N ps : List Str} {qual : Str} {scope : Scope} {f : Addr} {cd : Value} {A : Around} {outer : List Env} {s s1 : Shared} {H : Hp} {E : XK} {us : List Value} {vs : List V}
    (S : FnScope N ps scope) (hd : A.handled = none) (e0 : Env0 P w K mg base A outer s H) (hl : vs.length = ps.length) (r : Vals vs us)
    (x : InCallC s s.heap.objs.size (bindL (envOfC qual scope s.heap.objs.size f cd).kindOf (ps.zip us) fun _ => none) (cellsFrom (s.heap.objs.size + 1) scope.names []) (bindC (envOfC qual scope s.heap.objs.size f cd).kindOf (ps.zip us) fun _ => none) s1) :
    Inv (cxOf CX P w K mg base N qual scope f cd A outer s H E) [] (start N vs) H s1 := by
  have hpl : ps.length ≤ N.length := by have := congrArg List.length S.pre; rw [List.length_take] at this; omega
  obtain ⟨h1, tk, rfl, hk⟩ := x.done
  have noA : ∀ b : Addr, b ∉ (cxOf CX P w K mg base N qual scope f cd A outer s H E).ex := fun b z => absurd (show b ∈ ([] : List Addr) from z) (by simp)
  refine ⟨⟨e0.mod, S.kind, rfl, rfl, Nat.le_refl _, fun y z c h1 h2 => ?_, fun y hy => ?_, fun y c _ h => ?_, fun _ => hd, Around.frames_deeper e0.frames, .inr ⟨rfl, rfl⟩, fun b z => absurd z (noA b), e0.bs, e0.bsz, fun b _ _ => noA b, fun b z => absurd z (noA b), e0.funs, e0.frf⟩,
    rfl, e0.bare, Un.kept hk, ⟨_, x.toInCall.ns, fun i y v h1 h2 h3 => ?_⟩, fun y c h => ⟨_, x.cell y c h⟩, e0.hok.fresh (Nat.le_refl _), fun y c h => ?_, fun p hp => absurd (show p ∈ ([] : List (Addr × Obj)) from hp) (by simp), e0.hok.kept hk, ?_⟩
  · exact name_of_addr x.apart (PySem.mem_of_lookup h1) (PySem.mem_of_lookup h2)
  · have hy : scope.names.lookup y = some .cell ∨ scope.names.lookup y = some .free := hy
    rcases hy with hy | hy
    · exact cell_has hy
    · exact absurd rfl (S.nofree _ (PySem.mem_of_lookup hy))
  · exact Nat.le_of_lt (x.above y c (PySem.mem_of_lookup h))
  · have hi : i < vs.length := by
      unfold start at h2
      by_cases hi : i < vs.length
      · exact hi
      · rw [List.getElem?_append_right (by simpa using hi)] at h2
        rw [List.getElem?_replicate] at h2
        split at h2 <;> cases h2
    have ha : vs[i]? = some v := by
      unfold start at h2
      rw [List.getElem?_append_left (by simpa using hi), List.getElem?_map] at h2
      cases e : vs[i]? with
      | none => rw [e] at h2; cases h2
      | some a => rw [e] at h2; cases h2; rfl
    obtain ⟨u, hu, rv⟩ := r.get ha
    have hp : ps[i]? = some y := by
      rw [← S.pre, List.getElem?_take_of_lt (by omega)]; exact h1
    have ndP : ps.Nodup := by rw [← S.pre]; exact S.nd.sublist (List.take_sublist _ _)
    refine ⟨u, rv, ?_⟩
    rcases S.par y (List.mem_of_getElem? hp) with k | k
    · exact .inl ⟨k, bindL_get ndP hp hu k⟩
    · obtain ⟨c, e⟩ := cell_has (n := s.heap.objs.size + 1) k
      refine .inr ⟨.inl k, c, e, ?_⟩
      have q := x.cell y c e
      rw [bindC_get ndP hp hu (by show scope.names.lookup y ≠ _; rw [k]; decide)] at q
      exact q
  · exact e0.hok.fresh (Nat.le_of_lt (x.above y c (PySem.mem_of_lookup h)))
  · unfold start
    show _ = N.length
    rw [List.length_append, List.length_map, List.length_replicate]
    omega
theorem fn_of {CX : CXT} {P : Program} {w : World} {K : PySem.W.Frag} {mg : Str → Option Value} {base : Heap} {k : Nat} {f : Addr} {name qual : Str} {params : Arguments} {body : List Stmt} {scope : Scope} {dV kV doc pm cdv ct oc : Value} {an od : Option Addr}
    {osl : Array (Option Value)} {N ps : List Str} {sp : Sp} (lk : K.lookup f = some ⟨oc, od, .func (PySem.W.fnOf name qual params body scope dV kV doc pm an cdv ct), osl⟩) (hcd : PySem.W.codeIn K cdv qual = true) (S : FnScope N ps scope)
    (len : ∀ vs H Q E, sp vs H Q E → vs.length = ps.length)
    (hbody : ∀ (A : Around) (outer : List Env) (s : Shared) (H : Hp) (vs : List V) (Q : VK) (E : XK), Room k (A.deeper (envOfC qual scope s.heap.objs.size f cdv)) → sp vs H Q E →
      ∃ t, PSs (cxOf CX P w K mg base N qual scope f cdv A outer s H E) body t ∧ t { nx := fun _ H' => Q .non H', rt := Q } (start N vs) H) :
    FnOk P w K mg base CX (k + 1) f (PySem.W.fnOf name qual params body scope dV kV doc pm an cdv ct) ps sp := by
  refine ⟨len, fun A outer s H args us vs Q E hr e0 hb r hsp => ?_⟩
  have hl := len _ _ _ _ hsp
  have KX : K.In s.heap := e0.mod.kin.keeps fun b o e => (e0.bs b o e).1
  have lim : s.heap.NoLimit := e0.mod.nolimit.keeps fun b o e => (e0.bs b o e).1
  have hkind : ∀ y ∈ ps.zip us, scope.names.lookup y.1 = some .local ∨ (scope.names.lookup y.1 = some .cell ∧ ((cellsFrom (s.heap.objs.size + 1) scope.names []).lookup y.1).isSome = true) := fun ⟨n, v⟩ hy => by
    rcases S.par n (List.of_mem_zip hy).1 with q | q
    · exact .inl q
    · exact .inr ⟨q, PySem.W.cellsFrom_some _ _ _ (.inl q)⟩
  refine codeAny_call_function hr.depth (KX _ _ lk) rfl S.co S.gen rfl (PySem.W.codeRec_of KX hcd) (hb _ _ _ _ ?_)
  refine wpAny_newFunctionEnv_cells S.kind hkind fun env he s1 x => ?_
  subst he
  refine ⟨lim.keeps x.toInCall.keep, codeAny_func ?_⟩
  obtain ⟨t, ht, hq⟩ := hbody A outer s H vs Q E (hr.deeper _) hsp
  have I : Inv (cxOf CX P w K mg base N qual scope f cdv A outer s H E) [] (start N vs) H s1 := inv_start S hr.hd e0 hl r x
  refine wpAny_mono (ht [] s1 (start N vs) H _ I hq) (fun fl s' hs => ?_) fun e s' hs => hs
  have fin : ∀ {σ' : St} {H' : Hp} {v : V} {u : Value}, Inv (cxOf CX P w K mg base N qual scope f cdv A outer s H E) [] σ' H' s' → RelV v u → Q v H' → CE outer P w H s Q u s' :=
    fun {σ' H' v u} J rv q => ⟨v, H', J.os, J.bare, J.base, J.hok, rv, q⟩
  cases fl with
  | ret u =>
    obtain ⟨v, σ', H', J, rv, q⟩ := hs
    exact fin J rv q
  | next =>
    obtain ⟨σ', H', J, q⟩ := hs
    exact fin (v := V.non) (u := Value.none) J rfl q
  | brk =>
    obtain ⟨_, _, _, q⟩ := hs
    exact False.elim q
  | cont =>
    obtain ⟨_, _, _, q⟩ := hs
    exact False.elim q
end L2
namespace L2
open PySem PySem.Spec PyProof.Rows
section
variable {X : Cx} {x : Str} {p pos : Pos} {e : Expr} {es : List Expr} {t : TA} {id T : String} {r : List V → Hp → VK → Prop}
def tCB (r : List V → Hp → VK → Prop) (t : TA) : TE := fun σ H Q => t σ H fun vs H1 => r vs H1 Q
theorem pe_callB (hc : CallR X (.builtin id) r) (hg : Gl X x) (hm : X.mg x = none) (hv : bootBuiltins x = some (.builtin id)) (ha : PA X (e :: es) t) (hn : x ≠ "__name__" := by decide) (hdb : (x == ("__debug__" : Str)) = false := by decide)
    (he : starEach (e :: es) X.env = (false, eval e X.env) :: starEach es X.env := by rfl) (hpl : (backTo pos (starEach es X.env)).any (·.1) = false := by rfl) : PE X (.Call (.Name x p) (e :: es) [] pos) (tCB r t) := by
  intro pins s σ H Q I h
  refine wpAny_Call_Name_kw (ld_blt I hg hm hv ?_ hn hdb)
  exact PyProof.Rows.callWith_builtin1 (thn (ha pos pins s σ H _ I h) fun us s1 ⟨vs, H1, I1, r1, q1⟩ => hc pins s1 σ H1 vs us Q I1 r1 q1) he hpl
theorem pe_callTy (hc : CallR X (.type T) r) (hg : Gl X x) (hm : X.mg x = none) (hv : bootBuiltins x = some (.type T)) (ha : PA X (e :: es) t) (hn : x ≠ "__name__" := by decide) (hdb : (x == ("__debug__" : Str)) = false := by decide)
    (he : starEach (e :: es) X.env = (false, eval e X.env) :: starEach es X.env := by rfl) (hpl : (backTo pos (starEach es X.env)).any (·.1) = false := by rfl) : PE X (.Call (.Name x p) (e :: es) [] pos) (tCB r t) := by
  intro pins s σ H Q I h
  refine wpAny_Call_Name_kw (ld_blt I hg hm hv ?_ hn hdb)
  exact PyProof.Rows.callWith_type1 (thn (ha pos pins s σ H _ I h) fun us s1 ⟨vs, H1, I1, r1, q1⟩ => hc pins s1 σ H1 vs us Q I1 r1 q1) he hpl
end
end L2
namespace HT
open PySem PyProof.Rows
section
open PySem.SeqAt
open PySem.AutoSeq1 (wpAny_loadPart')
open PySem.MeetsSeq PySem.MeetsSeq2 PySem.MeetsSeq3
end
section
variable {prog : Program} {w : World} {A : Around} {E : Value → Shared → Prop} {s : Shared}
noncomputable def sIx (n d : Nat) : Option Int → Nat
  | none => d
  | some v => if v < 0 then (v + (n : Int)).toNat else min v.toNat n
theorem sIx_le (n d : Nat) (hd : d ≤ n) (o : Option Int) : sIx n d o ≤ n := by
  cases o with
  | none => exact hd
  | some v =>
    show (if v < 0 then (v + (n : Int)).toNat else min v.toNat n) ≤ n
    by_cases hv : v < 0
    · rw [if_pos hv]; omega
    · rw [if_neg hv]; exact Nat.min_le_right _ _
theorem clip_eq (v : Int) (n d : Nat) : (if v < 0 then max (v + (n : Int)) 0 else min v (n : Int)) = ((sIx n d (some v) : Nat) : Int) := by
  show (if v < 0 then max (v + (n : Int)) 0 else min v (n : Int)) = (((if v < 0 then (v + (n : Int)).toNat else min v.toNat n) : Nat) : Int)
  by_cases hv : v < 0
  · simp only [if_pos hv]; omega
  · simp only [if_neg hv]; omega
theorem adjust_gen (lo hi : Option Int) (n : Nat) : Builtin.Slice.sliceAdjust lo hi 1 (n : Int) = (((sIx n 0 lo : Nat) : Int), ((sIx n n hi : Nat) : Int)) := by
  have h1 : ¬ ((1 : Int) < 0) := by omega
  unfold Builtin.Slice.sliceAdjust
  simp only [h1, if_false]
  refine Prod.ext ?_ ?_
  · cases lo with
    | none => rfl
    | some v => exact clip_eq v n 0
  · cases hi with
    | none => rfl
    | some v => exact clip_eq v n n
theorem places_gen (i j : Nat) : Builtin.Slice.slicePlaces (i : Int) (j : Int) 1 = j - i := by
  unfold Builtin.Slice.slicePlaces
  have h1 : (1 : Int) > 0 := by omega
  simp only [h1, if_true, Int.ediv_one]
  split <;> omega
theorem slicePart_ {v : Value} {o : Option Int} {Q : Option Int → Shared → Prop} (p : IsPart v o) (h : Q o s) : wpAny (model prog w) A (Builtin.Slice.slicePartIndex v) Q E s := by
  cases p with
  | none => exact slicePart_none h
  | int i t => exact slicePart_int h
theorem sliceApplied_gen {sl : Addr} {vl vu : Value} {lo hi : Option Int} {n : Nat} {Q : Int × Int × Nat → Shared → Prop} (hs : s.heap.IsSliceOf sl vl vu .none) (pl : IsPart vl lo) (pu : IsPart vu hi)
    (h : Q (((sIx n 0 lo : Nat) : Int), 1, sIx n n hi - sIx n 0 lo) s) : wpAny (model prog w) A (Builtin.Slice.sliceApplied (.ref sl) (pure (n : Int))) Q E s := by
  obtain ⟨os, hos, hcs, hds⟩ := id hs
  unfold Builtin.Slice.sliceApplied Builtin.Slice.sliceFields
  refine wpAny_bind (wpAny_bind (wpAny_field hos hds (x := vl) rfl (wpAny_bind (wpAny_field hos hds (x := vu) rfl (wpAny_bind (wpAny_field hos hds (x := .none) rfl (wpAny_pure ?_)))))))
  refine wpAny_bind (slicePart_none ?_)
  show wpAny _ _ (if ((1 : Int) == 0) = true then _ else _) _ _ s
  rw [if_neg (by decide)]
  refine wpAny_bind (slicePart_ pl (wpAny_bind (slicePart_ pu (wpAny_bind (wpAny_pure ?_)))))
  show wpAny _ _ (match Builtin.Slice.sliceAdjust lo hi 1 (n : Int) with | (lo, hi) => pure (lo, (1 : Int), Builtin.Slice.slicePlaces lo hi 1)) _ _ s
  rw [adjust_gen lo hi n]
  show wpAny _ _ (pure (((sIx n 0 lo : Nat) : Int), (1 : Int), Builtin.Slice.slicePlaces ((sIx n 0 lo : Nat) : Int) ((sIx n n hi : Nat) : Int) 1)) _ _ s
  rw [places_gen]
  exact wpAny_pure h
theorem pick_gen (xs : Array Value) (i k : Nat) : ((List.range k).filterMap fun (m : Nat) => xs[((i : Int) + (m : Int) * 1).toNat]?).toArray = ((xs.toList.drop i).take k).toArray := by
  have e : (fun (m : Nat) => xs[((i : Int) + (m : Int) * 1).toNat]?) = fun m => xs[i + m]? := by
    funext m
    have : ((i : Int) + (m : Int) * 1).toNat = i + m := by omega
    rw [this]
  rw [e]
  have := pick_run xs i k
  rw [List.filterMap_map] at this
  have e2 : ((fun x => xs[x]?) ∘ fun x => i + x) = fun m => xs[i + m]? := rfl
  rw [e2] at this
  rw [this]
theorem getItem_tuple_cut {t sl : Addr} {items : Array Value} {vl vu : Value} {lo hi : Option Int} {Q : Value → Shared → Prop} (ht : IsTup s.heap t items) (hs : s.heap.IsSliceOf sl vl vu .none) (pl : IsPart vl lo) (pu : IsPart vu hi)
    (hw : ¬ (sIx items.size 0 lo = 0 ∧ sIx items.size items.size hi = items.size))
    (h : Q (.ref s.heap.objs.size) { s with heap := s.heap.push { cls := .type "tuple", data := .seq ((items.toList.drop (sIx items.size 0 lo)).take (sIx items.size items.size hi - sIx items.size 0 lo)).toArray } })
    (hsz : items.size ≤ sizeLine) : wpAny (model prog w) A (getItem (.ref t) (.ref sl)) Q E s := by
  have htake : sizeOk (.seq ((items.toList.drop (sIx items.size 0 lo)).take (sIx items.size items.size hi - sIx items.size 0 lo)).toArray) := by
    show ((items.toList.drop (sIx items.size 0 lo)).take (sIx items.size items.size hi - sIx items.size 0 lo)).toArray.size ≤ sizeLine
    rw [List.size_toArray, List.length_take, List.length_drop, Array.length_toList]
    omega
  have hj : sIx items.size items.size hi ≤ items.size := sIx_le _ _ (Nat.le_refl _) hi
  obtain ⟨os, hos, hcs, hds⟩ := id hs
  have hTs : s.TypeIs (.ref sl) "slice" := ⟨os, hos, hcs⟩
  unfold getItem
  try with_reducible refine wpAny_holding ?_
  first | refine wpAny_bind (wpAny_pure ?_) | skip
  refine wpAny_bind (wpAny_sequenceKey ht.typeIs (by decide) ?_)
  refine wpAny_bind (wpAny_callSpecial?_slot (name := Str.ofString "__getitem__") ht.typeIs PyProof.Rows.slot_tuple_getitem
    (wpAny_call_entry PyProof.Rows.slot_tuple_getitem ht.typeIs entry_tuple_getitem ?_ (args_tuple_getitem _ _)))
  show wpAny _ _ (Builtin.Tuple.tupleItemsOf (.ref t) >>= _) _ _ s
  refine wpAny_bind (tupleItemsOf_ ht ?_)
  refine wpAny_bind (wpAny_typeOf hTs ?_)
  rw [if_pos (by decide)]
  refine wpAny_bind (sliceApplied_gen hs pl pu ?_)
  have hno : ¬ ((((sIx items.size 0 lo : Nat) : Int) == 0 && (1 : Int) == 1 && (sIx items.size items.size hi - sIx items.size 0 lo) == items.size) = true) := by
    intro q
    rw [Bool.and_eq_true, Bool.and_eq_true] at q
    have q1 : ((sIx items.size 0 lo : Nat) : Int) = 0 := eq_of_beq q.1.1
    have q2 : sIx items.size items.size hi - sIx items.size 0 lo = items.size := eq_of_beq q.2
    exact hw ⟨by omega, by omega⟩
  show wpAny _ _ (if (((sIx items.size 0 lo : Nat) : Int) == 0 && (1 : Int) == 1 && (sIx items.size items.size hi - sIx items.size 0 lo) == items.size) = true then _ else _) _ _ s
  rw [if_neg hno, pick_gen]
  first
    | exact wpAny_bind (m := Builtin.Tuple.tupleExact _) (wpAny_newObj_type (wpAny_pure ⟨_, rfl, wpAny_pure h⟩) htake)
    | exact wpAny_bind (m := Builtin.Tuple.tupleExact _) (wpAny_newObj_type (wpAny_bind (wpAny_pure (wpAny_pure ⟨_, rfl, wpAny_pure h⟩))) htake)
    | exact wpAny_bind (wpAny_bind (m := Builtin.Tuple.tupleExact _) (wpAny_newObj_type (wpAny_pure (wpAny_pure ⟨_, rfl, wpAny_pure h⟩)) htake))
    | exact wpAny_bind (wpAny_bind (m := Builtin.Tuple.tupleExact _) (wpAny_newObj_type (wpAny_pure ⟨_, rfl, wpAny_pure h⟩) htake))
end
end HT
namespace L2
open PySem PySem.Spec PyProof.Rows
abbrev TO := St → Hp → (Option Int → Hp → Prop) → Prop
def PO (X : Cx) (e : Option Expr) (t : TO) : Prop :=
  ∀ (pins : List (Addr × Obj)) (s : Shared) (σ : St) (H : Hp) (Q : Option Int → Hp → Prop), Inv X pins σ H s → t σ H Q →
    wpAny (model X.prog X.w) X.A (evalPart e X.env) (fun u s' => ∃ o H', Inv X pins σ H' s' ∧ IsPart u o ∧ Q o H') X.xe s
def tNoPart : TO := fun _ H Q => Q none H
def tPart (t : TE) : TO := fun σ H Q => t σ H fun x H1 => ∃ i, x = .int i ∧ Q (some i) H1
theorem intsAre_of {ns : List Int} : ∀ {us : List Value}, Vals (ns.map V.int) us → IntsAre us ns := by
  induction ns with
  | nil => intro us r; rw [List.map_nil] at r; cases r; exact .nil
  | cons n ns ih =>
    intro us r
    rw [List.map_cons] at r
    cases r with
    | cons r1 r2 =>
      obtain ⟨t, e⟩ := r1
      subst e
      exact .cons n t (ih r2)
section
variable {X : Cx} {e : Expr} {te : TE} {lo hi : Option Expr} {tl th : TO} {pos p2 : Pos}
theorem po_none : PO X none tNoPart := by
  intro pins s σ H Q I h
  rw [evalPart_none]
  exact wpAny_pure ⟨none, H, I, .none, h⟩
theorem po_some (h : PE X e te) : PO X (some e) (tPart te) := by
  intro pins s σ H Q I hw
  rw [evalPart_some]
  refine thn (h pins s σ H _ I hw) fun u s1 ⟨x, H1, I1, r1, q1⟩ => ?_
  obtain ⟨i, rfl, q⟩ := q1
  obtain ⟨t, rfl⟩ := r1
  exact ⟨some i, H1, I1, .int i t, q⟩
def SlR (X : Cx) (r : V → Option Int → Option Int → Hp → VK → Prop) : Prop :=
  ∀ (pins : List (Addr × Obj)) (s : Shared) (σ : St) (H : Hp) (x : V) (v vl vu : Value) (lo hi : Option Int) (sl : Addr) (Q : VK), Inv X pins σ H s → RelV x v → s.heap.IsSliceOf sl vl vu .none → IsPart vl lo → IsPart vu hi → r x lo hi H Q →
    ∃ T id, typeLookup (.type T) "__getitem__" = pure (some (.builtin id)) ∧ s.TypeIs v T ∧ wpAny (model X.prog X.w) X.A (getItem v (.ref sl)) (EP X pins σ Q) X.xe s
theorem SlR.or {r r' : V → Option Int → Option Int → Hp → VK → Prop} (h : SlR X r) (h' : SlR X r') : SlR X (fun x lo hi H Q => r x lo hi H Q ∨ r' x lo hi H Q) := by
  intro pins s σ H x v vl vu lo hi sl Q I rx hs pl pu q
  rcases q with q | q
  · exact h pins s σ H x v vl vu lo hi sl Q I rx hs pl pu q
  · exact h' pins s σ H x v vl vu lo hi sl Q I rx hs pl pu q
def tSl (r : V → Option Int → Option Int → Hp → VK → Prop) (te : TE) (tl th : TO) : TE := fun σ H Q => te σ H fun x H1 => tl σ H1 fun l H2 => th σ H2 fun u H3 => r x l u H3 Q
theorem pe_slice {r : V → Option Int → Option Int → Hp → VK → Prop} (hr : SlR X r) (he : PE X e te) (hl : PO X lo tl) (hu : PO X hi th) : PE X (.Subscript e (.Slice lo hi none p2) pos) (tSl r te tl th) := by
  intro pins s σ H Q I h
  refine Subscript_ (thn (he pins s σ H _ I h) fun v s1 ⟨x, H1, I1, r1, q1⟩ => ?_)
  refine wpAny_Slice (thn (hl pins s1 σ H1 _ I1 q1) fun vl s2 ⟨l, H2, I2, pl, q2⟩ => thn (hu pins s2 σ H2 _ I2 q2) fun vu s3 ⟨u, H3, I3, pu, q3⟩ => ?_)
  rw [evalPart_none]
  refine wpAny_pure ?_
  have I4 : Inv X pins σ H3 { s3 with heap := s3.heap.push { cls := .type "slice", data := .fields #[vl, vu, .none] } } := I3.kept (t' := s3.toks) fun b ob q => Heap.get?_push_of_some _ q
  obtain ⟨T, id, hT, ht, hg⟩ := hr pins { s3 with heap := s3.heap.push { cls := .type "slice", data := .fields #[vl, vu, .none] } } σ H3 x v vl vu l u s3.heap.objs.size Q I4 r1 (Heap.IsSliceOf.new ..) pl pu q3
  show wpAny (model X.prog X.w) X.A (subscriptTail e (.Slice lo hi none p2) v (.ref s3.heap.objs.size)) (EP X pins σ Q) X.xe { s3 with heap := s3.heap.push { cls := .type "slice", data := .fields #[vl, vu, .none] } }
  exact tail_any (ops := [.ref s3.heap.objs.size, v]) ht hT hg (by with_unfolding_all rfl)
noncomputable def cutV (xs : List V) (lo hi : Option Int) : List V := (xs.drop (HT.sIx xs.length 0 lo)).take (HT.sIx xs.length xs.length hi - HT.sIx xs.length 0 lo)
theorem cutV_length (xs : List V) (lo hi : Option Int) : (cutV xs lo hi).length ≤ xs.length := by
  unfold cutV
  rw [List.length_take, List.length_drop]
  omega
def rSlT (K : PySem.W.Frag) : V → Option Int → Option Int → Hp → VK → Prop := fun x lo hi H Q => ∃ a xs, x = .ref a ∧ SqT K H a xs ∧
  ¬ (HT.sIx xs.length 0 lo = 0 ∧ HT.sIx xs.length xs.length hi = xs.length) ∧ ∀ p, H p = none → Q (.ref p) (upd H p (.tup (cutV xs lo hi)))
theorem sl_tup : SlR X (rSlT X.K) := by
  intro pins s σ H x v vl vu lo hi sl Q I rx hs pl pu h
  obtain ⟨a, xs, rfl, hx, hw, q⟩ := h
  cases rx
  obtain ⟨its, r, ht, hz⟩ := I.tuple hx
  have hlen : its.toArray.size = xs.length := by rw [List.size_toArray]; exact r.length.symm
  refine ⟨"tuple", _, PyProof.Rows.slot_tuple_getitem.lookup, ht.typeIs, ?_⟩
  refine HT.getItem_tuple_cut ht hs pl pu (by rw [hlen]; exact hw) ?_ (by rw [hlen]; exact hz)
  rw [hlen]
  refine ⟨.ref s.heap.objs.size, _, I.laid (t' := s.toks) (o := .tup (cutV xs lo hi)) (fun b ob q => Heap.get?_push_of_some _ q) (Nat.le_refl _) ?_, rfl, q _ (I.hok.fresh (Nat.le_refl _))⟩
  exact ⟨Nat.le_trans (cutV_length xs lo hi) hz, _, (r.drop (HT.sIx xs.length 0 lo)).take (HT.sIx xs.length xs.length hi - HT.sIx xs.length 0 lo), IsTup.new _ _⟩
end
end L2
namespace L2
open PySem PySem.Spec PyProof.Rows
noncomputable def ixN (n : Nat) (i : Int) : Option Nat := if 0 ≤ i then (if i < n then some i.toNat else none) else if -(n : Int) ≤ i then some (i + n).toNat else none
noncomputable def atI {α : Type} (xs : List α) (i : Int) : Option α := (ixN xs.length i).bind fun j => xs[j]?
theorem ixN_seq {n : Nat} {i : Int} {j : Nat} (h : ixN n i = some j) : seqIndex? i n = some j ∧ j < n ∧ -(n : Int) ≤ i ∧ i < n := by
  unfold ixN at h
  by_cases h0 : 0 ≤ i
  · rw [if_pos h0] at h
    by_cases h1 : i < n
    · rw [if_pos h1] at h
      have e : i.toNat = j := Option.some.inj h
      exact ⟨by rw [seqIndex_of h0 h1, e], by omega, by omega, h1⟩
    · rw [if_neg h1] at h; cases h
  · rw [if_neg h0] at h
    by_cases h1 : -(n : Int) ≤ i
    · rw [if_pos h1] at h
      have e : (i + n).toNat = j := Option.some.inj h
      exact ⟨by rw [seqIndex_neg (by omega) h1, e], by omega, h1, by omega⟩
    · rw [if_neg h1] at h; cases h
theorem atI_get {α : Type} {xs : List α} {i : Int} {v : α} (h : atI xs i = some v) : ∃ j, seqIndex? i xs.length = some j ∧ xs[j]? = some v ∧ j < xs.length ∧ -(xs.length : Int) ≤ i ∧ i < xs.length := by
  unfold atI at h
  cases e : ixN xs.length i with
  | none => rw [e] at h; cases h
  | some j =>
    rw [e] at h
    obtain ⟨h1, h2, h3, h4⟩ := ixN_seq e
    exact ⟨j, h1, h, h2, h3, h4⟩
def PlainIx (b : Expr) : Prop := ∀ o i, subscripted b false o i = operate [o, i] (getItem o i)
def IxR (X : Cx) (r : R2) : Prop :=
  ∀ (value slice : Expr) (pins : List (Addr × Obj)) (s : Shared) (σ : St) (H : Hp) (x y : V) (v u : Value) (Q : VK), Inv X pins σ H s → RelV x v → RelV y u → r x y H Q →
    subscripted slice false v u = operate [v, u] (getItem v u) → wpAny (model X.prog X.w) X.A (subscriptTail value slice v u) (EP X pins σ Q) X.xe s
def MtR (X : Cx) (id : String) (r : V → List V → Hp → VK → Prop) : Prop :=
  ∀ (pins : List (Addr × Obj)) (s : Shared) (σ : St) (H : Hp) (x : V) (xs : List V) (v : Value) (us : List Value) (Q : VK), Inv X pins σ H s → RelV x v → Vals xs us → r x xs H Q →
    wpAny (model X.prog X.w) X.A (call (.builtin id) (v :: us)) (EP X pins σ Q) X.xe s
section
variable {X : Cx} {a b : Expr} {ta tb : TE} {pos : Pos}
theorem IxR.or {r r' : R2} (h : IxR X r) (h' : IxR X r') : IxR X (fun x y H Q => r x y H Q ∨ r' x y H Q) := by
  intro value slice pins s σ H x y v u Q I rx ry q hs
  rcases q with q | q
  · exact h value slice pins s σ H x y v u Q I rx ry q hs
  · exact h' value slice pins s σ H x y v u Q I rx ry q hs
theorem MtR.or {id : String} {r r' : V → List V → Hp → VK → Prop} (h : MtR X id r) (h' : MtR X id r') : MtR X id (fun x xs H Q => r x xs H Q ∨ r' x xs H Q) := by
  intro pins s σ H x xs v us Q I rx rs q
  rcases q with q | q
  · exact h pins s σ H x xs v us Q I rx rs q
  · exact h' pins s σ H x xs v us Q I rx rs q
theorem pe_ix {r : R2} (hr : IxR X r) (ha : PE X a ta) (hb : PE X b tb) (hs : PlainIx b) : PE X (.Subscript a b pos) (tOp r ta tb) := by
  intro pins s σ H Q I h
  exact Subscript_ (binT ha hb I h fun v u s2 x y H2 I2 rx ry q => hr a b pins s2 σ H2 x y v u Q I2 rx ry q (hs _ _))
noncomputable def rIxL (K : PySem.W.Frag) : R2 := fun x y H Q => ∃ p xs i v, x = .ref p ∧ y = .int i ∧ SqL K H p xs ∧ atI xs i = some v ∧ Q v H
noncomputable def rIxT (K : PySem.W.Frag) : R2 := fun x y H Q => ∃ p xs i v, x = .ref p ∧ y = .int i ∧ SqT K H p xs ∧ atI xs i = some v ∧ Q v H
noncomputable def rIxS : R2 := fun x y H Q => ∃ z i c, x = .str z ∧ y = .int i ∧ z.length ≤ sizeLine ∧ atI z.cps.toList i = some c ∧ Q (.str ⟨#[c]⟩) H
theorem ix_list : IxR X (rIxL X.K) := by
  intro value slice pins s σ H x y v u Q I rx ry h hs
  obtain ⟨p, xs, i, z, rfl, rfl, hq, he, q⟩ := h
  cases rx
  obtain ⟨t, rfl⟩ := ry
  obtain ⟨its, r, pl, hz⟩ := I.list hq
  obtain ⟨j, h1, h2, h3, h4, h5⟩ := atI_get he
  obtain ⟨w, ew, rw'⟩ := r.get h2
  have hl := r.length
  have hn := line63
  have fin : EP X pins σ Q w s := ⟨z, H, I, rw', q⟩
  by_cases h0 : 0 ≤ i
  · have hj : i.toNat = j := by
      rw [seqIndex_of h0 h5] at h1
      exact Option.some.inj h1
    exact item_listR pl.isList h0 (by omega) (by rw [hj]; simpa using ew) fin hs
  · have hj : (i + (its.toArray.size : Int)).toNat = j := by
      rw [seqIndex_neg (by omega) h4] at h1
      rw [List.size_toArray, ← hl]
      exact Option.some.inj h1
    exact subscriptTail_builtinR (x := w) pl.isList.typeIs slot_list_getitem.lookup
      (wpAny_getItem_list_neg (Q := fun r s' => r = w ∧ EP X pins σ Q r s') pl.isList (by omega) (by rw [List.size_toArray] <;> omega) (by omega) (by rw [hj]; simpa using ew) ⟨rfl, fin⟩) hs
theorem ix_tup : IxR X (rIxT X.K) := by
  intro value slice pins s σ H x y v u Q I rx ry h hs
  obtain ⟨p, xs, i, z, rfl, rfl, hq, he, q⟩ := h
  cases rx
  obtain ⟨t, rfl⟩ := ry
  obtain ⟨its, r, pl, hz⟩ := I.tuple hq
  obtain ⟨j, h1, h2, h3, h4, h5⟩ := atI_get he
  obtain ⟨w, ew, rw'⟩ := r.get h2
  have hl := r.length
  have hn := line63
  have fin : EP X pins σ Q w s := ⟨z, H, I, rw', q⟩
  exact subscriptTail_builtinR (x := w) pl.typeIs slot_tuple_getitem.lookup
    (getItem_tuple (j := j) (Q := fun r s' => r = w ∧ EP X pins σ Q r s') pl (by omega) (by omega) (by rw [List.size_toArray, ← hl]; exact h1) (by simpa using ew) ⟨rfl, fin⟩) hs
theorem ix_str : IxR X rIxS := by
  intro value slice pins s σ H x y v u Q I rx ry h hs
  obtain ⟨z, i, c, rfl, rfl, hz, he, q⟩ := h
  obtain ⟨t, rfl⟩ := rx
  obtain ⟨t', rfl⟩ := ry
  obtain ⟨j, h1, h2, h3, h4, h5⟩ := atI_get he
  have hl : z.cps.toList.length = z.length := by simp [Str.length]
  rw [hl] at h1 h4 h5
  have hn := line63
  exact tail_any (typeIs_str s z t) slot_str_getitem.lookup (getItem_str (c := c) (by
    have e1 : decide (i < -(2 ^ 63 : Int)) = false := decide_eq_false (by omega)
    have e2 : decide (i ≥ 2 ^ 63) = false := decide_eq_false (by omega)
    rw [e1, e2, Bool.or_false]) (by rw [h1]; simpa using h2) ⟨.str ⟨#[c]⟩, H, I.tok _, ⟨_, rfl⟩, q⟩) hs
noncomputable def rIx (K : PySem.W.Frag) : R2 := fun x y H Q => rIxL K x y H Q ∨ rIxT K x y H Q ∨ rIxS x y H Q
theorem ix_seq : IxR X (rIx X.K) := ix_list.or (ix_tup.or ix_str)
theorem Inv.lst {pins : List (Addr × Obj)} {σ : St} {H : Hp} {s : Shared} {p : Addr} {xs : List V} (I : Inv X pins σ H s) (h : H p = some (.lst xs)) :
    ∃ (its : List Value) (n : Nat), Vals xs its ∧ s.heap.get? p = some { cls := .type "list", data := .seq its.toArray n } ∧ xs.length ≤ sizeLine := by
  obtain ⟨z, its, n, r, e⟩ := I.hok p _ h
  exact ⟨its, n, r, e, z⟩
theorem slice_bounds (lo hi : Option Int) (n : Nat) : (sliceBounds lo hi none n).1 = ((HT.sIx n 0 lo : Nat) : Int) ∧ (sliceBounds lo hi none n).2.1 = ((HT.sIx n n hi : Nat) : Int) ∧ (sliceBounds lo hi none n).2.2 = 1 := by
  refine ⟨?_, ?_, rfl⟩
  · cases lo with
    | none => simp [sliceBounds, HT.sIx]
    | some i =>
      simp only [sliceBounds, HT.sIx, Option.getD_none, show (1 : Int) > 0 by decide, if_true]
      by_cases h : i < 0
      · simp only [h, if_true] <;> omega
      · simp only [h, if_false] <;> omega
  · cases hi with
    | none => simp [sliceBounds, HT.sIx]
    | some i =>
      simp only [sliceBounds, HT.sIx, Option.getD_none, show (1 : Int) > 0 by decide, if_true]
      by_cases h : i < 0
      · simp only [h, if_true] <;> omega
      · simp only [h, if_false] <;> omega
theorem slicePick_cut (its : List Value) (lo hi : Option Int) : slicePick its.toArray lo hi none = ((its.drop (HT.sIx its.length 0 lo)).take (HT.sIx its.length its.length hi - HT.sIx its.length 0 lo)).toArray := by
  obtain ⟨h1, h2, h3⟩ := slice_bounds lo hi its.toArray.size
  unfold slicePick
  rw [h1, h2, h3]
  simp only [sliceRange_one, pick_run, List.size_toArray] <;> rfl
def rSlL (K : PySem.W.Frag) : V → Option Int → Option Int → Hp → VK → Prop := fun x lo hi H Q => ∃ a xs, x = .ref a ∧ SqL K H a xs ∧ ∀ p, H p = none → Q (.ref p) (upd H p (.lst (cutV xs lo hi)))
theorem sl_list : SlR X (rSlL X.K) := by
  intro pins s σ H x v vl vu lo hi sl Q I rx hs pl pu h
  obtain ⟨a, xs, rfl, hx, q⟩ := h
  cases rx
  obtain ⟨its, r, ht, hz⟩ := I.list hx
  have hlen := r.length
  refine ⟨"list", _, slot_list_getitem.lookup, ht.isList.typeIs, ?_⟩
  refine wpAny_getItem_list_slice ht.isList hs pl pu .none (by simp) ?_ (by rw [List.size_toArray] <;> omega)
  rw [slicePick_cut, ← hlen]
  refine ⟨.ref s.heap.objs.size, _, I.laid (t' := s.toks) (o := .lst (cutV xs lo hi)) (fun b ob q => Heap.get?_push_of_some _ q) (Nat.le_refl _) ?_, rfl, q _ (I.hok.fresh (Nat.le_refl _))⟩
  exact ⟨Nat.le_trans (cutV_length xs lo hi) hz, _, 0, (r.drop (HT.sIx xs.length 0 lo)).take (HT.sIx xs.length xs.length hi - HT.sIx xs.length 0 lo), Heap.get?_push_size _ rfl⟩
theorem call_len_seq : CallR X (.builtin "len") (fun xs H Q => ∃ p ys, xs = [.ref p] ∧ (SqL X.K H p ys ∨ SqT X.K H p ys) ∧ Q (.int ys.length) H) := by
  intro pins s σ H xs us Q I r h
  obtain ⟨p, ys, rfl, hq, q⟩ := h
  obtain ⟨u, rfl, rx⟩ := vals1 r
  cases rx
  have hn := line63
  rcases hq with hq | hq
  · obtain ⟨its, r', pl, hz⟩ := I.list hq
    have hlen := r'.length
    exact Calls.call_len_list pl.isList (by simp only [List.size_toArray] <;> omega) ⟨.int ys.length, H, I.tok _, ⟨s.toks + 1, by rw [List.size_toArray, hlen]⟩, q⟩
  · obtain ⟨its, r', pl, hz⟩ := I.tuple hq
    have hlen := r'.length
    exact len_tuple pl (by simp only [List.size_toArray] <;> omega) ⟨.int ys.length, H, I.tok _, ⟨s.toks + 1, by rw [List.size_toArray, hlen]⟩, q⟩
theorem CallR.or {f : Value} {r r' : List V → Hp → VK → Prop} (h : CallR X f r) (h' : CallR X f r') : CallR X f (fun xs H Q => r xs H Q ∨ r' xs H Q) := by
  intro pins s σ H xs us Q I rs q
  rcases q with q | q
  · exact h pins s σ H xs us Q I rs q
  · exact h' pins s σ H xs us Q I rs q
theorem call_list_of : CallR X (.type "list") (fun xs H Q => ∃ p ys, xs = [.ref p] ∧ (SqL X.K H p ys ∨ SqT X.K H p ys) ∧ ∀ l, H l = none → Q (.ref l) (upd H l (.lst ys))) := by
  intro pins s σ H xs us Q I r h
  obtain ⟨p, ys, rfl, hq, q⟩ := h
  obtain ⟨u, rfl, rx⟩ := vals1 r
  cases rx
  have fin : ∀ (its : List Value), Vals ys its → ys.length ≤ sizeLine → ∀ (h' : Heap) (c' : Nat), (∀ b o', s.heap.get? b = some o' → h'.get? b = some o') →
      h'.get? s.heap.objs.size = some { cls := .type "list", dict := none, data := .seq its.toArray c', slots := #[] } → EP X pins σ Q (.ref s.heap.objs.size) { s with heap := h' } := fun its r' hz h' c' kp e =>
    ⟨.ref s.heap.objs.size, _, I.laid (t' := s.toks) kp (Nat.le_refl _) (show ObjOk X.prog X.w _ h' _ (.lst ys) from ⟨hz, its, c', r', e⟩), rfl, q _ (I.hok.fresh (Nat.le_refl _))⟩
  rcases hq with hq | hq
  · obtain ⟨its, r', pl, hz⟩ := I.list hq
    have hlen := r'.length
    obtain ⟨o, ho, hc, n, hd⟩ := pl.isList
    exact call_list_seq p (.inl rfl) ho hc hd (fun h' c' kp e => fin its r' hz h' c' kp e) (by simp only [List.size_toArray] <;> omega)
  · obtain ⟨its, r', pl, hz⟩ := I.tuple hq
    have hlen := r'.length
    obtain ⟨o, ho, hc, n, hd⟩ := pl
    exact call_list_seq p (.inr rfl) ho hc hd (fun h' c' kp e => fin its r' hz h' c' kp e) (by simp only [List.size_toArray] <;> omega)
def tyV (K : PySem.W.Frag) (T : String) (x : V) (H : Hp) : Prop := match x with
  | .str _ => T = "str"
  | .int _ => T = "int"
  | .ref p => (T = "list" ∧ ∃ xs, SqL K H p xs) ∨ (T = "tuple" ∧ ∃ o, K.lookup p = some o ∧ o.cls = .type "tuple" ∧ o.dict = none) ∨
      (T = "dict" ∧ ((∃ kvs, H p = some (.dK kvs)) ∨ ∃ kvs, H p = some (.dT kvs))) ∨ (T = "set" ∧ ∃ S n, H p = some (.set S n))
  | _ => False
theorem tyV_is {pins : List (Addr × Obj)} {σ : St} {H : Hp} {s : Shared} {T : String} {x : V} {v : Value} (I : Inv X pins σ H s) (r : RelV x v) (ty : tyV X.K T x H) :
    s.TypeIs v T ∧ ∀ a, v = .ref a → ∃ ob, s.heap.get? a = some ob ∧ ob.dict = none := by
  cases x with
  | str z =>
    obtain ⟨t, rfl⟩ := r
    cases (show T = "str" from ty)
    exact ⟨typeIs_str s z t, fun _ e => nomatch e⟩
  | int i =>
    obtain ⟨t, rfl⟩ := r
    cases (show T = "int" from ty)
    exact ⟨typeIs_int s i t, fun _ e => nomatch e⟩
  | ref p =>
    cases r
    rcases ty with ⟨rfl, xs, hq⟩ | ⟨rfl, o, hk, hc, hd⟩ | ⟨rfl, hk⟩ | ⟨rfl, S, n, hk⟩
    · obtain ⟨its, _, pl, _⟩ := I.list hq
      refine ⟨pl.isList.typeIs, fun a e => ?_⟩
      cases e
      obtain ⟨o, n, e, c, hd, _⟩ := pl
      exact ⟨o, e, hd⟩
    · refine ⟨⟨o, I.kIn p o hk, hc⟩, fun a e => ?_⟩
      cases e
      exact ⟨o, I.kIn _ o hk, hd⟩
    · have z : ∃ o, s.heap.get? p = some o ∧ o.ExactDict := by
        rcases hk with ⟨kvs, hk⟩ | ⟨kvs, hk⟩
        · obtain ⟨_, _, _, _, o, _, _, e, ex, _⟩ := I.hok p _ hk
          exact ⟨o, e, ex⟩
        · obtain ⟨_, _, _, _, o, _, _, e, ex, _⟩ := I.hok p _ hk
          exact ⟨o, e, ex⟩
      obtain ⟨o, e, ex⟩ := z
      refine ⟨⟨o, e, ex.1⟩, fun a e2 => ?_⟩
      cases e2
      exact ⟨o, e, ex.2.1⟩
    · obtain ⟨o, _, _, _, e, ex, _⟩ := I.hok p _ hk
      refine ⟨⟨o, e, ex.1⟩, fun a e2 => ?_⟩
      cases e2
      exact ⟨o, e, ex.2.1⟩
  | _ => exact False.elim ty
def tBM0 (K : PySem.W.Frag) (T : String) (r : V → List V → Hp → VK → Prop) (to : TE) : TE := fun σ H Q => to σ H fun x H1 => tyV K T x H1 ∧ r x [] H1 Q
def tBM (K : PySem.W.Frag) (T : String) (r : V → List V → Hp → VK → Prop) (to : TE) (t : TA) : TE := fun σ H Q => to σ H fun x H1 => tyV K T x H1 ∧ t σ H1 fun xs H2 => r x xs H2 Q
variable {o e : Expr} {es : List Expr} {to : TE} {t : TA} {name : Str} {apos cpos : Pos} {T id : String} {r : V → List V → Hp → VK → Prop}
theorem pe_bm0 (pa : PlainAttrs T) (slot : Slot T name id) (hty : typeOf (.builtin id) = pure (.type "method_descriptor")) (hm : MtR X id r) (ho : PE X o to)
    (hbase : attributeBase o name X.env (eval o X.env) = eval o X.env := by rfl) (hline : (apos.endLine == cpos.line) = true := by rfl) : PE X (.Call (.Attribute o name apos) [] [] cpos) (tBM0 X.K T r to) := by
  intro pins s σ H Q I h
  refine wpAny_Call_method0_late hbase hline (thn (ho pins s σ H _ I h) fun v s1 ⟨x, H1, I1, r1, ty, q1⟩ => ?_)
  obtain ⟨h1, h2⟩ := tyV_is I1 r1 ty
  exact ⟨T, id, pa, slot, hty, h1, h2, Calls.callWith_builtin rfl (PySem.evalArgs_none (hm pins s1 σ H1 x [] v [] Q I1 r1 .nil q1))⟩
theorem pe_bm (pa : PlainAttrs T) (slot : Slot T name id) (hty : typeOf (.builtin id) = pure (.type "method_descriptor")) (hm : MtR X id r) (ho : PE X o to) (ha : PA X (e :: es) t)
    (hbase : attributeBase o name X.env (eval o X.env) = eval o X.env := by rfl)
    (hfew : ((backTo cpos (starEach (e :: es) X.env)).all (fun x => !x.1) && (backToKw cpos (keywordEach [] X.env)).all (fun x => x.1.isSome)
      && decide ((e :: es).length + ([] : List Keyword).length + (if ([] : List Keyword).isEmpty then 0 else 1) < 30)) = true := by rfl)
    (hline : (apos.endLine == cpos.line) = true := by rfl) (hs : starEach (e :: es) X.env = (false, eval e X.env) :: starEach es X.env := by rfl) (hplain : (backTo cpos (starEach es X.env)).any (·.1) = false := by rfl) :
    PE X (.Call (.Attribute o name apos) (e :: es) [] cpos) (tBM X.K T r to t) := by
  intro pins s σ H Q I h
  refine wpAny_Call_method_late hbase hfew hline rfl (thn (ho pins s σ H _ I h) fun v s1 ⟨x, H1, I1, r1, ty, q1⟩ => ?_)
  obtain ⟨h1, h2⟩ := tyV_is I1 r1 ty
  refine ⟨T, id, pa, slot, hty, h1, h2, ?_⟩
  have hA := ha cpos pins s1 σ H1 _ I1 q1
  rw [hs] at hA ⊢
  refine Calls.callWith_builtin (by show (false || (backTo cpos (starEach es X.env)).any (·.1)) = false; rw [hplain] <;> rfl) (Calls.evalArgs_plain ?_)
  exact thn hA fun us s2 ⟨vs, H2, I2, r2, q2⟩ => hm pins s2 σ H2 x vs v us Q I2 r1 r2 q2
end
end L2
namespace L2
open PySem PySem.Spec PyProof.Rows
def MtM (X : Cx) (id : String) (r : V → List V → Hp → VK → Prop) : Prop :=
  ∀ (pins : List (Addr × Obj)) (s : Shared) (σ : St) (H : Hp) (x : V) (xs : List V) (v : Value) (us : List Value) (Q : VK), Inv X pins σ H s → RelV x v → Vals xs us → r x xs H Q →
    wpAny (model X.prog X.w) X.A (call (.builtin id) (v :: us)) (EP X pins σ Q) X.xe s
theorem Vals.one : ∀ {x : V} {us : List Value}, Vals [x] us → ∃ u, us = [u] ∧ RelV x u
  | _, _, .cons r .nil => ⟨_, rfl, r⟩
theorem Vals.zero : ∀ {us : List Value}, Vals [] us → us = []
  | _, .nil => rfl
theorem Vals.rep {xs : List V} {us : List Value} (h : Vals xs us) : ∀ k : Nat, Vals (List.replicate k xs).flatten (List.replicate k us).flatten
  | 0 => .nil
  | k + 1 => by
    rw [List.replicate_succ, List.replicate_succ, List.flatten_cons, List.flatten_cons]
    exact Vals.append h (Vals.rep h k)
section
variable {X : Cx} {pins : List (Addr × Obj)} {σ : St} {H : Hp} {s : Shared} {l b : Addr} {xs ys zs : List V}
theorem Inv.lset {its its' : List Value} {n : Nat} {f : Array Value → Array Value} {t' : Nat} (I : Inv X pins σ H s) (hH : H l = some (.lst xs))
    (e : s.heap.get? l = some { cls := .type "list", data := .seq its.toArray n }) (hf : f its.toArray = its'.toArray) (hv : Vals ys its') (hz : ys.length ≤ sizeLine) :
    Inv X pins σ (upd H l (.lst ys)) { s with heap := s.heap.update l (Obj.mapSeq f), toks := t' } := by
  have q := PySem.IsL.update e f
  rw [hf] at q
  refine I.write (x := l) (e := l) (by rw [hH]; exact trivial) (.inl rfl) (fun b' u hb hu => (Heap.get?_update_other s.heap (Obj.mapSeq f) (Ne.symm hb)).trans hu) ⟨_, q⟩ ?_
  exact ⟨hz, its', _, hv, q⟩
theorem Inv.lnew {its : List Value} {t' : Nat} (I : Inv X pins σ H s) (hv : Vals ys its) (hz : ys.length ≤ sizeLine) :
    Inv X pins σ (upd H s.heap.objs.size (.lst ys)) { s with heap := s.heap.push { cls := .type "list", data := .seq its.toArray }, toks := t' } :=
  I.laid (fun _ _ q => Heap.get?_push_of_some _ q) (Nat.le_refl _) ⟨hz, its, 0, hv, Heap.get?_push_size _ rfl⟩
theorem Inv.fresh (I : Inv X pins σ H s) : H s.heap.objs.size = none := I.hok.fresh (Nat.le_refl _)
theorem Inv.lstM (I : Inv X pins σ H s) (hH : H l = some (.lst xs)) : xs.length ≤ sizeLine ∧ ∃ (its : List Value) (n : Nat), Vals xs its ∧ xs.length = its.length ∧ s.heap.get? l = some { cls := .type "list", data := .seq its.toArray n } := by
  obtain ⟨z, its, n, r, e⟩ := I.hok l _ hH
  exact ⟨z, its, n, r, r.length, e⟩
theorem notLongL {n : Nat} (h : n ≤ sizeLine) : Builtin.List.listTooLong n = false := by
  unfold Builtin.List.listTooLong
  exact decide_eq_false (by omega)
end
section
variable {X : Cx}
def rAppend : V → List V → Hp → VK → Prop := fun x vs H Q => ∃ l xs y, x = .ref l ∧ vs = [y] ∧ H l = some (.lst xs) ∧ xs.length < sizeLine ∧ Q .non (upd H l (.lst (xs ++ [y])))
theorem mt_append : MtM X "list.append" rAppend := by
  intro pins s σ H x vs v us Q I rx rv h
  obtain ⟨l, xs, y, rfl, rfl, hH, hz, q⟩ := h
  cases rx
  obtain ⟨u, rfl, ru⟩ := rv.one
  obtain ⟨z, its, n, r, hl, e⟩ := I.lstM hH
  refine call_meets F.slot_list_append ⟨_, e, rfl⟩ F.entry_list_append (F.args_list_append_2 _ _) (PySem.list_append l its.toArray n u (by rw [List.size_toArray]; omega)) ⟨e, ?_⟩
  refine ⟨.non, _, I.lset (its' := its ++ [u]) hH e (by simp) (r.append (.cons ru .nil)) ?_, rfl, q⟩
  rw [List.length_append, List.length_singleton]
  omega
noncomputable def rCat : R2 := fun x y H Q => ∃ l b xs zs, x = .ref l ∧ y = .ref b ∧ H l = some (.lst xs) ∧ H b = some (.lst zs) ∧ xs.length + zs.length ≤ sizeLine ∧ ∀ p, H p = none → Q (.ref p) (upd H p (.lst (xs ++ zs)))
theorem op_cat : OpR X (binaryOp .Add) rCat := by
  intro pins s σ H x y v u Q I rx ry h
  obtain ⟨l, b, xs, zs, rfl, rfl, hH, hB, hz, q⟩ := h
  cases rx
  cases ry
  obtain ⟨z, its, n, r, hl, e⟩ := I.lstM hH
  obtain ⟨z2, its2, n2, r2, hl2, e2⟩ := I.lstM hB
  refine PySem.P.add_list e e2 ?_ (by rw [List.size_toArray, List.size_toArray]; omega)
  have ea : its.toArray ++ its2.toArray = (its ++ its2).toArray := by simp
  rw [ea]
  exact ⟨.ref _, _, I.lnew (t' := s.toks) (r.append r2) (by rw [List.length_append]; omega), rfl, q _ I.fresh⟩
end
section
variable {prog : Program} {w : World} {A : Around} {E : Value → Shared → Prop} {s : Shared}
theorem bounds_run {a c n : Nat} (hac : a ≤ c) (hc : c ≤ n) : sliceBounds (some (a : Int)) (some (c : Int)) none n = ((a : Int), (c : Int), 1) := by
  simp only [sliceBounds, Option.getD_none]
  have h1 : ¬ ((a : Int) < 0) := by omega
  have h2 : ¬ ((c : Int) < 0) := by omega
  simp only [h1, h2, if_false, show (1 : Int) > 0 by decide, if_true]
  congr 1
  · omega
  · congr 1; omega
set_option maxRecDepth 100000 in
theorem setItem_slice {l b sl : Addr} {items new : Array Value} {n n2 : Nat} {vl vu : Value} {a c : Nat} {Q : Unit → Shared → Prop}
    (e : s.heap.get? l = some { cls := .type "list", data := .seq items n }) (e2 : s.heap.get? b = some { cls := .type "list", data := .seq new n2 }) (hne : l ≠ b)
    (hs : s.heap.IsSliceOf sl vl vu .none) (pl : IsPart vl (some (a : Int))) (pu : IsPart vu (some (c : Int))) (hac : a ≤ c) (hc : c ≤ items.size)
    (hsz : items.size + new.size ≤ sizeLine) (h : Q () { s with heap := s.heap.update l (Obj.mapSeq fun xs => xs.extract 0 a ++ new ++ xs.extract c xs.size) }) :
    wpAny (model prog w) A (setItem (.ref l) (.ref sl) (.ref b)) Q E s := by
  have hl : s.heap.IsList l items := PySem.IsL.isList e
  have hb : s.heap.IsList b new := PySem.IsL.isList e2
  obtain ⟨os, hos, hcs, hds⟩ := id hs
  have hTs : s.TypeIs (.ref sl) "slice" := ⟨os, hos, hcs⟩
  have hstep : ¬ ((rawPart none == rawInt 0) = true) := Bool.false_ne_true
  have hsame : Builtin.List.listSameRef (.ref l) (.ref b) = false := by
    unfold Builtin.List.listSameRef
    exact beq_eq_false_iff_ne.mpr hne
  have hmax : (max (a : Int) (c : Int)).toNat = c := by omega
  have hz' : ((fun xs : Array Value => xs.extract 0 a ++ new ++ xs.extract c xs.size) items).size ≤ sizeLine + 1 := by
    simp only [Array.size_append, Array.size_extract]
    omega
  unfold setItem
  try with_reducible refine wpAny_holding ?_
  first | refine wpAny_bind (wpAny_pure ?_) | skip
  refine wpAny_bind (wpAny_sequenceKey hl.typeIs (by decide) ?_)
  refine wpAny_bind (wpAny_callSpecial?_slot (name := Str.ofString "__setitem__") hl.typeIs slot_list_setitem
    (wpAny_call_entry slot_list_setitem hl.typeIs entry_list_setitem ?_ (args_list_setitem _ _ _)))
  show wpAny _ _ (Builtin.List.listSubscript? (.ref sl) >>= _) _ _ s
  refine wpAny_bind ?_
  unfold Builtin.List.listSubscript?
  refine wpAny_bind (wpAny_specialOf hTs slice_no_index ?_)
  simp only [Option.isNone_none, if_true]
  refine wpAny_pure ?_
  show wpAny _ _ (typeOf (.ref sl) >>= _) _ _ s
  refine wpAny_bind (wpAny_typeOf hTs ?_)
  first
    | rw [if_neg (by decide)]
    | refine PySem.W.KFB.if_not (by decide) ?_
  rw [listSliceParts_eq]
  refine wpAny_bind (wpAny_bind (wpAny_field hos hds (x := .none) rfl (wpAny_bind (wpAny_listPart .none ?_))))
  rw [if_neg hstep]
  refine wpAny_bind (wpAny_field hos hds (x := vl) rfl (wpAny_bind (wpAny_listPart pl ?_)))
  refine wpAny_bind (wpAny_field hos hds (x := vu) rfl (wpAny_bind (wpAny_listPart pu (wpAny_pure ?_))))
  first
    | simp only [hsame, Bool.false_eq_true, if_false]
    | refine PySem.W.KFB.if_not hsame ?_
    | (dsimp only
       rw [if_neg (by rw [hsame]; exact Bool.false_ne_true)])
  refine wpAny_bind (m := Builtin.List.listAllItems (.ref b) "must assign iterable to extended slice") ?_
  unfold Builtin.List.listAllItems
  refine wpAny_bind (wpAny_typeOf hb.typeIs ?_)
  first
    | refine PySem.W.KFB.if_so (by decide) ?_
    | rw [if_pos (by decide)]
    | simp only [beq_self_eq_true, Bool.true_or, if_true]
  unfold Builtin.List.listItems
  refine wpAny_bind (wpAny_seqItems e2 rfl (wpAny_pure ?_))
  refine wpAny_bind (wpAny_bind (wpAny_seqItems e rfl (wpAny_pure ?_)))
  refine wpAny_bind (wpAny_of_eq ((sliceIndices_raw (some (a : Int)) (some (c : Int)) none items.size (by simp)).trans (congrArg (pure : Int × Int × Int → Sem (Int × Int × Int)) (bounds_run hac hc))) ?_)
  show wpAny _ _ (if ((1 : Int) == 1) = true then _ else _) _ _ s
  rw [if_pos (by decide)]
  refine wpAny_bind (wpAny_rule ?_)
  first
    | simp only [notLongL hsz, Bool.false_eq_true, if_false]
    | refine PySem.W.KFB.if_not (notLongL hsz) ?_
  first | refine wpAny_bind (wpAny_pure ?_) | skip
  show wpAny _ _ (updateSeq l (fun xs => xs.extract 0 ((a : Int)).toNat ++ new ++ xs.extract (max (a : Int) (c : Int)).toNat xs.size) >>= _) _ _ s
  rw [hmax, Int.toNat_natCast]
  refine wpAny_bind (wpAny_updateSeq (hz := Nat.le_trans (Nat.le_add_right _ _) hsz) (_hz' := hz') e rfl ?_)
  refine wpAny_bind (wpAny_letGo ?_)
  first
    | exact wpAny_bind (wpAny_pure (wpAny_pure ⟨.none, rfl, wpAny_pure h⟩))
    | exact wpAny_pure ⟨.none, rfl, wpAny_pure h⟩
end
section
variable {X : Cx}
end
end L2
namespace Att
open PySem PySem.W PySem.Calls PyProof.Rows
theorem ints_of_wellAll {P : Params} {h : Heap} : ∀ (ns : List Int) (vs : List Value), WellAll P h vs (ns.map WData.int) → IntsAre vs ns := by
  intro ns
  induction ns with
  | nil =>
    intro vs w
    rw [List.map_nil] at w
    cases w
    exact .nil
  | cons n ns ih =>
    intro vs w
    rw [List.map_cons] at w
    cases w with
    | cons a b =>
      cases a
      exact .cons _ _ (ih _ b)
theorem script_of {l : OpenLaw} {n : Nat} (hn : l.most = some n) {P : Params} {h : Heap} {args : List WData} {vals : List Value}
    (hpre : l.row.toRowW.claim.pre args = true) (hwl : WellAll P h vals args) :
    ∃ a vs ns, vals = [Value.ref a] ∧ args = [WData.list (ns.map WData.int)] ∧ h.get? a = some { cls := .type "list", data := .seq vs.toArray } ∧ IntsAre vs ns ∧ ns.length ≤ n := by
  have hsh : WShape.hasAll [] args [.list .int] = true := (pre_splitW hpre).1
  have hc : l.pre.holds [] { args := args } = true := (pre_splitW hpre).2
  obtain ⟨d, r, rfl, h1, h2⟩ := hasAllW_cons hsh
  obtain rfl := hasAllW_nil h2
  obtain ⟨xs, rfl, h3⟩ := hasW_list h1
  obtain ⟨ns, rfl⟩ := items_int h3
  have hlen : ns.length ≤ n := by
    unfold OpenLaw.pre at hc
    have h4 : (WTm.not (.lt (.lit (.int (n : Int))) (.len (.arg 0)))).holds [] { args := [.list (ns.map .int)] } = true := by
      have h4 := (holds_andW hc).1
      rw [hn] at h4
      exact h4
    have h5 := condW_of h4 (w_not (w_lt w_lit (w_len_list (w_arg rfl))))
    rw [List.length_map] at h5
    refine Nat.le_of_not_lt fun q => ?_
    have q' : (n : Int) < ((ns.length : Nat) : Int) := by omega
    first
      | (rw [decide_eq_true q'] at h5; exact absurd h5 (by decide))
      | (simp at h5; omega)
  cases hwl with
  | cons w1 w2 =>
    cases w2
    cases w1 with
    | list ho hall => exact ⟨_, _, ns, rfl, rfl, ho, ints_of_wellAll ns _ hall, hlen⟩
theorem post_true (l : OpenLaw) (args : List WData) : l.row.toRowW.claim.post args (.bool true) args = true :=
  postW_of (r := l.row.toRowW) (X := (true == true))
    (show WShape.has [] (.bool true) .bool = true by first | rfl | decide | simp [WShape.has, WShape.arms, WShape.armsAll])
    (show (WTm.eq .res (.lit (.bool true))).value [] { args := args, res := some (.bool true), after := args } = some (.bool (true == true)) from w_eq_bool (w_res rfl) w_lit) rfl
theorem attach_call {l : OpenLaw} {n : Nat} {q : Program} {loose : List Str} {XP : (Str → Option Value) → Heap → Prop} {YP : World → Heap → Prop} {d : DefRec}
    (hn : l.most = some n) (hdf : d.params.defaults = [])
    (call : ∀ (w : World) (s₀ s₁ : Shared) (mg mb : Str → Option Value) (fa : Addr) (o : Obj) (pm cd doc : Value) (a : Addr) (vs : List Value) (ns : List Int),
      Ground q loose [] XP w s₀ mg mb s₁.heap → YP w s₁.heap →
      s₁.heap.get? fa = some o → o.data = .func (docDef d.name d.params d.body d.scope pm cd doc) → s₁.heap.CodeRec cd d.name → mg d.name = some (.ref fa) →
      s₁.heap.get? a = some { cls := .type "list", data := .seq vs.toArray } → IntsAre vs ns → ns.length ≤ n → s₁.gens = #[] →
      codeAny (model l.prog w) callerA (.call (.ref fa) ⟨[.ref a], []⟩) (fun r s' => r = .ok (.ret (.bool true)) ∧ OldK s₁.heap s'.heap ∧ s'.os = s₁.os ∧ AllBare s'.gens) s₁) :
    WalkO q loose XP YP l.row.toRowW d [] (fun f vs => PySem.call f vs) := by
  intro w s₀ s₁ mg mb G Y fa o pm cd doc dV kV ho hd hcd hD hmg hg args vals as hpre hlay hrd hwl hlo
  obtain rfl : dV = .none := Dflts.none hD hdf
  obtain rfl : kV = .none := Dflts.noKw hD
  obtain ⟨a, vs, ns, rfl, rfl, hobj, hints, hlen⟩ := script_of hn hpre hwl
  refine enter_call (codeAny_mono (call w s₀ s₁ mg mb fa o pm cd doc a vs ns G Y ho (fd_plain hd) hcd hmg hobj hints hlen hg) fun r s' hq => ?_)
  obtain ⟨rfl, h2, h3, h4⟩ := hq
  exact ⟨.inl ⟨.bool true, .bool true, [], rfl, fun _ => rfl, .bool true, post_true l _, fun _ => ⟨List.Pairwise.nil, fun _ hm => (nomatch hm)⟩⟩, h2, h3, h4⟩
section
variable {prog : Program} {w : World} {A : Around} {E : Value → Shared → Prop} {s : Shared} {K : Frag}
end
end Att
namespace L2
open PySem PySem.Spec PyProof.Rows
theorem vals_ints : ∀ {vs : List Value} {ns : List Int}, IntsAre vs ns → Vals (ns.map V.int) vs
  | _, _, .nil => .nil
  | _, _, .cons n t h => .cons ⟨t, rfl⟩ (vals_ints h)
def Only (H : Hp) : Prop := ∀ b, H b = none ∨ ∃ o xs, H b = some (.frz o (.lst xs))
theorem law_call {P : Program} {w : World} {K : PySem.W.Frag} {mg mb : Str → Option Value} {CX : CXT} {k : Nat} {fa a : Addr} {fd : FuncData} {x : Str} {sp : Sp} {s₁ : Shared} {vs : List Value} {ns : List Int}
    (KX : K.In s₁.heap) (hns : s₁.heap.Ns mainGlobals mg) (hb : s₁.heap.Ns builtinsNs mb) (hbb : ∀ x : Str, x ≠ "__name__" → mb x = bootBuiltins x) (hlim : s₁.heap.NoLimit) (hg : s₁.gens = #[])
    (ha : s₁.heap.get? a = some { cls := .type "list", data := .seq vs.toArray }) (hi : IntsAre vs ns) (hl : ns.length ≤ sizeLine) (hr : Room k callerA)
    (F : ∀ base : Heap, K.In base → base.Ns mainGlobals mg → FnOk P w K mg base CX k fa fd [x] sp) (hbind : ∀ (s : Shared) (u : Value), BindsTo s fd ⟨[u], []⟩ [(x, u)])
    (hsp : ∀ H : Hp, Only H → SqL K H a (ns.map V.int) → sp [.ref a] H (fun v _ => v = .bl true) fun _ _ _ => False)
    (hCX : ∀ H e s', CX [] H s₁ (fun _ _ _ => False) e s' → False) :
    codeAny (model P w) callerA (.call (.ref fa) ⟨[.ref a], []⟩) (fun r s' => r = .ok (.ret (.bool true)) ∧ OldK s₁.heap s'.heap ∧ s'.os = s₁.os ∧ AllBare s'.gens) s₁ := by
  have rv := vals_ints hi
  have lenV := hi.length
  have core : ∀ H : Hp, Only H → SqL K H a (ns.map V.int) → HOk P w H s₁.heap → (∀ b, H b ≠ none → b = a) → (H a ≠ none → K.lookup a = none) →
      codeAny (model P w) callerA (.call (.ref fa) ⟨[.ref a], []⟩) (fun r s' => r = .ok (.ret (.bool true)) ∧ OldK s₁.heap s'.heap ∧ s'.os = s₁.os ∧ AllBare s'.gens) s₁ := by
    intro H hO hS hok hA hK
    have base_of : ∀ {b : Addr} {o : Obj}, s₁.heap.get? b = some o → H b = none → (hidT s₁.heap H).get? b = some o := fun e n => hidT_get e n
    have noA : ∀ {b : Addr} {o : Obj} {es : Array DictEntry} {ep : Nat}, s₁.heap.get? b = some o → o.data = .dict es ep → H b = none := fun {b o es ep} e d => by
      cases q : H b with
      | none => rfl
      | some u =>
        have e' : b = a := hA b (by rw [q]; simp)
        subst e'
        rw [ha] at e; cases e
        have d' : Data.seq vs.toArray _ = Data.dict es ep := d
        cases d'
    have nsK : ∀ {b : Addr} {m : Str → Option Value}, s₁.heap.Ns b m → (hidT s₁.heap H).Ns b m := fun {b m} ⟨o, es, ep, e, d, r⟩ => ⟨o, es, ep, base_of e (noA e d), d, r⟩
    have hKb : K.In (hidT s₁.heap H) := fun b o e => base_of (KX b o e) (by
      cases q : H b with
      | none => rfl
      | some u =>
        have e' : b = a := hA b (by rw [q]; simp)
        subst e'
        rw [hK (by rw [q]; simp)] at e; cases e)
    have hM : Mod K mg (hidT s₁.heap H) := ⟨hKb, nsK hns, ⟨mb, nsK hb, hbb⟩, let ⟨mc, h1, h2⟩ := hlim; ⟨mc, nsK h1, h2⟩⟩
    have e0 : Env0 P w K mg (hidT s₁.heap H) callerA [] s₁ H := ⟨rfl, hM, fun b o e => of_hidT e, Nat.le_of_eq (hidT_size _ _), trivial, fun b hb => absurd (show b ∈ ([] : List Addr) from hb) (by simp), hok, .of_eq hg⟩
    refine codeAny_mono ((F _ hKb (nsK hns)).run callerA [] s₁ H ⟨[.ref a], []⟩ [.ref a] [.ref a] _ _ hr e0 (hbind s₁ (.ref a)) (.cons rfl .nil) (hsp H hO hS)) fun r s' h => ?_
    cases r with
    | error e => exact (hCX H e s' h).elim
    | ok fl =>
      cases fl with
      | next => exact False.elim h
      | brk => exact False.elim h
      | cont => exact False.elim h
      | ret u =>
        obtain ⟨v, H', os, bare, un, hok', r', q⟩ := h
        have q' : v = .bl true := q
        subst q'
        obtain rfl : u = Value.bool true := r'
        refine ⟨rfl, OldK.of_keep fun b o e => ?_, os, bare⟩
        cases q : H b with
        | none => exact un.keep b o e q (by intro z; exact absurd (show b ∈ ([] : List Addr) from z) (by simp)) (by simp)
        | some u =>
          rcases hO b with z | ⟨ob, xs, z⟩
          · rw [q] at z; cases z
          · have z2 := un.frzs b ob _ z
            obtain ⟨e1, _⟩ := hok b _ z
            obtain ⟨e2, _⟩ := hok' b _ z2
            rw [e] at e1; cases e1
            exact e2
  cases hk : K.lookup a with
  | some o =>
    have e := KX a o hk
    rw [ha] at e
    cases e
    refine core (fun _ => none) (fun _ => .inl rfl) (.inr ⟨_, vs.toArray, _, hk, rfl, rfl, rfl, by rw [List.size_toArray, lenV]; exact hl, by simpa using rv⟩) (fun b u z => by have z' : (none : Option HO) = some u := z; cases z') (fun b z => absurd rfl z) fun z => absurd rfl z
  | none =>
    refine core (fun b => if b = a then some (.frz { cls := .type "list", data := .seq vs.toArray } (.lst (ns.map V.int))) else none) (fun b => ?_) (.inl (.inr ⟨{ cls := .type "list", data := .seq vs.toArray }, if_pos rfl⟩)) (fun b u z => ?_) (fun b z => ?_) fun _ => hk
    · by_cases hb : b = a
      · exact .inr ⟨_, _, if_pos hb⟩
      · exact .inl (if_neg hb)
    · by_cases hb : b = a
      · have z' := (if_pos hb).symm.trans z
        cases z'
        subst hb
        exact ⟨ha, by rw [List.length_map]; exact hl, vs, _, rv, ha⟩
      · have z' := (if_neg hb).symm.trans z
        cases z'
    · by_cases hb : b = a
      · exact hb
      · exact absurd (if_neg hb) z
end L2
namespace L2
open PySem PySem.Spec PyProof.Rows
theorem walk_of {l : PySem.W.OpenLaw} {n k : Nat} {q : Program} {loose : List Str} {XP : (Str → Option Value) → Heap → Prop} {YP : World → Heap → Prop} {d : DefRec} {K : Params → PySem.W.Frag} {CX : World → CXT} {sp : World → Sp} {x : Str}
    (hn : l.most = some n) (hn2 : n ≤ sizeLine) (hdf : d.params.defaults = []) (hr : Room k callerA)
    (hY : ∀ (w : World) (h : Heap), YP w h → (K w.params).In h)
    (F : ∀ (w : World) (mg : Str → Option Value) (fa : Addr) (h : Heap), (K w.params).In h → h.Ns mainGlobals mg → mg d.name = some (.ref fa) →
      ∃ fd : FuncData, (∀ (s : Shared) (u : Value), BindsTo s fd ⟨[u], []⟩ [(x, u)]) ∧
        ∀ base : Heap, (K w.params).In base → base.Ns mainGlobals mg → FnOk l.prog w (K w.params) mg base (CX w) k fa fd [x] (sp w))
    (hsp : ∀ (w : World) (H : Hp) (a : Addr) (ns : List Int), ns.length ≤ n → Only H → SqL (K w.params) H a (ns.map V.int) → sp w [.ref a] H (fun v _ => v = .bl true) fun _ _ _ => False)
    (hCX : ∀ (w : World) (H : Hp) (s : Shared) (e : Value) (s' : Shared), CX w [] H s (fun _ _ _ => False) e s' → False) :
    PySem.W.WalkO q loose XP YP l.row.toRowW d [] (fun f vs => PySem.call f vs) := by
  refine Att.attach_call hn hdf fun w s₀ s₁ mg mb fa o pm cd doc a vs ns G Y ho hd hcd hmg hobj hints hlen hg => ?_
  have KX := hY w _ Y
  obtain ⟨fd, hb, hF⟩ := F w mg fa _ KX G.T.g hmg
  exact law_call KX G.T.g G.T.b G.T.builtins G.T.nolimit hg hobj hints (Nat.le_trans hlen hn2) hr hF hb (fun H hO hS => hsp w H a ns hlen hO hS) fun H e s' => hCX w H s₁ e s'
theorem walk_ofK {l : PySem.W.OpenLaw} {n k : Nat} {q : Program} {loose : List Str} {XP : (Str → Option Value) → Heap → Prop} {YP : World → Heap → Prop} {d : DefRec} {K : Params → PySem.W.Frag} {CX : CXT} {sp : PySem.W.Frag → Sp} {x : Str}
    (hn : l.most = some n) (hn2 : n ≤ sizeLine) (hdf : d.params.defaults = []) (hr : Room k callerA)
    (hY : ∀ (w : World) (h : Heap), YP w h → (K w.params).In h)
    (F : ∀ (w : World) (mg : Str → Option Value) (fa : Addr) (h : Heap), (K w.params).In h → h.Ns mainGlobals mg → mg d.name = some (.ref fa) →
      ∃ fd : FuncData, (∀ (s : Shared) (u : Value), BindsTo s fd ⟨[u], []⟩ [(x, u)]) ∧
        ∀ base : Heap, (K w.params).In base → base.Ns mainGlobals mg → FnOk l.prog w (K w.params) mg base CX k fa fd [x] (sp (K w.params)))
    (hsp : ∀ (K : PySem.W.Frag) (H : Hp) (a : Addr) (ns : List Int), ns.length ≤ n → Only H → SqL K H a (ns.map V.int) → sp K [.ref a] H (fun v _ => v = .bl true) fun _ _ _ => False)
    (hCX : ∀ (H : Hp) (s : Shared) (e : Value) (s' : Shared), CX [] H s (fun _ _ _ => False) e s' → False) :
    PySem.W.WalkO q loose XP YP l.row.toRowW d [] (fun f vs => PySem.call f vs) :=
  walk_of (K := K) (CX := fun _ => CX) (sp := fun w => sp (K w.params)) hn hn2 hdf hr hY F (fun w H a ns h1 h2 h3 => hsp (K w.params) H a ns h1 h2 h3) fun _ H s e s' => hCX H s e s'
end L2
namespace L2
open PySem PySem.Spec PyProof.Rows
noncomputable def defArgs (s : Stmt) : Arguments := match s with
  | .FunctionDef _ a _ _ _ _ _ _ _ _ => a
  | _ => { posonlyargs := [], args := [], vararg := none, kwonlyargs := [], kw_defaults := [], kwarg := none, defaults := [] }
noncomputable def defBody (s : Stmt) : List Stmt := match s with
  | .FunctionDef _ _ b _ _ _ _ _ _ _ => b
  | _ => []
noncomputable def defScope (s : Stmt) : Scope := match s with
  | .FunctionDef _ _ _ _ _ _ sc _ _ _ => sc
  | _ => { kind := .function, names := [], isGenerator := false, isCoroutine := false }
noncomputable abbrev CX0 : CXT := fun _ _ _ _ _ _ => False
noncomputable abbrev E0 : XK := fun _ _ _ => False
theorem pass0 {X : Cx} : Passes CX0 X E0 := fun _ _ _ _ _ _ _ h => h.elim
structure Fun (K : PySem.W.Frag) (x qual : Str) (st : Stmt) (f : Addr) (fd : FuncData) : Prop where
  ex : ∃ (oc : Value) (od : Option Addr) (kV doc pm : Value) (an : Option Addr) (cdv ct : Value) (osl : Array (Option Value)),
    fd = PySem.W.fnOf x qual (defArgs st) (defBody st) (defScope st) .none kV doc pm an cdv ct ∧ K.lookup f = some ⟨oc, od, .func fd, osl⟩ ∧ PySem.W.codeIn K cdv qual = true
  kp : PySem.W.keepIn K (.ref f) = true
section
variable {P : Program} {w : World} {K : PySem.W.Frag} {mg : Str → Option Value} {base : Heap}
theorem Fun.ok {x qual : Str} {st : Stmt} {f : Addr} {fd : FuncData} {N ps : List Str} {k : Nat} {sp : Sp} (F : Fun K x qual st f fd) (S : FnScope N ps (defScope st)) (len : ∀ vs H Q E, sp vs H Q E → vs.length = ps.length)
    (hbody : ∀ (cdv : Value) (A : Around) (outer : List Env) (s : Shared) (H : Hp) (vs : List V) (Q : VK) (E : XK), Room k (A.deeper (envOfC qual (defScope st) s.heap.objs.size f cdv)) → sp vs H Q E →
      ∃ t, PSs (cxOf CX0 P w K mg base N qual (defScope st) f cdv A outer s H E).nox (defBody st) t ∧ t { nx := fun _ H' => Q .non H', rt := Q } (start N vs) H) : FnOk P w K mg base CX0 (k + 1) f fd ps sp := by
  obtain ⟨oc, od, kV, doc, pm, an, cdv, ct, osl, rfl, lk, hcd⟩ := F.ex
  refine fn_of lk hcd S len fun A outer s H vs Q E hr hsp => ?_
  obtain ⟨t, h, q⟩ := hbody cdv A outer s H vs Q E hr hsp
  exact ⟨t, h.nox, q⟩
theorem Fun.binds {x qual : Str} {st : Stmt} {f : Addr} {fd : FuncData} {ps : List Str} (F : Fun K x qual st f fd)
    (h : ∀ (kV doc pm : Value) (an : Option Addr) (cdv ct : Value) (us : List Value), us.length = ps.length → bindArgs (PySem.W.fnOf x qual (defArgs st) (defBody st) (defScope st) .none kV doc pm an cdv ct) ⟨us, []⟩ = pure (ps.zip us)) : Binds K fd ps [] := by
  obtain ⟨oc, od, kV, doc, pm, an, cdv, ct, osl, rfl, lk, hcd⟩ := F.ex
  exact .all (h kV doc pm an cdv ct)
theorem fun_mk {x qual : Str} {st : Stmt} {f : Addr} {oc : Value} {od an : Option Addr} {osl : Array (Option Value)} {kV doc pm cdv ct : Value} (l : K.lookup f = some ⟨oc, od, .func (PySem.W.fnOf x qual (defArgs st) (defBody st) (defScope st) .none kV doc pm an cdv ct), osl⟩)
    (c : PySem.W.codeIn K cdv qual = true) (k : PySem.W.keepIn K (.ref f) = true) : Fun K x qual st f (PySem.W.fnOf x qual (defArgs st) (defBody st) (defScope st) .none kV doc pm an cdv ct) := ⟨⟨oc, od, kV, doc, pm, an, cdv, ct, osl, rfl, l, c⟩, k⟩
end
section
variable {X : Cx}
theorem pv (i : Nat) {x : Str} {pos : Pos} (hN : X.N[i]? = some x := by rfl) (hv : Vis X.env.scope x := by first | exact Or.inl rfl | exact Or.inr (Or.inl rfl) | exact Or.inr (Or.inr rfl)) (hd : (x == ("__debug__" : Str)) = false := by decide)
    (hcd : (x == ("__classdict__" : Str)) = false := by decide) : PE X (.Name x pos) (tVar i) := pe_var hN hv hd hcd
end
theorem iteF {A B : Prop} (h : B) : if false = true then A else B := by
  rw [if_neg Bool.false_ne_true]
  exact h
theorem iteT {A B : Prop} (h : A) : if true = true then A else B := by
  rw [if_pos rfl]
  exact h
def Same (H H' : Hp) : Prop := ∀ b o, H b = some o → H' b = some o
theorem Same.refl (H : Hp) : Same H H := fun _ _ h => h
theorem Same.trans {H H1 H2 : Hp} (a : Same H H1) (b : Same H1 H2) : Same H H2 := fun c o h => b c o (a c o h)
theorem Same.free {H H' : Hp} (e : Same H H') {l : Addr} (h : H' l = Option.none) : H l = Option.none := by
  cases q : H l with
  | none => rfl
  | some o =>
    rw [e l o q] at h
    cases h
theorem Same.seq {K : PySem.W.Frag} {H H' : Hp} {a : Addr} {xs : List V} (e : Same H H') (h : SqL K H a xs) : SqL K H' a xs := by
  rcases h with (h | ⟨o, h⟩) | h
  · exact .inl (.inl (e _ _ h))
  · exact .inl (.inr ⟨o, e _ _ h⟩)
  · exact .inr h
end L2
set_option maxHeartbeats 4000000
namespace DL
open PySem PySem.Spec PyProof.Rows L2
abbrev St := L2.St
inductive D where
  | non
  | bl (b : Bool)
  | int (i : Int)
  | tup (ds : List D)
  | lst (ds : List D)
  | scr (ns : List Int)
  | exc (c : Str) (p : Option Int)
inductive Out (α : Type) where
  | bad
  | ok (a : α)
  | exc (c : Str) (p : Option Int)
noncomputable def Out.bind {α β : Type} (x : Out α) (f : α → Out β) : Out β :=
  match x with
  | .bad => .bad
  | .ok a => f a
  | .exc c p => .exc c p
@[simp] theorem bind_ok {α β : Type} (a : α) (f : α → Out β) : (Out.ok a).bind f = f a := rfl
@[simp] theorem bind_bad {α β : Type} (f : α → Out β) : (Out.bad : Out α).bind f = .bad := rfl
@[simp] theorem bind_exc {α β : Type} (c : Str) (p : Option Int) (f : α → Out β) : (Out.exc c p : Out α).bind f = .exc c p := rfl
theorem bind_inv {α β : Type} {x : Out α} {f : α → Out β} {b : β} (h : x.bind f = .ok b) : ∃ a, x = .ok a ∧ f a = .ok b := by
  cases x with
  | bad => cases h
  | ok a => exact ⟨a, rfl, h⟩
  | exc c p => cases h
inductive Val where
  | pers (d : D)
  | fresh (ds : List D)
  | brw (i : Nat) (ds : List D)
@[simp] noncomputable def Val.d : Val → D
  | .pers d => d
  | .fresh ds => .lst ds
  | .brw _ ds => .lst ds
@[simp] noncomputable def Val.hold : Val → Out D
  | .pers d => .ok d
  | .fresh ds => .ok (.lst ds)
  | .brw _ _ => .bad
inductive Slot where
  | un
  | pers (d : D)
  | own (ds : List D)
abbrev Ev := List Slot
abbrev FE := Ev → Out Val
abbrev FT := Ev → Out Bool
inductive Res where
  | next (env : Ev)
  | ret (v : Val)
abbrev FS := Ev → Out Res
mutual
def Rep (K : PySem.W.Frag) (G : Hp) : D → V → Prop
  | .non, v => v = .non
  | .bl b, v => v = .bl b
  | .int i, v => v = .int i
  | .tup ds, v => ∃ a vs, v = .ref a ∧ G a = some (.tup vs) ∧ RepL K G ds vs
  | .lst ds, v => ∃ a vs, v = .ref a ∧ G a = some (.lst vs) ∧ RepL K G ds vs
  | .scr ns, v => ∃ a, v = .ref a ∧ SqL K G a (ns.map V.int)
  | .exc _ _, _ => False
def RepL (K : PySem.W.Frag) (G : Hp) : List D → List V → Prop
  | [], vs => vs = []
  | d :: ds, vs => ∃ v r, vs = v :: r ∧ Rep K G d v ∧ RepL K G ds r
end
section
variable {K : PySem.W.Frag} {G G' : Hp}
mutual
theorem Rep.mono (s : Same G G') : ∀ {d : D} {v : V}, Rep K G d v → Rep K G' d v
  | .non, _, h => h
  | .bl _, _, h => h
  | .int _, _, h => h
  | .tup ds, v, h => by
    obtain ⟨a, vs, e, g, r⟩ := h
    exact ⟨a, vs, e, s _ _ g, RepL.mono s r⟩
  | .lst ds, v, h => by
    obtain ⟨a, vs, e, g, r⟩ := h
    exact ⟨a, vs, e, s _ _ g, RepL.mono s r⟩
  | .scr ns, v, h => by
    obtain ⟨a, e, g⟩ := h
    exact ⟨a, e, s.seq g⟩
  | .exc _ _, _, h => h
theorem RepL.mono (s : Same G G') : ∀ {ds : List D} {vs : List V}, RepL K G ds vs → RepL K G' ds vs
  | [], _, h => h
  | d :: ds, vs, h => by
    obtain ⟨v, r, e, h1, h2⟩ := h
    exact ⟨v, r, e, Rep.mono s h1, RepL.mono s h2⟩
end
theorem RepL.nil : RepL K G [] [] := rfl
theorem RepL.cons {d : D} {v : V} {ds : List D} {vs : List V} (h : Rep K G d v) (r : RepL K G ds vs) : RepL K G (d :: ds) (v :: vs) := ⟨v, vs, rfl, h, r⟩
theorem RepL.length : ∀ {ds : List D} {vs : List V}, RepL K G ds vs → ds.length = vs.length
  | [], _, h => by cases (show _ = [] from h); rfl
  | d :: ds, vs, h => by
    obtain ⟨v, r, rfl, _, h2⟩ := h
    simp [RepL.length h2]
theorem RepL.get : ∀ {ds : List D} {vs : List V} {i : Nat} {d : D}, RepL K G ds vs → ds[i]? = some d → ∃ v, vs[i]? = some v ∧ Rep K G d v
  | [], _, i, d, h, e => by simp at e
  | d' :: ds, vs, 0, d, h, e => by
    obtain ⟨v, r, rfl, h1, h2⟩ := h
    simp at e
    subst e
    exact ⟨v, rfl, h1⟩
  | d' :: ds, vs, i + 1, d, h, e => by
    obtain ⟨v, r, rfl, h1, h2⟩ := h
    obtain ⟨u, h3, h4⟩ := RepL.get (i := i) h2 (by simpa using e)
    exact ⟨u, by simpa using h3, h4⟩
theorem RepL.get' : ∀ {ds : List D} {vs : List V} {i : Nat} {v : V}, RepL K G ds vs → vs[i]? = some v → ∃ d, ds[i]? = some d ∧ Rep K G d v
  | [], _, i, d, h, e => by cases (show _ = [] from h); simp at e
  | d' :: ds, vs, 0, d, h, e => by
    obtain ⟨v, r, rfl, h1, h2⟩ := h
    simp at e
    subst e
    exact ⟨d', rfl, h1⟩
  | d' :: ds, vs, i + 1, d, h, e => by
    obtain ⟨v, r, rfl, h1, h2⟩ := h
    obtain ⟨u, h3, h4⟩ := RepL.get' (i := i) h2 (by simpa using e)
    exact ⟨u, by simpa using h3, h4⟩
theorem RepL.append : ∀ {ds es : List D} {vs us : List V}, RepL K G ds vs → RepL K G es us → RepL K G (ds ++ es) (vs ++ us)
  | [], es, vs, us, h, h' => by cases (show _ = [] from h); exact h'
  | d :: ds, es, vs, us, h, h' => by
    obtain ⟨v, r, rfl, h1, h2⟩ := h
    exact ⟨v, r ++ us, rfl, h1, RepL.append h2 h'⟩
theorem RepL.take : ∀ {ds : List D} {vs : List V} (n : Nat), RepL K G ds vs → RepL K G (ds.take n) (vs.take n)
  | ds, vs, 0, h => by simp only [List.take_zero]; exact rfl
  | [], vs, n + 1, h => by cases (show _ = [] from h); exact rfl
  | d :: ds, vs, n + 1, h => by
    obtain ⟨v, r, rfl, h1, h2⟩ := h
    exact ⟨v, r.take n, rfl, h1, RepL.take n h2⟩
theorem RepL.drop : ∀ {ds : List D} {vs : List V} (n : Nat), RepL K G ds vs → RepL K G (ds.drop n) (vs.drop n)
  | ds, vs, 0, h => by simpa using h
  | [], vs, n + 1, h => by cases (show _ = [] from h); exact rfl
  | d :: ds, vs, n + 1, h => by
    obtain ⟨v, r, rfl, h1, h2⟩ := h
    exact RepL.drop n h2
theorem RepL.set {d : D} {v : V} (hd : Rep K G d v) : ∀ {ds : List D} {vs : List V} (i : Nat), RepL K G ds vs → RepL K G (ds.set i d) (vs.set i v)
  | [], vs, i, h => by cases (show _ = [] from h); exact rfl
  | d' :: ds, vs, 0, h => by
    obtain ⟨u, r, rfl, h1, h2⟩ := h
    exact ⟨v, r, rfl, hd, h2⟩
  | d' :: ds, vs, i + 1, h => by
    obtain ⟨u, r, rfl, h1, h2⟩ := h
    exact ⟨u, r.set i v, rfl, h1, RepL.set hd i h2⟩
theorem RepL.ints : ∀ (ns : List Int), RepL K G (ns.map D.int) (ns.map V.int)
  | [] => rfl
  | n :: ns => ⟨.int n, ns.map V.int, rfl, rfl, RepL.ints ns⟩
theorem RepL.ints_of : ∀ {ns : List Int} {vs : List V}, RepL K G (ns.map D.int) vs → vs = ns.map V.int
  | [], _, h => h
  | n :: ns, vs, h => by
    obtain ⟨v, r, rfl, h1, h2⟩ := h
    rw [RepL.ints_of h2]
    cases (show v = .int n from h1)
    rfl
end
structure Grow (G H G' H' : Hp) : Prop where
  g : Same G G'
  h : Same H H'
  n : ∀ b, H b ≠ none → G b = none → G' b = none
theorem Grow.refl (G H : Hp) : Grow G H G H := ⟨Same.refl _, Same.refl _, fun _ _ h => h⟩
theorem Same.some_of {H H' : Hp} (s : Same H H') {b : Addr} (h : H b ≠ none) : H' b ≠ none := by
  cases q : H b with
  | none => exact absurd q h
  | some o => rw [s b o q]; simp
theorem Grow.trans {G H G1 H1 G2 H2 : Hp} (a : Grow G H G1 H1) (b : Grow G1 H1 G2 H2) : Grow G H G2 H2 :=
  ⟨a.g.trans b.g, a.h.trans b.h, fun c h1 h2 => b.n c (Same.some_of a.h h1) (a.n c h1 h2)⟩
structure SlotOwn (K : PySem.W.Frag) (H₀ : Hp) (σ : St) (G H : Hp) (i : Nat) (ds : List D) (a : Addr) (vs : List V) : Prop where
  at_ : σ[i]? = some (some (.ref a))
  hp : H a = some (.lst vs)
  gn : G a = none
  new : H₀ a = none
  rep : RepL K G ds vs
def SlotOk (K : PySem.W.Frag) (H₀ : Hp) (σ : St) (G H : Hp) (i : Nat) : Slot → Prop
  | .un => True
  | .pers d => ∃ v, σ[i]? = some (some v) ∧ Rep K G d v
  | .own ds => ∃ a vs, SlotOwn K H₀ σ G H i ds a vs
structure DI (K : PySem.W.Frag) (G₀ H₀ : Hp) (env : Ev) (σ : St) (G H : Hp) : Prop where
  le : Same G H
  gr : Grow G₀ H₀ G H
  len : env.length = σ.length
  slot : ∀ (i : Nat) (s : Slot), env[i]? = some s → SlotOk K H₀ σ G H i s
  apart : ∀ (i j : Nat) (ds es : List D) (a : Addr), i ≠ j → env[i]? = some (.own ds) → env[j]? = some (.own es) → σ[i]? = some (some (.ref a)) → σ[j]? ≠ some (some (.ref a))
section
variable {K : PySem.W.Frag} {G₀ H₀ G H G' H' : Hp} {env : Ev} {σ : St}
theorem DI.grow (I : DI K G₀ H₀ env σ G H) (g : Grow G H G' H') (l : Same G' H') : DI K G₀ H₀ env σ G' H' where
  le := l
  gr := I.gr.trans g
  len := I.len
  slot := fun i s e => by
    have q := I.slot i s e
    cases s with
    | un => trivial
    | pers d => obtain ⟨v, h1, h2⟩ := q; exact ⟨v, h1, h2.mono g.g⟩
    | own ds =>
      obtain ⟨a, vs, o⟩ := q
      exact ⟨a, vs, o.at_, g.h _ _ o.hp, g.n a (by rw [o.hp]; simp) o.gn, o.new, o.rep.mono g.g⟩
  apart := I.apart
theorem DI.own (I : DI K G₀ H₀ env σ G H) {i : Nat} {ds : List D} (e : env[i]? = some (.own ds)) : ∃ a vs, SlotOwn K H₀ σ G H i ds a vs := I.slot i _ e
theorem DI.pers (I : DI K G₀ H₀ env σ G H) {i : Nat} {d : D} (e : env[i]? = some (.pers d)) : ∃ v, σ[i]? = some (some v) ∧ Rep K G d v := I.slot i _ e
end
def ValOk (K : PySem.W.Frag) (H : Hp) (env : Ev) (σ : St) (G' H' : Hp) (v : V) : Val → Prop
  | .pers d => Rep K G' d v
  | .fresh ds => ∃ a vs, v = .ref a ∧ H a = none ∧ H' a = some (.lst vs) ∧ G' a = none ∧ RepL K G' ds vs
  | .brw i ds => ∃ a, v = .ref a ∧ env[i]? = some (.own ds) ∧ σ[i]? = some (some (.ref a))
theorem ValOk.base {K : PySem.W.Frag} {H H1 : Hp} {env : Ev} {σ : St} {G' H' : Hp} {v : V} {val : Val} (s : Same H H1) (h : ValOk K H1 env σ G' H' v val) : ValOk K H env σ G' H' v val := by
  cases val with
  | pers d => exact h
  | fresh ds =>
    obtain ⟨a, vs, e, h1, h2, h3, h4⟩ := h
    exact ⟨a, vs, e, s.free h1, h2, h3, h4⟩
  | brw i ds => exact h
def Opd (K : PySem.W.Frag) (env : Ev) (σ : St) (G : Hp) (v : V) (d : D) : Prop :=
  Rep K G d v ∨ ∃ (i : Nat) (ds : List D) (a : Addr), d = .lst ds ∧ v = .ref a ∧ env[i]? = some (.own ds) ∧ σ[i]? = some (some (.ref a))
theorem Opd.mono {K : PySem.W.Frag} {env : Ev} {σ : St} {G G' : Hp} {v : V} {d : D} (h : Opd K env σ G v d) (s : Same G G') : Opd K env σ G' v d :=
  h.elim (fun x => .inl (x.mono s)) .inr
section
variable {K : PySem.W.Frag} {G₀ H₀ G H G' H' : Hp} {env : Ev} {σ : St} {v : V}
theorem Opd.lst {ds : List D} (I : DI K G₀ H₀ env σ G H) (h : Opd K env σ G v (.lst ds)) : ∃ a vs, v = .ref a ∧ H a = some (.lst vs) ∧ RepL K G ds vs := by
  rcases h with h | ⟨i, es, a, e1, e2, e3, e4⟩
  · obtain ⟨a, vs, e, g, r⟩ := h
    exact ⟨a, vs, e, I.le _ _ g, r⟩
  · cases e1
    obtain ⟨b, vs, o⟩ := I.own e3
    have q := o.at_
    rw [e4] at q
    cases q
    exact ⟨a, vs, e2, o.hp, o.rep⟩
theorem Opd.tup {ds : List D} (I : DI K G₀ H₀ env σ G H) (h : Opd K env σ G v (.tup ds)) : ∃ a vs, v = .ref a ∧ H a = some (.tup vs) ∧ RepL K G ds vs := by
  rcases h with h | ⟨i, es, a, e1, e2, e3, e4⟩
  · obtain ⟨a, vs, e, g, r⟩ := h
    exact ⟨a, vs, e, I.le _ _ g, r⟩
  · cases e1
theorem Opd.int {i : Int} (h : Opd K env σ G v (.int i)) : v = .int i := by
  rcases h with h | ⟨_, _, _, e, _⟩
  · exact h
  · cases e
theorem Opd.bl {b : Bool} (h : Opd K env σ G v (.bl b)) : v = .bl b := by
  rcases h with h | ⟨_, _, _, e, _⟩
  · exact h
  · cases e
theorem Opd.non (h : Opd K env σ G v .non) : v = .non := by
  rcases h with h | ⟨_, _, _, e, _⟩
  · exact h
  · cases e
theorem Opd.scr {ns : List Int} (I : DI K G₀ H₀ env σ G H) (h : Opd K env σ G v (.scr ns)) : ∃ a, v = .ref a ∧ SqL K H a (ns.map V.int) := by
  rcases h with h | ⟨_, _, _, e, _⟩
  · obtain ⟨a, e, q⟩ := h
    exact ⟨a, e, I.le.seq q⟩
  · cases e
theorem opd {val : Val} (g : Grow G H G' H') (l : Same G' H') (h : ValOk K H env σ G' H' v val) : ∃ G'', Grow G H G'' H' ∧ Same G'' H' ∧ Opd K env σ G'' v val.d := by
  cases val with
  | pers d => exact ⟨G', g, l, .inl h⟩
  | brw i ds =>
    obtain ⟨a, e1, e2, e3⟩ := h
    exact ⟨G', g, l, .inr ⟨i, ds, a, rfl, e1, e2, e3⟩⟩
  | fresh ds =>
    obtain ⟨a, vs, e, h1, h2, h3, h4⟩ := h
    have s' : Same G' (upd G' a (.lst vs)) := fun b o q => by rw [upd_ne (ne_of_none q h3)]; exact q
    refine ⟨upd G' a (.lst vs), ⟨g.g.trans s', g.h, fun b q1 q2 => ?_⟩, fun b o q => ?_, .inl ⟨a, vs, e, upd_same, h4.mono s'⟩⟩
    · have hb : b ≠ a := fun z => q1 (z ▸ h1)
      rw [upd_ne hb]
      exact g.n b q1 q2
    · by_cases hb : b = a
      · subst hb; rw [upd_same] at q; cases q; exact h2
      · rw [upd_ne hb] at q; exact l b o q
theorem held {val : Val} {d : D} (g : Grow G H G' H') (l : Same G' H') (h : ValOk K H env σ G' H' v val) (e : val.hold = .ok d) : ∃ G'', Grow G H G'' H' ∧ Same G'' H' ∧ Rep K G'' d v := by
  obtain ⟨G2, g2, l2, o⟩ := opd g l h
  cases val with
  | pers d' => cases e; exact ⟨G', g, l, h⟩
  | brw i ds => cases e
  | fresh ds =>
    cases e
    rcases o with o | ⟨i, es, a, e1, e2, e3, e4⟩
    · exact ⟨G2, g2, l2, o⟩
    · obtain ⟨a', vs, e, h1, h2, h3, h4⟩ := h
      have s' : Same G' (upd G' a' (.lst vs)) := fun b o q => by rw [upd_ne (ne_of_none q h3)]; exact q
      refine ⟨upd G' a' (.lst vs), ⟨g.g.trans s', g.h, fun b q1 q2 => ?_⟩, fun b o q => ?_, ⟨a', vs, e, upd_same, h4.mono s'⟩⟩
      · have hb : b ≠ a' := fun z => q1 (z ▸ h1)
        rw [upd_ne hb]
        exact g.n b q1 q2
      · by_cases hb : b = a'
        · subst hb; rw [upd_same] at q; cases q; exact h2
        · rw [upd_ne hb] at q; exact l b o q
theorem Grow.laidT {p : Addr} {o : HO} (l : Same G H) (hp : H p = none) : Grow G H (upd G p o) (upd H p o) ∧ Same (upd G p o) (upd H p o) := by
  have gp := l.free hp
  refine ⟨⟨fun b u q => by rw [upd_ne (ne_of_none q gp)]; exact q, fun b u q => by rw [upd_ne (ne_of_none q hp)]; exact q, fun b h1 h2 => ?_⟩, fun b u q => ?_⟩
  · have hb : b ≠ p := fun z => h1 (z ▸ hp)
    rw [upd_ne hb]; exact h2
  · by_cases hb : b = p
    · subst hb; rw [upd_same] at q ⊢; exact q
    · rw [upd_ne hb] at q ⊢; exact l b u q
theorem Grow.laidL {p : Addr} {o : HO} (l : Same G H) (hp : H p = none) : Grow G H G (upd H p o) ∧ Same G (upd H p o) :=
  ⟨⟨Same.refl _, fun b u q => by rw [upd_ne (ne_of_none q hp)]; exact q, fun _ _ h => h⟩, fun b u q => by rw [upd_ne (ne_of_none q (l.free hp))]; exact l b u q⟩
theorem valFresh {p : Addr} {ds : List D} {vs : List V} {G1 H1 : Hp} (l : Same G1 H1) (hp : H1 p = none) (r : RepL K G1 ds vs) : ValOk K H1 env σ G1 (upd H1 p (.lst vs)) (.ref p) (.fresh ds) :=
  ⟨p, vs, rfl, hp, upd_same, l.free hp, r⟩
theorem valTup {p : Addr} {ds : List D} {vs : List V} {G1 H1 : Hp} (l : Same G1 H1) (hp : H1 p = none) (r : RepL K G1 ds vs) : ValOk K H1 env σ (upd G1 p (.tup vs)) (upd H1 p (.tup vs)) (.ref p) (.pers (.tup ds)) := by
  have gp := l.free hp
  exact ⟨p, vs, rfl, upd_same, r.mono fun b u q => by rw [upd_ne (ne_of_none q gp)]; exact q⟩
end
section
variable (K : PySem.W.Frag) (G₀ H₀ : Hp)
def tE (f : FE) : TE := fun σ H Q => ∃ env G val, DI K G₀ H₀ env σ G H ∧ f env = .ok val ∧
  ∀ v G' H', Grow G H G' H' → Same G' H' → ValOk K H env σ G' H' v val → Q v H'
def tT (f : FT) : TT := fun σ H Q => ∃ env G b, DI K G₀ H₀ env σ G H ∧ f env = .ok b ∧ ∀ G' H', Grow G H G' H' → Same G' H' → Q b H'
def ArgOk (env : Ev) (σ : St) (G : Hp) (v : V) : Val → Prop
  | .pers d => Rep K G d v
  | .fresh _ => False
  | .brw i ds => ∃ a, v = .ref a ∧ env[i]? = some (.own ds) ∧ σ[i]? = some (some (.ref a))
def ArgsOk (env : Ev) (σ : St) (G : Hp) : List V → List Val → Prop
  | [], vals => vals = []
  | v :: vs, vals => ∃ x r, vals = x :: r ∧ ArgOk K env σ G v x ∧ ArgsOk env σ G vs r
def tA (f : Ev → Out (List Val)) : TA := fun σ H Q => ∃ env G vals, DI K G₀ H₀ env σ G H ∧ f env = .ok vals ∧
  ∀ vs G' H', Grow G H G' H' → Same G' H' → ArgsOk K env σ G' vs vals → Q vs H'
def tH (f : Ev → Out (List D)) : TA := fun σ H Q => ∃ env G ds, DI K G₀ H₀ env σ G H ∧ f env = .ok ds ∧
  ∀ vs G' H', Grow G H G' H' → Same G' H' → RepL K G' ds vs → Q vs H'
def EndOk (G : Hp) (D : Ends) : Res → Prop
  | .next env' => ∀ σ' G' H', Same G G' → DI K G₀ H₀ env' σ' G' H' → D.nx σ' H'
  | .ret val => ∀ v G' H', Grow G₀ H₀ G' H' → Same G' H' → ValOk K H₀ [] [] G' H' v val → D.rt v H'
def tS (f : FS) : TS := fun D σ H => ∃ env G r, DI K G₀ H₀ env σ G H ∧ f env = .ok r ∧ EndOk K G₀ H₀ G D r
end
def DE (X : Cx) (G₀ H₀ : Hp) (e : Expr) (f : FE) : Prop := PE X e (tE X.K G₀ H₀ f)
def DT (X : Cx) (G₀ H₀ : Hp) (e : Expr) (f : FT) : Prop := PT X e (tT X.K G₀ H₀ f)
def DW (X : Cx) (G₀ H₀ : Hp) (e : Expr) (f : FT) : Prop := PW X e (tT X.K G₀ H₀ f)
def DA (X : Cx) (G₀ H₀ : Hp) (es : List Expr) (f : Ev → Out (List Val)) : Prop := PA X es (tA X.K G₀ H₀ f)
def DH (X : Cx) (G₀ H₀ : Hp) (es : List Expr) (f : Ev → Out (List D)) : Prop := PA X es (tH X.K G₀ H₀ f)
def DS (X : Cx) (G₀ H₀ : Hp) (st : Stmt) (f : FS) : Prop := PS X st (tS X.K G₀ H₀ f)
def DSs (X : Cx) (G₀ H₀ : Hp) (st : List Stmt) (f : FS) : Prop := PSs X st (tS X.K G₀ H₀ f)
theorem _root_.L2.PE.imp {X : Cx} {e : Expr} {t t' : TE} (h : PE X e t) (i : ∀ σ H Q, t' σ H Q → t σ H Q) : PE X e t' := fun pins s σ H Q I q => h pins s σ H Q I (i σ H Q q)
theorem _root_.L2.PT.imp {X : Cx} {e : Expr} {t t' : TT} (h : PT X e t) (i : ∀ σ H Q, t' σ H Q → t σ H Q) : PT X e t' := fun pins s σ H Q I q => h pins s σ H Q I (i σ H Q q)
theorem _root_.L2.PW.imp {X : Cx} {e : Expr} {t t' : TT} (h : PW X e t) (i : ∀ σ H Q, t' σ H Q → t σ H Q) : PW X e t' := fun wh pins s σ H Q I q => h wh pins s σ H Q I (i σ H Q q)
theorem _root_.L2.PA.imp {X : Cx} {e : List Expr} {t t' : TA} (h : PA X e t) (i : ∀ σ H Q, t' σ H Q → t σ H Q) : PA X e t' := fun pos pins s σ H Q I q => h pos pins s σ H Q I (i σ H Q q)
theorem _root_.L2.PS.imp {X : Cx} {e : Stmt} {t t' : TS} (h : PS X e t) (i : ∀ D σ H, t' D σ H → t D σ H) : PS X e t' := fun pins s σ H D I q => h pins s σ H D I (i D σ H q)
theorem _root_.L2.PSs.imp {X : Cx} {e : List Stmt} {t t' : TS} (h : PSs X e t) (i : ∀ D σ H, t' D σ H → t D σ H) : PSs X e t' := fun pins s σ H D I q => h pins s σ H D I (i D σ H q)
section
variable {K : PySem.W.Frag} {G₀ H₀ G H : Hp} {env : Ev} {σ : St}
theorem tE_one {f : FE} {x : Val} {P : V → Hp → Prop} (I : DI K G₀ H₀ env σ G H) (e : f env = .ok x)
    (k : ∀ v G' H', Grow G H G' H' → Same G' H' → DI K G₀ H₀ env σ G' H' → Opd K env σ G' v x.d → P v H') : tE K G₀ H₀ f σ H P :=
  ⟨env, G, x, I, e, fun v G' H' g l h => by
    obtain ⟨G2, g2, l2, o⟩ := opd g l h
    exact k v G2 H' g2 l2 (I.grow g2 l2) o⟩
theorem tE_two {f g : FE} {x y : Val} {P : V → V → Hp → Prop} (I : DI K G₀ H₀ env σ G H) (e : f env = .ok x) (e' : g env = .ok y)
    (k : ∀ v u G' H', Grow G H G' H' → Same G' H' → DI K G₀ H₀ env σ G' H' → Opd K env σ G' v x.d → Opd K env σ G' u y.d → P v u H') :
    tE K G₀ H₀ f σ H fun v H1 => tE K G₀ H₀ g σ H1 fun u H2 => P v u H2 :=
  tE_one I e fun v G1 H1 g1 l1 I1 o1 => tE_one I1 e' fun u G2 H2 g2 l2 I2 o2 => k v u G2 H2 (g1.trans g2) l2 I2 (o1.mono g2.g) o2
end
@[simp] noncomputable def fVar (i : Nat) : FE := fun env => match env[i]? with
  | some (.pers d) => .ok (.pers d)
  | some (.own ds) => .ok (.brw i ds)
  | _ => .bad
@[simp] noncomputable def fC (d : D) : FE := fun _ => .ok (.pers d)
section
variable {X : Cx} {G₀ H₀ : Hp} {pos : Pos}
theorem de_var {i : Nat} {x : Str} (h : PE X (.Name x pos) (tVar i)) : DE X G₀ H₀ (.Name x pos) (fVar i) := h.imp fun σ H Q q => by
  obtain ⟨env, G, val, I, e, k⟩ := q
  unfold fVar at e
  cases q : env[i]? with
  | none => rw [q] at e; cases e
  | some s =>
    rw [q] at e
    cases s with
    | un => cases e
    | pers d =>
      cases e
      obtain ⟨v, h1, h2⟩ := I.pers q
      exact ⟨v, h1, k v G H (Grow.refl _ _) I.le h2⟩
    | own ds =>
      cases e
      obtain ⟨a, vs, o⟩ := I.own q
      exact ⟨.ref a, o.at_, k _ G H (Grow.refl _ _) I.le ⟨a, rfl, q, o.at_⟩⟩
theorem de_c {e : Expr} {v : V} {d : D} (h : PE X e (tC v)) (r : ∀ G, Rep X.K G d v) : DE X G₀ H₀ e (fC d) := h.imp fun σ H Q q => by
  obtain ⟨env, G, val, I, e, k⟩ := q
  cases e
  exact k v G H (Grow.refl _ _) I.le (r G)
theorem de_int {i j} : DE X G₀ H₀ (.Constant (.int i) j pos) (fC (.int i)) := de_c pe_int fun _ => rfl
end
@[simp] noncomputable def f2 (g : D → D → Out Val) (fa fb : FE) : FE := fun env => (fa env).bind fun x => (fb env).bind fun y => g x.d y.d
@[simp] noncomputable def f1 (g : D → Out Val) (fa : FE) : FE := fun env => (fa env).bind fun x => g x.d
def OpD (K : PySem.W.Frag) (r : R2) (g : D → D → Out Val) : Prop :=
  ∀ (G₀ H₀ : Hp) (env : Ev) (σ : St) (G H : Hp) (v u : V) (d1 d2 : D) (val : Val) (Q : VK), DI K G₀ H₀ env σ G H → Opd K env σ G v d1 → Opd K env σ G u d2 → g d1 d2 = .ok val →
    (∀ w G' H', Grow G H G' H' → Same G' H' → ValOk K H env σ G' H' w val → Q w H') → r v u H Q
section
variable {X : Cx} {G₀ H₀ : Hp} {pos : Pos} {a b : Expr} {fa fb : FE}
theorem imp2 {r : R2} {g : D → D → Out Val} (hd : OpD X.K r g) (σ : St) (H : Hp) (Q : VK) (q : tE X.K G₀ H₀ (f2 g fa fb) σ H Q) : tOp r (tE X.K G₀ H₀ fa) (tE X.K G₀ H₀ fb) σ H Q := by
  obtain ⟨env, G, val, I, e, k⟩ := q
  obtain ⟨x, e1, e⟩ := bind_inv e
  obtain ⟨y, e2, e⟩ := bind_inv e
  exact tE_two I e1 e2 fun v u G' H' g1 l1 I1 o1 o2 => hd G₀ H₀ env σ G' H' v u _ _ val Q I1 o1 o2 e fun w G2 H2 g2 l2 h2 => k w G2 H2 (g1.trans g2) l2 (h2.base g1.h)
theorem de_op {op : Operator} {r : R2} {g : D → D → Out Val} (ho : OpR X (binaryOp op) r) (hd : OpD X.K r g) (ha : DE X G₀ H₀ a fa) (hb : DE X G₀ H₀ b fb) : DE X G₀ H₀ (.BinOp a op b pos) (f2 g fa fb) :=
  (pe_op ho ha hb).imp (imp2 hd)
theorem de_cmp {op : CmpOp} {r : R2} {g : D → D → Out Val} (ho : OpR X (compareOp op) r) (hd : OpD X.K r g) (ha : DE X G₀ H₀ a fa) (hb : DE X G₀ H₀ b fb) (hm : behindInMarks op b = false) : DE X G₀ H₀ (.Compare a [op] [b] pos) (f2 g fa fb) :=
  (pe_cmpR ho ha hb hm).imp (imp2 hd)
theorem de_ix {r : R2} {g : D → D → Out Val} (hr : IxR X r) (hd : OpD X.K r g) (ha : DE X G₀ H₀ a fa) (hb : DE X G₀ H₀ b fb) (hs : PlainIx b) : DE X G₀ H₀ (.Subscript a b pos) (f2 g fa fb) :=
  (pe_ix hr ha hb hs).imp (imp2 hd)
end
@[simp] noncomputable def gI (C : Int → Int → Bool) (g : Int → Int → Int) : D → D → Out Val
  | .int i, .int j => if C i j then .ok (.pers (.int (g i j))) else .bad
  | _, _ => .bad
@[simp] noncomputable def gIB (g : Int → Int → Bool) : D → D → Out Val
  | .int i, .int j => .ok (.pers (.bl (g i j)))
  | _, _ => .bad
section
variable {K : PySem.W.Frag}
theorem od_int {C : Int → Int → Bool} {C' : Int → Int → Prop} {g : Int → Int → Int} (hC : ∀ i j, C i j = true → C' i j) : OpD K (rI C' fun i j => .int (g i j)) (gI C g) := by
  intro G₀ H₀ env σ G H v u d1 d2 val Q I o1 o2 e k
  unfold gI at e
  split at e
  · rename_i i j
    split at e
    · rename_i hc
      cases e
      exact ⟨i, j, o1.int, o2.int, hC i j hc, k _ G H (Grow.refl _ _) I.le rfl⟩
    · cases e
  · cases e
theorem od_int0 {g : Int → Int → Int} : OpD K (rI0 fun i j => .int (g i j)) (gI (fun _ _ => true) g) := by
  intro G₀ H₀ env σ G H v u d1 d2 val Q I o1 o2 e k
  unfold gI at e
  split at e
  · rename_i i j
    rw [if_pos rfl] at e
    cases e
    exact ⟨i, j, o1.int, o2.int, k _ G H (Grow.refl _ _) I.le rfl⟩
  · cases e
theorem od_intB {g : Int → Int → Bool} : OpD K (rI0 fun i j => .bl (g i j)) (gIB g) := by
  intro G₀ H₀ env σ G H v u d1 d2 val Q I o1 o2 e k
  unfold gIB at e
  split at e
  · rename_i i j
    cases e
    exact ⟨i, j, o1.int, o2.int, k _ G H (Grow.refl _ _) I.le rfl⟩
  · cases e
end
noncomputable def small64 (i : Int) : Bool := decide (-(2 ^ 64) < i) && decide (i < 2 ^ 64)
noncomputable def cMul (i j : Int) : Bool := small64 i || small64 j
noncomputable def cPow (i j : Int) : Bool := decide (0 ≤ j) && decide (j ≤ 1000000) && decide (i.natAbs < 2 ^ 64)
@[simp] noncomputable def gSub := gI (fun _ _ => true) (· - ·)
@[simp] noncomputable def gMul := gI cMul (· * ·)
@[simp] noncomputable def gMod := gI (fun _ j => decide (0 < j)) (· % ·)
@[simp] noncomputable def gPow := gI cPow (fun i j => i ^ j.toNat)
@[simp] noncomputable def gLt := gIB fun i j => decide (i < j)
@[simp] noncomputable def gGt := gIB fun i j => decide (j < i)
section
variable {X : Cx} {G₀ H₀ : Hp} {pos : Pos} {a b : Expr} {fa fb : FE}
theorem de_sub (ha : DE X G₀ H₀ a fa) (hb : DE X G₀ H₀ b fb) : DE X G₀ H₀ (.BinOp a .Sub b pos) (f2 gSub fa fb) := de_op op_sub od_int0 ha hb
theorem de_mul (ha : DE X G₀ H₀ a fa) (hb : DE X G₀ H₀ b fb) : DE X G₀ H₀ (.BinOp a .Mult b pos) (f2 gMul fa fb) :=
  de_op op_mul (od_int fun i j h => by
    simp only [cMul, small64, Bool.or_eq_true, Bool.and_eq_true, decide_eq_true_eq] at h
    exact h) ha hb
theorem de_mod (ha : DE X G₀ H₀ a fa) (hb : DE X G₀ H₀ b fb) : DE X G₀ H₀ (.BinOp a .Mod b pos) (f2 gMod fa fb) := de_op op_mod (od_int fun i j h => of_decide_eq_true h) ha hb
theorem de_pow (ha : DE X G₀ H₀ a fa) (hb : DE X G₀ H₀ b fb) : DE X G₀ H₀ (.BinOp a .Pow b pos) (f2 gPow fa fb) :=
  de_op op_pow (od_int fun i j h => by
    simp only [cPow, Bool.and_eq_true, decide_eq_true_eq] at h
    exact ⟨h.1.1, h.1.2, h.2⟩) ha hb
end
end DL
namespace DL
open PySem PySem.Spec PyProof.Rows L2
noncomputable def cDiv (_ j : Int) : Bool := decide (0 < j) && decide (j < 2 ^ 250)
theorem op_fdivB {X : Cx} : OpR X (binaryOp .FloorDiv) (rI (fun _ j => 0 < j ∧ j < 2 ^ 250) fun i j => .int (i / j)) := opI fun i j t u s Q E hc q => by
  have hne : j ≠ 0 := by omega
  refine floordiv_int hne ?_ (.inl (PyProof.noPylong_of_log2 ?_))
  · rw [Int.fdiv_eq_ediv_of_nonneg _ (by omega)]
    exact q
  · have h1 : j.natAbs < 2 ^ 9000 := Nat.lt_of_lt_of_le (m := 2 ^ 250) (by have := hc.2; omega) (Nat.pow_le_pow_right (by decide) (by decide))
    exact (Nat.log2_lt (by omega)).mpr h1
@[simp] noncomputable def gDiv := gI cDiv (· / ·)
theorem de_div {X : Cx} {G₀ H₀ : Hp} {pos : Pos} {a b : Expr} {fa fb : FE} (ha : DE X G₀ H₀ a fa) (hb : DE X G₀ H₀ b fb) : DE X G₀ H₀ (.BinOp a .FloorDiv b pos) (f2 gDiv fa fb) :=
  de_op op_fdivB (od_int fun i j h => by
    simp only [cDiv, Bool.and_eq_true, decide_eq_true_eq] at h
    exact h) ha hb
mutual
noncomputable def toPy : D → PyData
  | .non => .none
  | .bl b => .bool b
  | .int i => .int i
  | .tup ds => .tuple (toPyL ds)
  | .lst ds => .list (toPyL ds)
  | .scr ns => .list (ns.map .int)
  | .exc _ _ => .none
noncomputable def toPyL : List D → List PyData
  | [] => []
  | d :: ds => toPy d :: toPyL ds
end
noncomputable def eqD (x y : D) : Bool := PyData.eqv (toPy x) (toPy y)
noncomputable def eqDL (xs ys : List D) : Bool := PyData.eqvAll (toPyL xs) (toPyL ys)
noncomputable def shal : Nat → D → Bool
  | 0, .tup _ => false
  | 0, .lst _ => false
  | 0, _ => true
  | n + 1, .tup ds => ds.all (shal n)
  | n + 1, .lst ds => ds.all (shal n)
  | _ + 1, _ => true
theorem lay_ints : ∀ ns : List Int, PyData.canLayAll0 (ns.map .int) = true
  | [] => by simp [PyData.canLayAll0]
  | n :: ns => by simp only [List.map_cons, PyData.canLayAll0, PyData.canLay0, lay_ints ns, Bool.and_self]
mutual
theorem lay_ok : ∀ d : D, (toPy d).canLay0 = true
  | .non => by simp only [toPy, PyData.canLay0]
  | .bl _ => by simp only [toPy, PyData.canLay0]
  | .int _ => by simp only [toPy, PyData.canLay0]
  | .tup ds => by simp only [toPy, PyData.canLay0, layL_ok ds]
  | .lst ds => by simp only [toPy, PyData.canLay0, layL_ok ds]
  | .scr ns => by simp only [toPy, PyData.canLay0, lay_ints ns]
  | .exc _ _ => by simp only [toPy, PyData.canLay0]
theorem layL_ok : ∀ ds : List D, PyData.canLayAll0 (toPyL ds) = true
  | [] => by simp only [toPyL, PyData.canLayAll0]
  | d :: ds => by simp only [toPyL, PyData.canLayAll0, lay_ok d, layL_ok ds, Bool.and_self]
end
theorem depth_ints : ∀ ns : List Int, PyData.depthAll (ns.map .int) = 0
  | [] => by simp [PyData.depthAll]
  | n :: ns => by simp [PyData.depthAll, PyData.depth, depth_ints ns]
theorem depthL_le {n : Nat} : ∀ ds : List D, (∀ d ∈ ds, (toPy d).depth ≤ n) → PyData.depthAll (toPyL ds) ≤ n
  | [], _ => by simp [toPyL, PyData.depthAll]
  | d :: ds, h => by
    simp only [toPyL, PyData.depthAll]
    exact Nat.max_le.mpr ⟨h d (by simp), depthL_le ds fun x hx => h x (by simp [hx])⟩
theorem depth_le : ∀ (n : Nat) (d : D), shal n d = true → (toPy d).depth ≤ n + 1
  | n, .non, _ => by simp [toPy, PyData.depth]
  | n, .bl _, _ => by simp [toPy, PyData.depth]
  | n, .int _, _ => by simp [toPy, PyData.depth]
  | n, .scr ns, _ => by simp [toPy, PyData.depth, depth_ints ns]
  | n, .exc _ _, _ => by simp [toPy, PyData.depth]
  | 0, .tup ds, h => by simp [shal] at h
  | 0, .lst ds, h => by simp [shal] at h
  | n + 1, .tup ds, h => by
    simp only [toPy, PyData.depth]
    have := depthL_le (n := n + 1) ds fun d hd => depth_le n d (List.all_eq_true.mp (by simpa [shal] using h) d hd)
    omega
  | n + 1, .lst ds, h => by
    simp only [toPy, PyData.depth]
    have := depthL_le (n := n + 1) ds fun d hd => depth_le n d (List.all_eq_true.mp (by simpa [shal] using h) d hd)
    omega
section
variable {X : Cx} {pins : List (Addr × Obj)} {σ : St} {G H : Hp} {s : Shared}
theorem reads_ints {h : Heap} : ∀ {ns : List Int} {us : List Value}, Vals (ns.map V.int) us → ∃ as, ReadsAll h us (ns.map .int) as
  | [], us, r => by cases r; exact ⟨[], .nil⟩
  | n :: ns, us, r => by
    cases r with
    | cons r1 r2 =>
      obtain ⟨t, rfl⟩ := r1
      obtain ⟨as, q⟩ := reads_ints r2
      exact ⟨_, .cons (.int n t) q⟩
mutual
theorem reads_of (I : Inv X pins σ H s) (l : Same G H) : ∀ {d : D} {v : V} {u : Value}, Rep X.K G d v → RelV v u → ∃ as, Reads s.heap u (toPy d) as
  | .non, v, u, h, r => by cases (show v = .non from h); cases (show u = .none from r); exact ⟨[], by simp only [toPy]; exact .none⟩
  | .bl b, v, u, h, r => by cases (show v = .bl b from h); cases (show u = .bool b from r); exact ⟨[], by simp only [toPy]; exact .bool b⟩
  | .int i, v, u, h, r => by
    cases (show v = .int i from h)
    obtain ⟨t, rfl⟩ := (show ∃ t, u = .int i t from r)
    exact ⟨[], by simp only [toPy]; exact .int i t⟩
  | .tup ds, v, u, h, r => by
    obtain ⟨a, vs, rfl, g, q⟩ := h
    cases (show u = .ref a from r)
    obtain ⟨_, its, rv, ob, e, c, n, dd⟩ := I.hok a _ (l _ _ g)
    obtain ⟨as, z⟩ := readsL_of I l q rv
    exact ⟨as, by simp only [toPy]; exact .tuple e c dd (by simpa using z)⟩
  | .lst ds, v, u, h, r => by
    obtain ⟨a, vs, rfl, g, q⟩ := h
    cases (show u = .ref a from r)
    obtain ⟨_, its, n, rv, e⟩ := I.hok a _ (l _ _ g)
    obtain ⟨as, z⟩ := readsL_of I l q rv
    exact ⟨a :: as, by simp only [toPy]; exact .list e rfl rfl (by simpa using z)⟩
  | .scr ns, v, u, h, r => by
    obtain ⟨a, rfl, q⟩ := h
    cases (show u = .ref a from r)
    obtain ⟨its, rv, ⟨o, n, e, c, _, dd⟩, _⟩ := I.list (l.seq q)
    obtain ⟨as, z⟩ := reads_ints (h := s.heap) rv
    exact ⟨a :: as, by simp only [toPy]; exact .list e c dd (by simpa using z)⟩
  | .exc _ _, _, _, h, _ => h.elim
theorem readsL_of (I : Inv X pins σ H s) (l : Same G H) : ∀ {ds : List D} {vs : List V} {us : List Value}, RepL X.K G ds vs → Vals vs us → ∃ as, ReadsAll s.heap us (toPyL ds) as
  | [], vs, us, h, r => by
    cases (show vs = [] from h)
    cases r
    exact ⟨[], by simp only [toPyL]; exact .nil⟩
  | d :: ds, vs, us, h, r => by
    obtain ⟨v, vr, rfl, h1, h2⟩ := h
    cases r with
    | cons r1 r2 =>
      obtain ⟨as, q1⟩ := reads_of I l h1 r1
      obtain ⟨bs, q2⟩ := readsL_of I l h2 r2
      exact ⟨as ++ bs, by simp only [toPyL]; exact .cons q1 q2⟩
end
end
def RdV (K : PySem.W.Frag) (H : Hp) (v : V) (d : D) : Prop := (∃ G, Same G H ∧ Rep K G d v) ∨ ∃ a vs G ds, d = .lst ds ∧ v = .ref a ∧ H a = some (.lst vs) ∧ Same G H ∧ RepL K G ds vs
theorem Opd.rdv {K : PySem.W.Frag} {G₀ H₀ G H : Hp} {env : Ev} {σ : St} {v : V} {d : D} (I : DI K G₀ H₀ env σ G H) (h : Opd K env σ G v d) : RdV K H v d := by
  rcases h with h | ⟨i, ds, a, e1, e2, e3, e4⟩
  · exact .inl ⟨G, I.le, h⟩
  · subst e1
    obtain ⟨a', vs, e, h1, h2⟩ := Opd.lst I (.inr ⟨i, ds, a, rfl, e2, e3, e4⟩)
    exact .inr ⟨a', vs, G, ds, rfl, e, h1, I.le, h2⟩
theorem reads_rdv {X : Cx} {pins : List (Addr × Obj)} {σ : St} {H : Hp} {s : Shared} {v : V} {u : Value} {d : D} (I : Inv X pins σ H s) (h : RdV X.K H v d) (r : RelV v u) : ∃ as, Reads s.heap u (toPy d) as := by
  rcases h with ⟨G, l, h⟩ | ⟨a, vs, G, ds, rfl, rfl, g, l, q⟩
  · exact reads_of I l h r
  · cases (show u = .ref a from r)
    obtain ⟨_, its, n, rv, e⟩ := I.hok a _ g
    obtain ⟨as, z⟩ := readsL_of I l q rv
    exact ⟨a :: as, by simp only [toPy]; exact .list e rfl rfl (by simpa using z)⟩
noncomputable def rEqD (K : PySem.W.Frag) (neg : Bool) : R2 := fun x y H Q => ∃ d1 d2, RdV K H x d1 ∧ RdV K H y d2 ∧ (shal 4 d1 || shal 4 d2) = true ∧ Q (.bl (if neg then !eqD d1 d2 else eqD d1 d2)) H
theorem room_eq {u : Nat} {d1 d2 : D} (hu : u + 20 < cLine) (hs : (shal 4 d1 || shal 4 d2) = true) : u + min (toPy d1).depth (toPy d2).depth < cLine := by
  rw [Bool.or_eq_true] at hs
  rcases hs with h | h
  · have := depth_le 4 d1 h
    have := Nat.min_le_left (toPy d1).depth (toPy d2).depth
    omega
  · have := depth_le 4 d2 h
    have := Nat.min_le_right (toPy d1).depth (toPy d2).depth
    omega
theorem op_eqD {X : Cx} (hu : X.A.units + 20 < cLine) : OpR X (compareOp .Eq) (rEqD X.K false) := by
  intro pins s σ H x y v u Q I rx ry h
  obtain ⟨d1, d2, h1, h2, hs, q⟩ := h
  obtain ⟨as, ra⟩ := reads_rdv I h1 rx
  obtain ⟨bs, rb⟩ := reads_rdv I h2 ry
  exact SeqAt.compareEq_reads ra rb (lay_ok d1) (lay_ok d2) (room_eq hu hs) ⟨.bl _, H, I, rfl, q⟩
theorem op_neD {X : Cx} (hu : X.A.units + 20 < cLine) : OpR X (compareOp .NotEq) (rEqD X.K true) := by
  intro pins s σ H x y v u Q I rx ry h
  obtain ⟨d1, d2, h1, h2, hs, q⟩ := h
  obtain ⟨as, ra⟩ := reads_rdv I h1 rx
  obtain ⟨bs, rb⟩ := reads_rdv I h2 ry
  exact SeqAt.compareNe_reads ra rb (lay_ok d1) (lay_ok d2) (room_eq hu hs) ⟨.bl _, H, I, rfl, q⟩
@[simp] noncomputable def gEq : D → D → Out Val := fun x y => if (shal 4 x || shal 4 y) = true then .ok (.pers (.bl (eqD x y))) else .bad
@[simp] noncomputable def gNe : D → D → Out Val := fun x y => if (shal 4 x || shal 4 y) = true then .ok (.pers (.bl (!eqD x y))) else .bad
theorem od_eq {K : PySem.W.Frag} : OpD K (rEqD K false) gEq := by
  intro G₀ H₀ env σ G H v u d1 d2 val Q I o1 o2 e k
  unfold gEq at e
  split at e
  · rename_i hs
    cases e
    exact ⟨d1, d2, o1.rdv I, o2.rdv I, hs, k _ G H (Grow.refl _ _) I.le rfl⟩
  · cases e
theorem od_ne {K : PySem.W.Frag} : OpD K (rEqD K true) gNe := by
  intro G₀ H₀ env σ G H v u d1 d2 val Q I o1 o2 e k
  unfold gNe at e
  split at e
  · rename_i hs
    cases e
    exact ⟨d1, d2, o1.rdv I, o2.rdv I, hs, k _ G H (Grow.refl _ _) I.le rfl⟩
  · cases e
noncomputable def rInD (K : PySem.W.Frag) (neg : Bool) : R2 := fun x y H Q => ∃ d ds, RdV K H x d ∧ RdV K H y (.lst ds) ∧ shal 4 d = true ∧ Q (.bl (if neg then !ds.any (fun z => eqD z d) else ds.any (fun z => eqD z d))) H
theorem any_toPyL (d : D) : ∀ ds : List D, (toPyL ds).any (fun y => PyData.eqv y (toPy d)) = ds.any (fun z => eqD z d)
  | [] => by simp [toPyL]
  | x :: ds => by simp only [toPyL, List.any_cons, any_toPyL d ds]; rfl
theorem op_ninD {X : Cx} (hu : X.A.units + 20 < cLine) : OpR X (compareOp .NotIn) (rInD X.K true) := by
  intro pins s σ H x y v u Q I rx ry h
  obtain ⟨d, ds, h1, h2, hs, q⟩ := h
  obtain ⟨as, ra⟩ := reads_rdv I h1 rx
  obtain ⟨bs, rb⟩ := reads_rdv I h2 ry
  simp only [toPy] at rb
  refine SeqAt.notIn_list_reads rb ra (layL_ok ds) (lay_ok d) ?_ ⟨.bl _, H, I, rfl, ?_⟩
  · have := depth_le 4 d hs
    have := Nat.min_le_right (PyData.depthAll (toPyL ds)) (toPy d).depth
    omega
  · rw [any_toPyL]; exact q
@[simp] noncomputable def gIn : D → D → Out Val
  | x, .lst ds => if shal 4 x = true then .ok (.pers (.bl (ds.any fun z => eqD z x))) else .bad
  | _, _ => .bad
@[simp] noncomputable def gNin : D → D → Out Val
  | x, .lst ds => if shal 4 x = true then .ok (.pers (.bl (!ds.any fun z => eqD z x))) else .bad
  | _, _ => .bad
theorem od_nin {K : PySem.W.Frag} : OpD K (rInD K true) gNin := by
  intro G₀ H₀ env σ G H v u d1 d2 val Q I o1 o2 e k
  unfold gNin at e
  split at e
  · split at e
    · rename_i hs
      cases e
      exact ⟨_, _, o1.rdv I, o2.rdv I, hs, k _ G H (Grow.refl _ _) I.le rfl⟩
    · cases e
  · cases e
section
variable {X : Cx} {G₀ H₀ : Hp} {pos : Pos} {a b : Expr} {fa fb : FE}
theorem de_eq (hu : X.A.units + 20 < cLine) (ha : DE X G₀ H₀ a fa) (hb : DE X G₀ H₀ b fb) : DE X G₀ H₀ (.Compare a [.Eq] [b] pos) (f2 gEq fa fb) := de_cmp (op_eqD hu) od_eq ha hb (nomark _)
end
@[simp] noncomputable def gAdd : D → D → Out Val
  | .int i, .int j => .ok (.pers (.int (i + j)))
  | .lst xs, .lst ys => if xs.length + ys.length ≤ 100000 then .ok (.fresh (xs ++ ys)) else .bad
  | _, _ => .bad
theorem le_line {n : Nat} (h : n ≤ 100000) : n ≤ sizeLine := by rw [sizeLine_eq]; omega
theorem od_add {K : PySem.W.Frag} : OpD K (fun x y H Q => rI0 (fun i j => .int (i + j)) x y H Q ∨ rCat x y H Q) gAdd := by
  intro G₀ H₀ env σ G H v u d1 d2 val Q I o1 o2 e k
  unfold gAdd at e
  split at e
  · rename_i i j
    cases e
    exact .inl ⟨i, j, o1.int, o2.int, k _ G H (Grow.refl _ _) I.le rfl⟩
  · rename_i xs ys
    split at e
    · rename_i hz
      cases e
      obtain ⟨a, vs, e1, h1, r1⟩ := Opd.lst I o1
      obtain ⟨b, us, e2, h2, r2⟩ := Opd.lst I o2
      refine .inr ⟨a, b, vs, us, e1, e2, h1, h2, le_line (by rw [← r1.length, ← r2.length]; exact hz), fun p hp => ?_⟩
      have g := Grow.laidL (o := .lst (vs ++ us)) I.le hp
      exact k _ G _ g.1 g.2 (valFresh I.le hp (r1.append r2))
    · cases e
  · cases e
theorem de_add {X : Cx} {G₀ H₀ : Hp} {pos : Pos} {a b : Expr} {fa fb : FE} (ha : DE X G₀ H₀ a fa) (hb : DE X G₀ H₀ b fb) : DE X G₀ H₀ (.BinOp a .Add b pos) (f2 gAdd fa fb) := de_op (op_add.or op_cat) od_add ha hb
@[simp] noncomputable def gIx : D → D → Out Val
  | .tup ds, .int i => match atI ds i with | some d => .ok (.pers d) | none => .bad
  | .lst ds, .int i => match atI ds i with | some d => .ok (.pers d) | none => .bad
  | .scr ns, .int i => match atI ns i with | some n => .ok (.pers (.int n)) | none => .bad
  | _, _ => .bad
theorem atI_rep {K : PySem.W.Frag} {G : Hp} {ds : List D} {vs : List V} {i : Int} {d : D} (r : RepL K G ds vs) (h : atI ds i = some d) : ∃ v, atI vs i = some v ∧ Rep K G d v := by
  unfold atI at h ⊢
  rw [← r.length]
  cases q : ixN ds.length i with
  | none => rw [q] at h; cases h
  | some j =>
    rw [q] at h
    obtain ⟨v, h1, h2⟩ := r.get (i := j) (d := d) h
    exact ⟨v, h1, h2⟩
theorem atI_map {α β : Type} (f : α → β) (xs : List α) (i : Int) : atI (xs.map f) i = (atI xs i).map f := by
  unfold atI
  rw [List.length_map]
  cases ixN xs.length i with
  | none => rfl
  | some j => simp
theorem od_ix {K : PySem.W.Frag} : OpD K (fun x y H Q => rIxL K x y H Q ∨ rIxT K x y H Q ∨ rIxS x y H Q) gIx := by
  intro G₀ H₀ env σ G H v u d1 d2 val Q I o1 o2 e k
  unfold gIx at e
  split at e
  · rename_i ds i
    split at e
    · rename_i d hd
      cases e
      obtain ⟨a, vs, e1, h1, r1⟩ := Opd.tup I o1
      obtain ⟨w, hw, rw'⟩ := atI_rep r1 hd
      exact .inr (.inl ⟨a, vs, i, w, e1, o2.int, SqT.of h1, hw, k w G H (Grow.refl _ _) I.le rw'⟩)
    · cases e
  · rename_i ds i
    split at e
    · rename_i d hd
      cases e
      obtain ⟨a, vs, e1, h1, r1⟩ := Opd.lst I o1
      obtain ⟨w, hw, rw'⟩ := atI_rep r1 hd
      exact .inl ⟨a, vs, i, w, e1, o2.int, SqL.of h1, hw, k w G H (Grow.refl _ _) I.le rw'⟩
    · cases e
  · rename_i ns i
    split at e
    · rename_i n hn
      cases e
      obtain ⟨a, e1, h1⟩ := Opd.scr I o1
      exact .inl ⟨a, ns.map V.int, i, .int n, e1, o2.int, h1, by rw [atI_map, hn]; rfl, k (.int n) G H (Grow.refl _ _) I.le rfl⟩
    · cases e
  · cases e
theorem de_at {X : Cx} {G₀ H₀ : Hp} {pos : Pos} {a b : Expr} {fa fb : FE} (ha : DE X G₀ H₀ a fa) (hb : DE X G₀ H₀ b fb) (hs : PlainIx b := by intro _ _; rfl) : DE X G₀ H₀ (.Subscript a b pos) (f2 gIx fa fb) := de_ix ix_seq od_ix ha hb hs
noncomputable def cutD (xs : List D) (lo hi : Option Int) : List D := (xs.drop (HT.sIx xs.length 0 lo)).take (HT.sIx xs.length xs.length hi - HT.sIx xs.length 0 lo)
theorem cut_rep {K : PySem.W.Frag} {G : Hp} {ds : List D} {vs : List V} (lo hi : Option Int) (r : RepL K G ds vs) : RepL K G (cutD ds lo hi) (cutV vs lo hi) := by
  unfold cutD cutV
  rw [r.length]
  exact (r.drop _).take _
abbrev FO := Ev → Out (Option Int)
@[simp] noncomputable def fNo : FO := fun _ => .ok none
@[simp] noncomputable def fSo (f : FE) : FO := fun env => (f env).bind fun v => match v.d with
  | .int i => .ok (some i)
  | _ => .bad
def tO (K : PySem.W.Frag) (G₀ H₀ : Hp) (f : FO) : TO := fun σ H Q => ∃ env G o, DI K G₀ H₀ env σ G H ∧ f env = .ok o ∧ ∀ G' H', Grow G H G' H' → Same G' H' → Q o H'
def DO (X : Cx) (G₀ H₀ : Hp) (e : Option Expr) (f : FO) : Prop := PO X e (tO X.K G₀ H₀ f)
section
variable {X : Cx} {G₀ H₀ : Hp} {pos p2 : Pos} {a e : Expr} {lo hi : Option Expr} {fa f : FE} {fl fh : FO}
theorem do_none : DO X G₀ H₀ none fNo := fun pins s σ H Q I q => po_none pins s σ H Q I (by
  obtain ⟨env, G, o, J, h, k⟩ := q
  cases h
  exact k G H (Grow.refl _ _) J.le)
theorem do_some (h : DE X G₀ H₀ e f) : DO X G₀ H₀ (some e) (fSo f) := fun pins s σ H Q I q => po_some h pins s σ H Q I (by
  obtain ⟨env, G, o, J, h, k⟩ := q
  obtain ⟨x, e1, h⟩ := bind_inv h
  refine tE_one J e1 fun v G' H' g l J' ov => ?_
  split at h
  · rename_i i hi
    cases h
    rw [hi] at ov
    exact ⟨i, ov.int, k G' H' g l⟩
  · cases h)
@[simp] noncomputable def gSl : D → Option Int → Option Int → Out Val
  | .lst ds, lo, hi => .ok (.fresh (cutD ds lo hi))
  | .tup ds, lo, hi => if HT.sIx ds.length 0 lo = 0 ∧ HT.sIx ds.length ds.length hi = ds.length then .bad else .ok (.pers (.tup (cutD ds lo hi)))
  | _, _, _ => .bad
@[simp] noncomputable def fSl (fa : FE) (fl fh : FO) : FE := fun env => (fa env).bind fun x => (fl env).bind fun l => (fh env).bind fun h => gSl x.d l h
theorem de_sl (ha : DE X G₀ H₀ a fa) (hl : DO X G₀ H₀ lo fl) (hh : DO X G₀ H₀ hi fh) : DE X G₀ H₀ (.Subscript a (.Slice lo hi none p2) pos) (fSl fa fl fh) :=
  (pe_slice (sl_list.or sl_tup) ha hl hh).imp fun σ H Q q => by
    obtain ⟨env, G, val, I, e, k⟩ := q
    obtain ⟨x, e1, e⟩ := bind_inv e
    obtain ⟨l, e2, e⟩ := bind_inv e
    obtain ⟨h, e3, e⟩ := bind_inv e
    refine tE_one I e1 fun v G1 H1 g1 l1 I1 o1 => ⟨env, G1, l, I1, e2, fun G2 H2 g2 l2 => ⟨env, G2, h, I1.grow g2 l2, e3, fun G3 H3 g3 l3 => ?_⟩⟩
    have I3 := (I1.grow g2 l2).grow g3 l3
    have o3 := (o1.mono g2.g).mono g3.g
    have g03 := (g1.trans g2).trans g3
    generalize x.d = dx at e o3
    cases dx with
    | lst ds =>
      cases e
      obtain ⟨a', vs, ev, h1, r1⟩ := Opd.lst I3 o3
      refine .inl ⟨a', vs, ev, SqL.of h1, fun p hp => ?_⟩
      have g := Grow.laidL (o := .lst (cutV vs l h)) l3 hp
      exact k _ G3 _ (g03.trans g.1) g.2 ((valFresh l3 hp (cut_rep l h r1)).base g03.h)
    | tup ds =>
      have e' : (if HT.sIx ds.length 0 l = 0 ∧ HT.sIx ds.length ds.length h = ds.length then Out.bad else Out.ok (.pers (.tup (cutD ds l h)))) = Out.ok val := e
      split at e'
      · cases e'
      · rename_i hw
        cases e'
        obtain ⟨a', vs, ev, h1, r1⟩ := Opd.tup I3 o3
        refine .inr ⟨a', vs, ev, SqT.of h1, by rw [← r1.length]; exact hw, fun p hp => ?_⟩
        have g := Grow.laidT (o := .tup (cutV vs l h)) l3 hp
        exact k _ _ _ (g03.trans g.1) g.2 ((valTup l3 hp (cut_rep l h r1)).base g03.h)
    | non => cases e
    | bl b => cases e
    | int i => cases e
    | scr ns => cases e
    | exc c p => cases e
end
@[simp] noncomputable def fNil : Ev → Out (List Val) := fun _ => .ok []
@[simp] noncomputable def frz : Val → Val
  | .fresh ds => .pers (.lst ds)
  | v => v
@[simp] noncomputable def fCons (f : FE) (r : Ev → Out (List Val)) : Ev → Out (List Val) := fun env => (f env).bind fun x => (r env).bind fun xs => .ok (frz x :: xs)
@[simp] noncomputable def hNil : Ev → Out (List D) := fun _ => .ok []
@[simp] noncomputable def hCons (f : FE) (r : Ev → Out (List D)) : Ev → Out (List D) := fun env => (f env).bind fun x => x.hold.bind fun d => (r env).bind fun xs => .ok (d :: xs)
section
variable {K : PySem.W.Frag} {env : Ev} {σ : St} {G G' : Hp}
theorem ArgOk.mono {v : V} {x : Val} (h : ArgOk K env σ G v x) (s : Same G G') : ArgOk K env σ G' v x := by
  cases x with
  | pers d => exact Rep.mono s h
  | fresh ds => exact h
  | brw i ds => exact h
theorem ArgsOk.mono : ∀ {vs : List V} {xs : List Val}, ArgsOk K env σ G vs xs → Same G G' → ArgsOk K env σ G' vs xs
  | [], _, h, _ => h
  | v :: vs, xs, h, s => by
    obtain ⟨x, r, e, h1, h2⟩ := h
    exact ⟨x, r, e, h1.mono s, h2.mono s⟩
theorem argOk_of {val : Val} {v : V} {H H' : Hp} (g : Grow G H G' H') (l : Same G' H') (h : ValOk K H env σ G' H' v val) : ∃ G'', Grow G H G'' H' ∧ Same G'' H' ∧ ArgOk K env σ G'' v (frz val) := by
  cases val with
  | pers d => exact ⟨G', g, l, h⟩
  | brw i ds => exact ⟨G', g, l, h⟩
  | fresh ds => exact held g l h rfl
theorem ArgOk.opd {v : V} {x : Val} (h : ArgOk K env σ G v x) : Opd K env σ G v x.d := by
  cases x with
  | pers d => exact .inl h
  | fresh ds => exact h.elim
  | brw i ds => obtain ⟨a, e1, e2, e3⟩ := h; exact .inr ⟨i, ds, a, rfl, e1, e2, e3⟩
end
section
variable {X : Cx} {G₀ H₀ : Hp} {pos : Pos} {e : Expr} {es : List Expr} {f : FE} {r : Ev → Out (List Val)} {rh : Ev → Out (List D)}
theorem da_nil : DA X G₀ H₀ [] fNil := pa_nil.imp fun σ H Q q => by
  obtain ⟨env, G, vals, I, h, k⟩ := q
  cases h
  exact k [] G H (Grow.refl _ _) I.le rfl
theorem da_cons (he : DE X G₀ H₀ e f) (hr : DA X G₀ H₀ es r) (hs : starEach (e :: es) X.env = (false, eval e X.env) :: starEach es X.env := by rfl) : DA X G₀ H₀ (e :: es) (fCons f r) :=
  (pa_cons he hr hs).imp fun σ H Q q => by
    obtain ⟨env, G, vals, I, h, k⟩ := q
    obtain ⟨x, e1, h⟩ := bind_inv h
    obtain ⟨xs, e2, h⟩ := bind_inv h
    cases h
    refine ⟨env, G, x, I, e1, fun v G1 H1 g1 l1 o1 => ?_⟩
    obtain ⟨G2, g2, l2, a2⟩ := argOk_of g1 l1 o1
    exact ⟨env, G2, xs, I.grow g2 l2, e2, fun vs G3 H3 g3 l3 a3 => k (v :: vs) G3 H3 (g2.trans g3) l3 ⟨_, _, rfl, a2.mono g3.g, a3⟩⟩
theorem dh_nil : DH X G₀ H₀ [] hNil := pa_nil.imp fun σ H Q q => by
  obtain ⟨env, G, vals, I, h, k⟩ := q
  cases h
  exact k [] G H (Grow.refl _ _) I.le rfl
theorem dh_cons (he : DE X G₀ H₀ e f) (hr : DH X G₀ H₀ es rh) (hs : starEach (e :: es) X.env = (false, eval e X.env) :: starEach es X.env := by rfl) : DH X G₀ H₀ (e :: es) (hCons f rh) :=
  (pa_cons he hr hs).imp fun σ H Q q => by
    obtain ⟨env, G, vals, I, h, k⟩ := q
    obtain ⟨x, e1, h⟩ := bind_inv h
    obtain ⟨d, ed, h⟩ := bind_inv h
    obtain ⟨xs, e2, h⟩ := bind_inv h
    cases h
    refine ⟨env, G, x, I, e1, fun v G1 H1 g1 l1 o1 => ?_⟩
    obtain ⟨G2, g2, l2, a2⟩ := held g1 l1 o1 ed
    exact ⟨env, G2, xs, I.grow g2 l2, e2, fun vs G3 H3 g3 l3 a3 => k (v :: vs) G3 H3 (g2.trans g3) l3 (RepL.cons (a2.mono g3.g) a3)⟩
@[simp] noncomputable def fTup (r : Ev → Out (List D)) : FE := fun env => (r env).bind fun ds => if ds.length ≤ 1000 then .ok (.pers (.tup ds)) else .bad
@[simp] noncomputable def fLst (r : Ev → Out (List D)) : FE := fun env => (r env).bind fun ds => if ds.length ≤ 1000 then .ok (.fresh ds) else .bad
theorem de_tup {x1} (h : DH X G₀ H₀ es rh) : DE X G₀ H₀ (.Tuple es x1 pos) (fTup rh) := (pe_tup h).imp fun σ H Q q => by
  obtain ⟨env, G, val, I, e, k⟩ := q
  obtain ⟨ds, e1, e⟩ := bind_inv e
  split at e
  · rename_i hz
    cases e
    refine ⟨env, G, ds, I, e1, fun vs G1 H1 g1 l1 r1 => ⟨le_line (by rw [← r1.length]; omega), fun p hp => ?_⟩⟩
    have g := Grow.laidT (o := .tup vs) l1 hp
    exact k _ _ _ (g1.trans g.1) g.2 ((valTup l1 hp r1).base g1.h)
  · cases e
theorem de_lst (h : DH X G₀ H₀ es rh) : DE X G₀ H₀ (.List es pos) (fLst rh) := (pe_lst h).imp fun σ H Q q => by
  obtain ⟨env, G, val, I, e, k⟩ := q
  obtain ⟨ds, e1, e⟩ := bind_inv e
  split at e
  · rename_i hz
    cases e
    refine ⟨env, G, ds, I, e1, fun vs G1 H1 g1 l1 r1 => ⟨le_line (by rw [← r1.length]; omega), fun p hp => ?_⟩⟩
    have g := Grow.laidL (o := .lst vs) l1 hp
    exact k _ _ _ (g1.trans g.1) g.2 ((valFresh l1 hp r1).base g1.h)
  · cases e
end
def CallD (K : PySem.W.Frag) (r : List V → Hp → VK → Prop) (g : List D → Out Val) : Prop :=
  ∀ (G₀ H₀ : Hp) (env : Ev) (σ : St) (G H : Hp) (vs : List V) (xs : List Val) (val : Val) (Q : VK), DI K G₀ H₀ env σ G H → ArgsOk K env σ G vs xs → g (xs.map Val.d) = .ok val →
    (∀ w G' H', Grow G H G' H' → Same G' H' → ValOk K H env σ G' H' w val → Q w H') → r vs H Q
@[simp] noncomputable def fB (g : List D → Out Val) (r : Ev → Out (List Val)) : FE := fun env => (r env).bind fun xs => g (xs.map Val.d)
section
variable {X : Cx} {G₀ H₀ : Hp} {x : Str} {p pos : Pos} {e : Expr} {es : List Expr} {f : Ev → Out (List Val)} {id T : String} {r : List V → Hp → VK → Prop} {g : List D → Out Val}
theorem impB (hd : CallD X.K r g) (σ : St) (H : Hp) (Q : VK) (q : tE X.K G₀ H₀ (fB g f) σ H Q) : tCB r (tA X.K G₀ H₀ f) σ H Q := by
  obtain ⟨env, G, val, I, e, k⟩ := q
  obtain ⟨xs, e1, e⟩ := bind_inv e
  exact ⟨env, G, xs, I, e1, fun vs G1 H1 g1 l1 a1 => hd G₀ H₀ env σ G1 H1 vs xs val Q (I.grow g1 l1) a1 e fun w G2 H2 g2 l2 h2 => k w G2 H2 (g1.trans g2) l2 (h2.base g1.h)⟩
theorem de_callB (hc : CallR X (.builtin id) r) (hd : CallD X.K r g) (hm : X.mg x = none) (hv : bootBuiltins x = some (.builtin id)) (ha : DA X G₀ H₀ (e :: es) f) (hg : Gl X x := by rfl) (hn : x ≠ "__name__" := by decide) (hdb : (x == ("__debug__" : Str)) = false := by decide)
    (he : starEach (e :: es) X.env = (false, eval e X.env) :: starEach es X.env := by rfl) (hpl : (backTo pos (starEach es X.env)).any (·.1) = false := by rfl) : DE X G₀ H₀ (.Call (.Name x p) (e :: es) [] pos) (fB g f) :=
  (pe_callB hc hg hm hv ha hn hdb he hpl).imp (impB hd)
theorem de_callT (hc : CallR X (.type T) r) (hd : CallD X.K r g) (hm : X.mg x = none) (hv : bootBuiltins x = some (.type T)) (ha : DA X G₀ H₀ (e :: es) f) (hg : Gl X x := by rfl) (hn : x ≠ "__name__" := by decide) (hdb : (x == ("__debug__" : Str)) = false := by decide)
    (he : starEach (e :: es) X.env = (false, eval e X.env) :: starEach es X.env := by rfl) (hpl : (backTo pos (starEach es X.env)).any (·.1) = false := by rfl) : DE X G₀ H₀ (.Call (.Name x p) (e :: es) [] pos) (fB g f) :=
  (pe_callTy hc hg hm hv ha hn hdb he hpl).imp (impB hd)
end
theorem args1 {K : PySem.W.Frag} {env : Ev} {σ : St} {G : Hp} {vs : List V} {xs : List Val} {d : D} (h : ArgsOk K env σ G vs xs) (e : xs.map Val.d = [d]) : ∃ v, vs = [v] ∧ Opd K env σ G v d := by
  cases vs with
  | nil => cases (show xs = [] from h); cases e
  | cons v vs =>
    obtain ⟨x, r, rfl, h1, h2⟩ := h
    simp only [List.map_cons, List.cons.injEq, List.map_eq_nil_iff] at e
    obtain ⟨rfl, rfl⟩ := e
    cases vs with
    | nil => exact ⟨v, rfl, h1.opd⟩
    | cons v' vs => obtain ⟨_, _, e, _⟩ := h2; cases e
theorem args2 {K : PySem.W.Frag} {env : Ev} {σ : St} {G : Hp} {vs : List V} {xs : List Val} {d d' : D} (h : ArgsOk K env σ G vs xs) (e : xs.map Val.d = [d, d']) : ∃ v v', vs = [v, v'] ∧ Opd K env σ G v d ∧ Opd K env σ G v' d' := by
  cases vs with
  | nil => cases (show xs = [] from h); cases e
  | cons v vs =>
    obtain ⟨x, r, rfl, h1, h2⟩ := h
    simp only [List.map_cons, List.cons.injEq] at e
    obtain ⟨rfl, e⟩ := e
    obtain ⟨v', rfl, o⟩ := args1 h2 e
    exact ⟨v, v', rfl, h1.opd, o⟩
@[simp] noncomputable def gLen : List D → Out Val
  | [.lst ds] => .ok (.pers (.int ds.length))
  | [.tup ds] => .ok (.pers (.int ds.length))
  | [.scr ns] => .ok (.pers (.int ns.length))
  | _ => .bad
theorem cd_len {K : PySem.W.Frag} : CallD K (fun xs H Q => ∃ p ys, xs = [.ref p] ∧ (SqL K H p ys ∨ SqT K H p ys) ∧ Q (.int ys.length) H) gLen := by
  intro G₀ H₀ env σ G H vs xs val Q I a e k
  unfold gLen at e
  split at e
  · rename_i ds hx
    cases e
    obtain ⟨v, rfl, o⟩ := args1 a hx
    obtain ⟨p, us, rfl, h1, r1⟩ := Opd.lst I o
    refine ⟨p, us, rfl, .inl (SqL.of h1), ?_⟩
    rw [← r1.length]
    exact k _ G H (Grow.refl _ _) I.le rfl
  · rename_i ds hx
    cases e
    obtain ⟨v, rfl, o⟩ := args1 a hx
    obtain ⟨p, us, rfl, h1, r1⟩ := Opd.tup I o
    refine ⟨p, us, rfl, .inr (SqT.of h1), ?_⟩
    rw [← r1.length]
    exact k _ G H (Grow.refl _ _) I.le rfl
  · rename_i ns hx
    cases e
    obtain ⟨v, rfl, o⟩ := args1 a hx
    obtain ⟨p, rfl, h1⟩ := Opd.scr I o
    refine ⟨p, _, rfl, .inl h1, ?_⟩
    rw [List.length_map]
    exact k _ G H (Grow.refl _ _) I.le rfl
  · cases e
@[simp] noncomputable def gMin2 : List D → Out Val
  | [.int i, .int j] => .ok (.pers (.int (if j < i then j else i)))
  | _ => .bad
theorem cd_min2 {K : PySem.W.Frag} : CallD K (fun xs H Q => ∃ i j, xs = [.int i, .int j] ∧ Q (.int (if j < i then j else i)) H) gMin2 := by
  intro G₀ H₀ env σ G H vs xs val Q I a e k
  unfold gMin2 at e
  split at e
  · rename_i i j hx
    cases e
    obtain ⟨v, v', rfl, o, o'⟩ := args2 a hx
    exact ⟨i, j, by rw [o.int, o'.int], k _ G H (Grow.refl _ _) I.le rfl⟩
  · cases e
@[simp] noncomputable def gList : List D → Out Val
  | [.lst ds] => .ok (.fresh ds)
  | [.tup ds] => .ok (.fresh ds)
  | _ => .bad
theorem cd_list {K : PySem.W.Frag} : CallD K (fun xs H Q => ∃ p ys, xs = [.ref p] ∧ (SqL K H p ys ∨ SqT K H p ys) ∧ ∀ l, H l = none → Q (.ref l) (upd H l (.lst ys))) gList := by
  intro G₀ H₀ env σ G H vs xs val Q I a e k
  unfold gList at e
  split at e
  · rename_i ds hx
    cases e
    obtain ⟨v, rfl, o⟩ := args1 a hx
    obtain ⟨p, us, rfl, h1, r1⟩ := Opd.lst I o
    refine ⟨p, us, rfl, .inl (SqL.of h1), fun l hl => ?_⟩
    have g := Grow.laidL (o := .lst us) I.le hl
    exact k _ G _ g.1 g.2 (valFresh I.le hl r1)
  · rename_i ds hx
    cases e
    obtain ⟨v, rfl, o⟩ := args1 a hx
    obtain ⟨p, us, rfl, h1, r1⟩ := Opd.tup I o
    refine ⟨p, us, rfl, .inr (SqT.of h1), fun l hl => ?_⟩
    have g := Grow.laidL (o := .lst us) I.le hl
    exact k _ G _ g.1 g.2 (valFresh I.le hl r1)
  · cases e
end DL
namespace DL
open PySem PySem.Spec PyProof.Rows L2
@[simp] noncomputable def fTrB (f : FE) : FT := fun env => (f env).bind fun x => match x.d with
  | .bl b => .ok b
  | _ => .bad
@[simp] noncomputable def fAnd (f g : FT) : FT := fun env => (f env).bind fun c => if c = true then g env else .ok false
section
variable {X : Cx} {G₀ H₀ : Hp} {pos : Pos} {a b : Expr} {fa fb : FE} {ft fu : FT} {rest : List Expr}
theorem tE_bool {f : FE} {K : PySem.W.Frag} {σ : St} {H : Hp} {Q : Bool → Hp → Prop} (q : tT K G₀ H₀ (fTrB f) σ H Q) : tE K G₀ H₀ f σ H fun x H' => ∃ k, x = .bl k ∧ Q k H' := by
  obtain ⟨env, G, c, I, e, k⟩ := q
  obtain ⟨x, e1, e⟩ := bind_inv e
  refine tE_one I e1 fun v G' H' g l I' o => ?_
  split at e
  · rename_i b hd
    cases e
    rw [hd] at o
    exact ⟨c, o.bl, k G' H' g l⟩
  · cases e
theorem dt_cmp {op : CmpOp} {r : R2} {g : D → D → Out Val} (ho : OpR X (compareOp op) r) (hd : OpD X.K r g) (ha : DE X G₀ H₀ a fa) (hb : DE X G₀ H₀ b fb) (hm : behindInMarks op b = false) : DT X G₀ H₀ (.Compare a [op] [b] pos) (fTrB (f2 g fa fb)) :=
  (pt_cmpR ho ha hb hm).imp fun σ H Q q => imp2 hd σ H _ (tE_bool q)
theorem dt_lt (ha : DE X G₀ H₀ a fa) (hb : DE X G₀ H₀ b fb) : DT X G₀ H₀ (.Compare a [.Lt] [b] pos) (fTrB (f2 gLt fa fb)) := dt_cmp op_lt od_intB ha hb (nomark _)
theorem dt_gt (ha : DE X G₀ H₀ a fa) (hb : DE X G₀ H₀ b fb) : DT X G₀ H₀ (.Compare a [.Gt] [b] pos) (fTrB (f2 gGt fa fb)) := dt_cmp op_gt od_intB ha hb (nomark _)
theorem dt_eq (hu : X.A.units + 20 < cLine) (ha : DE X G₀ H₀ a fa) (hb : DE X G₀ H₀ b fb) : DT X G₀ H₀ (.Compare a [.Eq] [b] pos) (fTrB (f2 gEq fa fb)) := dt_cmp (op_eqD hu) od_eq ha hb (nomark _)
theorem dt_ne (hu : X.A.units + 20 < cLine) (ha : DE X G₀ H₀ a fa) (hb : DE X G₀ H₀ b fb) : DT X G₀ H₀ (.Compare a [.NotEq] [b] pos) (fTrB (f2 gNe fa fb)) := dt_cmp (op_neD hu) od_ne ha hb (nomark _)
theorem dt_nin (hu : X.A.units + 20 < cLine) (ha : DE X G₀ H₀ a fa) (hb : DE X G₀ H₀ b fb) (hm : behindInMarks .NotIn b = false := by with_unfolding_all rfl) : DT X G₀ H₀ (.Compare a [.NotIn] [b] pos) (fTrB (f2 gNin fa fb)) := dt_cmp (op_ninD hu) od_nin ha hb hm
theorem dw_and1 (ha : DT X G₀ H₀ a ft) : DW X G₀ H₀ (.BoolOp .And [a] pos) ft := pw_and1 ha
theorem dw_and (ha : DT X G₀ H₀ a ft) (hb : DW X G₀ H₀ (.BoolOp .And (b :: rest) pos) fu) : DW X G₀ H₀ (.BoolOp .And (a :: b :: rest) pos) (fAnd ft fu) :=
  (pw_and ha hb).imp fun σ H Q q => by
    obtain ⟨env, G, c, I, e, k⟩ := q
    obtain ⟨x, e1, e⟩ := bind_inv e
    refine ⟨env, G, x, I, e1, fun G' H' g l => ?_⟩
    cases x with
    | true => exact ⟨env, G', c, I.grow g l, e, fun G2 H2 g2 l2 => k G2 H2 (g.trans g2) l2⟩
    | false => cases e; exact k G' H' g l
theorem dt_w (h : DW X G₀ H₀ a ft) : DT X G₀ H₀ a ft := PW.pt h
end
theorem getSet_eq {α : Type} {l : List α} {i : Nat} {x s : α} (h : (l.set i x)[i]? = some s) : s = x ∧ i < l.length := by
  rw [List.getElem?_set] at h
  simp at h
  exact ⟨h.2.symm, h.1⟩
section
variable {K : PySem.W.Frag} {G₀ H₀ G H : Hp} {env : Ev} {σ : St}
theorem DI.setP (I : DI K G₀ H₀ env σ G H) {d : D} {v : V} (i : Nat) (r : Rep K G d v) : DI K G₀ H₀ (env.set i (.pers d)) (σ.set i (some v)) G H where
  le := I.le
  gr := I.gr
  len := by simp [I.len]
  slot := fun j s e => by
    by_cases hj : i = j
    · subst hj
      obtain ⟨rfl, hl⟩ := getSet_eq e
      exact ⟨v, by rw [List.getElem?_set]; simp [I.len ▸ hl], r⟩
    · rw [List.getElem?_set_ne hj] at e
      have q := I.slot j s e
      cases s with
      | un => trivial
      | pers d' => obtain ⟨u, h1, h2⟩ := q; exact ⟨u, by rw [List.getElem?_set_ne hj]; exact h1, h2⟩
      | own ds => obtain ⟨a, vs, o⟩ := q; exact ⟨a, vs, by rw [List.getElem?_set_ne hj]; exact o.at_, o.hp, o.gn, o.new, o.rep⟩
  apart := fun j k ds es a hjk e1 e2 s1 s2 => by
    have nj : i ≠ j := fun z => by subst z; cases (getSet_eq e1).1
    have nk : i ≠ k := fun z => by subst z; cases (getSet_eq e2).1
    rw [List.getElem?_set_ne nj] at e1 s1
    rw [List.getElem?_set_ne nk] at e2 s2
    exact I.apart j k ds es a hjk e1 e2 s1 s2
theorem DI.setO (I : DI K G₀ H₀ env σ G H) {ds : List D} {vs : List V} {a : Addr} (i : Nat) (ha : H a = some (.lst vs)) (hg : G a = none) (h0 : H₀ a = none) (r : RepL K G ds vs)
    (ne : ∀ (j : Nat) (es : List D), env[j]? = some (.own es) → σ[j]? ≠ some (some (.ref a))) : DI K G₀ H₀ (env.set i (.own ds)) (σ.set i (some (.ref a))) G H where
  le := I.le
  gr := I.gr
  len := by simp [I.len]
  slot := fun j s e => by
    by_cases hj : i = j
    · subst hj
      obtain ⟨rfl, hl⟩ := getSet_eq e
      exact ⟨a, vs, by rw [List.getElem?_set]; simp [I.len ▸ hl], ha, hg, h0, r⟩
    · rw [List.getElem?_set_ne hj] at e
      have q := I.slot j s e
      cases s with
      | un => trivial
      | pers d' => obtain ⟨u, h1, h2⟩ := q; exact ⟨u, by rw [List.getElem?_set_ne hj]; exact h1, h2⟩
      | own ds => obtain ⟨a, vs, o⟩ := q; exact ⟨a, vs, by rw [List.getElem?_set_ne hj]; exact o.at_, o.hp, o.gn, o.new, o.rep⟩
  apart := fun j k ds' es b hjk e1 e2 s1 s2 => by
    by_cases hj : i = j
    · subst hj
      have hl := (getSet_eq e1).2
      rw [List.getElem?_set] at s1
      simp [I.len ▸ hl] at s1
      subst s1
      rw [List.getElem?_set_ne hjk] at e2 s2
      exact ne k es e2 s2
    · by_cases hk : i = k
      · subst hk
        have hl := (getSet_eq e2).2
        rw [List.getElem?_set] at s2
        simp [I.len ▸ hl] at s2
        subst s2
        rw [List.getElem?_set_ne hj] at e1 s1
        exact ne j ds' e1 s1
      · rw [List.getElem?_set_ne hj] at e1 s1
        rw [List.getElem?_set_ne hk] at e2 s2
        exact I.apart j k ds' es b hjk e1 e2 s1 s2
theorem DI.mut (I : DI K G₀ H₀ env σ G H) {i : Nat} {ds ds' : List D} {a : Addr} {vs vs' : List V} (e : env[i]? = some (.own ds)) (o : SlotOwn K H₀ σ G H i ds a vs) (r : RepL K G ds' vs') :
    DI K G₀ H₀ (env.set i (.own ds')) σ G (upd H a (.lst vs')) where
  le := fun b u q => by rw [upd_ne (ne_of_none q o.gn)]; exact I.le b u q
  gr := ⟨I.gr.g, fun b u q => by rw [upd_ne (ne_of_none q o.new)]; exact I.gr.h b u q, I.gr.n⟩
  len := by simp [I.len]
  slot := fun j s e' => by
    by_cases hj : i = j
    · subst hj
      obtain ⟨rfl, hl⟩ := getSet_eq e'
      exact ⟨a, vs', o.at_, upd_same, o.gn, o.new, r⟩
    · rw [List.getElem?_set_ne hj] at e'
      have q := I.slot j s e'
      cases s with
      | un => trivial
      | pers d' => exact q
      | own es =>
        obtain ⟨b, us, p⟩ := q
        have hb : b ≠ a := fun z => by subst z; exact I.apart i j ds es b hj e e' o.at_ p.at_
        exact ⟨b, us, p.at_, by rw [upd_ne hb]; exact p.hp, p.gn, p.new, p.rep⟩
  apart := fun j k ds' es b hjk e1 e2 s1 s2 => by
    have h1 : ∃ ds1, env[j]? = some (.own ds1) := by
      by_cases hj : i = j
      · subst hj; exact ⟨_, e⟩
      · rw [List.getElem?_set_ne hj] at e1; exact ⟨_, e1⟩
    have h2 : ∃ ds1, env[k]? = some (.own ds1) := by
      by_cases hk : i = k
      · subst hk; exact ⟨_, e⟩
      · rw [List.getElem?_set_ne hk] at e2; exact ⟨_, e2⟩
    obtain ⟨x1, h1⟩ := h1
    obtain ⟨x2, h2⟩ := h2
    exact I.apart j k x1 x2 b hjk h1 h2 s1 s2
end
theorem EndOk.mono {K : PySem.W.Frag} {G₀ H₀ G G' : Hp} {D : Ends} {r : Res} (h : EndOk K G₀ H₀ G D r) (s : Same G G') : EndOk K G₀ H₀ G' D r := by
  cases r with
  | next env => exact fun σ' G2 H2 s2 I2 => h σ' G2 H2 (s.trans s2) I2
  | ret v => exact h
@[simp] noncomputable def setS (i : Nat) (fz : Bool) (f : FE) : FS := fun env => (f env).bind fun x => match x with
  | .pers d => .ok (.next (env.set i (.pers d)))
  | .fresh ds => .ok (.next (env.set i (if fz then .pers (.lst ds) else .own ds)))
  | .brw _ _ => .bad
section
variable {K : PySem.W.Frag} {G₀ H₀ : Hp}
theorem store_imp {i : Nat} {fz : Bool} {f : FE} {D : Ends} {σ : St} {H : Hp} (q : tS K G₀ H₀ (setS i fz f) D σ H) : tE K G₀ H₀ f σ H fun x H1 => D.nx (σ.set i (some x)) H1 := by
  obtain ⟨env, G, r, I, e, k⟩ := q
  obtain ⟨x, e1, e⟩ := bind_inv e
  refine ⟨env, G, x, I, e1, fun v G' H' g l h => ?_⟩
  have I' := I.grow g l
  cases x with
  | pers d =>
    cases e
    exact k _ G' H' g.g (I'.setP i h)
  | brw j ds => cases e
  | fresh ds =>
    cases e
    cases fz with
    | true =>
      obtain ⟨G2, g2, l2, h2⟩ := held g l h rfl
      exact k _ G2 H' g2.g ((I.grow g2 l2).setP i h2)
    | false =>
      obtain ⟨a, vs, rfl, h1, h2, h3, h4⟩ := h
      refine k _ G' H' g.g (I'.setO i h2 h3 (I.gr.h.free h1) h4 fun j es e2 s2 => ?_)
      obtain ⟨b, us, o⟩ := I.own e2
      have z := o.at_
      rw [s2] at z
      cases z
      have z := o.hp
      rw [h1] at z
      cases z
end
section
variable {X : Cx} {G₀ H₀ : Hp} {pos : Pos}
theorem ds_set {i : Nat} {x : Str} {e : Expr} {f : FE} {pos' : Pos} (fz : Bool) (hN : X.N.Nodup) (he : DE X G₀ H₀ e f) (hi : X.N[i]? = some x := by rfl) (hx : Loc X.env.scope x := by first | exact Or.inl rfl | exact Or.inr rfl)
    (hs : swapsWith e (some (.Name x pos')) pos.line X.env = pure false := by rfl) (hf : X.fn x = true ∨ X.env.scope.names.lookup x = some .local := by first | exact .inl rfl | exact .inr rfl) :
    DS X G₀ H₀ (.Assign [.Name x pos'] e pos) (setS i fz f) := (ps_set hN hi hx he hs hf).imp fun D σ H q => store_imp q
end
def tG (K : PySem.W.Frag) (G₀ H₀ : Hp) (g : D → Ev → Out Ev) : TG := fun v σ H Q => ∃ env G d env', DI K G₀ H₀ env σ G H ∧ Rep K G d v ∧ g d env = .ok env' ∧ ∀ σ', DI K G₀ H₀ env' σ' G H → Q σ' H
@[simp] noncomputable def setAll : List Nat → List D → Ev → Ev
  | i :: is, d :: ds, env => setAll is ds (env.set i (.pers d))
  | _, _, env => env
noncomputable def tGs (K : PySem.W.Frag) (G₀ H₀ : Hp) (is : List Nat) : TGs := fun vs σ H Q => ∃ env G ds, DI K G₀ H₀ env σ G H ∧ RepL K G ds vs ∧ ds.length = is.length ∧ ∀ σ', DI K G₀ H₀ (setAll is ds env) σ' G H → Q σ' H
def DG (X : Cx) (G₀ H₀ : Hp) (tg : Expr) (g : D → Ev → Out Ev) : Prop := PG X tg (tG X.K G₀ H₀ g)
def DGs (X : Cx) (G₀ H₀ : Hp) (ts : List Expr) (is : List Nat) : Prop := PGs X ts (tGs X.K G₀ H₀ is)
@[simp] noncomputable def gN (i : Nat) : D → Ev → Out Ev := fun d env => .ok (env.set i (.pers d))
@[simp] noncomputable def gT (is : List Nat) : D → Ev → Out Ev := fun d env => match d with
  | .tup ds => if ds.length = is.length then .ok (setAll is ds env) else .bad
  | _ => .bad
section
variable {X : Cx} {G₀ H₀ : Hp} {pos : Pos}
theorem dg_name {i : Nat} {x : Str} (hN : X.N.Nodup) (hi : X.N[i]? = some x := by rfl) (hx : Loc X.env.scope x := by first | exact Or.inl rfl | exact Or.inr rfl) (hf : X.fn x = true ∨ X.env.scope.names.lookup x = some .local := by first | exact .inl rfl | exact .inr rfl) :
    DG X G₀ H₀ (.Name x pos) (gN i) := fun pins s σ H v u Q I r q => pg_name hN hi hx hf pins s σ H v u Q I r (by
  obtain ⟨env, G, d, env', J, h, e, k⟩ := q
  cases e
  exact k _ (J.setP i h))
theorem dgs_nil : DGs X G₀ H₀ [] [] := fun pins s σ H vs us Q I r q => pgs_nil pins s σ H vs us Q I r (by
  obtain ⟨env, G, ds, J, h, e, k⟩ := q
  cases ds with
  | nil => cases (show vs = [] from h); exact ⟨rfl, k σ J⟩
  | cons d ds => cases e)
theorem dgs_cons {i : Nat} {x : Str} {es : List Expr} {is : List Nat} (hN : X.N.Nodup) (hr : DGs X G₀ H₀ es is) (hi : X.N[i]? = some x := by rfl) (hx : Loc X.env.scope x := by first | exact Or.inl rfl | exact Or.inr rfl) (hf : X.fn x = true ∨ X.env.scope.names.lookup x = some .local := by first | exact .inl rfl | exact .inr rfl)
    (hs : (assignEach (.Name x pos :: es) X.env).map (·.2) = assign (.Name x pos) X.env :: (assignEach es X.env).map (·.2) := by rfl) :
    DGs X G₀ H₀ (.Name x pos :: es) (i :: is) := fun pins s σ H vs us Q I r q => pgs_cons (pg_name hN hi hx hf) hr hs pins s σ H vs us Q I r (by
  obtain ⟨env, G, ds, J, h, e, k⟩ := q
  cases ds with
  | nil => cases e
  | cons d ds =>
    obtain ⟨v, vr, rfl, h1, h2⟩ := h
    exact ⟨v, vr, rfl, env.set i (.pers d), G, ds, J.setP i h1, h2, by simpa using e, k⟩)
theorem dg_tup {es : List Expr} {k : Nat} {is : List Nat} (hc : X.calm = true) (h : DGs X G₀ H₀ es is) (hn : (assignEach es X.env).length = is.length := by rfl) (hst : (assignEach es X.env).findIdx? (·.1) = none := by rfl) :
    DG X G₀ H₀ (.Tuple es k pos) (gT is) := fun pins s σ H v u Q I r q => pg_tup hc h hn hst pins s σ H v u Q I r (by
  obtain ⟨env, G, d, env', J, h, e, k⟩ := q
  unfold gT at e
  split at e
  · rename_i ds
    split at e
    · rename_i hl
      cases e
      obtain ⟨a, vs, e1, h1, r1⟩ := h
      exact ⟨a, vs, e1, SqT.of (J.le _ _ h1), by rw [← r1.length]; exact hl, env, G, ds, J, r1, hl, k⟩
    · cases e
  · cases e)
@[simp] noncomputable def asgS (g : D → Ev → Out Ev) (f : FE) : FS := fun env => (f env).bind fun x => x.hold.bind fun d => (g d env).bind fun env' => .ok (.next env')
theorem ds_asg {tg e : Expr} {f : FE} {g : D → Ev → Out Ev} (he : DE X G₀ H₀ e f) (hg : DG X G₀ H₀ tg g) (hs : swapsWithSole [tg] e pos.line X.env = pure false := by rfl) (hw : swappedStores [tg] e X.env = pure none := by rfl)
    (h1 : (assignEach [tg] X.env).map (·.2) = [assign tg X.env] := by rfl) : DS X G₀ H₀ (.Assign [tg] e pos) (asgS g f) := (ps_asg he hg hs hw h1).imp fun D σ H q => by
  obtain ⟨env, G, r, I, e, k⟩ := q
  obtain ⟨x, e1, e⟩ := bind_inv e
  obtain ⟨d, e2, e⟩ := bind_inv e
  obtain ⟨env', e3, e⟩ := bind_inv e
  cases e
  refine ⟨env, G, x, I, e1, fun v G' H' g l h => ?_⟩
  obtain ⟨G2, g2, l2, h2⟩ := held g l h e2
  exact ⟨env, G2, d, env', I.grow g2 l2, h2, e3, fun σ' I' => k σ' G2 H' g2.g I'⟩
end
@[simp] noncomputable def retS (f : FE) : FS := fun env => (f env).bind fun x => match x with
  | .brw _ ds => .ok (.ret (.fresh ds))
  | x => .ok (.ret x)
@[simp] noncomputable def nxtS : FS := fun env => .ok (.next env)
@[simp] noncomputable def ifS (ft : FT) (f g : FS) : FS := fun env => (ft env).bind fun c => if c = true then f env else g env
@[simp] noncomputable def seqS (f g : FS) : FS := fun env => (f env).bind fun r => match r with
  | .next env' => g env'
  | .ret v => .ok (.ret v)
section
variable {X : Cx} {G₀ H₀ : Hp} {pos : Pos}
theorem ds_ret {e : Expr} {f : FE} (he : DE X G₀ H₀ e f) : DS X G₀ H₀ (.Return (some e) pos) (retS f) := (ps_ret he).imp fun D σ H q => by
  obtain ⟨env, G, r, I, e, k⟩ := q
  obtain ⟨x, e1, e⟩ := bind_inv e
  refine ⟨env, G, x, I, e1, fun v G' H' g l h => ?_⟩
  cases x with
  | pers d => cases e; exact k v G' H' (I.gr.trans g) l h
  | fresh ds =>
    cases e
    obtain ⟨a, vs, rfl, h1, h2⟩ := h
    exact k _ G' H' (I.gr.trans g) l ⟨a, vs, rfl, I.gr.h.free h1, h2⟩
  | brw i ds =>
    cases e
    obtain ⟨a, rfl, e2, e3⟩ := h
    obtain ⟨b, vs, o⟩ := (I.grow g l).own e2
    have z := o.at_
    rw [e3] at z
    cases z
    exact k _ G' H' (I.gr.trans g) l ⟨a, vs, rfl, o.new, o.hp, o.gn, o.rep⟩
theorem ds_if {c : Expr} {a b : List Stmt} {ft : FT} {f g : FS} (hc : DT X G₀ H₀ c ft) (ha : DSs X G₀ H₀ a f) (hb : DSs X G₀ H₀ b g) : DS X G₀ H₀ (.If c a b pos) (ifS ft f g) := (ps_if hc ha hb).imp fun D σ H q => by
  obtain ⟨env, G, r, I, e, k⟩ := q
  obtain ⟨x, e1, e⟩ := bind_inv e
  refine ⟨env, G, x, I, e1, fun G' H' g l => ?_⟩
  cases x with
  | true => exact iteT ⟨env, G', r, I.grow g l, e, k.mono g.g⟩
  | false => exact iteF ⟨env, G', r, I.grow g l, e, k.mono g.g⟩
theorem dss_nil : DSs X G₀ H₀ [] nxtS := pss_nil.imp fun D σ H q => by
  obtain ⟨env, G, r, I, e, k⟩ := q
  cases e
  exact k σ G H (Same.refl _) I
theorem dss_cons {st : Stmt} {rest : List Stmt} {f g : FS} (h1 : DS X G₀ H₀ st f) (h2 : DSs X G₀ H₀ rest g) : DSs X G₀ H₀ (st :: rest) (seqS f g) := (pss_cons h1 h2).imp fun D σ H q => by
  obtain ⟨env, G, r, I, e, k⟩ := q
  obtain ⟨x, e1, e⟩ := bind_inv e
  refine ⟨env, G, x, I, e1, ?_⟩
  cases x with
  | next env' => exact fun σ' G' H' s I' => ⟨env', G', r, I', e, k.mono s⟩
  | ret v => cases e; exact k
theorem dss_one {st : Stmt} {f : FS} (h1 : DS X G₀ H₀ st f) : DSs X G₀ H₀ [st] f := pss_one h1
theorem ds_never {st : Stmt} : DS X G₀ H₀ st (fun _ => .bad) := fun pins s σ H D I q => by
  obtain ⟨env, G, r, I, e, k⟩ := q
  cases e
end
@[simp] noncomputable def appS (i : Nat) (f : FE) : FS := fun env => match env[i]? with
  | some (.own ds) => if ds.length < 100000 then (f env).bind fun x => x.hold.bind fun d => .ok (.next (env.set i (.own (ds ++ [d])))) else .bad
  | _ => .bad
section
variable {X : Cx} {G₀ H₀ : Hp} {pos p1 apos cpos : Pos} {i : Nat} {x : Str} {e : Expr} {f : FE}
theorem ds_append (hv : PE X (.Name x p1) (tVar i)) (he : DE X G₀ H₀ e f) (hfew : ((backTo cpos (starEach [e] X.env)).all (fun x => !x.1) && (backToKw cpos (keywordEach [] X.env)).all (fun x => x.1.isSome)
      && decide ([e].length + ([] : List Keyword).length + (if ([] : List Keyword).isEmpty then 0 else 1) < 30)) = true := by rfl)
    (hline : (apos.endLine == cpos.line) = true := by rfl) (hs : starEach [e] X.env = [(false, eval e X.env)] := by rfl) :
    DS X G₀ H₀ (.Expr (.Call (.Attribute (.Name x p1) "append" apos) [e] [] cpos) pos) (appS i f) :=
  (ps_expr (pe_bm PySem.F.plainAttrs_list PySem.F.slot_list_append PySem.F.type_list_append mt_append hv (pa_cons he pa_nil hs) rfl hfew hline hs rfl) rfl).imp fun D σ H q => by
    obtain ⟨env, G, r, I, e, k⟩ := q
    unfold appS at e
    split at e
    · rename_i ds hd
      split at e
      · rename_i hz
        obtain ⟨y, e1, e⟩ := bind_inv e
        obtain ⟨d, e2, e⟩ := bind_inv e
        cases e
        obtain ⟨a, vs, o⟩ := I.own hd
        refine ⟨.ref a, o.at_, .inl ⟨rfl, vs, SqL.of o.hp⟩, env, G, y, I, e1, fun v G' H' g l h => ?_⟩
        obtain ⟨G2, g2, l2, h2⟩ := held g l h e2
        have I2 := I.grow g2 l2
        obtain ⟨b, us, o2⟩ := I2.own hd
        have z := o2.at_
        rw [o.at_] at z
        cases z
        exact ⟨a, us, v, rfl, rfl, o2.hp, by rw [← o2.rep.length, sizeLine_eq]; omega, k σ G2 _ g2.g (I2.mut hd o2 (o2.rep.append (RepL.cons h2 RepL.nil)))⟩
      · cases e
    · cases e
end
structure JOk (K : PySem.W.Frag) (J : It) (G : Hp) (ds : List D) : Prop where
  go : ∀ i G' H', Same G G' → Same G' H' → i < ds.length → J.go i H'
  stop : ∀ i G' H', Same G G' → Same G' H' → ds.length ≤ i → J.stop i H'
  yld : ∀ i G' H' x H1, Same G G' → Same G' H' → i < ds.length → J.yld i H' x H1 → ∃ d G1, ds[i]? = some d ∧ Grow G' H' G1 H1 ∧ Same G1 H1 ∧ Rep K G1 d x
theorem JOk.mono {K : PySem.W.Frag} {J : It} {G G' : Hp} {ds : List D} (h : JOk K J G ds) (s : Same G G') : JOk K J G' ds :=
  ⟨fun i G2 H2 s2 l2 hi => h.go i G2 H2 (s.trans s2) l2 hi, fun i G2 H2 s2 l2 hi => h.stop i G2 H2 (s.trans s2) l2 hi, fun i G2 H2 x H1 s2 l2 hi => h.yld i G2 H2 x H1 (s.trans s2) l2 hi⟩
abbrev FI := Ev → Out (List D)
def tI (K : PySem.W.Frag) (G₀ H₀ : Hp) (f : FI) : TI := fun σ H R => ∃ env G ds, DI K G₀ H₀ env σ G H ∧ f env = .ok ds ∧ ∀ J G' H', Grow G H G' H' → Same G' H' → JOk K J G' ds → R J H'
def DIt (X : Cx) (G₀ H₀ : Hp) (tg iter : Expr) (f : FI) : Prop := PI X tg iter (tI X.K G₀ H₀ f)
theorem _root_.L2.PI.imp {X : Cx} {tg e : Expr} {t t' : TI} (h : PI X tg e t) (i : ∀ σ H Q, t' σ H Q → t σ H Q) : PI X tg e t' := fun pins s σ H Q I q => h pins s σ H Q I (i σ H Q q)
@[simp] noncomputable def fItL (f : FE) : FI := fun env => (f env).bind fun x => x.hold.bind fun d => match d with
  | .lst ds => .ok ds
  | .scr ns => .ok (ns.map .int)
  | _ => .bad
noncomputable def rngD (lo : Int) (n : Nat) : List D := (List.range n).map fun (i : Nat) => .int (lo + i)
@[simp] noncomputable def fRng1 (f : Ev → Out (List Val)) : FI := fun env => (f env).bind fun xs => match xs.map Val.d with
  | [.int j] => if -1000000 ≤ j ∧ j ≤ 1000000 then .ok (rngD 0 j.toNat) else .bad
  | _ => .bad
theorem jok_list {K : PySem.W.Frag} {G : Hp} {a : Addr} {ds : List D} {vs : List V} (h : SqL K G a vs) (r : RepL K G ds vs) : JOk K (Itl K a) G ds where
  go := fun i G' H' s l hi => ⟨vs, vs[i]'(by rw [← r.length]; exact hi), l.seq (s.seq h), List.getElem?_eq_getElem _⟩
  stop := fun i G' H' s l hi => ⟨vs, l.seq (s.seq h), by rw [← r.length]; exact hi⟩
  yld := fun i G' H' x H1 s l hi y => by
    obtain ⟨e, y⟩ := y
    subst e
    have hx := y vs (l.seq (s.seq h))
    obtain ⟨d, h1, h2⟩ := r.get' hx
    exact ⟨d, G', h1, Grow.refl _ _, l, h2.mono s⟩
theorem jok_range {K : PySem.W.Frag} {G : Hp} (lo : Int) (n : Nat) : JOk K (Itr lo n) G (rngD lo n) where
  go := fun i G' H' s l hi => by have h : i < n := by simpa [rngD] using hi
                                 exact h
  stop := fun i G' H' s l hi => by have h : n ≤ i := by simpa [rngD] using hi
                                   exact h
  yld := fun i G' H' x H1 s l hi y => by
    obtain ⟨e, y⟩ := y
    subst e
    have hi' : i < n := by simpa [rngD] using hi
    exact ⟨.int (lo + i), G', by simp [rngD, hi'], Grow.refl _ _, l, y⟩
section
variable {X : Cx} {G₀ H₀ : Hp} {tg : Expr}
theorem di_list {l : Expr} {f : FE} (h : DE X G₀ H₀ l f) : DIt X G₀ H₀ tg l (fItL f) := (pi_list h).imp fun σ H R q => by
  obtain ⟨env, G, ds, I, e, k⟩ := q
  obtain ⟨x, e1, e⟩ := bind_inv e
  obtain ⟨d, e2, e⟩ := bind_inv e
  refine ⟨env, G, x, I, e1, fun v G' H' g l h => ?_⟩
  obtain ⟨G2, g2, l2, h2⟩ := held g l h e2
  split at e
  · cases e
    obtain ⟨a, vs, rfl, h3, r3⟩ := h2
    exact ⟨a, rfl, ⟨vs, SqL.of (l2 _ _ h3)⟩, k _ G2 H' g2 l2 (jok_list (SqL.of h3) r3)⟩
  · rename_i ns
    cases e
    obtain ⟨a, rfl, h3⟩ := h2
    exact ⟨a, rfl, ⟨_, l2.seq h3⟩, k _ G2 H' g2 l2 (jok_list h3 (RepL.ints ns))⟩
  · cases e
theorem di_range1 {a : Expr} {f : Ev → Out (List Val)} {p pos : Pos} (hm : X.mg "range" = none) (ha : DA X G₀ H₀ [a] f) (hg : Gl X "range" := by rfl) (hs : starEach [a] X.env = [(false, eval a X.env)] := by rfl) :
    DIt X G₀ H₀ tg (.Call (.Name "range" p) [a] [] pos) (fRng1 f) := (pi_range1 hg hm ha hs).imp fun σ H R q => by
  obtain ⟨env, G, ds, I, e, k⟩ := q
  obtain ⟨xs, e1, e⟩ := bind_inv e
  refine ⟨env, G, xs, I, e1, fun vs G' H' g l h => ?_⟩
  split at e
  · rename_i j hj
    split at e
    · rename_i hb
      cases e
      obtain ⟨v, rfl, o⟩ := args1 h hj
      exact ⟨j, by rw [o.int], by omega, by omega, k _ G' H' g l (jok_range 0 _)⟩
    · cases e
  · cases e
end
noncomputable def forD (g : D → Ev → Out Ev) (fb : FS) : List D → Ev → Out Res
  | [], env => .ok (.next env)
  | d :: ds, env => (g d env).bind fun env1 => (fb env1).bind fun r => match r with
    | .next env2 => forD g fb ds env2
    | .ret v => .ok (.ret v)
@[simp] noncomputable def forS (fi : FI) (g : D → Ev → Out Ev) (fb : FS) : FS := fun env => (fi env).bind fun ds => forD g fb ds env
section
variable {X : Cx} {G₀ H₀ : Hp} {tg : Expr} {pos : Pos}
theorem ds_for {iter : Expr} {body : List Stmt} {fi : FI} {g : D → Ev → Out Ev} {fb : FS} (hp : PassesOwn (model X.prog X.w) X.A X.env X.xe) (hi : DIt X G₀ H₀ tg iter fi) (hg : DG X G₀ H₀ tg g) (hb : DSs X G₀ H₀ body fb) (hc : X.calm = true := by rfl)
    (hs : ∀ x, foldedSetIterable iter X.env x = pure x := by intro _; rfl) : DS X G₀ H₀ (.For tg iter body [] pos) (forS fi g fb) := (ps_for hp hc hi hg hb hs).imp fun D σ H q => by
  obtain ⟨env, G, r, I, e, k⟩ := q
  obtain ⟨ds, e1, e⟩ := bind_inv e
  refine ⟨env, G, ds, I, e1, fun J G1 H1 g1 l1 jok => ?_⟩
  refine ⟨fun i m σ H => m = ds.length - i ∧ i ≤ ds.length ∧ ∃ env' G', Same G1 G' ∧ DI X.K G₀ H₀ env' σ G' H ∧ forD g fb (ds.drop i) env' = .ok r, ⟨ds.length, by simp, Nat.zero_le _, env, G1, Same.refl _, I.grow g1 l1, by simpa using e⟩, ?_⟩
  rintro i m σ' H' ⟨rfl, hi', env', G', s', I', e'⟩
  by_cases hlt : i < ds.length
  · have hd : ds.drop i = ds[i] :: ds.drop (i + 1) := List.drop_eq_getElem_cons hlt
    rw [hd] at e'
    obtain ⟨env1, e2, e'⟩ := bind_inv e'
    obtain ⟨r1, e3, e'⟩ := bind_inv e'
    refine .inr ⟨jok.go i G' H' s' I'.le hlt, fun σ2 H2 => ∃ env2 G2, Same G1 G2 ∧ DI X.K G₀ H₀ env2 σ2 G2 H2 ∧ forD g fb (ds.drop (i + 1)) env2 = .ok r, fun σ2 H2 ⟨env2, G2, s2, I2, e2⟩ => ⟨ds.length - (i + 1), by omega, rfl, hlt, env2, G2, s2, I2, e2⟩, fun x H2 y => ?_⟩
    obtain ⟨d, G2, hd2, g2, l2, r2⟩ := jok.yld i G' H' x H2 s' I'.le hlt y
    have hde : d = ds[i] := by rw [List.getElem?_eq_getElem hlt] at hd2; exact (Option.some.inj hd2).symm
    subst hde
    refine ⟨env', G2, _, env1, I'.grow g2 l2, r2, e2, fun σ2 I2 => ⟨env1, G2, r1, I2, e3, ?_⟩⟩
    cases r1 with
    | next env2 => exact fun σ3 G3 H3 s3 I3 => ⟨env2, G3, (s'.trans g2.g).trans s3, I3, e'⟩
    | ret v => cases e'; exact k
  · have hi2 : i = ds.length := by omega
    subst hi2
    rw [List.drop_length] at e'
    cases e'
    exact .inl ⟨jok.stop _ G' H' s' I'.le (Nat.le_refl _), k σ' G' H' (g1.g.trans s') I'⟩
end
def spD (K : PySem.W.Frag) (m : List D → Out Val) (n : Nat) : Sp := fun vs H Q _ => ∃ G ds val, ds.length = n ∧ Same G H ∧ RepL K G ds vs ∧ m ds = .ok val ∧
  ∀ v G' H', Grow G H G' H' → Same G' H' → ValOk K H [] [] G' H' v val → Q v H'
@[simp] noncomputable def runD (n : Nat) (f : FS) (ds : List D) : Out Val := (f (ds.map Slot.pers ++ List.replicate (n - ds.length) .un)).bind fun r => match r with
  | .ret v => .ok v
  | .next _ => .ok (.pers .non)
theorem start_DI {K : PySem.W.Frag} {G H : Hp} {ds : List D} {vs : List V} {N : List Str} (l : Same G H) (r : RepL K G ds vs) (hl : ds.length ≤ N.length) :
    DI K G H (ds.map Slot.pers ++ List.replicate (N.length - ds.length) .un) (L2.start N vs) G H where
  le := l
  gr := Grow.refl _ _
  len := by unfold L2.start; simp [r.length]
  slot := fun i s e => by
    by_cases hi : i < ds.length
    · rw [List.getElem?_append_left (by simpa using hi), List.getElem?_map, List.getElem?_eq_getElem hi] at e
      cases e
      obtain ⟨v, h1, h2⟩ := r.get (List.getElem?_eq_getElem hi)
      refine ⟨v, ?_, h2⟩
      unfold L2.start
      rw [List.getElem?_append_left (by simp [← r.length, hi]), List.getElem?_map, h1]
      rfl
    · rw [List.getElem?_append_right (by simpa using hi), List.getElem?_replicate] at e
      split at e
      · cases e; trivial
      · cases e
  apart := fun i j es fs a _ e _ _ _ => by
    by_cases hi : i < ds.length
    · rw [List.getElem?_append_left (by simpa using hi), List.getElem?_map, List.getElem?_eq_getElem hi] at e
      cases e
    · rw [List.getElem?_append_right (by simpa using hi), List.getElem?_replicate] at e
      split at e <;> cases e
theorem fn_ok {P : Program} {w : World} {K : PySem.W.Frag} {mg : Str → Option Value} {base : Heap} {x qual : Str} {st : Stmt} {f : Addr} {fd : FuncData} {N ps : List Str} {k : Nat} {fb : FS} (F : Fun K x qual st f fd) (S : FnScope N ps (defScope st))
    (hb : ∀ (cdv : Value) (A : Around) (outer : List Env) (s : Shared) (G H : Hp) (E : XK), Room k (A.deeper (envOfC qual (defScope st) s.heap.objs.size f cdv)) →
      DSs (cxOf CX0 P w K mg base N qual (defScope st) f cdv A outer s H E).nox G H (defBody st) fb) : FnOk P w K mg base CX0 (k + 1) f fd ps (spD K (runD N.length fb) ps.length) := by
  have hpl : ps.length ≤ N.length := by have := congrArg List.length S.pre; rw [List.length_take] at this; omega
  refine F.ok S (fun vs H Q E h => ?_) fun cdv A outer s H vs Q E hr h => ?_
  · obtain ⟨G, ds, val, hl, _, r, _⟩ := h
    rw [← r.length]; exact hl
  · obtain ⟨G, ds, val, hl, l, r, hm, k'⟩ := h
    refine ⟨_, hb cdv A outer s G H E hr, ?_⟩
    obtain ⟨r', e1, e2⟩ := bind_inv hm
    refine ⟨_, G, r', start_DI l r (by omega), e1, ?_⟩
    cases r' with
    | next env => cases e2; exact fun σ' G' H' s' I' => k' _ G' H' I'.gr I'.le rfl
    | ret v => cases e2; exact fun v' G' H' g' l' h' => k' v' G' H' g' l' h'
mutual
noncomputable def noLst : D → Bool
  | .tup ds => noLstL ds
  | .lst _ => false
  | .scr _ => false
  | .exc _ _ => false
  | _ => true
noncomputable def noLstL : List D → Bool
  | [] => true
  | d :: ds => noLst d && noLstL ds
end
@[simp] noncomputable def Val.calm : Val → Bool
  | .pers d => noLst d
  | .fresh ds => noLstL ds
  | .brw _ _ => false
@[simp] noncomputable def Val.isPers : Val → Bool
  | .pers _ => true
  | _ => false
@[simp] noncomputable def callG (m : List D → Out Val) (xs : List Val) : Out Val := (m (xs.map Val.d)).bind fun v => if (xs.all Val.isPers || v.calm) = true then .ok v else .bad
@[simp] noncomputable def fCall (m : List D → Out Val) (r : Ev → Out (List Val)) : FE := fun env => (r env).bind fun xs => callG m xs
theorem argsRep {K : PySem.W.Frag} {env : Ev} {σ : St} {G : Hp} : ∀ {vs : List V} {xs : List Val}, ArgsOk K env σ G vs xs → xs.all Val.isPers = true → RepL K G (xs.map Val.d) vs
  | [], xs, h, _ => by cases (show xs = [] from h); rfl
  | v :: vs, xs, h, hp => by
    obtain ⟨x, r, rfl, h1, h2⟩ := h
    rw [List.all_cons, Bool.and_eq_true] at hp
    cases x with
    | pers d => exact RepL.cons h1 (argsRep h2 hp.2)
    | fresh ds => cases hp.1
    | brw i ds => cases hp.1
def lentAt (env : Ev) (σ : St) (b : Addr) : Prop := ∃ (i : Nat) (ds : List D), env[i]? = some (.own ds) ∧ σ[i]? = some (some (.ref b))
open Classical in
noncomputable def lend (env : Ev) (σ : St) (G H : Hp) : Hp := fun b => if lentAt env σ b then H b else G b
open Classical in
noncomputable def unlend (env : Ev) (σ : St) (G : Hp) : Hp := fun b => if lentAt env σ b then none else G b
section
variable {K : PySem.W.Frag} {G₀ H₀ G H : Hp} {env : Ev} {σ : St}
theorem DI.lent (I : DI K G₀ H₀ env σ G H) {b : Addr} (h : lentAt env σ b) : G b = none ∧ ∃ vs, H b = some (.lst vs) := by
  obtain ⟨i, ds, e1, e2⟩ := h
  obtain ⟨a, vs, o⟩ := I.own e1
  have z := o.at_
  rw [e2] at z
  cases z
  exact ⟨o.gn, vs, o.hp⟩
theorem lend_ge (I : DI K G₀ H₀ env σ G H) : Same G (lend env σ G H) := fun b o q => by
  unfold lend
  by_cases h : lentAt env σ b
  · rw [(I.lent h).1] at q; cases q
  · rw [if_neg h]; exact q
theorem lend_le (I : DI K G₀ H₀ env σ G H) : Same (lend env σ G H) H := fun b o q => by
  unfold lend at q
  by_cases h : lentAt env σ b
  · rw [if_pos h] at q; exact q
  · rw [if_neg h] at q; exact I.le b o q
theorem lend_args (I : DI K G₀ H₀ env σ G H) : ∀ {vs : List V} {xs : List Val}, ArgsOk K env σ G vs xs → RepL K (lend env σ G H) (xs.map Val.d) vs
  | [], xs, h => by cases (show xs = [] from h); rfl
  | v :: vs, xs, h => by
    obtain ⟨x, r, rfl, h1, h2⟩ := h
    refine RepL.cons ?_ (lend_args I h2)
    cases x with
    | pers d => exact Rep.mono (lend_ge I) h1
    | fresh ds => exact h1.elim
    | brw i ds =>
      obtain ⟨a, rfl, e1, e2⟩ := h1
      obtain ⟨b, us, o⟩ := I.own e1
      have z := o.at_
      rw [e2] at z
      cases z
      exact ⟨a, us, rfl, by unfold lend; rw [if_pos ⟨i, ds, e1, e2⟩]; exact o.hp, o.rep.mono (lend_ge I)⟩
mutual
theorem unlend_rep (I : DI K G₀ H₀ env σ G H) {G' : Hp} (s : Same (lend env σ G H) G') : ∀ {d : D} {v : V}, noLst d = true → Rep K G' d v → Rep K (unlend env σ G') d v
  | .non, _, _, h => h
  | .bl _, _, _, h => h
  | .int _, _, _, h => h
  | .tup ds, v, n, h => by
    obtain ⟨a, vs, e, g, r⟩ := h
    refine ⟨a, vs, e, ?_, unlend_repL I s (by simpa [noLst] using n) r⟩
    unfold unlend
    by_cases hl : lentAt env σ a
    · obtain ⟨_, us, q⟩ := I.lent hl
      have z : lend env σ G H a = some (.lst us) := by unfold lend; rw [if_pos hl]; exact q
      rw [s _ _ z] at g
      cases g
    · rw [if_neg hl]; exact g
  | .lst _, _, n, _ => by simp [noLst] at n
  | .scr _, _, n, _ => by simp [noLst] at n
  | .exc _ _, _, n, _ => by simp [noLst] at n
theorem unlend_repL (I : DI K G₀ H₀ env σ G H) {G' : Hp} (s : Same (lend env σ G H) G') : ∀ {ds : List D} {vs : List V}, noLstL ds = true → RepL K G' ds vs → RepL K (unlend env σ G') ds vs
  | [], _, _, h => h
  | d :: ds, vs, n, h => by
    obtain ⟨v, r, e, h1, h2⟩ := h
    simp only [noLstL, Bool.and_eq_true] at n
    exact ⟨v, r, e, unlend_rep I s n.1 h1, unlend_repL I s n.2 h2⟩
end
end
section
variable {X : Cx} {G₀ H₀ : Hp} {k : Nat} {f : Addr} {fd : FuncData} {ps : List Str} {x : Str} {p pos : Pos} {e : Expr} {es : List Expr} {r : Ev → Out (List Val)} {m : List D → Out Val}
theorem de_call (F : FnOk X.prog X.w X.K X.mg X.base CX0 k f fd ps (spD X.K m ps.length)) (hr : Room k X.A) (hm : X.mg x = some (.ref f)) (hk : PySem.W.keepIn X.K (.ref f) = true) (hb : Binds X.K fd ps []) (ha : DA X G₀ H₀ (e :: es) r)
    (hlen : ∀ env xs, r env = .ok xs → xs.length = ps.length) (hg : Gl X x := by rfl) (hdb : (x == ("__debug__" : Str)) = false := by decide) (he : starEach (e :: es) X.env = (false, eval e X.env) :: starEach es X.env := by rfl) (hpl : (backTo pos (starEach es X.env)).any (·.1) = false := by rfl) :
    DE X G₀ H₀ (.Call (.Name x p) (e :: es) [] pos) (fCall m r) := (pe_call F hr hg hm hk hb .nil pass0 ha hdb he hpl).imp fun σ H Q q => by
  obtain ⟨env, G, val, I, e, k'⟩ := q
  obtain ⟨xs, e1, e⟩ := bind_inv e
  obtain ⟨v, e2, e⟩ := bind_inv e
  split at e
  · rename_i hc
    have ev : v = val := by cases e; rfl
    subst ev
    refine ⟨env, G, xs, I, e1, fun vs G1 H1 g1 l1 a1 => ?_⟩
    show spD X.K m ps.length (vs ++ []) H1 Q E0
    rw [List.append_nil]
    have I1 := I.grow g1 l1
    have hl : (xs.map Val.d).length = ps.length := by rw [List.length_map]; exact hlen env xs e1
    by_cases hp : xs.all Val.isPers = true
    · refine ⟨G1, _, v, hl, l1, argsRep a1 hp, e2, fun w G2 H2 g2 l2 h2 => k' w G2 H2 (g1.trans g2) l2 ?_⟩
      cases v with
      | pers d => exact h2
      | fresh ds =>
        obtain ⟨a, us, rfl, h3, h4⟩ := h2
        exact ⟨a, us, rfl, g1.h.free h3, h4⟩
      | brw i ds => obtain ⟨a, rfl, h3, _⟩ := h2; simp at h3
    · have hcv : v.calm = true := by simpa [hp] using hc
      refine ⟨lend env σ G1 H1, _, v, hl, lend_le I1, lend_args I1 a1, e2, fun w G2 H2 g2 l2 h2 => ?_⟩
      have gu : Grow G1 H1 (unlend env σ G2) H2 := by
        refine ⟨fun b o q => ?_, g2.h, fun b q1 q2 => ?_⟩
        · unfold unlend
          by_cases hl : lentAt env σ b
          · rw [(I1.lent hl).1] at q; cases q
          · rw [if_neg hl]; exact g2.g b o (lend_ge I1 b o q)
        · unfold unlend
          by_cases hl : lentAt env σ b
          · rw [if_pos hl]
          · rw [if_neg hl]
            refine g2.n b q1 ?_
            unfold lend
            rw [if_neg hl]; exact q2
      have lu : Same (unlend env σ G2) H2 := fun b o q => by
        unfold unlend at q
        by_cases hl : lentAt env σ b
        · rw [if_pos hl] at q; cases q
        · rw [if_neg hl] at q; exact l2 b o q
      refine k' w (unlend env σ G2) H2 (g1.trans gu) lu ?_
      cases v with
      | pers d => exact unlend_rep I1 g2.g hcv h2
      | fresh ds =>
        obtain ⟨a, us, rfl, h3, h4, h5, h6⟩ := h2
        refine ⟨a, us, rfl, g1.h.free h3, h4, ?_, unlend_repL I1 g2.g hcv h6⟩
        unfold unlend
        by_cases hl : lentAt env σ a
        · rw [if_pos hl]
        · rw [if_neg hl]; exact h5
      | brw i ds => cases hcv
  · cases e
end
end DL
namespace DL
open PySem PySem.Spec PyProof.Rows L2
theorem cellsFrom_app : ∀ (names : List (Str × NameKind)) (n : Nat) (acc : List (Str × Addr)), cellsFrom n names acc = cellsFrom n names [] ++ acc
  | [], n, acc => rfl
  | (x, k) :: r, n, acc => by
    unfold cellsFrom
    split
    · rw [cellsFrom_app r (n + 1) ((x, n) :: acc), cellsFrom_app r (n + 1) [(x, n)]]
      simp
    · exact cellsFrom_app r n acc
theorem cellsFrom_not : ∀ (names : List (Str × NameKind)) (n : Nat) (x : Str), (x, NameKind.cell) ∉ names → (cellsFrom n names []).lookup x = none
  | [], n, x, _ => rfl
  | (y, k) :: r, n, x, h => by
    have hr : (x, NameKind.cell) ∉ r := fun z => h (List.mem_cons_of_mem _ z)
    unfold cellsFrom
    split
    · rename_i hk
      rw [cellsFrom_app, List.lookup_append, cellsFrom_not r (n + 1) x hr]
      have hxy : (x == y) = false := by
        rw [beq_eq_false_iff_ne]
        rintro rfl
        have : k = .cell := by simpa using hk
        subst this
        exact h List.mem_cons_self
      simp [List.lookup_cons, hxy]
    · exact cellsFrom_not r n x hr
noncomputable def clFrom (cells : List (Str × Addr)) : List (Str × NameKind) → List (Str × Addr) → List (Str × Addr)
  | [], acc => acc
  | (n, k) :: r, acc => if (k == .free) = true then clFrom cells r ((n, (cells.lookup n).getD 0) :: acc) else clFrom cells r acc
theorem closure_eq {env : Env} : ∀ (names : List (Str × NameKind)) (acc : List (Str × Addr)), (∀ n, (n, NameKind.free) ∈ names → ∃ c, env.cells.lookup n = some c) →
    (forIn names acc fun x r => if (x.2 == NameKind.free) = true then do let a ← cellOf env x.1; pure (ForInStep.yield ((x.1, a) :: r)) else pure (ForInStep.yield r) : Sem (List (Str × Addr))) = pure (clFrom env.cells names acc)
  | [], acc, _ => rfl
  | (n, k) :: r, acc, h => by
    have ih := fun acc => closure_eq (env := env) r acc fun m hm => h m (List.mem_cons_of_mem _ hm)
    rw [List.forIn_cons]
    unfold clFrom
    by_cases hk : (k == NameKind.free) = true
    · have : k = .free := by simpa using hk
      subst this
      obtain ⟨c, hc⟩ := h n List.mem_cons_self
      rw [if_pos hk, if_pos hk]
      unfold cellOf
      rw [hc]
      simp only [pure_bind, Option.getD_some]
      exact ih _
    · rw [if_neg hk, if_neg hk]
      simp only [pure_bind]
      exact ih _
theorem closureFor_eq {scope : Scope} {env : Env} (h : ∀ n, (n, NameKind.free) ∈ scope.names → ∃ c, env.cells.lookup n = some c) : closureFor scope env = pure (clFrom env.cells scope.names []) := by
  have := closure_eq (env := env) scope.names [] h
  unfold closureFor
  simp only [bind_pure]
  exact this
theorem clFrom_lookup {cells : List (Str × Addr)} : ∀ (names : List (Str × NameKind)) (acc : List (Str × Addr)) (x : Str) (c : Addr), (∀ n, (n, NameKind.free) ∈ names → ∃ c, cells.lookup n = some c) →
    (clFrom cells names acc).lookup x = some c → cells.lookup x = some c ∨ acc.lookup x = some c
  | [], acc, x, c, _, h => .inr h
  | (n, k) :: r, acc, x, c, hn, h => by
    have hr : ∀ m, (m, NameKind.free) ∈ r → ∃ c, cells.lookup m = some c := fun m hm => hn m (List.mem_cons_of_mem _ hm)
    unfold clFrom at h
    split at h
    · rename_i hk
      have : k = .free := by simpa using hk
      subst this
      rcases clFrom_lookup r _ x c hr h with q | q
      · exact .inl q
      · rw [List.lookup_cons] at q
        cases hx : x == n with
        | true =>
          rw [hx] at q
          obtain ⟨c', hc⟩ := hn n List.mem_cons_self
          rw [hc] at q
          cases q
          rw [beq_iff_eq.mp hx]
          exact .inl hc
        | false => rw [hx] at q; exact .inr q
    · exact clFrom_lookup r _ x c hr h
theorem clFrom_has {cells : List (Str × Addr)} : ∀ (names : List (Str × NameKind)) (acc : List (Str × Addr)) (x : Str), ((x, NameKind.free) ∈ names ∨ (acc.lookup x).isSome = true) → ((clFrom cells names acc).lookup x).isSome = true
  | [], acc, x, h => by
    rcases h with h | h
    · simp at h
    · exact h
  | (n, k) :: r, acc, x, h => by
    unfold clFrom
    split
    · refine clFrom_has r _ x ?_
      rcases h with h | h
      · rcases List.mem_cons.mp h with e | e
        · cases e
          exact .inr (by simp [List.lookup_cons])
        · exact .inl e
      · refine .inr ?_
        rw [List.lookup_cons]
        cases x == n with
        | true => rfl
        | false => exact h
    · rename_i hk
      refine clFrom_has r _ x ?_
      rcases h with h | h
      · rcases List.mem_cons.mp h with e | e
        · cases e
          exact absurd rfl hk
        · exact .inl e
      · exact .inr h
theorem relabel_lookup {env : Env} : ∀ (names : List (Str × NameKind)) (x : Str) (k : NameKind),
    (names.map fun (n, k) => if (k == NameKind.free && env.scope.kind == .function && env.kindOf n == some .cell) then (n, NameKind.cell) else (n, k)).lookup x = some k →
      names.lookup x = some k ∨ (k = .cell ∧ names.lookup x = some .free)
  | [], x, k, h => by simp at h
  | (n, j) :: r, x, k, h => by
    have ih := relabel_lookup (env := env) r x k
    rw [List.map_cons] at h
    by_cases hc : (j == NameKind.free && env.scope.kind == .function && env.kindOf n == some .cell) = true
    · simp only [hc, if_true] at h
      rw [List.lookup_cons] at h ⊢
      cases hx : x == n with
      | true =>
        rw [hx] at h
        cases h
        have : j = .free := by simp at hc; exact hc.1.1
        exact .inr ⟨rfl, by rw [this]⟩
      | false => rw [hx] at h; exact ih h
    · simp only [hc, Bool.false_eq_true, if_false] at h
      rw [List.lookup_cons] at h ⊢
      cases hx : x == n with
      | true => rw [hx] at h; exact .inl h
      | false => rw [hx] at h; exact ih h
theorem relabel_free {env : Env} : ∀ (names : List (Str × NameKind)) (x : Str), names.lookup x = some .free →
    ((names.map fun (n, k) => if (k == NameKind.free && env.scope.kind == .function && env.kindOf n == some .cell) then (n, NameKind.cell) else (n, k)).lookup x = some .cell ∨
     (names.map fun (n, k) => if (k == NameKind.free && env.scope.kind == .function && env.kindOf n == some .cell) then (n, NameKind.cell) else (n, k)).lookup x = some .free)
  | [], x, h => by simp at h
  | (n, j) :: r, x, h => by
    have ih := relabel_free (env := env) r x
    rw [List.map_cons]
    rw [List.lookup_cons] at h
    by_cases hc : (j == NameKind.free && env.scope.kind == .function && env.kindOf n == some .cell) = true
    · simp only [hc, if_true]
      rw [List.lookup_cons]
      cases hx : x == n with
      | true => exact .inl rfl
      | false => rw [hx] at h; exact ih h
    · simp only [hc, Bool.false_eq_true, if_false]
      rw [List.lookup_cons]
      cases hx : x == n with
      | true => rw [hx] at h; exact .inr h
      | false => rw [hx] at h; exact ih h
theorem wp_compEnv {M : Model} {A : Around} {E : Value → Shared → Prop} {s : Shared} {scope : Scope} {env : Env} {cl : List (Str × Addr)} {Q : Env → Shared → Prop}
    (h : Q { scope := scope, locals := s.heap.objs.size, globals := env.globals, cells := cellsFrom (s.heap.objs.size + 1) scope.names cl, qual := env.qual, func := none, code := env.code, frame := env.frame, builtins := env.builtins }
      { s with heap := pushCells (s.heap.push { cls := .type "dict", data := .dict #[] }) scope.names }) :
    wpAny M A (newFunctionEnv scope env.globals cl [] env.qual none .none (some env)) Q E s := by
  simp only [newFunctionEnv, Option.isSome_some, if_true]
  refine wpAny_bind (wpAny_alloc ?_)
  refine wpAny_bind (wpAny_layCells _ (fun name kind cells => by cases hkc : kind == NameKind.cell <;> simp [hkc]) _ _ _ _ ?_)
  rw [show ({ s with heap := s.heap.push { cls := .type "dict", data := .dict #[] } } : Shared).heap.objs.size = s.heap.objs.size + 1 from Heap.size_push ..]
  exact wpAny_bind (wpAny_pure (wpAny_pure h))
noncomputable def cxComp (X : Cx) (N' : List Str) (scope : Scope) (ex : List Addr) (s : Shared) (H : Hp) : Cx :=
  { X with
    N := N'
    s₀ := s
    H₀ := H
    env := compEnvC scope (cellsFrom (s.heap.objs.size + 1) scope.names (clFrom X.env.cells scope.names [])) s.heap.objs.size X.env
    outer := X.stack
    stack := X.stack
    ex := ex
    fn := fun x => scope.names.lookup x == some .cell
    pn := []
    xe := fun _ _ => False }
structure CompOk (X : Cx) (scope : Scope) (cap : List Nat) (own : List Str) : Prop where
  kind : scope.kind = .function
  locals : ∀ x ∈ scope.names, x.2 = .local → scope.names.lookup x.1 = some .local
  nd : (scope.names.map (·.1)).Nodup
  frees : (scope.names.all fun x => x.2 != .free || (X.env.scope.names.lookup x.1 == some .cell || X.env.scope.names.lookup x.1 == some .free)) = true
  caps : (cap.all fun i => match X.N[i]? with | some x => scope.names.lookup x == some .free | none => false) = true
noncomputable def capN (X : Cx) (cap : List Nat) (own : List Str) : List Str := cap.map (fun i => X.N.getD i "") ++ own
noncomputable def capS (cap : List Nat) (n : Nat) (σ : St) : St := cap.map (fun i => σ.getD i none) ++ List.replicate n none
@[simp] noncomputable def capE (cap : List Nat) (n : Nat) (env : Ev) : Ev := cap.map (fun i => match env[i]? with | some (.pers d) => .pers d | _ => .un) ++ List.replicate n .un
def NoOwn (env : Ev) : Prop := ∀ (i : Nat) (ds : List D), env[i]? ≠ some (.own ds)
theorem noOwn_cap (cap : List Nat) (n : Nat) (env : Ev) : NoOwn (capE cap n env) := by
  intro i ds h
  unfold capE at h
  by_cases hi : i < cap.length
  · rw [List.getElem?_append_left (by simpa using hi), List.getElem?_map, List.getElem?_eq_getElem hi] at h
    simp only [Option.map_some] at h
    split at h <;> cases h
  · rw [List.getElem?_append_right (by simpa using hi), List.getElem?_replicate] at h
    split at h <;> cases h
theorem cap_DI {K : PySem.W.Frag} {G₀ H₀ G H : Hp} {env : Ev} {σ : St} (I : DI K G₀ H₀ env σ G H) (cap : List Nat) (n : Nat) : DI K G₀ H₀ (capE cap n env) (capS cap n σ) G H where
  le := I.le
  gr := I.gr
  len := by simp [capE, capS]
  slot := fun i s e => by
    cases s with
    | un => trivial
    | own ds => exact absurd e (noOwn_cap cap n env i ds)
    | pers d =>
      unfold capE at e
      by_cases hi : i < cap.length
      · rw [List.getElem?_append_left (by simpa using hi), List.getElem?_map, List.getElem?_eq_getElem hi] at e
        simp only [Option.map_some] at e
        split at e
        · rename_i d' hd
          cases e
          obtain ⟨v, h1, h2⟩ := I.pers hd
          refine ⟨v, ?_, h2⟩
          unfold capS
          rw [List.getElem?_append_left (by simpa using hi), List.getElem?_map, List.getElem?_eq_getElem hi]
          simp [List.getD_eq_getElem?_getD, h1]
        · cases e
      · rw [List.getElem?_append_right (by simpa using hi), List.getElem?_replicate] at e
        split at e <;> cases e
  apart := fun i j ds es a _ e _ _ _ => noOwn_cap cap n env i ds e
section
variable {X : Cx} {pins : List (Addr × Obj)} {σ : St} {H : Hp} {s : Shared} {scope : Scope} {cap : List Nat} {own : List Str}
theorem CompOk.free (C : CompOk X scope cap own) {n : Str} (h : (n, NameKind.free) ∈ scope.names) : X.env.kindOf n = some .cell ∨ X.env.kindOf n = some .free := by
  have q := List.all_eq_true.mp C.frees _ h
  simp at q
  exact q
theorem CompOk.cells (C : CompOk X scope cap own) (I : Inv X pins σ H s) : ∀ n, (n, NameKind.free) ∈ scope.names → ∃ c, X.env.cells.lookup n = some c := fun n h => I.ok.has n (C.free h)
theorem comp_inv {fp : List Addr} (C : CompOk X scope cap own) (I : Inv X pins σ H s) (hf : ∀ b ∈ fp, FpOk X pins H b) (hex : ∀ b ∈ fp, b < s.heap.objs.size) :
    Inv (cxComp X (capN X cap own) scope fp s H) [] (capS cap own.length σ) H { s with heap := pushCells (s.heap.push { cls := .type "dict", data := .dict #[] }) scope.names } := by
  have hcl := C.cells I
  have keep : ∀ b o, s.heap.get? b = some o → (pushCells (s.heap.push { cls := .type "dict", data := .dict #[] }) scope.names).get? b = some o := fun b o e => pushCells_keeps _ _ b o (Heap.get?_push_of_some _ e)
  have ok := cellsFrom_ok scope.names (s.heap.push { cls := .type "dict", data := .dict #[] }) (s.heap.objs.size + 1) [] ⟨fun _ _ hm => (nomatch hm), List.Pairwise.nil⟩ (by rw [Heap.size_push]; exact Nat.le_refl _)
  rw [Heap.size_push] at ok
  have cases_cell : ∀ x c, (cellsFrom (s.heap.objs.size + 1) scope.names (clFrom X.env.cells scope.names [])).lookup x = some c →
      ((cellsFrom (s.heap.objs.size + 1) scope.names []).lookup x = some c) ∨ ((cellsFrom (s.heap.objs.size + 1) scope.names []).lookup x = none ∧ X.env.cells.lookup x = some c) := fun x c h => by
    rw [cellsFrom_app, List.lookup_append] at h
    cases q : (cellsFrom (s.heap.objs.size + 1) scope.names []).lookup x with
    | some c' => rw [q] at h; exact .inl h
    | none =>
      rw [q] at h
      simp at h
      rcases clFrom_lookup scope.names [] x c hcl h with z | z
      · exact .inr ⟨rfl, z⟩
      · simp at z
  have ownC : ∀ x c, (cellsFrom (s.heap.objs.size + 1) scope.names []).lookup x = some c → (pushCells (s.heap.push { cls := .type "dict", data := .dict #[] }) scope.names).IsCell c none ∧ s.heap.objs.size + 1 ≤ c := fun x c h => ok.empty x c (PySem.mem_of_lookup h)
  have oldC : ∀ x c, X.env.cells.lookup x = some c → c < s.heap.objs.size := fun x c h => let ⟨_, z⟩ := I.cell x c h; z.lt
  have kindX : ∀ x, (compEnvC scope (cellsFrom (s.heap.objs.size + 1) scope.names (clFrom X.env.cells scope.names [])) s.heap.objs.size X.env).kindOf x = (relabel scope X.env).names.lookup x := fun _ => rfl
  refine ⟨⟨I.ok.mod, C.kind, I.ok.glob, I.ok.blt, Nat.le_refl _, fun x y c h1 h2 => ?_, fun x hx => ?_, fun x c hx h => ?_, I.ok.hd, I.ok.frames, .inl rfl, fun b hb => ?_, I.bs, Nat.le_trans I.ok.bsz I.sz, fun b o e hb => ?_, fun b hb hs => ?_, I.stack, I.stkFree⟩,
    rfl, I.bare, Un.kept keep, ⟨_, (Heap.Ns.new s.heap (.type "dict")).keeps (pushCells_keeps _ _), fun i x v e1 e2 e3 => ?_⟩, fun x c h => ?_, I.hok.fresh (Nat.le_refl _), fun x c h => ?_, fun p hp => absurd (show p ∈ ([] : List (Addr × Obj)) from hp) (by simp), I.hok.kept keep, ?_⟩
  · rcases cases_cell x c h1 with z1 | ⟨_, z1⟩
    · rcases cases_cell y c h2 with z2 | ⟨_, z2⟩
      · exact name_of_addr ok.apart (PySem.mem_of_lookup z1) (PySem.mem_of_lookup z2)
      · exact absurd (Nat.lt_of_lt_of_le (Nat.lt_succ_of_lt (oldC y c z2)) (ownC x c z1).2) (Nat.lt_irrefl _)
    · rcases cases_cell y c h2 with z2 | ⟨_, z2⟩
      · exact absurd (Nat.lt_of_lt_of_le (Nat.lt_succ_of_lt (oldC x c z1)) (ownC y c z2).2) (Nat.lt_irrefl _)
      · exact I.ok.inj x y c z1 z2
  · show ∃ c, (cellsFrom (s.heap.objs.size + 1) scope.names (clFrom X.env.cells scope.names [])).lookup x = some c
    rw [cellsFrom_app, List.lookup_append]
    cases q : (cellsFrom (s.heap.objs.size + 1) scope.names []).lookup x with
    | some c' => exact ⟨c', rfl⟩
    | none =>
      have fr : scope.names.lookup x = some .free → ∃ c, (none.or ((clFrom X.env.cells scope.names []).lookup x)) = some c := fun z => by
        have := clFrom_has (cells := X.env.cells) scope.names [] x (.inl (PySem.mem_of_lookup z))
        exact Option.isSome_iff_exists.mp (by simpa using this)
      have hx' : (relabel scope X.env).names.lookup x = some .cell ∨ (relabel scope X.env).names.lookup x = some .free := hx
      rcases hx' with z | z
      · rcases relabel_lookup scope.names x .cell z with z | ⟨_, z⟩
        · obtain ⟨c, z2⟩ := cell_has (n := s.heap.objs.size + 1) (sc := scope) z
          rw [z2] at q; cases q
        · exact fr z
      · rcases relabel_lookup scope.names x .free z with z | ⟨z, _⟩
        · exact fr z
        · cases z
  · have hx' : scope.names.lookup x = some .cell := by simpa using (show (scope.names.lookup x == some .cell) = true from hx)
    rcases cases_cell x c h with z | ⟨z, _⟩
    · exact Nat.le_of_lt (ownC x c z).2
    · obtain ⟨c', z2⟩ := cell_has (n := s.heap.objs.size + 1) (sc := scope) hx'
      rw [z2] at z; cases z
  · refine ⟨Nat.ne_of_lt (hex b hb), fun x c h z => ?_⟩
    rcases cases_cell x c h with q | ⟨_, q⟩
    · exact absurd (Nat.lt_of_lt_of_le (Nat.lt_succ_of_lt (hex b hb)) (z ▸ (ownC x c q).2)) (Nat.lt_irrefl _)
    · exact (hf b hb).2.2.2.2.1 x c q z
  · rcases (hf b hb).2.2.2.1 with z | z
    · exact I.ok.noex b o e z
    · exact absurd (Nat.lt_of_lt_of_le (Heap.lt_size e) (Nat.le_trans I.ok.bsz z)) (Nat.lt_irrefl _)
  · rcases List.mem_cons.mp (I.stkSub b hs) with z | z
    · exact (hf b hb).2.1 z
    · exact (hf b hb).2.2.1 z
  ·
    have e1' : (capN X cap own)[i]? = some x := e1
    unfold capN at e1'
    unfold capS at e2
    by_cases hi : i < cap.length
    · rw [List.getElem?_append_left (by simpa using hi), List.getElem?_map, List.getElem?_eq_getElem hi] at e1' e2
      simp only [Option.map_some, Option.some.injEq] at e1' e2
      have hcap := List.all_eq_true.mp C.caps cap[i] (List.getElem_mem hi)
      cases q : X.N[cap[i]]? with
      | none => rw [q] at hcap; cases hcap
      | some y =>
        rw [q] at hcap
        have hy : scope.names.lookup y = some .free := by simpa using hcap
        have hxy : x = y := by rw [← e1', List.getD_eq_getElem?_getD, q]; rfl
        subst hxy
        have hs : σ[cap[i]]? = some (some v) := by
          rw [List.getD_eq_getElem?_getD] at e2
          cases z : σ[cap[i]]? with
          | none => rw [z] at e2; cases e2
          | some w => rw [z] at e2; simp at e2; rw [e2]
        have hk := C.free (PySem.mem_of_lookup hy)
        obtain ⟨m, hn, hl⟩ := I.loc
        obtain ⟨u, ru, lk⟩ := hl cap[i] x v q hs (hk.elim (fun z => .inr (.inl z)) fun z => .inr (.inr z))
        refine ⟨u, ru, .inr ⟨?_, ?_⟩⟩
        · exact relabel_free scope.names x hy
        · rcases lk with ⟨z, _⟩ | ⟨_, c, hc, hcell⟩
          · rcases hk with z' | z' <;> (rw [z] at z'; cases z')
          · refine ⟨c, ?_, hcell.keeps keep⟩
            show (cellsFrom (s.heap.objs.size + 1) scope.names (clFrom X.env.cells scope.names [])).lookup x = some c
            rw [cellsFrom_app, List.lookup_append]
            have hno : (cellsFrom (s.heap.objs.size + 1) scope.names []).lookup x = none := cellsFrom_not _ _ _ fun hm => by
              have m1 := PySem.mem_of_lookup hy
              have := C.nd
              rw [List.nodup_iff_pairwise_ne, List.pairwise_map] at this
              have := List.Pairwise.forall_of_forall_of_flip (R := fun a b : Str × NameKind => a.1 ≠ b.1 ∨ a = b) (l := scope.names) (fun _ _ => .inr rfl) (this.imp fun h => .inl h) (this.imp fun h => .inl h.symm)
              rcases this m1 hm with z | z
              · exact z rfl
              · cases z
            rw [hno]
            have hsome := clFrom_has (cells := X.env.cells) scope.names [] x (.inl (PySem.mem_of_lookup hy))
            obtain ⟨c', hc'⟩ := Option.isSome_iff_exists.mp hsome
            rcases clFrom_lookup scope.names [] x c' hcl hc' with z | z
            · rw [hc] at z; cases z; simpa using hc'
            · simp at z
    · rw [List.getElem?_append_right (by simpa using hi), List.getElem?_replicate] at e2
      split at e2 <;> cases e2
  · rcases cases_cell x c h with z | ⟨_, z⟩
    · exact ⟨_, (ownC x c z).1⟩
    · obtain ⟨v, q⟩ := I.cell x c z
      exact ⟨v, q.keeps keep⟩
  · rcases cases_cell x c h with z | ⟨_, z⟩
    · exact I.hok.fresh (Nat.le_of_lt (ownC x c z).2)
    · exact I.freeC x c z
  · show (capS cap own.length σ).length = (capN X cap own).length
    simp [capS, capN]
end
end DL
namespace DL
open PySem PySem.Spec PyProof.Rows L2
theorem compLoop_any {prog : Program} {w : World} {A : Around} {R : Result → Shared → Prop} {s : Shared} {elt target iter : Expr} {ifs : List Expr} {scope : Scope} {pos : Pos} {it acc : Value} {env : Env} (I : Nat → Shared → Prop)
    (turn : ∀ n s, I n s → wpAny (model prog w) A (pyNext it) (fun r s₁ => match r with
      | none => R (.ok .next) s₁
      | some v => wpAny (model prog w) A (letOwnedTupleGo target it v) (fun _ s₁' => wpAny (model prog w) A (assign target env v) (fun _ s₂ =>
          wpAny (model prog w) A (forIn ifs true fun c r => if r = true then do let ok ← isTrue c env (eval c env); pure (ForInStep.yield ok) else pure (ForInStep.yield r)) (fun ok s₃ =>
            if ok = true then wpAny (model prog w) A (eval elt env) (fun x s₄ =>
              wpAny (model prog w) A (call (.builtin "list.append") [acc, x]) (fun _ s₅ => ∃ m, m < n ∧ I m s₅) (fun _ _ => False) s₄) (fun _ _ => False) s₃
            else ∃ m, m < n ∧ I m s₃) (fun _ _ => False) s₂) (fun _ _ => False) s₁') (fun _ _ => False) s₁) (fun _ _ => False) s)
    (n : Nat) (h : I n s) :
    codeAny (model prog w) A (.compLoop (.ListComp elt [⟨target, iter, ifs, 0⟩] scope pos) 0 it acc env) R s := by
  refine codeAny_loop rfl I (fun n s hI => ?_) n h
  show wpAny _ A ((compTurn (.ListComp elt [⟨target, iter, ifs, 0⟩] scope pos) 0 it acc env).onRaise (fun x => do noteFrame x env; theTreesLotGoes x)) _ _ s
  refine wpAny_noted ?_
  rw [compTurn_list]
  refine wpAny_bind (wpAny_standAt (wpAny_bind (wpAny_mono (turn n s hI) (fun r s₁ h₁ => ?_) fun _ _ h' => h'.elim)))
  cases r with
  | none => exact wpAny_pure h₁
  | some v =>
    refine wpAny_bind (wpAny_mono h₁ (fun _ s₁' h₁' => ?_) fun _ _ h' => h'.elim)
    refine wpAny_bind (wpAny_mono h₁' (fun _ s₂ h₂ => wpAny_bind (wpAny_mono h₂ (fun ok s₃ h₃ => ?_) fun _ _ h' => h'.elim)) fun _ _ h' => h'.elim)
    cases ok with
    | false => exact wpAny_pure ⟨rfl, h₃⟩
    | true =>
      exact wpAny_bind (wpAny_bind (wpAny_mono h₃ (fun x s₄ h₄ => wpAny_bind (wpAny_mono h₄ (fun _ s₅ h₅ => wpAny_pure (wpAny_pure ⟨rfl, h₅⟩)) fun _ _ h' => h'.elim)) fun _ _ h' => h'.elim))
noncomputable def compD (g : D → Ev → Out Ev) (ft : FT) (fe : FE) : List D → Ev → Out (List D)
  | [], _ => .ok []
  | d :: ds, env => (g d env).bind fun env1 => (ft env1).bind fun c => if c = true then (fe env1).bind fun x => x.hold.bind fun y => (compD g ft fe ds env1).bind fun r => .ok (y :: r) else compD g ft fe ds env1
@[simp] noncomputable def fComp (cap : List Nat) (n : Nat) (fi : FI) (g : D → Ev → Out Ev) (ft : FT) (fe : FE) : FE := fun env => (fi env).bind fun ds => if ds.length ≤ 100000 then (compD g ft fe ds (capE cap n env)).bind fun out => .ok (.fresh out) else .bad
def DTs (X : Cx) (G₀ H₀ : Hp) (ifs : List Expr) (ft : FT) : Prop := ∀ (pins : List (Addr × Obj)) (s : Shared) (σ : St) (H : Hp) (Q : Bool → Hp → Prop), Inv X pins σ H s → tT X.K G₀ H₀ ft σ H Q →
  wpAny (model X.prog X.w) X.A (forIn ifs true fun c r => if r = true then do let ok ← isTrue c X.env (eval c X.env); pure (ForInStep.yield ok) else pure (ForInStep.yield r)) (TP X pins σ Q) X.xe s
@[simp] noncomputable def fYes : FT := fun _ => .ok true
theorem dts_nil {X : Cx} {G₀ H₀ : Hp} : DTs X G₀ H₀ [] fYes := fun pins s σ H Q I q => wpAny_tests_nil (by
  obtain ⟨env, G, b, J, e, k⟩ := q
  cases e
  exact ⟨H, I, k G H (Grow.refl _ _) J.le⟩)
def Calm (g : D → Ev → Out Ev) : Prop := ∀ d env env', g d env = .ok env' → NoOwn env → NoOwn env'
theorem NoOwn.set {env : Ev} (h : NoOwn env) (i : Nat) (d : D) : NoOwn (env.set i (.pers d)) := fun j ds e => by
  by_cases hj : i = j
  · subst hj; cases (getSet_eq e).1
  · rw [List.getElem?_set_ne hj] at e; exact h j ds e
theorem NoOwn.setAll : ∀ (is : List Nat) (ds : List D) {env : Ev}, NoOwn env → NoOwn (setAll is ds env)
  | [], _, _, h => h
  | _ :: _, [], _, h => h
  | i :: is, d :: ds, env, h => NoOwn.setAll is ds (h.set i d)
theorem calm_tup (is : List Nat) : Calm (gT is) := fun d env env' e h => by
  unfold gT at e
  split at e
  · split at e
    · cases e; exact NoOwn.setAll is _ h
    · cases e
  · cases e
theorem DI.other {K : PySem.W.Frag} {G₀ H₀ G H : Hp} {env : Ev} {σ : St} (I : DI K G₀ H₀ env σ G H) (h : NoOwn env) {p : Addr} {o : HO} (hg : G p = none) (h0 : H₀ p = none) : DI K G₀ H₀ env σ G (upd H p o) where
  le := fun b u q => by rw [upd_ne (ne_of_none q hg)]; exact I.le b u q
  gr := ⟨I.gr.g, fun b u q => by rw [upd_ne (ne_of_none q h0)]; exact I.gr.h b u q, I.gr.n⟩
  len := I.len
  slot := fun i s e => by
    cases s with
    | un => trivial
    | pers d => exact I.slot i _ e
    | own ds => exact absurd e (h i ds)
  apart := I.apart
section
variable {X : Cx} {G₀ H₀ : Hp} {elt iter tg : Expr} {ifs : List Expr} {scope : Scope} {pos : Pos} {fi : FI} {g : D → Ev → Out Ev} {ft : FT} {fe : FE} {cap : List Nat} {own : List Str}
theorem comp_block (C : CompOk X scope cap own) (hc : X.calm = true)
    (hg : ∀ ex s H, DG (cxComp X (capN X cap own) scope ex s H) G₀ H₀ tg g) (hgc : Calm g) (ht : ∀ ex s H, DTs (cxComp X (capN X cap own) scope ex s H) G₀ H₀ ifs ft) (he : ∀ ex s H, DE (cxComp X (capN X cap own) scope ex s H) G₀ H₀ elt fe)
    {pins : List (Addr × Obj)} {σ : St} {H2 G2 : Hp} {s2 : Shared} {env : Ev} {it : Addr} {fp : List Addr} {tn : Nat → Heap → Prop} {J : It} {ds out : List D}
    (I2 : Inv X pins σ H2 s2) (D2 : DI X.K G₀ H₀ env σ G2 H2) (T : Turn X.prog X.w X.K tg J fp it tn) (st2 : tn 0 s2.heap) (f2 : ∀ b ∈ fp, FpOk X pins H2 b) (jok : JOk X.K J G2 ds) (hz : ds.length ≤ 100000)
    (e : compD g ft fe ds (capE cap own.length env) = .ok out) {RR : Value → Addr → Result → Shared → Prop} {E : Value → Shared → Prop}
    (fin : ∀ (D C : Addr) (vs : List V) (G' H' : Hp) (s' : Shared), s2.heap.objs.size ≤ C ∧ H' C = none → H2 D = none → H' D = some (.lst vs) → G' D = none → RepL X.K G' out vs → Grow G2 H2 G' H' → Same G' H' →
      (∃ m, s'.heap.Ns C m) → (∀ h', Heap.SameBut C s'.heap h' → Inv X pins σ H' { s' with heap := h' }) → RR (.ref D) C (.ok .next) s') :
    wpAny (model X.prog X.w) X.A (newList []) (fun acc s₃ => wpAny (model X.prog X.w) X.A (newFunctionEnv scope X.env.globals (clFrom X.env.cells scope.names []) [] X.env.qual none .none (some X.env)) (fun cenv s₄ =>
      codeAny (model X.prog X.w) X.A (.compStart (.ListComp elt [⟨tg, iter, ifs, 0⟩] scope pos) 0 (.ref it) acc { cenv with scope := relabel scope X.env }) (RR acc cenv.locals) s₄) E s₃) E s2 := by
  have hlt : ∀ b ∈ fp, b < s2.heap.objs.size := fun b hb => let ⟨o, eo, _⟩ := T.obj _ _ st2 b hb; Heap.lt_size eo
  refine wpAny_newObj_type (wp_compEnv ?_)
  dsimp only
  generalize hD : s2.heap.objs.size = D
  have fD : H2 D = none := by rw [← hD]; exact I2.fresh
  have I3 : Inv X pins σ (upd H2 D (.lst [])) { s2 with heap := s2.heap.push { cls := .type "list", data := .seq ([] : List Value).toArray } } := by
    have := I2.lnew (t' := s2.toks) (ys := []) (its := []) .nil (Nat.zero_le _)
    rw [hD] at this
    exact this
  generalize hs3 : ({ s2 with heap := s2.heap.push { cls := .type "list", data := .seq ([] : List Value).toArray } } : Shared) = s3 at I3
  have hs3' : s3.heap = s2.heap.push { cls := .type "list", data := .seq ([] : List Value).toArray } := by rw [← hs3]
  have f3 : ∀ b ∈ fp, FpOk X pins (upd H2 D (.lst [])) b := fun b hb => ⟨by rw [upd_ne (by rw [← hD]; exact Nat.ne_of_lt (hlt b hb))]; exact (f2 b hb).1, (f2 b hb).2⟩
  have hlt3 : ∀ b ∈ fp, b < s3.heap.objs.size := fun b hb => by rw [hs3', Heap.size_push]; exact Nat.lt_succ_of_lt (hlt b hb)
  have I4 := comp_inv C I3 f3 hlt3
  have st4 : tn 0 (pushCells (s3.heap.push { cls := .type "dict", data := .dict #[] }) scope.names) := T.keep _ _ _ st2 fun b hb o eo => pushCells_keeps _ _ b o (Heap.get?_push_of_some _ (by rw [hs3']; exact Heap.get?_push_of_some _ eo))
  have g3 : Grow G2 H2 G2 (upd H2 D (.lst [])) ∧ Same G2 (upd H2 D (.lst [])) := Grow.laidL D2.le fD
  have D4 : DI X.K G₀ H₀ (capE cap own.length env) (capS cap own.length σ) G2 (upd H2 D (.lst [])) := cap_DI (D2.grow g3.1 g3.2) cap own.length
  have stat : ∀ {H' : Hp}, (∀ b ∈ fp, H' b = none) → ∀ b ∈ fp, FpOk (cxComp X (capN X cap own) scope fp s3 (upd H2 D (.lst []))) [] H' b := fun {H'} hn b hb =>
    ⟨hn b hb, (I4.ok.exf b hb).1, I4.ok.exfs b hb, .inl hb, (I4.ok.exf b hb).2, fun p hp => absurd (show p ∈ ([] : List (Addr × Obj)) from hp) (by simp)⟩
  have hG2D : G2 D = none := D2.le.free fD
  have h0D : H₀ D = none := D2.gr.h.free fD
  have loop : ∀ s4 : Shared, s4 = { s3 with heap := pushCells (s3.heap.push { cls := .type "dict", data := .dict #[] }) scope.names } →
      codeAny (model X.prog X.w) X.A (.compLoop (.ListComp elt [⟨tg, iter, ifs, 0⟩] scope pos) 0 (.ref it) (.ref D) (cxComp X (capN X cap own) scope fp s3 (upd H2 D (.lst []))).env) (RR (.ref D) s3.heap.objs.size) s4 := by
    rintro s4 rfl
    refine compLoop_any (fun k s' => ∃ i σ' H' G' env' accD accV rest, k = ds.length + 1 - i ∧ i ≤ ds.length ∧ Inv (cxComp X (capN X cap own) scope fp s3 (upd H2 D (.lst []))) [] σ' H' s' ∧ tn i s'.heap ∧ (∀ b ∈ fp, H' b = none) ∧
      DI X.K G₀ H₀ env' σ' G' H' ∧ NoOwn env' ∧ Grow G2 H2 G' H' ∧ H' D = some (.lst accV) ∧ G' D = none ∧ RepL X.K G' accD accV ∧ accD.length ≤ i ∧ compD g ft fe (ds.drop i) env' = .ok rest ∧ out = accD ++ rest) ?_ (ds.length + 1)
      ⟨0, _, _, G2, _, [], [], out, rfl, Nat.zero_le _, I4, st4, fun b hb => (f3 b hb).1, D4, noOwn_cap _ _ _, g3.1, upd_same, hG2D, RepL.nil, Nat.zero_le _, by simpa using e, rfl⟩
    rintro k s5 ⟨i, σ5, H5, G5, env5, accD, accV, rest, rfl, hi, I5, st5, fr5, D5, no5, gr5, hD5, gD5, ra5, la5, e5, eo⟩
    by_cases hlt5 : i < ds.length
    · have hd : ds.drop i = ds[i] :: ds.drop (i + 1) := List.drop_eq_getElem_cons hlt5
      rw [hd] at e5
      obtain ⟨env6, e6, e5⟩ := bind_inv e5
      obtain ⟨c, e7, e5⟩ := bind_inv e5
      refine thn (T.item (cxComp X (capN X cap own) scope fp s3 (upd H2 D (.lst []))) rfl rfl rfl hc i [] s5 σ5 H5 (fun _ _ => False) I5 (stat fr5) st5 (jok.go i G5 H5 gr5.g D5.le hlt5)) fun r s6 ⟨u, hr, h6⟩ => ?_
      subst hr
      refine thn h6 fun _ s7 ⟨x, H7, I7, r7, y7, st7, fr7⟩ => ?_
      obtain ⟨d, G7, hd7, g7, l7, rx7⟩ := jok.yld i G5 H5 x H7 gr5.g D5.le hlt5 y7
      have hde : d = ds[i] := by rw [List.getElem?_eq_getElem hlt5] at hd7; exact (Option.some.inj hd7).symm
      subst hde
      have D7 := D5.grow g7 l7
      have I7' := I7.pinned (stat fr7) (T.obj _ _ st7)
      refine thn (hg fp s3 (upd H2 D (.lst [])) _ s7 σ5 H7 x u (fun σ8 H8 => H8 = H7 ∧ DI X.K G₀ H₀ env6 σ8 G7 H7) I7' r7 ⟨env5, G7, _, env6, D7, rx7, e6, fun σ8 D8 => ⟨rfl, D8⟩⟩) fun _ s8 ⟨σ8, H8, I8, hH8, D8⟩ => ?_
      subst hH8
      have no8 : NoOwn env6 := hgc _ _ _ e6 no5
      have hD7 : H8 D = some (.lst accV) := g7.h _ _ hD5
      have gD7 : G7 D = none := g7.n D (by rw [hD5]; simp) gD5
      refine thn (ht fp s3 (upd H2 D (.lst [])) _ s8 σ8 H8 (fun b H9 => b = c ∧ ∃ G9, Grow G7 H8 G9 H9 ∧ Same G9 H9) I8 ⟨env6, G7, c, D8, e7, fun G9 H9 g9 l9 => ⟨rfl, G9, g9, l9⟩⟩) fun ok s9 ⟨H9, I9, hok, G9, g9, l9⟩ => ?_
      subst hok
      have D9 := D8.grow g9 l9
      have back : ∀ {s10 : Shared} {σ10 : St} {H10 : Hp}, Inv (cxComp X (capN X cap own) scope fp s3 (upd H2 D (.lst []))) ([] ++ pinsAt fp s7.heap) σ10 H10 s10 →
          Inv (cxComp X (capN X cap own) scope fp s3 (upd H2 D (.lst []))) [] σ10 H10 s10 ∧ tn (i + 1) s10.heap ∧ (∀ b ∈ fp, H10 b = none) := fun {s10 σ10 H10} I10 => by
        refine ⟨I10.unpinned, T.keep _ _ _ st7 fun b hb o eb => (I10.pin (b, o) (List.mem_append_right _ (List.mem_append_right _ (mem_pinsAt hb eb)))).1, fun b hb => ?_⟩
        obtain ⟨o, eb, d⟩ := T.obj _ _ st7 b hb
        exact (I10.pin (b, o) (List.mem_append_right _ (List.mem_append_right _ (mem_pinsAt hb eb)))).2.1
      have gr9 : Grow G2 H2 G9 H9 := (gr5.trans g7).trans g9
      cases ok with
      | false =>
        rw [if_neg Bool.false_ne_true] at e5 ⊢
        obtain ⟨I10, st10, fr10⟩ := back I9
        exact ⟨ds.length + 1 - (i + 1), by omega, i + 1, σ8, H9, G9, env6, accD, accV, rest, rfl, hlt5, I10, st10, fr10, D9, no8, gr9, g9.h _ _ hD7, g9.n D (by rw [hD7]; simp) gD7, (ra5.mono g7.g).mono g9.g, by omega, e5, eo⟩
      | true =>
        rw [if_pos rfl] at e5 ⊢
        obtain ⟨xv, e8, e5⟩ := bind_inv e5
        obtain ⟨y, e9, e5⟩ := bind_inv e5
        obtain ⟨rest', e10, e5⟩ := bind_inv e5
        cases e5
        refine thn (he fp s3 (upd H2 D (.lst [])) _ s9 σ8 H9 (fun v H10 => ∃ G10, Grow G9 H9 G10 H10 ∧ Same G10 H10 ∧ Rep X.K G10 y v) I9 ⟨env6, G9, xv, D9, e8, fun v G10 H10 g10 l10 h10 => held g10 l10 h10 e9⟩) fun u10 s10 ⟨v10, H10, I10, r10, G10, g10, l10, rep10⟩ => ?_
        have D10 := D9.grow g10 l10
        have hD10 : H10 D = some (.lst accV) := g10.h _ _ (g9.h _ _ hD7)
        have gD10 : G10 D = none := g10.n D (by rw [g9.h _ _ hD7]; simp) (g9.n D (by rw [hD7]; simp) gD7)
        have ra10 := ((ra5.mono g7.g).mono g9.g).mono g10.g
        refine thn (mt_append (X := cxComp X (capN X cap own) scope fp s3 (upd H2 D (.lst []))) _ s10 σ8 H10 (.ref D) [v10] (.ref D) [u10] (fun _ H11 => H11 = upd H10 D (.lst (accV ++ [v10]))) I10 rfl (.cons r10 .nil)
          ⟨D, accV, v10, rfl, rfl, hD10, by rw [← ra10.length, sizeLine_eq]; omega, rfl⟩) fun _ s11 ⟨_, H11, I11, _, hH11⟩ => ?_
        subst hH11
        obtain ⟨I12, st12, fr12⟩ := back I11
        have gr10 : Grow G2 H2 G10 (upd H10 D (.lst (accV ++ [v10]))) := by
          have q := gr9.trans g10
          exact ⟨q.g, fun b o z => by rw [upd_ne (ne_of_none z fD)]; exact q.h b o z, q.n⟩
        exact ⟨ds.length + 1 - (i + 1), by omega, i + 1, σ8, _, G10, env6, accD ++ [y], accV ++ [v10], rest', rfl, hlt5, I12, st12, fr12, D10.other no8 gD10 h0D, no8, gr10, upd_same, gD10, ra10.append (RepL.cons rep10 RepL.nil), by simp; omega, e10, by rw [eo]; simp⟩
    · have hi5 : i = ds.length := by omega
      subst hi5
      refine thn (T.done (cxComp X (capN X cap own) scope fp s3 (upd H2 D (.lst []))) rfl rfl rfl hc _ [] s5 σ5 H5 (fun _ _ => False) I5 (stat fr5) st5 (jok.stop _ G5 H5 gr5.g D5.le (Nat.le_refl _))) fun r s6 ⟨hr, I6⟩ => ?_
      subst hr
      rw [List.drop_length] at e5
      cases e5
      have eo' : out = accD := by rw [eo]; simp
      refine fin D s3.heap.objs.size accV G5 H5 s6 ?_ fD hD5 gD5 (by rw [eo']; exact ra5) gr5 D5.le ?_ fun h' sb => ?_
      · exact ⟨by rw [hs3', Heap.size_push]; exact Nat.le_succ _, I6.free⟩
      · obtain ⟨m, hm, _⟩ := I6.loc
        exact ⟨m, hm⟩
      · have ne : ∀ b o, s3.heap.get? b = some o → b ≠ s3.heap.objs.size := fun b o eb => Nat.ne_of_lt (Heap.lt_size eb)
        have frC : H5 s3.heap.objs.size = none := I6.free
        have up : ∀ b o, b ≠ s3.heap.objs.size → s6.heap.get? b = some o → h'.get? b = some o := fun b o hb eb => sb.extBut b o hb eb
        have ub := I6.base
        have U : Un (frs X.stack) fp (upd H2 D (.lst [])) H5 s3.heap h' :=
          ⟨fun b o eb n hb hx => up b o (ne b o eb) (ub.keep b o eb n hb hx), fun b o eb n hb hx => let ⟨sl, q⟩ := ub.slot b o eb n hb hx; ⟨sl, up b _ (ne b o eb) q⟩, ub.free, fun b o eb hx => let ⟨o', q⟩ := ub.there b o eb hx; ⟨o', up b _ (ne b o eb) q⟩, ub.tups, ub.frzs, ub.tbls⟩
        have hok : HOk X.prog X.w H5 h' := fun b u eb => (I6.hok b u eb).stay (fun c v hc' q => up c v (by
          rcases hc' with rfl | hc'
          · intro z; rw [z, frC] at eb; cases eb
          · intro z; rw [z, frC] at hc'; cases hc') q) (fun _ q => q) fun _ _ q => q
        exact I3.call' (s' := { s6 with heap := h' }) I6.os U hok I6.bare fun b hb => let ⟨a0, a1, a2, a3, a4, a5⟩ := f3 b hb; ⟨a3, a1, a4, a5⟩
  subst hs3
  exact codeAny_compStart_list (loop _ rfl) (T.self _ 0 _ _ _ st4 (loop _ rfl))
theorem de_comp (C : CompOk X scope cap own) (hi : DIt X G₀ H₀ tg iter fi)
    (hg : ∀ ex s H, DG (cxComp X (capN X cap own) scope ex s H) G₀ H₀ tg g) (hgc : Calm g) (ht : ∀ ex s H, DTs (cxComp X (capN X cap own) scope ex s H) G₀ H₀ ifs ft) (he : ∀ ex s H, DE (cxComp X (capN X cap own) scope ex s H) G₀ H₀ elt fe)
    (hc : X.calm = true := by rfl) (hs : ∀ x, foldedSetIterable iter X.env x = pure x := by intro _; rfl) : DE X G₀ H₀ (.ListComp elt [⟨tg, iter, ifs, 0⟩] scope pos) (fComp cap own.length fi g ft fe) := by
  intro pins s σ H Q I q
  obtain ⟨env, G, val, D0, e, k⟩ := q
  obtain ⟨ds, e1, e⟩ := bind_inv e
  split at e
  · rename_i hz
    obtain ⟨out, e2, e⟩ := bind_inv e
    cases e
    rw [eval_ListComp]
    refine wpAny_comprehension_free (use := none) (cl := clFrom X.env.cells scope.names []) rfl hs (closureFor_eq (C.cells I)) C.kind C.locals ?_
    refine thn (hi pins s σ H (fun J H2 => ∃ G2, Grow G H G2 H2 ∧ Same G2 H2 ∧ JOk X.K J G2 ds) I ⟨env, G, ds, D0, e1, fun J G2 H2 g2 l2 jok => ⟨G2, g2, l2, jok⟩⟩) fun v s1 h1 => thn h1 fun itv s2 h2 => ?_
    obtain ⟨it, fp, tn, J, H2, rfl, I2, T, st2, f2, G2, g2, l2, jok⟩ := h2
    refine comp_block (RR := fun acc C => compPost (model X.prog X.w) X.A X.xe none (EP X pins σ Q) acc C) C hc hg hgc ht he I2 (D0.grow g2 l2) T st2 f2 jok hz e2 fun D C' vs G' H' s' hC fD hD gD r gr l hm hI => ?_
    obtain ⟨m, hm⟩ := hm
    exact ⟨m, hm, fun h' sb => ⟨.ref D, H', hI h' sb, rfl, k _ G' H' (g2.trans gr) l ⟨D, vs, rfl, g2.h.free fD, hD, gD, r⟩⟩⟩
  · cases e
end
end DL
namespace DL
open PySem PySem.Spec PyProof.Rows L2
structure IsiT (T : String) : Prop where
  mem : T = "int" ∨ T = "bool" ∨ T = "list" ∨ T = "tuple"
noncomputable def ins (n : Int) : List Int → List Int
  | [] => [n]
  | m :: r => if n ≤ m then n :: m :: r else m :: ins n r
noncomputable def isort : List Int → List Int
  | [] => []
  | n :: r => ins n (isort r)
theorem ins_perm (n : Int) : ∀ l : List Int, (ins n l).Perm (n :: l)
  | [] => List.Perm.refl _
  | m :: r => by
    unfold ins
    split
    · exact List.Perm.refl _
    · exact ((ins_perm n r).cons m).trans (List.Perm.swap n m r)
theorem isort_perm : ∀ l : List Int, (isort l).Perm l
  | [] => List.Perm.refl _
  | n :: r => (ins_perm n (isort r)).trans ((isort_perm r).cons n)
theorem ins_sorted (n : Int) : ∀ l : List Int, l.Pairwise (· ≤ ·) → (ins n l).Pairwise (· ≤ ·)
  | [], _ => by simp [ins]
  | m :: r, h => by
    unfold ins
    have h' := List.pairwise_cons.mp h
    split
    · rename_i hn
      refine List.pairwise_cons.mpr ⟨fun x hx => ?_, h⟩
      rcases List.mem_cons.mp hx with rfl | hx
      · exact hn
      · exact Int.le_trans hn (h'.1 x hx)
    · rename_i hn
      refine List.pairwise_cons.mpr ⟨fun x hx => ?_, ins_sorted n r h'.2⟩
      rcases List.mem_cons.mp ((ins_perm n r).mem_iff.mp hx) with rfl | hx
      · omega
      · exact h'.1 x hx
theorem isort_sorted : ∀ l : List Int, (isort l).Pairwise (· ≤ ·)
  | [] => List.Pairwise.nil
  | n :: r => ins_sorted n _ (isort_sorted r)
theorem sorted_unique : ∀ {a b : List Int}, a.Perm b → a.Pairwise (· ≤ ·) → b.Pairwise (· ≤ ·) → a = b
  | [], b, p, _, _ => by rw [List.Perm.nil_eq p]
  | x :: a, [], p, _, _ => by have := p.length_eq; simp at this
  | x :: a, y :: b, p, ha, hb => by
    have ha' := List.pairwise_cons.mp ha
    have hb' := List.pairwise_cons.mp hb
    have e : x = y := by
      have h1 : x ∈ y :: b := p.mem_iff.mp List.mem_cons_self
      have h2 : y ∈ x :: a := p.mem_iff.mpr List.mem_cons_self
      rcases List.mem_cons.mp h1 with h1 | h1
      · exact h1
      · rcases List.mem_cons.mp h2 with h2 | h2
        · exact h2.symm
        · exact Int.le_antisymm (ha'.1 y h2) (hb'.1 x h1)
    subst e
    rw [sorted_unique ((List.perm_cons x).mp p) ha'.2 hb'.2]
noncomputable def asInts : List D → Option (List Int)
  | [] => some []
  | .int i :: ds => (asInts ds).map (i :: ·)
  | _ :: _ => none
theorem asInts_of : ∀ {ds : List D} {ns : List Int}, asInts ds = some ns → ds = ns.map .int
  | [], ns, h => by cases h; rfl
  | .int i :: ds, ns, h => by
    simp only [asInts] at h
    cases q : asInts ds with
    | none => rw [q] at h; cases h
    | some ms => rw [q] at h; cases h; rw [asInts_of q]; rfl
  | .non :: ds, ns, h => by cases h
  | .bl _ :: ds, ns, h => by cases h
  | .tup _ :: ds, ns, h => by cases h
  | .lst _ :: ds, ns, h => by cases h
  | .scr _ :: ds, ns, h => by cases h
  | .exc _ _ :: ds, ns, h => by cases h
theorem asInts_map : ∀ ns : List Int, asInts (ns.map .int) = some ns
  | [] => rfl
  | n :: ns => by simp [asInts, asInts_map ns]
structure Cal (P : Program) (w : World) (K : PySem.W.Frag) (mg : Str → Option Value) (base : Heap) (k : Nat) (x : Str) (ps : List Str) (m : List D → Out Val) : Prop where
  ex : ∃ (f : Addr) (fd : FuncData), FnOk P w K mg base CX0 k f fd ps (spD K m ps.length) ∧ mg x = some (.ref f) ∧ PySem.W.keepIn K (.ref f) = true ∧ Binds K fd ps []
theorem Cal.mono {P : Program} {w : World} {K : PySem.W.Frag} {mg : Str → Option Value} {base : Heap} {j k : Nat} {x : Str} {ps : List Str} {m : List D → Out Val} (c : Cal P w K mg base j x ps m) (h : j ≤ k) : Cal P w K mg base k x ps m := by
  obtain ⟨f, fd, F, r⟩ := c.ex
  exact ⟨f, fd, F.mono h, r⟩
theorem Cal.imp {P : Program} {w : World} {K : PySem.W.Frag} {mg : Str → Option Value} {base : Heap} {k : Nat} {x : Str} {ps : List Str} {m m' : List D → Out Val} (c : Cal P w K mg base k x ps m) (h : ∀ ds v, ds.length = ps.length → m' ds = .ok v → m ds = .ok v) : Cal P w K mg base k x ps m' := by
  obtain ⟨f, fd, F, r⟩ := c.ex
  refine ⟨f, fd, F.imp fun vs H Q E q => ?_, r⟩
  obtain ⟨G, ds, val, h1, h2, h3, h4, h5⟩ := q
  exact ⟨G, ds, val, h1, h2, h3, h ds val h1 h4, h5⟩
section
variable {X : Cx} {G₀ H₀ : Hp} {k : Nat} {ps : List Str} {x : Str} {p pos : Pos} {e : Expr} {es : List Expr} {r : Ev → Out (List Val)} {m : List D → Out Val}
theorem de_cal (C : Cal X.prog X.w X.K X.mg X.base k x ps m) (hr : Room k X.A) (ha : DA X G₀ H₀ (e :: es) r)
    (hlen : ∀ env xs, r env = .ok xs → xs.length = ps.length) (hg : Gl X x := by rfl) (hdb : (x == ("__debug__" : Str)) = false := by decide) (he : starEach (e :: es) X.env = (false, eval e X.env) :: starEach es X.env := by rfl) (hpl : (backTo pos (starEach es X.env)).any (·.1) = false := by rfl) :
    DE X G₀ H₀ (.Call (.Name x p) (e :: es) [] pos) (fCall m r) := by
  obtain ⟨f, fd, F, hm, hk, hb⟩ := C.ex
  exact de_call F hr hm hk hb ha hlen hg hdb he hpl
end
theorem len_nil : ∀ env xs, fNil env = .ok xs → xs.length = 0 := fun env xs h => by cases h; rfl
theorem len_cons {f : FE} {r : Ev → Out (List Val)} {n : Nat} (h : ∀ env xs, r env = .ok xs → xs.length = n) : ∀ env xs, fCons f r env = .ok xs → xs.length = n + 1 := fun env xs e => by
  obtain ⟨x, _, e⟩ := bind_inv e
  obtain ⟨ys, e2, e⟩ := bind_inv e
  cases e
  simp [h env ys e2]
theorem hu20 {A : Around} {k : Nat} (hr : Room k A) : A.units + 20 < cLine := by have := hr.units; omega
end DL
namespace DL
open PySem PySem.Spec PyProof.Rows L2
theorem len_le_of_sub : ∀ (l m : List Nat), l.Nodup → (∀ x ∈ l, x ∈ m) → l.length ≤ m.length
  | [], m, _, _ => Nat.zero_le _
  | x :: l, m, hn, hs => by
    have hx : x ∈ m := hs x (.head _)
    have h2 := List.nodup_cons.mp hn
    have := len_le_of_sub l (m.erase x) h2.2 fun y hy => (List.mem_erase_of_ne (fun z : y = x => h2.1 (by rw [← z]; exact hy))).mpr (hs y (.tail _ hy))
    rw [List.length_erase_of_mem hx] at this
    have hp : 0 < m.length := List.length_pos_of_mem hx
    simp only [List.length_cons]
    omega
theorem exists_free (xs : List Nat) (n : Nat) (h : xs.length < n) : ∃ e, e < n ∧ e ∉ xs := by
  refine Classical.byContradiction fun hc => ?_
  have : ∀ x ∈ List.range n, x ∈ xs := fun x hx => Classical.byContradiction fun hh => hc ⟨x, List.mem_range.mp hx, hh⟩
  have h2 := len_le_of_sub (List.range n) xs List.nodup_range this
  rw [List.length_range] at h2
  omega
noncomputable def lp (mask : Nat) : Nat → Nat × Nat → Nat × Nat
  | 0, x => x
  | n + 1, x => lp mask n (SetTable.leap mask x.1 x.2)
theorem lp_succ' (mask : Nat) : ∀ (n : Nat) (x : Nat × Nat), lp mask (n + 1) x = SetTable.leap mask (lp mask n x).1 (lp mask n x).2
  | 0, x => rfl
  | n + 1, x => lp_succ' mask n _
theorem lp_add (mask : Nat) : ∀ (m n : Nat) (x : Nat × Nat), lp mask (m + n) x = lp mask n (lp mask m x)
  | 0, n, x => by rw [Nat.zero_add]; rfl
  | m + 1, n, x => by
    rw [Nat.add_right_comm]
    exact lp_add mask m n _
theorem lp_snd (mask : Nat) : ∀ (n : Nat) (x : Nat × Nat), (lp mask n x).2 = x.2 / 32 ^ n
  | 0, x => by simp [lp]
  | n + 1, x => by
    rw [lp, lp_snd mask n]
    simp only [SetTable.leap]
    rw [Nat.div_div_eq_div_mul, Nat.pow_succ, Nat.mul_comm]
theorem lp_lt (mask n : Nat) (x : Nat × Nat) (h : x.1 ≤ mask) : (lp mask n x).1 ≤ mask := by
  cases n with
  | zero => exact h
  | succ n =>
    rw [lp_succ']
    simp only [SetTable.leap]
    have := Nat.mod_lt ((lp mask n x).1 * 5 + 1 + (lp mask n x).2 / 32) (show 0 < mask + 1 by omega)
    omega
noncomputable def lc (mask : Nat) : Nat → Nat → Nat
  | 0, i => i
  | n + 1, i => lc mask n ((i * 5 + 1) % (mask + 1))
theorem lp_zero (mask : Nat) : ∀ (n i : Nat), lp mask n (i, 0) = (lc mask n i, 0)
  | 0, i => rfl
  | n + 1, i => by
    show lp mask n (SetTable.leap mask i 0) = _
    simp only [SetTable.leap, Nat.zero_div, Nat.add_zero]
    exact lp_zero mask n _
noncomputable def lcAll (mask : Nat) : Bool := (List.range (mask + 1)).all fun i => (List.range (mask + 1)).all fun e => (List.range (mask + 1)).any fun m => lc mask m i == e
theorem lcAll_7 : lcAll 7 = true := by decide +kernel
theorem lcAll_31 : lcAll 31 = true := by decide +kernel
theorem lc_hits {mask i e : Nat} (h : lcAll mask = true) (hi : i ≤ mask) (he : e ≤ mask) : ∃ m, m ≤ mask ∧ lc mask m i = e := by
  unfold lcAll at h
  rw [List.all_eq_true] at h
  have h1 := h i (List.mem_range.mpr (by omega))
  rw [List.all_eq_true] at h1
  have h2 := h1 e (List.mem_range.mpr (by omega))
  rw [List.any_eq_true] at h2
  obtain ⟨m, hm, q⟩ := h2
  exact ⟨m, by have := List.mem_range.mp hm; omega, by simpa using q⟩
theorem bits_lt (h : Int) : SetTable.bits h < 2 ^ 64 := by
  unfold SetTable.bits
  have h1 := Int.emod_nonneg h (show (2 ^ 64 : Int) ≠ 0 by decide)
  have h2 := Int.emod_lt_of_pos h (show (0 : Int) < 2 ^ 64 by decide)
  omega
theorem lp_hits {mask e : Nat} {h : Int} {i : Nat} (ha : lcAll mask = true) (hi : i ≤ mask) (he : e ≤ mask) : ∃ n, n ≤ 13 + mask ∧ (lp mask n (i, SetTable.bits h)).1 = e := by
  have hz : (lp mask 13 (i, SetTable.bits h)).2 = 0 := by
    rw [lp_snd]
    exact Nat.div_eq_of_lt (Nat.lt_of_lt_of_le (bits_lt h) (by decide))
  obtain ⟨m, hm, q⟩ := lc_hits ha (lp_lt mask 13 (i, SetTable.bits h) hi) he
  refine ⟨13 + m, by omega, ?_⟩
  rw [lp_add]
  have : lp mask 13 (i, SetTable.bits h) = ((lp mask 13 (i, SetTable.bits h)).1, 0) := by rw [← hz]
  rw [this, lp_zero]
  exact q
noncomputable def advN (t : SetTable) : Nat → SetTable.Probe → SetTable.Probe
  | 0, p => p
  | n + 1, p => advN t n (t.advance p)
theorem advN_add (t : SetTable) : ∀ (m n : Nat) (p : SetTable.Probe), advN t (m + n) p = advN t n (advN t m p)
  | 0, n, p => by rw [Nat.zero_add]; rfl
  | m + 1, n, p => by rw [Nat.add_right_comm]; exact advN_add t m n _
noncomputable def runP (t : SetTable) (x : Nat × Nat) : SetTable.Probe := { j := x.1, more := SetTable.runEnd t.mask x.1 - x.1, i := x.1, perturb := x.2, dummy := none }
theorem adv_run (t : SetTable) : ∀ (k : Nat) (p : SetTable.Probe), p.more = k → p.dummy = none → advN t (k + 1) p = runP t (SetTable.leap t.mask p.i p.perturb)
  | 0, p, h, hd => by
    show t.advance p = _
    unfold SetTable.advance
    rw [if_neg (by omega)]
    simp [runP, hd]
  | k + 1, p, h, hd => by
    have e : t.advance p = { p with j := p.j + 1, more := p.more - 1 } := by
      unfold SetTable.advance
      rw [if_pos (by omega)]
    show advN t (k + 1) (t.advance p) = _
    rw [e]
    exact adv_run t k { p with j := p.j + 1, more := p.more - 1 } (by show p.more - 1 = k; omega) hd
theorem runEnd_le (mask i : Nat) : SetTable.runEnd mask i - i ≤ 9 := by
  unfold SetTable.runEnd
  split <;> omega
theorem adv_leaps (t : SetTable) (x : Nat × Nat) : ∀ n : Nat, ∃ k, k ≤ 10 * n ∧ advN t k (runP t x) = runP t (lp t.mask n x)
  | 0 => ⟨0, Nat.zero_le _, rfl⟩
  | n + 1 => by
    obtain ⟨k, hk, e⟩ := adv_leaps t x n
    have h9 := runEnd_le t.mask (lp t.mask n x).1
    refine ⟨k + ((runP t (lp t.mask n x)).more + 1), ?_, ?_⟩
    · show k + (SetTable.runEnd t.mask (lp t.mask n x).1 - (lp t.mask n x).1 + 1) ≤ _
      omega
    · rw [advN_add, e, adv_run t _ _ rfl rfl, lp_succ']
      rfl
theorem advance_dummy (t : SetTable) (p : SetTable.Probe) : (t.advance p).dummy = p.dummy := by
  unfold SetTable.advance
  split <;> rfl
theorem slot_cases {t : SetTable} (hd : t.dummies = #[]) (j : Nat) : t.slot j = .empty ∨ ∃ i, t.slot j = .live i := by
  unfold SetTable.slot
  dsimp only
  split
  · exact .inr ⟨_, rfl⟩
  · rw [hd, if_neg (by simp [SetTable.has])]
    exact .inl rfl
theorem go_finds {t : SetTable} {h : Int} (hd : t.dummies = #[]) : ∀ (k fuel : Nat) (p : SetTable.Probe), k < fuel → p.dummy = none → t.slot (advN t k p).j = .empty →
    ∃ j, SetTable.probe.go t (fun _ => h + 1) h fuel p = some (.empty j none) ∧ t.slot j = .empty
  | k, 0, p, hk, _, _ => absurd hk (Nat.not_lt_zero _)
  | k, fuel + 1, p, hk, hp, hs => by
    unfold SetTable.probe.go
    rcases slot_cases hd p.j with e | ⟨i, e⟩
    · rw [e]
      exact ⟨p.j, by simp [hp], e⟩
    · rw [e]
      dsimp only
      have hne : (h + 1 == h) = false := by simp; omega
      rw [hne]
      cases k with
      | zero => rw [show (advN t 0 p).j = p.j from rfl, e] at hs; cases hs
      | succ k => exact go_finds hd k fuel (t.advance p) (by omega) (by rw [advance_dummy]; exact hp) hs
theorem slot_of_not_mem {t : SetTable} (hd : t.dummies = #[]) {j : Nat} (h : j ∉ t.place.toList) : t.slot j = .empty := by
  rcases slot_cases hd j with e | ⟨i, e⟩
  · exact e
  · unfold SetTable.slot at e
    dsimp only at e
    split at e
    · rename_i hb
      have hb' : t.place[SetTable.below t.place j]? = some j := by simpa using hb
      rw [← Array.getElem?_toList] at hb'
      exact absurd (List.mem_of_getElem? hb') h
    · rw [hd, if_neg (by simp [SetTable.has])] at e
      cases e
structure TabOk (t : SetTable) (n : Nat) : Prop where
  plain : t.plain = true
  dummies : t.dummies = #[]
  size : t.place.size = n
  rise : t.place.toList.Pairwise (· < ·)
  mask : (t.mask = 7 ∧ n < 5) ∨ (t.mask = 31 ∧ n < 19)
theorem TabOk.lcAll {t : SetTable} {n : Nat} (h : TabOk t n) : lcAll t.mask = true := by
  rcases h.mask with ⟨e, _⟩ | ⟨e, _⟩ <;> rw [e]
  · exact lcAll_7
  · exact lcAll_31
theorem freeSlot_ok {t : SetTable} {n : Nat} (T : TabOk t n) (h : Int) : ∃ j, t.freeSlot h = some (j, false) ∧ t.slot j = .empty := by
  obtain ⟨e, he, hm⟩ := exists_free t.place.toList (t.mask + 1) (by rw [Array.length_toList, T.size]; rcases T.mask with ⟨q, _⟩ | ⟨q, _⟩ <;> omega)
  have hi : SetTable.bits h % (t.mask + 1) ≤ t.mask := by
    have := Nat.mod_lt (SetTable.bits h) (show 0 < t.mask + 1 by omega)
    omega
  obtain ⟨m, hm1, hm2⟩ := lp_hits (h := h) T.lcAll hi (show e ≤ t.mask by omega)
  obtain ⟨k, hk1, hk2⟩ := adv_leaps t (SetTable.bits h % (t.mask + 1), SetTable.bits h) m
  obtain ⟨j, hj, hs⟩ := go_finds (h := h) T.dummies k (10 * SetTable.turns t.mask) (t.probeStart h) (by unfold SetTable.turns; omega) rfl (by
    show t.slot (advN t k (runP t (SetTable.bits h % (t.mask + 1), SetTable.bits h))).j = .empty
    rw [hk2]
    show t.slot (lp t.mask m _).1 = .empty
    rw [hm2]
    exact slot_of_not_mem T.dummies hm)
  refine ⟨j, ?_, hs⟩
  unfold SetTable.freeSlot SetTable.probe
  rw [hj]
  rfl
theorem below_go {xs : Array Nat} {j : Nat} (hr : xs.toList.Pairwise (· < ·)) : ∀ (fuel lo hi : Nat), hi - lo ≤ fuel → lo ≤ hi → hi ≤ xs.size → (∀ i x, i < lo → xs[i]? = some x → x < j) → (∀ i x, hi ≤ i → xs[i]? = some x → j ≤ x) →
    SetTable.below.go xs j fuel lo hi ≤ xs.size ∧ (∀ i x, i < SetTable.below.go xs j fuel lo hi → xs[i]? = some x → x < j) ∧ (∀ i x, SetTable.below.go xs j fuel lo hi ≤ i → xs[i]? = some x → j ≤ x)
  | 0, lo, hi, h1, h2, h3, h4, h5 => by
    have : lo = hi := by omega
    subst this
    exact ⟨h3, h4, h5⟩
  | fuel + 1, lo, hi, h1, h2, h3, h4, h5 => by
    unfold SetTable.below.go
    by_cases hlt : lo < hi
    · rw [if_pos hlt]
      dsimp only
      have hmid : (lo + hi) / 2 < xs.size := by omega
      have hrel : ∀ (a b x y : Nat), a < b → xs[a]? = some x → xs[b]? = some y → x < y := by
        intro a b x y hab ha hb
        rw [← Array.getElem?_toList] at ha hb
        obtain ⟨ha1, rfl⟩ := List.getElem?_eq_some_iff.mp ha
        obtain ⟨hb1, rfl⟩ := List.getElem?_eq_some_iff.mp hb
        exact List.pairwise_iff_getElem.mp hr a b ha1 hb1 hab
      have hg : xs.getD ((lo + hi) / 2) j = xs[(lo + hi) / 2] := by simp [Array.getD, hmid]
      rw [hg]
      by_cases hc : xs[(lo + hi) / 2] < j
      · rw [if_pos hc]
        refine below_go hr fuel _ hi (by omega) (by omega) h3 (fun i x hi' hx => ?_) h5
        by_cases hi2 : i = (lo + hi) / 2
        · subst hi2
          rw [Array.getElem?_eq_getElem hmid] at hx
          cases hx
          exact hc
        · have := hrel i ((lo + hi) / 2) x _ (by omega) hx (Array.getElem?_eq_getElem hmid)
          omega
      · rw [if_neg hc]
        refine below_go hr fuel lo _ (by omega) (by omega) (by omega) h4 (fun i x hi' hx => ?_)
        by_cases hi2 : i = (lo + hi) / 2
        · subst hi2
          rw [Array.getElem?_eq_getElem hmid] at hx
          cases hx
          omega
        · have := hrel ((lo + hi) / 2) i _ x (by omega) (Array.getElem?_eq_getElem hmid) hx
          omega
    · rw [if_neg hlt]
      have : lo = hi := by omega
      subst this
      exact ⟨h3, h4, h5⟩
theorem below_ok {xs : Array Nat} (j : Nat) (hr : xs.toList.Pairwise (· < ·)) :
    SetTable.below xs j ≤ xs.size ∧ (∀ i x, i < SetTable.below xs j → xs[i]? = some x → x < j) ∧ (∀ i x, SetTable.below xs j ≤ i → xs[i]? = some x → j ≤ x) :=
  below_go hr xs.size 0 xs.size (by omega) (by omega) (Nat.le_refl _) (fun _ _ h => absurd h (Nat.not_lt_zero _)) fun i x h hx => by
    rw [Array.getElem?_eq_none h] at hx; cases hx
theorem put_ok {t : SetTable} {n j : Nat} (T : TabOk t n) (hs : t.slot j = .empty) : (t.put j).1 = { t with place := SetTable.insertAt t.place (t.put j).2 j } ∧ (SetTable.insertAt t.place (t.put j).2 j).toList.Pairwise (· < ·) ∧ (t.put j).2 ≤ n := by
  have hp : (t.put j).2 = SetTable.below t.place j := rfl
  obtain ⟨b1, b2, b3⟩ := below_ok j T.rise
  refine ⟨?_, ?_, by rw [hp, ← T.size]; exact b1⟩
  · unfold SetTable.put
    dsimp only
    rw [T.dummies, if_neg (by simp [SetTable.has])]
  · rw [hp, SetTable.toList_insertAt]
    have hne : t.place[SetTable.below t.place j]? ≠ some j := by
      unfold SetTable.slot at hs
      dsimp only at hs
      split at hs
      · cases hs
      · rename_i hb
        simpa using hb
    have hrel : ∀ (a b x y : Nat), a < b → t.place[a]? = some x → t.place[b]? = some y → x < y := by
      intro a b x y hab ha hb
      rw [← Array.getElem?_toList] at ha hb
      obtain ⟨ha1, rfl⟩ := List.getElem?_eq_some_iff.mp ha
      obtain ⟨hb1, rfl⟩ := List.getElem?_eq_some_iff.mp hb
      exact List.pairwise_iff_getElem.mp T.rise a b ha1 hb1 hab
    have hlow : ∀ x ∈ t.place.toList.take (SetTable.below t.place j), x < j := by
      intro x hx
      obtain ⟨i, hi⟩ := List.getElem?_of_mem hx
      rw [List.getElem?_take] at hi
      split at hi
      · rename_i h1
        rw [Array.getElem?_toList] at hi
        exact b2 i x h1 hi
      · cases hi
    have hhigh : ∀ x ∈ t.place.toList.drop (SetTable.below t.place j), j < x := by
      intro x hx
      obtain ⟨i, hi⟩ := List.getElem?_of_mem hx
      rw [List.getElem?_drop, Array.getElem?_toList] at hi
      have h1 := b3 (SetTable.below t.place j + i) x (by omega) hi
      rcases Nat.lt_or_eq_of_le h1 with h2 | h2
      · exact h2
      · subst h2
        exfalso
        cases i with
        | zero => exact hne hi
        | succ i =>
          have hb : SetTable.below t.place j < t.place.size := by
            have := Array.getElem?_eq_some_iff.mp hi
            obtain ⟨q, _⟩ := this
            omega
          have q1 := b3 _ _ (Nat.le_refl _) (Array.getElem?_eq_getElem hb)
          have q2 := hrel _ _ _ _ (show SetTable.below t.place j < SetTable.below t.place j + (i + 1) by omega) (Array.getElem?_eq_getElem hb) hi
          omega
    rw [List.pairwise_append]
    refine ⟨T.rise.sublist (List.take_sublist _ _), ?_, ?_⟩
    · rw [List.pairwise_cons]
      exact ⟨hhigh, T.rise.sublist (List.drop_sublist _ _)⟩
    · intro a ha b hb
      rcases List.mem_cons.mp hb with rfl | hb
      · exact hlow a ha
      · exact Nat.lt_trans (hlow a ha) (hhigh b hb)
end DL
namespace DL
open PySem PySem.Spec PyProof.Rows L2
theorem layNew_ok {t : SetTable} {es : Array (Int × Value)} (T : TabOk t es.size) (hn : es.size < 18) (h : Int) (x : Value) :
    ∃ p j, p ≤ es.size ∧ layNew t es h x = (SetTable.insertAt es p (h, x), { t with place := SetTable.insertAt t.place p j }, false, false) ∧ (SetTable.insertAt t.place p j).toList.Pairwise (· < ·)
      ∧ (SetTable.insertAt es p (h, x)).size = es.size + 1 ∧ (SetTable.insertAt t.place p j).size = es.size + 1 := by
  obtain ⟨j, hj, hs⟩ := freeSlot_ok T h
  obtain ⟨h1, h2, h3⟩ := put_ok T hs
  have z1 : (SetTable.insertAt es (t.put j).2 (h, x)).size = es.size + 1 := by
    have := (SetTable.insertAt_perm es (t.put j).2 (h, x)).length_eq
    simpa using this
  have z2 : (SetTable.insertAt t.place (t.put j).2 j).size = es.size + 1 := by
    have := (SetTable.insertAt_perm t.place (t.put j).2 j).length_eq
    rw [← T.size]
    simpa using this
  have hfit : SetTable.fits { t with place := SetTable.insertAt t.place (t.put j).2 j } (es.size + 1) = true := by
    unfold SetTable.fits SetTable.fill
    rw [z2, T.dummies]
    rcases T.mask with ⟨q, _⟩ | ⟨q, _⟩ <;> rw [q] <;> simp <;> omega
  refine ⟨(t.put j).2, j, h3, ?_, h2, z1, z2⟩
  unfold layNew
  rw [hj]
  dsimp only
  rw [h1, z1]
  unfold SetTable.orStandIn
  rw [hfit]
  rfl
theorem set_owner : ∀ (l : List (Option Nat)) (j k : Nat), l[j]? = some none → List.Perm ((l.set j (some k)).filterMap id) (k :: l.filterMap id)
  | [], j, k, h => by simp at h
  | a :: l, 0, k, h => by
    simp at h
    subst h
    simp
  | a :: l, j + 1, k, h => by
    have ih := set_owner l j k (by simpa using h)
    cases a with
    | none => simpa using ih
    | some b =>
      simp only [List.set_cons_succ, List.filterMap_cons, id]
      exact (ih.cons b).trans (.swap k b _)
theorem owner_free {owner : Array (Option Nat)} {n k : Nat} (hs : owner.size = n) (hp : List.Perm (owner.toList.filterMap id) (List.range k)) (hk : k < n) : ∃ e, e < n ∧ owner[e]? = some none := by
  refine Classical.byContradiction fun hc => ?_
  have hall : ∀ a ∈ owner.toList, a ≠ none := by
    intro a ha z
    subst z
    obtain ⟨i, hi⟩ := List.getElem?_of_mem ha
    rw [Array.getElem?_toList] at hi
    obtain ⟨q, _⟩ := Array.getElem?_eq_some_iff.mp hi
    exact hc ⟨i, by omega, hi⟩
  have hlen : ∀ l : List (Option Nat), (∀ a ∈ l, a ≠ none) → (l.filterMap id).length = l.length := by
    intro l
    induction l with
    | nil => intro _; rfl
    | cons a l ih =>
      intro h
      cases a with
      | none => exact absurd rfl (h none (.head _))
      | some b =>
        simp only [List.filterMap_cons, id, List.length_cons]
        rw [ih fun a ha => h a (.tail _ ha)]
  have h1 := hlen owner.toList hall
  rw [hp.length_eq, List.length_range, Array.length_toList] at h1
  omega
theorem free_finds {mask e : Nat} {owner : Array (Option Nat)} (he : owner[e]? = some none) : ∀ (n fuel : Nat) (i p : Nat), n < fuel → (lp mask n (i, p)).1 = e → ∃ j, SetTable.layClean.free mask owner fuel i p = some j ∧ owner[j]? = some none
  | n, 0, i, p, h, _ => absurd h (Nat.not_lt_zero _)
  | n, fuel + 1, i, p, h, hq => by
    unfold SetTable.layClean.free
    cases hf : (List.range (SetTable.runEnd mask i + 1 - i)).find? fun k => (owner.getD (i + k) (some 0)).isNone with
    | some k =>
      dsimp only
      refine ⟨i + k, rfl, ?_⟩
      have := List.find?_some hf
      simp only [Option.isNone_iff_eq_none] at this
      by_cases hb : i + k < owner.size
      · rw [Array.getElem?_eq_getElem hb]
        simp only [Array.getD, hb, dite_true] at this
        simpa using this
      · simp [Array.getD, hb] at this
    | none =>
      dsimp only
      cases n with
      | zero =>
        exfalso
        have : i = e := hq
        subst this
        rw [List.find?_eq_none] at hf
        have h1 := hf 0 (List.mem_range.mpr (by unfold SetTable.runEnd; split <;> omega))
        apply h1
        obtain ⟨q, q2⟩ := Array.getElem?_eq_some_iff.mp he
        simp [Array.getD, q, q2]
      | succ n => exact free_finds he n fuel _ _ (by omega) hq
theorem layClean_ok (hs : List Int) : ∀ (owner : Array (Option Nat)) (k : Nat), owner.size = 32 → List.Perm (owner.toList.filterMap id) (List.range k) → k + hs.length < 32 →
    ∃ owner', (hs.foldl (init := some (owner, k)) fun acc h => do
      let (owner, k) ← acc
      let j ← SetTable.layClean.free 31 owner (SetTable.turns 31) (SetTable.bits h % (31 + 1)) (SetTable.bits h)
      pure (owner.setIfInBounds j (some k), k + 1)) = some (owner', k + hs.length) ∧ owner'.size = 32 ∧ List.Perm (owner'.toList.filterMap id) (List.range (k + hs.length)) := by
  induction hs with
  | nil => intro owner k h1 h2 h3; exact ⟨owner, rfl, h1, h2⟩
  | cons h hs ih =>
    intro owner k h1 h2 h3
    obtain ⟨e, he1, he2⟩ := owner_free h1 h2 (by omega)
    have hi : SetTable.bits h % (31 + 1) ≤ 31 := by
      have := Nat.mod_lt (SetTable.bits h) (show 0 < 31 + 1 by omega)
      omega
    obtain ⟨n, hn1, hn2⟩ := lp_hits (h := h) lcAll_31 hi (show e ≤ 31 by omega)
    obtain ⟨j, hj1, hj2⟩ := free_finds he2 n (SetTable.turns 31) _ _ (by unfold SetTable.turns; omega) hn2
    have hjl : j < owner.size := (Array.getElem?_eq_some_iff.mp hj2).1
    obtain ⟨o', e1, e2, e3⟩ := ih (owner.setIfInBounds j (some k)) (k + 1) (by simpa using h1) (by
      have hp := set_owner owner.toList j k (by rw [Array.getElem?_toList]; exact hj2)
      have : (owner.setIfInBounds j (some k)).toList = owner.toList.set j (some k) := by simp
      rw [this, List.range_succ]
      exact hp.trans ((h2.cons k).trans (List.perm_append_singleton k _).symm)) (by simp at h3; omega)
    refine ⟨o', ?_, e2, ?_⟩
    · rw [List.foldl_cons]
      have : (do
        let (owner, k) ← some (owner, k)
        let j ← SetTable.layClean.free 31 owner (SetTable.turns 31) (SetTable.bits h % (31 + 1)) (SetTable.bits h)
        pure (owner.setIfInBounds j (some k), k + 1)) = some (owner.setIfInBounds j (some k), k + 1) := by
        show (SetTable.layClean.free 31 owner (SetTable.turns 31) (SetTable.bits h % (31 + 1)) (SetTable.bits h)).bind _ = _
        rw [hj1]
        rfl
      rw [this, e1]
      simp [Nat.add_assoc, Nat.add_comm 1]
    · have : k + (h :: hs).length = k + 1 + hs.length := by simp; omega
      rw [this]
      exact e3
theorem live_fst (owner : Array (Option Nat)) (n : Nat) : (((List.range n).filterMap fun j => (owner.getD j none).map (j, ·)).map (·.1)).Pairwise (· < ·) := by
  rw [List.pairwise_map, List.pairwise_filterMap]
  refine List.Pairwise.imp ?_ List.pairwise_lt_range
  intro a b hab x hx y hy
  cases q1 : owner.getD a none with
  | none => rw [q1] at hx; cases hx
  | some u =>
    cases q2 : owner.getD b none with
    | none => rw [q2] at hy; cases hy
    | some v => rw [q1] at hx; rw [q2] at hy; cases hx; cases hy; exact hab
theorem live_snd (owner : Array (Option Nat)) : (((List.range owner.size).filterMap fun j => (owner.getD j none).map (j, ·)).map (·.2)) = owner.toList.filterMap id := by
  rw [List.map_filterMap]
  have h1 : owner.toList = (List.range owner.size).map fun j => owner.getD j none := by
    apply List.ext_getElem?
    intro i
    rw [Array.getElem?_toList, List.getElem?_map]
    by_cases hi : i < owner.size
    · rw [List.getElem?_range hi, Array.getElem?_eq_getElem hi]
      simp [Array.getD, hi]
    · rw [Array.getElem?_eq_none (by omega), List.getElem?_eq_none (by simpa using hi)]
      rfl
  rw [h1, List.filterMap_map]
  congr 1
  funext j
  simp only [Function.comp]
  cases owner.getD j none <;> rfl
theorem relaid_ok (t : SetTable) (es : Array (Int × Value)) (hp : t.plain = true) (hn : es.size = 5) :
    ∃ es' t', relayAll t es (SetTable.grown es.size) = (es', t', false) ∧ TabOk t' es'.size ∧ t'.led = t.led ∧ List.Perm es'.toList es.toList ∧ es'.size = 5 := by
  have hw : SetTable.sizeAbove (SetTable.grown es.size) - 1 = 31 := by rw [hn]; decide
  obtain ⟨owner, e1, e2, e3⟩ := layClean_ok (es.map (·.1)).toList (Array.replicate 32 none) 0 (by simp) (by
    have : (Array.replicate 32 (none : Option Nat)).toList.filterMap id = [] := by decide
    rw [this]; exact .nil) (by simp; omega)
  have hl : SetTable.layClean 31 (es.map (·.1)) = some owner := by
    unfold SetTable.layClean
    rw [← Array.foldl_toList]
    rw [e1]
    rfl
  have h5 : 0 + (es.map (·.1)).toList.length = 5 := by simp [hn]
  rw [h5] at e3
  have hr : t.relaid (es.map (·.1)) (SetTable.grown es.size) = some ({ mask := 31, place := (((List.range 32).filterMap fun j => (owner.getD j none).map (j, ·)).map (·.1)).toArray, dummies := #[], finger := t.finger, led := t.led, moves := t.movedTo 31, plain := t.plain }, (((List.range 32).filterMap fun j => (owner.getD j none).map (j, ·)).map (·.2)).toArray) := by
    unfold SetTable.relaid SetTable.laid
    rw [hw, hl]
    rfl
  have h2 := live_snd owner
  rw [e2] at h2
  have hlen : (((List.range 32).filterMap fun j => (owner.getD j none).map (j, ·))).length = 5 := by
    have : ((((List.range 32).filterMap fun j => (owner.getD j none).map (j, ·))).map (·.2)).length = 5 := by
      rw [h2, e3.length_eq, List.length_range]
    simpa using this
  have hcov : coversAll (((List.range 32).filterMap fun j => (owner.getD j none).map (j, ·)).map (·.2)).toArray es.size = true := by
    unfold coversAll
    rw [List.isPerm_iff, hn]
    rw [h2]
    exact e3
  have hperm : List.Perm ((((List.range 32).filterMap fun j => (owner.getD j none).map (j, ·)).map (·.2)).toArray.filterMap (es[·]?)).toList es.toList := by
    rw [Array.toList_filterMap, h2]
    exact ((e3.filterMap _).trans (by rw [← hn]; exact List.Perm.of_eq (filterMap_getElem?_range es)))
  have hsz : ((((List.range 32).filterMap fun j => (owner.getD j none).map (j, ·)).map (·.2)).toArray.filterMap (es[·]?)).size = 5 := by
    rw [← Array.length_toList, hperm.length_eq, Array.length_toList, hn]
  refine ⟨_, { mask := 31, place := (((List.range 32).filterMap fun j => (owner.getD j none).map (j, ·)).map (·.1)).toArray, dummies := #[], finger := t.finger, led := t.led, moves := t.movedTo 31, plain := t.plain }, ?_, ?_, ?_, hperm, hsz⟩
  rotate_left
  · rw [hsz]
    exact ⟨hp, rfl, by simpa using hlen, by simpa using live_fst owner 32, .inr ⟨rfl, by omega⟩⟩
  · rfl
  · unfold relayAll
    rw [hr]
    dsimp only
    rw [hcov]
    have hf : SetTable.fits { mask := 31, place := (((List.range 32).filterMap fun j => (owner.getD j none).map (j, ·)).map (·.1)).toArray, dummies := #[], finger := t.finger, led := t.led, moves := t.movedTo 31, plain := t.plain } ((((List.range 32).filterMap fun j => (owner.getD j none).map (j, ·)).map (·.2)).toArray.filterMap (es[·]?)).size = true := by
      unfold SetTable.fits SetTable.fill
      rw [hsz]
      simp only [List.size_toArray, List.length_map, hlen]
      rfl
    rw [hf]
    rfl
end DL
namespace DL
open PySem PySem.Spec PyProof.Rows L2
noncomputable def keyE (e : Int × Value) : Int := match e.2 with
  | .int k _ => k
  | _ => 0
structure EsOk (es : List (Int × Value)) (ns : List Int) : Prop where
  all : ∀ e ∈ es, ∃ (k : Int) (t : Tok), e = (hashInt k, .int k t)
  perm : (es.map keyE).Perm ns
theorem EsOk.nil : EsOk [] [] := ⟨fun e h => (List.not_mem_nil h).elim, List.Perm.nil⟩
theorem EsOk.of_perm {es es' : List (Int × Value)} {ns : List Int} (h : EsOk es ns) (p : es'.Perm es) : EsOk es' ns :=
  ⟨fun e he => h.all e (p.mem_iff.mp he), (p.map keyE).trans h.perm⟩
theorem EsOk.push {es : List (Int × Value)} {ns : List Int} (h : EsOk es ns) (k : Int) (t : Tok) : EsOk (es ++ [(hashInt k, .int k t)]) (ns ++ [k]) :=
  ⟨fun e he => by
    rcases List.mem_append.mp he with he | he
    · exact h.all e he
    · rw [List.mem_singleton] at he; exact ⟨k, t, he⟩, by
    rw [List.map_append]
    exact h.perm.append (.refl _)⟩
theorem EsOk.length {es : List (Int × Value)} {ns : List Int} (h : EsOk es ns) : es.length = ns.length := by
  rw [← h.perm.length_eq, List.length_map]
theorem EsOk.elems {prog : Program} {w : World} {es : List (Int × Value)} {ns : List Int} (h : EsOk es ns) : ElemsOf (intKind prog w) es := fun e he => by
  obtain ⟨k, t, rfl⟩ := h.all e he
  exact ⟨⟨k, intKind_is _ _ _ _, rfl⟩, rfl⟩
theorem EsOk.mem {prog : Program} {w : World} {es : List (Int × Value)} {ns : List Int} (h : EsOk es ns) (k : Int) : k ∈ ns ↔ ∃ e ∈ es, (intKind prog w).is k e.2 = true := by
  rw [← h.perm.mem_iff, List.mem_map]
  constructor
  · rintro ⟨e, he, rfl⟩
    obtain ⟨k, t, rfl⟩ := h.all e he
    exact ⟨_, he, intKind_is _ _ _ _⟩
  · rintro ⟨e, he, q⟩
    obtain ⟨k', t, rfl⟩ := h.all e he
    refine ⟨_, he, ?_⟩
    exact (intKind prog w).inj _ _ _ (intKind_is _ _ _ _) q
structure SetAt (w : World) (h : Heap) (a : Addr) (es : Array (Int × Value)) (ep : Nat) (t : SetTable) : Prop where
  ex : ∃ o : Obj, h.get? a = some o ∧ o.ExactSet ∧ o.data = .set es ep t
  tab : TabOk t es.size
  led : t.led = !w.params.followText "set-order"
theorem TabOk.fits {t : SetTable} {n : Nat} (T : TabOk t n) : t.fits n = true := by
  unfold SetTable.fits SetTable.fill
  rw [T.size, T.dummies]
  rcases T.mask with ⟨q, _⟩ | ⟨q, _⟩ <;> rw [q] <;> simp <;> omega
theorem SetAt.keep {w : World} {h h' : Heap} {a : Addr} {es : Array (Int × Value)} {ep : Nat} {t : SetTable} (S : SetAt w h a es ep t) (hk : ∀ o, h.get? a = some o → h'.get? a = some o) : SetAt w h' a es ep t := by
  obtain ⟨o, ho, r⟩ := S.ex
  exact ⟨⟨o, hk o ho, r⟩, S.tab, S.led⟩
theorem SetAt.typeIs {w : World} {s : Shared} {a : Addr} {es : Array (Int × Value)} {ep : Nat} {t : SetTable} (S : SetAt w s.heap a es ep t) : s.TypeIs (.ref a) "set" := by
  obtain ⟨o, ho, hx, _⟩ := S.ex
  exact ⟨o, ho, hx.1⟩
theorem SetAt.lt {w : World} {h : Heap} {a : Addr} {es : Array (Int × Value)} {ep : Nat} {t : SetTable} (S : SetAt w h a es ep t) : a < h.objs.size := by
  obtain ⟨o, ho, _⟩ := S.ex
  exact Heap.lt_size ho
theorem SetAt.store {w : World} {h : Heap} {a : Addr} {es : Array (Int × Value)} {ep : Nat} {t : SetTable} (S : SetAt w h a es ep t) {es' : Array (Int × Value)} {t' : SetTable} (T : TabOk t' es'.size) (hl : t'.led = t.led) :
    SetAt w (h.update a (Obj.putSet es' t')) a es' (ep + 1) t' := by
  obtain ⟨o, ho, hx, hd⟩ := S.ex
  have hg : (h.update a (Obj.putSet es' t')).get? a = some { o with data := .set es' (ep + 1) t' } := by
    have := Heap.get?_update_self (Obj.putSet es' t') ho (by rw [putSet_of es' t' hd]; rfl)
    rw [putSet_of es' t' hd] at this
    exact this
  exact ⟨⟨_, hg, hx, rfl⟩, T, hl.trans S.led⟩
section
variable {prog : Program} {w : World} {A : Around} {E : Value → Shared → Prop} {s : Shared}
theorem set_add {a : Addr} {es : Array (Int × Value)} {ep : Nat} {tb : SetTable} {ns : List Int} {k : Int} {t : Tok} {Q : Bool → Shared → Prop} (S : SetAt w s.heap a es ep tb) (hE : EsOk es.toList ns) (hn : ns.length < 18)
    (h : ∀ b h' es' ep' tb', Heap.SameBut a s.heap h' → SetAt w h' a es' ep' tb' → EsOk es'.toList (if k ∈ ns then ns else ns ++ [k]) → Q b { s with heap := h', toks := s.toks + 1 }) :
    wpAny (model prog w) A (setAdd a (.int k t)) Q E s := by
  have hsz : es.size = ns.length := by rw [← Array.length_toList]; exact hE.length
  unfold setAdd
  refine wpAny_holding ?_
  refine wpAny_bind ((intKind prog w).pyHash (k := k) (intKind_is _ _ _ _) ?_)
  obtain ⟨o, ho, hx, hd⟩ := S.ex
  have hf := S.tab.fits
  have hb : es.size < scanBound := by unfold scanBound; omega
  unfold setAddHashed setAddHashedIn
  refine wpAny_holding (wpAny_bind (wpAny_setState_of (s := { s with toks := s.toks + 1 }) ho hd hf ?_))
  dsimp only
  rw [byScan_of (knd := intKind prog w) rfl hb hE.elems]
  simp only [↓reduceIte]
  unfold setAddByScan
  refine wpAny_bind (wpAny_bind (wpAny_rule (wpAny_bind (wpAny_setScan_of (knd := intKind prog w) (intKind_is _ _ k t) ho hd hf hE.elems ?_))))
  cases hr : List.findIdx? (fun e => (intKind prog w).is k e.2) es.toList with
  | some j =>
    dsimp only
    obtain ⟨hj, hpj, _⟩ := List.findIdx?_eq_some_iff_getElem.mp hr
    have hk : k ∈ ns := (hE.mem (prog := prog) (w := w) k).mpr ⟨es.toList[j], List.getElem_mem hj, hpj⟩
    refine wpAny_pure (wpAny_pure ?_)
    have := h false s.heap es ep tb (Heap.SameBut.refl a s.heap) S (by rw [if_pos hk]; exact hE)
    exact this
  | none =>
    dsimp only
    have hk : ¬ k ∈ ns := fun hh => by
      obtain ⟨e, he, q⟩ := (hE.mem (prog := prog) (w := w) k).mp hh
      have := List.findIdx?_eq_none_iff.mp hr e he
      rw [q] at this
      cases this
    rw [if_neg hk] at h
    obtain ⟨p, j, hp, hL, hrise, z1, z2⟩ := layNew_ok S.tab (by omega) ((intKind prog w).hash k) (.int k t)
    have hperm := layNew_perm tb es ((intKind prog w).hash k) (.int k t)
    obtain ⟨tb1, htb⟩ : ∃ x, x = ({ tb with place := SetTable.insertAt tb.place p j } : SetTable) := ⟨_, rfl⟩
    have y1 : tb1.plain = true := by rw [htb]; exact S.tab.plain
    have y2 : tb1.dummies = #[] := by rw [htb]; exact S.tab.dummies
    have y3 : tb1.mask = tb.mask := by rw [htb]
    have y4 : tb1.led = tb.led := by rw [htb]
    have y5 : tb1.place.size = es.size + 1 := by rw [htb]; exact z2
    have y6 : tb1.place.toList.Pairwise (· < ·) := by rw [htb]; exact hrise
    rw [← htb] at hL
    rw [hL] at hperm
    rw [hL]
    dsimp only at hperm ⊢
    rw [Array.toList_push] at hperm
    have hE1 := (hE.push k t).of_perm hperm
    refine wpAny_bind (wpAny_pure ?_)
    rw [y1]
    simp only [↓reduceIte]
    rw [hashByValue_scannable 8 (show (Value.int k t).scannable = true from rfl)]
    refine wpAny_bind (wpAny_pure ?_)
    simp only [plainKind, ↓reduceIte, Bool.not_false, Bool.true_and]
    refine wpAny_bind (wpAny_storeSet_of (s := { s with toks := s.toks + 1 }) ho hd ?_ (by rw [z1, sizeLine_eq]; omega))
    dsimp only
    by_cases h5 : tb.mask = 7 ∧ es.size = 4
    · have htf : SetTable.tooFull tb1 = true := by
        unfold SetTable.tooFull SetTable.fill
        rw [y5, y2, y3, h5.1, h5.2]
        rfl
      rw [if_pos htf]
      have hp1 := y1
      obtain ⟨es2, t2, e2, T2, l2, p2, z3⟩ := relaid_ok tb1 (SetTable.insertAt es p ((intKind prog w).hash k, .int k t)) hp1 (by rw [z1, h5.2])
      rw [e2]
      dsimp only
      refine wpAny_bind (wpAny_pure ?_)
      have hg : (s.heap.update a (Obj.putSet (SetTable.insertAt es p ((intKind prog w).hash k, .int k t)) tb1)).get? a = some { o with data := .set (SetTable.insertAt es p ((intKind prog w).hash k, .int k t)) (ep + 1) tb1 } := by
        have := Heap.get?_update_self (Obj.putSet (SetTable.insertAt es p ((intKind prog w).hash k, .int k t)) tb1) ho (by rw [putSet_of _ _ hd]; rfl)
        rw [putSet_of _ _ hd] at this
        exact this
      refine wpAny_bind (wpAny_storeSet_of hg rfl ?_ (by rw [z3, sizeLine_eq]; omega))
      refine wpAny_pure (wpAny_pure (h true _ es2 (ep + 1 + 1) t2 ((Heap.SameBut.update s.heap a _).trans (Heap.SameBut.update _ a _)) ?_ (hE1.of_perm p2)))
      have hg2 : ((s.heap.update a (Obj.putSet (SetTable.insertAt es p ((intKind prog w).hash k, .int k t)) tb1)).update a (Obj.putSet es2 t2)).get? a = some { o with data := .set es2 (ep + 1 + 1) t2 } := by
        have := Heap.get?_update_self (Obj.putSet es2 t2) hg (by rw [putSet_of (o := { o with data := .set (SetTable.insertAt es p ((intKind prog w).hash k, .int k t)) (ep + 1) tb1 }) _ _ rfl]; rfl)
        rw [putSet_of (o := { o with data := .set (SetTable.insertAt es p ((intKind prog w).hash k, .int k t)) (ep + 1) tb1 }) _ _ rfl] at this
        exact this
      exact ⟨⟨_, hg2, hx, rfl⟩, T2, (l2.trans y4).trans S.led⟩
    · have htf : SetTable.tooFull tb1 = false := by
        unfold SetTable.tooFull SetTable.fill
        rw [y5, y2, y3]
        rcases S.tab.mask with ⟨q, q2⟩ | ⟨q, q2⟩ <;> rw [q] <;> simp <;> omega
      rw [if_neg (by rw [htf]; exact Bool.false_ne_true)]
      refine wpAny_pure (wpAny_pure (h true _ _ (ep + 1) tb1 (Heap.SameBut.update s.heap a _) ?_ hE1))
      refine S.store ⟨y1, y2, by rw [z1]; exact y5, y6, ?_⟩ y4
      rw [z1, y3]
      rcases S.tab.mask with ⟨q, q2⟩ | ⟨q, q2⟩
      · exact .inl ⟨q, by omega⟩
      · exact .inr ⟨q, by omega⟩
end
end DL
namespace DL
open PySem PySem.Spec PyProof.Rows L2
noncomputable def met (ns : List Int) : List Int := ns.foldl (fun σ k => if k ∈ σ then σ else σ ++ [k]) []
theorem met_snoc (ns : List Int) (k : Int) : met (ns ++ [k]) = if k ∈ met ns then met ns else met ns ++ [k] := by
  unfold met
  rw [List.foldl_append]
  rfl
theorem met_take (ns : List Int) (i : Nat) (h : i < ns.length) : met (ns.take (i + 1)) = if ns.getD i 0 ∈ met (ns.take i) then met (ns.take i) else met (ns.take i) ++ [ns.getD i 0] := by
  rw [List.take_succ_eq_append_getElem h, met_snoc]
  have : ns.getD i 0 = ns[i] := by simp [List.getD, h]
  rw [this]
theorem met_le (ns : List Int) : (met ns).length ≤ ns.length := by
  have : ∀ (l σ : List Int), (l.foldl (fun σ k => if k ∈ σ then σ else σ ++ [k]) σ).length ≤ σ.length + l.length := by
    intro l
    induction l with
    | nil => intro σ; simp
    | cons k l ih =>
      intro σ
      rw [List.foldl_cons]
      refine Nat.le_trans (ih _) ?_
      split <;> simp <;> omega
  have q := this ns []
  simp only [List.length_nil, Nat.zero_add] at q
  exact q
section
variable {prog : Program} {w : World} {A : Around} {R : Result → Shared → Prop} {I : Addr} {fp wr : List Addr} {G : Array GenState → Array GenState → Prop} {P : Nat → Value → Prop} {St : Nat → Shared → Prop}
theorem update_loop {ns : List Int} (W : WalksS prog w A.in1 I fp wr G ns.length P St) (S : Addr) (hSf : S ∉ fp) (hval : ∀ i v, P i v → ∃ t, v = .int (ns.getD i 0) t) (hb : ns.length < 18) :
    ∀ (k i : Nat) (s : Shared) (es : Array (Int × Value)) (ep : Nat) (tb : SetTable), ns.length - i = k → i ≤ ns.length → St i s → SetAt w s.heap S es ep tb → EsOk es.toList (met (ns.take i)) →
      (∀ s' es' ep' tb', Moved (S :: wr) G s s' → SetAt w s'.heap S es' ep' tb' → EsOk es'.toList (met ns) → R (.ok (.ret .none)) s') →
      codeAny (model prog w) A (.builtin "set.update.loop" ⟨[.ref S, .ref I], []⟩) R s := by
  have hSw : S ∉ wr := fun h => hSf (W.sub _ h)
  have hsub : ∀ b ∈ wr, b ∈ S :: wr := fun b hb => List.mem_cons_of_mem _ hb
  intro k
  induction k with
  | zero =>
    intro i s es ep tb hk hi hst hS hE hR
    have hin : i = ns.length := by omega
    subst hin
    refine codeAny_builtin F.entry_set_update_loop ?_
    rw [Around.under_plainId F.plain_set_update_loop _]
    show wpAny _ A.in1 (pyNext (.ref I) >>= _) _ _ s
    refine wpAny_bind (W.done s _ _ hst fun s' hm => ?_)
    show wpAny _ A.in1 (ret Value.none) _ _ s'
    rw [List.take_length] at hE
    exact wpAny_pure (hR s' es ep tb (hm.mono hsub) (hS.keep fun o ho => hm.heap S _ hSw ho) hE)
  | succ k ih =>
    intro i s es ep tb hk hi hst hS hE hR
    have hlt : i < ns.length := by omega
    refine codeAny_builtin F.entry_set_update_loop ?_
    rw [Around.under_plainId F.plain_set_update_loop _]
    show wpAny _ A.in1 (pyNext (.ref I) >>= _) _ _ s
    refine wpAny_bind (W.item i s _ _ hlt hst fun v s' hP hst' hm => ?_)
    obtain ⟨t, rfl⟩ := hval i v hP
    have hS' := hS.keep fun o ho => hm.heap S _ hSw ho
    show wpAny _ A.in1 (holding [Value.int (ns.getD i 0) t] (setAdd S (.int (ns.getD i 0) t)) >>= _) _ _ s'
    refine wpAny_bind (wpAny_holding ?_)
    have hl := met_le (ns.take i)
    rw [List.length_take] at hl
    refine set_add hS' hE (by omega) fun b h' es' ep' tb' hsb hS2 hE2 => ?_
    rw [← met_take ns i hlt] at hE2
    refine wpAny_pure ⟨plainId_quiet F.plain_set_update_loop _, ih (i + 1) _ es' ep' tb' (by omega) hlt (W.frame _ s' _ _ hst' (Nat.le_succ _) fun b hb o e => ?_) hS2 hE2 fun s'' es'' ep'' tb'' hm'' hS'' hE'' => ?_⟩
    · rw [hsb.2 b (fun h : b = S => hSf (by rw [← h]; exact hb))]; exact e
    · refine hR s'' es'' ep'' tb'' (Moved.trans W.gtrans ((hm.mono hsub).then_heap (Nat.le_succ _) fun b o hb e => ?_) hm'') hS'' hE''
      rw [hsb.2 b (fun h : b = S => hb (by rw [h]; exact List.mem_cons_self))]; exact e
end
section
variable {prog : Program} {w : World} {A : Around} {E : Value → Shared → Prop} {s : Shared}
theorem set_new1 (a : Value) {Q₁ : Value → Shared → Prop}
    (h : Q₁ (.ref s.heap.objs.size) { s with heap := s.heap.push { cls := .type "set", dict := none, data := .set #[] 0 (.fresh 0 0 (!w.params.followText "set-order")) } }) :
    codeAny (model prog w) A (.call (.builtin "set.__new__") ⟨[.type "set", a], []⟩) (wants Q₁ E) s := by
  refine codeAny_of_tree ?_
  show wpAny _ A.in1 (do checkBuiltinCall "set.__new__" ⟨[.type "set", a], []⟩; again (.builtin "set.__new__" ⟨[.type "set", a], []⟩)) _ _ s
  refine wpAny_bind (wpAny_of_eq (F.newCall_set_1 a) (wpAny_pure ⟨plainId_quiet F.plain_set_new _, codeAny_builtin F.entry_set_new ?_⟩))
  rw [Around.under_plainId F.plain_set_new _]
  unfold Builtin.«set.__new__» Builtin.Frozenset.newClass
  have hsub := sub_set_self
  obtain ⟨hp, g, d, tk, os⟩ := s
  dsimp only
  wp_walk
  refine wpAny_askSetting (wpAny_pure ?_)
  dsimp only
  simp only [newObj]
  refine wpAny_bind (wpAny_alloc (wpAny_pure ?_))
  exact wpAny_pure h
theorem fresh_tab (led : Bool) : TabOk (.fresh 0 0 led) 0 := ⟨rfl, rfl, rfl, List.Pairwise.nil, .inl ⟨rfl, by omega⟩⟩
theorem call_set {l : Addr} {items : Array Value} {ns : List Int} {Q : Value → Shared → Prop}
    (hh : A.handled = none) (hl : s.heap.IsList l items) (hi : IntsAre items.toList ns) (hb : ns.length < 18)
    (h : ∀ (h' : Heap) (tk : Nat) es ep tb, s.toks ≤ tk → SetAt w h' s.heap.objs.size es ep tb → EsOk es.toList (met ns) →
      (∀ b o, b < s.heap.objs.size → s.heap.get? b = some o → h'.get? b = some o) → Q (.ref s.heap.objs.size) { s with heap := h', toks := tk }) :
    wpAny (model prog w) A (call (.type "set") [.ref l]) Q E s := by
  obtain ⟨c, tl, hmro⟩ := F.called_set.mro
  have hmade := F.called_set.made
  have hsub := F.called_set.sub
  refine wpAny_call (codeAny_of_tree ?_)
  show wpAny _ _ (callAny (.type "set") _) _ _ _
  refine wpAny_pure ⟨Code.quiet_builtin _ (by decide +kernel), codeAny_builtin F.entry_type_call ?_⟩
  rw [Around.under_plain (weight_type_call_type "set" [.ref l] []) rfl]
  have h1 := F.called_set.notType
  have h2 := F.called_set.canCreate
  have hct := F.typeCall_set_1 (.ref l)
  repeat (any_goals (first | assumption | wp_step))
  have hlen : items.size = ns.length := by rw [← Array.length_toList]; exact IntsAre.length hi
  generalize hled : (!w.params.followText "set-order") = led
  refine codeAny_mono (set_new1 (.ref l) (E := E) (Q₁ := fun obj s₁ => obj = .ref s.heap.objs.size ∧ s₁ = { s with heap := s.heap.push { cls := .type "set", dict := none, data := .set #[] 0 (.fresh 0 0 led) } }) (by rw [hled]; exact ⟨rfl, rfl⟩)) fun r s₁ hr => ?_
  cases r with
  | error e => exact hr
  | ok fl =>
    cases fl with
    | ret obj =>
      obtain ⟨rfl, rfl⟩ := hr
      have hS : (s.heap.push { cls := .type "set", dict := none, data := .set #[] 0 (.fresh 0 0 led) }).get? s.heap.objs.size = some { cls := .type "set", dict := none, data := .set #[] 0 (.fresh 0 0 led) } := Heap.get?_push_size _ rfl
      have hT : Shared.TypeIs { s with heap := s.heap.push { cls := .type "set", dict := none, data := .set #[] 0 (.fresh 0 0 led) } } (.ref s.heap.objs.size) "set" := ⟨_, hS, rfl⟩
      have hli := F.called_set.init.lookup
      have hbi := F.called_set.init.bind (.ref s.heap.objs.size)
      repeat (any_goals (first | assumption | wp_step))
      refine codeAny_mono (codeAny_call_builtin (R := wants (fun r s₂ => r = .none ∧ ∃ h' tk es ep tb, s₂ = { s with heap := h', toks := tk } ∧ s.toks ≤ tk ∧ SetAt w h' s.heap.objs.size es ep tb ∧ EsOk es.toList (met ns) ∧
          (∀ b o, b < s.heap.objs.size → s.heap.get? b = some o → h'.get? b = some o)) E) F.called_set.init.plain F.entry_set_init (check_set_init_1 hT ?_)) fun r₂ s₂ hr₂ => ?_
      · obtain ⟨ol, hol, hcl, nl, hdl⟩ := hl
        obtain ⟨ocls, odict, odata, oslots⟩ := ol
        simp only at hcl hdl
        subst hcl; subst hdl
        have hol' : (s.heap.push { cls := .type "set", dict := none, data := .set #[] 0 (.fresh 0 0 led) }).get? l = some { cls := .type "list", dict := odict, data := .seq items nl, slots := oslots } := Heap.get?_push_of_some _ hol
        have hsls := F.sub_list_set
        have hslf := F.sub_list_frozenset
        have hne : (Value.type "list" == Value.type "dict") = false := by decide
        have hl1 : (s.heap.push { cls := .type "set", dict := none, data := .set #[] 0 (.fresh 0 0 led) }).IsList l items := ⟨_, hol', rfl, nl, rfl⟩
        unfold Builtin.«set.__init__» noKeywords Builtin.Frozenset.updateFrom
        generalize hPI : pyIter = PI
        wp_walk
        subst hPI
        refine wpAny_pyIter_list hl1 ?_
        refine wpAny_bind (wpAny_runValue ?_)
        have hlS : l < s.heap.objs.size := Heap.lt_size hol
        have hh3 : A.in1.in1.in1.handled = none := by simp [hh]
        have hneI : l ≠ (s.heap.push { cls := .type "set", dict := none, data := .set #[] 0 (.fresh 0 0 led) }).objs.size := by
          rw [Heap.size_push]; exact Nat.ne_of_lt (Nat.lt_succ_of_lt hlS)
        have hSf : s.heap.objs.size ∉ [(s.heap.push { cls := .type "set", dict := none, data := .set #[] 0 (.fresh 0 0 led) }).objs.size, l] := by
          rw [Heap.size_push]; simp only [List.mem_cons, List.mem_singleton, List.not_mem_nil, or_false, not_or]
          exact ⟨Nat.ne_of_lt (Nat.lt_succ_self _), Nat.ne_of_gt hlS⟩
        have hval : ∀ (i : Nat) (v : Value), items[i]? = some v → ∃ t, v = .int (ns.getD i 0) t := fun i v hv =>
          IntsAre.int_at hi i v (by rw [Array.getElem?_toList]; exact hv)
        have W := (Walks.list (prog := prog) (w := w) hh3 (s.heap.push { cls := .type "set", dict := none, data := .set #[] 0 (.fresh 0 0 led) }).objs.size l hneI items).toS
        rw [hlen] at W
        refine update_loop W s.heap.objs.size hSf hval hb (ns.length - 0) 0 _ #[] 0 (.fresh 0 0 led) (by omega) (Nat.zero_le _)
          ⟨⟨_, Heap.get?_push_size _ rfl, rfl, rfl⟩, (hl1.push _)⟩ ?hS0 (by rw [List.take_zero]; exact EsOk.nil) ?hR
        case hS0 =>
          have hget : ((s.heap.push { cls := .type "set", dict := none, data := .set #[] 0 (.fresh 0 0 led) }).push { cls := .type "list_iterator", data := .fields #[.ref l, .int 0 0] }).get? s.heap.objs.size
              = some { cls := .type "set", dict := none, data := .set #[] 0 (.fresh 0 0 led) } := Heap.get?_push_of_some _ hS
          exact ⟨⟨_, hget, ⟨rfl, rfl, rfl⟩, rfl⟩, fresh_tab led, hled.symm⟩
        case hR =>
          intro s' es ep tb hm hS' hE'
          obtain ⟨h', g', d', tk', os'⟩ := s'
          have eg : g' = s.gens := hm.gens
          have ed : d' = s.drawn := hm.drawn
          have eo : os' = s.os := hm.os
          have etk : s.toks ≤ tk' := hm.toks
          subst eg; subst ed; subst eo
          show wpAny _ _ _ _ _ _
          refine wpAny_pure ?_
          show wpAny _ _ (ret Value.none) _ _ _
          refine wpAny_pure ⟨rfl, h', tk', es, ep, tb, rfl, etk, hS', hE', fun b o hb e => ?_⟩
          have hb1 : b ≠ s.heap.objs.size := Nat.ne_of_lt hb
          have hb2 : b ≠ (s.heap.push { cls := .type "set", dict := none, data := .set #[] 0 (.fresh 0 0 led) }).objs.size := by
            rw [Heap.size_push]; exact Nat.ne_of_lt (Nat.lt_succ_of_lt hb)
          exact hm.heap b o (by simp only [List.mem_cons, List.mem_singleton, List.not_mem_nil, or_false, not_or]; exact ⟨hb1, hb2⟩) (Heap.get?_push_of_some _ (Heap.get?_push_of_some _ e))
      · cases r₂ with
        | error e => exact hr₂
        | ok fl₂ =>
          cases fl₂ with
          | ret r =>
            obtain ⟨rfl, h', tk, es, ep, tb, rfl, etk, hS', hE', hk'⟩ := hr₂
            repeat (any_goals (first | assumption | wp_step))
            exact h _ _ _ _ _ etk hS' hE' hk'
          | _ => exact hr₂.elim
    | _ => exact hr.elim
end
end DL
namespace DL
open PySem PySem.Spec PyProof.Rows L2
section
variable {prog : Program} {w : World} {A : Around} {E : Value → Shared → Prop} {s : Shared} {a : Addr} {es : Array (Int × Value)} {ep : Nat} {tb : SetTable}
theorem set_state (S : SetAt w s.heap a es ep tb) {Q : (Array (Int × Value) × Nat × SetTable) → Shared → Prop} (h : Q (es, ep, tb) s) : wpAny (model prog w) A (setState a) Q E s := by
  obtain ⟨o, ho, hx, hd⟩ := S.ex
  exact wpAny_setState_of ho hd S.tab.fits h
end
end DL
namespace DL
open PySem PySem.Spec PyProof.Rows L2
theorem met_ind (P : List Int → Prop) (h0 : P []) (h1 : ∀ l k, P l → P (l ++ [k])) : ∀ l, P l := by
  intro l
  have : ∀ (n : Nat) (l : List Int), l.length = n → P l := by
    intro n
    induction n with
    | zero => intro l h; rw [List.eq_nil_of_length_eq_zero h]; exact h0
    | succ n ih =>
      intro l h
      rcases List.eq_nil_or_concat l with e | ⟨m, t, e⟩
      · subst e; simp at h
      · have e' : l = m ++ [t] := by simpa using e
        rw [e'] at h ⊢
        exact h1 m t (ih m (by simp at h; exact h))
  exact this _ l rfl
theorem met_mem (ns : List Int) : ∀ k, k ∈ met ns ↔ k ∈ ns := by
  refine met_ind (fun ns => ∀ k, k ∈ met ns ↔ k ∈ ns) (fun k => Iff.rfl) (fun l k ih x => ?_) ns
  rw [met_snoc]
  split
  · rename_i h
    rw [ih x, List.mem_append, List.mem_singleton]
    constructor
    · exact .inl
    · rintro (h' | rfl)
      · exact h'
      · exact (ih _).mp h
  · rw [List.mem_append, List.mem_append, ih x]
theorem met_nodup (ns : List Int) : (met ns).Nodup := by
  refine met_ind (fun ns => (met ns).Nodup) List.nodup_nil (fun l k ih => ?_) ns
  rw [met_snoc]
  split
  · exact ih
  · rename_i h
    rw [List.nodup_append]
    refine ⟨ih, by simp, fun a ha b hb => ?_⟩
    rw [List.mem_singleton] at hb
    subst hb
    exact fun z => h (z ▸ ha)
theorem eraseDups_nodup : ∀ (n : Nat) (l : List Int), l.length ≤ n → l.eraseDups.Nodup
  | 0, l, h => by rw [List.eq_nil_of_length_eq_zero (Nat.le_zero.mp h)]; simp
  | n + 1, [], _ => by simp
  | n + 1, a :: l, h => by
    rw [List.eraseDups_cons, List.nodup_cons]
    have hl := List.length_filter_le (fun b => !b == a) l
    refine ⟨fun hm => ?_, eraseDups_nodup n _ (by simp at h; omega)⟩
    rw [List.mem_eraseDups, List.mem_filter] at hm
    simp at hm
end DL
namespace DL
open PySem PySem.Spec PyProof.Rows L2
end DL
namespace DL
open PySem PySem.Spec PyProof.Rows L2
theorem adv_mask {t t' : SetTable} (h : t.mask = t'.mask) (p : SetTable.Probe) : t.advance p = t'.advance p := by
  unfold SetTable.advance; rw [h]
theorem advN_mask {t t' : SetTable} (h : t.mask = t'.mask) : ∀ (n : Nat) (p : SetTable.Probe), advN t n p = advN t' n p
  | 0, p => rfl
  | n + 1, p => by
    show advN t n (t.advance p) = advN t' n (t'.advance p)
    rw [adv_mask h, advN_mask h n]
noncomputable def pth (t : SetTable) (h : Int) (n : Nat) : SetTable.Probe := advN t n (t.probeStart h)
theorem pth_mask {t t' : SetTable} (h : t.mask = t'.mask) (x : Int) (n : Nat) : pth t x n = pth t' x n := by
  unfold pth
  have : t.probeStart x = t'.probeStart x := by unfold SetTable.probeStart; rw [h]
  rw [this, advN_mask h]
theorem pth_succ (t : SetTable) (h : Int) (n : Nat) : pth t h (n + 1) = t.advance (pth t h n) := advN_add t n 1 _
theorem pth_dummy (t : SetTable) (h : Int) : ∀ n, (pth t h n).dummy = none
  | 0 => rfl
  | n + 1 => by rw [pth_succ, advance_dummy, pth_dummy t h n]
theorem slot_live {t : SetTable} {j i : Nat} (h : t.slot j = .live i) : t.place[i]? = some j := by
  unfold SetTable.slot at h
  dsimp only at h
  split at h
  · rename_i hb
    cases h
    simpa using hb
  · split at h <;> cases h
theorem slot_of_place {t : SetTable} (hr : t.place.toList.Pairwise (· < ·)) {j i : Nat} (h : t.place[i]? = some j) : t.slot j = .live i := by
  obtain ⟨b1, b2, b3⟩ := below_ok j hr
  have hrel : ∀ (a b x y : Nat), a < b → t.place[a]? = some x → t.place[b]? = some y → x < y := by
    intro a b x y hab ha hb
    rw [← Array.getElem?_toList] at ha hb
    obtain ⟨ha1, rfl⟩ := List.getElem?_eq_some_iff.mp ha
    obtain ⟨hb1, rfl⟩ := List.getElem?_eq_some_iff.mp hb
    exact List.pairwise_iff_getElem.mp hr a b ha1 hb1 hab
  have e : SetTable.below t.place j = i := by
    rcases Nat.lt_trichotomy (SetTable.below t.place j) i with hlt | heq | hgt
    · have hi : i < t.place.size := (Array.getElem?_eq_some_iff.mp h).1
      have q := b3 _ _ (Nat.le_refl _) (Array.getElem?_eq_getElem (show SetTable.below t.place j < t.place.size by omega))
      have := hrel _ _ _ _ hlt (Array.getElem?_eq_getElem (show SetTable.below t.place j < t.place.size by omega)) h
      omega
    · exact heq
    · have := b2 i j hgt h
      omega
  unfold SetTable.slot
  dsimp only
  rw [e, h]
  simp
theorem slot_empty_iff {t : SetTable} (hd : t.dummies = #[]) (hr : t.place.toList.Pairwise (· < ·)) (j : Nat) : t.slot j = .empty ↔ j ∉ t.place.toList := by
  constructor
  · intro h hm
    obtain ⟨i, hi⟩ := List.getElem?_of_mem hm
    rw [Array.getElem?_toList] at hi
    rw [slot_of_place hr hi] at h
    cases h
  · exact slot_of_not_mem hd
theorem path_empty {t : SetTable} {n : Nat} (T : TabOk t n) (h : Int) : ∃ k, k < 10 * SetTable.turns t.mask ∧ t.slot (pth t h k).j = .empty := by
  obtain ⟨e, he, hm⟩ := exists_free t.place.toList (t.mask + 1) (by rw [Array.length_toList, T.size]; rcases T.mask with ⟨q, _⟩ | ⟨q, _⟩ <;> omega)
  have hi : SetTable.bits h % (t.mask + 1) ≤ t.mask := by
    have := Nat.mod_lt (SetTable.bits h) (show 0 < t.mask + 1 by omega)
    omega
  obtain ⟨m, hm1, hm2⟩ := lp_hits (h := h) T.lcAll hi (show e ≤ t.mask by omega)
  obtain ⟨k, hk1, hk2⟩ := adv_leaps t (SetTable.bits h % (t.mask + 1), SetTable.bits h) m
  refine ⟨k, by unfold SetTable.turns; omega, ?_⟩
  show t.slot (advN t k (runP t (SetTable.bits h % (t.mask + 1), SetTable.bits h))).j = .empty
  rw [hk2]
  show t.slot (lp t.mask m _).1 = .empty
  rw [hm2]
  exact slot_of_not_mem T.dummies hm
theorem least {P : Nat → Prop} : ∀ n, P n → ∃ m, m ≤ n ∧ P m ∧ ∀ k, k < m → ¬ P k := by
  intro n
  induction n using Nat.strongRecOn with
  | _ n ih =>
    intro h
    by_cases q : ∃ k, k < n ∧ P k
    · obtain ⟨k, hk, hp⟩ := q
      obtain ⟨m, h1, h2, h3⟩ := ih k hk hp
      exact ⟨m, by omega, h2, h3⟩
    · exact ⟨n, Nat.le_refl _, h, fun k hk hp => q ⟨k, hk, hp⟩⟩
theorem first_empty {t : SetTable} {n : Nat} (T : TabOk t n) (h : Int) : ∃ N, N < 10 * SetTable.turns t.mask ∧ t.slot (pth t h N).j = .empty ∧ ∀ m, m < N → t.slot (pth t h m).j ≠ .empty := by
  obtain ⟨k, hk, e⟩ := path_empty T h
  obtain ⟨m, h1, h2, h3⟩ := least (P := fun k => t.slot (pth t h k).j = .empty) k e
  exact ⟨m, by omega, h2, h3⟩
theorem go_spec {t : SetTable} {h : Int} {ha : Nat → Int} {N : Nat} (hd : t.dummies = #[]) (he : t.slot (pth t h N).j = .empty) (hf : ∀ m, m < N → t.slot (pth t h m).j ≠ .empty) : ∀ (d m fuel : Nat), N - m = d → m ≤ N → d < fuel →
    (∃ n i, m ≤ n ∧ n < N ∧ t.slot (pth t h n).j = .live i ∧ ha i = h ∧ SetTable.probe.go t ha h fuel (pth t h m) = some (.candidate (pth t h n).j i (pth t h (n + 1))) ∧ ∀ n', m ≤ n' → n' < n → ∀ i', t.slot (pth t h n').j = .live i' → ha i' ≠ h) ∨
    (SetTable.probe.go t ha h fuel (pth t h m) = some (.empty (pth t h N).j none) ∧ ∀ n', m ≤ n' → n' < N → ∀ i', t.slot (pth t h n').j = .live i' → ha i' ≠ h)
  | d, m, 0, _, _, hz => absurd hz (Nat.not_lt_zero _)
  | 0, m, fuel + 1, e, hm, hz => by
    have : m = N := by omega
    subst this
    refine .inr ⟨?_, fun n' h1 h2 => by omega⟩
    unfold SetTable.probe.go
    rw [he]
    simp [pth_dummy]
  | d + 1, m, fuel + 1, e, hm, hz => by
    have hlt : m < N := by omega
    rcases slot_cases hd (pth t h m).j with q | ⟨i, q⟩
    · exact absurd q (hf m hlt)
    · by_cases hi : ha i = h
      · refine .inl ⟨m, i, Nat.le_refl _, hlt, q, hi, ?_, fun n' h1 h2 => by omega⟩
        unfold SetTable.probe.go
        rw [q]
        simp only [hi, beq_self_eq_true, if_true]
        rw [pth_succ]
      · have step : SetTable.probe.go t ha h (fuel + 1) (pth t h m) = SetTable.probe.go t ha h fuel (pth t h (m + 1)) := by
          conv => lhs; unfold SetTable.probe.go
          rw [q]
          have : (ha i == h) = false := by simpa using hi
          simp only [this]
          rw [pth_succ]
          rfl
        rw [step]
        have hm0 : ∀ i', t.slot (pth t h m).j = .live i' → ha i' ≠ h := fun i' q' => by
          rw [q] at q'; cases q'; exact hi
        rcases go_spec hd he hf d (m + 1) fuel (by omega) (by omega) (by omega) with ⟨n, i2, h1, h2, h3, h4, h5, h6⟩ | ⟨h1, h2⟩
        · refine .inl ⟨n, i2, by omega, h2, h3, h4, h5, fun n' q1 q2 => ?_⟩
          by_cases qe : n' = m
          · rw [qe]; exact hm0
          · exact h6 n' (by omega) q2
        · refine .inr ⟨h1, fun n' q1 q2 => ?_⟩
          by_cases qe : n' = m
          · rw [qe]; exact hm0
          · exact h2 n' (by omega) q2
def RI (t : SetTable) (hs : List Int) : Prop := ∀ q ∈ hs.zip t.place.toList, ∃ m, (pth t q.1 m).j = q.2 ∧ ∀ m', m' < m → (pth t q.1 m').j ∈ t.place.toList
theorem RI.nil {t : SetTable} : RI t [] := fun q h => by simp at h
theorem zip_ins {α β : Type} (l : List α) (m : List β) (p : Nat) (x : α) (y : β) (h : l.length = m.length) : ∀ q ∈ (l.take p ++ x :: l.drop p).zip (m.take p ++ y :: m.drop p), q = (x, y) ∨ q ∈ l.zip m := by
  intro q hq
  rw [List.zip_append (by simp [h])] at hq
  rcases List.mem_append.mp hq with hq | hq
  · refine .inr ?_
    rw [List.zip_eq_zipWith, ← List.take_zipWith] at hq
    rw [List.zip_eq_zipWith]
    exact List.mem_of_mem_take hq
  · rw [List.zip_cons_cons] at hq
    rcases List.mem_cons.mp hq with hq | hq
    · exact .inl hq
    · refine .inr ?_
      rw [List.zip_eq_zipWith, ← List.drop_zipWith] at hq
      rw [List.zip_eq_zipWith]
      exact List.mem_of_mem_drop hq
theorem RI.put {t : SetTable} {hs : List Int} {h : Int} {N p : Nat} (R : RI t hs) (hl : hs.length = t.place.size) (hd : t.dummies = #[]) (hr : t.place.toList.Pairwise (· < ·)) (hf : ∀ m, m < N → t.slot (pth t h m).j ≠ .empty) :
    RI { t with place := SetTable.insertAt t.place p (pth t h N).j } (hs.take p ++ h :: hs.drop p) := by
  intro q hq
  have em : ({ t with place := SetTable.insertAt t.place p (pth t h N).j } : SetTable).mask = t.mask := rfl
  have hin : ∀ x, x ∈ t.place.toList → x ∈ (SetTable.insertAt t.place p (pth t h N).j).toList := fun x hx => by
    rw [SetTable.toList_insertAt, List.mem_append, List.mem_cons]
    rw [← List.take_append_drop p t.place.toList, List.mem_append] at hx
    rcases hx with hx | hx
    · exact .inl hx
    · exact .inr (.inr hx)
  have hq' : q = (h, (pth t h N).j) ∨ q ∈ hs.zip t.place.toList := by
    refine zip_ins hs t.place.toList p h (pth t h N).j (by simpa using hl) q ?_
    have hq2 := hq
    rw [show (({ t with place := SetTable.insertAt t.place p (pth t h N).j } : SetTable).place.toList) = t.place.toList.take p ++ (pth t h N).j :: t.place.toList.drop p from SetTable.toList_insertAt _ _ _] at hq2
    exact hq2
  rcases hq' with rfl | hq'
  · refine ⟨N, by rw [pth_mask em], fun m' hm' => ?_⟩
    rw [pth_mask em]
    refine hin _ (Classical.byContradiction fun hn => hf m' hm' ?_)
    exact (slot_empty_iff hd hr _).mpr hn
  · obtain ⟨m, h1, h2⟩ := R q hq'
    refine ⟨m, by rw [pth_mask em]; exact h1, fun m' hm' => ?_⟩
    rw [pth_mask em]
    exact hin _ (h2 m' hm')
theorem run_at (t : SetTable) (x : Nat × Nat) : ∀ k, k ≤ (runP t x).more → (advN t k (runP t x)) = { runP t x with j := x.1 + k, more := (runP t x).more - k }
  | 0, _ => rfl
  | k + 1, hk => by
    have ih := run_at t x k (by omega)
    rw [advN_add t k 1]
    show t.advance (advN t k (runP t x)) = _
    rw [ih]
    unfold SetTable.advance
    rw [if_pos (by show (runP t x).more - k > 0; omega)]
    simp only [SetTable.Probe.mk.injEq, and_true, true_and]
    exact ⟨by omega, by omega⟩
theorem free_path (t : SetTable) {owner : Array (Option Nat)} : ∀ (fuel : Nat) (x : Nat × Nat) (j : Nat), SetTable.layClean.free t.mask owner fuel x.1 x.2 = some j →
    ∃ m, (advN t m (runP t x)).j = j ∧ ∀ m', m' < m → (owner.getD (advN t m' (runP t x)).j (some 0)).isNone = false
  | 0, x, j, h => by cases h
  | fuel + 1, x, j, h => by
    unfold SetTable.layClean.free at h
    have hmore : (runP t x).more = SetTable.runEnd t.mask x.1 - x.1 := rfl
    have hge : x.1 ≤ SetTable.runEnd t.mask x.1 := by unfold SetTable.runEnd; split <;> omega
    cases hf : (List.range (SetTable.runEnd t.mask x.1 + 1 - x.1)).find? fun k => (owner.getD (x.1 + k) (some 0)).isNone with
    | some k =>
      rw [hf] at h
      dsimp only at h
      cases h
      have hk := List.mem_range.mp (List.mem_of_find?_eq_some hf)
      refine ⟨k, by rw [run_at t x k (by omega)], fun m' hm' => ?_⟩
      rw [run_at t x m' (by omega)]
      have := List.find?_range_eq_some.mp hf
      have q := this.2.2 m' hm'
      simpa using q
    | none =>
      rw [hf] at h
      dsimp only at h
      obtain ⟨m, h1, h2⟩ := free_path t fuel (SetTable.leap t.mask x.1 x.2) j h
      have hrun := adv_run t (runP t x).more (runP t x) rfl rfl
      refine ⟨(runP t x).more + 1 + m, by rw [advN_add, hrun]; exact h1, fun m' hm' => ?_⟩
      by_cases hlt : m' < (runP t x).more + 1
      · rw [run_at t x m' (by omega)]
        have := List.find?_eq_none.mp hf m' (List.mem_range.mpr (by omega))
        exact Bool.eq_false_iff.mpr this
      · have e : m' = (runP t x).more + 1 + (m' - ((runP t x).more + 1)) := by omega
        rw [e, advN_add, hrun]
        exact h2 _ (by omega)
end DL
namespace DL
open PySem PySem.Spec PyProof.Rows L2
theorem runEnd_mask {mask i : Nat} (h : i ≤ mask) : SetTable.runEnd mask i ≤ mask := by
  unfold SetTable.runEnd; split <;> omega
theorem pth_le (t : SetTable) (h : Int) : ∀ n, (pth t h n).j + (pth t h n).more ≤ t.mask
  | 0 => by
    have hi : SetTable.bits h % (t.mask + 1) ≤ t.mask := by
      have := Nat.mod_lt (SetTable.bits h) (show 0 < t.mask + 1 by omega)
      omega
    have h1 := runEnd_mask hi
    show SetTable.bits h % (t.mask + 1) + (SetTable.runEnd t.mask (SetTable.bits h % (t.mask + 1)) - SetTable.bits h % (t.mask + 1)) ≤ t.mask
    omega
  | n + 1 => by
    have ih := pth_le t h n
    rw [pth_succ]
    unfold SetTable.advance
    split
    · show (pth t h n).j + 1 + ((pth t h n).more - 1) ≤ t.mask
      omega
    · show (SetTable.leap t.mask (pth t h n).i (pth t h n).perturb).1 + (SetTable.runEnd t.mask (SetTable.leap t.mask (pth t h n).i (pth t h n).perturb).1 - (SetTable.leap t.mask (pth t h n).i (pth t h n).perturb).1) ≤ t.mask
      have hi : (SetTable.leap t.mask (pth t h n).i (pth t h n).perturb).1 ≤ t.mask := by
        simp only [SetTable.leap]
        have := Nat.mod_lt ((pth t h n).i * 5 + 1 + (pth t h n).perturb / 32) (show 0 < t.mask + 1 by omega)
        omega
      have h1 := runEnd_mask hi
      omega
def OwnOk (t : SetTable) (all : List Int) (owner : Array (Option Nat)) : Prop := ∀ j k, owner[j]? = some (some k) → ∃ h m, all[k]? = some h ∧ (pth t h m).j = j ∧ ∀ m', m' < m → (owner.getD (pth t h m').j (some 0)).isNone = false
theorem layClean_own (t : SetTable) (ht : t.mask = 31) (all : List Int) : ∀ (hs : List Int) (owner : Array (Option Nat)) (k : Nat) (owner' : Array (Option Nat)) (k' : Nat), all.drop k = hs → OwnOk t all owner →
    (hs.foldl (init := some (owner, k)) fun acc h => do
      let (owner, k) ← acc
      let j ← SetTable.layClean.free 31 owner (SetTable.turns 31) (SetTable.bits h % (31 + 1)) (SetTable.bits h)
      pure (owner.setIfInBounds j (some k), k + 1)) = some (owner', k') → OwnOk t all owner' := by
  intro hs
  induction hs with
  | nil => intro owner k owner' k' _ ho e; cases e; exact ho
  | cons h hs ih =>
    intro owner k owner' k' hall ho e
    rw [List.foldl_cons] at e
    have hk : all[k]? = some h := by
      have : (all.drop k)[0]? = some h := by rw [hall]; rfl
      simpa using this
    cases hj : SetTable.layClean.free 31 owner (SetTable.turns 31) (SetTable.bits h % (31 + 1)) (SetTable.bits h) with
    | none =>
      exfalso
      have z : (do
        let (owner, k) ← some (owner, k)
        let j ← SetTable.layClean.free 31 owner (SetTable.turns 31) (SetTable.bits h % (31 + 1)) (SetTable.bits h)
        pure (owner.setIfInBounds j (some k), k + 1)) = (none : Option (Array (Option Nat) × Nat)) := by
        show (SetTable.layClean.free 31 owner (SetTable.turns 31) (SetTable.bits h % (31 + 1)) (SetTable.bits h)).bind _ = _
        rw [hj]
        rfl
      rw [z] at e
      have dead : ∀ l : List Int, (l.foldl (init := (none : Option (Array (Option Nat) × Nat))) fun acc h => do
        let (owner, k) ← acc
        let j ← SetTable.layClean.free 31 owner (SetTable.turns 31) (SetTable.bits h % (31 + 1)) (SetTable.bits h)
        pure (owner.setIfInBounds j (some k), k + 1)) = none := by
        intro l
        induction l with
        | nil => rfl
        | cons a l ih => exact ih
      rw [dead] at e
      cases e
    | some j =>
      have z : (do
        let (owner, k) ← some (owner, k)
        let j ← SetTable.layClean.free 31 owner (SetTable.turns 31) (SetTable.bits h % (31 + 1)) (SetTable.bits h)
        pure (owner.setIfInBounds j (some k), k + 1)) = some (owner.setIfInBounds j (some k), k + 1) := by
        show (SetTable.layClean.free 31 owner (SetTable.turns 31) (SetTable.bits h % (31 + 1)) (SetTable.bits h)).bind _ = _
        rw [hj]
        rfl
      rw [z] at e
      refine ih (owner.setIfInBounds j (some k)) (k + 1) owner' k' ?_ ?_ e
      · have : all.drop (k + 1) = (all.drop k).drop 1 := by rw [List.drop_drop]
        rw [this, hall]
        rfl
      · have grow : ∀ x, (owner.getD x (some 0)).isNone = false → ((owner.setIfInBounds j (some k)).getD x (some 0)).isNone = false := by
          intro x hx
          rw [Array.getD_eq_getD_getElem?, Array.getElem?_setIfInBounds]
          split
          · split <;> rfl
          · rw [← Array.getD_eq_getD_getElem?]; exact hx
        intro j' k1 hjk
        rw [Array.getElem?_setIfInBounds] at hjk
        split at hjk
        · rename_i hjj
          split at hjk
          · cases hjk
            subst hjj
            have hj' : SetTable.layClean.free t.mask owner (SetTable.turns 31) (SetTable.bits h % (t.mask + 1), SetTable.bits h).1 (SetTable.bits h % (t.mask + 1), SetTable.bits h).2 = some j := by rw [ht]; exact hj
            obtain ⟨m, h1, h2⟩ := free_path t _ _ _ hj'
            exact ⟨h, m, hk, h1, fun m' hm' => grow _ (h2 m' hm')⟩
          · cases hjk
        · obtain ⟨h0, m, q1, q2, q3⟩ := ho j' k1 hjk
          exact ⟨h0, m, q1, q2, fun m' hm' => grow _ (q3 m' hm')⟩
theorem relaid_ri (t : SetTable) (es : Array (Int × Value)) (hp : t.plain = true) (hn : es.size = 5) :
    ∃ es' t' order, t.relaid (es.map (·.1)) (SetTable.grown 5) = some (t', order) ∧ order.filterMap (es[·]?) = es' ∧ TabOk t' es'.size ∧ t'.led = t.led ∧ List.Perm es'.toList es.toList ∧ es'.size = 5 ∧ RI t' (es'.toList.map (·.1)) := by
  have hw : SetTable.sizeAbove (SetTable.grown 5) - 1 = 31 := by decide
  have h0 : (Array.replicate 32 (none : Option Nat)).toList.filterMap id = [] := by decide
  obtain ⟨owner, e1, e2, e3⟩ := layClean_ok (es.map (·.1)).toList (Array.replicate 32 none) 0 (by simp) (by rw [h0]; exact .nil) (by simp; omega)
  have hl : SetTable.layClean 31 (es.map (·.1)) = some owner := by
    unfold SetTable.layClean
    rw [← Array.foldl_toList]
    rw [e1]
    rfl
  have h5 : 0 + (es.map (·.1)).toList.length = 5 := by simp [hn]
  rw [h5] at e3
  obtain ⟨live, hlive⟩ : ∃ live, live = (List.range 32).filterMap fun j => (owner.getD j none).map (j, ·) := ⟨_, rfl⟩
  obtain ⟨t', ht'⟩ : ∃ t' : SetTable, t' = { mask := 31, place := (live.map (·.1)).toArray, dummies := #[], finger := t.finger, led := t.led, moves := t.movedTo 31, plain := t.plain } := ⟨_, rfl⟩
  have hr : t.relaid (es.map (·.1)) (SetTable.grown 5) = some (t', (live.map (·.2)).toArray) := by
    unfold SetTable.relaid SetTable.laid
    rw [hw, hl, ht', hlive]
    rfl
  have h2 := live_snd owner
  rw [e2, ← hlive] at h2
  have hlen : live.length = 5 := by
    have : (live.map (·.2)).length = 5 := by rw [h2, e3.length_eq, List.length_range]
    simpa using this
  have hown := layClean_own t' (by rw [ht']) (es.map (·.1)).toList (es.map (·.1)).toList (Array.replicate 32 none) 0 owner _ (by simp) (fun j k hjk => by
    exfalso
    rw [Array.getElem?_replicate] at hjk
    split at hjk <;> cases hjk) e1
  have hk5 : ∀ q ∈ live, q.2 < 5 ∧ owner[q.1]? = some (some q.2) := by
    intro q hq
    have hm : q.2 ∈ owner.toList.filterMap id := by rw [← h2]; exact List.mem_map_of_mem hq
    refine ⟨List.mem_range.mp (e3.mem_iff.mp hm), ?_⟩
    rw [hlive] at hq
    obtain ⟨j, hj, hjq⟩ := List.mem_filterMap.mp hq
    have hj32 : j < owner.size := by rw [e2]; exact List.mem_range.mp hj
    cases ho : owner.getD j none with
    | none => rw [ho] at hjq; cases hjq
    | some k =>
      rw [ho] at hjq
      cases hjq
      rw [Array.getElem?_eq_getElem hj32]
      simp only [Array.getD, hj32, dite_true] at ho
      exact congrArg some ho
  have hperm : List.Perm (((live.map (·.2)).toArray.filterMap (es[·]?)).toList) es.toList := by
    rw [Array.toList_filterMap]
    show List.Perm ((live.map (·.2)).filterMap (es[·]?)) es.toList
    rw [h2]
    exact ((e3.filterMap _).trans (by rw [← hn]; exact List.Perm.of_eq (filterMap_getElem?_range es)))
  have hsz : ((live.map (·.2)).toArray.filterMap (es[·]?)).size = 5 := by
    rw [← Array.length_toList, hperm.length_eq, Array.length_toList, hn]
  have hmap : (((live.map (·.2)).toArray.filterMap (es[·]?)).toList) = live.map fun q => es.getD q.2 (0, .none) := by
    rw [Array.toList_filterMap]
    show (live.map (·.2)).filterMap (es[·]?) = _
    clear hlive h2 hr ht' hown hperm hsz hlen
    induction live with
    | nil => rfl
    | cons q l ih =>
      have hq := (hk5 q (.head _)).1
      have hq' : q.2 < es.size := by omega
      simp only [List.map_cons, List.filterMap_cons, Array.getElem?_eq_getElem hq']
      rw [ih fun q hq => hk5 q (.tail _ hq)]
      simp [Array.getD, hq']
  refine ⟨_, t', _, hr, rfl, ?_, by rw [ht'], hperm, hsz, ?_⟩
  · rw [hsz, ht']
    exact ⟨hp, rfl, by simpa using hlen, by rw [hlive]; simpa using live_fst owner 32, .inr ⟨rfl, by omega⟩⟩
  · rw [hmap]
    have hpl : t'.place.toList = live.map (·.1) := by rw [ht']
    intro q hq
    rw [hpl, List.map_map] at hq
    rw [List.zip_map'] at hq
    obtain ⟨x, hx, rfl⟩ := List.mem_map.mp hq
    obtain ⟨h1, h3⟩ := hk5 x hx
    obtain ⟨h, m, q1, q2, q3⟩ := hown x.1 x.2 h3
    have hh : (es.getD x.2 (0, .none)).1 = h := by
      have hx5 : x.2 < es.size := by omega
      simp [hx5] at q1
      simp [Array.getD, hx5, q1]
    show ∃ m, (pth t' (es.getD x.2 (0, .none)).1 m).j = x.1 ∧ ∀ m', m' < m → (pth t' (es.getD x.2 (0, .none)).1 m').j ∈ t'.place.toList
    rw [hh]
    refine ⟨m, q2, fun m' hm' => ?_⟩
    have q4 := q3 m' hm'
    have hle := pth_le t' h m'
    have hmask : t'.mask = 31 := by rw [ht']
    have hlt : (pth t' h m').j < owner.size := by omega
    simp only [Array.getD, hlt, dite_true] at q4
    cases ho : owner[(pth t' h m').j]'hlt with
    | none =>
      have : (owner[(pth t' h m').j]'hlt).isNone = true := by rw [ho]; rfl
      rw [show (owner.getInternal (pth t' h m').j hlt) = owner[(pth t' h m').j]'hlt from rfl, this] at q4
      cases q4
    | some k =>
      rw [hpl]
      refine List.mem_map.mpr ⟨((pth t' h m').j, k), ?_, rfl⟩
      rw [hlive]
      refine List.mem_filterMap.mpr ⟨(pth t' h m').j, List.mem_range.mpr (by omega), ?_⟩
      simp [Array.getD, hlt, ho]
end DL
namespace DL
open PySem PySem.Spec PyProof.Rows L2
section
variable {prog : Program} {w : World} {A : Around} {E : Value → Shared → Prop} {s : Shared}
abbrev PKey (prog : Program) (w : World) (h : Heap) (k : List Int) (a : Addr) : Prop := IsTupleKey (intKind prog w) h k a
noncomputable def pHash (prog : Program) (w : World) (k : List Int) : Int := (tupleKind (intKind prog w)).hash k
theorem itemsInts {k : List Int} {vs : List Value} (h : ItemsAre (intKind prog w) k vs) : ∀ v ∈ vs, ∃ i t, v = Value.int i t := by
  induction h with
  | nil => intro v hv; simp at hv
  | @cons k v ks vs h1 _ ih =>
    intro u hu
    rcases List.mem_cons.mp hu with rfl | hu
    · obtain ⟨t, e⟩ := Value.isInt_shape h1
      exact ⟨_, t, e⟩
    · exact ih u hu
theorem items_at {a : Addr} {o : Obj} {items : Array Value} {n : Nat} {Q : Option (Array Value) → Shared → Prop} (ho : s.heap.get? a = some o) (hd : o.data = .seq items n) (h : Q (some items) s) : wpAny (model prog w) A (seqItems? (.ref a)) Q E s := by
  unfold seqItems?
  refine wpAny_bind (wpAny_load ho ?_)
  rw [hd]
  exact wpAny_pure h
theorem byValue_pair {k : List Int} {a : Addr} {Q : Bool → Shared → Prop} (hk : PKey prog w s.heap k a) (h : Q true s) : wpAny (model prog w) A (hashByValue 8 (.ref a)) Q E s := by
  have hT := hk.typeIs
  obtain ⟨o, items, n, ho, _, hd, hi⟩ := hk
  have hints := itemsInts hi
  unfold hashByValue
  refine wpAny_bind (wpAny_specialOf hT F.slot_tuple_hash.lookup ?_)
  dsimp only
  refine wpAny_bind (items_at ho hd ?_)
  refine wpAny_bind ?_
  show wpAny _ _ (forIn items _ _) _ _ s
  rw [← Array.forIn_toList]
  refine wpAny_forIn_list _ (fun rest r s' => r.1 = none ∧ s' = s ∧ ∀ v ∈ rest, ∃ i t, v = Value.int i t) _ ?_ ?_ _ _ ⟨rfl, rfl, hints⟩
  · rintro v rest r s' ⟨hr, rfl, hall⟩
    obtain ⟨i, t, rfl⟩ := hall v List.mem_cons_self
    have e : hashByValue 7 (Value.int i t) = pure true := rfl
    rw [e]
    refine wpAny_bind (wpAny_pure ?_)
    simp only [Bool.not_true, Bool.false_eq_true, if_false]
    exact wpAny_pure ⟨rfl, rfl, fun u hu => hall u (List.mem_cons_of_mem _ hu)⟩
  · rintro ⟨r1, r2⟩ s' ⟨hr, rfl, _⟩
    simp only at hr
    subst hr
    exact wpAny_pure h
theorem class_pair {k : List Int} {a : Addr} {Q : Bool → Shared → Prop} (hk : PKey prog w s.heap k a) (h : Q false s) : wpAny (model prog w) A (ofAClassStatement 8 (.ref a)) Q E s := by
  have hT := hk.typeIs
  obtain ⟨o, items, n, ho, _, hd, hi⟩ := hk
  have hints := itemsInts hi
  unfold ofAClassStatement
  refine wpAny_bind (wpAny_typeOf hT ?_)
  dsimp only
  rw [if_pos (by rfl)]
  refine wpAny_bind (wpAny_pure ?_)
  simp only [Bool.not_true, Bool.false_eq_true, if_false]
  refine wpAny_bind (items_at ho hd ?_)
  dsimp only
  refine wpAny_bind ?_
  rw [← Array.forIn_toList]
  refine wpAny_forIn_list _ (fun rest r s' => r.1 = none ∧ s' = s ∧ ∀ v ∈ rest, ∃ i t, v = Value.int i t) _ ?_ ?_ _ _ ⟨rfl, rfl, hints⟩
  · rintro v rest r s' ⟨hr, rfl, hall⟩
    obtain ⟨i, t, rfl⟩ := hall v List.mem_cons_self
    have e : ofAClassStatement 7 (Value.int i t) = pure false := rfl
    rw [e]
    refine wpAny_bind (wpAny_pure ?_)
    simp only [Bool.false_eq_true, if_false]
    exact wpAny_pure ⟨rfl, rfl, fun u hu => hall u (List.mem_cons_of_mem _ hu)⟩
  · rintro ⟨r1, r2⟩ s' ⟨hr, rfl, _⟩
    simp only at hr
    subst hr
    exact wpAny_pure h
theorem unseen_pair {k : List Int} {a : Addr} {l : List Value} {Q : Bool → Shared → Prop} (hk : PKey prog w s.heap k a) (hl : ∀ v ∈ l, ∃ k' b, v = .ref b ∧ PKey prog w s.heap k' b) (h : Q false s) : wpAny (model prog w) A (searchCouldBeSeen (.ref a) l) Q E s := by
  unfold searchCouldBeSeen
  refine wpAny_bind ?_
  refine wpAny_forIn_list _ (fun rest r s' => r.1 = none ∧ s' = s ∧ ∀ v ∈ rest, ∃ k' b, v = .ref b ∧ PKey prog w s.heap k' b) _ ?_ ?_ _ _ ⟨rfl, rfl, hl⟩
  · rintro v rest r s' ⟨hr, rfl, hall⟩
    obtain ⟨k', b, rfl, hb⟩ := hall v List.mem_cons_self
    have go : ∀ u ∈ rest, ∃ k' b, u = .ref b ∧ PKey prog w s'.heap k' b := fun u hu => hall u (List.mem_cons_of_mem _ hu)
    dsimp only
    by_cases hab : (a == b || (carriedByValue (.ref a) && carriedByValue (.ref b))) = true
    · rw [if_pos hab]
      exact wpAny_pure ⟨rfl, rfl, go⟩
    · rw [if_neg hab]
      refine wpAny_bind ((tupleKind (intKind prog w)).quiet hk ?_)
      simp only [Bool.not_true, Bool.false_eq_true, if_false]
      refine wpAny_bind ((tupleKind (intKind prog w)).quiet hb ?_)
      simp only [Bool.not_true, Bool.false_eq_true, if_false]
      refine wpAny_bind (class_pair hk ?_)
      simp only [Bool.false_eq_true, if_false]
      refine wpAny_bind (class_pair hb ?_)
      simp only [Bool.false_eq_true, if_false]
      exact wpAny_pure ⟨rfl, rfl, go⟩
  · rintro ⟨r1, r2⟩ s' ⟨hr, rfl, _⟩
    simp only at hr
    subst hr
    exact wpAny_pure h
end
structure EsP (prog : Program) (w : World) (h : Heap) (es : List (Int × Value)) (S : List (List Int)) : Prop where
  all : ∀ e ∈ es, ∃ k a, e = (pHash prog w k, .ref a) ∧ PKey prog w h k a
  mem : ∀ k, k ∈ S ↔ ∃ e ∈ es, ∃ a, e = (pHash prog w k, .ref a) ∧ PKey prog w h k a
  len : es.length = S.length
structure PSet (prog : Program) (w : World) (h : Heap) (sa : Addr) (S : List (List Int)) (es : Array (Int × Value)) (ep : Nat) (tb : SetTable) : Prop where
  at_ : SetAt w h sa es ep tb
  ri : RI tb (es.toList.map (·.1))
  es : EsP prog w h es.toList S
section
variable {prog : Program} {w : World} {A : Around} {E : Value → Shared → Prop} {s : Shared}
theorem search_pair {sa a : Addr} {S : List (List Int)} {es : Array (Int × Value)} {ep : Nat} {tb : SetTable} {k : List Int} {N : Nat} {Q : SetFound → Shared → Prop} (P : PSet prog w s.heap sa S es ep tb) (hk : PKey prog w s.heap k a) (hu : A.units < cLine)
    (hN : N < 10 * SetTable.turns tb.mask) (he : tb.slot (pth tb (pHash prog w k) N).j = .empty) (hf : ∀ m, m < N → tb.slot (pth tb (pHash prog w k) m).j ≠ .empty)
    (h1 : k ∈ S → Q (.there none) s) (h2 : k ∉ S → Q (.free (pth tb (pHash prog w k) N).j false) s) : ∀ (d m fuel : Nat) (stand : Option SetTable.Probe), N - m = d → m ≤ N → d < fuel → stand.getD (tb.probeStart (pHash prog w k)) = pth tb (pHash prog w k) m →
      (k ∈ S → ∃ n i b, m ≤ n ∧ n < N ∧ tb.slot (pth tb (pHash prog w k) n).j = .live i ∧ es[i]? = some (pHash prog w k, .ref b) ∧ PKey prog w s.heap k b) →
      wpAny (model prog w) A (setSearchFrom sa (.ref a) (pHash prog w k) true fuel stand) Q E s := by
  intro d
  induction d using Nat.strongRecOn with
  | _ d ih =>
    intro m fuel stand hd hm hfu hst hin
    cases fuel with
    | zero => exact absurd hfu (Nat.not_lt_zero _)
    | succ fuel =>
      unfold setSearchFrom
      refine wpAny_bind (set_state P.at_ ?_)
      dsimp only
      have hgw : tb.gaveWay = false := by
        unfold SetTable.gaveWay
        rcases P.at_.tab.mask with ⟨q, _⟩ | ⟨q, _⟩ <;> rw [q] <;> rfl
      rw [if_neg (by rw [hgw]; exact Bool.false_ne_true), hst]
      have live_e : ∀ n i, tb.slot (pth tb (pHash prog w k) n).j = .live i → ∃ e, es[i]? = some e := fun n i hl => by
        have hp := slot_live hl
        have hlt : i < es.size := by rw [← P.at_.tab.size]; exact (Array.getElem?_eq_some_iff.mp hp).1
        exact ⟨_, Array.getElem?_eq_getElem hlt⟩
      have next_pair : ∀ (n i : Nat) (k' : List Int) (b : Addr), m ≤ n → n < N → tb.slot (pth tb (pHash prog w k) n).j = .live i → (∀ n', m ≤ n' → n' < n → ∀ i', tb.slot (pth tb (pHash prog w k) n').j = .live i' → (es[i']?.map (·.1)).getD 0 ≠ pHash prog w k) →
          es[i]? = some (pHash prog w k', .ref b) → PKey prog w s.heap k' b → k' ≠ k → wpAny (model prog w) A (setSearchFrom sa (.ref a) (pHash prog w k) true fuel (some (pth tb (pHash prog w k) (n + 1)))) Q E s := by
        intro n i k' b q1 q2 q3 q6 hei hb hkk
        refine ih (N - (n + 1)) (by omega) (n + 1) fuel (some (pth tb (pHash prog w k) (n + 1))) rfl (by omega) (by omega) rfl fun hks => ?_
        obtain ⟨n', i', b', r1, r2, r3, r4, r5⟩ := hin hks
        refine ⟨n', i', b', ?_, r2, r3, r4, r5⟩
        rcases Nat.lt_or_ge n n' with hlt | hge
        · exact hlt
        · exfalso
          rcases Nat.lt_or_eq_of_le hge with hlt | heq
          · refine q6 n' r1 hlt i' r3 ?_
            simp only [r4, Option.map_some, Option.getD_some]
          · subst heq
            rw [q3] at r3
            cases r3
            rw [hei] at r4
            have e2 := (Prod.mk.inj (Option.some.inj r4)).2
            have e3 : b = b' := by injection e2
            subst e3
            exact hkk (hb.inj r5)
      rcases go_spec (ha := fun i => (es[i]?.map (·.1)).getD 0) P.at_.tab.dummies he hf d m (10 * SetTable.turns tb.mask) hd hm (by omega) with ⟨n, i, q1, q2, q3, q4, q5, q6⟩ | ⟨q5, q6⟩
      · split
        rotate_left
        · rename_i hp
          exact (hp _ q5).elim
        · rename_i met hp
          have em : met = .candidate (pth tb (pHash prog w k) n).j i (pth tb (pHash prog w k) (n + 1)) := Option.some.inj (hp.symm.trans q5)
          subst em
          dsimp only
          obtain ⟨e, hei⟩ := live_e n i q3
          have hme : e ∈ es.toList := by
            rw [← Array.getElem?_toList] at hei
            exact List.mem_of_getElem? hei
          obtain ⟨k', b, rfl, hb⟩ := P.es.all e hme
          have hstored : ∀ v ∈ (es.filter fun x => x.1 == pHash prog w k).toList.map (·.2), ∃ k' b, v = .ref b ∧ PKey prog w s.heap k' b := fun v hv => by
            obtain ⟨e, he', rfl⟩ := List.mem_map.mp hv
            rw [Array.toList_filter, List.mem_filter] at he'
            obtain ⟨k2, b2, rfl, hb2⟩ := P.es.all e he'.1
            exact ⟨k2, b2, rfl, hb2⟩
          have hsm : tb.sameMemory tb.moves tb.mask = some true := by unfold SetTable.sameMemory; simp
          refine wpAny_ite_split (fun hl => wpAny_bind (unseen_pair hk hstored ?_)) fun hl => ?_
          · rw [if_neg Bool.false_ne_true, hei]
            refine wpAny_bind (wpAny_holding ((tupleKind (intKind prog w)).eqBool hu hb hk ?_))
            refine wpAny_bind (set_state P.at_ ?_)
            by_cases hkk : k' = k
            · subst hkk
              rw [if_pos (by simp)]
              exact wpAny_pure (h1 ((P.es.mem k').mpr ⟨_, hme, b, rfl, hb⟩))
            · rw [if_neg (by simp [hkk])]
              dsimp only
              rw [hsm]
              dsimp only
              rw [if_pos rfl, q3]
              dsimp only
              rw [hei]
              refine wpAny_bind (wpAny_isSame_ref_self ?_)
              refine wpAny_bind (wpAny_pure ?_)
              rw [if_pos rfl]
              dsimp only
              rw [if_neg (by simp [hkk])]
              exact next_pair n i k' b q1 q2 q3 q6 hei hb hkk
          · rw [hei]
            refine wpAny_bind (wpAny_holding ((tupleKind (intKind prog w)).eqBool hu hb hk ?_))
            refine wpAny_bind (set_state P.at_ ?_)
            by_cases hkk : k' = k
            · subst hkk
              rw [if_pos (by simp)]
              exact wpAny_pure (h1 ((P.es.mem k').mpr ⟨_, hme, b, rfl, hb⟩))
            · rw [if_neg (by simp [hkk])]
              dsimp only
              rw [hsm]
              dsimp only
              rw [if_pos rfl, q3]
              dsimp only
              rw [hei]
              refine wpAny_bind (wpAny_isSame_ref_self ?_)
              refine wpAny_bind (wpAny_pure ?_)
              rw [if_pos rfl]
              dsimp only
              rw [if_neg (by simp [hkk])]
              exact next_pair n i k' b q1 q2 q3 q6 hei hb hkk
      · have hns : k ∉ S := fun hks => by
          obtain ⟨n, i, b, r1, r2, r3, r4, _⟩ := hin hks
          refine q6 n r1 r2 i r3 ?_
          simp only [r4, Option.map_some, Option.getD_some]
        split
        rotate_left
        · rename_i hp
          exact (hp _ q5).elim
        · rename_i met hp
          have em : met = .empty (pth tb (pHash prog w k) N).j none := Option.some.inj (hp.symm.trans q5)
          subst em
          exact wpAny_pure (h2 hns)
theorem found_pair {sa : Addr} {S : List (List Int)} {es : Array (Int × Value)} {ep : Nat} {tb : SetTable} {k : List Int} {N : Nat} (P : PSet prog w s.heap sa S es ep tb)
    (he : tb.slot (pth tb (pHash prog w k) N).j = .empty) (hf : ∀ m, m < N → tb.slot (pth tb (pHash prog w k) m).j ≠ .empty) (hks : k ∈ S) :
    ∃ n i b, 0 ≤ n ∧ n < N ∧ tb.slot (pth tb (pHash prog w k) n).j = .live i ∧ es[i]? = some (pHash prog w k, .ref b) ∧ PKey prog w s.heap k b := by
  obtain ⟨e, hme, b, rfl, hb⟩ := (P.es.mem k).mp hks
  obtain ⟨i, hi⟩ := List.getElem?_of_mem hme
  have hlt : i < es.toList.length := (List.getElem?_eq_some_iff.mp hi).1
  rw [Array.length_toList] at hlt
  have hlt2 : i < tb.place.size := by rw [P.at_.tab.size]; exact hlt
  have hp : tb.place[i]? = some tb.place[i] := Array.getElem?_eq_getElem hlt2
  have hz : (pHash prog w k, tb.place[i]) ∈ (es.toList.map (·.1)).zip tb.place.toList := by
    refine List.mem_of_getElem? (i := i) ?_
    rw [List.getElem?_zip_eq_some]
    refine ⟨by rw [List.getElem?_map, hi]; rfl, by rw [Array.getElem?_toList]; exact hp⟩
  obtain ⟨m, h1, h2⟩ := P.ri _ hz
  have hs := slot_of_place P.at_.tab.rise hp
  have hmN : m < N := by
    rcases Nat.lt_or_ge m N with hlt' | hge
    · exact hlt'
    · exfalso
      rcases Nat.lt_or_eq_of_le hge with hlt' | heq
      · exact (slot_empty_iff P.at_.tab.dummies P.at_.tab.rise _).mp he (h2 N hlt')
      · subst heq
        rw [h1, hs] at he
        cases he
  refine ⟨m, i, b, Nat.zero_le _, hmN, by rw [h1]; exact hs, by rw [← Array.getElem?_toList]; exact hi, hb⟩
theorem PKey.stay {h h' : Heap} {k : List Int} {a sa : Addr} {es : Array (Int × Value)} {ep : Nat} {tb : SetTable} (hk : PKey prog w h k a) (S : SetAt w h sa es ep tb) (hs : Heap.SameBut sa h h') : PKey prog w h' k a := by
  obtain ⟨o, items, n, ho, hc, hd, hi⟩ := hk
  obtain ⟨o2, ho2, _, hd2⟩ := S.ex
  have hne : a ≠ sa := by
    rintro rfl
    rw [ho] at ho2
    cases ho2
    rw [hd] at hd2
    cases hd2
  exact ⟨o, items, n, (hs.2 a hne).trans ho, hc, hd, hi⟩
theorem EsP.stay {h h' : Heap} {l : List (Int × Value)} {T : List (List Int)} {sa : Addr} {es : Array (Int × Value)} {ep : Nat} {tb : SetTable} (X : EsP prog w h l T) (S : SetAt w h sa es ep tb) (hs : Heap.SameBut sa h h') : EsP prog w h' l T where
  all := fun e he => let ⟨k, a, q, r⟩ := X.all e he; ⟨k, a, q, r.stay S hs⟩
  mem := fun k => by
    rw [X.mem k]
    constructor
    · rintro ⟨e, he, a, q, r⟩
      exact ⟨e, he, a, q, r.stay S hs⟩
    · rintro ⟨e, he, a, q, r⟩
      obtain ⟨k2, a2, q2, r2⟩ := X.all e he
      have e2 : a2 = a := by
        have := (Prod.mk.inj (q2.symm.trans q)).2
        injection this
      subst e2
      have : k2 = k := (r2.stay S hs).inj r
      subst this
      exact ⟨e, he, a2, q, r2⟩
  len := X.len
theorem EsP.of_perm {h : Heap} {l l' : List (Int × Value)} {T : List (List Int)} (X : EsP prog w h l T) (p : l'.Perm l) : EsP prog w h l' T where
  all := fun e he => X.all e (p.mem_iff.mp he)
  mem := fun k => by
    rw [X.mem k]
    constructor
    · rintro ⟨e, he, r⟩; exact ⟨e, p.mem_iff.mpr he, r⟩
    · rintro ⟨e, he, r⟩; exact ⟨e, p.mem_iff.mp he, r⟩
  len := p.length_eq.trans X.len
theorem EsP.push {h : Heap} {l : List (Int × Value)} {T : List (List Int)} (X : EsP prog w h l T) {k : List Int} {a : Addr} (hk : PKey prog w h k a) : EsP prog w h (l ++ [(pHash prog w k, .ref a)]) (T ++ [k]) where
  all := fun e he => by
    rcases List.mem_append.mp he with he | he
    · exact X.all e he
    · rw [List.mem_singleton] at he; exact ⟨k, a, he, hk⟩
  mem := fun k2 => by
    rw [List.mem_append, List.mem_singleton, X.mem k2]
    constructor
    · rintro (⟨e, he, r⟩ | rfl)
      · exact ⟨e, List.mem_append_left _ he, r⟩
      · exact ⟨_, List.mem_append_right _ (List.mem_singleton.mpr rfl), a, rfl, hk⟩
    · rintro ⟨e, he, a2, q, r⟩
      rcases List.mem_append.mp he with he | he
      · exact .inl ⟨e, he, a2, q, r⟩
      · rw [List.mem_singleton] at he
        rw [he] at q
        have e2 : a = a2 := by
          have := (Prod.mk.inj q).2
          injection this
        subst e2
        exact .inr (r.inj hk)
  len := by simp [X.len]
theorem relay_pair {sa : Addr} {o : Obj} {es : Array (Int × Value)} {ep : Nat} {tb : SetTable} {Q : Unit → Shared → Prop} (ho : s.heap.get? sa = some o) (hx : o.ExactSet) (hd : o.data = .set es ep tb) (hf : tb.fits es.size = true) (hp : tb.plain = true)
    (hled : tb.led = !w.params.followText "set-order") (hn : es.size = 5)
    (h : ∀ h' es' ep' tb', Heap.SameBut sa s.heap h' → SetAt w h' sa es' ep' tb' → RI tb' (es'.toList.map (·.1)) → List.Perm es'.toList es.toList → Q () { s with heap := h' }) :
    wpAny (model prog w) A (setRelay sa (SetTable.grown 5)) Q E s := by
  obtain ⟨es2, t2, order, e1, e2, T2, l2, p2, z2, r2⟩ := relaid_ri tb es hp hn
  unfold setRelay
  refine wpAny_bind (wpAny_setState_of ho hd hf ?_)
  dsimp only
  rw [if_neg (by decide)]
  rw [e1]
  refine wpAny_bind ?_
  have hz : ((order.filterMap (es[·]?)).size != es.size) = false := by rw [e2, z2, hn]; rfl
  refine wpAny_of_eq (a := (es2, t2)) (by
    show (if ((order.filterMap (es[·]?)).size != es.size) = true then _ else pure (order.filterMap (es[·]?), t2)) = _
    rw [hz, if_neg Bool.false_ne_true, e2]) ?_
  refine wpAny_storeSet_of ho hd ?_ (by rw [z2, sizeLine_eq]; omega)
  have hg : (s.heap.update sa (Obj.putSet es2 t2)).get? sa = some { o with data := .set es2 (ep + 1) t2 } := by
    have := Heap.get?_update_self (Obj.putSet es2 t2) ho (by rw [putSet_of _ _ hd]; rfl)
    rw [putSet_of _ _ hd] at this
    exact this
  exact h _ es2 (ep + 1) t2 (Heap.SameBut.update s.heap sa _) ⟨⟨_, hg, hx, rfl⟩, T2, l2.trans hled⟩ r2 p2
theorem set_addP {sa a : Addr} {S : List (List Int)} {es : Array (Int × Value)} {ep : Nat} {tb : SetTable} {k : List Int} {Q : Bool → Shared → Prop} (P : PSet prog w s.heap sa S es ep tb) (hk : PKey prog w s.heap k a) (hu : A.units < cLine) (hn : S.length < 18)
    (h : ∀ b h' tk es' ep' tb', s.toks ≤ tk → Heap.SameBut sa s.heap h' → PSet prog w h' sa (if k ∈ S then S else S ++ [k]) es' ep' tb' → (∀ e ∈ es'.toList, e ∈ es.toList ∨ e.2 = .ref a) → Q b { s with heap := h', toks := tk }) :
    wpAny (model prog w) A (setAdd sa (.ref a)) Q E s := by
  have hsz : es.size = S.length := by rw [← Array.length_toList]; exact P.es.len
  unfold setAdd
  refine wpAny_holding ?_
  refine wpAny_bind ((tupleKind (intKind prog w)).pyHash (k := k) hu hk ?_)
  obtain ⟨tk, htk⟩ : ∃ tk, tk = s.toks + (tupleKind (intKind prog w)).draws k := ⟨_, rfl⟩
  have hle : s.toks ≤ tk := by omega
  rw [← htk]
  show wpAny (model prog w) A (setAddHashed sa (.ref a) (pHash prog w k)) Q E _
  obtain ⟨N, hN, he, hf⟩ := first_empty P.at_.tab (pHash prog w k)
  have P1 : PSet prog w ({ s with toks := tk } : Shared).heap sa S es ep tb := P
  have hk1 : PKey prog w ({ s with toks := tk } : Shared).heap k a := hk
  unfold setAddHashed setAddHashedIn
  refine wpAny_holding (wpAny_bind (set_state P1.at_ ?_))
  dsimp only
  have hbs : byScan (.ref a) es = false := rfl
  rw [if_neg (by rw [hbs]; exact Bool.false_ne_true)]
  refine wpAny_bind ?_
  unfold setSearch
  refine search_pair P1 hk1 hu hN he hf (fun hks => ?_) (fun hks => ?_) N 0 100000 none (by omega) (Nat.zero_le _) (by
    have : SetTable.turns tb.mask ≤ 46 := by unfold SetTable.turns; rcases P.at_.tab.mask with ⟨q, _⟩ | ⟨q, _⟩ <;> omega
    omega) rfl fun hks => found_pair P1 he hf hks
  · refine wpAny_pure ?_
    rw [if_pos hks] at h
    exact h false s.heap tk es ep tb hle (Heap.SameBut.refl sa s.heap) P fun e he => .inl he
  · rw [if_neg hks] at h
    refine wpAny_bind (set_state P1.at_ ?_)
    dsimp only
    obtain ⟨p1, p2, p3⟩ := put_ok P.at_.tab he
    obtain ⟨p, hp⟩ : ∃ p, p = (tb.put (pth tb (pHash prog w k) N).j).2 := ⟨_, rfl⟩
    rw [← hp] at p1 p2 p3
    rw [p1, ← hp]
    obtain ⟨o, ho, hx, hd⟩ := P.at_.ex
    obtain ⟨tb1, htb⟩ : ∃ x, x = ({ tb with place := SetTable.insertAt tb.place p (pth tb (pHash prog w k) N).j } : SetTable) := ⟨_, rfl⟩
    have z1 : (SetTable.insertAt es p (pHash prog w k, .ref a)).size = es.size + 1 := by
      have := (SetTable.insertAt_perm es p (pHash prog w k, Value.ref a)).length_eq
      simpa using this
    have z2 : (SetTable.insertAt tb.place p (pth tb (pHash prog w k) N).j).size = es.size + 1 := by
      have := (SetTable.insertAt_perm tb.place p (pth tb (pHash prog w k) N).j).length_eq
      rw [← P.at_.tab.size]
      simpa using this
    have y1 : tb1.plain = true := by rw [htb]; exact P.at_.tab.plain
    have y2 : tb1.dummies = #[] := by rw [htb]; exact P.at_.tab.dummies
    have y3 : tb1.mask = tb.mask := by rw [htb]
    have y4 : tb1.led = tb.led := by rw [htb]
    have y5 : tb1.place.size = es.size + 1 := by rw [htb]; exact z2
    have y6 : tb1.place.toList.Pairwise (· < ·) := by rw [htb]; exact p2
    have y7 : RI tb1 ((SetTable.insertAt es p (pHash prog w k, .ref a)).toList.map (·.1)) := by
      rw [SetTable.toList_insertAt, List.map_append, List.map_cons, List.map_take, List.map_drop, htb]
      exact P.ri.put (by simp [P.at_.tab.size]) P.at_.tab.dummies P.at_.tab.rise hf
    rw [← htb]
    rw [if_pos y1]
    refine wpAny_bind (byValue_pair hk1 ?_)
    simp only [if_true]
    have hE1 : EsP prog w s.heap (SetTable.insertAt es p (pHash prog w k, .ref a)).toList (S ++ [k]) := (P.es.push hk).of_perm (by
      have := SetTable.insertAt_perm es p (pHash prog w k, Value.ref a)
      exact this.trans (by
        first
        | exact (List.perm_append_singleton _ _).symm
        | simp))
    have hsub : ∀ e ∈ (SetTable.insertAt es p (pHash prog w k, Value.ref a)).toList, e ∈ es.toList ∨ e.2 = .ref a := fun e he => by
      rw [SetTable.toList_insertAt, List.mem_append, List.mem_cons] at he
      rcases he with he | rfl | he
      · exact .inl (List.mem_of_mem_take he)
      · exact .inr rfl
      · exact .inl (List.mem_of_mem_drop he)
    refine wpAny_bind (wpAny_storeSet_of (s := { s with toks := tk }) ho hd ?_ (by rw [z1, sizeLine_eq]; omega))
    dsimp only
    have sb := Heap.SameBut.update s.heap sa (Obj.putSet (SetTable.insertAt es p (pHash prog w k, .ref a)) tb1)
    have hg : (s.heap.update sa (Obj.putSet (SetTable.insertAt es p (pHash prog w k, .ref a)) tb1)).get? sa = some { o with data := .set (SetTable.insertAt es p (pHash prog w k, .ref a)) (ep + 1) tb1 } := by
      have := Heap.get?_update_self (Obj.putSet (SetTable.insertAt es p (pHash prog w k, Value.ref a)) tb1) ho (by rw [putSet_of _ _ hd]; rfl)
      rw [putSet_of _ _ hd] at this
      exact this
    by_cases h5 : tb.mask = 7 ∧ es.size = 4
    · have htf : SetTable.tooFull tb1 = true := by
        unfold SetTable.tooFull SetTable.fill
        rw [y5, y2, y3, h5.1, h5.2]
        rfl
      rw [if_pos (by rw [htf]; rfl)]
      have hf1 : tb1.fits (SetTable.insertAt es p (pHash prog w k, .ref a)).size = true := by
        unfold SetTable.fits SetTable.fill
        rw [z1, y5, y2, y3, h5.1, h5.2]
        rfl
      have e5 : es.size + 1 = 5 := by omega
      rw [e5]
      refine wpAny_bind (relay_pair (s := { s with heap := s.heap.update sa (Obj.putSet (SetTable.insertAt es p (pHash prog w k, .ref a)) tb1), toks := tk }) hg hx rfl hf1 y1 (y4.trans P.at_.led) (by rw [z1]; exact e5) fun h' es' ep' tb' sb2 S2 r2 p2' => ?_)
      refine wpAny_pure (h true h' tk es' ep' tb' hle (sb.trans sb2) ⟨S2, r2, ?_⟩ fun e he => hsub e (p2'.mem_iff.mp he))
      exact (hE1.stay P.at_ (sb.trans sb2)).of_perm p2'
    · have htf : SetTable.tooFull tb1 = false := by
        unfold SetTable.tooFull SetTable.fill
        rw [y5, y2, y3]
        rcases P.at_.tab.mask with ⟨q, q2⟩ | ⟨q, q2⟩ <;> rw [q] <;> simp <;> omega
      rw [if_neg (by rw [htf]; simp)]
      have T1 : TabOk tb1 (SetTable.insertAt es p (pHash prog w k, .ref a)).size := ⟨y1, y2, by rw [z1]; exact y5, y6, by
        rw [z1, y3]
        rcases P.at_.tab.mask with ⟨q, q2⟩ | ⟨q, q2⟩
        · exact .inl ⟨q, by omega⟩
        · exact .inr ⟨q, by omega⟩⟩
      exact wpAny_pure (h true _ tk _ (ep + 1) tb1 hle sb ⟨P.at_.store T1 y4, y7, hE1.stay P.at_ sb⟩ hsub)
end
end DL
namespace DL
open PySem PySem.Spec PyProof.Rows L2
noncomputable def metP (ks : List (List Int)) : List (List Int) := ks.foldl (fun σ k => if k ∈ σ then σ else σ ++ [k]) []
theorem metP_snoc (ks : List (List Int)) (k : List Int) : metP (ks ++ [k]) = if k ∈ metP ks then metP ks else metP ks ++ [k] := by
  unfold metP
  rw [List.foldl_append]
  rfl
theorem metP_take (ks : List (List Int)) (i : Nat) (h : i < ks.length) : metP (ks.take (i + 1)) = if ks[i] ∈ metP (ks.take i) then metP (ks.take i) else metP (ks.take i) ++ [ks[i]] := by
  rw [List.take_succ_eq_append_getElem h, metP_snoc]
theorem metP_le (ks : List (List Int)) : (metP ks).length ≤ ks.length := by
  have : ∀ (l σ : List (List Int)), (l.foldl (fun σ k => if k ∈ σ then σ else σ ++ [k]) σ).length ≤ σ.length + l.length := by
    intro l
    induction l with
    | nil => intro σ; simp
    | cons k l ih =>
      intro σ
      rw [List.foldl_cons]
      refine Nat.le_trans (ih _) ?_
      split <;> simp <;> omega
  have q := this ks []
  simp only [List.length_nil, Nat.zero_add] at q
  exact q
theorem PKey.at {prog : Program} {w : World} {h h' : Heap} {k : List Int} {a : Addr} (x : PKey prog w h k a) (hk : ∀ o, h.get? a = some o → h'.get? a = some o) : PKey prog w h' k a := by
  obtain ⟨o, its, n, ho, r⟩ := x
  exact ⟨o, its, n, hk o ho, r⟩
theorem PSet.keep {prog : Program} {w : World} {h h' : Heap} {sa B : Addr} {S : List (List Int)} {es : Array (Int × Value)} {ep : Nat} {tb : SetTable} (P : PSet prog w h sa S es ep tb) (hB : ∀ e ∈ es.toList, ∀ a, e.2 = .ref a → a < B)
    (hk : ∀ b o, b = sa ∨ b < B → h.get? b = some o → h'.get? b = some o) : PSet prog w h' sa S es ep tb where
  at_ := P.at_.keep fun o e => hk sa o (.inl rfl) e
  ri := P.ri
  es := {
    all := fun e he => let ⟨k, a, q, r⟩ := P.es.all e he; ⟨k, a, q, r.at fun o eo => hk a o (.inr (hB e he a (by rw [q]))) eo⟩
    mem := fun k => by
      rw [P.es.mem k]
      constructor
      · rintro ⟨e, he, a, q, r⟩
        exact ⟨e, he, a, q, r.at fun o eo => hk a o (.inr (hB e he a (by rw [q]))) eo⟩
      · rintro ⟨e, he, a, q, r⟩
        obtain ⟨k2, a2, q2, r2⟩ := P.es.all e he
        have e2 : a2 = a := by
          have := (Prod.mk.inj (q2.symm.trans q)).2
          injection this
        subst e2
        have : k2 = k := (r2.at fun o eo => hk a2 o (.inr (hB e he a2 (by rw [q2]))) eo).inj r
        subst this
        exact ⟨e, he, a2, q, r2⟩
    len := P.es.len }
section
variable {prog : Program} {w : World} {A : Around} {R : Result → Shared → Prop} {I : Addr} {fp wr : List Addr} {G : Array GenState → Array GenState → Prop} {P : Nat → Value → Prop} {St : Nat → Shared → Prop}
theorem update_loopP {B : Addr} {ks : List (List Int)} {as : List Addr} (W : WalksS prog w A.in1 I fp wr G ks.length P St) (S : Addr) (hSf : S ∉ fp) (hSB : B ≤ S) (hwr : ∀ b ∈ wr, B ≤ b) (hval : ∀ i v, P i v → ∃ a, as[i]? = some a ∧ v = .ref a) (hlt : ∀ a ∈ as, a < B) (hlen : as.length = ks.length) (hb : ks.length < 18) (hu : A.in1.units < cLine) :
    ∀ (k i : Nat) (s : Shared) (es : Array (Int × Value)) (ep : Nat) (tb : SetTable), ks.length - i = k → i ≤ ks.length → St i s → PSet prog w s.heap S (metP (ks.take i)) es ep tb → (∀ e ∈ es.toList, ∀ a, e.2 = .ref a → a < B) → (∀ (j : Nat) (a : Addr) (k : List Int), as[j]? = some a → ks[j]? = some k → PKey prog w s.heap k a) →
      (∀ s' es' ep' tb', Moved (S :: wr) G s s' → PSet prog w s'.heap S (metP ks) es' ep' tb' → R (.ok (.ret .none)) s') →
      codeAny (model prog w) A (.builtin "set.update.loop" ⟨[.ref S, .ref I], []⟩) R s := by
  have hSw : S ∉ wr := fun h => hSf (W.sub _ h)
  have hsub : ∀ b ∈ wr, b ∈ S :: wr := fun b hb => List.mem_cons_of_mem _ hb
  have low : ∀ b, b < B → b ∉ wr := fun b h1 h2 => absurd (hwr b h2) (Nat.not_le.mpr h1)
  intro k
  induction k with
  | zero =>
    intro i s es ep tb hk hi hst hS hB hks hR
    have hin : i = ks.length := by omega
    subst hin
    refine codeAny_builtin F.entry_set_update_loop ?_
    rw [Around.under_plainId F.plain_set_update_loop _]
    show wpAny _ A.in1 (pyNext (.ref I) >>= _) _ _ s
    refine wpAny_bind (W.done s _ _ hst fun s' hm => ?_)
    show wpAny _ A.in1 (ret Value.none) _ _ s'
    rw [List.take_length] at hS
    exact wpAny_pure (hR s' es ep tb (hm.mono hsub) (hS.keep hB fun b o hb ho => hm.heap b o (by
      rcases hb with rfl | hb
      · exact hSw
      · exact low b hb) ho))
  | succ k ih =>
    intro i s es ep tb hk hi hst hS hB hks hR
    have hlt2 : i < ks.length := by omega
    refine codeAny_builtin F.entry_set_update_loop ?_
    rw [Around.under_plainId F.plain_set_update_loop _]
    show wpAny _ A.in1 (pyNext (.ref I) >>= _) _ _ s
    refine wpAny_bind (W.item i s _ _ hlt2 hst fun v s' hP hst' hm => ?_)
    obtain ⟨a, ha, rfl⟩ := hval i v hP
    have haB := hlt a (List.mem_of_getElem? ha)
    have keep : ∀ b o, b = S ∨ b < B → s.heap.get? b = some o → s'.heap.get? b = some o := fun b o hb ho => hm.heap b o (by
      rcases hb with rfl | hb
      · exact hSw
      · exact low b hb) ho
    have hS' := hS.keep hB keep
    have hks' : ∀ (j : Nat) (a : Addr) (k : List Int), as[j]? = some a → ks[j]? = some k → PKey prog w s'.heap k a := fun j a k h1 h2 => (hks j a k h1 h2).at fun o ho => keep a o (.inr (hlt a (List.mem_of_getElem? h1))) ho
    show wpAny _ A.in1 (holding [Value.ref a] (setAdd S (.ref a)) >>= _) _ _ s'
    refine wpAny_bind (wpAny_holding ?_)
    have hl := metP_le (ks.take i)
    rw [List.length_take] at hl
    refine set_addP hS' (hks' i a _ ha (List.getElem?_eq_getElem hlt2)) hu (by omega) fun b h' tk es' ep' tb' htk hsb hS2 hsub2 => ?_
    rw [← metP_take ks i hlt2] at hS2
    have hB2 : ∀ e ∈ es'.toList, ∀ a, e.2 = .ref a → a < B := fun e he a2 h2 => by
      rcases hsub2 e he with h3 | h3
      · exact hB e h3 a2 h2
      · rw [h3] at h2
        have : a = a2 := by injection h2
        rw [← this]; exact haB
    refine wpAny_pure ⟨plainId_quiet F.plain_set_update_loop _, ih (i + 1) _ es' ep' tb' (by omega) hlt2 (W.frame _ s' _ _ hst' htk fun b hb o e => ?_) hS2 hB2 (fun j a k h1 h2 => (hks' j a k h1 h2).at fun o ho => ?_) fun s'' es'' ep'' tb'' hm'' hS'' => ?_⟩
    · rw [hsb.2 b (fun h : b = S => hSf (by rw [← h]; exact hb))]; exact e
    · have haS : a ≠ S := fun z => by
        have := Nat.lt_of_lt_of_le (hlt a (List.mem_of_getElem? h1)) hSB
        rw [z] at this
        exact Nat.lt_irrefl _ this
      rw [hsb.2 a haS]; exact ho
    · refine hR s'' es'' ep'' tb'' (Moved.trans W.gtrans ((hm.mono hsub).then_heap htk fun b o hb e => ?_) hm'') hS''
      rw [hsb.2 b (fun h : b = S => hb (by rw [h]; exact List.mem_cons_self))]; exact e
end
section
variable {prog : Program} {w : World} {A : Around} {E : Value → Shared → Prop} {s : Shared}
theorem call_setP {l : Addr} {items : Array Value} {ks : List (List Int)} {as : List Addr} {Q : Value → Shared → Prop}
    (hh : A.handled = none) (hu : A.units + 10 < cLine) (hl : s.heap.IsList l items) (hi : items.toList = as.map Value.ref) (hlen : as.length = ks.length) (hkeys : ∀ (j : Nat) (a : Addr) (k : List Int), as[j]? = some a → ks[j]? = some k → PKey prog w s.heap k a) (hb : ks.length < 18)
    (h : ∀ (h' : Heap) (tk : Nat) es ep tb, s.toks ≤ tk → PSet prog w h' s.heap.objs.size (metP ks) es ep tb →
      (∀ b o, b < s.heap.objs.size → s.heap.get? b = some o → h'.get? b = some o) → Q (.ref s.heap.objs.size) { s with heap := h', toks := tk }) :
    wpAny (model prog w) A (call (.type "set") [.ref l]) Q E s := by
  obtain ⟨c, tl, hmro⟩ := F.called_set.mro
  have hmade := F.called_set.made
  have hsub := F.called_set.sub
  refine wpAny_call (codeAny_of_tree ?_)
  show wpAny _ _ (callAny (.type "set") _) _ _ _
  refine wpAny_pure ⟨Code.quiet_builtin _ (by decide +kernel), codeAny_builtin F.entry_type_call ?_⟩
  rw [Around.under_plain (weight_type_call_type "set" [.ref l] []) rfl]
  have h1 := F.called_set.notType
  have h2 := F.called_set.canCreate
  have hct := F.typeCall_set_1 (.ref l)
  repeat (any_goals (first | assumption | wp_step))
  have hlen2 : items.size = ks.length := by rw [← Array.length_toList, hi, List.length_map]; exact hlen
  generalize hled : (!w.params.followText "set-order") = led
  refine codeAny_mono (set_new1 (.ref l) (E := E) (Q₁ := fun obj s₁ => obj = .ref s.heap.objs.size ∧ s₁ = { s with heap := s.heap.push { cls := .type "set", dict := none, data := .set #[] 0 (.fresh 0 0 led) } }) (by rw [hled]; exact ⟨rfl, rfl⟩)) fun r s₁ hr => ?_
  cases r with
  | error e => exact hr
  | ok fl =>
    cases fl with
    | ret obj =>
      obtain ⟨rfl, rfl⟩ := hr
      have hS : (s.heap.push { cls := .type "set", dict := none, data := .set #[] 0 (.fresh 0 0 led) }).get? s.heap.objs.size = some { cls := .type "set", dict := none, data := .set #[] 0 (.fresh 0 0 led) } := Heap.get?_push_size _ rfl
      have hT : Shared.TypeIs { s with heap := s.heap.push { cls := .type "set", dict := none, data := .set #[] 0 (.fresh 0 0 led) } } (.ref s.heap.objs.size) "set" := ⟨_, hS, rfl⟩
      have hli := F.called_set.init.lookup
      have hbi := F.called_set.init.bind (.ref s.heap.objs.size)
      repeat (any_goals (first | assumption | wp_step))
      refine codeAny_mono (codeAny_call_builtin (R := wants (fun r s₂ => r = .none ∧ ∃ h' tk es ep tb, s₂ = { s with heap := h', toks := tk } ∧ s.toks ≤ tk ∧ PSet prog w h' s.heap.objs.size (metP ks) es ep tb ∧
          (∀ b o, b < s.heap.objs.size → s.heap.get? b = some o → h'.get? b = some o)) E) F.called_set.init.plain F.entry_set_init (check_set_init_1 hT ?_)) fun r₂ s₂ hr₂ => ?_
      · obtain ⟨ol, hol, hcl, nl, hdl⟩ := hl
        obtain ⟨ocls, odict, odata, oslots⟩ := ol
        simp only at hcl hdl
        subst hcl; subst hdl
        have hol' : (s.heap.push { cls := .type "set", dict := none, data := .set #[] 0 (.fresh 0 0 led) }).get? l = some { cls := .type "list", dict := odict, data := .seq items nl, slots := oslots } := Heap.get?_push_of_some _ hol
        have hsls := F.sub_list_set
        have hslf := F.sub_list_frozenset
        have hne : (Value.type "list" == Value.type "dict") = false := by decide
        have hl1 : (s.heap.push { cls := .type "set", dict := none, data := .set #[] 0 (.fresh 0 0 led) }).IsList l items := ⟨_, hol', rfl, nl, rfl⟩
        unfold Builtin.«set.__init__» noKeywords Builtin.Frozenset.updateFrom
        generalize hPI : pyIter = PI
        wp_walk
        subst hPI
        refine wpAny_pyIter_list hl1 ?_
        refine wpAny_bind (wpAny_runValue ?_)
        have hlS : l < s.heap.objs.size := Heap.lt_size hol
        have hh3 : A.in1.in1.in1.handled = none := by simp [hh]
        have hneI : l ≠ (s.heap.push { cls := .type "set", dict := none, data := .set #[] 0 (.fresh 0 0 led) }).objs.size := by
          rw [Heap.size_push]; exact Nat.ne_of_lt (Nat.lt_succ_of_lt hlS)
        have hSf : s.heap.objs.size ∉ [(s.heap.push { cls := .type "set", dict := none, data := .set #[] 0 (.fresh 0 0 led) }).objs.size, l] := by
          rw [Heap.size_push]; simp only [List.mem_cons, List.mem_singleton, List.not_mem_nil, or_false, not_or]
          exact ⟨Nat.ne_of_lt (Nat.lt_succ_self _), Nat.ne_of_gt hlS⟩
        have hval : ∀ (i : Nat) (v : Value), items[i]? = some v → ∃ a, as[i]? = some a ∧ v = .ref a := fun i v hv => by
          rw [← Array.getElem?_toList, hi, List.getElem?_map] at hv
          cases q : as[i]? with
          | none => rw [q] at hv; cases hv
          | some a => rw [q] at hv; cases hv; exact ⟨a, rfl, rfl⟩
        have W := (Walks.list (prog := prog) (w := w) hh3 (s.heap.push { cls := .type "set", dict := none, data := .set #[] 0 (.fresh 0 0 led) }).objs.size l hneI items).toS
        rw [hlen2] at W
        have hlt : ∀ a ∈ as, a < s.heap.objs.size := fun a ha => by
          obtain ⟨j, hj⟩ := List.getElem?_of_mem ha
          have hjl : j < ks.length := by rw [← hlen]; exact (List.getElem?_eq_some_iff.mp hj).1
          obtain ⟨o, _, _, ho, _⟩ := hkeys j a _ hj (List.getElem?_eq_getElem hjl)
          exact Heap.lt_size ho
        have hA : A.in1.in1.in1.units < cLine := by
          show A.units + 1 + 1 + 1 < cLine
          omega
        refine update_loopP (B := s.heap.objs.size) W s.heap.objs.size hSf (Nat.le_refl _) (fun b hb => ?hwr) hval hlt hlen hb hA (ks.length - 0) 0 _ #[] 0 (.fresh 0 0 led) (by omega) (Nat.zero_le _)
          ⟨⟨_, Heap.get?_push_size _ rfl, rfl, rfl⟩, (hl1.push _)⟩ ?hS0 (fun e he => by simp at he) (fun j a k h1 h2 => ?hk0) ?hR
        case hwr =>
          have : b = (s.heap.push { cls := .type "set", dict := none, data := .set #[] 0 (.fresh 0 0 led) }).objs.size := by simpa using hb
          rw [this, Heap.size_push]
          exact Nat.le_succ _
        case hk0 =>
          obtain ⟨o, its, n, ho, r⟩ := hkeys j a k h1 h2
          exact ⟨o, its, n, Heap.get?_push_of_some _ (Heap.get?_push_of_some _ ho), r⟩
        case hS0 =>
          have hget : ((s.heap.push { cls := .type "set", dict := none, data := .set #[] 0 (.fresh 0 0 led) }).push { cls := .type "list_iterator", data := .fields #[.ref l, .int 0 0] }).get? s.heap.objs.size
              = some { cls := .type "set", dict := none, data := .set #[] 0 (.fresh 0 0 led) } := Heap.get?_push_of_some _ hS
          exact ⟨⟨⟨_, hget, ⟨rfl, rfl, rfl⟩, rfl⟩, fresh_tab led, hled.symm⟩, RI.nil, ⟨fun e he => by simp at he, fun k => by simp [metP], by simp [metP]⟩⟩
        case hR =>
          intro s' es ep tb hm hS'
          obtain ⟨h', g', d', tk', os'⟩ := s'
          have eg : g' = s.gens := hm.gens
          have ed : d' = s.drawn := hm.drawn
          have eo : os' = s.os := hm.os
          have etk : s.toks ≤ tk' := hm.toks
          subst eg; subst ed; subst eo
          show wpAny _ _ _ _ _ _
          refine wpAny_pure ?_
          show wpAny _ _ (ret Value.none) _ _ _
          refine wpAny_pure ⟨rfl, h', tk', es, ep, tb, rfl, etk, hS', fun b o hb e => ?_⟩
          have hb1 : b ≠ s.heap.objs.size := Nat.ne_of_lt hb
          have hb2 : b ≠ (s.heap.push { cls := .type "set", dict := none, data := .set #[] 0 (.fresh 0 0 led) }).objs.size := by
            rw [Heap.size_push]; exact Nat.ne_of_lt (Nat.lt_succ_of_lt hb)
          exact hm.heap b o (by simp only [List.mem_cons, List.mem_singleton, List.not_mem_nil, or_false, not_or]; exact ⟨hb1, hb2⟩) (Heap.get?_push_of_some _ (Heap.get?_push_of_some _ e))
      · cases r₂ with
        | error e => exact hr₂
        | ok fl₂ =>
          cases fl₂ with
          | ret r =>
            obtain ⟨rfl, h', tk, es, ep, tb, rfl, etk, hS', hk'⟩ := hr₂
            repeat (any_goals (first | assumption | wp_step))
            exact h _ _ _ _ _ etk hS' hk'
          | _ => exact hr₂.elim
    | _ => exact hr.elim
end
end DL
namespace DL
open PySem PySem.Spec PyProof.Rows L2 PySem.W
structure LtOk (n : Nat) (lt : Nat → Nat → Bool) : Prop where
  irr : ∀ i, lt i i = false
  tr : ∀ i j k, lt i j = true → lt j k = true → lt i k = true
  tot : ∀ i j, i < n → j < n → i ≠ j → lt i j = true ∨ lt j i = true
noncomputable def Good {α : Type} (n : Nat) (lt : Nat → Nat → Bool) (Q : α → Prop) : KasT α → Prop
  | .ret a => Q a
  | .ask i j k => i < n ∧ j < n ∧ Good n lt Q (k (lt i j))
theorem Good.mono {α : Type} {n : Nat} {lt : Nat → Nat → Bool} {Q Q' : α → Prop} (h : ∀ a, Q a → Q' a) : ∀ (t : KasT α), Good n lt Q t → Good n lt Q' t
  | .ret a, g => h a g
  | .ask i j k, g => ⟨g.1, g.2.1, Good.mono h _ g.2.2⟩
theorem Good.bind {α β : Type} {n : Nat} {lt : Nat → Nat → Bool} {Q : α → Prop} {Q' : β → Prop} {f : α → KasT β} (h : ∀ a, Q a → Good n lt Q' (f a)) : ∀ (t : KasT α), Good n lt Q t → Good n lt Q' (t.bind f)
  | .ret a, g => h a g
  | .ask i j k, g => ⟨g.1, g.2.1, Good.bind h _ g.2.2⟩
section
variable {n : Nat} {lt : Nat → Nat → Bool}
def PermOk (n : Nat) (p : Array Nat) : Prop := p.toList.Perm (List.range n)
theorem PermOk.size {p : Array Nat} (h : PermOk n p) : p.size = n := by
  have := List.Perm.length_eq h
  simpa using this
theorem PermOk.get {p : Array Nat} (h : PermOk n p) {i : Nat} (hi : i < n) : p[i]? = some (p.getD i 0) := by
  have hs := h.size
  have : i < p.size := by omega
  simp [Array.getD, this]
theorem PermOk.bd {p : Array Nat} (h : PermOk n p) {i : Nat} (hi : i < n) : p.getD i 0 < n := by
  have h1 := h.get hi
  rw [← Array.getElem?_toList] at h1
  exact List.mem_range.mp ((List.Perm.mem_iff h).mp (List.mem_of_getElem? h1))
theorem PermOk.ne {p : Array Nat} (h : PermOk n p) {i j : Nat} (hi : i < n) (hj : j < n) (hij : i ≠ j) : p.getD i 0 ≠ p.getD j 0 := by
  intro e
  have h1 := h.get hi
  have h2 := h.get hj
  rw [← Array.getElem?_toList] at h1 h2
  have hnd : p.toList.Nodup := (List.Perm.nodup_iff h).mpr List.nodup_range
  rw [← e] at h2
  have hl : i < p.toList.length := (List.getElem?_eq_some_iff.mp h1).1
  exact hij ((List.getElem?_inj hl hnd).mp (h1.trans h2.symm))
def Srt (lt : Nat → Nat → Bool) (p : Array Nat) (m : Nat) : Prop := ∀ i j, i < j → j < m → lt (p.getD i 0) (p.getD j 0) = true
def Dsc (lt : Nat → Nat → Bool) (p : Array Nat) (m : Nat) : Prop := ∀ i j, i < j → j < m → lt (p.getD j 0) (p.getD i 0) = true
theorem Srt.one (p : Array Nat) : Srt lt p 1 := fun i j h1 h2 => by omega
theorem Srt.succ (O : LtOk n lt) {p : Array Nat} {m : Nat} (h : Srt lt p m) (hm : 1 ≤ m) (hl : lt (p.getD (m - 1) 0) (p.getD m 0) = true) : Srt lt p (m + 1) := fun i j h1 h2 => by
  by_cases hj : j < m
  · exact h i j h1 hj
  · have : j = m := by omega
    subst this
    by_cases hi : i = j - 1
    · rw [hi]; exact hl
    · exact O.tr _ _ _ (h i (j - 1) (by omega) (by omega)) hl
theorem Dsc.succ (O : LtOk n lt) {p : Array Nat} {m : Nat} (h : Dsc lt p m) (hm : 1 ≤ m) (hl : lt (p.getD m 0) (p.getD (m - 1) 0) = true) : Dsc lt p (m + 1) := fun i j h1 h2 => by
  by_cases hj : j < m
  · exact h i j h1 hj
  · have : j = m := by omega
    subst this
    by_cases hi : i = j - 1
    · rw [hi]; exact hl
    · exact O.tr _ _ _ hl (h i (j - 1) (by omega) (by omega))
theorem other (O : LtOk n lt) {p : Array Nat} (hp : PermOk n p) {i j : Nat} (hi : i < n) (hj : j < n) (hij : i ≠ j) (hf : lt (p.getD i 0) (p.getD j 0) = false) : lt (p.getD j 0) (p.getD i 0) = true := by
  rcases O.tot _ _ (hp.bd hi) (hp.bd hj) (hp.ne hi hj hij) with h | h
  · rw [h] at hf; cases hf
  · exact h
theorem good_asc (O : LtOk n lt) {p : Array Nat} (hp : PermOk n p) : ∀ (f m : Nat), m + f = n → 1 ≤ m → Srt lt p m → Good n lt (fun r => m ≤ r ∧ r ≤ n ∧ Srt lt p r ∧ (r = n ∨ lt (p.getD r 0) (p.getD (r - 1) 0) = true)) (kas_asc p f m)
  | 0, m, e, hm, hs => ⟨Nat.le_refl _, by omega, hs, .inl (by omega)⟩
  | f + 1, m, e, hm, hs => by
    unfold kas_asc
    refine ⟨hp.bd (by omega), hp.bd (by omega), ?_⟩
    dsimp only
    cases hl : lt (p.getD m 0) (p.getD (m - 1) 0) with
    | true => exact ⟨Nat.le_refl _, by omega, hs, .inr hl⟩
    | false =>
      rw [if_neg Bool.false_ne_true]
      exact (good_asc O hp f (m + 1) (by omega) (by omega) (hs.succ O hm (other O hp (by omega) (by omega) (by omega) hl))).mono fun r hr => ⟨by omega, hr.2⟩
theorem good_desc (O : LtOk n lt) {p : Array Nat} (hp : PermOk n p) : ∀ (f m : Nat), m + f = n → 1 ≤ m → Dsc lt p m → Good n lt (fun r => r.1 = p ∧ r.2.2 = 0 ∧ m ≤ r.2.1 ∧ r.2.1 ≤ n ∧ Dsc lt p r.2.1) (kas_desc f p m 0)
  | 0, m, e, hm, hs => ⟨rfl, rfl, Nat.le_refl _, by show m ≤ n; omega, hs⟩
  | f + 1, m, e, hm, hs => by
    unfold kas_desc
    refine ⟨hp.bd (by omega), hp.bd (by omega), ?_⟩
    dsimp only
    cases hl : lt (p.getD m 0) (p.getD (m - 1) 0) with
    | true =>
      rw [if_pos rfl, if_neg (by omega)]
      exact (good_desc O hp f (m + 1) (by omega) (by omega) (hs.succ O hm hl)).mono fun r hr => ⟨hr.1, hr.2.1, by omega, hr.2.2.2⟩
    | false =>
      rw [if_neg Bool.false_ne_true]
      refine ⟨hp.bd (by omega), hp.bd (by omega), ?_⟩
      dsimp only
      rw [other O hp (show m < n by omega) (show m - 1 < n by omega) (by omega) hl, if_pos rfl]
      exact ⟨rfl, rfl, Nat.le_refl _, by show m ≤ n; omega, hs⟩
theorem rev_perm {p : Array Nat} (hp : PermOk n p) (i j : Nat) : PermOk n (kas_rev p i j) := (mirror_perm p i j _).toList.trans hp
theorem rev_srt {p : Array Nat} (hp : PermOk n p) {m : Nat} (hm : m ≤ n) (h : Dsc lt p m) : Srt lt (kas_rev p 0 m) m := fun i j h1 h2 => by
  have hs := hp.size
  have g : ∀ k, k < m → (kas_rev p 0 m).getD k 0 = p.getD (m - 1 - k) 0 := fun k hk => by
    have := getElem?_mirror_all (xs := p) (i := 0) (j := m) (by omega) k
    have e := (rev_perm hp 0 m).get (show k < n by omega)
    unfold kas_rev at e ⊢
    rw [this, if_pos ⟨Nat.zero_le _, hk⟩] at e
    have e2 := hp.get (show 0 + m - 1 - k < n by omega)
    rw [e2] at e
    rw [← Option.some.inj e]
    congr 1
    omega
  rw [g i (by omega), g j h2]
  exact h (m - 1 - j) (m - 1 - i) (by omega) (by omega)
theorem good_tail3 (O : LtOk n lt) {p : Array Nat} (hp : PermOk n p) {m : Nat} (h1 : 1 ≤ m) (hm : m ≤ n) (hd : Dsc lt p m) : Good n lt (fun r => 1 ≤ r.1 ∧ r.1 ≤ n ∧ PermOk n r.2 ∧ Srt lt r.2 r.1) (kas_tail3 m n p) := by
  unfold kas_tail3
  refine Good.bind (fun r hr => ?_) _ (good_asc O (rev_perm hp 0 m) (n - m) m (by omega) h1 (rev_srt hp hm hd))
  exact ⟨by show 1 ≤ r; omega, hr.2.1, rev_perm hp 0 m, hr.2.2.1⟩
theorem good_count (O : LtOk n lt) {p : Array Nat} (hp : PermOk n p) (h2 : 2 ≤ n) : Good n lt (fun r => 1 ≤ r.1 ∧ r.1 ≤ n ∧ PermOk n r.2 ∧ Srt lt r.2 r.1) (kas_count n p) := by
  unfold kas_count
  refine Good.bind (fun r hr => ?_) _ (good_asc O hp (n - 1) 1 (by omega) (Nat.le_refl _) (Srt.one p))
  obtain ⟨r1, r2, r3, r4⟩ := hr
  by_cases e : r = n
  · rw [if_pos (by simpa using e)]
    exact ⟨r1, r2, hp, r3⟩
  · rw [if_neg (by simpa using e)]
    have hl : lt (p.getD r 0) (p.getD (r - 1) 0) = true := r4.resolve_left e
    by_cases hr1 : r > 1
    · rw [if_pos hr1]
      refine ⟨hp.bd (by omega), hp.bd (by omega), ?_⟩
      dsimp only
      rw [r3 0 (r - 1) (by omega) (by omega), if_pos rfl]
      exact ⟨r1, r2, hp, r3⟩
    · rw [if_neg hr1]
      have : r = 1 := by omega
      subst this
      unfold kas_descPart
      refine Good.bind (fun q hq => ?_) _ (good_desc O hp (n - (1 + 1)) (1 + 1) (by omega) (by omega) fun i j h1 h2 => ?_)
      · obtain ⟨q1, q2, q3, q4, q5⟩ := hq
        rw [if_neg (by omega), q1]
        exact good_tail3 O hp (by omega) q4 q5
      · have : i = 0 := by omega
        have : j = 1 := by omega
        subst i; subst j
        exact hl
theorem good_place (O : LtOk n lt) {p : Array Nat} (hp : PermOk n p) {k : Nat} (hk : k < n) (hs : Srt lt p k) : ∀ (f l r : Nat), r - l ≤ f → l ≤ r → r ≤ k → (∀ i, i < l → lt (p.getD i 0) (p.getD k 0) = true) → (∀ i, r ≤ i → i < k → lt (p.getD k 0) (p.getD i 0) = true) →
    Good n lt (fun q => q ≤ k ∧ (∀ i, i < q → lt (p.getD i 0) (p.getD k 0) = true) ∧ ∀ i, q ≤ i → i < k → lt (p.getD k 0) (p.getD i 0) = true) (kas_place p k f l r)
  | 0, l, r, hf, hl, hr, h1, h2 => by
    have : l = r := by omega
    subst this
    exact ⟨hr, h1, h2⟩
  | f + 1, l, r, hf, hl, hr, h1, h2 => by
    unfold kas_place
    by_cases hge : l ≥ r
    · rw [if_pos hge]
      have : l = r := by omega
      subst this
      exact ⟨hr, h1, h2⟩
    · rw [if_neg hge]
      have hmk : (l + r) / 2 < k := by omega
      refine ⟨hp.bd hk, hp.bd (by omega), ?_⟩
      dsimp only
      cases hc : lt (p.getD k 0) (p.getD ((l + r) / 2) 0) with
      | true =>
        rw [if_pos rfl]
        refine good_place O hp hk hs f l ((l + r) / 2) (by omega) (by omega) (by omega) h1 fun i hi hik => ?_
        by_cases e : i = (l + r) / 2
        · rw [e]; exact hc
        · exact O.tr _ _ _ hc (hs _ i (by omega) hik)
      | false =>
        rw [if_neg Bool.false_ne_true]
        have hl2 := other O hp hk (show (l + r) / 2 < n by omega) (by omega) hc
        refine good_place O hp hk hs f ((l + r) / 2 + 1) r (by omega) (by omega) hr (fun i hi => ?_) h2
        by_cases e : i = (l + r) / 2
        · rw [e]; exact hl2
        · exact O.tr _ _ _ (hs i ((l + r) / 2) (by omega) hmk) hl2
theorem good_bin (O : LtOk n lt) : ∀ (f : Nat) (p : Array Nat) (k : Nat), k + f = n → PermOk n p → Srt lt p k → Good n lt (fun q => PermOk n q ∧ Srt lt q n) (kas_bin f p k)
  | 0, p, k, e, hp, hs => ⟨hp, by have : k = n := by omega
                                  subst this; exact hs⟩
  | f + 1, p, k, e, hp, hs => by
    unfold kas_bin
    have hk : k < n := by omega
    refine Good.bind (fun l hl => ?_) _ (good_place O hp hk hs k 0 k (by omega) (Nat.zero_le _) (Nat.le_refl _) (fun i hi => by omega) (fun i h1 h2 => by omega))
    obtain ⟨l1, l2, l3⟩ := hl
    have hp2 : PermOk n (bubble p k (k - l)) := (bubble_perm p k (k - l)).toList.trans hp
    refine good_bin O f (bubble p k (k - l)) (k + 1) (by omega) hp2 fun i j hij hj => ?_
    have hsz := hp.size
    have g : ∀ x, x < n → (bubble p k (k - l)).getD x 0 = if x = l then p.getD k 0 else if l < x ∧ x ≤ k then p.getD (x - 1) 0 else p.getD x 0 := fun x hx => by
      have e1 := hp2.get hx
      have e2 := getElem?_bubble (xs := p) (src := k) (by omega) (k - l) (by omega) x
      rw [e1, show k - (k - l) = l by omega] at e2
      split at e2
      · rename_i hh
        rw [if_pos hh]
        rw [hp.get hk] at e2
        exact Option.some.inj e2
      · rename_i hh
        rw [if_neg hh]
        split at e2
        · rename_i hh2
          rw [if_pos hh2]
          rw [hp.get (show x - 1 < n by omega)] at e2
          exact Option.some.inj e2
        · rename_i hh2
          rw [if_neg hh2]
          rw [hp.get hx] at e2
          exact Option.some.inj e2
    rw [g i (by omega), g j (by omega)]
    by_cases i1 : i = l
    · rw [if_pos i1]
      have hj1 : ¬ j = l := by omega
      rw [if_neg hj1, if_pos (by omega)]
      exact l3 (j - 1) (by omega) (by omega)
    · rw [if_neg i1]
      by_cases i2 : l < i ∧ i ≤ k
      · rw [if_pos i2, if_neg (by omega), if_pos (by omega)]
        exact hs (i - 1) (j - 1) (by omega) (by omega)
      · rw [if_neg i2]
        by_cases j1 : j = l
        · rw [if_pos j1]
          exact l2 i (by omega)
        · rw [if_neg j1]
          by_cases j2 : l < j ∧ j ≤ k
          · rw [if_pos j2]
            by_cases e3 : i = j - 1
            · omega
            · exact hs i (j - 1) (by omega) (by omega)
          · rw [if_neg j2]
            exact hs i j hij (by omega)
theorem good_sort (O : LtOk n lt) (h2 : 2 ≤ n) : Good n lt (fun q => PermOk n q ∧ Srt lt q n) (kas_sort n) := by
  unfold kas_sort
  refine Good.bind (fun r hr => ?_) _ (good_count O (p := List.toArray (List.range n)) (by show ((List.range n).toArray).toList.Perm _; exact List.Perm.refl _) h2)
  obtain ⟨r1, r2, r3, r4⟩ := hr
  by_cases h : r.1 < n
  · rw [if_pos h, show max r.1 1 = r.1 by omega]
    exact good_bin O (n - r.1) r.2 r.1 (by omega) r3 r4
  · rw [if_neg h]
    have : r.1 = n := by omega
    rw [this] at r4
    exact ⟨r3, r4⟩
end
theorem Good.wp {α : Type} {n : Nat} {lt : Nat → Nat → Bool} {Q : α → Prop} {R : α → Shared → Prop} {s : Shared} {cmp : Nat → Nat → (Bool → Shared → Prop) → Shared → Prop} (hc : ∀ i j C, i < n → j < n → C (lt i j) s → cmp i j C s) (hR : ∀ a, Q a → R a s) : ∀ (t : KasT α), Good n lt Q t → t.kasWp cmp R s
  | .ret a, g => hR a g
  | .ask i j k, g => hc i j _ g.1 g.2.1 (Good.wp hc hR _ g.2.2)
end DL
namespace DL
open PySem PySem.Spec PyProof.Rows L2 PySem.W
def PairAt (h : Heap) (a : Addr) (p : Int × Int) : Prop := ∃ o n t u, h.get? a = some o ∧ o.cls = .type "tuple" ∧ o.data = .seq #[.int p.1 t, .int p.2 u] n
theorem PairAt.keep {h h' : Heap} {a : Addr} {p : Int × Int} (x : PairAt h a p) (k : ∀ o, h.get? a = some o → h'.get? a = some o) : PairAt h' a p := by
  obtain ⟨o, n, t, u, q, r⟩ := x
  exact ⟨o, n, t, u, k o q, r⟩
noncomputable def pkey (p : Int × Int) : List Int := [p.1, p.2]
theorem PairAt.key {prog : Program} {w : World} {h : Heap} {a : Addr} {p : Int × Int} (x : PairAt h a p) : PKey prog w h (pkey p) a := by
  obtain ⟨o, n, t, u, q, c, d⟩ := x
  exact ⟨o, _, n, q, c, d, .cons (intKind_is _ _ _ _) (.cons (intKind_is _ _ _ _) .nil)⟩
noncomputable def pLt (p q : Int × Int) : Bool := decide (p.1 < q.1 ∨ (p.1 = q.1 ∧ p.2 < q.2))
theorem pLt_irr (p : Int × Int) : pLt p p = false := by simp [pLt]
theorem pLt_tr {p q r : Int × Int} (h1 : pLt p q = true) (h2 : pLt q r = true) : pLt p r = true := by
  simp only [pLt, decide_eq_true_eq] at *
  omega
theorem pLt_tot {p q : Int × Int} (h : p ≠ q) : pLt p q = true ∨ pLt q p = true := by
  obtain ⟨a, b⟩ := p
  obtain ⟨c, d⟩ := q
  simp only [pLt, decide_eq_true_eq]
  by_cases e : a = c
  · subst e
    have : b ≠ d := fun z => h (by rw [z])
    omega
  · omega
theorem ltOk_pairs {ps : List (Int × Int)} (hn : ps.Nodup) : LtOk ps.length (fun i j => pLt (ps.getD i (0, 0)) (ps.getD j (0, 0))) where
  irr := fun i => pLt_irr _
  tr := fun i j k h1 h2 => pLt_tr h1 h2
  tot := fun i j hi hj hij => pLt_tot fun e => by
    have e1 : ps[i]? = some (ps.getD i (0, 0)) := by simp [hi]
    have e2 : ps[j]? = some (ps.getD j (0, 0)) := by simp [hj]
    rw [← e] at e2
    exact hij ((List.getElem?_inj hi hn).mp (e1.trans e2.symm))
section
variable {prog : Program} {w : World} {A : Around} {E : Value → Shared → Prop} {s : Shared}
theorem ask_pair {a b : Addr} {p q : Int × Int} {C : Bool → Shared → Prop} (ha : PairAt s.heap a p) (hb : PairAt s.heap b q) (h : C (pLt p q) s) : wpAny (model prog w) A (keyLt' (tuples' true) (.ref a) (.ref b)) C E s := by
  obtain ⟨o1, n1, t1, u1, q1, _, d1⟩ := ha
  obtain ⟨o2, n2, t2, u2, q2, _, d2⟩ := hb
  refine kat_lt q1 d1 q2 d2 (kat_cons ((intKind prog w).eqBool (intKind_is _ _ _ _) (intKind_is _ _ _ _) (kat_go (fun e1 => kat_yes (kat_cons ((intKind prog w).eqBool (intKind_is _ _ _ _) (intKind_is _ _ _ _) (kat_go (fun e2 => kat_yes (kat_nil ?_)) fun e2 => kat_no ?_)))) fun e1 => kat_no ?_)))
  · have f1 : p.1 = q.1 := by simpa using e1
    have f2 : p.2 = q.2 := by simpa using e2
    have : pLt p q = decide ((2 : Nat) < 2) := by simp [pLt, f1, f2]
    rw [this] at h
    exact h
  · have f1 : p.1 = q.1 := by simpa using e1
    refine kat_one _ _ (lt_int ?_)
    have : pLt p q = decide (p.2 < q.2) := by simp [pLt, f1]
    rw [this] at h
    exact h
  · have f1 : ¬ p.1 = q.1 := by simpa using e1
    refine oneLt_int ?_
    have : pLt p q = decide (p.1 < q.1) := by simp [pLt, f1]
    rw [this] at h
    exact h
theorem firsts_of : ∀ {as : List Addr} {ps : List (Int × Int)} {h : Heap}, as.length = ps.length → (∀ (i : Nat) a p, as[i]? = some a → ps[i]? = some p → PairAt h a p) → ∃ fs, KatTups h (as.map Value.ref) fs ∧ fs.length = as.length ∧ ∀ v ∈ fs, ∃ i t, v = Value.int i t
  | [], [], h, _, _ => ⟨[], trivial, rfl, fun v hv => by simp at hv⟩
  | [], _ :: _, _, e, _ => by simp at e
  | _ :: _, [], _, e, _ => by simp at e
  | a :: as, p :: ps, h, e, hp => by
    obtain ⟨fs, k1, k2, k3⟩ := firsts_of (as := as) (ps := ps) (h := h) (by simpa using e) fun i a p h1 h2 => hp (i + 1) a p (by simpa using h1) (by simpa using h2)
    obtain ⟨o, n, t, u, q, c, d⟩ := hp 0 a p rfl rfl
    refine ⟨.int p.1 t :: fs, ⟨⟨a, o, _, n, rfl, q, c, d, rfl⟩, k1⟩, by simp [k2], fun v hv => ?_⟩
    rcases List.mem_cons.mp hv with rfl | hv
    · exact ⟨_, _, rfl⟩
    · exact k3 v hv
theorem zip_self (l : List Value) : (l.toArray.zip l.toArray).map (·.2) = ((List.range l.length).map fun i => l.getD i Value.none).toArray := by
  have h1 : ∀ m : List Value, (m.zip m).map Prod.snd = m := by
    intro m
    induction m with
    | nil => rfl
    | cons a m ih => simp [ih]
  have h2 : (List.range l.length).map (fun i => l.getD i Value.none) = l := by
    apply List.ext_getElem
    · simp
    · intro i h3 h4
      simp [h4]
  rw [h2]
  apply Array.toList_inj.mp
  rw [Array.toList_map, Array.toList_zip]
  exact h1 l
theorem sort_pairs {la : Addr} {as : List Addr} {ps : List (Int × Int)} {n : Nat} {P : PySem.Fin → Shared → Prop} (hob : s.heap.get? la = some (seqObj "list" (as.map Value.ref).toArray n)) (hlen : as.length = ps.length) (hps : ∀ (i : Nat) a p, as[i]? = some a → ps[i]? = some p → PairAt s.heap a p)
    (hla : ∀ a ∈ as, a ≠ la) (hn : ps.Nodup) (hz : as.length < 64)
    (h : ∀ (is : List Nat), is.Perm (List.range ps.length) → (is.map fun i => ps.getD i (0, 0)).Pairwise (fun p q => pLt p q = true) →
      P (.done (.ret .none)) { s with heap := sortedHeap s.heap la (as.map Value.ref) (is.map fun i => (as.map Value.ref).getD i Value.none).toArray }) :
    wpAny (model prog w) A (Builtin.«list.sort» ⟨[.ref la], []⟩) P E s := by
  have hsz : (as.map Value.ref).toArray.size = ps.length := by simp [hlen]
  have hlt := Heap.lt_size hob
  obtain ⟨ep, hob1⟩ : ∃ ep, (s.heap.update la (Obj.mapSeq fun _ => #[])).get? la = some (seqObj "list" #[] ep) := ⟨_, get?_update_seq hob (fun _ => #[])⟩
  have hob2 : (((s.heap.update la (Obj.mapSeq fun _ => #[])).push (seqObj "tuple" (as.map Value.ref).toArray 0)).push (seqObj "list" #[] 0)).get? la = some (seqObj "list" #[] ep) :=
    Heap.get?_push_of_some _ (Heap.get?_push_of_some _ hob1)
  rw [list_sort_plain]
  refine wpAny_bind (listItems_at hob rfl ?_)
  refine wpAny_bind (listUpdate_at hob rfl ?_ (by rw [hsz, sizeLine_eq]; omega) (Nat.zero_le _))
  refine wpAny_bind (seqEpoch_at hob1 rfl ?_)
  refine wpAny_bind (wpAny_newTuple ?_ (by show (as.map Value.ref).length ≤ _; rw [List.length_map, sizeLine_eq]; omega))
  refine wpAny_bind (wpAny_newList ?_ (Nat.zero_le _))
  refine wpAny_holding ?_
  show wpAny (model prog w) A _ P E { s with heap := ((s.heap.update la (Obj.mapSeq fun _ => #[])).push (seqObj "tuple" (as.map Value.ref).toArray 0)).push (seqObj "list" #[] 0) }
  dsimp only
  by_cases hs2 : (as.map Value.ref).toArray.size < 2
  · rw [if_pos hs2, if_pos hs2]
    refine wpAny_bind (wpAny_pure ?_)
    rw [StateT.run_pure]
    refine wpAny_bind (wpAny_pure ?_)
    dsimp only
    refine wpAny_bind (seqEpoch_at hob2 rfl ?_)
    have harr : (arrOf (SortSt.mk' general' ((as.map Value.ref).toArray.zip (as.map Value.ref).toArray) #[] 7 none)).map (·.2) = ((List.range ps.length).map fun i => (as.map Value.ref).getD i Value.none).toArray := by
      have e := zip_self (as.map Value.ref)
      rw [List.length_map, hlen] at e
      exact e
    rw [harr]
    refine wpAny_bind (listUpdate_at hob2 rfl ?_ (Nat.zero_le _) (by rw [List.size_toArray, List.length_map, List.length_range, sizeLine_eq]; omega))
    simp only [bne_self_eq_false, Bool.false_eq_true, if_false]
    refine wpAny_pure (h (List.range ps.length) (List.Perm.refl _) ?_)
    rw [hsz] at hs2
    match ps, hs2 with
    | [], _ => exact List.Pairwise.nil
    | [p], _ => exact List.pairwise_singleton _ _
  · rw [if_neg hs2, if_neg hs2]
    have h2 : 2 ≤ (as.map Value.ref).length := by rw [hsz] at hs2; rw [List.length_map]; omega
    have hold : ∀ a p, a ≠ la → PairAt s.heap a p → PairAt (((s.heap.update la (Obj.mapSeq fun _ => #[])).push (seqObj "tuple" (as.map Value.ref).toArray 0)).push (seqObj "list" #[] 0)) a p := fun a p hne x =>
      x.keep fun o ho => Heap.get?_push_of_some _ (Heap.get?_push_of_some _ (by rw [Heap.get?_update_ne _ _ _ _ hne]; exact ho))
    have hps2 : ∀ (i : Nat) a p, as[i]? = some a → ps[i]? = some p → PairAt (((s.heap.update la (Obj.mapSeq fun _ => #[])).push (seqObj "tuple" (as.map Value.ref).toArray 0)).push (seqObj "list" #[] 0)) a p := fun i a p h1 h2 => hold a p (hla a (List.mem_of_getElem? h1)) (hps i a p h1 h2)
    obtain ⟨fs, k1, k2, k3⟩ := firsts_of hlen hps2
    refine wpAny_bind (kat_kind (T := .type "int") k1 (by rw [k2]; rw [List.length_map] at h2; omega) (fun v hv => ?_) (by decide) ?_)
    · obtain ⟨i, t, rfl⟩ := k3 v hv
      exact Looks.of_pure rfl
    · have hb : (Value.type "int" != Value.type "tuple") = true := by decide
      rw [hb]
      have good := good_sort (ltOk_pairs hn) (by rw [hsz] at hs2; omega)
      refine wpAny_bind (wpAny_mono (kat_run (Q := fun st' s' => s' = { s with heap := ((s.heap.update la (Obj.mapSeq fun _ => #[])).push (seqObj "tuple" (as.map Value.ref).toArray 0)).push (seqObj "list" #[] 0) } ∧ failedOf st' = none ∧ ∃ p : Array Nat, PermOk ps.length p ∧ Srt (fun i j => pLt (ps.getD i (0, 0)) (ps.getD j (0, 0))) p ps.length ∧ (arrOf st').map (·.2) = List.toArray (p.toList.map fun i => (as.map Value.ref).getD i Value.none))
        (G := fun p s' => s' = { s with heap := ((s.heap.update la (Obj.mapSeq fun _ => #[])).push (seqObj "tuple" (as.map Value.ref).toArray 0)).push (seqObj "list" #[] 0) } ∧ PermOk ps.length p ∧ Srt (fun i j => pLt (ps.getD i (0, 0)) (ps.getD j (0, 0))) p ps.length)
        rfl h2 (by rw [List.length_map]; exact hz) (fun p st' s' a1 a2 a3 a4 => ⟨a4.1, a3, p, a4.2.1, a4.2.2, kat_snds rfl a2⟩) ?_) ?_ fun _ _ e => e)
      · rw [List.length_map, hlen]
        refine Good.wp (fun i j C hi hj hC => ?_) (fun p hp => ⟨rfl, hp.1, hp.2⟩) _ good
        have gi : as[i]? = some (as.getD i 0) := by simp [hlen, hi]
        have gj : as[j]? = some (as.getD j 0) := by simp [hlen, hj]
        have pi : ps[i]? = some (ps.getD i (0, 0)) := by simp [hi]
        have pj : ps[j]? = some (ps.getD j (0, 0)) := by simp [hj]
        have vi : (as.map Value.ref).getD i Value.none = .ref (as.getD i 0) := by simp [hlen, hi]
        have vj : (as.map Value.ref).getD j Value.none = .ref (as.getD j 0) := by simp [hlen, hj]
        unfold kas_ask
        rw [vi, vj]
        exact ask_pair (hps2 i _ _ gi pi) (hps2 j _ _ gj pj) hC
      · rintro ⟨⟨⟩, st'⟩ s' ⟨rfl, hf, p, hp1, hp2, hout⟩
        dsimp only
        refine wpAny_bind (seqEpoch_at hob2 rfl ?_)
        rw [hout]
        have hpz : p.toList.length = ps.length := by rw [Array.length_toList]; exact hp1.size
        refine wpAny_bind (listUpdate_at hob2 rfl ?_ (Nat.zero_le _) (by rw [List.size_toArray, List.length_map, hpz, sizeLine_eq]; omega))
        rw [hf]
        simp only [bne_self_eq_false, Bool.false_eq_true, if_false]
        refine wpAny_pure (h p.toList hp1 ?_)
        rw [List.pairwise_iff_getElem]
        intro i j hi hj hij
        simp only [List.getElem_map]
        have hj2 : j < ps.length := by rw [List.length_map] at hj; omega
        have e := hp2 i j hij hj2
        have hsz2 := hp1.size
        have g1 : p.getD i 0 = p.toList[i]'(by rw [List.length_map] at hi; exact hi) := by simp [Array.getD, show i < p.size by omega]
        have g2 : p.getD j 0 = p.toList[j]'(by rw [List.length_map] at hj; exact hj) := by simp [Array.getD, show j < p.size by omega]
        rw [g1, g2] at e
        exact e
end
end DL
namespace DL
open PySem PySem.Spec PyProof.Rows L2
noncomputable def LenO (a : Addr) (n : Nat) : HO := .ext fun h => ∃ o es ep t, h.get? a = some o ∧ o.ExactSet ∧ o.data = .set es ep t ∧ t.fits es.size = true ∧ es.size = n ∧ n < 1000
theorem lenO_ok {P : Program} {w : World} {H : Hp} {h : Heap} {a : Addr} {n : Nat} {es : Array (Int × Value)} {ep : Nat} {tb : SetTable} (S : SetAt w h a es ep tb) (hn : es.size = n) (hz : n < 1000) : ObjOk P w H h a (LenO a n) := by
  obtain ⟨o, ho, hx, hd⟩ := S.ex
  exact ⟨⟨o, es, ep, tb, ho, hx, hd, S.tab.fits, hn, hz⟩, ⟨o, ho⟩, fun h1 h2 ⟨o, es, ep, t, q, r⟩ hk => ⟨o, es, ep, t, hk o q, r⟩⟩
theorem isTup_pair {h : Heap} {a : Addr} {p : Int × Int} {its : List Value} (r : Vals [V.int p.1, V.int p.2] its) (t : IsTup h a its.toArray) : PairAt h a p := by
  obtain ⟨o, ho, hc, n, hd⟩ := t
  cases r with
  | cons r1 r2 =>
    cases r2 with
    | cons r3 r4 =>
      cases r4
      obtain ⟨t1, rfl⟩ := r1
      obtain ⟨t2, rfl⟩ := r3
      exact ⟨o, n, t1, t2, ho, hc, hd⟩
theorem pair_of {X : Cx} {pins : List (Addr × Obj)} {σ : St} {H : Hp} {s : Shared} {a : Addr} {p : Int × Int} (I : Inv X pins σ H s) (h : H a = some (.tup [.int p.1, .int p.2])) : PairAt s.heap a p := by
  obtain ⟨_, its, rv, t⟩ := I.hok a _ h
  exact isTup_pair rv t
theorem vals_refs : ∀ {as : List Addr} {us : List Value}, Vals (as.map V.ref) us → us = as.map Value.ref
  | [], us, r => by cases r; rfl
  | a :: as, us, r => by
    cases r with
    | cons r1 r2 =>
      rw [vals_refs r2]
      cases (show _ = Value.ref a from r1)
      rfl
def PairsH (H : Hp) (as : List Addr) (ps : List (Int × Int)) : Prop := as.length = ps.length ∧ ∀ (i : Nat) (a : Addr) (q : Int × Int), as[i]? = some a → ps[i]? = some q → H a = some (.tup [.int q.1, .int q.2])
theorem call_setP2 {X : Cx} (hc : X.calm = true) (hu : X.A.units + 20 < cLine) : CallR X (.type "set") (fun xs H Q => ∃ (p : Addr) (as : List Addr) (ps : List (Int × Int)), xs = [.ref p] ∧ H p = some (.lst (as.map V.ref)) ∧ PairsH H as ps ∧ ps.length < 18 ∧ ∀ l, H l = none → Q (.ref l) (upd H l (LenO l (metP (ps.map pkey)).length))) := by
  intro pins s σ H xs us Q I r h
  obtain ⟨p, as, ps, rfl, hp, hP, hl, q⟩ := h
  obtain ⟨u, rfl, r1⟩ := vals1 r
  cases (show u = .ref p from r1)
  obtain ⟨z, its, n, rv, hlen, e⟩ := I.lstM hp
  have hits := vals_refs rv
  subst hits
  refine call_setP (items := (as.map Value.ref).toArray) (ks := ps.map pkey) (as := as) (I.ok.hd hc) (by omega) ⟨_, e, rfl, _, rfl⟩ rfl (by rw [List.length_map]; exact hP.1) (fun j a k h1 h2 => ?_) (by rw [List.length_map]; exact hl) fun h' tk es ep tb _ S hk => ?_
  · rw [List.getElem?_map] at h2
    cases hq : ps[j]? with
    | none => rw [hq] at h2; cases h2
    | some q' => rw [hq] at h2; cases h2; exact (pair_of I (hP.2 j a q' h1 hq)).key
  · have hk' : ∀ b o, s.heap.get? b = some o → h'.get? b = some o := fun b o eb => hk b o (Heap.lt_size eb) eb
    have hsz : es.size = (metP (ps.map pkey)).length := by rw [← Array.length_toList]; exact S.es.len
    have hml := metP_le (ps.map pkey)
    rw [List.length_map] at hml
    exact ⟨.ref s.heap.objs.size, _, I.laid (t' := tk) (o := LenO s.heap.objs.size (metP (ps.map pkey)).length) hk' (Nat.le_refl _) (lenO_ok S.at_ hsz (by omega)), rfl, q _ (I.hok.fresh (Nat.le_refl _))⟩
theorem call_setI2 {X : Cx} (hc : X.calm = true) : CallR X (.type "set") (fun xs H Q => ∃ (p : Addr) (ns : List Int), xs = [.ref p] ∧ H p = some (.lst (ns.map V.int)) ∧ ns.length < 18 ∧ ∀ l, H l = none → Q (.ref l) (upd H l (LenO l (met ns).length))) := by
  intro pins s σ H xs us Q I r h
  obtain ⟨p, ns, rfl, hp, hl, q⟩ := h
  obtain ⟨u, rfl, r1⟩ := vals1 r
  cases (show u = .ref p from r1)
  obtain ⟨z, its, n, rv, hlen, e⟩ := I.lstM hp
  have hi : IntsAre its ns := intsAre_of rv
  refine call_set (items := its.toArray) (I.ok.hd hc) ⟨_, e, rfl, _, rfl⟩ (by simpa using hi) hl fun h' tk es ep tb _ S hE hk => ?_
  have hk' : ∀ b o, s.heap.get? b = some o → h'.get? b = some o := fun b o eb => hk b o (Heap.lt_size eb) eb
  have hsz : es.size = (met ns).length := by rw [← Array.length_toList]; exact hE.length
  have hml := met_le ns
  exact ⟨.ref s.heap.objs.size, _, I.laid (t' := tk) (o := LenO s.heap.objs.size (met ns).length) hk' (Nat.le_refl _) (lenO_ok S hsz (by omega)), rfl, q _ (I.hok.fresh (Nat.le_refl _))⟩
theorem call_lenO {X : Cx} : CallR X (.builtin "len") (fun xs H Q => ∃ (p : Addr) (n : Nat), xs = [.ref p] ∧ H p = some (LenO p n) ∧ Q (.int n) H) := by
  intro pins s σ H xs us Q I r h
  obtain ⟨p, n, rfl, hp, q⟩ := h
  obtain ⟨u, rfl, r1⟩ := vals1 r
  cases (show u = .ref p from r1)
  obtain ⟨⟨o, es, ep, t, ho, hx, hd, hf, hn, hz⟩, _⟩ := I.hok p _ hp
  refine call_len_set ho hx hd hf (by omega) ?_
  exact ⟨.int n, H, I.tok _, ⟨_, by rw [hn]⟩, q⟩
noncomputable def asSpot : D → Option (Int × Int)
  | .tup [.int x, .int y] => some (x, y)
  | _ => none
noncomputable def spotD (p : Int × Int) : D := .tup [.int p.1, .int p.2]
theorem asSpot_of {d : D} {p : Int × Int} (h : asSpot d = some p) : d = spotD p := by
  unfold asSpot at h
  split at h
  · cases h; rfl
  · cases h
noncomputable def asSpots : List D → Option (List (Int × Int))
  | [] => some []
  | d :: ds => match asSpot d, asSpots ds with
    | some p, some ps => some (p :: ps)
    | _, _ => none
theorem asSpots_of : ∀ {ds : List D} {ps : List (Int × Int)}, asSpots ds = some ps → ds = ps.map spotD
  | [], ps, h => by cases h; rfl
  | d :: ds, ps, h => by
    unfold asSpots at h
    split at h
    · rename_i p ps' h1 h2
      cases h
      rw [asSpot_of h1, asSpots_of h2]
      rfl
    · cases h
theorem asSpots_map : ∀ ps : List (Int × Int), asSpots (ps.map spotD) = some ps
  | [] => rfl
  | p :: ps => by simp [asSpots, asSpot, spotD, asSpots_map ps]
theorem pairs_rep {K : PySem.W.Frag} {G : Hp} : ∀ {ps : List (Int × Int)} {vs : List V}, RepL K G (ps.map spotD) vs → ∃ as : List Addr, vs = as.map V.ref ∧ PairsH G as ps
  | [], vs, h => ⟨[], h, rfl, fun i a q h1 => by simp at h1⟩
  | p :: ps, vs, h => by
    obtain ⟨v, r, rfl, h1, h2⟩ := h
    obtain ⟨as, rfl, hl, hP⟩ := pairs_rep h2
    obtain ⟨a, ws, rfl, g, hw⟩ := h1
    have : ws = [.int p.1, .int p.2] := by
      obtain ⟨v1, r1, rfl, e1, e2⟩ := hw
      obtain ⟨v2, r2, rfl, e3, e4⟩ := e2
      cases (show v1 = .int p.1 from e1)
      cases (show v2 = .int p.2 from e3)
      cases (show r2 = [] from e4)
      rfl
    subst this
    refine ⟨a :: as, rfl, by simp [hl], fun i b q h1 h2 => ?_⟩
    cases i with
    | zero => simp at h1 h2; subst h1; subst h2; exact g
    | succ i => exact hP i b q (by simpa using h1) (by simpa using h2)
theorem PairsH.mono {G H : Hp} {as : List Addr} {ps : List (Int × Int)} (h : PairsH G as ps) (s : Same G H) : PairsH H as ps := ⟨h.1, fun i a q h1 h2 => s _ _ (h.2 i a q h1 h2)⟩
@[simp] noncomputable def gLenSet : D → Out Val
  | .lst ds => match asInts ds with
    | some ns => if ns.length < 18 then .ok (.pers (.int (met ns).length)) else .bad
    | none => match asSpots ds with
      | some ps => if ps.length < 18 then .ok (.pers (.int (metP (ps.map pkey)).length)) else .bad
      | none => .bad
  | _ => .bad
theorem de_lenSet {X : Cx} {G₀ H₀ : Hp} {p p2 pos pos2 : Pos} {e : Expr} {f : FE} (hu : X.A.units + 20 < cLine) (he : DE X G₀ H₀ e f) (hm : X.mg "len" = none) (hm2 : X.mg "set" = none)
    (hc : X.calm = true := by rfl) (hg : Gl X "len" := by rfl) (hg2 : Gl X "set" := by rfl)
    (hs : starEach [.Call (.Name "set" p2) [e] [] pos2] X.env = [(false, eval (.Call (.Name "set" p2) [e] [] pos2) X.env)] := by rfl) (hs2 : starEach [e] X.env = [(false, eval e X.env)] := by rfl) :
    DE X G₀ H₀ (.Call (.Name "len" p) [.Call (.Name "set" p2) [e] [] pos2] [] pos) (f1 gLenSet f) :=
  (pe_callB call_lenO hg hm PySem.boot_len (pa_cons (pe_callTy ((call_setI2 hc).or (call_setP2 hc hu)) hg2 hm2 boot_set (pa_cons he pa_nil hs2) (by decide) (by decide) hs2 rfl) pa_nil hs) (by decide) (by decide) hs rfl).imp fun σ H Q q => by
    obtain ⟨env, G, val, I, e, k⟩ := q
    obtain ⟨x, e1, e⟩ := bind_inv e
    refine tE_one I e1 fun v G' H' g l I' o => ?_
    unfold gLenSet at e
    split at e
    · rename_i ds hd
      rw [hd] at o
      obtain ⟨a, vs, rfl, h1, r1⟩ := Opd.lst I' o
      split at e
      · rename_i ns hn
        split at e
        · rename_i hl
          cases e
          rw [asInts_of hn] at r1
          rw [r1.ints_of] at h1
          refine .inl ⟨a, ns, rfl, h1, hl, fun b hb => ?_⟩
          have g1 := Grow.laidL (o := LenO b (met ns).length) l hb
          exact ⟨b, (met ns).length, rfl, upd_same, k _ G' _ (g.trans g1.1) g1.2 rfl⟩
        · cases e
      · split at e
        · rename_i ps hps
          split at e
          · rename_i hl
            cases e
            rw [asSpots_of hps] at r1
            obtain ⟨as, rfl, hP⟩ := pairs_rep r1
            refine .inr ⟨a, as, ps, rfl, h1, hP.mono l, hl, fun b hb => ?_⟩
            have g1 := Grow.laidL (o := LenO b (metP (ps.map pkey)).length) l hb
            exact ⟨b, (metP (ps.map pkey)).length, rfl, upd_same, k _ G' _ (g.trans g1.1) g1.2 rfl⟩
          · cases e
        · cases e
    · cases e
theorem call_sortedP {X : Cx} : CallR X (.builtin "sorted") (fun xs H Q => ∃ (p : Addr) (as : List Addr) (ps : List (Int × Int)), xs = [.ref p] ∧ H p = some (.lst (as.map V.ref)) ∧ PairsH H as ps ∧ ps.Nodup ∧ ps.length < 64 ∧
    ∀ (l : Addr) (is : List Nat), H l = none → is.Perm (List.range ps.length) → (is.map fun i => ps.getD i (0, 0)).Pairwise (fun p q => pLt p q = true) → Q (.ref l) (upd H l (.lst ((is.map fun i => as.getD i 0).map V.ref)))) := by
  intro pins s σ H xs us Q I r h
  obtain ⟨p, as, ps, rfl, hp, hP, hnd, hl, q⟩ := h
  obtain ⟨u, rfl, r1⟩ := vals1 r
  cases (show u = .ref p from r1)
  obtain ⟨z, its, n, rv, hlen, e⟩ := I.lstM hp
  have hits := vals_refs rv
  subst hits
  have hal : as.length < 64 := by rw [hP.1]; exact hl
  refine Calls.call_function_entry kind_sorted plain_sorted entry_sorted (args_sorted1 _) ?_
  unfold Builtin.«sorted»
  refine wpAny_bind (m := checkCount "sorted" 1 1 _) (wpAny_pure ?_)
  refine wpAny_bind (collect_list (vs := as.map Value.ref) ⟨_, e, rfl, _, rfl⟩ ?_ (by rw [List.length_map, sizeLine_eq]; omega))
  refine wpAny_bind (wpAny_newList ?_ (by rw [List.length_map, sizeLine_eq]; omega))
  obtain ⟨h1, hh1⟩ : ∃ h1, h1 = (s.heap.push (seqObj "list" #[] 0)).update s.heap.objs.size (Obj.mapSeq (· ++ (as.map Value.ref).toArray)) := ⟨_, rfl⟩
  have k1 : ∀ b o, s.heap.get? b = some o → h1.get? b = some o := fun b o q => by
    have hlt := Heap.lt_size q
    rw [hh1, Heap.get?_update_ne _ _ _ _ (Nat.ne_of_lt hlt), Heap.get?_push_ne _ _ _ (Nat.ne_of_lt hlt)]
    exact q
  show wpAny _ _ _ _ _ { s with heap := ((s.heap.push (seqObj "list" #[] 0)).update s.heap.objs.size (Obj.mapSeq (· ++ (as.map Value.ref).toArray))).push (seqObj "list" (as.map Value.ref).toArray 0) }
  rw [← hh1]
  have hoL : (h1.push (seqObj "list" (as.map Value.ref).toArray 0)).get? h1.objs.size = some (seqObj "list" (as.map Value.ref).toArray 0) := Heap.get?_push_size _ rfl
  have k2 : ∀ b o, s.heap.get? b = some o → (h1.push (seqObj "list" (as.map Value.ref).toArray 0)).get? b = some o := fun b o q => Heap.get?_push_of_some _ (k1 b o q)
  have hps : ∀ (i : Nat) a q, as[i]? = some a → ps[i]? = some q → PairAt (h1.push (seqObj "list" (as.map Value.ref).toArray 0)) a q := fun i a q' e1 e2 => (pair_of I (hP.2 i a q' e1 e2)).keep fun o eo => k2 a o eo
  have hne : ∀ a ∈ as, a ≠ h1.objs.size := fun a ha => by
    obtain ⟨j, hj⟩ := List.getElem?_of_mem ha
    have hjl : j < ps.length := by rw [← hP.1]; exact (List.getElem?_eq_some_iff.mp hj).1
    obtain ⟨o, _, _, _, ho, _⟩ := pair_of I (hP.2 j a _ hj (List.getElem?_eq_getElem hjl))
    exact Nat.ne_of_lt (Heap.lt_size (k1 a o ho))
  refine wpAny_bind (wpAny_holding (wpAny_call_entry slot_list_sort ⟨_, hoL, rfl⟩ entry_list_sort (sort_pairs (s := { s with heap := h1.push (seqObj "list" (as.map Value.ref).toArray 0) }) hoL hP.1 hps hne hnd hal fun is p1 p2 => ⟨_, rfl, ?_⟩) (args_list_sort _)))
  obtain ⟨c, he⟩ := sortedHeap_at (out := (is.map fun i => (as.map Value.ref).getD i Value.none).toArray) hoL
  have I1 : Inv X pins σ H { s with heap := h1, toks := s.toks } := I.kept (t' := s.toks) k1
  have keep : ∀ b o, h1.get? b = some o → (sortedHeap (h1.push (seqObj "list" (as.map Value.ref).toArray 0)) h1.objs.size (as.map Value.ref) (is.map fun i => (as.map Value.ref).getD i Value.none).toArray).get? b = some o := fun b o eb => by
    have hlt := Heap.lt_size eb
    rw [sortedHeap_old (Nat.ne_of_lt hlt) (by rw [size_push']; exact Nat.lt_succ_of_lt hlt), Heap.get?_push_ne _ _ _ (Nat.ne_of_lt hlt)]
    exact eb
  have hout : is.map (fun i => (as.map Value.ref).getD i Value.none) = (is.map fun i => as.getD i 0).map Value.ref := by
    rw [List.map_map]
    refine List.map_congr_left fun i hi => ?_
    have hil : i < as.length := by rw [hP.1]; exact List.mem_range.mp (p1.mem_iff.mp hi)
    simp [hil]
  have hisl : is.length = ps.length := by rw [p1.length_eq, List.length_range]
  have vr : ∀ l : List Addr, Vals (l.map V.ref) (l.map Value.ref) := by
    intro l
    induction l with
    | nil => exact .nil
    | cons a l ih => exact .cons rfl ih
  have hz : ((is.map fun i => as.getD i 0).map V.ref).length ≤ sizeLine := by rw [List.length_map, List.length_map, hisl, sizeLine_eq]; omega
  refine wpAny_pure ⟨_, rfl, .ref h1.objs.size, _, I1.laid (t' := s.toks) (o := .lst ((is.map fun i => as.getD i 0).map V.ref)) keep (Nat.le_refl _) ⟨hz, _, c, vr _, ?_⟩, rfl, q _ is (I1.hok.fresh (Nat.le_refl _)) p1 p2⟩
  rw [← hout]
  simpa [seqObj] using he
end DL
namespace DL
open PySem PySem.Spec PyProof.Rows L2
section
variable {prog : Program} {w : World} {K : Type} [DecidableEq K] {knd : PySem.KeyKind prog w K} {A : Around} {E : Value → Shared → Prop} {s : Shared}
theorem setDefault_pairs {d : Addr} {kvs : List (K × Value)} {k : K} {key dflt : Value} {Q : Value → Shared → Prop} (hkey : knd.is k key = true) (hm : s.heap.DictOf knd d kvs) (hsz : kvs.length ≤ sizeLine)
    (h1 : ∀ v, valueAt kvs k = some v → Q v { s with toks := s.toks + 1 })
    (h2 : valueAt kvs k = none → ∀ h', h'.DictOf knd d (kvs ++ [(k, dflt)]) → Heap.SameBut d s.heap h' → Q dflt { s with heap := h', toks := s.toks + 1 }) :
    wpAny (model prog w) A (dictSetDefault d key dflt) Q E s := by
  obtain ⟨o, es, ep, hob, hc, hd, hk, hp, hn⟩ := hm
  have hes : es.size ≤ sizeLine := by
    have e1 := hp.length
    have e2 : es.toList.length = es.size := by simp
    omega
  have hfind : ∀ x, findBy knd.is es x = valueAt kvs x := fun x => by
    rw [← hp.find x]
    obtain ⟨l⟩ := es
    simp [findBy]
  unfold dictSetDefault
  try with_reducible refine wpAny_holding ?_
  refine wpAny_bind (knd.pyHash hkey ?_)
  refine wpAny_bind (wpAny_dictFind_of (s := { s with toks := s.toks + 1 }) hkey hob hd hk ?_)
  cases hi : es.findIdx? fun e => knd.is k e.key with
  | some i =>
    have hv : valueAt kvs k = (es[i]?).map (·.val) := by rw [← hfind k, findBy_of_findIdx?, hi]
    refine wpAny_bind (wpAny_dictEntries (s := { s with toks := s.toks + 1 }) hob hd ?_)
    have hlt : i < es.size := (Array.findIdx?_eq_some_iff_findIdx_eq.mp hi).1
    rw [Array.getElem?_eq_getElem hlt] at hv ⊢
    exact wpAny_bind (wpAny_rule (wpAny_pure (h1 _ hv)))
  | none =>
    have hv : valueAt kvs k = none := by rw [← hfind k, findBy_of_findIdx?, hi]
    have hidx : (es.findIdx? fun e => knd.is k e.key) = kvs.findIdx? fun kv => decide (kv.1 = k) := by
      rw [← hp.findIdx k]; obtain ⟨l⟩ := es; simp
    have hnot : k ∉ kvs.map (·.1) := not_mem_of_findIdx_none (hidx ▸ hi)
    refine wpAny_bind (wpAny_rule (wpAny_bind (wpAny_updateDictKeys (hz := hes) (s := { s with toks := s.toks + 1 }) hob hd (wpAny_pure (h2 hv _ ⟨_, _, ep + 1, Heap.get?_update_self _ hob (Obj.isFreed_of_dict (Obj.data_mapDictKeys hd _)),
      hc.mapDictKeys _, Obj.data_mapDictKeys hd _, hk.push hkey _, ?_, ?_⟩ (Heap.SameBut.update ..))))))
    · have := hp.append hkey (knd.hash k) dflt
      obtain ⟨l⟩ := es
      simpa using this
    · rw [List.map_append, List.nodup_append]
      refine ⟨hn, by simp, fun a ha b hb => ?_⟩
      simp only [List.map_cons, List.map_nil, List.mem_singleton] at hb
      subst hb
      exact fun e => hnot (e ▸ ha)
theorem meets_setDefault {d : Addr} {k : K} {key : Value} (hkey : knd.is k key = true) (hd : (d == sysModules) = false) (dflt : Value) :
    MeetsIn prog w (Builtin.«dict.setdefault» ⟨[.ref d, key, dflt], []⟩) (fun _ R s => ∃ kvs, s.heap.DictOf knd d kvs ∧ kvs.length ≤ sizeLine ∧
      (∀ v, valueAt kvs k = some v → R (.ok (.ret v)) { s with toks := s.toks + 1 }) ∧
      (valueAt kvs k = none → ∀ h', h'.DictOf knd d (kvs ++ [(k, dflt)]) → Heap.SameBut d s.heap h' → R (.ok (.ret dflt)) { s with heap := h', toks := s.toks + 1 })) :=
  .of_wp fun A R s ⟨kvs, hm, hz, h1, h2⟩ => by
    unfold Builtin.«dict.setdefault» Builtin.Dict.keyAndDefault
    refine wpAny_bind (wpAny_bind (wpAny_notOrdered_dict hm.typeIs ?_))
    show wpAny _ _ (pure (d, key, some dflt)) _ _ s
    refine wpAny_pure ?_
    show wpAny _ _ (if (d == sysModules) = true then _ else (dictSetDefault d key dflt >>= _)) _ _ s
    rw [if_neg (by rw [hd]; exact Bool.false_ne_true)]
    exact wpAny_bind (setDefault_pairs hkey hm hz (fun v hv => wpAny_pure ⟨v, rfl, h1 v hv⟩) fun hn h' hm' hs' => wpAny_pure ⟨dflt, rfl, h2 hn h' hm' hs'⟩)
end
theorem dK_of {P : Program} {w : World} {H : Hp} {h : Heap} {a : Addr} {kvs : List (Key × V)} (ok : HOk P w H h) (e : H a = some (.dK kvs)) : kvs.length ≤ sizeLine ∧ (a == sysModules) = false ∧ ∃ vs, KV kvs vs ∧ h.DictOf (mixKind P w) a vs := ok a _ e
theorem pairedApp {α β : Type} {F : α → β → Prop} : ∀ {l₁ l₃ : List α} {l₂ l₄ : List β}, Paired F l₁ l₂ → Paired F l₃ l₄ → Paired F (l₁ ++ l₃) (l₂ ++ l₄)
  | _, _, _, _, .nil, q => q
  | _, _, _, _, .cons r t, q => .cons r (pairedApp t q)
noncomputable def lkI (kvs : List (Key × V)) (k : Int) : Option V := (kvs.find? fun kv => decide (kv.1 = Sum.inl k)).map (·.2)
theorem KV.valueAt : ∀ {kvs : List (Key × V)} {vs : List (Key × Value)} (k : Int), KV kvs vs → RelO (lkI kvs k) (valueAt vs (Sum.inl k))
  | [], vs, k, r => by cases r; exact trivial
  | (k', v) :: kvs, vs, k, r => by
    cases r with
    | @cons _ q _ vs' r1 r2 =>
      obtain ⟨k2, u⟩ := q
      obtain ⟨e1, e2⟩ := r1
      cases (show k' = k2 from e1)
      have ih := KV.valueAt k r2
      unfold PySem.valueAt lkI at ih ⊢
      rw [List.find?_cons, List.find?_cons]
      by_cases hk : k' = Sum.inl k
      · simp only [decide_eq_true hk]
        exact e2
      · simp only [decide_eq_false hk]
        exact ih
def rSetDef : V → List V → Hp → VK → Prop := fun x vs H Q => ∃ (d : Addr) (k : Int) (y : V) (kvs : List (Key × V)), x = .ref d ∧ vs = [.int k, y] ∧ H d = some (.dK kvs) ∧ kvs.length < sizeLine ∧
  ((∃ v, lkI kvs k = some v ∧ Q v H) ∨ (lkI kvs k = none ∧ Q y (upd H d (.dK (kvs ++ [(Sum.inl k, y)])))))
theorem mt_setdef {X : Cx} : MtR X "dict.setdefault" rSetDef := by
  intro pins s σ H x vs v us Q I rx rv h
  obtain ⟨d, k, y, kvs, rfl, rfl, hH, hz, q⟩ := h
  cases rx
  obtain ⟨u1, u2, rfl, r1, r2⟩ := vals2 rv
  obtain ⟨t, rfl⟩ := r1
  obtain ⟨_, hsm, ws, rel, dd⟩ := dK_of I.hok hH
  have hl : ws.length = kvs.length := (Paired.length rel).symm
  have hv := KV.valueAt k rel
  refine call_meetsIn PySem.F.slot_dict_setdefault dd.typeIs PySem.F.entry_dict_setdefault (PySem.F.args_dict_setdefault_3 _ _ _) (meets_setDefault (knd := mixKind X.prog X.w) (k := Sum.inl k) (show (mixKind X.prog X.w).is (Sum.inl k) (.int k t) = true from keyIs_int k t) hsm u2) ⟨ws, dd, by omega, fun v' e' => ?_, fun e' h' dd' sb => ?_⟩
  · rw [e'] at hv
    rcases q with ⟨v2, e2, q⟩ | ⟨e2, _⟩
    · rw [e2] at hv
      exact ⟨v2, H, I.tok _, hv, q⟩
    · rw [e2] at hv; exact hv.elim
  · rw [e'] at hv
    rcases q with ⟨v2, e2, _⟩ | ⟨e2, q⟩
    · rw [e2] at hv; exact hv.elim
    · have ho : ∃ o, h'.get? d = some o := let ⟨o, _, _, e, _⟩ := dd'; ⟨o, e⟩
      refine ⟨y, _, I.write (t' := s.toks + 1) (x := d) (e := d) (o := .dK (kvs ++ [(Sum.inl k, y)])) (by rw [hH]; trivial) (.inl rfl) (fun b o hb e => (sb.2 b hb).trans e) ho ⟨?_, hsm, _, pairedApp rel (.cons ⟨rfl, r2⟩ .nil), dd'⟩, r2, q⟩
      rw [List.length_append, List.length_singleton]
      omega
end DL
namespace DL
open PySem PySem.Spec PyProof.Rows L2
theorem I_big {X : Cx} {pins : List (Addr × Obj)} {σ : St} {H : Hp} {s : Shared} (I : Inv X pins σ H s) : ∀ {a : Addr}, s.heap.objs.size ≤ a → (a == sysModules) = false := by
  intro a ha
  have h : mainGlobals < s.heap.objs.size := (I.mod.glob.keeps I.bk).lt
  exact beq_eq_false_iff_ne.mpr (Ne.symm (Nat.ne_of_lt (Nat.lt_of_lt_of_le (Nat.lt_trans (by decide) h) ha)))
def tDict0 : TE := fun _ H Q => ∀ p, H p = none → Q (.ref p) (upd H p (.dK []))
theorem pe_dict0 {X : Cx} {pos : Pos} : PE X (.Dict [] [] pos) tDict0 := fun pins s σ H Q I h =>
  wpAny_Dict_empty ⟨.ref s.heap.objs.size, _, I.laid (a := s.heap.objs.size) (o := .dK []) (t' := s.toks) (fun _ _ q => Heap.get?_push_of_some _ q) (Nat.le_refl _) ⟨Nat.zero_le _, I_big I (Nat.le_refl _), [], .nil, Heap.DictOf.new _⟩, rfl, h _ (I.hok.fresh (Nat.le_refl _))⟩
noncomputable def ItemsO (r d : Addr) : HO := .ext fun h => h.IsItemsView r d
def rItems : V → List V → Hp → VK → Prop := fun x vs H Q => ∃ (d : Addr) (kvs : List (Key × V)), x = .ref d ∧ vs = [] ∧ H d = some (.dK kvs) ∧ ∀ r, H r = none → Q (.ref r) (upd H r (ItemsO r d))
theorem mt_items {X : Cx} : MtR X "dict.items" rItems := by
  intro pins s σ H x vs v us Q I rx rv h
  obtain ⟨d, kvs, rfl, rfl, hH, q⟩ := h
  cases rx
  cases rv
  obtain ⟨_, hsm, ws, rel, dd⟩ := dK_of I.hok hH
  refine call_meetsIn PySem.F.slot_dict_items dd.typeIs PySem.F.entry_dict_items (PySem.F.args_dict_items_1 _) (meets_dict_items (mixKind X.prog X.w) d hsm) ⟨⟨ws, dd⟩, ?_⟩
  have hv : (s.heap.push { cls := .type "dict_items", data := .fields #[.ref d] }).IsItemsView s.heap.objs.size d := ⟨_, Heap.get?_push_size _ rfl, rfl, rfl⟩
  refine ⟨.ref s.heap.objs.size, _, I.laid (t' := s.toks) (o := ItemsO s.heap.objs.size d) (fun _ _ e => Heap.get?_push_of_some _ e) (Nat.le_refl _) ⟨hv, ⟨_, Heap.get?_push_size _ rfl⟩, fun h1 h2 ⟨o, e, r⟩ hk => ⟨o, hk o e, r⟩⟩, rfl, q _ (I.hok.fresh (Nat.le_refl _))⟩
theorem Inv.many {X : Cx} {pins : List (Addr × Obj)} {σ : St} {H H' : Hp} {s : Shared} {h' : Heap} {t' : Nat} (I : Inv X pins σ H s) (k : ∀ b o, s.heap.get? b = some o → h'.get? b = some o) (hs : Same H H') (hn : ∀ b, b < s.heap.objs.size → H b = none → H' b = none)
    (hok : ∀ b o, s.heap.objs.size ≤ b → H' b = some o → ObjOk X.prog X.w H' h' b o) : Inv X pins σ H' { s with heap := h', toks := t' } := by
  refine I.un ⟨fun b o e _ _ _ => k b o e, fun b o e _ _ _ => ⟨o.slots, k b o e⟩, fun b o e n _ => hn b (Heap.lt_size e) n, fun b o e _ => ⟨o, k b o e⟩, fun b xs e => hs _ _ e, fun b o u e => hs _ _ e, fun b ps e => ⟨#[], by rw [hs _ _ e]; simp⟩⟩ fun b o e => ?_
  cases q : H b with
  | some u =>
    have e2 := hs _ _ q
    rw [e2] at e
    have e3 : u = o := Option.some.inj e
    subst e3
    exact (I.hok b u q).stay (fun c v _ x => k c v x) (fun c x => hs _ _ x) fun c xs x => hs _ _ x
  | none =>
    rcases Nat.lt_or_ge b s.heap.objs.size with hlt | hge
    · rw [hn b hlt q] at e; cases e
    · exact hok b o hge e
noncomputable def layT (H : Hp) : List Addr → List (Key × V) → Hp
  | a :: as, kv :: kvs => upd (layT H as kvs) a (.tup [kV kv.1, kv.2])
  | _, _ => H
theorem layT_other {H : Hp} : ∀ {as : List Addr} {kvs : List (Key × V)} {b : Addr}, b ∉ as → layT H as kvs b = H b
  | [], _, b, _ => rfl
  | a :: as, [], b, _ => rfl
  | a :: as, kv :: kvs, b, h => by
    have h1 : b ≠ a := fun z => h (by rw [z]; exact List.mem_cons_self)
    have h2 : b ∉ as := fun z => h (List.mem_cons_of_mem _ z)
    unfold layT
    rw [upd_ne h1, layT_other h2]
theorem layT_at {H : Hp} : ∀ {as : List Addr} {kvs : List (Key × V)} {j : Nat} {a : Addr} {kv : Key × V}, as.Nodup → as[j]? = some a → kvs[j]? = some kv → layT H as kvs a = some (.tup [kV kv.1, kv.2])
  | [], _, j, a, kv, _, h, _ => by simp at h
  | a' :: as, [], j, a, kv, _, _, h => by simp at h
  | a' :: as, kv' :: kvs, 0, a, kv, hn, h1, h2 => by
    simp at h1 h2
    subst h1; subst h2
    exact upd_same
  | a' :: as, kv' :: kvs, j + 1, a, kv, hn, h1, h2 => by
    have hn' := List.nodup_cons.mp hn
    have hm : a ∈ as := List.mem_of_getElem? (by simpa using h1)
    have hne : a ≠ a' := fun z => hn'.1 (z ▸ hm)
    unfold layT
    rw [upd_ne hne]
    exact layT_at hn'.2 (by simpa using h1) (by simpa using h2)
theorem kv_get : ∀ {kvs : List (Key × V)} {ws : List (Key × Value)} {j : Nat} {k : Key} {u : Value}, KV kvs ws → ws[j]? = some (k, u) → ∃ v, kvs[j]? = some (k, v) ∧ RelV v u
  | _, _, j, k, u, .nil, h => by simp at h
  | _, _, 0, k, u, .cons (a := p) (b := q) r t, h => by
    simp at h
    subst h
    obtain ⟨k', v⟩ := p
    exact ⟨v, by simp; exact r.1, r.2⟩
  | _, _, j + 1, k, u, .cons r t, h => by
    obtain ⟨v, e, r'⟩ := kv_get (j := j) t (by simpa using h)
    exact ⟨v, by simpa using e, r'⟩
theorem call_listItems {X : Cx} (hc : X.calm = true) : CallR X (.type "list") (fun xs H Q => ∃ (r d : Addr) (kvs : List (Key × V)), xs = [.ref r] ∧ H r = some (ItemsO r d) ∧ H d = some (.dK kvs) ∧
    ∀ (l : Addr) (as : List Addr), H l = none → as.length = kvs.length → as.Nodup → (∀ a ∈ as, H a = none ∧ a ≠ l) → Q (.ref l) (upd (layT H as kvs) l (.lst (as.map V.ref)))) := by
  intro pins s σ H xs us Q I r h
  obtain ⟨rv, d, kvs, rfl, hr, hH, q⟩ := h
  obtain ⟨u, rfl, r1⟩ := vals1 r
  cases (show u = .ref rv from r1)
  obtain ⟨hz, hsm, ws, rel, dd⟩ := dK_of I.hok hH
  obtain ⟨hview, _⟩ := I.hok rv _ hr
  obtain ⟨ep, dat⟩ := dd.dictAt
  have hwl : ws.length = kvs.length := (Paired.length rel).symm
  refine PySem.W.kdx_call (knd := mixKind X.prog X.w) (I.ok.hd hc) hview dat (by omega) fun h' tk acc c as hk hS hl hG hacc => ?_
  have hnd : as.Nodup := hG.rise.imp fun h => Nat.ne_of_lt h
  have hab : ∀ a ∈ as, s.heap.objs.size < a := hG.above
  have hn : ∀ a, s.heap.objs.size ≤ a → H a = none := fun a ha => I.hok.fresh ha
  have hnl : ∀ a ∈ as, H a = none ∧ a ≠ s.heap.objs.size := fun a ha => ⟨hn a (Nat.le_of_lt (hab a ha)), Nat.ne_of_gt (hab a ha)⟩
  have fin := q s.heap.objs.size as (hn _ (Nat.le_refl _)) (by omega) hnd hnl
  have hlow : ∀ b, b < s.heap.objs.size → upd (layT H as kvs) s.heap.objs.size (.lst (as.map V.ref)) b = H b := fun b hb => by
    rw [upd_ne (Nat.ne_of_lt hb), layT_other fun hm => absurd (hab b hm) (Nat.not_lt.mpr (Nat.le_of_lt hb))]
  have vr : ∀ l : List Addr, Vals (l.map V.ref) (l.map Value.ref) := by
    intro l
    induction l with
    | nil => exact .nil
    | cons a l ih => exact .cons rfl ih
  have hsame : Same H (upd (layT H as kvs) s.heap.objs.size (.lst (as.map V.ref))) := fun b o e => by
    have hb : b < s.heap.objs.size := by
      rcases Nat.lt_or_ge b s.heap.objs.size with hlt | hge
      · exact hlt
      · rw [hn b hge] at e; cases e
    rw [hlow b hb]; exact e
  refine ⟨.ref s.heap.objs.size, _, Inv.many I hk hsame (fun b hb e => by rw [hlow b hb]; exact e) fun b o hb e => ?_, rfl, fin⟩
  by_cases hbl : b = s.heap.objs.size
  · subst hbl
    rw [upd_same] at e
    cases e
    refine ⟨by rw [List.length_map]; omega, as.map Value.ref, c, vr as, ?_⟩
    rw [← hacc]
    simpa using hS
  · rw [upd_ne hbl] at e
    by_cases hm : b ∈ as
    · obtain ⟨j, hj⟩ := List.getElem?_of_mem hm
      obtain ⟨key, k, x, hw, hkey, ht⟩ := hG.pairs j b hj
      obtain ⟨v, hv, rvx⟩ := kv_get rel hw
      rw [layT_at hnd hj hv] at e
      cases e
      refine ⟨by show 2 ≤ sizeLine; rw [sizeLine_eq]; omega, [key, x], .cons ?_ (.cons rvx .nil), ⟨_, ht, rfl, _, rfl⟩⟩
      rcases keyIs_shape (k := k) (v := key) hkey with ⟨i, t, rfl, rfl⟩ | ⟨z, t, rfl, rfl⟩
      · exact ⟨t, rfl⟩
      · exact ⟨t, rfl⟩
    · rw [layT_other hm, hn b hb] at e
      cases e
end DL
namespace DL
open PySem PySem.Spec PyProof.Rows L2
noncomputable def pins_ (p : Int × Int) : List (Int × Int) → List (Int × Int)
  | [] => [p]
  | q :: r => if pLt p q = true then p :: q :: r else q :: pins_ p r
noncomputable def psort : List (Int × Int) → List (Int × Int)
  | [] => []
  | p :: r => pins_ p (psort r)
theorem pins_perm (p : Int × Int) : ∀ l, (pins_ p l).Perm (p :: l)
  | [] => List.Perm.refl _
  | q :: r => by
    unfold pins_
    split
    · exact List.Perm.refl _
    · exact ((pins_perm p r).cons q).trans (List.Perm.swap p q r)
theorem psort_perm : ∀ l, (psort l).Perm l
  | [] => List.Perm.refl _
  | p :: r => (pins_perm p (psort r)).trans ((psort_perm r).cons p)
theorem pins_sorted {p : Int × Int} : ∀ {l : List (Int × Int)}, p ∉ l → l.Pairwise (fun p q => pLt p q = true) → (pins_ p l).Pairwise (fun p q => pLt p q = true)
  | [], _, _ => by simp [pins_]
  | q :: r, hp, h => by
    unfold pins_
    have h' := List.pairwise_cons.mp h
    have hpq : p ≠ q := fun z => hp (by rw [z]; exact List.mem_cons_self)
    split
    · rename_i hl
      refine List.pairwise_cons.mpr ⟨fun x hx => ?_, h⟩
      rcases List.mem_cons.mp hx with rfl | hx
      · exact hl
      · exact pLt_tr hl (h'.1 x hx)
    · rename_i hl
      have hl' : pLt q p = true := (pLt_tot hpq).resolve_left hl
      refine List.pairwise_cons.mpr ⟨fun x hx => ?_, pins_sorted (fun z => hp (List.mem_cons_of_mem _ z)) h'.2⟩
      rcases List.mem_cons.mp ((pins_perm p r).mem_iff.mp hx) with rfl | hx
      · exact hl'
      · exact h'.1 x hx
theorem psort_sorted : ∀ {l : List (Int × Int)}, l.Nodup → (psort l).Pairwise (fun p q => pLt p q = true)
  | [], _ => List.Pairwise.nil
  | p :: r, h => by
    have h' := List.nodup_cons.mp h
    exact pins_sorted (fun z => h'.1 ((psort_perm r).mem_iff.mp z)) (psort_sorted h'.2)
theorem psorted_unique : ∀ {a b : List (Int × Int)}, a.Perm b → a.Pairwise (fun p q => pLt p q = true) → b.Pairwise (fun p q => pLt p q = true) → a = b
  | [], b, p, _, _ => by rw [List.Perm.nil_eq p]
  | x :: a, [], p, _, _ => by have := p.length_eq; simp at this
  | x :: a, y :: b, p, ha, hb => by
    have ha' := List.pairwise_cons.mp ha
    have hb' := List.pairwise_cons.mp hb
    have e : x = y := by
      have h1 : x ∈ y :: b := p.mem_iff.mp List.mem_cons_self
      have h2 : y ∈ x :: a := p.mem_iff.mpr List.mem_cons_self
      rcases List.mem_cons.mp h1 with h1 | h1
      · exact h1
      · rcases List.mem_cons.mp h2 with h2 | h2
        · exact h2.symm
        · have q1 := ha'.1 y h2
          have q2 := hb'.1 x h1
          have := pLt_tr q1 q2
          rw [pLt_irr] at this
          cases this
    subst e
    rw [psorted_unique ((List.perm_cons x).mp p) ha'.2 hb'.2]
abbrev Grp := Int × List Int
noncomputable def addG (gs : List Grp) (p : Int × Int) : List Grp := if gs.any (fun g => decide (g.1 = p.1)) = true then gs.map (fun g => if g.1 = p.1 then (g.1, g.2 ++ [p.2]) else g) else gs ++ [(p.1, [p.2])]
noncomputable def groups (ps : List (Int × Int)) : List Grp := ps.foldl addG []
noncomputable def grpD (g : Grp) : D := .tup [.int g.1, .lst (g.2.map .int)]
abbrev GA := Int × List Int × Addr
noncomputable def addA (gs : List GA) (p : Int × Int) (a : Addr) : List GA := if gs.any (fun g => decide (g.1 = p.1)) = true then gs.map (fun g => if g.1 = p.1 then (g.1, g.2.1 ++ [p.2], g.2.2) else g) else gs ++ [(p.1, [p.2], a)]
noncomputable def offA (gs : List GA) : List Grp := gs.map fun g => (g.1, g.2.1)
theorem off_add (gs : List GA) (p : Int × Int) (a : Addr) : offA (addA gs p a) = addG (offA gs) p := by
  unfold addA addG offA
  have e : (gs.map fun g => ((g.1, g.2.1) : Grp)).any (fun g => decide (g.1 = p.1)) = gs.any (fun g => decide (g.1 = p.1)) := by rw [List.any_map]; rfl
  rw [e]
  split
  · rw [List.map_map, List.map_map]
    refine List.map_congr_left fun g _ => ?_
    simp only [Function.comp]
    split <;> rfl
  · simp
noncomputable def kvA (gs : List GA) : List (Key × V) := gs.map fun g => (Sum.inl g.1, V.ref g.2.2)
theorem lk_kvA : ∀ (gs : List GA) (x : Int), lkI (kvA gs) x = (gs.find? fun g => decide (g.1 = x)).map fun g => V.ref g.2.2
  | [], x => rfl
  | g :: gs, x => by
    have ih := lk_kvA gs x
    unfold lkI kvA at ih ⊢
    rw [List.map_cons, List.find?_cons, List.find?_cons]
    by_cases h : g.1 = x
    · have h' : (Sum.inl g.1 : Key) = Sum.inl x := by rw [h]
      simp only [decide_eq_true h, decide_eq_true h']
      rfl
    · have h' : ¬ (Sum.inl g.1 : Key) = Sum.inl x := fun z => h (Sum.inl.inj z)
      simp only [decide_eq_false h, decide_eq_false h']
      exact ih
structure DicOk (Hs H : Hp) (d l : Addr) (gs : List GA) : Prop where
  same : Same Hs H
  nd : Hs d = none
  at_ : H d = some (.dK (kvA gs))
  lists : ∀ g ∈ gs, H g.2.2 = some (.lst (g.2.1.map V.int)) ∧ Hs g.2.2 = none ∧ g.2.2 ≠ l
  apart : (gs.map (·.2.2)).Nodup
  keys : (gs.map (·.1)).Nodup
theorem DicOk.old {Hs H : Hp} {d l : Addr} {gs : List GA} {x y : Int} {g : GA} (I : DicOk Hs H d l gs) (hf : gs.find? (fun g => decide (g.1 = x)) = some g) (a : Addr) :
    DicOk Hs (upd H g.2.2 (.lst (g.2.1.map V.int ++ [.int y]))) d l (addA gs (x, y) a) := by
  have hg : g ∈ gs := List.mem_of_find?_eq_some hf
  have hx : g.1 = x := by simpa using List.find?_some hf
  obtain ⟨h1, h2, h3⟩ := I.lists g hg
  have hany : gs.any (fun g => decide (g.1 = x)) = true := List.any_eq_true.mpr ⟨g, hg, by simp [hx]⟩
  have hdne : d ≠ g.2.2 := ne_of I.at_ h1 (by intro z; cases z)
  have uniq : ∀ g' ∈ gs, g'.1 = x → g' = g := fun g' hg' e => by
    obtain ⟨i, hi⟩ := List.getElem?_of_mem hg
    obtain ⟨j, hj⟩ := List.getElem?_of_mem hg'
    have e1 : (gs.map (·.1))[i]? = some x := by rw [List.getElem?_map, hi, ← hx]; rfl
    have e2 : (gs.map (·.1))[j]? = some x := by rw [List.getElem?_map, hj, ← e]; rfl
    have hij : i = j := (List.getElem?_inj (List.getElem?_eq_some_iff.mp e1).1 I.keys).mp (e1.trans e2.symm)
    rw [hij, hj] at hi
    exact (Option.some.inj hi)
  have apart2 : ∀ g' ∈ gs, g' ≠ g → g'.2.2 ≠ g.2.2 := fun g' hg' hne e => by
    obtain ⟨i, hi⟩ := List.getElem?_of_mem hg
    obtain ⟨j, hj⟩ := List.getElem?_of_mem hg'
    have e1 : (gs.map (·.2.2))[i]? = some g.2.2 := by rw [List.getElem?_map, hi]; rfl
    have e2 : (gs.map (·.2.2))[j]? = some g.2.2 := by rw [List.getElem?_map, hj, ← e]; rfl
    have hij : i = j := (List.getElem?_inj (List.getElem?_eq_some_iff.mp e1).1 I.apart).mp (e1.trans e2.symm)
    rw [hij, hj] at hi
    exact hne (Option.some.inj hi)
  have hadd : addA gs (x, y) a = gs.map (fun g => if g.1 = x then (g.1, g.2.1 ++ [y], g.2.2) else g) := by unfold addA; rw [if_pos hany]
  have m1 : ((addA gs (x, y) a).map (·.2.2)) = gs.map (·.2.2) := by
    rw [hadd, List.map_map]
    refine List.map_congr_left fun g' _ => ?_
    simp only [Function.comp]
    split <;> rfl
  have m2 : ((addA gs (x, y) a).map (·.1)) = gs.map (·.1) := by
    rw [hadd, List.map_map]
    refine List.map_congr_left fun g' _ => ?_
    simp only [Function.comp]
    split <;> rfl
  have m3 : kvA (addA gs (x, y) a) = kvA gs := by
    unfold kvA
    rw [hadd, List.map_map]
    refine List.map_congr_left fun g' _ => ?_
    simp only [Function.comp]
    split <;> rfl
  refine ⟨fun b o e => ?_, I.nd, ?_, fun g' hg' => ?_, by rw [m1]; exact I.apart, by rw [m2]; exact I.keys⟩
  · rw [upd_ne (ne_of_none e h2)]; exact I.same b o e
  · rw [upd_ne hdne, m3]; exact I.at_
  · rw [hadd] at hg'
    obtain ⟨g2, hg2, rfl⟩ := List.mem_map.mp hg'
    by_cases e : g2.1 = x
    · have := uniq g2 hg2 e
      subst this
      rw [if_pos e]
      refine ⟨?_, h2, h3⟩
      show upd H g2.2.2 _ g2.2.2 = _
      rw [upd_same]
      simp
    · rw [if_neg e]
      obtain ⟨q1, q2, q3⟩ := I.lists g2 hg2
      refine ⟨?_, q2, q3⟩
      rw [upd_ne (apart2 g2 hg2 fun z => e (by rw [z]; exact hx))]
      exact q1
theorem DicOk.laid {Hs H : Hp} {d l p : Addr} {gs : List GA} {o : HO} (I : DicOk Hs H d l gs) (hp : H p = none) : DicOk Hs (upd H p o) d l gs where
  same := fun b u e => by rw [upd_ne (ne_of_none (I.same b u e) hp)]; exact I.same b u e
  nd := I.nd
  at_ := by rw [upd_ne (ne_of_none I.at_ hp)]; exact I.at_
  lists := fun g hg => let ⟨h1, h2, h3⟩ := I.lists g hg; ⟨by rw [upd_ne (ne_of_none h1 hp)]; exact h1, h2, h3⟩
  apart := I.apart
  keys := I.keys
theorem DicOk.new {Hs H : Hp} {d l p : Addr} {gs : List GA} {x y : Int} (I : DicOk Hs H d l gs) (hp : H p = none) (hl : H l ≠ none) (hf : gs.find? (fun g => decide (g.1 = x)) = none) :
    DicOk Hs (upd (upd (upd H p (.lst [])) d (.dK (kvA gs ++ [(Sum.inl x, .ref p)]))) p (.lst ([] ++ [.int y]))) d l (addA gs (x, y) p) := by
  have hpd : p ≠ d := fun z => by rw [z, I.at_] at hp; cases hp
  have hany : ¬ gs.any (fun g => decide (g.1 = x)) = true := fun h => by
    obtain ⟨g, hg, e⟩ := List.any_eq_true.mp h
    have := List.find?_eq_none.mp hf g hg
    exact this e
  have hadd : addA gs (x, y) p = gs ++ [(x, [y], p)] := by unfold addA; rw [if_neg hany]
  have hsp : Hs p = none := I.same.free hp
  have hpl : p ≠ l := fun z => hl (z ▸ hp)
  have hne : ∀ g ∈ gs, g.2.2 ≠ p := fun g hg => ne_of_none (I.lists g hg).1 hp
  have hned : ∀ g ∈ gs, g.2.2 ≠ d := fun g hg z => by
    have := (I.lists g hg).1
    rw [z, I.at_] at this
    cases this
  refine ⟨fun b o e => ?_, I.nd, ?_, fun g hg => ?_, ?_, ?_⟩
  · rw [upd_ne (ne_of_none e hsp), upd_ne (ne_of_none e I.nd), upd_ne (ne_of_none e hsp)]
    exact I.same b o e
  · rw [upd_ne hpd.symm, upd_same, hadd]
    unfold kvA
    simp
  · rw [hadd] at hg
    rcases List.mem_append.mp hg with hg | hg
    · obtain ⟨q1, q2, q3⟩ := I.lists g hg
      refine ⟨?_, q2, q3⟩
      rw [upd_ne (hne g hg), upd_ne (hned g hg), upd_ne (hne g hg)]
      exact q1
    · rw [List.mem_singleton] at hg
      subst hg
      exact ⟨by rw [upd_same]; rfl, hsp, hpl⟩
  · rw [hadd, List.map_append, List.nodup_append]
    refine ⟨I.apart, by simp, fun a ha b hb => ?_⟩
    obtain ⟨g, hg, rfl⟩ := List.mem_map.mp ha
    simp only [List.map_cons, List.map_nil, List.mem_singleton] at hb
    subst hb
    exact hne g hg
  · rw [hadd, List.map_append, List.nodup_append]
    refine ⟨I.keys, by simp, fun a ha b hb => ?_⟩
    obtain ⟨g, hg, rfl⟩ := List.mem_map.mp ha
    simp only [List.map_cons, List.map_nil, List.mem_singleton] at hb
    subst hb
    intro z
    exact hany (List.any_eq_true.mpr ⟨g, hg, by simpa using z⟩)
end DL
namespace DL
open PySem PySem.Spec PyProof.Rows L2
def rSortP : List V → Hp → VK → Prop := fun xs H Q => ∃ (p : Addr) (as : List Addr) (ps : List (Int × Int)), xs = [.ref p] ∧ H p = some (.lst (as.map V.ref)) ∧ PairsH H as ps ∧ ps.Nodup ∧ ps.length < 64 ∧
    ∀ (l : Addr) (is : List Nat), H l = none → is.Perm (List.range ps.length) → (is.map fun i => ps.getD i (0, 0)).Pairwise (fun p q => pLt p q = true) → Q (.ref l) (upd H l (.lst ((is.map fun i => as.getD i 0).map V.ref)))
def rLstIt : List V → Hp → VK → Prop := fun xs H Q => ∃ (r d : Addr) (kvs : List (Key × V)), xs = [.ref r] ∧ H r = some (ItemsO r d) ∧ H d = some (.dK kvs) ∧
    ∀ (l : Addr) (as : List Addr), H l = none → as.length = kvs.length → as.Nodup → (∀ a ∈ as, H a = none ∧ a ≠ l) → Q (.ref l) (upd (layT H as kvs) l (.lst (as.map V.ref)))
def tailR (K : PySem.W.Frag) : TS :=
  tSeq (tAsg tDict0 (gName 1)) (tSeq (tFor (iList K (tCB rSortP (tCons (tVar 0) tNil))) (gTup K 2 (gCons (gName 2) (gCons (gName 3) gNil))) (tDrop (tBM K "list" rAppend (tBM K "dict" rSetDef (tVar 1) (tCons (tVar 2) (tCons (tLst tNil) tNil))) (tCons (tVar 3) tNil))))
    (tRet (tCB rLstIt (tCons (tBM0 K "dict" rItems (tVar 1)) tNil))))
@[simp] noncomputable def linesS : FS := fun (env : List Slot) => match env[0]? with
  | some (Slot.pers (.lst ds)) => match asSpots ds with
    | some ps => if ps.length < 18 ∧ ps.Nodup then .ok (.ret (.fresh ((groups (psort ps)).map grpD))) else .bad
    | none => .bad
  | _ => .bad
theorem groups_snoc (ps : List (Int × Int)) (p : Int × Int) : groups (ps ++ [p]) = addG (groups ps) p := by
  unfold groups
  rw [List.foldl_append]
  rfl
theorem lines_body {K : PySem.W.Frag} {Hs H : Hp} {d l : Addr} {gs : List GA} {σ : St} {x y : Int} {D : Ends} (I : DicOk Hs H d l gs) (hl : H l ≠ none) (hld : l ≠ d) (hgl : gs.length < 1000) (hll : ∀ g ∈ gs, g.2.1.length < 1000) (s1 : σ[1]? = some (some (.ref d))) (s2 : σ[2]? = some (some (.int x))) (s3 : σ[3]? = some (some (.int y)))
    (h : ∀ H' a, DicOk Hs H' d l (addA gs (x, y) a) → H' l = H l → D.nx σ H') :
    tDrop (tBM K "list" rAppend (tBM K "dict" rSetDef (tVar 1) (tCons (tVar 2) (tCons (tLst tNil) tNil))) (tCons (tVar 3) tNil)) D σ H := by
  refine ⟨.ref d, s1, .inr (.inr (.inl ⟨rfl, .inl ⟨_, I.at_⟩⟩)), .int x, s2, ⟨Nat.zero_le _, fun p hp => ?_⟩⟩
  have hpd : d ≠ p := ne_of_none I.at_ hp
  have hlp : l ≠ p := fun z => hl (z ▸ hp)
  have hkl : (kvA gs).length < sizeLine := by unfold kvA; rw [List.length_map, sizeLine_eq]; omega
  refine ⟨d, x, .ref p, kvA gs, rfl, rfl, by rw [upd_ne hpd]; exact I.at_, hkl, ?_⟩
  cases hf : gs.find? (fun g => decide (g.1 = x)) with
  | some g =>
    have hg := List.mem_of_find?_eq_some hf
    have hL := I.lists g hg
    have hgp : g.2.2 ≠ p := ne_of_none hL.1 hp
    have hat : upd H p (.lst []) g.2.2 = some (.lst (g.2.1.map V.int)) := by rw [upd_ne hgp]; exact hL.1
    refine .inl ⟨.ref g.2.2, by rw [lk_kvA, hf]; rfl, .inl ⟨rfl, _, SqL.of hat⟩, .int y, s3, g.2.2, _, .int y, rfl, rfl, hat, by rw [List.length_map, sizeLine_eq]; have := hll g hg; omega, ?_⟩
    refine h _ p ((I.laid (o := .lst []) hp).old (y := y) hf p) ?_
    rw [upd_ne hL.2.2.symm, upd_ne hlp]
  | none =>
    have hat : upd (upd H p (.lst [])) d (.dK (kvA gs ++ [(Sum.inl x, .ref p)])) p = some (.lst []) := by rw [upd_ne hpd.symm, upd_same]
    refine .inr ⟨by rw [lk_kvA, hf]; rfl, .inl ⟨rfl, _, SqL.of hat⟩, .int y, s3, p, _, .int y, rfl, rfl, hat, by rw [sizeLine_eq]; simp, ?_⟩
    refine h _ p (I.new (y := y) hp hl hf) ?_
    rw [upd_ne hlp, upd_ne hld, upd_ne hlp]
theorem groups_le (ps : List (Int × Int)) : (groups ps).length ≤ ps.length ∧ ∀ g ∈ groups ps, g.2.length ≤ ps.length := by
  have : ∀ (l : List (Int × Int)) (gs : List Grp) (n : Nat), gs.length ≤ n → (∀ g ∈ gs, g.2.length ≤ n) → (l.foldl addG gs).length ≤ n + l.length ∧ ∀ g ∈ l.foldl addG gs, g.2.length ≤ n + l.length := by
    intro l
    induction l with
    | nil => intro gs n h1 h2; exact ⟨by simpa using h1, fun g hg => by simpa using h2 g hg⟩
    | cons p l ih =>
      intro gs n h1 h2
      have q := ih (addG gs p) (n + 1) (by
        unfold addG
        split
        · simp; omega
        · simp; omega) (fun g hg => by
        unfold addG at hg
        split at hg
        · obtain ⟨g', hg', rfl⟩ := List.mem_map.mp hg
          have := h2 g' hg'
          split
          · simp; omega
          · omega
        · rcases List.mem_append.mp hg with hg | hg
          · have := h2 g hg; omega
          · rw [List.mem_singleton] at hg; rw [hg]; simp)
      rw [List.foldl_cons, List.length_cons]
      exact ⟨by omega, fun g hg => by have := q.2 g hg; omega⟩
  have q := this ps [] 0 (Nat.le_refl _) (by simp)
  simp only [Nat.zero_add] at q
  exact q
theorem get_getD {α : Type} {l : List α} {i : Nat} {x : α} (h : i < l.length) : l[i]? = some (l.getD i x) := by simp [h]
theorem lines_tail {K : PySem.W.Frag} {G₀ H₀ : Hp} {D : Ends} {σ : St} {Hs : Hp} (q : tS K G₀ H₀ linesS D σ Hs) (hσ : σ.length = 4) : tailR K D σ Hs := by
  obtain ⟨env, G, r, I, e, k⟩ := q
  unfold linesS at e
  split at e
  rotate_left
  · cases e
  rename_i ds hd
  split at e
  rotate_left
  · cases e
  rename_i ps hps
  split at e
  rotate_left
  · cases e
  rename_i hb
  obtain ⟨hpl, hnd⟩ := hb
  cases e
  obtain ⟨v0, s0, rep⟩ := I.pers hd
  obtain ⟨pa, vs, rfl, gp, rl⟩ := rep
  rw [asSpots_of hps] at rl
  obtain ⟨as, rfl, hP⟩ := pairs_rep rl
  intro d hdn
  have hHd : upd Hs d (.dK []) pa = some (.lst (as.map V.ref)) := by
    have := I.le _ _ gp
    rw [upd_ne (ne_of_none this hdn)]
    exact this
  have hPd : PairsH (upd Hs d (.dK [])) as ps := ⟨hP.1, fun i a q h1 h2 => by
    have := I.le _ _ (hP.2 i a q h1 h2)
    rw [upd_ne (ne_of_none this hdn)]
    exact this⟩
  have hσ0 : (σ.set 1 (some (.ref d)))[0]? = some (some (.ref pa)) := by rw [List.getElem?_set_ne (by omega)]; exact s0
  have hσ1 : (σ.set 1 (some (V.ref d)))[1]? = some (some (.ref d)) := by rw [List.getElem?_set]; simp [hσ]
  refine ⟨.ref pa, hσ0, pa, as, ps, rfl, hHd, hPd, hnd, by omega, fun l is hl hperm hsort => ⟨l, rfl, ⟨_, SqL.of upd_same⟩, ?_⟩⟩
  have hord : is.map (fun i => ps.getD i (0, 0)) = psort ps := by
    refine psorted_unique (List.Perm.trans ?_ (psort_perm ps).symm) hsort (psort_sorted hnd)
    have : (List.range ps.length).map (fun i => ps.getD i (0, 0)) = ps := by
      apply List.ext_getElem
      · simp
      · intro i h3 h4
        simp [h4]
    have h2 := hperm.map (fun i => ps.getD i (0, 0))
    rw [this] at h2
    exact h2
  have hisl : is.length = ps.length := by rw [hperm.length_eq, List.length_range]
  have hld : l ≠ d := fun z => by rw [z, upd_same] at hl; cases hl
  have hsl : Hs l = none := by rw [upd_ne hld] at hl; exact hl
  have hN : (psort ps).length = ps.length := (psort_perm ps).length_eq
  have start : DicOk Hs (upd (upd Hs d (.dK [])) l (.lst ((is.map fun i => as.getD i 0).map V.ref))) d l [] := by
    refine ⟨fun b o e => ?_, hdn, ?_, fun g hg => (List.not_mem_nil hg).elim, List.nodup_nil, List.nodup_nil⟩
    · rw [upd_ne (ne_of_none e hsl), upd_ne (ne_of_none e hdn)]; exact e
    · rw [upd_ne hld.symm, upd_same]; rfl
  refine ⟨fun i m σ' H => m = ps.length - i ∧ i ≤ ps.length ∧ σ'.length = 4 ∧ σ'[1]? = some (some (.ref d)) ∧ H l = some (.lst ((is.map fun i => as.getD i 0).map V.ref)) ∧ ∃ gs, DicOk Hs H d l gs ∧ offA gs = groups ((psort ps).take i), ⟨ps.length, by simp, Nat.zero_le _, by simp [hσ], hσ1, upd_same, [], start, rfl⟩, ?_⟩
  rintro i m σ' H ⟨rfl, hi, hσl, hs1, hHl, gs, J, hoff⟩
  have hgl := groups_le ((psort ps).take i)
  have htl : ((psort ps).take i).length ≤ ps.length := by rw [List.length_take, hN]; omega
  have hgsl : gs.length ≤ ps.length := by
    have : (offA gs).length = gs.length := by unfold offA; simp
    rw [hoff] at this
    omega
  have hlsl : ∀ g ∈ gs, g.2.1.length ≤ ps.length := fun g hg => by
    have hm : ((g.1, g.2.1) : Grp) ∈ offA gs := List.mem_map.mpr ⟨g, hg, rfl⟩
    rw [hoff] at hm
    have := hgl.2 _ hm
    simp only at this
    omega
  by_cases hlt : i < ps.length
  ·
    have hii : is[i]? = some (is.getD i 0) := by simp [hisl, hlt]
    have hai : ((is.map fun i => as.getD i 0).map V.ref)[i]? = some (.ref (as.getD (is.getD i 0) 0)) := by
      rw [List.getElem?_map, List.getElem?_map, hii]; rfl
    refine .inr ⟨⟨_, _, SqL.of hHl, hai⟩, fun σ2 H2 => σ2.length = 4 ∧ σ2[1]? = some (some (.ref d)) ∧ H2 l = some (.lst ((is.map fun i => as.getD i 0).map V.ref)) ∧ ∃ gs, DicOk Hs H2 d l gs ∧ offA gs = groups ((psort ps).take (i + 1)), fun σ2 H2 ⟨a1, a2, a3, a4⟩ => ⟨ps.length - (i + 1), by omega, rfl, by omega, a1, a2, a3, a4⟩, fun x H2 y => ?_⟩
    obtain ⟨rfl, yy⟩ := y
    have hx := yy _ (SqL.of hHl)
    rw [hai] at hx
    cases hx
    have hin : is.getD i 0 < ps.length := List.mem_range.mp (hperm.mem_iff.mp (List.mem_of_getElem? hii))
    have ha : as[is.getD i 0]? = some (as.getD (is.getD i 0) 0) := get_getD (by rw [hP.1]; exact hin)
    have hp : ps[is.getD i 0]? = some (ps.getD (is.getD i 0) (0, 0)) := get_getD hin
    have hpi : (psort ps)[i]? = some (ps.getD (is.getD i 0) (0, 0)) := by rw [← hord, List.getElem?_map, hii]; rfl
    generalize hpp : ps.getD (is.getD i 0) (0, 0) = pp at hp hpi
    have htup : H2 (as.getD (is.getD i 0) 0) = some (.tup [.int pp.1, .int pp.2]) := J.same _ _ (I.le _ _ (hP.2 _ _ _ ha hp))
    refine ⟨_, _, rfl, SqT.of htup, rfl, _, _, rfl, _, _, rfl, rfl, ?_⟩
    have z1 : ((σ'.set 2 (some (V.int pp.1))).set 3 (some (V.int pp.2)))[1]? = some (some (.ref d)) := by
      rw [List.getElem?_set_ne (by omega), List.getElem?_set_ne (by omega)]; exact hs1
    have z2 : ((σ'.set 2 (some (V.int pp.1))).set 3 (some (V.int pp.2)))[2]? = some (some (.int pp.1)) := by
      rw [List.getElem?_set_ne (by omega), List.getElem?_set]; simp [hσl]
    have z3 : ((σ'.set 2 (some (V.int pp.1))).set 3 (some (V.int pp.2)))[3]? = some (some (.int pp.2)) := by
      rw [List.getElem?_set]; simp [hσl]
    refine lines_body J (by rw [hHl]; simp) hld (by omega) (fun g hg => by have := hlsl g hg; omega) z1 z2 z3 fun H' a J' hl' => ?_
    refine ⟨by simp [hσl], z1, by rw [hl']; exact hHl, _, J', ?_⟩
    have hlt2 : i < (psort ps).length := by omega
    have : (psort ps)[i] = pp := by rw [List.getElem?_eq_getElem hlt2] at hpi; exact Option.some.inj hpi
    rw [off_add, hoff, List.take_succ_eq_append_getElem hlt2, groups_snoc, this]
  ·
    have hie : i = ps.length := by omega
    subst hie
    rw [List.take_of_length_le (by omega)] at hoff
    refine .inl ⟨⟨_, SqL.of hHl, by simp [hisl]⟩, ?_⟩
    refine ⟨.ref d, hs1, .inr (.inr (.inl ⟨rfl, .inl ⟨_, J.at_⟩⟩)), d, kvA gs, rfl, rfl, J.at_, fun rv hrv => ?_⟩
    have hrd : d ≠ rv := ne_of_none J.at_ hrv
    refine ⟨rv, d, kvA gs, rfl, upd_same, by rw [upd_ne hrd]; exact J.at_, fun z bs hz hbl hbn hbf => ?_⟩
    have J2 := J.laid (o := ItemsO rv d) hrv
    obtain ⟨H2, hH2⟩ : ∃ H2, H2 = upd H rv (ItemsO rv d) := ⟨_, rfl⟩
    rw [← hH2] at J2 hz hbf ⊢
    obtain ⟨H3, hH3⟩ : ∃ H3, H3 = upd (layT H2 bs (kvA gs)) z (.lst (bs.map V.ref)) := ⟨_, rfl⟩
    rw [← hH3]
    have old : ∀ b, H2 b ≠ none → H3 b = H2 b := fun b hb => by
      have hbz : b ≠ z := fun w => hb (w ▸ hz)
      have hbb : b ∉ bs := fun w => hb (hbf b w).1
      rw [hH3, upd_ne hbz, layT_other hbb]
    have oldS : ∀ b o, Hs b = some o → H3 b = some o := fun b o e => by
      have e2 := J2.same b o e
      rw [old b (by rw [e2]; simp)]; exact e2
    let In : Addr → Prop := fun b => b ∈ gs.map (·.2.2) ∨ b ∈ bs
    have hIn : ∀ b, In b → Hs b = none := fun b hb => by
      rcases hb with hb | hb
      · obtain ⟨g, hg, rfl⟩ := List.mem_map.mp hb
        exact (J2.lists g hg).2.1
      · exact J2.same.free (hbf b hb).1
    classical
    let G' : Hp := fun b => if In b then H3 b else G b
    have gOld : ∀ b o, G b = some o → G' b = some o := fun b o e => by
      have hb : ¬ In b := fun h => by
        have := I.le _ _ e
        rw [hIn b h] at this
        cases this
      show (if In b then H3 b else G b) = some o
      rw [if_neg hb]; exact e
    have gIn : ∀ b, In b → G' b = H3 b := fun b hb => if_pos hb
    refine k (.ref z) G' H3 ⟨fun b o e => gOld b o (I.gr.g b o e), fun b o e => oldS b o (I.gr.h b o e), fun b h1 h2 => ?_⟩ (fun b o e => ?_) ⟨z, bs.map V.ref, rfl, ?_, by rw [hH3]; exact upd_same, ?_, ?_⟩
    · have hb : ¬ In b := fun h => by
        have := hIn b h
        cases q : H₀ b with
        | none => exact h1 q
        | some o => rw [I.gr.h b o q] at this; cases this
      show (if In b then H3 b else G b) = none
      rw [if_neg hb]; exact I.gr.n b h1 h2
    · by_cases hb : In b
      · rw [gIn b hb] at e; exact e
      · have e2 : G b = some o := by
          have : (if In b then H3 b else G b) = some o := e
          rwa [if_neg hb] at this
        exact oldS b o (I.le b o e2)
    · exact I.gr.h.free (J2.same.free hz)
    · have hb : ¬ In z := fun h => by
        rcases h with h | h
        · obtain ⟨g, hg, e⟩ := List.mem_map.mp h
          have := (J2.lists g hg).1
          rw [e, hz] at this
          cases this
        · exact (hbf z h).2 rfl
      show (if In z then H3 z else G z) = none
      rw [if_neg hb]
      exact I.le.free (J2.same.free hz)
    · rw [← hoff]
      have all : ∀ (gs' : List GA) (bs' : List Addr), bs'.length = gs'.length → (∀ (j : Nat) (b : Addr) (g : GA), bs'[j]? = some b → gs'[j]? = some g → ∃ a, G' b = some (.tup [.int g.1, .ref a]) ∧ G' a = some (.lst (g.2.1.map V.int))) → RepL K G' ((offA gs').map grpD) (bs'.map V.ref) := by
        intro gs'
        induction gs' with
        | nil => intro bs' hl _; rw [List.eq_nil_of_length_eq_zero hl]; rfl
        | cons g gs' ih =>
          intro bs' hl hj
          cases bs' with
          | nil => simp at hl
          | cons b bs' =>
            obtain ⟨a, h1, h2⟩ := hj 0 b g rfl rfl
            refine RepL.cons ⟨b, _, rfl, h1, RepL.cons rfl (RepL.cons ⟨a, _, rfl, h2, RepL.ints _⟩ RepL.nil)⟩ (ih bs' (by simpa using hl) fun j b g e1 e2 => hj (j + 1) b g (by simpa using e1) (by simpa using e2))
      refine all gs bs (by rw [hbl]; unfold kvA; simp) fun j b g e1 e2 => ⟨g.2.2, ?_, ?_⟩
      · have hm : b ∈ bs := List.mem_of_getElem? e1
        have hbz : b ≠ z := (hbf b hm).2
        rw [gIn b (.inr hm), hH3, upd_ne hbz]
        exact layT_at (kv := (Sum.inl g.1, V.ref g.2.2)) hbn e1 (by unfold kvA; rw [List.getElem?_map, e2]; rfl)
      · have hg := List.mem_of_getElem? e2
        have hL := (J2.lists g hg).1
        rw [gIn _ (.inl (List.mem_map.mpr ⟨g, hg, rfl⟩)), old _ (by rw [hL]; simp)]
        exact hL
end DL
namespace DL
open PySem PySem.Spec PyProof.Rows L2
theorem dss_lines {X : Cx} {G₀ H₀ : Hp} {body : List Stmt} (h : PSs X body (tailR X.K)) (hN : X.N.length = 4) : DSs X G₀ H₀ body linesS := fun pins s σ H D I q => h pins s σ H D I (lines_tail q (I.len.trans hN))
end DL
namespace DL
open PySem PySem.Spec PyProof.Rows L2
end DL
namespace DL
open PySem PySem.Spec PyProof.Rows L2
abbrev ZOut (h : Heap) (z ti to t : Addr) (f : Bool) : Prop :=
  h.get? z = some { cls := .type "zip", dict := none, data := .fields #[rawInt t, .bool f, .bool false, .ref ti, .ref to], slots := #[] }
section
variable {prog : Program} {w : World} {A : Around} {E : Value → Shared → Prop} {s : Shared}
structure ZSt (h : Heap) (z ti to i1 i2 l1 l2 S : Addr) (i : Nat) (xs ys : Array Value) : Prop where
  own : (IsZip h z ti to .none ∧ ∃ a b, IsPair h to a b) ∨ ∃ t f ot, ZOut h z ti to t f ∧ h.get? t = some ot ∧ t ≠ z ∧ t ≠ i1 ∧ t ≠ i2 ∧ t ≠ S
  its : IsPair h ti (.ref i1) (.ref i2)
  p1 : h.IsListIter i1 l1 i
  p2 : h.IsListIter i2 l2 i
  s1 : h.IsList l1 xs
  s2 : h.IsList l2 ys
theorem ZSt.keep {h h' : Heap} {z ti to i1 i2 l1 l2 S : Addr} {i : Nat} {xs ys : Array Value} (x : ZSt h z ti to i1 i2 l1 l2 S i xs ys) (k : ∀ b o, b ≠ S → h.get? b = some o → h'.get? b = some o)
    (off : ∀ b ∈ [z, ti, to, i1, i2, l1, l2], b ≠ S) : ZSt h' z ti to i1 i2 l1 l2 S i xs ys where
  own := by
    rcases x.own with ⟨a, b, c, d⟩ | ⟨t, f, ot, a, b, c1, c2, c3, c4⟩
    · exact .inl ⟨k _ _ (off z (by simp)) a, b, c, k _ _ (off to (by simp)) d⟩
    · exact .inr ⟨t, f, ot, k _ _ (off z (by simp)) a, k _ _ c4 b, c1, c2, c3, c4⟩
  its := k _ _ (off ti (by simp)) x.its
  p1 := x.p1.at fun o e => k _ _ (off i1 (by simp)) e
  p2 := x.p2.at fun o e => k _ _ (off i2 (by simp)) e
  s1 := x.s1.at fun o e => k _ _ (off l1 (by simp)) e
  s2 := x.s2.at fun o e => k _ _ (off l2 (by simp)) e
end
end DL
namespace DL
open PySem PySem.Spec PyProof.Rows L2
structure ZG (xs ys : Array Value) (lo : Addr) (h : Heap) (as : List Addr) : Prop where
  rise : as.Pairwise (· < ·)
  above : ∀ a ∈ as, lo < a
  pairs : ∀ (j : Nat) (a : Addr), as[j]? = some a → ∃ x y, xs[j]? = some x ∧ ys[j]? = some y ∧ IsPair h a x y
theorem ZG.there {xs ys : Array Value} {lo : Addr} {h : Heap} {as : List Addr} (g : ZG xs ys lo h as) {a : Addr} (ha : a ∈ as) : a < h.objs.size := by
  obtain ⟨j, hj⟩ := List.mem_iff_getElem?.mp ha
  obtain ⟨_, _, _, _, e⟩ := g.pairs j a hj
  exact Heap.lt_size e
section
variable {prog : Program} {w : World} {A : Around} {s : Shared} {R : Result → Shared → Prop} {xs ys : Array Value}
end
section
variable {prog : Program} {w : World} {A : Around} {E : Value → Shared → Prop} {s : Shared} {xs ys : Array Value}
end
end DL
namespace DL
open PySem PySem.Spec PyProof.Rows L2
end DL
namespace DL
open PySem PySem.Spec PyProof.Rows L2
end DL
namespace DL
open PySem PySem.Spec PyProof.Rows L2
theorem int_at {its : List Value} {ns : List Int} (h : IntsAre its ns) {i : Nat} {v : Value} (e : its[i]? = some v) : ∃ t, v = .int (ns.getD i 0) t := IntsAre.int_at h i v e
section
variable {prog : Program} {w : World} {A : Around} {s : Shared} {R : Result → Shared → Prop} {I l S : Addr} {its : List Value} {ns : List Int}
end
@[simp] noncomputable def stpMin (b a : Int) : Int := if a < b then a else b
section
variable {prog : Program} {w : World} {A : Around} {s : Shared} {R : Result → Shared → Prop} {I l S : Addr} {its : List Value} {ns : List Int}
theorem goMin (hh : A.handled = none) (hi : IntsAre its ns) (hlen : its.length = ns.length) (hlI : l ≠ I) (hSI : S ≠ I) (hSl : S ≠ l) (kw : List (Str × Value)) {h₁ : Heap}
    (q : ∀ h' tk' t, (∀ b o, b ≠ S → b ≠ I → h₁.get? b = some o → h'.get? b = some o) → ∀ b, (∃ k, 0 < k ∧ k ≤ ns.length ∧ b = (ns.drop k).foldl stpMin ((ns.take k).tail.foldl stpMin (ns.getD 0 0))) → R (.ok (.ret (.int b t))) { s with heap := h', toks := tk' }) :
    ∀ (r j : Nat) (h : Heap) (tk : Nat) (b : Int) (tb : Tok) (c : Nat), ns.length - j = r → 0 < j → j ≤ ns.length → h.IsListIter I l j → h.IsList l its.toArray → b = (ns.take j).tail.foldl stpMin (ns.getD 0 0) → (∀ b o, b ≠ S → b ≠ I → h₁.get? b = some o → h.get? b = some o) →
      h.get? S = some { cls := .type "list", dict := none, data := .seq #[.int b tb, .int b tb] c, slots := #[] } →
      codeAny (model prog w) A (.builtin "min.loop" ⟨[.ref I, .none, .ref S], kw⟩) R { s with heap := h, toks := tk } := by
  have nm : (toString "min" ++ toString ".loop" : String) = "min.loop" := by decide
  intro r
  induction r with
  | zero =>
    intro j h tk b tb c hr j0 hj hit hl hb keep hS
    have hin : j = ns.length := by omega
    refine codeAny_builtin PySem.F.entry_min_loop ?_
    rw [Around.under_plainId PySem.F.plain_min_loop _]
    show wpAny _ A.in1 (seqItems? (.ref S) >>= _) _ _ _
    refine wpAny_bind (wpAny_seqItems hS rfl ?_)
    show wpAny _ A.in1 (tryCatch (pyNext (.ref I)) _ >>= _) _ _ _
    refine wpAny_bind (wpAny_tryCatch (wpAny_pyNext_list_end (s := { s with heap := h, toks := tk }) (A := A.in1) hh hit hl (Array.getElem?_eq_none (by simp; omega)) fun h' he => ?_))
    have hS' := he S _ hSI hS
    show wpAny _ A.in1 (updateSeq S (fun _ => #[]) >>= _) _ _ _
    refine wpAny_bind ?_
    refine wpAny_updateSeq hS' rfl (wpAny_bind (wpAny_letGo (wpAny_pure ?_)))
    refine q _ tk tb (fun d o d1 d2 e => (Heap.get?_update_other _ _ (Ne.symm d1)).trans (he d o d2 (keep d o d1 d2 e))) b ⟨j, j0, hj, ?_⟩
    rw [hin, List.drop_length, List.foldl_nil, ← hin]
    exact hb
  | succ r ih =>
    intro j h tk b tb c hr j0 hj hit hl hb keep hS
    have hlt : j < ns.length := by omega
    have hx : its.toArray[j]? = some (its[j]'(by omega)) := by simp [show j < its.length by omega]
    obtain ⟨t, et⟩ := int_at hi (i := j) (v := its[j]'(by omega)) (List.getElem?_eq_getElem _)
    have eg : ns.getD j 0 = ns[j] := by simp [hlt]
    have step : (ns.take (j + 1)).tail.foldl stpMin (ns.getD 0 0) = stpMin b (ns.getD j 0) := by
      rw [List.take_succ_eq_append_getElem hlt, List.tail_append_of_ne_nil (by
        intro z
        rcases List.take_eq_nil_iff.mp z with z | z
        · omega
        · rw [z] at hlt; simp at hlt), List.foldl_append, ← hb, eg]
      rfl
    refine codeAny_builtin PySem.F.entry_min_loop ?_
    rw [Around.under_plainId PySem.F.plain_min_loop _]
    show wpAny _ A.in1 (seqItems? (.ref S) >>= _) _ _ _
    refine wpAny_bind (wpAny_seqItems hS rfl ?_)
    show wpAny _ A.in1 (tryCatch (pyNext (.ref I)) _ >>= _) _ _ _
    refine wpAny_bind (wpAny_tryCatch (wpAny_pyNext_list_item (s := { s with heap := h, toks := tk }) (A := A.in1) hit hl hx fun h' hit' hs' => ?_))
    rw [et]
    have hs2 : Heap.SameBut I h h' := hs'
    have hS' := hs2.extBut S _ hSI hS
    have hl' : h'.IsList l its.toArray := hl.at fun o e => hs2.extBut l o hlI e
    show wpAny _ A.in1 (tryCatch (holding [Value.int (ns.getD j 0) t, Value.int (ns.getD j 0) t] (richCompare .Lt (Value.int (ns.getD j 0) t) (.int b tb) >>= _)) _ >>= _) _ _ _
    have hcmp := CmpOf.ints_lt (prog := prog) (w := w) (A := A.in1) (P := fun i v => v = .int (if i = 1 then ns.getD j 0 else b) (if i = 1 then t else tb)) (fun i => if i = 1 then ns.getD j 0 else b) (fun i v e => ⟨_, e⟩)
    refine wpAny_bind (wpAny_tryCatch (wpAny_holding (wpAny_bind (hcmp 1 0 _ _ _ _ _ rfl rfl ?_))))
    refine wpAny_bind (wpAny_holding (wpAny_truthy_bool ?_))
    refine wpAny_bind (wpAny_letGo (wpAny_pure ?_))
    have keep' : ∀ d o, d ≠ S → d ≠ I → h₁.get? d = some o → h'.get? d = some o := fun d o d1 d2 e => hs2.extBut d o d2 (keep d o d1 d2 e)
    simp only [if_true, show ¬ (0 : Nat) = 1 from by omega, if_false]
    by_cases hgt : ns.getD j 0 < b
    · simp only [decide_eq_true hgt, if_true]
      refine wpAny_bind ?_
      refine wpAny_updateSeq hS' rfl (wpAny_bind (wpAny_letGo ?_))
      rw [nm]
      refine wpAny_pure ⟨plainId_quiet PySem.F.plain_min_loop _, ih (j + 1) _ _ (ns.getD j 0) t _ (by omega) (by omega) hlt (hit'.at fun o e => (Heap.get?_update_other _ _ hSI).trans e) (hl'.at fun o e => (Heap.get?_update_other _ _ hSl).trans e) (by rw [step]; simp only [stpMin]; rw [if_pos hgt])
        (fun d o d1 d2 e => (Heap.get?_update_other _ _ (Ne.symm d1)).trans (keep' d o d1 d2 e)) (Heap.get?_update_self _ hS' rfl)⟩
    · simp only [decide_eq_false hgt, Bool.false_eq_true, if_false]
      refine wpAny_bind (wpAny_letGo ?_)
      rw [nm]
      exact wpAny_pure ⟨plainId_quiet PySem.F.plain_min_loop _, ih (j + 1) _ _ b tb _ (by omega) (by omega) hlt hit' hl' (by rw [step]; simp only [stpMin]; rw [if_neg hgt]) keep' hS'⟩
end
noncomputable def extMin : List Int → Option Int
  | [] => none
  | n :: ns => some (ns.foldl stpMin n)
theorem pickMin {ns : List Int} {b : Int} (h : ∃ k, 0 < k ∧ k ≤ ns.length ∧ b = (ns.drop k).foldl stpMin ((ns.take k).tail.foldl stpMin (ns.getD 0 0))) : extMin ns = some b := by
  obtain ⟨k, h0, hk, rfl⟩ := h
  cases ns with
  | nil => simp at hk; omega
  | cons n r =>
    obtain ⟨m, rfl⟩ : ∃ m, k = m + 1 := ⟨k - 1, by omega⟩
    simp only [extMin, List.drop_succ_cons, List.take_succ_cons, List.tail_cons, List.getD_cons_zero]
    rw [← List.foldl_append, List.take_append_drop]
end DL
namespace DL
open PySem PySem.Spec PyProof.Rows L2
end DL
namespace DL
open PySem PySem.Spec PyProof.Rows L2
section
variable {X : Cx} {G₀ H₀ : Hp} {elt iter tg : Expr} {ifs : List Expr} {scope : Scope} {pos : Pos} {fi : FI} {g : D → Ev → Out Ev} {ft : FT} {fe : FE} {cap : List Nat} {own : List Str}
end
end DL
namespace DL
open PySem PySem.Spec PyProof.Rows L2
section
variable {prog : Program} {w : World} {A : Around} {E : Value → Shared → Prop} {s : Shared}
end
end DL
namespace DL
open PySem PySem.Spec PyProof.Rows L2
theorem argsMin1 (x : Value) : argsOk "min" ⟨[x], []⟩ := by unfold argsOk; kernel_rfl
theorem call_Min1 {X : Cx} (hc : X.calm = true) : CallR X (.builtin "min") (fun xs H Q => ∃ (a : Addr) (n0 : Int) (nr : List Int), xs = [.ref a] ∧ H a = some (.lst ((n0 :: nr).map V.int)) ∧ Q (.int (nr.foldl stpMin n0)) H) := by
  intro pins s1 σ H1 xs us Q I1 r1 h
  obtain ⟨a, n0, nr, rfl, hH, q⟩ := h
  obtain ⟨u, rfl, r2⟩ := vals1 r1
  cases (show u = .ref a from r2)
  show wpAny _ _ (call (.builtin "min") [.ref a] []) _ _ _
  obtain ⟨z, its, n, rv, hlen, e⟩ := I1.lstM hH
  have hi : IntsAre its (n0 :: nr) := intsAre_of rv
  have hil : its.length = (n0 :: nr).length := by rw [← hlen, List.length_map]
  have hl : s1.heap.IsList a its.toArray := ⟨_, e, rfl, _, rfl⟩
  have hal := Heap.lt_size e
  have nm : (toString "min" ++ toString ".loop" : String) = "min.loop" := by decide
  refine PyProof.Rows.kmb_tree PySem.F.kind_min PySem.F.plain_min PySem.F.entry_min (argsMin1 _) ?_
  show wpAny _ X.A.in1 (Builtin.Builtins.bindParams "min" ["key", "default"] 0 ⟨[], []⟩ >>= _) _ _ s1
  refine wpAny_bind (wpAny_of_eq (show Builtin.Builtins.bindParams "min" ["key", "default"] 0 ⟨[], []⟩ = pure [none, none] from rfl) ?_)
  refine wpAny_bind (wpAny_pure ?_)
  refine wpAny_bind (wpAny_pyIter_list hl ?_)
  refine wpAny_bind (wpAny_newObj_type ?_)
  rw [nm]
  have hI2 : ((s1.heap.push { cls := .type "list_iterator", data := .fields #[.ref a, .int 0 0] }).push { cls := .type "list", data := .seq ([] : List Value).toArray }).IsListIter s1.heap.objs.size a 0 := ⟨_, Heap.get?_push_of_some _ (Heap.get?_push_size _ rfl), rfl, rfl⟩
  have hz : (s1.heap.push { cls := .type "list_iterator", data := .fields #[.ref a, .int 0 0] }).objs.size = s1.heap.objs.size + 1 := Heap.size_push ..
  have hS2 : ((s1.heap.push { cls := .type "list_iterator", data := .fields #[.ref a, .int 0 0] }).push { cls := .type "list", data := .seq ([] : List Value).toArray }).get? (s1.heap.push { cls := .type "list_iterator", data := .fields #[.ref a, .int 0 0] }).objs.size = some { cls := .type "list", data := .seq #[] } := Heap.get?_push_size _ rfl
  rw [hz] at hS2
  have hl2 : ((s1.heap.push { cls := .type "list_iterator", data := .fields #[.ref a, .int 0 0] }).push { cls := .type "list", data := .seq ([] : List Value).toArray }).IsList a its.toArray := (hl.push _).push _
  have hk2 : ∀ b o, s1.heap.get? b = some o → ((s1.heap.push { cls := .type "list_iterator", data := .fields #[.ref a, .int 0 0] }).push { cls := .type "list", data := .seq ([] : List Value).toArray }).get? b = some o := fun b o e => Heap.get?_push_of_some _ (Heap.get?_push_of_some _ e)
  rw [hz]
  generalize ((s1.heap.push { cls := .type "list_iterator", data := .fields #[.ref a, .int 0 0] }).push { cls := .type "list", data := .seq ([] : List Value).toArray }) = h2 at hI2 hS2 hl2 hk2 ⊢
  have nSI : s1.heap.objs.size + 1 ≠ s1.heap.objs.size := Nat.succ_ne_self _
  have nlI : a ≠ s1.heap.objs.size := Nat.ne_of_lt hal
  have nSl : s1.heap.objs.size + 1 ≠ a := Nat.ne_of_gt (Nat.lt_succ_of_lt hal)
  have old : ∀ b o, s1.heap.get? b = some o → b ≠ s1.heap.objs.size + 1 ∧ b ≠ s1.heap.objs.size := fun b o e => ⟨Nat.ne_of_lt (Nat.lt_succ_of_lt (Heap.lt_size e)), Nat.ne_of_lt (Heap.lt_size e)⟩
  refine wpAny_pure ⟨plainId_quiet PySem.F.plain_min_loop _, ?_⟩
  show codeAny _ _ (.builtin "min.loop" ⟨[.ref s1.heap.objs.size, .none, .ref (s1.heap.objs.size + 1)], []⟩) _ _
  refine codeAny_builtin PySem.F.entry_min_loop ?_
  rw [Around.under_plainId PySem.F.plain_min_loop _]
  show wpAny _ X.A.in1 (seqItems? (.ref (s1.heap.objs.size + 1)) >>= _) _ _ _
  refine wpAny_bind (wpAny_seqItems hS2 rfl ?_)
  show wpAny _ X.A.in1 (tryCatch (pyNext (.ref s1.heap.objs.size)) _ >>= _) _ _ _
  have hx : its.toArray[0]? = some (its[0]'(by rw [hil]; simp)) := by simp [hil]
  obtain ⟨t, et⟩ := int_at hi (i := 0) (v := its[0]'(by rw [hil]; simp)) (List.getElem?_eq_getElem _)
  refine wpAny_bind (wpAny_tryCatch (wpAny_pyNext_list_item (s := { s1 with heap := h2 }) (A := X.A.in1) hI2 hl2 hx fun h' hit' hs' => ?_))
  rw [et]
  have hs2 : Heap.SameBut s1.heap.objs.size h2 h' := hs'
  have hS3 := hs2.extBut _ _ nSI hS2
  show wpAny _ X.A.in1 (updateSeq (s1.heap.objs.size + 1) (fun _ => #[_, _]) >>= _) _ _ _
  refine wpAny_bind ?_
  refine wpAny_updateSeq hS3 rfl ?_
  rw [nm]
  refine wpAny_pure ⟨plainId_quiet PySem.F.plain_min_loop _, goMin (s := s1) (h₁ := s1.heap) (A := X.A) (I1.ok.hd hc) hi hil nlI nSI nSl _ (fun h'' tk'' t'' k b hb => ?_) nr.length 1 _ _ n0 t _ (by simp) (by omega) (by simp) (hit'.at fun o e => (Heap.get?_update_other _ _ nSI).trans e)
    ((hl2.at fun o e => hs2.extBut a o nlI e).at fun o e => (Heap.get?_update_other _ _ nSl).trans e) (by simp) (fun b o d1 d2 e => (Heap.get?_update_other _ _ (Ne.symm d1)).trans (hs2.extBut b o d2 (hk2 b o e))) (Heap.get?_update_self _ hS3 rfl)⟩
  have hp := pickMin hb
  have hp2 : nr.foldl stpMin n0 = b := Option.some.inj hp
  rw [hp2] at q
  exact ⟨.int b, H1, I1.kept (t' := tk'') (fun b o e => k b o (old b o e).1 (old b o e).2 e), ⟨t'', rfl⟩, q⟩
@[simp] noncomputable def gMin1 : List D → Out Val
  | [.lst ds] => match asInts ds with
    | some (n :: ns) => .ok (.pers (.int (ns.foldl stpMin n)))
    | _ => .bad
  | _ => .bad
theorem cd_Min1 {K : PySem.W.Frag} : CallD K (fun xs H Q => ∃ (a : Addr) (n0 : Int) (nr : List Int), xs = [.ref a] ∧ H a = some (.lst ((n0 :: nr).map V.int)) ∧ Q (.int (nr.foldl stpMin n0)) H) gMin1 := by
  intro G₀ H₀ env σ G H vs xs val Q I a e k
  unfold gMin1 at e
  split at e
  · rename_i ds hx
    split at e
    · rename_i n ns hn
      cases e
      obtain ⟨v, rfl, o⟩ := args1 a hx
      obtain ⟨p, us, rfl, h1, r1⟩ := Opd.lst I o
      rw [asInts_of hn] at r1
      rw [r1.ints_of] at h1
      exact ⟨p, n, ns, rfl, h1, k _ G H (Grow.refl _ _) I.le rfl⟩
    · cases e
  · cases e
end DL
namespace DL
open PySem PySem.Spec PyProof.Rows L2
def GoodG (gs : List Grp) : Prop := gs.length < 1000 ∧ ∀ g ∈ gs, g.2 ≠ [] ∧ g.2.length < 1000
open Classical in
noncomputable def nestS (m : List D → Out Val) (ft : FT) (f6 : FS) : FS := fun env => match env with
  | [.pers a, .pers b, .pers (.lst ds), _] => match asSpots ds with
    | some _ => match m [.lst ds] with
      | .ok (.fresh es) => if ∃ gs : List Grp, es = gs.map grpD ∧ GoodG gs then
          match ft [.pers a, .pers b, .pers (.lst ds), .pers (.lst es)] with
          | .ok true => .ok (.ret (.pers (.bl false)))
          | .ok false => f6 [.pers a, .pers b, .pers (.lst ds), .un]
          | _ => .bad
        else .bad
      | _ => .bad
    | none => .bad
  | _ => .bad
end DL
namespace DL
open PySem PySem.Spec PyProof.Rows L2
theorem obj_there {P : Program} {w : World} {H : Hp} {h : Heap} {a : Addr} {u : HO} (x : ObjOk P w H h a u) : ∃ o, h.get? a = some o := by
  cases u with
  | lst xs => obtain ⟨_, _, _, _, e⟩ := x; exact ⟨_, e⟩
  | tup xs => obtain ⟨_, _, _, o, e, _⟩ := x; exact ⟨o, e⟩
  | dK kvs => obtain ⟨_, _, _, _, o, _, _, e, _⟩ := x; exact ⟨o, e⟩
  | dT kvs => obtain ⟨_, _, _, _, o, _, _, e, _⟩ := x; exact ⟨o, e⟩
  | set S n => obtain ⟨o, _, _, _, e, _⟩ := x; exact ⟨o, e⟩
  | ins C dx fs => obtain ⟨_, _, _, e, _⟩ := x; exact ⟨_, e⟩
  | own y => exact x
  | xd fs => obtain ⟨_, ⟨o, _, _, e, _⟩, _⟩ := x; exact ⟨o, e⟩
  | rng lo hi => obtain ⟨_, _, _, e⟩ := x; exact ⟨_, e⟩
  | frz ob u => obtain ⟨e, _⟩ := x; exact ⟨_, e⟩
  | tbl ps => exact ⟨_, x⟩
  | met f y => exact ⟨_, x⟩
  | ext φ => exact x.2.1
structure Fly (P : Program) (w : World) (outer : List Env) (H H' : Hp) (s s' : Shared) (e : Addr) (cls : Value) : Prop where
  os : s'.os = s.os
  bare : AllBare s'.gens
  same : Same H H'
  un : Un (frs outer) [] H H' s.heap s'.heap
  hok : HOk P w H' s'.heap
  fly : ∃ (B : Heap) (a0 : Value), Heap.FlyingW B outer e cls a0 s'.heap ∧ (∀ b o, s.heap.get? b = some o → H b = none → b ∉ frs outer → B.get? b = some o) ∧ (∀ b u o, H' b = some u → s'.heap.get? b = some o → B.get? b = some o)
noncomputable def CXd (P : Program) (w : World) : CXT := fun outer H s E e s' => ∃ ea cls H', e = .ref ea ∧ Fly P w outer H H' s s' ea cls ∧ E cls none H'
section
variable {X : Cx} {pins : List (Addr × Obj)} {σ : St} {H H1 : Hp} {s s1 : Shared} {B h' : Heap} {e : Addr} {cls a0 : Value}
theorem fly_step (I : Inv X pins σ H s) (hex : X.ex = []) (h0 : Same X.H₀ H) (sm : Same H H1) (k1 : ∀ b o, s.heap.get? b = some o → H b = none → b ∉ frs X.stack → B.get? b = some o) (k2 : ∀ b u o, H1 b = some u → s1.heap.get? b = some o → B.get? b = some o)
    (un1 : Un (frs X.stack) [] H H1 s.heap s1.heap) (hok1 : HOk X.prog X.w H1 s1.heap) (st : B.StaysIn h') (up : s1.heap.UpToSlots h') (hos : s1.os = s.os) (hb : AllBare s1.gens) (fl : Heap.FlyingW B X.outer e cls a0 h') :
    Fly X.prog X.w X.outer X.H₀ H1 X.s₀ { s1 with heap := h' } e cls := by
  have nx : ∀ b : Addr, b ∉ X.ex := fun b => by rw [hex]; simp
  have neL : ∀ b o, X.s₀.heap.get? b = some o → b ≠ X.env.locals := fun b o e => Nat.ne_of_lt (Nat.lt_of_lt_of_le (Heap.lt_size e) I.ok.above)
  have K1 : ∀ b o, X.s₀.heap.get? b = some o → X.H₀ b = none → b ∉ frs X.outer → B.get? b = some o := fun b o e n hb =>
    k1 b o (I.base.keep b o e n hb (nx b)) (I.base.free b o e n (nx b)) fun z => (List.mem_cons.mp (I.stkSub b z)).elim (neL b o e) hb
  have T : ∀ b u, H1 b = some u → ∀ o, s1.heap.get? b = some o → h'.get? b = some o := fun b u e o q => st b o (k2 b u o e q)
  have thr : ∀ b u, H1 b = some u → ∃ o, h'.get? b = some o := fun b u e => by
    obtain ⟨o, q⟩ := obj_there (hok1 b u e)
    exact ⟨o, T b u e o q⟩
  have slot : ∀ b o, X.s₀.heap.get? b = some o → X.H₀ b = none → b ∈ frs X.outer → ∃ sl, h'.get? b = some { o with slots := sl } := fun b o e n hb => by
    obtain ⟨sl, e1⟩ := I.base.slot b o e n hb (nx b)
    have hbs : b ∈ frs X.stack := by
      rcases I.ok.stk with z | ⟨z, hf⟩
      · rw [z]; exact hb
      · rw [z]
        unfold frs
        rw [List.filterMap_cons, hf]
        exact List.mem_cons_of_mem _ hb
    obtain ⟨sl2, e2⟩ := un1.slot b _ e1 (I.base.free b o e n (nx b)) hbs (by simp)
    obtain ⟨_, o', ho', hd⟩ := I.funs.mem hb
    rw [e1] at ho'
    cases ho'
    obtain ⟨sl3, e3⟩ := up b _ e2 hd
    exact ⟨sl3, e3⟩
  refine ⟨hos.trans I.os, hb, h0.trans sm, ⟨fun b o e n hb _ => st b o (K1 b o e n hb), fun b o e n hb _ => slot b o e n hb, fun b o e n _ => ?_, fun b o e _ => ?_, fun b xs q => sm _ _ (h0 _ _ q), fun b o u q => sm _ _ (h0 _ _ q), fun b ps q => ⟨#[], by rw [sm _ _ (h0 _ _ q)]; simp⟩⟩, fun b u q => ?_, B, a0, fl, K1, fun b u o q1 q2 => ?_⟩
  · obtain ⟨o', e1⟩ := I.base.there b o e (nx b)
    exact un1.free b o' e1 (I.base.free b o e n (nx b)) (by simp)
  · cases q : X.H₀ b with
    | none =>
      by_cases hb : b ∈ frs X.outer
      · obtain ⟨sl, z⟩ := slot b o e q hb
        exact ⟨_, z⟩
      · exact ⟨o, st b o (K1 b o e q hb)⟩
    | some u => exact thr b u (sm _ _ (h0 _ _ q))
  · refine (hok1 b u q).stay (fun c v hc z => ?_) (fun _ z => z) fun _ _ z => z
    rcases hc with rfl | hc
    · exact T _ u q v z
    · exact T _ _ hc v z
  · obtain ⟨o', z⟩ := obj_there (hok1 b u q1)
    have z2 := k2 b u o' q1 z
    have z3 := st b o' z2
    rw [show h'.get? b = some o from q2] at z3
    cases z3
    exact z2
theorem fly_made {M : Model} {Q : Unit → Shared → Prop} {E : Value → Shared → Prop} {h1 : Heap} {vs : List Value} (I : Inv X pins σ H s) (hst : X.stack = X.env :: X.outer) (hf : X.env.frame = some X.env.locals) (hex : X.ex = []) (h0 : Same X.H₀ H) (hx : Heap.MadeExcOf s.heap h1 e cls vs)
    (hQ : ∀ s'', Fly X.prog X.w X.outer X.H₀ H X.s₀ s'' e cls → Q () s'') : wpAny M X.A (leaving X.env (.ref e)) Q E { s with heap := h1 } := by
  have hin : ∀ env ∈ X.stack, ∀ b, env.frame = some b → b ∈ frs X.stack := fun env he b hb => List.mem_filterMap.mpr ⟨env, he, hb⟩
  have hfr : X.A.frames = some (X.env :: X.outer) := by rw [I.ok.frames, hst]
  have hl : s.heap.FunFrames (PySem.W.hideAll s.heap (frs X.stack)) (X.env :: X.outer) := by
    rw [← hst]
    exact PySem.W.funFrames_hide I.stack hin
  refine wpAny_leaves_madeW (s := { s with heap := h1 }) hfr hf (fun b o q => PySem.W.of_hideAll _ q) hl hx fun h' t fl _ _ up => hQ _ ?_
  have nfr : ∀ b u, H b = some u → b ∉ frs X.stack := fun b u q z => by rw [I.stkFree b z] at q; cases q
  exact fly_step (s1 := { s with heap := h1 }) I hex h0 (Same.refl _) (fun b o q n z => PySem.W.hideAll_get _ q z) (fun b u o q1 q2 => by
    obtain ⟨o', z⟩ := obj_there (I.hok b u q1)
    have := hx.keeps b o' z
    rw [show h1.get? b = some o from q2] at this
    cases this
    exact PySem.W.hideAll_get _ z (nfr b u q1)) (Un.kept hx.keeps) (I.hok.kept hx.keeps) fl.1 up rfl I.bare fl
theorem fly_pass {M : Model} {Q : Unit → Shared → Prop} {E : Value → Shared → Prop} (I : Inv X pins σ H s) (hst : X.stack = X.env :: X.outer) (hf : X.env.frame = some X.env.locals) (hex : X.ex = []) (h0 : Same X.H₀ H) (F : Fly X.prog X.w X.stack H H1 s s1 e cls)
    (hQ : ∀ s'', Fly X.prog X.w X.outer X.H₀ H1 X.s₀ s'' e cls → Q () s'') : wpAny M X.A (leaving X.env (.ref e)) Q E s1 := by
  obtain ⟨B, a0, fl, k1, k2⟩ := F.fly
  have hfr : X.A.frames = some (X.env :: X.outer) := by rw [I.ok.frames, hst]
  rw [hst] at fl
  exact wpAny_leaves_onW hfr hf fl fun h' fl' up => hQ _ (fly_step I hex h0 F.same k1 k2 F.un F.hok fl'.1 up F.os F.bare fl')
end
end DL
namespace DL
open PySem PySem.Spec PyProof.Rows L2
abbrev SS := Ev → St → Hp → Hp → Prop
def Wish (mk : Bool) (X : Cx) (pins : List (Addr × Obj)) (S : SS) (c : Str) : Prop :=
  (mk = true → ∀ (σ : St) (H G : Hp) (env : Ev) (s : Shared) (e : Addr) (h1 : Heap) (vs : List Value) (C : Addr), Inv X pins σ H s → S env σ G H → X.mg c = some (.ref C) → Heap.MadeExcOf s.heap h1 e (.ref C) vs → X.xe (.ref e) { s with heap := h1 }) ∧
  (∀ (σ : St) (H G H1 G1 : Hp) (env : Ev) (s s1 : Shared) (e C : Addr), Inv X pins σ H s → S env σ G H → X.mg c = some (.ref C) → Fly X.prog X.w X.stack H H1 s s1 e (.ref C) → Grow G H G1 H1 → Same G1 H1 → X.xe (.ref e) s1)
abbrev RR := Ev → Str → Prop
section
variable (mk : Bool) (X : Cx) (G₀ H₀ : Hp)
def RW (α : Type) (m : Sem α) (R : RR) : Prop := ∀ (pins : List (Addr × Obj)) (s : Shared) (σ : St) (H : Hp) (env : Ev) (G : Hp) (c : Str) (Q : α → Shared → Prop) (S : SS), Inv X pins σ H s → DI X.K G₀ H₀ env σ G H → R env c → (∀ G' H', Grow G H G' H' → Same G' H' → S env σ G' H') → Wish mk X pins S c → wpAny (model X.prog X.w) X.A m Q X.xe s
def RS (st : Stmt) (R : RR) : Prop := RW mk X G₀ H₀ Flow (exec st X.env) R
def RSs (st : List Stmt) (R : RR) : Prop := RW mk X G₀ H₀ Flow (execs st X.env) R
def RE (e : Expr) (R : RR) : Prop := RW mk X G₀ H₀ Value (eval e X.env) R
def RA (es : List Expr) (R : RR) : Prop := ∀ pos : Pos, RW mk X G₀ H₀ (List Value) (spliced (backTo pos (starEach es X.env))) R
end
def RG (X : Cx) (G₀ H₀ : Hp) (st : List Stmt) (R : RR) : Prop := ∀ (pins : List (Addr × Obj)) (s : Shared) (σ : St) (H : Hp) (env : Ev) (G : Hp) (c : Str) (Q : Flow → Shared → Prop), Inv X pins σ H s → DI X.K G₀ H₀ env σ G H → R env c → Wish true X pins (fun env σ G H => DI X.K G₀ H₀ env σ G H) c → wpAny (model X.prog X.w) X.A (execs st X.env) Q X.xe s
section
variable {mk : Bool} {X : Cx} {G₀ H₀ : Hp} {pos : Pos} {R : RR}
theorem rss_head {st : Stmt} {rest : List Stmt} (h : RS mk X G₀ H₀ st R) : RSs mk X G₀ H₀ (st :: rest) R := fun pins s σ H env G c Q S I d r k W => wpAny_execs_cons (h pins s σ H env G c _ S I d r k W)
theorem rg_head {st : Stmt} {rest : List Stmt} (h : RS true X G₀ H₀ st R) : RG X G₀ H₀ (st :: rest) R := fun pins s σ H env G c Q I d r W => wpAny_execs_cons (h pins s σ H env G c _ _ I d r (fun G' H' g l => d.grow g l) W)
theorem rg_tail {st : Stmt} {rest : List Stmt} {f : FS} (h1 : DS X G₀ H₀ st f) (h2 : RG X G₀ H₀ rest R) : RG X G₀ H₀ (st :: rest) (fun env c => ∃ env', f env = .ok (.next env') ∧ R env' c) := by
  intro pins s σ H env G c Q I d ⟨env', e, r⟩ W
  refine wpAny_execs_cons (thn (h1 pins s σ H { nx := fun σ' H' => ∃ G', DI X.K G₀ H₀ env' σ' G' H', rt := fun _ _ => False } I ⟨env, G, .next env', d, e, fun σ' G' H' _ d' => ⟨G', d'⟩⟩) fun f s1 q => ?_)
  cases f with
  | next =>
    obtain ⟨σ', H', I', G', d'⟩ := q
    exact h2 pins s1 σ' H' env' G' c Q I' d' r W
  | ret v => obtain ⟨_, _, _, _, _, z⟩ := q; exact z.elim
  | brk => obtain ⟨_, _, _, z⟩ := q; exact z.elim
  | cont => obtain ⟨_, _, _, z⟩ := q; exact z.elim
theorem rg_or {st : List Stmt} {R1 R2 : RR} (h1 : RG X G₀ H₀ st R1) (h2 : RG X G₀ H₀ st R2) : RG X G₀ H₀ st (fun env c => R1 env c ∨ R2 env c) := fun pins s σ H env G c Q I d r W => r.elim (fun r => h1 pins s σ H env G c Q I d r W) (fun r => h2 pins s σ H env G c Q I d r W)
theorem rg_imp {st : List Stmt} {R1 R2 : RR} (h1 : RG X G₀ H₀ st R1) (h : ∀ env c, R2 env c → R1 env c) : RG X G₀ H₀ st R2 := fun pins s σ H env G c Q I d r W => h1 pins s σ H env G c Q I d (h env c r) W
theorem rs_if {c : Expr} {a b : List Stmt} {ft : FT} (hc : DT X G₀ H₀ c ft) (ha : RSs mk X G₀ H₀ a R) : RS mk X G₀ H₀ (.If c a b pos) (fun env c => ft env = .ok true ∧ R env c) := by
  intro pins s σ H env G cc Q S I d ⟨e, r⟩ k W
  refine wpAny_If (thn (hc pins s σ H (fun b H' => b = true ∧ ∃ G', Grow G H G' H' ∧ Same G' H') I ⟨env, G, true, d, e, fun G' H' g l => ⟨rfl, G', g, l⟩⟩) fun d' s1 ⟨H1, I1, q1, G1, g1, l1⟩ => ?_)
  subst q1
  exact ha pins s1 σ H1 env G1 cc Q S I1 (d.grow g1 l1) r (fun G' H' g l => k G' H' (g1.trans g) l) W
theorem ra_first {e : Expr} {es : List Expr} (h : RE mk X G₀ H₀ e R) (hs : starEach (e :: es) X.env = (false, eval e X.env) :: starEach es X.env := by rfl) : RA mk X G₀ H₀ (e :: es) R := by
  intro pos pins s σ H env G c Q S I d r k W
  rw [hs]
  exact Calls.spliced_cons (h pins s σ H env G c _ S I d r k W)
def spR (K : PySem.W.Frag) (mg : Str → Option Value) (R : List D → Str → Prop) (n : Nat) : Sp := fun vs H _ E => ∃ G ds c, ds.length = n ∧ Same G H ∧ RepL K G ds vs ∧ R ds c ∧
  ∀ C G' H', Grow G H G' H' → Same G' H' → mg c = some (.ref C) → E (.ref C) none H'
structure CalR (P : Program) (w : World) (K : PySem.W.Frag) (mg : Str → Option Value) (base : Heap) (k : Nat) (x : Str) (ps : List Str) (R : List D → Str → Prop) : Prop where
  ex : ∃ (f : Addr) (fd : FuncData), FnOk P w K mg base (CXd P w) k f fd ps (spR K mg R ps.length) ∧ mg x = some (.ref f) ∧ PySem.W.keepIn K (.ref f) = true ∧ Binds K fd ps []
theorem CalR.mono {P : Program} {w : World} {K : PySem.W.Frag} {mg : Str → Option Value} {base : Heap} {j k : Nat} {x : Str} {ps : List Str} {R : List D → Str → Prop} (c : CalR P w K mg base j x ps R) (h : j ≤ k) : CalR P w K mg base k x ps R := by
  obtain ⟨f, fd, F, r⟩ := c.ex
  exact ⟨f, fd, F.mono h, r⟩
theorem re_call {k : Nat} {x : Str} {ps : List Str} {p : Pos} {e : Expr} {es : List Expr} {r : Ev → Out (List Val)} {R : List D → Str → Prop} (C : CalR X.prog X.w X.K X.mg X.base k x ps R) (hr : Room k X.A) (ha : DA X G₀ H₀ (e :: es) r)
    (hlen : ∀ env xs, r env = .ok xs → xs.length = ps.length) (hg : Gl X x := by rfl) (hdb : (x == ("__debug__" : Str)) = false := by decide) (he : starEach (e :: es) X.env = (false, eval e X.env) :: starEach es X.env := by rfl) (hpl : (backTo pos (starEach es X.env)).any (·.1) = false := by rfl) :
    RE mk X G₀ H₀ (.Call (.Name x p) (e :: es) [] pos) (fun env c => ∃ xs, r env = .ok xs ∧ xs.all Val.isPers = true ∧ R (xs.map Val.d) c) := by
  obtain ⟨f, fd, F, hm, hk, hb⟩ := C.ex
  intro pins s σ H env G c Q S I d ⟨xs, e1, hp, hR⟩ kS W
  refine wpAny_Call_Name_kw (ld_glob I hg hm ?_ hdb)
  refine PySem.W.callWith_K (h₀ := X.base) I.ok.mod.kin hk (thn (ha pos pins s σ H (fun vs H1 => ∃ G1, Grow G H G1 H1 ∧ Same G1 H1 ∧ ArgsOk X.K env σ G1 vs xs) I ⟨env, G, xs, d, e1, fun vs G' H' g l a => ⟨G', g, l, a⟩⟩) fun us s1 ⟨vs, H1, I1, rr, G1, g1, l1, a1⟩ => ⟨I1.kIn, ?_⟩) he hpl
  have d1 := d.grow g1 l1
  have rep := argsRep a1 hp
  have hlx : (xs.map Val.d).length = ps.length := by rw [List.length_map]; exact hlen env xs e1
  have hl : (us ++ []).length = ps.length := by rw [List.append_nil, ← rr.length, ← rep.length]; exact hlx
  have hbs := hb s1 us I1.kIn hl
  rw [List.append_nil] at hbs
  have sp : spR X.K X.mg R ps.length vs H1 (fun _ _ => False) (fun cls _ H2 => ∃ C G2, cls = .ref C ∧ X.mg c = some (.ref C) ∧ Grow G1 H1 G2 H2 ∧ Same G2 H2) := ⟨G1, xs.map Val.d, c, hlx, l1, rep, hR, fun C G' H' g l hm => ⟨C, G', rfl, hm, g, l⟩⟩
  refine wpAny_call (codeAny_mono (F.run X.A X.stack s1 H1 ⟨us, []⟩ us vs _ _ hr I1.env0 hbs rr sp) fun r' s' hq => ?_)
  cases r' with
  | error e' =>
    obtain ⟨ea, cls, H2, rfl, fl, C', G2, rfl, hm', g2, l2⟩ := hq
    exact W.2 σ H1 G1 H2 G2 env s1 s' ea C' I1 (kS G1 H1 g1 l1) hm' fl g2 l2
  | ok fl =>
    cases fl with
    | ret u => obtain ⟨_, _, _, _, _, _, _, z⟩ := hq; exact z.elim
    | next => exact False.elim hq
    | brk => exact False.elim hq
    | cont => exact False.elim hq
theorem re_outer {x : Str} {f : Addr} {p : Pos} {e : Expr} {es : List Expr} (hm : X.mg x = some (.ref f)) (hk : PySem.W.keepIn X.K (.ref f) = true) (ra : RA mk X G₀ H₀ (e :: es) R)
    (hg : Gl X x := by rfl) (hdb : (x == ("__debug__" : Str)) = false := by decide) (he : starEach (e :: es) X.env = (false, eval e X.env) :: starEach es X.env := by rfl) (hpl : (backTo pos (starEach es X.env)).any (·.1) = false := by rfl) :
    RE mk X G₀ H₀ (.Call (.Name x p) (e :: es) [] pos) R := by
  intro pins s σ H env G c Q S I d r k W
  refine wpAny_Call_Name_kw (ld_glob I hg hm ?_ hdb)
  exact PySem.W.callWith_K (h₀ := X.base) I.ok.mod.kin hk (ra pos pins s σ H env G c _ S I d r k W) he hpl
end
def runR (n : Nat) (R : RR) (ds : List D) (c : Str) : Prop := R (ds.map Slot.pers ++ List.replicate (n - ds.length) .un) c
theorem fnx_ok {P : Program} {w : World} {K : PySem.W.Frag} {mg : Str → Option Value} {base : Heap} {x qual : Str} {st : Stmt} {f : Addr} {fd : FuncData} {N ps : List Str} {k : Nat} {R : RR} (F : Fun K x qual st f fd) (S : FnScope N ps (defScope st))
    (hb : ∀ (cdv : Value) (A : Around) (outer : List Env) (s : Shared) (G H : Hp) (E : XK), Room k (A.deeper (envOfC qual (defScope st) s.heap.objs.size f cdv)) →
      RG (cxOf (CXd P w) P w K mg base N qual (defScope st) f cdv A outer s H E) G H (defBody st) R) : FnOk P w K mg base (CXd P w) (k + 1) f fd ps (spR K mg (runR N.length R) ps.length) := by
  have hpl : ps.length ≤ N.length := by have := congrArg List.length S.pre; rw [List.length_take] at this; omega
  obtain ⟨oc, od, kV, doc, pm, an, cdv, ct, osl, rfl, lk, hcd⟩ := F.ex
  refine fn_of lk hcd S (fun vs H Q E h => ?_) fun A outer s H vs Q E hr h => ?_
  · obtain ⟨G, ds, c, hl, _, r, _⟩ := h
    rw [← r.length]; exact hl
  · obtain ⟨G, ds, c, hl, l, r, hR, hE⟩ := h
    refine ⟨fun _ σ H' => ∃ env G' c, DI K G H env σ G' H' ∧ R env c ∧ ∀ pins, Wish true (cxOf (CXd P w) P w K mg base N qual (defScope st) f cdv A outer s H E) pins (fun env σ G' H' => DI K G H env σ G' H') c, fun pins s1 σ H1 D I ⟨env, G', c', d, r', W⟩ => hb cdv A outer s G H E hr pins s1 σ H1 env G' c' _ I d r' (W pins), ?_⟩
    refine ⟨_, G, c, start_DI l r (by omega), hR, fun pins => ⟨fun _ σ H1 G1 env s1 e h1 vs C I d hm hx => ?_, fun σ H1 G1 H2 G2 env s1 s2 e C I d hm fl g l2 => ?_⟩⟩
    · exact fly_made I rfl rfl rfl d.gr.h hx fun s'' fl => ⟨e, .ref C, _, rfl, fl, hE C _ _ d.gr d.le hm⟩
    · exact fly_pass I rfl rfl rfl d.gr.h fl fun s'' fl => ⟨e, .ref C, _, rfl, fl, hE C _ _ (d.gr.trans g) l2 hm⟩
end DL
namespace DL
open PySem PySem.Spec PyProof.Rows L2 PySem.W PySem.Builtin PySem.Builtin.ObjectAttr PySem.Builtin.Getset_descriptor
structure ExCls (K : PySem.W.Frag) (C : Addr) : Prop where
  cl : (clsIn K C).isSome = true
  ga : findIn K (.ref C) "__getattribute__" = some (some (.builtin "BaseException.__getattribute__"))
  gn : findIn K (.ref C) "__getattr__" = some none
  ca : findIn K (.ref C) "__class__" = some (some (.builtin "object.__class__"))
  cg : specialIn K (.builtin "object.__class__") "__get__" = some (some (.builtin "getset_descriptor.__get__"))
  ct : takesIn K (.builtin "object.__class__") = some true
  mo : mroIn K C (.type "object") = some true
  mb : mroIn K C (.type "BaseException") = some true
def ExcAt (e C : Addr) (h : Heap) : Prop := ∃ ob, h.get? e = some ob ∧ ob.cls = .ref C
theorem exc_ty {M : Model} {h : Heap} {e C : Addr} (p : ExcAt e C h) : Looks M h (typeOf (.ref e)) (.ref C) := by
  obtain ⟨ob, h1, h2⟩ := p
  exact h2 ▸ (Looks.ld h1).andThen .now
section
variable {prog : Program} {w : World} {A : Around} {E : Value → Shared → Prop} {s : Shared} {K : PySem.W.Frag} {e C : Addr}
theorem exc_find {M : Model} {h : Heap} (X : K.In h) (Z : ExCls K C) : Looks M h (find (.ref e) (.ref C) "__class__") (.bind (.builtin "getset_descriptor.__get__") (.builtin "object.__class__")) := by
  have L1 := looks_findIn (M := M) X Z.ca
  have L2 : Looks M h (getOf (some (.builtin "object.__class__"))) (some (.builtin "getset_descriptor.__get__")) := looks_specialIn X Z.cg
  have L3 := looks_takesIn (M := M) X Z.ct
  have L4 : Looks M h (dataDescriptor? (some (.builtin "object.__class__")) (some (.builtin "getset_descriptor.__get__"))) (some (.builtin "getset_descriptor.__get__", .builtin "object.__class__")) := L3.andThen .now
  exact L1.andThen (L2.andThen (L4.andThen (Looks.tag .now)))
theorem exc_class {tp : Value} {R : Result → Shared → Prop} (X : K.In s.heap) (p : ExcAt e C s.heap) (Z : ExCls K C) (hR : R (.ok (.ret (.ref C))) s) :
    codeAny (model prog w) A (.call (.builtin "getset_descriptor.__get__") ⟨[.builtin "object.__class__", .ref e, tp], []⟩) R s := by
  obtain ⟨h0, g0, d0, t0, o0⟩ := s
  have L0 := exc_ty (M := model prog w) p
  have L1 := looks_mroIn (M := model prog w) X Z.mo
  refine codeAny_call_builtin (KF.slot_gs.plain) (KF.entry_gs) (KF.slot_gs.check _ _ _ _ _ _ _ _ (KF.type_class) (KF.args_gs _ _ _) (?_))
  unfold Builtin.«getset_descriptor.__get__» descrGet
  rw [dga_obj]; refine wpAny_bind (wpAny_pure (?_))
  unfold descrGetter descrCheckInstance descrNameAndClass isInstance; simp only [KF.owner_class]
  repeat lk
  refine ⟨Code.quiet_builtin _ (by decide +kernel), codeAny_builtin (KF.entry_class) (?_)⟩
  unfold Builtin.«object.__class__» shownTypeOf; repeat lk
  exact hR
theorem exc_ga {tk : Tok} {R : Result → Shared → Prop} (X : K.In s.heap) (p : ExcAt e C s.heap) (Z : ExCls K C) (hR : R (.ok (.ret (.ref C))) s) :
    codeAny (model prog w) A (.call (.builtin "BaseException.__getattribute__") ⟨[.ref e, .str "__class__" tk], []⟩) R s := by
  obtain ⟨h0, g0, d0, t0, o0⟩ := s
  have L0 := exc_ty (M := model prog w) p
  have L1 := looks_mroIn (M := model prog w) X Z.mb
  have L2 := exc_find (M := model prog w) (e := e) X Z
  have hk : builtinKind "BaseException.__getattribute__" = some .slot := by decide +kernel
  have hsp : splitId "BaseException.__getattribute__" = some ("BaseException", "__getattribute__") := by decide +kernel
  have hpl : plainId "BaseException.__getattribute__" = true := by decide +kernel
  have hargs := F.args_bexc_ga (.ref e) (.str "__class__" tk)
  refine codeAny_call_builtin hpl F.entry_bexc_ga ?_
  simp only [checkBuiltinCall, hk, hsp]
  refine wpAny_bind ?_
  unfold isInstance
  repeat (first | lk | wp_step)
  refine wpAny_run (h := none) (exc_class X p Z ?_)
  exact wpAny_pure (wpAny_pure hR)
theorem exc_attr {Q : Option Value → Shared → Prop} (X : K.In s.heap) (p : ExcAt e C s.heap) (Z : ExCls K C) (hQ : Q (some (.ref C)) { s with toks := s.toks + 1 }) :
    wpAny (model prog w) A (getAttr? (.ref e) "__class__") Q E s := by
  obtain ⟨h0, g0, d0, t0, o0⟩ := s
  have L0 := exc_ty (M := model prog w) p
  have L1 := looks_findIn (M := model prog w) X Z.ga
  have L2 := looks_findIn (M := model prog w) X Z.gn
  have hx2 : (Value.builtin "BaseException.__getattribute__" == Value.builtin "object.__getattribute__") = false := by decide +kernel
  have hx1 : (onTheHeap (Value.ref C) && Value.builtin "BaseException.__getattribute__" == Value.builtin "object.__getattribute__") = false := by rw [hx2]; rfl
  unfold getAttr? getAttrBy? getAttrBy
  refine wpAny_bind (wpAny_mkText (wpAny_bind (wpAny_attempt (wpAny_holding (wpAny_bind (L0.at (wpAny_bind (L1.at ?_))))))))
  dsimp only
  rw [hx1]
  simp only [Bool.false_eq_true, if_false]
  have hb := PySem.F.attr_ValueError.ga.bind (.ref e)
  have hx0 : ∀ b, (b && onTheHeap (Value.builtin "BaseException.__getattribute__")) = false := fun b => by cases b <;> rfl
  unfold getAttrByItsOwn
  refine wpAny_bind ?_
  show wpAny _ _ (typeLookup (.ref C) "__getattr__") _ _ _
  refine L2.at ?_
  refine wpAny_bind (wpAny_attempt (wpAny_holding ?_))
  show wpAny _ _ (boundAndCalled (.builtin "BaseException.__getattribute__") (.ref e) (.str "__class__" t0)) _ _ _
  unfold boundAndCalled
  refine wpAny_bind (wpAny_of_eq hb ?_)
  refine wpAny_call (exc_ga (s := ⟨h0, g0, d0, t0 + 1, o0⟩) X p Z ?_)
  exact handed_on rfl (wpAny_pure hQ)
theorem kitx_exc (Z : ExCls K C) : KitX K (.ref e) (.ref C) (ExcAt e C) where
  ty := fun _ _ _ p => exc_ty p
  it := fun _ _ X _ => by
    obtain ⟨cd, hc⟩ := Option.isSome_iff_exists.mp Z.cl
    unfold clsIn at hc
    split at hc
    · rename_i ho
      exact fun A' Q' E' s' k q => wpAny_bind (wpAny_loadPart (k _ _ (X _ _ ho)) (wpAny_pure q))
    · cases hc
  ne := fun h tp dd its n sl X htp => by
    obtain ⟨cd, hc⟩ := Option.isSome_iff_exists.mp Z.cl
    cases hq : (Value.ref C == Value.ref tp) with
    | false => rfl
    | true =>
      exfalso
      have ee : C = tp := Value.ref.inj (beq_iff_eq.mp hq)
      rw [← ee] at htp
      unfold clsIn at hc
      split at hc
      · rename_i ho
        have := (X _ _ ho).symm.trans htp
        cases this
      · cases hc
  ca := fun X p k => exc_attr X p Z k
end
end DL
namespace DL
open PySem PySem.Spec PyProof.Rows L2
noncomputable abbrev marked (X : Cx) (e : Addr) : Cx := { X with A := X.A.mark (some (.ref e)), calm := false, xe := fun _ _ => False }
section
variable {X : Cx} {pins : List (Addr × Obj)} {σ : St} {H H1 : Hp} {s s1 : Shared} {B h' : Heap} {e C : Addr} {cls a0 : Value}
theorem inv_mark (I : Inv X pins σ H s) (e : Addr) : Inv (marked X e) pins σ H s :=
  ⟨⟨I.ok.mod, I.ok.kind, I.ok.glob, I.ok.blt, I.ok.above, I.ok.inj, I.ok.has, I.ok.cab, (fun z => by cases z), I.ok.frames, I.ok.stk, I.ok.exf, I.ok.bs, I.ok.bsz, I.ok.noex, I.ok.exfs, I.ok.funs, I.ok.frf⟩, I.os, I.bare, I.base, I.loc, I.cell, I.free, I.freeC, I.pin, I.hok, I.len⟩
theorem inv_unmark (ok : X.Ok) (I : Inv (marked X e) pins σ H s) : Inv X pins σ H s := ⟨ok, I.os, I.bare, I.base, I.loc, I.cell, I.free, I.freeC, I.pin, I.hok, I.len⟩
theorem land (I : Inv X pins σ H s) (sm : Same H H1) (k1 : ∀ b o, s.heap.get? b = some o → H b = none → b ∉ frs X.stack → B.get? b = some o) (k2 : ∀ b u o, H1 b = some u → s1.heap.get? b = some o → B.get? b = some o)
    (un1 : Un (frs X.stack) [] H H1 s.heap s1.heap) (hok1 : HOk X.prog X.w H1 s1.heap) (st : B.StaysIn h') (up : s1.heap.UpToSlots h') (hos : s1.os = s.os) (hb : AllBare s1.gens) : Inv X pins σ H1 { s1 with heap := h' } := by
  have T : ∀ b u, H1 b = some u → ∀ o, s1.heap.get? b = some o → h'.get? b = some o := fun b u e o q => st b o (k2 b u o e q)
  have slot : ∀ b o, s.heap.get? b = some o → H b = none → b ∈ frs X.stack → ∃ sl, h'.get? b = some { o with slots := sl } := fun b o e n hb => by
    obtain ⟨sl, e1⟩ := un1.slot b o e n hb (by simp)
    obtain ⟨_, o', ho', hd⟩ := I.stack.mem hb
    rw [e] at ho'
    cases ho'
    obtain ⟨sl2, e2⟩ := up b _ e1 hd
    exact ⟨sl2, e2⟩
  refine I.call' (ch := []) hos ⟨fun b o e n hb _ => st b o (k1 b o e n hb), fun b o e n hb _ => slot b o e n hb, fun b o e n _ => un1.free b o e n (by simp), fun b o e _ => ?_, fun b xs q => sm _ _ q, fun b o u q => sm _ _ q, fun b ps q => ⟨#[], by rw [sm _ _ q]; simp⟩⟩ (fun b u q => ?_) hb (fun b z => absurd z (by simp))
  · cases q : H b with
    | none =>
      by_cases hb : b ∈ frs X.stack
      · obtain ⟨sl, z⟩ := slot b o e q hb
        exact ⟨_, z⟩
      · exact ⟨o, st b o (k1 b o e q hb)⟩
    | some u =>
      obtain ⟨o', z⟩ := obj_there (hok1 b u (sm _ _ q))
      exact ⟨o', T b u (sm _ _ q) o' z⟩
  · refine (hok1 b u q).stay (fun c v hc z => ?_) (fun _ z => z) fun _ _ z => z
    rcases hc with rfl | hc
    · exact T _ u q v z
    · exact T _ _ hc v z
theorem inv_hold (I : Inv X pins σ H s) (hex : X.ex = []) (p : ExcAt e C s.heap) (hn : H e = none) (ne : e ≠ X.env.locals) (nc : ∀ x c, X.env.cells.lookup x = some c → c ≠ e) (n0 : X.s₀.heap.get? e = none) (np : ∀ q ∈ X.pn ++ pins, q.1 ≠ e) : Inv X pins σ (upd H e (.ext (ExcAt e C))) s := by
  have hb := I.base
  have U : ∀ b u, H b = some u → upd H e (.ext (ExcAt e C)) b = some u := fun b u q => by rw [upd_ne (ne_of_none q hn)]; exact q
  refine ⟨I.ok, I.os, I.bare, ⟨hb.keep, hb.slot, fun b o q n hx => ?_, hb.there, fun b xs q => U _ _ (hb.tups b xs q), fun b o u q => U _ _ (hb.frzs b o u q), fun b ps q => ?_⟩, I.loc, I.cell, ?_, fun x c q => ?_, fun q hq => ?_, fun b u q => ?_, I.len⟩
  · have : b ≠ e := fun z => by rw [z, n0] at q; cases q
    rw [upd_ne this]
    exact hb.free b o q n hx
  · obtain ⟨more, z⟩ := hb.tbls b ps q
    exact ⟨more, U _ _ z⟩
  · rw [upd_ne (Ne.symm ne)]; exact I.free
  · rw [upd_ne (nc x c q)]; exact I.freeC x c q
  · obtain ⟨a1, a2, a3⟩ := I.pin q hq
    exact ⟨a1, by rw [upd_ne (np q hq)]; exact a2, a3⟩
  · by_cases hbe : b = e
    · subst hbe
      rw [upd_same] at q
      cases q
      refine ⟨p, ?_, fun h1 h2 z k => ?_⟩
      · obtain ⟨ob, z, _⟩ := p; exact ⟨ob, z⟩
      · obtain ⟨ob, z1, z2⟩ := z; exact ⟨ob, k ob z1, z2⟩
    · rw [upd_ne hbe] at q
      exact (I.hok b u q).stay (fun _ _ _ z => z) (fun c z => U _ _ z) fun c xs z => U _ _ z
end
end DL
namespace DL
open PySem PySem.Spec PyProof.Rows L2
section
variable {X : Cx} {pins : List (Addr × Obj)} {σ : St} {H H1 : Hp} {s s1 : Shared} {e C : Addr}
theorem fly_new (I : Inv X pins σ H s) (F : Fly X.prog X.w X.stack H H1 s s1 e (.ref C)) : s.heap.get? e = none ∧ H1 e = none := by
  obtain ⟨B, a0, fl, k1, k2⟩ := F.fly
  obtain ⟨_, f2, _, oe, vs, T, oT, ts, he, _, hd, _⟩ := fl
  have hn : H1 e = none := by
    cases q : H1 e with
    | none => rfl
    | some u =>
      have := k2 e u oe q he
      rw [f2] at this
      cases this
  refine ⟨?_, hn⟩
  cases q : s.heap.get? e with
  | none => rfl
  | some o =>
    exfalso
    have hH : H e = none := by
      cases z : H e with
      | none => rfl
      | some u => rw [F.same e u z] at hn; cases hn
    by_cases hb : e ∈ frs X.stack
    · obtain ⟨_, o', ho', hnf⟩ := I.stack.mem hb
      rw [q] at ho'
      cases ho'
      obtain ⟨sl, e1⟩ := F.un.slot e o q hH hb (by simp)
      rw [he] at e1
      cases e1
      exact hnf vs hd
    · have := k1 e o q hH hb
      rw [f2] at this
      cases this
theorem inv_drop {j : Nat} {n : Str} {h' : Heap} {m : Str → Option Value} {v : Option Value} {tk : Nat} (I : Inv X pins σ H s) (hN : X.N.Nodup) (hj : X.N[j]? = some n) (hl : X.env.scope.names.lookup n = some .local)
    (hm : s.heap.Ns X.env.locals m) (hn : h'.Ns X.env.locals (fun x => if x = n then v else m x)) (sb : Heap.SameBut X.env.locals s.heap h') : Inv X pins (σ.set j none) H { s with heap := h', toks := tk } := by
  obtain ⟨m0, hm0, hv⟩ := I.loc
  have em : ∀ x, m0 x = m x := fun x => by
    obtain ⟨o, es, ep, ho, hd, _, hf⟩ := hm0
    obtain ⟨o', es', ep', ho', hd', _, hf'⟩ := hm
    rw [ho] at ho'
    cases ho'
    rw [hd] at hd'
    cases hd'
    rw [← hf x, ← hf' x]
  have neL : ∀ b o, X.s₀.heap.get? b = some o → b ≠ X.env.locals := fun b o e => Nat.ne_of_lt (Nat.lt_of_lt_of_le (Heap.lt_size e) I.ok.above)
  refine ⟨I.ok, I.os, I.bare, ⟨fun b o q z hb hx => ?_, fun b o q z hb hx => ?_, I.base.free, fun b o q hx => ?_, I.base.tups, I.base.frzs, I.base.tbls⟩, ⟨_, hn, fun i x w e1 e2 e3 => ?_⟩, fun y c q => ?_, I.free, I.freeC, fun p hp => ?_, fun b u q => ?_, by simpa using I.len⟩
  · exact (sb.2 b (neL b o q)).trans (I.base.keep b o q z hb hx)
  · obtain ⟨sl, z1⟩ := I.base.slot b o q z hb hx
    exact ⟨sl, (sb.2 b (neL b o q)).trans z1⟩
  · obtain ⟨o', z1⟩ := I.base.there b o q hx
    exact ⟨o', (sb.2 b (neL b o q)).trans z1⟩
  · have hij : i ≠ j := fun z => by
      rw [z, List.getElem?_set] at e2
      simp at e2
    rw [List.getElem?_set_ne (Ne.symm hij)] at e2
    obtain ⟨u, r, lk⟩ := hv i x w e1 e2 e3
    refine ⟨u, r, ?_⟩
    rcases lk with ⟨k, z⟩ | ⟨k, c, z1, z2⟩
    · refine .inl ⟨k, ?_⟩
      have : x ≠ n := fun z' => hij (nodup_ix hN e1 (z' ▸ hj))
      simp only [if_neg this, ← em]
      exact z
    · exact .inr ⟨k, c, z1, z2.sameBut sb (I.cne x c z1)⟩
  · obtain ⟨w', z⟩ := I.cell y c q
    exact ⟨w', z.sameBut sb (I.cne y c q)⟩
  · obtain ⟨z1, z2, z3, z4, z5⟩ := I.pin p hp
    exact ⟨(sb.2 p.1 z3).trans z1, z2, z3, z4, z5⟩
  · refine (I.hok b u q).stay (fun c w' hc z => (sb.2 c ?_).trans z) (fun _ z => z) fun _ _ z => z
    rintro rfl
    rcases hc with z' | z'
    · rw [← z', I.free] at q; cases q
    · rw [I.free] at z'; cases z'
theorem catch_as {x n : Str} {j : Nat} {np hpos : Pos} {B0 : Addr} {b₀ : Stmt} {suite : List Stmt} {t : TS} {Q : Flow → Shared → Prop} (I : Inv X pins σ H s) (F : Fly X.prog X.w X.stack H H1 s s1 e (.ref C)) (hst : X.stack = X.env :: X.outer) (hf : X.env.frame = some X.env.locals) (hex : X.ex = [])
    (hm : X.mg x = some (.ref B0)) (hx : PySem.W.exmOne X.K (.ref C) (.ref B0) = some true) (hg : Gl X x) (hN : X.N.Nodup) (hj : X.N[j]? = some n) (hl : X.env.scope.names.lookup n = some .local)
    (hb : PSs (marked X e) (b₀ :: suite) t) {nx : St → Hp → Prop} (ht : t { nx := nx, rt := fun _ _ => False } (σ.set j (some (.ref e))) (upd H1 e (.ext (ExcAt e C)))) (hnx : ∀ σ' H' s', nx σ' H' → Inv X pins (σ'.set j none) H' s' → Q .next s') (hd : (x == ("__debug__" : Str)) = false := by decide) :
    wpAny (model X.prog X.w) X.A (noteFrame (.ref e) X.env) (fun _ s₂ => wpAny (model X.prog X.w) X.A (setFlight (.ref e) none) (fun _ s₃ => wpAny (model X.prog X.w) X.A (handleBy (.ref e) X.env [.ExceptHandler (some (.Name x np)) (some n) (b₀ :: suite) hpos]) Q X.xe s₃) X.xe s₂) X.xe s1 := by
  obtain ⟨new1, new2⟩ := fly_new I F
  obtain ⟨B, a0, fl, k1, k2⟩ := F.fly
  have hfr : X.A.frames = some (X.env :: X.outer) := by rw [I.ok.frames, hst]
  rw [hst] at fl
  refine wpAny_looks_onW hfr hf fl fun h4 held4 up4 => ?_
  refine wpAny_landsW (s := { s1 with heap := h4 }) held4 fun h5 fl5 up5 => ?_
  have up15 := up4.trans up5
  have J5 := land I F.same k1 k2 F.un F.hok fl5.1 up15 F.os F.bare
  have M5 := inv_mark J5 e
  have p5 : ExcAt e C h5 := fl5.there
  have hkind : X.env.kindOf n = some .local := hl
  refine wpAny_handleBy_cons (codeAny_handlers_test (ld_glob M5 hg hm ?_ hd)) (by intro q; cases q)
  refine PySem.W.exm_one (M := model X.prog X.w) J5.kIn (exc_ty p5) hx _ _ _ _ (fun _ _ z => z) ?_
  refine codeAny_handlers_suite_as ?_
  refine lands_againW (s := { s1 with heap := h5 }) fl5 fun h6 fl6 up6 => ?_
  have J6 : Inv X pins σ H1 { s1 with heap := h6 } := land I F.same k1 k2 F.un F.hok fl6.1 (up15.trans up6) F.os F.bare
  have neX : ∀ b o, s.heap.get? b = some o → b ≠ e := fun b o q z => by rw [z, new1] at q; cases q
  have J7 := inv_hold (C := C) J6 hex fl6.there new2 (fun z => by
      obtain ⟨_, ⟨o, _, _, ho, _⟩, _⟩ := I.loc
      exact neX _ o ho z.symm) (fun y c q => by
      obtain ⟨w', o, ho, _⟩ := I.cell y c q
      exact neX c o ho) (by
      cases q : X.s₀.heap.get? e with
      | none => rfl
      | some o =>
        obtain ⟨o', z⟩ := I.base.there e o q (by rw [hex]; simp)
        rw [new1] at z
        cases z) (fun q hq => neX q.1 q.2 (I.pin q hq).1)
  refine store_ok (X := marked X e) (v := V.ref e) (inv_mark J7 e) hN hj (Or.inl hl) rfl (fun s7 I7 => ?_) (.inr hl)
  refine wpAny_mono (hb pins s7 _ _ _ I7 ht) (fun f s8 q => ?_) (fun _ _ z => False.elim z)
  cases f with
  | next =>
    obtain ⟨σ', H', I8, q⟩ := q
    have I8' := inv_unmark I.ok I8
    obtain ⟨m, hnm, _⟩ := id I8'.loc
    have hcls : (X.env.scope.kind == .class || (X.env.scope.kind == .module && X.env.locals != X.env.globals)) = false := by rw [I.ok.kind]; rfl
    exact wpAny_nameGoes_keeps hkind hnm hcls fun h9 v hn9 sb => hnx _ _ _ q (inv_drop I8' hN hj hl hnm hn9 sb)
  | ret u => obtain ⟨_, _, _, _, _, z⟩ := q; exact z.elim
  | brk => obtain ⟨_, _, _, z⟩ := q; exact z.elim
  | cont => obtain ⟨_, _, _, z⟩ := q; exact z.elim
end
end DL
namespace DL
open PySem PySem.Spec PyProof.Rows L2
abbrev bmVal : List Value := [.type "ValueError", .type "Exception", .type "BaseException", .type "object"]
theorem exc_obj {K : PySem.W.Frag} {h : Heap} {C : Addr} {bmB : List Value} {newId : String} (X : K.In h) (q : PySem.W.excIn K C bmB newId = true) :
    ∃ bm N nm qn bs hdct sn sub ab col dd k0 k1 k2 k3 k5 mN, h.get? C = some (excClassObj nm qn C N bs bm hdct sn sub ab col dd k0 k1 k2 k3 k5 newId) ∧ h.Ns N mN ∧ mN "__init__" = none ∧ OwnTail h bmB bm := by
  unfold PySem.W.excIn at q
  split at q
  rotate_left
  · cases q
  rename_i d1 c1 s1 look
  split at q
  rotate_left
  · cases q
  rename_i C2 b2 j0 j1 j2 j3 nn j5 hmro hsl
  simp only [Bool.and_eq_true, beq_iff_eq, Bool.not_eq_true'] at q
  obtain ⟨⟨⟨⟨⟨e1, e2⟩, nodel⟩, tl⟩, nsok⟩, noinit⟩ := q
  subst e1 e2
  obtain ⟨nm, bs, mro, ns, qn, hd, sn, sub, ab, col, del⟩ := c1
  dsimp only at hmro nodel nsok noinit
  subst hmro nodel
  have es : s1 = #[j0, j1, j2, j3, some (.builtin nn), j5] := by
    obtain ⟨l⟩ := s1
    simp only at hsl
    rw [hsl]
  subst es
  exact ⟨b2, ns, nm, qn, bs, hd, sn, sub, ab, col, d1, j0, j1, j2, j3, j5, _, X _ _ look, .of_isNs (PySem.W.isNs_of_in X nsok), PySem.W.nsMap_none_of_in X nsok noinit, PySem.W.tail_of_in X tl⟩
section
variable {mk : Bool} {X : Cx} {G₀ H₀ : Hp} {pos : Pos} {R : RR}
theorem rs_raise {c tx : Str} {C : Addr} {np cpos tpos : Pos} {tj : _} (hm : X.mg c = some (.ref C)) (q : PySem.W.excIn X.K C bmVal "ValueError.__new__" = true) (hc : X.calm = true := by rfl) (hg : Gl X c := by rfl) (hd : (c == ("__debug__" : Str)) = false := by decide)
    (he : starEach [.Constant (.str tx) tj tpos] X.env = (false, eval (.Constant (.str tx) tj tpos) X.env) :: starEach [] X.env := by rfl) :
    RS true X G₀ H₀ (.Raise (some (.Call (.Name c np) [.Constant (.str tx) tj tpos] [] cpos)) none pos) (fun _ c' => c' = c) := by
  intro pins s σ H env G c' Q S I d e kS W
  subst e
  obtain ⟨bm, N, nm, qn, bs, hdct, sn, sub, ab, col, dd, k0, k1, k2, k3, k5, mN, hC, hN, hni, T⟩ := exc_obj I.ok.mod.kin q
  refine wpAny_Raise_call_subT (C := C) (nm := nm) (q := qn) (N := N) (bs := bs) (bm := bm) (hdct := hdct) (sn := sn) (sub := sub) (ab := ab) (col := col) (dd := dd) (k0 := k0) (k1 := k1) (k2 := k2) (k3 := k3) (k5 := k5)
    PySem.F.excBase_ValueError (mN := mN) (T.hasType PySem.F.excBase_ValueError.hasBase) (I.ok.hd hc) (by rw [he]; rfl) hni (ld_glob I hg hm ⟨rfl, ?_⟩ hd)
  have hp := pa_cons (X := X) (es := []) (pe_str (x := tx) (j := tj) (pos := tpos)) pa_nil he cpos pins s σ H (fun vs H' => vs = [.str tx] ∧ H' = H) I ⟨rfl, rfl⟩
  rw [he] at hp ⊢
  refine Calls.evalArgs_plain (wpAny_mono hp (fun us s2 h2 => ?_) fun _ _ y => y)
  obtain ⟨vs, H', I2, r, rfl, rfl⟩ := h2
  have hl : us.length ≤ sizeLine := by rw [← r.length]; show 1 ≤ sizeLine; decide
  have kb : ∀ b o, X.base.get? b = some o → s2.heap.get? b = some o := I2.bk
  exact ⟨rfl, hl, kb _ _ hC, hN.keeps kb, T.keeps kb, fun h' e hx => W.1 rfl σ H' G env s2 e h' us C I2 (kS G H' (Grow.refl _ _) d.le) hm hx⟩
theorem rs_expr {e : Expr} (h : RE mk X G₀ H₀ e R) (hs : swapsWith e none pos.line X.env = pure false := by rfl) : RS mk X G₀ H₀ (.Expr e pos) R := fun pins s σ H env G c Q S I d r k W =>
  wpAny_Expr_any (h pins s σ H env G c _ S I d r k W) I.quiet hs
theorem rs_ret {e : Expr} (h : RE mk X G₀ H₀ e R) : RS mk X G₀ H₀ (.Return (some e) pos) R := fun pins s σ H env G c Q S I d r k W => wpAny_Return_some (h pins s σ H env G c _ S I d r k W)
theorem rs_set {x : Str} {e : Expr} {pos' : Pos} (h : RE mk X G₀ H₀ e R) (hs : swapsWith e (some (.Name x pos')) pos.line X.env = pure false := by rfl) : RS mk X G₀ H₀ (.Assign [.Name x pos'] e pos) R := fun pins s σ H env G c Q S I d r k W =>
  wpAny_Assign_Name (h pins s σ H env G c _ S I d r k W) hs
def tTry (mg : Str → Option Value) (K : PySem.W.Frag) (G₀ H₀ : Hp) (R : RR) (cs : List Str) (j : Nat) (t : TS) : TS := fun D σ H => ∃ env G c, DI K G₀ H₀ env σ G H ∧ R env c ∧ c ∈ cs ∧
  ∀ (e C : Addr) (G1 H1 : Hp), Grow G H G1 H1 → Same G1 H1 → mg c = some (.ref C) → H1 e = none → t { nx := fun σ' H' => D.nx (σ'.set j none) H', rt := fun _ _ => False } (σ.set j (some (.ref e))) (upd H1 e (.ext (ExcAt e C)))
theorem ps_try {x n : Str} {j : Nat} {np hpos : Pos} {B0 : Addr} {body : List Stmt} {b₀ : Stmt} {suite : List Stmt} {t : TS} {cs : List Str} (hr : ∀ E, RSs false (X.wish E) G₀ H₀ body R) (hb : ∀ e, PSs (marked X e) (b₀ :: suite) t)
    (hm : X.mg x = some (.ref B0)) (hx : ∀ c ∈ cs, ∀ C, X.mg c = some (.ref C) → PySem.W.exmOne X.K (.ref C) (.ref B0) = some true) (hN : X.N.Nodup) (hj : X.N[j]? = some n) (hl : X.env.scope.names.lookup n = some .local)
    (hst : X.stack = X.env :: X.outer := by rfl) (hf : X.env.frame = some X.env.locals := by rfl) (hex : X.ex = [] := by rfl) (hg : Gl X x := by rfl) (hd : (x == ("__debug__" : Str)) = false := by decide) :
    PS X (.Try body [.ExceptHandler (some (.Name x np)) (some n) (b₀ :: suite) hpos] [] [] pos) (tTry X.mg X.K G₀ H₀ R cs j t) := by
  intro pins s σ H D I ⟨env, G, c, d, r, hc, k⟩
  refine wpAny_Try_except ?_
  refine hr (fun e s₁ => wpAny (model X.prog X.w) X.A (noteFrame e X.env) (fun _ s₂ => wpAny (model X.prog X.w) X.A (setFlight e none) (fun _ s₃ => wpAny (model X.prog X.w) X.A (handleBy e X.env [.ExceptHandler (some (.Name x np)) (some n) (b₀ :: suite) hpos]) (SP X pins D) X.xe s₃) X.xe s₂) X.xe s₁) pins s σ H env G c _ (fun env' σ' G' H' => env' = env ∧ σ' = σ ∧ Grow G H G' H') (I.wish _) d r (fun G' H' g _ => ⟨rfl, rfl, g⟩) ⟨(fun z => by cases z), fun σ' H' G' H1 G1 env' s' s1 e C I' hS hmc F g l => ?_⟩
  obtain ⟨rfl, rfl, g0⟩ := hS
  have I2 : Inv X pins σ' H' s' := I'.unwish
  exact catch_as I2 F hst hf hex hm (hx c hc C hmc) hg hN hj hl (hb e) (k e C G1 H1 (g0.trans g) l hmc (fly_new I2 F).2) (fun σ'' H'' s'' q J => ⟨_, H'', J, q⟩) hd
end
end DL
namespace DL
open PySem PySem.Spec PyProof.Rows L2
noncomputable def clsV : V → Option Value
  | .ref a => some (.ref a)
  | .ty n => some (.type n)
  | _ => none
theorem clsV_of {x : V} {u v : Value} (h : clsV x = some v) (r : RelV x u) : u = v := by
  cases x with
  | ref a => cases h; exact r
  | ty n => cases h; exact r
  | _ => cases h
theorem call_isiX {X : Cx} : CallR X (.builtin "isinstance") (fun xs H Q => ∃ a C x v b, xs = [.ref a, x] ∧ clsV x = some v ∧ H a = some (.ext (ExcAt a C)) ∧ ExCls X.K C ∧ PySem.W.kitOne X.K (.ref C) v = some b ∧ Q (.bl b) H) := by
  intro pins s σ H xs us Q I r h
  obtain ⟨a, C, x, v, b, rfl, hv, hH, Z, e, q⟩ := h
  obtain ⟨u, w', rfl, r1, r2⟩ := vals2 r
  cases (show u = .ref a from r1)
  cases clsV_of hv r2
  have p : ExcAt a C s.heap := (I.hok a _ hH).1
  exact PySem.W.kia_one (kitx_exc Z) I.kIn p e (fun z => nomatch z) fun tk => ⟨.bl b, H, I.tok _, rfl, q⟩
theorem call_isiT {X : Cx} : CallR X (.builtin "isinstance") (fun xs H Q => ∃ a C p C1 C2 b, xs = [.ref a, .ref p] ∧ H p = some (.tup [.ref C1, .ref C2]) ∧ H a = some (.ext (ExcAt a C)) ∧ ExCls X.K C ∧ PySem.W.kitAny X.K (.ref C) [.ref C1, .ref C2] = some b ∧ Q (.bl b) H) := by
  intro pins s σ H xs us Q I r h
  obtain ⟨a, C, p, C1, C2, b, rfl, hp, hH, Z, e, q⟩ := h
  obtain ⟨u, w', rfl, r1, r2⟩ := vals2 r
  cases (show u = .ref a from r1)
  cases (show w' = .ref p from r2)
  have pe : ExcAt a C s.heap := (I.hok a _ hH).1
  obtain ⟨_, its, rv, o, ho, hcls, hdat⟩ := (show ObjOk X.prog X.w H s.heap p (.tup [.ref C1, .ref C2]) from I.hok p _ hp)
  have hits : its = [.ref C1, .ref C2] := by
    obtain ⟨u1, u2, rfl, z1, z2⟩ := vals2 rv
    cases (show u1 = .ref C1 from z1)
    cases (show u2 = .ref C2 from z2)
    rfl
  subst hits
  obtain ⟨oc, od, oda, osl⟩ := o
  dsimp only at hcls
  subst hcls
  obtain ⟨nn, hdd⟩ := hdat
  dsimp only at hdd
  subst hdd
  exact PySem.W.kia_tup (kitx_exc Z) I.kIn pe ho e (fun z => nomatch z) fun tk => ⟨.bl b, H, I.tok _, rfl, q⟩
theorem set_n0 {α : Type} (b c x : α) : ∀ as : List α, (as ++ [b, c]).set as.length x = as ++ [x, c]
  | [] => rfl
  | a :: as => by simp [set_n0 b c x as]
theorem set_n1 {α : Type} (b c x : α) : ∀ as : List α, (as ++ [b, c]).set (as.length + 1) x = as ++ [b, x]
  | [] => rfl
  | a :: as => by simp [set_n1 b c x as]
theorem get_n0 {α : Type} (b c : α) : ∀ as : List α, (as ++ [b, c])[as.length]? = some b
  | [] => rfl
  | a :: as => by simp
theorem get_n1 {α : Type} (b c : α) : ∀ as : List α, (as ++ [b, c])[as.length + 1]? = some c
  | [] => rfl
  | a :: as => by simp
def spK (K : PySem.W.Frag) (mg : Str → Option Value) (R : List D → Str → Prop) (n : Nat) (cs : List Str) : Sp := fun vs H Q _ => ∃ G ds c, ds.length = n ∧ Same G H ∧ RepL K G ds vs ∧ R ds c ∧ c ∈ cs ∧
  ∀ a C G' H', Grow G H G' H' → Same G' H' → mg c = some (.ref C) → H' a = some (.ext (ExcAt a C)) → Q (.ref a) H'
def tCaught (mg : Str → Option Value) (K : PySem.W.Frag) (G H : Hp) (R : RR) (cs : List Str) (n : Nat) : TS :=
  tSeq (tAsg (tC .non) (gName n)) (tSeq (tTry mg K G H R cs (n + 1) (tAsg (tVar (n + 1)) (gName n))) (tRet (tVar n)))
theorem fn_caught {P : Program} {w : World} {K : PySem.W.Frag} {mg : Str → Option Value} {base : Heap} {x : Str} {st : Stmt} {f : Addr} {fd : FuncData} {N ps : List Str} {k n : Nat} {R' : RR} {R : List D → Str → Prop} {cs : List Str} (F : Fun K x x st f fd) (S : FnScope N ps (defScope st))
    (hn : ps.length = n) (hN : N.length = n + 2)
    (hb : ∀ (cdv : Value) (A : Around) (outer : List Env) (s : Shared) (G H : Hp) (E : XK), Room k (A.deeper (envOfC x (defScope st) s.heap.objs.size f cdv)) →
      PSs (cxOf CX0 P w K mg base N x (defScope st) f cdv A outer s H E).nox (defBody st) (tCaught mg K G H R' cs n))
    (hR : ∀ ds c, ds.length = n → R ds c → R' (ds.map Slot.pers ++ [.pers .non, .un]) c) : FnOk P w K mg base CX0 (k + 1) f fd ps (spK K mg R n cs) := by
  refine F.ok S (fun vs H Q E h => ?_) fun cdv A outer s H vs Q E hr h => ?_
  · obtain ⟨G, ds, c, hl, _, r, _⟩ := h
    rw [← r.length, hl, hn]
  · obtain ⟨G, ds, c, hl, l, r, hRc, hc, hQ⟩ := h
    refine ⟨_, hb cdv A outer s G H E hr, ?_⟩
    have hvl : vs.length = n := by rw [← r.length]; exact hl
    have e0 : L2.start N vs = vs.map some ++ [none, none] := by
      unfold L2.start
      rw [hN, hvl, show n + 2 - n = 2 by omega]
      rfl
    have d0 := start_DI (K := K) (N := N) l r (by omega)
    have e1 : (ds.map Slot.pers ++ List.replicate (N.length - ds.length) Slot.un) = ds.map Slot.pers ++ [.un, .un] := by
      rw [hN, hl, show n + 2 - n = 2 by omega]
      rfl
    rw [e0, e1] at d0
    have d1 := d0.setP (d := .non) (v := .non) n rfl
    have s1 : (vs.map some ++ [none, none]).set n (some V.non) = vs.map some ++ [some V.non, none] := by
      have := set_n0 (none : Option V) none (some V.non) (vs.map some)
      rw [List.length_map, hvl] at this
      exact this
    have s2 : (ds.map Slot.pers ++ [Slot.un, Slot.un]).set n (Slot.pers D.non) = ds.map Slot.pers ++ [Slot.pers D.non, Slot.un] := by
      have := set_n0 Slot.un Slot.un (.pers .non) (ds.map Slot.pers)
      rw [List.length_map, hl] at this
      exact this
    rw [s1, s2] at d1
    show (tSeq (tTry mg K G H R' cs (n + 1) (tAsg (tVar (n + 1)) (gName n))) (tRet (tVar n))) _ ((L2.start N vs).set n (some V.non)) H
    rw [e0, s1]
    refine ⟨_, G, c, d1, hR ds c hl hRc, hc, fun e C G1 H1 g l1 hm hn1 => ?_⟩
    have s3 : (vs.map some ++ [some V.non, none]).set (n + 1) (some (V.ref e)) = vs.map some ++ [some V.non, some (.ref e)] := by
      have := set_n1 (some V.non) none (some (V.ref e)) (vs.map some)
      rw [List.length_map, hvl] at this
      exact this
    rw [s3]
    have s4 : (vs.map some ++ [some V.non, some (V.ref e)])[n + 1]? = some (some (.ref e)) := by
      have := get_n1 (some V.non) (some (V.ref e)) (vs.map some)
      rw [List.length_map, hvl] at this
      exact this
    refine ⟨.ref e, s4, ?_⟩
    have s5 : (vs.map some ++ [some V.non, some (V.ref e)]).set n (some (V.ref e)) = vs.map some ++ [some (V.ref e), some (.ref e)] := by
      have := set_n0 (some V.non) (some (V.ref e)) (some (V.ref e)) (vs.map some)
      rw [List.length_map, hvl] at this
      exact this
    have s6 : (vs.map some ++ [some (V.ref e), some (V.ref e)]).set (n + 1) none = vs.map some ++ [some (V.ref e), none] := by
      have := set_n1 (some (V.ref e)) (some (V.ref e)) none (vs.map some)
      rw [List.length_map, hvl] at this
      exact this
    have s7 : (vs.map some ++ [some (V.ref e), none])[n]? = some (some (.ref e)) := by
      have := get_n0 (some (V.ref e)) (none : Option V) (vs.map some)
      rw [List.length_map, hvl] at this
      exact this
    show tRet (tVar n) _ (((vs.map some ++ [some V.non, some (V.ref e)]).set n (some (V.ref e))).set (n + 1) none) _
    rw [s5, s6]
    refine ⟨.ref e, s7, hQ e C G1 _ ⟨g.g, fun b u q => ?_, g.n⟩ (fun b u q => ?_) hm upd_same⟩
    · rw [upd_ne (ne_of_none (g.h b u q) hn1)]; exact g.h b u q
    · rw [upd_ne (ne_of_none (l1 b u q) hn1)]; exact l1 b u q
end DL
namespace DL
open PySem PySem.Spec PyProof.Rows L2
structure CalK (P : Program) (w : World) (K : PySem.W.Frag) (mg : Str → Option Value) (base : Heap) (k : Nat) (x : Str) (ps : List Str) (R : List D → Str → Prop) (cs : List Str) : Prop where
  ex : ∃ (f : Addr) (fd : FuncData), FnOk P w K mg base CX0 k f fd ps (spK K mg R ps.length cs) ∧ mg x = some (.ref f) ∧ PySem.W.keepIn K (.ref f) = true ∧ Binds K fd ps []
theorem CalK.mono {P : Program} {w : World} {K : PySem.W.Frag} {mg : Str → Option Value} {base : Heap} {j k : Nat} {x : Str} {ps : List Str} {R : List D → Str → Prop} {cs : List Str} (c : CalK P w K mg base j x ps R cs) (h : j ≤ k) : CalK P w K mg base k x ps R cs := by
  obtain ⟨f, fd, F, r⟩ := c.ex
  exact ⟨f, fd, F.mono h, r⟩
theorem pe_calK {X : Cx} {k n : Nat} {x : Str} {ps : List Str} {R : List D → Str → Prop} {cs : List Str} {p pos : Pos} {e : Expr} {es : List Expr} {t : TA} (C : CalK X.prog X.w X.K X.mg X.base k x ps R cs) (hn : ps.length = n) (hr : Room k X.A) (ha : PA X (e :: es) t)
    (hg : Gl X x := by rfl) (hdb : (x == ("__debug__" : Str)) = false := by decide) (he : starEach (e :: es) X.env = (false, eval e X.env) :: starEach es X.env := by rfl) (hpl : (backTo pos (starEach es X.env)).any (·.1) = false := by rfl) :
    PE X (.Call (.Name x p) (e :: es) [] pos) (tCall (spK X.K X.mg R n cs) [] E0 t) := by
  obtain ⟨f, fd, F, hm, hk, hb⟩ := C.ex
  subst hn
  exact pe_call F hr hg hm hk hb .nil pass0 ha hdb he hpl
def rX (K : PySem.W.Frag) : List V → Hp → VK → Prop := fun xs H Q => ∃ a C x v b, xs = [.ref a, x] ∧ clsV x = some v ∧ H a = some (.ext (ExcAt a C)) ∧ ExCls K C ∧ PySem.W.kitOne K (.ref C) v = some b ∧ Q (.bl b) H
def rT (K : PySem.W.Frag) : List V → Hp → VK → Prop := fun xs H Q => ∃ a C p C1 C2 b, xs = [.ref a, .ref p] ∧ H p = some (.tup [.ref C1, .ref C2]) ∧ H a = some (.ext (ExcAt a C)) ∧ ExCls K C ∧ PySem.W.kitAny K (.ref C) [.ref C1, .ref C2] = some b ∧ Q (.bl b) H
structure Kin (K : PySem.W.Frag) (mg : Str → Option Value) (c : Str) (C C1 C2 : Addr) : Prop where
  at_ : mg c = some (.ref C)
  ex : ExCls K C
  no : PySem.W.kitAny K (.ref C) [.ref C1, .ref C2] = some false
  yes : PySem.W.kitOne K (.ref C) (.ref C) = some true
  val : PySem.W.kitOne K (.ref C) (.type "ValueError") = some true
open Classical in
noncomputable def askedV (R : List D → Str → Prop) (c : Str) (ds : List D) : Out Val := if R ds c then .ok (.pers (.bl true)) else .bad
end DL
namespace DL
open PySem PySem.Spec PyProof.Rows L2
end DL
namespace DL
open PySem PySem.Spec PyProof.Rows L2
theorem DI.setU {K : PySem.W.Frag} {G₀ H₀ G H : Hp} {env : Ev} {σ : St} (I : DI K G₀ H₀ env σ G H) (i : Nat) (v : Option V) : DI K G₀ H₀ (env.set i .un) (σ.set i v) G H where
  le := I.le
  gr := I.gr
  len := by simp [I.len]
  slot := fun j s e => by
    by_cases hj : i = j
    · subst hj
      obtain ⟨rfl, hl⟩ := getSet_eq e
      trivial
    · rw [List.getElem?_set_ne hj] at e
      have q := I.slot j s e
      cases s with
      | un => trivial
      | pers d' => obtain ⟨u, h1, h2⟩ := q; exact ⟨u, by rw [List.getElem?_set_ne hj]; exact h1, h2⟩
      | own ds => obtain ⟨a, vs, o⟩ := q; exact ⟨a, vs, by rw [List.getElem?_set_ne hj]; exact o.at_, o.hp, o.gn, o.new, o.rep⟩
  apart := fun j k ds es a hjk e1 e2 s1 s2 => by
    have nj : i ≠ j := fun z => by subst z; cases (getSet_eq e1).1
    have nk : i ≠ k := fun z => by subst z; cases (getSet_eq e2).1
    rw [List.getElem?_set_ne nj] at e1 s1
    rw [List.getElem?_set_ne nk] at e2 s2
    exact I.apart j k ds es a hjk e1 e2 s1 s2
open Classical in
noncomputable def blkS (R : List D → Str → Prop) (c : Str) (r : Ev → Out (List Val)) (ft : FT) (i n : Nat) : FS := fun env =>
  (r env).bind fun xs => if i < env.length ∧ xs.all Val.isPers = true ∧ xs.length = n ∧ R (xs.map Val.d) c ∧ ft (env.set i .un) = .ok false then .ok (.next (env.set i .un)) else .bad
def tBlk (K : PySem.W.Frag) (mg : Str → Option Value) (R : List D → Str → Prop) (c : Str) (C C1 C2 : Addr) (n i : Nat) (ta : TA) (tf : TT) : TS :=
  tSeq (tAsg (tCall (spK K mg R n [c]) [] E0 ta) (gName i))
  (tSeq (tIfS (tOr (tB (tCB (rT K) (tCons (tVar i) (tCons (tTup (tCons (tC (.ref C1)) (tCons (tC (.ref C2)) tNil))) tNil)))) tf) (tRet (tC (.bl false))) tNext)
  (tIfS (tOr (tNot (tB (tCB (rX K) (tCons (tVar i) (tCons (tC (.ref C)) tNil))))) (tNot (tB (tCB (rX K) (tCons (tVar i) (tCons (tC (.ty "ValueError")) tNil)))))) (tRet (tC (.bl false))) tNext))
theorem dss_blk {X : Cx} {G₀ H₀ : Hp} {st : List Stmt} {R : List D → Str → Prop} {c : Str} {C C1 C2 : Addr} {n i : Nat} {r : Ev → Out (List Val)} {ft : FT} (Z : Kin X.K X.mg c C C1 C2)
    (h : PSs X st (tBlk X.K X.mg R c C C1 C2 n i (tA X.K G₀ H₀ r) (tT X.K G₀ H₀ ft))) : DSs X G₀ H₀ st (blkS R c r ft i n) := by
  intro pins s σ H D I q
  refine h pins s σ H D I ?_
  obtain ⟨env, G, res, d, e, k⟩ := q
  obtain ⟨xs, e1, e⟩ := bind_inv e
  split at e
  rotate_left
  · cases e
  rename_i hh
  obtain ⟨hi, hp, hn, hR, hf⟩ := hh
  cases e
  refine ⟨env, G, xs, d, e1, fun vs G1 H1 g1 l1 a1 => ?_⟩
  have rep := argsRep a1 hp
  show spK X.K X.mg R n [c] (vs ++ []) H1 _ E0
  rw [List.append_nil]
  refine ⟨G1, xs.map Val.d, c, by rw [List.length_map]; exact hn, l1, rep, hR, List.mem_singleton.mpr rfl, fun a C' G2 H2 g2 l2 hc ha => ?_⟩
  rw [Z.at_] at hc
  cases hc
  have d2 := (d.grow (g1.trans g2) l2).setU i (some (.ref a))
  have hv : (σ.set i (some (V.ref a)))[i]? = some (some (.ref a)) := by
    rw [List.getElem?_set]
    simp [← d.len, hi]
  refine ⟨.ref a, hv, by show 2 ≤ sizeLine; decide, fun p hpn => ?_⟩
  have hap : a ≠ p := ne_of_none ha hpn
  have ha3 : upd H2 p (.tup [.ref C1, .ref C2]) a = some (.ext (ExcAt a C)) := by rw [upd_ne hap]; exact ha
  refine ⟨a, C, p, C1, C2, false, rfl, upd_same, ha3, Z.ex, Z.no, false, rfl, ?_⟩
  refine iteF ?_
  have gl := Grow.laidL (o := .tup [.ref C1, .ref C2]) d2.le hpn
  have d3 := d2.grow gl.1 gl.2
  refine ⟨_, G2, false, d3, hf, fun G4 H4 g4 l4 => ?_⟩
  refine iteF ?_
  have ha4 : H4 a = some (.ext (ExcAt a C)) := g4.h _ _ ha3
  have d4 := d3.grow g4 l4
  refine ⟨.ref a, hv, a, C, .ref C, .ref C, true, rfl, rfl, ha4, Z.ex, Z.yes, true, rfl, ?_⟩
  refine iteF ?_
  refine ⟨.ref a, hv, a, C, .ty "ValueError", .type "ValueError", true, rfl, rfl, ha4, Z.ex, Z.val, true, rfl, ?_⟩
  refine iteF ?_
  exact k _ G4 H4 ((g1.g.trans g2.g).trans g4.g) d4
end DL
namespace My
open PySem PySem.Spec PyProof.Rows L2 DL
theorem atI_nn {α : Type} (xs : List α) (i : Int) (h : 0 ≤ i) : atI xs i = xs[i.toNat]? := by
  unfold atI ixN
  rw [if_pos h]
  split
  · rfl
  · rename_i h2
    rw [List.getElem?_eq_none (by omega)]
    rfl
theorem cMul_l {i j : Int} (h1 : -(2 ^ 64) < i) (h2 : i < 2 ^ 64) : cMul i j = true := by
  unfold cMul small64
  rw [decide_eq_true h1, decide_eq_true h2]
  rfl
theorem cDiv_of {i j : Int} (h1 : 0 < j) (h2 : j < 2 ^ 250) : cDiv i j = true := by
  unfold cDiv
  rw [decide_eq_true h1, decide_eq_true h2]
  rfl
@[simp] theorem cPow_10 (j : Int) (h1 : 0 ≤ j) (h2 : j ≤ 1000000) : cPow 10 j = true := by
  unfold cPow
  rw [decide_eq_true h1, decide_eq_true h2]
  decide
@[simp] theorem eqD_int (i j : Int) : eqD (.int i) (.int j) = (i == j) := rfl
@[simp] theorem eqD_nn : eqD .non .non = true := rfl
@[simp] theorem eqD_ni (i : Int) : eqD .non (.int i) = false := rfl
@[simp] theorem eqD_in (i : Int) : eqD (.int i) .non = false := rfl
@[simp] theorem eqD_bb (a b : Bool) : eqD (.bl a) (.bl b) = (a == b) := rfl
@[simp] theorem shal_int (n : Nat) (i : Int) : shal n (.int i) = true := by cases n <;> rfl
@[simp] theorem shal_non (n : Nat) : shal n .non = true := by cases n <;> rfl
@[simp] theorem shal_bl (n : Nat) (b : Bool) : shal n (.bl b) = true := by cases n <;> rfl
@[simp] theorem shal_tup (n : Nat) (ds : List D) : shal (n + 1) (.tup ds) = ds.all (shal n) := rfl
@[simp] theorem shal_lst (n : Nat) (ds : List D) : shal (n + 1) (.lst ds) = ds.all (shal n) := rfl
theorem eqD_tup (xs ys : List D) : eqD (.tup xs) (.tup ys) = eqDL xs ys := by simp only [eqD, eqDL, toPy, PyData.eqv]
theorem eqD_lst (xs ys : List D) : eqD (.lst xs) (.lst ys) = eqDL xs ys := by simp only [eqD, eqDL, toPy, PyData.eqv]
theorem eqDL_nil : eqDL [] [] = true := by simp only [eqDL, toPyL, PyData.eqvAll]
theorem eqDL_cons (x y : D) (xs ys : List D) : eqDL (x :: xs) (y :: ys) = (eqD x y && eqDL xs ys) := by simp only [eqDL, eqD, toPyL, PyData.eqvAll]
theorem eqDL_nc (y : D) (ys : List D) : eqDL [] (y :: ys) = false := by simp only [eqDL, toPyL, PyData.eqvAll]
theorem eqDL_cn (y : D) (ys : List D) : eqDL (y :: ys) [] = false := by simp only [eqDL, toPyL, PyData.eqvAll]
theorem eqDL_map {α : Type} [DecidableEq α] (f : α → D) (h : ∀ x y, eqD (f x) (f y) = decide (x = y)) : ∀ xs ys : List α, eqDL (xs.map f) (ys.map f) = decide (xs = ys)
  | [], [] => by simp [eqDL_nil]
  | [], y :: ys => by simp [eqDL_nc]
  | x :: xs, [] => by simp [eqDL_cn]
  | x :: xs, y :: ys => by
    rw [List.map_cons, List.map_cons, eqDL_cons, h, eqDL_map f h xs ys]
    by_cases h1 : x = y <;> by_cases h2 : xs = ys <;> simp [h1, h2]
theorem forD_inv {g : D → Ev → Out Ev} {fb : FS} (P : Nat → Ev → Prop) : ∀ (ds : List D) (i : Nat) (env : Ev), P i env →
    (∀ (j : Nat) (d : D) (env : Ev), i ≤ j → ds[j - i]? = some d → P j env → ∃ env1 env2, g d env = .ok env1 ∧ fb env1 = .ok (.next env2) ∧ P (j + 1) env2) →
    ∃ env', forD g fb ds env = .ok (.next env') ∧ P (i + ds.length) env'
  | [], i, env, h, _ => ⟨env, rfl, h⟩
  | d :: ds, i, env, h, step => by
    obtain ⟨env1, env2, e1, e2, h2⟩ := step i d env (Nat.le_refl _) (by simp) h
    obtain ⟨env', e3, h3⟩ := forD_inv P ds (i + 1) env2 h2 fun j d' env hj hd hp => step j d' env (by omega) (by
      have : j - i = (j - (i + 1)) + 1 := by omega
      rw [this]; simpa using hd) hp
    refine ⟨env', ?_, ?_⟩
    · simp only [forD, e1, bind_ok, e2]
      exact e3
    · have : i + (d :: ds).length = i + 1 + ds.length := by simp; omega
      rw [this]; exact h3
theorem rng_get {lo : Int} {n j : Nat} {d : D} (h : (rngD lo n)[j]? = some d) : j < n ∧ d = .int (lo + j) := by
  have hj : j < n := by
    have := (List.getElem?_eq_some_iff.mp h).1
    simpa [rngD] using this
  refine ⟨hj, ?_⟩
  simp [rngD, hj] at h
  exact h.symm
@[simp] theorem rng_len (lo : Int) (n : Nat) : (rngD lo n).length = n := by simp [rngD]
theorem compD_map {α : Type} {g : D → Ev → Out Ev} {ft : FT} {fe : FE} (P : Ev → Prop) (f : α → D) (h : α → Option D) : ∀ (xs : List α) (env : Ev), P env →
    (∀ x env, x ∈ xs → P env → ∃ env1, g (f x) env = .ok env1 ∧ P env1 ∧ ((h x = none ∧ ft env1 = .ok false) ∨ ∃ y v, h x = some y ∧ ft env1 = .ok true ∧ fe env1 = .ok v ∧ v.hold = .ok y)) →
    compD g ft fe (xs.map f) env = .ok (xs.filterMap h)
  | [], env, _, _ => rfl
  | x :: xs, env, hp, step => by
    obtain ⟨env1, e1, p1, r⟩ := step x env (by simp) hp
    have ih := compD_map P f h xs env1 p1 fun x env hx => step x env (by simp [hx])
    rcases r with ⟨h1, h2⟩ | ⟨y, v, h1, h2, h3, h4⟩
    · simp only [List.map_cons, compD, e1, bind_ok, h2, List.filterMap_cons, h1]
      exact ih
    · simp only [List.map_cons, compD, e1, bind_ok, h2, List.filterMap_cons, h1, if_true, h3, h4, ih]
noncomputable def lineD (l : Int × List Int) : D := .tup [.int l.1, .lst (l.2.map .int)]
theorem eq_spot (p q : Int × Int) : eqD (spotD p) (spotD q) = decide (p = q) := by
  unfold spotD
  rw [eqD_tup, eqDL_cons, eqDL_cons, eqDL_nil, eqD_int, eqD_int]
  obtain ⟨a, b⟩ := p
  obtain ⟨c, d⟩ := q
  by_cases h1 : a = c <;> by_cases h2 : b = d <;> simp [h1, h2]
theorem any_spot (p : Int × Int) : ∀ ps : List (Int × Int), (ps.map spotD).any (fun z => eqD z (spotD p)) = decide (p ∈ ps)
  | [] => by simp
  | q :: ps => by
    rw [List.map_cons, List.any_cons, any_spot p ps, eq_spot]
    by_cases h1 : q = p
    · simp [h1]
    · have : ¬ p = q := fun h => h1 h.symm
      simp [h1, this]
theorem shal_spot (n : Nat) (p : Int × Int) : shal (n + 1) (spotD p) = true := by simp [spotD]
theorem cut_take (l : List D) (i : Int) (n : Nat) (hi : i = n) : cutD l none (some i) = l.take n := by
  subst hi
  show (l.drop 0).take ((if (n : Int) < 0 then ((n : Int) + (l.length : Int)).toNat else min (n : Int).toNat l.length) - 0) = l.take n
  rw [if_neg (by omega), Int.toNat_natCast, List.drop_zero, Nat.sub_zero]
  by_cases h : n ≤ l.length
  · rw [Nat.min_eq_left h]
  · rw [Nat.min_eq_right (by omega), List.take_of_length_le (Nat.le_refl _), List.take_of_length_le (by omega)]
theorem cut_drop (l : List D) (i : Int) (n : Nat) (hi : i = n) : cutD l (some i) none = l.drop n := by
  subst hi
  show (l.drop (if (n : Int) < 0 then ((n : Int) + (l.length : Int)).toNat else min (n : Int).toNat l.length)).take (l.length - (if (n : Int) < 0 then ((n : Int) + (l.length : Int)).toNat else min (n : Int).toNat l.length)) = l.drop n
  rw [if_neg (by omega), Int.toNat_natCast, List.take_of_length_le (by rw [List.length_drop]; exact Nat.le_refl _)]
  by_cases h : n ≤ l.length
  · rw [Nat.min_eq_left h]
  · rw [Nat.min_eq_right (by omega), List.drop_of_length_le (Nat.le_refl _), List.drop_of_length_le (by omega)]
structure Frm where
  w : Int
  h : Int
  s : Int
  r : Int
  u : Int
noncomputable def frmD (f : Frm) : D := .tup [.int f.w, .int f.h, .int f.s, .int f.r, .int f.u]
structure FrmOk (f : Frm) : Prop where
  w1 : 1 ≤ f.w
  w2 : f.w ≤ 10 ^ 9
  h1 : 1 ≤ f.h
  h2 : f.h ≤ 10 ^ 18
  s1 : -3 ≤ f.s
  s2 : f.s ≤ 3
  r1 : -(10 ^ 30) ≤ f.r
  r2 : f.r ≤ 10 ^ 30
  u1 : -(10 ^ 30) ≤ f.u
  u2 : f.u ≤ 10 ^ 30
noncomputable def putP (f : Frm) (p : Int × Int) : Int × Int := (f.w * p.1 + f.r, f.h * p.2 + f.s * p.1 + f.u)
noncomputable def boardV (ps : List (Int × Int)) : List (Int × List Int) := (isort (ps.map (·.1)).eraseDups).map fun x => (x, isort ((ps.filter fun p => p.1 == x).map (·.2)))
noncomputable def f_put : FS :=
 seqS (asgS (gT [2, 3, 4, 5, 6]) (fVar 1))
 (retS (fComp [2, 5, 3, 4, 6] 2 (fItL (fVar 0)) (gT [5, 6]) (fYes) (fTup (hCons (f2 gAdd (f2 gMul (fVar 0) (fVar 5)) (fVar 1)) (hCons (f2 gAdd (f2 gAdd (f2 gMul (fVar 2) (fVar 6)) (f2 gMul (fVar 3) (fVar 5))) (fVar 4)) (hNil))))))
noncomputable def n_put : List D → Out Val
  | [.lst ds, .tup [.int w, .int h, .int s, .int r, .int u]] => match asSpots ds with
    | some ps => if ps.length ≤ 100000 ∧ 1 ≤ w ∧ w ≤ 10 ^ 9 ∧ 1 ≤ h ∧ h ≤ 10 ^ 18 ∧ -3 ≤ s ∧ s ≤ 3 then .ok (.fresh ((ps.map (putP ⟨w, h, s, r, u⟩)).map spotD)) else .bad
    | none => .bad
  | _ => .bad
theorem nice_put : ∀ ds v, ds.length = 2 → n_put ds = .ok v → runD 7 f_put ds = .ok v := by
  intro ds v hlen h
  clear hlen
  unfold n_put at h
  split at h
  · rename_i ds w h' s r u
    split at h
    · rename_i ps hps
      split at h
      · rename_i hb
        cases h
        obtain ⟨hl, w1, w2, h1, h2, s1, s2⟩ := hb
        rw [asSpots_of hps]
        have cw : ∀ j, cMul w j = true := fun j => cMul_l (by omega) (by omega)
        have ch : ∀ j, cMul h' j = true := fun j => cMul_l (by omega) (by omega)
        have cs : ∀ j, cMul s j = true := fun j => cMul_l (by omega) (by omega)
        have loop := compD_map (g := gT [5, 6]) (ft := fYes) (fe := fTup (hCons (f2 gAdd (f2 gMul (fVar 0) (fVar 5)) (fVar 1)) (hCons (f2 gAdd (f2 gAdd (f2 gMul (fVar 2) (fVar 6)) (f2 gMul (fVar 3) (fVar 5))) (fVar 4)) (hNil))))
          (fun env => ∃ s5 s6, env = [.pers (.int w), .pers (.int r), .pers (.int h'), .pers (.int s), .pers (.int u), s5, s6]) spotD (fun p => some (spotD (putP ⟨w, h', s, r, u⟩ p))) ps
          [.pers (.int w), .pers (.int r), .pers (.int h'), .pers (.int s), .pers (.int u), .un, .un] ⟨_, _, rfl⟩ (fun p env _ ⟨s5, s6, he⟩ => by
            subst he
            refine ⟨[.pers (.int w), .pers (.int r), .pers (.int h'), .pers (.int s), .pers (.int u), .pers (.int p.1), .pers (.int p.2)], by simp [spotD], ⟨_, _, rfl⟩, .inr ⟨_, .pers (spotD (putP ⟨w, h', s, r, u⟩ p)), rfl, rfl, ?_, rfl⟩⟩
            simp [cw, ch, cs, spotD, putP])
        simp at loop
        have e : ps.filterMap (fun p => some (spotD (putP ⟨w, h', s, r, u⟩ p))) = (ps.map (putP ⟨w, h', s, r, u⟩)).map spotD := by
          rw [List.filterMap_eq_map', List.map_map]
          rfl
        simp at e
        simp [f_put, hl, loop, e]
      · cases h
    · cases h
  · cases h
noncomputable def f_cell_at : FS :=
 seqS (ifS (fTrB (f2 gLt (fVar 1) (fB gLen (fCons (fVar 0) (fNil)))))
 (retS (f2 gIx (fVar 0) (fVar 1)))
 (nxtS))
 (retS (fC (.int 0)))
noncomputable def n_cell_at : List D → Out Val
  | [.scr ns, .int k] => if 0 ≤ k then .ok (.pers (.int (ns.getD k.toNat 0))) else .bad
  | _ => .bad
theorem nice_cell_at : ∀ ds v, ds.length = 2 → n_cell_at ds = .ok v → runD 2 f_cell_at ds = .ok v := by
  intro ds v hlen h
  clear hlen
  unfold n_cell_at at h
  split at h
  · rename_i ns k
    split at h
    · rename_i hk
      cases h
      by_cases hl : k < (ns.length : Int)
      · have hn : k.toNat < ns.length := by omega
        simp [f_cell_at, atI_nn _ _ hk, hl, List.getElem?_eq_getElem hn]
      · have hn : ns.length ≤ k.toNat := by omega
        simp [f_cell_at, atI_nn _ _ hk, hl, List.getElem?_eq_none hn]
    · cases h
  · cases h
noncomputable def f_block : FS :=
 seqS (setS 2 true (fC (.int 0)))
 (seqS (ifS (fTrB (f2 gLt (f2 gAdd (fC (.int 1)) (f2 gMod (f2 gDiv (fVar 1) (fC (.int 8))) (fC (.int 62)))) (fB gLen (fCons (fVar 0) (fNil)))))
 (setS 2 true (f2 gDiv (f2 gIx (fVar 0) (f2 gAdd (fC (.int 1)) (f2 gMod (f2 gDiv (fVar 1) (fC (.int 8))) (fC (.int 62))))) (f2 gPow (fC (.int 10)) (fC (.int 64)))))
 (nxtS))
 (seqS (forS (fRng1 (fCons (f2 gMod (fVar 1) (fC (.int 8))) (fNil))) (gN 3)
 (setS 2 true (f2 gDiv (fVar 2) (fC (.int 2147483587)))))
 (retS (fVar 2))))
noncomputable def divs : Nat → Int → Int
  | 0, c => c
  | n + 1, c => divs n (c / 2147483587)
noncomputable def blockV (ns : List Int) (k : Int) : Int := divs (k % 8).toNat (if 1 + k / 8 % 62 < (ns.length : Int) then ns.getD (1 + k / 8 % 62).toNat 0 / 10 ^ 64 else 0)
theorem block_for {a b s : Slot} : ∀ (xs : List D) (c : Int), (∀ d ∈ xs, ∃ i, d = .int i) →
    ∃ s', forD (gN 3) (setS 2 true (f2 gDiv (fVar 2) (fC (.int 2147483587)))) xs [a, b, .pers (.int c), s] = .ok (.next [a, b, .pers (.int (divs xs.length c)), s']) := by
  intro xs
  induction xs generalizing s with
  | nil => intro c _; exact ⟨s, rfl⟩
  | cons d xs ih =>
    intro c h
    obtain ⟨i, rfl⟩ := h d (by simp)
    obtain ⟨s', e⟩ := ih (s := .pers (.int i)) (c / 2147483587) fun d hd => h d (by simp [hd])
    refine ⟨s', ?_⟩
    have hc : cDiv c 2147483587 = true := cDiv_of (by decide) (by decide)
    simp [forD, hc, divs]
    simpa using e
noncomputable def n_block : List D → Out Val
  | [.scr ns, .int k] => if 0 ≤ k then .ok (.pers (.int (blockV ns k))) else .bad
  | _ => .bad
theorem nice_block : ∀ ds v, ds.length = 2 → n_block ds = .ok v → runD 4 f_block ds = .ok v := by
  intro ds v hlen h
  clear hlen
  unfold n_block at h
  split at h
  · rename_i ns k
    split at h
    · rename_i hk
      cases h
      have h8 : cDiv k 8 = true := cDiv_of (by decide) (by decide)
      have hr : (-1000000 : Int) ≤ k % 8 ∧ k % 8 ≤ 1000000 := by omega
      have hp : ∀ (i : Int), cDiv i 10000000000000000000000000000000000000000000000000000000000000000 = true := fun i => cDiv_of (by decide) (by decide)
      have all : ∀ d ∈ rngD 0 (k % 8).toNat, ∃ i, d = D.int i := by
        intro d hd
        simp only [rngD, List.mem_map] at hd
        obtain ⟨i, _, rfl⟩ := hd
        exact ⟨_, rfl⟩
      unfold blockV
      by_cases hl : 1 + k / 8 % 62 < (ns.length : Int)
      · have hn : (1 + k / 8 % 62).toNat < ns.length := by omega
        obtain ⟨s', e⟩ := block_for (a := .pers (.scr ns)) (b := .pers (.int k)) (s := .un) (rngD 0 (k % 8).toNat) (ns[(1 + k / 8 % 62).toNat] / 10 ^ 64) all
        have e' := e
        simp at e'
        simp [f_block, h8, hl, atI_nn _ _ (show 0 ≤ 1 + k / 8 % 62 by omega), List.getElem?_eq_getElem hn, hp, hr, e']
      · obtain ⟨s', e⟩ := block_for (a := .pers (.scr ns)) (b := .pers (.int k)) (s := .un) (rngD 0 (k % 8).toNat) 0 all
        have e' := e
        simp at e'
        simp [f_block, h8, hl, hr, e']
    · cases h
  · cases h
noncomputable def f_mixed : FS :=
 seqS (setS 2 true (fC (.int 0)))
 (seqS (ifS (fTrB (f2 gGt (fB gLen (fCons (fVar 0) (fNil))) (fC (.int 0))))
 (setS 2 true (f2 gIx (fVar 0) (fC (.int 0))))
 (nxtS))
 (seqS (ifS (fAnd (fTrB (f2 gEq (f2 gMod (f2 gDiv (fVar 2) (f2 gPow (fC (.int 10)) (fC (.int 6)))) (fC (.int 2))) (fC (.int 1)))) (fTrB (f2 gNe (fCall n_block (fCons (fVar 0) (fCons (fVar 1) (fNil)))) (fC (.int 0)))))
 (retS (f2 gMod (fCall n_block (fCons (fVar 0) (fCons (fVar 1) (fNil)))) (fC (.int 2147483587))))
 (nxtS))
 (seqS (ifS (fTrB (f2 gGt (fB gLen (fCons (fVar 0) (fNil))) (fC (.int 0))))
 (setS 2 true (f2 gIx (fVar 0) (f2 gMod (fVar 1) (fB gMin2 (fCons (fC (.int 63)) (fCons (fB gLen (fCons (fVar 0) (fNil))) (fNil)))))))
 (nxtS))
 (seqS (setS 3 true (f2 gAdd (f2 gMod (fVar 2) (f2 gPow (fC (.int 10)) (fC (.int 18)))) (f2 gMul (fC (.int 48271)) (f2 gAdd (fVar 1) (fC (.int 1))))))
 (seqS (setS 3 true (f2 gAdd (f2 gMod (f2 gMul (fVar 3) (fVar 3)) (fC (.int 2147483629))) (f2 gMul (fC (.int 69621)) (fVar 1))))
 (retS (f2 gMod (f2 gMul (fVar 3) (fVar 3)) (fC (.int 2147483587)))))))))
noncomputable def cell0 (ns : List Int) : Int := if 0 < ns.length then ns.getD 0 0 else 0
noncomputable def cellK (ns : List Int) (k : Int) : Int := if 0 < ns.length then ns.getD (k % (min 63 (ns.length : Int))).toNat 0 else 0
noncomputable def mix1 (ns : List Int) (k : Int) : Int := cellK ns k % 10 ^ 18 + 48271 * (k + 1)
noncomputable def mix2 (ns : List Int) (k : Int) : Int := mix1 ns k * mix1 ns k % 2147483629 + 69621 * k
noncomputable def mixedV (ns : List Int) (k : Int) : Int :=
  if cell0 ns / 10 ^ 6 % 2 = 1 ∧ blockV ns k ≠ 0 then blockV ns k % 2147483587 else mix2 ns k * mix2 ns k % 2147483587
theorem mixed_nn (ns : List Int) (k : Int) : 0 ≤ mixedV ns k := by
  unfold mixedV
  split
  · exact Int.emod_nonneg _ (by decide)
  · exact Int.emod_nonneg _ (by decide)
noncomputable def n_mixed : List D → Out Val
  | [.scr ns, .int k] => if 0 ≤ k ∧ k ≤ 1000000 then .ok (.pers (.int (mixedV ns k))) else .bad
  | _ => .bad
theorem nice_mixed : ∀ ds v, ds.length = 2 → n_mixed ds = .ok v → runD 4 f_mixed ds = .ok v := by
  intro ds v hlen h
  clear hlen
  unfold n_mixed at h
  split at h
  · rename_i ns k
    split at h
    · rename_i hk
      cases h
      obtain ⟨hk0, hk1⟩ := hk
      have d6 : ∀ i : Int, cDiv i 1000000 = true := fun i => cDiv_of (by decide) (by decide)
      have m1 : cMul 48271 (k + 1) = true := cMul_l (by decide) (by decide)
      have m2 : cMul 69621 k = true := cMul_l (by decide) (by decide)
      have hx := Int.emod_nonneg (cellK ns k) (show (10 : Int) ^ 18 ≠ 0 by decide)
      have hy := Int.emod_lt_of_pos (cellK ns k) (show (0 : Int) < 10 ^ 18 by decide)
      have e1 : 0 ≤ mix1 ns k ∧ mix1 ns k < 2 ^ 64 := by
        unfold mix1
        omega
      have e2 : 0 ≤ mix2 ns k ∧ mix2 ns k < 2 ^ 64 := by
        have h1 := Int.emod_nonneg (mix1 ns k * mix1 ns k) (show (2147483629 : Int) ≠ 0 by decide)
        have h2 := Int.emod_lt_of_pos (mix1 ns k * mix1 ns k) (show (0 : Int) < 2147483629 by decide)
        unfold mix2
        omega
      have m3 : cMul (mix1 ns k) (mix1 ns k) = true := cMul_l (by omega) e1.2
      have m4 : cMul (mix2 ns k) (mix2 ns k) = true := cMul_l (by omega) e2.2
      by_cases hn : 0 < ns.length
      · have hn' : (0 : Int) < ns.length := by omega
        have c0 : ns[0]? = some (cell0 ns) := by
          unfold cell0
          rw [if_pos hn, List.getD_eq_getElem?_getD, List.getElem?_eq_getElem hn]
          rfl
        have hmin : (if (ns.length : Int) < 63 then (ns.length : Int) else 63) = min 63 (ns.length : Int) := by
          rw [Int.min_def]; split <;> split <;> omega
        have hmp : 0 < min 63 (ns.length : Int) := by omega
        have hq0 : 0 ≤ k % min 63 (ns.length : Int) := Int.emod_nonneg _ (by omega)
        have hq1 : k % min 63 (ns.length : Int) < min 63 (ns.length : Int) := Int.emod_lt_of_pos _ hmp
        have hq2 : (k % min 63 (ns.length : Int)).toNat < ns.length := by omega
        have ck : ns[(k % min 63 (ns.length : Int)).toNat]? = some (cellK ns k) := by
          unfold cellK
          rw [if_pos hn, List.getD_eq_getElem?_getD, List.getElem?_eq_getElem hq2]
          rfl
        have a0 : atI ns 0 = some (cell0 ns) := by rw [atI_nn _ _ (by decide)]; exact c0
        have ak : atI ns (k % min 63 (ns.length : Int)) = some (cellK ns k) := by rw [atI_nn _ _ hq0]; exact ck
        have u1 : cellK ns k % 1000000000000000000 + 48271 * (k + 1) = mix1 ns k := by unfold mix1; rfl
        have u2 : mix1 ns k * mix1 ns k % 2147483629 + 69621 * k = mix2 ns k := rfl
        unfold mixedV
        by_cases hc : cell0 ns / 10 ^ 6 % 2 = 1
        · have hc' : cell0 ns / 1000000 % 2 = 1 := hc
          by_cases hb : blockV ns k = 0
          · simp [f_mixed, n_block, hn, hn', hk0, a0, d6, hc', hb, hmin, hmp, ak, m1, m2, u1, m3, u2, m4]
          · simp [f_mixed, n_block, hn, hn', hk0, a0, d6, hc', hb, hmin, hmp, ak, m1, m2, u1, m3, u2, m4]
        · have hc' : ¬ cell0 ns / 1000000 % 2 = 1 := hc
          simp [f_mixed, n_block, hn, hn', hk0, a0, d6, hc', hmin, hmp, ak, m1, m2, u1, m3, u2, m4]
      · have hnil : ns = [] := List.eq_nil_of_length_eq_zero (by omega)
        subst hnil
        have u1 : 48271 * (k + 1) = mix1 [] k := by unfold mix1 cellK; simp
        have u2 : mix1 [] k * mix1 [] k % 2147483629 + 69621 * k = mix2 [] k := rfl
        have z0 : cell0 [] = 0 := rfl
        unfold mixedV
        simp [f_mixed, n_block, z0, d6, m1, m2, u1, m3, u2, m4]
    · cases h
  · cases h
noncomputable def f_frame : FS :=
 seqS (setS 1 true (f2 gIx (fLst (hCons (fC (.int 1)) (hCons (f2 gAdd (fC (.int 1)) (f2 gMod (fCall n_cell_at (fCons (fVar 0) (fCons (fC (.int 0)) (fNil)))) (f2 gPow (fC (.int 10)) (fC (.int 9))))) (hNil)))) (f2 gMod (fCall n_mixed (fCons (fVar 0) (fCons (fC (.int 14)) (fNil)))) (fC (.int 2)))))
 (seqS (setS 2 true (f2 gIx (fLst (hCons (fC (.int 1)) (hCons (f2 gAdd (fC (.int 1)) (f2 gMod (fCall n_cell_at (fCons (fVar 0) (fCons (fC (.int 1)) (fNil)))) (f2 gPow (fC (.int 10)) (fC (.int 18))))) (hNil)))) (f2 gMod (fCall n_mixed (fCons (fVar 0) (fCons (fC (.int 15)) (fNil)))) (fC (.int 2)))))
 (seqS (setS 3 true (f2 gIx (fLst (hCons (fC (.int 20)) (hCons (f2 gPow (fC (.int 10)) (fC (.int 30))) (hNil)))) (f2 gMod (fCall n_mixed (fCons (fVar 0) (fCons (fC (.int 16)) (fNil)))) (fC (.int 2)))))
 (seqS (setS 4 true (f2 gSub (f2 gMod (fCall n_mixed (fCons (fVar 0) (fCons (fC (.int 17)) (fNil)))) (fC (.int 7))) (fC (.int 3))))
 (seqS (setS 5 true (f2 gSub (f2 gMod (fCall n_cell_at (fCons (fVar 0) (fCons (fC (.int 2)) (fNil)))) (fVar 3)) (f2 gDiv (fVar 3) (fC (.int 2)))))
 (retS (fTup (hCons (fVar 1) (hCons (fVar 2) (hCons (fVar 4) (hCons (fVar 5) (hCons (f2 gSub (f2 gMod (fCall n_cell_at (fCons (fVar 0) (fCons (fC (.int 3)) (fNil)))) (fVar 3)) (f2 gDiv (fVar 3) (fC (.int 2)))) (hNil))))))))))))
noncomputable def farV (ns : List Int) : Int := if mixedV ns 16 % 2 = 0 then 20 else 10 ^ 30
noncomputable def frmV (ns : List Int) : Frm where
  w := if mixedV ns 14 % 2 = 0 then 1 else 1 + ns.getD 0 0 % 10 ^ 9
  h := if mixedV ns 15 % 2 = 0 then 1 else 1 + ns.getD 1 0 % 10 ^ 18
  s := mixedV ns 17 % 7 - 3
  r := ns.getD 2 0 % farV ns - farV ns / 2
  u := ns.getD 3 0 % farV ns - farV ns / 2
theorem far_ok (ns : List Int) : 20 ≤ farV ns ∧ farV ns ≤ 10 ^ 30 := by
  unfold farV
  split <;> decide
theorem frm_ok (ns : List Int) : FrmOk (frmV ns) := by
  have hf := far_ok ns
  have a1 := Int.emod_nonneg (ns.getD 2 0) (show farV ns ≠ 0 by omega)
  have a2 := Int.emod_lt_of_pos (ns.getD 2 0) (show 0 < farV ns by omega)
  have b1 := Int.emod_nonneg (ns.getD 3 0) (show farV ns ≠ 0 by omega)
  have b2 := Int.emod_lt_of_pos (ns.getD 3 0) (show 0 < farV ns by omega)
  constructor <;> simp only [frmV]
  · split <;> omega
  · split <;> omega
  · split <;> omega
  · split <;> omega
  · omega
  · omega
  · omega
  · omega
  · omega
  · omega
noncomputable def n_frame : List D → Out Val
  | [.scr ns] => .ok (.pers (frmD (frmV ns)))
  | _ => .bad
theorem atI_two (a b : D) (m : Int) : atI [a, b] (m % 2) = some (if m % 2 = 0 then a else b) := by
  rw [atI_nn _ _ (by omega)]
  have : m % 2 = 0 ∨ m % 2 = 1 := by omega
  rcases this with h | h <;> rw [h] <;> rfl
theorem nice_frame : ∀ ds v, ds.length = 1 → n_frame ds = .ok v → runD 6 f_frame ds = .ok v := by
  intro ds v hlen h
  clear hlen
  unfold n_frame at h
  split at h
  · rename_i ns
    cases h
    have hf := far_ok ns
    have d2 : cDiv (farV ns) 2 = true := cDiv_of (by decide) (by decide)
    have hfar : (if mixedV ns 16 % 2 = 0 then D.int 20 else D.int 1000000000000000000000000000000) = D.int (farV ns) := by
      unfold farV
      split <;> rfl
    have hw : (if mixedV ns 14 % 2 = 0 then D.int 1 else D.int (1 + ns.getD 0 0 % 1000000000)) = D.int (frmV ns).w := by
      simp only [frmV]; split <;> rfl
    have hh : (if mixedV ns 15 % 2 = 0 then D.int 1 else D.int (1 + ns.getD 1 0 % 1000000000000000000)) = D.int (frmV ns).h := by
      simp only [frmV]; split <;> rfl
    have hp : 0 < farV ns := by omega
    simp only [List.getD_eq_getElem?_getD] at hw hh
    simp [f_frame, n_mixed, n_cell_at, atI_two, hw, hh, hfar, hp, d2, frmD]
    simp [frmV]
  · cases h
noncomputable def f_pegs : FS :=
 seqS (setS 1 true (fCall n_mixed (fCons (fVar 0) (fCons (fC (.int 0)) (fNil)))))
 (seqS (setS 2 true (f2 gIx (fLst (hCons (f2 gMod (fVar 1) (fC (.int 7))) (hCons (f2 gMod (fVar 1) (fC (.int 7))) (hCons (fC (.int 12)) (hNil))))) (f2 gMod (f2 gDiv (f2 gMod (f2 gDiv (fVar 1) (fC (.int 7))) (fC (.int 8))) (fC (.int 3))) (fC (.int 3)))))
 (seqS (setS 3 false (fLst (hNil)))
 (seqS (forS (fRng1 (fCons (fVar 2) (fNil))) (gN 4)
 (seqS (setS 1 true (fCall n_mixed (fCons (fVar 0) (fCons (f2 gAdd (fC (.int 1)) (fVar 4)) (fNil)))))
 (seqS (setS 5 true (fTup (hCons (f2 gMul (fC (.int 2)) (f2 gMod (fVar 1) (fC (.int 5)))) (hCons (f2 gMod (f2 gDiv (fVar 1) (fC (.int 5))) (fC (.int 7))) (hNil)))))
 (ifS (fTrB (f2 gNin (fVar 5) (fVar 3)))
 (appS 3 (fVar 5))
 (nxtS)))))
 (retS (fVar 3)))))
noncomputable def pegAt (ns : List Int) (k : Nat) : Int × Int := (2 * (mixedV ns (1 + k) % 5), mixedV ns (1 + k) / 5 % 7)
noncomputable def manyV (ns : List Int) : Int := if mixedV ns 0 / 7 % 8 / 3 % 3 = 2 then 12 else mixedV ns 0 % 7
noncomputable def pegsUpTo (ns : List Int) : Nat → List (Int × Int)
  | 0 => []
  | n + 1 => if pegAt ns n ∈ pegsUpTo ns n then pegsUpTo ns n else pegsUpTo ns n ++ [pegAt ns n]
noncomputable def pegsV (ns : List Int) : List (Int × Int) := pegsUpTo ns (manyV ns).toNat
theorem many_le (ns : List Int) : 0 ≤ manyV ns ∧ manyV ns ≤ 12 := by
  unfold manyV
  split <;> omega
theorem pegs_len (ns : List Int) : ∀ n, (pegsUpTo ns n).length ≤ n
  | 0 => Nat.le_refl _
  | n + 1 => by
    have := pegs_len ns n
    unfold pegsUpTo
    split
    · omega
    · simp; omega
theorem pegs_nodup (ns : List Int) : ∀ n, (pegsUpTo ns n).Nodup
  | 0 => List.nodup_nil
  | n + 1 => by
    unfold pegsUpTo
    split
    · exact pegs_nodup ns n
    · rename_i h
      rw [List.nodup_append]
      refine ⟨pegs_nodup ns n, by simp, fun a ha b hb => ?_⟩
      have : b = pegAt ns n := by simpa using hb
      subst this
      rintro rfl
      exact h ha
theorem pegAt_range (ns : List Int) (k : Nat) : (∃ i : Int, (pegAt ns k).1 = 2 * i ∧ 0 ≤ i ∧ i ≤ 4) ∧ 0 ≤ (pegAt ns k).2 ∧ (pegAt ns k).2 ≤ 6 := by
  unfold pegAt
  refine ⟨⟨mixedV ns (1 + k) % 5, rfl, by omega, by omega⟩, by omega, by omega⟩
theorem pegs_range (ns : List Int) : ∀ n, ∀ p ∈ pegsUpTo ns n, (∃ i : Int, p.1 = 2 * i ∧ 0 ≤ i ∧ i ≤ 4) ∧ 0 ≤ p.2 ∧ p.2 ≤ 6
  | 0, p, h => by simp [pegsUpTo] at h
  | n + 1, p, h => by
    unfold pegsUpTo at h
    split at h
    · exact pegs_range ns n p h
    · rcases List.mem_append.mp h with h | h
      · exact pegs_range ns n p h
      · have : p = pegAt ns n := by simpa using h
        rw [this]; exact pegAt_range ns n
noncomputable def n_pegs : List D → Out Val
  | [.scr ns] => .ok (.fresh ((pegsV ns).map spotD))
  | _ => .bad
theorem nice_pegs : ∀ ds v, ds.length = 1 → n_pegs ds = .ok v → runD 6 f_pegs ds = .ok v := by
  intro ds v hlen h
  clear hlen
  unfold n_pegs at h
  split at h
  · rename_i ns
    cases h
    have hm0 := mixed_nn ns 0
    have d7 : cDiv (mixedV ns 0) 7 = true := cDiv_of (by decide) (by decide)
    have d3 : cDiv (mixedV ns 0 / 7 % 8) 3 = true := cDiv_of (by decide) (by decide)
    have hmany := many_le ns
    have hat : atI [D.int (mixedV ns 0 % 7), D.int (mixedV ns 0 % 7), D.int 12] (mixedV ns 0 / 7 % 8 / 3 % 3) = some (.int (manyV ns)) := by
      rw [atI_nn _ _ (by omega)]
      unfold manyV
      have : mixedV ns 0 / 7 % 8 / 3 % 3 = 0 ∨ mixedV ns 0 / 7 % 8 / 3 % 3 = 1 ∨ mixedV ns 0 / 7 % 8 / 3 % 3 = 2 := by omega
      rcases this with h | h | h <;> rw [h] <;> rfl
    have hr : (-1000000 : Int) ≤ manyV ns ∧ manyV ns ≤ 1000000 := by omega
    have loop := forD_inv (g := gN 4) (fb := seqS (setS 1 true (fCall n_mixed (fCons (fVar 0) (fCons (f2 gAdd (fC (.int 1)) (fVar 4)) (fNil)))))
 (seqS (setS 5 true (fTup (hCons (f2 gMul (fC (.int 2)) (f2 gMod (fVar 1) (fC (.int 5)))) (hCons (f2 gMod (f2 gDiv (fVar 1) (fC (.int 5))) (fC (.int 7))) (hNil)))))
 (ifS (fTrB (f2 gNin (fVar 5) (fVar 3)))
 (appS 3 (fVar 5))
 (nxtS)))) (fun i env => ∃ s1 s2 s4 s5, env = [.pers (.scr ns), s1, s2, .own ((pegsUpTo ns i).map spotD), s4, s5]) (rngD 0 (manyV ns).toNat) 0
      [.pers (.scr ns), .pers (.int (mixedV ns 0)), .pers (.int (manyV ns)), .own [], .un, .un] ⟨_, _, _, _, rfl⟩ (fun j d env _ hd ⟨s1, s2, s4, s5, he⟩ => by
        subst he
        obtain ⟨hj, rfl⟩ := rng_get hd
        simp only [Nat.sub_zero] at hj ⊢
        have hk : (0 : Int) ≤ 1 + (j : Int) ∧ 1 + (j : Int) ≤ 1000000 := by omega
        have c2 : cMul 2 (mixedV ns (1 + (j : Int)) % 5) = true := cMul_l (by decide) (by decide)
        have d5 : cDiv (mixedV ns (1 + (j : Int))) 5 = true := cDiv_of (by decide) (by decide)
        have hs : shal 4 (.tup [.int (2 * (mixedV ns (1 + (j : Int)) % 5)), .int (mixedV ns (1 + (j : Int)) / 5 % 7)]) = true := by simp
        have ha : ((pegsUpTo ns j).map spotD).any (fun z => eqD z (.tup [.int (2 * (mixedV ns (1 + (j : Int)) % 5)), .int (mixedV ns (1 + (j : Int)) / 5 % 7)])) = decide (pegAt ns j ∈ pegsUpTo ns j) := any_spot (pegAt ns j) _
        have hl := pegs_len ns j
        have hl2 : (pegsUpTo ns j).length < 100000 := by omega
        by_cases hin : pegAt ns j ∈ pegsUpTo ns j
        · rw [decide_eq_true hin] at ha
          refine ⟨_, [.pers (.scr ns), .pers (.int (mixedV ns (1 + (j : Int)))), s2, .own ((pegsUpTo ns j).map spotD), .pers (.int j), .pers (spotD (pegAt ns j))], rfl, ?_, ⟨_, _, _, _, by rw [pegsUpTo, if_pos hin]⟩⟩
          simp [-List.any_map, n_mixed, hk, c2, d5, ha, spotD, pegAt, hl2]
        · rw [decide_eq_false hin] at ha
          refine ⟨_, [.pers (.scr ns), .pers (.int (mixedV ns (1 + (j : Int)))), s2, .own ((pegsUpTo ns j ++ [pegAt ns j]).map spotD), .pers (.int j), .pers (spotD (pegAt ns j))], rfl, ?_, ⟨_, _, _, _, by rw [pegsUpTo, if_neg hin]⟩⟩
          simp [-List.any_map, n_mixed, hk, c2, d5, ha, spotD, pegAt, hl2])
    obtain ⟨env', e, s1, s2, s4, s5, he⟩ := loop
    subst he
    simp only [rng_len, Nat.zero_add] at e
    unfold f_pegs
    simp at e
    simp [n_mixed, d7, d3, hat, hr, e]
    rfl
  · cases h
end My
namespace My
open PySem PySem.Spec PyProof.Rows L2 DL
structure Gate where
  x : Int
  lo : Option Int
  hi : Option Int
  w : Int
deriving DecidableEq
theorem seq_next {f g : FS} {env env' : Ev} (h : f env = .ok (.next env')) : seqS f g env = g env' := by
  simp only [seqS, h, bind_ok]
theorem met_sub (ns : List Int) : (met ns).Sublist ns := by
  refine met_ind (fun ns => (met ns).Sublist ns) (List.Sublist.refl _) (fun l k ih => ?_) ns
  rw [met_snoc]
  split
  · exact ih.trans (List.sublist_append_left l [k])
  · exact ih.append (List.Sublist.refl _)
theorem groups_met (qs : List (Int × Int)) : groups qs = (met (qs.map (·.1))).map fun x => (x, (qs.filter fun p => p.1 == x).map (·.2)) := by
  have ind : ∀ (n : Nat) (qs : List (Int × Int)), qs.length = n → groups qs = (met (qs.map (·.1))).map fun x => (x, (qs.filter fun p => p.1 == x).map (·.2)) := by
    intro n
    induction n with
    | zero => intro qs h; rw [List.eq_nil_of_length_eq_zero h]; rfl
    | succ n ih =>
      intro qs h
      rcases List.eq_nil_or_concat qs with e | ⟨m, p, e⟩
      · subst e; simp at h
      · have e' : qs = m ++ [p] := by simpa using e
        subst e'
        have ihm := ih m (by simpa using h)
        rw [groups_snoc, ihm, List.map_append, List.map_cons, List.map_nil, met_snoc]
        have hany : ((met (m.map (·.1))).map fun x => ((x, (m.filter fun p => p.1 == x).map (·.2)) : Grp)).any (fun g => decide (g.1 = p.1)) = decide (p.1 ∈ met (m.map (·.1))) := by
          rw [List.any_map]
          by_cases hp : p.1 ∈ met (m.map (·.1))
          · rw [decide_eq_true hp, List.any_eq_true]
            exact ⟨p.1, hp, by simp⟩
          · rw [decide_eq_false hp, List.any_eq_false]
            intro x hx
            simp only [Function.comp, decide_eq_true_eq]
            intro z
            exact hp (z ▸ hx)
        unfold addG
        rw [hany]
        by_cases hp : p.1 ∈ met (m.map (·.1))
        · rw [if_pos (decide_eq_true hp), if_pos hp, List.map_map]
          refine List.map_congr_left fun x _ => ?_
          simp only [Function.comp, List.filter_append, List.map_append]
          by_cases hx : x = p.1
          · subst hx
            simp
          · have hx' : ¬ p.1 = x := fun z => hx z.symm
            simp [hx, hx']
        · rw [if_neg (by simp [hp]), if_neg hp, List.map_append]
          congr 1
          · refine List.map_congr_left fun x hx => ?_
            have hx' : ¬ p.1 = x := fun z => hp (z ▸ hx)
            simp [List.filter_append, hx']
          · have hm : m.filter (fun q => q.1 == p.1) = [] := by
              rw [List.filter_eq_nil_iff]
              intro q hq
              simp only [beq_iff_eq]
              intro z
              exact hp ((met_mem _ _).mpr (List.mem_map.mpr ⟨q, hq, z⟩))
            simp [List.filter_append, hm]
  exact ind _ qs rfl
theorem groups_board {ps : List (Int × Int)} (hn : ps.Nodup) : groups (psort ps) = boardV ps := by
  have hs := psort_sorted hn
  have hp := psort_perm ps
  rw [groups_met]
  unfold boardV
  have e1 : met ((psort ps).map (·.1)) = isort (ps.map (·.1)).eraseDups := by
    refine sorted_unique (List.Perm.trans ?_ (isort_perm _).symm) ?_ (isort_sorted _)
    · rw [List.perm_ext_iff_of_nodup (met_nodup _) (eraseDups_nodup _ _ (Nat.le_refl _))]
      intro k
      rw [met_mem, List.mem_eraseDups]
      exact (hp.map (·.1)).mem_iff
    · refine List.Pairwise.sublist (met_sub _) ?_
      rw [List.pairwise_map]
      refine hs.imp fun {a b} h => ?_
      simp only [pLt, decide_eq_true_eq] at h
      omega
  rw [e1]
  refine List.map_congr_left fun x _ => ?_
  refine congrArg (Prod.mk x) (sorted_unique (List.Perm.trans ((hp.filter _).map _) (isort_perm _).symm) ?_ (isort_sorted _))
  rw [List.pairwise_map]
  refine List.Pairwise.imp_of_mem ?_ (hs.filter _)
  intro a b ha hb h
  have h1 : a.1 = x := by simpa using (List.mem_filter.mp ha).2
  have h2 : b.1 = x := by simpa using (List.mem_filter.mp hb).2
  simp only [pLt, decide_eq_true_eq] at h
  omega
theorem metP_nodup : ∀ {ks : List (List Int)}, ks.Nodup → metP ks = ks := by
  intro ks
  have ind : ∀ (n : Nat) (ks : List (List Int)), ks.length = n → ks.Nodup → metP ks = ks := by
    intro n
    induction n with
    | zero => intro ks h _; rw [List.eq_nil_of_length_eq_zero h]; rfl
    | succ n ih =>
      intro ks h hn
      rcases List.eq_nil_or_concat ks with e | ⟨m, k, e⟩
      · subst e; simp at h
      · have e' : ks = m ++ [k] := by simpa using e
        subst e'
        rw [List.nodup_append] at hn
        rw [metP_snoc, ih m (by simpa using h) hn.1, if_neg]
        intro hk
        exact hn.2.2 k hk k (by simp) rfl
  exact ind _ ks rfl
theorem pkey_nodup {ps : List (Int × Int)} (hn : ps.Nodup) : (ps.map pkey).Nodup := by
  rw [List.nodup_iff_pairwise_ne, List.pairwise_map]
  refine (List.nodup_iff_pairwise_ne.mp hn).imp fun {a b} h z => h ?_
  simp only [pkey, List.cons.injEq, and_true] at z
  obtain ⟨a1, a2⟩ := a
  obtain ⟨b1, b2⟩ := b
  simp_all
theorem asInts_spots : ∀ {ps : List (Int × Int)}, ps ≠ [] → asInts (ps.map spotD) = none
  | [], h => absurd rfl h
  | p :: ps, _ => rfl
abbrev Spot := Int × Int
def RD : RR := fun env c => c = "NoPegs" ∧ ∃ ps : List (Int × Int), ps.length < 18 ∧ ¬ ps.Nodup ∧ env[0]? = some (.pers (.lst (ps.map spotD)))
def RDa : RR := fun env c => c = "NoPegs" ∧ ∃ (ps : List (Int × Int)) (ds : List D) (w : Int), ps.length < 18 ∧ ¬ ps.Nodup ∧ 0 ≤ w ∧ w ≤ 3 ∧ env = [.pers (.lst (ps.map spotD)), .pers (.lst ds), .pers (.int w)]
def RDb : RR := fun env c => c = "NoPegs" ∧ ∃ (ps : List (Int × Int)) (d : D), ps.length < 18 ∧ ¬ ps.Nodup ∧ env[0]? = some (.pers (.lst (ps.map spotD))) ∧ env[1]? = some (.pers d)
noncomputable def f_p_lines : FS :=
 seqS (ifS (fTrB (f2 gLt (f1 gLenSet (fVar 0)) (fB gLen (fCons (fVar 0) (fNil))))) (fun _ => .bad) (nxtS)) linesS
noncomputable def n_p_lines : List D → Out Val
  | [.lst ds] => match asSpots ds with
    | some ps => if ps.length < 18 ∧ ps.Nodup then .ok (.fresh ((boardV ps).map lineD)) else .bad
    | none => .bad
  | _ => .bad
theorem nice_p_lines : ∀ ds v, ds.length = 1 → n_p_lines ds = .ok v → runD 4 f_p_lines ds = .ok v := by
  intro ds v hlen h
  clear hlen
  unfold n_p_lines at h
  split at h
  · rename_i ds
    split at h
    · rename_i ps hps
      split at h
      · rename_i hb
        cases h
        obtain ⟨hl, hn⟩ := hb
        have hds := asSpots_of hps
        subst hds
        have hlen : gLenSet (.lst (ps.map spotD)) = .ok (.pers (.int ps.length)) := by
          by_cases he : ps = []
          · subst he; rfl
          · have h1 := asInts_spots he
            have h2 : (metP (ps.map pkey)).length = ps.length := by rw [metP_nodup (pkey_nodup hn), List.length_map]
            simp only [gLenSet, h1, asSpots_map, hl, if_true, h2]
        have he : (groups (psort ps)).map grpD = (boardV ps).map lineD := by rw [groups_board hn]; rfl
        have ht : fTrB (f2 gLt (f1 gLenSet (fVar 0)) (fB gLen (fCons (fVar 0) (fNil)))) [.pers (.lst (ps.map spotD)), .un, .un, .un] = .ok false := by
          simp only [fTrB, f2, f1, fVar, List.getElem?_cons_zero, bind_ok, Val.d, hlen, fB, fCons, fNil, frz, List.map_cons, List.map_nil, gLen, List.length_map, gLt, gIB, Int.lt_irrefl, decide_false]
        unfold f_p_lines
        show (((seqS _ _ : FS) [.pers (.lst (ps.map spotD)), .un, .un, .un]).bind _) = _
        rw [seq_next (env' := [.pers (.lst (ps.map spotD)), .un, .un, .un]) (by
          simp only [ifS, ht, bind_ok]
          rfl)]
        have hl2 : linesS [.pers (.lst (ps.map spotD)), .un, .un, .un] = .ok (.ret (.fresh ((groups (psort ps)).map grpD))) := by
          simp only [linesS, List.getElem?_cons_zero, asSpots_map]
          rw [if_pos ⟨hl, hn⟩]
        rw [hl2, bind_ok, he]
      · cases h
    · cases h
  · cases h
def R_p_lines : List D → Str → Prop := runR 4 RD
def R_p_looked : List D → Str → Prop := runR 3 RD
def R_p_row_of : List D → Str → Prop := runR 5 RDb
def R_p_alike : List D → Str → Prop := runR 5 RDb
def R_asked : List D → Str → Prop := runR 3 RDa
theorem metP_lt {ks : List (List Int)} (hd : ¬ ks.Nodup) : (metP ks).length < ks.length := by
  have ind : ∀ (n : Nat) (ks : List (List Int)), ks.length = n → ¬ ks.Nodup → (metP ks).length < ks.length := by
    intro n
    induction n with
    | zero => intro ks h hn; rw [List.eq_nil_of_length_eq_zero h] at hn; exact absurd List.nodup_nil hn
    | succ n ih =>
      intro ks h hn
      rcases List.eq_nil_or_concat ks with e | ⟨m, k, e⟩
      · subst e; simp at h
      · have e' : ks = m ++ [k] := by simpa using e
        subst e'
        rw [metP_snoc]
        by_cases hm : m.Nodup
        · rw [metP_nodup hm]
          have hk : k ∈ m := by
            refine Decidable.byContradiction fun z => hn ?_
            rw [List.nodup_append]
            exact ⟨hm, by simp, fun a ha b hb => by simp at hb; subst hb; rintro rfl; exact z ha⟩
          rw [if_pos hk]
          simp
        · have := ih m (by simpa using h) hm
          split
          · simp; omega
          · simp; omega
  exact ind _ ks rfl hd
theorem pkey_dup {ps : List (Int × Int)} (h : ¬ ps.Nodup) : ¬ (ps.map pkey).Nodup := fun z => h (by
  rw [List.nodup_iff_pairwise_ne] at z ⊢
  rw [List.pairwise_map] at z
  exact z.imp fun {a b} h e => h (by rw [e]))
theorem lines_rd (env : Ev) (c : Str) (h : RD env c) : (fTrB (f2 gLt (f1 gLenSet (fVar 0)) (fB gLen (fCons (fVar 0) (fNil))))) env = .ok true ∧ c = "NoPegs" := by
  obtain ⟨hc, ps, hl, hn, he⟩ := h
  refine ⟨?_, hc⟩
  have hne : ps ≠ [] := fun z => by subst z; exact hn List.nodup_nil
  have h1 := asInts_spots hne
  have h2 := metP_lt (pkey_dup hn)
  rw [List.length_map] at h2
  have h3 : ((metP (ps.map pkey)).length : Int) < (ps.length : Int) := by omega
  have hs : gLenSet (.lst (ps.map spotD)) = .ok (.pers (.int (metP (ps.map pkey)).length)) := by simp only [gLenSet, h1, asSpots_map, hl, if_true]
  simp only [fTrB, f2, f1, fVar, he, bind_ok, Val.d, hs, fB, fCons, fNil, frz, List.map_cons, List.map_nil, gLen, List.length_map, gLt, gIB, decide_eq_true h3]
theorem looked_rd (env : Ev) (c : Str) (h : RD env c) : ∃ xs, (fCons (fVar 0) (fNil)) env = .ok xs ∧ xs.all Val.isPers = true ∧ R_p_lines (xs.map Val.d) c := by
  obtain ⟨hc, ps, hl, hn, he⟩ := h
  exact ⟨[.pers (.lst (ps.map spotD))], by simp [he], rfl, hc, ps, hl, hn, rfl⟩
theorem row_rd (env : Ev) (c : Str) (h : RDb env c) : ∃ xs, (fCons (fVar 0) (fCons (fVar 1) (fNil))) env = .ok xs ∧ xs.all Val.isPers = true ∧ R_p_looked (xs.map Val.d) c := by
  obtain ⟨hc, ps, d, hl, hn, he, h1⟩ := h
  exact ⟨[.pers (.lst (ps.map spotD)), .pers d], by simp [he, h1], rfl, hc, ps, hl, hn, rfl⟩
theorem alike_rd (env : Ev) (c : Str) (h : RDb env c) : ∃ xs, (fCons (fVar 0) (fCons (fVar 1) (fNil))) env = .ok xs ∧ xs.all Val.isPers = true ∧ R_p_row_of (xs.map Val.d) c := by
  obtain ⟨hc, ps, d, hl, hn, he, h1⟩ := h
  exact ⟨[.pers (.lst (ps.map spotD)), .pers d], by simp [he, h1], rfl, hc, ps, d, hl, hn, rfl, rfl⟩
theorem asked_rd (env : Ev) (c : Str) (h : RDa env c) : ((fTrB (f2 gEq (fVar 2) (fC (.int 0)))) env = .ok true ∧ ∃ xs, (fCons (fVar 0) (fNil)) env = .ok xs ∧ xs.all Val.isPers = true ∧ R_p_lines (xs.map Val.d) c) ∨ ((∃ env0, ifS (fTrB (f2 gEq (fVar 2) (fC (.int 0)))) (fun _ => .bad) nxtS env = .ok (.next env0) ∧ (fTrB (f2 gEq (fVar 2) (fC (.int 1)))) env0 = .ok true ∧ ∃ xs, (fCons (fVar 0) (fCons (fVar 1) (fNil))) env0 = .ok xs ∧ xs.all Val.isPers = true ∧ R_p_looked (xs.map Val.d) c)) ∨ ((∃ env0, ifS (fTrB (f2 gEq (fVar 2) (fC (.int 0)))) (fun _ => .bad) nxtS env = .ok (.next env0) ∧ (∃ env1, ifS (fTrB (f2 gEq (fVar 2) (fC (.int 1)))) (fun _ => .bad) nxtS env0 = .ok (.next env1) ∧ (fTrB (f2 gEq (fVar 2) (fC (.int 2)))) env1 = .ok true ∧ ∃ xs, (fCons (fVar 0) (fCons (fVar 1) (fNil))) env1 = .ok xs ∧ xs.all Val.isPers = true ∧ R_p_row_of (xs.map Val.d) c))) ∨ ((∃ env0, ifS (fTrB (f2 gEq (fVar 2) (fC (.int 0)))) (fun _ => .bad) nxtS env = .ok (.next env0) ∧ (∃ env1, ifS (fTrB (f2 gEq (fVar 2) (fC (.int 1)))) (fun _ => .bad) nxtS env0 = .ok (.next env1) ∧ (∃ env2, ifS (fTrB (f2 gEq (fVar 2) (fC (.int 2)))) (fun _ => .bad) nxtS env1 = .ok (.next env2) ∧ ∃ xs, (fCons (fVar 0) (fCons (fVar 1) (fCons (fSl (fVar 1) (fNo) (fSo (fC (.int 1)))) (fNil)))) env2 = .ok xs ∧ xs.all Val.isPers = true ∧ R_p_alike (xs.map Val.d) c)))) := by
  obtain ⟨hc, ps, ds, w, hl, hn, w0, w3, rfl⟩ := h
  rcases (show w = 0 ∨ w = 1 ∨ w = 2 ∨ w = 3 by omega) with rfl | rfl | rfl | rfl
  · exact .inl ⟨rfl, [.pers (.lst (ps.map spotD))], rfl, rfl, hc, ps, hl, hn, rfl⟩
  · exact .inr (.inl ⟨_, rfl, rfl, [.pers (.lst (ps.map spotD)), .pers (.lst ds)], rfl, rfl, hc, ps, hl, hn, rfl⟩)
  · exact .inr (.inr (.inl ⟨_, rfl, _, rfl, rfl, [.pers (.lst (ps.map spotD)), .pers (.lst ds)], rfl, rfl, hc, ps, .lst ds, hl, hn, rfl, rfl⟩))
  · exact .inr (.inr (.inr ⟨_, rfl, _, rfl, _, rfl, [.pers (.lst (ps.map spotD)), .pers (.lst ds), .pers (.lst (cutD ds none (some 1)))], rfl, rfl, hc, ps, .lst ds, hl, hn, rfl, rfl⟩))
@[reducible] noncomputable def e1_law : FE :=
 fVar 0
@[reducible] noncomputable def b2_law : FS :=
 blkS R_asked "NoPegs" (fCons (fVar 7) (fCons (fVar 6) (fCons (fVar 8) (fNil)))) (fTrB (f2 gNe (fVar 7) (fVar 4))) 9 3
@[reducible] noncomputable def e3_law : FE :=
 fVar 0
noncomputable def f_law : FS :=
 seqS (setS 1 true (fCall n_put (fCons (f2 gAdd (fSl (fCall n_pegs (fCons (fVar 0) (fNil))) (fNo) (fSo (fC (.int 10)))) (fLst (hCons (fTup (hCons (fC (.int 4)) (hCons (fC (.int 9)) (hNil)))) (hNil)))) (fCons (fCall n_frame (fCons (fVar 0) (fNil))) (fNil)))))
 (seqS (setS 2 true (f2 gMod (fCall n_mixed (fCons (fVar 0) (fCons (fC (.int 20)) (fNil)))) (fB gLen (fCons (fVar 1) (fNil)))))
 (seqS (setS 3 true (f2 gMod (fCall n_mixed (fCons (fVar 0) (fCons (fC (.int 21)) (fNil)))) (f2 gAdd (fB gLen (fCons (fVar 1) (fNil))) (fC (.int 1)))))
 (seqS (setS 4 true (f2 gAdd (f2 gAdd (fSl (fVar 1) (fNo) (fSo (fVar 3))) (fLst (hCons (f2 gIx (fVar 1) (fVar 2)) (hNil)))) (fSl (fVar 1) (fSo (fVar 3)) (fNo))))
 (seqS (setS 5 true (f2 gSub (fB gMin1 (fCons (fComp [] 2 (fItL (fVar 1)) (gT [0, 1]) (fYes) (e1_law)) (fNil))) (fC (.int 1))))
 (seqS (setS 6 true (f2 gIx (fLst (hCons (fLst (hCons (fTup (hCons (fVar 5) (hCons (fC (.int 0)) (hNil)))) (hCons (fTup (hCons (fVar 5) (hCons (fC (.int 5)) (hNil)))) (hNil)))) (hCons (fLst (hCons (fTup (hCons (fVar 5) (hCons (fC (.int 1)) (hNil)))) (hNil))) (hCons (fLst (hCons (fTup (hCons (fVar 5) (hCons (fC (.int 2)) (hNil)))) (hCons (f2 gIx (fVar 1) (fC (.int 0))) (hNil)))) (hNil))))) (f2 gMod (fCall n_mixed (fCons (fVar 0) (fCons (fC (.int 22)) (fNil)))) (fC (.int 3)))))
 (seqS (setS 7 true (fB gList (fCons (fVar 4) (fNil))))
 (seqS (forS (fRng1 (fCons (fC (.int 4)) (fNil))) (gN 8)
 (b2_law))
 (retS (f2 gEq (fB gLen (fCons (fCall n_p_lines (fCons (fVar 1) (fNil))) (fNil))) (f1 gLenSet (fComp [] 2 (fItL (fVar 1)) (gT [0, 1]) (fYes) (e3_law))))))))))))
end My
namespace My
open PySem PySem.Spec PyProof.Rows L2 DL
theorem seqn {f g : FS} {env env' : Ev} (h : f env = .ok (.next env')) : seqS f g env = g env' := by
  simp only [seqS, h, bind_ok]
theorem put_inj {f : Frm} (hf : FrmOk f) {p q : Spot} (h : putP f p = putP f q) : p = q := by
  unfold putP at h
  obtain ⟨h1, h2⟩ := Prod.mk.inj h
  have hw := hf.w1
  have hh := hf.h1
  have h4 : f.w * p.1 = f.w * q.1 := by omega
  have e1 := Int.eq_of_mul_eq_mul_left (by omega) h4
  rw [e1] at h2
  have h3 : f.h * p.2 = f.h * q.2 := by omega
  have e2 := Int.eq_of_mul_eq_mul_left (by omega) h3
  exact Prod.ext e1 e2
theorem nodup_put {f : Frm} (hf : FrmOk f) : ∀ {ps : List Spot}, ps.Nodup → (ps.map (putP f)).Nodup
  | [], _ => List.nodup_nil
  | p :: ps, h => by
    have h' := List.nodup_cons.mp h
    refine List.nodup_cons.mpr ⟨fun hm => ?_, nodup_put hf h'.2⟩
    obtain ⟨q, hq, e⟩ := List.mem_map.mp hm
    rw [put_inj hf e] at hq
    exact h'.1 hq
theorem put_is (ns : List Int) {ps : List Spot} (hl : ps.length ≤ 100000) : n_put [.lst (ps.map spotD), frmD (frmV ns)] = .ok (.fresh ((ps.map (putP (frmV ns))).map spotD)) := by
  obtain ⟨a1, a2, a3, a4, a5, a6, _, _, _, _⟩ := frm_ok ns
  have e : (⟨(frmV ns).w, (frmV ns).h, (frmV ns).s, (frmV ns).r, (frmV ns).u⟩ : Frm) = frmV ns := rfl
  simp only [n_put, frmD, asSpots_map]
  rw [if_pos ⟨hl, a1, a2, a3, a4, a5, a6⟩, e]
theorem mixed_is (ns : List Int) (k : Int) (h : 0 ≤ k ∧ k ≤ 1000000) : n_mixed [.scr ns, .int k] = .ok (.pers (.int (mixedV ns k))) := by
  show (if 0 ≤ k ∧ k ≤ 1000000 then Out.ok (Val.pers (.int (mixedV ns k))) else Out.bad) = _
  rw [if_pos h]
theorem shal_spots (n : Nat) (ps : List Spot) : shal (n + 2) (.lst (ps.map spotD)) = true := by
  simp only [shal, List.all_map, List.all_eq_true]
  intro p _
  exact shal_spot n p
theorem eq_spots (ps : List Spot) : eqD (.lst (ps.map spotD)) (.lst (ps.map spotD)) = true := by rw [eqD_lst, eqDL_map spotD eq_spot, decide_eq_true rfl]
noncomputable def base (ns : List Int) : List Spot := (pegsV ns).take 10 ++ [(4, 9)]
theorem base_nodup (ns : List Int) : (base ns).Nodup := by
  unfold base
  rw [List.nodup_append]
  refine ⟨(pegs_nodup ns _).sublist (List.take_sublist _ _), by simp, fun a ha b hb => ?_⟩
  have hb' : b = (4, 9) := by simpa using hb
  subst hb'
  rintro rfl
  have := (pegs_range ns _ _ (List.mem_of_mem_take ha)).2.2
  simp at this
theorem base_len (ns : List Int) : 1 ≤ (base ns).length ∧ (base ns).length ≤ 11 := by
  unfold base
  simp
  omega
theorem xs_comp {e : FE} (he : e = fVar 0) (ps : List Spot) (hl : ps.length ≤ 100000) (env : Ev) (h1 : env[1]? = some (.pers (.lst (ps.map spotD)))) : fComp [] 2 (fItL (fVar 1)) (gT [0, 1]) (fYes) e env = .ok (.fresh ((ps.map (·.1)).map D.int)) := by
  subst he
  have loop := compD_map (g := gT [0, 1]) (ft := fYes) (fe := fVar 0) (fun env => ∃ s0 s1, env = [s0, s1]) spotD (fun p => some (.int p.1)) ps [.un, .un] ⟨_, _, rfl⟩ (fun p env _ ⟨s0, s1, h⟩ => by
    subst h
    exact ⟨[.pers (.int p.1), .pers (.int p.2)], by simp [spotD], ⟨_, _, rfl⟩, .inr ⟨_, .pers (.int p.1), rfl, rfl, rfl, rfl⟩⟩)
  have hi : fItL (fVar 1) env = .ok (ps.map spotD) := by simp [h1]
  have hc : capE [] 2 env = [.un, .un] := rfl
  unfold fComp
  simp only [hi, bind_ok, hc, loop]
  rw [if_pos (by rw [List.length_map]; exact hl)]
  congr 2
  rw [List.filterMap_eq_map', List.map_map]
  rfl
theorem met_board (ps : List Spot) : (boardV ps).length = (met (ps.map (·.1))).length := by
  unfold boardV
  rw [List.length_map, (isort_perm _).length_eq]
  have : (ps.map (·.1)).eraseDups.Perm (met (ps.map (·.1))) := by
    rw [List.perm_ext_iff_of_nodup (eraseDups_nodup _ _ (Nat.le_refl _)) (met_nodup _)]
    intro x
    rw [met_mem, List.mem_eraseDups]
  exact this.length_eq
theorem asInts_map : ∀ (ns : List Int), asInts (ns.map D.int) = some ns
  | [] => rfl
  | n :: ns => by simp [asInts, asInts_map ns]
theorem call2 {m : List D → Out Val} {fa fb : FE} {env : Ev} {a b : Val} (ha : fa env = .ok a) (hb : fb env = .ok b) : fCall m (fCons fa (fCons fb fNil)) env = callG m [frz a, frz b] := by simp only [fCall, fCons, ha, hb, bind_ok, fNil]
theorem call1 {m : List D → Out Val} {fa : FE} {env : Ev} {a : Val} (ha : fa env = .ok a) : fCall m (fCons fa fNil) env = callG m [frz a] := by simp only [fCall, fCons, ha, bind_ok, fNil]
theorem f2_is {g : D → D → Out Val} {fa fb : FE} {env : Ev} {a b : Val} (ha : fa env = .ok a) (hb : fb env = .ok b) : f2 g fa fb env = g a.d b.d := by simp only [f2, ha, hb, bind_ok]
theorem mix_call {ns : List Int} {k : Int} {env : Ev} (h0 : fVar 0 env = .ok (.pers (.scr ns))) (hk : 0 ≤ k ∧ k ≤ 1000000) : fCall n_mixed (fCons (fVar 0) (fCons (fC (.int k)) (fNil))) env = .ok (.pers (.int (mixedV ns k))) := by
  rw [call2 h0 rfl]
  show ((n_mixed [.scr ns, .int k]).bind _) = _
  rw [mixed_is ns k hk]
  rfl
theorem len_call {ps : List Spot} {env : Ev} (h : fVar 1 env = .ok (.pers (.lst (ps.map spotD)))) : fB gLen (fCons (fVar 1) (fNil)) env = .ok (.pers (.int ps.length)) := by
  simp only [fB, fCons, h, bind_ok, fNil, frz, List.map_cons, List.map_nil, Val.d, gLen, List.length_map]
theorem dup_in (ps : List Spot) (p : Nat) {x : Spot} (h : x ∈ ps) : ¬ ((ps.take p ++ [x]) ++ ps.drop p).Nodup := fun z => by
  rw [List.nodup_append] at z
  obtain ⟨z1, _, z3⟩ := z
  rw [List.nodup_append] at z1
  rw [← List.take_append_drop p ps] at h
  rcases List.mem_append.mp h with h | h
  · exact z1.2.2 x h x (by simp) rfl
  · exact z3 x (by simp) x h rfl
theorem ne_same {ps : List Spot} {env : Ev} {i j : Nat} (hi : fVar i env = .ok (.pers (.lst (ps.map spotD)))) (hj : fVar j env = .ok (.pers (.lst (ps.map spotD)))) : fTrB (f2 gNe (fVar i) (fVar j)) env = .ok false := by
  have : f2 gNe (fVar i) (fVar j) env = .ok (.pers (.bl false)) := by
    rw [f2_is hi hj]
    show gNe (.lst (ps.map spotD)) (.lst (ps.map spotD)) = _
    simp only [gNe, shal_spots 2, Bool.true_or, if_true, eq_spots]
    rfl
  simp only [fTrB, this, bind_ok, Val.d]
theorem main : ∀ ns : List Int, ns.length ≤ 63 → runD 10 f_law [.scr ns] = .ok (.pers (.bl true)) := by
  intro ns hns
  have hfo := frm_ok ns
  have hbl := base_len ns
  obtain ⟨ps, hps⟩ : ∃ ps, ps = (base ns).map (putP (frmV ns)) := ⟨_, rfl⟩
  have hn : ps.Nodup := by rw [hps]; exact nodup_put hfo (base_nodup ns)
  have hl1 : 1 ≤ ps.length := by rw [hps, List.length_map]; exact hbl.1
  have hl2 : ps.length ≤ 11 := by rw [hps, List.length_map]; exact hbl.2
  have hlines : n_p_lines [.lst (ps.map spotD)] = .ok (.fresh ((boardV ps).map lineD)) := by
    have : ps.length < 18 := by omega
    simp [n_p_lines, asSpots_map, this, hn]
  unfold f_law
  show (((seqS _ _ : FS) [.pers (.scr ns), .un, .un, .un, .un, .un, .un, .un, .un, .un]).bind _) = _
  have s1 : fCall n_put (fCons (f2 gAdd (fSl (fCall n_pegs (fCons (fVar 0) (fNil))) (fNo) (fSo (fC (.int 10)))) (fLst (hCons (fTup (hCons (fC (.int 4)) (hCons (fC (.int 9)) (hNil)))) (hNil)))) (fCons (fCall n_frame (fCons (fVar 0) (fNil))) (fNil))) [.pers (.scr ns), .un, .un, .un, .un, .un, .un, .un, .un, .un] = .ok (.fresh (ps.map spotD)) := by
    have e1 : f2 gAdd (fSl (fCall n_pegs (fCons (fVar 0) (fNil))) (fNo) (fSo (fC (.int 10)))) (fLst (hCons (fTup (hCons (fC (.int 4)) (hCons (fC (.int 9)) (hNil)))) (hNil))) [.pers (.scr ns), .un, .un, .un, .un, .un, .un, .un, .un, .un] = .ok (.fresh ((base ns).map spotD)) := by
      have e0 : fSl (fCall n_pegs (fCons (fVar 0) (fNil))) (fNo) (fSo (fC (.int 10))) [.pers (.scr ns), .un, .un, .un, .un, .un, .un, .un, .un, .un] = .ok (.fresh (((pegsV ns).take 10).map spotD)) := by
        rw [List.map_take, ← cut_take _ 10 10 rfl]
        rfl
      have e2 : fLst (hCons (fTup (hCons (fC (.int 4)) (hCons (fC (.int 9)) (hNil)))) (hNil)) [.pers (.scr ns), .un, .un, .un, .un, .un, .un, .un, .un, .un] = .ok (.fresh [spotD (4, 9)]) := rfl
      rw [f2_is e0 e2]
      simp only [Val.d, gAdd]
      rw [if_pos (by simp; omega)]
      unfold base
      rw [List.map_append]
      rfl
    have e3 : fCall n_frame (fCons (fVar 0) (fNil)) [.pers (.scr ns), .un, .un, .un, .un, .un, .un, .un, .un, .un] = .ok (.pers (frmD (frmV ns))) := rfl
    rw [call2 e1 e3]
    show ((n_put [.lst ((base ns).map spotD), frmD (frmV ns)]).bind _) = _
    rw [put_is ns (by omega), ← hps]
    rfl
  rw [seqn (env' := [.pers (.scr ns), .pers (.lst (ps.map spotD)), .un, .un, .un, .un, .un, .un, .un, .un]) (by simp only [setS, s1, bind_ok]; rfl)]
  obtain ⟨a, ha⟩ : ∃ a, a = mixedV ns 20 % (ps.length : Int) := ⟨_, rfl⟩
  obtain ⟨p, hp⟩ : ∃ p, p = mixedV ns 21 % ((ps.length : Int) + 1) := ⟨_, rfl⟩
  have ha0 : 0 ≤ a := by rw [ha]; exact Int.emod_nonneg _ (by omega)
  have ha1 : a < ps.length := by rw [ha]; exact Int.emod_lt_of_pos _ (by omega)
  have hp0 : 0 ≤ p := by rw [hp]; exact Int.emod_nonneg _ (by omega)
  have hp1 : p < (ps.length : Int) + 1 := by rw [hp]; exact Int.emod_lt_of_pos _ (by omega)
  have hA : a.toNat < ps.length := by omega
  have hP : p = ((p.toNat : Nat) : Int) := by omega
  have s2 : f2 gMod (fCall n_mixed (fCons (fVar 0) (fCons (fC (.int 20)) (fNil)))) (fB gLen (fCons (fVar 1) (fNil))) [.pers (.scr ns), .pers (.lst (ps.map spotD)), .un, .un, .un, .un, .un, .un, .un, .un] = .ok (.pers (.int a)) := by
    rw [f2_is (mix_call rfl (by omega)) (len_call (ps := ps) rfl), ha]
    simp only [Val.d, gMod, gI]
    rw [decide_eq_true (by omega)]
    rfl
  rw [seqn (env' := [.pers (.scr ns), .pers (.lst (ps.map spotD)), .pers (.int a), .un, .un, .un, .un, .un, .un, .un]) (by simp only [setS, s2, bind_ok]; rfl)]
  have s3 : f2 gMod (fCall n_mixed (fCons (fVar 0) (fCons (fC (.int 21)) (fNil)))) (f2 gAdd (fB gLen (fCons (fVar 1) (fNil))) (fC (.int 1))) [.pers (.scr ns), .pers (.lst (ps.map spotD)), .pers (.int a), .un, .un, .un, .un, .un, .un, .un] = .ok (.pers (.int p)) := by
    have e : f2 gAdd (fB gLen (fCons (fVar 1) (fNil))) (fC (.int 1)) [.pers (.scr ns), .pers (.lst (ps.map spotD)), .pers (.int a), .un, .un, .un, .un, .un, .un, .un] = .ok (.pers (.int ((ps.length : Int) + 1))) := by
      rw [f2_is (len_call (ps := ps) rfl) (show fC (.int 1) _ = .ok (.pers (.int 1)) from rfl)]
      rfl
    rw [f2_is (mix_call rfl (by omega)) e, hp]
    simp only [Val.d, gMod, gI]
    rw [decide_eq_true (by omega)]
    rfl
  rw [seqn (env' := [.pers (.scr ns), .pers (.lst (ps.map spotD)), .pers (.int a), .pers (.int p), .un, .un, .un, .un, .un, .un]) (by simp only [setS, s3, bind_ok]; rfl)]
  obtain ⟨dbl, hd⟩ : ∃ dbl, dbl = (ps.take p.toNat ++ [ps[a.toNat]]) ++ ps.drop p.toNat := ⟨_, rfl⟩
  have hdn : ¬ dbl.Nodup := by rw [hd]; exact dup_in ps _ (List.getElem_mem hA)
  have hdl : dbl.length < 18 := by rw [hd]; simp; omega
  have s4 : f2 gAdd (f2 gAdd (fSl (fVar 1) (fNo) (fSo (fVar 3))) (fLst (hCons (f2 gIx (fVar 1) (fVar 2)) (hNil)))) (fSl (fVar 1) (fSo (fVar 3)) (fNo)) [.pers (.scr ns), .pers (.lst (ps.map spotD)), .pers (.int a), .pers (.int p), .un, .un, .un, .un, .un, .un] = .ok (.fresh (dbl.map spotD)) := by
    have e1 : fSl (fVar 1) (fNo) (fSo (fVar 3)) [.pers (.scr ns), .pers (.lst (ps.map spotD)), .pers (.int a), .pers (.int p), .un, .un, .un, .un, .un, .un] = .ok (.fresh ((ps.take p.toNat).map spotD)) := by
      rw [List.map_take, ← cut_take _ p p.toNat hP]
      rfl
    have e2 : fSl (fVar 1) (fSo (fVar 3)) (fNo) [.pers (.scr ns), .pers (.lst (ps.map spotD)), .pers (.int a), .pers (.int p), .un, .un, .un, .un, .un, .un] = .ok (.fresh ((ps.drop p.toNat).map spotD)) := by
      rw [List.map_drop, ← cut_drop _ p p.toNat hP]
      rfl
    have e3 : fLst (hCons (f2 gIx (fVar 1) (fVar 2)) (hNil)) [.pers (.scr ns), .pers (.lst (ps.map spotD)), .pers (.int a), .pers (.int p), .un, .un, .un, .un, .un, .un] = .ok (.fresh [spotD ps[a.toNat]]) := by
      have hx : atI (ps.map spotD) a = some (spotD ps[a.toNat]) := by
        rw [atI_nn _ _ ha0, List.getElem?_map, List.getElem?_eq_getElem hA]
        rfl
      simp [hx]
    have e4 : f2 gAdd (fSl (fVar 1) (fNo) (fSo (fVar 3))) (fLst (hCons (f2 gIx (fVar 1) (fVar 2)) (hNil))) [.pers (.scr ns), .pers (.lst (ps.map spotD)), .pers (.int a), .pers (.int p), .un, .un, .un, .un, .un, .un] = .ok (.fresh ((ps.take p.toNat ++ [ps[a.toNat]]).map spotD)) := by
      rw [f2_is e1 e3]
      simp only [Val.d, gAdd]
      rw [if_pos (by simp; omega), List.map_append]
      rfl
    rw [f2_is e4 e2]
    simp only [Val.d, gAdd]
    rw [if_pos (by simp; omega), hd, List.map_append (l₁ := ps.take p.toNat ++ [ps[a.toNat]])]
  rw [seqn (env' := [.pers (.scr ns), .pers (.lst (ps.map spotD)), .pers (.int a), .pers (.int p), .pers (.lst (dbl.map spotD)), .un, .un, .un, .un, .un]) (by simp only [setS, s4, bind_ok]; rfl)]
  obtain ⟨q, r, hq⟩ : ∃ q r, ps = q :: r := by
    cases ps with
    | nil => simp at hl1
    | cons q r => exact ⟨q, r, rfl⟩
  obtain ⟨m, s5⟩ : ∃ m, f2 gSub (fB gMin1 (fCons (fComp [] 2 (fItL (fVar 1)) (gT [0, 1]) (fYes) (e1_law)) (fNil))) (fC (.int 1)) [.pers (.scr ns), .pers (.lst (ps.map spotD)), .pers (.int a), .pers (.int p), .pers (.lst (dbl.map spotD)), .un, .un, .un, .un, .un] = .ok (.pers (.int m)) := by
    have e := xs_comp (e := e1_law) rfl ps (by omega) [.pers (.scr ns), .pers (.lst (ps.map spotD)), .pers (.int a), .pers (.int p), .pers (.lst (dbl.map spotD)), .un, .un, .un, .un, .un] rfl
    have e2 : fB gMin1 (fCons (fComp [] 2 (fItL (fVar 1)) (gT [0, 1]) (fYes) (e1_law)) (fNil)) [.pers (.scr ns), .pers (.lst (ps.map spotD)), .pers (.int a), .pers (.int p), .pers (.lst (dbl.map spotD)), .un, .un, .un, .un, .un] = .ok (.pers (.int ((r.map (·.1)).foldl stpMin q.1))) := by
      simp only [fB, fCons, e, bind_ok, fNil, frz, List.map_cons, List.map_nil, Val.d]
      rw [hq]
      have hi := asInts_map ((q :: r).map (·.1))
      unfold gMin1
      simp only [hi]
      rfl
    refine ⟨_, (f2_is e2 (show fC (.int 1) _ = .ok (.pers (.int 1)) from rfl)).trans rfl⟩
  rw [seqn (env' := [.pers (.scr ns), .pers (.lst (ps.map spotD)), .pers (.int a), .pers (.int p), .pers (.lst (dbl.map spotD)), .pers (.int m), .un, .un, .un, .un]) (by simp only [setS, s5, bind_ok]; rfl)]
  obtain ⟨rp, s6⟩ : ∃ rp, f2 gIx (fLst (hCons (fLst (hCons (fTup (hCons (fVar 5) (hCons (fC (.int 0)) (hNil)))) (hCons (fTup (hCons (fVar 5) (hCons (fC (.int 5)) (hNil)))) (hNil)))) (hCons (fLst (hCons (fTup (hCons (fVar 5) (hCons (fC (.int 1)) (hNil)))) (hNil))) (hCons (fLst (hCons (fTup (hCons (fVar 5) (hCons (fC (.int 2)) (hNil)))) (hCons (f2 gIx (fVar 1) (fC (.int 0))) (hNil)))) (hNil))))) (f2 gMod (fCall n_mixed (fCons (fVar 0) (fCons (fC (.int 22)) (fNil)))) (fC (.int 3))) [.pers (.scr ns), .pers (.lst (ps.map spotD)), .pers (.int a), .pers (.int p), .pers (.lst (dbl.map spotD)), .pers (.int m), .un, .un, .un, .un] = .ok (.pers (.lst rp)) := by
    have e1 : f2 gMod (fCall n_mixed (fCons (fVar 0) (fCons (fC (.int 22)) (fNil)))) (fC (.int 3)) [.pers (.scr ns), .pers (.lst (ps.map spotD)), .pers (.int a), .pers (.int p), .pers (.lst (dbl.map spotD)), .pers (.int m), .un, .un, .un, .un] = .ok (.pers (.int (mixedV ns 22 % 3))) := by
      rw [f2_is (mix_call rfl (by omega)) (show fC (.int 3) _ = .ok (.pers (.int 3)) from rfl)]
      rfl
    have e2 : fLst (hCons (fLst (hCons (fTup (hCons (fVar 5) (hCons (fC (.int 0)) (hNil)))) (hCons (fTup (hCons (fVar 5) (hCons (fC (.int 5)) (hNil)))) (hNil)))) (hCons (fLst (hCons (fTup (hCons (fVar 5) (hCons (fC (.int 1)) (hNil)))) (hNil))) (hCons (fLst (hCons (fTup (hCons (fVar 5) (hCons (fC (.int 2)) (hNil)))) (hCons (f2 gIx (fVar 1) (fC (.int 0))) (hNil)))) (hNil)))) [.pers (.scr ns), .pers (.lst (ps.map spotD)), .pers (.int a), .pers (.int p), .pers (.lst (dbl.map spotD)), .pers (.int m), .un, .un, .un, .un] =
        .ok (.fresh [.lst [spotD (m, 0), spotD (m, 5)], .lst [spotD (m, 1)], .lst [spotD (m, 2), spotD q]]) := by
      have h0 : atI ((q :: r).map spotD) 0 = some (spotD q) := by rw [atI_nn _ _ (by omega)]; rfl
      rw [hq]
      simp only [fLst, fTup, hCons, hNil, fVar, fC, f2, gIx, bind_ok, Val.hold, Val.d, List.getElem?_cons_zero, List.getElem?_cons_succ, h0, List.length_cons, List.length_nil, Nat.reduceAdd, Nat.reduceLeDiff, if_true]
      rfl
    rw [f2_is e2 e1]
    have w0 := Int.emod_nonneg (mixedV ns 22) (show (3 : Int) ≠ 0 by omega)
    have w1 := Int.emod_lt_of_pos (mixedV ns 22) (show (0 : Int) < 3 by omega)
    generalize mixedV ns 22 % 3 = w at w0 w1
    rcases (show w = 0 ∨ w = 1 ∨ w = 2 by omega) with rfl | rfl | rfl
    · exact ⟨_, rfl⟩
    · exact ⟨_, rfl⟩
    · exact ⟨_, rfl⟩
  rw [seqn (env' := [.pers (.scr ns), .pers (.lst (ps.map spotD)), .pers (.int a), .pers (.int p), .pers (.lst (dbl.map spotD)), .pers (.int m), .pers (.lst rp), .un, .un, .un]) (by simp only [setS, s6, bind_ok]; rfl)]
  rw [seqn (env' := [.pers (.scr ns), .pers (.lst (ps.map spotD)), .pers (.int a), .pers (.int p), .pers (.lst (dbl.map spotD)), .pers (.int m), .pers (.lst rp), .pers (.lst (dbl.map spotD)), .un, .un]) rfl]
  obtain ⟨env', he, s8, rfl⟩ := forD_inv (g := gN 8) (fb := b2_law) (fun _ env => ∃ s8, env = [.pers (.scr ns), .pers (.lst (ps.map spotD)), .pers (.int a), .pers (.int p), .pers (.lst (dbl.map spotD)), .pers (.int m), .pers (.lst rp), .pers (.lst (dbl.map spotD)), s8, .un])
    (rngD 0 4) 0 [.pers (.scr ns), .pers (.lst (ps.map spotD)), .pers (.int a), .pers (.int p), .pers (.lst (dbl.map spotD)), .pers (.int m), .pers (.lst rp), .pers (.lst (dbl.map spotD)), .un, .un] ⟨_, rfl⟩ (by
      rintro j d env _ hd' ⟨s8, rfl⟩
      obtain ⟨hj, rfl⟩ := rng_get hd'
      refine ⟨_, [.pers (.scr ns), .pers (.lst (ps.map spotD)), .pers (.int a), .pers (.int p), .pers (.lst (dbl.map spotD)), .pers (.int m), .pers (.lst rp), .pers (.lst (dbl.map spotD)), .pers (.int (0 + ((j - 0 : Nat) : Int))), .un], rfl, ?_, _, rfl⟩
      have hr : (fCons (fVar 7) (fCons (fVar 6) (fCons (fVar 8) (fNil)))) [.pers (.scr ns), .pers (.lst (ps.map spotD)), .pers (.int a), .pers (.int p), .pers (.lst (dbl.map spotD)), .pers (.int m), .pers (.lst rp), .pers (.lst (dbl.map spotD)), .pers (.int (0 + ((j - 0 : Nat) : Int))), .un] = .ok [.pers (.lst (dbl.map spotD)), .pers (.lst rp), .pers (.int (0 + ((j - 0 : Nat) : Int)))] := rfl
      show blkS R_asked "NoPegs" _ _ 9 3 _ = _
      unfold blkS
      show ((fCons (fVar 7) (fCons (fVar 6) (fCons (fVar 8) (fNil)))) [.pers (.scr ns), .pers (.lst (ps.map spotD)), .pers (.int a), .pers (.int p), .pers (.lst (dbl.map spotD)), .pers (.int m), .pers (.lst rp), .pers (.lst (dbl.map spotD)), .pers (.int (0 + ((j - 0 : Nat) : Int))), .un]).bind _ = _
      rw [hr, bind_ok, if_pos ⟨by show 9 < 10; decide, rfl, rfl, ⟨rfl, dbl, rp, 0 + ((j - 0 : Nat) : Int), hdl, hdn, by omega, by omega, rfl⟩, ne_same (ps := dbl) rfl rfl⟩]
      rfl)
  have hrg : fRng1 (fCons (fC (.int 4)) (fNil)) [.pers (.scr ns), .pers (.lst (ps.map spotD)), .pers (.int a), .pers (.int p), .pers (.lst (dbl.map spotD)), .pers (.int m), .pers (.lst rp), .pers (.lst (dbl.map spotD)), .un, .un] = .ok (rngD 0 4) := rfl
  rw [seqn (env' := [.pers (.scr ns), .pers (.lst (ps.map spotD)), .pers (.int a), .pers (.int p), .pers (.lst (dbl.map spotD)), .pers (.int m), .pers (.lst rp), .pers (.lst (dbl.map spotD)), s8, .un]) (by simp only [forS, hrg, bind_ok]; exact he)]
  have z1 : fB gLen (fCons (fCall n_p_lines (fCons (fVar 1) (fNil))) (fNil)) [.pers (.scr ns), .pers (.lst (ps.map spotD)), .pers (.int a), .pers (.int p), .pers (.lst (dbl.map spotD)), .pers (.int m), .pers (.lst rp), .pers (.lst (dbl.map spotD)), s8, .un] = .ok (.pers (.int (boardV ps).length)) := by
    have e : fCall n_p_lines (fCons (fVar 1) (fNil)) [.pers (.scr ns), .pers (.lst (ps.map spotD)), .pers (.int a), .pers (.int p), .pers (.lst (dbl.map spotD)), .pers (.int m), .pers (.lst rp), .pers (.lst (dbl.map spotD)), s8, .un] = .ok (.fresh ((boardV ps).map lineD)) := by
      rw [call1 (show fVar 1 _ = .ok (.pers (.lst (ps.map spotD))) from rfl)]
      show ((n_p_lines [.lst (ps.map spotD)]).bind _) = _
      rw [hlines]
      rfl
    show (((fCall n_p_lines (fCons (fVar 1) (fNil)) _).bind _).bind _) = _
    rw [e, bind_ok]
    show gLen [.lst ((boardV ps).map lineD)] = _
    simp only [gLen, List.length_map]
  have z2 : f1 gLenSet (fComp [] 2 (fItL (fVar 1)) (gT [0, 1]) (fYes) (e3_law)) [.pers (.scr ns), .pers (.lst (ps.map spotD)), .pers (.int a), .pers (.int p), .pers (.lst (dbl.map spotD)), .pers (.int m), .pers (.lst rp), .pers (.lst (dbl.map spotD)), s8, .un] = .ok (.pers (.int (boardV ps).length)) := by
    have e := xs_comp (e := e3_law) rfl ps (by omega) [.pers (.scr ns), .pers (.lst (ps.map spotD)), .pers (.int a), .pers (.int p), .pers (.lst (dbl.map spotD)), .pers (.int m), .pers (.lst rp), .pers (.lst (dbl.map spotD)), s8, .un] rfl
    show ((fComp _ _ _ _ _ _ _).bind _) = _
    rw [e, bind_ok]
    show gLenSet (.lst ((ps.map (·.1)).map D.int)) = _
    have hi := asInts_map (ps.map (·.1))
    unfold gLenSet
    simp only [hi]
    rw [if_pos (by rw [List.length_map]; omega), met_board]
  have z3 : f2 gEq (fB gLen (fCons (fCall n_p_lines (fCons (fVar 1) (fNil))) (fNil))) (f1 gLenSet (fComp [] 2 (fItL (fVar 1)) (gT [0, 1]) (fYes) (e3_law))) [.pers (.scr ns), .pers (.lst (ps.map spotD)), .pers (.int a), .pers (.int p), .pers (.lst (dbl.map spotD)), .pers (.int m), .pers (.lst rp), .pers (.lst (dbl.map spotD)), s8, .un] = .ok (.pers (.bl true)) := by
    rw [f2_is z1 z2]
    simp
  show ((retS _ _).bind _) = _
  simp only [retS, z3, bind_ok]
end My
namespace My
open PySem PySem.Spec PyProof.Rows L2 DL
noncomputable def top (i : Nat) : Stmt := PySem.Challenge.pw_tautline_k02_two_pegs_alike.main.body.getD i (.Pass ⟨0, 0, 0, 0⟩)
noncomputable abbrev s_put : Stmt := top 27
theorem sc_put : FnScope ["_law_spots", "_law_frame_here", "_law_wide", "_law_high", "_law_slant", "_law_right", "_law_up"] ["_law_spots", "_law_frame_here"] (defScope s_put) := ⟨rfl, rfl, rfl, by decide +kernel, rfl, by decide +kernel, by decide +kernel⟩
noncomputable abbrev s_cell_at : Stmt := top 21
theorem sc_cell_at : FnScope ["_law_script", "_law_k"] ["_law_script", "_law_k"] (defScope s_cell_at) := ⟨rfl, rfl, rfl, by decide +kernel, rfl, by decide +kernel, by decide +kernel⟩
noncomputable abbrev s_block : Stmt := top 23
theorem sc_block : FnScope ["_law_script", "_law_k", "_law_cell", "_law_j"] ["_law_script", "_law_k"] (defScope s_block) := ⟨rfl, rfl, rfl, by decide +kernel, rfl, by decide +kernel, by decide +kernel⟩
noncomputable abbrev s_mixed : Stmt := top 24
theorem sc_mixed : FnScope ["_law_script", "_law_k", "_law_cell", "_law_number"] ["_law_script", "_law_k"] (defScope s_mixed) := ⟨rfl, rfl, rfl, by decide +kernel, rfl, by decide +kernel, by decide +kernel⟩
noncomputable abbrev s_frame : Stmt := top 26
theorem sc_frame : FnScope ["_law_script", "_law_wide", "_law_high", "_law_far", "_law_slant", "_law_right"] ["_law_script"] (defScope s_frame) := ⟨rfl, rfl, rfl, by decide +kernel, rfl, by decide +kernel, by decide +kernel⟩
noncomputable abbrev s_pegs : Stmt := top 25
theorem sc_pegs : FnScope ["_law_script", "_law_number", "_law_many", "_law_found", "_law_k", "_law_peg"] ["_law_script"] (defScope s_pegs) := ⟨rfl, rfl, rfl, by decide +kernel, rfl, by decide +kernel, by decide +kernel⟩
noncomputable abbrev s_p_lines : Stmt := top 6
theorem sc_p_lines : FnScope ["pegs", "heights_by_x", "x", "y"] ["pegs"] (defScope s_p_lines) := ⟨rfl, rfl, rfl, by decide +kernel, rfl, by decide +kernel, by decide +kernel⟩
noncomputable abbrev s_p_looked : Stmt := top 7
theorem sc_p_looked : FnScope ["pegs", "rope", "board"] ["pegs", "rope"] (defScope s_p_looked) := ⟨rfl, rfl, rfl, by decide +kernel, rfl, by decide +kernel, by decide +kernel⟩
noncomputable abbrev s_p_row_of : Stmt := top 15
theorem sc_p_row_of : FnScope ["pegs", "rope", "board", "row", "stretch"] ["pegs", "rope"] (defScope s_p_row_of) := ⟨rfl, rfl, rfl, by decide +kernel, rfl, by decide +kernel, by decide +kernel⟩
noncomputable abbrev s_p_shortened : Stmt := top 17
noncomputable abbrev s_p_alike : Stmt := top 19
theorem sc_p_alike : FnScope ["pegs", "one", "other", "row", "other_row"] ["pegs", "one", "other"] (defScope s_p_alike) := ⟨rfl, rfl, rfl, by decide +kernel, rfl, by decide +kernel, by decide +kernel⟩
noncomputable abbrev s_asked : Stmt := top 28
theorem sc_asked : FnScope ["_law_pegs_here", "_law_rope", "_law_way"] ["_law_pegs_here", "_law_rope", "_law_way"] (defScope s_asked) := ⟨rfl, rfl, rfl, by decide +kernel, rfl, by decide +kernel, by decide +kernel⟩
noncomputable abbrev s_caught : Stmt := top 29
theorem sc_caught : FnScope ["_law_pegs_here", "_law_rope", "_law_way", "_law_caught_here", "e"] ["_law_pegs_here", "_law_rope", "_law_way"] (defScope s_caught) := ⟨rfl, rfl, rfl, by decide +kernel, rfl, by decide +kernel, by decide +kernel⟩
noncomputable abbrev s_law : Stmt := top 30
theorem sc_law : FnScope ["_law_script", "_law_pegs_here", "_law_at", "_law_place", "_law_double", "_law_left", "_law_rope", "_law_handed", "_law_way", "_law_caught_here"] ["_law_script"] (defScope s_law) := ⟨rfl, rfl, rfl, by decide +kernel, rfl, by decide +kernel, by decide +kernel⟩
section
variable (P : Program) (w : World) (K : PySem.W.Frag) (mg : Str → Option Value) (base : Heap) (k : Nat)
abbrev C_put : Prop := Cal P w K mg base k "_law_put" ["_law_spots", "_law_frame_here"] n_put
abbrev C_cell_at : Prop := Cal P w K mg base k "_law_cell_at" ["_law_script", "_law_k"] n_cell_at
abbrev C_block : Prop := Cal P w K mg base k "_law_block" ["_law_script", "_law_k"] n_block
abbrev C_mixed : Prop := Cal P w K mg base k "_law_mixed" ["_law_script", "_law_k"] n_mixed
abbrev C_frame : Prop := Cal P w K mg base k "_law_frame" ["_law_script"] n_frame
abbrev C_pegs : Prop := Cal P w K mg base k "_law_pegs" ["_law_script"] n_pegs
abbrev C_p_lines : Prop := Cal P w K mg base k "lines" ["pegs"] n_p_lines
abbrev C_caught : Prop := CalK P w K mg base k "_law_caught" ["_law_pegs_here", "_law_rope", "_law_way"] R_asked ["NoPegs"]
end
section
variable {P : Program} {w : World} {K : PySem.W.Frag} {mg : Str → Option Value} {base : Heap} {k : Nat} {f : Addr} {fd : FuncData}
theorem cal_put (F : Fun K "_law_put" "_law_put" s_put f fd) (hm : mg "_law_put" = some (.ref f))   : C_put P w K mg base (k + 1) := by
 have nd := (sc_put).nd
 exact Cal.imp (m := runD 7 f_put) ⟨f, fd, fn_ok (N := ["_law_spots", "_law_frame_here", "_law_wide", "_law_high", "_law_slant", "_law_right", "_law_up"]) F sc_put fun cdv A outer s G H E hr =>
   dss_cons (ds_asg (de_var (pv 1)) (dg_tup rfl (dgs_cons (i := 2) nd (dgs_cons (i := 3) nd (dgs_cons (i := 4) nd (dgs_cons (i := 5) nd (dgs_cons (i := 6) nd (dgs_nil))))))))
   (dss_one (ds_ret (de_comp (cap := [2, 5, 3, 4, 6]) (own := ["_law_x", "_law_y"]) ⟨rfl, by decide +kernel, by decide +kernel, rfl, rfl⟩ (di_list (de_var (pv 0))) (fun _ _ _ => dg_tup rfl (dgs_cons (i := 5) (show (["_law_wide", "_law_right", "_law_high", "_law_slant", "_law_up", "_law_x", "_law_y"] : List Str).Nodup from by decide +kernel) (dgs_cons (i := 6) (show (["_law_wide", "_law_right", "_law_high", "_law_slant", "_law_up", "_law_x", "_law_y"] : List Str).Nodup from by decide +kernel) (dgs_nil)))) (calm_tup [5, 6]) (fun _ _ _ => dts_nil) (fun _ _ _ => de_tup (dh_cons (de_add (de_mul (de_var (pv 0)) (de_var (pv 5))) (de_var (pv 1))) (dh_cons (de_add (de_add (de_mul (de_var (pv 2)) (de_var (pv 6))) (de_mul (de_var (pv 3)) (de_var (pv 5)))) (de_var (pv 4))) (dh_nil))))))), hm, F.kp, F.binds (ps := ["_law_spots", "_law_frame_here"]) fun _ _ _ _ _ _ us hl => match us, hl with | [_, _], _ => rfl⟩ nice_put
theorem cal_cell_at (F : Fun K "_law_cell_at" "_law_cell_at" s_cell_at f fd) (hm : mg "_law_cell_at" = some (.ref f))  (b_len : mg "len" = none) : C_cell_at P w K mg base (k + 1) := by
 have nd := (sc_cell_at).nd
 exact Cal.imp (m := runD 2 f_cell_at) ⟨f, fd, fn_ok (N := ["_law_script", "_law_k"]) F sc_cell_at fun cdv A outer s G H E hr =>
   dss_cons (ds_if (dt_lt (de_var (pv 1)) (de_callB call_len_seq cd_len b_len PySem.boot_len (da_cons (de_var (pv 0)) (da_nil))))
   (dss_one (ds_ret (de_at (de_var (pv 0)) (de_var (pv 1)))))
   (dss_nil))
   (dss_one (ds_ret (de_int))), hm, F.kp, F.binds (ps := ["_law_script", "_law_k"]) fun _ _ _ _ _ _ us hl => match us, hl with | [_, _], _ => rfl⟩ nice_cell_at
theorem cal_block (F : Fun K "_law_block" "_law_block" s_block f fd) (hm : mg "_law_block" = some (.ref f))  (b_len : mg "len" = none) (b_range : mg "range" = none) : C_block P w K mg base (k + 1) := by
 have nd := (sc_block).nd
 exact Cal.imp (m := runD 4 f_block) ⟨f, fd, fn_ok (N := ["_law_script", "_law_k", "_law_cell", "_law_j"]) F sc_block fun cdv A outer s G H E hr =>
   dss_cons (ds_set (i := 2) true nd (de_int))
   (dss_cons (ds_if (dt_lt (de_add (de_int) (de_mod (de_div (de_var (pv 1)) (de_int)) (de_int))) (de_callB call_len_seq cd_len b_len PySem.boot_len (da_cons (de_var (pv 0)) (da_nil))))
   (dss_one (ds_set (i := 2) true nd (de_div (de_at (de_var (pv 0)) (de_add (de_int) (de_mod (de_div (de_var (pv 1)) (de_int)) (de_int)))) (de_pow (de_int) (de_int)))))
   (dss_nil))
   (dss_cons (ds_for PassesOwn.never (di_range1 b_range (da_cons (de_mod (de_var (pv 1)) (de_int)) (da_nil))) (dg_name (i := 3) nd)
   (dss_one (ds_set (i := 2) true nd (de_div (de_var (pv 2)) (de_int)))))
   (dss_one (ds_ret (de_var (pv 2)))))), hm, F.kp, F.binds (ps := ["_law_script", "_law_k"]) fun _ _ _ _ _ _ us hl => match us, hl with | [_, _], _ => rfl⟩ nice_block
theorem cal_mixed (F : Fun K "_law_mixed" "_law_mixed" s_mixed f fd) (hm : mg "_law_mixed" = some (.ref f)) (c_block : C_block P w K mg base k) (b_len : mg "len" = none) (b_min : mg "min" = none) : C_mixed P w K mg base (k + 1) := by
 have nd := (sc_mixed).nd
 exact Cal.imp (m := runD 4 f_mixed) ⟨f, fd, fn_ok (N := ["_law_script", "_law_k", "_law_cell", "_law_number"]) F sc_mixed fun cdv A outer s G H E hr =>
   dss_cons (ds_set (i := 2) true nd (de_int))
   (dss_cons (ds_if (dt_gt (de_callB call_len_seq cd_len b_len PySem.boot_len (da_cons (de_var (pv 0)) (da_nil))) (de_int))
   (dss_one (ds_set (i := 2) true nd (de_at (de_var (pv 0)) (de_int))))
   (dss_nil))
   (dss_cons (ds_if (dt_w (dw_and (dt_eq (hu20 hr) (de_mod (de_div (de_var (pv 2)) (de_pow (de_int) (de_int))) (de_int)) (de_int)) (dw_and1 (dt_ne (hu20 hr) (de_cal c_block hr (da_cons (de_var (pv 0)) (da_cons (de_var (pv 1)) (da_nil))) (len_cons (len_cons (len_nil)))) (de_int)))))
   (dss_one (ds_ret (de_mod (de_cal c_block hr (da_cons (de_var (pv 0)) (da_cons (de_var (pv 1)) (da_nil))) (len_cons (len_cons (len_nil)))) (de_int))))
   (dss_nil))
   (dss_cons (ds_if (dt_gt (de_callB call_len_seq cd_len b_len PySem.boot_len (da_cons (de_var (pv 0)) (da_nil))) (de_int))
   (dss_one (ds_set (i := 2) true nd (de_at (de_var (pv 0)) (de_mod (de_var (pv 1)) (de_callB (call_min2 rfl) cd_min2 b_min boot_min (da_cons (de_int) (da_cons (de_callB call_len_seq cd_len b_len PySem.boot_len (da_cons (de_var (pv 0)) (da_nil))) (da_nil))))))))
   (dss_nil))
   (dss_cons (ds_set (i := 3) true nd (de_add (de_mod (de_var (pv 2)) (de_pow (de_int) (de_int))) (de_mul (de_int) (de_add (de_var (pv 1)) (de_int)))))
   (dss_cons (ds_set (i := 3) true nd (de_add (de_mod (de_mul (de_var (pv 3)) (de_var (pv 3))) (de_int)) (de_mul (de_int) (de_var (pv 1)))))
   (dss_one (ds_ret (de_mod (de_mul (de_var (pv 3)) (de_var (pv 3))) (de_int))))))))), hm, F.kp, F.binds (ps := ["_law_script", "_law_k"]) fun _ _ _ _ _ _ us hl => match us, hl with | [_, _], _ => rfl⟩ nice_mixed
theorem cal_frame (F : Fun K "_law_frame" "_law_frame" s_frame f fd) (hm : mg "_law_frame" = some (.ref f)) (c_cell_at : C_cell_at P w K mg base k) (c_mixed : C_mixed P w K mg base k)  : C_frame P w K mg base (k + 1) := by
 have nd := (sc_frame).nd
 exact Cal.imp (m := runD 6 f_frame) ⟨f, fd, fn_ok (N := ["_law_script", "_law_wide", "_law_high", "_law_far", "_law_slant", "_law_right"]) F sc_frame fun cdv A outer s G H E hr =>
   dss_cons (ds_set (i := 1) true nd (de_at (de_lst (dh_cons (de_int) (dh_cons (de_add (de_int) (de_mod (de_cal c_cell_at hr (da_cons (de_var (pv 0)) (da_cons (de_int) (da_nil))) (len_cons (len_cons (len_nil)))) (de_pow (de_int) (de_int)))) (dh_nil)))) (de_mod (de_cal c_mixed hr (da_cons (de_var (pv 0)) (da_cons (de_int) (da_nil))) (len_cons (len_cons (len_nil)))) (de_int))))
   (dss_cons (ds_set (i := 2) true nd (de_at (de_lst (dh_cons (de_int) (dh_cons (de_add (de_int) (de_mod (de_cal c_cell_at hr (da_cons (de_var (pv 0)) (da_cons (de_int) (da_nil))) (len_cons (len_cons (len_nil)))) (de_pow (de_int) (de_int)))) (dh_nil)))) (de_mod (de_cal c_mixed hr (da_cons (de_var (pv 0)) (da_cons (de_int) (da_nil))) (len_cons (len_cons (len_nil)))) (de_int))))
   (dss_cons (ds_set (i := 3) true nd (de_at (de_lst (dh_cons (de_int) (dh_cons (de_pow (de_int) (de_int)) (dh_nil)))) (de_mod (de_cal c_mixed hr (da_cons (de_var (pv 0)) (da_cons (de_int) (da_nil))) (len_cons (len_cons (len_nil)))) (de_int))))
   (dss_cons (ds_set (i := 4) true nd (de_sub (de_mod (de_cal c_mixed hr (da_cons (de_var (pv 0)) (da_cons (de_int) (da_nil))) (len_cons (len_cons (len_nil)))) (de_int)) (de_int)))
   (dss_cons (ds_set (i := 5) true nd (de_sub (de_mod (de_cal c_cell_at hr (da_cons (de_var (pv 0)) (da_cons (de_int) (da_nil))) (len_cons (len_cons (len_nil)))) (de_var (pv 3))) (de_div (de_var (pv 3)) (de_int))))
   (dss_one (ds_ret (de_tup (dh_cons (de_var (pv 1)) (dh_cons (de_var (pv 2)) (dh_cons (de_var (pv 4)) (dh_cons (de_var (pv 5)) (dh_cons (de_sub (de_mod (de_cal c_cell_at hr (da_cons (de_var (pv 0)) (da_cons (de_int) (da_nil))) (len_cons (len_cons (len_nil)))) (de_var (pv 3))) (de_div (de_var (pv 3)) (de_int))) (dh_nil))))))))))))), hm, F.kp, F.binds (ps := ["_law_script"]) fun _ _ _ _ _ _ us hl => match us, hl with | [_], _ => rfl⟩ nice_frame
theorem cal_pegs (F : Fun K "_law_pegs" "_law_pegs" s_pegs f fd) (hm : mg "_law_pegs" = some (.ref f)) (c_mixed : C_mixed P w K mg base k) (b_range : mg "range" = none) : C_pegs P w K mg base (k + 1) := by
 have nd := (sc_pegs).nd
 exact Cal.imp (m := runD 6 f_pegs) ⟨f, fd, fn_ok (N := ["_law_script", "_law_number", "_law_many", "_law_found", "_law_k", "_law_peg"]) F sc_pegs fun cdv A outer s G H E hr =>
   dss_cons (ds_set (i := 1) true nd (de_cal c_mixed hr (da_cons (de_var (pv 0)) (da_cons (de_int) (da_nil))) (len_cons (len_cons (len_nil)))))
   (dss_cons (ds_set (i := 2) true nd (de_at (de_lst (dh_cons (de_mod (de_var (pv 1)) (de_int)) (dh_cons (de_mod (de_var (pv 1)) (de_int)) (dh_cons (de_int) (dh_nil))))) (de_mod (de_div (de_mod (de_div (de_var (pv 1)) (de_int)) (de_int)) (de_int)) (de_int))))
   (dss_cons (ds_set (i := 3) false nd (de_lst (dh_nil)))
   (dss_cons (ds_for PassesOwn.never (di_range1 b_range (da_cons (de_var (pv 2)) (da_nil))) (dg_name (i := 4) nd)
   (dss_cons (ds_set (i := 1) true nd (de_cal c_mixed hr (da_cons (de_var (pv 0)) (da_cons (de_add (de_int) (de_var (pv 4))) (da_nil))) (len_cons (len_cons (len_nil)))))
   (dss_cons (ds_set (i := 5) true nd (de_tup (dh_cons (de_mul (de_int) (de_mod (de_var (pv 1)) (de_int))) (dh_cons (de_mod (de_div (de_var (pv 1)) (de_int)) (de_int)) (dh_nil)))))
   (dss_one (ds_if (dt_nin (hu20 hr) (de_var (pv 5)) (de_var (pv 3)))
   (dss_one (ds_append (pv 3) (de_var (pv 5))))
   (dss_nil))))))
   (dss_one (ds_ret (de_var (pv 3))))))), hm, F.kp, F.binds (ps := ["_law_script"]) fun _ _ _ _ _ _ us hl => match us, hl with | [_], _ => rfl⟩ nice_pegs
theorem calr_p_lines (F : Fun K "lines" "lines" s_p_lines f fd) (hm : mg "lines" = some (.ref f)) {cE : Addr} (hE : mg "NoPegs" = some (.ref cE)) (qE : PySem.W.excIn K cE bmVal "ValueError.__new__" = true) (b_len : mg "len" = none) (b_set : mg "set" = none) : CalR P w K mg base (k + 1) "lines" ["pegs"] R_p_lines := by
 have nd := (sc_p_lines).nd
 exact ⟨f, fd, fnx_ok (N := ["pegs", "heights_by_x", "x", "y"]) (R := RD) F sc_p_lines fun cdv A outer s G H E hr => rg_imp (rg_head (rs_if (dt_lt (de_lenSet (hu20 hr) (de_var (pv 0)) b_len b_set) (de_callB call_len_seq cd_len b_len PySem.boot_len (da_cons (de_var (pv 0)) (da_nil)))) (rss_head (rs_raise hE qE)))) lines_rd, hm, F.kp, F.binds (ps := ["pegs"]) fun _ _ _ _ _ _ us hl => match us, hl with | [_], _ => rfl⟩
theorem cal_p_lines (F : Fun K "lines" "lines" s_p_lines f fd) (hm : mg "lines" = some (.ref f))  (b_len : mg "len" = none) (b_set : mg "set" = none) (b_sorted : mg "sorted" = none) (b_list : mg "list" = none) : C_p_lines P w K mg base (k + 1) := by
 have nd := (sc_p_lines).nd
 exact Cal.imp (m := runD 4 f_p_lines) ⟨f, fd, fn_ok (N := ["pegs", "heights_by_x", "x", "y"]) F sc_p_lines fun cdv A outer s G H E hr =>
   dss_cons (ds_if (dt_lt (de_lenSet (hu20 hr) (de_var (pv 0)) b_len b_set) (de_callB call_len_seq cd_len b_len PySem.boot_len (da_cons (de_var (pv 0)) (da_nil))))
   (dss_one ds_never) (dss_nil))
   (dss_lines (pss_cons (ps_set (i := 1) nd rfl (Or.inl rfl) pe_dict0)
   (pss_cons (ps_for PassesOwn.never rfl (pi_list (pe_callB call_sortedP rfl b_sorted boot_sorted (pa_cons (pv 0) pa_nil))) (pg_tup rfl (pgs_cons (pg_name (i := 2) nd rfl (Or.inl rfl)) (pgs_cons (pg_name (i := 3) nd rfl (Or.inl rfl)) pgs_nil)))
   (pss_one (ps_expr (pe_bm PySem.F.plainAttrs_list PySem.F.slot_list_append PySem.F.type_list_append mt_append (pe_bm PySem.F.plainAttrs_dict PySem.F.slot_dict_setdefault PySem.F.type_dict_setdefault mt_setdef (pv 1) (pa_cons (pv 2) (pa_cons (pe_lst pa_nil) pa_nil))) (pa_cons (pv 3) pa_nil)))))
   (pss_one (ps_ret (pe_callTy (call_listItems rfl) rfl b_list boot_list (pa_cons (pe_bm0 PySem.F.plainAttrs_dict PySem.F.slot_dict_items PySem.F.type_dict_items mt_items (pv 1)) pa_nil)))))) rfl), hm, F.kp, F.binds (ps := ["pegs"]) fun _ _ _ _ _ _ us hl => match us, hl with | [_], _ => rfl⟩ nice_p_lines
theorem calr_p_looked (F : Fun K "looked" "looked" s_p_looked f fd) (hm : mg "looked" = some (.ref f)) (r_p_lines : CalR P w K mg base k "lines" ["pegs"] R_p_lines) : CalR P w K mg base (k + 1) "looked" ["pegs", "rope"] R_p_looked := by
 have nd := (sc_p_looked).nd
 exact ⟨f, fd, fnx_ok (N := ["pegs", "rope", "board"]) (R := RD) F sc_p_looked fun cdv A outer s G H E hr => rg_imp (rg_head (rs_set (re_call r_p_lines hr (da_cons (de_var (pv 0)) (da_nil)) (len_cons (len_nil))))) looked_rd, hm, F.kp, F.binds (ps := ["pegs", "rope"]) fun _ _ _ _ _ _ us hl => match us, hl with | [_, _], _ => rfl⟩
theorem calr_p_row_of (F : Fun K "row_of" "row_of" s_p_row_of f fd) (hm : mg "row_of" = some (.ref f)) (r_p_looked : CalR P w K mg base k "looked" ["pegs", "rope"] R_p_looked) : CalR P w K mg base (k + 1) "row_of" ["pegs", "rope"] R_p_row_of := by
 have nd := (sc_p_row_of).nd
 exact ⟨f, fd, fnx_ok (N := ["pegs", "rope", "board", "row", "stretch"]) (R := RDb) F sc_p_row_of fun cdv A outer s G H E hr => rg_imp (rg_head (rs_expr (re_call r_p_looked hr (da_cons (de_var (pv 0)) (da_cons (de_var (pv 1)) (da_nil))) (len_cons (len_cons (len_nil)))))) row_rd, hm, F.kp, F.binds (ps := ["pegs", "rope"]) fun _ _ _ _ _ _ us hl => match us, hl with | [_, _], _ => rfl⟩
theorem calr_p_alike (F : Fun K "alike" "alike" s_p_alike f fd) (hm : mg "alike" = some (.ref f)) (r_p_row_of : CalR P w K mg base k "row_of" ["pegs", "rope"] R_p_row_of) {fs : Addr} (ms : mg "shortened" = some (.ref fs)) (ks : PySem.W.keepIn K (.ref fs) = true) : CalR P w K mg base (k + 1) "alike" ["pegs", "one", "other"] R_p_alike := by
 have nd := (sc_p_alike).nd
 exact ⟨f, fd, fnx_ok (N := ["pegs", "one", "other", "row", "other_row"]) (R := RDb) F sc_p_alike fun cdv A outer s G H E hr => rg_imp (rg_head (rs_set (re_outer ms ks (ra_first (re_call r_p_row_of hr (da_cons (de_var (pv 0)) (da_cons (de_var (pv 1)) (da_nil))) (len_cons (len_cons (len_nil)))))))) alike_rd, hm, F.kp, F.binds (ps := ["pegs", "one", "other"]) fun _ _ _ _ _ _ us hl => match us, hl with | [_, _, _], _ => rfl⟩
theorem calr_asked (F : Fun K "_law_asked" "_law_asked" s_asked f fd) (hm : mg "_law_asked" = some (.ref f)) (r_p_lines : CalR P w K mg base k "lines" ["pegs"] R_p_lines) (r_p_looked : CalR P w K mg base k "looked" ["pegs", "rope"] R_p_looked) (r_p_row_of : CalR P w K mg base k "row_of" ["pegs", "rope"] R_p_row_of) (r_p_alike : CalR P w K mg base k "alike" ["pegs", "one", "other"] R_p_alike) : CalR P w K mg base (k + 1) "_law_asked" ["_law_pegs_here", "_law_rope", "_law_way"] R_asked := by
 have nd := (sc_asked).nd
 exact ⟨f, fd, fnx_ok (N := ["_law_pegs_here", "_law_rope", "_law_way"]) (R := RDa) F sc_asked fun cdv A outer s G H E hr => rg_imp (rg_or (rg_head (rs_if (dt_eq (hu20 hr) (de_var (pv 2)) (de_int)) (rss_head (rs_ret (re_call r_p_lines hr (da_cons (de_var (pv 0)) (da_nil)) (len_cons (len_nil)))))))
  (rg_or (rg_tail (ds_if (dt_eq (hu20 hr) (de_var (pv 2)) (de_int)) (dss_one ds_never) dss_nil) (rg_head (rs_if (dt_eq (hu20 hr) (de_var (pv 2)) (de_int)) (rss_head (rs_ret (re_call r_p_looked hr (da_cons (de_var (pv 0)) (da_cons (de_var (pv 1)) (da_nil))) (len_cons (len_cons (len_nil)))))))))
  (rg_or (rg_tail (ds_if (dt_eq (hu20 hr) (de_var (pv 2)) (de_int)) (dss_one ds_never) dss_nil) (rg_tail (ds_if (dt_eq (hu20 hr) (de_var (pv 2)) (de_int)) (dss_one ds_never) dss_nil) (rg_head (rs_if (dt_eq (hu20 hr) (de_var (pv 2)) (de_int)) (rss_head (rs_ret (re_call r_p_row_of hr (da_cons (de_var (pv 0)) (da_cons (de_var (pv 1)) (da_nil))) (len_cons (len_cons (len_nil))))))))))
  (rg_tail (ds_if (dt_eq (hu20 hr) (de_var (pv 2)) (de_int)) (dss_one ds_never) dss_nil) (rg_tail (ds_if (dt_eq (hu20 hr) (de_var (pv 2)) (de_int)) (dss_one ds_never) dss_nil) (rg_tail (ds_if (dt_eq (hu20 hr) (de_var (pv 2)) (de_int)) (dss_one ds_never) dss_nil) (rg_head (rs_ret (re_call r_p_alike hr (da_cons (de_var (pv 0)) (da_cons (de_var (pv 1)) (da_cons (de_sl (de_var (pv 1)) (do_none) (do_some (de_int))) (da_nil)))) (len_cons (len_cons (len_cons (len_nil))))))))))))) asked_rd, hm, F.kp, F.binds (ps := ["_law_pegs_here", "_law_rope", "_law_way"]) fun _ _ _ _ _ _ us hl => match us, hl with | [_, _, _], _ => rfl⟩
theorem cal_caught (F : Fun K "_law_caught" "_law_caught" s_caught f fd) (hm : mg "_law_caught" = some (.ref f)) (r_asked : CalR P w K mg base k "_law_asked" ["_law_pegs_here", "_law_rope", "_law_way"] R_asked) {cB : Addr} (hB : mg "RopeError" = some (.ref cB)) (hx : ∀ C, mg "NoPegs" = some (.ref C) → PySem.W.exmOne K (.ref C) (.ref cB) = some true) : C_caught P w K mg base (k + 1) := by
 have nd := (sc_caught).nd
 exact ⟨f, fd, fn_caught (N := ["_law_pegs_here", "_law_rope", "_law_way", "_law_caught_here", "e"]) (n := 3) (cs := ["NoPegs"]) F sc_caught rfl rfl (fun cdv A outer s G H E hr =>
   pss_cons (ps_set (i := 3) nd rfl (Or.inl rfl) pe_non)
   (pss_cons (ps_try (j := 4) (cs := ["NoPegs"]) (fun E => rss_head (rs_expr (re_call r_asked hr (da_cons (de_var (pv 0)) (da_cons (de_var (pv 1)) (da_cons (de_var (pv 2)) da_nil))) (len_cons (len_cons (len_cons len_nil))))))
     (fun e => pss_one (ps_set (i := 3) nd rfl (Or.inl rfl) (pv 4))) hB (fun c hc C hC => hx C (by rw [List.mem_singleton] at hc; rw [← hc]; exact hC)) nd rfl rfl)
   (pss_one (ps_ret (pv 3)))))
   (fun ds c hl h => match ds, hl, h with | [a, b, c], _, h => ⟨[.pers a, .pers b, .pers c], rfl, rfl, h⟩), hm, F.kp, F.binds (ps := ["_law_pegs_here", "_law_rope", "_law_way"]) fun _ _ _ _ _ _ us hl => match us, hl with | [_, _, _], _ => rfl⟩
theorem boot_ValueError : bootBuiltins "ValueError" = some (.type "ValueError") := by decide +kernel
theorem ok_law (F : Fun K "law" "law" s_law f fd) (c_put : C_put P w K mg base k) (c_frame : C_frame P w K mg base k) (c_pegs : C_pegs P w K mg base k) (c_mixed : C_mixed P w K mg base k) (c_caught : C_caught P w K mg base k) (c_p_lines : C_p_lines P w K mg base k) (b_len : mg "len" = none) (b_min : mg "min" = none) (b_list : mg "list" = none) (b_range : mg "range" = none) (b_isinstance : mg "isinstance" = none) (b_ValueError : mg "ValueError" = none) (b_set : mg "set" = none) {cE c1 c2 : Addr} (Z : Kin K mg "NoPegs" cE c1 c2) (m1 : mg "NoEnds" = some (.ref c1)) (m2 : mg "NoRope" = some (.ref c2)) : FnOk P w K mg base CX0 (k + 1) f fd ["_law_script"] (spD K (runD 10 f_law) 1) := by
 have nd := (sc_law).nd
 exact fn_ok (N := ["_law_script", "_law_pegs_here", "_law_at", "_law_place", "_law_double", "_law_left", "_law_rope", "_law_handed", "_law_way", "_law_caught_here"]) F sc_law fun cdv A outer s G H E hr =>
   dss_cons (ds_set (i := 1) true nd (de_cal c_put hr (da_cons (de_add (de_sl (de_cal c_pegs hr (da_cons (de_var (pv 0)) (da_nil)) (len_cons (len_nil))) (do_none) (do_some (de_int))) (de_lst (dh_cons (de_tup (dh_cons (de_int) (dh_cons (de_int) (dh_nil)))) (dh_nil)))) (da_cons (de_cal c_frame hr (da_cons (de_var (pv 0)) (da_nil)) (len_cons (len_nil))) (da_nil))) (len_cons (len_cons (len_nil)))))
   (dss_cons (ds_set (i := 2) true nd (de_mod (de_cal c_mixed hr (da_cons (de_var (pv 0)) (da_cons (de_int) (da_nil))) (len_cons (len_cons (len_nil)))) (de_callB call_len_seq cd_len b_len PySem.boot_len (da_cons (de_var (pv 1)) (da_nil)))))
   (dss_cons (ds_set (i := 3) true nd (de_mod (de_cal c_mixed hr (da_cons (de_var (pv 0)) (da_cons (de_int) (da_nil))) (len_cons (len_cons (len_nil)))) (de_add (de_callB call_len_seq cd_len b_len PySem.boot_len (da_cons (de_var (pv 1)) (da_nil))) (de_int))))
   (dss_cons (ds_set (i := 4) true nd (de_add (de_add (de_sl (de_var (pv 1)) (do_none) (do_some (de_var (pv 3)))) (de_lst (dh_cons (de_at (de_var (pv 1)) (de_var (pv 2))) (dh_nil)))) (de_sl (de_var (pv 1)) (do_some (de_var (pv 3))) (do_none))))
   (dss_cons (ds_set (i := 5) true nd (de_sub (de_callB (call_Min1 rfl) cd_Min1 b_min boot_min (da_cons (de_comp (cap := []) (own := ["_law_x", "_law_y"]) ⟨rfl, by decide +kernel, by decide +kernel, rfl, rfl⟩ (di_list (de_var (pv 1))) (fun _ _ _ => dg_tup rfl (dgs_cons (i := 0) (show (["_law_x", "_law_y"] : List Str).Nodup from by decide +kernel) (dgs_cons (i := 1) (show (["_law_x", "_law_y"] : List Str).Nodup from by decide +kernel) (dgs_nil)))) (calm_tup [0, 1]) (fun _ _ _ => dts_nil) (fun _ _ _ => de_var (pv 0))) (da_nil))) (de_int)))
   (dss_cons (ds_set (i := 6) true nd (de_at (de_lst (dh_cons (de_lst (dh_cons (de_tup (dh_cons (de_var (pv 5)) (dh_cons (de_int) (dh_nil)))) (dh_cons (de_tup (dh_cons (de_var (pv 5)) (dh_cons (de_int) (dh_nil)))) (dh_nil)))) (dh_cons (de_lst (dh_cons (de_tup (dh_cons (de_var (pv 5)) (dh_cons (de_int) (dh_nil)))) (dh_nil))) (dh_cons (de_lst (dh_cons (de_tup (dh_cons (de_var (pv 5)) (dh_cons (de_int) (dh_nil)))) (dh_cons (de_at (de_var (pv 1)) (de_int)) (dh_nil)))) (dh_nil))))) (de_mod (de_cal c_mixed hr (da_cons (de_var (pv 0)) (da_cons (de_int) (da_nil))) (len_cons (len_cons (len_nil)))) (de_int))))
   (dss_cons (ds_set (i := 7) true nd (de_callT call_list_of cd_list b_list boot_list (da_cons (de_var (pv 4)) (da_nil))))
   (dss_cons (ds_for PassesOwn.never (di_range1 b_range (da_cons (de_int) (da_nil))) (dg_name (i := 8) nd)
   (dss_blk (R := R_asked) (i := 9) (n := 3) Z (pss_cons (ps_set (i := 9) nd rfl (Or.inl rfl) (pe_calK c_caught rfl hr (da_cons (de_var (pv 7)) (da_cons (de_var (pv 6)) (da_cons (de_var (pv 8)) (da_nil))))))
   (pss_cons (ps_if (PW.pt (pw_or (pt_val (pe_callB call_isiT rfl b_isinstance boot_isinstance (pa_cons (pv 9) (pa_cons (pe_tup (pa_cons (pe_glob rfl m1 rfl) (pa_cons (pe_glob rfl m2 rfl) pa_nil))) pa_nil)))) (pw_or1 (dt_ne (hu20 hr) (de_var (pv 7)) (de_var (pv 4)))))) (pss_one (ps_ret pe_bl)) pss_nil)
   (pss_one (ps_if (PW.pt (pw_or (pt_not (pt_val (pe_callB call_isiX rfl b_isinstance boot_isinstance (pa_cons (pv 9) (pa_cons (pe_glob rfl Z.at_ rfl) pa_nil))))) (pw_or1 (pt_not (pt_val (pe_callB call_isiX rfl b_isinstance boot_isinstance (pa_cons (pv 9) (pa_cons (pe_bltn rfl b_ValueError boot_ValueError rfl) pa_nil)))))))) (pss_one (ps_ret pe_bl)) pss_nil))))))
   (dss_one (ds_ret (de_eq (hu20 hr) (de_callB call_len_seq cd_len b_len PySem.boot_len (da_cons (de_cal c_p_lines hr (da_cons (de_var (pv 1)) (da_nil)) (len_cons (len_nil))) (da_nil))) (de_lenSet (hu20 hr) (de_comp (cap := []) (own := ["_law_x", "_law_y"]) ⟨rfl, by decide +kernel, by decide +kernel, rfl, rfl⟩ (di_list (de_var (pv 1))) (fun _ _ _ => dg_tup rfl (dgs_cons (i := 0) (show (["_law_x", "_law_y"] : List Str).Nodup from by decide +kernel) (dgs_cons (i := 1) (show (["_law_x", "_law_y"] : List Str).Nodup from by decide +kernel) (dgs_nil)))) (calm_tup [0, 1]) (fun _ _ _ => dts_nil) (fun _ _ _ => de_var (pv 0))) b_len b_set)))))))))))
end
end My
namespace My
open PySem PySem.Spec PyProof.Rows L2 DL
abbrev A_ (K : PySem.W.Frag) (x : Str) (f : Addr) : Prop := PySem.W.nsIn K mainGlobals x = some (some (.ref f))
abbrev L_ (K : PySem.W.Frag) (f : Addr) (x : Str) (s : Stmt) (oc kV dc pm cd ct : Value) (od an : Option Addr) (sl : Array (Option Value)) : Prop := K.lookup f = some ⟨oc, od, .func (PySem.W.fnOf x x (defArgs s) (defBody s) (defScope s) .none kV dc pm an cd ct), sl⟩
abbrev D_ (K : PySem.W.Frag) (cd : Value) (x : Str) : Prop := PySem.W.codeIn K cd x = true
abbrev P_ (K : PySem.W.Frag) (f : Addr) : Prop := PySem.W.keepIn K (.ref f) = true
theorem all_mk {l : PySem.W.OpenLaw} {w : World} {K : PySem.W.Frag} {h : Heap} {mg : Str → Option Value} {fa f1 f2 f3 f4 f5 f6 f7 f8 f9 f10 f11 f12 f13 f14 uB uE uR uN : Addr} (X : K.In h) (G : h.Ns mainGlobals mg) (hfa : mg "law" = some (.ref fa))
  {od1 an1 od2 an2 od3 an3 od4 an4 od5 an5 od6 an6 od7 an7 od8 an8 od9 an9 od10 an10 od11 an11 od12 an12 od13 an13 od14 an14 : Option Addr} {sl1 sl2 sl3 sl4 sl5 sl6 sl7 sl8 sl9 sl10 sl11 sl12 sl13 sl14 : Array (Option Value)} {oc1 kV1 dc1 pm1 cd1 ct1 oc2 kV2 dc2 pm2 cd2 ct2 oc3 kV3 dc3 pm3 cd3 ct3 oc4 kV4 dc4 pm4 cd4 ct4 oc5 kV5 dc5 pm5 cd5 ct5 oc6 kV6 dc6 pm6 cd6 ct6 oc7 kV7 dc7 pm7 cd7 ct7 oc8 kV8 dc8 pm8 cd8 ct8 oc9 kV9 dc9 pm9 cd9 ct9 oc10 kV10 dc10 pm10 cd10 ct10 oc11 kV11 dc11 pm11 cd11 ct11 oc12 kV12 dc12 pm12 cd12 ct12 oc13 kV13 dc13 pm13 cd13 ct13 oc14 kV14 dc14 pm14 cd14 ct14 : Value}
  (a1 : A_ K "_law_put" f1) (l1 : L_ K f1 "_law_put" s_put oc1 kV1 dc1 pm1 cd1 ct1 od1 an1 sl1) (c1 : D_ K cd1 "_law_put") (k1 : P_ K f1)
  (a2 : A_ K "_law_cell_at" f2) (l2 : L_ K f2 "_law_cell_at" s_cell_at oc2 kV2 dc2 pm2 cd2 ct2 od2 an2 sl2) (c2 : D_ K cd2 "_law_cell_at") (k2 : P_ K f2)
  (a3 : A_ K "_law_block" f3) (l3 : L_ K f3 "_law_block" s_block oc3 kV3 dc3 pm3 cd3 ct3 od3 an3 sl3) (c3 : D_ K cd3 "_law_block") (k3 : P_ K f3)
  (a4 : A_ K "_law_mixed" f4) (l4 : L_ K f4 "_law_mixed" s_mixed oc4 kV4 dc4 pm4 cd4 ct4 od4 an4 sl4) (c4 : D_ K cd4 "_law_mixed") (k4 : P_ K f4)
  (a5 : A_ K "_law_frame" f5) (l5 : L_ K f5 "_law_frame" s_frame oc5 kV5 dc5 pm5 cd5 ct5 od5 an5 sl5) (c5 : D_ K cd5 "_law_frame") (k5 : P_ K f5)
  (a6 : A_ K "_law_pegs" f6) (l6 : L_ K f6 "_law_pegs" s_pegs oc6 kV6 dc6 pm6 cd6 ct6 od6 an6 sl6) (c6 : D_ K cd6 "_law_pegs") (k6 : P_ K f6)
  (a7 : A_ K "lines" f7) (l7 : L_ K f7 "lines" s_p_lines oc7 kV7 dc7 pm7 cd7 ct7 od7 an7 sl7) (c7 : D_ K cd7 "lines") (k7 : P_ K f7)
  (a8 : A_ K "looked" f8) (l8 : L_ K f8 "looked" s_p_looked oc8 kV8 dc8 pm8 cd8 ct8 od8 an8 sl8) (c8 : D_ K cd8 "looked") (k8 : P_ K f8)
  (a9 : A_ K "row_of" f9) (l9 : L_ K f9 "row_of" s_p_row_of oc9 kV9 dc9 pm9 cd9 ct9 od9 an9 sl9) (c9 : D_ K cd9 "row_of") (k9 : P_ K f9)
  (a10 : A_ K "shortened" f10) (l10 : L_ K f10 "shortened" s_p_shortened oc10 kV10 dc10 pm10 cd10 ct10 od10 an10 sl10) (c10 : D_ K cd10 "shortened") (k10 : P_ K f10)
  (a11 : A_ K "alike" f11) (l11 : L_ K f11 "alike" s_p_alike oc11 kV11 dc11 pm11 cd11 ct11 od11 an11 sl11) (c11 : D_ K cd11 "alike") (k11 : P_ K f11)
  (a12 : A_ K "_law_asked" f12) (l12 : L_ K f12 "_law_asked" s_asked oc12 kV12 dc12 pm12 cd12 ct12 od12 an12 sl12) (c12 : D_ K cd12 "_law_asked") (k12 : P_ K f12)
  (a13 : A_ K "_law_caught" f13) (l13 : L_ K f13 "_law_caught" s_caught oc13 kV13 dc13 pm13 cd13 ct13 od13 an13 sl13) (c13 : D_ K cd13 "_law_caught") (k13 : P_ K f13)
  (a14 : A_ K "law" f14) (l14 : L_ K f14 "law" s_law oc14 kV14 dc14 pm14 cd14 ct14 od14 an14 sl14) (c14 : D_ K cd14 "law") (k14 : P_ K f14)
  (e_RopeError : A_ K "RopeError" uB)
  (e_NoPegs : A_ K "NoPegs" uE)
  (e_NoRope : A_ K "NoRope" uR)
  (e_NoEnds : A_ K "NoEnds" uN)
  (qE : PySem.W.excIn K uE [.type "ValueError", .type "Exception", .type "BaseException", .type "object"] "ValueError.__new__" = true)
  (xE : PySem.W.exmOne K (.ref uE) (.ref uB) = some true)
  {cd_uE : ClassData}
  (xcl_uE : PySem.W.clsIn K uE = some cd_uE)
  (xga_uE : PySem.W.findIn K (.ref uE) "__getattribute__" = some (some (.builtin "BaseException.__getattribute__")))
  (xgn_uE : PySem.W.findIn K (.ref uE) "__getattr__" = some none)
  (xca_uE : PySem.W.findIn K (.ref uE) "__class__" = some (some (.builtin "object.__class__")))
  (xcg_uE : PySem.W.specialIn K (.builtin "object.__class__") "__get__" = some (some (.builtin "getset_descriptor.__get__")))
  (xct_uE : PySem.W.takesIn K (.builtin "object.__class__") = some true)
  (xmo_uE : PySem.W.mroIn K uE (.type "object") = some true)
  (xmb_uE : PySem.W.mroIn K uE (.type "BaseException") = some true)
  (kno : PySem.W.kitAny K (.ref uE) [.ref uN, .ref uR] = some false)
  (kyes : PySem.W.kitOne K (.ref uE) (.ref uE) = some true)
  (kval : PySem.W.kitOne K (.ref uE) (.type "ValueError") = some true)
  (z_len : PySem.W.nsIn K mainGlobals "len" = some none)
  (z_range : PySem.W.nsIn K mainGlobals "range" = some none)
  (z_min : PySem.W.nsIn K mainGlobals "min" = some none)
  (z_set : PySem.W.nsIn K mainGlobals "set" = some none)
  (z_sorted : PySem.W.nsIn K mainGlobals "sorted" = some none)
  (z_list : PySem.W.nsIn K mainGlobals "list" = some none)
  (z_isinstance : PySem.W.nsIn K mainGlobals "isinstance" = some none)
  (z_ValueError : PySem.W.nsIn K mainGlobals "ValueError" = some none) :
  ∃ fd : FuncData, (∀ (s : Shared) (v : Value), BindsTo s fd ⟨[v], []⟩ [("_law_script", v)]) ∧ ∀ base : Heap, K.In base → base.Ns mainGlobals mg → FnOk l.prog w K mg base CX0 7 fa fd ["_law_script"] (spD K (runD 10 f_law) 1) := by
  have e := hfa.symm.trans (PySem.W.mg_of X G a14)
  cases e
  have b_len := PySem.W.mg_none_of X G z_len
  have b_range := PySem.W.mg_none_of X G z_range
  have b_min := PySem.W.mg_none_of X G z_min
  have b_set := PySem.W.mg_none_of X G z_set
  have b_sorted := PySem.W.mg_none_of X G z_sorted
  have b_list := PySem.W.mg_none_of X G z_list
  have b_isinstance := PySem.W.mg_none_of X G z_isinstance
  have b_ValueError := PySem.W.mg_none_of X G z_ValueError
  have F1 := fun_mk (st := s_put) l1 c1 k1
  have F2 := fun_mk (st := s_cell_at) l2 c2 k2
  have F3 := fun_mk (st := s_block) l3 c3 k3
  have F4 := fun_mk (st := s_mixed) l4 c4 k4
  have F5 := fun_mk (st := s_frame) l5 c5 k5
  have F6 := fun_mk (st := s_pegs) l6 c6 k6
  have F7 := fun_mk (st := s_p_lines) l7 c7 k7
  have F8 := fun_mk (st := s_p_looked) l8 c8 k8
  have F9 := fun_mk (st := s_p_row_of) l9 c9 k9
  have F10 := fun_mk (st := s_p_shortened) l10 c10 k10
  have F11 := fun_mk (st := s_p_alike) l11 c11 k11
  have F12 := fun_mk (st := s_asked) l12 c12 k12
  have F13 := fun_mk (st := s_caught) l13 c13 k13
  have F14 := fun_mk (st := s_law) l14 c14 k14
  refine ⟨PySem.W.fnOf "law" "law" (defArgs s_law) (defBody s_law) (defScope s_law) .none kV14 dc14 pm14 an14 cd14 ct14, fun s v => .of_eq rfl, fun base _ _ => ?run⟩
  case run =>
    have q_put : C_put l.prog w K mg base 1 := cal_put (k := 0) F1 (PySem.W.mg_of X G a1)
    have q_cell_at : C_cell_at l.prog w K mg base 1 := cal_cell_at (k := 0) F2 (PySem.W.mg_of X G a2)  b_len
    have q_block : C_block l.prog w K mg base 1 := cal_block (k := 0) F3 (PySem.W.mg_of X G a3)  b_len b_range
    have q_mixed : C_mixed l.prog w K mg base 2 := cal_mixed (k := 1) F4 (PySem.W.mg_of X G a4) (q_block.mono (by decide)) b_len b_min
    have q_frame : C_frame l.prog w K mg base 3 := cal_frame (k := 2) F5 (PySem.W.mg_of X G a5) (q_cell_at.mono (by decide)) (q_mixed.mono (by decide))
    have q_pegs : C_pegs l.prog w K mg base 3 := cal_pegs (k := 2) F6 (PySem.W.mg_of X G a6) (q_mixed.mono (by decide)) b_range
    have r_p_lines := calr_p_lines (P := l.prog) (w := w) (base := base) (k := 0) F7 (PySem.W.mg_of X G a7) (PySem.W.mg_of X G e_NoPegs) qE b_len b_set
    have q_p_lines : C_p_lines l.prog w K mg base 1 := cal_p_lines (k := 0) F7 (PySem.W.mg_of X G a7)  b_len b_set b_sorted b_list
    have r_p_looked := calr_p_looked (P := l.prog) (w := w) (base := base) (k := 1) F8 (PySem.W.mg_of X G a8) (r_p_lines.mono (by decide))
    have r_p_row_of := calr_p_row_of (P := l.prog) (w := w) (base := base) (k := 2) F9 (PySem.W.mg_of X G a9) (r_p_looked.mono (by decide))
    have m_short := (PySem.W.mg_of X G a10)
    have k_short := (F10).kp
    have r_p_alike := calr_p_alike (P := l.prog) (w := w) (base := base) (k := 3) F11 (PySem.W.mg_of X G a11) (r_p_row_of.mono (by decide)) m_short k_short
    have r_asked := calr_asked (P := l.prog) (w := w) (base := base) (k := 4) F12 (PySem.W.mg_of X G a12) (r_p_lines.mono (by decide)) (r_p_looked.mono (by decide)) (r_p_row_of.mono (by decide)) (r_p_alike.mono (by decide))
    have q_caught : C_caught l.prog w K mg base 6 := cal_caught (k := 5) F13 (PySem.W.mg_of X G a13) (r_asked.mono (by decide)) (PySem.W.mg_of X G e_RopeError) (fun C hC => by cases hC.symm.trans (PySem.W.mg_of X G e_NoPegs); exact xE)
    exact ok_law (k := 6) F14 (q_put.mono (by decide)) (q_frame.mono (by decide)) (q_pegs.mono (by decide)) (q_mixed.mono (by decide)) (q_caught.mono (by decide)) (q_p_lines.mono (by decide)) b_len b_min b_list b_range b_isinstance b_ValueError b_set ⟨PySem.W.mg_of X G e_NoPegs, ⟨(by rw [xcl_uE]; rfl), xga_uE, xgn_uE, xca_uE, xcg_uE, xct_uE, xmo_uE, xmb_uE⟩, kno, kyes, kval⟩ (PySem.W.mg_of X G e_NoEnds) (PySem.W.mg_of X G e_NoRope)
theorem law_sp (main : ∀ ns : List Int, ns.length ≤ 63 → runD 10 f_law [.scr ns] = .ok (.pers (.bl true))) (K : PySem.W.Frag) (H : Hp) (a : Addr) (ns : List Int) (hl : ns.length ≤ 63) (hS : SqL K H a (ns.map V.int)) :
    spD K (runD 10 f_law) 1 [.ref a] H (fun v _ => v = .bl true) fun _ _ _ => False :=
  ⟨H, [.scr ns], _, rfl, Same.refl _, ⟨_, _, rfl, ⟨a, rfl, hS⟩, rfl⟩, main ns hl, fun v G' H' _ _ h => h⟩
end My
namespace My
open PySem PySem.Spec PyProof.Rows L2 DL
end My
open PySem PySem.W PyProof.Rows
set_option maxRecDepth 100000 in
set_option maxHeartbeats 0 in
theorem PySem.Challenge.cw_tautline_k02_two_pegs_alike_holds : PySem.Challenge.rw_tautline_k02_two_pegs_alike.Holds := by
  w_on; o_law; k_head; (case hw => w_witness2)
  k_fill
  refine L2.walk_ofK (l := PySem.Challenge.rw_tautline_k02_two_pegs_alike) (n := 63) (k := 7) (x := "_law_script") (CX := L2.CX0) (sp := fun K => DL.spD K (DL.runD 10 My.f_law) 1) rfl (by decide) rfl ⟨rfl, by decide, by decide⟩ (fun w h Y => PySem.W.kIn_of Y) ?F ?S ?C
  case F =>
    intro w mg fa h KX G hmg
    refine' My.all_mk KX G hmg ?a1 ?l1 ?c1 ?k1 ?a2 ?l2 ?c2 ?k2 ?a3 ?l3 ?c3 ?k3 ?a4 ?l4 ?c4 ?k4 ?a5 ?l5 ?c5 ?k5 ?a6 ?l6 ?c6 ?k6 ?a7 ?l7 ?c7 ?k7 ?a8 ?l8 ?c8 ?k8 ?a9 ?l9 ?c9 ?k9 ?a10 ?l10 ?c10 ?k10 ?a11 ?l11 ?c11 ?k11 ?a12 ?l12 ?c12 ?k12 ?a13 ?l13 ?c13 ?k13 ?a14 ?l14 ?c14 ?k14 ?e_RopeError ?e_NoPegs ?e_NoRope ?e_NoEnds ?qE ?xE ?xcl_uE ?xga_uE ?xgn_uE ?xca_uE ?xcg_uE ?xct_uE ?xmo_uE ?xmb_uE ?kno ?kyes ?kval ?z_len ?z_range ?z_min ?z_set ?z_sorted ?z_list ?z_isinstance ?z_ValueError
    (case a1 => unfold My.A_; k_is); (case l1 => unfold My.L_; k_is); (case c1 => unfold My.D_; k_is); (case k1 => unfold My.P_; k_is)
    (case a2 => unfold My.A_; k_is); (case l2 => unfold My.L_; k_is); (case c2 => unfold My.D_; k_is); (case k2 => unfold My.P_; k_is)
    (case a3 => unfold My.A_; k_is); (case l3 => unfold My.L_; k_is); (case c3 => unfold My.D_; k_is); (case k3 => unfold My.P_; k_is)
    (case a4 => unfold My.A_; k_is); (case l4 => unfold My.L_; k_is); (case c4 => unfold My.D_; k_is); (case k4 => unfold My.P_; k_is)
    (case a5 => unfold My.A_; k_is); (case l5 => unfold My.L_; k_is); (case c5 => unfold My.D_; k_is); (case k5 => unfold My.P_; k_is)
    (case a6 => unfold My.A_; k_is); (case l6 => unfold My.L_; k_is); (case c6 => unfold My.D_; k_is); (case k6 => unfold My.P_; k_is)
    (case a7 => unfold My.A_; k_is); (case l7 => unfold My.L_; k_is); (case c7 => unfold My.D_; k_is); (case k7 => unfold My.P_; k_is)
    (case a8 => unfold My.A_; k_is); (case l8 => unfold My.L_; k_is); (case c8 => unfold My.D_; k_is); (case k8 => unfold My.P_; k_is)
    (case a9 => unfold My.A_; k_is); (case l9 => unfold My.L_; k_is); (case c9 => unfold My.D_; k_is); (case k9 => unfold My.P_; k_is)
    (case a10 => unfold My.A_; k_is); (case l10 => unfold My.L_; k_is); (case c10 => unfold My.D_; k_is); (case k10 => unfold My.P_; k_is)
    (case a11 => unfold My.A_; k_is); (case l11 => unfold My.L_; k_is); (case c11 => unfold My.D_; k_is); (case k11 => unfold My.P_; k_is)
    (case a12 => unfold My.A_; k_is); (case l12 => unfold My.L_; k_is); (case c12 => unfold My.D_; k_is); (case k12 => unfold My.P_; k_is)
    (case a13 => unfold My.A_; k_is); (case l13 => unfold My.L_; k_is); (case c13 => unfold My.D_; k_is); (case k13 => unfold My.P_; k_is)
    (case a14 => unfold My.A_; k_is); (case l14 => unfold My.L_; k_is); (case c14 => unfold My.D_; k_is); (case k14 => unfold My.P_; k_is)
    (case e_RopeError => unfold My.A_; k_is)
    (case e_NoPegs => unfold My.A_; k_is)
    (case e_NoRope => unfold My.A_; k_is)
    (case e_NoEnds => unfold My.A_; k_is)
    (case qE => k_exc)
    (case xE => kts_exm)
    (case xcl_uE => k_is)
    (case xga_uE => k_is)
    (case xgn_uE => k_is)
    (case xca_uE => k_is)
    (case xcg_uE => k_is)
    (case xct_uE => k_is)
    (case xmo_uE => k_is)
    (case xmb_uE => k_is)
    (case kno => kit_is)
    (case kyes => kit_is)
    (case kval => kit_is)
    (case z_len => k_is)
    (case z_range => k_is)
    (case z_min => k_is)
    (case z_set => k_is)
    (case z_sorted => k_is)
    (case z_list => k_is)
    (case z_isinstance => k_is)
    (case z_ValueError => k_is)
  case S => exact fun K H a ns hl hO hS => My.law_sp My.main K H a ns hl hS
  case C => exact fun _ _ _ _ z => z
