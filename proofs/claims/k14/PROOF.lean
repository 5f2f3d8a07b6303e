import PyProof.Rows.All
import Wide.All
import OpenK.AllK
import Wide.FinOn
import Lean
import PyProof.EqAt
import PyProof.EqKinds
import PyProof.TupleCall
import PySem.Challenge.RW_tautline_k14_pairs_put_in
set_option Elab.async false
set_option linter.all false
set_option maxRecDepth 100000
/-! THE HAND LAYER, for ints, bools, texts, own classes, LISTS and tuples (index, slices, in, append, pop ..), calls, loops. Paste it whole ahead of your own text; what your proof does not reach may be deleted. -/
namespace L2
open PySem PySem.Spec PyProof.Rows

/-- a key: an int or a str -/
abbrev Key := Sum Int Str
def keyIs : Key → Value → Bool
  | .inl k, v => Value.isInt k v
  | .inr x, v => Value.isStrOf x v
def keyH (w : World) : Key → Int
  | .inl k => hashInt k
  | .inr x => hashStr w x
theorem keyIs_shape : ∀ {k : Key} {v : Value}, keyIs k v = true → (∃ i t, k = Sum.inl i ∧ v = Value.int i t) ∨ (∃ x t, k = Sum.inr x ∧ v = Value.str x t)
  | .inl i, v, h => by
    obtain ⟨t, e⟩ := Value.isInt_shape (k := i) (v := v) h
    exact .inl ⟨i, t, rfl, e⟩
  | .inr x, v, h => by
    obtain ⟨t, e⟩ := Value.isStrOf_shape (x := x) (v := v) h
    exact .inr ⟨x, t, rfl, e⟩
theorem keyIs_int (i : Int) (t : Tok) : keyIs (.inl i) (.int i t) = true := by simp [keyIs, Value.isInt]
theorem keyIs_str (x : Str) (t : Tok) : keyIs (.inr x) (.str x t) = true := by simp [keyIs, Value.isStrOf]
theorem key_ll (a b : Int) : decide ((Sum.inl a : Key) = Sum.inl b) = (a == b) := by
  by_cases e : a = b
  · subst e; simp
  · have h : ¬ (Sum.inl a : Key) = Sum.inl b := fun q => e (Sum.inl.inj q)
    rw [decide_eq_false h]
    exact (beq_eq_false_iff_ne.mpr e).symm
theorem key_rr (a b : Str) : decide ((Sum.inr a : Key) = Sum.inr b) = decide (a = b) := by
  by_cases e : a = b
  · subst e; simp
  · have h : ¬ (Sum.inr a : Key) = Sum.inr b := fun q => e (Sum.inr.inj q)
    rw [decide_eq_false h, decide_eq_false e]
theorem key_lr (a : Int) (b : Str) : decide ((Sum.inl a : Key) = Sum.inr b) = false := decide_eq_false (fun q => nomatch q)
theorem key_rl (a : Str) (b : Int) : decide ((Sum.inr a : Key) = Sum.inl b) = false := decide_eq_false (fun q => nomatch q)

def mixKind (prog : Program) (w : World) : PySem.KeyKind prog w Key where
  is := keyIs
  hash := keyH w
  inj := fun v a b ha hb => by
    rcases keyIs_shape ha with ⟨i, t, rfl, rfl⟩ | ⟨x, t, rfl, rfl⟩
    · rcases keyIs_shape hb with ⟨j, u, rfl, e⟩ | ⟨y, u, rfl, e⟩
      · injection e with e1 _; rw [e1]
      · exact nomatch e
    · rcases keyIs_shape hb with ⟨j, u, rfl, e⟩ | ⟨y, u, rfl, e⟩
      · exact nomatch e
      · injection e with e1 _; rw [e1]
  byValue := fun k v h => by
    rcases keyIs_shape h with ⟨i, t, rfl, rfl⟩ | ⟨x, t, rfl, rfl⟩ <;> rfl
  pyHash := fun hv h => by
    rcases keyIs_shape hv with ⟨i, t, rfl, rfl⟩ | ⟨x, t, rfl, rfl⟩
    · exact wpAny_pyHash_int h
    · exact wpAny_pyHash_str h
  eqBool := fun hu hv h => by
    rcases keyIs_shape hu with ⟨i, t, rfl, rfl⟩ | ⟨x, t, rfl, rfl⟩
    · rcases keyIs_shape hv with ⟨j, u, rfl, rfl⟩ | ⟨y, u, rfl, rfl⟩
      · rw [key_ll] at h; exact wpAny_eqBool_int h
      · rw [key_lr] at h; exact SeqAt.EqAt.int_str i t y u _ _ _ _ h
    · rcases keyIs_shape hv with ⟨j, u, rfl, rfl⟩ | ⟨y, u, rfl, rfl⟩
      · rw [key_rl] at h; exact SeqAt.EqAt.str_int x t j u _ _ _ _ h
      · rw [key_rr] at h; exact wpAny_eqBool_str h
  «strs» := fun k x t v h => by
    rcases keyIs_shape h with ⟨i, u, rfl, e⟩ | ⟨y, u, rfl, e⟩
    · exact nomatch e
    · injection e with e1 _
      subst e1
      cases v <;> rfl

theorem mixKind_is (prog : Program) (w : World) (k : Key) (v : Value) : (mixKind prog w).is k v = keyIs k v := rfl
theorem mixKind_int (prog : Program) (w : World) (i : Int) (t : Tok) : (mixKind prog w).is (.inl i) (.int i t) = true := keyIs_int i t
theorem mixKind_str (prog : Program) (w : World) (x : Str) (t : Tok) : (mixKind prog w).is (.inr x) (.str x t) = true := keyIs_str x t
end L2

namespace L2
open PySem PySem.Spec PyProof.Rows

/-- a value, without the heap -/
inductive V where
  | non | bl (b : Bool) | int (i : Int) | str (x : Str) | byt (b : Array UInt8) | flt (b : UInt64) | ref (a : Addr) | ty (n : String)
  deriving DecidableEq

def RelV : V → Value → Prop
  | .non, u => u = Value.none
  | .bl b, u => u = Value.bool b
  | .int i, u => ∃ t, u = Value.int i t
  | .str x, u => ∃ t, u = Value.str x t
  | .byt b, u => ∃ t, u = Value.bytes b t
  | .flt b, u => ∃ t, u = Value.float b t
  | .ref a, u => u = Value.ref a
  | .ty n, u => u = Value.type n

abbrev Vals : List V → List Value → Prop := Paired RelV
theorem Vals.length {xs : List V} {us : List Value} (r : Vals xs us) : xs.length = us.length := Paired.length r
theorem Vals.get : ∀ {xs : List V} {us : List Value} {i : Nat} {x : V}, Vals xs us → xs[i]? = some x → ∃ u, us[i]? = some u ∧ RelV x u
  | _, _, _, _, .nil, e => by simp at e
  | _, _, 0, _, .cons r _, e => by simp at e; subst e; exact ⟨_, rfl, r⟩
  | _, _, i + 1, x, .cons _ t, e => by
    obtain ⟨u, h1, h2⟩ := Vals.get (i := i) (x := x) t (by simpa using e)
    exact ⟨u, by simpa using h1, h2⟩
theorem Vals.set {x : V} {u : Value} (r : RelV x u) : ∀ {xs : List V} {us : List Value} (i : Nat), Vals xs us → Vals (xs.set i x) (us.set i u)
  | _, _, _, .nil => .nil
  | _, _, 0, .cons _ t => .cons r t
  | _, _, i + 1, .cons q t => .cons q (Vals.set r i t)
theorem Vals.append : ∀ {xs ys : List V} {us ws : List Value}, Vals xs us → Vals ys ws → Vals (xs ++ ys) (us ++ ws)
  | _, _, _, _, .nil, s => s
  | _, _, _, _, .cons r t, s => .cons r (Vals.append t s)
theorem Vals.take : ∀ {xs : List V} {us : List Value} (n : Nat), Vals xs us → Vals (xs.take n) (us.take n)
  | _, _, 0, _ => .nil
  | _, _, _ + 1, .nil => .nil
  | _, _, n + 1, .cons r t => .cons r (Vals.take n t)
theorem Vals.drop : ∀ {xs : List V} {us : List Value} (n : Nat), Vals xs us → Vals (xs.drop n) (us.drop n)
  | _, _, 0, r => r
  | _, _, _ + 1, .nil => .nil
  | _, _, n + 1, .cons _ t => Vals.drop n t
theorem Vals.none_of : ∀ {xs : List V} {us : List Value} {i : Nat}, Vals xs us → xs[i]? = none → us[i]? = none := fun {xs us i} r e => by
  have h1 := r.length
  have h2 : xs.length ≤ i := List.getElem?_eq_none_iff.mp e
  exact List.getElem?_eq_none_iff.mpr (by omega)

def RelO : Option V → Option Value → Prop
  | some v, some u => RelV v u
  | none, none => True
  | _, _ => False
def KV {κ : Type} : List (κ × V) → List (κ × Value) → Prop := Paired fun (p : κ × V) (q : κ × Value) => p.1 = q.1 ∧ RelV p.2 q.2

/-- a key of a dict (00_mix): an int or a text -/
def kV : Key → V
  | .inl i => .int i
  | .inr x => .str x

/-- what stands at a tracked address -/
inductive HO where
  /-- a list -/
  | lst (xs : List V)
  /-- a tuple (never changes) -/
  | tup (xs : List V)
  /-- a dict whose keys are ints and texts; one whose keys are tuples of ints and texts (the empty one is both) -/
  | dK (kvs : List (Key × V)) | dT (kvs : List (List Key × V))
  /-- a set of ints: its members, its size -/
  | set (S : Int → Bool) (n : Nat)
  /-- an instance of the class at C, its dict at dx, its attributes -/
  | ins (C dx : Addr) (fs : List (Str × V))
  /-- the dict of the instance at x -/
  | own (x : Addr)
  /-- the dict of an exception -/
  | xd (fs : List (Str × V))
  /-- a bound method, f of x -/
  | met (f x : Addr)
  /-- a range object lo, lo + 1, .. below hi -/
  | rng (lo hi : Int)
  /-- a thing that is known to the object (the script; a dict while a loop walks it): read, never written while it is so -/
  | frz (o : Obj) (u : HO)
  /-- a code object's table -/
  | tbl (ps : Array Value)
  /-- any other thing, by what is true of its one object (a def of one's own: SetO a S n := HO.ext fun h => ..) -/
  | ext (φ : Heap → Prop)

abbrev Hp := Addr → Option HO
def upd (H : Hp) (a : Addr) (o : HO) : Hp := fun b => if b = a then some o else H b
theorem upd_same {H : Hp} {a : Addr} {o : HO} : upd H a o a = some o := by unfold upd; rw [if_pos rfl]
theorem upd_ne {H : Hp} {a b : Addr} {o : HO} (h : b ≠ a) : upd H a o b = H b := by unfold upd; rw [if_neg h]
theorem upd_upd {H : Hp} {a : Addr} {o u : HO} : upd (upd H a o) a u = upd H a u := by
  funext b; unfold upd; split <;> rfl
/-- two objects of different content stand apart -/
theorem ne_of {H : Hp} {a b : Addr} {o u : HO} (h : H a = some o) (h' : H b = some u) (d : o ≠ u) : a ≠ b := by
  intro e; subst e; rw [h] at h'; exact d (Option.some.inj h')
theorem ne_of_none {H : Hp} {a b : Addr} {o : HO} (h : H a = some o) (h' : H b = none) : a ≠ b := by
  intro e; subst e; rw [h] at h'; cases h'

section
variable (P : Program) (w : World)
def ObjOk (H : Hp) (h : Heap) (a : Addr) : HO → Prop
  | .lst xs => xs.length ≤ sizeLine ∧ ∃ (its : List Value) (n : Nat), Vals xs its ∧ h.get? a = some { cls := .type "list", data := .seq its.toArray n }
  | .tup xs => xs.length ≤ sizeLine ∧ ∃ its : List Value, Vals xs its ∧ IsTup h a its.toArray
  | .dK kvs => kvs.length ≤ sizeLine ∧ (a == sysModules) = false ∧ ∃ vs, KV kvs vs ∧ h.DictOf (mixKind P w) a vs
  | .dT kvs => kvs.length ≤ sizeLine ∧ (a == sysModules) = false ∧ ∃ xs : List (List Key × Addr × Value),
      Paired (fun (p : List Key × V) (q : List Key × Addr × Value) => p.1 = q.1 ∧ H q.2.1 = some (.tup (p.1.map kV)) ∧ RelV p.2 q.2.2) kvs xs ∧
      ∃ o es ep, h.get? a = some o ∧ o.ExactDict ∧ o.data = .dict es ep ∧ es.toList = xs.map (entryOfKey (tupleKind (mixKind P w))) ∧ (xs.map (·.1)).Nodup
  | .set S n => h.SetOf (intKind P w) a S n
  | .ins C dx fs => H dx = some (.own a) ∧ fs.length ≤ 1000 ∧ dx ≠ a ∧ h.get? a = some (PySem.W.instObj C dx) ∧
      ∃ mA, h.Ns1 dx mA ∧ (∀ f, RelO (fs.lookup f) (mA f)) ∧ PySem.Within mA (fs.map (·.1))
  | .own _ => ∃ o, h.get? a = some o
  | .xd fs => ∃ mA, h.Ns1 a mA ∧ ∀ f, RelO (fs.lookup f) (mA f)
  | .rng lo hi => ∃ t u v, h.get? a = some { cls := .type "range", data := .fields #[.int lo t, .int hi u, .int 1 v] }
  | .frz o u => h.get? a = some o ∧ ObjOk H h a u
  | .tbl ps => h.get? a = some { cls := .none, data := .fields ps }
  | .met f x => h.get? a = some (PySem.W.methodObj (.ref f) (.ref x))
  | .ext φ => φ h ∧ (∃ o, h.get? a = some o) ∧ ∀ h1 h2 : Heap, φ h1 → (∀ o, h1.get? a = some o → h2.get? a = some o) → φ h2
/-- the abstract heap is held -/
def HOk (H : Hp) (h : Heap) : Prop := ∀ a o, H a = some o → ObjOk P w H h a o
end

section
variable {P : Program} {w : World} {H H' : Hp} {h h' : Heap} {a : Addr} {o : HO}
theorem ObjOk.lt (x : ObjOk P w H h a o) : a < h.objs.size := by
  cases o with
  | lst xs => obtain ⟨_, _, _, _, e⟩ := x; exact Heap.lt_size e
  | tup xs => obtain ⟨_, _, _, p⟩ := x; exact p.lt
  | dK kvs => obtain ⟨_, _, _, _, o, _, _, e, _⟩ := x; exact Heap.lt_size e
  | dT kvs => obtain ⟨_, _, _, _, o, _, _, e, _⟩ := x; exact Heap.lt_size e
  | set S n => obtain ⟨o, _, _, _, e, _⟩ := x; exact Heap.lt_size e
  | ins C dx fs => obtain ⟨_, _, _, e, _⟩ := x; exact Heap.lt_size e
  | own y => obtain ⟨_, e⟩ := x; exact Heap.lt_size e
  | xd fs => obtain ⟨_, ⟨_, _, _, e, _⟩, _⟩ := x; exact Heap.lt_size e
  | rng lo hi => obtain ⟨_, _, _, e⟩ := x; exact Heap.lt_size e
  | frz ob u => obtain ⟨e, _⟩ := x; exact Heap.lt_size e
  | tbl ps => exact Heap.lt_size (show h.get? a = some _ from x)
  | met f y => exact Heap.lt_size (show h.get? a = some _ from x)
  | ext φ => obtain ⟨_, ⟨_, e⟩, _⟩ := x; exact Heap.lt_size e
theorem Paired.mapP {α β : Type} {F G : α → β → Prop} : ∀ {l₁ : List α} {l₂ : List β}, Paired F l₁ l₂ → (∀ a b, F a b → G a b) → Paired G l₁ l₂
  | _, _, .nil, _ => .nil
  | _, _, .cons r t, f => .cons (f _ _ r) (Paired.mapP t f)
theorem Paired.imp' {α β : Type} {F G : α → β → Prop} (f : ∀ a b, F a b → G a b) {l₁ : List α} {l₂ : List β} (r : Paired F l₁ l₂) : Paired G l₁ l₂ := Paired.mapP r f
/-- what an object's description leans on: its own object, its own dict, the tuples -/
theorem ObjOk.stay (x : ObjOk P w H h a o) (k : ∀ b u, (b = a ∨ H b = some (.own a)) → h.get? b = some u → h'.get? b = some u)
    (ho : ∀ b, H b = some (.own a) → H' b = some (.own a)) (ht : ∀ b xs, H b = some (.tup xs) → H' b = some (.tup xs)) : ObjOk P w H' h' a o := by
  induction o with
  | lst xs => obtain ⟨z, its, n, r, e⟩ := x; exact ⟨z, its, n, r, k _ _ (.inl rfl) e⟩
  | tup xs => obtain ⟨z, its, r, ob, e, c⟩ := x; exact ⟨z, its, r, ob, k _ _ (.inl rfl) e, c⟩
  | dK kvs => obtain ⟨z, y, vs, r, ob, es, ep, e, c⟩ := x; exact ⟨z, y, vs, r, ob, es, ep, k _ _ (.inl rfl) e, c⟩
  | dT kvs =>
    obtain ⟨z, y, xs, r, ob, es, ep, e, c⟩ := x
    exact ⟨z, y, xs, Paired.mapP r fun p q z => ⟨z.1, ht _ _ z.2.1, z.2.2⟩, ob, es, ep, k _ _ (.inl rfl) e, c⟩
  | set S n => obtain ⟨ob, es, ep, t, e, c⟩ := x; exact ⟨ob, es, ep, t, k _ _ (.inl rfl) e, c⟩
  | ins C dx fs =>
    obtain ⟨d, z, ne, e, mA, ⟨od, es, ep, e2, c⟩, r⟩ := x
    exact ⟨ho _ d, z, ne, k _ _ (.inl rfl) e, mA, ⟨od, es, ep, k _ _ (.inr d) e2, c⟩, r⟩
  | own y => obtain ⟨ob, e⟩ := x; exact ⟨ob, k _ _ (.inl rfl) e⟩
  | xd fs => obtain ⟨mA, ⟨od, es, ep, e, c⟩, r⟩ := x; exact ⟨mA, ⟨od, es, ep, k _ _ (.inl rfl) e, c⟩, r⟩
  | rng lo hi => obtain ⟨t, u, v, e⟩ := x; exact ⟨t, u, v, k _ _ (.inl rfl) e⟩
  | frz ob u ih => obtain ⟨e, q⟩ := x; exact ⟨k _ _ (.inl rfl) e, ih q⟩
  | tbl ps =>
    have e : h.get? a = some { cls := .none, data := .fields ps } := x
    show h'.get? a = some { cls := .none, data := .fields ps }
    exact k a _ (.inl rfl) e
  | met f y =>
    have e : h.get? a = some (PySem.W.methodObj (.ref f) (.ref y)) := x
    show h'.get? a = some (PySem.W.methodObj (.ref f) (.ref y))
    exact k a _ (.inl rfl) e
  | ext φ => obtain ⟨p, ⟨o, e⟩, st⟩ := x; exact ⟨st _ _ p fun o q => k _ _ (.inl rfl) q, ⟨o, k _ _ (.inl rfl) e⟩, st⟩
theorem HOk.lt (x : HOk P w H h) (e : H a = some o) : a < h.objs.size := (x a o e).lt
theorem HOk.fresh (x : HOk P w H h) (e : h.objs.size ≤ a) : H a = none := by
  cases q : H a with
  | none => rfl
  | some u => exact absurd (Nat.lt_of_lt_of_le (x.lt q) e) (Nat.lt_irrefl _)
/-- every object of the heap is kept -/
theorem HOk.kept (x : HOk P w H h) (k : ∀ b u, h.get? b = some u → h'.get? b = some u) : HOk P w H h' := fun a o e =>
  (x a o e).stay (fun b u _ q => k b u q) (fun _ q => q) fun _ _ q => q
/-- a new object is laid and tracked -/
theorem HOk.laid (x : HOk P w H h) (k : ∀ b u, h.get? b = some u → h'.get? b = some u) (hp : h.objs.size ≤ a) (new : ObjOk P w (upd H a o) h' a o) : HOk P w (upd H a o) h' := fun b u e => by
  have hn := x.fresh hp
  by_cases hb : b = a
  · subst hb; rw [upd_same] at e; cases e; exact new
  · rw [upd_ne hb] at e
    exact (x b u e).stay (fun c v _ q => k c v q) (fun c q => by rw [upd_ne (ne_of_none q hn)]; exact q) fun c xs q => by rw [upd_ne (ne_of_none q hn)]; exact q
end

/-- what may be read as u: it is u, or a known u -/
def Rd (H : Hp) (a : Addr) (u : HO) : Prop := H a = some u ∨ ∃ o, H a = some (.frz o u)
theorem Rd.of {H : Hp} {a : Addr} {u : HO} (h : H a = some u) : Rd H a u := .inl h
theorem Rd.ok {P : Program} {w : World} {H : Hp} {h : Heap} {a : Addr} {u : HO} (r : Rd H a u) (x : HOk P w H h) : ObjOk P w H h a u := by
  rcases r with r | ⟨o, r⟩
  · exact x a u r
  · obtain ⟨_, q⟩ := x a _ r
    exact q
/-- what may be written -/
def Mut : Option HO → Prop
  | some (.lst _) => True
  | some (.dK _) => True
  | some (.dT _) => True
  | some (.set _ _) => True
  | some (.ins _ _ _) => True
  | some (.ext _) => True
  | _ => False
section
variable {P : Program} {w : World} {H : Hp} {h h' : Heap} {x e : Addr} {o' : HO}
/-- the object at e is changed: x itself, or the dict of the instance x -/
theorem HOk.write (ok : HOk P w H h) (mu : Mut (H x)) (he : e = x ∨ H e = some (.own x)) (k : ∀ b u, b ≠ e → h.get? b = some u → h'.get? b = some u) (heo : ∃ u, h'.get? e = some u)
    (new : ObjOk P w (upd H x o') h' x o') : HOk P w (upd H x o') h' := fun b u q => by
  have nown : ∀ c y, H c = some (.own y) → c ≠ x := fun c y r z => by subst z; rw [r] at mu; exact mu
  have ntup : ∀ c xs, H c = some (.tup xs) → c ≠ x := fun c xs r z => by subst z; rw [r] at mu; exact mu
  by_cases hb : b = x
  · subst hb; rw [upd_same] at q; cases q; exact new
  · rw [upd_ne hb] at q
    by_cases hbe : b = e
    · have q' : H b = some (.own x) := by
        rcases he with z | z
        · exact absurd (hbe.trans z) hb
        · rw [hbe]; exact z
      rw [q] at q'; cases q'
      obtain ⟨v, hv⟩ := heo
      exact ⟨v, by rw [hbe]; exact hv⟩
    · refine (ok b u q).stay (fun c v hc r => k c v ?_ r) (fun c r => by rw [upd_ne (nown c b r)]; exact r) fun c xs r => by rw [upd_ne (ntup c xs r)]; exact r
      rcases hc with rfl | hc
      · exact hbe
      · rintro rfl
        rcases he with z | z
        · exact nown c b hc z
        · rw [hc] at z; cases z; exact hb rfl
end

/-! ### kept unless tracked; of the frames at fs (the callers') the slots may change (an exception that passes writes there); of the records at ex (iterators) nothing is said -/
structure Un (fs ex : List Addr) (H H' : Hp) (h h' : Heap) : Prop where
  keep : ∀ b o, h.get? b = some o → H b = none → b ∉ fs → b ∉ ex → h'.get? b = some o
  slot : ∀ b o, h.get? b = some o → H b = none → b ∈ fs → b ∉ ex → ∃ sl, h'.get? b = some { o with slots := sl }
  free : ∀ b o, h.get? b = some o → H b = none → b ∉ ex → H' b = none
  there : ∀ b o, h.get? b = some o → b ∉ ex → ∃ o', h'.get? b = some o'
  tups : ∀ b xs, H b = some (.tup xs) → H' b = some (.tup xs)
  frzs : ∀ b o u, H b = some (.frz o u) → H' b = some (.frz o u)
  tbls : ∀ b ps, H b = some (.tbl ps) → ∃ more, H' b = some (.tbl (ps ++ more))
section
variable {fs fs' ex ex' : List Addr} {H H1 H2 : Hp} {h h1 h2 h' : Heap} {a x e : Addr} {o : HO}
theorem Un.any (u : Un fs ex H H1 h h1) {b : Addr} {ob : Obj} (q : h.get? b = some ob) (n : H b = none) (hx : b ∉ ex) : ∃ sl, h1.get? b = some { ob with slots := sl } := by
  by_cases hb : b ∈ fs
  · exact u.slot b ob q n hb hx
  · exact ⟨ob.slots, u.keep b ob q n hb hx⟩
theorem Un.trans (a : Un fs ex H H1 h h1) (b : Un fs ex H1 H2 h1 h2) : Un fs ex H H2 h h2 where
  keep := fun c ob q n hc hx => b.keep c ob (a.keep c ob q n hc hx) (a.free c ob q n hx) hc hx
  slot := fun c ob q n hc hx => by
    obtain ⟨sl, e1⟩ := a.slot c ob q n hc hx
    obtain ⟨sl', e2⟩ := b.slot c _ e1 (a.free c ob q n hx) hc hx
    exact ⟨sl', e2⟩
  free := fun c ob q n hx => by
    obtain ⟨o', e1⟩ := a.there c ob q hx
    exact b.free c o' e1 (a.free c ob q n hx) hx
  there := fun c ob q hx => by
    obtain ⟨o', e1⟩ := a.there c ob q hx
    exact b.there c o' e1 hx
  tups := fun c xs q => b.tups c xs (a.tups c xs q)
  frzs := fun c ob xs q => b.frzs c ob xs (a.frzs c ob xs q)
  tbls := fun c ps q => by
    obtain ⟨m1, e1⟩ := a.tbls c ps q
    obtain ⟨m2, e2⟩ := b.tbls c _ e1
    exact ⟨m1 ++ m2, by rw [e2, Array.append_assoc]⟩
theorem Un.kept (k : ∀ b u, h.get? b = some u → h'.get? b = some u) : Un fs ex H H h h' :=
  ⟨fun b ob q _ _ _ => k b ob q, fun b ob q _ _ _ => ⟨ob.slots, k b ob q⟩, fun _ _ _ n _ => n, fun b ob q _ => ⟨ob, k b ob q⟩, fun _ _ q => q, fun _ _ _ q => q, fun _ ps q => ⟨#[], by rw [q]; simp⟩⟩
theorem Un.refl : Un fs ex H H h h := Un.kept fun _ _ q => q
theorem Un.laid (k : ∀ b u, h.get? b = some u → h'.get? b = some u) (hp : h.objs.size ≤ a) (hn : H a = none) : Un fs ex H (upd H a o) h h' where
  keep := fun b u q _ _ _ => k b u q
  slot := fun b u q _ _ _ => ⟨u.slots, k b u q⟩
  free := fun b u q n _ => by rw [upd_ne (Nat.ne_of_lt (Nat.lt_of_lt_of_le (Heap.lt_size q) hp))]; exact n
  there := fun b u q _ => ⟨u, k b u q⟩
  tups := fun b xs q => by rw [upd_ne (ne_of_none q hn)]; exact q
  frzs := fun b u xs q => by rw [upd_ne (ne_of_none q hn)]; exact q
  tbls := fun b ps q => ⟨#[], by rw [upd_ne (ne_of_none q hn), q]; simp⟩
theorem Un.write (mu : Mut (H x)) (he : e = x ∨ H e = some (.own x)) (k : ∀ b u, b ≠ e → h.get? b = some u → h'.get? b = some u) (heo : ∃ u, h'.get? e = some u) : Un fs ex H (upd H x o) h h' := by
  have hx : ∀ b, H b = none → b ≠ x := fun b n z => by subst z; rw [n] at mu; exact mu
  have hb : ∀ b, H b = none → b ≠ e := fun b n z => by
    subst z
    rcases he with r | r
    · exact hx b n r
    · rw [n] at r; cases r
  have hm : ∀ b u, H b = some u → ¬ Mut (some u) → b ≠ x := fun b u q nm z => by subst z; rw [q] at mu; exact nm mu
  refine ⟨fun b u q n _ _ => k b u (hb b n) q, fun b u q n _ _ => ⟨u.slots, k b u (hb b n) q⟩, fun b u q n _ => by rw [upd_ne (hx b n)]; exact n, fun b u q _ => ?_,
    fun b xs q => by rw [upd_ne (hm b _ q fun z => z)]; exact q, fun b u xs q => by rw [upd_ne (hm b _ q fun z => z)]; exact q, fun b ps q => ⟨#[], by rw [upd_ne (hm b _ q fun z => z), q]; simp⟩⟩
  by_cases hbe : b = e
  · subst hbe; exact heo
  · exact ⟨u, k b u hbe q⟩
theorem Un.mono (u : Un fs ex H H1 h h1) (hs : ∀ b ∈ fs, b ∈ fs') (hx : ∀ b ∈ ex, b ∈ ex') : Un fs' ex' H H1 h h1 :=
  ⟨fun b ob q n hb he => u.keep b ob q n (fun z => hb (hs b z)) fun z => he (hx b z), fun _ _ q n _ he => u.any q n fun z => he (hx _ z), fun b ob q n he => u.free b ob q n fun z => he (hx b z), fun b ob q he => u.there b ob q fun z => he (hx b z), u.tups, u.frzs, u.tbls⟩
end

/-! ### the heap without what is tracked -/
def trk (h : Heap) (H : Hp) : List Addr := (List.range h.objs.size).filter fun a => (H a).isSome
def hidT (h : Heap) (H : Hp) : Heap := PySem.W.hideAll h (trk h H)
theorem hidT_size (h : Heap) (H : Hp) : (hidT h H).objs.size = h.objs.size := PySem.W.hideAll_size _ _
theorem hidT_get {h : Heap} {H : Hp} {b : Addr} {o : Obj} (e : h.get? b = some o) (n : H b = none) : (hidT h H).get? b = some o :=
  PySem.W.hideAll_get _ e fun hm => by
    have q : (H b).isSome = true := (List.mem_filter.mp hm).2
    rw [n] at q; simp at q
theorem of_hidT {h : Heap} {H : Hp} {b : Addr} {o : Obj} (e : (hidT h H).get? b = some o) : h.get? b = some o ∧ H b = none := by
  have e' : h.get? b = some o := PySem.W.of_hideAll (trk h H) e
  refine ⟨e', ?_⟩
  cases q : H b with
  | none => rfl
  | some x =>
    have hm : b ∈ trk h H := List.mem_filter.mpr ⟨List.mem_range.mpr (Heap.lt_size e'), by simp [q]⟩
    have z : (hidT h H).get? b = none := PySem.W.hideAll_none (trk h H) hm
    rw [z] at e; cases e

/-! ### OpenK's ledger, filled with every new object but one -/
def allNews (g h : Heap) (L : Addr) : List (Addr × Obj) := (List.range h.objs.size).filterMap fun a => if a = L ∨ (g.get? a).isSome = true then none else (h.get? a).map fun o => (a, o)
theorem mem_allNews {g h : Heap} {L a : Addr} {o : Obj} (h1 : a ≠ L) (h2 : g.get? a = none) (h3 : h.get? a = some o) : (a, o) ∈ allNews g h L :=
  List.mem_filterMap.mpr ⟨a, List.mem_range.mpr (Heap.lt_size h3), by simp [h1, h2, h3]⟩
theorem of_mem_allNews {g h : Heap} {L : Addr} {p : Addr × Obj} (hp : p ∈ allNews g h L) : p.1 ≠ L ∧ g.get? p.1 = none ∧ h.get? p.1 = some p.2 := by
  obtain ⟨b, _, e⟩ := List.mem_filterMap.mp hp
  split at e
  · cases e
  · rename_i hn
    cases q : h.get? b with
    | none => rw [q] at e; simp at e
    | some u =>
      rw [q] at e
      simp only [Option.map_some, Option.some.injEq] at e
      subst e
      refine ⟨fun z => hn (.inl z), ?_, q⟩
      show g.get? b = none
      cases r : g.get? b with
      | none => rfl
      | some v => exact (hn (.inr (by simp [r]))).elim
def rest (g h : Heap) (L d : Addr) : List (Addr × Obj) := (allNews g h L).filter fun p => decide (p.1 ≠ d)
theorem rest_ne {g h : Heap} {L d : Addr} : ∀ p ∈ rest g h L d, p.1 ≠ d := fun p hp => of_decide_eq_true (List.mem_filter.mp hp).2
theorem mem_rest {g h : Heap} {L d a : Addr} {o : Obj} (h1 : a ≠ L) (h2 : g.get? a = none) (h3 : h.get? a = some o) (h4 : a ≠ d) : (a, o) ∈ rest g h L d :=
  List.mem_filter.mpr ⟨mem_allNews h1 h2 h3, decide_eq_true h4⟩
theorem news_all {g h : Heap} {L : Addr} : News g L h (allNews g h L) := fun p hp => let ⟨a, b, c⟩ := of_mem_allNews hp; ⟨c, a, b⟩
theorem news_at {g h : Heap} {L d : Addr} {o : Obj} (h1 : d ≠ L) (h2 : g.get? d = none) (h3 : h.get? d = some o) : News g L h ((d, o) :: rest g h L d) := fun p hp => by
  rcases List.mem_cons.mp hp with rfl | hp
  · exact ⟨h3, h1, h2⟩
  · exact news_all p (List.mem_filter.mp hp).1
/-- behind a rule that changed d alone: all else but the frame is kept -/
theorem kept_of_news {g h h' : Heap} {L d : Addr} {m : Str → Option Value} (k : ∀ b o, g.get? b = some o → h.get? b = some o) (F : Fr g L h' m) (N : News g L h' (rest g h L d)) :
    ∀ b o, b ≠ L → b ≠ d → h.get? b = some o → h'.get? b = some o := fun b o h1 h2 e => by
  cases q : g.get? b with
  | some u =>
    have := k b u q
    rw [e] at this; cases this
    exact F.keep b _ q
  | none => exact (N (b, o) (mem_rest h1 q e h2)).1
end L2

namespace L2
open PySem PySem.Spec PyProof.Rows

/-- the module's facts, over the base: the heap at the law's entry without what is tracked there -/
structure Mod (K : PySem.W.Frag) (mg : Str → Option Value) (base : Heap) : Prop where
  kin : K.In base
  glob : base.Ns mainGlobals mg
  blt : ∃ mb, base.Ns builtinsNs mb ∧ ∀ x : Str, x ≠ "__name__" → mb x = bootBuiltins x
  nolimit : base.NoLimit

/-- the context: a def's body (or a comprehension's block) running. base: fixed through the whole law; s₀, H₀: the entry; outer: the frames whose slots others may change (a def's callers); stack: all frames that run;
   ex: iterators that were made ahead of the entry and are walked here (a comprehension's); fn: the names whose cells were made at the entry (a def: all; a comprehension's block: its own); calm: not within an except suite; pn: pins that every state bears; xe: what is wanted of an exception that leaves the code -/
structure Cx where
  prog : Program
  w : World
  K : PySem.W.Frag
  mg : Str → Option Value
  base : Heap
  A : Around
  N : List Str
  s₀ : Shared
  H₀ : Hp
  env : Env
  outer : List Env
  stack : List Env
  ex : List Addr
  fn : Str → Bool
  calm : Bool
  pn : List (Addr × Obj)
  xe : Value → Shared → Prop
/-- the callers' frames -/
def frs (l : List Env) : List Addr := l.filterMap (·.frame)
abbrev Cx.fs (X : Cx) : List Addr := frs X.outer

def Vis (sc : Scope) (x : Str) : Prop := sc.names.lookup x = some .local ∨ sc.names.lookup x = some .cell ∨ sc.names.lookup x = some .free
def Loc (sc : Scope) (x : Str) : Prop := sc.names.lookup x = some .local ∨ sc.names.lookup x = some .cell
def Look (env : Env) (h : Heap) (m : Str → Option Value) (x : Str) (u : Value) : Prop :=
  (env.kindOf x = some .local ∧ m x = some u) ∨ ((env.kindOf x = some .cell ∨ env.kindOf x = some .free) ∧ ∃ c, env.cells.lookup x = some c ∧ h.IsCell c (some u))

structure Cx.Ok (X : Cx) : Prop where
  mod : Mod X.K X.mg X.base
  kind : X.env.scope.kind = .function
  glob : X.env.globals = mainGlobals
  blt : X.env.builtins = builtinsNs
  above : X.s₀.heap.objs.size ≤ X.env.locals
  inj : ∀ x y c, X.env.cells.lookup x = some c → X.env.cells.lookup y = some c → x = y
  has : ∀ x, (X.env.kindOf x = some .cell ∨ X.env.kindOf x = some .free) → ∃ c, X.env.cells.lookup x = some c
  cab : ∀ x c, X.fn x = true → X.env.cells.lookup x = some c → X.s₀.heap.objs.size ≤ c
  hd : X.calm = true → X.A.handled = none
  frames : X.A.frames = some X.stack
  stk : X.stack = X.outer ∨ (X.stack = X.env :: X.outer ∧ X.env.frame = some X.env.locals)
  exf : ∀ b ∈ X.ex, b ≠ X.env.locals ∧ ∀ x c, X.env.cells.lookup x = some c → c ≠ b
  bs : ∀ b o, X.base.get? b = some o → X.s₀.heap.get? b = some o ∧ X.H₀ b = none
  bsz : X.base.objs.size ≤ X.s₀.heap.objs.size
  noex : ∀ b o, X.base.get? b = some o → b ∉ X.ex
  exfs : ∀ b ∈ X.ex, b ∉ X.fs
  funs : X.s₀.heap.FunFrames X.base X.outer
  frf : ∀ b ∈ X.fs, X.H₀ b = none

structure Inv (X : Cx) (pins : List (Addr × Obj)) (σ : List (Option V)) (H : Hp) (s : Shared) : Prop where
  ok : X.Ok
  os : s.os = X.s₀.os
  bare : AllBare s.gens
  base : Un X.fs X.ex X.H₀ H X.s₀.heap s.heap
  loc : ∃ m, s.heap.Ns X.env.locals m ∧ ∀ (i : Nat) (x : Str) (v : V), X.N[i]? = some x → σ[i]? = some (some v) → Vis X.env.scope x → ∃ u, RelV v u ∧ Look X.env s.heap m x u
  cell : ∀ x c, X.env.cells.lookup x = some c → ∃ v, s.heap.IsCell c v
  free : H X.env.locals = none
  freeC : ∀ x c, X.env.cells.lookup x = some c → H c = none
  pin : ∀ p ∈ X.pn ++ pins, s.heap.get? p.1 = some p.2 ∧ H p.1 = none ∧ p.1 ≠ X.env.locals ∧ p.1 ∉ X.fs ∧ ∀ v, p.2.data ≠ .cell v
  hok : HOk X.prog X.w H s.heap
  len : σ.length = X.N.length

section
variable {X : Cx} {pins : List (Addr × Obj)} {σ : List (Option V)} {H H' : Hp} {s : Shared} {h' : Heap}

theorem Cx.Ok.nofr (ok : X.Ok) {b : Addr} {o : Obj} (e : X.base.get? b = some o) : b ∉ X.fs := fun hb => by
  have := (ok.funs.mem hb).1
  rw [e] at this; cases this
theorem Inv.bs (I : Inv X pins σ H s) : ∀ b o, X.base.get? b = some o → s.heap.get? b = some o ∧ H b = none := fun b o e =>
  ⟨I.base.keep b o (I.ok.bs b o e).1 (I.ok.bs b o e).2 (I.ok.nofr e) (I.ok.noex b o e), I.base.free b o (I.ok.bs b o e).1 (I.ok.bs b o e).2 (I.ok.noex b o e)⟩
theorem Inv.bk (I : Inv X pins σ H s) : ∀ b o, X.base.get? b = some o → s.heap.get? b = some o := fun b o e => (I.bs b o e).1
theorem Inv.mod (I : Inv X pins σ H s) : Mod X.K X.mg X.base := I.ok.mod
theorem Inv.kIn (I : Inv X pins σ H s) : X.K.In s.heap := I.ok.mod.kin.keeps I.bk
theorem Inv.nolimit (I : Inv X pins σ H s) : s.heap.NoLimit := I.ok.mod.nolimit.keeps I.bk
/-- the frame over the base: for OpenK's rules (K.In X.base is I.mod.kin) -/
theorem Inv.fr (I : Inv X pins σ H s) : ∃ m, Fr X.base X.env.locals s.heap m :=
  let ⟨m, hn, _⟩ := I.loc
  ⟨m, hn, I.bk, Nat.le_trans I.ok.bsz I.ok.above⟩
theorem Inv.lt (I : Inv X pins σ H s) : X.env.locals < s.heap.objs.size := let ⟨_, hn, _⟩ := I.loc; hn.lt
theorem Inv.sz (I : Inv X pins σ H s) : X.s₀.heap.objs.size ≤ s.heap.objs.size := Nat.le_trans I.ok.above (Nat.le_of_lt I.lt)
theorem Inv.nofs (I : Inv X pins σ H s) {a : Addr} (h : s.heap.objs.size ≤ a) : a ∉ X.fs := fun hb => by
  obtain ⟨_, o, ho, _⟩ := I.ok.funs.mem hb
  exact absurd (Nat.lt_of_lt_of_le (Heap.lt_size ho) (Nat.le_trans I.sz h)) (Nat.lt_irrefl _)
theorem Inv.cne (I : Inv X pins σ H s) : ∀ x c, X.env.cells.lookup x = some c → c ≠ X.env.locals := fun x c e z => by
  obtain ⟨v, o, ho, hd⟩ := I.cell x c e
  obtain ⟨m, ⟨o', es, ep, ho', hd', _⟩, _⟩ := I.loc
  rw [z, ho'] at ho; cases ho; rw [hd'] at hd; cases hd
theorem Inv.funs (I : Inv X pins σ H s) : s.heap.FunFrames X.base X.outer := by
  have all : ∀ (l : List Env), (∀ b ∈ frs l, b ∈ X.fs) → X.s₀.heap.FunFrames X.base l → s.heap.FunFrames X.base l := by
    intro l
    induction l with
    | nil => intro _ _; trivial
    | cons env r ih =>
      intro hs hl
      obtain ⟨hk, ⟨L, o, hf, hn, ho, hd⟩, hr⟩ := hl
      have hL : L ∈ X.fs := hs L (by unfold frs; rw [List.filterMap_cons, hf]; exact List.mem_cons_self)
      obtain ⟨sl, e⟩ := I.base.slot L o ho (I.ok.frf L hL) hL fun z => I.ok.exfs L z hL
      exact ⟨hk, ⟨L, _, hf, hn, e, hd⟩, ih (fun b hb => hs b (by unfold frs; rw [List.filterMap_cons, hf]; exact List.mem_cons_of_mem _ hb)) hr⟩
  exact all X.outer (fun _ hb => hb) I.ok.funs

/-- the frames that run, for a call -/
theorem Inv.stack (I : Inv X pins σ H s) : s.heap.FunFrames X.base X.stack := by
  rcases I.ok.stk with e | ⟨e, hf⟩
  · rw [e]; exact I.funs
  · rw [e]
    obtain ⟨m, hn, _⟩ := I.loc
    refine .cons (by rw [I.ok.kind]; decide) hf hn ?_ I.funs
    exact Heap.get?_none_of_le (Nat.le_trans I.ok.bsz I.ok.above)
theorem Inv.stkSub (I : Inv X pins σ H s) : ∀ b ∈ frs X.stack, b ∈ X.env.locals :: X.fs := fun b hb => by
  rcases I.ok.stk with e | ⟨e, hf⟩
  · rw [e] at hb; exact List.mem_cons_of_mem _ hb
  · rw [e] at hb
    unfold frs at hb
    rw [List.filterMap_cons, hf] at hb
    exact hb
theorem Inv.stkFree (I : Inv X pins σ H s) : ∀ b ∈ frs X.stack, H b = none := fun b hb => by
  rcases List.mem_cons.mp (I.stkSub b hb) with e | hb
  · rw [e]; exact I.free
  · obtain ⟨_, o, ho, _⟩ := I.ok.funs.mem hb
    exact I.base.free b o ho (I.ok.frf b hb) fun z => I.ok.exfs b z hb

/-- THE STEP: the untracked objects but the frame and the records at ch are kept (the callers' frames up to slots), the frame's map is kept, the new abstract heap is held -/
theorem Inv.step {g' : Array GenState} {t' : Nat} {d' : Drawn} {ch : List Addr} (I : Inv X pins σ H s)
    (hch : ∀ b ∈ ch, (b ∈ X.ex ∨ X.s₀.heap.objs.size ≤ b) ∧ b ≠ X.env.locals ∧ (∀ x c, X.env.cells.lookup x = some c → c ≠ b) ∧ ∀ p ∈ X.pn ++ pins, p.1 ≠ b)
    (keep : ∀ b o, b ≠ X.env.locals → b ∉ X.fs → b ∉ ch → s.heap.get? b = some o → H b = none → h'.get? b = some o)
    (slot : ∀ b o, b ≠ X.env.locals → b ∈ X.fs → b ∉ ch → s.heap.get? b = some o → H b = none → ∃ sl, h'.get? b = some { o with slots := sl }) (free : ∀ b o, b ∉ ch → s.heap.get? b = some o → H b = none → H' b = none)
    (there : ∀ b o, b ∉ ch → s.heap.get? b = some o → ∃ o', h'.get? b = some o')
    (tups : ∀ b xs, H b = some (.tup xs) → H' b = some (.tup xs)) (frzs : ∀ b o u, H b = some (.frz o u) → H' b = some (.frz o u)) (tbls : ∀ b ps, H b = some (.tbl ps) → ∃ more, H' b = some (.tbl (ps ++ more)))
    (ns : ∀ m, s.heap.Ns X.env.locals m → h'.Ns X.env.locals m) (hok : HOk X.prog X.w H' h') (hg : AllBare g') :
    Inv X pins σ H' { s with heap := h', gens := g', drawn := d', toks := t' } := by
  have neL : ∀ b o, X.s₀.heap.get? b = some o → b ≠ X.env.locals := fun b o e => Nat.ne_of_lt (Nat.lt_of_lt_of_le (Heap.lt_size e) I.ok.above)
  have neC : ∀ b o, X.s₀.heap.get? b = some o → b ∉ X.ex → b ∉ ch := fun b o e hx hb => by
    rcases (hch b hb).1 with z | z
    · exact hx z
    · exact absurd (Nat.lt_of_lt_of_le (Heap.lt_size e) z) (Nat.lt_irrefl _)
  have cellK : ∀ x c, X.env.cells.lookup x = some c → ∀ v, s.heap.IsCell c v → h'.IsCell c v := fun x c e v ⟨o, ho, hd⟩ => by
    have nch : c ∉ ch := fun z => (hch c z).2.2.1 x c e rfl
    by_cases hc : c ∈ X.fs
    · obtain ⟨sl, q⟩ := slot c o (I.cne x c e) hc nch ho (I.freeC x c e)
      exact ⟨_, q, hd⟩
    · exact ⟨o, keep c o (I.cne x c e) hc nch ho (I.freeC x c e), hd⟩
  refine ⟨I.ok, I.os, hg, ⟨fun b o e n hb hx => ?_, fun b o e n hb hx => ?_, fun b o e n hx => ?_, fun b o e hx => ?_, fun b xs e => tups b xs (I.base.tups b xs e), fun b o xs e => frzs b o xs (I.base.frzs b o xs e), fun b ps e => ?_⟩, ?_, fun x c e => ?_, ?_, fun x c e => ?_, fun p hp => ?_, hok, I.len⟩
  · exact keep b o (neL b o e) hb (neC b o e hx) (I.base.keep b o e n hb hx) (I.base.free b o e n hx)
  · obtain ⟨sl, e1⟩ := I.base.slot b o e n hb hx
    obtain ⟨sl', e2⟩ := slot b _ (neL b o e) hb (neC b o e hx) e1 (I.base.free b o e n hx)
    exact ⟨sl', e2⟩
  · obtain ⟨o', e1⟩ := I.base.there b o e hx
    exact free b o' (neC b o e hx) e1 (I.base.free b o e n hx)
  · obtain ⟨o', e1⟩ := I.base.there b o e hx
    exact there b o' (neC b o e hx) e1
  · obtain ⟨m1, e1⟩ := I.base.tbls b ps e
    obtain ⟨m2, e2⟩ := tbls b _ e1
    exact ⟨m1 ++ m2, by rw [e2, Array.append_assoc]⟩
  · obtain ⟨m, hn, hl⟩ := I.loc
    refine ⟨m, ns m hn, fun i x v e1 e2 e3 => ?_⟩
    obtain ⟨u, r, l⟩ := hl i x v e1 e2 e3
    refine ⟨u, r, ?_⟩
    rcases l with l | ⟨k, c, e, z⟩
    · exact .inl l
    · exact .inr ⟨k, c, e, cellK x c e _ z⟩
  · obtain ⟨v, z⟩ := I.cell x c e
    exact ⟨v, cellK x c e v z⟩
  · obtain ⟨m, ⟨o, _, _, ho, _⟩, _⟩ := I.loc
    exact free _ o (fun z => (hch _ z).2.1 rfl) ho I.free
  · obtain ⟨v, o, ho, hd⟩ := I.cell x c e
    exact free c o (fun z => (hch c z).2.2.1 x c e rfl) ho (I.freeC x c e)
  · obtain ⟨e, n, ne, nf, d⟩ := I.pin p hp
    have nch : p.1 ∉ ch := fun z => (hch p.1 z).2.2.2 p hp rfl
    exact ⟨keep p.1 p.2 ne nf nch e n, free p.1 p.2 nch e n, ne, nf, d⟩
/-- .. where the frame's own object is kept too -/
theorem Inv.un {t' : Nat} (I : Inv X pins σ H s) (u : Un X.fs [] H H' s.heap h') (hok : HOk X.prog X.w H' h') : Inv X pins σ H' { s with heap := h', toks := t' } := by
  obtain ⟨m, ⟨o, es, ep, ho, r⟩, _⟩ := id I.loc
  obtain ⟨sl, hL⟩ := u.any ho I.free (by simp)
  exact I.step (g' := s.gens) (d' := s.drawn) (ch := []) (fun _ z => nomatch z) (fun b o _ hb _ e n => u.keep b o e n hb (by simp)) (fun b o _ hb _ e n => u.slot b o e n hb (by simp)) (fun b o _ e n => u.free b o e n (by simp)) (fun b o _ e => u.there b o e (by simp)) u.tups u.frzs u.tbls (fun m' hm => by
    obtain ⟨o', es', ep', ho', r'⟩ := hm
    rw [ho] at ho'; cases ho'
    exact ⟨_, es', ep', hL, r'⟩) hok I.bare
/-- behind a call (or a comprehension's block): the slots of this frame may have changed too, the records at ch may have turned -/
theorem Inv.call {g' : Array GenState} {t' : Nat} {d' : Drawn} {ch : List Addr} (I : Inv X pins σ H s) (u : Un (frs X.stack) ch H H' s.heap h') (hok : HOk X.prog X.w H' h') (hg : AllBare g')
    (hch : ∀ b ∈ ch, (b ∈ X.ex ∨ X.s₀.heap.objs.size ≤ b) ∧ b ≠ X.env.locals ∧ (∀ x c, X.env.cells.lookup x = some c → c ≠ b) ∧ ∀ p ∈ X.pn ++ pins, p.1 ≠ b) :
    Inv X pins σ H' { s with heap := h', gens := g', drawn := d', toks := t' } := by
  obtain ⟨m, ⟨o, es, ep, ho, r⟩, _⟩ := id I.loc
  obtain ⟨sl, hL⟩ := u.any ho I.free fun z => (hch _ z).2.1 rfl
  exact I.step (ch := ch) hch (fun b o hL hb hc e n => u.keep b o e n (fun z => (List.mem_cons.mp (I.stkSub b z)).elim hL hb) hc) (fun b o _ _ hc e n => u.any e n hc) (fun b o hc e n => u.free b o e n hc) (fun b o hc e => u.there b o e hc) u.tups u.frzs u.tbls (fun m' hm => by
    obtain ⟨o', es', ep', ho', r'⟩ := hm
    rw [ho] at ho'; cases ho'
    exact ⟨_, es', ep', hL, r'⟩) hok hg
/-- an untracked record of ours (an iterator) has turned -/
theorem Inv.turned {t' : Nat} {it : Addr} (I : Inv X pins σ H s) (k : ∀ b o, b ≠ it → s.heap.get? b = some o → h'.get? b = some o) (hn : H it = none) (hL : it ≠ X.env.locals)
    (h1 : it ∈ X.ex ∨ X.s₀.heap.objs.size ≤ it) (h2 : ∀ x c, X.env.cells.lookup x = some c → c ≠ it) (h3 : ∀ p ∈ X.pn ++ pins, p.1 ≠ it) : Inv X pins σ H { s with heap := h', toks := t' } := by
  have nit : ∀ b u, H b = some u → b ≠ it := fun b u e z => by rw [z, hn] at e; cases e
  refine I.step (g' := s.gens) (d' := s.drawn) (ch := [it]) (fun b hb => ?_) (fun b o _ _ hc e _ => k b o (fun z => hc (by simp [z])) e) (fun b o _ _ hc e _ => ⟨o.slots, k b o (fun z => hc (by simp [z])) e⟩) (fun _ _ _ _ n => n)
    (fun b o hc e => ⟨o, k b o (fun z => hc (by simp [z])) e⟩) (fun _ _ e => e) (fun _ _ _ e => e) (fun b ps e => ⟨#[], by rw [e]; simp⟩) (fun m hm => ?_) (fun b u e => ?_) I.bare
  · have e : b = it := by simpa using hb
    subst e
    exact ⟨h1, hL, h2, h3⟩
  · obtain ⟨o, es, ep, ho, r⟩ := hm
    exact ⟨o, es, ep, k _ o (Ne.symm hL) ho, r⟩
  · refine (I.hok b u e).stay (fun c v hc q => k c v ?_ q) (fun _ q => q) fun _ _ q => q
    rcases hc with z | z
    · rw [z]; exact nit b u e
    · exact nit c _ z
theorem Inv.tok (I : Inv X pins σ H s) (t : Nat) : Inv X pins σ H { s with toks := t } := I.un (h' := s.heap) (t' := t) Un.refl I.hok
/-- all objects kept -/
theorem Inv.kept {t' : Nat} (I : Inv X pins σ H s) (k : ∀ b u, s.heap.get? b = some u → h'.get? b = some u) : Inv X pins σ H { s with heap := h', toks := t' } := I.un (Un.kept k) (I.hok.kept k)
/-- a new object laid and tracked -/
theorem Inv.laid {a : Addr} {o : HO} {t' : Nat} (I : Inv X pins σ H s) (k : ∀ b u, s.heap.get? b = some u → h'.get? b = some u) (hp : s.heap.objs.size ≤ a) (new : ObjOk X.prog X.w (upd H a o) h' a o) :
    Inv X pins σ (upd H a o) { s with heap := h', toks := t' } := I.un (Un.laid k hp (I.hok.fresh hp)) (I.hok.laid k hp new)
/-- an object written -/
theorem Inv.write {x e : Addr} {o : HO} {t' : Nat} (I : Inv X pins σ H s) (mu : Mut (H x)) (he : e = x ∨ H e = some (.own x)) (k : ∀ b u, b ≠ e → s.heap.get? b = some u → h'.get? b = some u) (heo : ∃ u, h'.get? e = some u)
    (new : ObjOk X.prog X.w (upd H x o) h' x o) : Inv X pins σ (upd H x o) { s with heap := h', toks := t' } := I.un (Un.write mu he k heo) (I.hok.write mu he k heo new)
/-- forgetting slots, pins -/
theorem Inv.weak {σ' : List (Option V)} (I : Inv X pins σ H s) (hl : σ'.length = σ.length) (w : ∀ (i : Nat) v, σ'[i]? = some (some v) → σ[i]? = some (some v)) : Inv X pins σ' H s :=
  ⟨I.ok, I.os, I.bare, I.base, let ⟨m, hn, hl'⟩ := I.loc; ⟨m, hn, fun i x v e1 e2 e3 => hl' i x v e1 (w i v e2) e3⟩, I.cell, I.free, I.freeC, I.pin, I.hok, hl.trans I.len⟩
theorem Inv.pins_of {pins' : List (Addr × Obj)} (I : Inv X pins σ H s) (h : ∀ p ∈ pins', s.heap.get? p.1 = some p.2 ∧ H p.1 = none ∧ p.1 ≠ X.env.locals ∧ p.1 ∉ X.fs ∧ ∀ v, p.2.data ≠ .cell v) : Inv X pins' σ H s :=
  ⟨I.ok, I.os, I.bare, I.base, I.loc, I.cell, I.free, I.freeC, fun p hp => (List.mem_append.mp hp).elim (fun z => I.pin p (List.mem_append_left _ z)) (h p), I.hok, I.len⟩

theorem nodup_ix {N : List Str} (hN : N.Nodup) {i j : Nat} {x : Str} (a : N[i]? = some x) (b : N[j]? = some x) : i = j := by
  obtain ⟨h1, e1⟩ := List.getElem?_eq_some_iff.mp a
  obtain ⟨h2, e2⟩ := List.getElem?_eq_some_iff.mp b
  exact (List.getElem_inj hN).mp (e1.trans e2.symm)

/-- a name is stored; what changed -/
theorem store_ok2 {M : Model} {A : Around} {E : Value → Shared → Prop} {i : Nat} {x : Str} {v : V} {u : Value} {Q : Unit → Shared → Prop} (I : Inv X pins σ H s) (hN : X.N.Nodup) (hi : X.N[i]? = some x) (hx : Loc X.env.scope x) (r : RelV v u)
    (h : ∀ s', Inv X pins (σ.set i (some v)) H s' → (∃ a, Heap.SameBut a s.heap s'.heap ∧ (a = X.env.locals ∨ X.env.cells.lookup x = some a)) → Q () s') (hf : X.fn x = true ∨ X.env.scope.names.lookup x = some .local := by first | exact .inl rfl | exact .inr rfl | assumption) : wpAny M A (storeName X.env x u) Q E s := by
  obtain ⟨m, hn, hl⟩ := id I.loc
  have hcls : (X.env.scope.kind == .class || (X.env.scope.kind == .module && X.env.locals != X.env.globals)) = false := by rw [I.ok.kind]; rfl
  have hiσ : i < σ.length := by rw [I.len]; exact (List.getElem?_eq_some_iff.mp hi).1
  have cne := I.cne
  have tracked : ∀ {a : Addr} {h' : Heap}, (∃ o, s.heap.get? a = some o ∧ H a = none) → Heap.SameBut a s.heap h' → HOk X.prog X.w H h' := fun {a h'} ha hs b ob e => by
    obtain ⟨_, _, hfree⟩ := ha
    refine (I.hok b ob e).stay (fun c w' hc q => (hs.2 c ?_).trans q) (fun _ q => q) fun _ _ q => q
    rintro rfl
    rcases hc with rfl | hc
    · rw [hfree] at e; cases e
    · rw [hfree] at hc; cases hc
  rcases hx with hk | hk
  · refine wpAny_storeName_local hk hn (fun h' hn' hs => ?_) hcls
    obtain ⟨oL, _, _, hoL, _⟩ := id hn
    refine h _ ⟨I.ok, I.os, I.bare, ⟨fun b o e n hb hx => ?_, fun b o e n hb hx => ?_, I.base.free, fun b o e hx => ?_, I.base.tups, I.base.frzs, I.base.tbls⟩, ⟨_, hn', fun j y v' e1 e2 e3 => ?_⟩, fun y c e => ?_, I.free, I.freeC, fun p hp => ?_, tracked ⟨oL, hoL, I.free⟩ hs, by simpa using I.len⟩ ⟨_, hs, .inl rfl⟩
    · exact (hs.2 b (Nat.ne_of_lt (Nat.lt_of_lt_of_le (Heap.lt_size e) I.ok.above))).trans (I.base.keep b o e n hb hx)
    · obtain ⟨sl, e1⟩ := I.base.slot b o e n hb hx
      exact ⟨sl, (hs.2 b (Nat.ne_of_lt (Nat.lt_of_lt_of_le (Heap.lt_size e) I.ok.above))).trans e1⟩
    · obtain ⟨o', e1⟩ := I.base.there b o e hx
      exact ⟨o', (hs.2 b (Nat.ne_of_lt (Nat.lt_of_lt_of_le (Heap.lt_size e) I.ok.above))).trans e1⟩
    · by_cases hj : j = i
      · subst hj
        rw [hi] at e1; cases e1
        rw [List.getElem?_set_self hiσ] at e2
        cases e2
        exact ⟨u, r, .inl ⟨hk, by simp⟩⟩
      · rw [List.getElem?_set_ne (Ne.symm hj)] at e2
        obtain ⟨u', r', q⟩ := hl j y v' e1 e2 e3
        refine ⟨u', r', ?_⟩
        rcases q with ⟨k, e⟩ | ⟨k, c, e, z⟩
        · refine .inl ⟨k, ?_⟩
          have : y ≠ x := fun e => hj (nodup_ix hN e1 (e ▸ hi))
          simp [this, e]
        · exact .inr ⟨k, c, e, z.sameBut hs (cne y c e)⟩
    · obtain ⟨w', z⟩ := I.cell y c e
      exact ⟨w', z.sameBut hs (cne y c e)⟩
    · obtain ⟨e, n, ne, nf, d⟩ := I.pin p hp
      exact ⟨(hs.2 p.1 ne).trans e, n, ne, nf, d⟩
  · have hfn : X.fn x = true := by
      rcases hf with z | z
      · exact z
      · rw [z] at hk; cases hk
    obtain ⟨c, hc⟩ := I.ok.has x (.inl hk)
    obtain ⟨w', z⟩ := I.cell x c hc
    refine wpAny_storeName_cell I.ok.kind hk hc z (fun h' hc' hs => ?_)
    obtain ⟨oc, hoc, hocd⟩ := id z
    refine h { s with heap := h' } ⟨I.ok, I.os, I.bare, ⟨fun b o e n hb hx => ?_, fun b o e n hb hx => ?_, I.base.free, fun b o e hx => ?_, I.base.tups, I.base.frzs, I.base.tbls⟩, ⟨m, hn.sameBut hs (Ne.symm (cne x c hc)), fun j y v' e1 e2 e3 => ?_⟩, fun y c' e => ?_, I.free, I.freeC, fun p hp => ?_, tracked ⟨oc, hoc, I.freeC x c hc⟩ hs, by simpa using I.len⟩ ⟨c, hs, .inr hc⟩
    · exact (hs.2 b (Nat.ne_of_lt (Nat.lt_of_lt_of_le (Heap.lt_size e) (I.ok.cab x c hfn hc)))).trans (I.base.keep b o e n hb hx)
    · obtain ⟨sl, e1⟩ := I.base.slot b o e n hb hx
      exact ⟨sl, (hs.2 b (Nat.ne_of_lt (Nat.lt_of_lt_of_le (Heap.lt_size e) (I.ok.cab x c hfn hc)))).trans e1⟩
    · obtain ⟨o', e1⟩ := I.base.there b o e hx
      exact ⟨o', (hs.2 b (Nat.ne_of_lt (Nat.lt_of_lt_of_le (Heap.lt_size e) (I.ok.cab x c hfn hc)))).trans e1⟩
    · by_cases hj : j = i
      · subst hj
        rw [hi] at e1; cases e1
        rw [List.getElem?_set_self hiσ] at e2
        cases e2
        exact ⟨u, r, .inr ⟨.inl hk, c, hc, hc'⟩⟩
      · rw [List.getElem?_set_ne (Ne.symm hj)] at e2
        obtain ⟨u', r', q⟩ := hl j y v' e1 e2 e3
        refine ⟨u', r', ?_⟩
        rcases q with q | ⟨k, c', e, z'⟩
        · exact .inl q
        · refine .inr ⟨k, c', e, z'.sameBut hs ?_⟩
          rintro rfl
          exact hj (nodup_ix hN e1 (I.ok.inj _ _ _ e hc ▸ hi))
    · by_cases hcc : c' = c
      · subst hcc; exact ⟨_, hc'⟩
      · obtain ⟨w2, z2⟩ := I.cell y c' e
        exact ⟨w2, z2.sameBut hs hcc⟩
    · obtain ⟨e, n, ne, nf, d⟩ := I.pin p hp
      refine ⟨(hs.2 p.1 ?_).trans e, n, ne, nf, d⟩
      intro q
      rw [q, hoc] at e
      have q' : oc = p.2 := Option.some.inj e
      exact d w' (by rw [← q']; exact hocd)
theorem store_ok {M : Model} {A : Around} {E : Value → Shared → Prop} {i : Nat} {x : Str} {v : V} {u : Value} {Q : Unit → Shared → Prop} (I : Inv X pins σ H s) (hN : X.N.Nodup) (hi : X.N[i]? = some x) (hx : Loc X.env.scope x) (r : RelV v u)
    (h : ∀ s', Inv X pins (σ.set i (some v)) H s' → Q () s') (hf : X.fn x = true ∨ X.env.scope.names.lookup x = some .local := by first | exact .inl rfl | exact .inr rfl | assumption) : wpAny M A (storeName X.env x u) Q E s :=
  store_ok2 I hN hi hx r (fun s' I' _ => h s' I') hf
/-- behind a call or a block, the state as it is -/
theorem Inv.call' {s' : Shared} {ch : List Addr} (I : Inv X pins σ H s) (ho : s'.os = s.os) (u : Un (frs X.stack) ch H H' s.heap s'.heap) (hok : HOk X.prog X.w H' s'.heap) (hg : AllBare s'.gens)
    (hch : ∀ b ∈ ch, (b ∈ X.ex ∨ X.s₀.heap.objs.size ≤ b) ∧ b ≠ X.env.locals ∧ (∀ x c, X.env.cells.lookup x = some c → c ≠ b) ∧ ∀ p ∈ X.pn ++ pins, p.1 ≠ b) : Inv X pins σ H' s' := by
  obtain ⟨h', g', d', t', o'⟩ := s'
  have e : o' = s.os := ho
  subst e
  exact I.call (g' := g') (t' := t') (d' := d') u hok hg hch
end

/-! ### the judgements -/
/-- an exception: its class, its own dict's address (where it has one), the abstract heap behind it -/
abbrev XK := Value → Option Addr → Hp → Prop
abbrev St := List (Option V)
abbrev VK := V → Hp → Prop
/-- an expression's reading; a test's; an argument list's -/
abbrev TE := St → Hp → VK → Prop
abbrev TT := St → Hp → (Bool → Hp → Prop) → Prop
abbrev TA := St → Hp → (List V → Hp → Prop) → Prop
/-- what is wanted behind a statement -/
structure Ends where
  nx : St → Hp → Prop
  rt : VK
  bk : St → Hp → Prop := fun _ _ => False
  ct : St → Hp → Prop := fun _ _ => False
abbrev TS := Ends → St → Hp → Prop

def EP (X : Cx) (pins : List (Addr × Obj)) (σ : St) (Q : VK) (u : Value) (s' : Shared) : Prop := ∃ v H', Inv X pins σ H' s' ∧ RelV v u ∧ Q v H'
def TP (X : Cx) (pins : List (Addr × Obj)) (σ : St) (Q : Bool → Hp → Prop) (b : Bool) (s' : Shared) : Prop := ∃ H', Inv X pins σ H' s' ∧ Q b H'
def AP (X : Cx) (pins : List (Addr × Obj)) (σ : St) (Q : List V → Hp → Prop) (us : List Value) (s' : Shared) : Prop := ∃ vs H', Inv X pins σ H' s' ∧ Vals vs us ∧ Q vs H'
def SP (X : Cx) (pins : List (Addr × Obj)) (D : Ends) (f : Flow) (s' : Shared) : Prop :=
  match f with
  | .next => ∃ σ' H', Inv X pins σ' H' s' ∧ D.nx σ' H'
  | .brk => ∃ σ' H', Inv X pins σ' H' s' ∧ D.bk σ' H'
  | .cont => ∃ σ' H', Inv X pins σ' H' s' ∧ D.ct σ' H'
  | .ret u => ∃ v σ' H', Inv X pins σ' H' s' ∧ RelV v u ∧ D.rt v H'

def PE (X : Cx) (e : Expr) (t : TE) : Prop :=
  ∀ (pins : List (Addr × Obj)) (s : Shared) (σ : St) (H : Hp) (Q : VK), Inv X pins σ H s → t σ H Q → wpAny (model X.prog X.w) X.A (eval e X.env) (EP X pins σ Q) X.xe s
def PT (X : Cx) (e : Expr) (t : TT) : Prop :=
  ∀ (pins : List (Addr × Obj)) (s : Shared) (σ : St) (H : Hp) (Q : Bool → Hp → Prop), Inv X pins σ H s → t σ H Q → wpAny (model X.prog X.w) X.A (isTrue e X.env (eval e X.env)) (TP X pins σ Q) X.xe s
/-- a test whatever its 'whole' is (and, or) -/
def PW (X : Cx) (e : Expr) (t : TT) : Prop :=
  ∀ (whole : Sem Value) (pins : List (Addr × Obj)) (s : Shared) (σ : St) (H : Hp) (Q : Bool → Hp → Prop), Inv X pins σ H s → t σ H Q → wpAny (model X.prog X.w) X.A (isTrue e X.env whole) (TP X pins σ Q) X.xe s
theorem PW.pt {X : Cx} {e : Expr} {t : TT} (h : PW X e t) : PT X e t := h _
/-- an argument list (no star), from the left -/
def PA (X : Cx) (es : List Expr) (t : TA) : Prop :=
  ∀ (pos : Pos) (pins : List (Addr × Obj)) (s : Shared) (σ : St) (H : Hp) (Q : List V → Hp → Prop), Inv X pins σ H s → t σ H Q → wpAny (model X.prog X.w) X.A (spliced (backTo pos (starEach es X.env))) (AP X pins σ Q) X.xe s
def PS (X : Cx) (st : Stmt) (t : TS) : Prop :=
  ∀ (pins : List (Addr × Obj)) (s : Shared) (σ : St) (H : Hp) (D : Ends), Inv X pins σ H s → t D σ H → wpAny (model X.prog X.w) X.A (exec st X.env) (SP X pins D) X.xe s
def PSs (X : Cx) (st : List Stmt) (t : TS) : Prop :=
  ∀ (pins : List (Addr × Obj)) (s : Shared) (σ : St) (H : Hp) (D : Ends), Inv X pins σ H s → t D σ H → wpAny (model X.prog X.w) X.A (execs st X.env) (SP X pins D) X.xe s
/-- weaken the end -/
theorem thn {α : Type} {t : Sem α} {Q Q' : α → Shared → Prop} {M : Model} {A : Around} {E : Value → Shared → Prop} {s : Shared} (h : wpAny M A t Q E s) (hQ : ∀ a s, Q a s → Q' a s) : wpAny M A t Q' E s := wpAny_mono h hQ fun _ _ x => x
end L2

namespace L2
open PySem PySem.Spec PyProof.Rows
section
variable {X : Cx}

/-- two expressions in a row -/
theorem bin {a b : Expr} {ta tb : TE} (ha : PE X a ta) (hb : PE X b tb) {pins : List (Addr × Obj)} {s : Shared} {σ : St} {H : Hp} {R : V → V → Hp → Prop} (I : Inv X pins σ H s) (h : ta σ H fun x H1 => tb σ H1 fun y H2 => R x y H2)
    {α : Type} {Q : α → Shared → Prop} {f : Value → Value → Sem α}
    (hf : ∀ v u s2 x y H2, Inv X pins σ H2 s2 → RelV x v → RelV y u → R x y H2 → wpAny (model X.prog X.w) X.A (f v u) Q X.xe s2) :
    wpAny (model X.prog X.w) X.A (eval a X.env) (fun v s₁ => wpAny (model X.prog X.w) X.A (eval b X.env) (fun u s₂ => wpAny (model X.prog X.w) X.A (f v u) Q X.xe s₂) X.xe s₁) X.xe s := by
  refine thn (ha pins s σ H _ I h) fun v s1 ⟨x, H1, I1, r1, q1⟩ => ?_
  refine thn (hb pins s1 σ H1 _ I1 q1) fun u s2 ⟨y, H2, I2, r2, q2⟩ => ?_
  exact hf v u s2 x y H2 I2 r1 r2 q2

/-! ### names and constants -/
def tVar (i : Nat) : TE := fun σ H Q => ∃ v, σ[i]? = some (some v) ∧ Q v H
def tC (v : V) : TE := fun _ H Q => Q v H
theorem pe_var {i : Nat} {x : Str} {pos : Pos} (hN : X.N[i]? = some x) (hv : Vis X.env.scope x) (hd : (x == ("__debug__" : Str)) = false := by decide) (hcd : (x == ("__classdict__" : Str)) = false := by decide) : PE X (.Name x pos) (tVar i) := by
  intro pins s σ H Q I h
  obtain ⟨v, e, h⟩ := h
  obtain ⟨m, hn, hl⟩ := I.loc
  obtain ⟨u, r, l⟩ := hl i x v hN e hv
  have fin : EP X pins σ Q u s := ⟨v, H, I, r, h⟩
  rcases l with ⟨hk, hm⟩ | ⟨hk, c, hc, hcell⟩
  · exact wpAny_Name (wpAny_loadName_local I.ok.kind hk hn hm fin) hd
  · rcases hk with hk | hk
    · exact wpAny_Name (wpAny_loadName_cell I.ok.kind hk hc hcell fin) hd
    · exact wpAny_Name (wpAny_loadName_free I.ok.kind hk hc hcell fin hcd) hd
theorem pe_int {i j pos} : PE X (.Constant (.int i) j pos) (tC (.int i)) := fun _ _ _ H _ I h => wpAny_Constant_int ⟨.int i, H, I.tok _, ⟨_, rfl⟩, h⟩
theorem pe_bl {b j pos} : PE X (.Constant (.bool b) j pos) (tC (.bl b)) := fun _ _ _ H _ I h => Constant_bool ⟨.bl b, H, I, rfl, h⟩
theorem pe_non {j pos} : PE X (.Constant .none j pos) (tC .non) := fun _ _ _ H _ I h => Constant_none ⟨.non, H, I, rfl, h⟩
theorem pe_str {x j pos} : PE X (.Constant (.str x) j pos) (tC (.str x)) := fun _ _ _ H _ I h => Calls.Constant_str ⟨.str x, H, I.tok _, ⟨_, rfl⟩, h⟩

/-- a global name of the def -/
def Gl (X : Cx) (x : Str) : Prop := X.env.kindOf x = some .globalImplicit
theorem ld_glob {E : Value → Shared → Prop} {pins : List (Addr × Obj)} {s : Shared} {σ : St} {H : Hp} {x : Str} {u : Value} {pos : Pos} {Q : Value → Shared → Prop} (I : Inv X pins σ H s) (hg : Gl X x) (hm : X.mg x = some u) (h : Q u s)
    (hd : (x == ("__debug__" : Str)) = false := by decide) : wpAny (model X.prog X.w) X.A (eval (.Name x pos) X.env) Q E s :=
  Calls.Name_function_global I.ok.kind hg (Calls.loadGlobal_global (by rw [I.ok.glob]; exact I.mod.glob.keeps I.bk) hm h) hd
theorem ld_blt {E : Value → Shared → Prop} {pins : List (Addr × Obj)} {s : Shared} {σ : St} {H : Hp} {x : Str} {u : Value} {pos : Pos} {Q : Value → Shared → Prop} (I : Inv X pins σ H s) (hg : Gl X x) (hm : X.mg x = none) (hv : bootBuiltins x = some u) (h : Q u s)
    (hn : x ≠ "__name__" := by decide) (hd : (x == ("__debug__" : Str)) = false := by decide) : wpAny (model X.prog X.w) X.A (eval (.Name x pos) X.env) Q E s := by
  obtain ⟨mb, h1, h2⟩ := I.mod.blt
  exact Calls.Name_function_global I.ok.kind hg (Calls.loadGlobal_builtin (by rw [I.ok.glob]; exact I.mod.glob.keeps I.bk) hm (by rw [I.ok.blt]; exact h1.keeps I.bk) ((h2 x hn).trans hv) h) hd
/-- a module's constant, a class, a function, as a value -/
theorem pe_glob {x : Str} {v : V} {u : Value} {pos : Pos} (hg : Gl X x) (hm : X.mg x = some u) (r : RelV v u) (hd : (x == ("__debug__" : Str)) = false := by decide) : PE X (.Name x pos) (tC v) :=
  fun _ _ _ H _ I h => ld_glob I hg hm ⟨v, H, I, r, h⟩ hd
theorem pe_bltn {x : Str} {v : V} {u : Value} {pos : Pos} (hg : Gl X x) (hm : X.mg x = none) (hv : bootBuiltins x = some u) (r : RelV v u) (hn : x ≠ "__name__" := by decide) (hd : (x == ("__debug__" : Str)) = false := by decide) : PE X (.Name x pos) (tC v) :=
  fun _ _ _ H _ I h => ld_blt I hg hm hv ⟨v, H, I, r, h⟩ hn hd

/-! ### arithmetic -/
/-- two ints -/
def t2I (ta tb : TE) (k : Int → Int → Hp → Prop) : St → Hp → Prop := fun σ H => ta σ H fun x H1 => tb σ H1 fun y H2 => ∃ i j, x = .int i ∧ y = .int j ∧ k i j H2
def tAdd (ta tb : TE) : TE := fun σ H Q => t2I ta tb (fun i j H2 => Q (.int (i + j)) H2) σ H
def tSub (ta tb : TE) : TE := fun σ H Q => t2I ta tb (fun i j H2 => Q (.int (i - j)) H2) σ H
/-- the left factor below 2^64 -/
def tMul (ta tb : TE) : TE := fun σ H Q => t2I ta tb (fun i j H2 => (-(2 ^ 64) < i ∧ i < 2 ^ 64) ∧ Q (.int (i * j)) H2) σ H
variable {a b : Expr} {ta tb : TE} {pos : Pos}
theorem pe_add (ha : PE X a ta) (hb : PE X b tb) : PE X (.BinOp a .Add b pos) (tAdd ta tb) := by
  intro pins s σ H Q I h
  refine wpAny_BinOp (bin ha hb I h fun v u s2 x y H2 I2 rx ry q => ?_)
  obtain ⟨i, j, rfl, rfl, q⟩ := q
  obtain ⟨t, rfl⟩ := rx
  obtain ⟨t', rfl⟩ := ry
  exact add_int ⟨.int _, H2, I2.tok _, ⟨_, rfl⟩, q⟩
theorem pe_sub (ha : PE X a ta) (hb : PE X b tb) : PE X (.BinOp a .Sub b pos) (tSub ta tb) := by
  intro pins s σ H Q I h
  refine wpAny_BinOp (bin ha hb I h fun v u s2 x y H2 I2 rx ry q => ?_)
  obtain ⟨i, j, rfl, rfl, q⟩ := q
  obtain ⟨t, rfl⟩ := rx
  obtain ⟨t', rfl⟩ := ry
  exact sub_int ⟨.int _, H2, I2.tok _, ⟨_, rfl⟩, q⟩
theorem pe_mul (ha : PE X a ta) (hb : PE X b tb) : PE X (.BinOp a .Mult b pos) (tMul ta tb) := by
  intro pins s σ H Q I h
  refine wpAny_BinOp (bin ha hb I h fun v u s2 x y H2 I2 rx ry q => ?_)
  obtain ⟨i, j, rfl, rfl, ⟨q1, q2⟩, q⟩ := q
  obtain ⟨t, rfl⟩ := rx
  obtain ⟨t', rfl⟩ := ry
  exact mul_int ⟨.int _, H2, I2.tok _, ⟨_, rfl⟩, q⟩ (.of_left (intBits_le_64 q1 q2))

/-! ### comparisons -/
def PC (X : Cx) (op : CmpOp) (a b : Expr) (t : TE) : Prop :=
  ∀ (pins : List (Addr × Obj)) (s : Shared) (σ : St) (H : Hp) (Q : VK), Inv X pins σ H s → t σ H Q →
    wpAny (model X.prog X.w) X.A (eval a X.env) (fun v s₁ => wpAny (model X.prog X.w) X.A (eval b X.env) (fun u s₂ => wpAny (model X.prog X.w) X.A (compareOp op v u) (EP X pins σ Q) X.xe s₂) X.xe s₁) X.xe s
theorem nobehind (b : Expr) {op : CmpOp} (h : op ≠ .In) (h2 : op ≠ .NotIn) : behindInMarks op b = false := by
  have e1 : (op == CmpOp.In) = false := by cases op <;> first | rfl | exact absurd rfl h
  have e2 : (op == CmpOp.NotIn) = false := by cases op <;> first | rfl | exact absurd rfl h2
  cases b <;> simp [behindInMarks, e1, e2]
def tCmp (p : Int → Int → Bool) (ta tb : TE) : TE := fun σ H Q => t2I ta tb (fun i j H2 => Q (.bl (p i j)) H2) σ H
abbrev tLt : TE → TE → TE := tCmp fun i j => decide (i < j)
abbrev tLe : TE → TE → TE := tCmp fun i j => decide (i ≤ j)
abbrev tGt : TE → TE → TE := tCmp fun i j => decide (j < i)
abbrev tGe : TE → TE → TE := tCmp fun i j => decide (j ≤ i)
abbrev tEqI : TE → TE → TE := tCmp fun i j => decide (i = j)
abbrev tNeI : TE → TE → TE := tCmp fun i j => !decide (i = j)
/-- a comparison of two ints, by its rule -/
theorem pc_int {op : CmpOp} {p : Int → Int → Bool} (ha : PE X a ta) (hb : PE X b tb)
    (rule : ∀ (i j : Int) (t u : Tok) (Q : Value → Shared → Prop) (s : Shared), Q (.bool (p i j)) s → wpAny (model X.prog X.w) X.A (compareOp op (.int i t) (.int j u)) Q X.xe s) : PC X op a b (tCmp p ta tb) := by
  intro pins s σ H Q I h
  refine bin ha hb I h fun v u s2 x y H2 I2 rx ry q => ?_
  obtain ⟨i, j, rfl, rfl, q⟩ := q
  obtain ⟨t, rfl⟩ := rx
  obtain ⟨t', rfl⟩ := ry
  exact rule i j t t' _ s2 ⟨.bl _, H2, I2, rfl, q⟩
theorem pc_lt (ha : PE X a ta) (hb : PE X b tb) : PC X .Lt a b (tLt ta tb) := pc_int ha hb fun _ _ _ _ _ _ h => lt_int h
theorem pc_le (ha : PE X a ta) (hb : PE X b tb) : PC X .LtE a b (tLe ta tb) := pc_int ha hb fun _ _ _ _ _ _ h => le_int h
theorem pc_gt (ha : PE X a ta) (hb : PE X b tb) : PC X .Gt a b (tGt ta tb) := pc_int ha hb fun _ _ _ _ _ _ h => gt_int h
theorem pc_ge (ha : PE X a ta) (hb : PE X b tb) : PC X .GtE a b (tGe ta tb) := pc_int ha hb fun _ _ _ _ _ _ h => ge_int h
theorem pc_eqI (ha : PE X a ta) (hb : PE X b tb) : PC X .Eq a b (tEqI ta tb) := pc_int ha hb fun _ _ _ _ _ _ h => eq_int (by rw [Bool.beq_eq_decide_eq]; exact h)
theorem pc_neI (ha : PE X a ta) (hb : PE X b tb) : PC X .NotEq a b (tNeI ta tb) := pc_int ha hb fun _ _ _ _ _ _ h => ne_int (by rw [bne, Bool.beq_eq_decide_eq]; exact h)
/-- is None -/
def tIsN (ta : TE) : TE := fun σ H Q => ta σ H fun x H1 => Q (.bl (decide (x = .non))) H1
def tNotN (ta : TE) : TE := fun σ H Q => ta σ H fun x H1 => Q (.bl (!decide (x = .non))) H1
theorem RelV.none_iff {x : V} {v : Value} (r : RelV x v) : (v == Value.none) = decide (x = .non) := by
  cases x with
  | non => cases r; rfl
  | bl _ => cases r; rfl
  | int _ => obtain ⟨t, rfl⟩ := r; rfl
  | str _ => obtain ⟨t, rfl⟩ := r; rfl
  | byt _ => obtain ⟨t, rfl⟩ := r; rfl
  | flt _ => obtain ⟨t, rfl⟩ := r; rfl
  | ref _ => cases r; rfl
  | ty _ => cases r; rfl
theorem pc_isN {j pos'} (ha : PE X a ta) : PC X .Is a (.Constant .none j pos') (tIsN ta) := by
  intro pins s σ H Q I h
  refine thn (ha pins s σ H _ I h) fun v s1 ⟨x, H1, I1, r1, q1⟩ => ?_
  exact Constant_none (is_none_gen ⟨.bl _, H1, I1, by rw [r1.none_iff]; rfl, q1⟩)
theorem pc_notN {j pos'} (ha : PE X a ta) : PC X .IsNot a (.Constant .none j pos') (tNotN ta) := by
  intro pins s σ H Q I h
  refine thn (ha pins s σ H _ I h) fun v s1 ⟨x, H1, I1, r1, q1⟩ => ?_
  exact Constant_none (isnot_none_gen ⟨.bl _, H1, I1, by rw [r1.none_iff]; rfl, q1⟩)
/-- a comparison as a value, as a test -/
def tB (t : TE) : TT := fun σ H Q => t σ H fun x H1 => ∃ c, x = .bl c ∧ Q c H1
theorem pe_cmp {op : CmpOp} {t : TE} (h : PC X op a b t) (h1 : behindInMarks op b = false := by first | exact nobehind _ (by decide) (by decide) | rfl) : PE X (.Compare a [op] [b] pos) t := fun pins s σ H Q I hw => wpAny_Compare1 (h pins s σ H Q I hw) h1
theorem pt_cmp {op : CmpOp} {t : TE} (h : PC X op a b t) (h1 : behindInMarks op b = false := by first | exact nobehind _ (by decide) (by decide) | rfl) : PT X (.Compare a [op] [b] pos) (tB t) := by
  intro pins s σ H Q I hw
  refine wpAny_isTrue_Compare1 (thn (h pins s σ H _ I hw) fun v s1 h1 => thn h1 fun u s2 h2 => thn h2 fun c s3 ⟨x, H1, I1, r1, q1⟩ => ?_) h1
  obtain ⟨d, rfl, q⟩ := q1
  cases r1
  exact wpAny_truthy_bool ⟨H1, I1, q⟩
/-- an expression whose value is a bool, as a test -/
theorem pt_val {e : Expr} {t : TE} (h : PE X e t) (he : ∀ whole, isTrue e X.env whole = (do let v ← whole; standAt e.pos; holding [v] (truthy v)) := by intro _; rfl) : PT X e (tB t) := by
  intro pins s σ H Q I hw
  refine isTrue_plain (thn (h pins s σ H _ I hw) fun v s1 ⟨x, H1, I1, r1, q1⟩ => ?_) (he _)
  obtain ⟨d, rfl, q⟩ := q1
  cases r1
  exact wpAny_truthy_bool ⟨H1, I1, q⟩

/-! ### and, or, not -/
variable {tA tB' : TT} {rest : List Expr}
def tAnd (t u : TT) : TT := fun σ H Q => t σ H fun c H1 => if c = true then u σ H1 Q else Q false H1
def tOr (t u : TT) : TT := fun σ H Q => t σ H fun c H1 => if c = true then Q true H1 else u σ H1 Q
def tNot (t : TT) : TT := fun σ H Q => t σ H fun c H1 => Q (!c) H1
theorem pw_and1 (ha : PT X a tA) : PW X (.BoolOp .And [a] pos) tA := by
  intro wh pins s σ H Q I h
  refine isTrue_and (thn (ha pins s σ H Q I h) fun c s1 e => ?_)
  cases c with
  | true => exact isTrue_and_nil e
  | false => exact e
theorem pw_or1 (ha : PT X a tA) : PW X (.BoolOp .Or [a] pos) tA := by
  intro wh pins s σ H Q I h
  refine isTrue_or (thn (ha pins s σ H Q I h) fun c s1 e => ?_)
  cases c with
  | false => exact isTrue_or_nil e
  | true => exact e
theorem pw_and (ha : PT X a tA) (hb : PW X (.BoolOp .And (b :: rest) pos) tB') : PW X (.BoolOp .And (a :: b :: rest) pos) (tAnd tA tB') := by
  intro wh pins s σ H Q I h
  refine isTrue_and (thn (ha pins s σ H _ I h) fun c s1 ⟨H1, I1, q1⟩ => ?_)
  cases c with
  | true => exact hb wh pins s1 σ H1 Q I1 q1
  | false => exact ⟨H1, I1, q1⟩
theorem pw_or (ha : PT X a tA) (hb : PW X (.BoolOp .Or (b :: rest) pos) tB') : PW X (.BoolOp .Or (a :: b :: rest) pos) (tOr tA tB') := by
  intro wh pins s σ H Q I h
  refine isTrue_or (thn (ha pins s σ H _ I h) fun c s1 ⟨H1, I1, q1⟩ => ?_)
  cases c with
  | true => exact ⟨H1, I1, q1⟩
  | false => exact hb wh pins s1 σ H1 Q I1 q1
theorem pt_not (ha : PT X a tA) : PT X (.UnaryOp .Not a pos) (tNot tA) := by
  intro pins s σ H Q I h
  exact isTrue_not (ha pins s σ H (fun c H1 => Q (!c) H1) I h)
/-- .. as values (bools) -/
def tAndV (ta tb : TE) : TE := fun σ H Q => ta σ H fun x H1 => ∃ c, x = .bl c ∧ if c = true then tb σ H1 Q else Q (.bl false) H1
def tOrV (ta tb : TE) : TE := fun σ H Q => ta σ H fun x H1 => ∃ c, x = .bl c ∧ if c = true then Q (.bl true) H1 else tb σ H1 Q
def tNotV (ta : TE) : TE := fun σ H Q => ta σ H fun x H1 => ∃ c, x = .bl c ∧ Q (.bl (!c)) H1
theorem pe_one {op} {t : TE} (h : PE X a t) : PE X (.BoolOp op [a] pos) t := fun pins s σ H Q I hw => BoolOp_one (h pins s σ H Q I hw)
theorem pe_and (ha : PE X a ta) (hb : PE X (.BoolOp .And (b :: rest) pos) tb) : PE X (.BoolOp .And (a :: b :: rest) pos) (tAndV ta tb) := by
  intro pins s σ H Q I h
  refine BoolOp_and (thn (ha pins s σ H _ I h) fun v s1 ⟨x, H1, I1, r1, q1⟩ => ?_)
  obtain ⟨c, rfl, q1⟩ := q1
  cases r1
  refine wpAny_truthy_bool ?_
  cases c with
  | true => exact hb pins s1 σ H1 Q I1 q1
  | false => exact ⟨.bl false, H1, I1, rfl, q1⟩
theorem pe_or (ha : PE X a ta) (hb : PE X (.BoolOp .Or (b :: rest) pos) tb) : PE X (.BoolOp .Or (a :: b :: rest) pos) (tOrV ta tb) := by
  intro pins s σ H Q I h
  refine BoolOp_or (thn (ha pins s σ H _ I h) fun v s1 ⟨x, H1, I1, r1, q1⟩ => ?_)
  obtain ⟨c, rfl, q1⟩ := q1
  cases r1
  refine wpAny_truthy_bool ?_
  cases c with
  | false => exact hb pins s1 σ H1 Q I1 q1
  | true => exact ⟨.bl true, H1, I1, rfl, q1⟩
theorem pe_not (ha : PE X a ta) : PE X (.UnaryOp .Not a pos) (tNotV ta) := by
  intro pins s σ H Q I h
  refine UnaryOp_ (thn (ha pins s σ H _ I h) fun v s1 ⟨x, H1, I1, r1, q1⟩ => ?_)
  obtain ⟨c, rfl, q1⟩ := q1
  cases r1
  exact not_of (wpAny_truthy_bool ⟨.bl (!c), H1, I1, rfl, q1⟩)
/-- a if t else b -/
def tIf (t : TT) (ta tb : TE) : TE := fun σ H Q => t σ H fun c H1 => if c = true then ta σ H1 Q else tb σ H1 Q
theorem pe_ifExp {c : Expr} (hc : PT X c tA) (ha : PE X a ta) (hb : PE X b tb) : PE X (.IfExp c a b pos) (tIf tA ta tb) := by
  intro pins s σ H Q I h
  refine wpAny_IfExp (thn (hc pins s σ H _ I h) fun d s1 ⟨H1, I1, q1⟩ => ?_)
  cases d with
  | true => exact ha pins s1 σ H1 Q I1 q1
  | false => exact hb pins s1 σ H1 Q I1 q1
end
end L2

namespace L2
open PySem PySem.Spec PyProof.Rows

/-! ### a list, a tuple that is read: tracked, frozen, or an object of the module -/
def SqL (K : PySem.W.Frag) (H : Hp) (a : Addr) (xs : List V) : Prop :=
  Rd H a (.lst xs) ∨
    ∃ (o : Obj) (its : Array Value) (n : Nat), K.lookup a = some o ∧ o.cls = .type "list" ∧ o.dict = none ∧ o.data = .seq its n ∧ its.size ≤ sizeLine ∧ Vals xs its.toList
def SqT (K : PySem.W.Frag) (H : Hp) (a : Addr) (xs : List V) : Prop :=
  Rd H a (.tup xs) ∨
    ∃ (o : Obj) (its : Array Value) (n : Nat), K.lookup a = some o ∧ o.cls = .type "tuple" ∧ o.data = .seq its n ∧ its.size ≤ sizeLine ∧ Vals xs its.toList
def absV : Value → Option V
  | .none => some .non
  | .bool b => some (.bl b)
  | .int i _ => some (.int i)
  | .str x _ => some (.str x)
  | .bytes b _ => some (.byt b)
  | .float b _ => some (.flt b)
  | .ref a => some (.ref a)
  | .type n => some (.ty n)
  | _ => none
theorem RelV.abs {x : V} {u : Value} (r : RelV x u) : absV u = some x := by
  cases x with
  | non => cases r; rfl
  | bl _ => cases r; rfl
  | int _ => obtain ⟨t, rfl⟩ := r; rfl
  | str _ => obtain ⟨t, rfl⟩ := r; rfl
  | byt _ => obtain ⟨t, rfl⟩ := r; rfl
  | flt _ => obtain ⟨t, rfl⟩ := r; rfl
  | ref _ => cases r; rfl
  | ty _ => cases r; rfl
theorem RelV.inj {x y : V} {u : Value} (r : RelV x u) (q : RelV y u) : x = y := Option.some.inj (r.abs.symm.trans q.abs)
theorem Vals.inj : ∀ {xs ys : List V} {us : List Value}, Vals xs us → Vals ys us → xs = ys
  | _, _, _, .nil, .nil => rfl
  | _, _, _, .cons r t, .cons r' t' => by rw [r.inj r', Vals.inj t t']
section
variable {X : Cx} {pins : List (Addr × Obj)} {σ : St} {H : Hp} {s : Shared} {a : Addr} {xs ys : List V}
theorem SqL.of {K : PySem.W.Frag} (h : H a = some (.lst xs)) : SqL K H a xs := .inl (.inl h)
theorem SqT.of {K : PySem.W.Frag} (h : H a = some (.tup xs)) : SqT K H a xs := .inl (.inl h)
theorem Inv.list (I : Inv X pins σ H s) (h : SqL X.K H a xs) : ∃ its : List Value, Vals xs its ∧ PlainL s.heap a its.toArray ∧ xs.length ≤ sizeLine := by
  rcases h with h | ⟨o, its, n, hk, hc, hd, hs, hz, r⟩
  · obtain ⟨z, its, n, r, e⟩ := h.ok I.hok
    exact ⟨its, r, ⟨_, n, e, rfl, rfl, rfl⟩, z⟩
  · refine ⟨its.toList, r, ⟨o, n, I.kIn a o hk, hc, hd, by simpa using hs⟩, ?_⟩
    have e := r.length
    simp only [Array.length_toList] at e
    omega
theorem Inv.tuple (I : Inv X pins σ H s) (h : SqT X.K H a xs) : ∃ its : List Value, Vals xs its ∧ IsTup s.heap a its.toArray ∧ xs.length ≤ sizeLine := by
  rcases h with h | ⟨o, its, n, hk, hc, hs, hz, r⟩
  · obtain ⟨z, its, r, p⟩ := h.ok I.hok
    exact ⟨its, r, p, z⟩
  · refine ⟨its.toList, r, ⟨o, I.kIn a o hk, hc, n, by simpa using hs⟩, ?_⟩
    have e := r.length
    simp only [Array.length_toList] at e
    omega
theorem Inv.list_inj (I : Inv X pins σ H s) (h : SqL X.K H a xs) (h' : SqL X.K H a ys) : xs = ys := by
  obtain ⟨its, r, ⟨o, n, e, _, _, d⟩, _⟩ := I.list h
  obtain ⟨its', r', ⟨o', n', e', _, _, d'⟩, _⟩ := I.list h'
  rw [e] at e'; cases e'
  rw [d] at d'
  injection d' with d1 _
  have : its = its' := by simpa using congrArg Array.toList d1
  subst this
  exact r.inj r'
theorem Inv.tuple_inj (I : Inv X pins σ H s) (h : SqT X.K H a xs) (h' : SqT X.K H a ys) : xs = ys := by
  obtain ⟨its, r, ⟨o, e, _, n, d⟩, _⟩ := I.tuple h
  obtain ⟨its', r', ⟨o', e', _, n', d'⟩, _⟩ := I.tuple h'
  rw [e] at e'; cases e'
  rw [d] at d'
  injection d' with d1 _
  have : its = its' := by simpa using congrArg Array.toList d1
  subst this
  exact r.inj r'
end

/-! ### another wish about exceptions -/
abbrev Cx.wish (X : Cx) (E : Value → Shared → Prop) : Cx := { X with xe := E }
/-- no exception leaves -/
abbrev Cx.nox (X : Cx) : Cx := X.wish fun _ _ => False
theorem Cx.Ok.wish {X : Cx} (ok : X.Ok) (E : Value → Shared → Prop) : (X.wish E).Ok :=
  ⟨ok.mod, ok.kind, ok.glob, ok.blt, ok.above, ok.inj, ok.has, ok.cab, ok.hd, ok.frames, ok.stk, ok.exf, ok.bs, ok.bsz, ok.noex, ok.exfs, ok.funs, ok.frf⟩
theorem Cx.Ok.unwish {X : Cx} {E : Value → Shared → Prop} (ok : (X.wish E).Ok) : X.Ok :=
  ⟨ok.mod, ok.kind, ok.glob, ok.blt, ok.above, ok.inj, ok.has, ok.cab, ok.hd, ok.frames, ok.stk, ok.exf, ok.bs, ok.bsz, ok.noex, ok.exfs, ok.funs, ok.frf⟩
section
variable {X : Cx} {pins : List (Addr × Obj)} {σ : St} {H : Hp} {s : Shared} {E : Value → Shared → Prop}
theorem Inv.wish (I : Inv X pins σ H s) (E : Value → Shared → Prop) : Inv (X.wish E) pins σ H s := ⟨I.ok.wish E, I.os, I.bare, I.base, I.loc, I.cell, I.free, I.freeC, I.pin, I.hok, I.len⟩
theorem Inv.unwish (I : Inv (X.wish E) pins σ H s) : Inv X pins σ H s := ⟨I.ok.unwish, I.os, I.bare, I.base, I.loc, I.cell, I.free, I.freeC, I.pin, I.hok, I.len⟩
theorem SP.unwish {D : Ends} {f : Flow} {s' : Shared} (h : SP (X.wish E) pins D f s') : SP X pins D f s' := by
  cases f with
  | next => obtain ⟨σ', H', I, q⟩ := h; exact ⟨σ', H', I.unwish, q⟩
  | brk => obtain ⟨σ', H', I, q⟩ := h; exact ⟨σ', H', I.unwish, q⟩
  | cont => obtain ⟨σ', H', I, q⟩ := h; exact ⟨σ', H', I.unwish, q⟩
  | ret u => obtain ⟨v, σ', H', I, r, q⟩ := h; exact ⟨v, σ', H', I.unwish, r, q⟩
theorem PE.nox {e : Expr} {t : TE} (h : PE X.nox e t) : PE X e t := fun pins s σ H Q I hw =>
  wpAny_mono (h pins s σ H Q (I.wish _) hw) (fun _ _ ⟨v, H', I', r, q⟩ => ⟨v, H', I'.unwish, r, q⟩) fun _ _ z => False.elim z
theorem PT.nox {e : Expr} {t : TT} (h : PT X.nox e t) : PT X e t := fun pins s σ H Q I hw =>
  wpAny_mono (h pins s σ H Q (I.wish _) hw) (fun _ _ ⟨H', I', q⟩ => ⟨H', I'.unwish, q⟩) fun _ _ z => False.elim z
theorem PSs.nox {st : List Stmt} {t : TS} (h : PSs X.nox st t) : PSs X st t := fun pins s σ H D I hw =>
  wpAny_mono (h pins s σ H D (I.wish _) hw) (fun _ _ q => q.unwish) fun _ _ z => False.elim z
end

/-! ### blocks and small statements -/
section
variable {X : Cx} {st : Stmt} {rest : List Stmt} {t u : TS} {e : Expr} {te : TE} {pos : Pos}
def tNext : TS := fun D σ H => D.nx σ H
def tSeq (t u : TS) : TS := fun D σ H => t { D with nx := u D } σ H
theorem pss_nil : PSs X [] tNext := fun _ _ σ H _ I h => wpAny_execs_nil ⟨σ, H, I, h⟩
theorem pss_cons (h1 : PS X st t) (h2 : PSs X rest u) : PSs X (st :: rest) (tSeq t u) := by
  intro pins s σ H D I h
  refine wpAny_execs_cons (thn (h1 pins s σ H { D with nx := u D } I h) fun f s1 q => ?_)
  cases f with
  | next =>
    obtain ⟨σ', H', I', q⟩ := q
    exact h2 pins s1 σ' H' D I' q
  | ret v => exact q
  | brk => exact q
  | cont => exact q
theorem pss_one (h1 : PS X st t) : PSs X [st] t := by
  intro pins s σ H D I h
  refine wpAny_execs_cons (thn (h1 pins s σ H D I h) fun f s1 q => ?_)
  cases f with
  | next => exact wpAny_execs_nil q
  | ret v => exact q
  | brk => exact q
  | cont => exact q
def tBreak : TS := fun D σ H => D.bk σ H
def tCont : TS := fun D σ H => D.ct σ H
theorem ps_pass : PS X (.Pass pos) tNext := fun _ _ σ H _ I h => wpAny_Pass ⟨σ, H, I, h⟩
theorem ps_break : PS X (.Break pos) tBreak := fun _ _ σ H _ I h => wpAny_Break ⟨σ, H, I, h⟩
theorem ps_continue : PS X (.Continue pos) tCont := fun _ _ σ H _ I h => wpAny_Continue ⟨σ, H, I, h⟩
/-- in a def's body nothing is shown -/
theorem Inv.quiet {pins : List (Addr × Obj)} {σ : St} {H : Hp} {s : Shared} (I : Inv X pins σ H s) : interactive X.env = false := by simp [interactive, I.ok.kind]
/-- a docstring -/
theorem ps_doc {x j pos pos'} : PS X (.Expr (.Constant (.str x) j pos) pos') tNext := fun _ s σ H _ I h => wpAny_Expr (Calls.Constant_str (show SP X _ _ .next { s with toks := s.toks + 1 } from ⟨σ, H, I.tok _, h⟩)) I.quiet
/-- an expression whose value is dropped -/
def tDrop (te : TE) : TS := fun D σ H => te σ H fun _ H1 => D.nx σ H1
theorem ps_expr (he : PE X e te) (hs : swapsWith e none pos.line X.env = pure false := by rfl) : PS X (.Expr e pos) (tDrop te) := by
  intro pins s σ H D I h
  exact wpAny_Expr_any (thn (he pins s σ H _ I h) fun v s1 ⟨x, H1, I1, r1, q1⟩ => ⟨σ, H1, I1, q1⟩) I.quiet hs
def tRet (te : TE) : TS := fun D σ H => te σ H D.rt
theorem ps_ret (he : PE X e te) : PS X (.Return (some e) pos) (tRet te) := by
  intro pins s σ H D I h
  exact wpAny_Return_some (thn (he pins s σ H _ I h) fun v s1 ⟨x, H1, I1, r1, q1⟩ => ⟨x, σ, H1, I1, r1, q1⟩)
def tRetN : TS := fun D _ H => D.rt .non H
theorem ps_retN : PS X (.Return none pos) tRetN := fun _ _ σ H _ I h => wpAny_Return_none ⟨.non, σ, H, I, rfl, h⟩
def tIfS (c : TT) (t u : TS) : TS := fun D σ H => c σ H fun b H1 => if b = true then t D σ H1 else u D σ H1
theorem ps_if {c : Expr} {a b : List Stmt} {tc : TT} (hc : PT X c tc) (ha : PSs X a t) (hb : PSs X b u) : PS X (.If c a b pos) (tIfS tc t u) := by
  intro pins s σ H D I h
  refine wpAny_If (thn (hc pins s σ H _ I h) fun d s1 ⟨H1, I1, q1⟩ => ?_)
  cases d with
  | true => exact ha pins s1 σ H1 D I1 q1
  | false => exact hb pins s1 σ H1 D I1 q1
/-- code that the proof never comes to -/
def tNever : TS := fun _ _ _ => False
theorem ps_never : PS X st tNever := fun _ _ _ _ _ _ h => h.elim
theorem pss_never {sts : List Stmt} : PSs X sts tNever := fun _ _ _ _ _ _ h => h.elim
end

/-! ### targets -/
abbrev TG := V → St → Hp → (St → Hp → Prop) → Prop
abbrev TGs := List V → St → Hp → (St → Hp → Prop) → Prop
def PG (X : Cx) (target : Expr) (t : TG) : Prop :=
  ∀ (pins : List (Addr × Obj)) (s : Shared) (σ : St) (H : Hp) (v : V) (u : Value) (Q : St → Hp → Prop), Inv X pins σ H s → RelV v u → t v σ H Q →
    wpAny (model X.prog X.w) X.A (assign target X.env u) (fun _ s' => ∃ σ' H', Inv X pins σ' H' s' ∧ Q σ' H') X.xe s
/-- several targets, one after another -/
def PGs (X : Cx) (ts : List Expr) (t : TGs) : Prop :=
  ∀ (pins : List (Addr × Obj)) (s : Shared) (σ : St) (H : Hp) (vs : List V) (us : List Value) (Q : St → Hp → Prop), Inv X pins σ H s → Vals vs us → t vs σ H Q →
    wpAny (model X.prog X.w) X.A (assignInOrder ((assignEach ts X.env).map (·.2)) us) (fun _ s' => ∃ σ' H', Inv X pins σ' H' s' ∧ Q σ' H') X.xe s
/-- o[i] = v, by values -/
abbrev TSet := V → V → V → Hp → (Hp → Prop) → Prop
def PSet (X : Cx) (t : TSet) : Prop :=
  ∀ (pins : List (Addr × Obj)) (s : Shared) (σ : St) (H : Hp) (o i v : V) (ov iv u : Value) (Q : Hp → Prop), Inv X pins σ H s → RelV o ov → RelV i iv → RelV v u → t o i v H Q →
    wpAny (model X.prog X.w) X.A (setItem ov iv u) (fun _ s' => ∃ H', Inv X pins σ H' s' ∧ Q H') X.xe s
/-- a op= b, by values -/
abbrev TIp := V → V → Hp → VK → Prop
def PIp (X : Cx) (op : Operator) (t : TIp) : Prop :=
  ∀ (pins : List (Addr × Obj)) (s : Shared) (σ : St) (H : Hp) (x y : V) (v u : Value) (Q : VK), Inv X pins σ H s → RelV x v → RelV y u → t x y H Q →
    wpAny (model X.prog X.w) X.A (inplaceOp op v u) (EP X pins σ Q) X.xe s
section
variable {X : Cx} {pos : Pos}
def gName (i : Nat) : TG := fun v σ H Q => Q (σ.set i (some v)) H
theorem pg_name {i : Nat} {x : Str} (hN : X.N.Nodup) (hi : X.N[i]? = some x) (hx : Loc X.env.scope x) (hf : X.fn x = true ∨ X.env.scope.names.lookup x = some .local := by first | exact .inl rfl | exact .inr rfl | assumption) : PG X (.Name x pos) (gName i) := by
  intro pins s σ H v u Q I r h
  exact wpAny_assign_Name (store_ok I hN hi hx r (fun s' I' => ⟨_, H, I', h⟩) hf)
def gNil : TGs := fun vs σ H Q => vs = [] ∧ Q σ H
def gCons (t : TG) (u : TGs) : TGs := fun vs σ H Q => ∃ v r, vs = v :: r ∧ t v σ H fun σ' H' => u r σ' H' Q
theorem pgs_nil : PGs X [] gNil := by
  intro pins s σ H vs us Q I r h
  obtain ⟨e, h⟩ := h
  subst e
  cases r
  exact assignInOrder_nil ⟨σ, H, I, h⟩
theorem pgs_cons {e : Expr} {es : List Expr} {t : TG} {u : TGs} (h1 : PG X e t) (h2 : PGs X es u)
    (hs : (assignEach (e :: es) X.env).map (·.2) = assign e X.env :: (assignEach es X.env).map (·.2) := by rfl) : PGs X (e :: es) (gCons t u) := by
  intro pins s σ H vs us Q I r h
  obtain ⟨v, vr, e1, h⟩ := h
  subst e1
  cases r with
  | cons r rr =>
    rw [hs]
    refine assignInOrder_cons (thn (h1 pins s σ H _ _ _ I r h) fun _ s1 ⟨σ1, H1, I1, q1⟩ => ?_)
    exact h2 pins s1 σ1 H1 _ _ Q I1 rr q1
/-- (a, b, ..) = a tuple of that length -/
def gTup (K : PySem.W.Frag) (n : Nat) (t : TGs) : TG := fun v σ H Q => ∃ a xs, v = .ref a ∧ SqT K H a xs ∧ xs.length = n ∧ t xs σ H Q
theorem pg_tup {es : List Expr} {k : Nat} {t : TGs} {n : Nat} (hc : X.calm = true) (h : PGs X es t)
    (hn : (assignEach es X.env).length = n := by rfl) (hst : (assignEach es X.env).findIdx? (·.1) = none := by rfl) : PG X (.Tuple es k pos) (gTup X.K n t) := by
  intro pins s σ H v u Q I r hw
  obtain ⟨a, xs, e1, hq, hl, hw⟩ := hw
  subst e1
  cases r
  obtain ⟨its, rv, ht, hz⟩ := I.tuple hq
  refine assign_Tuple_tuple (I.ok.hd hc) ht (by simp [hn, ← hl, rv.length]) hst fun h' hx => ?_
  have I1 : Inv X pins σ H { s with heap := h' } := I.kept (t' := s.toks) fun b o e => hx b o (Nat.ne_of_lt (Heap.lt_size e)) e
  exact h pins _ σ H xs _ Q I1 (by simpa using rv) hw
/-- o[i] = .. -/
def gSub (to ti : TE) (t : TSet) : TG := fun v σ H Q => to σ H fun o H1 => ti σ H1 fun i H2 => t o i v H2 fun H3 => Q σ H3
theorem pg_sub {o i : Expr} {to ti : TE} {t : TSet} (ho : PE X o to) (hi : PE X i ti) (hs : PSet X t)
    (ha : ∀ v, assign (.Subscript o i pos) X.env v = (do
      let ov ← holding [v] (eval o X.env)
      let iv ← holding [v, ov] (eval i X.env)
      standAt pos
      holding [v, ov, iv] (setItem ov iv v)
      release [v, ov, iv] []) := by intro _; rfl) : PG X (.Subscript o i pos) (gSub to ti t) := by
  intro pins s σ H v u Q I r h
  rw [ha]
  refine wpAny_bind (wpAny_holding (thn (ho pins s σ H _ I h) fun ov s1 ⟨x, H1, I1, r1, q1⟩ => ?_))
  refine wpAny_bind (wpAny_holding (thn (hi pins s1 σ H1 _ I1 q1) fun iv s2 ⟨y, H2, I2, r2, q2⟩ => ?_))
  refine wpAny_bind (wpAny_standAt (wpAny_bind (wpAny_holding (thn (hs pins s2 σ H2 x y v ov iv u _ I2 r1 r2 r q2) fun _ s3 ⟨H3, I3, q3⟩ => ?_))))
  exact wpAny_release ⟨σ, H3, I3, q3⟩
/-- target = value -/
def tAsg (te : TE) (g : TG) : TS := fun D σ H => te σ H fun x H1 => g x σ H1 D.nx
theorem ps_asg {tg e : Expr} {te : TE} {g : TG} (he : PE X e te) (hg : PG X tg g) (hs : swapsWithSole [tg] e pos.line X.env = pure false := by rfl) (hw : swappedStores [tg] e X.env = pure none := by rfl)
    (h1 : (assignEach [tg] X.env).map (·.2) = [assign tg X.env] := by rfl) : PS X (.Assign [tg] e pos) (tAsg te g) := by
  intro pins s σ H D I h
  refine wpAny_Assign_stores (thn (he pins s σ H _ I h) fun v s1 ⟨x, H1, I1, r1, q1⟩ => ?_) hs hw
  rw [h1]
  exact thn (hg pins s1 σ H1 x v _ I1 r1 q1) fun _ s2 q => q
/-- name = value -/
theorem ps_set {i : Nat} {x : Str} {e : Expr} {te : TE} {pos' : Pos} (hN : X.N.Nodup) (hi : X.N[i]? = some x) (hx : Loc X.env.scope x) (he : PE X e te) (hs : swapsWith e (some (.Name x pos')) pos.line X.env = pure false := by rfl) (hf : X.fn x = true ∨ X.env.scope.names.lookup x = some .local := by first | exact .inl rfl | exact .inr rfl | assumption) :
    PS X (.Assign [.Name x pos'] e pos) (tAsg te (gName i)) := by
  intro pins s σ H D I h
  refine wpAny_Assign_Name (thn (he pins s σ H _ I h) fun v s1 ⟨y, H1, I1, r1, q1⟩ => ?_) hs
  exact store_ok I1 hN hi hx r1 (fun s2 I2 => ⟨_, H1, I2, q1⟩) hf
/-- a, b = x, y with plain local names: stored from the right; the pair itself is not tracked (the opening rows as in PyProof/Rows/TupAssign.lean:23) -/
def tPar (i j : Nat) (ta : TA) : TS := fun D σ H => ta σ H fun vs H1 => ∃ v w, vs = [v, w] ∧ D.nx ((σ.set i (some v)).set j (some w)) H1
theorem ps_par {i j : Nat} {x y : Str} {a b : Expr} {ta : TA} {px py pt : Pos} {kt k2 pt2} (hc : X.calm = true) (hN : X.N.Nodup) (hi : X.N[i]? = some x) (hj : X.N[j]? = some y) (hij : i ≠ j)
    (hx : X.env.scope.names.lookup x = some .local) (hy : X.env.scope.names.lookup y = some .local) (ha : PA X [a, b] ta)
    (hw : swappedStores [.Tuple [.Name x px, .Name y py] kt pt] (.Tuple [a, b] k2 pt2) X.env = pure (some [x, y]))
    (hs : swapsWithSole [.Tuple [.Name x px, .Name y py] kt pt] (.Tuple [a, b] k2 pt2) pos.line X.env = pure false := by rfl) :
    PS X (.Assign [.Tuple [.Name x px, .Name y py] kt pt] (.Tuple [a, b] k2 pt2) pos) (tPar i j ta) := by
  intro pins s σ H D I h
  rw [exec_Assign_arm]
  refine wpAny_bind (wpAny_standAt ?_)
  rw [hs]
  refine wpAny_bind (wpAny_pure ?_)
  rw [if_neg (by decide)]
  refine wpAny_bind (Tuple_ (thn (ha _ pins s σ H _ I h) fun us s1 ⟨vs, H1, I1, r1, q1⟩ => ?_))
  obtain ⟨v, w, e1, q1⟩ := q1
  subst e1
  obtain ⟨u1, u2, rfl, rv, rw'⟩ : ∃ u1 u2, us = [u1, u2] ∧ RelV v u1 ∧ RelV w u2 := by
    cases r1 with
    | cons p q =>
      cases q with
      | cons p' q' =>
        cases q'
        exact ⟨_, _, rfl, p, p'⟩
  refine wpAny_newObj_type ?_ (by show 2 ≤ sizeLine; decide)
  have I2 : Inv X pins σ H1 { s1 with heap := s1.heap.push { cls := .type "tuple", data := .seq [u1, u2].toArray } } := I1.kept (t' := s1.toks) fun b o e => Heap.get?_push_of_some _ e
  rw [hw]
  refine wpAny_bind (wpAny_pure ?_)
  show wpAny (model X.prog X.w) X.A (do rule "assign.swapped-stores"; let items ← unpackItems (.ref s1.heap.objs.size) 2 none; assignInOrder [fun v => bindName X.env y v, fun v => bindName X.env x v] items.reverse; pure Flow.next) _ _ _
  refine wpAny_bind (wpAny_rule (wpAny_bind (unpackItems_tuple (items := #[u1, u2]) (I.ok.hd hc) (IsTup.new s1.heap _) fun h' hx' => ?_)))
  have I3 := I2.kept (h' := h') (t' := s1.toks) fun b o e => hx' b o (Nat.ne_of_lt (Heap.lt_size e)) e
  show wpAny _ _ (assignInOrder [fun v => bindName X.env y v, fun v => bindName X.env x v] [u2, u1] >>= fun _ => pure Flow.next) _ _ _
  refine wpAny_bind (assignInOrder_cons (wpAny_bindName (store_ok I3 hN hj (.inl hy) rw' (fun s2 I4 => ?_) (.inr hy))))
  refine assignInOrder_cons (wpAny_bindName (store_ok I4 hN hi (.inl hx) rv (fun s3 I5 => assignInOrder_nil (wpAny_pure ?_)) (.inr hx)))
  rw [List.set_comm _ _ (Ne.symm hij)] at I5
  exact ⟨_, H1, I5, q1⟩
/-- name op= e -/
def tAug (i : Nat) (te : TE) (ti : TIp) : TS := fun D σ H => ∃ x, σ[i]? = some (some x) ∧ te σ H fun y H1 => ti x y H1 fun z H2 => D.nx (σ.set i (some z)) H2
theorem ps_aug {i : Nat} {x : Str} {e : Expr} {te : TE} {op : Operator} {ti : TIp} {pos' : Pos} (hN : X.N.Nodup) (hi : X.N[i]? = some x) (hx : Loc X.env.scope x) (he : PE X e te) (ho : PIp X op ti) (hf : X.fn x = true ∨ X.env.scope.names.lookup x = some .local := by first | exact .inl rfl | exact .inr rfl | assumption) :
    PS X (.AugAssign (.Name x pos') op e pos) (tAug i te ti) := by
  intro pins s σ H D I h
  obtain ⟨v, e1, h⟩ := h
  obtain ⟨m, hn, hl⟩ := I.loc
  have vis : Vis X.env.scope x := by rcases hx with k | k; exact .inl k; exact .inr (.inl k)
  obtain ⟨u, r, l⟩ := hl i x v hi e1 vis
  refine wpAny_AugAssign_Name ?_
  have go : wpAny (model X.prog X.w) X.A (eval e X.env) (fun w s₂ => wpAny (model X.prog X.w) X.A (inplaceOp op u w) (fun r s₃ => wpAny (model X.prog X.w) X.A (storeName X.env x r) (fun _ => SP X pins D .next) X.xe s₃) X.xe s₂) X.xe s := by
    refine thn (he pins s σ H _ I h) fun w s1 ⟨y, H1, I1, r1, q1⟩ => ?_
    refine thn (ho pins s1 σ H1 v y u w _ I1 r r1 q1) fun z s2 ⟨zv, H2, I2, r2, q2⟩ => ?_
    exact store_ok I2 hN hi hx r2 (fun s3 I3 => ⟨_, H2, I3, q2⟩) hf
  rcases l with ⟨hk, hm⟩ | ⟨hk, c, hc, hcell⟩
  · exact wpAny_loadName_local I.ok.kind hk hn hm go
  · rcases hk with hk | hk
    · exact wpAny_loadName_cell I.ok.kind hk hc hcell go
    · rcases hx with k | k
      · have : X.env.scope.names.lookup x = some .free := hk
        rw [k] at this; cases this
      · have : X.env.scope.names.lookup x = some .free := hk
        rw [k] at this; cases this
/-- o[i] op= e -/
def tAugS (to ti te : TE) (tget : V → V → Hp → VK → Prop) (tip : TIp) (tset : TSet) : TS := fun D σ H => to σ H fun o H1 => ti σ H1 fun i H2 => tget o i H2 fun x H3 => te σ H3 fun y H4 => tip x y H4 fun z H5 => tset o i z H5 fun H6 => D.nx σ H6
/-- o[i], by values -/
def PGet (X : Cx) (t : V → V → Hp → VK → Prop) : Prop :=
  ∀ (pins : List (Addr × Obj)) (s : Shared) (σ : St) (H : Hp) (o i : V) (ov iv : Value) (Q : VK), Inv X pins σ H s → RelV o ov → RelV i iv → t o i H Q →
    wpAny (model X.prog X.w) X.A (getItem ov iv) (EP X pins σ Q) X.xe s
theorem ps_augS {o i e : Expr} {to ti te : TE} {tget : V → V → Hp → VK → Prop} {tip : TIp} {tset : TSet} {op : Operator} {tpos : Pos} (ho : PE X o to) (hi : PE X i ti) (hg : PGet X tget) (he : PE X e te) (hp : PIp X op tip) (hs : PSet X tset)
    (ha : ∀ ov iv new, augStore i ov iv new = (do holding [new, ov, iv] (setItem ov iv new); release [new, ov, iv] []; pure .next) := by intros; rfl) : PS X (.AugAssign (.Subscript o i tpos) op e pos) (tAugS to ti te tget tip tset) := by
  intro pins s σ H D I h
  refine wpAny_AugAssign_SubscriptAny (thn (ho pins s σ H _ I h) fun ov s1 ⟨x1, H1, I1, r1, q1⟩ => ?_) ha
  refine thn (hi pins s1 σ H1 _ I1 q1) fun iv s2 ⟨x2, H2, I2, r2, q2⟩ => ?_
  refine thn (hg pins s2 σ H2 x1 x2 ov iv _ I2 r1 r2 q2) fun old s3 ⟨x3, H3, I3, r3, q3⟩ => ?_
  refine thn (he pins s3 σ H3 _ I3 q3) fun v s4 ⟨x4, H4, I4, r4, q4⟩ => ?_
  refine thn (hp pins s4 σ H4 x3 x4 old v _ I4 r3 r4 q4) fun new s5 ⟨x5, H5, I5, r5, q5⟩ => ?_
  exact thn (hs pins s5 σ H5 x1 x2 x5 ov iv new _ I5 r1 r2 r5 q5) fun _ s6 ⟨H6, I6, q6⟩ => ⟨σ, H6, I6, q6⟩
/-- ints -/
def ipI (f : Int → Int → Int) : TIp := fun x y H Q => ∃ i j, x = .int i ∧ y = .int j ∧ Q (.int (f i j)) H
theorem ip_add : PIp X .Add (ipI fun i j => i + j) := by
  intro pins s σ H x y v u Q I r1 r2 h
  obtain ⟨i, j, e1, e2, q⟩ := h
  subst e1; subst e2
  obtain ⟨t, rfl⟩ := r1
  obtain ⟨t', rfl⟩ := r2
  exact iadd_int ⟨.int _, H, I.tok _, ⟨_, rfl⟩, q⟩
theorem ip_sub : PIp X .Sub (ipI fun i j => i - j) := by
  intro pins s σ H x y v u Q I r1 r2 h
  obtain ⟨i, j, e1, e2, q⟩ := h
  subst e1; subst e2
  obtain ⟨t, rfl⟩ := r1
  obtain ⟨t', rfl⟩ := r2
  exact isub_int ⟨.int _, H, I.tok _, ⟨_, rfl⟩, q⟩
end

/-! ### while -/
section
variable {X : Cx} {pos : Pos}
/-- the invariant W with its measure -/
def tWhile (c : TT) (tb : TS) : TS := fun D σ H => ∃ W : Nat → St → Hp → Prop, (∃ m, W m σ H) ∧ ∀ m σ H, W m σ H →
  c σ H fun b H1 => if b = true then ∃ N : St → Hp → Prop, (∀ σ' H', N σ' H' → ∃ m', m' < m ∧ W m' σ' H') ∧ tb { D with nx := N, ct := N, bk := D.nx } σ H1 else D.nx σ H1
theorem ps_while {c : Expr} {body : List Stmt} {tc : TT} {tb : TS} (hp : PassesOwn (model X.prog X.w) X.A X.env X.xe) (hc : PT X c tc) (hb : PSs X body tb) : PS X (.While c body [] pos) (tWhile tc tb) := by
  intro pins s σ H D I h
  obtain ⟨W, ⟨m0, w0⟩, turn⟩ := h
  refine wpAny_While (codeAny_whileLoop (fun n s' => ∃ σ' H', Inv X pins σ' H' s' ∧ W n σ' H') ?_ m0 ⟨σ, H, I, w0⟩)
  rintro n s1 ⟨σ1, H1, I1, w1⟩
  refine wpAny_passesOwn hp (thn (hc pins s1 σ1 H1 _ I1 (turn n σ1 H1 w1)) fun b s2 ⟨H2, I2, q2⟩ => ?_)
  cases b with
  | true =>
    obtain ⟨N, hN, q2⟩ := q2
    rw [if_pos rfl]
    refine wpAny_passesOwn hp (thn (hb pins s2 σ1 H2 _ I2 q2) fun f s3 q3 => ?_)
    cases f with
    | next =>
      obtain ⟨σ3, H3, I3, n3⟩ := q3
      obtain ⟨m', hm, w3⟩ := hN σ3 H3 n3
      exact ⟨m', hm, σ3, H3, I3, w3⟩
    | cont =>
      obtain ⟨σ3, H3, I3, n3⟩ := q3
      obtain ⟨m', hm, w3⟩ := hN σ3 H3 n3
      exact ⟨m', hm, σ3, H3, I3, w3⟩
    | brk => exact q3
    | ret v => exact q3
  | false =>
    rw [if_neg Bool.false_ne_true]
    exact wpAny_execs_nil ⟨σ1, H2, I2, q2⟩
end

/-! ### what a loop or a comprehension walks -/
/-- at turn i: it yields x (the heap may grow), or it stops -/
structure It where
  go : Nat → Hp → Prop
  yld : Nat → Hp → V → Hp → Prop
  stop : Nat → Hp → Prop
/-- the iterator's own objects may turn: they are not the frame's, not pinned, younger than the entry (or a comprehension's own) -/
def FpOk (X : Cx) (pins : List (Addr × Obj)) (H : Hp) (b : Addr) : Prop :=
  H b = none ∧ b ≠ X.env.locals ∧ b ∉ X.fs ∧ (b ∈ X.ex ∨ X.s₀.heap.objs.size ≤ b) ∧ (∀ x c, X.env.cells.lookup x = some c → c ≠ b) ∧ ∀ p ∈ X.pn ++ pins, p.1 ≠ b
theorem Inv.fpOk {X : Cx} {pins : List (Addr × Obj)} {σ : St} {H H' : Hp} {s : Shared} {b : Addr} (I : Inv X pins σ H s) (hb : s.heap.objs.size ≤ b) (hn : H' b = none) : FpOk X pins H' b := by
  refine ⟨hn, Nat.ne_of_gt (Nat.lt_of_lt_of_le I.lt hb), I.nofs hb, .inr (Nat.le_trans I.sz hb), fun x c e z => ?_, fun p hp z => ?_⟩
  · obtain ⟨v, q⟩ := I.cell x c e
    exact absurd (Nat.lt_of_lt_of_le q.lt (by rw [z]; exact hb)) (Nat.lt_irrefl _)
  · exact absurd (Nat.lt_of_lt_of_le (Heap.lt_size (I.pin p hp).1) (by rw [z]; exact hb)) (Nat.lt_irrefl _)
structure Turn (P : Program) (w : World) (K : PySem.W.Frag) (tg : Expr) (J : It) (fp : List Addr) (it : Addr) (tn : Nat → Heap → Prop) : Prop where
  mem : it ∈ fp
  obj : ∀ i h, tn i h → ∀ b ∈ fp, ∃ o, h.get? b = some o ∧ ∀ v, o.data ≠ .cell v
  keep : ∀ i h h', tn i h → (∀ b ∈ fp, ∀ o, h.get? b = some o → h'.get? b = some o) → tn i h'
  item : ∀ (X : Cx), X.prog = P → X.w = w → X.K = K → X.calm = true → ∀ (i : Nat) (pins : List (Addr × Obj)) (s : Shared) (σ : St) (H : Hp) (E : Value → Shared → Prop), Inv X pins σ H s → (∀ b ∈ fp, FpOk X pins H b) → tn i s.heap → J.go i H →
    wpAny (model P w) X.A (pyNext (.ref it)) (fun r s1 => ∃ u, r = some u ∧
      wpAny (model P w) X.A (letOwnedTupleGo tg (.ref it) u) (fun _ s2 => ∃ x H', Inv X pins σ H' s2 ∧ RelV x u ∧ J.yld i H x H' ∧ tn (i + 1) s2.heap ∧ ∀ b ∈ fp, H' b = none) E s1) E s
  done : ∀ (X : Cx), X.prog = P → X.w = w → X.K = K → X.calm = true → ∀ (i : Nat) (pins : List (Addr × Obj)) (s : Shared) (σ : St) (H : Hp) (E : Value → Shared → Prop), Inv X pins σ H s → (∀ b ∈ fp, FpOk X pins H b) → tn i s.heap → J.stop i H →
    wpAny (model P w) X.A (pyNext (.ref it)) (fun r s1 => r = none ∧ Inv X pins σ H s1) E s
  self : ∀ (A : Around) (i : Nat) (s : Shared) (Q : Value → Shared → Prop) (E : Value → Shared → Prop), tn i s.heap → Q (.ref it) s → wpAny (model P w) A (pyIter (.ref it)) Q E s
abbrev TI := St → Hp → (It → Hp → Prop) → Prop
/-- an iterator has come -/
def PIE (X : Cx) (pins : List (Addr × Obj)) (σ : St) (tg : Expr) (R : It → Hp → Prop) (itv : Value) (s2 : Shared) : Prop :=
  ∃ (it : Addr) (fp : List Addr) (tn : Nat → Heap → Prop) (J : It) (H' : Hp), itv = .ref it ∧ Inv X pins σ H' s2 ∧ Turn X.prog X.w X.K tg J fp it tn ∧ tn 0 s2.heap ∧ (∀ b ∈ fp, FpOk X pins H' b) ∧ R J H'
def PI (X : Cx) (tg iter : Expr) (wi : TI) : Prop :=
  ∀ (pins : List (Addr × Obj)) (s : Shared) (σ : St) (H : Hp) (R : It → Hp → Prop), Inv X pins σ H s → wi σ H R →
    wpAny (model X.prog X.w) X.A (eval iter X.env) (fun v s1 => wpAny (model X.prog X.w) X.A (pyIter v) (PIE X pins σ tg R) X.xe s1) X.xe s

/-- the step ahead of the store is nothing for an iterator that keeps no tuple -/
theorem go_of {M : Model} {A : Around} {E : Value → Shared → Prop} {s : Shared} {tg : Expr} {it : Addr} {u : Value} {o : Obj} {n : String} {vs : Array Value} {Q : Unit → Shared → Prop} (ho : s.heap.get? it = some o) (hc : o.cls = .type n) (hd : o.data = .fields vs)
    (hn : ["enumerate", "zip", "dict_itemiterator", "dict_reverseitemiterator", "odict_iterator", "itertools.zip_longest", "itertools.pairwise"].contains n = false) (hQ : Q () s) : wpAny M A (letOwnedTupleGo tg (.ref it) u) Q E s := by
  unfold letOwnedTupleGo
  cases tg <;> first
    | exact wpAny_pure hQ
    | (cases u <;> first
        | exact wpAny_pure hQ
        | (refine wpAny_bind (wpAny_load ho ?_)
           rw [hc, hd]
           show wpAny M A (if (["enumerate", "zip", "dict_itemiterator", "dict_reverseitemiterator", "odict_iterator", "itertools.zip_longest", "itertools.pairwise"].contains n && vs[0]? == some (rawInt _)) = true then _ else _) Q E s
           rw [if_neg (by intro h; rw [hn, Bool.false_and] at h; cases h)]
           exact wpAny_pure hQ))

/-- the list at a, as it stands at each turn (a loop may append to it) -/
def Itl (K : PySem.W.Frag) (a : Addr) : It :=
  ⟨fun i H => ∃ xs x, SqL K H a xs ∧ xs[i]? = some x, fun i H x H' => H' = H ∧ ∀ xs, SqL K H a xs → xs[i]? = some x, fun i H => ∃ xs, SqL K H a xs ∧ xs.length ≤ i⟩
def Itt (K : PySem.W.Frag) (a : Addr) : It :=
  ⟨fun i H => ∃ xs x, SqT K H a xs ∧ xs[i]? = some x, fun i H x H' => H' = H ∧ ∀ xs, SqT K H a xs → xs[i]? = some x, fun i H => ∃ xs, SqT K H a xs ∧ xs.length ≤ i⟩
/-- lo, lo + 1, .. (n of them) -/
def Itr (lo : Int) (n : Nat) : It := ⟨fun i _ => i < n, fun i H x H' => H' = H ∧ x = .int (lo + i), fun i _ => n ≤ i⟩
theorem turn_list {P : Program} {w : World} {K : PySem.W.Frag} {tg : Expr} (a it : Addr) : Turn P w K tg (Itl K a) [it] it (fun i h => h.IsListIter it a i) where
  mem := by simp
  obj := fun i h st b hb => by
    have e : b = it := by simpa using hb
    subst e
    obtain ⟨o, e, c, d⟩ := st
    exact ⟨o, e, fun v z => by rw [d] at z; cases z⟩
  keep := fun i h h' st k => st.at fun o e => k it (by simp) o e
  item := by
    intro X hP hw hK hc i pins s σ H E I hf st hg
    subst hP hw hK
    obtain ⟨xs, x, hq, hx⟩ := hg
    obtain ⟨its, rv, p, hz⟩ := I.list hq
    obtain ⟨u, hu, ru⟩ := rv.get hx
    obtain ⟨f0, f1, f2, f3, f4, f5⟩ := hf it (by simp)
    refine wpAny_pyNext_list_item st p.isList (x := u) (by simpa using hu) fun h' st' sb => ?_
    have I1 : Inv X pins σ H { s with heap := h' } := I.turned (t' := s.toks) (fun b o hb e => (sb.2 b hb).trans e) f0 f1 f3 f4 f5
    obtain ⟨o, e, c, d⟩ := id st'
    exact ⟨u, rfl, go_of (s := { s with heap := h' }) e c d (by decide) ⟨x, H, I1, ru, ⟨rfl, fun ys hy => by rw [I.list_inj hy hq]; exact hx⟩, st', fun b hb => (hf b hb).1⟩⟩
  done := by
    intro X hP hw hK hc i pins s σ H E I hf st hg
    subst hP hw hK
    obtain ⟨xs, hq, hx⟩ := hg
    obtain ⟨its, rv, p, hz⟩ := I.list hq
    obtain ⟨f0, f1, f2, f3, f4, f5⟩ := hf it (by simp)
    have hl := rv.length
    exact wpAny_pyNext_list_end (I.ok.hd hc) st p.isList (by simp; omega) fun h' eb => ⟨rfl, I.turned (t' := s.toks) (fun b o hb e => eb b o hb e) f0 f1 f3 f4 f5⟩
  self := fun _ _ _ _ _ st h => wpAny_pyIter_listiter st h
theorem turn_tuple {P : Program} {w : World} {K : PySem.W.Frag} {tg : Expr} (a it : Addr) : Turn P w K tg (Itt K a) [it] it (fun i h => h.IsTupleIter it a i) where
  mem := by simp
  obj := fun i h st b hb => by
    have e : b = it := by simpa using hb
    subst e
    obtain ⟨o, e, c, d⟩ := st
    exact ⟨o, e, fun v z => by rw [d] at z; cases z⟩
  keep := fun i h h' st k => st.at fun o e => k it (by simp) o e
  item := by
    intro X hP hw hK hc i pins s σ H E I hf st hg
    subst hP hw hK
    obtain ⟨xs, x, hq, hx⟩ := hg
    obtain ⟨its, rv, p, hz⟩ := I.tuple hq
    obtain ⟨u, hu, ru⟩ := rv.get hx
    obtain ⟨f0, f1, f2, f3, f4, f5⟩ := hf it (by simp)
    refine wpAny_pyNext_tuple_item st (show s.heap.IsTuple a its.toArray from p) (x := u) (by simpa using hu) fun h' st' sb => ?_
    have I1 : Inv X pins σ H { s with heap := h' } := I.turned (t' := s.toks) (fun b o hb e => (sb.2 b hb).trans e) f0 f1 f3 f4 f5
    obtain ⟨o, e, c, d⟩ := id st'
    exact ⟨u, rfl, go_of (s := { s with heap := h' }) e c d (by decide) ⟨x, H, I1, ru, ⟨rfl, fun ys hy => by rw [I.tuple_inj hy hq]; exact hx⟩, st', fun b hb => (hf b hb).1⟩⟩
  done := by
    intro X hP hw hK hc i pins s σ H E I hf st hg
    subst hP hw hK
    obtain ⟨xs, hq, hx⟩ := hg
    obtain ⟨its, rv, p, hz⟩ := I.tuple hq
    obtain ⟨f0, f1, f2, f3, f4, f5⟩ := hf it (by simp)
    have hl := rv.length
    exact wpAny_pyNext_tuple_end (I.ok.hd hc) st (show s.heap.IsTuple a its.toArray from p) (by simp; omega) fun h' eb => ⟨rfl, I.turned (t' := s.toks) (fun b o hb e => eb b o hb e) f0 f1 f3 f4 f5⟩
  self := fun _ _ _ _ _ st h => wpAny_pyIter_tupleiter st h
theorem turn_range {P : Program} {w : World} {K : PySem.W.Frag} {tg : Expr} (it : Addr) (lo : Int) (n : Nat) : Turn P w K tg (Itr lo n) [it] it (fun i h => IsRangeIter h it (lo + (i : Nat) * 1) ((n : Int) - (i : Nat)) 1) where
  mem := by simp
  obj := fun i h st b hb => by
    have e : b = it := by simpa using hb
    subst e
    exact ⟨_, st, fun v z => by
      have z' : Data.fields _ = Data.cell v := z
      cases z'⟩
  keep := fun i h h' st k => k it (by simp) _ st
  item := by
    intro X hP hw hK hc i pins s σ H E I hf st hg
    subst hP hw hK
    obtain ⟨f0, f1, f2, f3, f4, f5⟩ := hf it (by simp)
    have W := Walks.range (prog := X.prog) (w := X.w) (I.ok.hd hc) it lo 1 n
    refine W.item i s _ _ hg st fun v h' tk hv st' kk => ?_
    obtain ⟨t, rfl⟩ := hv
    have I1 : Inv X pins σ H { s with heap := h', toks := tk } := I.turned (fun b o hb e => kk b o (by simpa using hb) e) f0 f1 f3 f4 f5
    refine ⟨_, rfl, go_of (s := { s with heap := h', toks := tk }) (n := "range_iterator") st' rfl rfl (by decide) ⟨.int (lo + i), H, I1, ⟨t, ?_⟩, ⟨rfl, rfl⟩, st', fun b hb => (hf b hb).1⟩⟩
    rw [Int.mul_one]
  done := by
    intro X hP hw hK hc i pins s σ H E I hf st hg
    subst hP hw hK
    obtain ⟨f0, f1, f2, f3, f4, f5⟩ := hf it (by simp)
    exact wpAny_pyNext_range_end (I.ok.hd hc) st (by have : n ≤ i := hg; omega) fun h' eb => ⟨rfl, I.turned (t' := s.toks) (fun b o hb e => eb b o hb e) f0 f1 f3 f4 f5⟩
  self := fun _ _ _ _ _ st h => wpAny_pyIter_rangeiter st h
end L2

namespace L2
open PySem PySem.Spec PyProof.Rows
section
variable {X : Cx} {tg : Expr}
def iList (K : PySem.W.Frag) (tl : TE) : TI := fun σ H R => tl σ H fun x H1 => ∃ a, x = .ref a ∧ (∃ xs, SqL K H1 a xs) ∧ R (Itl K a) H1
def iTup (K : PySem.W.Frag) (tl : TE) : TI := fun σ H R => tl σ H fun x H1 => ∃ a, x = .ref a ∧ (∃ xs, SqT K H1 a xs) ∧ R (Itt K a) H1
theorem pi_list {l : Expr} {tl : TE} (hl : PE X l tl) : PI X tg l (iList X.K tl) := by
  intro pins s σ H R I h
  refine thn (hl pins s σ H _ I h) fun v s1 ⟨x, H1, I1, r1, q1⟩ => ?_
  obtain ⟨a, e, ⟨xs, hq⟩, q⟩ := q1
  subst e
  cases r1
  obtain ⟨its, rv, p, hz⟩ := I1.list hq
  refine wpAny_pyIter_list p.isList ?_
  refine ⟨s1.heap.objs.size, [s1.heap.objs.size], _, _, H1, rfl, I1.kept (t' := s1.toks) fun b o e => Heap.get?_push_of_some _ e, turn_list a _, ⟨_, Heap.get?_push_size _ rfl, rfl, rfl⟩, fun b hb => ?_, q⟩
  have e : b = s1.heap.objs.size := by simpa using hb
  subst e
  exact I1.fpOk (Nat.le_refl _) (I1.hok.fresh (Nat.le_refl _))
theorem pi_tup {l : Expr} {tl : TE} (hl : PE X l tl) : PI X tg l (iTup X.K tl) := by
  intro pins s σ H R I h
  refine thn (hl pins s σ H _ I h) fun v s1 ⟨x, H1, I1, r1, q1⟩ => ?_
  obtain ⟨a, e, ⟨xs, hq⟩, q⟩ := q1
  subst e
  cases r1
  obtain ⟨its, rv, p, hz⟩ := I1.tuple hq
  refine wpAny_pyIter_tuple (show s1.heap.IsTuple a its.toArray from p) ?_
  refine ⟨s1.heap.objs.size, [s1.heap.objs.size], _, _, H1, rfl, I1.kept (t' := s1.toks) fun b o e => Heap.get?_push_of_some _ e, turn_tuple a _, ⟨_, Heap.get?_push_size _ rfl, rfl, rfl⟩, fun b hb => ?_, q⟩
  have e : b = s1.heap.objs.size := by simpa using hb
  subst e
  exact I1.fpOk (Nat.le_refl _) (I1.hok.fresh (Nat.le_refl _))
/-- a range object just made, walked -/
theorem range_it {pins : List (Addr × Obj)} {σ : St} {H : Hp} {s : Shared} {R : It → Hp → Prop} {E : Value → Shared → Prop} {lo hi : Int} {t u v : Tok} {tk : Nat} (I : Inv X pins σ H s) (h1 : -(2 ^ 62) ≤ lo) (h2 : lo < 2 ^ 62) (h3 : -(2 ^ 62) ≤ hi) (h4 : hi < 2 ^ 62)
    (q : R (Itr lo (hi - lo).toNat) H) : wpAny (model X.prog X.w) X.A (pyIter (.ref s.heap.objs.size)) (PIE X pins σ tg R) E { s with heap := s.heap.push { cls := .type "range", data := .fields #[.int lo t, .int hi u, .int 1 v] }, toks := tk } := by
  refine wpAny_pyIter_range (IsRange.new ..) (small_one h1 h2 h3 h4) ?_
  have I1 : Inv X pins σ H { s with heap := s.heap.push { cls := .type "range", data := .fields #[.int lo t, .int hi u, .int 1 v] }, toks := tk } := I.kept fun b o e => Heap.get?_push_of_some _ e
  refine ⟨(s.heap.push { cls := .type "range", data := .fields #[.int lo t, .int hi u, .int 1 v] }).objs.size, [(s.heap.push { cls := .type "range", data := .fields #[.int lo t, .int hi u, .int 1 v] }).objs.size], _, _, H, rfl,
    I1.kept (t' := tk) fun b o e => Heap.get?_push_of_some _ e, turn_range _ lo (hi - lo).toNat, ?_, fun b hb => ?_, q⟩
  · have e1 : lo + ((0 : Nat) : Int) * 1 = lo := by simp
    have e2 : (((hi - lo).toNat : Nat) : Int) - ((0 : Nat) : Int) = Builtin.Range.rangeSize lo hi 1 := by rw [rangeSize_one]; split <;> omega
    show IsRangeIter _ _ (lo + ((0 : Nat) : Int) * 1) ((((hi - lo).toNat : Nat) : Int) - ((0 : Nat) : Int)) 1
    rw [e1, e2]
    exact Heap.get?_push_size _ rfl
  · have e : b = (s.heap.push { cls := .type "range", data := .fields #[.int lo t, .int hi u, .int 1 v] }).objs.size := by simpa using hb
    subst e
    exact I1.fpOk (Nat.le_refl _) (I1.hok.fresh (Nat.le_refl _))
def iRng1 (ta : TA) : TI := fun σ H R => ta σ H fun vs H1 => ∃ j : Int, vs = [.int j] ∧ -(2 ^ 62) ≤ j ∧ j < 2 ^ 62 ∧ R (Itr 0 j.toNat) H1
def iRng2 (ta : TA) : TI := fun σ H R => ta σ H fun vs H1 => ∃ i j : Int, vs = [.int i, .int j] ∧ (-(2 ^ 62) ≤ i ∧ i < 2 ^ 62 ∧ -(2 ^ 62) ≤ j ∧ j < 2 ^ 62) ∧ R (Itr i (j - i).toNat) H1
theorem pi_range1 {a : Expr} {ta : TA} {p pos : Pos} (hg : Gl X "range") (hm : X.mg "range" = none) (ha : PA X [a] ta) (hs : starEach [a] X.env = [(false, eval a X.env)] := by rfl) : PI X tg (.Call (.Name "range" p) [a] [] pos) (iRng1 ta) := by
  intro pins s σ H R I h
  refine Call_ (ld_blt I hg hm boot_range (PyProof.Rows.callWith_type1 (thn (ha pos pins s σ H _ I h) fun us s1 ⟨vs, H1, I1, r1, q1⟩ => ?_) hs rfl))
  obtain ⟨j, e, q1, q2, q⟩ := q1
  subst e
  cases r1 with
  | cons r rr =>
    cases rr
    obtain ⟨t, rfl⟩ := r
    exact call_range_1 (range_it I1 (by omega) (by omega) q1 q2 (by simpa using q))
theorem pi_range2 {a b : Expr} {ta : TA} {p pos : Pos} (hg : Gl X "range") (hm : X.mg "range" = none) (ha : PA X [a, b] ta) (hs : starEach [a, b] X.env = [(false, eval a X.env), (false, eval b X.env)] := by rfl) (hs2 : starEach [b] X.env = [(false, eval b X.env)] := by rfl) :
    PI X tg (.Call (.Name "range" p) [a, b] [] pos) (iRng2 ta) := by
  intro pins s σ H R I h
  refine Call_ (ld_blt I hg hm boot_range (PyProof.Rows.callWith_type1 (thn (ha pos pins s σ H _ I h) fun us s1 ⟨vs, H1, I1, r1, q1⟩ => ?_) (by rw [hs, hs2]) (by rw [hs2]; rfl)))
  obtain ⟨i, j, e, ⟨q1, q2, q3, q4⟩, q⟩ := q1
  subst e
  cases r1 with
  | cons r rr =>
    cases rr with
    | cons r' rr =>
      cases rr
      obtain ⟨t, rfl⟩ := r
      obtain ⟨t', rfl⟩ := r'
      exact call_range_2 (range_it I1 q1 q2 q3 q4 q)

/-! ### for -/
/-- W: the invariant by the turn and a measure; N: what the body is to reach -/
def tFor (wi : TI) (g : TG) (tb : TS) : TS := fun D σ H => wi σ H fun J H1 => ∃ W : Nat → Nat → St → Hp → Prop, (∃ m, W 0 m σ H1) ∧ ∀ i m σ H, W i m σ H →
  (J.stop i H ∧ D.nx σ H) ∨ (J.go i H ∧ ∃ N : St → Hp → Prop, (∀ σ' H', N σ' H' → ∃ m', m' < m ∧ W (i + 1) m' σ' H') ∧ ∀ x H', J.yld i H x H' → g x σ H' fun σ2 H2 => tb { D with nx := N, ct := N, bk := D.nx } σ2 H2)
/-- the records at fp as they stand -/
def pinsAt (fp : List Addr) (h : Heap) : List (Addr × Obj) := fp.filterMap fun b => (h.get? b).map fun o => (b, o)
theorem mem_pinsAt {fp : List Addr} {h : Heap} {b : Addr} {o : Obj} (hb : b ∈ fp) (e : h.get? b = some o) : (b, o) ∈ pinsAt fp h := List.mem_filterMap.mpr ⟨b, hb, by rw [e]; rfl⟩
theorem of_pinsAt {fp : List Addr} {h : Heap} {p : Addr × Obj} (hp : p ∈ pinsAt fp h) : p.1 ∈ fp ∧ h.get? p.1 = some p.2 := by
  obtain ⟨b, hb, e⟩ := List.mem_filterMap.mp hp
  cases q : h.get? b with
  | none => rw [q] at e; cases e
  | some o =>
    rw [q] at e
    have e' : (b, o) = p := Option.some.inj e
    subst e'
    exact ⟨hb, q⟩
theorem Inv.pinned {pins : List (Addr × Obj)} {σ : St} {H : Hp} {s : Shared} {fp : List Addr} (I : Inv X pins σ H s) (hf : ∀ b ∈ fp, FpOk X pins H b) (ho : ∀ b ∈ fp, ∃ o, s.heap.get? b = some o ∧ ∀ v, o.data ≠ .cell v) : Inv X (pins ++ pinsAt fp s.heap) σ H s :=
  I.pins_of fun p hp => (List.mem_append.mp hp).elim (fun z => I.pin p (List.mem_append_right _ z)) fun z => by
    obtain ⟨hb, e⟩ := of_pinsAt z
    obtain ⟨f0, f1, f2, _⟩ := hf p.1 hb
    obtain ⟨o, e', d⟩ := ho p.1 hb
    rw [e] at e'; cases e'
    exact ⟨e, f0, f1, f2, d⟩
theorem Inv.unpinned {pins pl : List (Addr × Obj)} {σ : St} {H : Hp} {s : Shared} (I : Inv X (pins ++ pl) σ H s) : Inv X pins σ H s := I.pins_of fun p hp => I.pin p (List.mem_append_right _ (List.mem_append_left _ hp))
theorem ps_for {iter : Expr} {body : List Stmt} {wi : TI} {g : TG} {tb : TS} {pos : Pos} (hp : PassesOwn (model X.prog X.w) X.A X.env X.xe) (hc : X.calm = true) (hi : PI X tg iter wi) (hg : PG X tg g) (hb : PSs X body tb)
    (hs : ∀ x, foldedSetIterable iter X.env x = pure x := by intro _; rfl) : PS X (.For tg iter body [] pos) (tFor wi g tb) := by
  intro pins s σ H D I h
  refine wpAny_For (thn (hi pins s σ H _ I h) fun v s1 h1 => thn h1 fun itv s2 h2 => ?_) hs
  obtain ⟨it, fp, tn, J, H2, e, I2, T, st2, f2, W, ⟨m0, w0⟩, turn⟩ := h2
  subst e
  -- what stays true of the iterator's objects through the loop
  have stat : ∀ {H' : Hp}, (∀ b ∈ fp, H' b = none) → ∀ b ∈ fp, FpOk X pins H' b := fun hn b hb => ⟨hn b hb, (f2 b hb).2⟩
  refine codeAny_forLoop_any (fun n s' => ∃ i σ' H', Inv X pins σ' H' s' ∧ tn i s'.heap ∧ (∀ b ∈ fp, H' b = none) ∧ W i n σ' H') ?_ m0 ⟨0, σ, H2, I2, st2, fun b hb => (f2 b hb).1, w0⟩
  rintro n s3 ⟨i, σ3, H3, I3, st3, fr3, w3⟩
  rcases turn i n σ3 H3 w3 with ⟨stop, qn⟩ | ⟨go, N, hN, step⟩
  · refine wpAny_passesOwn hp (thn (T.done X rfl rfl rfl hc i pins s3 σ3 H3 X.xe I3 (stat fr3) st3 stop) fun r s4 ⟨hr, I4⟩ => ?_)
    subst hr
    exact wpAny_execs_nil ⟨σ3, H3, I4, qn⟩
  · refine wpAny_passesOwn hp (thn (T.item X rfl rfl rfl hc i pins s3 σ3 H3 X.xe I3 (stat fr3) st3 go) fun r s4 ⟨u, hr, h4⟩ => ?_)
    subst hr
    refine wpAny_passesOwn hp (thn h4 fun _ s5 ⟨x, H5, I5, r5, y5, st5, fr5⟩ => ?_)
    have I5' := I5.pinned (stat fr5) (T.obj _ _ st5)
    refine wpAny_passesOwn hp (thn (hg _ s5 σ3 H5 x u _ I5' r5 (step x H5 y5)) fun _ s6 ⟨σ6, H6, I6, q6⟩ => ?_)
    refine wpAny_passesOwn hp (thn (hb _ s6 σ6 H6 _ I6 q6) fun f s7 q7 => ?_)
    have again : ∀ {σ7 : St} {H7 : Hp}, Inv X (pins ++ pinsAt fp s5.heap) σ7 H7 s7 → N σ7 H7 → ∃ m, m < n ∧ ∃ i σ' H', Inv X pins σ' H' s7 ∧ tn i s7.heap ∧ (∀ b ∈ fp, H' b = none) ∧ W i m σ' H' := fun {σ7 H7} I7 n7 => by
      obtain ⟨m', hm, w7⟩ := hN σ7 H7 n7
      refine ⟨m', hm, i + 1, σ7, H7, I7.unpinned, T.keep _ _ _ st5 fun b hb o e => (I7.pin (b, o) (List.mem_append_right _ (List.mem_append_right _ (mem_pinsAt hb e)))).1, fun b hb => ?_, w7⟩
      obtain ⟨o, e, d⟩ := T.obj _ _ st5 b hb
      exact (I7.pin (b, o) (List.mem_append_right _ (List.mem_append_right _ (mem_pinsAt hb e)))).2.1
    cases f with
    | next => obtain ⟨σ7, H7, I7, n7⟩ := q7; exact again I7 n7
    | cont => obtain ⟨σ7, H7, I7, n7⟩ := q7; exact again I7 n7
    | brk => obtain ⟨σ7, H7, I7, q7⟩ := q7; exact ⟨σ7, H7, I7.unpinned, q7⟩
    | ret v => obtain ⟨x7, σ7, H7, I7, r7, q7⟩ := q7; exact ⟨x7, σ7, H7, I7.unpinned, r7, q7⟩
end

/-! ### the forms one uses -/
/-- over a list that the body leaves as it is -/
theorem for_list {K : PySem.W.Frag} {a : Addr} {xs : List V} {g : TG} {tb : TS} {D : Ends} {σ : St} {H : Hp} (Pv : Nat → St → Hp → Prop) (h0 : Pv 0 σ H) (hl : ∀ i σ H, i ≤ xs.length → Pv i σ H → SqL K H a xs)
    (hs : ∀ i x σ H, xs[i]? = some x → Pv i σ H → g x σ H fun σ2 H2 => tb { D with nx := Pv (i + 1), ct := Pv (i + 1), bk := D.nx } σ2 H2) (hd : ∀ σ H, Pv xs.length σ H → D.nx σ H) :
    ∃ W : Nat → Nat → St → Hp → Prop, (∃ m, W 0 m σ H) ∧ ∀ i m σ H, W i m σ H →
      ((Itl K a).stop i H ∧ D.nx σ H) ∨ ((Itl K a).go i H ∧ ∃ N : St → Hp → Prop, (∀ σ' H', N σ' H' → ∃ m', m' < m ∧ W (i + 1) m' σ' H') ∧ ∀ x H', (Itl K a).yld i H x H' → g x σ H' fun σ2 H2 => tb { D with nx := N, ct := N, bk := D.nx } σ2 H2) := by
  refine ⟨fun i m σ H => m = xs.length - i ∧ i ≤ xs.length ∧ Pv i σ H, ⟨xs.length, by simp, Nat.zero_le _, h0⟩, ?_⟩
  rintro i m σ H ⟨rfl, hi, p⟩
  have q := hl i σ H hi p
  by_cases hlt : i < xs.length
  · refine .inr ⟨⟨xs, xs[i], q, by simp [hlt]⟩, Pv (i + 1), fun σ' H' p' => ⟨xs.length - (i + 1), by omega, rfl, hlt, p'⟩, fun x H' y => ?_⟩
    obtain ⟨e, y⟩ := y
    subst e
    exact hs i x σ _ (y xs q) p
  · have e : i = xs.length := by omega
    subst e
    exact .inl ⟨⟨xs, q, Nat.le_refl _⟩, hd σ H p⟩
theorem for_tup {K : PySem.W.Frag} {a : Addr} {xs : List V} {g : TG} {tb : TS} {D : Ends} {σ : St} {H : Hp} (Pv : Nat → St → Hp → Prop) (h0 : Pv 0 σ H) (hl : ∀ i σ H, i ≤ xs.length → Pv i σ H → SqT K H a xs)
    (hs : ∀ i x σ H, xs[i]? = some x → Pv i σ H → g x σ H fun σ2 H2 => tb { D with nx := Pv (i + 1), ct := Pv (i + 1), bk := D.nx } σ2 H2) (hd : ∀ σ H, Pv xs.length σ H → D.nx σ H) :
    ∃ W : Nat → Nat → St → Hp → Prop, (∃ m, W 0 m σ H) ∧ ∀ i m σ H, W i m σ H →
      ((Itt K a).stop i H ∧ D.nx σ H) ∨ ((Itt K a).go i H ∧ ∃ N : St → Hp → Prop, (∀ σ' H', N σ' H' → ∃ m', m' < m ∧ W (i + 1) m' σ' H') ∧ ∀ x H', (Itt K a).yld i H x H' → g x σ H' fun σ2 H2 => tb { D with nx := N, ct := N, bk := D.nx } σ2 H2) := by
  refine ⟨fun i m σ H => m = xs.length - i ∧ i ≤ xs.length ∧ Pv i σ H, ⟨xs.length, by simp, Nat.zero_le _, h0⟩, ?_⟩
  rintro i m σ H ⟨rfl, hi, p⟩
  have q := hl i σ H hi p
  by_cases hlt : i < xs.length
  · refine .inr ⟨⟨xs, xs[i], q, by simp [hlt]⟩, Pv (i + 1), fun σ' H' p' => ⟨xs.length - (i + 1), by omega, rfl, hlt, p'⟩, fun x H' y => ?_⟩
    obtain ⟨e, y⟩ := y
    subst e
    exact hs i x σ _ (y xs q) p
  · have e : i = xs.length := by omega
    subst e
    exact .inl ⟨⟨xs, q, Nat.le_refl _⟩, hd σ H p⟩
theorem for_range {lo : Int} {n : Nat} {g : TG} {tb : TS} {D : Ends} {σ : St} {H : Hp} (Pv : Nat → St → Hp → Prop) (h0 : Pv 0 σ H)
    (hs : ∀ i σ H, i < n → Pv i σ H → g (.int (lo + i)) σ H fun σ2 H2 => tb { D with nx := Pv (i + 1), ct := Pv (i + 1), bk := D.nx } σ2 H2) (hd : ∀ σ H, Pv n σ H → D.nx σ H) :
    ∃ W : Nat → Nat → St → Hp → Prop, (∃ m, W 0 m σ H) ∧ ∀ i m σ H, W i m σ H →
      ((Itr lo n).stop i H ∧ D.nx σ H) ∨ ((Itr lo n).go i H ∧ ∃ N : St → Hp → Prop, (∀ σ' H', N σ' H' → ∃ m', m' < m ∧ W (i + 1) m' σ' H') ∧ ∀ x H', (Itr lo n).yld i H x H' → g x σ H' fun σ2 H2 => tb { D with nx := N, ct := N, bk := D.nx } σ2 H2) := by
  refine ⟨fun i m σ H => m = n - i ∧ i ≤ n ∧ Pv i σ H, ⟨n, by simp, Nat.zero_le _, h0⟩, ?_⟩
  rintro i m σ H ⟨rfl, hi, p⟩
  by_cases hlt : i < n
  · refine .inr ⟨hlt, Pv (i + 1), fun σ' H' p' => ⟨n - (i + 1), by omega, rfl, hlt, p'⟩, fun x H' y => ?_⟩
    obtain ⟨e, y⟩ := y
    subst e y
    exact hs i σ _ hlt p
  · have e : i = n := by omega
    subst e
    exact .inl ⟨Nat.le_refl _, hd σ H p⟩
/-- while, by a word and a measure of the state -/
theorem while_by {c : TT} {tb : TS} {D : Ends} {σ : St} {H : Hp} (Pv : St → Hp → Prop) (μ : St → Hp → Nat) (h0 : Pv σ H)
    (hs : ∀ σ H, Pv σ H → c σ H fun b H1 => if b = true then tb { D with nx := fun σ' H' => Pv σ' H' ∧ μ σ' H' < μ σ H, ct := fun σ' H' => Pv σ' H' ∧ μ σ' H' < μ σ H, bk := D.nx } σ H1 else D.nx σ H1)
    (mono : ∀ σ H Q Q', (∀ b H1, Q b H1 → Q' b H1) → c σ H Q → c σ H Q') : tWhile c tb D σ H := by
  refine ⟨fun m σ H => m = μ σ H ∧ Pv σ H, ⟨_, rfl, h0⟩, ?_⟩
  rintro m σ H ⟨rfl, p⟩
  refine mono σ H _ _ (fun b H1 q => ?_) (hs σ H p)
  cases b with
  | true => exact ⟨_, fun σ' H' ⟨p', l⟩ => ⟨_, l, rfl, p'⟩, q⟩
  | false => exact q
end L2

namespace L2
open PySem PySem.Spec PyProof.Rows

abbrev R2 := V → V → Hp → VK → Prop
/-- a two-place operation on values: f is binaryOp op, inplaceOp op or compareOp op -/
def OpR (X : Cx) (f : Value → Value → Sem Value) (r : R2) : Prop :=
  ∀ (pins : List (Addr × Obj)) (s : Shared) (σ : St) (H : Hp) (x y : V) (v u : Value) (Q : VK), Inv X pins σ H s → RelV x v → RelV y u → r x y H Q →
    wpAny (model X.prog X.w) X.A (f v u) (EP X pins σ Q) X.xe s
/-- a one-place operation -/
def UnR (X : Cx) (f : Value → Sem Value) (r : V → Hp → VK → Prop) : Prop :=
  ∀ (pins : List (Addr × Obj)) (s : Shared) (σ : St) (H : Hp) (x : V) (v : Value) (Q : VK), Inv X pins σ H s → RelV x v → r x H Q →
    wpAny (model X.prog X.w) X.A (f v) (EP X pins σ Q) X.xe s
/-- a call of a value that is known (a builtin, a type) with values -/
def CallR (X : Cx) (f : Value) (r : List V → Hp → VK → Prop) : Prop :=
  ∀ (pins : List (Addr × Obj)) (s : Shared) (σ : St) (H : Hp) (xs : List V) (us : List Value) (Q : VK), Inv X pins σ H s → Vals xs us → r xs H Q →
    wpAny (model X.prog X.w) X.A (call f us) (EP X pins σ Q) X.xe s
/-- a value's truth -/
def TruR (X : Cx) (r : V → Hp → (Bool → Hp → Prop) → Prop) : Prop :=
  ∀ (pins : List (Addr × Obj)) (s : Shared) (σ : St) (H : Hp) (x : V) (v : Value) (Q : Bool → Hp → Prop), Inv X pins σ H s → RelV x v → r x H Q →
    wpAny (model X.prog X.w) X.A (truthy v) (TP X pins σ Q) X.xe s

def tOp (r : R2) (ta tb : TE) : TE := fun σ H Q => ta σ H fun x H1 => tb σ H1 fun y H2 => r x y H2 Q
def tUn (r : V → Hp → VK → Prop) (ta : TE) : TE := fun σ H Q => ta σ H fun x H1 => r x H1 Q
/-- ints in, under C, and a value out -/
def rI (C : Int → Int → Prop) (g : Int → Int → V) : R2 := fun x y H Q => ∃ i j, x = .int i ∧ y = .int j ∧ C i j ∧ Q (g i j) H
def rI0 (g : Int → Int → V) : R2 := fun x y H Q => ∃ i j, x = .int i ∧ y = .int j ∧ Q (g i j) H
def rU (g : Int → V) : V → Hp → VK → Prop := fun x H Q => ∃ i, x = .int i ∧ Q (g i) H

section
variable {X : Cx} {a b c : Expr} {ta tb tc : TE} {pos : Pos}

theorem binT (ha : PE X a ta) (hb : PE X b tb) {pins : List (Addr × Obj)} {s : Shared} {σ : St} {H : Hp} {R : V → V → Hp → Prop} (I : Inv X pins σ H s)
    (h : ta σ H fun x H1 => tb σ H1 fun y H2 => R x y H2) {Q : Value → Shared → Prop} {f : Value → Value → Sem Value}
    (hf : ∀ v u s2 x y H2, Inv X pins σ H2 s2 → RelV x v → RelV y u → R x y H2 → wpAny (model X.prog X.w) X.A (f v u) Q X.xe s2) :
    wpAny (model X.prog X.w) X.A (eval a X.env) (fun v s₁ => wpAny (model X.prog X.w) X.A (eval b X.env) (fun u s₂ => wpAny (model X.prog X.w) X.A (f v u) Q X.xe s₂) X.xe s₁) X.xe s := by
  refine thn (ha pins s σ H _ I h) fun v s1 ⟨x, H1, I1, r1, q1⟩ => ?_
  refine thn (hb pins s1 σ H1 _ I1 q1) fun u s2 ⟨y, H2, I2, r2, q2⟩ => ?_
  exact hf v u s2 x y H2 I2 r1 r2 q2

theorem pe_op {op : Operator} {r : R2} (ho : OpR X (binaryOp op) r) (ha : PE X a ta) (hb : PE X b tb) : PE X (.BinOp a op b pos) (tOp r ta tb) := by
  intro pins s σ H Q I h
  exact wpAny_BinOp (binT ha hb I h fun v u s2 x y H2 I2 rx ry q => ho pins s2 σ H2 x y v u Q I2 rx ry q)
theorem pe_un {op : UnaryOp} {r : V → Hp → VK → Prop} (ho : UnR X (unaryOp op) r) (ha : PE X a ta) : PE X (.UnaryOp op a pos) (tUn r ta) := by
  intro pins s σ H Q I h
  exact UnaryOp_ (thn (ha pins s σ H _ I h) fun v s1 ⟨x, H1, I1, r1, q1⟩ => ho pins s1 σ H1 x v Q I1 r1 q1)
/-- a op= e at a name: the name's slot i -/
theorem augR {op : Operator} {r : R2} (ho : OpR X (inplaceOp op) r) {pins : List (Addr × Obj)} {s : Shared} {σ : St} {H : Hp} {x y : V} {v u : Value} {Q : VK} (I : Inv X pins σ H s)
    (rx : RelV x v) (ry : RelV y u) (q : r x y H Q) : wpAny (model X.prog X.w) X.A (inplaceOp op v u) (EP X pins σ Q) X.xe s := ho pins s σ H x y v u Q I rx ry q

/-! ### ints -/
theorem opI {f : Value → Value → Sem Value} {C : Int → Int → Prop} {g : Int → Int → Int}
    (rule : ∀ (i j : Int) (t u : Tok) (s : Shared) (Q : Value → Shared → Prop) (E : Value → Shared → Prop), C i j → Q (.int (g i j) s.toks) { s with toks := s.toks + 1 } → wpAny (model X.prog X.w) X.A (f (.int i t) (.int j u)) Q E s) :
    OpR X f (rI C fun i j => .int (g i j)) := by
  intro pins s σ H x y v u Q I rx ry h
  obtain ⟨i, j, rfl, rfl, hc, q⟩ := h
  obtain ⟨t, rfl⟩ := rx
  obtain ⟨t', rfl⟩ := ry
  exact rule i j t t' s _ _ hc ⟨.int (g i j), H, I.tok _, ⟨_, rfl⟩, q⟩
theorem opI0 {f : Value → Value → Sem Value} {g : Int → Int → Int}
    (rule : ∀ (i j : Int) (t u : Tok) (s : Shared) (Q : Value → Shared → Prop) (E : Value → Shared → Prop), Q (.int (g i j) s.toks) { s with toks := s.toks + 1 } → wpAny (model X.prog X.w) X.A (f (.int i t) (.int j u)) Q E s) :
    OpR X f (rI0 fun i j => .int (g i j)) := by
  intro pins s σ H x y v u Q I rx ry h
  obtain ⟨i, j, rfl, rfl, q⟩ := h
  obtain ⟨t, rfl⟩ := rx
  obtain ⟨t', rfl⟩ := ry
  exact rule i j t t' s _ _ ⟨.int (g i j), H, I.tok _, ⟨_, rfl⟩, q⟩
theorem opB0 {f : Value → Value → Sem Value} {g : Int → Int → Bool}
    (rule : ∀ (i j : Int) (t u : Tok) (s : Shared) (Q : Value → Shared → Prop) (E : Value → Shared → Prop), Q (.bool (g i j)) s → wpAny (model X.prog X.w) X.A (f (.int i t) (.int j u)) Q E s) :
    OpR X f (rI0 fun i j => .bl (g i j)) := by
  intro pins s σ H x y v u Q I rx ry h
  obtain ⟨i, j, rfl, rfl, q⟩ := h
  obtain ⟨t, rfl⟩ := rx
  obtain ⟨t', rfl⟩ := ry
  exact rule i j t t' s _ _ ⟨.bl (g i j), H, I, rfl, q⟩

def CDiv (i j : Int) : Prop := 0 < j ∧ j < 1073741824
def CDivN (i j : Int) : Prop := j ≠ 0 ∧ j.natAbs < 1073741824
def CPow (i j : Int) : Prop := 0 ≤ j ∧ j ≤ 1000000 ∧ i.natAbs < 2 ^ 64
def CMul (i j : Int) : Prop := (-(2 ^ 64) < i ∧ i < 2 ^ 64) ∨ (-(2 ^ 64) < j ∧ j < 2 ^ 64)
theorem CMul.ok {i j : Int} (h : CMul i j) : IntMulOk i j := by
  rcases h with ⟨h1, h2⟩ | ⟨h1, h2⟩
  · exact .of_left (intBits_le_64 h1 h2)
  · exact .of_right (intBits_le_64 h1 h2)
theorem two_pow_nn (k : Nat) : (0 : Int) ≤ 2 ^ k := by
  rw [two_pow_cast]
  exact Int.natCast_nonneg _

theorem op_add : OpR X (binaryOp .Add) (rI0 fun i j => .int (i + j)) := opI0 fun _ _ _ _ _ _ _ q => add_int q
theorem op_sub : OpR X (binaryOp .Sub) (rI0 fun i j => .int (i - j)) := opI0 fun _ _ _ _ _ _ _ q => sub_int q
theorem op_mul : OpR X (binaryOp .Mult) (rI CMul fun i j => .int (i * j)) := opI fun _ _ _ _ _ _ _ hc q => mul_int q hc.ok
/-- // by a positive divisor -/
theorem op_fdiv : OpR X (binaryOp .FloorDiv) (rI CDiv fun i j => .int (i / j)) := opI fun i j _ _ _ _ _ hc q => by
  have h1 : (0 : Int) < j := hc.1
  have h2 : j < 1073741824 := hc.2
  exact floordiv_int (by omega) (by rw [Int.fdiv_eq_ediv_of_nonneg i (by omega)]; exact q) (.inl (PyProof.noPylong_small (by omega)))
theorem op_fdivN : OpR X (binaryOp .FloorDiv) (rI CDivN fun i j => .int (i.fdiv j)) := opI fun _ _ _ _ _ _ _ hc q => floordiv_int hc.1 q (.inl (PyProof.noPylong_small hc.2))
/-- % by a positive divisor of any size -/
theorem op_mod : OpR X (binaryOp .Mod) (rI (fun _ j => 0 < j) fun i j => .int (i % j)) := opI fun i j _ _ _ _ _ hc q => by
  have h1 : (0 : Int) < j := hc
  exact mod_int' (by omega) (by rw [Int.fmod_eq_emod_of_nonneg i (by omega)]; exact q)
theorem op_modN : OpR X (binaryOp .Mod) (rI (fun _ j => j ≠ 0) fun i j => .int (i.fmod j)) := opI fun _ _ _ _ _ _ _ hc q => mod_int' hc q
theorem op_pow : OpR X (binaryOp .Pow) (rI CPow fun i j => .int (i ^ j.toNat)) := opI fun _ _ _ _ _ _ _ hc q => pow_int_small hc.1 hc.2.1 hc.2.2 q
theorem op_shl : OpR X (binaryOp .LShift) (rI CPow fun i j => .int (i * 2 ^ j.toNat)) := opI fun _ _ _ _ _ _ _ hc q => lshift_int_small hc.1 hc.2.1 hc.2.2 q
theorem op_shr : OpR X (binaryOp .RShift) (rI (fun _ j => 0 ≤ j) fun i j => .int (i / 2 ^ j.toNat)) := opI fun i j _ _ _ _ _ hc q =>
  rshift_int hc (by rw [Int.fdiv_eq_ediv_of_nonneg i (two_pow_nn _)]; exact q)
theorem op_and : OpR X (binaryOp .BitAnd) (rI0 fun i j => .int (Builtin.bitAnd i j)) := opI0 fun _ _ _ _ _ _ _ q => and_int q
theorem op_or : OpR X (binaryOp .BitOr) (rI0 fun i j => .int (Builtin.bitOr i j)) := opI0 fun _ _ _ _ _ _ _ q => or_int q
theorem op_xor : OpR X (binaryOp .BitXor) (rI0 fun i j => .int (Builtin.bitXor i j)) := opI0 fun _ _ _ _ _ _ _ q => xor_int q

theorem iop_add : OpR X (inplaceOp .Add) (rI0 fun i j => .int (i + j)) := opI0 fun _ _ _ _ _ _ _ q => iadd_int q
theorem iop_sub : OpR X (inplaceOp .Sub) (rI0 fun i j => .int (i - j)) := opI0 fun _ _ _ _ _ _ _ q => isub_int q
theorem iop_mul : OpR X (inplaceOp .Mult) (rI CMul fun i j => .int (i * j)) := opI fun _ _ _ _ _ _ _ hc q => imul_int q hc.ok
theorem iop_fdiv : OpR X (inplaceOp .FloorDiv) (rI CDiv fun i j => .int (i / j)) := opI fun i j _ _ _ _ _ hc q => by
  have h1 : (0 : Int) < j := hc.1
  have h2 : j < 1073741824 := hc.2
  exact ifloordiv_int (by omega) (by rw [Int.fdiv_eq_ediv_of_nonneg i (by omega)]; exact q) (.inl (PyProof.noPylong_small (by omega)))
theorem iop_mod : OpR X (inplaceOp .Mod) (rI (fun _ j => 0 < j) fun i j => .int (i % j)) := opI fun i j _ _ _ _ _ hc q => by
  have h1 : (0 : Int) < j := hc
  exact imod_int (by omega) (by rw [Int.fmod_eq_emod_of_nonneg i (by omega)]; exact q)
theorem iop_shl : OpR X (inplaceOp .LShift) (rI CPow fun i j => .int (i * 2 ^ j.toNat)) := opI fun _ _ _ _ _ _ _ hc q => ilshift_int_small hc.1 hc.2.1 hc.2.2 q
theorem iop_shr : OpR X (inplaceOp .RShift) (rI (fun _ j => 0 ≤ j) fun i j => .int (i / 2 ^ j.toNat)) := opI fun i j _ _ _ _ _ hc q =>
  irshift_int hc (by rw [Int.fdiv_eq_ediv_of_nonneg i (two_pow_nn _)]; exact q)
theorem iop_and : OpR X (inplaceOp .BitAnd) (rI0 fun i j => .int (Builtin.bitAnd i j)) := opI0 fun _ _ _ _ _ _ _ q => iand_int q
theorem iop_or : OpR X (inplaceOp .BitOr) (rI0 fun i j => .int (Builtin.bitOr i j)) := opI0 fun _ _ _ _ _ _ _ q => ior_int q
theorem iop_xor : OpR X (inplaceOp .BitXor) (rI0 fun i j => .int (Builtin.bitXor i j)) := opI0 fun _ _ _ _ _ _ _ q => ixor_int q

theorem unI {f : Value → Sem Value} {g : Int → Int}
    (rule : ∀ (i : Int) (t : Tok) (s : Shared) (Q : Value → Shared → Prop) (E : Value → Shared → Prop), Q (.int (g i) s.toks) { s with toks := s.toks + 1 } → wpAny (model X.prog X.w) X.A (f (.int i t)) Q E s) :
    UnR X f (rU fun i => .int (g i)) := by
  intro pins s σ H x v Q I rx h
  obtain ⟨i, rfl, q⟩ := h
  obtain ⟨t, rfl⟩ := rx
  exact rule i t s _ _ ⟨.int (g i), H, I.tok _, ⟨_, rfl⟩, q⟩
theorem un_neg : UnR X (unaryOp .USub) (rU fun i => .int (-i)) := unI fun _ _ _ _ _ q => neg_int q
theorem un_inv : UnR X (unaryOp .Invert) (rU fun i => .int (Builtin.bitNot i)) := unI fun _ _ _ _ _ q => invert_int q

/-! ### bools among ints: n += (a < b) -/
theorem op_add_ib : OpR X (binaryOp .Add) (fun x y H Q => ∃ i k, x = .int i ∧ y = .bl k ∧ Q (.int (i + b2i k)) H) := by
  intro pins s σ H x y v u Q I rx ry h
  obtain ⟨i, k, rfl, rfl, q⟩ := h
  obtain ⟨t, rfl⟩ := rx
  cases ry
  exact add_int_bool ⟨.int (i + b2i k), H, I.tok _, ⟨_, rfl⟩, q⟩
end

/-! ### comparisons -/
/-- the scalars that == tells apart as data does -/
def scal : V → V → Bool
  | .non, .non => true | .non, .int _ => true | .int _, .non => true | .non, .bl _ => true | .bl _, .non => true | .non, .str _ => true | .str _, .non => true
  | .int _, .int _ => true | .bl _, .bl _ => true | .str _, .str _ => true | .byt _, .byt _ => true
  | .int _, .str _ => true | .str _, .int _ => true | .bl _, .str _ => true | .str _, .bl _ => true
  | _, _ => false
def rEq : R2 := fun x y H Q => scal x y = true ∧ Q (.bl (decide (x = y))) H
def rNe : R2 := fun x y H Q => scal x y = true ∧ Q (.bl (!decide (x = y))) H

theorem dec_int {i j : Int} : decide (V.int i = V.int j) = (i == j) := by
  rw [Bool.eq_iff_iff]
  simp
theorem dec_bl {i j : Bool} : decide (V.bl i = V.bl j) = (i == j) := by
  rw [Bool.eq_iff_iff]
  simp
theorem dec_str {i j : Str} : decide (V.str i = V.str j) = (i == j) := by
  rw [Bool.eq_iff_iff]
  simp
theorem dec_byt {i j : Array UInt8} : decide (V.byt i = V.byt j) = (i.toList == j.toList) := by
  rw [Bool.eq_iff_iff]
  cases i
  cases j
  simp

section
variable {X : Cx} {a b c : Expr} {ta tb tc : TE} {pos : Pos}
theorem fin_bl {pins : List (Addr × Obj)} {σ : St} {H : Hp} {s : Shared} {Q : VK} {k k' : Bool} (I : Inv X pins σ H s) (q : Q (.bl k) H) (e : k = k') : EP X pins σ Q (.bool k') s := by
  subst e
  exact ⟨.bl k, H, I, rfl, q⟩
theorem op_eq : OpR X (compareOp .Eq) rEq := by
  intro pins s σ H x y v u Q I rx ry h
  obtain ⟨hs, q⟩ := h
  cases x with
  | non =>
    cases rx
    cases y with
    | non => cases ry; exact PySem.EqNone.eq_none_none (fin_bl I q (by simp))
    | bl j => cases ry; exact PySem.EqNone.eq_none_bool (fin_bl I q (by simp))
    | int j => obtain ⟨t', rfl⟩ := ry; exact PySem.EqNone.eq_none_int (fin_bl I q (by simp))
    | str j => obtain ⟨t', rfl⟩ := ry; exact PySem.EqNone.eq_none_str (fin_bl I q (by simp))
    | _ => exact absurd (show false = true from hs) Bool.false_ne_true
  | bl i =>
    cases rx
    cases y with
    | non => cases ry; exact PySem.EqNone.eq_bool_none (fin_bl I q (by simp))
    | bl j => cases ry; exact eq_bool (fin_bl I q dec_bl)
    | str j => obtain ⟨t', rfl⟩ := ry; exact PySem.EqMixed.eq_bool_str (fin_bl I q (by simp))
    | _ => exact absurd (show false = true from hs) Bool.false_ne_true
  | int i =>
    obtain ⟨t, rfl⟩ := rx
    cases y with
    | non => cases ry; exact PySem.EqNone.eq_int_none (fin_bl I q (by simp))
    | int j => obtain ⟨t', rfl⟩ := ry; exact eq_int (fin_bl I q dec_int)
    | str j => obtain ⟨t', rfl⟩ := ry; exact PySem.EqMixed.eq_int_str (fin_bl I q (by simp))
    | _ => exact absurd (show false = true from hs) Bool.false_ne_true
  | str i =>
    obtain ⟨t, rfl⟩ := rx
    cases y with
    | non => cases ry; exact PySem.EqNone.eq_str_none (fin_bl I q (by simp))
    | bl j => cases ry; exact PySem.EqMixed.eq_str_bool (fin_bl I q (by simp))
    | int j => obtain ⟨t', rfl⟩ := ry; exact PySem.EqMixed.eq_str_int (fin_bl I q (by simp))
    | str j => obtain ⟨t', rfl⟩ := ry; exact eq_str (fin_bl I q dec_str)
    | _ => exact absurd (show false = true from hs) Bool.false_ne_true
  | byt i =>
    obtain ⟨t, rfl⟩ := rx
    cases y with
    | byt j => obtain ⟨t', rfl⟩ := ry; exact PySem.W.eq_bytes (fin_bl I q dec_byt)
    | _ => exact absurd (show false = true from hs) Bool.false_ne_true
  | _ => cases y <;> exact absurd (show false = true from hs) Bool.false_ne_true
theorem op_ne : OpR X (compareOp .NotEq) rNe := by
  intro pins s σ H x y v u Q I rx ry h
  obtain ⟨hs, q⟩ := h
  cases x with
  | non =>
    cases rx
    cases y with
    | non => cases ry; exact PySem.EqNone.ne_none_none (fin_bl I q (by simp))
    | bl j => cases ry; exact PySem.EqNone.ne_none_bool (fin_bl I q (by simp))
    | int j => obtain ⟨t', rfl⟩ := ry; exact PySem.EqNone.ne_none_int (fin_bl I q (by simp))
    | str j => obtain ⟨t', rfl⟩ := ry; exact PySem.EqNone.ne_none_str (fin_bl I q (by simp))
    | _ => exact absurd (show false = true from hs) Bool.false_ne_true
  | bl i =>
    cases rx
    cases y with
    | non => cases ry; exact PySem.EqNone.ne_bool_none (fin_bl I q (by simp))
    | bl j => cases ry; exact ne_bool (fin_bl I q (congrArg not dec_bl))
    | str j => obtain ⟨t', rfl⟩ := ry; exact PySem.EqMixed.ne_bool_str (fin_bl I q (by simp))
    | _ => exact absurd (show false = true from hs) Bool.false_ne_true
  | int i =>
    obtain ⟨t, rfl⟩ := rx
    cases y with
    | non => cases ry; exact PySem.EqNone.ne_int_none (fin_bl I q (by simp))
    | int j => obtain ⟨t', rfl⟩ := ry; exact ne_int (fin_bl I q (congrArg not dec_int))
    | str j => obtain ⟨t', rfl⟩ := ry; exact PySem.EqMixed.ne_int_str (fin_bl I q (by simp))
    | _ => exact absurd (show false = true from hs) Bool.false_ne_true
  | str i =>
    obtain ⟨t, rfl⟩ := rx
    cases y with
    | non => cases ry; exact PySem.EqNone.ne_str_none (fin_bl I q (by simp))
    | bl j => cases ry; exact PySem.EqMixed.ne_str_bool (fin_bl I q (by simp))
    | int j => obtain ⟨t', rfl⟩ := ry; exact PySem.EqMixed.ne_str_int (fin_bl I q (by simp))
    | str j => obtain ⟨t', rfl⟩ := ry; exact ne_str (fin_bl I q (congrArg not dec_str))
    | _ => exact absurd (show false = true from hs) Bool.false_ne_true
  | byt i =>
    obtain ⟨t, rfl⟩ := rx
    cases y with
    | byt j => obtain ⟨t', rfl⟩ := ry; exact PySem.W.ne_bytes (fin_bl I q (congrArg not dec_byt))
    | _ => exact absurd (show false = true from hs) Bool.false_ne_true
  | _ => cases y <;> exact absurd (show false = true from hs) Bool.false_ne_true

theorem op_lt : OpR X (compareOp .Lt) (rI0 fun i j => .bl (decide (i < j))) := opB0 fun _ _ _ _ _ _ _ q => lt_int q
theorem op_le : OpR X (compareOp .LtE) (rI0 fun i j => .bl (decide (i ≤ j))) := opB0 fun _ _ _ _ _ _ _ q => le_int q
theorem op_gt : OpR X (compareOp .Gt) (rI0 fun i j => .bl (decide (j < i))) := opB0 fun _ _ _ _ _ _ _ q => gt_int q
theorem op_ge : OpR X (compareOp .GtE) (rI0 fun i j => .bl (decide (j ≤ i))) := opB0 fun _ _ _ _ _ _ _ q => ge_int q
theorem op_lt_str : OpR X (compareOp .Lt) (fun x y H Q => ∃ i j, x = .str i ∧ y = .str j ∧ Q (.bl (decide (i.cps.toList < j.cps.toList))) H) := by
  intro pins s σ H x y v u Q I rx ry h
  obtain ⟨i, j, rfl, rfl, q⟩ := h
  obtain ⟨t, rfl⟩ := rx
  obtain ⟨t', rfl⟩ := ry
  exact lt_str (fin_bl I q rfl)
/-- the one string within the other -/
theorem op_in_str : OpR X (compareOp .In) (fun x y H Q => ∃ i j, x = .str i ∧ y = .str j ∧ Q (.bl (!(Builtin.Str.occurrences j i 0 j.length 1).isEmpty)) H) := by
  intro pins s σ H x y v u Q I rx ry h
  obtain ⟨i, j, rfl, rfl, q⟩ := h
  obtain ⟨t, rfl⟩ := rx
  obtain ⟨t', rfl⟩ := ry
  exact in_str (fin_bl I q rfl)

/-- is None, is not None: the right side a value none -/
theorem op_isN : OpR X (compareOp .Is) (fun x y H Q => y = .non ∧ Q (.bl (decide (x = .non))) H) := by
  intro pins s σ H x y v u Q I rx ry h
  obtain ⟨rfl, q⟩ := h
  cases ry
  refine is_none_gen (fin_bl I q ?_)
  cases x <;> first
    | (cases rx; rfl)
    | (obtain ⟨t, rfl⟩ := rx; rfl)
theorem op_notN : OpR X (compareOp .IsNot) (fun x y H Q => y = .non ∧ Q (.bl (!decide (x = .non))) H) := by
  intro pins s σ H x y v u Q I rx ry h
  obtain ⟨rfl, q⟩ := h
  cases ry
  refine isnot_none_gen (fin_bl I q ?_)
  cases x <;> first
    | (cases rx; rfl)
    | (obtain ⟨t, rfl⟩ := rx; rfl)

theorem op_notin_str : OpR X (compareOp .NotIn) (fun x y H Q => ∃ i j, x = .str i ∧ y = .str j ∧ Q (.bl (!(!(Builtin.Str.occurrences j i 0 j.length 1).isEmpty))) H) := by
  intro pins s σ H x y v u Q I rx ry h
  obtain ⟨i, j, rfl, rfl, q⟩ := h
  obtain ⟨t, rfl⟩ := rx
  obtain ⟨t', rfl⟩ := ry
  exact notIn_str (fin_bl I q rfl)
/-- is, is not of two objects that are tracked lists or instances -/
def isObj : HO → Bool
  | .lst _ => true
  | .ins _ _ _ => true
  | _ => false
theorem obj_there {pins : List (Addr × Obj)} {s : Shared} {σ : St} {H : Hp} {a : Addr} {o : HO} (I : Inv X pins σ H s) (h : H a = some o) (p : isObj o = true) : ∃ ob, s.heap.get? a = some ob ∧ ob.cls ≠ .type "tuple" := by
  cases o with
  | lst xs =>
    obtain ⟨_, its, n, _, e⟩ : xs.length ≤ sizeLine ∧ ∃ (its : List Value) (n : Nat), Vals xs its ∧ s.heap.get? a = some { cls := .type "list", data := .seq its.toArray n } := I.hok a _ h
    exact ⟨_, e, (by show Value.type "list" ≠ .type "tuple"; decide +kernel)⟩
  | ins C dx fs =>
    have x := I.hok a _ h
    obtain ⟨_, _, _, e, _⟩ := x
    exact ⟨_, e, (by show Value.ref C ≠ .type "tuple"; exact fun z => by cases z)⟩
  | _ => exact absurd (show false = true from p) Bool.false_ne_true
theorem op_is_ref : OpR X (compareOp .Is) (fun x y H Q => ∃ a b oa ob, x = .ref a ∧ y = .ref b ∧ H a = some oa ∧ isObj oa = true ∧ H b = some ob ∧ isObj ob = true ∧ Q (.bl (decide (a = b))) H) := by
  intro pins s σ H x y v u Q I rx ry h
  obtain ⟨a, b, oa, ob, rfl, rfl, ha, pa, hb, pb, q⟩ := h
  cases rx
  cases ry
  obtain ⟨o1, e1, n1⟩ := obj_there I ha pa
  obtain ⟨o2, e2, _⟩ := obj_there I hb pb
  by_cases z : a = b
  · subst z
    exact wpAny_is_ref_self (fin_bl I q (by simp))
  · exact wpAny_is_ref_other z e1 e2 n1 (fin_bl I q (by simp [z]))
theorem op_isnot_ref : OpR X (compareOp .IsNot) (fun x y H Q => ∃ a b oa ob, x = .ref a ∧ y = .ref b ∧ H a = some oa ∧ isObj oa = true ∧ H b = some ob ∧ isObj ob = true ∧ Q (.bl (!decide (a = b))) H) := by
  intro pins s σ H x y v u Q I rx ry h
  obtain ⟨a, b, oa, ob, rfl, rfl, ha, pa, hb, pb, q⟩ := h
  cases rx
  cases ry
  obtain ⟨o1, e1, n1⟩ := obj_there I ha pa
  obtain ⟨o2, e2, _⟩ := obj_there I hb pb
  by_cases z : a = b
  · subst z
    exact wpAny_isNot_ref_self (fin_bl I q (by simp))
  · exact wpAny_isNot_ref_other z e1 e2 n1 (fin_bl I q (by simp [z]))

/-- two rules for one operation: by cases -/
theorem OpR.or {f : Value → Value → Sem Value} {r r' : R2} (h : OpR X f r) (h' : OpR X f r') : OpR X f (fun x y H Q => r x y H Q ∨ r' x y H Q) := by
  intro pins s σ H x y v u Q I rx ry q
  rcases q with q | q
  · exact h pins s σ H x y v u Q I rx ry q
  · exact h' pins s σ H x y v u Q I rx ry q

theorem nomark (b : Expr) {op : CmpOp} (h : op ≠ .In := by decide) (h2 : op ≠ .NotIn := by decide) : behindInMarks op b = false := by
  have e1 : (op == CmpOp.In) = false := by cases op <;> first | rfl | exact absurd rfl h
  have e2 : (op == CmpOp.NotIn) = false := by cases op <;> first | rfl | exact absurd rfl h2
  cases b <;> simp [behindInMarks, e1, e2]
/-- a comparison as a value; hm: nomark b, or (for in, not in) by with_unfolding_all rfl -/
theorem pe_cmpR {op : CmpOp} {r : R2} (ho : OpR X (compareOp op) r) (ha : PE X a ta) (hb : PE X b tb) (hm : behindInMarks op b = false) : PE X (.Compare a [op] [b] pos) (tOp r ta tb) := by
  intro pins s σ H Q I h
  exact wpAny_Compare1 (binT ha hb I h fun v u s2 x y H2 I2 rx ry q => ho pins s2 σ H2 x y v u Q I2 rx ry q) hm
/-- a reading of a value as a test -/
def tTest (t : TE) : TT := fun σ H Q => t σ H fun x H' => ∃ k, x = .bl k ∧ Q k H'
theorem pt_cmpR {op : CmpOp} {r : R2} (ho : OpR X (compareOp op) r) (ha : PE X a ta) (hb : PE X b tb) (hm : behindInMarks op b = false) : PT X (.Compare a [op] [b] pos) (tTest (tOp r ta tb)) := by
  intro pins s σ H Q I h
  refine wpAny_isTrue_Compare1 (thn (ha pins s σ H _ I h) fun v s1 ⟨x, H1, I1, r1, q1⟩ => thn (hb pins s1 σ H1 _ I1 q1) fun u s2 ⟨y, H2, I2, r2, q2⟩ =>
    thn (ho pins s2 σ H2 x y v u _ I2 r1 r2 q2) fun c s3 ⟨z, H3, I3, r3, k, e, q3⟩ => ?_) hm
  subst e
  cases r3
  exact wpAny_truthy_bool ⟨H3, I3, q3⟩
/-- a op1 b op2 c -/
def tChain (r r' : R2) (ta tb tc : TE) : TE := fun σ H Q => ta σ H fun x H1 => tb σ H1 fun y H2 => r x y H2 fun z H3 => ∃ k, z = .bl k ∧
  (if k = true then tc σ H3 fun w' H4 => r' y w' H4 Q else Q (.bl false) H3)
theorem pe_chain {op op' : CmpOp} {r r' : R2} (ho : OpR X (compareOp op) r) (ho' : OpR X (compareOp op') r') (ha : PE X a ta) (hb : PE X b tb) (hc : PE X c tc)
    (hm : lastMarks [op, op'] [b, c] = false := by with_unfolding_all rfl) : PE X (.Compare a [op, op'] [b, c] pos) (tChain r r' ta tb tc) := by
  intro pins s σ H Q I h
  refine Compare_chain (thn (ha pins s σ H _ I h) fun v s1 ⟨x, H1, I1, r1, q1⟩ => chain_link (thn (hb pins s1 σ H1 _ I1 q1) fun u s2 ⟨y, H2, I2, r2, q2⟩ =>
    thn (ho pins s2 σ H2 x y v u _ I2 r1 r2 q2) fun d s3 ⟨z, H3, I3, r3, k, e, q3⟩ => ?_)) hm
  subst e
  cases r3
  refine wpAny_truthy_bool ?_
  cases k with
  | false => exact ite_ff ⟨.bl false, H3, I3, rfl, q3⟩
  | true => exact ite_tt (chain_last (thn (hc pins s3 σ H3 _ I3 q3) fun w' s4 ⟨z', H4, I4, r4, q4⟩ => ho' pins s4 σ H4 y z' u w' Q I4 r2 r4 q4))
theorem pt_chain {op op' : CmpOp} {r r' : R2} (ho : OpR X (compareOp op) r) (ho' : OpR X (compareOp op') r') (ha : PE X a ta) (hb : PE X b tb) (hc : PE X c tc)
    (hm : lastMarks [op, op'] [b, c] = false := by with_unfolding_all rfl) : PT X (.Compare a [op, op'] [b, c] pos) (tTest (tChain r r' ta tb tc)) := by
  intro pins s σ H Q I h
  refine isTrue_chain (thn (ha pins s σ H _ I h) fun v s1 ⟨x, H1, I1, r1, q1⟩ => test_link (thn (hb pins s1 σ H1 _ I1 q1) fun u s2 ⟨y, H2, I2, r2, q2⟩ =>
    thn (ho pins s2 σ H2 x y v u _ I2 r1 r2 q2) fun d s3 ⟨z, H3, I3, r3, k, e, q3⟩ => ?_)) hm
  subst e
  cases r3
  refine wpAny_truthy_bool ?_
  cases k with
  | false =>
    obtain ⟨k', e', q'⟩ := q3
    cases e'
    exact ite_ff ⟨H3, I3, q'⟩
  | true =>
    refine ite_tt (test_last (thn (hc pins s3 σ H3 _ I3 q3) fun w' s4 ⟨z', H4, I4, r4, q4⟩ => thn (ho' pins s4 σ H4 y z' u w' _ I4 r2 r4 q4) fun d' s5 ⟨z2, H5, I5, r5, k2, e2, q5⟩ => ?_))
    subst e2
    cases r5
    exact wpAny_truthy_bool ⟨H5, I5, q5⟩

/-! ### truth -/
/-- a value's truth by the abstract heap -/
def TruV (K : PySem.W.Frag) (x : V) (H : Hp) (k : Bool) : Prop :=
  match x with
  | .non => k = false
  | .bl b => k = b
  | .int i => k = (i != 0)
  | .str y => y.length ≤ sizeLine ∧ k = ((y.length : Int) != 0)
  | .byt y => y.size ≤ sizeLine ∧ k = ((y.size : Int) != 0)
  | .ref p => (∃ xs, SqL K H p xs ∧ k = !xs.isEmpty) ∨ (∃ xs, SqT K H p xs ∧ k = !xs.isEmpty) ∨ ∃ kvs, H p = some (.dK kvs) ∧ k = !kvs.isEmpty
  | _ => False
theorem isEmpty_kv {κ : Type} {kvs : List (κ × V)} {vs : List (κ × Value)} (r : KV kvs vs) : (!vs.isEmpty) = !kvs.isEmpty := by
  cases r <;> rfl
theorem isEmpty_of {xs : List V} {its : List Value} (r : Vals xs its) : (!its.toArray.isEmpty) = !xs.isEmpty := by
  cases r <;> simp
theorem line63 : (sizeLine : Nat) < 2 ^ 63 := by rw [sizeLine_eq]; decide
theorem tru_ok : TruR X (fun x H Q => ∃ k, TruV X.K x H k ∧ Q k H) := by
  intro pins s σ H x v Q I rx h
  obtain ⟨k, e, q⟩ := h
  have hl := line63
  have hs : sizeLine = 16777216 := sizeLine_eq
  cases x with
  | non =>
    cases rx
    have e' : k = false := e
    subst e'
    exact truthy_none ⟨H, I, q⟩
  | bl b =>
    cases rx
    have e' : k = b := e
    subst e'
    exact wpAny_truthy_bool ⟨H, I, q⟩
  | int i =>
    obtain ⟨t, rfl⟩ := rx
    have e' : k = (i != 0) := e
    subst e'
    exact PySem.P.truthy_int ⟨H, I, q⟩
  | str y =>
    obtain ⟨t, rfl⟩ := rx
    obtain ⟨hy, e'⟩ : y.length ≤ sizeLine ∧ k = ((y.length : Int) != 0) := e
    subst e'
    exact PySem.P.truthy_str (by omega) ⟨H, I.tok _, q⟩
  | byt y =>
    obtain ⟨t, rfl⟩ := rx
    obtain ⟨hy, e'⟩ : y.size ≤ sizeLine ∧ k = ((y.size : Int) != 0) := e
    subst e'
    exact PySem.W.truthy_bytes (by omega) ⟨H, I.tok _, q⟩
  | ref p =>
    cases rx
    have e' : (∃ xs, SqL X.K H p xs ∧ k = !xs.isEmpty) ∨ (∃ xs, SqT X.K H p xs ∧ k = !xs.isEmpty) ∨ ∃ kvs, H p = some (.dK kvs) ∧ k = !kvs.isEmpty := e
    rcases e' with ⟨xs, hx, e'⟩ | ⟨xs, hx, e'⟩ | ⟨kvs, hx, e'⟩
    · subst e'
      obtain ⟨its, r, pl, hz⟩ := I.list hx
      have hlen := r.length
      exact wpAny_truthy_list pl.isList (by simp only [List.size_toArray]; omega) ⟨H, I.tok _, by rw [isEmpty_of r]; exact q⟩
    · subst e'
      obtain ⟨its, r, pl, hz⟩ := I.tuple hx
      have hlen := r.length
      exact truthy_tuple pl (by simp only [List.size_toArray]; omega) ⟨H, I.tok _, by rw [isEmpty_of r]; exact q⟩
    · subst e'
      obtain ⟨hz, hS, vs, r, m⟩ : kvs.length ≤ sizeLine ∧ (p == sysModules) = false ∧ ∃ vs, KV kvs vs ∧ s.heap.DictOf (mixKind X.prog X.w) p vs := I.hok p _ hx
      have hlen : kvs.length = vs.length := Paired.length r
      exact wpAny_truthy_dict hS m (by omega) ⟨H, I.tok _, by rw [isEmpty_kv r]; exact q⟩
  | _ => exact (show False from e).elim
/-- any expression whose test is its value's truth (a name, a call, a subscript, a field ..: he by fun _ => rfl) -/
theorem pt_truth (ha : PE X a ta) (he : ∀ whole, isTrue a X.env whole = (do let v ← whole; standAt a.pos; holding [v] (truthy v))) :
    PT X a (fun σ H Q => ta σ H fun x H' => ∃ k, TruV X.K x H' k ∧ Q k H') := by
  intro pins s σ H Q I h
  exact isTrue_plain (thn (ha pins s σ H _ I h) fun v s1 ⟨x, H1, I1, r1, q1⟩ => tru_ok pins s1 σ H1 x v Q I1 r1 q1) (he _)

/-! ### strs and bytes -/
theorem pe_byt {x : List UInt8} {k : Nat} : PE X (.Constant (.bytes x) k pos) (fun _ H Q => Q (.byt x.toArray) H) := fun _ _ _ H _ I h => PySem.W.Constant_bytes ⟨.byt x.toArray, H, I.tok _, ⟨_, rfl⟩, h⟩
theorem op_add_str : OpR X (binaryOp .Add) (fun x y H Q => ∃ i j, x = .str i ∧ y = .str j ∧ i.length + j.length ≤ sizeLine ∧ Q (.str (i ++ j)) H) := by
  intro pins s σ H x y v u Q I rx ry h
  obtain ⟨i, j, rfl, rfl, hz, q⟩ := h
  obtain ⟨t, rfl⟩ := rx
  obtain ⟨t', rfl⟩ := ry
  exact add_str (fun t' tk => ⟨.str (i ++ j), H, I.tok _, ⟨_, rfl⟩, q⟩) hz
theorem iop_add_str : OpR X (inplaceOp .Add) (fun x y H Q => ∃ i j, x = .str i ∧ y = .str j ∧ i.length + j.length ≤ sizeLine ∧ Q (.str (i ++ j)) H) := by
  intro pins s σ H x y v u Q I rx ry h
  obtain ⟨i, j, rfl, rfl, hz, q⟩ := h
  obtain ⟨t, rfl⟩ := rx
  obtain ⟨t', rfl⟩ := ry
  exact iadd_str (fun t' tk => ⟨.str (i ++ j), H, I.tok _, ⟨_, rfl⟩, q⟩) hz
theorem op_add_byt : OpR X (binaryOp .Add) (fun x y H Q => ∃ i j, x = .byt i ∧ y = .byt j ∧ i.size + j.size ≤ 16777216 ∧ Q (.byt (i ++ j)) H) := by
  intro pins s σ H x y v u Q I rx ry h
  obtain ⟨i, j, rfl, rfl, hz, q⟩ := h
  obtain ⟨t, rfl⟩ := rx
  obtain ⟨t', rfl⟩ := ry
  exact PySem.W.KBy.add_bytes hz (fun t' tk => ⟨.byt (i ++ j), H, I.tok _, ⟨_, rfl⟩, q⟩)

def PlainIxT (b : Expr) : Prop := ∀ o i, subscripted b false o i = operate [o, i] (getItem o i)
/-- s[i], 0 ≤ i < len -/
theorem pe_item_str (ha : PE X a ta) (hb : PE X b tb) (hs : PlainIxT b) :
    PE X (.Subscript a b pos) (tOp (fun x y H Q => ∃ z i c, x = .str z ∧ y = .int i ∧ 0 ≤ i ∧ i < 2 ^ 63 ∧ i < z.length ∧ z.cps[i.toNat]? = some c ∧ Q (.str ⟨#[c]⟩) H) ta tb) := by
  intro pins s σ H Q I h
  refine Subscript_ (binT ha hb I h fun v u s2 x y H2 I2 rx ry q => ?_)
  obtain ⟨z, i, c, rfl, rfl, h0, h63, h1, hc, q⟩ := q
  obtain ⟨t, rfl⟩ := rx
  obtain ⟨t', rfl⟩ := ry
  have e : seqIndex? i z.length = some i.toNat := PySem.StrLaws.seqIndex_nonneg h0 h1
  exact tail_any (typeIs_str s2 z t) slot_str_getitem.lookup (getItem_str (c := c) (by
    have e1 : decide (i < -(2 ^ 63 : Int)) = false := decide_eq_false (by omega)
    have e2 : decide (i ≥ 2 ^ 63) = false := decide_eq_false (by omega)
    rw [e1, e2] <;> rfl) (by rw [e]; exact hc) ⟨.str ⟨#[c]⟩, H2, I2.tok _, ⟨_, rfl⟩, q⟩) (hs _ _)
/-- b[i], 0 ≤ i < len -/
theorem pe_item_byt (ha : PE X a ta) (hb : PE X b tb) (hs : PlainIxT b) :
    PE X (.Subscript a b pos) (tOp (fun x y H Q => ∃ (z : List UInt8) (i : Int), x = .byt z.toArray ∧ y = .int i ∧ z.length ≤ sizeLine ∧ 0 ≤ i ∧ i < z.length ∧ Q (.int ((z.getD i.toNat 0).toNat : Nat)) H) ta tb) := by
  intro pins s σ H Q I h
  refine Subscript_ (binT ha hb I h fun v u s2 x y H2 I2 rx ry q => ?_)
  obtain ⟨z, i, rfl, rfl, hz, h0, h1, q⟩ := q
  obtain ⟨t, rfl⟩ := rx
  obtain ⟨t', rfl⟩ := ry
  have hl : sizeLine = 16777216 := sizeLine_eq
  exact tail_any (PySem.W.typeIs_bytes s2 z.toArray t) PySem.W.FB.slot_bytes_getitem.lookup (PySem.W.getItem_bytes (by omega) h0 h1 ⟨.int ((z.getD i.toNat 0).toNat : Nat), H2, I2.tok _, ⟨_, rfl⟩, q⟩) (hs _ _)

/-! ### scalar builtins, by CallR -/
theorem vals1 {x : V} {us : List Value} (r : Vals [x] us) : ∃ u, us = [u] ∧ RelV x u := by
  cases r with
  | cons r1 r2 => cases r2; exact ⟨_, rfl, r1⟩
theorem vals2 {x y : V} {us : List Value} (r : Vals [x, y] us) : ∃ u w', us = [u, w'] ∧ RelV x u ∧ RelV y w' := by
  cases r with
  | cons r1 r2 =>
    cases r2 with
    | cons r3 r4 => cases r4; exact ⟨_, _, rfl, r1, r3⟩
theorem call_abs : CallR X (.builtin "abs") (fun xs H Q => ∃ i, xs = [.int i] ∧ Q (.int (if i < 0 then -i else i)) H) := by
  intro pins s σ H xs us Q I r h
  obtain ⟨i, rfl, q⟩ := h
  obtain ⟨u, rfl, t, rfl⟩ := vals1 r
  exact call_abs_int fun u tk => ⟨.int (if i < 0 then -i else i), H, I.tok _, ⟨_, rfl⟩, q⟩
theorem call_max2 (hc : X.calm = true) : CallR X (.builtin "max") (fun xs H Q => ∃ i j, xs = [.int i, .int j] ∧ Q (.int (if j > i then j else i)) H) := by
  intro pins s σ H xs us Q I r h
  obtain ⟨i, j, rfl, q⟩ := h
  obtain ⟨u, w', rfl, ⟨t, rfl⟩, ⟨t', rfl⟩⟩ := vals2 r
  refine max_two_ints (I.ok.hd hc) fun h' tk k => ⟨_, H, I.kept k, ?_, q⟩
  by_cases hj : j > i
  · rw [if_pos hj, if_pos hj]; exact ⟨_, rfl⟩
  · rw [if_neg hj, if_neg hj]; exact ⟨_, rfl⟩
theorem call_min2 (hc : X.calm = true) : CallR X (.builtin "min") (fun xs H Q => ∃ i j, xs = [.int i, .int j] ∧ Q (.int (if j < i then j else i)) H) := by
  intro pins s σ H xs us Q I r h
  obtain ⟨i, j, rfl, q⟩ := h
  obtain ⟨u, w', rfl, ⟨t, rfl⟩, ⟨t', rfl⟩⟩ := vals2 r
  refine min_two_ints (I.ok.hd hc) fun h' tk k => ⟨_, H, I.kept k, ?_, q⟩
  by_cases hj : j < i
  · rw [if_pos hj, if_pos hj]; exact ⟨_, rfl⟩
  · rw [if_neg hj, if_neg hj]; exact ⟨_, rfl⟩
theorem call_int1 : CallR X (.type "int") (fun xs H Q => (∃ i, xs = [.int i] ∧ Q (.int i) H) ∨ ∃ k, xs = [.bl k] ∧ Q (.int (if k then 1 else 0)) H) := by
  intro pins s σ H xs us Q I r h
  rcases h with ⟨i, rfl, q⟩ | ⟨k, rfl, q⟩
  · obtain ⟨u, rfl, t, rfl⟩ := vals1 r
    exact call_int_int ⟨.int i, H, I, ⟨_, rfl⟩, q⟩
  · obtain ⟨u, rfl, r1⟩ := vals1 r
    cases r1
    exact call_int_bool ⟨.int (if k then 1 else 0), H, I.tok _, ⟨_, rfl⟩, q⟩
theorem call_bool1 : CallR X (.type "bool") (fun xs H Q => (∃ i, xs = [.int i] ∧ Q (.bl (i != 0)) H) ∨ ∃ k, xs = [.bl k] ∧ Q (.bl k) H) := by
  intro pins s σ H xs us Q I r h
  rcases h with ⟨i, rfl, q⟩ | ⟨k, rfl, q⟩
  · obtain ⟨u, rfl, t, rfl⟩ := vals1 r
    exact call_bool_int ⟨.bl (i != 0), H, I, rfl, q⟩
  · obtain ⟨u, rfl, r1⟩ := vals1 r
    cases r1
    exact call_bool_bool ⟨.bl k, H, I, rfl, q⟩
theorem call_str_int : CallR X (.type "str") (fun xs H Q => ∃ i, xs = [.int i] ∧ i.natAbs.log2 < 1920 ∧ Q (.str (toString i)) H) := by
  intro pins s σ H xs us Q I r h
  obtain ⟨i, rfl, hz, q⟩ := h
  obtain ⟨u, rfl, t, rfl⟩ := vals1 r
  exact PySem.P.str_of_int hz ⟨.str _, H, I.tok _, ⟨_, rfl⟩, q⟩
theorem call_ord : CallR X (.builtin "ord") (fun xs H Q => ∃ x, xs = [.str x] ∧ x.length = 1 ∧ Q (.int (x.cps.getD 0 0 : Nat)) H) := by
  intro pins s σ H xs us Q I r h
  obtain ⟨x, rfl, hz, q⟩ := h
  obtain ⟨u, rfl, t, rfl⟩ := vals1 r
  exact ord_of_one hz ⟨.int _, H, I.tok _, ⟨_, rfl⟩, q⟩
theorem call_chr : CallR X (.builtin "chr") (fun xs H Q => ∃ i, xs = [.int i] ∧ 0 ≤ i ∧ i ≤ 1114111 ∧ Q (.str ⟨#[i.toNat]⟩) H) := by
  intro pins s σ H xs us Q I r h
  obtain ⟨i, rfl, h0, h1, q⟩ := h
  obtain ⟨u, rfl, t, rfl⟩ := vals1 r
  exact chr_of_range h0 h1 ⟨.str _, H, I.tok _, ⟨_, rfl⟩, q⟩
/-- len of a str, a bytes, a list, a tuple -/
def LenV (K : PySem.W.Frag) (x : V) (H : Hp) (n : Nat) : Prop :=
  match x with
  | .str y => y.length ≤ sizeLine ∧ n = y.length
  | .byt y => y.size ≤ sizeLine ∧ n = y.size
  | .ref p => (∃ xs, SqL K H p xs ∧ n = xs.length) ∨ ∃ xs, SqT K H p xs ∧ n = xs.length
  | _ => False
theorem call_len : CallR X (.builtin "len") (fun xs H Q => ∃ x n, xs = [x] ∧ LenV X.K x H n ∧ Q (.int n) H) := by
  intro pins s σ H xs us Q I r h
  obtain ⟨x, n, rfl, e, q⟩ := h
  obtain ⟨u, rfl, rx⟩ := vals1 r
  have hl := line63
  have hs : sizeLine = 16777216 := sizeLine_eq
  cases x with
  | str y =>
    obtain ⟨t, rfl⟩ := rx
    obtain ⟨hy, e'⟩ : y.length ≤ sizeLine ∧ n = y.length := e
    subst e'
    exact len_str (by omega) ⟨.int _, H, I.tok _, ⟨_, rfl⟩, q⟩
  | byt y =>
    obtain ⟨t, rfl⟩ := rx
    obtain ⟨hy, e'⟩ : y.size ≤ sizeLine ∧ n = y.size := e
    subst e'
    exact PySem.W.len_bytes (by omega) ⟨.int _, H, I.tok _, ⟨_, rfl⟩, q⟩
  | ref p =>
    cases rx
    have e' : (∃ xs, SqL X.K H p xs ∧ n = xs.length) ∨ ∃ xs, SqT X.K H p xs ∧ n = xs.length := e
    rcases e' with ⟨xs, hx, e'⟩ | ⟨xs, hx, e'⟩
    · subst e'
      obtain ⟨its, r', pl, hz⟩ := I.list hx
      have hlen := r'.length
      exact Calls.call_len_list pl.isList (by simp only [List.size_toArray]; omega) ⟨.int xs.length, H, I.tok _, ⟨_, by simp only [List.size_toArray]; rw [hlen]⟩, q⟩
    · subst e'
      obtain ⟨its, r', pl, hz⟩ := I.tuple hx
      have hlen := r'.length
      exact len_tuple pl (by simp only [List.size_toArray]; omega) ⟨.int xs.length, H, I.tok _, ⟨_, by simp only [List.size_toArray]; rw [hlen]⟩, q⟩
  | _ => exact (show False from e).elim
/-- divmod: a new tuple -/
theorem call_divmod : CallR X (.builtin "divmod") (fun xs H Q => ∃ i j, xs = [.int i, .int j] ∧ CDiv i j ∧ ∀ p, H p = none → Q (.ref p) (upd H p (.tup [.int (i / j), .int (i % j)]))) := by
  intro pins s σ H xs us Q I r h
  obtain ⟨i, j, rfl, ⟨h1, h2⟩, q⟩ := h
  obtain ⟨u, w', rfl, ⟨t, rfl⟩, ⟨t', rfl⟩⟩ := vals2 r
  refine divmod_int (by omega) ?_ (.inl (PyProof.noPylong_small (by omega)))
  rw [Int.fdiv_eq_ediv_of_nonneg i (by omega), Int.fmod_eq_emod_of_nonneg i (by omega)]
  have hn : H s.heap.objs.size = none := I.hok.fresh (Nat.le_refl _)
  refine ⟨.ref s.heap.objs.size, _, ?_, rfl, q _ hn⟩
  refine I.laid (fun b o e => Heap.get?_push_of_some _ e) (Nat.le_refl _) ⟨by simp only [List.length_cons, List.length_nil]; rw [sizeLine_eq]; decide, [.int (i / j) s.toks, .int (i % j) (s.toks + 1)], .cons ⟨_, rfl⟩ (.cons ⟨_, rfl⟩ .nil), ?_⟩
  exact ⟨_, Heap.get?_push_size s.heap rfl, rfl, 0, rfl⟩
end
end L2

namespace L2
open PySem PySem.Spec PyProof.Rows

/-! ### an instance, its attributes a map -/
structure ObjM (h : Heap) (x dx C : Addr) (mA : Str → Option Value) : Prop where
  obj : h.get? x = some (PySem.W.instObj C dx)
  ns : h.Ns1 dx mA
  ne : dx ≠ x

theorem lookIn_ns {h : Heap} {dx : Addr} {mA : Str → Option Value} (n : h.Ns1 dx mA) : ∃ od, h.get? dx = some od ∧ ∀ name, PySem.W.lookIn name od = some (mA name) := by
  obtain ⟨o, es, ep, ho, hd, hk, _, hm⟩ := n
  refine ⟨o, ho, fun name => ?_⟩
  have e := hm name
  unfold nsFind findBy at e
  rw [← Array.find?_toList] at e
  unfold PySem.W.lookIn
  rw [hd]
  dsimp only
  split
  · rename_i y q
    rw [q] at e
    exact congrArg some e
  · rename_i q
    rw [q] at e
    have a : es.toList.any (·.refKey) = false := by
      rw [List.any_eq_false]
      intro y hy
      obtain ⟨z, t, hkey⟩ := hk y (Array.mem_toList_iff.mp hy)
      simp [DictEntry.refKey, hkey]
    have a' : ¬ es.toList.any (·.refKey) = true := by rw [a]; exact Bool.false_ne_true
    rw [if_neg a']
    exact congrArg some e

theorem ObjM.look {h : Heap} {x dx C : Addr} {mA : Str → Option Value} (I : ObjM h x dx C mA) : ∃ od, PySem.W.InstAt h x (PySem.W.instObj C dx) C (some od) ∧ ∀ name, PySem.W.lookIn name od = some (mA name) :=
  let ⟨od, ho, hl⟩ := lookIn_ns I.ns
  ⟨od, ⟨I.obj, rfl, rfl, ho⟩, hl⟩

section
variable {prog : Program} {w : World} {A : Around} {E : Value → Shared → Prop} {s : Shared} {K : PySem.W.Frag} {x dx C f : Addr} {mA : Str → Option Value} {name : Str} {v : Value}

theorem get_map {expr : Bool} {Q : Value → Shared → Prop} (X : K.In s.heap) (I : ObjM s.heap x dx C mA) (hg : PySem.W.plainGet K C name = true) (hh : PySem.W.hasDictIn K C = true)
    (ha : PySem.W.findIn K (.ref C) name = some none) (hv : mA name = some v) (hv' : PySem.W.handedIn v = true) (h : Q v { s with toks := s.toks + 1 }) :
    wpAny (model prog w) A (getAttr (.ref x) name expr) Q E s := by
  obtain ⟨od, J, hl⟩ := I.look
  exact PySem.W.get_value X J (PySem.W.plainGet_of hg).1 (PySem.W.findObj_own hh ha rfl (by rw [hl, hv])) hv' h

theorem get_const {expr : Bool} {a : Value} {Q : Value → Shared → Prop} (X : K.In s.heap) (I : ObjM s.heap x dx C mA) (hg : PySem.W.plainGet K C name = true) (hh : PySem.W.hasDictIn K C = true)
    (ha : PySem.W.findIn K (.ref C) name = some (some a)) (hn : PySem.W.specialIn K a "__get__" = some none) (hc : PySem.W.copiedNames.contains name = false) (hv : mA name = none) (hv' : PySem.W.handedIn a = true)
    (h : Q a { s with toks := s.toks + 1 }) : wpAny (model prog w) A (getAttr (.ref x) name expr) Q E s := by
  obtain ⟨od, J, hl⟩ := I.look
  exact PySem.W.get_value X J (PySem.W.plainGet_of hg).1 (PySem.W.findObj_cls hh ha hn hv' hc (by rw [hl, hv])) hv' h

theorem get_meth {pl : Sem Bool} {Q : Value × List Value → Shared → Prop} (X : K.In s.heap) (I : ObjM s.heap x dx C mA) (hg : PySem.W.plainGet K C name = true)
    (hf : PySem.W.findIn K (.ref C) name = some (some (.ref f))) (ht : PySem.W.isFn K (.ref f) = true) (hv : mA name = none) (h : Q (.ref f, [.ref x]) s) :
    wpAny (model prog w) A (getMethod (.ref x) name pl) Q E s := by
  obtain ⟨od, J, hl⟩ := I.look
  exact PySem.W.method_fn X J (PySem.W.plainGet_of hg).1 (PySem.W.plainGet_of hg).2 hf (beq_iff_eq.mp ht) (by show (PySem.W.lookIn name od).map (·.isSome) = some false; rw [hl, hv]; rfl) h

theorem set_map {ns : List Str} {Q : Unit → Shared → Prop} (X : K.In s.heap) (I : ObjM s.heap x dx C mA)
    (hs : PySem.W.findIn K (.ref C) "__setattr__" = some (some (.builtin "object.__setattr__"))) (hp : PySem.W.plainOver K C = true) (ht : PySem.W.takerIn K C name = some none) (hh : PySem.W.hasDictIn K C = true)
    (hw : PySem.Within mA ns) (hsz : ns.length ≤ sizeLine)
    (h : ∀ h', ObjM h' x dx C (fun y => if y = name then some v else mA y) → Heap.SameBut dx s.heap h' → Q () { s with heap := h', toks := s.toks + 2 }) :
    wpAny (model prog w) A (setAttr (.ref x) name v) Q E s := by
  obtain ⟨od, J, hl⟩ := I.look
  refine PySem.W.set_plain X J hs (PySem.W.osa_open (s := { s with toks := s.toks + 1 }) (r := none) X J hp ht fun b => ?_)
  obtain ⟨cd, hc, hd'⟩ := PySem.W.any_some hh
  have hx : s.heap.get? x = some ⟨.ref C, some dx, .plain, #[]⟩ := I.obj
  refine wpAny_bind (wpAny_pure (wpAny_bind (wpAny_bind (wpAny_loadPart hx (wpAny_bind (PySem.W.Looks.here (s := { s with toks := s.toks + 1 }) (PySem.W.looks_clsIn X hc) ?_))))))
  rw [hd']
  refine wpAny_pure (a := some dx) (wpAny_bind (wpAny_pure (wpAny_bind ?_)))
  refine wpAny_nsSet1 (s := { s with toks := s.toks + 1 }) I.ns fun h' hn2 hs2 => ?_
  obtain ⟨oD, esD, epD, hoD, hdD, hcD⟩ := hn2.count (PySem.Within.cons name v hw)
  refine wpAny_bind (wpAny_lookBehind hoD (by rw [hdD]; exact pastItsLine_dict (Nat.le_trans hcD (by rw [List.length_cons]; omega))) ?_)
  exact wpAny_pure (h _ ⟨(hs2.2 _ (Ne.symm I.ne)).trans I.obj, hn2, I.ne⟩ hs2)

/-- C(..): the dict at the heap's end, the instance behind it; then its __init__ -/
theorem make_map {R : Result → Shared → Prop} {vs : List Value} {kw : List (Str × Value)} (X : K.In s.heap) (hm : PySem.W.makesIn K C = true)
    (hi : PySem.W.findIn K (.ref C) "__init__" = some (some (.ref f))) (hf : PySem.W.typeIn K (.ref f) = some (.type "function"))
    (h : codeAny (model prog w) (A.under (.builtin "type.__call__" ⟨.ref C :: vs, kw⟩)) (.call (.ref f) ⟨.ref (s.heap.objs.size + 1) :: vs, kw⟩) (PySem.W.InitBack (s.heap.objs.size + 1) R)
      { s with heap := (s.heap.push PySem.W.emptyDict).push (PySem.W.instObj C s.heap.objs.size) }) :
    codeAny (model prog w) A (.call (.ref C) ⟨vs, kw⟩) R s := by
  obtain ⟨hh, g, d, t, os⟩ := s
  exact PySem.W.make_core (PySem.W.makes_of X hm) (PySem.W.looks_findIn X hi) (fun self => PySem.W.bind_fn X self hf) (.inl rfl) h
/-- C() where there is no __init__ but object's -/
theorem make_map0 {R : Result → Shared → Prop} (X : K.In s.heap) (hm : PySem.W.makesIn K C = true)
    (hi : PySem.W.findIn K (.ref C) "__init__" = some (some (.builtin "object.__init__")))
    (hb : ∀ self, PySem.W.Looks (model prog w) s.heap (bindSpecial (.builtin "object.__init__") self) (.builtin "object.__init__", [self]))
    (h : codeAny (model prog w) (A.under (.builtin "type.__call__" ⟨[.ref C], []⟩)) (.call (.builtin "object.__init__") ⟨[.ref (s.heap.objs.size + 1)], []⟩) (PySem.W.InitBack (s.heap.objs.size + 1) R)
      { s with heap := (s.heap.push PySem.W.emptyDict).push (PySem.W.instObj C s.heap.objs.size) }) :
    codeAny (model prog w) A (.call (.ref C) ⟨[], []⟩) R s := by
  obtain ⟨hh, g, d, t, os⟩ := s
  exact PySem.W.make_core (PySem.W.makes_of X hm) (PySem.W.looks_findIn X hi) hb (.inr ⟨rfl, rfl⟩) h
end

/-! ### the attributes as a list of pairs -/
def putF (f : Str) (v : V) : List (Str × V) → List (Str × V)
  | [] => [(f, v)]
  | (g, x) :: r => if g = f then (g, v) :: r else (g, x) :: putF f v r
theorem lookup_putF (f g : Str) (v : V) : ∀ fs : List (Str × V), (putF f v fs).lookup g = if g = f then some v else fs.lookup g
  | [] => by
    show List.lookup g [(f, v)] = _
    by_cases h : g = f
    · have hb : (g == f) = true := beq_iff_eq.mpr h
      simp only [List.lookup, hb, if_pos h]
    · have hb : (g == f) = false := beq_eq_false_iff_ne.mpr h
      simp only [List.lookup, hb, if_neg h]
  | (k, x) :: r => by
    have ih := lookup_putF f g v r
    rw [show putF f v ((k, x) :: r) = (if k = f then (k, v) :: r else (k, x) :: putF f v r) from rfl]
    by_cases hk : k = f
    · rw [if_pos hk]
      by_cases h : g = k
      · have hb : (g == k) = true := beq_iff_eq.mpr h
        simp only [List.lookup, hb, if_pos (h.trans hk)]
      · have hb : (g == k) = false := beq_eq_false_iff_ne.mpr h
        simp only [List.lookup, hb, if_neg (fun e : g = f => h (e.trans hk.symm))]
    · rw [if_neg hk]
      by_cases h : g = k
      · have hb : (g == k) = true := beq_iff_eq.mpr h
        simp only [List.lookup, hb, if_neg (fun e : g = f => hk (h.symm.trans e))]
      · have hb : (g == k) = false := beq_eq_false_iff_ne.mpr h
        simp only [List.lookup, hb]
        exact ih
theorem keys_putF (f : Str) (v : V) : ∀ fs : List (Str × V), f ∈ (putF f v fs).map (·.1) ∧ ∀ g, g ∈ fs.map (·.1) → g ∈ (putF f v fs).map (·.1)
  | [] => ⟨by simp [putF], fun g h => by simp at h⟩
  | (k, x) :: r => by
    obtain ⟨i1, i2⟩ := keys_putF f v r
    rw [show putF f v ((k, x) :: r) = (if k = f then (k, v) :: r else (k, x) :: putF f v r) from rfl]
    by_cases hk : k = f
    · rw [if_pos hk]
      subst hk
      exact ⟨by simp, fun g h => by simpa using h⟩
    · rw [if_neg hk]
      refine ⟨?_, fun g h => ?_⟩
      · rw [List.map_cons]
        exact List.mem_cons_of_mem _ i1
      · rw [List.map_cons] at h ⊢
        rcases List.mem_cons.mp h with e | e
        · exact List.mem_cons.mpr (.inl e)
        · exact List.mem_cons_of_mem _ (i2 g e)
theorem length_putF (f : Str) (v : V) : ∀ fs : List (Str × V), (putF f v fs).length ≤ fs.length + 1
  | [] => by simp [putF]
  | (k, x) :: r => by
    have ih := length_putF f v r
    rw [show putF f v ((k, x) :: r) = (if k = f then (k, v) :: r else (k, x) :: putF f v r) from rfl]
    by_cases hk : k = f
    · rw [if_pos hk, List.length_cons, List.length_cons]; omega
    · rw [if_neg hk, List.length_cons, List.length_cons]; omega

theorem RelO.some_of {v : V} {o : Option Value} (r : RelO (some v) o) : ∃ u, o = some u ∧ RelV v u := by
  cases o with
  | none => exact (show False from r).elim
  | some u => exact ⟨u, rfl, r⟩
theorem RelO.none_of {o : Option Value} (r : RelO none o) : o = none := by
  cases o with
  | none => rfl
  | some u => exact (show False from r).elim
theorem handed_of {v : V} {u : Value} (r : RelV v u) : PySem.W.handedIn u = true := by
  cases v with
  | non => cases (show u = Value.none from r); rfl
  | bl b => cases (show u = Value.bool b from r); rfl
  | int i => obtain ⟨t, e⟩ := (show ∃ t, u = Value.int i t from r); cases e; rfl
  | str x => obtain ⟨t, e⟩ := (show ∃ t, u = Value.str x t from r); cases e; rfl
  | byt b => obtain ⟨t, e⟩ := (show ∃ t, u = Value.bytes b t from r); cases e; rfl
  | flt b => obtain ⟨t, e⟩ := (show ∃ t, u = Value.float b t from r); cases e; rfl
  | ref a => cases (show u = Value.ref a from r); rfl
  | ty n => cases (show u = Value.type n from r); rfl

section
variable {P : Program} {w : World} {H H' : Hp} {h h' : Heap} {a C dx : Addr} {fs fs' : List (Str × V)}
theorem ins_get (hok : HOk P w H h) (e : H a = some (.ins C dx fs)) : ∃ mA, ObjM h a dx C mA ∧ (∀ f, RelO (fs.lookup f) (mA f)) ∧ PySem.Within mA (fs.map (·.1)) ∧ fs.length ≤ 1000 ∧ H dx = some (.own a) := by
  obtain ⟨d, z, ne, ob, mA, n, r, q⟩ := (show ObjOk P w H h a (.ins C dx fs) from hok a _ e)
  exact ⟨mA, ⟨ob, n, ne⟩, r, q, z, d⟩
end

/-! ### what of the text a class must have -/
structure Cls (K : PySem.W.Frag) (C : Addr) : Prop where
  pg : PySem.W.plainGet K C Str.empty = true
  hd : PySem.W.hasDictIn K C = true
  po : PySem.W.plainOver K C = true
  sa : PySem.W.findIn K (.ref C) "__setattr__" = some (some (.builtin "object.__setattr__"))
theorem Cls.get {K : PySem.W.Frag} {C : Addr} (c : Cls K C) (f : Str) : PySem.W.plainGet K C f = true := c.pg
/-- no class of it has the name -/
def NoAttr (K : PySem.W.Frag) (C : Addr) (f : Str) : Prop := PySem.W.findIn K (.ref C) f = some none
theorem NoAttr.taker {K : PySem.W.Frag} {C : Addr} {f : Str} (n : NoAttr K C f) : PySem.W.takerIn K C f = some none := by
  unfold PySem.W.takerIn
  rw [show PySem.W.findIn K (.ref C) f = some none from n]
  rfl
/-- a constant of the class -/
structure Con (K : PySem.W.Frag) (C : Addr) (f : Str) (v : V) (u : Value) : Prop where
  at_ : PySem.W.findIn K (.ref C) f = some (some u)
  rel : RelV v u
  get : PySem.W.specialIn K u "__get__" = some none
  cp : PySem.W.copiedNames.contains f = false
/-- a method: a plain def of the class or of one above it -/
structure Meth (K : PySem.W.Frag) (C : Addr) (m : Str) (f : Addr) : Prop where
  at_ : PySem.W.findIn K (.ref C) m = some (some (.ref f))
  fn : PySem.W.isFn K (.ref f) = true
  kp : PySem.W.keepIn K (.ref f) = true

section
variable {X : Cx} {pins : List (Addr × Obj)} {σ : St} {H : Hp} {s : Shared} {a C dx : Addr} {fs : List (Str × V)} {f : Str} {v : V} {A : Around} {E : Value → Shared → Prop}

theorem getattr_ok {b : Bool} {Q : Value → Shared → Prop} (I : Inv X pins σ H s) (e : H a = some (.ins C dx fs)) (c : Cls X.K C) (n : NoAttr X.K C f) (l : fs.lookup f = some v)
    (h : ∀ u s', Inv X pins σ H s' → RelV v u → Q u s') : wpAny (model X.prog X.w) A (getAttr (.ref a) f b) Q E s := by
  obtain ⟨mA, O, r, _, _, _⟩ := ins_get I.hok e
  obtain ⟨u, hu, ru⟩ := RelO.some_of (v := v) (o := mA f) (by rw [← l]; exact r f)
  exact get_map I.kIn O (c.get f) c.hd n hu (handed_of ru) (h u _ (I.tok _) ru)

theorem getcon_ok {b : Bool} {u : Value} {Q : Value → Shared → Prop} (I : Inv X pins σ H s) (e : H a = some (.ins C dx fs)) (c : Cls X.K C) (k : Con X.K C f v u) (l : fs.lookup f = none)
    (h : ∀ s', Inv X pins σ H s' → Q u s') : wpAny (model X.prog X.w) A (getAttr (.ref a) f b) Q E s := by
  obtain ⟨mA, O, r, _, _, _⟩ := ins_get I.hok e
  have hn : mA f = none := RelO.none_of (by rw [← l]; exact r f)
  exact get_const I.kIn O (c.get f) c.hd k.at_ k.get k.cp hn (handed_of k.rel) (h _ (I.tok _))

theorem getmeth_ok {m : Str} {g : Addr} {pl : Sem Bool} {Q : Value × List Value → Shared → Prop} (I : Inv X pins σ H s) (e : H a = some (.ins C dx fs)) (c : Cls X.K C) (k : Meth X.K C m g) (l : fs.lookup m = none)
    (h : Q (.ref g, [.ref a]) s) : wpAny (model X.prog X.w) A (getMethod (.ref a) m pl) Q E s := by
  obtain ⟨mA, O, r, _, _, _⟩ := ins_get I.hok e
  have hn : mA m = none := RelO.none_of (by rw [← l]; exact r m)
  exact get_meth I.kIn O (c.get m) k.at_ k.fn hn h

theorem setattr_ok {y : V} {u : Value} {Q : Unit → Shared → Prop} (I : Inv X pins σ H s) (e : H a = some (.ins C dx fs)) (c : Cls X.K C) (n : NoAttr X.K C f) (hl : fs.length < 1000) (ry : RelV y u)
    (h : ∀ s', Inv X pins σ (upd H a (.ins C dx (putF f y fs))) s' → Q () s') : wpAny (model X.prog X.w) A (setAttr (.ref a) f u) Q E s := by
  obtain ⟨mA, O, r, wi, _, ho⟩ := ins_get I.hok e
  have hz : (fs.map (·.1)).length ≤ sizeLine := by rw [List.length_map, sizeLine_eq]; omega
  refine set_map I.kIn O c.sa c.po n.taker c.hd wi hz fun h' O' sb => h _ ?_
  have hd : ∃ o, h'.get? dx = some o := let ⟨o, _, _, e', _⟩ := O'.ns; ⟨o, e'⟩
  refine I.write (x := a) (e := dx) (by rw [e]; exact True.intro) (.inr ho) (fun b q hb z => (sb.2 b hb).trans z) hd ?_
  refine ⟨by rw [upd_ne O.ne]; exact ho, ?_, O.ne, O'.obj, _, O'.ns, fun g => ?_, fun g hg => ?_⟩
  · have := length_putF f y fs; omega
  · show RelO ((putF f y fs).lookup g) (if g = f then some u else mA g)
    rw [lookup_putF]
    by_cases q : g = f
    · rw [if_pos q, if_pos q]; exact ry
    · rw [if_neg q, if_neg q]; exact r g
  · by_cases q : g = f
    · rw [q]; exact (keys_putF f y fs).1
    · refine (keys_putF f y fs).2 g (wi g fun z => hg ?_)
      show (if g = f then some u else mA g) = none
      rw [if_neg q]; exact z

/-- a new instance, tracked, without attributes -/
theorem Inv.made (I : Inv X pins σ H s) : Inv X pins σ (upd (upd H s.heap.objs.size (.own (s.heap.objs.size + 1))) (s.heap.objs.size + 1) (.ins C s.heap.objs.size []))
    { s with heap := (s.heap.push PySem.W.emptyDict).push (PySem.W.instObj C s.heap.objs.size) } := by
  have e1 : (s.heap.push PySem.W.emptyDict).get? s.heap.objs.size = some PySem.W.emptyDict := Heap.get?_push_size s.heap rfl
  have e2 : ((s.heap.push PySem.W.emptyDict).push (PySem.W.instObj C s.heap.objs.size)).get? (s.heap.objs.size + 1) = some (PySem.W.instObj C s.heap.objs.size) := by
    have := Heap.get?_push_size (s.heap.push PySem.W.emptyDict) (o := PySem.W.instObj C s.heap.objs.size) rfl
    rwa [Heap.size_push] at this
  have e3 : (s.heap.push PySem.W.emptyDict).Ns s.heap.objs.size (fun _ => none) := ⟨PySem.W.emptyDict, #[], _, e1, rfl, (fun e he => absurd he (by simp)), fun _ => rfl⟩
  have I1 := I.laid (a := s.heap.objs.size) (o := .own (s.heap.objs.size + 1)) (h' := s.heap.push PySem.W.emptyDict) (t' := s.toks) (fun b u q => Heap.get?_push_of_some _ q) (Nat.le_refl _) ⟨_, e1⟩
  refine I1.laid (a := s.heap.objs.size + 1) (o := .ins C s.heap.objs.size []) (t' := s.toks) (fun b u q => Heap.get?_push_of_some _ q) (Nat.le_of_eq (Heap.size_push _ _)) ?_
  have ne : s.heap.objs.size ≠ s.heap.objs.size + 1 := Nat.ne_of_lt (Nat.lt_succ_self _)
  refine ⟨by rw [upd_ne ne, upd_same], Nat.zero_le _, ne, e2, fun _ => none, (Heap.Ns1.of_empty e3).at fun o q => Heap.get?_push_of_some _ q, fun _ => True.intro, fun y hy => absurd rfl hy⟩

/-- e.f where nothing but the object is asked: through attributeBase (super) and the last hold -/
theorem attr_of {prog : Program} {w : World} {env : Env} {e : Expr} {f : Str} {pos : Pos} {s : Shared} {Q : Value → Shared → Prop} (hb : attributeBase e f env (eval e env) = eval e env)
    (h : wpAny (model prog w) A (eval e env) (fun o s₁ => wpAny (model prog w) A (getAttr o f true) Q E s₁) E s) : wpAny (model prog w) A (eval (.Attribute e f pos) env) Q E s :=
  Attribute_any_ h (by rw [arm_eval_Attribute, hb])
end

/-! ### readings and rules -/
/-- e.f, an attribute of the instance -/
def tFld (K : PySem.W.Frag) (ta : TE) (f : Str) : TE := fun σ H Q => ta σ H fun x H1 => ∃ a C dx fs v, x = .ref a ∧ H1 a = some (.ins C dx fs) ∧ Cls K C ∧ NoAttr K C f ∧ fs.lookup f = some v ∧ Q v H1
/-- e.f, a constant of the class -/
def tCon (K : PySem.W.Frag) (ta : TE) (f : Str) : TE := fun σ H Q => ta σ H fun x H1 => ∃ a C dx fs v u, x = .ref a ∧ H1 a = some (.ins C dx fs) ∧ Cls K C ∧ Con K C f v u ∧ fs.lookup f = none ∧ Q v H1
/-- e.f = value -/
def sFld (K : PySem.W.Frag) (ta tv : TE) (f : Str) : TS := fun D σ H => tv σ H fun y H1 => ta σ H1 fun x H2 => ∃ a C dx fs, x = .ref a ∧ H2 a = some (.ins C dx fs) ∧ Cls K C ∧ NoAttr K C f ∧ fs.length < 1000 ∧
  D.nx σ (upd H2 a (.ins C dx (putF f y fs)))
/-- an augmented operator on two values -/
def InOp (X : Cx) (op : Operator) (rd : V → V → Hp → VK → Prop) : Prop :=
  ∀ (pins : List (Addr × Obj)) (s : Shared) (σ : St) (H : Hp) (x y : V) (u v : Value) (Q : VK), Inv X pins σ H s → RelV x u → RelV y v → rd x y H Q → wpAny (model X.prog X.w) X.A (inplaceOp op u v) (EP X pins σ Q) X.xe s
/-- e.f op= value -/
def sFldAug (K : PySem.W.Frag) (ta tv : TE) (rd : V → V → Hp → VK → Prop) (f : Str) : TS := fun D σ H => ta σ H fun x H1 => ∃ a C dx fs v, x = .ref a ∧ H1 a = some (.ins C dx fs) ∧ Cls K C ∧ NoAttr K C f ∧ fs.lookup f = some v ∧
  tv σ H1 fun y H2 => rd v y H2 fun z H3 => ∃ dx' fs', H3 a = some (.ins C dx' fs') ∧ fs'.length < 1000 ∧ D.nx σ (upd H3 a (.ins C dx' (putF f z fs')))

section
variable {X : Cx} {o e value : Expr} {f : Str} {pos pos' tpos : Pos} {ta tv : TE}
theorem pe_fld (he : PE X e ta) (hb : attributeBase e f X.env (eval e X.env) = eval e X.env) : PE X (.Attribute e f pos) (tFld X.K ta f) := by
  intro pins s σ H Q I h
  refine attr_of hb (thn (he pins s σ H _ I h) fun u s1 ⟨x, H1, I1, rx, a, C, dx, fs, v, ex, ea, c, n, l, q⟩ => ?_)
  subst ex
  obtain rfl : u = Value.ref a := rx
  exact getattr_ok I1 ea c n l fun u' s2 I2 ru => ⟨v, H1, I2, ru, q⟩
theorem pe_con (he : PE X e ta) (hb : attributeBase e f X.env (eval e X.env) = eval e X.env) : PE X (.Attribute e f pos) (tCon X.K ta f) := by
  intro pins s σ H Q I h
  refine attr_of hb (thn (he pins s σ H _ I h) fun u s1 ⟨x, H1, I1, rx, a, C, dx, fs, v, u0, ex, ea, c, k, l, q⟩ => ?_)
  subst ex
  obtain rfl : u = Value.ref a := rx
  exact getcon_ok I1 ea c k l fun s2 I2 => ⟨v, H1, I2, k.rel, q⟩
theorem ps_fld (ha : PE X o ta) (hv : PE X value tv) (hs : swapsWith value (some (.Attribute o f pos')) pos.line X.env = pure false) : PS X (.Assign [.Attribute o f pos'] value pos) (sFld X.K ta tv f) := by
  intro pins s σ H D I h
  refine plainObj_wpAny_Assign_Attribute (thn (hv pins s σ H _ I h) fun u s1 ⟨y, H1, I1, ry, q⟩ => thn (ha pins s1 σ H1 _ I1 q) fun ov s2 ⟨x, H2, I2, rx, a, C, dx, fs, ex, ea, c, n, l, q2⟩ => ?_) hs
  subst ex
  obtain rfl : ov = Value.ref a := rx
  exact setattr_ok I2 ea c n l ry fun s3 I3 => ⟨σ, _, I3, q2⟩
theorem ps_fldaug {op : Operator} {rd : V → V → Hp → VK → Prop} (ha : PE X o ta) (hv : PE X value tv) (hop : InOp X op rd) : PS X (.AugAssign (.Attribute o f tpos) op value pos) (sFldAug X.K ta tv rd f) := by
  intro pins s σ H D I h
  refine wpAny_AugAssign_AttributeAny (thn (ha pins s σ H _ I h) fun ov s1 ⟨x, H1, I1, rx, a, C, dx, fs, v, ex, ea, c, n, l, q⟩ => ?_)
  subst ex
  obtain rfl : ov = Value.ref a := rx
  refine getattr_ok I1 ea c n l fun u s2 I2 ru => thn (hv pins s2 σ H1 _ I2 q) fun w3 s3 ⟨y, H2, I3, ry, q3⟩ => thn (hop pins s3 σ H2 v y u w3 _ I3 ru ry q3) fun w4 s4 ⟨z, H3, I4, rz, dx', fs', ea', l', q4⟩ => ?_
  exact setattr_ok I4 ea' c n l' rz fun s5 I5 => ⟨σ, _, I5, q4⟩
def rAdd : V → V → Hp → VK → Prop := fun x y H Q => ∃ i j, x = .int i ∧ y = .int j ∧ Q (.int (i + j)) H
def rSub : V → V → Hp → VK → Prop := fun x y H Q => ∃ i j, x = .int i ∧ y = .int j ∧ Q (.int (i - j)) H
theorem in_add : InOp X .Add rAdd := by
  rintro pins s σ H x y u v Q I rx ry ⟨i, j, rfl, rfl, q⟩
  obtain ⟨t, rfl⟩ := (show ∃ t, u = Value.int i t from rx)
  obtain ⟨t', rfl⟩ := (show ∃ t', v = Value.int j t' from ry)
  exact PyProof.Rows.iadd_int ⟨.int (i + j), H, I.tok _, ⟨_, rfl⟩, q⟩
theorem in_sub : InOp X .Sub rSub := by
  rintro pins s σ H x y u v Q I rx ry ⟨i, j, rfl, rfl, q⟩
  obtain ⟨t, rfl⟩ := (show ∃ t, u = Value.int i t from rx)
  obtain ⟨t', rfl⟩ := (show ∃ t', v = Value.int j t' from ry)
  exact PyProof.Rows.isub_int ⟨.int (i - j), H, I.tok _, ⟨_, rfl⟩, q⟩

/-- what is between an instance and its method: the tree of a method call -/
theorem methcall_of {pl : Sem Bool} {m : Str} {apos : Pos} {args : List Expr} {pins : List (Addr × Obj)} {s : Shared} {σ : St} {H : Hp} {Q : Value → Shared → Prop} {te : TE} (he : PE X e te) (I : Inv X pins σ H s)
    (h : te σ H fun x H1 => ∃ a C dx fs g, x = .ref a ∧ H1 a = some (.ins C dx fs) ∧ Cls X.K C ∧ Meth X.K C m g ∧ fs.lookup m = none ∧
      ∀ s1, Inv X pins σ H1 s1 → wpAny (model X.prog X.w) X.A (callWith pos (.ref g) [.ref a] (backTo pos (starEach args X.env)) (backToKw pos (keywordEach [] X.env))) Q X.xe s1)
    (ht : eval (.Call (.Attribute e m apos) args [] pos) X.env = (do
      let ov ← eval e X.env
      standAt apos.atName
      let (f, first) ← holding [ov] (getMethod ov m pl)
      callWith pos f first (backTo pos (starEach args X.env)) (backToKw pos (keywordEach [] X.env)))) :
    wpAny (model X.prog X.w) X.A (eval (.Call (.Attribute e m apos) args [] pos) X.env) Q X.xe s := by
  refine PySem.W.methodCall_KW (pl := pl) (thn (he pins s σ H _ I h) fun u s1 ⟨x, H1, I1, rx, a, C, dx, fs, g, ex, ea, c, k, l, q⟩ => ?_) ht
  subst ex
  obtain rfl : u = Value.ref a := rx
  exact getmeth_ok I1 ea c k l (q s1 I1)
end

/-! ### isinstance -/
section
variable {X : Cx} {pins : List (Addr × Obj)} {σ : St} {H : Hp} {s : Shared} {A : Around} {E : Value → Shared → Prop} {Q : Value → Shared → Prop} {c : Value} {b : Bool}
/-- the type of a value, as the fragment's deciders take it; for an instance its class -/
inductive TyOf (K : PySem.W.Frag) (H : Hp) : V → Value → Prop where
  | non : TyOf K H .non (.type "NoneType")
  | bl (x : Bool) : TyOf K H (.bl x) (.type "bool")
  | int (i : Int) : TyOf K H (.int i) (.type "int")
  | str (x : Str) : TyOf K H (.str x) (.type "str")
  | flt (x : UInt64) : TyOf K H (.flt x) (.type "float")
  | lst {a : Addr} {xs : List V} (e : H a = some (.lst xs)) : TyOf K H (.ref a) (.type "list")
  | frz {a : Addr} {o : Obj} {xs : List V} (e : H a = some (.frz o (.lst xs))) : TyOf K H (.ref a) (.type "list")
  | tup {a : Addr} {xs : List V} (e : H a = some (.tup xs)) : TyOf K H (.ref a) (.type "tuple")
  | dK {a : Addr} {kvs : List (Key × V)} (e : H a = some (.dK kvs)) : TyOf K H (.ref a) (.type "dict")
  | dT {a : Addr} {kvs : List (List Key × V)} (e : H a = some (.dT kvs)) : TyOf K H (.ref a) (.type "dict")
  | ins {a C dx : Addr} {fs : List (Str × V)} (e : H a = some (.ins C dx fs)) (cl : Cls K C) (ha : PySem.W.findIn K (.ref C) "__class__" = some (some (.builtin "object.__class__")))
      (hn : PySem.W.specialIn K (.builtin "object.__class__") "__get__" = some (some (.builtin "getset_descriptor.__get__"))) (htk : PySem.W.takesIn K (.builtin "object.__class__") = some true)
      (hm : PySem.W.mroIn K C (.type "object") = some true) : TyOf K H (.ref a) (.ref C)
/-- isinstance(x, c) for one class c, a built-in or an own one: kitOne's answer -/
theorem isinst_ok {x : V} {u t : Value} (I : Inv X pins σ H s) (rx : RelV x u) (ty : TyOf X.K H x t) (e : PySem.W.kitOne X.K t c = some b) (h : ∀ tk, Q (.bool b) { s with toks := tk }) :
    wpAny (model X.prog X.w) A (call (.builtin "isinstance") [u, c]) Q E s := by
  cases ty with
  | non => cases (show u = Value.none from rx); exact PySem.W.kia_one PySem.W.kitx_none I.kIn True.intro e (fun z => nomatch z) h
  | bl y => cases (show u = Value.bool y from rx); exact PySem.W.kia_one PySem.W.kitx_bool I.kIn True.intro e (fun z => nomatch z) h
  | int i => obtain ⟨t, q⟩ := (show ∃ t, u = Value.int i t from rx); cases q; exact PySem.W.kia_one PySem.W.kitx_int I.kIn True.intro e (fun z => nomatch z) h
  | str y => obtain ⟨t, q⟩ := (show ∃ t, u = Value.str y t from rx); cases q; exact PySem.W.kia_one PySem.W.kitx_str I.kIn True.intro e (fun z => nomatch z) h
  | flt y => obtain ⟨t, q⟩ := (show ∃ t, u = Value.float y t from rx); cases q; exact PySem.W.kia_one PySem.W.kitx_float I.kIn True.intro e (fun z => nomatch z) h
  | @lst a xs ea =>
    cases (show u = Value.ref a from rx)
    obtain ⟨_, _, n, _, h1⟩ := (show ObjOk X.prog X.w H s.heap a (.lst xs) from I.hok a _ ea)
    exact PySem.W.kia_one PySem.W.kitx_list I.kIn ⟨_, h1, rfl⟩ e (fun z => nomatch z) h
  | @frz a ob xs ea =>
    cases (show u = Value.ref a from rx)
    obtain ⟨_, _, _, n, _, h1⟩ := (show ObjOk X.prog X.w H s.heap a (.frz ob (.lst xs)) from I.hok a _ ea)
    exact PySem.W.kia_one PySem.W.kitx_list I.kIn ⟨_, h1, rfl⟩ e (fun z => nomatch z) h
  | @tup a xs ea =>
    cases (show u = Value.ref a from rx)
    obtain ⟨_, _, _, p⟩ := (show ObjOk X.prog X.w H s.heap a (.tup xs) from I.hok a _ ea)
    obtain ⟨o, h1, h2, _⟩ := p
    exact PySem.W.kia_one PySem.W.kitx_tuple I.kIn ⟨o, h1, h2⟩ e (fun z => nomatch z) h
  | @dK a kvs ea =>
    cases (show u = Value.ref a from rx)
    obtain ⟨_, _, vs, _, p⟩ := (show ObjOk X.prog X.w H s.heap a (.dK kvs) from I.hok a _ ea)
    obtain ⟨o, es, ep, h1, h2, _⟩ := p
    exact PySem.W.kia_one PySem.W.kitx_dict I.kIn ⟨o, h1, h2.1⟩ e (fun z => nomatch z) h
  | @dT a kvs ea =>
    cases (show u = Value.ref a from rx)
    obtain ⟨_, _, xs, _, o, es, ep, h1, h2, _⟩ := (show ObjOk X.prog X.w H s.heap a (.dT kvs) from I.hok a _ ea)
    exact PySem.W.kia_one PySem.W.kitx_dict I.kIn ⟨o, h1, h2.1⟩ e (fun z => nomatch z) h
  | @ins a C dx fs ea cl ha hn htk hm =>
    cases (show u = Value.ref a from rx)
    obtain ⟨mA, O, _⟩ := ins_get I.hok ea
    obtain ⟨od, J, _⟩ := O.look
    exact PySem.W.kia_one (PySem.W.kitx_own (cl.get _) cl.hd ha hn htk hm) I.kIn J e (fun z => nomatch z) h
end
end L2

namespace L2
open PySem PySem.Spec PyProof.Rows

/-! ### room -/
structure Room (k : Nat) (A : Around) : Prop where
  hd : A.handled = none
  dp : A.depth + 3 * k + 5 < recursionLimit
  un : A.units + 16 * k + 200 < cLine
theorem Room.mono {j k : Nat} {A : Around} (r : Room k A) (h : j ≤ k) : Room j A := ⟨r.hd, by have := r.dp; omega, by have := r.un; omega⟩
theorem Room.deeper {k : Nat} {A : Around} (r : Room (k + 1) A) (env : Env) : Room k (A.deeper env) :=
  ⟨r.hd, by have := r.dp; show A.depth + 1 + 3 * k + 5 < _; omega, by have := r.un; show A.units + 3 + 16 * k + 200 < _; omega⟩
theorem Room.in1 {k : Nat} {A : Around} (r : Room (k + 1) A) : Room k A.in1 :=
  ⟨r.hd, by have := r.dp; show A.depth + 3 * k + 5 < _; omega, by have := r.un; show A.units + 1 + 16 * k + 200 < _; omega⟩
theorem make_depth {A : Around} {C : Addr} {us : List Value} {kw : List (Str × Value)} : (A.under (.builtin "type.__call__" ⟨.ref C :: us, kw⟩)).depth = A.depth + 1 := by
  first | rfl | simp [Around.under, Code.weight, Code.isCreation, Code.isGuard, Code.isCaller, Code.frames, Code.isFrame, guardIds]
theorem make_units {A : Around} {C : Addr} {us : List Value} {kw : List (Str × Value)} : (A.under (.builtin "type.__call__" ⟨.ref C :: us, kw⟩)).units = A.units + 1 := by
  first | rfl | simp [Around.under, Code.cUnits, Code.frames, Code.isFrame]
theorem Room.make {k : Nat} {A : Around} (r : Room (k + 1) A) (C : Addr) (us : List Value) (kw : List (Str × Value)) : Room k (A.under (.builtin "type.__call__" ⟨.ref C :: us, kw⟩)) :=
  ⟨r.hd, by have := r.dp; rw [make_depth]; omega, by have := r.un; rw [make_units]; omega⟩
theorem Room.depth {k : Nat} {A : Around} (r : Room k A) : A.depth < recursionLimit := by have := r.dp; omega
theorem Room.units {k : Nat} {A : Around} (r : Room k A) : A.units + 64 < cLine := by have := r.un; omega
theorem Room.units0 {k : Nat} {A : Around} (r : Room k A) : A.units < cLine := by have := r.un; omega

/-! ### argument lists and displays -/
def tNil : TA := fun _ H Q => Q [] H
def tCons (ta : TE) (tr : TA) : TA := fun σ H Q => ta σ H fun x H1 => tr σ H1 fun xs H2 => Q (x :: xs) H2
section
variable {X : Cx} {e : Expr} {es : List Expr} {te : TE} {t : TA} {pos : Pos}
theorem pa_nil : PA X [] tNil := fun _ _ _ _ H Q I h => Calls.spliced_nil ⟨[], H, I, .nil, h⟩
theorem pa_cons (ha : PE X e te) (hr : PA X es t) (hs : starEach (e :: es) X.env = (false, eval e X.env) :: starEach es X.env := by rfl) : PA X (e :: es) (tCons te t) := by
  intro pos pins s σ H Q I h
  rw [hs]
  show wpAny _ _ (spliced ((false, eval e X.env) :: backTo pos (starEach es X.env))) _ _ s
  refine Calls.spliced_cons (thn (ha pins s σ H _ I h) fun u s1 ⟨x, H1, I1, r1, q1⟩ => ?_)
  exact thn (hr pos pins s1 σ H1 _ I1 q1) fun us s2 ⟨xs, H2, I2, r2, q2⟩ => ⟨x :: xs, H2, I2, .cons r1 r2, q2⟩

/-- a tuple, a list of written items -/
def tTup (t : TA) : TE := fun σ H Q => t σ H fun xs H1 => xs.length ≤ sizeLine ∧ ∀ p, H1 p = none → Q (.ref p) (upd H1 p (.tup xs))
def tLst (t : TA) : TE := fun σ H Q => t σ H fun xs H1 => xs.length ≤ sizeLine ∧ ∀ p, H1 p = none → Q (.ref p) (upd H1 p (.lst xs))
theorem pe_tup {x1} (h : PA X es t) : PE X (.Tuple es x1 pos) (tTup t) := by
  intro pins s σ H Q I hq
  refine wpAny_Tuple_spliced (thn (h pos pins s σ H _ I hq) fun us s1 ⟨xs, H1, I1, r, z, q⟩ => ⟨by rw [← r.length]; exact z, ?_⟩)
  have hf : H1 s1.heap.objs.size = none := I1.hok.fresh (Nat.le_refl _)
  refine ⟨.ref s1.heap.objs.size, upd H1 s1.heap.objs.size (.tup xs), I1.laid (t' := s1.toks) (fun b u e => Heap.get?_push_of_some _ e) (Nat.le_refl _) ?_, rfl, q _ hf⟩
  exact ⟨z, us, r, ⟨_, Heap.get?_push_size _ rfl, rfl, _, rfl⟩⟩
theorem pe_lst (h : PA X es t) : PE X (.List es pos) (tLst t) := by
  intro pins s σ H Q I hq
  refine wpAny_List_spliced (thn (h pos pins s σ H _ I hq) fun us s1 ⟨xs, H1, I1, r, z, q⟩ => ⟨by rw [← r.length]; exact z, ?_⟩)
  have hf : H1 s1.heap.objs.size = none := I1.hok.fresh (Nat.le_refl _)
  refine ⟨.ref s1.heap.objs.size, upd H1 s1.heap.objs.size (.lst xs), I1.laid (t' := s1.toks) (fun b u e => Heap.get?_push_of_some _ e) (Nat.le_refl _) ?_, rfl, q _ hf⟩
  exact ⟨z, us, 0, r, Heap.get?_push_size _ rfl⟩
end

/-! ### what a def promises -/
/-- a def's promise: the bound arguments in the parameters' order, the heap, the wanted end, the wanted exception -/
abbrev Sp := List V → Hp → VK → XK → Prop
/-- how an exception lies behind a call (file 08 gives it): the callers' frames, abstract heap and state ahead of the call, the wish, the exception, the state -/
abbrev CXT := List Env → Hp → Shared → XK → Value → Shared → Prop

/-- the state at a call -/
structure Env0 (P : Program) (w : World) (K : PySem.W.Frag) (mg : Str → Option Value) (base : Heap) (A : Around) (outer : List Env) (s : Shared) (H : Hp) : Prop where
  frames : A.frames = some outer
  mod : Mod K mg base
  bs : ∀ b o, base.get? b = some o → s.heap.get? b = some o ∧ H b = none
  bsz : base.objs.size ≤ s.heap.objs.size
  funs : s.heap.FunFrames base outer
  frf : ∀ b ∈ frs outer, H b = none
  hok : HOk P w H s.heap
  bare : AllBare s.gens
/-- a call's end -/
def CE (outer : List Env) (P : Program) (w : World) (H : Hp) (s : Shared) (Q : VK) (u : Value) (s' : Shared) : Prop :=
  ∃ v H', s'.os = s.os ∧ AllBare s'.gens ∧ Un (frs outer) [] H H' s.heap s'.heap ∧ HOk P w H' s'.heap ∧ RelV v u ∧ Q v H'
def CR (CX : CXT) (outer : List Env) (P : Program) (w : World) (H : Hp) (s : Shared) (Q : VK) (E : XK) (r : Result) (s' : Shared) : Prop :=
  match r with
  | .ok (.ret u) => CE outer P w H s Q u s'
  | .ok _ => False
  | .error e => CX outer H s E e s'
structure FnOk (P : Program) (w : World) (K : PySem.W.Frag) (mg : Str → Option Value) (base : Heap) (CX : CXT) (k : Nat) (f : Addr) (fd : FuncData) (ps : List Str) (sp : Sp) : Prop where
  len : ∀ vs H Q E, sp vs H Q E → vs.length = ps.length
  run : ∀ (A : Around) (outer : List Env) (s : Shared) (H : Hp) (args : Args) (us : List Value) (vs : List V) (Q : VK) (E : XK), Room k A → Env0 P w K mg base A outer s H → BindsTo s fd args (ps.zip us) → Vals vs us → sp vs H Q E →
    codeAny (model P w) A (.call (.ref f) args) (CR CX outer P w H s Q E) s
theorem FnOk.mono {P : Program} {w : World} {K : PySem.W.Frag} {mg : Str → Option Value} {base : Heap} {CX : CXT} {j k : Nat} {f : Addr} {fd : FuncData} {ps : List Str} {sp : Sp} (F : FnOk P w K mg base CX j f fd ps sp) (h : j ≤ k) :
    FnOk P w K mg base CX k f fd ps sp := ⟨F.len, fun A outer s H args us vs Q E hr => F.run A outer s H args us vs Q E (hr.mono h)⟩
/-- a weaker promise -/
theorem FnOk.imp {P : Program} {w : World} {K : PySem.W.Frag} {mg : Str → Option Value} {base : Heap} {CX : CXT} {k : Nat} {f : Addr} {fd : FuncData} {ps : List Str} {sp sp' : Sp} (F : FnOk P w K mg base CX k f fd ps sp)
    (h : ∀ vs H Q E, sp' vs H Q E → sp vs H Q E) : FnOk P w K mg base CX k f fd ps sp' :=
  ⟨fun vs H Q E q => F.len vs H Q E (h _ _ _ _ q), fun A outer s H args us vs Q E hr he hb hv hs => F.run A outer s H args us vs Q E hr he hb hv (h _ _ _ _ hs)⟩

theorem Env0.make {P : Program} {w : World} {K : PySem.W.Frag} {mg : Str → Option Value} {base : Heap} {A : Around} {outer : List Env} {s : Shared} {H : Hp} (e : Env0 P w K mg base A outer s H) (C : Addr) (us : List Value) (kw : List (Str × Value)) :
    Env0 P w K mg base (A.under (.builtin "type.__call__" ⟨.ref C :: us, kw⟩)) outer s H := ⟨by first | exact e.frames | (simpa [Around.under, Code.envs, Code.isFrame, pushEnvs] using e.frames), e.mod, e.bs, e.bsz, e.funs, e.frf, e.hok, e.bare⟩
theorem Env0.in1 {P : Program} {w : World} {K : PySem.W.Frag} {mg : Str → Option Value} {base : Heap} {A : Around} {outer : List Env} {s : Shared} {H : Hp} (e : Env0 P w K mg base A outer s H) :
    Env0 P w K mg base A.in1 outer s H := ⟨e.frames, e.mod, e.bs, e.bsz, e.funs, e.frf, e.hok, e.bare⟩

section
variable {X : Cx} {pins : List (Addr × Obj)} {σ : St} {H : Hp} {s s' : Shared}
/-- from a body: what a callee wants -/
theorem Inv.env0 (I : Inv X pins σ H s) : Env0 X.prog X.w X.K X.mg X.base X.A X.stack s H :=
  ⟨I.ok.frames, I.ok.mod, I.bs, Nat.le_trans I.ok.bsz I.sz, I.stack, I.stkFree, I.hok, I.bare⟩
/-- behind a call -/
theorem Inv.after {Q : VK} {u : Value} (I : Inv X pins σ H s) (h : CE X.stack X.prog X.w H s Q u s') : EP X pins σ Q u s' := by
  obtain ⟨v, H', os, bare, un, hok, r, q⟩ := h
  obtain ⟨hh, g, d, t, os'⟩ := s'
  obtain rfl : os' = s.os := os
  exact ⟨v, H', I.call (h' := hh) (g' := g) (d' := d) (t' := t) (ch := []) un hok bare (fun b z => absurd z (by simp)), r, q⟩
end

/-! ### calls -/
/-- f(..): the written arguments, then the defaults dvs; E: what is wanted of an exception -/
def tCall (sp : Sp) (dvs : List V) (E : XK) (t : TA) : TE := fun σ H Q => t σ H fun vs H1 => sp (vs ++ dvs) H1 Q E
/-- o.m(..) of an instance of the class at C -/
def tMeth (C : Addr) (m : Str) (sp : Sp) (dvs : List V) (E : XK) (ta : TE) (t : TA) : TE := fun σ H Q => ta σ H fun x H1 => ∃ a dx fs, x = .ref a ∧ H1 a = some (.ins C dx fs) ∧ fs.lookup m = none ∧
  t σ H1 fun vs H2 => sp (x :: (vs ++ dvs)) H2 Q E
/-- C(..): a new instance and its dict, then __init__ -/
def tMake (C : Addr) (sp : Sp) (dvs : List V) (E : XK) (t : TA) : TE := fun σ H Q => t σ H fun vs H1 => ∀ x dx, H1 x = none → H1 dx = none → dx ≠ x →
  sp (.ref x :: (vs ++ dvs)) (upd (upd H1 dx (.own x)) x (.ins C dx [])) (fun v H2 => v = .non ∧ Q (.ref x) H2) E

/-- how the parameters are bound: us the positional arguments, kw the keywords' values by name, ds the defaults that fill up -/
def Binds (K : PySem.W.Frag) (fd : FuncData) (ps : List Str) (ds : List Value) : Prop :=
  ∀ (s : Shared) (us : List Value), K.In s.heap → (us ++ ds).length = ps.length → BindsTo s fd ⟨us, []⟩ (ps.zip (us ++ ds))
/-- every parameter is given -/
theorem Binds.all {K : PySem.W.Frag} {fd : FuncData} {ps : List Str} (h : ∀ us : List Value, us.length = ps.length → bindArgs fd ⟨us, []⟩ = pure (ps.zip us)) : Binds K fd ps [] := fun s us _ hl => by
  rw [List.append_nil] at hl ⊢
  exact .of_eq (h us hl)

/-- an exception of a callee reaches what this body wants of exceptions -/
def Passes (CX : CXT) (X : Cx) (E : XK) : Prop := ∀ (pins : List (Addr × Obj)) (σ : St) (H : Hp) (s : Shared) (e : Value) (s' : Shared), Inv X pins σ H s → CX X.stack H s E e s' → X.xe e s'

section
variable {X : Cx} {CX : CXT} {k : Nat} {f C : Addr} {fd : FuncData} {ps : List Str} {sp : Sp} {dvs : List V} {ds : List Value} {E : XK} {x m : Str} {p pos apos : Pos} {e o : Expr} {es : List Expr} {ta : TE} {t : TA}

/-- the callee runs -/
theorem run_fn {pins : List (Addr × Obj)} {σ : St} {H : Hp} {s : Shared} {Q : VK} {us : List Value} {vs : List V} (F : FnOk X.prog X.w X.K X.mg X.base CX k f fd ps sp) (hr : Room k X.A) (hb : Binds X.K fd ps ds) (hd : Vals dvs ds) (hx : Passes CX X E)
    (I : Inv X pins σ H s) (r : Vals vs us) (h : sp (vs ++ dvs) H Q E) : wpAny (model X.prog X.w) X.A (call (.ref f) us) (EP X pins σ Q) X.xe s := by
  have r2 : Vals (vs ++ dvs) (us ++ ds) := r.append hd
  have hl : (us ++ ds).length = ps.length := by rw [← r2.length]; exact F.len _ _ _ _ h
  refine wpAny_call (codeAny_mono (F.run X.A X.stack s H ⟨us, []⟩ (us ++ ds) (vs ++ dvs) Q E hr I.env0 (hb s us I.kIn hl) r2 h) fun r s' hq => ?_)
  cases r with
  | error e => exact hx pins σ H s e s' I hq
  | ok fl =>
    cases fl with
    | ret u => exact I.after hq
    | next => exact False.elim hq
    | brk => exact False.elim hq
    | cont => exact False.elim hq

theorem pe_call (F : FnOk X.prog X.w X.K X.mg X.base CX k f fd ps sp) (hr : Room k X.A) (hg : Gl X x) (hm : X.mg x = some (.ref f)) (hk : PySem.W.keepIn X.K (.ref f) = true) (hb : Binds X.K fd ps ds) (hd : Vals dvs ds) (hx : Passes CX X E)
    (ha : PA X (e :: es) t) (hdb : (x == ("__debug__" : Str)) = false := by decide) (he : starEach (e :: es) X.env = (false, eval e X.env) :: starEach es X.env := by rfl) (hpl : (backTo pos (starEach es X.env)).any (·.1) = false := by rfl) :
    PE X (.Call (.Name x p) (e :: es) [] pos) (tCall sp dvs E t) := by
  intro pins s σ H Q I h
  refine wpAny_Call_Name_kw (ld_glob I hg hm ?_ hdb)
  refine PySem.W.callWith_K (h₀ := X.base) I.ok.mod.kin hk (thn (ha pos pins s σ H _ I h) fun us s1 ⟨vs, H1, I1, r, q⟩ => ⟨I1.kIn, ?_⟩) he hpl
  exact run_fn F hr hb hd hx I1 r q
theorem pe_call0 (F : FnOk X.prog X.w X.K X.mg X.base CX k f fd ps sp) (hr : Room k X.A) (hg : Gl X x) (hm : X.mg x = some (.ref f)) (hk : PySem.W.keepIn X.K (.ref f) = true) (hb : Binds X.K fd ps ds) (hd : Vals dvs ds) (hx : Passes CX X E)
    (hdb : (x == ("__debug__" : Str)) = false := by decide) : PE X (.Call (.Name x p) [] [] pos) (tCall sp dvs E tNil) := by
  intro pins s σ H Q I h
  refine wpAny_Call_Name_kw (ld_glob I hg hm ?_ hdb)
  exact PySem.W.callWith_K0 I.kIn hk (run_fn (us := []) F hr hb hd hx I .nil h)

/-- o.m(e, ..) -/
theorem pe_meth {pl : Sem Bool} (he : PE X o ta) (c : Cls X.K C) (hm : Meth X.K C m f) (F : FnOk X.prog X.w X.K X.mg X.base CX k f fd ps sp) (hr : Room k X.A) (hb : Binds X.K fd ps ds) (hd : Vals dvs ds) (hx : Passes CX X E) (ha : PA X (e :: es) t)
    (hst : starEach (e :: es) X.env = (false, eval e X.env) :: starEach es X.env := by rfl) (hpl : (backTo pos (starEach es X.env)).any (·.1) = false := by rfl)
    (ht : eval (.Call (.Attribute o m apos) (e :: es) [] pos) X.env = (do
      let ov ← eval o X.env
      standAt apos.atName
      let (f, first) ← holding [ov] (getMethod ov m pl)
      callWith pos f first (backTo pos (starEach (e :: es) X.env)) (backToKw pos (keywordEach [] X.env))) := by rfl) :
    PE X (.Call (.Attribute o m apos) (e :: es) [] pos) (tMeth C m sp dvs E ta t) := by
  intro pins s σ H Q I h
  refine PySem.W.methodCall_KW (pl := pl) (thn (he pins s σ H _ I h) fun u s1 ⟨x, H1, I1, rx, a, dx, fs, ex, ea, l, q⟩ => ?_) ht
  subst ex
  obtain rfl : u = Value.ref a := rx
  refine getmeth_ok I1 ea c hm l ?_
  refine PySem.W.callWith_K (first := [.ref a]) (h₀ := X.base) I.ok.mod.kin hm.kp (thn (ha pos pins s1 σ H1 _ I1 q) fun us s2 ⟨vs, H2, I2, r, q2⟩ => ⟨I2.kIn, ?_⟩) hst hpl
  exact run_fn (us := .ref a :: us) (vs := .ref a :: vs) F hr hb hd hx I2 (.cons rfl r) q2
/-- o.m() -/
theorem pe_meth0 {pl : Sem Bool} (he : PE X o ta) (c : Cls X.K C) (hm : Meth X.K C m f) (F : FnOk X.prog X.w X.K X.mg X.base CX k f fd ps sp) (hr : Room k X.A) (hb : Binds X.K fd ps ds) (hd : Vals dvs ds) (hx : Passes CX X E)
    (ht : eval (.Call (.Attribute o m apos) [] [] pos) X.env = (do
      let ov ← eval o X.env
      standAt apos.atName
      let (f, first) ← holding [ov] (getMethod ov m pl)
      callWith pos f first (backTo pos (starEach [] X.env)) (backToKw pos (keywordEach [] X.env))) := by rfl) :
    PE X (.Call (.Attribute o m apos) [] [] pos) (tMeth C m sp dvs E ta tNil) := by
  intro pins s σ H Q I h
  refine PySem.W.methodCall_KW (pl := pl) (thn (he pins s σ H _ I h) fun u s1 ⟨x, H1, I1, rx, a, dx, fs, ex, ea, l, q⟩ => ?_) ht
  subst ex
  obtain rfl : u = Value.ref a := rx
  refine getmeth_ok I1 ea c hm l ?_
  exact PySem.W.callWith_K0 (first := [.ref a]) I1.kIn hm.kp (run_fn (us := [.ref a]) (vs := [.ref a]) F hr hb hd hx I1 (.cons rfl .nil) q)

/-- what a class must have to be made -/
structure Mk (K : PySem.W.Frag) (C f : Addr) : Prop where
  makes : PySem.W.makesIn K C = true
  init : PySem.W.findIn K (.ref C) "__init__" = some (some (.ref f))
  fn : PySem.W.isFn K (.ref f) = true
  kp : PySem.W.keepIn K (.ref C) = true

theorem run_make {pins : List (Addr × Obj)} {σ : St} {H : Hp} {s : Shared} {Q : VK} {us : List Value} {vs : List V} (M : Mk X.K C f) (F : FnOk X.prog X.w X.K X.mg X.base CX k f fd ps sp) (hr : Room (k + 1) X.A) (hb : Binds X.K fd ps ds) (hd : Vals dvs ds)
    (hx : Passes CX X E) (I : Inv X pins σ H s) (r : Vals vs us)
    (h : ∀ x dx, H x = none → H dx = none → dx ≠ x → sp (.ref x :: (vs ++ dvs)) (upd (upd H dx (.own x)) x (.ins C dx [])) (fun v H2 => v = .non ∧ Q (.ref x) H2) E) :
    wpAny (model X.prog X.w) X.A (call (.ref C) us) (EP X pins σ Q) X.xe s := by
  have hq := h (s.heap.objs.size + 1) s.heap.objs.size (I.hok.fresh (Nat.le_succ _)) (I.hok.fresh (Nat.le_refl _)) (Nat.ne_of_lt (Nat.lt_succ_self _))
  have I2 := Inv.made (C := C) I
  have r2 : Vals (V.ref (s.heap.objs.size + 1) :: (vs ++ dvs)) (Value.ref (s.heap.objs.size + 1) :: (us ++ ds)) := .cons rfl (r.append hd)
  have hl : (Value.ref (s.heap.objs.size + 1) :: us ++ ds).length = ps.length := by
    have e := r2.length
    rw [F.len _ _ _ _ hq] at e
    exact e.symm
  refine wpAny_call (make_map (f := f) I.kIn M.makes M.init (beq_iff_eq.mp M.fn) (codeAny_mono (F.run _ X.stack _ _ ⟨Value.ref (s.heap.objs.size + 1) :: us, []⟩ (Value.ref (s.heap.objs.size + 1) :: (us ++ ds)) _ _ E (hr.make C us [])
    (I2.env0.make C us []) (hb _ (Value.ref (s.heap.objs.size + 1) :: us) I2.kIn hl) r2 hq) fun r s' hq' => ?_))
  cases r with
  | error e => exact hx pins σ _ _ e s' I2 hq'
  | ok fl =>
    cases fl with
    | ret u =>
      obtain ⟨v, H', I3, rv, ev, q3⟩ := I2.after hq'
      subst ev
      exact ⟨rv, ⟨V.ref (s.heap.objs.size + 1), H', I3, rfl, q3⟩⟩
    | next => exact False.elim hq'
    | brk => exact False.elim hq'
    | cont => exact False.elim hq'
theorem pe_make (M : Mk X.K C f) (F : FnOk X.prog X.w X.K X.mg X.base CX k f fd ps sp) (hr : Room (k + 1) X.A) (hg : Gl X x) (hm : X.mg x = some (.ref C)) (hb : Binds X.K fd ps ds) (hd : Vals dvs ds) (hx : Passes CX X E)
    (ha : PA X (e :: es) t) (hdb : (x == ("__debug__" : Str)) = false := by decide) (he : starEach (e :: es) X.env = (false, eval e X.env) :: starEach es X.env := by rfl) (hpl : (backTo pos (starEach es X.env)).any (·.1) = false := by rfl) :
    PE X (.Call (.Name x p) (e :: es) [] pos) (tMake C sp dvs E t) := by
  intro pins s σ H Q I h
  refine wpAny_Call_Name_kw (ld_glob I hg hm ?_ hdb)
  refine PySem.W.callWith_K (h₀ := X.base) I.ok.mod.kin M.kp (thn (ha pos pins s σ H _ I h) fun us s1 ⟨vs, H1, I1, r, q⟩ => ⟨I1.kIn, ?_⟩) he hpl
  exact run_make M F hr hb hd hx I1 r q
theorem pe_make0 (M : Mk X.K C f) (F : FnOk X.prog X.w X.K X.mg X.base CX k f fd ps sp) (hr : Room (k + 1) X.A) (hg : Gl X x) (hm : X.mg x = some (.ref C)) (hb : Binds X.K fd ps ds) (hd : Vals dvs ds) (hx : Passes CX X E)
    (hdb : (x == ("__debug__" : Str)) = false := by decide) : PE X (.Call (.Name x p) [] [] pos) (tMake C sp dvs E tNil) := by
  intro pins s σ H Q I h
  refine wpAny_Call_Name_kw (ld_glob I hg hm ?_ hdb)
  exact PySem.W.callWith_K0 I.kIn M.kp (run_make (us := []) M F hr hb hd hx I .nil h)
end

/-! ### keywords -/
/-- the values of the keywords, from the left -/
def PK (X : Cx) (kws : List Keyword) (t : TA) : Prop :=
  ∀ (pos : Pos) (pins : List (Addr × Obj)) (s : Shared) (σ : St) (H : Hp) (Q : List V → Hp → Prop), Inv X pins σ H s → t σ H Q → wpAny (model X.prog X.w) X.A (evalAll ((backToKw pos (keywordEach kws X.env)).map (·.2))) (AP X pins σ Q) X.xe s
section
variable {X : Cx} {CX : CXT} {k : Nat} {f C : Addr} {fd : FuncData} {ps ks : List Str} {sp : Sp} {E : XK} {x m : Str} {p pos apos kpos : Pos} {e o : Expr} {es : List Expr} {kws : List Keyword} {te ta : TE} {t tk : TA} {nm : Option Str}
theorem pk_nil : PK X [] tNil := fun _ _ _ _ H Q I h => wpAny_evalAll_nil ⟨[], H, I, .nil, h⟩
theorem pk_cons (ha : PE X e te) (hr : PK X kws t) : PK X (⟨nm, e, kpos⟩ :: kws) (tCons te t) := by
  intro pos pins s σ H Q I h
  show wpAny _ _ (evalAll ((do let v ← eval e X.env; standAt pos; pure v) :: (backToKw pos (keywordEach kws X.env)).map (·.2))) _ _ s
  refine wpAny_evalAll_cons (wpAny_bind (thn (ha pins s σ H _ I h) fun u s1 ⟨x, H1, I1, r1, q1⟩ => wpAny_bind (wpAny_standAt (wpAny_pure ?_))))
  exact thn (hr pos pins s1 σ H1 _ I1 q1) fun us s2 ⟨xs, H2, I2, r2, q2⟩ => ⟨x :: xs, H2, I2, .cons r1 r2, q2⟩

/-- how a call with keywords binds: g puts the positional values us and the keywords' values ws (names ks) in the parameters' order, defaults among them -/
structure KBinds (K : PySem.W.Frag) (fd : FuncData) (ps ks : List Str) (g : List Value → List Value → List Value) (gV : List V → List V → List V) : Prop where
  to : ∀ (s : Shared) (us ws : List Value), K.In s.heap → (g us ws).length = ps.length → BindsTo s fd ⟨us, ks.zip ws⟩ (ps.zip (g us ws))
  rel : ∀ {vs : List V} {us : List Value} {zs : List V} {ws : List Value}, Vals vs us → Vals zs ws → Vals (gV vs zs) (g us ws)
def tCallK (sp : Sp) (gV : List V → List V → List V) (E : XK) (t tk : TA) : TE := fun σ H Q => t σ H fun vs H1 => tk σ H1 fun zs H2 => sp (gV vs zs) H2 Q E
variable {g : List Value → List Value → List Value} {gV : List V → List V → List V}
theorem run_fnk {pins : List (Addr × Obj)} {σ : St} {H : Hp} {s : Shared} {Q : VK} {us ws : List Value} {vs zs : List V} (F : FnOk X.prog X.w X.K X.mg X.base CX k f fd ps sp) (hr : Room k X.A) (hb : KBinds X.K fd ps ks g gV) (hx : Passes CX X E)
    (I : Inv X pins σ H s) (r : Vals vs us) (rz : Vals zs ws) (h : sp (gV vs zs) H Q E) : wpAny (model X.prog X.w) X.A (call (.ref f) us (ks.zip ws)) (EP X pins σ Q) X.xe s := by
  have r2 := hb.rel r rz
  have hl : (g us ws).length = ps.length := by rw [← r2.length]; exact F.len _ _ _ _ h
  refine wpAny_call (codeAny_mono (F.run X.A X.stack s H ⟨us, ks.zip ws⟩ (g us ws) (gV vs zs) Q E hr I.env0 (hb.to s us ws I.kIn hl) r2 h) fun r s' hq => ?_)
  cases r with
  | error e => exact hx pins σ H s e s' I hq
  | ok fl =>
    cases fl with
    | ret u => exact I.after hq
    | next => exact False.elim hq
    | brk => exact False.elim hq
    | cont => exact False.elim hq
/-- f(e, .., k = v, ..) -/
theorem pe_callK (F : FnOk X.prog X.w X.K X.mg X.base CX k f fd ps sp) (hr : Room k X.A) (hg : Gl X x) (hm : X.mg x = some (.ref f)) (hk : PySem.W.keepIn X.K (.ref f) = true) (hb : KBinds X.K fd ps ks g gV) (hx : Passes CX X E)
    (ha : PA X (e :: es) t) (hkw : PK X kws tk) (hall : (backToKw pos (keywordEach kws X.env)).all (·.1.isSome) = true := by rfl) (hks : (backToKw pos (keywordEach kws X.env)).filterMap (·.1) = ks := by rfl)
    (hdb : (x == ("__debug__" : Str)) = false := by decide) (he : starEach (e :: es) X.env = (false, eval e X.env) :: starEach es X.env := by rfl)
    (hpl : ((backTo pos (starEach (e :: es) X.env)).any (·.1) || (backToKw pos (keywordEach kws X.env)).any (·.1.isNone)) = false := by rfl) :
    PE X (.Call (.Name x p) (e :: es) kws pos) (tCallK sp gV E t tk) := by
  intro pins s σ H Q I h
  refine wpAny_Call_Name_kw (ld_glob I hg hm ?_ hdb)
  refine PySem.W.callWith_KW (h₀ := X.base) I.ok.mod.kin hk hall (thn (ha pos pins s σ H _ I h) fun us s1 ⟨vs, H1, I1, r, q⟩ => ?_) hpl he
  refine thn (hkw pos pins s1 σ H1 _ I1 q) fun ws s2 ⟨zs, H2, I2, rz, q2⟩ => ⟨I2.kIn, ?_⟩
  rw [hks]
  exact run_fnk F hr hb hx I2 r rz q2
end

/-! ### a def's body keeps its promise -/
/-- names: the parameters first -/
structure FnScope (N P : List Str) (sc : Scope) : Prop where
  kind : sc.kind = .function
  co : sc.isCoroutine = false
  gen : sc.isGenerator = false
  nd : N.Nodup
  pre : N.take P.length = P
  par : ∀ x ∈ P, sc.names.lookup x = some .local ∨ sc.names.lookup x = some .cell
  nofree : ∀ y ∈ sc.names, y.2 ≠ .free

theorem bindL_out {kindOf : Str → Option NameKind} {x : Str} : ∀ {binds : List (Str × Value)} {m : Str → Option Value}, (∀ v, (x, v) ∉ binds) → bindL kindOf binds m x = m x
  | [], _, _ => rfl
  | (n, v) :: r, m, h => by
    unfold bindL
    rw [bindL_out fun w hw => h w (List.mem_cons_of_mem _ hw)]
    split
    · have : x ≠ n := by rintro rfl; exact h v List.mem_cons_self
      simp [this]
    · rfl
theorem bindC_out {kindOf : Str → Option NameKind} {x : Str} : ∀ {binds : List (Str × Value)} {m : Str → Option Value}, (∀ v, (x, v) ∉ binds) → bindC kindOf binds m x = m x
  | [], _, _ => rfl
  | (n, v) :: r, m, h => by
    unfold bindC
    rw [bindC_out fun w hw => h w (List.mem_cons_of_mem _ hw)]
    split
    · rfl
    · have : x ≠ n := by rintro rfl; exact h v List.mem_cons_self
      simp [this]
theorem bindL_get {kindOf : Str → Option NameKind} {x : Str} {v : Value} : ∀ {P : List Str} {vs : List Value} {i : Nat} {m : Str → Option Value}, P.Nodup → P[i]? = some x → vs[i]? = some v → kindOf x = some .local →
    bindL kindOf (P.zip vs) m x = some v
  | [], _, _, _, _, h, _, _ => by simp at h
  | _ :: _, [], _, _, _, _, h, _ => by simp at h
  | p :: P, w :: vs, 0, m, nd, h1, h2, hk => by
    simp at h1 h2; subst h1; subst h2
    show bindL kindOf ((p, w) :: P.zip vs) m p = _
    unfold bindL
    rw [bindL_out fun v hv => (List.nodup_cons.mp nd).1 (List.of_mem_zip hv).1, if_pos hk]
    simp
  | p :: P, w :: vs, i + 1, m, nd, h1, h2, hk => by
    show bindL kindOf ((p, w) :: P.zip vs) m x = _
    unfold bindL
    exact bindL_get (i := i) (List.nodup_cons.mp nd).2 (by simpa using h1) (by simpa using h2) hk
theorem bindC_get {kindOf : Str → Option NameKind} {x : Str} {v : Value} : ∀ {P : List Str} {vs : List Value} {i : Nat} {m : Str → Option Value}, P.Nodup → P[i]? = some x → vs[i]? = some v → kindOf x ≠ some .local →
    bindC kindOf (P.zip vs) m x = some v
  | [], _, _, _, _, h, _, _ => by simp at h
  | _ :: _, [], _, _, _, _, h, _ => by simp at h
  | p :: P, w :: vs, 0, m, nd, h1, h2, hk => by
    simp at h1 h2; subst h1; subst h2
    show bindC kindOf ((p, w) :: P.zip vs) m p = _
    unfold bindC
    rw [bindC_out fun v hv => (List.nodup_cons.mp nd).1 (List.of_mem_zip hv).1, if_neg hk]
    simp
  | p :: P, w :: vs, i + 1, m, nd, h1, h2, hk => by
    show bindC kindOf ((p, w) :: P.zip vs) m x = _
    unfold bindC
    exact bindC_get (i := i) (List.nodup_cons.mp nd).2 (by simpa using h1) (by simpa using h2) hk

/-- the names' values at the entry -/
def start (N : List Str) (vs : List V) : St := vs.map some ++ List.replicate (N.length - vs.length) none

/-- the context of a def's body, at its entry; an exception leaves the frame, then lies as CX says -/
def cxOf (CX : CXT) (P : Program) (w : World) (K : PySem.W.Frag) (mg : Str → Option Value) (base : Heap) (N : List Str) (qual : Str) (scope : Scope) (f : Addr) (cd : Value) (A : Around) (outer : List Env) (s : Shared) (H : Hp) (E : XK) : Cx where
  prog := P
  w := w
  K := K
  mg := mg
  base := base
  A := A.deeper (envOfC qual scope s.heap.objs.size f cd)
  N := N
  s₀ := s
  H₀ := H
  env := envOfC qual scope s.heap.objs.size f cd
  outer := outer
  stack := envOfC qual scope s.heap.objs.size f cd :: outer
  ex := []
  calm := true
  fn := fun _ => true
  pn := []
  xe := fun e s' => wpAny (model P w) (A.deeper (envOfC qual scope s.heap.objs.size f cd)) (leaving (envOfC qual scope s.heap.objs.size f cd) e) (fun _ s'' => CX outer H s E e s'') (fun e' s'' => CX outer H s E e' s'') s'

theorem cell_has {sc : Scope} {n : Nat} {x : Str} (h : sc.names.lookup x = some .cell) : ∃ c, (cellsFrom n sc.names []).lookup x = some c := by
  have q := PySem.W.cellsFrom_some sc.names n [] (.inl h)
  exact Option.isSome_iff_exists.mp q

theorem inv_start {CX : CXT} {P : Program} {w : World} {K : PySem.W.Frag} {mg : Str → Option Value} {base : Heap} {N ps : List Str} {qual : Str} {scope : Scope} {f : Addr} {cd : Value} {A : Around} {outer : List Env} {s s1 : Shared} {H : Hp} {E : XK} {us : List Value} {vs : List V}
    (S : FnScope N ps scope) (hd : A.handled = none) (e0 : Env0 P w K mg base A outer s H) (hl : vs.length = ps.length) (r : Vals vs us)
    (x : InCallC s s.heap.objs.size (bindL (envOfC qual scope s.heap.objs.size f cd).kindOf (ps.zip us) fun _ => none) (cellsFrom (s.heap.objs.size + 1) scope.names []) (bindC (envOfC qual scope s.heap.objs.size f cd).kindOf (ps.zip us) fun _ => none) s1) :
    Inv (cxOf CX P w K mg base N qual scope f cd A outer s H E) [] (start N vs) H s1 := by
  have hpl : ps.length ≤ N.length := by have := congrArg List.length S.pre; rw [List.length_take] at this; omega
  obtain ⟨h1, tk, rfl, hk⟩ := x.done
  have noA : ∀ b : Addr, b ∉ (cxOf CX P w K mg base N qual scope f cd A outer s H E).ex := fun b z => absurd (show b ∈ ([] : List Addr) from z) (by simp)
  refine ⟨⟨e0.mod, S.kind, rfl, rfl, Nat.le_refl _, fun y z c h1 h2 => ?_, fun y hy => ?_, fun y c _ h => ?_, fun _ => hd, Around.frames_deeper e0.frames, .inr ⟨rfl, rfl⟩, fun b z => absurd z (noA b), e0.bs, e0.bsz, fun b _ _ => noA b, fun b z => absurd z (noA b), e0.funs, e0.frf⟩,
    rfl, e0.bare, Un.kept hk, ⟨_, x.toInCall.ns, fun i y v h1 h2 h3 => ?_⟩, fun y c h => ⟨_, x.cell y c h⟩, e0.hok.fresh (Nat.le_refl _), fun y c h => ?_, fun p hp => absurd (show p ∈ ([] : List (Addr × Obj)) from hp) (by simp), e0.hok.kept hk, ?_⟩
  · exact name_of_addr x.apart (PySem.mem_of_lookup h1) (PySem.mem_of_lookup h2)
  · have hy : scope.names.lookup y = some .cell ∨ scope.names.lookup y = some .free := hy
    rcases hy with hy | hy
    · exact cell_has hy
    · exact absurd rfl (S.nofree _ (PySem.mem_of_lookup hy))
  · exact Nat.le_of_lt (x.above y c (PySem.mem_of_lookup h))
  · have hi : i < vs.length := by
      unfold start at h2
      by_cases hi : i < vs.length
      · exact hi
      · rw [List.getElem?_append_right (by simpa using hi)] at h2
        rw [List.getElem?_replicate] at h2
        split at h2 <;> cases h2
    have ha : vs[i]? = some v := by
      unfold start at h2
      rw [List.getElem?_append_left (by simpa using hi), List.getElem?_map] at h2
      cases e : vs[i]? with
      | none => rw [e] at h2; cases h2
      | some a => rw [e] at h2; cases h2; rfl
    obtain ⟨u, hu, rv⟩ := r.get ha
    have hp : ps[i]? = some y := by
      rw [← S.pre, List.getElem?_take_of_lt (by omega)]; exact h1
    have ndP : ps.Nodup := by rw [← S.pre]; exact S.nd.sublist (List.take_sublist _ _)
    refine ⟨u, rv, ?_⟩
    rcases S.par y (List.mem_of_getElem? hp) with k | k
    · exact .inl ⟨k, bindL_get ndP hp hu k⟩
    · obtain ⟨c, e⟩ := cell_has (n := s.heap.objs.size + 1) k
      refine .inr ⟨.inl k, c, e, ?_⟩
      have q := x.cell y c e
      rw [bindC_get ndP hp hu (by show scope.names.lookup y ≠ _; rw [k]; decide)] at q
      exact q
  · exact e0.hok.fresh (Nat.le_of_lt (x.above y c (PySem.mem_of_lookup h)))
  · unfold start
    show _ = N.length
    rw [List.length_append, List.length_map, List.length_replicate]
    omega

/-- THE RULE: a def (or a method) of the text, by its body. The body's reading t is chosen for each entry; it is run at the parameters' values -/
theorem fn_of {CX : CXT} {P : Program} {w : World} {K : PySem.W.Frag} {mg : Str → Option Value} {base : Heap} {k : Nat} {f : Addr} {name qual : Str} {params : Arguments} {body : List Stmt} {scope : Scope} {dV kV doc pm cdv ct oc : Value} {an od : Option Addr}
    {osl : Array (Option Value)} {N ps : List Str} {sp : Sp} (lk : K.lookup f = some ⟨oc, od, .func (PySem.W.fnOf name qual params body scope dV kV doc pm an cdv ct), osl⟩) (hcd : PySem.W.codeIn K cdv qual = true) (S : FnScope N ps scope)
    (len : ∀ vs H Q E, sp vs H Q E → vs.length = ps.length)
    (hbody : ∀ (A : Around) (outer : List Env) (s : Shared) (H : Hp) (vs : List V) (Q : VK) (E : XK), Room k (A.deeper (envOfC qual scope s.heap.objs.size f cdv)) → sp vs H Q E →
      ∃ t, PSs (cxOf CX P w K mg base N qual scope f cdv A outer s H E) body t ∧ t { nx := fun _ H' => Q .non H', rt := Q } (start N vs) H) :
    FnOk P w K mg base CX (k + 1) f (PySem.W.fnOf name qual params body scope dV kV doc pm an cdv ct) ps sp := by
  refine ⟨len, fun A outer s H args us vs Q E hr e0 hb r hsp => ?_⟩
  have hl := len _ _ _ _ hsp
  have KX : K.In s.heap := e0.mod.kin.keeps fun b o e => (e0.bs b o e).1
  have lim : s.heap.NoLimit := e0.mod.nolimit.keeps fun b o e => (e0.bs b o e).1
  have hkind : ∀ y ∈ ps.zip us, scope.names.lookup y.1 = some .local ∨ (scope.names.lookup y.1 = some .cell ∧ ((cellsFrom (s.heap.objs.size + 1) scope.names []).lookup y.1).isSome = true) := fun ⟨n, v⟩ hy => by
    rcases S.par n (List.of_mem_zip hy).1 with q | q
    · exact .inl q
    · exact .inr ⟨q, PySem.W.cellsFrom_some _ _ _ (.inl q)⟩
  refine codeAny_call_function hr.depth (KX _ _ lk) rfl S.co S.gen rfl (PySem.W.codeRec_of KX hcd) (hb _ _ _ _ ?_)
  refine wpAny_newFunctionEnv_cells S.kind hkind fun env he s1 x => ?_
  subst he
  refine ⟨lim.keeps x.toInCall.keep, codeAny_func ?_⟩
  obtain ⟨t, ht, hq⟩ := hbody A outer s H vs Q E (hr.deeper _) hsp
  have I : Inv (cxOf CX P w K mg base N qual scope f cdv A outer s H E) [] (start N vs) H s1 := inv_start S hr.hd e0 hl r x
  refine wpAny_mono (ht [] s1 (start N vs) H _ I hq) (fun fl s' hs => ?_) fun e s' hs => hs
  have fin : ∀ {σ' : St} {H' : Hp} {v : V} {u : Value}, Inv (cxOf CX P w K mg base N qual scope f cdv A outer s H E) [] σ' H' s' → RelV v u → Q v H' → CE outer P w H s Q u s' :=
    fun {σ' H' v u} J rv q => ⟨v, H', J.os, J.bare, J.base, J.hok, rv, q⟩
  cases fl with
  | ret u =>
    obtain ⟨v, σ', H', J, rv, q⟩ := hs
    exact fin J rv q
  | next =>
    obtain ⟨σ', H', J, q⟩ := hs
    exact fin (v := V.non) (u := Value.none) J rfl q
  | brk =>
    obtain ⟨_, _, _, q⟩ := hs
    exact False.elim q
  | cont =>
    obtain ⟨_, _, _, q⟩ := hs
    exact False.elim q
end L2

namespace L2
open PySem PySem.Spec PyProof.Rows
section
variable {X : Cx} {x : Str} {p pos : Pos} {e : Expr} {es : List Expr} {t : TA} {id T : String} {r : List V → Hp → VK → Prop}

def tCB (r : List V → Hp → VK → Prop) (t : TA) : TE := fun σ H Q => t σ H fun vs H1 => r vs H1 Q
/-- f(e, ..), f a built-in function -/
theorem pe_callB (hc : CallR X (.builtin id) r) (hg : Gl X x) (hm : X.mg x = none) (hv : bootBuiltins x = some (.builtin id)) (ha : PA X (e :: es) t) (hn : x ≠ "__name__" := by decide) (hdb : (x == ("__debug__" : Str)) = false := by decide)
    (he : starEach (e :: es) X.env = (false, eval e X.env) :: starEach es X.env := by rfl) (hpl : (backTo pos (starEach es X.env)).any (·.1) = false := by rfl) : PE X (.Call (.Name x p) (e :: es) [] pos) (tCB r t) := by
  intro pins s σ H Q I h
  refine wpAny_Call_Name_kw (ld_blt I hg hm hv ?_ hn hdb)
  exact PyProof.Rows.callWith_builtin1 (thn (ha pos pins s σ H _ I h) fun us s1 ⟨vs, H1, I1, r1, q1⟩ => hc pins s1 σ H1 vs us Q I1 r1 q1) he hpl
/-- T(e, ..), T a built-in type -/
theorem pe_callTy (hc : CallR X (.type T) r) (hg : Gl X x) (hm : X.mg x = none) (hv : bootBuiltins x = some (.type T)) (ha : PA X (e :: es) t) (hn : x ≠ "__name__" := by decide) (hdb : (x == ("__debug__" : Str)) = false := by decide)
    (he : starEach (e :: es) X.env = (false, eval e X.env) :: starEach es X.env := by rfl) (hpl : (backTo pos (starEach es X.env)).any (·.1) = false := by rfl) : PE X (.Call (.Name x p) (e :: es) [] pos) (tCB r t) := by
  intro pins s σ H Q I h
  refine wpAny_Call_Name_kw (ld_blt I hg hm hv ?_ hn hdb)
  exact PyProof.Rows.callWith_type1 (thn (ha pos pins s σ H _ I h) fun us s1 ⟨vs, H1, I1, r1, q1⟩ => hc pins s1 σ H1 vs us Q I1 r1 q1) he hpl
/-- T() -/
theorem pe_callTy0 (hc : CallR X (.type T) r) (hg : Gl X x) (hm : X.mg x = none) (hv : bootBuiltins x = some (.type T)) (hn : x ≠ "__name__" := by decide) (hdb : (x == ("__debug__" : Str)) = false := by decide) :
    PE X (.Call (.Name x p) [] [] pos) (tCB r tNil) := by
  intro pins s σ H Q I h
  refine wpAny_Call_Name_kw (ld_blt I hg hm hv ?_ hn hdb)
  exact PyProof.Rows.callWith_type0 (hc pins s σ H [] [] Q I .nil h)
end
end L2

namespace HT
open PySem PyProof.Rows

/-- t < u of tuples of ints -/
def lexLt : List Int → List Int → Bool
  | [], [] => false
  | [], _ :: _ => true
  | _ :: _, [] => false
  | x :: xs, y :: ys => if x = y then lexLt xs ys else decide (x < y)
theorem lexLt_cons (x y : Int) (xs ys : List Int) : lexLt (x :: xs) (y :: ys) = if x = y then lexLt xs ys else decide (x < y) := rfl
theorem lexLt_nil_nil : lexLt [] [] = false := rfl
theorem lexLt_nil_cons (y : Int) (ys : List Int) : lexLt [] (y :: ys) = true := rfl
theorem lexLt_cons_nil (x : Int) (xs : List Int) : lexLt (x :: xs) [] = false := rfl

theorem eqAt_int (A : Around) (s : Shared) (a : Int) (t : Tok) (c : Int) (u : Tok) : ∃ e, SeqAt.EqAt A s (.int a t) (.int c u) e ∧ (e = true ↔ a = c) :=
  ⟨(a == c), SeqAt.EqAt.int_int a t c u, by simp⟩
theorem rcLt_int (A : Around) (s : Shared) (a : Int) (t : Tok) (c : Int) (u : Tok) (prog : Program) (w : World) (E : Value → Shared → Prop) (Q : Value → Shared → Prop) (h : Q (.bool (decide (a < c))) s) :
    wpAny (model prog w) A (richCompare .Lt (.int a t) (.int c u)) Q E s :=
  (PyProof.Rows.lt_int h : wpAny (model prog w) A (compareOp .Lt (.int a t) (.int c u)) Q E s)

section
open PySem.SeqAt
open PySem.AutoSeq1 (wpAny_loadPart')
open PySem.MeetsSeq PySem.MeetsSeq2 PySem.MeetsSeq3

theorem tuple_lt_ints (l b : Addr) (items items2 : Array Value) (n n2 : Nat) (dd dd2 : Option Addr) (sl sl2 : Array (Option Value)) (ns ms : List Int) (hi : IntsAre items.toList ns) (hj : IntsAre items2.toList ms) :
    Meets (Builtin.«tuple.__lt__» ⟨[.ref l, .ref b], []⟩)
      (fun _ R s => s.heap.get? l = some { cls := .type "tuple", dict := dd, data := .seq items n, slots := sl } ∧ s.heap.get? b = some { cls := .type "tuple", dict := dd2, data := .seq items2 n2, slots := sl2 } ∧
        R (.ok (.ret (.bool (lexLt ns ms)))) s) :=
  .of_wp fun prog w A R s h => by
    obtain ⟨hp, g, d, tk, os⟩ := s; obtain ⟨hl, hb, h⟩ := h
    have f2 := AutoSeq1.sub_tuple_tuple
    have z1 : items.size = ns.length := by rw [← hi.length]; simp
    have z2 : items2.size = ms.length := by rw [← hj.length]; simp
    wp_walk using wpAny_loadPart' hl, wpAny_loadPart' hb, wpAny_forIn_list _ (fun rest b s' => b.1 = none ∧ s' = ⟨hp, g, d, tk, os⟩ ∧ ∃ (vs ws : List Value) (ns' ms' : List Int), rest = vs.zip ws ∧
      IntsAre vs ns' ∧ IntsAre ws ms' ∧ ns'.length + items2.size = ms'.length + items.size ∧ R (.ok (.ret (.bool (lexLt ns' ms')))) ⟨hp, g, d, tk, os⟩) _
    case turn =>
      rintro ⟨y, x⟩ rest b s' ⟨hb', rfl, vs, ws, ns', ms', hz, hvi, hwi, hlen, hR⟩
      cases hvi with
      | nil => rw [List.zip_nil_left] at hz; cases hz
      | cons a t hvi' =>
        cases hwi with
        | nil => rw [List.zip_nil_right] at hz; cases hz
        | cons c u hwi' =>
          rw [List.zip_cons_cons] at hz
          injection hz with hyx hrest
          injection hyx with hy hx
          subst hy hx
          rw [lexLt_cons] at hR
          simp only [List.length_cons] at hlen
          obtain ⟨e, he, hiff⟩ := eqAt_int A.in1 ⟨hp, g, d, tk, os⟩ a t c u
          refine wpAny_bind (he prog w _ _ ?_)
          cases e with
          | true =>
            rw [if_pos (hiff.mp rfl)] at hR
            wp_walk
            exact ⟨rfl, rfl, _, _, _, _, hrest, hvi', hwi', by omega, hR⟩
          | false =>
            rw [if_neg (fun q => absurd (hiff.mpr q) Bool.false_ne_true)] at hR
            have hri := rcLt_int A.in1 ⟨hp, g, d, tk, os⟩ a t c u prog w
            wp_walk using hri
            exact ⟨_, rfl, by simpa using hR⟩
    case fin =>
      rintro ⟨b1, b2⟩ s' ⟨hb', rfl, vs, ws, ns', ms', hz, hvi, hwi, hlen, hR⟩
      simp only at hb'
      subst hb'
      have hv : lexLt ns' ms' = decide (items.size < items2.size) := by
        cases hvi with
        | nil =>
          cases hwi with
          | nil =>
            simp only [List.length_nil] at hlen
            rw [lexLt_nil_nil]
            exact (decide_eq_false (by omega)).symm
          | cons c u hw =>
            simp only [List.length_nil, List.length_cons] at hlen
            rw [lexLt_nil_cons]
            exact (decide_eq_true (by omega)).symm
        | cons a t hv =>
          cases hwi with
          | nil =>
            simp only [List.length_nil, List.length_cons] at hlen
            rw [lexLt_cons_nil]
            exact (decide_eq_false (by omega)).symm
          | cons c u hw =>
            rw [List.zip_cons_cons] at hz
            cases hz
      rw [hv] at hR
      wp_walk
      exact ⟨_, rfl, by simpa [Builtin.Tuple.tupleCompareSizes] using hR⟩
    case h =>
      exact ⟨rfl, rfl, items.toList, items2.toList, ns, ms, rfl, hi, hj, by omega, h⟩
end

section
variable {prog : Program} {w : World} {A : Around} {E : Value → Shared → Prop} {s : Shared}

theorem lt_tupInts {l b : Addr} {items items2 : Array Value} {ns ms : List Int} {Q : Value → Shared → Prop} (hl : IsTup s.heap l items) (hb : IsTup s.heap b items2) (hi : IntsAre items.toList ns) (hj : IntsAre items2.toList ms)
    (hu : A.units < cLine) (h : Q (.bool (lexLt ns ms)) s) : wpAny (model prog w) A (compareOp .Lt (.ref l) (.ref b)) Q E s := by
  obtain ⟨⟨cls, dd, data, sl⟩, ho, hc, n, hd⟩ := id hl
  obtain ⟨⟨cls2, dd2, data2, sl2⟩, ho2, hc2, n2, hd2⟩ := id hb
  simp only at hc hd hc2 hd2
  subst hc hd hc2 hd2
  exact richCompare_meets_room (op := .Lt) ⟨_, ho, rfl⟩ ⟨_, ho2, rfl⟩ PySem.F.slot_tuple_lt PySem.F.entry_tuple_lt (PySem.F.args_tuple_lt_2 _ _) (tuple_lt_ints l b items items2 n n2 dd dd2 sl sl2 ns ms hi hj)
    ⟨ho, ho2, show Value.bool (lexLt ns ms) ≠ Value.notImplemented ∧ Q (.bool (lexLt ns ms)) s from ⟨(fun x => nomatch x), h⟩⟩ hu

/-- t + u, t not empty -/
theorem cat_tup {t b : Addr} {vs ws : List Value} {Q : Value → Shared → Prop} (ht : IsTup s.heap t vs.toArray) (hb : IsTup s.heap b ws.toArray) (hv : vs ≠ [])
    (h1 : ws = [] → Q (.ref t) s) (h2 : ws ≠ [] → Q (.ref s.heap.objs.size) { s with heap := s.heap.push { cls := .type "tuple", data := .seq (vs ++ ws).toArray } })
    (hsz : vs.length + ws.length ≤ sizeLine) : wpAny (model prog w) A (binaryOp .Add (.ref t) (.ref b)) Q E s := by
  obtain ⟨⟨cls, dd, data, sl⟩, ho, hc, n, hd⟩ := id ht
  obtain ⟨⟨cls2, dd2, data2, sl2⟩, ho2, hc2, n2, hd2⟩ := id hb
  simp only at hc hd hc2 hd2
  subst hc hd hc2 hd2
  have e : vs.toArray ++ ws.toArray = (vs ++ ws).toArray := by simp
  by_cases hw : ws = []
  · exact concat_meets ⟨_, ho, rfl⟩ ⟨_, ho2, rfl⟩ noFill_tuple_add seq_tuple_add PySem.F.slot_tuple_add PySem.F.entry_tuple_add (PySem.F.args_tuple_add_2 _ _)
      (tuple_addW1 t b vs.toArray ws.toArray n n2 dd dd2 sl sl2 (by simpa using hv) (by simp [hw])) ⟨ho, ho2, h1 hw⟩
  · refine concat_meets ⟨_, ho, rfl⟩ ⟨_, ho2, rfl⟩ noFill_tuple_add seq_tuple_add PySem.F.slot_tuple_add PySem.F.entry_tuple_add (PySem.F.args_tuple_add_2 _ _)
      (tuple_addW2 t b vs.toArray ws.toArray n n2 dd dd2 sl sl2 (by simpa using hv) (by simpa using hw) (by rw [List.size_toArray, List.size_toArray]; exact hsz)) ⟨ho, ho2, ?_⟩
    rw [e]
    exact h2 hw

/-! ### t[a:b], not the whole -/
/-- a slice's bound as a place among n (d where it is left out) -/
def sIx (n d : Nat) : Option Int → Nat
  | none => d
  | some v => if v < 0 then (v + (n : Int)).toNat else min v.toNat n
theorem sIx_none (n d : Nat) : sIx n d none = d := rfl
theorem sIx_nat (n d k : Nat) : sIx n d (some (k : Int)) = min k n := by
  show (if (k : Int) < 0 then ((k : Int) + (n : Int)).toNat else min (k : Int).toNat n) = min k n
  rw [if_neg (by omega), Int.toNat_natCast]
theorem sIx_le (n d : Nat) (hd : d ≤ n) (o : Option Int) : sIx n d o ≤ n := by
  cases o with
  | none => exact hd
  | some v =>
    show (if v < 0 then (v + (n : Int)).toNat else min v.toNat n) ≤ n
    by_cases hv : v < 0
    · rw [if_pos hv]; omega
    · rw [if_neg hv]; exact Nat.min_le_right _ _
theorem clip_eq (v : Int) (n d : Nat) : (if v < 0 then max (v + (n : Int)) 0 else min v (n : Int)) = ((sIx n d (some v) : Nat) : Int) := by
  show (if v < 0 then max (v + (n : Int)) 0 else min v (n : Int)) = (((if v < 0 then (v + (n : Int)).toNat else min v.toNat n) : Nat) : Int)
  by_cases hv : v < 0
  · simp only [if_pos hv]; omega
  · simp only [if_neg hv]; omega
theorem adjust_gen (lo hi : Option Int) (n : Nat) : Builtin.Slice.sliceAdjust lo hi 1 (n : Int) = (((sIx n 0 lo : Nat) : Int), ((sIx n n hi : Nat) : Int)) := by
  have h1 : ¬ ((1 : Int) < 0) := by omega
  unfold Builtin.Slice.sliceAdjust
  simp only [h1, if_false]
  refine Prod.ext ?_ ?_
  · cases lo with
    | none => rfl
    | some v => exact clip_eq v n 0
  · cases hi with
    | none => rfl
    | some v => exact clip_eq v n n
theorem places_gen (i j : Nat) : Builtin.Slice.slicePlaces (i : Int) (j : Int) 1 = j - i := by
  unfold Builtin.Slice.slicePlaces
  have h1 : (1 : Int) > 0 := by omega
  simp only [h1, if_true, Int.ediv_one]
  split <;> omega
theorem slicePart_ {v : Value} {o : Option Int} {Q : Option Int → Shared → Prop} (p : IsPart v o) (h : Q o s) : wpAny (model prog w) A (Builtin.Slice.slicePartIndex v) Q E s := by
  cases p with
  | none => exact slicePart_none h
  | int i t => exact slicePart_int h
theorem sliceApplied_gen {sl : Addr} {vl vu : Value} {lo hi : Option Int} {n : Nat} {Q : Int × Int × Nat → Shared → Prop} (hs : s.heap.IsSliceOf sl vl vu .none) (pl : IsPart vl lo) (pu : IsPart vu hi)
    (h : Q (((sIx n 0 lo : Nat) : Int), 1, sIx n n hi - sIx n 0 lo) s) : wpAny (model prog w) A (Builtin.Slice.sliceApplied (.ref sl) (pure (n : Int))) Q E s := by
  obtain ⟨os, hos, hcs, hds⟩ := id hs
  unfold Builtin.Slice.sliceApplied Builtin.Slice.sliceFields
  refine wpAny_bind (wpAny_bind (wpAny_field hos hds (x := vl) rfl (wpAny_bind (wpAny_field hos hds (x := vu) rfl (wpAny_bind (wpAny_field hos hds (x := .none) rfl (wpAny_pure ?_)))))))
  refine wpAny_bind (slicePart_none ?_)
  show wpAny _ _ (if ((1 : Int) == 0) = true then _ else _) _ _ s
  rw [if_neg (by decide)]
  refine wpAny_bind (slicePart_ pl (wpAny_bind (slicePart_ pu (wpAny_bind (wpAny_pure ?_)))))
  show wpAny _ _ (match Builtin.Slice.sliceAdjust lo hi 1 (n : Int) with | (lo, hi) => pure (lo, (1 : Int), Builtin.Slice.slicePlaces lo hi 1)) _ _ s
  rw [adjust_gen lo hi n]
  show wpAny _ _ (pure (((sIx n 0 lo : Nat) : Int), (1 : Int), Builtin.Slice.slicePlaces ((sIx n 0 lo : Nat) : Int) ((sIx n n hi : Nat) : Int) 1)) _ _ s
  rw [places_gen]
  exact wpAny_pure h
theorem pick_gen (xs : Array Value) (i k : Nat) : ((List.range k).filterMap fun (m : Nat) => xs[((i : Int) + (m : Int) * 1).toNat]?).toArray = ((xs.toList.drop i).take k).toArray := by
  have e : (fun (m : Nat) => xs[((i : Int) + (m : Int) * 1).toNat]?) = fun m => xs[i + m]? := by
    funext m
    have : ((i : Int) + (m : Int) * 1).toNat = i + m := by omega
    rw [this]
  rw [e]
  have := pick_run xs i k
  rw [List.filterMap_map] at this
  have e2 : ((fun x => xs[x]?) ∘ fun x => i + x) = fun m => xs[i + m]? := rfl
  rw [e2] at this
  rw [this]

theorem getItem_tuple_cut {t sl : Addr} {items : Array Value} {vl vu : Value} {lo hi : Option Int} {Q : Value → Shared → Prop} (ht : IsTup s.heap t items) (hs : s.heap.IsSliceOf sl vl vu .none) (pl : IsPart vl lo) (pu : IsPart vu hi)
    (hw : ¬ (sIx items.size 0 lo = 0 ∧ sIx items.size items.size hi = items.size))
    (h : Q (.ref s.heap.objs.size) { s with heap := s.heap.push { cls := .type "tuple", data := .seq ((items.toList.drop (sIx items.size 0 lo)).take (sIx items.size items.size hi - sIx items.size 0 lo)).toArray } })
    (hsz : items.size ≤ sizeLine) : wpAny (model prog w) A (getItem (.ref t) (.ref sl)) Q E s := by
  have htake : sizeOk (.seq ((items.toList.drop (sIx items.size 0 lo)).take (sIx items.size items.size hi - sIx items.size 0 lo)).toArray) := by
    show ((items.toList.drop (sIx items.size 0 lo)).take (sIx items.size items.size hi - sIx items.size 0 lo)).toArray.size ≤ sizeLine
    rw [List.size_toArray, List.length_take, List.length_drop, Array.length_toList]
    omega
  have hj : sIx items.size items.size hi ≤ items.size := sIx_le _ _ (Nat.le_refl _) hi
  obtain ⟨os, hos, hcs, hds⟩ := id hs
  have hTs : s.TypeIs (.ref sl) "slice" := ⟨os, hos, hcs⟩
  unfold getItem
  try with_reducible refine wpAny_holding ?_
  first | refine wpAny_bind (wpAny_pure ?_) | skip
  refine wpAny_bind (wpAny_sequenceKey ht.typeIs (by decide) ?_)
  refine wpAny_bind (wpAny_callSpecial?_slot (name := Str.ofString "__getitem__") ht.typeIs PyProof.Rows.slot_tuple_getitem
    (wpAny_call_entry PyProof.Rows.slot_tuple_getitem ht.typeIs entry_tuple_getitem ?_ (args_tuple_getitem _ _)))
  show wpAny _ _ (Builtin.Tuple.tupleItemsOf (.ref t) >>= _) _ _ s
  refine wpAny_bind (tupleItemsOf_ ht ?_)
  refine wpAny_bind (wpAny_typeOf hTs ?_)
  rw [if_pos (by decide)]
  refine wpAny_bind (sliceApplied_gen hs pl pu ?_)
  have hno : ¬ ((((sIx items.size 0 lo : Nat) : Int) == 0 && (1 : Int) == 1 && (sIx items.size items.size hi - sIx items.size 0 lo) == items.size) = true) := by
    intro q
    rw [Bool.and_eq_true, Bool.and_eq_true] at q
    have q1 : ((sIx items.size 0 lo : Nat) : Int) = 0 := eq_of_beq q.1.1
    have q2 : sIx items.size items.size hi - sIx items.size 0 lo = items.size := eq_of_beq q.2
    exact hw ⟨by omega, by omega⟩
  show wpAny _ _ (if (((sIx items.size 0 lo : Nat) : Int) == 0 && (1 : Int) == 1 && (sIx items.size items.size hi - sIx items.size 0 lo) == items.size) = true then _ else _) _ _ s
  rw [if_neg hno, pick_gen]
  first
    | exact wpAny_bind (m := Builtin.Tuple.tupleExact _) (wpAny_newObj_type (wpAny_pure ⟨_, rfl, wpAny_pure h⟩) htake)
    | exact wpAny_bind (m := Builtin.Tuple.tupleExact _) (wpAny_newObj_type (wpAny_bind (wpAny_pure (wpAny_pure ⟨_, rfl, wpAny_pure h⟩))) htake)
    | exact wpAny_bind (wpAny_bind (m := Builtin.Tuple.tupleExact _) (wpAny_newObj_type (wpAny_pure (wpAny_pure ⟨_, rfl, wpAny_pure h⟩)) htake))
    | exact wpAny_bind (wpAny_bind (m := Builtin.Tuple.tupleExact _) (wpAny_newObj_type (wpAny_pure ⟨_, rfl, wpAny_pure h⟩) htake))
end
end HT

namespace L2
open PySem PySem.Spec PyProof.Rows

/-! ### the parts of a slice -/
abbrev TO := St → Hp → (Option Int → Hp → Prop) → Prop
/-- a slice's part (left out, or an int) -/
def PO (X : Cx) (e : Option Expr) (t : TO) : Prop :=
  ∀ (pins : List (Addr × Obj)) (s : Shared) (σ : St) (H : Hp) (Q : Option Int → Hp → Prop), Inv X pins σ H s → t σ H Q →
    wpAny (model X.prog X.w) X.A (evalPart e X.env) (fun u s' => ∃ o H', Inv X pins σ H' s' ∧ IsPart u o ∧ Q o H') X.xe s
def tNoPart : TO := fun _ H Q => Q none H
def tPart (t : TE) : TO := fun σ H Q => t σ H fun x H1 => ∃ i, x = .int i ∧ Q (some i) H1

theorem intsAre_of {ns : List Int} : ∀ {us : List Value}, Vals (ns.map V.int) us → IntsAre us ns := by
  induction ns with
  | nil => intro us r; rw [List.map_nil] at r; cases r; exact .nil
  | cons n ns ih =>
    intro us r
    rw [List.map_cons] at r
    cases r with
    | cons r1 r2 =>
      obtain ⟨t, e⟩ := r1
      subst e
      exact .cons n t (ih r2)

section
variable {X : Cx} {e : Expr} {te : TE} {lo hi : Option Expr} {tl th : TO} {pos p2 : Pos}

theorem po_none : PO X none tNoPart := by
  intro pins s σ H Q I h
  rw [evalPart_none]
  exact wpAny_pure ⟨none, H, I, .none, h⟩
theorem po_some (h : PE X e te) : PO X (some e) (tPart te) := by
  intro pins s σ H Q I hw
  rw [evalPart_some]
  refine thn (h pins s σ H _ I hw) fun u s1 ⟨x, H1, I1, r1, q1⟩ => ?_
  obtain ⟨i, rfl, q⟩ := q1
  obtain ⟨t, rfl⟩ := r1
  exact ⟨some i, H1, I1, .int i t, q⟩

/-- what a slice of a value is, by values: the slice object stands at sl -/
def SlR (X : Cx) (r : V → Option Int → Option Int → Hp → VK → Prop) : Prop :=
  ∀ (pins : List (Addr × Obj)) (s : Shared) (σ : St) (H : Hp) (x : V) (v vl vu : Value) (lo hi : Option Int) (sl : Addr) (Q : VK), Inv X pins σ H s → RelV x v → s.heap.IsSliceOf sl vl vu .none → IsPart vl lo → IsPart vu hi → r x lo hi H Q →
    ∃ T id, typeLookup (.type T) "__getitem__" = pure (some (.builtin id)) ∧ s.TypeIs v T ∧ wpAny (model X.prog X.w) X.A (getItem v (.ref sl)) (EP X pins σ Q) X.xe s
theorem SlR.or {r r' : V → Option Int → Option Int → Hp → VK → Prop} (h : SlR X r) (h' : SlR X r') : SlR X (fun x lo hi H Q => r x lo hi H Q ∨ r' x lo hi H Q) := by
  intro pins s σ H x v vl vu lo hi sl Q I rx hs pl pu q
  rcases q with q | q
  · exact h pins s σ H x v vl vu lo hi sl Q I rx hs pl pu q
  · exact h' pins s σ H x v vl vu lo hi sl Q I rx hs pl pu q
def tSl (r : V → Option Int → Option Int → Hp → VK → Prop) (te : TE) (tl th : TO) : TE := fun σ H Q => te σ H fun x H1 => tl σ H1 fun l H2 => th σ H2 fun u H3 => r x l u H3 Q
/-- a[lo:hi], any a -/
theorem pe_slice {r : V → Option Int → Option Int → Hp → VK → Prop} (hr : SlR X r) (he : PE X e te) (hl : PO X lo tl) (hu : PO X hi th) : PE X (.Subscript e (.Slice lo hi none p2) pos) (tSl r te tl th) := by
  intro pins s σ H Q I h
  refine Subscript_ (thn (he pins s σ H _ I h) fun v s1 ⟨x, H1, I1, r1, q1⟩ => ?_)
  refine wpAny_Slice (thn (hl pins s1 σ H1 _ I1 q1) fun vl s2 ⟨l, H2, I2, pl, q2⟩ => thn (hu pins s2 σ H2 _ I2 q2) fun vu s3 ⟨u, H3, I3, pu, q3⟩ => ?_)
  rw [evalPart_none]
  refine wpAny_pure ?_
  have I4 : Inv X pins σ H3 { s3 with heap := s3.heap.push { cls := .type "slice", data := .fields #[vl, vu, .none] } } := I3.kept (t' := s3.toks) fun b ob q => Heap.get?_push_of_some _ q
  obtain ⟨T, id, hT, ht, hg⟩ := hr pins { s3 with heap := s3.heap.push { cls := .type "slice", data := .fields #[vl, vu, .none] } } σ H3 x v vl vu l u s3.heap.objs.size Q I4 r1 (Heap.IsSliceOf.new ..) pl pu q3
  show wpAny (model X.prog X.w) X.A (subscriptTail e (.Slice lo hi none p2) v (.ref s3.heap.objs.size)) (EP X pins σ Q) X.xe { s3 with heap := s3.heap.push { cls := .type "slice", data := .fields #[vl, vu, .none] } }
  exact tail_any (ops := [.ref s3.heap.objs.size, v]) ht hT hg (by with_unfolding_all rfl)

/-- the items of xs[lo:hi] -/
def cutV (xs : List V) (lo hi : Option Int) : List V := (xs.drop (HT.sIx xs.length 0 lo)).take (HT.sIx xs.length xs.length hi - HT.sIx xs.length 0 lo)
theorem cutV_length (xs : List V) (lo hi : Option Int) : (cutV xs lo hi).length ≤ xs.length := by
  unfold cutV
  rw [List.length_take, List.length_drop]
  omega
/-- t[lo:hi], not the whole of it (the whole would be t itself) -/
def rSlT (K : PySem.W.Frag) : V → Option Int → Option Int → Hp → VK → Prop := fun x lo hi H Q => ∃ a xs, x = .ref a ∧ SqT K H a xs ∧
  ¬ (HT.sIx xs.length 0 lo = 0 ∧ HT.sIx xs.length xs.length hi = xs.length) ∧ ∀ p, H p = none → Q (.ref p) (upd H p (.tup (cutV xs lo hi)))
theorem sl_tup : SlR X (rSlT X.K) := by
  intro pins s σ H x v vl vu lo hi sl Q I rx hs pl pu h
  obtain ⟨a, xs, rfl, hx, hw, q⟩ := h
  cases rx
  obtain ⟨its, r, ht, hz⟩ := I.tuple hx
  have hlen : its.toArray.size = xs.length := by rw [List.size_toArray]; exact r.length.symm
  refine ⟨"tuple", _, PyProof.Rows.slot_tuple_getitem.lookup, ht.typeIs, ?_⟩
  refine HT.getItem_tuple_cut ht hs pl pu (by rw [hlen]; exact hw) ?_ (by rw [hlen]; exact hz)
  rw [hlen]
  refine ⟨.ref s.heap.objs.size, _, I.laid (t' := s.toks) (o := .tup (cutV xs lo hi)) (fun b ob q => Heap.get?_push_of_some _ q) (Nat.le_refl _) ?_, rfl, q _ (I.hok.fresh (Nat.le_refl _))⟩
  exact ⟨Nat.le_trans (cutV_length xs lo hi) hz, _, (r.drop (HT.sIx xs.length 0 lo)).take (HT.sIx xs.length xs.length hi - HT.sIx xs.length 0 lo), IsTup.new _ _⟩

/-! ### t < u, t + u -/
def rLtT (K : PySem.W.Frag) : R2 := fun x y H Q => ∃ a b ns ms, x = .ref a ∧ y = .ref b ∧ SqT K H a (ns.map V.int) ∧ SqT K H b (ms.map V.int) ∧ Q (.bl (HT.lexLt ns ms)) H
theorem op_ltT (hu : X.A.units < cLine) : OpR X (compareOp .Lt) (rLtT X.K) := by
  intro pins s σ H x y v u Q I rx ry h
  obtain ⟨a, b, ns, ms, rfl, rfl, ha, hb, q⟩ := h
  cases rx
  cases ry
  obtain ⟨its, r1, p1, _⟩ := I.tuple ha
  obtain ⟨its2, r2, p2, _⟩ := I.tuple hb
  have i1 : IntsAre its.toArray.toList ns := intsAre_of r1
  have i2 : IntsAre its2.toArray.toList ms := intsAre_of r2
  exact HT.lt_tupInts p1 p2 i1 i2 hu ⟨.bl (HT.lexLt ns ms), H, I, rfl, q⟩
/-- t + u, t not empty: u empty gives t itself -/
def rCatT (K : PySem.W.Frag) : R2 := fun x y H Q => ∃ a b xs ys, x = .ref a ∧ y = .ref b ∧ SqT K H a xs ∧ SqT K H b ys ∧ xs ≠ [] ∧ xs.length + ys.length ≤ sizeLine ∧
  (ys = [] → Q (.ref a) H) ∧ (ys ≠ [] → ∀ p, H p = none → Q (.ref p) (upd H p (.tup (xs ++ ys))))
theorem Vals.nil_iff {xs : List V} {us : List Value} (r : Vals xs us) : us = [] ↔ xs = [] := by
  cases r with
  | nil => simp
  | cons _ _ => simp
theorem op_catT : OpR X (binaryOp .Add) (rCatT X.K) := by
  intro pins s σ H x y v u Q I rx ry h
  obtain ⟨a, b, xs, ys, rfl, rfl, ha, hb, hx, hz, q1, q2⟩ := h
  cases rx
  cases ry
  obtain ⟨its, r1, p1, _⟩ := I.tuple ha
  obtain ⟨its2, r2, p2, _⟩ := I.tuple hb
  refine HT.cat_tup p1 p2 (fun z => hx (r1.nil_iff.mp z)) (fun z => ⟨.ref a, H, I, rfl, q1 (r2.nil_iff.mp z)⟩) (fun z => ?_) (by rw [← r1.length, ← r2.length]; exact hz)
  refine ⟨.ref s.heap.objs.size, _, I.laid (t' := s.toks) (o := .tup (xs ++ ys)) (fun b ob q => Heap.get?_push_of_some _ q) (Nat.le_refl _) ?_, rfl, q2 (fun w => z (r2.nil_iff.mpr w)) _ (I.hok.fresh (Nat.le_refl _))⟩
  exact ⟨by rw [List.length_append]; exact hz, _, r1.append r2, IsTup.new _ _⟩
/-- tuple(t) -/
theorem call_tupleT : CallR X (.type "tuple") (fun xs H Q => ∃ a ys, xs = [.ref a] ∧ SqT X.K H a ys ∧ Q (.ref a) H) := by
  intro pins s σ H xs us Q I r h
  obtain ⟨a, ys, rfl, ha, q⟩ := h
  obtain ⟨u, rfl, ru⟩ := vals1 r
  cases ru
  obtain ⟨its, _, p1, _⟩ := I.tuple ha
  exact call_tuple_same (items := its.toArray) p1 ⟨.ref a, H, I, rfl, q⟩
end
end L2

namespace L2
open PySem PySem.Spec PyProof.Rows

/-! ### places -/
/-- the place that an index of any sign means -/
def ixN (n : Nat) (i : Int) : Option Nat := if 0 ≤ i then (if i < n then some i.toNat else none) else if -(n : Int) ≤ i then some (i + n).toNat else none
def atI {α : Type} (xs : List α) (i : Int) : Option α := (ixN xs.length i).bind fun j => xs[j]?
theorem ixN_seq {n : Nat} {i : Int} {j : Nat} (h : ixN n i = some j) : seqIndex? i n = some j ∧ j < n ∧ -(n : Int) ≤ i ∧ i < n := by
  unfold ixN at h
  by_cases h0 : 0 ≤ i
  · rw [if_pos h0] at h
    by_cases h1 : i < n
    · rw [if_pos h1] at h
      have e : i.toNat = j := Option.some.inj h
      exact ⟨by rw [seqIndex_of h0 h1, e], by omega, by omega, h1⟩
    · rw [if_neg h1] at h; cases h
  · rw [if_neg h0] at h
    by_cases h1 : -(n : Int) ≤ i
    · rw [if_pos h1] at h
      have e : (i + n).toNat = j := Option.some.inj h
      exact ⟨by rw [seqIndex_neg (by omega) h1, e], by omega, h1, by omega⟩
    · rw [if_neg h1] at h; cases h
theorem atI_get {α : Type} {xs : List α} {i : Int} {v : α} (h : atI xs i = some v) : ∃ j, seqIndex? i xs.length = some j ∧ xs[j]? = some v ∧ j < xs.length ∧ -(xs.length : Int) ≤ i ∧ i < xs.length := by
  unfold atI at h
  cases e : ixN xs.length i with
  | none => rw [e] at h; cases h
  | some j =>
    rw [e] at h
    obtain ⟨h1, h2, h3, h4⟩ := ixN_seq e
    exact ⟨j, h1, h, h2, h3, h4⟩
theorem atI_nat {α : Type} {xs : List α} {j : Nat} {v : α} (h : xs[j]? = some v) : atI xs (j : Int) = some v := by
  have hj : j < xs.length := (List.getElem?_eq_some_iff.mp h).1
  have e : ixN xs.length (j : Int) = some j := by
    unfold ixN
    rw [if_pos (by omega), if_pos (by omega)]; simp
  unfold atI; rw [e]; exact h
theorem atI_last {α : Type} (xs : List α) (v : α) : atI (xs ++ [v]) (-1) = some v := by
  have hl : (xs ++ [v]).length = xs.length + 1 := by simp
  have e : ixN (xs ++ [v]).length (-1) = some xs.length := by
    unfold ixN
    rw [hl, if_neg (by decide), if_pos (by omega)]
    congr 1
    omega
  unfold atI
  rw [e]
  show (xs ++ [v])[xs.length]? = some v
  simp

/-! ### what may be subscripted -/
/-- what stands as an index of a plain subscript -/
def PlainIx (b : Expr) : Prop := ∀ o i, subscripted b false o i = operate [o, i] (getItem o i)
/-- a subscript by values -/
def IxR (X : Cx) (r : R2) : Prop :=
  ∀ (value slice : Expr) (pins : List (Addr × Obj)) (s : Shared) (σ : St) (H : Hp) (x y : V) (v u : Value) (Q : VK), Inv X pins σ H s → RelV x v → RelV y u → r x y H Q →
    subscripted slice false v u = operate [v, u] (getItem v u) → wpAny (model X.prog X.w) X.A (subscriptTail value slice v u) (EP X pins σ Q) X.xe s
/-- a call of a builtin's method by values: the receiver, the arguments -/
def MtR (X : Cx) (id : String) (r : V → List V → Hp → VK → Prop) : Prop :=
  ∀ (pins : List (Addr × Obj)) (s : Shared) (σ : St) (H : Hp) (x : V) (xs : List V) (v : Value) (us : List Value) (Q : VK), Inv X pins σ H s → RelV x v → Vals xs us → r x xs H Q →
    wpAny (model X.prog X.w) X.A (call (.builtin id) (v :: us)) (EP X pins σ Q) X.xe s
section
variable {X : Cx} {a b : Expr} {ta tb : TE} {pos : Pos}
theorem IxR.or {r r' : R2} (h : IxR X r) (h' : IxR X r') : IxR X (fun x y H Q => r x y H Q ∨ r' x y H Q) := by
  intro value slice pins s σ H x y v u Q I rx ry q hs
  rcases q with q | q
  · exact h value slice pins s σ H x y v u Q I rx ry q hs
  · exact h' value slice pins s σ H x y v u Q I rx ry q hs
theorem MtR.or {id : String} {r r' : V → List V → Hp → VK → Prop} (h : MtR X id r) (h' : MtR X id r') : MtR X id (fun x xs H Q => r x xs H Q ∨ r' x xs H Q) := by
  intro pins s σ H x xs v us Q I rx rs q
  rcases q with q | q
  · exact h pins s σ H x xs v us Q I rx rs q
  · exact h' pins s σ H x xs v us Q I rx rs q
/-- a[b] -/
theorem pe_ix {r : R2} (hr : IxR X r) (ha : PE X a ta) (hb : PE X b tb) (hs : PlainIx b) : PE X (.Subscript a b pos) (tOp r ta tb) := by
  intro pins s σ H Q I h
  exact Subscript_ (binT ha hb I h fun v u s2 x y H2 I2 rx ry q => hr a b pins s2 σ H2 x y v u Q I2 rx ry q (hs _ _))

def rIxL (K : PySem.W.Frag) : R2 := fun x y H Q => ∃ p xs i v, x = .ref p ∧ y = .int i ∧ SqL K H p xs ∧ atI xs i = some v ∧ Q v H
def rIxT (K : PySem.W.Frag) : R2 := fun x y H Q => ∃ p xs i v, x = .ref p ∧ y = .int i ∧ SqT K H p xs ∧ atI xs i = some v ∧ Q v H
def rIxS : R2 := fun x y H Q => ∃ z i c, x = .str z ∧ y = .int i ∧ z.length ≤ sizeLine ∧ atI z.cps.toList i = some c ∧ Q (.str ⟨#[c]⟩) H
theorem ix_list : IxR X (rIxL X.K) := by
  intro value slice pins s σ H x y v u Q I rx ry h hs
  obtain ⟨p, xs, i, z, rfl, rfl, hq, he, q⟩ := h
  cases rx
  obtain ⟨t, rfl⟩ := ry
  obtain ⟨its, r, pl, hz⟩ := I.list hq
  obtain ⟨j, h1, h2, h3, h4, h5⟩ := atI_get he
  obtain ⟨w, ew, rw'⟩ := r.get h2
  have hl := r.length
  have hn := line63
  have fin : EP X pins σ Q w s := ⟨z, H, I, rw', q⟩
  by_cases h0 : 0 ≤ i
  · have hj : i.toNat = j := by
      rw [seqIndex_of h0 h5] at h1
      exact Option.some.inj h1
    exact item_listR pl.isList h0 (by omega) (by rw [hj]; simpa using ew) fin hs
  · have hj : (i + (its.toArray.size : Int)).toNat = j := by
      rw [seqIndex_neg (by omega) h4] at h1
      rw [List.size_toArray, ← hl]
      exact Option.some.inj h1
    exact subscriptTail_builtinR (x := w) pl.isList.typeIs slot_list_getitem.lookup
      (wpAny_getItem_list_neg (Q := fun r s' => r = w ∧ EP X pins σ Q r s') pl.isList (by omega) (by rw [List.size_toArray] <;> omega) (by omega) (by rw [hj]; simpa using ew) ⟨rfl, fin⟩) hs
theorem ix_tup : IxR X (rIxT X.K) := by
  intro value slice pins s σ H x y v u Q I rx ry h hs
  obtain ⟨p, xs, i, z, rfl, rfl, hq, he, q⟩ := h
  cases rx
  obtain ⟨t, rfl⟩ := ry
  obtain ⟨its, r, pl, hz⟩ := I.tuple hq
  obtain ⟨j, h1, h2, h3, h4, h5⟩ := atI_get he
  obtain ⟨w, ew, rw'⟩ := r.get h2
  have hl := r.length
  have hn := line63
  have fin : EP X pins σ Q w s := ⟨z, H, I, rw', q⟩
  exact subscriptTail_builtinR (x := w) pl.typeIs slot_tuple_getitem.lookup
    (getItem_tuple (j := j) (Q := fun r s' => r = w ∧ EP X pins σ Q r s') pl (by omega) (by omega) (by rw [List.size_toArray, ← hl]; exact h1) (by simpa using ew) ⟨rfl, fin⟩) hs
theorem ix_str : IxR X rIxS := by
  intro value slice pins s σ H x y v u Q I rx ry h hs
  obtain ⟨z, i, c, rfl, rfl, hz, he, q⟩ := h
  obtain ⟨t, rfl⟩ := rx
  obtain ⟨t', rfl⟩ := ry
  obtain ⟨j, h1, h2, h3, h4, h5⟩ := atI_get he
  have hl : z.cps.toList.length = z.length := by simp [Str.length]
  rw [hl] at h1 h4 h5
  have hn := line63
  exact tail_any (typeIs_str s z t) slot_str_getitem.lookup (getItem_str (c := c) (by
    have e1 : decide (i < -(2 ^ 63 : Int)) = false := decide_eq_false (by omega)
    have e2 : decide (i ≥ 2 ^ 63) = false := decide_eq_false (by omega)
    rw [e1, e2, Bool.or_false]) (by rw [h1]; simpa using h2) ⟨.str ⟨#[c]⟩, H, I.tok _, ⟨_, rfl⟩, q⟩) hs
/-- list, tuple or str -/
def rIx (K : PySem.W.Frag) : R2 := fun x y H Q => rIxL K x y H Q ∨ rIxT K x y H Q ∨ rIxS x y H Q
theorem ix_seq : IxR X (rIx X.K) := ix_list.or (ix_tup.or ix_str)

/-! ### xs[i] = v, any sign -/
/-- the list's object behind a store -/
theorem mapSeq_set (its : List Value) (n j : Nat) (u : Value) : Obj.mapSeq (·.setIfInBounds j u) { cls := .type "list", data := .seq its.toArray n } = { cls := .type "list", data := .seq (its.set j u).toArray n } := by
  simp [Obj.mapSeq]
theorem Inv.lst {pins : List (Addr × Obj)} {σ : St} {H : Hp} {s : Shared} {p : Addr} {xs : List V} (I : Inv X pins σ H s) (h : H p = some (.lst xs)) :
    ∃ (its : List Value) (n : Nat), Vals xs its ∧ s.heap.get? p = some { cls := .type "list", data := .seq its.toArray n } ∧ xs.length ≤ sizeLine := by
  obtain ⟨z, its, n, r, e⟩ := I.hok p _ h
  exact ⟨its, n, r, e, z⟩
/-- the list at p is written by an update of its object -/
theorem Inv.lstUpd {pins : List (Addr × Obj)} {σ : St} {H : Hp} {s : Shared} {p : Addr} {xs ys : List V} {its its' : List Value} {n n' : Nat} {f : Obj → Obj} (I : Inv X pins σ H s) (h : H p = some (.lst xs))
    (ho : s.heap.get? p = some { cls := .type "list", data := .seq its.toArray n }) (hf : f { cls := .type "list", data := .seq its.toArray n } = { cls := .type "list", data := .seq its'.toArray n' }) (r : Vals ys its') (hz : ys.length ≤ sizeLine) (t : Nat) :
    Inv X pins σ (upd H p (.lst ys)) { s with heap := s.heap.update p f, toks := t } := by
  have e : (s.heap.update p f).get? p = some { cls := .type "list", data := .seq its'.toArray n' } := by
    rw [Heap.get?_update_self f ho (by rw [hf] <;> rfl), hf]
  refine I.write (x := p) (e := p) (by rw [h]; trivial) (.inl rfl) (fun b u hb q => (Heap.get?_update_other _ _ (Ne.symm hb)).trans q) ⟨_, e⟩ ?_
  exact ⟨hz, its', n', r, e⟩
def rSetL : V → V → V → Hp → (Hp → Prop) → Prop := fun o i v H Q => ∃ p xs k j, o = .ref p ∧ i = .int k ∧ H p = some (.lst xs) ∧ ixN xs.length k = some j ∧ Q (upd H p (.lst (xs.set j v)))
theorem set_list : PSet X rSetL := by
  intro pins s σ H o i v ov iv u Q I ro ri rv h
  obtain ⟨p, xs, k, j, rfl, rfl, hp, hj, q⟩ := h
  cases ro
  obtain ⟨t, rfl⟩ := ri
  obtain ⟨its, n, r, ho, hz⟩ := I.lst hp
  obtain ⟨h1, h2, h3, h4⟩ := ixN_seq hj
  have hl := r.length
  have hn := line63
  have I' : Inv X pins σ (upd H p (.lst (xs.set j v))) { s with heap := s.heap.update p (Obj.mapSeq (·.setIfInBounds j u)) } :=
    I.lstUpd hp ho (mapSeq_set its n j u) (r.set rv j) (by rw [List.length_set]; exact hz) s.toks
  by_cases h0 : 0 ≤ k
  · have hk : k.toNat = j := by
      rw [seqIndex_of h0 h4] at h1
      exact Option.some.inj h1
    exact PySem.W.ki_setAt ho h0 (by omega) (by rw [List.size_toArray, ← hl]; exact h4) (by rw [hk]; exact ⟨_, I', q⟩)
  · have hk : (k + (its.toArray.size : Int)).toNat = j := by
      rw [seqIndex_neg (by omega) h3] at h1
      rw [List.size_toArray, ← hl]
      exact Option.some.inj h1
    exact PySem.W.ki_setBack ho (by omega) (by rw [List.size_toArray, ← hl]; exact h3) (by omega) (by rw [hk]; exact ⟨_, I', q⟩)

/-! ### slices -/
theorem slice_bounds (lo hi : Option Int) (n : Nat) : (sliceBounds lo hi none n).1 = ((HT.sIx n 0 lo : Nat) : Int) ∧ (sliceBounds lo hi none n).2.1 = ((HT.sIx n n hi : Nat) : Int) ∧ (sliceBounds lo hi none n).2.2 = 1 := by
  refine ⟨?_, ?_, rfl⟩
  · cases lo with
    | none => simp [sliceBounds, HT.sIx]
    | some i =>
      simp only [sliceBounds, HT.sIx, Option.getD_none, show (1 : Int) > 0 by decide, if_true]
      by_cases h : i < 0
      · simp only [h, if_true] <;> omega
      · simp only [h, if_false] <;> omega
  · cases hi with
    | none => simp [sliceBounds, HT.sIx]
    | some i =>
      simp only [sliceBounds, HT.sIx, Option.getD_none, show (1 : Int) > 0 by decide, if_true]
      by_cases h : i < 0
      · simp only [h, if_true] <;> omega
      · simp only [h, if_false] <;> omega
theorem slicePick_cut (its : List Value) (lo hi : Option Int) : slicePick its.toArray lo hi none = ((its.drop (HT.sIx its.length 0 lo)).take (HT.sIx its.length its.length hi - HT.sIx its.length 0 lo)).toArray := by
  obtain ⟨h1, h2, h3⟩ := slice_bounds lo hi its.toArray.size
  unfold slicePick
  rw [h1, h2, h3]
  simp only [sliceRange_one, pick_run, List.size_toArray] <;> rfl
/-- xs[lo:hi] of a list: a new list -/
def rSlL (K : PySem.W.Frag) : V → Option Int → Option Int → Hp → VK → Prop := fun x lo hi H Q => ∃ a xs, x = .ref a ∧ SqL K H a xs ∧ ∀ p, H p = none → Q (.ref p) (upd H p (.lst (cutV xs lo hi)))
theorem sl_list : SlR X (rSlL X.K) := by
  intro pins s σ H x v vl vu lo hi sl Q I rx hs pl pu h
  obtain ⟨a, xs, rfl, hx, q⟩ := h
  cases rx
  obtain ⟨its, r, ht, hz⟩ := I.list hx
  have hlen := r.length
  refine ⟨"list", _, slot_list_getitem.lookup, ht.isList.typeIs, ?_⟩
  refine wpAny_getItem_list_slice ht.isList hs pl pu .none (by simp) ?_ (by rw [List.size_toArray] <;> omega)
  rw [slicePick_cut, ← hlen]
  refine ⟨.ref s.heap.objs.size, _, I.laid (t' := s.toks) (o := .lst (cutV xs lo hi)) (fun b ob q => Heap.get?_push_of_some _ q) (Nat.le_refl _) ?_, rfl, q _ (I.hok.fresh (Nat.le_refl _))⟩
  exact ⟨Nat.le_trans (cutV_length xs lo hi) hz, _, 0, (r.drop (HT.sIx xs.length 0 lo)).take (HT.sIx xs.length xs.length hi - HT.sIx xs.length 0 lo), Heap.get?_push_size _ rfl⟩

/-! ### in, not in: flat items -/
def flatV : V → Bool
  | .non => true
  | .bl _ => true
  | .int _ => true
  | .str _ => true
  | _ => false
/-- == of flat values -/
def eqV : V → V → Bool
  | .non, .non => true
  | .bl a, .bl b => a == b
  | .bl a, .int b => (if a then 1 else 0) == b
  | .int a, .bl b => a == (if b then 1 else 0)
  | .int a, .int b => a == b
  | .str a, .str b => a == b
  | _, _ => false
theorem eqAt_V {A : Around} {s : Shared} {y x : V} {u v : Value} (ry : RelV y u) (rx : RelV x v) (fy : flatV y = true) (fx : flatV x = true) : SeqAt.EqAt A s u v (eqV y x) := by
  cases y with
  | non =>
    cases ry
    cases x with
    | non => cases rx; exact SeqAt.EqAt.same _
    | bl b => cases rx; exact SeqAt.EqAt.none_bool b
    | int b => obtain ⟨t, rfl⟩ := rx; exact SeqAt.EqAt.none_int b t
    | str b => obtain ⟨t, rfl⟩ := rx; exact SeqAt.EqAt.none_str b t
    | _ => exact absurd (show false = true from fx) Bool.false_ne_true
  | bl a =>
    cases ry
    cases x with
    | non => cases rx; exact SeqAt.EqAt.bool_none a
    | bl b => cases rx; exact SeqAt.EqAt.bool_bool a b
    | int b => obtain ⟨t, rfl⟩ := rx; exact SeqAt.EqAt.bool_int a b t
    | str b => obtain ⟨t, rfl⟩ := rx; exact SeqAt.EqAt.bool_str a b t
    | _ => exact absurd (show false = true from fx) Bool.false_ne_true
  | int a =>
    obtain ⟨t', rfl⟩ := ry
    cases x with
    | non => cases rx; exact SeqAt.EqAt.int_none a t'
    | bl b => cases rx; exact SeqAt.EqAt.int_bool a t' b
    | int b => obtain ⟨t, rfl⟩ := rx; exact SeqAt.EqAt.int_int a t' b t
    | str b => obtain ⟨t, rfl⟩ := rx; exact SeqAt.EqAt.int_str a t' b t
    | _ => exact absurd (show false = true from fx) Bool.false_ne_true
  | str a =>
    obtain ⟨t', rfl⟩ := ry
    cases x with
    | non => cases rx; exact SeqAt.EqAt.str_none a t'
    | bl b => cases rx; exact SeqAt.EqAt.str_bool a t' b
    | int b => obtain ⟨t, rfl⟩ := rx; exact SeqAt.EqAt.str_int a t' b t
    | str b => obtain ⟨t, rfl⟩ := rx; exact SeqAt.EqAt.str_str a t' b t
    | _ => exact absurd (show false = true from fx) Bool.false_ne_true
  | _ => exact absurd (show false = true from fy) Bool.false_ne_true
/-- the items' answers, read off the values (a value's own answer does not lean on its token) -/
def eqU (x : V) (u : Value) : Bool := match u with
  | .none => eqV .non x
  | .bool b => eqV (.bl b) x
  | .int i _ => eqV (.int i) x
  | .str z _ => eqV (.str z) x
  | _ => false
theorem eqU_of {x y : V} {u : Value} (r : RelV y u) (f : flatV y = true) : eqU x u = eqV y x := by
  cases y with
  | non => cases r; rfl
  | bl b => cases r; rfl
  | int i => obtain ⟨t, rfl⟩ := r; rfl
  | str z => obtain ⟨t, rfl⟩ := r; rfl
  | _ => exact absurd (show false = true from f) Bool.false_ne_true
theorem any_eqU {x : V} : ∀ {xs : List V} {us : List Value}, Vals xs us → xs.all flatV = true → us.any (eqU x) = xs.any fun y => eqV y x
  | _, _, .nil, _ => rfl
  | y :: xs, u :: us, .cons r t, f => by
    rw [List.all_cons, Bool.and_eq_true] at f
    rw [List.any_cons, List.any_cons, eqU_of r f.1, any_eqU t f.2]
theorem mem_eqAt {A : Around} {s : Shared} {x : V} {v : Value} (rx : RelV x v) (fx : flatV x = true) : ∀ {xs : List V} {us : List Value}, Vals xs us → xs.all flatV = true → ∀ u ∈ us, SeqAt.EqAt A s u v (eqU x u)
  | _, _, .nil, _ => fun u hu => by cases hu
  | y :: xs, u :: us, .cons r t, f => fun u' hu => by
    rw [List.all_cons, Bool.and_eq_true] at f
    rcases List.mem_cons.mp hu with rfl | hu
    · rw [eqU_of r f.1]; exact eqAt_V r rx f.1 fx
    · exact mem_eqAt rx fx t f.2 u' hu
def inV (x : V) (xs : List V) : Bool := xs.any fun y => eqV y x
/-- x in a list or tuple of flat items -/
def rIn (K : PySem.W.Frag) (neg : Bool) : R2 := fun x y H Q => ∃ p xs, y = .ref p ∧ (SqL K H p xs ∨ SqT K H p xs) ∧ flatV x = true ∧ xs.all flatV = true ∧ Q (.bl (if neg then !inV x xs else inV x xs)) H
theorem op_in_seq : OpR X (compareOp .In) (rIn X.K false) := by
  intro pins s σ H x y v u Q I rx ry h
  obtain ⟨p, xs, rfl, hq, fx, fs, q⟩ := h
  cases ry
  rcases hq with hq | hq
  · obtain ⟨its, r, pl, hz⟩ := I.list hq
    refine SeqAt.in_listAt (eqU x) pl.isList (fun w hw => mem_eqAt rx fx r fs w (by simpa using hw)) ⟨.bl _, H, I, rfl, ?_⟩
    rw [show its.toArray.any (eqU x) = its.any (eqU x) by simp, any_eqU r fs]
    exact q
  · obtain ⟨its, r, pl, hz⟩ := I.tuple hq
    refine SeqAt.in_tupleAt (eqU x) pl (fun w hw => mem_eqAt rx fx r fs w (by simpa using hw)) ⟨.bl _, H, I, rfl, ?_⟩
    rw [show its.toArray.any (eqU x) = its.any (eqU x) by simp, any_eqU r fs]
    exact q
theorem op_notIn_seq : OpR X (compareOp .NotIn) (rIn X.K true) := by
  intro pins s σ H x y v u Q I rx ry h
  obtain ⟨p, xs, rfl, hq, fx, fs, q⟩ := h
  cases ry
  rcases hq with hq | hq
  · obtain ⟨its, r, pl, hz⟩ := I.list hq
    refine SeqAt.notIn_listAt (eqU x) pl.isList (fun w hw => mem_eqAt rx fx r fs w (by simpa using hw)) ⟨.bl _, H, I, rfl, ?_⟩
    rw [show its.toArray.any (eqU x) = its.any (eqU x) by simp, any_eqU r fs]
    exact q
  · obtain ⟨its, r, pl, hz⟩ := I.tuple hq
    refine SeqAt.notIn_tupleAt (eqU x) pl (fun w hw => mem_eqAt rx fx r fs w (by simpa using hw)) ⟨.bl _, H, I, rfl, ?_⟩
    rw [show its.toArray.any (eqU x) = its.any (eqU x) by simp, any_eqU r fs]
    exact q
theorem op_notIn_str : OpR X (compareOp .NotIn) (fun x y H Q => ∃ i j, x = .str i ∧ y = .str j ∧ Q (.bl (!(!(Builtin.Str.occurrences j i 0 j.length 1).isEmpty))) H) := by
  intro pins s σ H x y v u Q I rx ry h
  obtain ⟨i, j, rfl, rfl, q⟩ := h
  obtain ⟨t, rfl⟩ := rx
  obtain ⟨t', rfl⟩ := ry
  exact notIn_str ⟨.bl _, H, I, rfl, q⟩

/-! ### len, list(x), tuple(x) of any list or tuple that is read -/
theorem call_len_seq : CallR X (.builtin "len") (fun xs H Q => ∃ p ys, xs = [.ref p] ∧ (SqL X.K H p ys ∨ SqT X.K H p ys) ∧ Q (.int ys.length) H) := by
  intro pins s σ H xs us Q I r h
  obtain ⟨p, ys, rfl, hq, q⟩ := h
  obtain ⟨u, rfl, rx⟩ := vals1 r
  cases rx
  have hn := line63
  rcases hq with hq | hq
  · obtain ⟨its, r', pl, hz⟩ := I.list hq
    have hlen := r'.length
    exact Calls.call_len_list pl.isList (by simp only [List.size_toArray] <;> omega) ⟨.int ys.length, H, I.tok _, ⟨s.toks + 1, by rw [List.size_toArray, hlen]⟩, q⟩
  · obtain ⟨its, r', pl, hz⟩ := I.tuple hq
    have hlen := r'.length
    exact len_tuple pl (by simp only [List.size_toArray] <;> omega) ⟨.int ys.length, H, I.tok _, ⟨s.toks + 1, by rw [List.size_toArray, hlen]⟩, q⟩
theorem call_len_str : CallR X (.builtin "len") (fun xs H Q => ∃ z, xs = [.str z] ∧ z.length ≤ sizeLine ∧ Q (.int z.length) H) := by
  intro pins s σ H xs us Q I r h
  obtain ⟨z, rfl, hz, q⟩ := h
  obtain ⟨u, rfl, t, rfl⟩ := vals1 r
  have hn := line63
  exact len_str (by omega) ⟨.int z.length, H, I.tok _, ⟨_, rfl⟩, q⟩
theorem CallR.or {f : Value} {r r' : List V → Hp → VK → Prop} (h : CallR X f r) (h' : CallR X f r') : CallR X f (fun xs H Q => r xs H Q ∨ r' xs H Q) := by
  intro pins s σ H xs us Q I rs q
  rcases q with q | q
  · exact h pins s σ H xs us Q I rs q
  · exact h' pins s σ H xs us Q I rs q
theorem call_list_of : CallR X (.type "list") (fun xs H Q => ∃ p ys, xs = [.ref p] ∧ (SqL X.K H p ys ∨ SqT X.K H p ys) ∧ ∀ l, H l = none → Q (.ref l) (upd H l (.lst ys))) := by
  intro pins s σ H xs us Q I r h
  obtain ⟨p, ys, rfl, hq, q⟩ := h
  obtain ⟨u, rfl, rx⟩ := vals1 r
  cases rx
  have fin : ∀ (its : List Value), Vals ys its → ys.length ≤ sizeLine → ∀ (h' : Heap) (c' : Nat), (∀ b o', s.heap.get? b = some o' → h'.get? b = some o') →
      h'.get? s.heap.objs.size = some { cls := .type "list", dict := none, data := .seq its.toArray c', slots := #[] } → EP X pins σ Q (.ref s.heap.objs.size) { s with heap := h' } := fun its r' hz h' c' kp e =>
    ⟨.ref s.heap.objs.size, _, I.laid (t' := s.toks) kp (Nat.le_refl _) (show ObjOk X.prog X.w _ h' _ (.lst ys) from ⟨hz, its, c', r', e⟩), rfl, q _ (I.hok.fresh (Nat.le_refl _))⟩
  rcases hq with hq | hq
  · obtain ⟨its, r', pl, hz⟩ := I.list hq
    have hlen := r'.length
    obtain ⟨o, ho, hc, n, hd⟩ := pl.isList
    exact call_list_seq p (.inl rfl) ho hc hd (fun h' c' kp e => fin its r' hz h' c' kp e) (by simp only [List.size_toArray] <;> omega)
  · obtain ⟨its, r', pl, hz⟩ := I.tuple hq
    have hlen := r'.length
    obtain ⟨o, ho, hc, n, hd⟩ := pl
    exact call_list_seq p (.inr rfl) ho hc hd (fun h' c' kp e => fin its r' hz h' c' kp e) (by simp only [List.size_toArray] <;> omega)
theorem call_tuple_of : CallR X (.type "tuple") (fun xs H Q => ∃ p ys, xs = [.ref p] ∧ ((SqL X.K H p ys ∧ ∀ l, H l = none → Q (.ref l) (upd H l (.tup ys))) ∨ (SqT X.K H p ys ∧ Q (.ref p) H))) := by
  intro pins s σ H xs us Q I r h
  obtain ⟨p, ys, rfl, h⟩ := h
  obtain ⟨u, rfl, rx⟩ := vals1 r
  cases rx
  rcases h with ⟨hq, q⟩ | ⟨hq, q⟩
  · obtain ⟨its, r', pl, hz⟩ := I.list hq
    have hlen := r'.length
    refine call_tuple_list pl.isList (fun h' kp => ?_) (by simp only [List.size_toArray] <;> omega)
    have I1 : Inv X pins σ H { s with heap := h' } := I.kept (t' := s.toks) kp
    have I2 : Inv X pins σ (upd H h'.objs.size (.tup ys)) { s with heap := h'.push { cls := .type "tuple", data := .seq its.toArray } } :=
      I1.laid (t' := s.toks) (fun b o e => Heap.get?_push_of_some _ e) (Nat.le_refl _) (show ObjOk X.prog X.w _ _ _ (.tup ys) from ⟨hz, its, r', IsTup.new _ _⟩)
    exact ⟨.ref h'.objs.size, _, I2, rfl, q _ (I1.hok.fresh (Nat.le_refl _))⟩
  · obtain ⟨its, r', pl, hz⟩ := I.tuple hq
    exact call_tuple_same pl ⟨.ref p, H, I, rfl, q⟩

/-! ### the call of a builtin's method: o.m(..) -/
/-- the value is of that builtin type -/
def tyV (K : PySem.W.Frag) (T : String) (x : V) (H : Hp) : Prop := match x with
  | .str _ => T = "str"
  | .int _ => T = "int"
  | .ref p => (T = "list" ∧ ∃ xs, SqL K H p xs) ∨ (T = "tuple" ∧ ∃ o, K.lookup p = some o ∧ o.cls = .type "tuple" ∧ o.dict = none) ∨
      (T = "dict" ∧ ((∃ kvs, H p = some (.dK kvs)) ∨ ∃ kvs, H p = some (.dT kvs))) ∨ (T = "set" ∧ ∃ S n, H p = some (.set S n))
  | _ => False
theorem tyV_is {pins : List (Addr × Obj)} {σ : St} {H : Hp} {s : Shared} {T : String} {x : V} {v : Value} (I : Inv X pins σ H s) (r : RelV x v) (ty : tyV X.K T x H) :
    s.TypeIs v T ∧ ∀ a, v = .ref a → ∃ ob, s.heap.get? a = some ob ∧ ob.dict = none := by
  cases x with
  | str z =>
    obtain ⟨t, rfl⟩ := r
    cases (show T = "str" from ty)
    exact ⟨typeIs_str s z t, fun _ e => nomatch e⟩
  | int i =>
    obtain ⟨t, rfl⟩ := r
    cases (show T = "int" from ty)
    exact ⟨typeIs_int s i t, fun _ e => nomatch e⟩
  | ref p =>
    cases r
    rcases ty with ⟨rfl, xs, hq⟩ | ⟨rfl, o, hk, hc, hd⟩ | ⟨rfl, hk⟩ | ⟨rfl, S, n, hk⟩
    · obtain ⟨its, _, pl, _⟩ := I.list hq
      refine ⟨pl.isList.typeIs, fun a e => ?_⟩
      cases e
      obtain ⟨o, n, e, c, hd, _⟩ := pl
      exact ⟨o, e, hd⟩
    · refine ⟨⟨o, I.kIn p o hk, hc⟩, fun a e => ?_⟩
      cases e
      exact ⟨o, I.kIn _ o hk, hd⟩
    · have z : ∃ o, s.heap.get? p = some o ∧ o.ExactDict := by
        rcases hk with ⟨kvs, hk⟩ | ⟨kvs, hk⟩
        · obtain ⟨_, _, _, _, o, _, _, e, ex, _⟩ := I.hok p _ hk
          exact ⟨o, e, ex⟩
        · obtain ⟨_, _, _, _, o, _, _, e, ex, _⟩ := I.hok p _ hk
          exact ⟨o, e, ex⟩
      obtain ⟨o, e, ex⟩ := z
      refine ⟨⟨o, e, ex.1⟩, fun a e2 => ?_⟩
      cases e2
      exact ⟨o, e, ex.2.1⟩
    · obtain ⟨o, _, _, _, e, ex, _⟩ := I.hok p _ hk
      refine ⟨⟨o, e, ex.1⟩, fun a e2 => ?_⟩
      cases e2
      exact ⟨o, e, ex.2.1⟩
  | _ => exact False.elim ty
def tBM0 (K : PySem.W.Frag) (T : String) (r : V → List V → Hp → VK → Prop) (to : TE) : TE := fun σ H Q => to σ H fun x H1 => tyV K T x H1 ∧ r x [] H1 Q
def tBM (K : PySem.W.Frag) (T : String) (r : V → List V → Hp → VK → Prop) (to : TE) (t : TA) : TE := fun σ H Q => to σ H fun x H1 => tyV K T x H1 ∧ t σ H1 fun xs H2 => r x xs H2 Q
variable {o e : Expr} {es : List Expr} {to : TE} {t : TA} {name : Str} {apos cpos : Pos} {T id : String} {r : V → List V → Hp → VK → Prop}
theorem pe_bm0 (pa : PlainAttrs T) (slot : Slot T name id) (hty : typeOf (.builtin id) = pure (.type "method_descriptor")) (hm : MtR X id r) (ho : PE X o to)
    (hbase : attributeBase o name X.env (eval o X.env) = eval o X.env := by rfl) (hline : (apos.endLine == cpos.line) = true := by rfl) : PE X (.Call (.Attribute o name apos) [] [] cpos) (tBM0 X.K T r to) := by
  intro pins s σ H Q I h
  refine wpAny_Call_method0_late hbase hline (thn (ho pins s σ H _ I h) fun v s1 ⟨x, H1, I1, r1, ty, q1⟩ => ?_)
  obtain ⟨h1, h2⟩ := tyV_is I1 r1 ty
  exact ⟨T, id, pa, slot, hty, h1, h2, Calls.callWith_builtin rfl (PySem.evalArgs_none (hm pins s1 σ H1 x [] v [] Q I1 r1 .nil q1))⟩
theorem pe_bm (pa : PlainAttrs T) (slot : Slot T name id) (hty : typeOf (.builtin id) = pure (.type "method_descriptor")) (hm : MtR X id r) (ho : PE X o to) (ha : PA X (e :: es) t)
    (hbase : attributeBase o name X.env (eval o X.env) = eval o X.env := by rfl)
    (hfew : ((backTo cpos (starEach (e :: es) X.env)).all (fun x => !x.1) && (backToKw cpos (keywordEach [] X.env)).all (fun x => x.1.isSome)
      && decide ((e :: es).length + ([] : List Keyword).length + (if ([] : List Keyword).isEmpty then 0 else 1) < 30)) = true := by rfl)
    (hline : (apos.endLine == cpos.line) = true := by rfl) (hs : starEach (e :: es) X.env = (false, eval e X.env) :: starEach es X.env := by rfl) (hplain : (backTo cpos (starEach es X.env)).any (·.1) = false := by rfl) :
    PE X (.Call (.Attribute o name apos) (e :: es) [] cpos) (tBM X.K T r to t) := by
  intro pins s σ H Q I h
  refine wpAny_Call_method_late hbase hfew hline rfl (thn (ho pins s σ H _ I h) fun v s1 ⟨x, H1, I1, r1, ty, q1⟩ => ?_)
  obtain ⟨h1, h2⟩ := tyV_is I1 r1 ty
  refine ⟨T, id, pa, slot, hty, h1, h2, ?_⟩
  have hA := ha cpos pins s1 σ H1 _ I1 q1
  rw [hs] at hA ⊢
  refine Calls.callWith_builtin (by show (false || (backTo cpos (starEach es X.env)).any (·.1)) = false; rw [hplain] <;> rfl) (Calls.evalArgs_plain ?_)
  exact thn hA fun us s2 ⟨vs, H2, I2, r2, q2⟩ => hm pins s2 σ H2 x vs v us Q I2 r1 r2 q2
/- xs.append(e), list.index on a module's tuple .. are MtR facts of 06m -/
end
end L2

namespace L2
open PySem PySem.Spec PyProof.Rows

def MtM (X : Cx) (id : String) (r : V → List V → Hp → VK → Prop) : Prop :=
  ∀ (pins : List (Addr × Obj)) (s : Shared) (σ : St) (H : Hp) (x : V) (xs : List V) (v : Value) (us : List Value) (Q : VK), Inv X pins σ H s → RelV x v → Vals xs us → r x xs H Q →
    wpAny (model X.prog X.w) X.A (call (.builtin id) (v :: us)) (EP X pins σ Q) X.xe s

/-! ### lists of values -/
theorem Vals.one : ∀ {x : V} {us : List Value}, Vals [x] us → ∃ u, us = [u] ∧ RelV x u
  | _, _, .cons r .nil => ⟨_, rfl, r⟩
theorem Vals.two : ∀ {x y : V} {us : List Value}, Vals [x, y] us → ∃ u v, us = [u, v] ∧ RelV x u ∧ RelV y v
  | _, _, _, .cons r (.cons q .nil) => ⟨_, _, rfl, r, q⟩
theorem Vals.zero : ∀ {us : List Value}, Vals [] us → us = []
  | _, .nil => rfl
theorem Vals.dropLast {xs : List V} {us : List Value} (h : Vals xs us) : Vals xs.dropLast us.dropLast := by
  induction h with
  | nil => exact .nil
  | cons r t ih =>
    cases t with
    | nil => exact .nil
    | cons q t' => exact .cons r ih
theorem Vals.eraseIdx : ∀ {xs : List V} {us : List Value} (i : Nat), Vals xs us → Vals (xs.eraseIdx i) (us.eraseIdx i)
  | _, _, _, .nil => .nil
  | _, _, 0, .cons _ t => t
  | _, _, i + 1, .cons r t => .cons r (Vals.eraseIdx i t)
theorem Vals.reverse {xs : List V} {us : List Value} (h : Vals xs us) : Vals xs.reverse us.reverse := by
  induction h with
  | nil => exact .nil
  | cons r t ih => rw [List.reverse_cons, List.reverse_cons]; exact Vals.append ih (.cons r .nil)
theorem Vals.rep {xs : List V} {us : List Value} (h : Vals xs us) : ∀ k : Nat, Vals (List.replicate k xs).flatten (List.replicate k us).flatten
  | 0 => .nil
  | k + 1 => by
    rw [List.replicate_succ, List.replicate_succ, List.flatten_cons, List.flatten_cons]
    exact Vals.append h (Vals.rep h k)
theorem erase_last {α : Type} (l : List α) : l.eraseIdx (l.length - 1) = l.dropLast := by
  induction l with
  | nil => rfl
  | cons a r ih =>
    cases r with
    | nil => rfl
    | cons b r =>
      have e : (a :: b :: r).length - 1 = ((b :: r).length - 1) + 1 := by
        have h1 : (a :: b :: r).length = r.length + 2 := rfl
        have h2 : (b :: r).length = r.length + 1 := rfl
        omega
      rw [e, List.eraseIdx_cons_succ, ih]
      all_goals rfl
theorem len_erase {α : Type} : ∀ (l : List α) (i : Nat), (l.eraseIdx i).length ≤ l.length
  | [], _ => Nat.le_refl _
  | _ :: _, 0 => Nat.le_succ _
  | _ :: r, i + 1 => Nat.succ_le_succ (len_erase r i)
theorem foldl_rep (its : List Value) : ∀ (k : Nat) (acc : List Value),
    List.foldl (fun x1 x2 => x1 ++ x2) acc.toArray (List.replicate k its.toArray) = (acc ++ (List.replicate k its).flatten).toArray
  | 0, acc => by simp
  | k + 1, acc => by
    have e : acc.toArray ++ its.toArray = (acc ++ its).toArray := by simp
    have e2 : (acc ++ its) ++ (List.replicate k its).flatten = acc ++ (List.replicate (k + 1) its).flatten := by
      rw [List.replicate_succ, List.flatten_cons, List.append_assoc]
    rw [← e2, ← foldl_rep its k (acc ++ its), ← e, List.replicate_succ, List.foldl_cons]

section
variable {X : Cx} {pins : List (Addr × Obj)} {σ : St} {H : Hp} {s : Shared} {l b : Addr} {xs ys zs : List V}

/-! ### the two steps: a tracked list is rewritten, a new list is laid -/
theorem Inv.lset {its its' : List Value} {n : Nat} {f : Array Value → Array Value} {t' : Nat} (I : Inv X pins σ H s) (hH : H l = some (.lst xs))
    (e : s.heap.get? l = some { cls := .type "list", data := .seq its.toArray n }) (hf : f its.toArray = its'.toArray) (hv : Vals ys its') (hz : ys.length ≤ sizeLine) :
    Inv X pins σ (upd H l (.lst ys)) { s with heap := s.heap.update l (Obj.mapSeq f), toks := t' } := by
  have q := PySem.IsL.update e f
  rw [hf] at q
  refine I.write (x := l) (e := l) (by rw [hH]; exact trivial) (.inl rfl) (fun b' u hb hu => (Heap.get?_update_other s.heap (Obj.mapSeq f) (Ne.symm hb)).trans hu) ⟨_, q⟩ ?_
  exact ⟨hz, its', _, hv, q⟩
theorem Inv.lnew {its : List Value} {t' : Nat} (I : Inv X pins σ H s) (hv : Vals ys its) (hz : ys.length ≤ sizeLine) :
    Inv X pins σ (upd H s.heap.objs.size (.lst ys)) { s with heap := s.heap.push { cls := .type "list", data := .seq its.toArray }, toks := t' } :=
  I.laid (fun _ _ q => Heap.get?_push_of_some _ q) (Nat.le_refl _) ⟨hz, its, 0, hv, Heap.get?_push_size _ rfl⟩
theorem Inv.fresh (I : Inv X pins σ H s) : H s.heap.objs.size = none := I.hok.fresh (Nat.le_refl _)
theorem Inv.lstM (I : Inv X pins σ H s) (hH : H l = some (.lst xs)) : xs.length ≤ sizeLine ∧ ∃ (its : List Value) (n : Nat), Vals xs its ∧ xs.length = its.length ∧ s.heap.get? l = some { cls := .type "list", data := .seq its.toArray n } := by
  obtain ⟨z, its, n, r, e⟩ := I.hok l _ hH
  exact ⟨z, its, n, r, r.length, e⟩

theorem notLongL {n : Nat} (h : n ≤ sizeLine) : Builtin.List.listTooLong n = false := by
  unfold Builtin.List.listTooLong
  exact decide_eq_false (by omega)
end

section
variable {X : Cx}

/-! ### methods -/
def rAppend : V → List V → Hp → VK → Prop := fun x vs H Q => ∃ l xs y, x = .ref l ∧ vs = [y] ∧ H l = some (.lst xs) ∧ xs.length < sizeLine ∧ Q .non (upd H l (.lst (xs ++ [y])))
theorem mt_append : MtM X "list.append" rAppend := by
  intro pins s σ H x vs v us Q I rx rv h
  obtain ⟨l, xs, y, rfl, rfl, hH, hz, q⟩ := h
  cases rx
  obtain ⟨u, rfl, ru⟩ := rv.one
  obtain ⟨z, its, n, r, hl, e⟩ := I.lstM hH
  refine call_meets F.slot_list_append ⟨_, e, rfl⟩ F.entry_list_append (F.args_list_append_2 _ _) (PySem.list_append l its.toArray n u (by rw [List.size_toArray]; omega)) ⟨e, ?_⟩
  refine ⟨.non, _, I.lset (its' := its ++ [u]) hH e (by simp) (r.append (.cons ru .nil)) ?_, rfl, q⟩
  rw [List.length_append, List.length_singleton]
  omega

def rExtend : V → List V → Hp → VK → Prop := fun x vs H Q => ∃ l b xs zs, x = .ref l ∧ vs = [.ref b] ∧ H l = some (.lst xs) ∧ H b = some (.lst zs) ∧ xs.length + zs.length ≤ sizeLine ∧ Q .non (upd H l (.lst (xs ++ zs)))
theorem mt_extend : MtM X "list.extend" rExtend := by
  intro pins s σ H x vs v us Q I rx rv h
  obtain ⟨l, b, xs, zs, rfl, rfl, hH, hB, hz, q⟩ := h
  cases rx
  obtain ⟨u, rfl, ru⟩ := rv.one
  cases ru
  obtain ⟨z, its, n, r, hl, e⟩ := I.lstM hH
  obtain ⟨z2, its2, n2, r2, hl2, e2⟩ := I.lstM hB
  have hsz : its.toArray.size + its2.toArray.size ≤ sizeLine := by rw [List.size_toArray, List.size_toArray]; omega
  have hlong : ¬ (!its.toArray.isEmpty && Builtin.List.listTooLong (its.toArray.size + its2.toArray.size)) = true := by
    rw [notLongL hsz, Bool.and_false]
    exact Bool.false_ne_true
  refine call_meets F.slot_list_extend ⟨_, e, rfl⟩ F.entry_list_extend (F.args_list_extend_2 _ _)
    (AutoSeq1.list_extend_list_list_0 l its.toArray n b its2.toArray n2 hlong (by rw [List.size_toArray]; omega) (by omega)) ⟨e, e2, ?_⟩
  refine ⟨.non, _, I.lset (its' := its ++ its2) hH e (by simp) (r.append r2) ?_, rfl, q⟩
  rw [List.length_append]
  omega

def rPop : V → List V → Hp → VK → Prop := fun x vs H Q => ∃ l xs y, x = .ref l ∧ vs = [] ∧ H l = some (.lst xs) ∧ xs[xs.length - 1]? = some y ∧ Q y (upd H l (.lst xs.dropLast))
theorem mt_pop : MtM X "list.pop" rPop := by
  intro pins s σ H x vs v us Q I rx rv h
  obtain ⟨l, xs, y, rfl, rfl, hH, hy, q⟩ := h
  cases rx
  have hus := rv.zero
  subst hus
  obtain ⟨z, its, n, r, hl, e⟩ := I.lstM hH
  obtain ⟨u, hu, ru⟩ := r.get hy
  have hy' : its.toArray[its.toArray.size - 1]? = some u := by
    show its.toArray[its.length - 1]? = some u
    rw [← Array.getElem?_toList, ← hl]
    exact hu
  refine call_meets F.slot_list_pop ⟨_, e, rfl⟩ F.entry_list_pop (F.args_list_pop_1 _) (MeetsSeq.list_pop_last l its.toArray n u hy' (by rw [List.size_toArray]; omega)) ⟨e, ?_⟩
  refine ⟨y, _, I.lset (its' := its.dropLast) hH e ?_ r.dropLast ?_, ru, q⟩
  · show its.toArray.eraseIdxIfInBounds (its.toArray.size - 1) = its.dropLast.toArray
    rw [List.size_toArray, List.eraseIdxIfInBounds_toArray, erase_last]
  · rw [List.length_dropLast]
    omega

def rPopAt : V → List V → Hp → VK → Prop := fun x vs H Q => ∃ l xs i k y, x = .ref l ∧ vs = [.int i] ∧ H l = some (.lst xs) ∧ -(2 ^ 63) ≤ i ∧ i < 2 ^ 63 ∧ seqIndex? i xs.length = some k ∧ xs[k]? = some y ∧ Q y (upd H l (.lst (xs.eraseIdx k)))
theorem mt_popAt : MtM X "list.pop" rPopAt := by
  intro pins s σ H x vs v us Q I rx rv h
  obtain ⟨l, xs, i, k, y, rfl, rfl, hH, h1, h2, hk, hy, q⟩ := h
  cases rx
  obtain ⟨u, rfl, ru⟩ := rv.one
  obtain ⟨t, rfl⟩ := ru
  obtain ⟨z, its, n, r, hl, e⟩ := I.lstM hH
  obtain ⟨w, hw, rw'⟩ := r.get hy
  refine call_meets F.slot_list_pop ⟨_, e, rfl⟩ F.entry_list_pop (F.args_list_pop_2 _ _)
    (MeetsSeq.list_pop_at l its.toArray n i t k w (fitsIndex_both h1 h2) (by rw [List.size_toArray, ← hl]; exact hk) (by rw [← Array.getElem?_toList]; exact hw) (by rw [List.size_toArray]; omega)) ⟨e, ?_⟩
  refine ⟨y, _, I.lset (its' := its.eraseIdx k) hH e ?_ (r.eraseIdx k) ?_, rw', q⟩
  · show its.toArray.eraseIdxIfInBounds k = (its.eraseIdx k).toArray
    rw [List.eraseIdxIfInBounds_toArray]
  · have := len_erase xs k
    omega

def rReverse : V → List V → Hp → VK → Prop := fun x vs H Q => ∃ l xs, x = .ref l ∧ vs = [] ∧ H l = some (.lst xs) ∧ Q .non (upd H l (.lst xs.reverse))
theorem mt_reverse : MtM X "list.reverse" rReverse := by
  intro pins s σ H x vs v us Q I rx rv h
  obtain ⟨l, xs, rfl, rfl, hH, q⟩ := h
  cases rx
  have hus := rv.zero
  subst hus
  obtain ⟨z, its, n, r, hl, e⟩ := I.lstM hH
  refine call_meets F.slot_list_reverse ⟨_, e, rfl⟩ F.entry_list_reverse (F.args_list_reverse_1 _) (AutoSeq1.list_reverse_list_0 l its.toArray n (by rw [List.size_toArray]; omega)) ⟨e, ?_⟩
  refine ⟨.non, _, I.lset (its' := its.reverse) hH e (by simp) r.reverse ?_, rfl, q⟩
  rw [List.length_reverse]
  omega

def rClear : V → List V → Hp → VK → Prop := fun x vs H Q => ∃ l xs, x = .ref l ∧ vs = [] ∧ H l = some (.lst xs) ∧ Q .non (upd H l (.lst []))
theorem mt_clear : MtM X "list.clear" rClear := by
  intro pins s σ H x vs v us Q I rx rv h
  obtain ⟨l, xs, rfl, rfl, hH, q⟩ := h
  cases rx
  have hus := rv.zero
  subst hus
  obtain ⟨z, its, n, r, hl, e⟩ := I.lstM hH
  refine call_meets F.slot_list_clear ⟨_, e, rfl⟩ F.entry_list_clear (F.args_list_clear_1 _) (AutoSeq1.list_clear_list_0 l its.toArray n (by rw [List.size_toArray]; omega)) ⟨e, ?_⟩
  exact ⟨.non, _, I.lset (its' := []) (ys := []) hH e rfl .nil (Nat.zero_le _), rfl, q⟩

/-! ### list + list, list += list, list * int -/
def rCat : R2 := fun x y H Q => ∃ l b xs zs, x = .ref l ∧ y = .ref b ∧ H l = some (.lst xs) ∧ H b = some (.lst zs) ∧ xs.length + zs.length ≤ sizeLine ∧ ∀ p, H p = none → Q (.ref p) (upd H p (.lst (xs ++ zs)))
theorem op_cat : OpR X (binaryOp .Add) rCat := by
  intro pins s σ H x y v u Q I rx ry h
  obtain ⟨l, b, xs, zs, rfl, rfl, hH, hB, hz, q⟩ := h
  cases rx
  cases ry
  obtain ⟨z, its, n, r, hl, e⟩ := I.lstM hH
  obtain ⟨z2, its2, n2, r2, hl2, e2⟩ := I.lstM hB
  refine PySem.P.add_list e e2 ?_ (by rw [List.size_toArray, List.size_toArray]; omega)
  have ea : its.toArray ++ its2.toArray = (its ++ its2).toArray := by simp
  rw [ea]
  exact ⟨.ref _, _, I.lnew (t' := s.toks) (r.append r2) (by rw [List.length_append]; omega), rfl, q _ I.fresh⟩
/-- a list times an int (a negative one is nothing) -/
def rRep : R2 := fun x y H Q => ∃ l k xs, x = .ref l ∧ y = .int k ∧ H l = some (.lst xs) ∧ -(2 ^ 63) ≤ k ∧ k < 2 ^ 63 ∧ xs.length * k.toNat ≤ sizeLine ∧
  ∀ p, H p = none → Q (.ref p) (upd H p (.lst (List.replicate k.toNat xs).flatten))
theorem len_rep {α : Type} (xs : List α) (k : Nat) : (List.replicate k xs).flatten.length = k * xs.length := by
  induction k with
  | zero => simp
  | succ k ih => rw [List.replicate_succ, List.flatten_cons, List.length_append, ih, Nat.succ_mul, Nat.add_comm]
theorem op_rep : OpR X (binaryOp .Mult) rRep := by
  intro pins s σ H x y v u Q I rx ry h
  obtain ⟨l, k, xs, rfl, rfl, hH, h1, h2, hz, q⟩ := h
  cases rx
  obtain ⟨t, rfl⟩ := ry
  obtain ⟨z, its, n, r, hl, e⟩ := I.lstM hH
  have hlen : its.toArray.size * k.toNat ≤ sizeLine := by rw [List.size_toArray, ← hl]; exact hz
  have hcap : ¬ its.toArray.size * k.toNat > (2 ^ 63 - 1) / 8 := by
    have : (sizeLine : Nat) ≤ (2 ^ 63 - 1) / 8 := by decide
    omega
  have hfit : ¬ (!Builtin.List.listFitsIndex k) = true := by
    rw [fitsIndex_both h1 h2]
    exact Bool.false_ne_true
  have hlong : ¬ Builtin.List.listTooLong (its.toArray.size * k.toNat) = true := by
    rw [notLongL hlen]
    exact Bool.false_ne_true
  have hnew : List.foldl (fun x1 x2 => x1 ++ x2) #[] (List.replicate (if its.toArray.isEmpty = true then 0 else k.toNat) its.toArray) = (List.replicate k.toNat its).flatten.toArray := by
    have f0 : ∀ m : Nat, List.foldl (fun x1 x2 => x1 ++ x2) #[] (List.replicate m its.toArray) = (List.replicate m its).flatten.toArray := fun m => by
      have := foldl_rep its m []
      rw [List.nil_append] at this
      exact this
    rw [f0]
    cases its with
    | nil => simp
    | cons a r' => rw [if_neg (by simp)]
  refine wpAny_binaryOp_repeat_ref (T := "list") (U := "int") (by decide) ⟨_, e, rfl⟩ (fun s' => typeIs_int s' k t) noFill_list_mul F.fills_int_mul F.slot_int_rmul repeat_list F.slot_int_index.lookup
    (call_meets F.slot_int_rmul (typeIs_int s k t) F.entry_int_rmul (F.args_int_rmul_2 _ _) (int___rmul___int_list k t l its.toArray n)
      ⟨e, rfl, ⟨_, e, rfl⟩, call_meets F.slot_list_mul ⟨_, e, rfl⟩ F.entry_list_mul (F.args_list_mul_2 _ _) (AutoListH.list___mul___list_int_3 l its.toArray n k t hfit hcap hlong) ⟨e, ?_⟩⟩)
  rw [hnew]
  exact ⟨.ref _, _, I.lnew (t' := s.toks) (r.rep k.toNat) (by rw [len_rep, Nat.mul_comm]; exact hz), rfl, q _ I.fresh⟩

/-! ### del xs[i] -/
theorem del_list {pins : List (Addr × Obj)} {s : Shared} {σ : St} {H : Hp} {l : Addr} {xs : List V} {i : Int} {t : Tok} {k : Nat} {Q : Unit → Shared → Prop} (I : Inv X pins σ H s) (hH : H l = some (.lst xs))
    (h1 : -(2 ^ 63) ≤ i) (h2 : i < 2 ^ 63) (hk : seqIndex? i xs.length = some k) (h : ∀ s', Inv X pins σ (upd H l (.lst (xs.eraseIdx k))) s' → Q () s') :
    wpAny (model X.prog X.w) X.A (delItem (.ref l) (.int i t)) Q X.xe s := by
  obtain ⟨z, its, n, r, hl, e⟩ := I.lstM hH
  refine PySem.P.delItem_list (k := k) e (fitsIndex_both h1 h2) (by rw [List.size_toArray, ← hl]; exact hk) (h _ ?_) (by rw [List.size_toArray]; omega)
  refine I.lset (its' := its.eraseIdx k) (t' := s.toks) hH e ?_ (r.eraseIdx k) ?_
  · show its.toArray.eraseIdxIfInBounds k = (its.eraseIdx k).toArray
    rw [List.eraseIdxIfInBounds_toArray]
  · have := len_erase xs k
    omega
end

/-! ### xs[a:b] = ys -/
section
variable {prog : Program} {w : World} {A : Around} {E : Value → Shared → Prop} {s : Shared}
theorem splice_eq (its its2 : List Value) (a c : Nat) : its.toArray.extract 0 a ++ its2.toArray ++ its.toArray.extract c its.toArray.size = (its.take a ++ its2 ++ its.drop c).toArray := by
  apply Array.toList_inj.mp
  first
    | (simp
       exact List.take_of_length_le (by simp))
    | simp [List.take_of_length_le]
    | simp
theorem bounds_run {a c n : Nat} (hac : a ≤ c) (hc : c ≤ n) : sliceBounds (some (a : Int)) (some (c : Int)) none n = ((a : Int), (c : Int), 1) := by
  simp only [sliceBounds, Option.getD_none]
  have h1 : ¬ ((a : Int) < 0) := by omega
  have h2 : ¬ ((c : Int) < 0) := by omega
  simp only [h1, h2, if_false, show (1 : Int) > 0 by decide, if_true]
  congr 1
  · omega
  · congr 1; omega
set_option maxRecDepth 100000 in
/-- list.__setitem__ with a slice of step one and another list -/
theorem setItem_slice {l b sl : Addr} {items new : Array Value} {n n2 : Nat} {vl vu : Value} {a c : Nat} {Q : Unit → Shared → Prop}
    (e : s.heap.get? l = some { cls := .type "list", data := .seq items n }) (e2 : s.heap.get? b = some { cls := .type "list", data := .seq new n2 }) (hne : l ≠ b)
    (hs : s.heap.IsSliceOf sl vl vu .none) (pl : IsPart vl (some (a : Int))) (pu : IsPart vu (some (c : Int))) (hac : a ≤ c) (hc : c ≤ items.size)
    (hsz : items.size + new.size ≤ sizeLine) (h : Q () { s with heap := s.heap.update l (Obj.mapSeq fun xs => xs.extract 0 a ++ new ++ xs.extract c xs.size) }) :
    wpAny (model prog w) A (setItem (.ref l) (.ref sl) (.ref b)) Q E s := by
  have hl : s.heap.IsList l items := PySem.IsL.isList e
  have hb : s.heap.IsList b new := PySem.IsL.isList e2
  obtain ⟨os, hos, hcs, hds⟩ := id hs
  have hTs : s.TypeIs (.ref sl) "slice" := ⟨os, hos, hcs⟩
  have hstep : ¬ ((rawPart none == rawInt 0) = true) := Bool.false_ne_true
  have hsame : Builtin.List.listSameRef (.ref l) (.ref b) = false := by
    unfold Builtin.List.listSameRef
    exact beq_eq_false_iff_ne.mpr hne
  have hmax : (max (a : Int) (c : Int)).toNat = c := by omega
  have hz' : ((fun xs : Array Value => xs.extract 0 a ++ new ++ xs.extract c xs.size) items).size ≤ sizeLine + 1 := by
    simp only [Array.size_append, Array.size_extract]
    omega
  unfold setItem
  try with_reducible refine wpAny_holding ?_
  first | refine wpAny_bind (wpAny_pure ?_) | skip
  refine wpAny_bind (wpAny_sequenceKey hl.typeIs (by decide) ?_)
  refine wpAny_bind (wpAny_callSpecial?_slot (name := Str.ofString "__setitem__") hl.typeIs slot_list_setitem
    (wpAny_call_entry slot_list_setitem hl.typeIs entry_list_setitem ?_ (args_list_setitem _ _ _)))
  show wpAny _ _ (Builtin.List.listSubscript? (.ref sl) >>= _) _ _ s
  refine wpAny_bind ?_
  unfold Builtin.List.listSubscript?
  refine wpAny_bind (wpAny_specialOf hTs slice_no_index ?_)
  simp only [Option.isNone_none, if_true]
  refine wpAny_pure ?_
  show wpAny _ _ (typeOf (.ref sl) >>= _) _ _ s
  refine wpAny_bind (wpAny_typeOf hTs ?_)
  first
    | rw [if_neg (by decide)]
    | refine PySem.W.KFB.if_not (by decide) ?_
  rw [listSliceParts_eq]
  refine wpAny_bind (wpAny_bind (wpAny_field hos hds (x := .none) rfl (wpAny_bind (wpAny_listPart .none ?_))))
  rw [if_neg hstep]
  refine wpAny_bind (wpAny_field hos hds (x := vl) rfl (wpAny_bind (wpAny_listPart pl ?_)))
  refine wpAny_bind (wpAny_field hos hds (x := vu) rfl (wpAny_bind (wpAny_listPart pu (wpAny_pure ?_))))
  first
    | simp only [hsame, Bool.false_eq_true, if_false]
    | refine PySem.W.KFB.if_not hsame ?_
    | (dsimp only
       rw [if_neg (by rw [hsame]; exact Bool.false_ne_true)])
  refine wpAny_bind (m := Builtin.List.listAllItems (.ref b) "must assign iterable to extended slice") ?_
  unfold Builtin.List.listAllItems
  refine wpAny_bind (wpAny_typeOf hb.typeIs ?_)
  first
    | refine PySem.W.KFB.if_so (by decide) ?_
    | rw [if_pos (by decide)]
    | simp only [beq_self_eq_true, Bool.true_or, if_true]
  unfold Builtin.List.listItems
  refine wpAny_bind (wpAny_seqItems e2 rfl (wpAny_pure ?_))
  refine wpAny_bind (wpAny_bind (wpAny_seqItems e rfl (wpAny_pure ?_)))
  refine wpAny_bind (wpAny_of_eq ((sliceIndices_raw (some (a : Int)) (some (c : Int)) none items.size (by simp)).trans (congrArg (pure : Int × Int × Int → Sem (Int × Int × Int)) (bounds_run hac hc))) ?_)
  show wpAny _ _ (if ((1 : Int) == 1) = true then _ else _) _ _ s
  rw [if_pos (by decide)]
  refine wpAny_bind (wpAny_rule ?_)
  first
    | simp only [notLongL hsz, Bool.false_eq_true, if_false]
    | refine PySem.W.KFB.if_not (notLongL hsz) ?_
  first | refine wpAny_bind (wpAny_pure ?_) | skip
  show wpAny _ _ (updateSeq l (fun xs => xs.extract 0 ((a : Int)).toNat ++ new ++ xs.extract (max (a : Int) (c : Int)).toNat xs.size) >>= _) _ _ s
  rw [hmax, Int.toNat_natCast]
  refine wpAny_bind (wpAny_updateSeq (hz := Nat.le_trans (Nat.le_add_right _ _) hsz) (_hz' := hz') e rfl ?_)
  refine wpAny_bind (wpAny_letGo ?_)
  first
    | exact wpAny_bind (wpAny_pure (wpAny_pure ⟨.none, rfl, wpAny_pure h⟩))
    | exact wpAny_pure ⟨.none, rfl, wpAny_pure h⟩
end

section
variable {X : Cx}
/-- xs[a:c] = ys of another list, at the value level: sl is the slice object that was just made -/
theorem set_slice {pins : List (Addr × Obj)} {s : Shared} {σ : St} {H : Hp} {l b sl : Addr} {xs ys : List V} {a c : Int} {vl vu : Value} {Q : Unit → Shared → Prop} (I : Inv X pins σ H s)
    (hH : H l = some (.lst xs)) (hB : H b = some (.lst ys)) (hne : l ≠ b) (hs : s.heap.IsSliceOf sl vl vu .none) (ra : RelV (.int a) vl) (rc : RelV (.int c) vu) (h0 : 0 ≤ a) (hac : a ≤ c) (hc : c ≤ xs.length)
    (hz : xs.length + ys.length ≤ sizeLine) (h : ∀ s', Inv X pins σ (upd H l (.lst (xs.take a.toNat ++ ys ++ xs.drop c.toNat))) s' → Q () s') :
    wpAny (model X.prog X.w) X.A (setItem (.ref l) (.ref sl) (.ref b)) Q X.xe s := by
  obtain ⟨ta, rfl⟩ := ra
  obtain ⟨tc, rfl⟩ := rc
  obtain ⟨z, its, n, r, hl, e⟩ := I.lstM hH
  obtain ⟨z2, its2, n2, r2, hl2, e2⟩ := I.lstM hB
  obtain ⟨a', rfl⟩ := Int.eq_ofNat_of_zero_le h0
  obtain ⟨c', rfl⟩ := Int.eq_ofNat_of_zero_le (Int.le_trans h0 hac)
  simp only [Int.toNat_natCast] at h
  refine setItem_slice (a := a') (c := c') e e2 hne hs (.int _ _) (.int _ _) (by omega) (by rw [List.size_toArray]; omega) (by rw [List.size_toArray, List.size_toArray]; omega) (h _ ?_)
  refine I.lset (its' := its.take a' ++ its2 ++ its.drop c') (t' := s.toks) hH e ?_ (Vals.append (Vals.append (r.take _) r2) (r.drop _)) ?_
  · exact splice_eq its its2 a' c'
  · rw [List.length_append, List.length_append, List.length_take, List.length_drop]
    omega
end
end L2

namespace Att
open PySem PySem.W PySem.Calls PyProof.Rows

/-! ### the script -/
theorem ints_of_wellAll {P : Params} {h : Heap} : ∀ (ns : List Int) (vs : List Value), WellAll P h vs (ns.map WData.int) → IntsAre vs ns := by
  intro ns
  induction ns with
  | nil =>
    intro vs w
    rw [List.map_nil] at w
    cases w
    exact .nil
  | cons n ns ih =>
    intro vs w
    rw [List.map_cons] at w
    cases w with
    | cons a b =>
      cases a
      exact .cons _ _ (ih _ b)

theorem script_of {l : OpenLaw} {n : Nat} (hn : l.most = some n) {P : Params} {h : Heap} {args : List WData} {vals : List Value}
    (hpre : l.row.toRowW.claim.pre args = true) (hwl : WellAll P h vals args) :
    ∃ a vs ns, vals = [Value.ref a] ∧ args = [WData.list (ns.map WData.int)] ∧ h.get? a = some { cls := .type "list", data := .seq vs.toArray } ∧ IntsAre vs ns ∧ ns.length ≤ n := by
  have hsh : WShape.hasAll [] args [.list .int] = true := (pre_splitW hpre).1
  have hc : l.pre.holds [] { args := args } = true := (pre_splitW hpre).2
  obtain ⟨d, r, rfl, h1, h2⟩ := hasAllW_cons hsh
  obtain rfl := hasAllW_nil h2
  obtain ⟨xs, rfl, h3⟩ := hasW_list h1
  obtain ⟨ns, rfl⟩ := items_int h3
  have hlen : ns.length ≤ n := by
    unfold OpenLaw.pre at hc
    have h4 : (WTm.not (.lt (.lit (.int (n : Int))) (.len (.arg 0)))).holds [] { args := [.list (ns.map .int)] } = true := by
      have h4 := (holds_andW hc).1
      rw [hn] at h4
      exact h4
    have h5 := condW_of h4 (w_not (w_lt w_lit (w_len_list (w_arg rfl))))
    rw [List.length_map] at h5
    refine Nat.le_of_not_lt fun q => ?_
    have q' : (n : Int) < ((ns.length : Nat) : Int) := by omega
    first
      | (rw [decide_eq_true q'] at h5; exact absurd h5 (by decide))
      | (simp at h5; omega)
  cases hwl with
  | cons w1 w2 =>
    cases w2
    cases w1 with
    | list ho hall => exact ⟨_, _, ns, rfl, rfl, ho, ints_of_wellAll ns _ hall, hlen⟩

theorem post_true (l : OpenLaw) (args : List WData) : l.row.toRowW.claim.post args (.bool true) args = true :=
  postW_of (r := l.row.toRowW) (X := (true == true))
    (show WShape.has [] (.bool true) .bool = true by first | rfl | decide | simp [WShape.has, WShape.arms, WShape.armsAll])
    (show (WTm.eq .res (.lit (.bool true))).value [] { args := args, res := some (.bool true), after := args } = some (.bool (true == true)) from w_eq_bool (w_res rfl) w_lit) rfl

/-! ### the attachment: holds_open's last premise (the goal 'hc' behind k_head) from a wpAny of the law's body -/
theorem attach {l : OpenLaw} {n : Nat} {q : Program} {loose : List Str} {XP : (Str → Option Value) → Heap → Prop} {YP : World → Heap → Prop} {d : DefRec} {x : Str}
    (hn : l.most = some n) (hdf : d.params.defaults = [])
    (hbind : ∀ pm cd doc v : Value, bindArgs (docDef d.name d.params d.body d.scope pm cd doc) ⟨[v], []⟩ = pure [(x, v)])
    (hx : d.scope.names.lookup x = some .local ∨ d.scope.names.lookup x = some .cell)
    (hk : d.scope.kind = .function) (hco : d.scope.isCoroutine = false) (hgen : d.scope.isGenerator = false)
    (body : ∀ (w : World) (s₀ s₁ s : Shared) (mg mb : Str → Option Value) (fa : Addr) (o : Obj) (pm cd doc : Value) (a : Addr) (vs : List Value) (ns : List Int),
      Ground q loose [] XP w s₀ mg mb s₁.heap → YP w s₁.heap →
      s₁.heap.get? fa = some o → o.data = .func (docDef d.name d.params d.body d.scope pm cd doc) → s₁.heap.CodeRec cd d.name → mg d.name = some (.ref fa) →
      s₁.heap.get? a = some { cls := .type "list", data := .seq vs.toArray } → IntsAre vs ns → ns.length ≤ n →
      s.gens = #[] → s.os = s₁.os →
      Fr s₁.heap s₁.heap.objs.size s.heap (bindL (envOfC d.name d.scope s₁.heap.objs.size fa cd).kindOf [(x, .ref a)] fun _ => none) →
      Cl s₁.heap.objs.size (cellsFrom (s₁.heap.objs.size + 1) d.scope.names []) s.heap (bindC (envOfC d.name d.scope s₁.heap.objs.size fa cd).kindOf [(x, .ref a)] fun _ => none) →
      wpAny (model l.prog w) (callerA.deeper (envOfC d.name d.scope s₁.heap.objs.size fa cd)) (execs d.body (envOfC d.name d.scope s₁.heap.objs.size fa cd))
        (fun f s' => f = .ret (.bool true) ∧ OldK s₁.heap s'.heap ∧ s'.os = s₁.os ∧ AllBare s'.gens) (fun _ _ => False) s) :
    WalkO q loose XP YP l.row.toRowW d [] (fun f vs => PySem.call f vs) := by
  intro w s₀ s₁ mg mb G Y fa o pm cd doc dV kV ho hd hcd hD hmg hg args vals as hpre hlay hrd hwl hlo
  obtain rfl : dV = .none := Dflts.none hD hdf
  obtain rfl : kV = .none := Dflts.noKw hD
  obtain ⟨a, vs, ns, rfl, rfl, hobj, hints, hlen⟩ := script_of hn hpre hwl
  refine enter_call ?_
  refine call_cells_ret (o := o) (by rw [depth_caller]; decide) ho (fd_plain hd) G.T.nolimit hcd (hbind pm cd doc (.ref a)) (fun y hy => ?_) (fun h₁ tk F X => ?_) hco hgen hk
  · obtain rfl : y = (x, Value.ref a) := List.mem_singleton.mp hy
    rcases hx with e | e
    · exact .inl e
    · exact .inr ⟨e, cellsFrom_some _ _ _ (.inl e)⟩
  · refine wpAny_mono (body w s₀ s₁ { s₁ with heap := h₁, toks := tk } mg mb fa o pm cd doc a vs ns G Y ho (fd_plain hd) hcd hmg hobj hints hlen hg rfl F X) (fun f s' hq => ?_) (fun _ _ hq => hq)
    obtain ⟨rfl, h2, h3, h4⟩ := hq
    exact ⟨.inl ⟨.bool true, .bool true, [], rfl, fun _ => rfl, .bool true, post_true l _, fun _ => ⟨List.Pairwise.nil, fun _ hm => (nomatch hm)⟩⟩, h2, h3, h4⟩

/-- the same from a codeAny of the CALL (for a layer whose function contracts speak of calls) -/
theorem attach_call {l : OpenLaw} {n : Nat} {q : Program} {loose : List Str} {XP : (Str → Option Value) → Heap → Prop} {YP : World → Heap → Prop} {d : DefRec}
    (hn : l.most = some n) (hdf : d.params.defaults = [])
    (call : ∀ (w : World) (s₀ s₁ : Shared) (mg mb : Str → Option Value) (fa : Addr) (o : Obj) (pm cd doc : Value) (a : Addr) (vs : List Value) (ns : List Int),
      Ground q loose [] XP w s₀ mg mb s₁.heap → YP w s₁.heap →
      s₁.heap.get? fa = some o → o.data = .func (docDef d.name d.params d.body d.scope pm cd doc) → s₁.heap.CodeRec cd d.name → mg d.name = some (.ref fa) →
      s₁.heap.get? a = some { cls := .type "list", data := .seq vs.toArray } → IntsAre vs ns → ns.length ≤ n → s₁.gens = #[] →
      codeAny (model l.prog w) callerA (.call (.ref fa) ⟨[.ref a], []⟩) (fun r s' => r = .ok (.ret (.bool true)) ∧ OldK s₁.heap s'.heap ∧ s'.os = s₁.os ∧ AllBare s'.gens) s₁) :
    WalkO q loose XP YP l.row.toRowW d [] (fun f vs => PySem.call f vs) := by
  intro w s₀ s₁ mg mb G Y fa o pm cd doc dV kV ho hd hcd hD hmg hg args vals as hpre hlay hrd hwl hlo
  obtain rfl : dV = .none := Dflts.none hD hdf
  obtain rfl : kV = .none := Dflts.noKw hD
  obtain ⟨a, vs, ns, rfl, rfl, hobj, hints, hlen⟩ := script_of hn hpre hwl
  refine enter_call (codeAny_mono (call w s₀ s₁ mg mb fa o pm cd doc a vs ns G Y ho (fd_plain hd) hcd hmg hobj hints hlen hg) fun r s' hq => ?_)
  obtain ⟨rfl, h2, h3, h4⟩ := hq
  exact ⟨.inl ⟨.bool true, .bool true, [], rfl, fun _ => rfl, .bool true, post_true l _, fun _ => ⟨List.Pairwise.nil, fun _ hm => (nomatch hm)⟩⟩, h2, h3, h4⟩

/-- the same where the top left finished generators (o_head chose holds_openN): nothing may have changed at all and no generator may be left -/
theorem attachN {l : OpenLaw} {n : Nat} {q : Program} {loose : List Str} {XP : (Str → Option Value) → Heap → Prop} {YP : World → Heap → Prop} {d : DefRec} {x : Str}
    (hn : l.most = some n) (hdf : d.params.defaults = [])
    (hbind : ∀ pm cd doc v : Value, bindArgs (docDef d.name d.params d.body d.scope pm cd doc) ⟨[v], []⟩ = pure [(x, v)])
    (hx : d.scope.names.lookup x = some .local ∨ d.scope.names.lookup x = some .cell)
    (hk : d.scope.kind = .function) (hco : d.scope.isCoroutine = false) (hgen : d.scope.isGenerator = false)
    (body : ∀ (w : World) (s₀ s₁ s : Shared) (mg mb : Str → Option Value) (fa : Addr) (o : Obj) (pm cd doc : Value) (a : Addr) (vs : List Value) (ns : List Int),
      Ground q loose [] XP w s₀ mg mb s₁.heap → YP w s₁.heap →
      s₁.heap.get? fa = some o → o.data = .func (docDef d.name d.params d.body d.scope pm cd doc) → s₁.heap.CodeRec cd d.name → mg d.name = some (.ref fa) →
      s₁.heap.get? a = some { cls := .type "list", data := .seq vs.toArray } → IntsAre vs ns → ns.length ≤ n →
      s.gens = #[] → s.os = s₁.os →
      Fr s₁.heap s₁.heap.objs.size s.heap (bindL (envOfC d.name d.scope s₁.heap.objs.size fa cd).kindOf [(x, .ref a)] fun _ => none) →
      Cl s₁.heap.objs.size (cellsFrom (s₁.heap.objs.size + 1) d.scope.names []) s.heap (bindC (envOfC d.name d.scope s₁.heap.objs.size fa cd).kindOf [(x, .ref a)] fun _ => none) →
      wpAny (model l.prog w) (callerA.deeper (envOfC d.name d.scope s₁.heap.objs.size fa cd)) (execs d.body (envOfC d.name d.scope s₁.heap.objs.size fa cd))
        (fun f s' => f = .ret (.bool true) ∧ (∀ b o, s₁.heap.get? b = some o → s'.heap.get? b = some o) ∧ s'.os = s₁.os ∧ s'.gens = #[]) (fun _ _ => False) s) :
    WalkN q loose XP YP l.row.toRowW d [] (fun f vs => PySem.call f vs) := by
  intro w s₀ s₁ mg mb G Y fa o pm cd doc dV kV ho hd hcd hD hmg hg args vals as hpre hlay hrd hwl hlo
  obtain rfl : dV = .none := Dflts.none hD hdf
  obtain rfl : kV = .none := Dflts.noKw hD
  obtain ⟨a, vs, ns, rfl, rfl, hobj, hints, hlen⟩ := script_of hn hpre hwl
  refine enter_callW ?_
  refine call_cells_ret (o := o) (by rw [depth_caller]; decide) ho (fd_plain hd) G.T.nolimit hcd (hbind pm cd doc (.ref a)) (fun y hy => ?_) (fun h₁ tk F X => ?_) hco hgen hk
  · obtain rfl : y = (x, Value.ref a) := List.mem_singleton.mp hy
    rcases hx with e | e
    · exact .inl e
    · exact .inr ⟨e, cellsFrom_some _ _ _ (.inl e)⟩
  · refine wpAny_mono (body w s₀ s₁ { s₁ with heap := h₁, toks := tk } mg mb fa o pm cd doc a vs ns G Y ho (fd_plain hd) hcd hmg hobj hints hlen hg rfl F X) (fun f s' hq => ?_) (fun _ _ hq => hq)
    obtain ⟨rfl, h2, h3, h4⟩ := hq
    exact ⟨.inl ⟨.bool true, .bool true, [], rfl, fun _ => rfl, .bool true, post_true l _, fun _ => ⟨List.Pairwise.nil, fun _ hm => (nomatch hm)⟩⟩, h2, h3, h4⟩

/-! ### rules over ANY heap (no ledger) from facts about the written part K: the library's own take a ledger (News) for what they write -/
section
variable {prog : Program} {w : World} {A : Around} {E : Value → Shared → Prop} {s : Shared} {K : Frag}

/-- a def of the module, or a method (qual 'C.m'), entered: the frame is the next address; cells behind it -/
theorem call_fn {R : Result → Shared → Prop} {name qual : Str} {params : Arguments} {body : List Stmt} {scope : Scope} {dV kV doc pm cdv ct oc : Value} {an od : Option Addr} {osl : Array (Option Value)} {f : Addr} {args : Args} {binds : List (Str × Value)}
    (X : K.In s.heap) (hlim : s.heap.NoLimit) (ho : K.lookup f = some ⟨oc, od, .func (fnOf name qual params body scope dV kV doc pm an cdv ct), osl⟩) (hcd : codeIn K cdv qual = true) (hroom : A.depth < recursionLimit)
    (hbind : BindsTo s (fnOf name qual params body scope dV kV doc pm an cdv ct) args binds)
    (hkind : (binds.all fun y => scope.names.lookup y.1 == some .local || scope.names.lookup y.1 == some .cell) = true)
    (h : ∀ s₁, InCallC s s.heap.objs.size (bindL (envOfC qual scope s.heap.objs.size f cdv).kindOf binds fun _ => none) (cellsFrom (s.heap.objs.size + 1) scope.names [])
        (bindC (envOfC qual scope s.heap.objs.size f cdv).kindOf binds fun _ => none) s₁ →
      wpAny (model prog w) (A.deeper (envOfC qual scope s.heap.objs.size f cdv)) (execs body (envOfC qual scope s.heap.objs.size f cdv))
        (fun fl s' => R (.ok (.ret (match fl with | .ret v => v | _ => .none))) s')
        (fun e s' => wpAny (model prog w) (A.deeper (envOfC qual scope s.heap.objs.size f cdv)) (leaving (envOfC qual scope s.heap.objs.size f cdv) e) (fun _ s'' => R (.error e) s'') (fun e' s'' => R (.error e') s'') s') s₁)
    (hco : scope.isCoroutine = false) (hgen : scope.isGenerator = false) (hk : scope.kind = .function) : codeAny (model prog w) A (.call (.ref f) args) R s := by
  refine codeAny_call_function hroom (X _ _ ho) rfl hco hgen rfl (codeRec_of X hcd) (hbind _ _ _ _ ?_)
  refine wpAny_newFunctionEnv_cells hk (kindsX hkind _) fun env he s₁ x => ?_
  subst he
  exact ⟨hlim.keeps x.toInCall.keep, codeAny_func (h s₁ x)⟩

/-- C(..): dict at size, instance at size + 1, then __init__ -/
theorem make_obj {R : Result → Shared → Prop} {C fI : Addr} {rest : List Value} {kw : List (Str × Value)}
    (X : K.In s.heap) (hm : makesIn K C = true) (hi : findIn K (.ref C) "__init__" = some (some (.ref fI))) (hf : isFn K (.ref fI) = true)
    (h : codeAny (model prog w) (A.under (.builtin "type.__call__" ⟨.ref C :: rest, kw⟩)) (.call (.ref fI) ⟨.ref (s.heap.objs.size + 1) :: rest, kw⟩) (InitBack (s.heap.objs.size + 1) R)
      { s with heap := (s.heap.push emptyDict).push (instObj C s.heap.objs.size) }) : codeAny (model prog w) A (.call (.ref C) ⟨rest, kw⟩) R s := by
  obtain ⟨hh, g, d, t, os⟩ := s
  exact make_core (makes_of X hm) (looks_findIn X hi) (fun self => bind_fn X self (beq_iff_eq.mp hf)) (.inl rfl) h

/-- x.name where the instance's dict holds the name and the class does not -/
theorem get_field {x C : Addr} {ox : Obj} {es : List DictEntry} {n : Nat} {name : Str} {expr : Bool} {v : Value} {Q : Value → Shared → Prop}
    (X : K.In s.heap) (I : PySem.W.InstAt s.heap x ox C (some (dictOf es n))) (hg : plainGet K C name = true) (hh : hasDictIn K C = true) (ha : findIn K (.ref C) name = some none)
    (hl : getL name es = some (some v)) (hv : handedIn v = true) (h : Q v { s with toks := s.toks + 1 }) : wpAny (model prog w) A (getAttr (.ref x) name expr) Q E s :=
  get_value X I (plainGet_of hg).1 (findObj_own hh ha rfl hl) hv h

/-- x.m(..): the method found in the class -/
theorem get_method {x C f : Addr} {ox : Obj} {es : List DictEntry} {n : Nat} {name : Str} {pl : Sem Bool} {Q : Value × List Value → Shared → Prop}
    (X : K.In s.heap) (I : PySem.W.InstAt s.heap x ox C (some (dictOf es n))) (hg : plainGet K C name = true) (hf : findIn K (.ref C) name = some (some (.ref f))) (ht : isFn K (.ref f) = true)
    (hl : getL name es = some none) (h : Q (.ref f, [.ref x]) s) : wpAny (model prog w) A (getMethod (.ref x) name pl) Q E s :=
  method_fn X I (plainGet_of hg).1 (plainGet_of hg).2 hf (beq_iff_eq.mp ht) (by show (lookIn name (dictOf es n)).map _ = _; rw [lookIn_dict, hl]; rfl) h

/-! the whole heap as the ledger: makes every rule that writes through a ledger a rule over any heap -/
def noObjs (h : Heap) : Heap := { h with objs := #[] }
theorem noObjs_get (h : Heap) (b : Addr) : (noObjs h).get? b = none := by
  cases e : (noObjs h).get? b with
  | none => rfl
  | some o => exact absurd (Heap.lt_size e) (Nat.not_lt_zero _)
def ledger (h : Heap) (L d : Addr) : List (Addr × Obj) := (List.range h.objs.size).filterMap fun a => if a = L ∨ a = d then none else (h.get? a).map fun o => (a, o)
theorem mem_ledger {h : Heap} {L d a : Addr} {o : Obj} : (a, o) ∈ ledger h L d ↔ a ≠ L ∧ a ≠ d ∧ h.get? a = some o := by
  unfold ledger
  rw [List.mem_filterMap]
  constructor
  · rintro ⟨b, _, e⟩
    split at e
    · cases e
    · rename_i hb
      obtain ⟨o', ho, e'⟩ := Option.map_eq_some_iff.mp e
      cases e'
      exact ⟨fun q => hb (.inl q), fun q => hb (.inr q), ho⟩
  · rintro ⟨n1, n2, ho⟩
    refine ⟨a, List.mem_range.mpr (Heap.lt_size ho), ?_⟩
    rw [if_neg (show ¬ (a = L ∨ a = d) from fun q => q.elim n1 n2), ho] <;> rfl
theorem news_ledger {h : Heap} {L d : Addr} {od : Obj} (hne : d ≠ L) (ho : h.get? d = some od) : News (noObjs h) L h ([] ++ (d, od) :: ledger h L d) := by
  rintro ⟨a, o⟩ hp
  rcases List.mem_cons.mp hp with e | hp
  · cases e
    exact ⟨ho, hne, noObjs_get _ _⟩
  · obtain ⟨n1, n2, e⟩ := mem_ledger.mp hp
    exact ⟨e, n1, noObjs_get _ _⟩
theorem fr_all {h : Heap} {L : Addr} {m : Str → Option Value} (n : h.Ns L m) : Fr (noObjs h) L h m :=
  ⟨n, fun b o e => (by rw [noObjs_get] at e; cases e), Nat.zero_le _⟩
/-- Upd of the head entry (for append_K, setItem_K ..) -/
theorem upd_ledger {h : Heap} {L d : Addr} {o o' : Obj} : Upd d o o' ((d, o) :: ledger h L d) ((d, o') :: ledger h L d) :=
  .head fun ⟨_, _⟩ hp => (mem_ledger.mp hp).2.1

/-- x.name = v over any heap: L is any namespace of the heap (the frame's, say): its map stays, its object is not told; all else but the dict stays -/
theorem set_field {x C dx L : Addr} {ox : Obj} {m : Str → Option Value} {es es' : List DictEntry} {n n' : Nat} {name : Str} {v : Value} {Q : Unit → Shared → Prop}
    (X : K.In s.heap) (I : PySem.W.InstAt s.heap x ox C (some (dictOf es n))) (hd : ox.dict = some dx) (hL : s.heap.Ns L m) (hne : dx ≠ L)
    (hs : findIn K (.ref C) "__setattr__" = some (some (.builtin "object.__setattr__"))) (hp : plainOver K C = true) (ht : takerIn K C name = some none) (hh : hasDictIn K C = true) (hl : (getL name es).isSome = true)
    (e : (putL name (PyData.keyHash w.params name) (.str name (s.toks + 1)) v es, putN name es n) = (es', n')) (hz : es'.length ≤ 1000)
    (h : ∀ h' : Heap, h'.Ns L m → h'.get? dx = some (dictOf es' n') → (∀ b o, b ≠ dx → b ≠ L → s.heap.get? b = some o → h'.get? b = some o) → Q () { s with heap := h', toks := s.toks + 2 }) :
    wpAny (model prog w) A (setAttr (.ref x) name v) Q E s := by
  obtain ⟨e1, e2⟩ := Prod.mk.inj e
  have hdx : s.heap.get? dx = some (dictOf es n) := by
    have := I.dict
    rw [hd] at this
    exact this
  refine set_plain X I hs (osa_dict (s := { s with toks := s.toks + 1 }) (h₀ := noObjs s.heap) (L := L) (m := m) (od := dictOf es n) (od' := dictOf es' n') (es := es') (n := n') (pre := []) (post := ledger s.heap L dx)
    (fr_all hL) (news_ledger hne hdx) X I hd hp ht hh hl (fun _ q => nomatch q) (fun ⟨_, _⟩ q => (mem_ledger.mp q).2.1) (by rw [putName_dict, e1, e2]) rfl hz fun h' F' N' => ?_)
  exact h h' F'.ns (N'.get (List.Mem.head _)) fun b o n1 n2 ho => N'.get (List.Mem.tail _ (mem_ledger.mpr ⟨n2, n1, ho⟩))
end
end Att

namespace L2
open PySem PySem.Spec PyProof.Rows

theorem vals_ints : ∀ {vs : List Value} {ns : List Int}, IntsAre vs ns → Vals (ns.map V.int) vs
  | _, _, .nil => .nil
  | _, _, .cons n t h => .cons ⟨t, rfl⟩ (vals_ints h)

/-- nothing is tracked but the script, known to the object (or it is an object of the module) -/
def Only (H : Hp) : Prop := ∀ b, H b = none ∨ ∃ o xs, H b = some (.frz o (.lst xs))

/-- THE HEAD: the law's promise, at the heap behind the top. F, the promise of the law's def, may use that base is part of the heap (so K.In base, base.Ns mainGlobals mg stand in Mod) -/
theorem law_call {P : Program} {w : World} {K : PySem.W.Frag} {mg mb : Str → Option Value} {CX : CXT} {k : Nat} {fa a : Addr} {fd : FuncData} {x : Str} {sp : Sp} {s₁ : Shared} {vs : List Value} {ns : List Int}
    (KX : K.In s₁.heap) (hns : s₁.heap.Ns mainGlobals mg) (hb : s₁.heap.Ns builtinsNs mb) (hbb : ∀ x : Str, x ≠ "__name__" → mb x = bootBuiltins x) (hlim : s₁.heap.NoLimit) (hg : s₁.gens = #[])
    (ha : s₁.heap.get? a = some { cls := .type "list", data := .seq vs.toArray }) (hi : IntsAre vs ns) (hl : ns.length ≤ sizeLine) (hr : Room k callerA)
    (F : ∀ base : Heap, K.In base → base.Ns mainGlobals mg → FnOk P w K mg base CX k fa fd [x] sp) (hbind : ∀ (s : Shared) (u : Value), BindsTo s fd ⟨[u], []⟩ [(x, u)])
    (hsp : ∀ H : Hp, Only H → SqL K H a (ns.map V.int) → sp [.ref a] H (fun v _ => v = .bl true) fun _ _ _ => False)
    (hCX : ∀ H e s', CX [] H s₁ (fun _ _ _ => False) e s' → False) :
    codeAny (model P w) callerA (.call (.ref fa) ⟨[.ref a], []⟩) (fun r s' => r = .ok (.ret (.bool true)) ∧ OldK s₁.heap s'.heap ∧ s'.os = s₁.os ∧ AllBare s'.gens) s₁ := by
  have rv := vals_ints hi
  have lenV := hi.length
  -- from an abstract heap in which nothing but the script may be tracked
  have core : ∀ H : Hp, Only H → SqL K H a (ns.map V.int) → HOk P w H s₁.heap → (∀ b, H b ≠ none → b = a) → (H a ≠ none → K.lookup a = none) →
      codeAny (model P w) callerA (.call (.ref fa) ⟨[.ref a], []⟩) (fun r s' => r = .ok (.ret (.bool true)) ∧ OldK s₁.heap s'.heap ∧ s'.os = s₁.os ∧ AllBare s'.gens) s₁ := by
    intro H hO hS hok hA hK
    have base_of : ∀ {b : Addr} {o : Obj}, s₁.heap.get? b = some o → H b = none → (hidT s₁.heap H).get? b = some o := fun e n => hidT_get e n
    have noA : ∀ {b : Addr} {o : Obj} {es : Array DictEntry} {ep : Nat}, s₁.heap.get? b = some o → o.data = .dict es ep → H b = none := fun {b o es ep} e d => by
      cases q : H b with
      | none => rfl
      | some u =>
        have e' : b = a := hA b (by rw [q]; simp)
        subst e'
        rw [ha] at e; cases e
        have d' : Data.seq vs.toArray _ = Data.dict es ep := d
        cases d'
    have nsK : ∀ {b : Addr} {m : Str → Option Value}, s₁.heap.Ns b m → (hidT s₁.heap H).Ns b m := fun {b m} ⟨o, es, ep, e, d, r⟩ => ⟨o, es, ep, base_of e (noA e d), d, r⟩
    have hKb : K.In (hidT s₁.heap H) := fun b o e => base_of (KX b o e) (by
      cases q : H b with
      | none => rfl
      | some u =>
        have e' : b = a := hA b (by rw [q]; simp)
        subst e'
        rw [hK (by rw [q]; simp)] at e; cases e)
    have hM : Mod K mg (hidT s₁.heap H) := ⟨hKb, nsK hns, ⟨mb, nsK hb, hbb⟩, let ⟨mc, h1, h2⟩ := hlim; ⟨mc, nsK h1, h2⟩⟩
    have e0 : Env0 P w K mg (hidT s₁.heap H) callerA [] s₁ H := ⟨rfl, hM, fun b o e => of_hidT e, Nat.le_of_eq (hidT_size _ _), trivial, fun b hb => absurd (show b ∈ ([] : List Addr) from hb) (by simp), hok, .of_eq hg⟩
    refine codeAny_mono ((F _ hKb (nsK hns)).run callerA [] s₁ H ⟨[.ref a], []⟩ [.ref a] [.ref a] _ _ hr e0 (hbind s₁ (.ref a)) (.cons rfl .nil) (hsp H hO hS)) fun r s' h => ?_
    cases r with
    | error e => exact (hCX H e s' h).elim
    | ok fl =>
      cases fl with
      | next => exact False.elim h
      | brk => exact False.elim h
      | cont => exact False.elim h
      | ret u =>
        obtain ⟨v, H', os, bare, un, hok', r', q⟩ := h
        have q' : v = .bl true := q
        subst q'
        obtain rfl : u = Value.bool true := r'
        refine ⟨rfl, OldK.of_keep fun b o e => ?_, os, bare⟩
        cases q : H b with
        | none => exact un.keep b o e q (by intro z; exact absurd (show b ∈ ([] : List Addr) from z) (by simp)) (by simp)
        | some u =>
          rcases hO b with z | ⟨ob, xs, z⟩
          · rw [q] at z; cases z
          · have z2 := un.frzs b ob _ z
            obtain ⟨e1, _⟩ := hok b _ z
            obtain ⟨e2, _⟩ := hok' b _ z2
            rw [e] at e1; cases e1
            exact e2
  cases hk : K.lookup a with
  | some o =>
    -- the script is one of the module's own objects
    have e := KX a o hk
    rw [ha] at e
    cases e
    refine core (fun _ => none) (fun _ => .inl rfl) (.inr ⟨_, vs.toArray, _, hk, rfl, rfl, rfl, by rw [List.size_toArray, lenV]; exact hl, by simpa using rv⟩) (fun b u z => by have z' : (none : Option HO) = some u := z; cases z') (fun b z => absurd rfl z) fun z => absurd rfl z
  | none =>
    refine core (fun b => if b = a then some (.frz { cls := .type "list", data := .seq vs.toArray } (.lst (ns.map V.int))) else none) (fun b => ?_) (.inl (.inr ⟨{ cls := .type "list", data := .seq vs.toArray }, if_pos rfl⟩)) (fun b u z => ?_) (fun b z => ?_) fun _ => hk
    · by_cases hb : b = a
      · exact .inr ⟨_, _, if_pos hb⟩
      · exact .inl (if_neg hb)
    · by_cases hb : b = a
      · have z' := (if_pos hb).symm.trans z
        cases z'
        subst hb
        exact ⟨ha, by rw [List.length_map]; exact hl, vs, _, rv, ha⟩
      · have z' := (if_neg hb).symm.trans z
        cases z'
    · by_cases hb : b = a
      · exact hb
      · exact absurd (if_neg hb) z
end L2

namespace L2
open PySem PySem.Spec PyProof.Rows

abbrev KOf {K : PySem.W.Frag} {h : Heap} (_ : K.In h) : PySem.W.Frag := K

/-- the goal that k_head leaves (case hc), from the law's promise. F gives the function object fd (K's own) once, then the promise over every base -/
theorem walk_of {l : PySem.W.OpenLaw} {n k : Nat} {q : Program} {loose : List Str} {XP : (Str → Option Value) → Heap → Prop} {YP : World → Heap → Prop} {d : DefRec} {K : Params → PySem.W.Frag} {CX : World → CXT} {sp : World → Sp} {x : Str}
    (hn : l.most = some n) (hn2 : n ≤ sizeLine) (hdf : d.params.defaults = []) (hr : Room k callerA)
    (hY : ∀ (w : World) (h : Heap), YP w h → (K w.params).In h)
    (F : ∀ (w : World) (mg : Str → Option Value) (fa : Addr) (h : Heap), (K w.params).In h → h.Ns mainGlobals mg → mg d.name = some (.ref fa) →
      ∃ fd : FuncData, (∀ (s : Shared) (u : Value), BindsTo s fd ⟨[u], []⟩ [(x, u)]) ∧
        ∀ base : Heap, (K w.params).In base → base.Ns mainGlobals mg → FnOk l.prog w (K w.params) mg base (CX w) k fa fd [x] (sp w))
    (hsp : ∀ (w : World) (H : Hp) (a : Addr) (ns : List Int), ns.length ≤ n → Only H → SqL (K w.params) H a (ns.map V.int) → sp w [.ref a] H (fun v _ => v = .bl true) fun _ _ _ => False)
    (hCX : ∀ (w : World) (H : Hp) (s : Shared) (e : Value) (s' : Shared), CX w [] H s (fun _ _ _ => False) e s' → False) :
    PySem.W.WalkO q loose XP YP l.row.toRowW d [] (fun f vs => PySem.call f vs) := by
  refine Att.attach_call hn hdf fun w s₀ s₁ mg mb fa o pm cd doc a vs ns G Y ho hd hcd hmg hobj hints hlen hg => ?_
  have KX := hY w _ Y
  obtain ⟨fd, hb, hF⟩ := F w mg fa _ KX G.T.g hmg
  exact law_call KX G.T.g G.T.b G.T.builtins G.T.nolimit hg hobj hints (Nat.le_trans hlen hn2) hr hF hb (fun H hO hS => hsp w H a ns hlen hO hS) fun H e s' => hCX w H s₁ e s'
/-- the same where the promise hangs on the written part alone: (sp := My.sp_law), no hole under a binder -/
theorem walk_ofK {l : PySem.W.OpenLaw} {n k : Nat} {q : Program} {loose : List Str} {XP : (Str → Option Value) → Heap → Prop} {YP : World → Heap → Prop} {d : DefRec} {K : Params → PySem.W.Frag} {CX : CXT} {sp : PySem.W.Frag → Sp} {x : Str}
    (hn : l.most = some n) (hn2 : n ≤ sizeLine) (hdf : d.params.defaults = []) (hr : Room k callerA)
    (hY : ∀ (w : World) (h : Heap), YP w h → (K w.params).In h)
    (F : ∀ (w : World) (mg : Str → Option Value) (fa : Addr) (h : Heap), (K w.params).In h → h.Ns mainGlobals mg → mg d.name = some (.ref fa) →
      ∃ fd : FuncData, (∀ (s : Shared) (u : Value), BindsTo s fd ⟨[u], []⟩ [(x, u)]) ∧
        ∀ base : Heap, (K w.params).In base → base.Ns mainGlobals mg → FnOk l.prog w (K w.params) mg base CX k fa fd [x] (sp (K w.params)))
    (hsp : ∀ (K : PySem.W.Frag) (H : Hp) (a : Addr) (ns : List Int), ns.length ≤ n → Only H → SqL K H a (ns.map V.int) → sp K [.ref a] H (fun v _ => v = .bl true) fun _ _ _ => False)
    (hCX : ∀ (H : Hp) (s : Shared) (e : Value) (s' : Shared), CX [] H s (fun _ _ _ => False) e s' → False) :
    PySem.W.WalkO q loose XP YP l.row.toRowW d [] (fun f vs => PySem.call f vs) :=
  walk_of (K := K) (CX := fun _ => CX) (sp := fun w => sp (K w.params)) hn hn2 hdf hr hY F (fun w H a ns h1 h2 h3 => hsp (K w.params) H a ns h1 h2 h3) fun _ H s e s' => hCX H s e s'
end L2

/- THE LAST THEOREM (shape; LID, My.* are yours):
   My.Adr: a structure of the addresses that your layer names (classes, functions); My.Txt K t: a structure (Prop) of the equations over K;
   My.txt_mk : {K} {implicit addresses ..} (e1 : nsIn K mainGlobals "law" = some (some (.ref f))) (e2 : K.lookup f = some ⟨oc, od, .func (fnOf "law" "law" params body scope dV kV doc pm an cdv ct), sl⟩) (e3 : codeIn K cdv "law" = true) .. : ∃ t, My.Txt K t

set_option maxRecDepth 100000 in
set_option maxHeartbeats 0 in
theorem PySem.Challenge.cw_LID_holds : PySem.Challenge.rw_LID.Holds := by
  w_on; o_law; k_head; (case hw => w_witness2)
  k_fill
  refine L2.walk_of (l := PySem.Challenge.rw_LID) (n := 63) (k := 40) (x := "script") (CX := fun w => ..) (sp := fun _ => My.sp_law) rfl (by decide) rfl ⟨rfl, by decide, by decide⟩ (fun w h Y => PySem.W.kIn_of Y) ?F ?S ?C
  case F =>
    intro w mg fa h KX G hmg
    have T : ∃ t, My.Txt (L2.KOf KX) t := by
      dsimp only [L2.KOf]                          -- K must stand as «<heap const> w.params» for k_is
      refine' My.txt_mk ?e1 ?e2 ?e3 ..
      (case e1 => PySem.W.k_is)                    -- in the order: a name -> its address -> its object -> its parts
      (case e2 => PySem.W.k_is)
      ..
    obtain ⟨t, T⟩ := T
    have e0 := hmg.symm.trans (PySem.W.mg_of KX G T.law)
    cases e0                                       -- fa is the law's own address
    exact ⟨_, fun s u => .of_eq rfl, fun base kb nb => My.law_fn T kb nb⟩     -- if «.of_eq rfl» comes too early: refine' ⟨_, ?b, fun base kb nb => My.law_fn T kb nb⟩; exact fun s u => .of_eq rfl
  case S => exact fun w H a ns hl hO hS => ..
  case C => exact ..
(the tactic k_is has no namespace: write k_is) -/

/-! SHORT WORDS over the layer: a def of the text, its body, what a loop and a test want. -/
namespace L2
open PySem PySem.Spec PyProof.Rows

/-! ### the text by places -/
/-- the j-th statement of a class's body -/
def inClass (s : Stmt) (j : Nat) : Stmt := match s with
  | .ClassDef _ _ _ body _ _ _ _ _ _ _ => body.getD j (.Pass ⟨0, 0, 0, 0⟩)
  | _ => .Pass ⟨0, 0, 0, 0⟩
def defArgs (s : Stmt) : Arguments := match s with
  | .FunctionDef _ a _ _ _ _ _ _ _ _ => a
  | _ => { posonlyargs := [], args := [], vararg := none, kwonlyargs := [], kw_defaults := [], kwarg := none, defaults := [] }
def defBody (s : Stmt) : List Stmt := match s with
  | .FunctionDef _ _ b _ _ _ _ _ _ _ => b
  | _ => []
def defScope (s : Stmt) : Scope := match s with
  | .FunctionDef _ _ _ _ _ _ sc _ _ _ => sc
  | _ => { kind := .function, names := [], isGenerator := false, isCoroutine := false }

/-! ### no exception leaves a def -/
abbrev CX0 : CXT := fun _ _ _ _ _ _ => False
abbrev E0 : XK := fun _ _ _ => False
theorem pass0 {X : Cx} : Passes CX0 X E0 := fun _ _ _ _ _ _ _ h => h.elim

/-! ### a def (or method) of the text as it stands behind the top -/
structure Fun (K : PySem.W.Frag) (x qual : Str) (st : Stmt) (f : Addr) (fd : FuncData) : Prop where
  ex : ∃ (oc : Value) (od : Option Addr) (kV doc pm : Value) (an : Option Addr) (cdv ct : Value) (osl : Array (Option Value)),
    fd = PySem.W.fnOf x qual (defArgs st) (defBody st) (defScope st) .none kV doc pm an cdv ct ∧ K.lookup f = some ⟨oc, od, .func fd, osl⟩ ∧ PySem.W.codeIn K cdv qual = true
  kp : PySem.W.keepIn K (.ref f) = true
section
variable {P : Program} {w : World} {K : PySem.W.Frag} {mg : Str → Option Value} {base : Heap}
/-- THE RULE for a def: its body as a term of rules, and the reading of that term -/
theorem Fun.ok {x qual : Str} {st : Stmt} {f : Addr} {fd : FuncData} {N ps : List Str} {k : Nat} {sp : Sp} (F : Fun K x qual st f fd) (S : FnScope N ps (defScope st)) (len : ∀ vs H Q E, sp vs H Q E → vs.length = ps.length)
    (hbody : ∀ (cdv : Value) (A : Around) (outer : List Env) (s : Shared) (H : Hp) (vs : List V) (Q : VK) (E : XK), Room k (A.deeper (envOfC qual (defScope st) s.heap.objs.size f cdv)) → sp vs H Q E →
      ∃ t, PSs (cxOf CX0 P w K mg base N qual (defScope st) f cdv A outer s H E).nox (defBody st) t ∧ t { nx := fun _ H' => Q .non H', rt := Q } (start N vs) H) : FnOk P w K mg base CX0 (k + 1) f fd ps sp := by
  obtain ⟨oc, od, kV, doc, pm, an, cdv, ct, osl, rfl, lk, hcd⟩ := F.ex
  refine fn_of lk hcd S len fun A outer s H vs Q E hr hsp => ?_
  obtain ⟨t, h, q⟩ := hbody cdv A outer s H vs Q E hr hsp
  exact ⟨t, h.nox, q⟩
/-- how its arguments bind (no defaults): h is «fun _ _ _ _ _ _ us hl => match us, hl with | [_, _], _ => rfl», one _ a parameter -/
theorem Fun.binds {x qual : Str} {st : Stmt} {f : Addr} {fd : FuncData} {ps : List Str} (F : Fun K x qual st f fd)
    (h : ∀ (kV doc pm : Value) (an : Option Addr) (cdv ct : Value) (us : List Value), us.length = ps.length → bindArgs (PySem.W.fnOf x qual (defArgs st) (defBody st) (defScope st) .none kV doc pm an cdv ct) ⟨us, []⟩ = pure (ps.zip us)) : Binds K fd ps [] := by
  obtain ⟨oc, od, kV, doc, pm, an, cdv, ct, osl, rfl, lk, hcd⟩ := F.ex
  exact .all (h kV doc pm an cdv ct)
theorem fun_mk {x qual : Str} {st : Stmt} {f : Addr} {oc : Value} {od an : Option Addr} {osl : Array (Option Value)} {kV doc pm cdv ct : Value} (l : K.lookup f = some ⟨oc, od, .func (PySem.W.fnOf x qual (defArgs st) (defBody st) (defScope st) .none kV doc pm an cdv ct), osl⟩)
    (c : PySem.W.codeIn K cdv qual = true) (k : PySem.W.keepIn K (.ref f) = true) : Fun K x qual st f (PySem.W.fnOf x qual (defArgs st) (defBody st) (defScope st) .none kV doc pm an cdv ct) := ⟨⟨oc, od, kV, doc, pm, an, cdv, ct, osl, rfl, l, c⟩, k⟩
end
theorem hu_of {A : Around} {k : Nat} (hr : Room k A) : A.units + 1 < cLine := Nat.lt_of_le_of_lt (Nat.add_le_add_left (by decide : 1 ≤ 64) _) hr.units
theorem small1000 {n : Nat} (h : n ≤ 1000) : n < sizeLine := Nat.lt_of_le_of_lt h (by decide)

/-! ### expressions in short: the name that stands in the i-th slot -/
section
variable {X : Cx}
theorem pv (i : Nat) {x : Str} {pos : Pos} (hN : X.N[i]? = some x := by rfl) (hv : Vis X.env.scope x := by first | exact Or.inl rfl | exact Or.inr (Or.inl rfl) | exact Or.inr (Or.inr rfl)) (hd : (x == ("__debug__" : Str)) = false := by decide)
    (hcd : (x == ("__classdict__" : Str)) = false := by decide) : PE X (.Name x pos) (tVar i) := pe_var hN hv hd hcd
end

/-! ### tests -/
theorem iteF {A B : Prop} (h : B) : if false = true then A else B := by
  rw [if_neg Bool.false_ne_true]
  exact h
theorem iteT {A B : Prop} (h : A) : if true = true then A else B := by
  rw [if_pos rfl]
  exact h
theorem ite2 {c A B : Prop} [Decidable c] (h1 : c → A) (h2 : ¬ c → B) : if c then A else B := by
  by_cases h : c
  · rw [if_pos h]
    exact h1 h
  · rw [if_neg h]
    exact h2 h
theorem iteNS {c A B : Prop} [Decidable c] (hc : c) (h : B) : if (!decide c) = true then A else B := by
  rw [decide_eq_true hc]
  exact iteF h

/-! ### heaps -/
/-- all that was tracked is as it was -/
def Same (H H' : Hp) : Prop := ∀ b o, H b = some o → H' b = some o
theorem Same.refl (H : Hp) : Same H H := fun _ _ h => h
theorem Same.trans {H H1 H2 : Hp} (a : Same H H1) (b : Same H1 H2) : Same H H2 := fun c o h => b c o (a c o h)
theorem Same.free {H H' : Hp} (e : Same H H') {l : Addr} (h : H' l = Option.none) : H l = Option.none := by
  cases q : H l with
  | none => rfl
  | some o =>
    rw [e l o q] at h
    cases h
theorem Same.seq {K : PySem.W.Frag} {H H' : Hp} {a : Addr} {xs : List V} (e : Same H H') (h : SqL K H a xs) : SqL K H' a xs := by
  rcases h with (h | ⟨o, h⟩) | h
  · exact .inl (.inl (e _ _ h))
  · exact .inl (.inr ⟨o, e _ _ h⟩)
  · exact .inr h

end L2

set_option Elab.async false
set_option linter.all false
set_option maxRecDepth 100000
set_option maxHeartbeats 4000000
/-! DATA LAYER: every expression and statement read as a function over plain data -/
namespace DL
open PySem PySem.Spec PyProof.Rows L2
abbrev St := L2.St

/-! ### data -/
inductive D where
  | non
  | bl (b : Bool)
  | int (i : Int)
  | tup (ds : List D)
  | lst (ds : List D)
  | scr (ns : List Int)
  | exc (c : Str) (p : Option Int)

inductive Out (α : Type) where
  | bad
  | ok (a : α)
  | exc (c : Str) (p : Option Int)

def Out.bind {α β : Type} (x : Out α) (f : α → Out β) : Out β :=
  match x with
  | .bad => .bad
  | .ok a => f a
  | .exc c p => .exc c p

@[simp] theorem bind_ok {α β : Type} (a : α) (f : α → Out β) : (Out.ok a).bind f = f a := rfl
@[simp] theorem bind_bad {α β : Type} (f : α → Out β) : (Out.bad : Out α).bind f = .bad := rfl
@[simp] theorem bind_exc {α β : Type} (c : Str) (p : Option Int) (f : α → Out β) : (Out.exc c p : Out α).bind f = .exc c p := rfl
theorem bind_inv {α β : Type} {x : Out α} {f : α → Out β} {b : β} (h : x.bind f = .ok b) : ∃ a, x = .ok a ∧ f a = .ok b := by
  cases x with
  | bad => cases h
  | ok a => exact ⟨a, rfl, h⟩
  | exc c p => cases h
theorem bind_assoc {α β γ : Type} (x : Out α) (f : α → Out β) (g : β → Out γ) : (x.bind f).bind g = x.bind fun a => (f a).bind g := by
  cases x <;> rfl

inductive Val where
  | pers (d : D)
  | fresh (ds : List D)
  | brw (i : Nat) (ds : List D)
@[simp] def Val.d : Val → D
  | .pers d => d
  | .fresh ds => .lst ds
  | .brw _ ds => .lst ds
/-- what may be kept by another thing -/
@[simp] def Val.hold : Val → Out D
  | .pers d => .ok d
  | .fresh ds => .ok (.lst ds)
  | .brw _ _ => .bad

inductive Slot where
  | un
  | pers (d : D)
  | own (ds : List D)
abbrev Ev := List Slot
abbrev FE := Ev → Out Val
abbrev FT := Ev → Out Bool
inductive Res where
  | next (env : Ev)
  | ret (v : Val)
abbrev FS := Ev → Out Res

/-! ### what stands for data -/
mutual
def Rep (K : PySem.W.Frag) (G : Hp) : D → V → Prop
  | .non, v => v = .non
  | .bl b, v => v = .bl b
  | .int i, v => v = .int i
  | .tup ds, v => ∃ a vs, v = .ref a ∧ G a = some (.tup vs) ∧ RepL K G ds vs
  | .lst ds, v => ∃ a vs, v = .ref a ∧ G a = some (.lst vs) ∧ RepL K G ds vs
  | .scr ns, v => ∃ a, v = .ref a ∧ SqL K G a (ns.map V.int)
  | .exc _ _, _ => False
def RepL (K : PySem.W.Frag) (G : Hp) : List D → List V → Prop
  | [], vs => vs = []
  | d :: ds, vs => ∃ v r, vs = v :: r ∧ Rep K G d v ∧ RepL K G ds r
end

section
variable {K : PySem.W.Frag} {G G' : Hp}
mutual
theorem Rep.mono (s : Same G G') : ∀ {d : D} {v : V}, Rep K G d v → Rep K G' d v
  | .non, _, h => h
  | .bl _, _, h => h
  | .int _, _, h => h
  | .tup ds, v, h => by
    obtain ⟨a, vs, e, g, r⟩ := h
    exact ⟨a, vs, e, s _ _ g, RepL.mono s r⟩
  | .lst ds, v, h => by
    obtain ⟨a, vs, e, g, r⟩ := h
    exact ⟨a, vs, e, s _ _ g, RepL.mono s r⟩
  | .scr ns, v, h => by
    obtain ⟨a, e, g⟩ := h
    exact ⟨a, e, s.seq g⟩
  | .exc _ _, _, h => h
theorem RepL.mono (s : Same G G') : ∀ {ds : List D} {vs : List V}, RepL K G ds vs → RepL K G' ds vs
  | [], _, h => h
  | d :: ds, vs, h => by
    obtain ⟨v, r, e, h1, h2⟩ := h
    exact ⟨v, r, e, Rep.mono s h1, RepL.mono s h2⟩
end

theorem RepL.nil : RepL K G [] [] := rfl
theorem RepL.cons {d : D} {v : V} {ds : List D} {vs : List V} (h : Rep K G d v) (r : RepL K G ds vs) : RepL K G (d :: ds) (v :: vs) := ⟨v, vs, rfl, h, r⟩
theorem RepL.length : ∀ {ds : List D} {vs : List V}, RepL K G ds vs → ds.length = vs.length
  | [], _, h => by cases (show _ = [] from h); rfl
  | d :: ds, vs, h => by
    obtain ⟨v, r, rfl, _, h2⟩ := h
    simp [RepL.length h2]
theorem RepL.get : ∀ {ds : List D} {vs : List V} {i : Nat} {d : D}, RepL K G ds vs → ds[i]? = some d → ∃ v, vs[i]? = some v ∧ Rep K G d v
  | [], _, i, d, h, e => by simp at e
  | d' :: ds, vs, 0, d, h, e => by
    obtain ⟨v, r, rfl, h1, h2⟩ := h
    simp at e
    subst e
    exact ⟨v, rfl, h1⟩
  | d' :: ds, vs, i + 1, d, h, e => by
    obtain ⟨v, r, rfl, h1, h2⟩ := h
    obtain ⟨u, h3, h4⟩ := RepL.get (i := i) h2 (by simpa using e)
    exact ⟨u, by simpa using h3, h4⟩
theorem RepL.get' : ∀ {ds : List D} {vs : List V} {i : Nat} {v : V}, RepL K G ds vs → vs[i]? = some v → ∃ d, ds[i]? = some d ∧ Rep K G d v
  | [], _, i, d, h, e => by cases (show _ = [] from h); simp at e
  | d' :: ds, vs, 0, d, h, e => by
    obtain ⟨v, r, rfl, h1, h2⟩ := h
    simp at e
    subst e
    exact ⟨d', rfl, h1⟩
  | d' :: ds, vs, i + 1, d, h, e => by
    obtain ⟨v, r, rfl, h1, h2⟩ := h
    obtain ⟨u, h3, h4⟩ := RepL.get' (i := i) h2 (by simpa using e)
    exact ⟨u, by simpa using h3, h4⟩
theorem RepL.append : ∀ {ds es : List D} {vs us : List V}, RepL K G ds vs → RepL K G es us → RepL K G (ds ++ es) (vs ++ us)
  | [], es, vs, us, h, h' => by cases (show _ = [] from h); exact h'
  | d :: ds, es, vs, us, h, h' => by
    obtain ⟨v, r, rfl, h1, h2⟩ := h
    exact ⟨v, r ++ us, rfl, h1, RepL.append h2 h'⟩
theorem RepL.take : ∀ {ds : List D} {vs : List V} (n : Nat), RepL K G ds vs → RepL K G (ds.take n) (vs.take n)
  | ds, vs, 0, h => by simp only [List.take_zero]; exact rfl
  | [], vs, n + 1, h => by cases (show _ = [] from h); exact rfl
  | d :: ds, vs, n + 1, h => by
    obtain ⟨v, r, rfl, h1, h2⟩ := h
    exact ⟨v, r.take n, rfl, h1, RepL.take n h2⟩
theorem RepL.drop : ∀ {ds : List D} {vs : List V} (n : Nat), RepL K G ds vs → RepL K G (ds.drop n) (vs.drop n)
  | ds, vs, 0, h => by simpa using h
  | [], vs, n + 1, h => by cases (show _ = [] from h); exact rfl
  | d :: ds, vs, n + 1, h => by
    obtain ⟨v, r, rfl, h1, h2⟩ := h
    exact RepL.drop n h2
theorem RepL.reverse {ds : List D} : ∀ {vs : List V}, RepL K G ds vs → RepL K G ds.reverse vs.reverse := by
  induction ds with
  | nil => intro vs h; cases (show _ = [] from h); exact rfl
  | cons d ds ih =>
    intro vs h
    obtain ⟨v, r, rfl, h1, h2⟩ := h
    rw [List.reverse_cons, List.reverse_cons]
    exact RepL.append (ih h2) (RepL.cons h1 RepL.nil)
theorem RepL.dropLast {ds : List D} {vs : List V} (h : RepL K G ds vs) : RepL K G ds.dropLast vs.dropLast := by
  rw [List.dropLast_eq_take, List.dropLast_eq_take, ← h.length]
  exact h.take _
theorem RepL.set {d : D} {v : V} (hd : Rep K G d v) : ∀ {ds : List D} {vs : List V} (i : Nat), RepL K G ds vs → RepL K G (ds.set i d) (vs.set i v)
  | [], vs, i, h => by cases (show _ = [] from h); exact rfl
  | d' :: ds, vs, 0, h => by
    obtain ⟨u, r, rfl, h1, h2⟩ := h
    exact ⟨v, r, rfl, hd, h2⟩
  | d' :: ds, vs, i + 1, h => by
    obtain ⟨u, r, rfl, h1, h2⟩ := h
    exact ⟨u, r.set i v, rfl, h1, RepL.set hd i h2⟩
theorem RepL.ints : ∀ (ns : List Int), RepL K G (ns.map D.int) (ns.map V.int)
  | [] => rfl
  | n :: ns => ⟨.int n, ns.map V.int, rfl, rfl, RepL.ints ns⟩
theorem RepL.ints_of : ∀ {ns : List Int} {vs : List V}, RepL K G (ns.map D.int) vs → vs = ns.map V.int
  | [], _, h => h
  | n :: ns, vs, h => by
    obtain ⟨v, r, rfl, h1, h2⟩ := h
    rw [RepL.ints_of h2]
    cases (show v = .int n from h1)
    rfl
end

/-! ### how the heap grows -/
structure Grow (G H G' H' : Hp) : Prop where
  g : Same G G'
  h : Same H H'
  n : ∀ b, H b ≠ none → G b = none → G' b = none
theorem Grow.refl (G H : Hp) : Grow G H G H := ⟨Same.refl _, Same.refl _, fun _ _ h => h⟩
theorem Same.some_of {H H' : Hp} (s : Same H H') {b : Addr} (h : H b ≠ none) : H' b ≠ none := by
  cases q : H b with
  | none => exact absurd q h
  | some o => rw [s b o q]; simp
theorem Grow.trans {G H G1 H1 G2 H2 : Hp} (a : Grow G H G1 H1) (b : Grow G1 H1 G2 H2) : Grow G H G2 H2 :=
  ⟨a.g.trans b.g, a.h.trans b.h, fun c h1 h2 => b.n c (Same.some_of a.h h1) (a.n c h1 h2)⟩
theorem none_of_same {H H' : Hp} (s : Same H H') {b : Addr} (h : H' b = none) : H b = none := s.free h

structure SlotOwn (K : PySem.W.Frag) (H₀ : Hp) (σ : St) (G H : Hp) (i : Nat) (ds : List D) (a : Addr) (vs : List V) : Prop where
  at_ : σ[i]? = some (some (.ref a))
  hp : H a = some (.lst vs)
  gn : G a = none
  new : H₀ a = none
  rep : RepL K G ds vs
def SlotOk (K : PySem.W.Frag) (H₀ : Hp) (σ : St) (G H : Hp) (i : Nat) : Slot → Prop
  | .un => True
  | .pers d => ∃ v, σ[i]? = some (some v) ∧ Rep K G d v
  | .own ds => ∃ a vs, SlotOwn K H₀ σ G H i ds a vs

/-- the data invariant: G₀, H₀ as at the def's entry -/
structure DI (K : PySem.W.Frag) (G₀ H₀ : Hp) (env : Ev) (σ : St) (G H : Hp) : Prop where
  le : Same G H
  gr : Grow G₀ H₀ G H
  len : env.length = σ.length
  slot : ∀ (i : Nat) (s : Slot), env[i]? = some s → SlotOk K H₀ σ G H i s
  apart : ∀ (i j : Nat) (ds es : List D) (a : Addr), i ≠ j → env[i]? = some (.own ds) → env[j]? = some (.own es) → σ[i]? = some (some (.ref a)) → σ[j]? ≠ some (some (.ref a))

section
variable {K : PySem.W.Frag} {G₀ H₀ G H G' H' : Hp} {env : Ev} {σ : St}
theorem DI.grow (I : DI K G₀ H₀ env σ G H) (g : Grow G H G' H') (l : Same G' H') : DI K G₀ H₀ env σ G' H' where
  le := l
  gr := I.gr.trans g
  len := I.len
  slot := fun i s e => by
    have q := I.slot i s e
    cases s with
    | un => trivial
    | pers d => obtain ⟨v, h1, h2⟩ := q; exact ⟨v, h1, h2.mono g.g⟩
    | own ds =>
      obtain ⟨a, vs, o⟩ := q
      exact ⟨a, vs, o.at_, g.h _ _ o.hp, g.n a (by rw [o.hp]; simp) o.gn, o.new, o.rep.mono g.g⟩
  apart := I.apart
theorem DI.own (I : DI K G₀ H₀ env σ G H) {i : Nat} {ds : List D} (e : env[i]? = some (.own ds)) : ∃ a vs, SlotOwn K H₀ σ G H i ds a vs := I.slot i _ e
theorem DI.pers (I : DI K G₀ H₀ env σ G H) {i : Nat} {d : D} (e : env[i]? = some (.pers d)) : ∃ v, σ[i]? = some (some v) ∧ Rep K G d v := I.slot i _ e
end

/-- what an expression hands back; H: the heap ahead of it -/
def ValOk (K : PySem.W.Frag) (H : Hp) (env : Ev) (σ : St) (G' H' : Hp) (v : V) : Val → Prop
  | .pers d => Rep K G' d v
  | .fresh ds => ∃ a vs, v = .ref a ∧ H a = none ∧ H' a = some (.lst vs) ∧ G' a = none ∧ RepL K G' ds vs
  | .brw i ds => ∃ a, v = .ref a ∧ env[i]? = some (.own ds) ∧ σ[i]? = some (some (.ref a))
theorem ValOk.base {K : PySem.W.Frag} {H H1 : Hp} {env : Ev} {σ : St} {G' H' : Hp} {v : V} {val : Val} (s : Same H H1) (h : ValOk K H1 env σ G' H' v val) : ValOk K H env σ G' H' v val := by
  cases val with
  | pers d => exact h
  | fresh ds =>
    obtain ⟨a, vs, e, h1, h2, h3, h4⟩ := h
    exact ⟨a, vs, e, s.free h1, h2, h3, h4⟩
  | brw i ds => exact h

/-- what may be looked at: a thing that stays, or the list of a name -/
def Opd (K : PySem.W.Frag) (env : Ev) (σ : St) (G : Hp) (v : V) (d : D) : Prop :=
  Rep K G d v ∨ ∃ (i : Nat) (ds : List D) (a : Addr), d = .lst ds ∧ v = .ref a ∧ env[i]? = some (.own ds) ∧ σ[i]? = some (some (.ref a))
theorem Opd.mono {K : PySem.W.Frag} {env : Ev} {σ : St} {G G' : Hp} {v : V} {d : D} (h : Opd K env σ G v d) (s : Same G G') : Opd K env σ G' v d :=
  h.elim (fun x => .inl (x.mono s)) .inr

section
variable {K : PySem.W.Frag} {G₀ H₀ G H G' H' : Hp} {env : Ev} {σ : St} {v : V}
/-- the list behind an operand -/
theorem Opd.lst {ds : List D} (I : DI K G₀ H₀ env σ G H) (h : Opd K env σ G v (.lst ds)) : ∃ a vs, v = .ref a ∧ H a = some (.lst vs) ∧ RepL K G ds vs := by
  rcases h with h | ⟨i, es, a, e1, e2, e3, e4⟩
  · obtain ⟨a, vs, e, g, r⟩ := h
    exact ⟨a, vs, e, I.le _ _ g, r⟩
  · cases e1
    obtain ⟨b, vs, o⟩ := I.own e3
    have q := o.at_
    rw [e4] at q
    cases q
    exact ⟨a, vs, e2, o.hp, o.rep⟩
theorem Opd.tup {ds : List D} (I : DI K G₀ H₀ env σ G H) (h : Opd K env σ G v (.tup ds)) : ∃ a vs, v = .ref a ∧ H a = some (.tup vs) ∧ RepL K G ds vs := by
  rcases h with h | ⟨i, es, a, e1, e2, e3, e4⟩
  · obtain ⟨a, vs, e, g, r⟩ := h
    exact ⟨a, vs, e, I.le _ _ g, r⟩
  · cases e1
theorem Opd.int {i : Int} (h : Opd K env σ G v (.int i)) : v = .int i := by
  rcases h with h | ⟨_, _, _, e, _⟩
  · exact h
  · cases e
theorem Opd.bl {b : Bool} (h : Opd K env σ G v (.bl b)) : v = .bl b := by
  rcases h with h | ⟨_, _, _, e, _⟩
  · exact h
  · cases e
theorem Opd.non (h : Opd K env σ G v .non) : v = .non := by
  rcases h with h | ⟨_, _, _, e, _⟩
  · exact h
  · cases e
theorem Opd.scr {ns : List Int} (I : DI K G₀ H₀ env σ G H) (h : Opd K env σ G v (.scr ns)) : ∃ a, v = .ref a ∧ SqL K H a (ns.map V.int) := by
  rcases h with h | ⟨_, _, _, e, _⟩
  · obtain ⟨a, e, q⟩ := h
    exact ⟨a, e, I.le.seq q⟩
  · cases e
/-- what came is looked at: a new list is kept from now on -/
theorem opd {val : Val} (g : Grow G H G' H') (l : Same G' H') (h : ValOk K H env σ G' H' v val) : ∃ G'', Grow G H G'' H' ∧ Same G'' H' ∧ Opd K env σ G'' v val.d := by
  cases val with
  | pers d => exact ⟨G', g, l, .inl h⟩
  | brw i ds =>
    obtain ⟨a, e1, e2, e3⟩ := h
    exact ⟨G', g, l, .inr ⟨i, ds, a, rfl, e1, e2, e3⟩⟩
  | fresh ds =>
    obtain ⟨a, vs, e, h1, h2, h3, h4⟩ := h
    have s' : Same G' (upd G' a (.lst vs)) := fun b o q => by rw [upd_ne (ne_of_none q h3)]; exact q
    refine ⟨upd G' a (.lst vs), ⟨g.g.trans s', g.h, fun b q1 q2 => ?_⟩, fun b o q => ?_, .inl ⟨a, vs, e, upd_same, h4.mono s'⟩⟩
    · have hb : b ≠ a := fun z => q1 (z ▸ h1)
      rw [upd_ne hb]
      exact g.n b q1 q2
    · by_cases hb : b = a
      · subst hb; rw [upd_same] at q; cases q; exact h2
      · rw [upd_ne hb] at q; exact l b o q
/-- .. as a thing that another thing keeps -/
theorem held {val : Val} {d : D} (g : Grow G H G' H') (l : Same G' H') (h : ValOk K H env σ G' H' v val) (e : val.hold = .ok d) : ∃ G'', Grow G H G'' H' ∧ Same G'' H' ∧ Rep K G'' d v := by
  obtain ⟨G2, g2, l2, o⟩ := opd g l h
  cases val with
  | pers d' => cases e; exact ⟨G', g, l, h⟩
  | brw i ds => cases e
  | fresh ds =>
    cases e
    rcases o with o | ⟨i, es, a, e1, e2, e3, e4⟩
    · exact ⟨G2, g2, l2, o⟩
    · obtain ⟨a', vs, e, h1, h2, h3, h4⟩ := h
      have s' : Same G' (upd G' a' (.lst vs)) := fun b o q => by rw [upd_ne (ne_of_none q h3)]; exact q
      refine ⟨upd G' a' (.lst vs), ⟨g.g.trans s', g.h, fun b q1 q2 => ?_⟩, fun b o q => ?_, ⟨a', vs, e, upd_same, h4.mono s'⟩⟩
      · have hb : b ≠ a' := fun z => q1 (z ▸ h1)
        rw [upd_ne hb]
        exact g.n b q1 q2
      · by_cases hb : b = a'
        · subst hb; rw [upd_same] at q; cases q; exact h2
        · rw [upd_ne hb] at q; exact l b o q

/-- a new thing is laid: a tuple stays, a list is fresh -/
theorem Grow.laidT {p : Addr} {o : HO} (l : Same G H) (hp : H p = none) : Grow G H (upd G p o) (upd H p o) ∧ Same (upd G p o) (upd H p o) := by
  have gp := l.free hp
  refine ⟨⟨fun b u q => by rw [upd_ne (ne_of_none q gp)]; exact q, fun b u q => by rw [upd_ne (ne_of_none q hp)]; exact q, fun b h1 h2 => ?_⟩, fun b u q => ?_⟩
  · have hb : b ≠ p := fun z => h1 (z ▸ hp)
    rw [upd_ne hb]; exact h2
  · by_cases hb : b = p
    · subst hb; rw [upd_same] at q ⊢; exact q
    · rw [upd_ne hb] at q ⊢; exact l b u q
theorem Grow.laidL {p : Addr} {o : HO} (l : Same G H) (hp : H p = none) : Grow G H G (upd H p o) ∧ Same G (upd H p o) :=
  ⟨⟨Same.refl _, fun b u q => by rw [upd_ne (ne_of_none q hp)]; exact q, fun _ _ h => h⟩, fun b u q => by rw [upd_ne (ne_of_none q (l.free hp))]; exact l b u q⟩
theorem valFresh {p : Addr} {ds : List D} {vs : List V} {G1 H1 : Hp} (l : Same G1 H1) (hp : H1 p = none) (r : RepL K G1 ds vs) : ValOk K H1 env σ G1 (upd H1 p (.lst vs)) (.ref p) (.fresh ds) :=
  ⟨p, vs, rfl, hp, upd_same, l.free hp, r⟩
theorem valTup {p : Addr} {ds : List D} {vs : List V} {G1 H1 : Hp} (l : Same G1 H1) (hp : H1 p = none) (r : RepL K G1 ds vs) : ValOk K H1 env σ (upd G1 p (.tup vs)) (upd H1 p (.tup vs)) (.ref p) (.pers (.tup ds)) := by
  have gp := l.free hp
  exact ⟨p, vs, rfl, upd_same, r.mono fun b u q => by rw [upd_ne (ne_of_none q gp)]; exact q⟩
end

/-! ### the readings -/
section
variable (K : PySem.W.Frag) (G₀ H₀ : Hp)
def tE (f : FE) : TE := fun σ H Q => ∃ env G val, DI K G₀ H₀ env σ G H ∧ f env = .ok val ∧
  ∀ v G' H', Grow G H G' H' → Same G' H' → ValOk K H env σ G' H' v val → Q v H'
def tT (f : FT) : TT := fun σ H Q => ∃ env G b, DI K G₀ H₀ env σ G H ∧ f env = .ok b ∧ ∀ G' H', Grow G H G' H' → Same G' H' → Q b H'
/-- arguments that are looked at; arguments that are kept -/
def ArgOk (env : Ev) (σ : St) (G : Hp) (v : V) : Val → Prop
  | .pers d => Rep K G d v
  | .fresh _ => False
  | .brw i ds => ∃ a, v = .ref a ∧ env[i]? = some (.own ds) ∧ σ[i]? = some (some (.ref a))
def ArgsOk (env : Ev) (σ : St) (G : Hp) : List V → List Val → Prop
  | [], vals => vals = []
  | v :: vs, vals => ∃ x r, vals = x :: r ∧ ArgOk K env σ G v x ∧ ArgsOk env σ G vs r
def tA (f : Ev → Out (List Val)) : TA := fun σ H Q => ∃ env G vals, DI K G₀ H₀ env σ G H ∧ f env = .ok vals ∧
  ∀ vs G' H', Grow G H G' H' → Same G' H' → ArgsOk K env σ G' vs vals → Q vs H'
def tH (f : Ev → Out (List D)) : TA := fun σ H Q => ∃ env G ds, DI K G₀ H₀ env σ G H ∧ f env = .ok ds ∧
  ∀ vs G' H', Grow G H G' H' → Same G' H' → RepL K G' ds vs → Q vs H'
def EndOk (G : Hp) (D : Ends) : Res → Prop
  | .next env' => ∀ σ' G' H', Same G G' → DI K G₀ H₀ env' σ' G' H' → D.nx σ' H'
  | .ret val => ∀ v G' H', Grow G₀ H₀ G' H' → Same G' H' → ValOk K H₀ [] [] G' H' v val → D.rt v H'
def tS (f : FS) : TS := fun D σ H => ∃ env G r, DI K G₀ H₀ env σ G H ∧ f env = .ok r ∧ EndOk K G₀ H₀ G D r
end
def DE (X : Cx) (G₀ H₀ : Hp) (e : Expr) (f : FE) : Prop := PE X e (tE X.K G₀ H₀ f)
def DT (X : Cx) (G₀ H₀ : Hp) (e : Expr) (f : FT) : Prop := PT X e (tT X.K G₀ H₀ f)
def DW (X : Cx) (G₀ H₀ : Hp) (e : Expr) (f : FT) : Prop := PW X e (tT X.K G₀ H₀ f)
def DA (X : Cx) (G₀ H₀ : Hp) (es : List Expr) (f : Ev → Out (List Val)) : Prop := PA X es (tA X.K G₀ H₀ f)
def DH (X : Cx) (G₀ H₀ : Hp) (es : List Expr) (f : Ev → Out (List D)) : Prop := PA X es (tH X.K G₀ H₀ f)
def DS (X : Cx) (G₀ H₀ : Hp) (st : Stmt) (f : FS) : Prop := PS X st (tS X.K G₀ H₀ f)
def DSs (X : Cx) (G₀ H₀ : Hp) (st : List Stmt) (f : FS) : Prop := PSs X st (tS X.K G₀ H₀ f)

theorem _root_.L2.PE.imp {X : Cx} {e : Expr} {t t' : TE} (h : PE X e t) (i : ∀ σ H Q, t' σ H Q → t σ H Q) : PE X e t' := fun pins s σ H Q I q => h pins s σ H Q I (i σ H Q q)
theorem _root_.L2.PT.imp {X : Cx} {e : Expr} {t t' : TT} (h : PT X e t) (i : ∀ σ H Q, t' σ H Q → t σ H Q) : PT X e t' := fun pins s σ H Q I q => h pins s σ H Q I (i σ H Q q)
theorem _root_.L2.PW.imp {X : Cx} {e : Expr} {t t' : TT} (h : PW X e t) (i : ∀ σ H Q, t' σ H Q → t σ H Q) : PW X e t' := fun wh pins s σ H Q I q => h wh pins s σ H Q I (i σ H Q q)
theorem _root_.L2.PA.imp {X : Cx} {e : List Expr} {t t' : TA} (h : PA X e t) (i : ∀ σ H Q, t' σ H Q → t σ H Q) : PA X e t' := fun pos pins s σ H Q I q => h pos pins s σ H Q I (i σ H Q q)
theorem _root_.L2.PS.imp {X : Cx} {e : Stmt} {t t' : TS} (h : PS X e t) (i : ∀ D σ H, t' D σ H → t D σ H) : PS X e t' := fun pins s σ H D I q => h pins s σ H D I (i D σ H q)
theorem _root_.L2.PSs.imp {X : Cx} {e : List Stmt} {t t' : TS} (h : PSs X e t) (i : ∀ D σ H, t' D σ H → t D σ H) : PSs X e t' := fun pins s σ H D I q => h pins s σ H D I (i D σ H q)

section
variable {K : PySem.W.Frag} {G₀ H₀ G H : Hp} {env : Ev} {σ : St}
/-- one operand; two; three -/
theorem tE_one {f : FE} {x : Val} {P : V → Hp → Prop} (I : DI K G₀ H₀ env σ G H) (e : f env = .ok x)
    (k : ∀ v G' H', Grow G H G' H' → Same G' H' → DI K G₀ H₀ env σ G' H' → Opd K env σ G' v x.d → P v H') : tE K G₀ H₀ f σ H P :=
  ⟨env, G, x, I, e, fun v G' H' g l h => by
    obtain ⟨G2, g2, l2, o⟩ := opd g l h
    exact k v G2 H' g2 l2 (I.grow g2 l2) o⟩
theorem tE_two {f g : FE} {x y : Val} {P : V → V → Hp → Prop} (I : DI K G₀ H₀ env σ G H) (e : f env = .ok x) (e' : g env = .ok y)
    (k : ∀ v u G' H', Grow G H G' H' → Same G' H' → DI K G₀ H₀ env σ G' H' → Opd K env σ G' v x.d → Opd K env σ G' u y.d → P v u H') :
    tE K G₀ H₀ f σ H fun v H1 => tE K G₀ H₀ g σ H1 fun u H2 => P v u H2 :=
  tE_one I e fun v G1 H1 g1 l1 I1 o1 => tE_one I1 e' fun u G2 H2 g2 l2 I2 o2 => k v u G2 H2 (g1.trans g2) l2 I2 (o1.mono g2.g) o2
end

/-! ### names, constants -/
@[simp] def fVar (i : Nat) : FE := fun env => match env[i]? with
  | some (.pers d) => .ok (.pers d)
  | some (.own ds) => .ok (.brw i ds)
  | _ => .bad
@[simp] def fC (d : D) : FE := fun _ => .ok (.pers d)
section
variable {X : Cx} {G₀ H₀ : Hp} {pos : Pos}
theorem de_var {i : Nat} {x : Str} (h : PE X (.Name x pos) (tVar i)) : DE X G₀ H₀ (.Name x pos) (fVar i) := h.imp fun σ H Q q => by
  obtain ⟨env, G, val, I, e, k⟩ := q
  unfold fVar at e
  cases q : env[i]? with
  | none => rw [q] at e; cases e
  | some s =>
    rw [q] at e
    cases s with
    | un => cases e
    | pers d =>
      cases e
      obtain ⟨v, h1, h2⟩ := I.pers q
      exact ⟨v, h1, k v G H (Grow.refl _ _) I.le h2⟩
    | own ds =>
      cases e
      obtain ⟨a, vs, o⟩ := I.own q
      exact ⟨.ref a, o.at_, k _ G H (Grow.refl _ _) I.le ⟨a, rfl, q, o.at_⟩⟩
theorem de_c {e : Expr} {v : V} {d : D} (h : PE X e (tC v)) (r : ∀ G, Rep X.K G d v) : DE X G₀ H₀ e (fC d) := h.imp fun σ H Q q => by
  obtain ⟨env, G, val, I, e, k⟩ := q
  cases e
  exact k v G H (Grow.refl _ _) I.le (r G)
theorem de_int {i j} : DE X G₀ H₀ (.Constant (.int i) j pos) (fC (.int i)) := de_c pe_int fun _ => rfl
theorem de_bl {b j} : DE X G₀ H₀ (.Constant (.bool b) j pos) (fC (.bl b)) := de_c pe_bl fun _ => rfl
theorem de_non {j} : DE X G₀ H₀ (.Constant .none j pos) (fC .non) := de_c pe_non fun _ => rfl
end

/-! ### operations of two operands, of one -/
@[simp] def f2 (g : D → D → Out Val) (fa fb : FE) : FE := fun env => (fa env).bind fun x => (fb env).bind fun y => g x.d y.d
@[simp] def f1 (g : D → Out Val) (fa : FE) : FE := fun env => (fa env).bind fun x => g x.d
def OpD (K : PySem.W.Frag) (r : R2) (g : D → D → Out Val) : Prop :=
  ∀ (G₀ H₀ : Hp) (env : Ev) (σ : St) (G H : Hp) (v u : V) (d1 d2 : D) (val : Val) (Q : VK), DI K G₀ H₀ env σ G H → Opd K env σ G v d1 → Opd K env σ G u d2 → g d1 d2 = .ok val →
    (∀ w G' H', Grow G H G' H' → Same G' H' → ValOk K H env σ G' H' w val → Q w H') → r v u H Q
def UnD (K : PySem.W.Frag) (r : V → Hp → VK → Prop) (g : D → Out Val) : Prop :=
  ∀ (G₀ H₀ : Hp) (env : Ev) (σ : St) (G H : Hp) (v : V) (d1 : D) (val : Val) (Q : VK), DI K G₀ H₀ env σ G H → Opd K env σ G v d1 → g d1 = .ok val →
    (∀ w G' H', Grow G H G' H' → Same G' H' → ValOk K H env σ G' H' w val → Q w H') → r v H Q
section
variable {X : Cx} {G₀ H₀ : Hp} {pos : Pos} {a b : Expr} {fa fb : FE}
theorem imp2 {r : R2} {g : D → D → Out Val} (hd : OpD X.K r g) (σ : St) (H : Hp) (Q : VK) (q : tE X.K G₀ H₀ (f2 g fa fb) σ H Q) : tOp r (tE X.K G₀ H₀ fa) (tE X.K G₀ H₀ fb) σ H Q := by
  obtain ⟨env, G, val, I, e, k⟩ := q
  obtain ⟨x, e1, e⟩ := bind_inv e
  obtain ⟨y, e2, e⟩ := bind_inv e
  exact tE_two I e1 e2 fun v u G' H' g1 l1 I1 o1 o2 => hd G₀ H₀ env σ G' H' v u _ _ val Q I1 o1 o2 e fun w G2 H2 g2 l2 h2 => k w G2 H2 (g1.trans g2) l2 (h2.base g1.h)
theorem imp1 {r : V → Hp → VK → Prop} {g : D → Out Val} (hd : UnD X.K r g) (σ : St) (H : Hp) (Q : VK) (q : tE X.K G₀ H₀ (f1 g fa) σ H Q) : tUn r (tE X.K G₀ H₀ fa) σ H Q := by
  obtain ⟨env, G, val, I, e, k⟩ := q
  obtain ⟨x, e1, e⟩ := bind_inv e
  exact tE_one I e1 fun v G' H' g1 l1 I1 o1 => hd G₀ H₀ env σ G' H' v _ val Q I1 o1 e fun w G2 H2 g2 l2 h2 => k w G2 H2 (g1.trans g2) l2 (h2.base g1.h)
theorem de_op {op : Operator} {r : R2} {g : D → D → Out Val} (ho : OpR X (binaryOp op) r) (hd : OpD X.K r g) (ha : DE X G₀ H₀ a fa) (hb : DE X G₀ H₀ b fb) : DE X G₀ H₀ (.BinOp a op b pos) (f2 g fa fb) :=
  (pe_op ho ha hb).imp (imp2 hd)
theorem de_un {op : UnaryOp} {r : V → Hp → VK → Prop} {g : D → Out Val} (ho : UnR X (unaryOp op) r) (hd : UnD X.K r g) (ha : DE X G₀ H₀ a fa) : DE X G₀ H₀ (.UnaryOp op a pos) (f1 g fa) :=
  (pe_un ho ha).imp (imp1 hd)
theorem de_cmp {op : CmpOp} {r : R2} {g : D → D → Out Val} (ho : OpR X (compareOp op) r) (hd : OpD X.K r g) (ha : DE X G₀ H₀ a fa) (hb : DE X G₀ H₀ b fb) (hm : behindInMarks op b = false) : DE X G₀ H₀ (.Compare a [op] [b] pos) (f2 g fa fb) :=
  (pe_cmpR ho ha hb hm).imp (imp2 hd)
theorem de_ix {r : R2} {g : D → D → Out Val} (hr : IxR X r) (hd : OpD X.K r g) (ha : DE X G₀ H₀ a fa) (hb : DE X G₀ H₀ b fb) (hs : PlainIx b) : DE X G₀ H₀ (.Subscript a b pos) (f2 g fa fb) :=
  (pe_ix hr ha hb hs).imp (imp2 hd)
end

/-! ### ints -/
@[simp] def gI (C : Int → Int → Bool) (g : Int → Int → Int) : D → D → Out Val
  | .int i, .int j => if C i j then .ok (.pers (.int (g i j))) else .bad
  | _, _ => .bad
@[simp] def gIB (g : Int → Int → Bool) : D → D → Out Val
  | .int i, .int j => .ok (.pers (.bl (g i j)))
  | _, _ => .bad
section
variable {K : PySem.W.Frag}
theorem od_int {C : Int → Int → Bool} {C' : Int → Int → Prop} {g : Int → Int → Int} (hC : ∀ i j, C i j = true → C' i j) : OpD K (rI C' fun i j => .int (g i j)) (gI C g) := by
  intro G₀ H₀ env σ G H v u d1 d2 val Q I o1 o2 e k
  unfold gI at e
  split at e
  · rename_i i j
    split at e
    · rename_i hc
      cases e
      exact ⟨i, j, o1.int, o2.int, hC i j hc, k _ G H (Grow.refl _ _) I.le rfl⟩
    · cases e
  · cases e
theorem od_int0 {g : Int → Int → Int} : OpD K (rI0 fun i j => .int (g i j)) (gI (fun _ _ => true) g) := by
  intro G₀ H₀ env σ G H v u d1 d2 val Q I o1 o2 e k
  unfold gI at e
  split at e
  · rename_i i j
    rw [if_pos rfl] at e
    cases e
    exact ⟨i, j, o1.int, o2.int, k _ G H (Grow.refl _ _) I.le rfl⟩
  · cases e
theorem od_intB {g : Int → Int → Bool} : OpD K (rI0 fun i j => .bl (g i j)) (gIB g) := by
  intro G₀ H₀ env σ G H v u d1 d2 val Q I o1 o2 e k
  unfold gIB at e
  split at e
  · rename_i i j
    cases e
    exact ⟨i, j, o1.int, o2.int, k _ G H (Grow.refl _ _) I.le rfl⟩
  · cases e
end
def small64 (i : Int) : Bool := decide (-(2 ^ 64) < i) && decide (i < 2 ^ 64)
def cMul (i j : Int) : Bool := small64 i || small64 j
def cPow (i j : Int) : Bool := decide (0 ≤ j) && decide (j ≤ 1000000) && decide (i.natAbs < 2 ^ 64)
@[simp] def gAddI := gI (fun _ _ => true) (· + ·)
@[simp] def gSub := gI (fun _ _ => true) (· - ·)
@[simp] def gMul := gI cMul (· * ·)
@[simp] def gMod := gI (fun _ j => decide (0 < j)) (· % ·)
@[simp] def gPow := gI cPow (fun i j => i ^ j.toNat)
@[simp] def gLt := gIB fun i j => decide (i < j)
@[simp] def gLe := gIB fun i j => decide (i ≤ j)
@[simp] def gGt := gIB fun i j => decide (j < i)
@[simp] def gGe := gIB fun i j => decide (j ≤ i)
@[simp] def gNeg : D → Out Val
  | .int i => .ok (.pers (.int (-i)))
  | _ => .bad
section
variable {X : Cx} {G₀ H₀ : Hp} {pos : Pos} {a b : Expr} {fa fb : FE}
theorem de_sub (ha : DE X G₀ H₀ a fa) (hb : DE X G₀ H₀ b fb) : DE X G₀ H₀ (.BinOp a .Sub b pos) (f2 gSub fa fb) := de_op op_sub od_int0 ha hb
theorem de_mul (ha : DE X G₀ H₀ a fa) (hb : DE X G₀ H₀ b fb) : DE X G₀ H₀ (.BinOp a .Mult b pos) (f2 gMul fa fb) :=
  de_op op_mul (od_int fun i j h => by
    simp only [cMul, small64, Bool.or_eq_true, Bool.and_eq_true, decide_eq_true_eq] at h
    exact h) ha hb
theorem de_mod (ha : DE X G₀ H₀ a fa) (hb : DE X G₀ H₀ b fb) : DE X G₀ H₀ (.BinOp a .Mod b pos) (f2 gMod fa fb) := de_op op_mod (od_int fun i j h => of_decide_eq_true h) ha hb
theorem de_pow (ha : DE X G₀ H₀ a fa) (hb : DE X G₀ H₀ b fb) : DE X G₀ H₀ (.BinOp a .Pow b pos) (f2 gPow fa fb) :=
  de_op op_pow (od_int fun i j h => by
    simp only [cPow, Bool.and_eq_true, decide_eq_true_eq] at h
    exact ⟨h.1.1, h.1.2, h.2⟩) ha hb
theorem de_lt (ha : DE X G₀ H₀ a fa) (hb : DE X G₀ H₀ b fb) : DE X G₀ H₀ (.Compare a [.Lt] [b] pos) (f2 gLt fa fb) := de_cmp op_lt od_intB ha hb (nomark _)
theorem de_le (ha : DE X G₀ H₀ a fa) (hb : DE X G₀ H₀ b fb) : DE X G₀ H₀ (.Compare a [.LtE] [b] pos) (f2 gLe fa fb) := de_cmp op_le od_intB ha hb (nomark _)
theorem de_gt (ha : DE X G₀ H₀ a fa) (hb : DE X G₀ H₀ b fb) : DE X G₀ H₀ (.Compare a [.Gt] [b] pos) (f2 gGt fa fb) := de_cmp op_gt od_intB ha hb (nomark _)
theorem de_ge (ha : DE X G₀ H₀ a fa) (hb : DE X G₀ H₀ b fb) : DE X G₀ H₀ (.Compare a [.GtE] [b] pos) (f2 gGe fa fb) := de_cmp op_ge od_intB ha hb (nomark _)
theorem de_neg (ha : DE X G₀ H₀ a fa) : DE X G₀ H₀ (.UnaryOp .USub a pos) (f1 gNeg fa) := de_un un_neg (by
  intro G₀ H₀ env σ G H v d1 val Q I o1 e k
  unfold gNeg at e
  split at e
  · rename_i i
    cases e
    exact ⟨i, o1.int, k _ G H (Grow.refl _ _) I.le rfl⟩
  · cases e) ha
end
end DL

set_option Elab.async false
set_option linter.all false
set_option maxRecDepth 100000
set_option maxHeartbeats 4000000
namespace DL
open PySem PySem.Spec PyProof.Rows L2

/-! ### // by a positive number -/
def cDiv (_ j : Int) : Bool := decide (0 < j) && decide (j < 2 ^ 250)
theorem op_fdivB {X : Cx} : OpR X (binaryOp .FloorDiv) (rI (fun _ j => 0 < j ∧ j < 2 ^ 250) fun i j => .int (i / j)) := opI fun i j t u s Q E hc q => by
  have hne : j ≠ 0 := by omega
  refine floordiv_int hne ?_ (.inl (PyProof.noPylong_of_log2 ?_))
  · rw [Int.fdiv_eq_ediv_of_nonneg _ (by omega)]
    exact q
  · have h1 : j.natAbs < 2 ^ 9000 := Nat.lt_of_lt_of_le (m := 2 ^ 250) (by have := hc.2; omega) (Nat.pow_le_pow_right (by decide) (by decide))
    exact (Nat.log2_lt (by omega)).mpr h1
@[simp] def gDiv := gI cDiv (· / ·)
theorem de_div {X : Cx} {G₀ H₀ : Hp} {pos : Pos} {a b : Expr} {fa fb : FE} (ha : DE X G₀ H₀ a fa) (hb : DE X G₀ H₀ b fb) : DE X G₀ H₀ (.BinOp a .FloorDiv b pos) (f2 gDiv fa fb) :=
  de_op op_fdivB (od_int fun i j h => by
    simp only [cDiv, Bool.and_eq_true, decide_eq_true_eq] at h
    exact h) ha hb

/-! ### == as the model's own data -/
mutual
def toPy : D → PyData
  | .non => .none
  | .bl b => .bool b
  | .int i => .int i
  | .tup ds => .tuple (toPyL ds)
  | .lst ds => .list (toPyL ds)
  | .scr ns => .list (ns.map .int)
  | .exc _ _ => .none
def toPyL : List D → List PyData
  | [] => []
  | d :: ds => toPy d :: toPyL ds
end
def eqD (x y : D) : Bool := PyData.eqv (toPy x) (toPy y)
def eqDL (xs ys : List D) : Bool := PyData.eqvAll (toPyL xs) (toPyL ys)
/-- not deep -/
def shal : Nat → D → Bool
  | 0, .tup _ => false
  | 0, .lst _ => false
  | 0, _ => true
  | n + 1, .tup ds => ds.all (shal n)
  | n + 1, .lst ds => ds.all (shal n)
  | _ + 1, _ => true
theorem lay_ints : ∀ ns : List Int, PyData.canLayAll0 (ns.map .int) = true
  | [] => by simp [PyData.canLayAll0]
  | n :: ns => by simp only [List.map_cons, PyData.canLayAll0, PyData.canLay0, lay_ints ns, Bool.and_self]
mutual
theorem lay_ok : ∀ d : D, (toPy d).canLay0 = true
  | .non => by simp only [toPy, PyData.canLay0]
  | .bl _ => by simp only [toPy, PyData.canLay0]
  | .int _ => by simp only [toPy, PyData.canLay0]
  | .tup ds => by simp only [toPy, PyData.canLay0, layL_ok ds]
  | .lst ds => by simp only [toPy, PyData.canLay0, layL_ok ds]
  | .scr ns => by simp only [toPy, PyData.canLay0, lay_ints ns]
  | .exc _ _ => by simp only [toPy, PyData.canLay0]
theorem layL_ok : ∀ ds : List D, PyData.canLayAll0 (toPyL ds) = true
  | [] => by simp only [toPyL, PyData.canLayAll0]
  | d :: ds => by simp only [toPyL, PyData.canLayAll0, lay_ok d, layL_ok ds, Bool.and_self]
end
theorem depth_ints : ∀ ns : List Int, PyData.depthAll (ns.map .int) = 0
  | [] => by simp [PyData.depthAll]
  | n :: ns => by simp [PyData.depthAll, PyData.depth, depth_ints ns]
theorem depthL_le {n : Nat} : ∀ ds : List D, (∀ d ∈ ds, (toPy d).depth ≤ n) → PyData.depthAll (toPyL ds) ≤ n
  | [], _ => by simp [toPyL, PyData.depthAll]
  | d :: ds, h => by
    simp only [toPyL, PyData.depthAll]
    exact Nat.max_le.mpr ⟨h d (by simp), depthL_le ds fun x hx => h x (by simp [hx])⟩
theorem depth_le : ∀ (n : Nat) (d : D), shal n d = true → (toPy d).depth ≤ n + 1
  | n, .non, _ => by simp [toPy, PyData.depth]
  | n, .bl _, _ => by simp [toPy, PyData.depth]
  | n, .int _, _ => by simp [toPy, PyData.depth]
  | n, .scr ns, _ => by simp [toPy, PyData.depth, depth_ints ns]
  | n, .exc _ _, _ => by simp [toPy, PyData.depth]
  | 0, .tup ds, h => by simp [shal] at h
  | 0, .lst ds, h => by simp [shal] at h
  | n + 1, .tup ds, h => by
    simp only [toPy, PyData.depth]
    have := depthL_le (n := n + 1) ds fun d hd => depth_le n d (List.all_eq_true.mp (by simpa [shal] using h) d hd)
    omega
  | n + 1, .lst ds, h => by
    simp only [toPy, PyData.depth]
    have := depthL_le (n := n + 1) ds fun d hd => depth_le n d (List.all_eq_true.mp (by simpa [shal] using h) d hd)
    omega

section
variable {X : Cx} {pins : List (Addr × Obj)} {σ : St} {G H : Hp} {s : Shared}
theorem reads_ints {h : Heap} : ∀ {ns : List Int} {us : List Value}, Vals (ns.map V.int) us → ∃ as, ReadsAll h us (ns.map .int) as
  | [], us, r => by cases r; exact ⟨[], .nil⟩
  | n :: ns, us, r => by
    cases r with
    | cons r1 r2 =>
      obtain ⟨t, rfl⟩ := r1
      obtain ⟨as, q⟩ := reads_ints r2
      exact ⟨_, .cons (.int n t) q⟩
mutual
theorem reads_of (I : Inv X pins σ H s) (l : Same G H) : ∀ {d : D} {v : V} {u : Value}, Rep X.K G d v → RelV v u → ∃ as, Reads s.heap u (toPy d) as
  | .non, v, u, h, r => by cases (show v = .non from h); cases (show u = .none from r); exact ⟨[], by simp only [toPy]; exact .none⟩
  | .bl b, v, u, h, r => by cases (show v = .bl b from h); cases (show u = .bool b from r); exact ⟨[], by simp only [toPy]; exact .bool b⟩
  | .int i, v, u, h, r => by
    cases (show v = .int i from h)
    obtain ⟨t, rfl⟩ := (show ∃ t, u = .int i t from r)
    exact ⟨[], by simp only [toPy]; exact .int i t⟩
  | .tup ds, v, u, h, r => by
    obtain ⟨a, vs, rfl, g, q⟩ := h
    cases (show u = .ref a from r)
    obtain ⟨_, its, rv, ob, e, c, n, dd⟩ := I.hok a _ (l _ _ g)
    obtain ⟨as, z⟩ := readsL_of I l q rv
    exact ⟨as, by simp only [toPy]; exact .tuple e c dd (by simpa using z)⟩
  | .lst ds, v, u, h, r => by
    obtain ⟨a, vs, rfl, g, q⟩ := h
    cases (show u = .ref a from r)
    obtain ⟨_, its, n, rv, e⟩ := I.hok a _ (l _ _ g)
    obtain ⟨as, z⟩ := readsL_of I l q rv
    exact ⟨a :: as, by simp only [toPy]; exact .list e rfl rfl (by simpa using z)⟩
  | .scr ns, v, u, h, r => by
    obtain ⟨a, rfl, q⟩ := h
    cases (show u = .ref a from r)
    obtain ⟨its, rv, ⟨o, n, e, c, _, dd⟩, _⟩ := I.list (l.seq q)
    obtain ⟨as, z⟩ := reads_ints (h := s.heap) rv
    exact ⟨a :: as, by simp only [toPy]; exact .list e c dd (by simpa using z)⟩
  | .exc _ _, _, _, h, _ => h.elim
theorem readsL_of (I : Inv X pins σ H s) (l : Same G H) : ∀ {ds : List D} {vs : List V} {us : List Value}, RepL X.K G ds vs → Vals vs us → ∃ as, ReadsAll s.heap us (toPyL ds) as
  | [], vs, us, h, r => by
    cases (show vs = [] from h)
    cases r
    exact ⟨[], by simp only [toPyL]; exact .nil⟩
  | d :: ds, vs, us, h, r => by
    obtain ⟨v, vr, rfl, h1, h2⟩ := h
    cases r with
    | cons r1 r2 =>
      obtain ⟨as, q1⟩ := reads_of I l h1 r1
      obtain ⟨bs, q2⟩ := readsL_of I l h2 r2
      exact ⟨as ++ bs, by simp only [toPyL]; exact .cons q1 q2⟩
end
end

/-- a value that reads as d -/
def RdV (K : PySem.W.Frag) (H : Hp) (v : V) (d : D) : Prop := (∃ G, Same G H ∧ Rep K G d v) ∨ ∃ a vs G ds, d = .lst ds ∧ v = .ref a ∧ H a = some (.lst vs) ∧ Same G H ∧ RepL K G ds vs
theorem Opd.rdv {K : PySem.W.Frag} {G₀ H₀ G H : Hp} {env : Ev} {σ : St} {v : V} {d : D} (I : DI K G₀ H₀ env σ G H) (h : Opd K env σ G v d) : RdV K H v d := by
  rcases h with h | ⟨i, ds, a, e1, e2, e3, e4⟩
  · exact .inl ⟨G, I.le, h⟩
  · subst e1
    obtain ⟨a', vs, e, h1, h2⟩ := Opd.lst I (.inr ⟨i, ds, a, rfl, e2, e3, e4⟩)
    exact .inr ⟨a', vs, G, ds, rfl, e, h1, I.le, h2⟩
theorem reads_rdv {X : Cx} {pins : List (Addr × Obj)} {σ : St} {H : Hp} {s : Shared} {v : V} {u : Value} {d : D} (I : Inv X pins σ H s) (h : RdV X.K H v d) (r : RelV v u) : ∃ as, Reads s.heap u (toPy d) as := by
  rcases h with ⟨G, l, h⟩ | ⟨a, vs, G, ds, rfl, rfl, g, l, q⟩
  · exact reads_of I l h r
  · cases (show u = .ref a from r)
    obtain ⟨_, its, n, rv, e⟩ := I.hok a _ g
    obtain ⟨as, z⟩ := readsL_of I l q rv
    exact ⟨a :: as, by simp only [toPy]; exact .list e rfl rfl (by simpa using z)⟩
def rEqD (K : PySem.W.Frag) (neg : Bool) : R2 := fun x y H Q => ∃ d1 d2, RdV K H x d1 ∧ RdV K H y d2 ∧ (shal 4 d1 || shal 4 d2) = true ∧ Q (.bl (if neg then !eqD d1 d2 else eqD d1 d2)) H
theorem room_eq {u : Nat} {d1 d2 : D} (hu : u + 20 < cLine) (hs : (shal 4 d1 || shal 4 d2) = true) : u + min (toPy d1).depth (toPy d2).depth < cLine := by
  rw [Bool.or_eq_true] at hs
  rcases hs with h | h
  · have := depth_le 4 d1 h
    have := Nat.min_le_left (toPy d1).depth (toPy d2).depth
    omega
  · have := depth_le 4 d2 h
    have := Nat.min_le_right (toPy d1).depth (toPy d2).depth
    omega
theorem op_eqD {X : Cx} (hu : X.A.units + 20 < cLine) : OpR X (compareOp .Eq) (rEqD X.K false) := by
  intro pins s σ H x y v u Q I rx ry h
  obtain ⟨d1, d2, h1, h2, hs, q⟩ := h
  obtain ⟨as, ra⟩ := reads_rdv I h1 rx
  obtain ⟨bs, rb⟩ := reads_rdv I h2 ry
  exact SeqAt.compareEq_reads ra rb (lay_ok d1) (lay_ok d2) (room_eq hu hs) ⟨.bl _, H, I, rfl, q⟩
theorem op_neD {X : Cx} (hu : X.A.units + 20 < cLine) : OpR X (compareOp .NotEq) (rEqD X.K true) := by
  intro pins s σ H x y v u Q I rx ry h
  obtain ⟨d1, d2, h1, h2, hs, q⟩ := h
  obtain ⟨as, ra⟩ := reads_rdv I h1 rx
  obtain ⟨bs, rb⟩ := reads_rdv I h2 ry
  exact SeqAt.compareNe_reads ra rb (lay_ok d1) (lay_ok d2) (room_eq hu hs) ⟨.bl _, H, I, rfl, q⟩
@[simp] def gEq : D → D → Out Val := fun x y => if (shal 4 x || shal 4 y) = true then .ok (.pers (.bl (eqD x y))) else .bad
@[simp] def gNe : D → D → Out Val := fun x y => if (shal 4 x || shal 4 y) = true then .ok (.pers (.bl (!eqD x y))) else .bad
theorem od_eq {K : PySem.W.Frag} : OpD K (rEqD K false) gEq := by
  intro G₀ H₀ env σ G H v u d1 d2 val Q I o1 o2 e k
  unfold gEq at e
  split at e
  · rename_i hs
    cases e
    exact ⟨d1, d2, o1.rdv I, o2.rdv I, hs, k _ G H (Grow.refl _ _) I.le rfl⟩
  · cases e
theorem od_ne {K : PySem.W.Frag} : OpD K (rEqD K true) gNe := by
  intro G₀ H₀ env σ G H v u d1 d2 val Q I o1 o2 e k
  unfold gNe at e
  split at e
  · rename_i hs
    cases e
    exact ⟨d1, d2, o1.rdv I, o2.rdv I, hs, k _ G H (Grow.refl _ _) I.le rfl⟩
  · cases e
/-! ### in, not in: a list of anything that is not deep -/
def rInD (K : PySem.W.Frag) (neg : Bool) : R2 := fun x y H Q => ∃ d ds, RdV K H x d ∧ RdV K H y (.lst ds) ∧ shal 4 d = true ∧ Q (.bl (if neg then !ds.any (fun z => eqD z d) else ds.any (fun z => eqD z d))) H
theorem any_toPyL (d : D) : ∀ ds : List D, (toPyL ds).any (fun y => PyData.eqv y (toPy d)) = ds.any (fun z => eqD z d)
  | [] => by simp [toPyL]
  | x :: ds => by simp only [toPyL, List.any_cons, any_toPyL d ds]; rfl
theorem op_inD {X : Cx} (hu : X.A.units + 20 < cLine) : OpR X (compareOp .In) (rInD X.K false) := by
  intro pins s σ H x y v u Q I rx ry h
  obtain ⟨d, ds, h1, h2, hs, q⟩ := h
  obtain ⟨as, ra⟩ := reads_rdv I h1 rx
  obtain ⟨bs, rb⟩ := reads_rdv I h2 ry
  simp only [toPy] at rb
  refine SeqAt.in_list_reads rb ra (layL_ok ds) (lay_ok d) ?_ ⟨.bl _, H, I, rfl, ?_⟩
  · have := depth_le 4 d hs
    have := Nat.min_le_right (PyData.depthAll (toPyL ds)) (toPy d).depth
    omega
  · rw [any_toPyL]; exact q
theorem op_ninD {X : Cx} (hu : X.A.units + 20 < cLine) : OpR X (compareOp .NotIn) (rInD X.K true) := by
  intro pins s σ H x y v u Q I rx ry h
  obtain ⟨d, ds, h1, h2, hs, q⟩ := h
  obtain ⟨as, ra⟩ := reads_rdv I h1 rx
  obtain ⟨bs, rb⟩ := reads_rdv I h2 ry
  simp only [toPy] at rb
  refine SeqAt.notIn_list_reads rb ra (layL_ok ds) (lay_ok d) ?_ ⟨.bl _, H, I, rfl, ?_⟩
  · have := depth_le 4 d hs
    have := Nat.min_le_right (PyData.depthAll (toPyL ds)) (toPy d).depth
    omega
  · rw [any_toPyL]; exact q
@[simp] def gIn : D → D → Out Val
  | x, .lst ds => if shal 4 x = true then .ok (.pers (.bl (ds.any fun z => eqD z x))) else .bad
  | _, _ => .bad
@[simp] def gNin : D → D → Out Val
  | x, .lst ds => if shal 4 x = true then .ok (.pers (.bl (!ds.any fun z => eqD z x))) else .bad
  | _, _ => .bad
theorem od_in {K : PySem.W.Frag} : OpD K (rInD K false) gIn := by
  intro G₀ H₀ env σ G H v u d1 d2 val Q I o1 o2 e k
  unfold gIn at e
  split at e
  · split at e
    · rename_i hs
      cases e
      exact ⟨_, _, o1.rdv I, o2.rdv I, hs, k _ G H (Grow.refl _ _) I.le rfl⟩
    · cases e
  · cases e
theorem od_nin {K : PySem.W.Frag} : OpD K (rInD K true) gNin := by
  intro G₀ H₀ env σ G H v u d1 d2 val Q I o1 o2 e k
  unfold gNin at e
  split at e
  · split at e
    · rename_i hs
      cases e
      exact ⟨_, _, o1.rdv I, o2.rdv I, hs, k _ G H (Grow.refl _ _) I.le rfl⟩
    · cases e
  · cases e
/-! ### is None -/
@[simp] def gIsN : D → D → Out Val
  | .non, .non => .ok (.pers (.bl true))
  | .int _, .non => .ok (.pers (.bl false))
  | .bl _, .non => .ok (.pers (.bl false))
  | .tup _, .non => .ok (.pers (.bl false))
  | .lst _, .non => .ok (.pers (.bl false))
  | _, _ => .bad
@[simp] def gNotN : D → D → Out Val
  | .non, .non => .ok (.pers (.bl false))
  | .int _, .non => .ok (.pers (.bl true))
  | .bl _, .non => .ok (.pers (.bl true))
  | .tup _, .non => .ok (.pers (.bl true))
  | .lst _, .non => .ok (.pers (.bl true))
  | _, _ => .bad
theorem od_isN {K : PySem.W.Frag} : OpD K (fun x y H Q => y = .non ∧ Q (.bl (decide (x = .non))) H) gIsN := by
  intro G₀ H₀ env σ G H v u d1 d2 val Q I o1 o2 e k
  unfold gIsN at e
  split at e
  · cases e; refine ⟨o2.non, ?_⟩; rw [o1.non]; exact k _ G H (Grow.refl _ _) I.le rfl
  · cases e; refine ⟨o2.non, ?_⟩; rw [o1.int]; exact k _ G H (Grow.refl _ _) I.le rfl
  · cases e; refine ⟨o2.non, ?_⟩; rw [o1.bl]; exact k _ G H (Grow.refl _ _) I.le rfl
  · cases e; refine ⟨o2.non, ?_⟩; obtain ⟨a, _, rfl, _⟩ := Opd.tup I o1; exact k _ G H (Grow.refl _ _) I.le rfl
  · cases e; refine ⟨o2.non, ?_⟩; obtain ⟨a, _, rfl, _⟩ := Opd.lst I o1; exact k _ G H (Grow.refl _ _) I.le rfl
  · cases e
theorem od_notN {K : PySem.W.Frag} : OpD K (fun x y H Q => y = .non ∧ Q (.bl (!decide (x = .non))) H) gNotN := by
  intro G₀ H₀ env σ G H v u d1 d2 val Q I o1 o2 e k
  unfold gNotN at e
  split at e
  · cases e; refine ⟨o2.non, ?_⟩; rw [o1.non]; exact k _ G H (Grow.refl _ _) I.le rfl
  · cases e; refine ⟨o2.non, ?_⟩; rw [o1.int]; exact k _ G H (Grow.refl _ _) I.le rfl
  · cases e; refine ⟨o2.non, ?_⟩; rw [o1.bl]; exact k _ G H (Grow.refl _ _) I.le rfl
  · cases e; refine ⟨o2.non, ?_⟩; obtain ⟨a, _, rfl, _⟩ := Opd.tup I o1; exact k _ G H (Grow.refl _ _) I.le rfl
  · cases e; refine ⟨o2.non, ?_⟩; obtain ⟨a, _, rfl, _⟩ := Opd.lst I o1; exact k _ G H (Grow.refl _ _) I.le rfl
  · cases e
section
variable {X : Cx} {G₀ H₀ : Hp} {pos : Pos} {a b : Expr} {fa fb : FE}
theorem de_eq (hu : X.A.units + 20 < cLine) (ha : DE X G₀ H₀ a fa) (hb : DE X G₀ H₀ b fb) : DE X G₀ H₀ (.Compare a [.Eq] [b] pos) (f2 gEq fa fb) := de_cmp (op_eqD hu) od_eq ha hb (nomark _)
theorem de_ne (hu : X.A.units + 20 < cLine) (ha : DE X G₀ H₀ a fa) (hb : DE X G₀ H₀ b fb) : DE X G₀ H₀ (.Compare a [.NotEq] [b] pos) (f2 gNe fa fb) := de_cmp (op_neD hu) od_ne ha hb (nomark _)
theorem de_in (hu : X.A.units + 20 < cLine) (ha : DE X G₀ H₀ a fa) (hb : DE X G₀ H₀ b fb) (hm : behindInMarks .In b = false := by with_unfolding_all rfl) : DE X G₀ H₀ (.Compare a [.In] [b] pos) (f2 gIn fa fb) := de_cmp (op_inD hu) od_in ha hb hm
theorem de_nin (hu : X.A.units + 20 < cLine) (ha : DE X G₀ H₀ a fa) (hb : DE X G₀ H₀ b fb) (hm : behindInMarks .NotIn b = false := by with_unfolding_all rfl) : DE X G₀ H₀ (.Compare a [.NotIn] [b] pos) (f2 gNin fa fb) := de_cmp (op_ninD hu) od_nin ha hb hm
theorem de_isN (ha : DE X G₀ H₀ a fa) (hb : DE X G₀ H₀ b fb) : DE X G₀ H₀ (.Compare a [.Is] [b] pos) (f2 gIsN fa fb) := de_cmp op_isN od_isN ha hb (nomark _)
theorem de_notN (ha : DE X G₀ H₀ a fa) (hb : DE X G₀ H₀ b fb) : DE X G₀ H₀ (.Compare a [.IsNot] [b] pos) (f2 gNotN fa fb) := de_cmp op_notN od_notN ha hb (nomark _)
end

/-! ### +: ints, lists -/
@[simp] def gAdd : D → D → Out Val
  | .int i, .int j => .ok (.pers (.int (i + j)))
  | .lst xs, .lst ys => if xs.length + ys.length ≤ 100000 then .ok (.fresh (xs ++ ys)) else .bad
  | _, _ => .bad
theorem le_line {n : Nat} (h : n ≤ 100000) : n ≤ sizeLine := by rw [sizeLine_eq]; omega
theorem od_add {K : PySem.W.Frag} : OpD K (fun x y H Q => rI0 (fun i j => .int (i + j)) x y H Q ∨ rCat x y H Q) gAdd := by
  intro G₀ H₀ env σ G H v u d1 d2 val Q I o1 o2 e k
  unfold gAdd at e
  split at e
  · rename_i i j
    cases e
    exact .inl ⟨i, j, o1.int, o2.int, k _ G H (Grow.refl _ _) I.le rfl⟩
  · rename_i xs ys
    split at e
    · rename_i hz
      cases e
      obtain ⟨a, vs, e1, h1, r1⟩ := Opd.lst I o1
      obtain ⟨b, us, e2, h2, r2⟩ := Opd.lst I o2
      refine .inr ⟨a, b, vs, us, e1, e2, h1, h2, le_line (by rw [← r1.length, ← r2.length]; exact hz), fun p hp => ?_⟩
      have g := Grow.laidL (o := .lst (vs ++ us)) I.le hp
      exact k _ G _ g.1 g.2 (valFresh I.le hp (r1.append r2))
    · cases e
  · cases e
theorem de_add {X : Cx} {G₀ H₀ : Hp} {pos : Pos} {a b : Expr} {fa fb : FE} (ha : DE X G₀ H₀ a fa) (hb : DE X G₀ H₀ b fb) : DE X G₀ H₀ (.BinOp a .Add b pos) (f2 gAdd fa fb) := de_op (op_add.or op_cat) od_add ha hb

/-! ### an item -/
@[simp] def gIx : D → D → Out Val
  | .tup ds, .int i => match atI ds i with | some d => .ok (.pers d) | none => .bad
  | .lst ds, .int i => match atI ds i with | some d => .ok (.pers d) | none => .bad
  | .scr ns, .int i => match atI ns i with | some n => .ok (.pers (.int n)) | none => .bad
  | _, _ => .bad
theorem atI_rep {K : PySem.W.Frag} {G : Hp} {ds : List D} {vs : List V} {i : Int} {d : D} (r : RepL K G ds vs) (h : atI ds i = some d) : ∃ v, atI vs i = some v ∧ Rep K G d v := by
  unfold atI at h ⊢
  rw [← r.length]
  cases q : ixN ds.length i with
  | none => rw [q] at h; cases h
  | some j =>
    rw [q] at h
    obtain ⟨v, h1, h2⟩ := r.get (i := j) (d := d) h
    exact ⟨v, h1, h2⟩
theorem atI_map {α β : Type} (f : α → β) (xs : List α) (i : Int) : atI (xs.map f) i = (atI xs i).map f := by
  unfold atI
  rw [List.length_map]
  cases ixN xs.length i with
  | none => rfl
  | some j => simp
theorem od_ix {K : PySem.W.Frag} : OpD K (fun x y H Q => rIxL K x y H Q ∨ rIxT K x y H Q ∨ rIxS x y H Q) gIx := by
  intro G₀ H₀ env σ G H v u d1 d2 val Q I o1 o2 e k
  unfold gIx at e
  split at e
  · rename_i ds i
    split at e
    · rename_i d hd
      cases e
      obtain ⟨a, vs, e1, h1, r1⟩ := Opd.tup I o1
      obtain ⟨w, hw, rw'⟩ := atI_rep r1 hd
      exact .inr (.inl ⟨a, vs, i, w, e1, o2.int, SqT.of h1, hw, k w G H (Grow.refl _ _) I.le rw'⟩)
    · cases e
  · rename_i ds i
    split at e
    · rename_i d hd
      cases e
      obtain ⟨a, vs, e1, h1, r1⟩ := Opd.lst I o1
      obtain ⟨w, hw, rw'⟩ := atI_rep r1 hd
      exact .inl ⟨a, vs, i, w, e1, o2.int, SqL.of h1, hw, k w G H (Grow.refl _ _) I.le rw'⟩
    · cases e
  · rename_i ns i
    split at e
    · rename_i n hn
      cases e
      obtain ⟨a, e1, h1⟩ := Opd.scr I o1
      exact .inl ⟨a, ns.map V.int, i, .int n, e1, o2.int, h1, by rw [atI_map, hn]; rfl, k (.int n) G H (Grow.refl _ _) I.le rfl⟩
    · cases e
  · cases e
theorem de_at {X : Cx} {G₀ H₀ : Hp} {pos : Pos} {a b : Expr} {fa fb : FE} (ha : DE X G₀ H₀ a fa) (hb : DE X G₀ H₀ b fb) (hs : PlainIx b := by intro _ _; rfl) : DE X G₀ H₀ (.Subscript a b pos) (f2 gIx fa fb) := de_ix ix_seq od_ix ha hb hs

/-! ### a slice -/
def cutD (xs : List D) (lo hi : Option Int) : List D := (xs.drop (HT.sIx xs.length 0 lo)).take (HT.sIx xs.length xs.length hi - HT.sIx xs.length 0 lo)
theorem cut_rep {K : PySem.W.Frag} {G : Hp} {ds : List D} {vs : List V} (lo hi : Option Int) (r : RepL K G ds vs) : RepL K G (cutD ds lo hi) (cutV vs lo hi) := by
  unfold cutD cutV
  rw [r.length]
  exact (r.drop _).take _
abbrev FO := Ev → Out (Option Int)
@[simp] def fNo : FO := fun _ => .ok none
@[simp] def fSo (f : FE) : FO := fun env => (f env).bind fun v => match v.d with
  | .int i => .ok (some i)
  | _ => .bad
def tO (K : PySem.W.Frag) (G₀ H₀ : Hp) (f : FO) : TO := fun σ H Q => ∃ env G o, DI K G₀ H₀ env σ G H ∧ f env = .ok o ∧ ∀ G' H', Grow G H G' H' → Same G' H' → Q o H'
def DO (X : Cx) (G₀ H₀ : Hp) (e : Option Expr) (f : FO) : Prop := PO X e (tO X.K G₀ H₀ f)
section
variable {X : Cx} {G₀ H₀ : Hp} {pos p2 : Pos} {a e : Expr} {lo hi : Option Expr} {fa f : FE} {fl fh : FO}
theorem do_none : DO X G₀ H₀ none fNo := fun pins s σ H Q I q => po_none pins s σ H Q I (by
  obtain ⟨env, G, o, J, h, k⟩ := q
  cases h
  exact k G H (Grow.refl _ _) J.le)
theorem do_some (h : DE X G₀ H₀ e f) : DO X G₀ H₀ (some e) (fSo f) := fun pins s σ H Q I q => po_some h pins s σ H Q I (by
  obtain ⟨env, G, o, J, h, k⟩ := q
  obtain ⟨x, e1, h⟩ := bind_inv h
  refine tE_one J e1 fun v G' H' g l J' ov => ?_
  split at h
  · rename_i i hi
    cases h
    rw [hi] at ov
    exact ⟨i, ov.int, k G' H' g l⟩
  · cases h)
@[simp] def gSl : D → Option Int → Option Int → Out Val
  | .lst ds, lo, hi => .ok (.fresh (cutD ds lo hi))
  | .tup ds, lo, hi => if HT.sIx ds.length 0 lo = 0 ∧ HT.sIx ds.length ds.length hi = ds.length then .bad else .ok (.pers (.tup (cutD ds lo hi)))
  | _, _, _ => .bad
@[simp] def fSl (fa : FE) (fl fh : FO) : FE := fun env => (fa env).bind fun x => (fl env).bind fun l => (fh env).bind fun h => gSl x.d l h
theorem de_sl (ha : DE X G₀ H₀ a fa) (hl : DO X G₀ H₀ lo fl) (hh : DO X G₀ H₀ hi fh) : DE X G₀ H₀ (.Subscript a (.Slice lo hi none p2) pos) (fSl fa fl fh) :=
  (pe_slice (sl_list.or sl_tup) ha hl hh).imp fun σ H Q q => by
    obtain ⟨env, G, val, I, e, k⟩ := q
    obtain ⟨x, e1, e⟩ := bind_inv e
    obtain ⟨l, e2, e⟩ := bind_inv e
    obtain ⟨h, e3, e⟩ := bind_inv e
    refine tE_one I e1 fun v G1 H1 g1 l1 I1 o1 => ⟨env, G1, l, I1, e2, fun G2 H2 g2 l2 => ⟨env, G2, h, I1.grow g2 l2, e3, fun G3 H3 g3 l3 => ?_⟩⟩
    have I3 := (I1.grow g2 l2).grow g3 l3
    have o3 := (o1.mono g2.g).mono g3.g
    have g03 := (g1.trans g2).trans g3
    generalize x.d = dx at e o3
    cases dx with
    | lst ds =>
      cases e
      obtain ⟨a', vs, ev, h1, r1⟩ := Opd.lst I3 o3
      refine .inl ⟨a', vs, ev, SqL.of h1, fun p hp => ?_⟩
      have g := Grow.laidL (o := .lst (cutV vs l h)) l3 hp
      exact k _ G3 _ (g03.trans g.1) g.2 ((valFresh l3 hp (cut_rep l h r1)).base g03.h)
    | tup ds =>
      have e' : (if HT.sIx ds.length 0 l = 0 ∧ HT.sIx ds.length ds.length h = ds.length then Out.bad else Out.ok (.pers (.tup (cutD ds l h)))) = Out.ok val := e
      split at e'
      · cases e'
      · rename_i hw
        cases e'
        obtain ⟨a', vs, ev, h1, r1⟩ := Opd.tup I3 o3
        refine .inr ⟨a', vs, ev, SqT.of h1, by rw [← r1.length]; exact hw, fun p hp => ?_⟩
        have g := Grow.laidT (o := .tup (cutV vs l h)) l3 hp
        exact k _ _ _ (g03.trans g.1) g.2 ((valTup l3 hp (cut_rep l h r1)).base g03.h)
    | non => cases e
    | bl b => cases e
    | int i => cases e
    | scr ns => cases e
    | exc c p => cases e
end

/-! ### arguments, displays -/
@[simp] def fNil : Ev → Out (List Val) := fun _ => .ok []
@[simp] def frz : Val → Val
  | .fresh ds => .pers (.lst ds)
  | v => v
@[simp] def fCons (f : FE) (r : Ev → Out (List Val)) : Ev → Out (List Val) := fun env => (f env).bind fun x => (r env).bind fun xs => .ok (frz x :: xs)
@[simp] def hNil : Ev → Out (List D) := fun _ => .ok []
@[simp] def hCons (f : FE) (r : Ev → Out (List D)) : Ev → Out (List D) := fun env => (f env).bind fun x => x.hold.bind fun d => (r env).bind fun xs => .ok (d :: xs)
section
variable {K : PySem.W.Frag} {env : Ev} {σ : St} {G G' : Hp}
theorem ArgOk.mono {v : V} {x : Val} (h : ArgOk K env σ G v x) (s : Same G G') : ArgOk K env σ G' v x := by
  cases x with
  | pers d => exact Rep.mono s h
  | fresh ds => exact h
  | brw i ds => exact h
theorem ArgsOk.mono : ∀ {vs : List V} {xs : List Val}, ArgsOk K env σ G vs xs → Same G G' → ArgsOk K env σ G' vs xs
  | [], _, h, _ => h
  | v :: vs, xs, h, s => by
    obtain ⟨x, r, e, h1, h2⟩ := h
    exact ⟨x, r, e, h1.mono s, h2.mono s⟩
theorem argOk_of {val : Val} {v : V} {H H' : Hp} (g : Grow G H G' H') (l : Same G' H') (h : ValOk K H env σ G' H' v val) : ∃ G'', Grow G H G'' H' ∧ Same G'' H' ∧ ArgOk K env σ G'' v (frz val) := by
  cases val with
  | pers d => exact ⟨G', g, l, h⟩
  | brw i ds => exact ⟨G', g, l, h⟩
  | fresh ds => exact held g l h rfl
theorem ArgOk.opd {v : V} {x : Val} (h : ArgOk K env σ G v x) : Opd K env σ G v x.d := by
  cases x with
  | pers d => exact .inl h
  | fresh ds => exact h.elim
  | brw i ds => obtain ⟨a, e1, e2, e3⟩ := h; exact .inr ⟨i, ds, a, rfl, e1, e2, e3⟩
end
section
variable {X : Cx} {G₀ H₀ : Hp} {pos : Pos} {e : Expr} {es : List Expr} {f : FE} {r : Ev → Out (List Val)} {rh : Ev → Out (List D)}
theorem da_nil : DA X G₀ H₀ [] fNil := pa_nil.imp fun σ H Q q => by
  obtain ⟨env, G, vals, I, h, k⟩ := q
  cases h
  exact k [] G H (Grow.refl _ _) I.le rfl
theorem da_cons (he : DE X G₀ H₀ e f) (hr : DA X G₀ H₀ es r) (hs : starEach (e :: es) X.env = (false, eval e X.env) :: starEach es X.env := by rfl) : DA X G₀ H₀ (e :: es) (fCons f r) :=
  (pa_cons he hr hs).imp fun σ H Q q => by
    obtain ⟨env, G, vals, I, h, k⟩ := q
    obtain ⟨x, e1, h⟩ := bind_inv h
    obtain ⟨xs, e2, h⟩ := bind_inv h
    cases h
    refine ⟨env, G, x, I, e1, fun v G1 H1 g1 l1 o1 => ?_⟩
    obtain ⟨G2, g2, l2, a2⟩ := argOk_of g1 l1 o1
    exact ⟨env, G2, xs, I.grow g2 l2, e2, fun vs G3 H3 g3 l3 a3 => k (v :: vs) G3 H3 (g2.trans g3) l3 ⟨_, _, rfl, a2.mono g3.g, a3⟩⟩
theorem dh_nil : DH X G₀ H₀ [] hNil := pa_nil.imp fun σ H Q q => by
  obtain ⟨env, G, vals, I, h, k⟩ := q
  cases h
  exact k [] G H (Grow.refl _ _) I.le rfl
theorem dh_cons (he : DE X G₀ H₀ e f) (hr : DH X G₀ H₀ es rh) (hs : starEach (e :: es) X.env = (false, eval e X.env) :: starEach es X.env := by rfl) : DH X G₀ H₀ (e :: es) (hCons f rh) :=
  (pa_cons he hr hs).imp fun σ H Q q => by
    obtain ⟨env, G, vals, I, h, k⟩ := q
    obtain ⟨x, e1, h⟩ := bind_inv h
    obtain ⟨d, ed, h⟩ := bind_inv h
    obtain ⟨xs, e2, h⟩ := bind_inv h
    cases h
    refine ⟨env, G, x, I, e1, fun v G1 H1 g1 l1 o1 => ?_⟩
    obtain ⟨G2, g2, l2, a2⟩ := held g1 l1 o1 ed
    exact ⟨env, G2, xs, I.grow g2 l2, e2, fun vs G3 H3 g3 l3 a3 => k (v :: vs) G3 H3 (g2.trans g3) l3 (RepL.cons (a2.mono g3.g) a3)⟩
@[simp] def fTup (r : Ev → Out (List D)) : FE := fun env => (r env).bind fun ds => if ds.length ≤ 1000 then .ok (.pers (.tup ds)) else .bad
@[simp] def fLst (r : Ev → Out (List D)) : FE := fun env => (r env).bind fun ds => if ds.length ≤ 1000 then .ok (.fresh ds) else .bad
theorem de_tup {x1} (h : DH X G₀ H₀ es rh) : DE X G₀ H₀ (.Tuple es x1 pos) (fTup rh) := (pe_tup h).imp fun σ H Q q => by
  obtain ⟨env, G, val, I, e, k⟩ := q
  obtain ⟨ds, e1, e⟩ := bind_inv e
  split at e
  · rename_i hz
    cases e
    refine ⟨env, G, ds, I, e1, fun vs G1 H1 g1 l1 r1 => ⟨le_line (by rw [← r1.length]; omega), fun p hp => ?_⟩⟩
    have g := Grow.laidT (o := .tup vs) l1 hp
    exact k _ _ _ (g1.trans g.1) g.2 ((valTup l1 hp r1).base g1.h)
  · cases e
theorem de_lst (h : DH X G₀ H₀ es rh) : DE X G₀ H₀ (.List es pos) (fLst rh) := (pe_lst h).imp fun σ H Q q => by
  obtain ⟨env, G, val, I, e, k⟩ := q
  obtain ⟨ds, e1, e⟩ := bind_inv e
  split at e
  · rename_i hz
    cases e
    refine ⟨env, G, ds, I, e1, fun vs G1 H1 g1 l1 r1 => ⟨le_line (by rw [← r1.length]; omega), fun p hp => ?_⟩⟩
    have g := Grow.laidL (o := .lst vs) l1 hp
    exact k _ _ _ (g1.trans g.1) g.2 ((valFresh l1 hp r1).base g1.h)
  · cases e
end

/-! ### a built-in called -/
def CallD (K : PySem.W.Frag) (r : List V → Hp → VK → Prop) (g : List D → Out Val) : Prop :=
  ∀ (G₀ H₀ : Hp) (env : Ev) (σ : St) (G H : Hp) (vs : List V) (xs : List Val) (val : Val) (Q : VK), DI K G₀ H₀ env σ G H → ArgsOk K env σ G vs xs → g (xs.map Val.d) = .ok val →
    (∀ w G' H', Grow G H G' H' → Same G' H' → ValOk K H env σ G' H' w val → Q w H') → r vs H Q
@[simp] def fB (g : List D → Out Val) (r : Ev → Out (List Val)) : FE := fun env => (r env).bind fun xs => g (xs.map Val.d)
section
variable {X : Cx} {G₀ H₀ : Hp} {x : Str} {p pos : Pos} {e : Expr} {es : List Expr} {f : Ev → Out (List Val)} {id T : String} {r : List V → Hp → VK → Prop} {g : List D → Out Val}
theorem impB (hd : CallD X.K r g) (σ : St) (H : Hp) (Q : VK) (q : tE X.K G₀ H₀ (fB g f) σ H Q) : tCB r (tA X.K G₀ H₀ f) σ H Q := by
  obtain ⟨env, G, val, I, e, k⟩ := q
  obtain ⟨xs, e1, e⟩ := bind_inv e
  exact ⟨env, G, xs, I, e1, fun vs G1 H1 g1 l1 a1 => hd G₀ H₀ env σ G1 H1 vs xs val Q (I.grow g1 l1) a1 e fun w G2 H2 g2 l2 h2 => k w G2 H2 (g1.trans g2) l2 (h2.base g1.h)⟩
theorem de_callB (hc : CallR X (.builtin id) r) (hd : CallD X.K r g) (hm : X.mg x = none) (hv : bootBuiltins x = some (.builtin id)) (ha : DA X G₀ H₀ (e :: es) f) (hg : Gl X x := by rfl) (hn : x ≠ "__name__" := by decide) (hdb : (x == ("__debug__" : Str)) = false := by decide)
    (he : starEach (e :: es) X.env = (false, eval e X.env) :: starEach es X.env := by rfl) (hpl : (backTo pos (starEach es X.env)).any (·.1) = false := by rfl) : DE X G₀ H₀ (.Call (.Name x p) (e :: es) [] pos) (fB g f) :=
  (pe_callB hc hg hm hv ha hn hdb he hpl).imp (impB hd)
theorem de_callT (hc : CallR X (.type T) r) (hd : CallD X.K r g) (hm : X.mg x = none) (hv : bootBuiltins x = some (.type T)) (ha : DA X G₀ H₀ (e :: es) f) (hg : Gl X x := by rfl) (hn : x ≠ "__name__" := by decide) (hdb : (x == ("__debug__" : Str)) = false := by decide)
    (he : starEach (e :: es) X.env = (false, eval e X.env) :: starEach es X.env := by rfl) (hpl : (backTo pos (starEach es X.env)).any (·.1) = false := by rfl) : DE X G₀ H₀ (.Call (.Name x p) (e :: es) [] pos) (fB g f) :=
  (pe_callTy hc hg hm hv ha hn hdb he hpl).imp (impB hd)
end
theorem args1 {K : PySem.W.Frag} {env : Ev} {σ : St} {G : Hp} {vs : List V} {xs : List Val} {d : D} (h : ArgsOk K env σ G vs xs) (e : xs.map Val.d = [d]) : ∃ v, vs = [v] ∧ Opd K env σ G v d := by
  cases vs with
  | nil => cases (show xs = [] from h); cases e
  | cons v vs =>
    obtain ⟨x, r, rfl, h1, h2⟩ := h
    simp only [List.map_cons, List.cons.injEq, List.map_eq_nil_iff] at e
    obtain ⟨rfl, rfl⟩ := e
    cases vs with
    | nil => exact ⟨v, rfl, h1.opd⟩
    | cons v' vs => obtain ⟨_, _, e, _⟩ := h2; cases e
theorem args2 {K : PySem.W.Frag} {env : Ev} {σ : St} {G : Hp} {vs : List V} {xs : List Val} {d d' : D} (h : ArgsOk K env σ G vs xs) (e : xs.map Val.d = [d, d']) : ∃ v v', vs = [v, v'] ∧ Opd K env σ G v d ∧ Opd K env σ G v' d' := by
  cases vs with
  | nil => cases (show xs = [] from h); cases e
  | cons v vs =>
    obtain ⟨x, r, rfl, h1, h2⟩ := h
    simp only [List.map_cons, List.cons.injEq] at e
    obtain ⟨rfl, e⟩ := e
    obtain ⟨v', rfl, o⟩ := args1 h2 e
    exact ⟨v, v', rfl, h1.opd, o⟩
@[simp] def gLen : List D → Out Val
  | [.lst ds] => .ok (.pers (.int ds.length))
  | [.tup ds] => .ok (.pers (.int ds.length))
  | [.scr ns] => .ok (.pers (.int ns.length))
  | _ => .bad
theorem cd_len {K : PySem.W.Frag} : CallD K (fun xs H Q => ∃ p ys, xs = [.ref p] ∧ (SqL K H p ys ∨ SqT K H p ys) ∧ Q (.int ys.length) H) gLen := by
  intro G₀ H₀ env σ G H vs xs val Q I a e k
  unfold gLen at e
  split at e
  · rename_i ds hx
    cases e
    obtain ⟨v, rfl, o⟩ := args1 a hx
    obtain ⟨p, us, rfl, h1, r1⟩ := Opd.lst I o
    refine ⟨p, us, rfl, .inl (SqL.of h1), ?_⟩
    rw [← r1.length]
    exact k _ G H (Grow.refl _ _) I.le rfl
  · rename_i ds hx
    cases e
    obtain ⟨v, rfl, o⟩ := args1 a hx
    obtain ⟨p, us, rfl, h1, r1⟩ := Opd.tup I o
    refine ⟨p, us, rfl, .inr (SqT.of h1), ?_⟩
    rw [← r1.length]
    exact k _ G H (Grow.refl _ _) I.le rfl
  · rename_i ns hx
    cases e
    obtain ⟨v, rfl, o⟩ := args1 a hx
    obtain ⟨p, rfl, h1⟩ := Opd.scr I o
    refine ⟨p, _, rfl, .inl h1, ?_⟩
    rw [List.length_map]
    exact k _ G H (Grow.refl _ _) I.le rfl
  · cases e
@[simp] def gMin2 : List D → Out Val
  | [.int i, .int j] => .ok (.pers (.int (if j < i then j else i)))
  | _ => .bad
@[simp] def gMax2 : List D → Out Val
  | [.int i, .int j] => .ok (.pers (.int (if j > i then j else i)))
  | _ => .bad
theorem cd_min2 {K : PySem.W.Frag} : CallD K (fun xs H Q => ∃ i j, xs = [.int i, .int j] ∧ Q (.int (if j < i then j else i)) H) gMin2 := by
  intro G₀ H₀ env σ G H vs xs val Q I a e k
  unfold gMin2 at e
  split at e
  · rename_i i j hx
    cases e
    obtain ⟨v, v', rfl, o, o'⟩ := args2 a hx
    exact ⟨i, j, by rw [o.int, o'.int], k _ G H (Grow.refl _ _) I.le rfl⟩
  · cases e
theorem cd_max2 {K : PySem.W.Frag} : CallD K (fun xs H Q => ∃ i j, xs = [.int i, .int j] ∧ Q (.int (if j > i then j else i)) H) gMax2 := by
  intro G₀ H₀ env σ G H vs xs val Q I a e k
  unfold gMax2 at e
  split at e
  · rename_i i j hx
    cases e
    obtain ⟨v, v', rfl, o, o'⟩ := args2 a hx
    exact ⟨i, j, by rw [o.int, o'.int], k _ G H (Grow.refl _ _) I.le rfl⟩
  · cases e
@[simp] def gInt : List D → Out Val
  | [.int i] => .ok (.pers (.int i))
  | [.bl b] => .ok (.pers (.int (if b then 1 else 0)))
  | _ => .bad
theorem cd_int {K : PySem.W.Frag} : CallD K (fun xs H Q => (∃ i, xs = [.int i] ∧ Q (.int i) H) ∨ ∃ k, xs = [.bl k] ∧ Q (.int (if k then 1 else 0)) H) gInt := by
  intro G₀ H₀ env σ G H vs xs val Q I a e k
  unfold gInt at e
  split at e
  · rename_i i hx
    cases e
    obtain ⟨v, rfl, o⟩ := args1 a hx
    exact .inl ⟨i, by rw [o.int], k _ G H (Grow.refl _ _) I.le rfl⟩
  · rename_i b hx
    cases e
    obtain ⟨v, rfl, o⟩ := args1 a hx
    exact .inr ⟨b, by rw [o.bl], k _ G H (Grow.refl _ _) I.le rfl⟩
  · cases e
@[simp] def gList : List D → Out Val
  | [.lst ds] => .ok (.fresh ds)
  | [.tup ds] => .ok (.fresh ds)
  | _ => .bad
theorem cd_list {K : PySem.W.Frag} : CallD K (fun xs H Q => ∃ p ys, xs = [.ref p] ∧ (SqL K H p ys ∨ SqT K H p ys) ∧ ∀ l, H l = none → Q (.ref l) (upd H l (.lst ys))) gList := by
  intro G₀ H₀ env σ G H vs xs val Q I a e k
  unfold gList at e
  split at e
  · rename_i ds hx
    cases e
    obtain ⟨v, rfl, o⟩ := args1 a hx
    obtain ⟨p, us, rfl, h1, r1⟩ := Opd.lst I o
    refine ⟨p, us, rfl, .inl (SqL.of h1), fun l hl => ?_⟩
    have g := Grow.laidL (o := .lst us) I.le hl
    exact k _ G _ g.1 g.2 (valFresh I.le hl r1)
  · rename_i ds hx
    cases e
    obtain ⟨v, rfl, o⟩ := args1 a hx
    obtain ⟨p, us, rfl, h1, r1⟩ := Opd.tup I o
    refine ⟨p, us, rfl, .inr (SqT.of h1), fun l hl => ?_⟩
    have g := Grow.laidL (o := .lst us) I.le hl
    exact k _ G _ g.1 g.2 (valFresh I.le hl r1)
  · cases e
end DL

set_option Elab.async false
set_option linter.all false
set_option maxRecDepth 100000
set_option maxHeartbeats 4000000
namespace DL
open PySem PySem.Spec PyProof.Rows L2

/-! ### tests -/
@[simp] def trD : D → Out Bool
  | .non => .ok false
  | .bl b => .ok b
  | .int i => .ok (i != 0)
  | .lst ds => .ok (!ds.isEmpty)
  | .tup ds => .ok (!ds.isEmpty)
  | _ => .bad
@[simp] def fTr (f : FE) : FT := fun env => (f env).bind fun x => trD x.d
@[simp] def fTrB (f : FE) : FT := fun env => (f env).bind fun x => match x.d with
  | .bl b => .ok b
  | _ => .bad
@[simp] def fAnd (f g : FT) : FT := fun env => (f env).bind fun c => if c = true then g env else .ok false
@[simp] def fOr (f g : FT) : FT := fun env => (f env).bind fun c => if c = true then .ok true else g env
@[simp] def fNot (f : FT) : FT := fun env => (f env).bind fun c => .ok (!c)
theorem isEmpty_rep {K : PySem.W.Frag} {G : Hp} {ds : List D} {vs : List V} (r : RepL K G ds vs) : ds.isEmpty = vs.isEmpty := by
  have := r.length
  cases ds <;> cases vs <;> simp_all
section
variable {X : Cx} {G₀ H₀ : Hp} {pos : Pos} {a b : Expr} {fa fb : FE} {ft fu : FT} {rest : List Expr}
theorem dt_val (ha : DE X G₀ H₀ a fa) (he : ∀ whole, isTrue a X.env whole = (do let v ← whole; standAt a.pos; holding [v] (truthy v)) := by intro _; rfl) : DT X G₀ H₀ a (fTr fa) :=
  (pt_truth ha he).imp fun σ H Q q => by
    obtain ⟨env, G, c, I, e, k⟩ := q
    obtain ⟨x, e1, e⟩ := bind_inv e
    refine tE_one I e1 fun v G' H' g l I' o => ⟨c, ?_, k G' H' g l⟩
    unfold trD at e
    split at e
    · rename_i hd; rw [hd] at o; cases e; rw [o.non]; exact rfl
    · rename_i b hd; rw [hd] at o; cases e; rw [o.bl]; exact rfl
    · rename_i i hd; rw [hd] at o; cases e; rw [o.int]; exact rfl
    · rename_i ds hd; rw [hd] at o; cases e
      obtain ⟨p, vs, rfl, h1, r1⟩ := Opd.lst I' o
      exact .inl ⟨vs, SqL.of h1, by rw [isEmpty_rep r1]⟩
    · rename_i ds hd; rw [hd] at o; cases e
      obtain ⟨p, vs, rfl, h1, r1⟩ := Opd.tup I' o
      exact .inr (.inl ⟨vs, SqT.of h1, by rw [isEmpty_rep r1]⟩)
    · cases e
theorem tE_bool {f : FE} {K : PySem.W.Frag} {σ : St} {H : Hp} {Q : Bool → Hp → Prop} (q : tT K G₀ H₀ (fTrB f) σ H Q) : tE K G₀ H₀ f σ H fun x H' => ∃ k, x = .bl k ∧ Q k H' := by
  obtain ⟨env, G, c, I, e, k⟩ := q
  obtain ⟨x, e1, e⟩ := bind_inv e
  refine tE_one I e1 fun v G' H' g l I' o => ?_
  split at e
  · rename_i b hd
    cases e
    rw [hd] at o
    exact ⟨c, o.bl, k G' H' g l⟩
  · cases e
theorem dt_cmp {op : CmpOp} {r : R2} {g : D → D → Out Val} (ho : OpR X (compareOp op) r) (hd : OpD X.K r g) (ha : DE X G₀ H₀ a fa) (hb : DE X G₀ H₀ b fb) (hm : behindInMarks op b = false) : DT X G₀ H₀ (.Compare a [op] [b] pos) (fTrB (f2 g fa fb)) :=
  (pt_cmpR ho ha hb hm).imp fun σ H Q q => imp2 hd σ H _ (tE_bool q)
theorem dt_lt (ha : DE X G₀ H₀ a fa) (hb : DE X G₀ H₀ b fb) : DT X G₀ H₀ (.Compare a [.Lt] [b] pos) (fTrB (f2 gLt fa fb)) := dt_cmp op_lt od_intB ha hb (nomark _)
theorem dt_le (ha : DE X G₀ H₀ a fa) (hb : DE X G₀ H₀ b fb) : DT X G₀ H₀ (.Compare a [.LtE] [b] pos) (fTrB (f2 gLe fa fb)) := dt_cmp op_le od_intB ha hb (nomark _)
theorem dt_gt (ha : DE X G₀ H₀ a fa) (hb : DE X G₀ H₀ b fb) : DT X G₀ H₀ (.Compare a [.Gt] [b] pos) (fTrB (f2 gGt fa fb)) := dt_cmp op_gt od_intB ha hb (nomark _)
theorem dt_ge (ha : DE X G₀ H₀ a fa) (hb : DE X G₀ H₀ b fb) : DT X G₀ H₀ (.Compare a [.GtE] [b] pos) (fTrB (f2 gGe fa fb)) := dt_cmp op_ge od_intB ha hb (nomark _)
theorem dt_eq (hu : X.A.units + 20 < cLine) (ha : DE X G₀ H₀ a fa) (hb : DE X G₀ H₀ b fb) : DT X G₀ H₀ (.Compare a [.Eq] [b] pos) (fTrB (f2 gEq fa fb)) := dt_cmp (op_eqD hu) od_eq ha hb (nomark _)
theorem dt_ne (hu : X.A.units + 20 < cLine) (ha : DE X G₀ H₀ a fa) (hb : DE X G₀ H₀ b fb) : DT X G₀ H₀ (.Compare a [.NotEq] [b] pos) (fTrB (f2 gNe fa fb)) := dt_cmp (op_neD hu) od_ne ha hb (nomark _)
theorem dt_in (hu : X.A.units + 20 < cLine) (ha : DE X G₀ H₀ a fa) (hb : DE X G₀ H₀ b fb) (hm : behindInMarks .In b = false := by with_unfolding_all rfl) : DT X G₀ H₀ (.Compare a [.In] [b] pos) (fTrB (f2 gIn fa fb)) := dt_cmp (op_inD hu) od_in ha hb hm
theorem dt_nin (hu : X.A.units + 20 < cLine) (ha : DE X G₀ H₀ a fa) (hb : DE X G₀ H₀ b fb) (hm : behindInMarks .NotIn b = false := by with_unfolding_all rfl) : DT X G₀ H₀ (.Compare a [.NotIn] [b] pos) (fTrB (f2 gNin fa fb)) := dt_cmp (op_ninD hu) od_nin ha hb hm
theorem dt_isN (ha : DE X G₀ H₀ a fa) (hb : DE X G₀ H₀ b fb) : DT X G₀ H₀ (.Compare a [.Is] [b] pos) (fTrB (f2 gIsN fa fb)) := dt_cmp op_isN od_isN ha hb (nomark _)
theorem dt_notN (ha : DE X G₀ H₀ a fa) (hb : DE X G₀ H₀ b fb) : DT X G₀ H₀ (.Compare a [.IsNot] [b] pos) (fTrB (f2 gNotN fa fb)) := dt_cmp op_notN od_notN ha hb (nomark _)
theorem dw_and1 (ha : DT X G₀ H₀ a ft) : DW X G₀ H₀ (.BoolOp .And [a] pos) ft := pw_and1 ha
theorem dw_or1 (ha : DT X G₀ H₀ a ft) : DW X G₀ H₀ (.BoolOp .Or [a] pos) ft := pw_or1 ha
theorem dw_and (ha : DT X G₀ H₀ a ft) (hb : DW X G₀ H₀ (.BoolOp .And (b :: rest) pos) fu) : DW X G₀ H₀ (.BoolOp .And (a :: b :: rest) pos) (fAnd ft fu) :=
  (pw_and ha hb).imp fun σ H Q q => by
    obtain ⟨env, G, c, I, e, k⟩ := q
    obtain ⟨x, e1, e⟩ := bind_inv e
    refine ⟨env, G, x, I, e1, fun G' H' g l => ?_⟩
    cases x with
    | true => exact ⟨env, G', c, I.grow g l, e, fun G2 H2 g2 l2 => k G2 H2 (g.trans g2) l2⟩
    | false => cases e; exact k G' H' g l
theorem dw_or (ha : DT X G₀ H₀ a ft) (hb : DW X G₀ H₀ (.BoolOp .Or (b :: rest) pos) fu) : DW X G₀ H₀ (.BoolOp .Or (a :: b :: rest) pos) (fOr ft fu) :=
  (pw_or ha hb).imp fun σ H Q q => by
    obtain ⟨env, G, c, I, e, k⟩ := q
    obtain ⟨x, e1, e⟩ := bind_inv e
    refine ⟨env, G, x, I, e1, fun G' H' g l => ?_⟩
    cases x with
    | true => cases e; exact k G' H' g l
    | false => exact ⟨env, G', c, I.grow g l, e, fun G2 H2 g2 l2 => k G2 H2 (g.trans g2) l2⟩
theorem dt_w (h : DW X G₀ H₀ a ft) : DT X G₀ H₀ a ft := PW.pt h
theorem dt_not (ha : DT X G₀ H₀ a ft) : DT X G₀ H₀ (.UnaryOp .Not a pos) (fNot ft) := (pt_not ha).imp fun σ H Q q => by
  obtain ⟨env, G, c, I, e, k⟩ := q
  obtain ⟨x, e1, e⟩ := bind_inv e
  cases e
  exact ⟨env, G, x, I, e1, fun G' H' g l => k G' H' g l⟩
/-! as values -/
@[simp] def fAndV (f g : FE) : FE := fun env => (f env).bind fun x => match x.d with
  | .bl true => g env
  | .bl false => .ok (.pers (.bl false))
  | _ => .bad
@[simp] def fOrV (f g : FE) : FE := fun env => (f env).bind fun x => match x.d with
  | .bl false => g env
  | .bl true => .ok (.pers (.bl true))
  | _ => .bad
@[simp] def fNotV (f : FE) : FE := fun env => (f env).bind fun x => match x.d with
  | .bl c => .ok (.pers (.bl (!c)))
  | _ => .bad
theorem de_one {op} (h : DE X G₀ H₀ a fa) : DE X G₀ H₀ (.BoolOp op [a] pos) fa := pe_one h
theorem de_and (ha : DE X G₀ H₀ a fa) (hb : DE X G₀ H₀ (.BoolOp .And (b :: rest) pos) fb) : DE X G₀ H₀ (.BoolOp .And (a :: b :: rest) pos) (fAndV fa fb) :=
  (pe_and ha hb).imp fun σ H Q q => by
    obtain ⟨env, G, val, I, e, k⟩ := q
    obtain ⟨x, e1, e⟩ := bind_inv e
    refine tE_one I e1 fun v G' H' g l I' o => ?_
    split at e
    · rename_i hd; rw [hd] at o
      exact ⟨true, o.bl, iteT ⟨env, G', val, I', e, fun w G2 H2 g2 l2 h2 => k w G2 H2 (g.trans g2) l2 (h2.base g.h)⟩⟩
    · rename_i hd; rw [hd] at o; cases e
      exact ⟨false, o.bl, iteF (k _ G' H' g l rfl)⟩
    · cases e
theorem de_or (ha : DE X G₀ H₀ a fa) (hb : DE X G₀ H₀ (.BoolOp .Or (b :: rest) pos) fb) : DE X G₀ H₀ (.BoolOp .Or (a :: b :: rest) pos) (fOrV fa fb) :=
  (pe_or ha hb).imp fun σ H Q q => by
    obtain ⟨env, G, val, I, e, k⟩ := q
    obtain ⟨x, e1, e⟩ := bind_inv e
    refine tE_one I e1 fun v G' H' g l I' o => ?_
    split at e
    · rename_i hd; rw [hd] at o
      exact ⟨false, o.bl, iteF ⟨env, G', val, I', e, fun w G2 H2 g2 l2 h2 => k w G2 H2 (g.trans g2) l2 (h2.base g.h)⟩⟩
    · rename_i hd; rw [hd] at o; cases e
      exact ⟨true, o.bl, iteT (k _ G' H' g l rfl)⟩
    · cases e
theorem de_not (ha : DE X G₀ H₀ a fa) : DE X G₀ H₀ (.UnaryOp .Not a pos) (fNotV fa) :=
  (pe_not ha).imp fun σ H Q q => by
    obtain ⟨env, G, val, I, e, k⟩ := q
    obtain ⟨x, e1, e⟩ := bind_inv e
    refine tE_one I e1 fun v G' H' g l I' o => ?_
    split at e
    · rename_i c hd; rw [hd] at o; cases e
      exact ⟨c, o.bl, k _ G' H' g l rfl⟩
    · cases e
@[simp] def fIf (ft : FT) (fa fb : FE) : FE := fun env => (ft env).bind fun c => if c = true then fa env else fb env
theorem de_if {c : Expr} (hc : DT X G₀ H₀ c ft) (ha : DE X G₀ H₀ a fa) (hb : DE X G₀ H₀ b fb) : DE X G₀ H₀ (.IfExp c a b pos) (fIf ft fa fb) :=
  (pe_ifExp hc ha hb).imp fun σ H Q q => by
    obtain ⟨env, G, val, I, e, k⟩ := q
    obtain ⟨x, e1, e⟩ := bind_inv e
    refine ⟨env, G, x, I, e1, fun G' H' g l => ?_⟩
    cases x with
    | true => exact iteT ⟨env, G', val, I.grow g l, e, fun w G2 H2 g2 l2 h2 => k w G2 H2 (g.trans g2) l2 (h2.base g.h)⟩
    | false => exact iteF ⟨env, G', val, I.grow g l, e, fun w G2 H2 g2 l2 h2 => k w G2 H2 (g.trans g2) l2 (h2.base g.h)⟩
/-! a < b < c -/
@[simp] def fCh (g g' : D → D → Out Val) (fa fb fc : FE) : FE := fun env => (fa env).bind fun x => (fb env).bind fun y => (g x.d y.d).bind fun z => match z.d with
  | .bl true => (fc env).bind fun w => g' y.d w.d
  | .bl false => .ok (.pers (.bl false))
  | _ => .bad
theorem imp_ch {c : Expr} {fc : FE} {r r' : R2} {g g' : D → D → Out Val} (hd : OpD X.K r g) (hd' : OpD X.K r' g') (σ : St) (H : Hp) (Q : VK) (q : tE X.K G₀ H₀ (fCh g g' fa fb fc) σ H Q) :
    tChain r r' (tE X.K G₀ H₀ fa) (tE X.K G₀ H₀ fb) (tE X.K G₀ H₀ fc) σ H Q := by
  obtain ⟨env, G, val, I, e, k⟩ := q
  obtain ⟨x, e1, e⟩ := bind_inv e
  obtain ⟨y, e2, e⟩ := bind_inv e
  obtain ⟨z, e3, e⟩ := bind_inv e
  refine tE_two I e1 e2 fun v u G1 H1 g1 l1 I1 o1 o2 => hd G₀ H₀ env σ G1 H1 v u _ _ z _ I1 o1 o2 e3 fun w G2 H2 g2 l2 h2 => ?_
  obtain ⟨G3, g3, l3, o3⟩ := opd g2 l2 h2
  split at e
  · rename_i hz
    rw [hz] at o3
    obtain ⟨w', e4, e⟩ := bind_inv e
    refine ⟨true, o3.bl, iteT (tE_one (I1.grow g3 l3) e4 fun t G4 H4 g4 l4 I4 o4 => hd' G₀ H₀ env σ G4 H4 u t _ _ val Q I4 ((o2.mono g3.g).mono g4.g) o4 e fun s G5 H5 g5 l5 h5 => ?_)⟩
    have g04 := (g1.trans g3).trans g4
    exact k s G5 H5 (g04.trans g5) l5 (h5.base g04.h)
  · rename_i hz
    rw [hz] at o3
    cases e
    exact ⟨false, o3.bl, iteF (k _ G3 H2 (g1.trans g3) l3 rfl)⟩
  · cases e
theorem de_chLt {c : Expr} {fc : FE} (ha : DE X G₀ H₀ a fa) (hb : DE X G₀ H₀ b fb) (hc : DE X G₀ H₀ c fc) (hm : lastMarks [.Lt, .Lt] [b, c] = false := by with_unfolding_all rfl) : DE X G₀ H₀ (.Compare a [.Lt, .Lt] [b, c] pos) (fCh gLt gLt fa fb fc) :=
  (pe_chain op_lt op_lt ha hb hc hm).imp (imp_ch (c := c) od_intB od_intB)
theorem dt_chLt {c : Expr} {fc : FE} (ha : DE X G₀ H₀ a fa) (hb : DE X G₀ H₀ b fb) (hc : DE X G₀ H₀ c fc) (hm : lastMarks [.Lt, .Lt] [b, c] = false := by with_unfolding_all rfl) : DT X G₀ H₀ (.Compare a [.Lt, .Lt] [b, c] pos) (fTrB (fCh gLt gLt fa fb fc)) :=
  (pt_chain op_lt op_lt ha hb hc hm).imp fun σ H Q q => imp_ch (c := c) od_intB od_intB σ H _ (tE_bool q)
end

/-! ### names stored -/
theorem getSet_eq {α : Type} {l : List α} {i : Nat} {x s : α} (h : (l.set i x)[i]? = some s) : s = x ∧ i < l.length := by
  rw [List.getElem?_set] at h
  simp at h
  exact ⟨h.2.symm, h.1⟩
section
variable {K : PySem.W.Frag} {G₀ H₀ G H : Hp} {env : Ev} {σ : St}
theorem DI.setP (I : DI K G₀ H₀ env σ G H) {d : D} {v : V} (i : Nat) (r : Rep K G d v) : DI K G₀ H₀ (env.set i (.pers d)) (σ.set i (some v)) G H where
  le := I.le
  gr := I.gr
  len := by simp [I.len]
  slot := fun j s e => by
    by_cases hj : i = j
    · subst hj
      obtain ⟨rfl, hl⟩ := getSet_eq e
      exact ⟨v, by rw [List.getElem?_set]; simp [I.len ▸ hl], r⟩
    · rw [List.getElem?_set_ne hj] at e
      have q := I.slot j s e
      cases s with
      | un => trivial
      | pers d' => obtain ⟨u, h1, h2⟩ := q; exact ⟨u, by rw [List.getElem?_set_ne hj]; exact h1, h2⟩
      | own ds => obtain ⟨a, vs, o⟩ := q; exact ⟨a, vs, by rw [List.getElem?_set_ne hj]; exact o.at_, o.hp, o.gn, o.new, o.rep⟩
  apart := fun j k ds es a hjk e1 e2 s1 s2 => by
    have nj : i ≠ j := fun z => by subst z; cases (getSet_eq e1).1
    have nk : i ≠ k := fun z => by subst z; cases (getSet_eq e2).1
    rw [List.getElem?_set_ne nj] at e1 s1
    rw [List.getElem?_set_ne nk] at e2 s2
    exact I.apart j k ds es a hjk e1 e2 s1 s2
theorem DI.setO (I : DI K G₀ H₀ env σ G H) {ds : List D} {vs : List V} {a : Addr} (i : Nat) (ha : H a = some (.lst vs)) (hg : G a = none) (h0 : H₀ a = none) (r : RepL K G ds vs)
    (ne : ∀ (j : Nat) (es : List D), env[j]? = some (.own es) → σ[j]? ≠ some (some (.ref a))) : DI K G₀ H₀ (env.set i (.own ds)) (σ.set i (some (.ref a))) G H where
  le := I.le
  gr := I.gr
  len := by simp [I.len]
  slot := fun j s e => by
    by_cases hj : i = j
    · subst hj
      obtain ⟨rfl, hl⟩ := getSet_eq e
      exact ⟨a, vs, by rw [List.getElem?_set]; simp [I.len ▸ hl], ha, hg, h0, r⟩
    · rw [List.getElem?_set_ne hj] at e
      have q := I.slot j s e
      cases s with
      | un => trivial
      | pers d' => obtain ⟨u, h1, h2⟩ := q; exact ⟨u, by rw [List.getElem?_set_ne hj]; exact h1, h2⟩
      | own ds => obtain ⟨a, vs, o⟩ := q; exact ⟨a, vs, by rw [List.getElem?_set_ne hj]; exact o.at_, o.hp, o.gn, o.new, o.rep⟩
  apart := fun j k ds' es b hjk e1 e2 s1 s2 => by
    by_cases hj : i = j
    · subst hj
      have hl := (getSet_eq e1).2
      rw [List.getElem?_set] at s1
      simp [I.len ▸ hl] at s1
      subst s1
      rw [List.getElem?_set_ne hjk] at e2 s2
      exact ne k es e2 s2
    · by_cases hk : i = k
      · subst hk
        have hl := (getSet_eq e2).2
        rw [List.getElem?_set] at s2
        simp [I.len ▸ hl] at s2
        subst s2
        rw [List.getElem?_set_ne hj] at e1 s1
        exact ne j ds' e1 s1
      · rw [List.getElem?_set_ne hj] at e1 s1
        rw [List.getElem?_set_ne hk] at e2 s2
        exact I.apart j k ds' es b hjk e1 e2 s1 s2
/-- the list of a name is changed -/
theorem DI.mut (I : DI K G₀ H₀ env σ G H) {i : Nat} {ds ds' : List D} {a : Addr} {vs vs' : List V} (e : env[i]? = some (.own ds)) (o : SlotOwn K H₀ σ G H i ds a vs) (r : RepL K G ds' vs') :
    DI K G₀ H₀ (env.set i (.own ds')) σ G (upd H a (.lst vs')) where
  le := fun b u q => by rw [upd_ne (ne_of_none q o.gn)]; exact I.le b u q
  gr := ⟨I.gr.g, fun b u q => by rw [upd_ne (ne_of_none q o.new)]; exact I.gr.h b u q, I.gr.n⟩
  len := by simp [I.len]
  slot := fun j s e' => by
    by_cases hj : i = j
    · subst hj
      obtain ⟨rfl, hl⟩ := getSet_eq e'
      exact ⟨a, vs', o.at_, upd_same, o.gn, o.new, r⟩
    · rw [List.getElem?_set_ne hj] at e'
      have q := I.slot j s e'
      cases s with
      | un => trivial
      | pers d' => exact q
      | own es =>
        obtain ⟨b, us, p⟩ := q
        have hb : b ≠ a := fun z => by subst z; exact I.apart i j ds es b hj e e' o.at_ p.at_
        exact ⟨b, us, p.at_, by rw [upd_ne hb]; exact p.hp, p.gn, p.new, p.rep⟩
  apart := fun j k ds' es b hjk e1 e2 s1 s2 => by
    have h1 : ∃ ds1, env[j]? = some (.own ds1) := by
      by_cases hj : i = j
      · subst hj; exact ⟨_, e⟩
      · rw [List.getElem?_set_ne hj] at e1; exact ⟨_, e1⟩
    have h2 : ∃ ds1, env[k]? = some (.own ds1) := by
      by_cases hk : i = k
      · subst hk; exact ⟨_, e⟩
      · rw [List.getElem?_set_ne hk] at e2; exact ⟨_, e2⟩
    obtain ⟨x1, h1⟩ := h1
    obtain ⟨x2, h2⟩ := h2
    exact I.apart j k x1 x2 b hjk h1 h2 s1 s2
end
theorem EndOk.mono {K : PySem.W.Frag} {G₀ H₀ G G' : Hp} {D : Ends} {r : Res} (h : EndOk K G₀ H₀ G D r) (s : Same G G') : EndOk K G₀ H₀ G' D r := by
  cases r with
  | next env => exact fun σ' G2 H2 s2 I2 => h σ' G2 H2 (s.trans s2) I2
  | ret v => exact h

@[simp] def setS (i : Nat) (fz : Bool) (f : FE) : FS := fun env => (f env).bind fun x => match x with
  | .pers d => .ok (.next (env.set i (.pers d)))
  | .fresh ds => .ok (.next (env.set i (if fz then .pers (.lst ds) else .own ds)))
  | .brw _ _ => .bad
section
variable {K : PySem.W.Frag} {G₀ H₀ : Hp}
/-- a value comes and is stored at i -/
theorem store_imp {i : Nat} {fz : Bool} {f : FE} {D : Ends} {σ : St} {H : Hp} (q : tS K G₀ H₀ (setS i fz f) D σ H) : tE K G₀ H₀ f σ H fun x H1 => D.nx (σ.set i (some x)) H1 := by
  obtain ⟨env, G, r, I, e, k⟩ := q
  obtain ⟨x, e1, e⟩ := bind_inv e
  refine ⟨env, G, x, I, e1, fun v G' H' g l h => ?_⟩
  have I' := I.grow g l
  cases x with
  | pers d =>
    cases e
    exact k _ G' H' g.g (I'.setP i h)
  | brw j ds => cases e
  | fresh ds =>
    cases e
    cases fz with
    | true =>
      obtain ⟨G2, g2, l2, h2⟩ := held g l h rfl
      exact k _ G2 H' g2.g ((I.grow g2 l2).setP i h2)
    | false =>
      obtain ⟨a, vs, rfl, h1, h2, h3, h4⟩ := h
      refine k _ G' H' g.g (I'.setO i h2 h3 (I.gr.h.free h1) h4 fun j es e2 s2 => ?_)
      obtain ⟨b, us, o⟩ := I.own e2
      have z := o.at_
      rw [s2] at z
      cases z
      have z := o.hp
      rw [h1] at z
      cases z
end
section
variable {X : Cx} {G₀ H₀ : Hp} {pos : Pos}
theorem ds_set {i : Nat} {x : Str} {e : Expr} {f : FE} {pos' : Pos} (fz : Bool) (hN : X.N.Nodup) (he : DE X G₀ H₀ e f) (hi : X.N[i]? = some x := by rfl) (hx : Loc X.env.scope x := by first | exact Or.inl rfl | exact Or.inr rfl)
    (hs : swapsWith e (some (.Name x pos')) pos.line X.env = pure false := by rfl) (hf : X.fn x = true ∨ X.env.scope.names.lookup x = some .local := by first | exact .inl rfl | exact .inr rfl) :
    DS X G₀ H₀ (.Assign [.Name x pos'] e pos) (setS i fz f) := (ps_set hN hi hx he hs hf).imp fun D σ H q => store_imp q
end

/-! ### targets -/
def tG (K : PySem.W.Frag) (G₀ H₀ : Hp) (g : D → Ev → Out Ev) : TG := fun v σ H Q => ∃ env G d env', DI K G₀ H₀ env σ G H ∧ Rep K G d v ∧ g d env = .ok env' ∧ ∀ σ', DI K G₀ H₀ env' σ' G H → Q σ' H
@[simp] def setAll : List Nat → List D → Ev → Ev
  | i :: is, d :: ds, env => setAll is ds (env.set i (.pers d))
  | _, _, env => env
def tGs (K : PySem.W.Frag) (G₀ H₀ : Hp) (is : List Nat) : TGs := fun vs σ H Q => ∃ env G ds, DI K G₀ H₀ env σ G H ∧ RepL K G ds vs ∧ ds.length = is.length ∧ ∀ σ', DI K G₀ H₀ (setAll is ds env) σ' G H → Q σ' H
def DG (X : Cx) (G₀ H₀ : Hp) (tg : Expr) (g : D → Ev → Out Ev) : Prop := PG X tg (tG X.K G₀ H₀ g)
def DGs (X : Cx) (G₀ H₀ : Hp) (ts : List Expr) (is : List Nat) : Prop := PGs X ts (tGs X.K G₀ H₀ is)
@[simp] def gN (i : Nat) : D → Ev → Out Ev := fun d env => .ok (env.set i (.pers d))
@[simp] def gT (is : List Nat) : D → Ev → Out Ev := fun d env => match d with
  | .tup ds => if ds.length = is.length then .ok (setAll is ds env) else .bad
  | _ => .bad
section
variable {X : Cx} {G₀ H₀ : Hp} {pos : Pos}
theorem dg_name {i : Nat} {x : Str} (hN : X.N.Nodup) (hi : X.N[i]? = some x := by rfl) (hx : Loc X.env.scope x := by first | exact Or.inl rfl | exact Or.inr rfl) (hf : X.fn x = true ∨ X.env.scope.names.lookup x = some .local := by first | exact .inl rfl | exact .inr rfl) :
    DG X G₀ H₀ (.Name x pos) (gN i) := fun pins s σ H v u Q I r q => pg_name hN hi hx hf pins s σ H v u Q I r (by
  obtain ⟨env, G, d, env', J, h, e, k⟩ := q
  cases e
  exact k _ (J.setP i h))
theorem dgs_nil : DGs X G₀ H₀ [] [] := fun pins s σ H vs us Q I r q => pgs_nil pins s σ H vs us Q I r (by
  obtain ⟨env, G, ds, J, h, e, k⟩ := q
  cases ds with
  | nil => cases (show vs = [] from h); exact ⟨rfl, k σ J⟩
  | cons d ds => cases e)
theorem dgs_cons {i : Nat} {x : Str} {es : List Expr} {is : List Nat} (hN : X.N.Nodup) (hr : DGs X G₀ H₀ es is) (hi : X.N[i]? = some x := by rfl) (hx : Loc X.env.scope x := by first | exact Or.inl rfl | exact Or.inr rfl) (hf : X.fn x = true ∨ X.env.scope.names.lookup x = some .local := by first | exact .inl rfl | exact .inr rfl)
    (hs : (assignEach (.Name x pos :: es) X.env).map (·.2) = assign (.Name x pos) X.env :: (assignEach es X.env).map (·.2) := by rfl) :
    DGs X G₀ H₀ (.Name x pos :: es) (i :: is) := fun pins s σ H vs us Q I r q => pgs_cons (pg_name hN hi hx hf) hr hs pins s σ H vs us Q I r (by
  obtain ⟨env, G, ds, J, h, e, k⟩ := q
  cases ds with
  | nil => cases e
  | cons d ds =>
    obtain ⟨v, vr, rfl, h1, h2⟩ := h
    exact ⟨v, vr, rfl, env.set i (.pers d), G, ds, J.setP i h1, h2, by simpa using e, k⟩)
theorem dg_tup {es : List Expr} {k : Nat} {is : List Nat} (hc : X.calm = true) (h : DGs X G₀ H₀ es is) (hn : (assignEach es X.env).length = is.length := by rfl) (hst : (assignEach es X.env).findIdx? (·.1) = none := by rfl) :
    DG X G₀ H₀ (.Tuple es k pos) (gT is) := fun pins s σ H v u Q I r q => pg_tup hc h hn hst pins s σ H v u Q I r (by
  obtain ⟨env, G, d, env', J, h, e, k⟩ := q
  unfold gT at e
  split at e
  · rename_i ds
    split at e
    · rename_i hl
      cases e
      obtain ⟨a, vs, e1, h1, r1⟩ := h
      exact ⟨a, vs, e1, SqT.of (J.le _ _ h1), by rw [← r1.length]; exact hl, env, G, ds, J, r1, hl, k⟩
    · cases e
  · cases e)
@[simp] def asgS (g : D → Ev → Out Ev) (f : FE) : FS := fun env => (f env).bind fun x => x.hold.bind fun d => (g d env).bind fun env' => .ok (.next env')
theorem ds_asg {tg e : Expr} {f : FE} {g : D → Ev → Out Ev} (he : DE X G₀ H₀ e f) (hg : DG X G₀ H₀ tg g) (hs : swapsWithSole [tg] e pos.line X.env = pure false := by rfl) (hw : swappedStores [tg] e X.env = pure none := by rfl)
    (h1 : (assignEach [tg] X.env).map (·.2) = [assign tg X.env] := by rfl) : DS X G₀ H₀ (.Assign [tg] e pos) (asgS g f) := (ps_asg he hg hs hw h1).imp fun D σ H q => by
  obtain ⟨env, G, r, I, e, k⟩ := q
  obtain ⟨x, e1, e⟩ := bind_inv e
  obtain ⟨d, e2, e⟩ := bind_inv e
  obtain ⟨env', e3, e⟩ := bind_inv e
  cases e
  refine ⟨env, G, x, I, e1, fun v G' H' g l h => ?_⟩
  obtain ⟨G2, g2, l2, h2⟩ := held g l h e2
  exact ⟨env, G2, d, env', I.grow g2 l2, h2, e3, fun σ' I' => k σ' G2 H' g2.g I'⟩
end

/-! ### small statements -/
@[simp] def drpS (f : FE) : FS := fun env => (f env).bind fun _ => .ok (.next env)
@[simp] def retS (f : FE) : FS := fun env => (f env).bind fun x => match x with
  | .brw _ ds => .ok (.ret (.fresh ds))
  | x => .ok (.ret x)
@[simp] def nxtS : FS := fun env => .ok (.next env)
@[simp] def ifS (ft : FT) (f g : FS) : FS := fun env => (ft env).bind fun c => if c = true then f env else g env
@[simp] def seqS (f g : FS) : FS := fun env => (f env).bind fun r => match r with
  | .next env' => g env'
  | .ret v => .ok (.ret v)
section
variable {X : Cx} {G₀ H₀ : Hp} {pos : Pos}
theorem ds_expr {e : Expr} {f : FE} (he : DE X G₀ H₀ e f) (hs : swapsWith e none pos.line X.env = pure false := by rfl) : DS X G₀ H₀ (.Expr e pos) (drpS f) := (ps_expr he hs).imp fun D σ H q => by
  obtain ⟨env, G, r, I, e, k⟩ := q
  obtain ⟨x, e1, e⟩ := bind_inv e
  cases e
  exact ⟨env, G, x, I, e1, fun v G' H' g l h => k σ G' H' g.g (I.grow g l)⟩
theorem ds_ret {e : Expr} {f : FE} (he : DE X G₀ H₀ e f) : DS X G₀ H₀ (.Return (some e) pos) (retS f) := (ps_ret he).imp fun D σ H q => by
  obtain ⟨env, G, r, I, e, k⟩ := q
  obtain ⟨x, e1, e⟩ := bind_inv e
  refine ⟨env, G, x, I, e1, fun v G' H' g l h => ?_⟩
  cases x with
  | pers d => cases e; exact k v G' H' (I.gr.trans g) l h
  | fresh ds =>
    cases e
    obtain ⟨a, vs, rfl, h1, h2⟩ := h
    exact k _ G' H' (I.gr.trans g) l ⟨a, vs, rfl, I.gr.h.free h1, h2⟩
  | brw i ds =>
    cases e
    obtain ⟨a, rfl, e2, e3⟩ := h
    obtain ⟨b, vs, o⟩ := (I.grow g l).own e2
    have z := o.at_
    rw [e3] at z
    cases z
    exact k _ G' H' (I.gr.trans g) l ⟨a, vs, rfl, o.new, o.hp, o.gn, o.rep⟩
theorem ds_pass : DS X G₀ H₀ (.Pass pos) nxtS := ps_pass.imp fun D σ H q => by
  obtain ⟨env, G, r, I, e, k⟩ := q
  cases e
  exact k σ G H (Same.refl _) I
theorem ds_if {c : Expr} {a b : List Stmt} {ft : FT} {f g : FS} (hc : DT X G₀ H₀ c ft) (ha : DSs X G₀ H₀ a f) (hb : DSs X G₀ H₀ b g) : DS X G₀ H₀ (.If c a b pos) (ifS ft f g) := (ps_if hc ha hb).imp fun D σ H q => by
  obtain ⟨env, G, r, I, e, k⟩ := q
  obtain ⟨x, e1, e⟩ := bind_inv e
  refine ⟨env, G, x, I, e1, fun G' H' g l => ?_⟩
  cases x with
  | true => exact iteT ⟨env, G', r, I.grow g l, e, k.mono g.g⟩
  | false => exact iteF ⟨env, G', r, I.grow g l, e, k.mono g.g⟩
theorem dss_nil : DSs X G₀ H₀ [] nxtS := pss_nil.imp fun D σ H q => by
  obtain ⟨env, G, r, I, e, k⟩ := q
  cases e
  exact k σ G H (Same.refl _) I
theorem dss_cons {st : Stmt} {rest : List Stmt} {f g : FS} (h1 : DS X G₀ H₀ st f) (h2 : DSs X G₀ H₀ rest g) : DSs X G₀ H₀ (st :: rest) (seqS f g) := (pss_cons h1 h2).imp fun D σ H q => by
  obtain ⟨env, G, r, I, e, k⟩ := q
  obtain ⟨x, e1, e⟩ := bind_inv e
  refine ⟨env, G, x, I, e1, ?_⟩
  cases x with
  | next env' => exact fun σ' G' H' s I' => ⟨env', G', r, I', e, k.mono s⟩
  | ret v => cases e; exact k
theorem dss_one {st : Stmt} {f : FS} (h1 : DS X G₀ H₀ st f) : DSs X G₀ H₀ [st] f := pss_one h1
theorem ds_never {st : Stmt} : DS X G₀ H₀ st (fun _ => .bad) := fun pins s σ H D I q => by
  obtain ⟨env, G, r, I, e, k⟩ := q
  cases e
end

/-! ### lists changed by a method -/
@[simp] def appS (i : Nat) (f : FE) : FS := fun env => match env[i]? with
  | some (.own ds) => if ds.length < 100000 then (f env).bind fun x => x.hold.bind fun d => .ok (.next (env.set i (.own (ds ++ [d])))) else .bad
  | _ => .bad
@[simp] def popS (i : Nat) : FS := fun env => match env[i]? with
  | some (.own ds) => if ds.length = 0 then .bad else .ok (.next (env.set i (.own ds.dropLast)))
  | _ => .bad
@[simp] def revS (i : Nat) : FS := fun env => match env[i]? with
  | some (.own ds) => .ok (.next (env.set i (.own ds.reverse)))
  | _ => .bad
@[simp] def clrS (i : Nat) : FS := fun env => match env[i]? with
  | some (.own _) => .ok (.next (env.set i (.own [])))
  | _ => .bad
@[simp] def extS (i : Nat) (f : FE) : FS := fun env => match env[i]? with
  | some (.own ds) => (f env).bind fun x => match x with
    | .pers (.lst es) => if ds.length + es.length ≤ 100000 then .ok (.next (env.set i (.own (ds ++ es)))) else .bad
    | .fresh es => if ds.length + es.length ≤ 100000 then .ok (.next (env.set i (.own (ds ++ es)))) else .bad
    | _ => .bad
  | _ => .bad
@[simp] def putS (i : Nat) (fk f : FE) : FS := fun env => match env[i]? with
  | some (.own ds) => (f env).bind fun x => x.hold.bind fun d => (fk env).bind fun y => match y.d with
    | .int k => match ixN ds.length k with
      | some j => .ok (.next (env.set i (.own (ds.set j d))))
      | none => .bad
    | _ => .bad
  | _ => .bad
section
variable {X : Cx} {G₀ H₀ : Hp} {pos p1 apos cpos : Pos} {i : Nat} {x : Str} {e : Expr} {f : FE}
theorem ds_append (hv : PE X (.Name x p1) (tVar i)) (he : DE X G₀ H₀ e f) (hfew : ((backTo cpos (starEach [e] X.env)).all (fun x => !x.1) && (backToKw cpos (keywordEach [] X.env)).all (fun x => x.1.isSome)
      && decide ([e].length + ([] : List Keyword).length + (if ([] : List Keyword).isEmpty then 0 else 1) < 30)) = true := by rfl)
    (hline : (apos.endLine == cpos.line) = true := by rfl) (hs : starEach [e] X.env = [(false, eval e X.env)] := by rfl) :
    DS X G₀ H₀ (.Expr (.Call (.Attribute (.Name x p1) "append" apos) [e] [] cpos) pos) (appS i f) :=
  (ps_expr (pe_bm PySem.F.plainAttrs_list PySem.F.slot_list_append PySem.F.type_list_append mt_append hv (pa_cons he pa_nil hs) rfl hfew hline hs rfl) rfl).imp fun D σ H q => by
    obtain ⟨env, G, r, I, e, k⟩ := q
    unfold appS at e
    split at e
    · rename_i ds hd
      split at e
      · rename_i hz
        obtain ⟨y, e1, e⟩ := bind_inv e
        obtain ⟨d, e2, e⟩ := bind_inv e
        cases e
        obtain ⟨a, vs, o⟩ := I.own hd
        refine ⟨.ref a, o.at_, .inl ⟨rfl, vs, SqL.of o.hp⟩, env, G, y, I, e1, fun v G' H' g l h => ?_⟩
        obtain ⟨G2, g2, l2, h2⟩ := held g l h e2
        have I2 := I.grow g2 l2
        obtain ⟨b, us, o2⟩ := I2.own hd
        have z := o2.at_
        rw [o.at_] at z
        cases z
        exact ⟨a, us, v, rfl, rfl, o2.hp, by rw [← o2.rep.length, sizeLine_eq]; omega, k σ G2 _ g2.g (I2.mut hd o2 (o2.rep.append (RepL.cons h2 RepL.nil)))⟩
      · cases e
    · cases e
theorem ds_pop (hv : PE X (.Name x p1) (tVar i)) (hline : (apos.endLine == cpos.line) = true := by rfl) :
    DS X G₀ H₀ (.Expr (.Call (.Attribute (.Name x p1) "pop" apos) [] [] cpos) pos) (popS i) :=
  (ps_expr (pe_bm0 PySem.F.plainAttrs_list PySem.F.slot_list_pop PySem.F.type_list_pop mt_pop hv rfl hline) rfl).imp fun D σ H q => by
    obtain ⟨env, G, r, I, e, k⟩ := q
    unfold popS at e
    split at e
    · rename_i ds hd
      split at e
      · cases e
      · rename_i hz
        cases e
        obtain ⟨a, vs, o⟩ := I.own hd
        have hl := o.rep.length
        have hv2 : vs[vs.length - 1]? = some (vs[vs.length - 1]'(by omega)) := List.getElem?_eq_getElem (by omega)
        exact ⟨.ref a, o.at_, .inl ⟨rfl, vs, SqL.of o.hp⟩, a, vs, _, rfl, rfl, o.hp, hv2, k σ G _ (Same.refl _) (I.mut hd o o.rep.dropLast)⟩
    · cases e
theorem ds_reverse (hv : PE X (.Name x p1) (tVar i)) (hline : (apos.endLine == cpos.line) = true := by rfl) :
    DS X G₀ H₀ (.Expr (.Call (.Attribute (.Name x p1) "reverse" apos) [] [] cpos) pos) (revS i) :=
  (ps_expr (pe_bm0 PySem.F.plainAttrs_list PySem.F.slot_list_reverse PySem.F.type_list_reverse mt_reverse hv rfl hline) rfl).imp fun D σ H q => by
    obtain ⟨env, G, r, I, e, k⟩ := q
    unfold revS at e
    split at e
    · rename_i ds hd
      cases e
      obtain ⟨a, vs, o⟩ := I.own hd
      exact ⟨.ref a, o.at_, .inl ⟨rfl, vs, SqL.of o.hp⟩, a, vs, rfl, rfl, o.hp, k σ G _ (Same.refl _) (I.mut hd o o.rep.reverse)⟩
    · cases e
theorem ds_clear (hv : PE X (.Name x p1) (tVar i)) (hline : (apos.endLine == cpos.line) = true := by rfl) :
    DS X G₀ H₀ (.Expr (.Call (.Attribute (.Name x p1) "clear" apos) [] [] cpos) pos) (clrS i) :=
  (ps_expr (pe_bm0 PySem.F.plainAttrs_list PySem.F.slot_list_clear PySem.F.type_list_clear mt_clear hv rfl hline) rfl).imp fun D σ H q => by
    obtain ⟨env, G, r, I, e, k⟩ := q
    unfold clrS at e
    split at e
    · rename_i ds hd
      cases e
      obtain ⟨a, vs, o⟩ := I.own hd
      exact ⟨.ref a, o.at_, .inl ⟨rfl, vs, SqL.of o.hp⟩, a, vs, rfl, rfl, o.hp, k σ G _ (Same.refl _) (I.mut hd o RepL.nil)⟩
    · cases e
theorem ds_extend (hv : PE X (.Name x p1) (tVar i)) (he : DE X G₀ H₀ e f) (hfew : ((backTo cpos (starEach [e] X.env)).all (fun x => !x.1) && (backToKw cpos (keywordEach [] X.env)).all (fun x => x.1.isSome)
      && decide ([e].length + ([] : List Keyword).length + (if ([] : List Keyword).isEmpty then 0 else 1) < 30)) = true := by rfl)
    (hline : (apos.endLine == cpos.line) = true := by rfl) (hs : starEach [e] X.env = [(false, eval e X.env)] := by rfl) :
    DS X G₀ H₀ (.Expr (.Call (.Attribute (.Name x p1) "extend" apos) [e] [] cpos) pos) (extS i f) :=
  (ps_expr (pe_bm PySem.F.plainAttrs_list PySem.F.slot_list_extend PySem.F.type_list_extend mt_extend hv (pa_cons he pa_nil hs) rfl hfew hline hs rfl) rfl).imp fun D σ H q => by
    obtain ⟨env, G, r, I, e, k⟩ := q
    have main : ∀ ds es y, env[i]? = some (.own ds) → f env = .ok y → y.hold = .ok (.lst es) → ds.length + es.length ≤ 100000 → r = .next (env.set i (.own (ds ++ es))) →
        tDrop (tBM X.K "list" rExtend (tVar i) (tCons (tE X.K G₀ H₀ f) tNil)) D σ H := by
      intro ds es y hd e1 e2 hz hr
      subst hr
      obtain ⟨a, vs, o⟩ := I.own hd
      refine ⟨.ref a, o.at_, .inl ⟨rfl, vs, SqL.of o.hp⟩, env, G, y, I, e1, fun v G' H' g l h => ?_⟩
      obtain ⟨G2, g2, l2, h2⟩ := held g l h e2
      have I2 := I.grow g2 l2
      obtain ⟨b, us, o2⟩ := I2.own hd
      have z := o2.at_
      rw [o.at_] at z
      cases z
      obtain ⟨c, ws, rfl, h3, r3⟩ := h2
      exact ⟨a, c, us, ws, rfl, rfl, o2.hp, l2 _ _ h3, by rw [← o2.rep.length, ← r3.length]; exact le_line hz, k σ G2 _ g2.g (I2.mut hd o2 (o2.rep.append r3))⟩
    unfold extS at e
    split at e
    · rename_i ds hd
      obtain ⟨y, e1, e⟩ := bind_inv e
      split at e
      · rename_i es
        split at e
        · rename_i hz
          exact main ds es _ hd e1 rfl hz (by cases e; rfl)
        · cases e
      · rename_i es
        split at e
        · rename_i hz
          exact main ds es _ hd e1 rfl hz (by cases e; rfl)
        · cases e
      · cases e
    · cases e
theorem ds_put {tpos : Pos} {ek : Expr} {fk : FE} (hv : PE X (.Name x p1) (tVar i)) (hk : DE X G₀ H₀ ek fk) (he : DE X G₀ H₀ e f)
    (ha : ∀ v, assign (.Subscript (.Name x p1) ek tpos) X.env v = (do
      let ov ← holding [v] (eval (.Name x p1) X.env)
      let iv ← holding [v, ov] (eval ek X.env)
      standAt tpos
      holding [v, ov, iv] (setItem ov iv v)
      release [v, ov, iv] []) := by intro _; rfl)
    (hs : swapsWithSole [.Subscript (.Name x p1) ek tpos] e pos.line X.env = pure false := by rfl) (hw : swappedStores [.Subscript (.Name x p1) ek tpos] e X.env = pure none := by rfl)
    (h1 : (assignEach [.Subscript (.Name x p1) ek tpos] X.env).map (·.2) = [assign (.Subscript (.Name x p1) ek tpos) X.env] := by rfl) :
    DS X G₀ H₀ (.Assign [.Subscript (.Name x p1) ek tpos] e pos) (putS i fk f) :=
  (ps_asg he (pg_sub hv hk set_list ha) hs hw h1).imp fun D σ H q => by
    obtain ⟨env, G, r, I, e, k⟩ := q
    unfold putS at e
    split at e
    · rename_i ds hd
      obtain ⟨y, e1, e⟩ := bind_inv e
      obtain ⟨d, e2, e⟩ := bind_inv e
      obtain ⟨z, e3, e⟩ := bind_inv e
      split at e
      · rename_i kk hkk
        split at e
        · rename_i j hj
          cases e
          refine ⟨env, G, y, I, e1, fun v G' H' g l h => ?_⟩
          obtain ⟨G2, g2, l2, h2⟩ := held g l h e2
          have I2 := I.grow g2 l2
          obtain ⟨b, us, o2⟩ := I2.own hd
          refine ⟨.ref b, o2.at_, tE_one I2 e3 fun w G3 H3 g3 l3 I3 o3 => ?_⟩
          rw [hkk] at o3
          obtain ⟨c, ws, o4⟩ := I3.own hd
          have z := o4.at_
          rw [o2.at_] at z
          cases z
          exact ⟨b, ws, kk, j, rfl, o3.int, o4.hp, by rw [← o4.rep.length]; exact hj, k σ G3 _ (g2.g.trans g3.g) (I3.mut hd o4 (o4.rep.set (h2.mono g3.g) j))⟩
        · cases e
      · cases e
    · cases e
end

/-! ### loops -/
structure JOk (K : PySem.W.Frag) (J : It) (G : Hp) (ds : List D) : Prop where
  go : ∀ i G' H', Same G G' → Same G' H' → i < ds.length → J.go i H'
  stop : ∀ i G' H', Same G G' → Same G' H' → ds.length ≤ i → J.stop i H'
  yld : ∀ i G' H' x H1, Same G G' → Same G' H' → i < ds.length → J.yld i H' x H1 → ∃ d G1, ds[i]? = some d ∧ Grow G' H' G1 H1 ∧ Same G1 H1 ∧ Rep K G1 d x
theorem JOk.mono {K : PySem.W.Frag} {J : It} {G G' : Hp} {ds : List D} (h : JOk K J G ds) (s : Same G G') : JOk K J G' ds :=
  ⟨fun i G2 H2 s2 l2 hi => h.go i G2 H2 (s.trans s2) l2 hi, fun i G2 H2 s2 l2 hi => h.stop i G2 H2 (s.trans s2) l2 hi, fun i G2 H2 x H1 s2 l2 hi => h.yld i G2 H2 x H1 (s.trans s2) l2 hi⟩
abbrev FI := Ev → Out (List D)
def tI (K : PySem.W.Frag) (G₀ H₀ : Hp) (f : FI) : TI := fun σ H R => ∃ env G ds, DI K G₀ H₀ env σ G H ∧ f env = .ok ds ∧ ∀ J G' H', Grow G H G' H' → Same G' H' → JOk K J G' ds → R J H'
def DIt (X : Cx) (G₀ H₀ : Hp) (tg iter : Expr) (f : FI) : Prop := PI X tg iter (tI X.K G₀ H₀ f)
theorem _root_.L2.PI.imp {X : Cx} {tg e : Expr} {t t' : TI} (h : PI X tg e t) (i : ∀ σ H Q, t' σ H Q → t σ H Q) : PI X tg e t' := fun pins s σ H Q I q => h pins s σ H Q I (i σ H Q q)
@[simp] def fItL (f : FE) : FI := fun env => (f env).bind fun x => x.hold.bind fun d => match d with
  | .lst ds => .ok ds
  | .scr ns => .ok (ns.map .int)
  | _ => .bad
@[simp] def fItT (f : FE) : FI := fun env => (f env).bind fun x => x.hold.bind fun d => match d with
  | .tup ds => .ok ds
  | _ => .bad
def rngD (lo : Int) (n : Nat) : List D := (List.range n).map fun (i : Nat) => .int (lo + i)
@[simp] def fRng1 (f : Ev → Out (List Val)) : FI := fun env => (f env).bind fun xs => match xs.map Val.d with
  | [.int j] => if -1000000 ≤ j ∧ j ≤ 1000000 then .ok (rngD 0 j.toNat) else .bad
  | _ => .bad
@[simp] def fRng2 (f : Ev → Out (List Val)) : FI := fun env => (f env).bind fun xs => match xs.map Val.d with
  | [.int i, .int j] => if -1000000 ≤ i ∧ i ≤ 1000000 ∧ -1000000 ≤ j ∧ j ≤ 1000000 then .ok (rngD i (j - i).toNat) else .bad
  | _ => .bad
theorem jok_list {K : PySem.W.Frag} {G : Hp} {a : Addr} {ds : List D} {vs : List V} (h : SqL K G a vs) (r : RepL K G ds vs) : JOk K (Itl K a) G ds where
  go := fun i G' H' s l hi => ⟨vs, vs[i]'(by rw [← r.length]; exact hi), l.seq (s.seq h), List.getElem?_eq_getElem _⟩
  stop := fun i G' H' s l hi => ⟨vs, l.seq (s.seq h), by rw [← r.length]; exact hi⟩
  yld := fun i G' H' x H1 s l hi y => by
    obtain ⟨e, y⟩ := y
    subst e
    have hx := y vs (l.seq (s.seq h))
    obtain ⟨d, h1, h2⟩ := r.get' hx
    exact ⟨d, G', h1, Grow.refl _ _, l, h2.mono s⟩
theorem jok_tup {K : PySem.W.Frag} {G : Hp} {a : Addr} {ds : List D} {vs : List V} (h : G a = some (.tup vs)) (r : RepL K G ds vs) : JOk K (Itt K a) G ds where
  go := fun i G' H' s l hi => ⟨vs, vs[i]'(by rw [← r.length]; exact hi), SqT.of (l _ _ (s _ _ h)), List.getElem?_eq_getElem _⟩
  stop := fun i G' H' s l hi => ⟨vs, SqT.of (l _ _ (s _ _ h)), by rw [← r.length]; exact hi⟩
  yld := fun i G' H' x H1 s l hi y => by
    obtain ⟨e, y⟩ := y
    subst e
    have hx := y vs (SqT.of (l _ _ (s _ _ h)))
    obtain ⟨d, h1, h2⟩ := r.get' hx
    exact ⟨d, G', h1, Grow.refl _ _, l, h2.mono s⟩
theorem jok_range {K : PySem.W.Frag} {G : Hp} (lo : Int) (n : Nat) : JOk K (Itr lo n) G (rngD lo n) where
  go := fun i G' H' s l hi => by have h : i < n := by simpa [rngD] using hi
                                 exact h
  stop := fun i G' H' s l hi => by have h : n ≤ i := by simpa [rngD] using hi
                                   exact h
  yld := fun i G' H' x H1 s l hi y => by
    obtain ⟨e, y⟩ := y
    subst e
    have hi' : i < n := by simpa [rngD] using hi
    exact ⟨.int (lo + i), G', by simp [rngD, hi'], Grow.refl _ _, l, y⟩
section
variable {X : Cx} {G₀ H₀ : Hp} {tg : Expr}
theorem di_list {l : Expr} {f : FE} (h : DE X G₀ H₀ l f) : DIt X G₀ H₀ tg l (fItL f) := (pi_list h).imp fun σ H R q => by
  obtain ⟨env, G, ds, I, e, k⟩ := q
  obtain ⟨x, e1, e⟩ := bind_inv e
  obtain ⟨d, e2, e⟩ := bind_inv e
  refine ⟨env, G, x, I, e1, fun v G' H' g l h => ?_⟩
  obtain ⟨G2, g2, l2, h2⟩ := held g l h e2
  split at e
  · cases e
    obtain ⟨a, vs, rfl, h3, r3⟩ := h2
    exact ⟨a, rfl, ⟨vs, SqL.of (l2 _ _ h3)⟩, k _ G2 H' g2 l2 (jok_list (SqL.of h3) r3)⟩
  · rename_i ns
    cases e
    obtain ⟨a, rfl, h3⟩ := h2
    exact ⟨a, rfl, ⟨_, l2.seq h3⟩, k _ G2 H' g2 l2 (jok_list h3 (RepL.ints ns))⟩
  · cases e
theorem di_tup {l : Expr} {f : FE} (h : DE X G₀ H₀ l f) : DIt X G₀ H₀ tg l (fItT f) := (pi_tup h).imp fun σ H R q => by
  obtain ⟨env, G, ds, I, e, k⟩ := q
  obtain ⟨x, e1, e⟩ := bind_inv e
  obtain ⟨d, e2, e⟩ := bind_inv e
  refine ⟨env, G, x, I, e1, fun v G' H' g l h => ?_⟩
  obtain ⟨G2, g2, l2, h2⟩ := held g l h e2
  split at e
  · cases e
    obtain ⟨a, vs, rfl, h3, r3⟩ := h2
    exact ⟨a, rfl, ⟨vs, SqT.of (l2 _ _ h3)⟩, k _ G2 H' g2 l2 (jok_tup h3 r3)⟩
  · cases e
theorem di_range1 {a : Expr} {f : Ev → Out (List Val)} {p pos : Pos} (hm : X.mg "range" = none) (ha : DA X G₀ H₀ [a] f) (hg : Gl X "range" := by rfl) (hs : starEach [a] X.env = [(false, eval a X.env)] := by rfl) :
    DIt X G₀ H₀ tg (.Call (.Name "range" p) [a] [] pos) (fRng1 f) := (pi_range1 hg hm ha hs).imp fun σ H R q => by
  obtain ⟨env, G, ds, I, e, k⟩ := q
  obtain ⟨xs, e1, e⟩ := bind_inv e
  refine ⟨env, G, xs, I, e1, fun vs G' H' g l h => ?_⟩
  split at e
  · rename_i j hj
    split at e
    · rename_i hb
      cases e
      obtain ⟨v, rfl, o⟩ := args1 h hj
      exact ⟨j, by rw [o.int], by omega, by omega, k _ G' H' g l (jok_range 0 _)⟩
    · cases e
  · cases e
theorem di_range2 {a b : Expr} {f : Ev → Out (List Val)} {p pos : Pos} (hm : X.mg "range" = none) (ha : DA X G₀ H₀ [a, b] f) (hg : Gl X "range" := by rfl) (hs : starEach [a, b] X.env = [(false, eval a X.env), (false, eval b X.env)] := by rfl) (hs2 : starEach [b] X.env = [(false, eval b X.env)] := by rfl) :
    DIt X G₀ H₀ tg (.Call (.Name "range" p) [a, b] [] pos) (fRng2 f) := (pi_range2 hg hm ha hs hs2).imp fun σ H R q => by
  obtain ⟨env, G, ds, I, e, k⟩ := q
  obtain ⟨xs, e1, e⟩ := bind_inv e
  refine ⟨env, G, xs, I, e1, fun vs G' H' g l h => ?_⟩
  split at e
  · rename_i i j hj
    split at e
    · rename_i hb
      cases e
      obtain ⟨v, v', rfl, o, o'⟩ := args2 h hj
      exact ⟨i, j, by rw [o.int, o'.int], by omega, k _ G' H' g l (jok_range i _)⟩
    · cases e
  · cases e
end
def forD (g : D → Ev → Out Ev) (fb : FS) : List D → Ev → Out Res
  | [], env => .ok (.next env)
  | d :: ds, env => (g d env).bind fun env1 => (fb env1).bind fun r => match r with
    | .next env2 => forD g fb ds env2
    | .ret v => .ok (.ret v)
@[simp] def forS (fi : FI) (g : D → Ev → Out Ev) (fb : FS) : FS := fun env => (fi env).bind fun ds => forD g fb ds env
def whlD (ft : FT) (fb : FS) : Nat → Ev → Out Res
  | 0, _ => .bad
  | n + 1, env => (ft env).bind fun c => if c = true then (fb env).bind fun r => match r with
    | .next env2 => whlD ft fb n env2
    | .ret v => .ok (.ret v)
    else .ok (.next env)
section
variable {X : Cx} {G₀ H₀ : Hp} {tg : Expr} {pos : Pos}
theorem ds_for {iter : Expr} {body : List Stmt} {fi : FI} {g : D → Ev → Out Ev} {fb : FS} (hp : PassesOwn (model X.prog X.w) X.A X.env X.xe) (hi : DIt X G₀ H₀ tg iter fi) (hg : DG X G₀ H₀ tg g) (hb : DSs X G₀ H₀ body fb) (hc : X.calm = true := by rfl)
    (hs : ∀ x, foldedSetIterable iter X.env x = pure x := by intro _; rfl) : DS X G₀ H₀ (.For tg iter body [] pos) (forS fi g fb) := (ps_for hp hc hi hg hb hs).imp fun D σ H q => by
  obtain ⟨env, G, r, I, e, k⟩ := q
  obtain ⟨ds, e1, e⟩ := bind_inv e
  refine ⟨env, G, ds, I, e1, fun J G1 H1 g1 l1 jok => ?_⟩
  refine ⟨fun i m σ H => m = ds.length - i ∧ i ≤ ds.length ∧ ∃ env' G', Same G1 G' ∧ DI X.K G₀ H₀ env' σ G' H ∧ forD g fb (ds.drop i) env' = .ok r, ⟨ds.length, by simp, Nat.zero_le _, env, G1, Same.refl _, I.grow g1 l1, by simpa using e⟩, ?_⟩
  rintro i m σ' H' ⟨rfl, hi', env', G', s', I', e'⟩
  by_cases hlt : i < ds.length
  · have hd : ds.drop i = ds[i] :: ds.drop (i + 1) := List.drop_eq_getElem_cons hlt
    rw [hd] at e'
    obtain ⟨env1, e2, e'⟩ := bind_inv e'
    obtain ⟨r1, e3, e'⟩ := bind_inv e'
    refine .inr ⟨jok.go i G' H' s' I'.le hlt, fun σ2 H2 => ∃ env2 G2, Same G1 G2 ∧ DI X.K G₀ H₀ env2 σ2 G2 H2 ∧ forD g fb (ds.drop (i + 1)) env2 = .ok r, fun σ2 H2 ⟨env2, G2, s2, I2, e2⟩ => ⟨ds.length - (i + 1), by omega, rfl, hlt, env2, G2, s2, I2, e2⟩, fun x H2 y => ?_⟩
    obtain ⟨d, G2, hd2, g2, l2, r2⟩ := jok.yld i G' H' x H2 s' I'.le hlt y
    have hde : d = ds[i] := by rw [List.getElem?_eq_getElem hlt] at hd2; exact (Option.some.inj hd2).symm
    subst hde
    refine ⟨env', G2, _, env1, I'.grow g2 l2, r2, e2, fun σ2 I2 => ⟨env1, G2, r1, I2, e3, ?_⟩⟩
    cases r1 with
    | next env2 => exact fun σ3 G3 H3 s3 I3 => ⟨env2, G3, (s'.trans g2.g).trans s3, I3, e'⟩
    | ret v => cases e'; exact k
  · have hi2 : i = ds.length := by omega
    subst hi2
    rw [List.drop_length] at e'
    cases e'
    exact .inl ⟨jok.stop _ G' H' s' I'.le (Nat.le_refl _), k σ' G' H' (g1.g.trans s') I'⟩
theorem ds_while {c : Expr} {body : List Stmt} {ft : FT} {fb : FS} (n : Nat) (hp : PassesOwn (model X.prog X.w) X.A X.env X.xe) (hc : DT X G₀ H₀ c ft) (hb : DSs X G₀ H₀ body fb) : DS X G₀ H₀ (.While c body [] pos) (whlD ft fb n) :=
  (ps_while hp hc hb).imp fun D σ H q => by
    obtain ⟨env, G, r, I, e, k⟩ := q
    refine ⟨fun m σ H => ∃ env' G', Same G G' ∧ DI X.K G₀ H₀ env' σ G' H ∧ whlD ft fb m env' = .ok r, ⟨n, env, G, Same.refl _, I, e⟩, ?_⟩
    rintro m σ' H' ⟨env', G', s', I', e'⟩
    cases m with
    | zero => cases e'
    | succ m =>
      obtain ⟨c', e1, e'⟩ := bind_inv e'
      refine ⟨env', G', c', I', e1, fun G2 H2 g2 l2 => ?_⟩
      cases c' with
      | true =>
        rw [if_pos rfl] at e' ⊢
        obtain ⟨r1, e2, e'⟩ := bind_inv e'
        refine ⟨fun σ2 H2 => ∃ env' G', Same G G' ∧ DI X.K G₀ H₀ env' σ2 G' H2 ∧ whlD ft fb m env' = .ok r, fun σ3 H3 h3 => ⟨m, Nat.lt_succ_self _, h3⟩, env', G2, r1, I'.grow g2 l2, e2, ?_⟩
        cases r1 with
        | next env2 => exact fun σ3 G3 H3 s3 I3 => ⟨env2, G3, (s'.trans g2.g).trans s3, I3, e'⟩
        | ret v => cases e'; exact k
      | false =>
        rw [if_neg Bool.false_ne_true] at e' ⊢
        cases e'
        exact k σ' G2 H2 (s'.trans g2.g) (I'.grow g2 l2)
end

/-! ### defs -/
def spD (K : PySem.W.Frag) (m : List D → Out Val) (n : Nat) : Sp := fun vs H Q _ => ∃ G ds val, ds.length = n ∧ Same G H ∧ RepL K G ds vs ∧ m ds = .ok val ∧
  ∀ v G' H', Grow G H G' H' → Same G' H' → ValOk K H [] [] G' H' v val → Q v H'
@[simp] def runD (n : Nat) (f : FS) (ds : List D) : Out Val := (f (ds.map Slot.pers ++ List.replicate (n - ds.length) .un)).bind fun r => match r with
  | .ret v => .ok v
  | .next _ => .ok (.pers .non)
theorem start_DI {K : PySem.W.Frag} {G H : Hp} {ds : List D} {vs : List V} {N : List Str} (l : Same G H) (r : RepL K G ds vs) (hl : ds.length ≤ N.length) :
    DI K G H (ds.map Slot.pers ++ List.replicate (N.length - ds.length) .un) (L2.start N vs) G H where
  le := l
  gr := Grow.refl _ _
  len := by unfold L2.start; simp [r.length]
  slot := fun i s e => by
    by_cases hi : i < ds.length
    · rw [List.getElem?_append_left (by simpa using hi), List.getElem?_map, List.getElem?_eq_getElem hi] at e
      cases e
      obtain ⟨v, h1, h2⟩ := r.get (List.getElem?_eq_getElem hi)
      refine ⟨v, ?_, h2⟩
      unfold L2.start
      rw [List.getElem?_append_left (by simp [← r.length, hi]), List.getElem?_map, h1]
      rfl
    · rw [List.getElem?_append_right (by simpa using hi), List.getElem?_replicate] at e
      split at e
      · cases e; trivial
      · cases e
  apart := fun i j es fs a _ e _ _ _ => by
    by_cases hi : i < ds.length
    · rw [List.getElem?_append_left (by simpa using hi), List.getElem?_map, List.getElem?_eq_getElem hi] at e
      cases e
    · rw [List.getElem?_append_right (by simpa using hi), List.getElem?_replicate] at e
      split at e <;> cases e
theorem fn_ok {P : Program} {w : World} {K : PySem.W.Frag} {mg : Str → Option Value} {base : Heap} {x qual : Str} {st : Stmt} {f : Addr} {fd : FuncData} {N ps : List Str} {k : Nat} {fb : FS} (F : Fun K x qual st f fd) (S : FnScope N ps (defScope st))
    (hb : ∀ (cdv : Value) (A : Around) (outer : List Env) (s : Shared) (G H : Hp) (E : XK), Room k (A.deeper (envOfC qual (defScope st) s.heap.objs.size f cdv)) →
      DSs (cxOf CX0 P w K mg base N qual (defScope st) f cdv A outer s H E).nox G H (defBody st) fb) : FnOk P w K mg base CX0 (k + 1) f fd ps (spD K (runD N.length fb) ps.length) := by
  have hpl : ps.length ≤ N.length := by have := congrArg List.length S.pre; rw [List.length_take] at this; omega
  refine F.ok S (fun vs H Q E h => ?_) fun cdv A outer s H vs Q E hr h => ?_
  · obtain ⟨G, ds, val, hl, _, r, _⟩ := h
    rw [← r.length]; exact hl
  · obtain ⟨G, ds, val, hl, l, r, hm, k'⟩ := h
    refine ⟨_, hb cdv A outer s G H E hr, ?_⟩
    obtain ⟨r', e1, e2⟩ := bind_inv hm
    refine ⟨_, G, r', start_DI l r (by omega), e1, ?_⟩
    cases r' with
    | next env => cases e2; exact fun σ' G' H' s' I' => k' _ G' H' I'.gr I'.le rfl
    | ret v => cases e2; exact fun v' G' H' g' l' h' => k' v' G' H' g' l' h'

/-! ### a def called -/
mutual
def noLst : D → Bool
  | .tup ds => noLstL ds
  | .lst _ => false
  | .scr _ => false
  | .exc _ _ => false
  | _ => true
def noLstL : List D → Bool
  | [] => true
  | d :: ds => noLst d && noLstL ds
end
@[simp] def Val.calm : Val → Bool
  | .pers d => noLst d
  | .fresh ds => noLstL ds
  | .brw _ _ => false
@[simp] def Val.isPers : Val → Bool
  | .pers _ => true
  | _ => false
@[simp] def callG (m : List D → Out Val) (xs : List Val) : Out Val := (m (xs.map Val.d)).bind fun v => if (xs.all Val.isPers || v.calm) = true then .ok v else .bad
@[simp] def fCall (m : List D → Out Val) (r : Ev → Out (List Val)) : FE := fun env => (r env).bind fun xs => callG m xs
theorem argsRep {K : PySem.W.Frag} {env : Ev} {σ : St} {G : Hp} : ∀ {vs : List V} {xs : List Val}, ArgsOk K env σ G vs xs → xs.all Val.isPers = true → RepL K G (xs.map Val.d) vs
  | [], xs, h, _ => by cases (show xs = [] from h); rfl
  | v :: vs, xs, h, hp => by
    obtain ⟨x, r, rfl, h1, h2⟩ := h
    rw [List.all_cons, Bool.and_eq_true] at hp
    cases x with
    | pers d => exact RepL.cons h1 (argsRep h2 hp.2)
    | fresh ds => cases hp.1
    | brw i ds => cases hp.1
/-- the lists of names, lent for a call -/
def lentAt (env : Ev) (σ : St) (b : Addr) : Prop := ∃ (i : Nat) (ds : List D), env[i]? = some (.own ds) ∧ σ[i]? = some (some (.ref b))
open Classical in
noncomputable def lend (env : Ev) (σ : St) (G H : Hp) : Hp := fun b => if lentAt env σ b then H b else G b
open Classical in
noncomputable def unlend (env : Ev) (σ : St) (G : Hp) : Hp := fun b => if lentAt env σ b then none else G b
section
variable {K : PySem.W.Frag} {G₀ H₀ G H : Hp} {env : Ev} {σ : St}
theorem DI.lent (I : DI K G₀ H₀ env σ G H) {b : Addr} (h : lentAt env σ b) : G b = none ∧ ∃ vs, H b = some (.lst vs) := by
  obtain ⟨i, ds, e1, e2⟩ := h
  obtain ⟨a, vs, o⟩ := I.own e1
  have z := o.at_
  rw [e2] at z
  cases z
  exact ⟨o.gn, vs, o.hp⟩
theorem lend_ge (I : DI K G₀ H₀ env σ G H) : Same G (lend env σ G H) := fun b o q => by
  unfold lend
  by_cases h : lentAt env σ b
  · rw [(I.lent h).1] at q; cases q
  · rw [if_neg h]; exact q
theorem lend_le (I : DI K G₀ H₀ env σ G H) : Same (lend env σ G H) H := fun b o q => by
  unfold lend at q
  by_cases h : lentAt env σ b
  · rw [if_pos h] at q; exact q
  · rw [if_neg h] at q; exact I.le b o q
theorem lend_args (I : DI K G₀ H₀ env σ G H) : ∀ {vs : List V} {xs : List Val}, ArgsOk K env σ G vs xs → RepL K (lend env σ G H) (xs.map Val.d) vs
  | [], xs, h => by cases (show xs = [] from h); rfl
  | v :: vs, xs, h => by
    obtain ⟨x, r, rfl, h1, h2⟩ := h
    refine RepL.cons ?_ (lend_args I h2)
    cases x with
    | pers d => exact Rep.mono (lend_ge I) h1
    | fresh ds => exact h1.elim
    | brw i ds =>
      obtain ⟨a, rfl, e1, e2⟩ := h1
      obtain ⟨b, us, o⟩ := I.own e1
      have z := o.at_
      rw [e2] at z
      cases z
      exact ⟨a, us, rfl, by unfold lend; rw [if_pos ⟨i, ds, e1, e2⟩]; exact o.hp, o.rep.mono (lend_ge I)⟩
mutual
theorem unlend_rep (I : DI K G₀ H₀ env σ G H) {G' : Hp} (s : Same (lend env σ G H) G') : ∀ {d : D} {v : V}, noLst d = true → Rep K G' d v → Rep K (unlend env σ G') d v
  | .non, _, _, h => h
  | .bl _, _, _, h => h
  | .int _, _, _, h => h
  | .tup ds, v, n, h => by
    obtain ⟨a, vs, e, g, r⟩ := h
    refine ⟨a, vs, e, ?_, unlend_repL I s (by simpa [noLst] using n) r⟩
    unfold unlend
    by_cases hl : lentAt env σ a
    · obtain ⟨_, us, q⟩ := I.lent hl
      have z : lend env σ G H a = some (.lst us) := by unfold lend; rw [if_pos hl]; exact q
      rw [s _ _ z] at g
      cases g
    · rw [if_neg hl]; exact g
  | .lst _, _, n, _ => by simp [noLst] at n
  | .scr _, _, n, _ => by simp [noLst] at n
  | .exc _ _, _, n, _ => by simp [noLst] at n
theorem unlend_repL (I : DI K G₀ H₀ env σ G H) {G' : Hp} (s : Same (lend env σ G H) G') : ∀ {ds : List D} {vs : List V}, noLstL ds = true → RepL K G' ds vs → RepL K (unlend env σ G') ds vs
  | [], _, _, h => h
  | d :: ds, vs, n, h => by
    obtain ⟨v, r, e, h1, h2⟩ := h
    simp only [noLstL, Bool.and_eq_true] at n
    exact ⟨v, r, e, unlend_rep I s n.1 h1, unlend_repL I s n.2 h2⟩
end
end
section
variable {X : Cx} {G₀ H₀ : Hp} {k : Nat} {f : Addr} {fd : FuncData} {ps : List Str} {x : Str} {p pos : Pos} {e : Expr} {es : List Expr} {r : Ev → Out (List Val)} {m : List D → Out Val}
theorem de_call (F : FnOk X.prog X.w X.K X.mg X.base CX0 k f fd ps (spD X.K m ps.length)) (hr : Room k X.A) (hm : X.mg x = some (.ref f)) (hk : PySem.W.keepIn X.K (.ref f) = true) (hb : Binds X.K fd ps []) (ha : DA X G₀ H₀ (e :: es) r)
    (hlen : ∀ env xs, r env = .ok xs → xs.length = ps.length) (hg : Gl X x := by rfl) (hdb : (x == ("__debug__" : Str)) = false := by decide) (he : starEach (e :: es) X.env = (false, eval e X.env) :: starEach es X.env := by rfl) (hpl : (backTo pos (starEach es X.env)).any (·.1) = false := by rfl) :
    DE X G₀ H₀ (.Call (.Name x p) (e :: es) [] pos) (fCall m r) := (pe_call F hr hg hm hk hb .nil pass0 ha hdb he hpl).imp fun σ H Q q => by
  obtain ⟨env, G, val, I, e, k'⟩ := q
  obtain ⟨xs, e1, e⟩ := bind_inv e
  obtain ⟨v, e2, e⟩ := bind_inv e
  split at e
  · rename_i hc
    have ev : v = val := by cases e; rfl
    subst ev
    refine ⟨env, G, xs, I, e1, fun vs G1 H1 g1 l1 a1 => ?_⟩
    show spD X.K m ps.length (vs ++ []) H1 Q E0
    rw [List.append_nil]
    have I1 := I.grow g1 l1
    have hl : (xs.map Val.d).length = ps.length := by rw [List.length_map]; exact hlen env xs e1
    by_cases hp : xs.all Val.isPers = true
    · refine ⟨G1, _, v, hl, l1, argsRep a1 hp, e2, fun w G2 H2 g2 l2 h2 => k' w G2 H2 (g1.trans g2) l2 ?_⟩
      cases v with
      | pers d => exact h2
      | fresh ds =>
        obtain ⟨a, us, rfl, h3, h4⟩ := h2
        exact ⟨a, us, rfl, g1.h.free h3, h4⟩
      | brw i ds => obtain ⟨a, rfl, h3, _⟩ := h2; simp at h3
    · have hcv : v.calm = true := by simpa [hp] using hc
      refine ⟨lend env σ G1 H1, _, v, hl, lend_le I1, lend_args I1 a1, e2, fun w G2 H2 g2 l2 h2 => ?_⟩
      have gu : Grow G1 H1 (unlend env σ G2) H2 := by
        refine ⟨fun b o q => ?_, g2.h, fun b q1 q2 => ?_⟩
        · unfold unlend
          by_cases hl : lentAt env σ b
          · rw [(I1.lent hl).1] at q; cases q
          · rw [if_neg hl]; exact g2.g b o (lend_ge I1 b o q)
        · unfold unlend
          by_cases hl : lentAt env σ b
          · rw [if_pos hl]
          · rw [if_neg hl]
            refine g2.n b q1 ?_
            unfold lend
            rw [if_neg hl]; exact q2
      have lu : Same (unlend env σ G2) H2 := fun b o q => by
        unfold unlend at q
        by_cases hl : lentAt env σ b
        · rw [if_pos hl] at q; cases q
        · rw [if_neg hl] at q; exact l2 b o q
      refine k' w (unlend env σ G2) H2 (g1.trans gu) lu ?_
      cases v with
      | pers d => exact unlend_rep I1 g2.g hcv h2
      | fresh ds =>
        obtain ⟨a, us, rfl, h3, h4, h5, h6⟩ := h2
        refine ⟨a, us, rfl, g1.h.free h3, h4, ?_, unlend_repL I1 g2.g hcv h6⟩
        unfold unlend
        by_cases hl : lentAt env σ a
        · rw [if_pos hl]
        · rw [if_neg hl]; exact h5
      | brw i ds => cases hcv
  · cases e
end
end DL

set_option Elab.async false
set_option linter.all false
set_option maxRecDepth 100000
set_option maxHeartbeats 4000000
namespace DL
open PySem PySem.Spec PyProof.Rows L2

/-! ### a comprehension's block -/
theorem cellsFrom_app : ∀ (names : List (Str × NameKind)) (n : Nat) (acc : List (Str × Addr)), cellsFrom n names acc = cellsFrom n names [] ++ acc
  | [], n, acc => rfl
  | (x, k) :: r, n, acc => by
    unfold cellsFrom
    split
    · rw [cellsFrom_app r (n + 1) ((x, n) :: acc), cellsFrom_app r (n + 1) [(x, n)]]
      simp
    · exact cellsFrom_app r n acc
theorem cellsFrom_not : ∀ (names : List (Str × NameKind)) (n : Nat) (x : Str), (x, NameKind.cell) ∉ names → (cellsFrom n names []).lookup x = none
  | [], n, x, _ => rfl
  | (y, k) :: r, n, x, h => by
    have hr : (x, NameKind.cell) ∉ r := fun z => h (List.mem_cons_of_mem _ z)
    unfold cellsFrom
    split
    · rename_i hk
      rw [cellsFrom_app, List.lookup_append, cellsFrom_not r (n + 1) x hr]
      have hxy : (x == y) = false := by
        rw [beq_eq_false_iff_ne]
        rintro rfl
        have : k = .cell := by simpa using hk
        subst this
        exact h List.mem_cons_self
      simp [List.lookup_cons, hxy]
    · exact cellsFrom_not r n x hr
def clFrom (cells : List (Str × Addr)) : List (Str × NameKind) → List (Str × Addr) → List (Str × Addr)
  | [], acc => acc
  | (n, k) :: r, acc => if (k == .free) = true then clFrom cells r ((n, (cells.lookup n).getD 0) :: acc) else clFrom cells r acc
theorem closure_eq {env : Env} : ∀ (names : List (Str × NameKind)) (acc : List (Str × Addr)), (∀ n, (n, NameKind.free) ∈ names → ∃ c, env.cells.lookup n = some c) →
    (forIn names acc fun x r => if (x.2 == NameKind.free) = true then do let a ← cellOf env x.1; pure (ForInStep.yield ((x.1, a) :: r)) else pure (ForInStep.yield r) : Sem (List (Str × Addr))) = pure (clFrom env.cells names acc)
  | [], acc, _ => rfl
  | (n, k) :: r, acc, h => by
    have ih := fun acc => closure_eq (env := env) r acc fun m hm => h m (List.mem_cons_of_mem _ hm)
    rw [List.forIn_cons]
    unfold clFrom
    by_cases hk : (k == NameKind.free) = true
    · have : k = .free := by simpa using hk
      subst this
      obtain ⟨c, hc⟩ := h n List.mem_cons_self
      rw [if_pos hk, if_pos hk]
      unfold cellOf
      rw [hc]
      simp only [pure_bind, Option.getD_some]
      exact ih _
    · rw [if_neg hk, if_neg hk]
      simp only [pure_bind]
      exact ih _
theorem closureFor_eq {scope : Scope} {env : Env} (h : ∀ n, (n, NameKind.free) ∈ scope.names → ∃ c, env.cells.lookup n = some c) : closureFor scope env = pure (clFrom env.cells scope.names []) := by
  have := closure_eq (env := env) scope.names [] h
  unfold closureFor
  simp only [bind_pure]
  exact this
theorem clFrom_lookup {cells : List (Str × Addr)} : ∀ (names : List (Str × NameKind)) (acc : List (Str × Addr)) (x : Str) (c : Addr), (∀ n, (n, NameKind.free) ∈ names → ∃ c, cells.lookup n = some c) →
    (clFrom cells names acc).lookup x = some c → cells.lookup x = some c ∨ acc.lookup x = some c
  | [], acc, x, c, _, h => .inr h
  | (n, k) :: r, acc, x, c, hn, h => by
    have hr : ∀ m, (m, NameKind.free) ∈ r → ∃ c, cells.lookup m = some c := fun m hm => hn m (List.mem_cons_of_mem _ hm)
    unfold clFrom at h
    split at h
    · rename_i hk
      have : k = .free := by simpa using hk
      subst this
      rcases clFrom_lookup r _ x c hr h with q | q
      · exact .inl q
      · rw [List.lookup_cons] at q
        cases hx : x == n with
        | true =>
          rw [hx] at q
          obtain ⟨c', hc⟩ := hn n List.mem_cons_self
          rw [hc] at q
          cases q
          rw [beq_iff_eq.mp hx]
          exact .inl hc
        | false => rw [hx] at q; exact .inr q
    · exact clFrom_lookup r _ x c hr h
theorem clFrom_has {cells : List (Str × Addr)} : ∀ (names : List (Str × NameKind)) (acc : List (Str × Addr)) (x : Str), ((x, NameKind.free) ∈ names ∨ (acc.lookup x).isSome = true) → ((clFrom cells names acc).lookup x).isSome = true
  | [], acc, x, h => by
    rcases h with h | h
    · simp at h
    · exact h
  | (n, k) :: r, acc, x, h => by
    unfold clFrom
    split
    · refine clFrom_has r _ x ?_
      rcases h with h | h
      · rcases List.mem_cons.mp h with e | e
        · cases e
          exact .inr (by simp [List.lookup_cons])
        · exact .inl e
      · refine .inr ?_
        rw [List.lookup_cons]
        cases x == n with
        | true => rfl
        | false => exact h
    · rename_i hk
      refine clFrom_has r _ x ?_
      rcases h with h | h
      · rcases List.mem_cons.mp h with e | e
        · cases e
          exact absurd rfl hk
        · exact .inl e
      · exact .inr h
theorem relabel_lookup {env : Env} : ∀ (names : List (Str × NameKind)) (x : Str) (k : NameKind),
    (names.map fun (n, k) => if (k == NameKind.free && env.scope.kind == .function && env.kindOf n == some .cell) then (n, NameKind.cell) else (n, k)).lookup x = some k →
      names.lookup x = some k ∨ (k = .cell ∧ names.lookup x = some .free)
  | [], x, k, h => by simp at h
  | (n, j) :: r, x, k, h => by
    have ih := relabel_lookup (env := env) r x k
    rw [List.map_cons] at h
    by_cases hc : (j == NameKind.free && env.scope.kind == .function && env.kindOf n == some .cell) = true
    · simp only [hc, if_true] at h
      rw [List.lookup_cons] at h ⊢
      cases hx : x == n with
      | true =>
        rw [hx] at h
        cases h
        have : j = .free := by simp at hc; exact hc.1.1
        exact .inr ⟨rfl, by rw [this]⟩
      | false => rw [hx] at h; exact ih h
    · simp only [hc, Bool.false_eq_true, if_false] at h
      rw [List.lookup_cons] at h ⊢
      cases hx : x == n with
      | true => rw [hx] at h; exact .inl h
      | false => rw [hx] at h; exact ih h
theorem relabel_free {env : Env} : ∀ (names : List (Str × NameKind)) (x : Str), names.lookup x = some .free →
    ((names.map fun (n, k) => if (k == NameKind.free && env.scope.kind == .function && env.kindOf n == some .cell) then (n, NameKind.cell) else (n, k)).lookup x = some .cell ∨
     (names.map fun (n, k) => if (k == NameKind.free && env.scope.kind == .function && env.kindOf n == some .cell) then (n, NameKind.cell) else (n, k)).lookup x = some .free)
  | [], x, h => by simp at h
  | (n, j) :: r, x, h => by
    have ih := relabel_free (env := env) r x
    rw [List.map_cons]
    rw [List.lookup_cons] at h
    by_cases hc : (j == NameKind.free && env.scope.kind == .function && env.kindOf n == some .cell) = true
    · simp only [hc, if_true]
      rw [List.lookup_cons]
      cases hx : x == n with
      | true => exact .inl rfl
      | false => rw [hx] at h; exact ih h
    · simp only [hc, Bool.false_eq_true, if_false]
      rw [List.lookup_cons]
      cases hx : x == n with
      | true => rw [hx] at h; exact .inr h
      | false => rw [hx] at h; exact ih h

theorem wp_compEnv {M : Model} {A : Around} {E : Value → Shared → Prop} {s : Shared} {scope : Scope} {env : Env} {cl : List (Str × Addr)} {Q : Env → Shared → Prop}
    (h : Q { scope := scope, locals := s.heap.objs.size, globals := env.globals, cells := cellsFrom (s.heap.objs.size + 1) scope.names cl, qual := env.qual, func := none, code := env.code, frame := env.frame, builtins := env.builtins }
      { s with heap := pushCells (s.heap.push { cls := .type "dict", data := .dict #[] }) scope.names }) :
    wpAny M A (newFunctionEnv scope env.globals cl [] env.qual none .none (some env)) Q E s := by
  simp only [newFunctionEnv, Option.isSome_some, if_true]
  refine wpAny_bind (wpAny_alloc ?_)
  refine wpAny_bind (wpAny_layCells _ (fun name kind cells => by cases hkc : kind == NameKind.cell <;> simp [hkc]) _ _ _ _ ?_)
  rw [show ({ s with heap := s.heap.push { cls := .type "dict", data := .dict #[] } } : Shared).heap.objs.size = s.heap.objs.size + 1 from Heap.size_push ..]
  exact wpAny_bind (wpAny_pure (wpAny_pure h))

def cxComp (X : Cx) (N' : List Str) (scope : Scope) (ex : List Addr) (s : Shared) (H : Hp) : Cx :=
  { X with
    N := N'
    s₀ := s
    H₀ := H
    env := compEnvC scope (cellsFrom (s.heap.objs.size + 1) scope.names (clFrom X.env.cells scope.names [])) s.heap.objs.size X.env
    outer := X.stack
    stack := X.stack
    ex := ex
    fn := fun x => scope.names.lookup x == some .cell
    pn := []
    xe := fun _ _ => False }

/-- what of the names of a block must hold -/
structure CompOk (X : Cx) (scope : Scope) (cap : List Nat) (own : List Str) : Prop where
  kind : scope.kind = .function
  locals : ∀ x ∈ scope.names, x.2 = .local → scope.names.lookup x.1 = some .local
  nd : (scope.names.map (·.1)).Nodup
  frees : (scope.names.all fun x => x.2 != .free || (X.env.scope.names.lookup x.1 == some .cell || X.env.scope.names.lookup x.1 == some .free)) = true
  caps : (cap.all fun i => match X.N[i]? with | some x => scope.names.lookup x == some .free | none => false) = true

def capN (X : Cx) (cap : List Nat) (own : List Str) : List Str := cap.map (fun i => X.N.getD i "") ++ own
def capS (cap : List Nat) (n : Nat) (σ : St) : St := cap.map (fun i => σ.getD i none) ++ List.replicate n none
@[simp] def capE (cap : List Nat) (n : Nat) (env : Ev) : Ev := cap.map (fun i => match env[i]? with | some (.pers d) => .pers d | _ => .un) ++ List.replicate n .un
def NoOwn (env : Ev) : Prop := ∀ (i : Nat) (ds : List D), env[i]? ≠ some (.own ds)
theorem noOwn_cap (cap : List Nat) (n : Nat) (env : Ev) : NoOwn (capE cap n env) := by
  intro i ds h
  unfold capE at h
  by_cases hi : i < cap.length
  · rw [List.getElem?_append_left (by simpa using hi), List.getElem?_map, List.getElem?_eq_getElem hi] at h
    simp only [Option.map_some] at h
    split at h <;> cases h
  · rw [List.getElem?_append_right (by simpa using hi), List.getElem?_replicate] at h
    split at h <;> cases h
theorem cap_DI {K : PySem.W.Frag} {G₀ H₀ G H : Hp} {env : Ev} {σ : St} (I : DI K G₀ H₀ env σ G H) (cap : List Nat) (n : Nat) : DI K G₀ H₀ (capE cap n env) (capS cap n σ) G H where
  le := I.le
  gr := I.gr
  len := by simp [capE, capS]
  slot := fun i s e => by
    cases s with
    | un => trivial
    | own ds => exact absurd e (noOwn_cap cap n env i ds)
    | pers d =>
      unfold capE at e
      by_cases hi : i < cap.length
      · rw [List.getElem?_append_left (by simpa using hi), List.getElem?_map, List.getElem?_eq_getElem hi] at e
        simp only [Option.map_some] at e
        split at e
        · rename_i d' hd
          cases e
          obtain ⟨v, h1, h2⟩ := I.pers hd
          refine ⟨v, ?_, h2⟩
          unfold capS
          rw [List.getElem?_append_left (by simpa using hi), List.getElem?_map, List.getElem?_eq_getElem hi]
          simp [List.getD_eq_getElem?_getD, h1]
        · cases e
      · rw [List.getElem?_append_right (by simpa using hi), List.getElem?_replicate] at e
        split at e <;> cases e
  apart := fun i j ds es a _ e _ _ _ => noOwn_cap cap n env i ds e

section
variable {X : Cx} {pins : List (Addr × Obj)} {σ : St} {H : Hp} {s : Shared} {scope : Scope} {cap : List Nat} {own : List Str}
theorem CompOk.free (C : CompOk X scope cap own) {n : Str} (h : (n, NameKind.free) ∈ scope.names) : X.env.kindOf n = some .cell ∨ X.env.kindOf n = some .free := by
  have q := List.all_eq_true.mp C.frees _ h
  simp at q
  exact q
theorem CompOk.cells (C : CompOk X scope cap own) (I : Inv X pins σ H s) : ∀ n, (n, NameKind.free) ∈ scope.names → ∃ c, X.env.cells.lookup n = some c := fun n h => I.ok.has n (C.free h)
/-- the block begins -/
theorem comp_inv {fp : List Addr} (C : CompOk X scope cap own) (I : Inv X pins σ H s) (hf : ∀ b ∈ fp, FpOk X pins H b) (hex : ∀ b ∈ fp, b < s.heap.objs.size) :
    Inv (cxComp X (capN X cap own) scope fp s H) [] (capS cap own.length σ) H { s with heap := pushCells (s.heap.push { cls := .type "dict", data := .dict #[] }) scope.names } := by
  have hcl := C.cells I
  have keep : ∀ b o, s.heap.get? b = some o → (pushCells (s.heap.push { cls := .type "dict", data := .dict #[] }) scope.names).get? b = some o := fun b o e => pushCells_keeps _ _ b o (Heap.get?_push_of_some _ e)
  have ok := cellsFrom_ok scope.names (s.heap.push { cls := .type "dict", data := .dict #[] }) (s.heap.objs.size + 1) [] ⟨fun _ _ hm => (nomatch hm), List.Pairwise.nil⟩ (by rw [Heap.size_push]; exact Nat.le_refl _)
  rw [Heap.size_push] at ok
  -- a cell of the block: its own, or one of the frame's
  have cases_cell : ∀ x c, (cellsFrom (s.heap.objs.size + 1) scope.names (clFrom X.env.cells scope.names [])).lookup x = some c →
      ((cellsFrom (s.heap.objs.size + 1) scope.names []).lookup x = some c) ∨ ((cellsFrom (s.heap.objs.size + 1) scope.names []).lookup x = none ∧ X.env.cells.lookup x = some c) := fun x c h => by
    rw [cellsFrom_app, List.lookup_append] at h
    cases q : (cellsFrom (s.heap.objs.size + 1) scope.names []).lookup x with
    | some c' => rw [q] at h; exact .inl h
    | none =>
      rw [q] at h
      simp at h
      rcases clFrom_lookup scope.names [] x c hcl h with z | z
      · exact .inr ⟨rfl, z⟩
      · simp at z
  have ownC : ∀ x c, (cellsFrom (s.heap.objs.size + 1) scope.names []).lookup x = some c → (pushCells (s.heap.push { cls := .type "dict", data := .dict #[] }) scope.names).IsCell c none ∧ s.heap.objs.size + 1 ≤ c := fun x c h => ok.empty x c (PySem.mem_of_lookup h)
  have oldC : ∀ x c, X.env.cells.lookup x = some c → c < s.heap.objs.size := fun x c h => let ⟨_, z⟩ := I.cell x c h; z.lt
  have kindX : ∀ x, (compEnvC scope (cellsFrom (s.heap.objs.size + 1) scope.names (clFrom X.env.cells scope.names [])) s.heap.objs.size X.env).kindOf x = (relabel scope X.env).names.lookup x := fun _ => rfl
  refine ⟨⟨I.ok.mod, C.kind, I.ok.glob, I.ok.blt, Nat.le_refl _, fun x y c h1 h2 => ?_, fun x hx => ?_, fun x c hx h => ?_, I.ok.hd, I.ok.frames, .inl rfl, fun b hb => ?_, I.bs, Nat.le_trans I.ok.bsz I.sz, fun b o e hb => ?_, fun b hb hs => ?_, I.stack, I.stkFree⟩,
    rfl, I.bare, Un.kept keep, ⟨_, (Heap.Ns.new s.heap (.type "dict")).keeps (pushCells_keeps _ _), fun i x v e1 e2 e3 => ?_⟩, fun x c h => ?_, I.hok.fresh (Nat.le_refl _), fun x c h => ?_, fun p hp => absurd (show p ∈ ([] : List (Addr × Obj)) from hp) (by simp), I.hok.kept keep, ?_⟩
  · rcases cases_cell x c h1 with z1 | ⟨_, z1⟩
    · rcases cases_cell y c h2 with z2 | ⟨_, z2⟩
      · exact name_of_addr ok.apart (PySem.mem_of_lookup z1) (PySem.mem_of_lookup z2)
      · exact absurd (Nat.lt_of_lt_of_le (Nat.lt_succ_of_lt (oldC y c z2)) (ownC x c z1).2) (Nat.lt_irrefl _)
    · rcases cases_cell y c h2 with z2 | ⟨_, z2⟩
      · exact absurd (Nat.lt_of_lt_of_le (Nat.lt_succ_of_lt (oldC x c z1)) (ownC y c z2).2) (Nat.lt_irrefl _)
      · exact I.ok.inj x y c z1 z2
  · show ∃ c, (cellsFrom (s.heap.objs.size + 1) scope.names (clFrom X.env.cells scope.names [])).lookup x = some c
    rw [cellsFrom_app, List.lookup_append]
    cases q : (cellsFrom (s.heap.objs.size + 1) scope.names []).lookup x with
    | some c' => exact ⟨c', rfl⟩
    | none =>
      have fr : scope.names.lookup x = some .free → ∃ c, (none.or ((clFrom X.env.cells scope.names []).lookup x)) = some c := fun z => by
        have := clFrom_has (cells := X.env.cells) scope.names [] x (.inl (PySem.mem_of_lookup z))
        exact Option.isSome_iff_exists.mp (by simpa using this)
      have hx' : (relabel scope X.env).names.lookup x = some .cell ∨ (relabel scope X.env).names.lookup x = some .free := hx
      rcases hx' with z | z
      · rcases relabel_lookup scope.names x .cell z with z | ⟨_, z⟩
        · obtain ⟨c, z2⟩ := cell_has (n := s.heap.objs.size + 1) (sc := scope) z
          rw [z2] at q; cases q
        · exact fr z
      · rcases relabel_lookup scope.names x .free z with z | ⟨z, _⟩
        · exact fr z
        · cases z
  · have hx' : scope.names.lookup x = some .cell := by simpa using (show (scope.names.lookup x == some .cell) = true from hx)
    rcases cases_cell x c h with z | ⟨z, _⟩
    · exact Nat.le_of_lt (ownC x c z).2
    · obtain ⟨c', z2⟩ := cell_has (n := s.heap.objs.size + 1) (sc := scope) hx'
      rw [z2] at z; cases z
  · refine ⟨Nat.ne_of_lt (hex b hb), fun x c h z => ?_⟩
    rcases cases_cell x c h with q | ⟨_, q⟩
    · exact absurd (Nat.lt_of_lt_of_le (Nat.lt_succ_of_lt (hex b hb)) (z ▸ (ownC x c q).2)) (Nat.lt_irrefl _)
    · exact (hf b hb).2.2.2.2.1 x c q z
  · rcases (hf b hb).2.2.2.1 with z | z
    · exact I.ok.noex b o e z
    · exact absurd (Nat.lt_of_lt_of_le (Heap.lt_size e) (Nat.le_trans I.ok.bsz z)) (Nat.lt_irrefl _)
  · rcases List.mem_cons.mp (I.stkSub b hs) with z | z
    · exact (hf b hb).2.1 z
    · exact (hf b hb).2.2.1 z
  · -- a name that the block sees
    have e1' : (capN X cap own)[i]? = some x := e1
    unfold capN at e1'
    unfold capS at e2
    by_cases hi : i < cap.length
    · rw [List.getElem?_append_left (by simpa using hi), List.getElem?_map, List.getElem?_eq_getElem hi] at e1' e2
      simp only [Option.map_some, Option.some.injEq] at e1' e2
      have hcap := List.all_eq_true.mp C.caps cap[i] (List.getElem_mem hi)
      cases q : X.N[cap[i]]? with
      | none => rw [q] at hcap; cases hcap
      | some y =>
        rw [q] at hcap
        have hy : scope.names.lookup y = some .free := by simpa using hcap
        have hxy : x = y := by rw [← e1', List.getD_eq_getElem?_getD, q]; rfl
        subst hxy
        have hs : σ[cap[i]]? = some (some v) := by
          rw [List.getD_eq_getElem?_getD] at e2
          cases z : σ[cap[i]]? with
          | none => rw [z] at e2; cases e2
          | some w => rw [z] at e2; simp at e2; rw [e2]
        have hk := C.free (PySem.mem_of_lookup hy)
        obtain ⟨m, hn, hl⟩ := I.loc
        obtain ⟨u, ru, lk⟩ := hl cap[i] x v q hs (hk.elim (fun z => .inr (.inl z)) fun z => .inr (.inr z))
        refine ⟨u, ru, .inr ⟨?_, ?_⟩⟩
        · exact relabel_free scope.names x hy
        · rcases lk with ⟨z, _⟩ | ⟨_, c, hc, hcell⟩
          · rcases hk with z' | z' <;> (rw [z] at z'; cases z')
          · refine ⟨c, ?_, hcell.keeps keep⟩
            show (cellsFrom (s.heap.objs.size + 1) scope.names (clFrom X.env.cells scope.names [])).lookup x = some c
            rw [cellsFrom_app, List.lookup_append]
            have hno : (cellsFrom (s.heap.objs.size + 1) scope.names []).lookup x = none := cellsFrom_not _ _ _ fun hm => by
              have m1 := PySem.mem_of_lookup hy
              have := C.nd
              rw [List.nodup_iff_pairwise_ne, List.pairwise_map] at this
              have := List.Pairwise.forall_of_forall_of_flip (R := fun a b : Str × NameKind => a.1 ≠ b.1 ∨ a = b) (l := scope.names) (fun _ _ => .inr rfl) (this.imp fun h => .inl h) (this.imp fun h => .inl h.symm)
              rcases this m1 hm with z | z
              · exact z rfl
              · cases z
            rw [hno]
            have hsome := clFrom_has (cells := X.env.cells) scope.names [] x (.inl (PySem.mem_of_lookup hy))
            obtain ⟨c', hc'⟩ := Option.isSome_iff_exists.mp hsome
            rcases clFrom_lookup scope.names [] x c' hcl hc' with z | z
            · rw [hc] at z; cases z; simpa using hc'
            · simp at z
    · rw [List.getElem?_append_right (by simpa using hi), List.getElem?_replicate] at e2
      split at e2 <;> cases e2
  · rcases cases_cell x c h with z | ⟨_, z⟩
    · exact ⟨_, (ownC x c z).1⟩
    · obtain ⟨v, q⟩ := I.cell x c z
      exact ⟨v, q.keeps keep⟩
  · rcases cases_cell x c h with z | ⟨_, z⟩
    · exact I.hok.fresh (Nat.le_of_lt (ownC x c z).2)
    · exact I.freeC x c z
  · show (capS cap own.length σ).length = (capN X cap own).length
    simp [capS, capN]
end
end DL

set_option Elab.async false
set_option linter.all false
set_option maxRecDepth 100000
set_option maxHeartbeats 4000000
namespace DL
open PySem PySem.Spec PyProof.Rows L2

theorem compLoop_any {prog : Program} {w : World} {A : Around} {R : Result → Shared → Prop} {s : Shared} {elt target iter : Expr} {ifs : List Expr} {scope : Scope} {pos : Pos} {it acc : Value} {env : Env} (I : Nat → Shared → Prop)
    (turn : ∀ n s, I n s → wpAny (model prog w) A (pyNext it) (fun r s₁ => match r with
      | none => R (.ok .next) s₁
      | some v => wpAny (model prog w) A (letOwnedTupleGo target it v) (fun _ s₁' => wpAny (model prog w) A (assign target env v) (fun _ s₂ =>
          wpAny (model prog w) A (forIn ifs true fun c r => if r = true then do let ok ← isTrue c env (eval c env); pure (ForInStep.yield ok) else pure (ForInStep.yield r)) (fun ok s₃ =>
            if ok = true then wpAny (model prog w) A (eval elt env) (fun x s₄ =>
              wpAny (model prog w) A (call (.builtin "list.append") [acc, x]) (fun _ s₅ => ∃ m, m < n ∧ I m s₅) (fun _ _ => False) s₄) (fun _ _ => False) s₃
            else ∃ m, m < n ∧ I m s₃) (fun _ _ => False) s₂) (fun _ _ => False) s₁') (fun _ _ => False) s₁) (fun _ _ => False) s)
    (n : Nat) (h : I n s) :
    codeAny (model prog w) A (.compLoop (.ListComp elt [⟨target, iter, ifs, 0⟩] scope pos) 0 it acc env) R s := by
  refine codeAny_loop rfl I (fun n s hI => ?_) n h
  show wpAny _ A ((compTurn (.ListComp elt [⟨target, iter, ifs, 0⟩] scope pos) 0 it acc env).onRaise (fun x => do noteFrame x env; theTreesLotGoes x)) _ _ s
  refine wpAny_noted ?_
  rw [compTurn_list]
  refine wpAny_bind (wpAny_standAt (wpAny_bind (wpAny_mono (turn n s hI) (fun r s₁ h₁ => ?_) fun _ _ h' => h'.elim)))
  cases r with
  | none => exact wpAny_pure h₁
  | some v =>
    refine wpAny_bind (wpAny_mono h₁ (fun _ s₁' h₁' => ?_) fun _ _ h' => h'.elim)
    refine wpAny_bind (wpAny_mono h₁' (fun _ s₂ h₂ => wpAny_bind (wpAny_mono h₂ (fun ok s₃ h₃ => ?_) fun _ _ h' => h'.elim)) fun _ _ h' => h'.elim)
    cases ok with
    | false => exact wpAny_pure ⟨rfl, h₃⟩
    | true =>
      exact wpAny_bind (wpAny_bind (wpAny_mono h₃ (fun x s₄ h₄ => wpAny_bind (wpAny_mono h₄ (fun _ s₅ h₅ => wpAny_pure (wpAny_pure ⟨rfl, h₅⟩)) fun _ _ h' => h'.elim)) fun _ _ h' => h'.elim))

def compD (g : D → Ev → Out Ev) (ft : FT) (fe : FE) : List D → Ev → Out (List D)
  | [], _ => .ok []
  | d :: ds, env => (g d env).bind fun env1 => (ft env1).bind fun c => if c = true then (fe env1).bind fun x => x.hold.bind fun y => (compD g ft fe ds env1).bind fun r => .ok (y :: r) else compD g ft fe ds env1
@[simp] def fComp (cap : List Nat) (n : Nat) (fi : FI) (g : D → Ev → Out Ev) (ft : FT) (fe : FE) : FE := fun env => (fi env).bind fun ds => if ds.length ≤ 100000 then (compD g ft fe ds (capE cap n env)).bind fun out => .ok (.fresh out) else .bad
theorem compD_len {g : D → Ev → Out Ev} {ft : FT} {fe : FE} : ∀ {ds : List D} {env : Ev} {out : List D}, compD g ft fe ds env = .ok out → out.length ≤ ds.length
  | [], _, out, h => by cases h; simp
  | d :: ds, env, out, h => by
    obtain ⟨env1, _, h⟩ := bind_inv h
    obtain ⟨c, _, h⟩ := bind_inv h
    cases c with
    | true =>
      rw [if_pos rfl] at h
      obtain ⟨x, _, h⟩ := bind_inv h
      obtain ⟨y, _, h⟩ := bind_inv h
      obtain ⟨r, hr, h⟩ := bind_inv h
      cases h
      have := compD_len hr
      simp; omega
    | false =>
      rw [if_neg Bool.false_ne_true] at h
      have := compD_len h
      simp; omega
/-- the tests of a block -/
def DTs (X : Cx) (G₀ H₀ : Hp) (ifs : List Expr) (ft : FT) : Prop := ∀ (pins : List (Addr × Obj)) (s : Shared) (σ : St) (H : Hp) (Q : Bool → Hp → Prop), Inv X pins σ H s → tT X.K G₀ H₀ ft σ H Q →
  wpAny (model X.prog X.w) X.A (forIn ifs true fun c r => if r = true then do let ok ← isTrue c X.env (eval c X.env); pure (ForInStep.yield ok) else pure (ForInStep.yield r)) (TP X pins σ Q) X.xe s
@[simp] def fYes : FT := fun _ => .ok true
theorem dts_nil {X : Cx} {G₀ H₀ : Hp} : DTs X G₀ H₀ [] fYes := fun pins s σ H Q I q => wpAny_tests_nil (by
  obtain ⟨env, G, b, J, e, k⟩ := q
  cases e
  exact ⟨H, I, k G H (Grow.refl _ _) J.le⟩)
theorem dts_one {X : Cx} {G₀ H₀ : Hp} {c : Expr} {ft : FT} (h : DT X G₀ H₀ c ft) : DTs X G₀ H₀ [c] ft := fun pins s σ H Q I q => wpAny_tests_one (h pins s σ H Q I q)
/-- a target that stores only what stays -/
def Calm (g : D → Ev → Out Ev) : Prop := ∀ d env env', g d env = .ok env' → NoOwn env → NoOwn env'
theorem NoOwn.set {env : Ev} (h : NoOwn env) (i : Nat) (d : D) : NoOwn (env.set i (.pers d)) := fun j ds e => by
  by_cases hj : i = j
  · subst hj; cases (getSet_eq e).1
  · rw [List.getElem?_set_ne hj] at e; exact h j ds e
theorem calm_name (i : Nat) : Calm (gN i) := fun d env env' e h => by cases e; exact h.set i d
theorem NoOwn.setAll : ∀ (is : List Nat) (ds : List D) {env : Ev}, NoOwn env → NoOwn (setAll is ds env)
  | [], _, _, h => h
  | _ :: _, [], _, h => h
  | i :: is, d :: ds, env, h => NoOwn.setAll is ds (h.set i d)
theorem calm_tup (is : List Nat) : Calm (gT is) := fun d env env' e h => by
  unfold gT at e
  split at e
  · split at e
    · cases e; exact NoOwn.setAll is _ h
    · cases e
  · cases e
theorem DI.other {K : PySem.W.Frag} {G₀ H₀ G H : Hp} {env : Ev} {σ : St} (I : DI K G₀ H₀ env σ G H) (h : NoOwn env) {p : Addr} {o : HO} (hg : G p = none) (h0 : H₀ p = none) : DI K G₀ H₀ env σ G (upd H p o) where
  le := fun b u q => by rw [upd_ne (ne_of_none q hg)]; exact I.le b u q
  gr := ⟨I.gr.g, fun b u q => by rw [upd_ne (ne_of_none q h0)]; exact I.gr.h b u q, I.gr.n⟩
  len := I.len
  slot := fun i s e => by
    cases s with
    | un => trivial
    | pers d => exact I.slot i _ e
    | own ds => exact absurd e (h i ds)
  apart := I.apart

section
variable {X : Cx} {G₀ H₀ : Hp} {elt iter tg : Expr} {ifs : List Expr} {scope : Scope} {pos : Pos} {fi : FI} {g : D → Ev → Out Ev} {ft : FT} {fe : FE} {cap : List Nat} {own : List Str}
/-- the block, whatever is done with its list -/
theorem comp_block (C : CompOk X scope cap own) (hc : X.calm = true)
    (hg : ∀ ex s H, DG (cxComp X (capN X cap own) scope ex s H) G₀ H₀ tg g) (hgc : Calm g) (ht : ∀ ex s H, DTs (cxComp X (capN X cap own) scope ex s H) G₀ H₀ ifs ft) (he : ∀ ex s H, DE (cxComp X (capN X cap own) scope ex s H) G₀ H₀ elt fe)
    {pins : List (Addr × Obj)} {σ : St} {H2 G2 : Hp} {s2 : Shared} {env : Ev} {it : Addr} {fp : List Addr} {tn : Nat → Heap → Prop} {J : It} {ds out : List D}
    (I2 : Inv X pins σ H2 s2) (D2 : DI X.K G₀ H₀ env σ G2 H2) (T : Turn X.prog X.w X.K tg J fp it tn) (st2 : tn 0 s2.heap) (f2 : ∀ b ∈ fp, FpOk X pins H2 b) (jok : JOk X.K J G2 ds) (hz : ds.length ≤ 100000)
    (e : compD g ft fe ds (capE cap own.length env) = .ok out) {RR : Value → Addr → Result → Shared → Prop} {E : Value → Shared → Prop}
    (fin : ∀ (D C : Addr) (vs : List V) (G' H' : Hp) (s' : Shared), s2.heap.get? C = none → H2 D = none → H' D = some (.lst vs) → G' D = none → RepL X.K G' out vs → Grow G2 H2 G' H' → Same G' H' →
      (∃ m, s'.heap.Ns C m) → (∀ h', Heap.SameBut C s'.heap h' → Inv X pins σ H' { s' with heap := h' }) → RR (.ref D) C (.ok .next) s') :
    wpAny (model X.prog X.w) X.A (newList []) (fun acc s₃ => wpAny (model X.prog X.w) X.A (newFunctionEnv scope X.env.globals (clFrom X.env.cells scope.names []) [] X.env.qual none .none (some X.env)) (fun cenv s₄ =>
      codeAny (model X.prog X.w) X.A (.compStart (.ListComp elt [⟨tg, iter, ifs, 0⟩] scope pos) 0 (.ref it) acc { cenv with scope := relabel scope X.env }) (RR acc cenv.locals) s₄) E s₃) E s2 := by
  have hlt : ∀ b ∈ fp, b < s2.heap.objs.size := fun b hb => let ⟨o, eo, _⟩ := T.obj _ _ st2 b hb; Heap.lt_size eo
  refine wpAny_newObj_type (wp_compEnv ?_)
  dsimp only
  generalize hD : s2.heap.objs.size = D
  have fD : H2 D = none := by rw [← hD]; exact I2.fresh
  have I3 : Inv X pins σ (upd H2 D (.lst [])) { s2 with heap := s2.heap.push { cls := .type "list", data := .seq ([] : List Value).toArray } } := by
    have := I2.lnew (t' := s2.toks) (ys := []) (its := []) .nil (Nat.zero_le _)
    rw [hD] at this
    exact this
  generalize hs3 : ({ s2 with heap := s2.heap.push { cls := .type "list", data := .seq ([] : List Value).toArray } } : Shared) = s3 at I3
  have hs3' : s3.heap = s2.heap.push { cls := .type "list", data := .seq ([] : List Value).toArray } := by rw [← hs3]
  have f3 : ∀ b ∈ fp, FpOk X pins (upd H2 D (.lst [])) b := fun b hb => ⟨by rw [upd_ne (by rw [← hD]; exact Nat.ne_of_lt (hlt b hb))]; exact (f2 b hb).1, (f2 b hb).2⟩
  have hlt3 : ∀ b ∈ fp, b < s3.heap.objs.size := fun b hb => by rw [hs3', Heap.size_push]; exact Nat.lt_succ_of_lt (hlt b hb)
  have I4 := comp_inv C I3 f3 hlt3
  have st4 : tn 0 (pushCells (s3.heap.push { cls := .type "dict", data := .dict #[] }) scope.names) := T.keep _ _ _ st2 fun b hb o eo => pushCells_keeps _ _ b o (Heap.get?_push_of_some _ (by rw [hs3']; exact Heap.get?_push_of_some _ eo))
  have g3 : Grow G2 H2 G2 (upd H2 D (.lst [])) ∧ Same G2 (upd H2 D (.lst [])) := Grow.laidL D2.le fD
  have D4 : DI X.K G₀ H₀ (capE cap own.length env) (capS cap own.length σ) G2 (upd H2 D (.lst [])) := cap_DI (D2.grow g3.1 g3.2) cap own.length
  have stat : ∀ {H' : Hp}, (∀ b ∈ fp, H' b = none) → ∀ b ∈ fp, FpOk (cxComp X (capN X cap own) scope fp s3 (upd H2 D (.lst []))) [] H' b := fun {H'} hn b hb =>
    ⟨hn b hb, (I4.ok.exf b hb).1, I4.ok.exfs b hb, .inl hb, (I4.ok.exf b hb).2, fun p hp => absurd (show p ∈ ([] : List (Addr × Obj)) from hp) (by simp)⟩
  have hG2D : G2 D = none := D2.le.free fD
  have h0D : H₀ D = none := D2.gr.h.free fD
  have loop : ∀ s4 : Shared, s4 = { s3 with heap := pushCells (s3.heap.push { cls := .type "dict", data := .dict #[] }) scope.names } →
      codeAny (model X.prog X.w) X.A (.compLoop (.ListComp elt [⟨tg, iter, ifs, 0⟩] scope pos) 0 (.ref it) (.ref D) (cxComp X (capN X cap own) scope fp s3 (upd H2 D (.lst []))).env) (RR (.ref D) s3.heap.objs.size) s4 := by
    rintro s4 rfl
    refine compLoop_any (fun k s' => ∃ i σ' H' G' env' accD accV rest, k = ds.length + 1 - i ∧ i ≤ ds.length ∧ Inv (cxComp X (capN X cap own) scope fp s3 (upd H2 D (.lst []))) [] σ' H' s' ∧ tn i s'.heap ∧ (∀ b ∈ fp, H' b = none) ∧
      DI X.K G₀ H₀ env' σ' G' H' ∧ NoOwn env' ∧ Grow G2 H2 G' H' ∧ H' D = some (.lst accV) ∧ G' D = none ∧ RepL X.K G' accD accV ∧ accD.length ≤ i ∧ compD g ft fe (ds.drop i) env' = .ok rest ∧ out = accD ++ rest) ?_ (ds.length + 1)
      ⟨0, _, _, G2, _, [], [], out, rfl, Nat.zero_le _, I4, st4, fun b hb => (f3 b hb).1, D4, noOwn_cap _ _ _, g3.1, upd_same, hG2D, RepL.nil, Nat.zero_le _, by simpa using e, rfl⟩
    rintro k s5 ⟨i, σ5, H5, G5, env5, accD, accV, rest, rfl, hi, I5, st5, fr5, D5, no5, gr5, hD5, gD5, ra5, la5, e5, eo⟩
    by_cases hlt5 : i < ds.length
    · have hd : ds.drop i = ds[i] :: ds.drop (i + 1) := List.drop_eq_getElem_cons hlt5
      rw [hd] at e5
      obtain ⟨env6, e6, e5⟩ := bind_inv e5
      obtain ⟨c, e7, e5⟩ := bind_inv e5
      refine thn (T.item (cxComp X (capN X cap own) scope fp s3 (upd H2 D (.lst []))) rfl rfl rfl hc i [] s5 σ5 H5 (fun _ _ => False) I5 (stat fr5) st5 (jok.go i G5 H5 gr5.g D5.le hlt5)) fun r s6 ⟨u, hr, h6⟩ => ?_
      subst hr
      refine thn h6 fun _ s7 ⟨x, H7, I7, r7, y7, st7, fr7⟩ => ?_
      obtain ⟨d, G7, hd7, g7, l7, rx7⟩ := jok.yld i G5 H5 x H7 gr5.g D5.le hlt5 y7
      have hde : d = ds[i] := by rw [List.getElem?_eq_getElem hlt5] at hd7; exact (Option.some.inj hd7).symm
      subst hde
      have D7 := D5.grow g7 l7
      have I7' := I7.pinned (stat fr7) (T.obj _ _ st7)
      refine thn (hg fp s3 (upd H2 D (.lst [])) _ s7 σ5 H7 x u (fun σ8 H8 => H8 = H7 ∧ DI X.K G₀ H₀ env6 σ8 G7 H7) I7' r7 ⟨env5, G7, _, env6, D7, rx7, e6, fun σ8 D8 => ⟨rfl, D8⟩⟩) fun _ s8 ⟨σ8, H8, I8, hH8, D8⟩ => ?_
      subst hH8
      have no8 : NoOwn env6 := hgc _ _ _ e6 no5
      have hD7 : H8 D = some (.lst accV) := g7.h _ _ hD5
      have gD7 : G7 D = none := g7.n D (by rw [hD5]; simp) gD5
      refine thn (ht fp s3 (upd H2 D (.lst [])) _ s8 σ8 H8 (fun b H9 => b = c ∧ ∃ G9, Grow G7 H8 G9 H9 ∧ Same G9 H9) I8 ⟨env6, G7, c, D8, e7, fun G9 H9 g9 l9 => ⟨rfl, G9, g9, l9⟩⟩) fun ok s9 ⟨H9, I9, hok, G9, g9, l9⟩ => ?_
      subst hok
      have D9 := D8.grow g9 l9
      have back : ∀ {s10 : Shared} {σ10 : St} {H10 : Hp}, Inv (cxComp X (capN X cap own) scope fp s3 (upd H2 D (.lst []))) ([] ++ pinsAt fp s7.heap) σ10 H10 s10 →
          Inv (cxComp X (capN X cap own) scope fp s3 (upd H2 D (.lst []))) [] σ10 H10 s10 ∧ tn (i + 1) s10.heap ∧ (∀ b ∈ fp, H10 b = none) := fun {s10 σ10 H10} I10 => by
        refine ⟨I10.unpinned, T.keep _ _ _ st7 fun b hb o eb => (I10.pin (b, o) (List.mem_append_right _ (List.mem_append_right _ (mem_pinsAt hb eb)))).1, fun b hb => ?_⟩
        obtain ⟨o, eb, d⟩ := T.obj _ _ st7 b hb
        exact (I10.pin (b, o) (List.mem_append_right _ (List.mem_append_right _ (mem_pinsAt hb eb)))).2.1
      have gr9 : Grow G2 H2 G9 H9 := (gr5.trans g7).trans g9
      cases ok with
      | false =>
        rw [if_neg Bool.false_ne_true] at e5 ⊢
        obtain ⟨I10, st10, fr10⟩ := back I9
        exact ⟨ds.length + 1 - (i + 1), by omega, i + 1, σ8, H9, G9, env6, accD, accV, rest, rfl, hlt5, I10, st10, fr10, D9, no8, gr9, g9.h _ _ hD7, g9.n D (by rw [hD7]; simp) gD7, (ra5.mono g7.g).mono g9.g, by omega, e5, eo⟩
      | true =>
        rw [if_pos rfl] at e5 ⊢
        obtain ⟨xv, e8, e5⟩ := bind_inv e5
        obtain ⟨y, e9, e5⟩ := bind_inv e5
        obtain ⟨rest', e10, e5⟩ := bind_inv e5
        cases e5
        refine thn (he fp s3 (upd H2 D (.lst [])) _ s9 σ8 H9 (fun v H10 => ∃ G10, Grow G9 H9 G10 H10 ∧ Same G10 H10 ∧ Rep X.K G10 y v) I9 ⟨env6, G9, xv, D9, e8, fun v G10 H10 g10 l10 h10 => held g10 l10 h10 e9⟩) fun u10 s10 ⟨v10, H10, I10, r10, G10, g10, l10, rep10⟩ => ?_
        have D10 := D9.grow g10 l10
        have hD10 : H10 D = some (.lst accV) := g10.h _ _ (g9.h _ _ hD7)
        have gD10 : G10 D = none := g10.n D (by rw [g9.h _ _ hD7]; simp) (g9.n D (by rw [hD7]; simp) gD7)
        have ra10 := ((ra5.mono g7.g).mono g9.g).mono g10.g
        refine thn (mt_append (X := cxComp X (capN X cap own) scope fp s3 (upd H2 D (.lst []))) _ s10 σ8 H10 (.ref D) [v10] (.ref D) [u10] (fun _ H11 => H11 = upd H10 D (.lst (accV ++ [v10]))) I10 rfl (.cons r10 .nil)
          ⟨D, accV, v10, rfl, rfl, hD10, by rw [← ra10.length, sizeLine_eq]; omega, rfl⟩) fun _ s11 ⟨_, H11, I11, _, hH11⟩ => ?_
        subst hH11
        obtain ⟨I12, st12, fr12⟩ := back I11
        have gr10 : Grow G2 H2 G10 (upd H10 D (.lst (accV ++ [v10]))) := by
          have q := gr9.trans g10
          exact ⟨q.g, fun b o z => by rw [upd_ne (ne_of_none z fD)]; exact q.h b o z, q.n⟩
        exact ⟨ds.length + 1 - (i + 1), by omega, i + 1, σ8, _, G10, env6, accD ++ [y], accV ++ [v10], rest', rfl, hlt5, I12, st12, fr12, D10.other no8 gD10 h0D, no8, gr10, upd_same, gD10, ra10.append (RepL.cons rep10 RepL.nil), by simp; omega, e10, by rw [eo]; simp⟩
    · have hi5 : i = ds.length := by omega
      subst hi5
      refine thn (T.done (cxComp X (capN X cap own) scope fp s3 (upd H2 D (.lst []))) rfl rfl rfl hc _ [] s5 σ5 H5 (fun _ _ => False) I5 (stat fr5) st5 (jok.stop _ G5 H5 gr5.g D5.le (Nat.le_refl _))) fun r s6 ⟨hr, I6⟩ => ?_
      subst hr
      rw [List.drop_length] at e5
      cases e5
      have eo' : out = accD := by rw [eo]; simp
      refine fin D s3.heap.objs.size accV G5 H5 s6 ?_ fD hD5 gD5 (by rw [eo']; exact ra5) gr5 D5.le ?_ fun h' sb => ?_
      · exact Heap.get?_none_of_le (by rw [hs3', Heap.size_push]; exact Nat.le_succ _)
      · obtain ⟨m, hm, _⟩ := I6.loc
        exact ⟨m, hm⟩
      · have ne : ∀ b o, s3.heap.get? b = some o → b ≠ s3.heap.objs.size := fun b o eb => Nat.ne_of_lt (Heap.lt_size eb)
        have frC : H5 s3.heap.objs.size = none := I6.free
        have up : ∀ b o, b ≠ s3.heap.objs.size → s6.heap.get? b = some o → h'.get? b = some o := fun b o hb eb => sb.extBut b o hb eb
        have ub := I6.base
        have U : Un (frs X.stack) fp (upd H2 D (.lst [])) H5 s3.heap h' :=
          ⟨fun b o eb n hb hx => up b o (ne b o eb) (ub.keep b o eb n hb hx), fun b o eb n hb hx => let ⟨sl, q⟩ := ub.slot b o eb n hb hx; ⟨sl, up b _ (ne b o eb) q⟩, ub.free, fun b o eb hx => let ⟨o', q⟩ := ub.there b o eb hx; ⟨o', up b _ (ne b o eb) q⟩, ub.tups, ub.frzs, ub.tbls⟩
        have hok : HOk X.prog X.w H5 h' := fun b u eb => (I6.hok b u eb).stay (fun c v hc' q => up c v (by
          rcases hc' with rfl | hc'
          · intro z; rw [z, frC] at eb; cases eb
          · intro z; rw [z, frC] at hc'; cases hc') q) (fun _ q => q) fun _ _ q => q
        exact I3.call' (s' := { s6 with heap := h' }) I6.os U hok I6.bare fun b hb => let ⟨a0, a1, a2, a3, a4, a5⟩ := f3 b hb; ⟨a3, a1, a4, a5⟩
  subst hs3
  exact codeAny_compStart_list (loop _ rfl) (T.self _ 0 _ _ _ st4 (loop _ rfl))

theorem de_comp (C : CompOk X scope cap own) (hi : DIt X G₀ H₀ tg iter fi)
    (hg : ∀ ex s H, DG (cxComp X (capN X cap own) scope ex s H) G₀ H₀ tg g) (hgc : Calm g) (ht : ∀ ex s H, DTs (cxComp X (capN X cap own) scope ex s H) G₀ H₀ ifs ft) (he : ∀ ex s H, DE (cxComp X (capN X cap own) scope ex s H) G₀ H₀ elt fe)
    (hc : X.calm = true := by rfl) (hs : ∀ x, foldedSetIterable iter X.env x = pure x := by intro _; rfl) : DE X G₀ H₀ (.ListComp elt [⟨tg, iter, ifs, 0⟩] scope pos) (fComp cap own.length fi g ft fe) := by
  intro pins s σ H Q I q
  obtain ⟨env, G, val, D0, e, k⟩ := q
  obtain ⟨ds, e1, e⟩ := bind_inv e
  split at e
  · rename_i hz
    obtain ⟨out, e2, e⟩ := bind_inv e
    cases e
    rw [eval_ListComp]
    refine wpAny_comprehension_free (use := none) (cl := clFrom X.env.cells scope.names []) rfl hs (closureFor_eq (C.cells I)) C.kind C.locals ?_
    refine thn (hi pins s σ H (fun J H2 => ∃ G2, Grow G H G2 H2 ∧ Same G2 H2 ∧ JOk X.K J G2 ds) I ⟨env, G, ds, D0, e1, fun J G2 H2 g2 l2 jok => ⟨G2, g2, l2, jok⟩⟩) fun v s1 h1 => thn h1 fun itv s2 h2 => ?_
    obtain ⟨it, fp, tn, J, H2, rfl, I2, T, st2, f2, G2, g2, l2, jok⟩ := h2
    refine comp_block (RR := fun acc C => compPost (model X.prog X.w) X.A X.xe none (EP X pins σ Q) acc C) C hc hg hgc ht he I2 (D0.grow g2 l2) T st2 f2 jok hz e2 fun D C' vs G' H' s' hC fD hD gD r gr l hm hI => ?_
    obtain ⟨m, hm⟩ := hm
    exact ⟨m, hm, fun h' sb => ⟨.ref D, H', hI h' sb, rfl, k _ G' H' (g2.trans gr) l ⟨D, vs, rfl, g2.h.free fD, hD, gD, r⟩⟩⟩
  · cases e
end
end DL

set_option Elab.async false
set_option linter.all false
set_option maxRecDepth 100000
set_option maxHeartbeats 4000000
namespace DL
open PySem PySem.Spec PyProof.Rows L2

/-! ### isinstance -/
theorem call_isi {X : Cx} : CallR X (.builtin "isinstance") (fun xs H Q => ∃ x t T b, xs = [x, .ty T] ∧ TyOf X.K H x t ∧ PySem.W.kitOne X.K t (.type T) = some b ∧ Q (.bl b) H) := by
  intro pins s σ H xs us Q I r h
  obtain ⟨x, t, T, b, rfl, ty, e, q⟩ := h
  obtain ⟨u, w', rfl, r1, r2⟩ := vals2 r
  cases (show w' = .type T from r2)
  exact isinst_ok I r1 ty e fun tk => ⟨.bl b, H, I.tok _, rfl, q⟩
@[simp] def isiD (T : String) : D → Option Bool
  | .non => some false
  | .bl _ => some (decide (T = "int") || decide (T = "bool"))
  | .int _ => some (decide (T = "int"))
  | .lst _ => some (decide (T = "list"))
  | .tup _ => some (decide (T = "tuple"))
  | _ => none
@[simp] def gIsi (T : String) (x : D) : Out Val := match isiD T x with
  | some b => .ok (.pers (.bl b))
  | none => .bad
structure IsiT (T : String) : Prop where
  mem : T = "int" ∨ T = "bool" ∨ T = "list" ∨ T = "tuple"
theorem isi_kit {K : PySem.W.Frag} {T : String} (h : IsiT T) {G₀ H₀ : Hp} {env : Ev} {σ : St} {G H : Hp} {v : V} {d : D} {b : Bool} (I : DI K G₀ H₀ env σ G H) (o : Opd K env σ G v d) (e : isiD T d = some b) :
    ∃ t, TyOf K H v t ∧ PySem.W.kitOne K t (.type T) = some b := by
  cases d with
  | non =>
    cases e; rw [o.non]; refine ⟨_, .non, ?_⟩
    rcases h.mem with rfl | rfl | rfl | rfl <;> kernel_rfl
  | bl c =>
    cases e; rw [o.bl]; refine ⟨_, .bl c, ?_⟩
    rcases h.mem with rfl | rfl | rfl | rfl <;> kernel_rfl
  | int i =>
    cases e; rw [o.int]; refine ⟨_, .int i, ?_⟩
    rcases h.mem with rfl | rfl | rfl | rfl <;> kernel_rfl
  | lst ds =>
    cases e
    obtain ⟨a, vs, rfl, h1, _⟩ := Opd.lst I o
    refine ⟨_, .lst h1, ?_⟩
    rcases h.mem with rfl | rfl | rfl | rfl <;> kernel_rfl
  | tup ds =>
    cases e
    obtain ⟨a, vs, rfl, h1, _⟩ := Opd.tup I o
    refine ⟨_, .tup h1, ?_⟩
    rcases h.mem with rfl | rfl | rfl | rfl <;> kernel_rfl
  | scr ns => cases e
  | exc c p => cases e
theorem de_isi {X : Cx} {G₀ H₀ : Hp} {p p2 pos : Pos} {e : Expr} {f : FE} {xT : Str} {T : String} (hT : IsiT T) (he : DE X G₀ H₀ e f) (hm : X.mg "isinstance" = none) (hmT : X.mg xT = none) (hvT : bootBuiltins xT = some (.type T))
    (hg : Gl X "isinstance" := by rfl) (hgT : Gl X xT := by rfl) (hn : xT ≠ "__name__" := by decide) (hd : (xT == ("__debug__" : Str)) = false := by decide)
    (hs : starEach [e, .Name xT p2] X.env = (false, eval e X.env) :: starEach [.Name xT p2] X.env := by rfl) (hs2 : starEach [.Name xT p2] X.env = [(false, eval (.Name xT p2) X.env)] := by rfl) (hpl : (backTo pos (starEach [.Name xT p2] X.env)).any (·.1) = false := by rfl) :
    DE X G₀ H₀ (.Call (.Name "isinstance" p) [e, .Name xT p2] [] pos) (f1 (gIsi T) f) :=
  (pe_callB call_isi hg hm boot_isinstance (pa_cons he (pa_cons (pe_bltn (v := .ty T) hgT hmT hvT rfl hn hd) pa_nil hs2) hs) (by decide) (by decide) hs hpl).imp fun σ H Q q => by
    obtain ⟨env, G, val, I, e, k⟩ := q
    obtain ⟨x, e1, e⟩ := bind_inv e
    refine tE_one I e1 fun v G' H' g l I' o => ?_
    unfold gIsi at e
    split at e
    · rename_i b hb
      cases e
      obtain ⟨t, h1, h2⟩ := isi_kit hT I' o hb
      exact ⟨v, t, T, b, rfl, h1, h2, k _ G' H' g l rfl⟩
    · cases e
theorem isi_int : IsiT "int" := ⟨.inl rfl⟩
theorem isi_bool : IsiT "bool" := ⟨.inr (.inl rfl)⟩
theorem isi_list : IsiT "list" := ⟨.inr (.inr (.inl rfl))⟩
theorem isi_tuple : IsiT "tuple" := ⟨.inr (.inr (.inr rfl))⟩

/-! ### sorted, of ints -/
def ins (n : Int) : List Int → List Int
  | [] => [n]
  | m :: r => if n ≤ m then n :: m :: r else m :: ins n r
def isort : List Int → List Int
  | [] => []
  | n :: r => ins n (isort r)
theorem ins_perm (n : Int) : ∀ l : List Int, (ins n l).Perm (n :: l)
  | [] => List.Perm.refl _
  | m :: r => by
    unfold ins
    split
    · exact List.Perm.refl _
    · exact ((ins_perm n r).cons m).trans (List.Perm.swap n m r)
theorem isort_perm : ∀ l : List Int, (isort l).Perm l
  | [] => List.Perm.refl _
  | n :: r => (ins_perm n (isort r)).trans ((isort_perm r).cons n)
theorem ins_sorted (n : Int) : ∀ l : List Int, l.Pairwise (· ≤ ·) → (ins n l).Pairwise (· ≤ ·)
  | [], _ => by simp [ins]
  | m :: r, h => by
    unfold ins
    have h' := List.pairwise_cons.mp h
    split
    · rename_i hn
      refine List.pairwise_cons.mpr ⟨fun x hx => ?_, h⟩
      rcases List.mem_cons.mp hx with rfl | hx
      · exact hn
      · exact Int.le_trans hn (h'.1 x hx)
    · rename_i hn
      refine List.pairwise_cons.mpr ⟨fun x hx => ?_, ins_sorted n r h'.2⟩
      rcases List.mem_cons.mp ((ins_perm n r).mem_iff.mp hx) with rfl | hx
      · omega
      · exact h'.1 x hx
theorem isort_sorted : ∀ l : List Int, (isort l).Pairwise (· ≤ ·)
  | [] => List.Pairwise.nil
  | n :: r => ins_sorted n _ (isort_sorted r)
theorem sorted_unique : ∀ {a b : List Int}, a.Perm b → a.Pairwise (· ≤ ·) → b.Pairwise (· ≤ ·) → a = b
  | [], b, p, _, _ => by rw [List.Perm.nil_eq p]
  | x :: a, [], p, _, _ => by have := p.length_eq; simp at this
  | x :: a, y :: b, p, ha, hb => by
    have ha' := List.pairwise_cons.mp ha
    have hb' := List.pairwise_cons.mp hb
    have e : x = y := by
      have h1 : x ∈ y :: b := p.mem_iff.mp List.mem_cons_self
      have h2 : y ∈ x :: a := p.mem_iff.mpr List.mem_cons_self
      rcases List.mem_cons.mp h1 with h1 | h1
      · exact h1
      · rcases List.mem_cons.mp h2 with h2 | h2
        · exact h2.symm
        · exact Int.le_antisymm (ha'.1 y h2) (hb'.1 x h1)
    subst e
    rw [sorted_unique ((List.perm_cons x).mp p) ha'.2 hb'.2]
def asInts : List D → Option (List Int)
  | [] => some []
  | .int i :: ds => (asInts ds).map (i :: ·)
  | _ :: _ => none
theorem asInts_of : ∀ {ds : List D} {ns : List Int}, asInts ds = some ns → ds = ns.map .int
  | [], ns, h => by cases h; rfl
  | .int i :: ds, ns, h => by
    simp only [asInts] at h
    cases q : asInts ds with
    | none => rw [q] at h; cases h
    | some ms => rw [q] at h; cases h; rw [asInts_of q]; rfl
  | .non :: ds, ns, h => by cases h
  | .bl _ :: ds, ns, h => by cases h
  | .tup _ :: ds, ns, h => by cases h
  | .lst _ :: ds, ns, h => by cases h
  | .scr _ :: ds, ns, h => by cases h
  | .exc _ _ :: ds, ns, h => by cases h
theorem asInts_map : ∀ ns : List Int, asInts (ns.map .int) = some ns
  | [] => rfl
  | n :: ns => by simp [asInts, asInts_map ns]
@[simp] def gSorted : List D → Out Val
  | [.lst ds] => match asInts ds with
    | some ns => if ns.length < 64 then .ok (.fresh ((isort ns).map .int)) else .bad
    | none => .bad
  | _ => .bad
theorem call_sorted {X : Cx} : CallR X (.builtin "sorted") (fun xs H Q => ∃ p ns, xs = [.ref p] ∧ H p = some (.lst (ns.map V.int)) ∧ ns.length < 64 ∧ ∀ l, H l = none → Q (.ref l) (upd H l (.lst ((isort ns).map V.int)))) := by
  intro pins s σ H xs us Q I r h
  obtain ⟨p, ns, rfl, hp, hl, q⟩ := h
  obtain ⟨u, rfl, r1⟩ := vals1 r
  cases (show u = .ref p from r1)
  obtain ⟨z, its, n, rv, hlen, e⟩ := I.lstM hp
  have hi : IntsAre its ns := intsAre_of rv
  have hn : its.length = ns.length := by rw [← hlen, List.length_map]
  refine sorted_ints (l := p) (vs := its) ⟨_, e, rfl, _, rfl⟩ hi (by omega) fun out ns' a1 a2 a3 => ?_
  have en : ns' = isort ns := sorted_unique (a2.trans (isort_perm ns).symm) a3 (isort_sorted ns)
  subst en
  obtain ⟨c, he⟩ := sortedAll_at s.heap its out
  have hz : ((isort ns).map V.int).length ≤ sizeLine := by rw [List.length_map, (isort_perm ns).length_eq, sizeLine_eq]; omega
  refine ⟨.ref (s.heap.objs.size + 1), _, I.laid (t' := s.toks) (o := .lst ((isort ns).map V.int)) (fun b o eb => sortedAll_old eb) (Nat.le_succ _) ?_, rfl, q _ (I.hok.fresh (Nat.le_succ _))⟩
  exact ⟨hz, out.toList, c, vals_ints a1, by simpa [seqObj] using he⟩
theorem cd_sorted {K : PySem.W.Frag} : CallD K (fun xs H Q => ∃ p ns, xs = [.ref p] ∧ H p = some (.lst (ns.map V.int)) ∧ ns.length < 64 ∧ ∀ l, H l = none → Q (.ref l) (upd H l (.lst ((isort ns).map V.int)))) gSorted := by
  intro G₀ H₀ env σ G H vs xs val Q I a e k
  unfold gSorted at e
  split at e
  · rename_i ds hx
    split at e
    · rename_i ns hn
      split at e
      · rename_i hl
        cases e
        obtain ⟨v, rfl, o⟩ := args1 a hx
        obtain ⟨p, us, rfl, h1, r1⟩ := Opd.lst I o
        rw [asInts_of hn] at r1
        rw [r1.ints_of] at h1
        refine ⟨p, ns, rfl, h1, hl, fun l hl => ?_⟩
        have g := Grow.laidL (o := .lst ((isort ns).map V.int)) I.le hl
        exact k _ G _ g.1 g.2 (valFresh I.le hl (RepL.ints _))
      · cases e
    · cases e
  · cases e

/-! ### the callees of a def -/
structure Cal (P : Program) (w : World) (K : PySem.W.Frag) (mg : Str → Option Value) (base : Heap) (k : Nat) (x : Str) (ps : List Str) (m : List D → Out Val) : Prop where
  ex : ∃ (f : Addr) (fd : FuncData), FnOk P w K mg base CX0 k f fd ps (spD K m ps.length) ∧ mg x = some (.ref f) ∧ PySem.W.keepIn K (.ref f) = true ∧ Binds K fd ps []
theorem Cal.mono {P : Program} {w : World} {K : PySem.W.Frag} {mg : Str → Option Value} {base : Heap} {j k : Nat} {x : Str} {ps : List Str} {m : List D → Out Val} (c : Cal P w K mg base j x ps m) (h : j ≤ k) : Cal P w K mg base k x ps m := by
  obtain ⟨f, fd, F, r⟩ := c.ex
  exact ⟨f, fd, F.mono h, r⟩
/-- another function with the same answers -/
theorem Cal.imp {P : Program} {w : World} {K : PySem.W.Frag} {mg : Str → Option Value} {base : Heap} {k : Nat} {x : Str} {ps : List Str} {m m' : List D → Out Val} (c : Cal P w K mg base k x ps m) (h : ∀ ds v, ds.length = ps.length → m' ds = .ok v → m ds = .ok v) : Cal P w K mg base k x ps m' := by
  obtain ⟨f, fd, F, r⟩ := c.ex
  refine ⟨f, fd, F.imp fun vs H Q E q => ?_, r⟩
  obtain ⟨G, ds, val, h1, h2, h3, h4, h5⟩ := q
  exact ⟨G, ds, val, h1, h2, h3, h ds val h1 h4, h5⟩
section
variable {X : Cx} {G₀ H₀ : Hp} {k : Nat} {ps : List Str} {x : Str} {p pos : Pos} {e : Expr} {es : List Expr} {r : Ev → Out (List Val)} {m : List D → Out Val}
theorem de_cal (C : Cal X.prog X.w X.K X.mg X.base k x ps m) (hr : Room k X.A) (ha : DA X G₀ H₀ (e :: es) r)
    (hlen : ∀ env xs, r env = .ok xs → xs.length = ps.length) (hg : Gl X x := by rfl) (hdb : (x == ("__debug__" : Str)) = false := by decide) (he : starEach (e :: es) X.env = (false, eval e X.env) :: starEach es X.env := by rfl) (hpl : (backTo pos (starEach es X.env)).any (·.1) = false := by rfl) :
    DE X G₀ H₀ (.Call (.Name x p) (e :: es) [] pos) (fCall m r) := by
  obtain ⟨f, fd, F, hm, hk, hb⟩ := C.ex
  exact de_call F hr hm hk hb ha hlen hg hdb he hpl
end
theorem len_nil : ∀ env xs, fNil env = .ok xs → xs.length = 0 := fun env xs h => by cases h; rfl
theorem len_cons {f : FE} {r : Ev → Out (List Val)} {n : Nat} (h : ∀ env xs, r env = .ok xs → xs.length = n) : ∀ env xs, fCons f r env = .ok xs → xs.length = n + 1 := fun env xs e => by
  obtain ⟨x, _, e⟩ := bind_inv e
  obtain ⟨ys, e2, e⟩ := bind_inv e
  cases e
  simp [h env ys e2]
theorem cal_ok {P : Program} {w : World} {K : PySem.W.Frag} {mg : Str → Option Value} {base : Heap} {x : Str} {st : Stmt} {f : Addr} {fd : FuncData} {N ps : List Str} {k : Nat} {fb : FS} (F : Fun K x x st f fd) (hm : mg x = some (.ref f)) (b : Binds K fd ps [])
    (h : FnOk P w K mg base CX0 (k + 1) f fd ps (spD K (runD N.length fb) ps.length)) : Cal P w K mg base (k + 1) x ps (runD N.length fb) := ⟨f, fd, h, hm, F.kp, b⟩
theorem hu20 {A : Around} {k : Nat} (hr : Room k A) : A.units + 20 < cLine := by have := hr.units; omega

/-! ### sorted(set(list of ints)) -/
@[simp] def gSortSet : D → Out Val
  | .lst ds => match asInts ds with
    | some ns => if ns.length < 18 then .ok (.fresh ((isort ns.eraseDups).map .int)) else .bad
    | none => .bad
  | _ => .bad
end DL

set_option Elab.async false
set_option linter.all false
set_option maxRecDepth 100000
set_option maxHeartbeats 4000000
/-! SETS OF INTS, 1: the tables of small sets never give way -/
namespace DL
open PySem PySem.Spec PyProof.Rows L2
/-! ### lists -/
theorem len_le_of_sub : ∀ (l m : List Nat), l.Nodup → (∀ x ∈ l, x ∈ m) → l.length ≤ m.length
  | [], m, _, _ => Nat.zero_le _
  | x :: l, m, hn, hs => by
    have hx : x ∈ m := hs x (.head _)
    have h2 := List.nodup_cons.mp hn
    have := len_le_of_sub l (m.erase x) h2.2 fun y hy => (List.mem_erase_of_ne (fun z : y = x => h2.1 (by rw [← z]; exact hy))).mpr (hs y (.tail _ hy))
    rw [List.length_erase_of_mem hx] at this
    have hp : 0 < m.length := List.length_pos_of_mem hx
    simp only [List.length_cons]
    omega
theorem exists_free (xs : List Nat) (n : Nat) (h : xs.length < n) : ∃ e, e < n ∧ e ∉ xs := by
  refine Classical.byContradiction fun hc => ?_
  have : ∀ x ∈ List.range n, x ∈ xs := fun x hx => Classical.byContradiction fun hh => hc ⟨x, List.mem_range.mp hx, hh⟩
  have h2 := len_le_of_sub (List.range n) xs List.nodup_range this
  rw [List.length_range] at h2
  omega
/-! ### leaps -/
def lp (mask : Nat) : Nat → Nat × Nat → Nat × Nat
  | 0, x => x
  | n + 1, x => lp mask n (SetTable.leap mask x.1 x.2)
theorem lp_succ' (mask : Nat) : ∀ (n : Nat) (x : Nat × Nat), lp mask (n + 1) x = SetTable.leap mask (lp mask n x).1 (lp mask n x).2
  | 0, x => rfl
  | n + 1, x => lp_succ' mask n _
theorem lp_add (mask : Nat) : ∀ (m n : Nat) (x : Nat × Nat), lp mask (m + n) x = lp mask n (lp mask m x)
  | 0, n, x => by rw [Nat.zero_add]; rfl
  | m + 1, n, x => by
    rw [Nat.add_right_comm]
    exact lp_add mask m n _
theorem lp_snd (mask : Nat) : ∀ (n : Nat) (x : Nat × Nat), (lp mask n x).2 = x.2 / 32 ^ n
  | 0, x => by simp [lp]
  | n + 1, x => by
    rw [lp, lp_snd mask n]
    simp only [SetTable.leap]
    rw [Nat.div_div_eq_div_mul, Nat.pow_succ, Nat.mul_comm]
theorem lp_lt (mask n : Nat) (x : Nat × Nat) (h : x.1 ≤ mask) : (lp mask n x).1 ≤ mask := by
  cases n with
  | zero => exact h
  | succ n =>
    rw [lp_succ']
    simp only [SetTable.leap]
    have := Nat.mod_lt ((lp mask n x).1 * 5 + 1 + (lp mask n x).2 / 32) (show 0 < mask + 1 by omega)
    omega
def lc (mask : Nat) : Nat → Nat → Nat
  | 0, i => i
  | n + 1, i => lc mask n ((i * 5 + 1) % (mask + 1))
theorem lp_zero (mask : Nat) : ∀ (n i : Nat), lp mask n (i, 0) = (lc mask n i, 0)
  | 0, i => rfl
  | n + 1, i => by
    show lp mask n (SetTable.leap mask i 0) = _
    simp only [SetTable.leap, Nat.zero_div, Nat.add_zero]
    exact lp_zero mask n _
def lcAll (mask : Nat) : Bool := (List.range (mask + 1)).all fun i => (List.range (mask + 1)).all fun e => (List.range (mask + 1)).any fun m => lc mask m i == e
theorem lcAll_7 : lcAll 7 = true := by decide +kernel
theorem lcAll_31 : lcAll 31 = true := by decide +kernel
theorem lc_hits {mask i e : Nat} (h : lcAll mask = true) (hi : i ≤ mask) (he : e ≤ mask) : ∃ m, m ≤ mask ∧ lc mask m i = e := by
  unfold lcAll at h
  rw [List.all_eq_true] at h
  have h1 := h i (List.mem_range.mpr (by omega))
  rw [List.all_eq_true] at h1
  have h2 := h1 e (List.mem_range.mpr (by omega))
  rw [List.any_eq_true] at h2
  obtain ⟨m, hm, q⟩ := h2
  exact ⟨m, by have := List.mem_range.mp hm; omega, by simpa using q⟩
theorem bits_lt (h : Int) : SetTable.bits h < 2 ^ 64 := by
  unfold SetTable.bits
  have h1 := Int.emod_nonneg h (show (2 ^ 64 : Int) ≠ 0 by decide)
  have h2 := Int.emod_lt_of_pos h (show (0 : Int) < 2 ^ 64 by decide)
  omega
/-- every slot is the beginning of a run, early enough -/
theorem lp_hits {mask e : Nat} {h : Int} {i : Nat} (ha : lcAll mask = true) (hi : i ≤ mask) (he : e ≤ mask) : ∃ n, n ≤ 13 + mask ∧ (lp mask n (i, SetTable.bits h)).1 = e := by
  have hz : (lp mask 13 (i, SetTable.bits h)).2 = 0 := by
    rw [lp_snd]
    exact Nat.div_eq_of_lt (Nat.lt_of_lt_of_le (bits_lt h) (by decide))
  obtain ⟨m, hm, q⟩ := lc_hits ha (lp_lt mask 13 (i, SetTable.bits h) hi) he
  refine ⟨13 + m, by omega, ?_⟩
  rw [lp_add]
  have : lp mask 13 (i, SetTable.bits h) = ((lp mask 13 (i, SetTable.bits h)).1, 0) := by rw [← hz]
  rw [this, lp_zero]
  exact q
/-! ### probing -/
def advN (t : SetTable) : Nat → SetTable.Probe → SetTable.Probe
  | 0, p => p
  | n + 1, p => advN t n (t.advance p)
theorem advN_add (t : SetTable) : ∀ (m n : Nat) (p : SetTable.Probe), advN t (m + n) p = advN t n (advN t m p)
  | 0, n, p => by rw [Nat.zero_add]; rfl
  | m + 1, n, p => by rw [Nat.add_right_comm]; exact advN_add t m n _
def runP (t : SetTable) (x : Nat × Nat) : SetTable.Probe := { j := x.1, more := SetTable.runEnd t.mask x.1 - x.1, i := x.1, perturb := x.2, dummy := none }
theorem adv_run (t : SetTable) : ∀ (k : Nat) (p : SetTable.Probe), p.more = k → p.dummy = none → advN t (k + 1) p = runP t (SetTable.leap t.mask p.i p.perturb)
  | 0, p, h, hd => by
    show t.advance p = _
    unfold SetTable.advance
    rw [if_neg (by omega)]
    simp [runP, hd]
  | k + 1, p, h, hd => by
    have e : t.advance p = { p with j := p.j + 1, more := p.more - 1 } := by
      unfold SetTable.advance
      rw [if_pos (by omega)]
    show advN t (k + 1) (t.advance p) = _
    rw [e]
    exact adv_run t k { p with j := p.j + 1, more := p.more - 1 } (by show p.more - 1 = k; omega) hd
theorem runEnd_le (mask i : Nat) : SetTable.runEnd mask i - i ≤ 9 := by
  unfold SetTable.runEnd
  split <;> omega
theorem adv_leaps (t : SetTable) (x : Nat × Nat) : ∀ n : Nat, ∃ k, k ≤ 10 * n ∧ advN t k (runP t x) = runP t (lp t.mask n x)
  | 0 => ⟨0, Nat.zero_le _, rfl⟩
  | n + 1 => by
    obtain ⟨k, hk, e⟩ := adv_leaps t x n
    have h9 := runEnd_le t.mask (lp t.mask n x).1
    refine ⟨k + ((runP t (lp t.mask n x)).more + 1), ?_, ?_⟩
    · show k + (SetTable.runEnd t.mask (lp t.mask n x).1 - (lp t.mask n x).1 + 1) ≤ _
      omega
    · rw [advN_add, e, adv_run t _ _ rfl rfl, lp_succ']
      rfl
theorem advance_dummy (t : SetTable) (p : SetTable.Probe) : (t.advance p).dummy = p.dummy := by
  unfold SetTable.advance
  split <;> rfl
theorem slot_cases {t : SetTable} (hd : t.dummies = #[]) (j : Nat) : t.slot j = .empty ∨ ∃ i, t.slot j = .live i := by
  unfold SetTable.slot
  dsimp only
  split
  · exact .inr ⟨_, rfl⟩
  · rw [hd, if_neg (by simp [SetTable.has])]
    exact .inl rfl
theorem go_finds {t : SetTable} {h : Int} (hd : t.dummies = #[]) : ∀ (k fuel : Nat) (p : SetTable.Probe), k < fuel → p.dummy = none → t.slot (advN t k p).j = .empty →
    ∃ j, SetTable.probe.go t (fun _ => h + 1) h fuel p = some (.empty j none) ∧ t.slot j = .empty
  | k, 0, p, hk, _, _ => absurd hk (Nat.not_lt_zero _)
  | k, fuel + 1, p, hk, hp, hs => by
    unfold SetTable.probe.go
    rcases slot_cases hd p.j with e | ⟨i, e⟩
    · rw [e]
      exact ⟨p.j, by simp [hp], e⟩
    · rw [e]
      dsimp only
      have hne : (h + 1 == h) = false := by simp; omega
      rw [hne]
      cases k with
      | zero => rw [show (advN t 0 p).j = p.j from rfl, e] at hs; cases hs
      | succ k => exact go_finds hd k fuel (t.advance p) (by omega) (by rw [advance_dummy]; exact hp) hs
theorem slot_of_not_mem {t : SetTable} (hd : t.dummies = #[]) {j : Nat} (h : j ∉ t.place.toList) : t.slot j = .empty := by
  rcases slot_cases hd j with e | ⟨i, e⟩
  · exact e
  · unfold SetTable.slot at e
    dsimp only at e
    split at e
    · rename_i hb
      have hb' : t.place[SetTable.below t.place j]? = some j := by simpa using hb
      rw [← Array.getElem?_toList] at hb'
      exact absurd (List.mem_of_getElem? hb') h
    · rw [hd, if_neg (by simp [SetTable.has])] at e
      cases e
/-- what a small table keeps to -/
structure TabOk (t : SetTable) (n : Nat) : Prop where
  plain : t.plain = true
  dummies : t.dummies = #[]
  size : t.place.size = n
  rise : t.place.toList.Pairwise (· < ·)
  mask : (t.mask = 7 ∧ n < 5) ∨ (t.mask = 31 ∧ n < 19)
theorem TabOk.lcAll {t : SetTable} {n : Nat} (h : TabOk t n) : lcAll t.mask = true := by
  rcases h.mask with ⟨e, _⟩ | ⟨e, _⟩ <;> rw [e]
  · exact lcAll_7
  · exact lcAll_31
theorem freeSlot_ok {t : SetTable} {n : Nat} (T : TabOk t n) (h : Int) : ∃ j, t.freeSlot h = some (j, false) ∧ t.slot j = .empty := by
  obtain ⟨e, he, hm⟩ := exists_free t.place.toList (t.mask + 1) (by rw [Array.length_toList, T.size]; rcases T.mask with ⟨q, _⟩ | ⟨q, _⟩ <;> omega)
  have hi : SetTable.bits h % (t.mask + 1) ≤ t.mask := by
    have := Nat.mod_lt (SetTable.bits h) (show 0 < t.mask + 1 by omega)
    omega
  obtain ⟨m, hm1, hm2⟩ := lp_hits (h := h) T.lcAll hi (show e ≤ t.mask by omega)
  obtain ⟨k, hk1, hk2⟩ := adv_leaps t (SetTable.bits h % (t.mask + 1), SetTable.bits h) m
  obtain ⟨j, hj, hs⟩ := go_finds (h := h) T.dummies k (10 * SetTable.turns t.mask) (t.probeStart h) (by unfold SetTable.turns; omega) rfl (by
    show t.slot (advN t k (runP t (SetTable.bits h % (t.mask + 1), SetTable.bits h))).j = .empty
    rw [hk2]
    show t.slot (lp t.mask m _).1 = .empty
    rw [hm2]
    exact slot_of_not_mem T.dummies hm)
  refine ⟨j, ?_, hs⟩
  unfold SetTable.freeSlot SetTable.probe
  rw [hj]
  rfl
/-! ### the search in the places -/
theorem below_go {xs : Array Nat} {j : Nat} (hr : xs.toList.Pairwise (· < ·)) : ∀ (fuel lo hi : Nat), hi - lo ≤ fuel → lo ≤ hi → hi ≤ xs.size → (∀ i x, i < lo → xs[i]? = some x → x < j) → (∀ i x, hi ≤ i → xs[i]? = some x → j ≤ x) →
    SetTable.below.go xs j fuel lo hi ≤ xs.size ∧ (∀ i x, i < SetTable.below.go xs j fuel lo hi → xs[i]? = some x → x < j) ∧ (∀ i x, SetTable.below.go xs j fuel lo hi ≤ i → xs[i]? = some x → j ≤ x)
  | 0, lo, hi, h1, h2, h3, h4, h5 => by
    have : lo = hi := by omega
    subst this
    exact ⟨h3, h4, h5⟩
  | fuel + 1, lo, hi, h1, h2, h3, h4, h5 => by
    unfold SetTable.below.go
    by_cases hlt : lo < hi
    · rw [if_pos hlt]
      dsimp only
      have hmid : (lo + hi) / 2 < xs.size := by omega
      have hrel : ∀ (a b x y : Nat), a < b → xs[a]? = some x → xs[b]? = some y → x < y := by
        intro a b x y hab ha hb
        rw [← Array.getElem?_toList] at ha hb
        obtain ⟨ha1, rfl⟩ := List.getElem?_eq_some_iff.mp ha
        obtain ⟨hb1, rfl⟩ := List.getElem?_eq_some_iff.mp hb
        exact List.pairwise_iff_getElem.mp hr a b ha1 hb1 hab
      have hg : xs.getD ((lo + hi) / 2) j = xs[(lo + hi) / 2] := by simp [Array.getD, hmid]
      rw [hg]
      by_cases hc : xs[(lo + hi) / 2] < j
      · rw [if_pos hc]
        refine below_go hr fuel _ hi (by omega) (by omega) h3 (fun i x hi' hx => ?_) h5
        by_cases hi2 : i = (lo + hi) / 2
        · subst hi2
          rw [Array.getElem?_eq_getElem hmid] at hx
          cases hx
          exact hc
        · have := hrel i ((lo + hi) / 2) x _ (by omega) hx (Array.getElem?_eq_getElem hmid)
          omega
      · rw [if_neg hc]
        refine below_go hr fuel lo _ (by omega) (by omega) (by omega) h4 (fun i x hi' hx => ?_)
        by_cases hi2 : i = (lo + hi) / 2
        · subst hi2
          rw [Array.getElem?_eq_getElem hmid] at hx
          cases hx
          omega
        · have := hrel ((lo + hi) / 2) i _ x (by omega) (Array.getElem?_eq_getElem hmid) hx
          omega
    · rw [if_neg hlt]
      have : lo = hi := by omega
      subst this
      exact ⟨h3, h4, h5⟩
theorem below_ok {xs : Array Nat} (j : Nat) (hr : xs.toList.Pairwise (· < ·)) :
    SetTable.below xs j ≤ xs.size ∧ (∀ i x, i < SetTable.below xs j → xs[i]? = some x → x < j) ∧ (∀ i x, SetTable.below xs j ≤ i → xs[i]? = some x → j ≤ x) :=
  below_go hr xs.size 0 xs.size (by omega) (by omega) (Nat.le_refl _) (fun _ _ h => absurd h (Nat.not_lt_zero _)) fun i x h hx => by
    rw [Array.getElem?_eq_none h] at hx; cases hx
/-- the place from which the walk goes on -/
theorem below_next {xs : Array Nat} {i : Nat} (hr : xs.toList.Pairwise (· < ·)) (slot : Nat) (h0 : i = 0 → slot = 0) (h1 : ∀ k x, i = k + 1 → xs[k]? = some x → slot = x + 1) (hi : i ≤ xs.size) : SetTable.below xs slot = i := by
  obtain ⟨b1, b2, b3⟩ := below_ok slot hr
  have hrel : ∀ (a b x y : Nat), a < b → xs[a]? = some x → xs[b]? = some y → x < y := by
    intro a b x y hab ha hb
    rw [← Array.getElem?_toList] at ha hb
    obtain ⟨ha1, rfl⟩ := List.getElem?_eq_some_iff.mp ha
    obtain ⟨hb1, rfl⟩ := List.getElem?_eq_some_iff.mp hb
    exact List.pairwise_iff_getElem.mp hr a b ha1 hb1 hab
  rcases Nat.lt_trichotomy (SetTable.below xs slot) i with hlt | heq | hgt
  · cases i with
    | zero => exact absurd hlt (Nat.not_lt_zero _)
    | succ k =>
      have hk : k < xs.size := by omega
      have e := h1 k _ rfl (Array.getElem?_eq_getElem hk)
      have := b3 k _ (by omega) (Array.getElem?_eq_getElem hk)
      omega
  · exact heq
  · have hii : i < xs.size := by omega
    have hx := b2 i _ hgt (Array.getElem?_eq_getElem hii)
    cases i with
    | zero => rw [h0 rfl] at hx; omega
    | succ k =>
      have hk : k < xs.size := by omega
      have e := h1 k _ rfl (Array.getElem?_eq_getElem hk)
      have := hrel k (k + 1) _ _ (Nat.lt_succ_self _) (Array.getElem?_eq_getElem hk) (Array.getElem?_eq_getElem hii)
      omega
theorem put_ok {t : SetTable} {n j : Nat} (T : TabOk t n) (hs : t.slot j = .empty) : (t.put j).1 = { t with place := SetTable.insertAt t.place (t.put j).2 j } ∧ (SetTable.insertAt t.place (t.put j).2 j).toList.Pairwise (· < ·) ∧ (t.put j).2 ≤ n := by
  have hp : (t.put j).2 = SetTable.below t.place j := rfl
  obtain ⟨b1, b2, b3⟩ := below_ok j T.rise
  refine ⟨?_, ?_, by rw [hp, ← T.size]; exact b1⟩
  · unfold SetTable.put
    dsimp only
    rw [T.dummies, if_neg (by simp [SetTable.has])]
  · rw [hp, SetTable.toList_insertAt]
    have hne : t.place[SetTable.below t.place j]? ≠ some j := by
      unfold SetTable.slot at hs
      dsimp only at hs
      split at hs
      · cases hs
      · rename_i hb
        simpa using hb
    have hrel : ∀ (a b x y : Nat), a < b → t.place[a]? = some x → t.place[b]? = some y → x < y := by
      intro a b x y hab ha hb
      rw [← Array.getElem?_toList] at ha hb
      obtain ⟨ha1, rfl⟩ := List.getElem?_eq_some_iff.mp ha
      obtain ⟨hb1, rfl⟩ := List.getElem?_eq_some_iff.mp hb
      exact List.pairwise_iff_getElem.mp T.rise a b ha1 hb1 hab
    have hlow : ∀ x ∈ t.place.toList.take (SetTable.below t.place j), x < j := by
      intro x hx
      obtain ⟨i, hi⟩ := List.getElem?_of_mem hx
      rw [List.getElem?_take] at hi
      split at hi
      · rename_i h1
        rw [Array.getElem?_toList] at hi
        exact b2 i x h1 hi
      · cases hi
    have hhigh : ∀ x ∈ t.place.toList.drop (SetTable.below t.place j), j < x := by
      intro x hx
      obtain ⟨i, hi⟩ := List.getElem?_of_mem hx
      rw [List.getElem?_drop, Array.getElem?_toList] at hi
      have h1 := b3 (SetTable.below t.place j + i) x (by omega) hi
      rcases Nat.lt_or_eq_of_le h1 with h2 | h2
      · exact h2
      · subst h2
        exfalso
        cases i with
        | zero => exact hne hi
        | succ i =>
          have hb : SetTable.below t.place j < t.place.size := by
            have := Array.getElem?_eq_some_iff.mp hi
            obtain ⟨q, _⟩ := this
            omega
          have q1 := b3 _ _ (Nat.le_refl _) (Array.getElem?_eq_getElem hb)
          have q2 := hrel _ _ _ _ (show SetTable.below t.place j < SetTable.below t.place j + (i + 1) by omega) (Array.getElem?_eq_getElem hb) hi
          omega
    rw [List.pairwise_append]
    refine ⟨T.rise.sublist (List.take_sublist _ _), ?_, ?_⟩
    · rw [List.pairwise_cons]
      exact ⟨hhigh, T.rise.sublist (List.drop_sublist _ _)⟩
    · intro a ha b hb
      rcases List.mem_cons.mp hb with rfl | hb
      · exact hlow a ha
      · exact Nat.lt_trans (hlow a ha) (hhigh b hb)
end DL

set_option Elab.async false
set_option linter.all false
set_option maxRecDepth 100000
set_option maxHeartbeats 4000000
/-! SETS OF INTS, 2: laying -/
namespace DL
open PySem PySem.Spec PyProof.Rows L2
theorem layNew_ok {t : SetTable} {es : Array (Int × Value)} (T : TabOk t es.size) (hn : es.size < 18) (h : Int) (x : Value) :
    ∃ p j, p ≤ es.size ∧ layNew t es h x = (SetTable.insertAt es p (h, x), { t with place := SetTable.insertAt t.place p j }, false, false) ∧ (SetTable.insertAt t.place p j).toList.Pairwise (· < ·)
      ∧ (SetTable.insertAt es p (h, x)).size = es.size + 1 ∧ (SetTable.insertAt t.place p j).size = es.size + 1 := by
  obtain ⟨j, hj, hs⟩ := freeSlot_ok T h
  obtain ⟨h1, h2, h3⟩ := put_ok T hs
  have z1 : (SetTable.insertAt es (t.put j).2 (h, x)).size = es.size + 1 := by
    have := (SetTable.insertAt_perm es (t.put j).2 (h, x)).length_eq
    simpa using this
  have z2 : (SetTable.insertAt t.place (t.put j).2 j).size = es.size + 1 := by
    have := (SetTable.insertAt_perm t.place (t.put j).2 j).length_eq
    rw [← T.size]
    simpa using this
  have hfit : SetTable.fits { t with place := SetTable.insertAt t.place (t.put j).2 j } (es.size + 1) = true := by
    unfold SetTable.fits SetTable.fill
    rw [z2, T.dummies]
    rcases T.mask with ⟨q, _⟩ | ⟨q, _⟩ <;> rw [q] <;> simp <;> omega
  refine ⟨(t.put j).2, j, h3, ?_, h2, z1, z2⟩
  unfold layNew
  rw [hj]
  dsimp only
  rw [h1, z1]
  unfold SetTable.orStandIn
  rw [hfit]
  rfl
/-! ### laid anew -/
theorem set_owner : ∀ (l : List (Option Nat)) (j k : Nat), l[j]? = some none → List.Perm ((l.set j (some k)).filterMap id) (k :: l.filterMap id)
  | [], j, k, h => by simp at h
  | a :: l, 0, k, h => by
    simp at h
    subst h
    simp
  | a :: l, j + 1, k, h => by
    have ih := set_owner l j k (by simpa using h)
    cases a with
    | none => simpa using ih
    | some b =>
      simp only [List.set_cons_succ, List.filterMap_cons, id]
      exact (ih.cons b).trans (.swap k b _)
theorem owner_free {owner : Array (Option Nat)} {n k : Nat} (hs : owner.size = n) (hp : List.Perm (owner.toList.filterMap id) (List.range k)) (hk : k < n) : ∃ e, e < n ∧ owner[e]? = some none := by
  refine Classical.byContradiction fun hc => ?_
  have hall : ∀ a ∈ owner.toList, a ≠ none := by
    intro a ha z
    subst z
    obtain ⟨i, hi⟩ := List.getElem?_of_mem ha
    rw [Array.getElem?_toList] at hi
    obtain ⟨q, _⟩ := Array.getElem?_eq_some_iff.mp hi
    exact hc ⟨i, by omega, hi⟩
  have hlen : ∀ l : List (Option Nat), (∀ a ∈ l, a ≠ none) → (l.filterMap id).length = l.length := by
    intro l
    induction l with
    | nil => intro _; rfl
    | cons a l ih =>
      intro h
      cases a with
      | none => exact absurd rfl (h none (.head _))
      | some b =>
        simp only [List.filterMap_cons, id, List.length_cons]
        rw [ih fun a ha => h a (.tail _ ha)]
  have h1 := hlen owner.toList hall
  rw [hp.length_eq, List.length_range, Array.length_toList] at h1
  omega
theorem free_finds {mask e : Nat} {owner : Array (Option Nat)} (he : owner[e]? = some none) : ∀ (n fuel : Nat) (i p : Nat), n < fuel → (lp mask n (i, p)).1 = e → ∃ j, SetTable.layClean.free mask owner fuel i p = some j ∧ owner[j]? = some none
  | n, 0, i, p, h, _ => absurd h (Nat.not_lt_zero _)
  | n, fuel + 1, i, p, h, hq => by
    unfold SetTable.layClean.free
    cases hf : (List.range (SetTable.runEnd mask i + 1 - i)).find? fun k => (owner.getD (i + k) (some 0)).isNone with
    | some k =>
      dsimp only
      refine ⟨i + k, rfl, ?_⟩
      have := List.find?_some hf
      simp only [Option.isNone_iff_eq_none] at this
      by_cases hb : i + k < owner.size
      · rw [Array.getElem?_eq_getElem hb]
        simp only [Array.getD, hb, dite_true] at this
        simpa using this
      · simp [Array.getD, hb] at this
    | none =>
      dsimp only
      cases n with
      | zero =>
        exfalso
        have : i = e := hq
        subst this
        rw [List.find?_eq_none] at hf
        have h1 := hf 0 (List.mem_range.mpr (by unfold SetTable.runEnd; split <;> omega))
        apply h1
        obtain ⟨q, q2⟩ := Array.getElem?_eq_some_iff.mp he
        simp [Array.getD, q, q2]
      | succ n => exact free_finds he n fuel _ _ (by omega) hq
theorem layClean_ok (hs : List Int) : ∀ (owner : Array (Option Nat)) (k : Nat), owner.size = 32 → List.Perm (owner.toList.filterMap id) (List.range k) → k + hs.length < 32 →
    ∃ owner', (hs.foldl (init := some (owner, k)) fun acc h => do
      let (owner, k) ← acc
      let j ← SetTable.layClean.free 31 owner (SetTable.turns 31) (SetTable.bits h % (31 + 1)) (SetTable.bits h)
      pure (owner.setIfInBounds j (some k), k + 1)) = some (owner', k + hs.length) ∧ owner'.size = 32 ∧ List.Perm (owner'.toList.filterMap id) (List.range (k + hs.length)) := by
  induction hs with
  | nil => intro owner k h1 h2 h3; exact ⟨owner, rfl, h1, h2⟩
  | cons h hs ih =>
    intro owner k h1 h2 h3
    obtain ⟨e, he1, he2⟩ := owner_free h1 h2 (by omega)
    have hi : SetTable.bits h % (31 + 1) ≤ 31 := by
      have := Nat.mod_lt (SetTable.bits h) (show 0 < 31 + 1 by omega)
      omega
    obtain ⟨n, hn1, hn2⟩ := lp_hits (h := h) lcAll_31 hi (show e ≤ 31 by omega)
    obtain ⟨j, hj1, hj2⟩ := free_finds he2 n (SetTable.turns 31) _ _ (by unfold SetTable.turns; omega) hn2
    have hjl : j < owner.size := (Array.getElem?_eq_some_iff.mp hj2).1
    obtain ⟨o', e1, e2, e3⟩ := ih (owner.setIfInBounds j (some k)) (k + 1) (by simpa using h1) (by
      have hp := set_owner owner.toList j k (by rw [Array.getElem?_toList]; exact hj2)
      have : (owner.setIfInBounds j (some k)).toList = owner.toList.set j (some k) := by simp
      rw [this, List.range_succ]
      exact hp.trans ((h2.cons k).trans (List.perm_append_singleton k _).symm)) (by simp at h3; omega)
    refine ⟨o', ?_, e2, ?_⟩
    · rw [List.foldl_cons]
      have : (do
        let (owner, k) ← some (owner, k)
        let j ← SetTable.layClean.free 31 owner (SetTable.turns 31) (SetTable.bits h % (31 + 1)) (SetTable.bits h)
        pure (owner.setIfInBounds j (some k), k + 1)) = some (owner.setIfInBounds j (some k), k + 1) := by
        show (SetTable.layClean.free 31 owner (SetTable.turns 31) (SetTable.bits h % (31 + 1)) (SetTable.bits h)).bind _ = _
        rw [hj1]
        rfl
      rw [this, e1]
      simp [Nat.add_assoc, Nat.add_comm 1]
    · have : k + (h :: hs).length = k + 1 + hs.length := by simp; omega
      rw [this]
      exact e3
theorem live_fst (owner : Array (Option Nat)) (n : Nat) : (((List.range n).filterMap fun j => (owner.getD j none).map (j, ·)).map (·.1)).Pairwise (· < ·) := by
  rw [List.pairwise_map, List.pairwise_filterMap]
  refine List.Pairwise.imp ?_ List.pairwise_lt_range
  intro a b hab x hx y hy
  cases q1 : owner.getD a none with
  | none => rw [q1] at hx; cases hx
  | some u =>
    cases q2 : owner.getD b none with
    | none => rw [q2] at hy; cases hy
    | some v => rw [q1] at hx; rw [q2] at hy; cases hx; cases hy; exact hab
theorem live_snd (owner : Array (Option Nat)) : (((List.range owner.size).filterMap fun j => (owner.getD j none).map (j, ·)).map (·.2)) = owner.toList.filterMap id := by
  rw [List.map_filterMap]
  have h1 : owner.toList = (List.range owner.size).map fun j => owner.getD j none := by
    apply List.ext_getElem?
    intro i
    rw [Array.getElem?_toList, List.getElem?_map]
    by_cases hi : i < owner.size
    · rw [List.getElem?_range hi, Array.getElem?_eq_getElem hi]
      simp [Array.getD, hi]
    · rw [Array.getElem?_eq_none (by omega), List.getElem?_eq_none (by simpa using hi)]
      rfl
  rw [h1, List.filterMap_map]
  congr 1
  funext j
  simp only [Function.comp]
  cases owner.getD j none <;> rfl
theorem relaid_ok (t : SetTable) (es : Array (Int × Value)) (hp : t.plain = true) (hn : es.size = 5) :
    ∃ es' t', relayAll t es (SetTable.grown es.size) = (es', t', false) ∧ TabOk t' es'.size ∧ t'.led = t.led ∧ List.Perm es'.toList es.toList ∧ es'.size = 5 := by
  have hw : SetTable.sizeAbove (SetTable.grown es.size) - 1 = 31 := by rw [hn]; decide
  obtain ⟨owner, e1, e2, e3⟩ := layClean_ok (es.map (·.1)).toList (Array.replicate 32 none) 0 (by simp) (by
    have : (Array.replicate 32 (none : Option Nat)).toList.filterMap id = [] := by decide
    rw [this]; exact .nil) (by simp; omega)
  have hl : SetTable.layClean 31 (es.map (·.1)) = some owner := by
    unfold SetTable.layClean
    rw [← Array.foldl_toList]
    rw [e1]
    rfl
  have h5 : 0 + (es.map (·.1)).toList.length = 5 := by simp [hn]
  rw [h5] at e3
  have hr : t.relaid (es.map (·.1)) (SetTable.grown es.size) = some ({ mask := 31, place := (((List.range 32).filterMap fun j => (owner.getD j none).map (j, ·)).map (·.1)).toArray, dummies := #[], finger := t.finger, led := t.led, moves := t.movedTo 31, plain := t.plain }, (((List.range 32).filterMap fun j => (owner.getD j none).map (j, ·)).map (·.2)).toArray) := by
    unfold SetTable.relaid SetTable.laid
    rw [hw, hl]
    rfl
  have h2 := live_snd owner
  rw [e2] at h2
  have hlen : (((List.range 32).filterMap fun j => (owner.getD j none).map (j, ·))).length = 5 := by
    have : ((((List.range 32).filterMap fun j => (owner.getD j none).map (j, ·))).map (·.2)).length = 5 := by
      rw [h2, e3.length_eq, List.length_range]
    simpa using this
  have hcov : coversAll (((List.range 32).filterMap fun j => (owner.getD j none).map (j, ·)).map (·.2)).toArray es.size = true := by
    unfold coversAll
    rw [List.isPerm_iff, hn]
    rw [h2]
    exact e3
  have hperm : List.Perm ((((List.range 32).filterMap fun j => (owner.getD j none).map (j, ·)).map (·.2)).toArray.filterMap (es[·]?)).toList es.toList := by
    rw [Array.toList_filterMap, h2]
    exact ((e3.filterMap _).trans (by rw [← hn]; exact List.Perm.of_eq (filterMap_getElem?_range es)))
  have hsz : ((((List.range 32).filterMap fun j => (owner.getD j none).map (j, ·)).map (·.2)).toArray.filterMap (es[·]?)).size = 5 := by
    rw [← Array.length_toList, hperm.length_eq, Array.length_toList, hn]
  refine ⟨_, { mask := 31, place := (((List.range 32).filterMap fun j => (owner.getD j none).map (j, ·)).map (·.1)).toArray, dummies := #[], finger := t.finger, led := t.led, moves := t.movedTo 31, plain := t.plain }, ?_, ?_, ?_, hperm, hsz⟩
  rotate_left
  · rw [hsz]
    exact ⟨hp, rfl, by simpa using hlen, by simpa using live_fst owner 32, .inr ⟨rfl, by omega⟩⟩
  · rfl
  · unfold relayAll
    rw [hr]
    dsimp only
    rw [hcov]
    have hf : SetTable.fits { mask := 31, place := (((List.range 32).filterMap fun j => (owner.getD j none).map (j, ·)).map (·.1)).toArray, dummies := #[], finger := t.finger, led := t.led, moves := t.movedTo 31, plain := t.plain } ((((List.range 32).filterMap fun j => (owner.getD j none).map (j, ·)).map (·.2)).toArray.filterMap (es[·]?)).size = true := by
      unfold SetTable.fits SetTable.fill
      rw [hsz]
      simp only [List.size_toArray, List.length_map, hlen]
      rfl
    rw [hf]
    rfl
end DL

set_option Elab.async false
set_option linter.all false
set_option maxRecDepth 100000
set_option maxHeartbeats 4000000
/-! SETS OF INTS, 3: a number put in -/
namespace DL
open PySem PySem.Spec PyProof.Rows L2
def keyE (e : Int × Value) : Int := match e.2 with
  | .int k _ => k
  | _ => 0
structure EsOk (es : List (Int × Value)) (ns : List Int) : Prop where
  all : ∀ e ∈ es, ∃ (k : Int) (t : Tok), e = (hashInt k, .int k t)
  perm : (es.map keyE).Perm ns
theorem EsOk.nil : EsOk [] [] := ⟨fun e h => (List.not_mem_nil h).elim, List.Perm.nil⟩
theorem EsOk.of_perm {es es' : List (Int × Value)} {ns : List Int} (h : EsOk es ns) (p : es'.Perm es) : EsOk es' ns :=
  ⟨fun e he => h.all e (p.mem_iff.mp he), (p.map keyE).trans h.perm⟩
theorem EsOk.push {es : List (Int × Value)} {ns : List Int} (h : EsOk es ns) (k : Int) (t : Tok) : EsOk (es ++ [(hashInt k, .int k t)]) (ns ++ [k]) :=
  ⟨fun e he => by
    rcases List.mem_append.mp he with he | he
    · exact h.all e he
    · rw [List.mem_singleton] at he; exact ⟨k, t, he⟩, by
    rw [List.map_append]
    exact h.perm.append (.refl _)⟩
theorem EsOk.length {es : List (Int × Value)} {ns : List Int} (h : EsOk es ns) : es.length = ns.length := by
  rw [← h.perm.length_eq, List.length_map]
theorem EsOk.elems {prog : Program} {w : World} {es : List (Int × Value)} {ns : List Int} (h : EsOk es ns) : ElemsOf (intKind prog w) es := fun e he => by
  obtain ⟨k, t, rfl⟩ := h.all e he
  exact ⟨⟨k, intKind_is _ _ _ _, rfl⟩, rfl⟩
theorem EsOk.mem {prog : Program} {w : World} {es : List (Int × Value)} {ns : List Int} (h : EsOk es ns) (k : Int) : k ∈ ns ↔ ∃ e ∈ es, (intKind prog w).is k e.2 = true := by
  rw [← h.perm.mem_iff, List.mem_map]
  constructor
  · rintro ⟨e, he, rfl⟩
    obtain ⟨k, t, rfl⟩ := h.all e he
    exact ⟨_, he, intKind_is _ _ _ _⟩
  · rintro ⟨e, he, q⟩
    obtain ⟨k', t, rfl⟩ := h.all e he
    refine ⟨_, he, ?_⟩
    exact (intKind prog w).inj _ _ _ (intKind_is _ _ _ _) q
structure SetAt (w : World) (h : Heap) (a : Addr) (es : Array (Int × Value)) (ep : Nat) (t : SetTable) : Prop where
  ex : ∃ o : Obj, h.get? a = some o ∧ o.ExactSet ∧ o.data = .set es ep t
  tab : TabOk t es.size
  led : t.led = !w.params.followText "set-order"
theorem TabOk.fits {t : SetTable} {n : Nat} (T : TabOk t n) : t.fits n = true := by
  unfold SetTable.fits SetTable.fill
  rw [T.size, T.dummies]
  rcases T.mask with ⟨q, _⟩ | ⟨q, _⟩ <;> rw [q] <;> simp <;> omega
theorem SetAt.keep {w : World} {h h' : Heap} {a : Addr} {es : Array (Int × Value)} {ep : Nat} {t : SetTable} (S : SetAt w h a es ep t) (hk : ∀ o, h.get? a = some o → h'.get? a = some o) : SetAt w h' a es ep t := by
  obtain ⟨o, ho, r⟩ := S.ex
  exact ⟨⟨o, hk o ho, r⟩, S.tab, S.led⟩
theorem SetAt.typeIs {w : World} {s : Shared} {a : Addr} {es : Array (Int × Value)} {ep : Nat} {t : SetTable} (S : SetAt w s.heap a es ep t) : s.TypeIs (.ref a) "set" := by
  obtain ⟨o, ho, hx, _⟩ := S.ex
  exact ⟨o, ho, hx.1⟩
theorem SetAt.lt {w : World} {h : Heap} {a : Addr} {es : Array (Int × Value)} {ep : Nat} {t : SetTable} (S : SetAt w h a es ep t) : a < h.objs.size := by
  obtain ⟨o, ho, _⟩ := S.ex
  exact Heap.lt_size ho
/-- what is stored -/
theorem SetAt.store {w : World} {h : Heap} {a : Addr} {es : Array (Int × Value)} {ep : Nat} {t : SetTable} (S : SetAt w h a es ep t) {es' : Array (Int × Value)} {t' : SetTable} (T : TabOk t' es'.size) (hl : t'.led = t.led) :
    SetAt w (h.update a (Obj.putSet es' t')) a es' (ep + 1) t' := by
  obtain ⟨o, ho, hx, hd⟩ := S.ex
  have hg : (h.update a (Obj.putSet es' t')).get? a = some { o with data := .set es' (ep + 1) t' } := by
    have := Heap.get?_update_self (Obj.putSet es' t') ho (by rw [putSet_of es' t' hd]; rfl)
    rw [putSet_of es' t' hd] at this
    exact this
  exact ⟨⟨_, hg, hx, rfl⟩, T, hl.trans S.led⟩
section
variable {prog : Program} {w : World} {A : Around} {E : Value → Shared → Prop} {s : Shared}
theorem set_add {a : Addr} {es : Array (Int × Value)} {ep : Nat} {tb : SetTable} {ns : List Int} {k : Int} {t : Tok} {Q : Bool → Shared → Prop} (S : SetAt w s.heap a es ep tb) (hE : EsOk es.toList ns) (hn : ns.length < 18)
    (h : ∀ b h' es' ep' tb', Heap.SameBut a s.heap h' → SetAt w h' a es' ep' tb' → EsOk es'.toList (if k ∈ ns then ns else ns ++ [k]) → Q b { s with heap := h', toks := s.toks + 1 }) :
    wpAny (model prog w) A (setAdd a (.int k t)) Q E s := by
  have hsz : es.size = ns.length := by rw [← Array.length_toList]; exact hE.length
  unfold setAdd
  refine wpAny_holding ?_
  refine wpAny_bind ((intKind prog w).pyHash (k := k) (intKind_is _ _ _ _) ?_)
  obtain ⟨o, ho, hx, hd⟩ := S.ex
  have hf := S.tab.fits
  have hb : es.size < scanBound := by unfold scanBound; omega
  unfold setAddHashed setAddHashedIn
  refine wpAny_holding (wpAny_bind (wpAny_setState_of (s := { s with toks := s.toks + 1 }) ho hd hf ?_))
  dsimp only
  rw [byScan_of (knd := intKind prog w) rfl hb hE.elems]
  simp only [↓reduceIte]
  unfold setAddByScan
  refine wpAny_bind (wpAny_bind (wpAny_rule (wpAny_bind (wpAny_setScan_of (knd := intKind prog w) (intKind_is _ _ k t) ho hd hf hE.elems ?_))))
  cases hr : List.findIdx? (fun e => (intKind prog w).is k e.2) es.toList with
  | some j =>
    dsimp only
    obtain ⟨hj, hpj, _⟩ := List.findIdx?_eq_some_iff_getElem.mp hr
    have hk : k ∈ ns := (hE.mem (prog := prog) (w := w) k).mpr ⟨es.toList[j], List.getElem_mem hj, hpj⟩
    refine wpAny_pure (wpAny_pure ?_)
    have := h false s.heap es ep tb (Heap.SameBut.refl a s.heap) S (by rw [if_pos hk]; exact hE)
    exact this
  | none =>
    dsimp only
    have hk : ¬ k ∈ ns := fun hh => by
      obtain ⟨e, he, q⟩ := (hE.mem (prog := prog) (w := w) k).mp hh
      have := List.findIdx?_eq_none_iff.mp hr e he
      rw [q] at this
      cases this
    rw [if_neg hk] at h
    obtain ⟨p, j, hp, hL, hrise, z1, z2⟩ := layNew_ok S.tab (by omega) ((intKind prog w).hash k) (.int k t)
    have hperm := layNew_perm tb es ((intKind prog w).hash k) (.int k t)
    obtain ⟨tb1, htb⟩ : ∃ x, x = ({ tb with place := SetTable.insertAt tb.place p j } : SetTable) := ⟨_, rfl⟩
    have y1 : tb1.plain = true := by rw [htb]; exact S.tab.plain
    have y2 : tb1.dummies = #[] := by rw [htb]; exact S.tab.dummies
    have y3 : tb1.mask = tb.mask := by rw [htb]
    have y4 : tb1.led = tb.led := by rw [htb]
    have y5 : tb1.place.size = es.size + 1 := by rw [htb]; exact z2
    have y6 : tb1.place.toList.Pairwise (· < ·) := by rw [htb]; exact hrise
    rw [← htb] at hL
    rw [hL] at hperm
    rw [hL]
    dsimp only at hperm ⊢
    rw [Array.toList_push] at hperm
    have hE1 := (hE.push k t).of_perm hperm
    refine wpAny_bind (wpAny_pure ?_)
    rw [y1]
    simp only [↓reduceIte]
    rw [hashByValue_scannable 8 (show (Value.int k t).scannable = true from rfl)]
    refine wpAny_bind (wpAny_pure ?_)
    simp only [plainKind, ↓reduceIte, Bool.not_false, Bool.true_and]
    refine wpAny_bind (wpAny_storeSet_of (s := { s with toks := s.toks + 1 }) ho hd ?_ (by rw [z1, sizeLine_eq]; omega))
    dsimp only
    by_cases h5 : tb.mask = 7 ∧ es.size = 4
    · have htf : SetTable.tooFull tb1 = true := by
        unfold SetTable.tooFull SetTable.fill
        rw [y5, y2, y3, h5.1, h5.2]
        rfl
      rw [if_pos htf]
      have hp1 := y1
      obtain ⟨es2, t2, e2, T2, l2, p2, z3⟩ := relaid_ok tb1 (SetTable.insertAt es p ((intKind prog w).hash k, .int k t)) hp1 (by rw [z1, h5.2])
      rw [e2]
      dsimp only
      refine wpAny_bind (wpAny_pure ?_)
      have hg : (s.heap.update a (Obj.putSet (SetTable.insertAt es p ((intKind prog w).hash k, .int k t)) tb1)).get? a = some { o with data := .set (SetTable.insertAt es p ((intKind prog w).hash k, .int k t)) (ep + 1) tb1 } := by
        have := Heap.get?_update_self (Obj.putSet (SetTable.insertAt es p ((intKind prog w).hash k, .int k t)) tb1) ho (by rw [putSet_of _ _ hd]; rfl)
        rw [putSet_of _ _ hd] at this
        exact this
      refine wpAny_bind (wpAny_storeSet_of hg rfl ?_ (by rw [z3, sizeLine_eq]; omega))
      refine wpAny_pure (wpAny_pure (h true _ es2 (ep + 1 + 1) t2 ((Heap.SameBut.update s.heap a _).trans (Heap.SameBut.update _ a _)) ?_ (hE1.of_perm p2)))
      have hg2 : ((s.heap.update a (Obj.putSet (SetTable.insertAt es p ((intKind prog w).hash k, .int k t)) tb1)).update a (Obj.putSet es2 t2)).get? a = some { o with data := .set es2 (ep + 1 + 1) t2 } := by
        have := Heap.get?_update_self (Obj.putSet es2 t2) hg (by rw [putSet_of (o := { o with data := .set (SetTable.insertAt es p ((intKind prog w).hash k, .int k t)) (ep + 1) tb1 }) _ _ rfl]; rfl)
        rw [putSet_of (o := { o with data := .set (SetTable.insertAt es p ((intKind prog w).hash k, .int k t)) (ep + 1) tb1 }) _ _ rfl] at this
        exact this
      exact ⟨⟨_, hg2, hx, rfl⟩, T2, (l2.trans y4).trans S.led⟩
    · have htf : SetTable.tooFull tb1 = false := by
        unfold SetTable.tooFull SetTable.fill
        rw [y5, y2, y3]
        rcases S.tab.mask with ⟨q, q2⟩ | ⟨q, q2⟩ <;> rw [q] <;> simp <;> omega
      rw [if_neg (by rw [htf]; exact Bool.false_ne_true)]
      refine wpAny_pure (wpAny_pure (h true _ _ (ep + 1) tb1 (Heap.SameBut.update s.heap a _) ?_ hE1))
      refine S.store ⟨y1, y2, by rw [z1]; exact y5, y6, ?_⟩ y4
      rw [z1, y3]
      rcases S.tab.mask with ⟨q, q2⟩ | ⟨q, q2⟩
      · exact .inl ⟨q, by omega⟩
      · exact .inr ⟨q, by omega⟩
end
end DL

set_option Elab.async false
set_option linter.all false
set_option maxRecDepth 100000
set_option maxHeartbeats 4000000
/-! SETS OF INTS, 4: the set of a list -/
namespace DL
open PySem PySem.Spec PyProof.Rows L2
/-- the numbers met, each once, in the order of meeting -/
def met (ns : List Int) : List Int := ns.foldl (fun σ k => if k ∈ σ then σ else σ ++ [k]) []
theorem met_snoc (ns : List Int) (k : Int) : met (ns ++ [k]) = if k ∈ met ns then met ns else met ns ++ [k] := by
  unfold met
  rw [List.foldl_append]
  rfl
theorem met_take (ns : List Int) (i : Nat) (h : i < ns.length) : met (ns.take (i + 1)) = if ns.getD i 0 ∈ met (ns.take i) then met (ns.take i) else met (ns.take i) ++ [ns.getD i 0] := by
  rw [List.take_succ_eq_append_getElem h, met_snoc]
  have : ns.getD i 0 = ns[i] := by simp [List.getD, h]
  rw [this]
theorem met_le (ns : List Int) : (met ns).length ≤ ns.length := by
  have : ∀ (l σ : List Int), (l.foldl (fun σ k => if k ∈ σ then σ else σ ++ [k]) σ).length ≤ σ.length + l.length := by
    intro l
    induction l with
    | nil => intro σ; simp
    | cons k l ih =>
      intro σ
      rw [List.foldl_cons]
      refine Nat.le_trans (ih _) ?_
      split <;> simp <;> omega
  have q := this ns []
  simp only [List.length_nil, Nat.zero_add] at q
  exact q
section
variable {prog : Program} {w : World} {A : Around} {R : Result → Shared → Prop} {I : Addr} {fp wr : List Addr} {G : Array GenState → Array GenState → Prop} {P : Nat → Value → Prop} {St : Nat → Shared → Prop}
theorem update_loop {ns : List Int} (W : WalksS prog w A.in1 I fp wr G ns.length P St) (S : Addr) (hSf : S ∉ fp) (hval : ∀ i v, P i v → ∃ t, v = .int (ns.getD i 0) t) (hb : ns.length < 18) :
    ∀ (k i : Nat) (s : Shared) (es : Array (Int × Value)) (ep : Nat) (tb : SetTable), ns.length - i = k → i ≤ ns.length → St i s → SetAt w s.heap S es ep tb → EsOk es.toList (met (ns.take i)) →
      (∀ s' es' ep' tb', Moved (S :: wr) G s s' → SetAt w s'.heap S es' ep' tb' → EsOk es'.toList (met ns) → R (.ok (.ret .none)) s') →
      codeAny (model prog w) A (.builtin "set.update.loop" ⟨[.ref S, .ref I], []⟩) R s := by
  have hSw : S ∉ wr := fun h => hSf (W.sub _ h)
  have hsub : ∀ b ∈ wr, b ∈ S :: wr := fun b hb => List.mem_cons_of_mem _ hb
  intro k
  induction k with
  | zero =>
    intro i s es ep tb hk hi hst hS hE hR
    have hin : i = ns.length := by omega
    subst hin
    refine codeAny_builtin F.entry_set_update_loop ?_
    rw [Around.under_plainId F.plain_set_update_loop _]
    show wpAny _ A.in1 (pyNext (.ref I) >>= _) _ _ s
    refine wpAny_bind (W.done s _ _ hst fun s' hm => ?_)
    show wpAny _ A.in1 (ret Value.none) _ _ s'
    rw [List.take_length] at hE
    exact wpAny_pure (hR s' es ep tb (hm.mono hsub) (hS.keep fun o ho => hm.heap S _ hSw ho) hE)
  | succ k ih =>
    intro i s es ep tb hk hi hst hS hE hR
    have hlt : i < ns.length := by omega
    refine codeAny_builtin F.entry_set_update_loop ?_
    rw [Around.under_plainId F.plain_set_update_loop _]
    show wpAny _ A.in1 (pyNext (.ref I) >>= _) _ _ s
    refine wpAny_bind (W.item i s _ _ hlt hst fun v s' hP hst' hm => ?_)
    obtain ⟨t, rfl⟩ := hval i v hP
    have hS' := hS.keep fun o ho => hm.heap S _ hSw ho
    show wpAny _ A.in1 (holding [Value.int (ns.getD i 0) t] (setAdd S (.int (ns.getD i 0) t)) >>= _) _ _ s'
    refine wpAny_bind (wpAny_holding ?_)
    have hl := met_le (ns.take i)
    rw [List.length_take] at hl
    refine set_add hS' hE (by omega) fun b h' es' ep' tb' hsb hS2 hE2 => ?_
    rw [← met_take ns i hlt] at hE2
    refine wpAny_pure ⟨plainId_quiet F.plain_set_update_loop _, ih (i + 1) _ es' ep' tb' (by omega) hlt (W.frame _ s' _ _ hst' (Nat.le_succ _) fun b hb o e => ?_) hS2 hE2 fun s'' es'' ep'' tb'' hm'' hS'' hE'' => ?_⟩
    · rw [hsb.2 b (fun h : b = S => hSf (by rw [← h]; exact hb))]; exact e
    · refine hR s'' es'' ep'' tb'' (Moved.trans W.gtrans ((hm.mono hsub).then_heap (Nat.le_succ _) fun b o hb e => ?_) hm'') hS'' hE''
      rw [hsb.2 b (fun h : b = S => hb (by rw [h]; exact List.mem_cons_self))]; exact e
end
section
variable {prog : Program} {w : World} {A : Around} {E : Value → Shared → Prop} {s : Shared}
theorem set_new1 (a : Value) {Q₁ : Value → Shared → Prop}
    (h : Q₁ (.ref s.heap.objs.size) { s with heap := s.heap.push { cls := .type "set", dict := none, data := .set #[] 0 (.fresh 0 0 (!w.params.followText "set-order")) } }) :
    codeAny (model prog w) A (.call (.builtin "set.__new__") ⟨[.type "set", a], []⟩) (wants Q₁ E) s := by
  refine codeAny_of_tree ?_
  show wpAny _ A.in1 (do checkBuiltinCall "set.__new__" ⟨[.type "set", a], []⟩; again (.builtin "set.__new__" ⟨[.type "set", a], []⟩)) _ _ s
  refine wpAny_bind (wpAny_of_eq (F.newCall_set_1 a) (wpAny_pure ⟨plainId_quiet F.plain_set_new _, codeAny_builtin F.entry_set_new ?_⟩))
  rw [Around.under_plainId F.plain_set_new _]
  unfold Builtin.«set.__new__» Builtin.Frozenset.newClass
  have hsub := sub_set_self
  obtain ⟨hp, g, d, tk, os⟩ := s
  dsimp only
  wp_walk
  refine wpAny_askSetting (wpAny_pure ?_)
  dsimp only
  simp only [newObj]
  refine wpAny_bind (wpAny_alloc (wpAny_pure ?_))
  exact wpAny_pure h
theorem fresh_tab (led : Bool) : TabOk (.fresh 0 0 led) 0 := ⟨rfl, rfl, rfl, List.Pairwise.nil, .inl ⟨rfl, by omega⟩⟩
theorem call_set {l : Addr} {items : Array Value} {ns : List Int} {Q : Value → Shared → Prop}
    (hh : A.handled = none) (hl : s.heap.IsList l items) (hi : IntsAre items.toList ns) (hb : ns.length < 18)
    (h : ∀ (h' : Heap) (tk : Nat) es ep tb, s.toks ≤ tk → SetAt w h' s.heap.objs.size es ep tb → EsOk es.toList (met ns) →
      (∀ b o, b < s.heap.objs.size → s.heap.get? b = some o → h'.get? b = some o) → Q (.ref s.heap.objs.size) { s with heap := h', toks := tk }) :
    wpAny (model prog w) A (call (.type "set") [.ref l]) Q E s := by
  obtain ⟨c, tl, hmro⟩ := F.called_set.mro
  have hmade := F.called_set.made
  have hsub := F.called_set.sub
  refine wpAny_call (codeAny_of_tree ?_)
  show wpAny _ _ (callAny (.type "set") _) _ _ _
  refine wpAny_pure ⟨Code.quiet_builtin _ (by decide +kernel), codeAny_builtin F.entry_type_call ?_⟩
  rw [Around.under_plain (weight_type_call_type "set" [.ref l] []) rfl]
  have h1 := F.called_set.notType
  have h2 := F.called_set.canCreate
  have hct := F.typeCall_set_1 (.ref l)
  repeat (any_goals (first | assumption | wp_step))
  have hlen : items.size = ns.length := by rw [← Array.length_toList]; exact IntsAre.length hi
  generalize hled : (!w.params.followText "set-order") = led
  refine codeAny_mono (set_new1 (.ref l) (E := E) (Q₁ := fun obj s₁ => obj = .ref s.heap.objs.size ∧ s₁ = { s with heap := s.heap.push { cls := .type "set", dict := none, data := .set #[] 0 (.fresh 0 0 led) } }) (by rw [hled]; exact ⟨rfl, rfl⟩)) fun r s₁ hr => ?_
  cases r with
  | error e => exact hr
  | ok fl =>
    cases fl with
    | ret obj =>
      obtain ⟨rfl, rfl⟩ := hr
      have hS : (s.heap.push { cls := .type "set", dict := none, data := .set #[] 0 (.fresh 0 0 led) }).get? s.heap.objs.size = some { cls := .type "set", dict := none, data := .set #[] 0 (.fresh 0 0 led) } := Heap.get?_push_size _ rfl
      have hT : Shared.TypeIs { s with heap := s.heap.push { cls := .type "set", dict := none, data := .set #[] 0 (.fresh 0 0 led) } } (.ref s.heap.objs.size) "set" := ⟨_, hS, rfl⟩
      have hli := F.called_set.init.lookup
      have hbi := F.called_set.init.bind (.ref s.heap.objs.size)
      repeat (any_goals (first | assumption | wp_step))
      refine codeAny_mono (codeAny_call_builtin (R := wants (fun r s₂ => r = .none ∧ ∃ h' tk es ep tb, s₂ = { s with heap := h', toks := tk } ∧ s.toks ≤ tk ∧ SetAt w h' s.heap.objs.size es ep tb ∧ EsOk es.toList (met ns) ∧
          (∀ b o, b < s.heap.objs.size → s.heap.get? b = some o → h'.get? b = some o)) E) F.called_set.init.plain F.entry_set_init (check_set_init_1 hT ?_)) fun r₂ s₂ hr₂ => ?_
      · obtain ⟨ol, hol, hcl, nl, hdl⟩ := hl
        obtain ⟨ocls, odict, odata, oslots⟩ := ol
        simp only at hcl hdl
        subst hcl; subst hdl
        have hol' : (s.heap.push { cls := .type "set", dict := none, data := .set #[] 0 (.fresh 0 0 led) }).get? l = some { cls := .type "list", dict := odict, data := .seq items nl, slots := oslots } := Heap.get?_push_of_some _ hol
        have hsls := F.sub_list_set
        have hslf := F.sub_list_frozenset
        have hne : (Value.type "list" == Value.type "dict") = false := by decide
        have hl1 : (s.heap.push { cls := .type "set", dict := none, data := .set #[] 0 (.fresh 0 0 led) }).IsList l items := ⟨_, hol', rfl, nl, rfl⟩
        unfold Builtin.«set.__init__» noKeywords Builtin.Frozenset.updateFrom
        generalize hPI : pyIter = PI
        wp_walk
        subst hPI
        refine wpAny_pyIter_list hl1 ?_
        refine wpAny_bind (wpAny_runValue ?_)
        have hlS : l < s.heap.objs.size := Heap.lt_size hol
        have hh3 : A.in1.in1.in1.handled = none := by simp [hh]
        have hneI : l ≠ (s.heap.push { cls := .type "set", dict := none, data := .set #[] 0 (.fresh 0 0 led) }).objs.size := by
          rw [Heap.size_push]; exact Nat.ne_of_lt (Nat.lt_succ_of_lt hlS)
        have hSf : s.heap.objs.size ∉ [(s.heap.push { cls := .type "set", dict := none, data := .set #[] 0 (.fresh 0 0 led) }).objs.size, l] := by
          rw [Heap.size_push]; simp only [List.mem_cons, List.mem_singleton, List.not_mem_nil, or_false, not_or]
          exact ⟨Nat.ne_of_lt (Nat.lt_succ_self _), Nat.ne_of_gt hlS⟩
        have hval : ∀ (i : Nat) (v : Value), items[i]? = some v → ∃ t, v = .int (ns.getD i 0) t := fun i v hv =>
          IntsAre.int_at hi i v (by rw [Array.getElem?_toList]; exact hv)
        have W := (Walks.list (prog := prog) (w := w) hh3 (s.heap.push { cls := .type "set", dict := none, data := .set #[] 0 (.fresh 0 0 led) }).objs.size l hneI items).toS
        rw [hlen] at W
        refine update_loop W s.heap.objs.size hSf hval hb (ns.length - 0) 0 _ #[] 0 (.fresh 0 0 led) (by omega) (Nat.zero_le _)
          ⟨⟨_, Heap.get?_push_size _ rfl, rfl, rfl⟩, (hl1.push _)⟩ ?hS0 (by rw [List.take_zero]; exact EsOk.nil) ?hR
        case hS0 =>
          have hget : ((s.heap.push { cls := .type "set", dict := none, data := .set #[] 0 (.fresh 0 0 led) }).push { cls := .type "list_iterator", data := .fields #[.ref l, .int 0 0] }).get? s.heap.objs.size
              = some { cls := .type "set", dict := none, data := .set #[] 0 (.fresh 0 0 led) } := Heap.get?_push_of_some _ hS
          exact ⟨⟨_, hget, ⟨rfl, rfl, rfl⟩, rfl⟩, fresh_tab led, hled.symm⟩
        case hR =>
          intro s' es ep tb hm hS' hE'
          obtain ⟨h', g', d', tk', os'⟩ := s'
          have eg : g' = s.gens := hm.gens
          have ed : d' = s.drawn := hm.drawn
          have eo : os' = s.os := hm.os
          have etk : s.toks ≤ tk' := hm.toks
          subst eg; subst ed; subst eo
          show wpAny _ _ _ _ _ _
          refine wpAny_pure ?_
          show wpAny _ _ (ret Value.none) _ _ _
          refine wpAny_pure ⟨rfl, h', tk', es, ep, tb, rfl, etk, hS', hE', fun b o hb e => ?_⟩
          have hb1 : b ≠ s.heap.objs.size := Nat.ne_of_lt hb
          have hb2 : b ≠ (s.heap.push { cls := .type "set", dict := none, data := .set #[] 0 (.fresh 0 0 led) }).objs.size := by
            rw [Heap.size_push]; exact Nat.ne_of_lt (Nat.lt_succ_of_lt hb)
          exact hm.heap b o (by simp only [List.mem_cons, List.mem_singleton, List.not_mem_nil, or_false, not_or]; exact ⟨hb1, hb2⟩) (Heap.get?_push_of_some _ (Heap.get?_push_of_some _ e))
      · cases r₂ with
        | error e => exact hr₂
        | ok fl₂ =>
          cases fl₂ with
          | ret r =>
            obtain ⟨rfl, h', tk, es, ep, tb, rfl, etk, hS', hE', hk'⟩ := hr₂
            repeat (any_goals (first | assumption | wp_step))
            exact h _ _ _ _ _ etk hS' hE' hk'
          | _ => exact hr₂.elim
    | _ => exact hr.elim
end
end DL

set_option Elab.async false
set_option linter.all false
set_option maxRecDepth 100000
set_option maxHeartbeats 4000000
/-! SETS OF INTS, 5: the walk over a set -/
namespace DL
open PySem PySem.Spec PyProof.Rows L2
theorem slot_setit_next : PySem.Slot "set_iterator" "__next__" "set_iterator.__next__" :=
  .of (owner := "set_iterator") (n := "__next__") (by rw [typeLookup_type, builtinLookup_eq_fast]; kernel_rfl) (by decide +kernel) (by decide +kernel) (by decide +kernel)
    (by first | exact .inl (by decide +kernel) | exact .inr (by decide +kernel)) (by rw [isSubtype_type]; kernel_rfl)
theorem slot_setit_iter : PySem.Slot "set_iterator" "__iter__" "set_iterator.__iter__" :=
  .of (owner := "set_iterator") (n := "__iter__") (by rw [typeLookup_type, builtinLookup_eq_fast]; kernel_rfl) (by decide +kernel) (by decide +kernel) (by decide +kernel)
    (by first | exact .inl (by decide +kernel) | exact .inr (by decide +kernel)) (by rw [isSubtype_type]; kernel_rfl)
theorem entry_setit_next : entryFor table "set_iterator.__next__" = some Builtin.«set_iterator.__next__» := entryFor_of_tree (by kernel_rfl)
theorem entry_setit_iter : entryFor table "set_iterator.__iter__" = some Builtin.«dict_keyiterator.__iter__» :=
  entryFor_alias (id' := "dict_keyiterator.__iter__") (by kernel_rfl) rfl (by decide +kernel) (by kernel_rfl)
theorem entry_set_iter' : entryFor table "set.__iter__" = some Builtin.«frozenset.__iter__» :=
  entryFor_alias (id' := "frozenset.__iter__") (by kernel_rfl) rfl (by decide +kernel) (by kernel_rfl)
theorem owner_setit : Manifest.owners.lookup (String.ofList ['r', 'o', 't', 'a', 'r', 'e', 't', 'i', '_', 't', 'e', 's'].reverse) = some Manifest.sig_set_iterator := by kernel_rfl
theorem args_setit_next (a : Value) : argsOk "set_iterator.__next__" ⟨[a], []⟩ := by
  unfold argsOk; rw [signature?_of (id := "set_iterator.__next__") (n := ['_', '_', 't', 'x', 'e', 'n', '_', '_']) (o := ['r', 'o', 't', 'a', 'r', 'e', 't', 'i', '_', 't', 'e', 's']) (by kernel_rfl) owner_setit]; kernel_rfl
theorem args_setit_iter (a : Value) : argsOk "set_iterator.__iter__" ⟨[a], []⟩ := by
  unfold argsOk; rw [signature?_of (id := "set_iterator.__iter__") (n := ['_', '_', 'r', 'e', 't', 'i', '_', '_']) (o := ['r', 'o', 't', 'a', 'r', 'e', 't', 'i', '_', 't', 'e', 's']) (by kernel_rfl) owner_setit]; kernel_rfl
/-! ### the order -/
theorem erase_perm {α : Type} : ∀ (l : List α) (i : Nat) (h : i < l.length), List.Perm (l[i] :: l.eraseIdx i) l
  | a :: l, 0, _ => .refl _
  | a :: l, i + 1, h => by
    simp only [List.getElem_cons_succ, List.eraseIdx_cons_succ]
    exact (List.Perm.swap a _ _).trans ((erase_perm l i (by simpa using h)).cons a)
theorem pick_go {α : Type} (next : Nat → Nat) : ∀ (fuel k : Nat) (left : List α) (out : Array α), left.length = fuel → List.Perm (pickOrder.go next fuel k left out).toList (out.toList ++ left)
  | 0, k, left, out, h => by
    have : left = [] := List.eq_nil_of_length_eq_zero h
    subst this
    simp [pickOrder.go]
  | fuel + 1, k, left, out, h => by
    unfold pickOrder.go
    have hlt : next k % left.length < left.length := Nat.mod_lt _ (by omega)
    rw [List.getElem?_eq_getElem hlt]
    dsimp only
    refine (pick_go next fuel (k + 1) _ _ (by rw [List.length_eraseIdx_of_lt hlt]; omega)).trans ?_
    rw [Array.toList_push, List.append_assoc]
    exact List.Perm.append_left _ (erase_perm left _ hlt)
theorem pick_perm {α : Type} (next : Nat → Nat) (xs : Array α) : List.Perm (pickOrder next xs).toList xs.toList := by
  unfold pickOrder
  simpa using pick_go next xs.size 0 xs.toList #[] (by simp)
def ordE (w : World) (a : Addr) (ep : Nat) (es : Array (Int × Value)) : Array (Int × Value) := if w.params.followText "set-order" = true then pickOrder (w.params.setOrder a ep) es else es
theorem ord_perm (w : World) (a : Addr) (ep : Nat) (es : Array (Int × Value)) : List.Perm (ordE w a ep es).toList es.toList := by
  unfold ordE
  split
  · exact pick_perm _ _
  · exact .refl _
theorem ord_size (w : World) (a : Addr) (ep : Nat) (es : Array (Int × Value)) : (ordE w a ep es).size = es.size := by
  have := (ord_perm w a ep es).length_eq
  simpa using this
def SlotAt (w : World) (tb : SetTable) (i slot : Nat) : Prop := w.params.followText "set-order" = false → (i = 0 → slot = 0) ∧ ∀ k x, i = k + 1 → tb.place[k]? = some x → slot = x + 1
def IsSetIter (h : Heap) (it a : Addr) (slot i n ep : Nat) : Prop := ∃ o : Obj, h.get? it = some o ∧ o.cls = .type "set_iterator" ∧ o.data = .fields #[.int slot 0, .int i 0, .ref a, .int n 0, .int ep 0]
section
variable {prog : Program} {w : World} {A : Around} {E : Value → Shared → Prop} {s : Shared} {a : Addr} {es : Array (Int × Value)} {ep : Nat} {tb : SetTable}
theorem set_state (S : SetAt w s.heap a es ep tb) {Q : (Array (Int × Value) × Nat × SetTable) → Shared → Prop} (h : Q (es, ep, tb) s) : wpAny (model prog w) A (setState a) Q E s := by
  obtain ⟨o, ho, hx, hd⟩ := S.ex
  exact wpAny_setState_of ho hd S.tab.fits h
theorem by_text {Q : Bool → Shared → Prop} (h : Q (w.params.followText "set-order") s) : wpAny (model prog w) A setsByText Q E s := by
  unfold setsByText
  exact wpAny_bind (wpAny_askSetting (wpAny_pure h))
theorem set_walk_text (S : SetAt w s.heap a es ep tb) (hb : w.params.followText "set-order" = true) {Q : Array (Int × Value) → Shared → Prop} (h : Q (ordE w a ep es) s) : wpAny (model prog w) A (setWalk a) Q E s := by
  unfold setWalk
  refine wpAny_bind (set_state S ?_)
  dsimp only
  refine wpAny_bind (by_text ?_)
  rw [hb]
  simp only [↓reduceIte]
  refine wpAny_bind (wpAny_askSetting (wpAny_pure ?_))
  have : ordE w a ep es = pickOrder (w.params.setOrder a ep) es := by unfold ordE; rw [if_pos hb]
  rw [this] at h
  exact h
theorem set_next {i slot : Nat} (S : SetAt w s.heap a es ep tb) (hs : SlotAt w tb i slot) (hi : i ≤ es.size) {Q : Option (Value × Nat) → Shared → Prop}
    (h1 : ∀ e slot', (ordE w a ep es)[i]? = some e → SlotAt w tb (i + 1) slot' → Q (some (e.2, slot')) s) (h2 : (ordE w a ep es)[i]? = none → Q none s) : wpAny (model prog w) A (setNext a slot i ep) Q E s := by
  unfold setNext
  refine wpAny_bind (set_state S ?_)
  dsimp only
  refine wpAny_bind (by_text ?_)
  cases hb : w.params.followText "set-order" with
  | true =>
    simp only [↓reduceIte, bne_self_eq_false, Bool.false_eq_true]
    refine wpAny_bind (set_walk_text S hb ?_)
    refine wpAny_pure ?_
    cases q : (ordE w a ep es)[i]? with
    | none => exact h2 q
    | some e => exact h1 e slot q (fun z => by rw [hb] at z; cases z)
  | false =>
    simp only [↓reduceIte, Bool.false_eq_true]
    have ho : ordE w a ep es = es := by unfold ordE; rw [if_neg (by rw [hb]; exact Bool.false_ne_true)]
    rw [ho] at h1 h2
    have hdr : (!tb.plain && decide (es.size > 1)) = false := by rw [S.tab.plain]; rfl
    refine wpAny_ite_split (fun hab => absurd hab (by show ¬ ((!tb.plain && decide (es.size > 1)) = true); rw [hdr]; exact Bool.false_ne_true)) fun _ => ?_
    have hled : tb.led = true := by rw [S.led, hb]; rfl
    refine wpAny_bind ?_
    show wpAny _ _ (if (!tb.led && !es.isEmpty) = true then _ else pure ()) _ _ _
    rw [if_neg (by rw [hled]; simp)]
    refine wpAny_pure ?_
    obtain ⟨hs1, hs2⟩ := hs hb
    have hbel : SetTable.below tb.place slot = i := below_next S.tab.rise slot hs1 hs2 (by rw [S.tab.size]; exact hi)
    rw [hbel]
    refine wpAny_pure ?_
    by_cases hlt : i < es.size
    · have q1 : es[i]? = some es[i] := Array.getElem?_eq_getElem hlt
      have hlt2 : i < tb.place.size := by rw [S.tab.size]; exact hlt
      have q2 : tb.place[i]? = some tb.place[i] := Array.getElem?_eq_getElem hlt2
      rw [q1, q2]
      refine h1 es[i] (tb.place[i] + 1) q1 fun _ => ⟨fun z => by omega, fun k x hk hx => ?_⟩
      have : k = i := by omega
      subst this
      rw [q2] at hx
      cases hx
      rfl
    · have q1 : es[i]? = none := Array.getElem?_eq_none (by omega)
      rw [q1]
      exact h2 q1
theorem setit_type {it : Addr} {slot i n : Nat} (hit : IsSetIter s.heap it a slot i n ep) : s.TypeIs (.ref it) "set_iterator" := by
  obtain ⟨o, ho, hc, _⟩ := hit
  exact ⟨o, ho, hc⟩
theorem set_iter {Q : Value → Shared → Prop} (S : SetAt w s.heap a es ep tb)
    (h : Q (.ref s.heap.objs.size) { s with heap := s.heap.push { cls := .type "set_iterator", data := .fields #[.int 0 0, .int 0 0, .ref a, .int es.size 0, .int ep 0] } }) : wpAny (model prog w) A (pyIter (.ref a)) Q E s := by
  have hT := S.typeIs
  refine wpAny_pyIter_slot hT F.slot_set_iter (wpAny_call_entry F.slot_set_iter hT entry_set_iter' ?_ (F.args_set_iter_1 _))
  unfold Builtin.«frozenset.__iter__»
  refine wpAny_bind ?_
  show wpAny _ _ (pure a) _ _ s
  refine wpAny_pure ?_
  obtain ⟨o, ho, hx, hd⟩ := S.ex
  refine wpAny_bind ?_
  unfold Builtin.Frozenset.sizeOf
  refine wpAny_bind (wpAny_setEntries_of ho hd S.tab.fits (wpAny_pure ?_))
  refine wpAny_bind ?_
  unfold setDrawn
  refine wpAny_bind (set_state S ?_)
  dsimp only
  refine wpAny_bind (by_text (wpAny_pure ?_))
  have hdr : (!(w.params.followText "set-order") && (!tb.plain && decide (es.size > 1))) = false := by rw [S.tab.plain]; simp
  show wpAny _ _ (if (!(w.params.followText "set-order") && (!tb.plain && decide (es.size > 1))) = true then _ else _) _ _ _
  rw [if_neg (by rw [hdr]; exact Bool.false_ne_true)]
  refine wpAny_bind (wpAny_pure ?_)
  refine wpAny_bind (wpAny_setEpoch_of ho hd S.tab.fits ?_)
  refine wpAny_bind (wpAny_newObj_type (wpAny_pure ⟨_, rfl, "set_iterator", _, ⟨_, Heap.get?_push_size _ rfl, rfl⟩, slot_setit_next.lookup, ?_⟩))
  exact h
theorem mapF {o : Obj} {xs : Array Value} (hd : o.data = .fields xs) (f : Array Value → Array Value) : (Obj.mapFields f o).data = .fields (f xs) := Obj.data_mapFields hd f
theorem setit_item {it : Addr} {slot i : Nat} {Q : Option Value → Shared → Prop} (S : SetAt w s.heap a es ep tb) (hit : IsSetIter s.heap it a slot i es.size ep) (hs : SlotAt w tb i slot) (hi : i < es.size)
    (hQ : ∀ e h' slot', (ordE w a ep es)[i]? = some e → IsSetIter h' it a slot' (i + 1) es.size ep → SlotAt w tb (i + 1) slot' → Heap.SameBut it s.heap h' → Q (some e.2) { s with heap := h' }) : wpAny (model prog w) A (pyNext (.ref it)) Q E s := by
  obtain ⟨o, ho, hc, hd⟩ := id hit
  obtain ⟨oa, hoa, hxa, hda⟩ := S.ex
  unfold pyNext
  refine wpAny_bind (wpAny_attempt (wpAny_callSpecial?_slot (name := Str.ofString "__next__") (setit_type hit) slot_setit_next
    (wpAny_call_entry slot_setit_next (setit_type hit) entry_setit_next ?_ (args_setit_next _))))
  unfold Builtin.«set_iterator.__next__»
  refine wpAny_bind (wpAny_pure ?_)
  refine wpAny_bind (wpAny_fieldsOf ho hd ?_)
  dsimp only
  refine wpAny_bind (wpAny_setEntries_of hoa hda S.tab.fits ?_)
  rw [if_neg (by simp)]
  simp only [Int.toNat_natCast]
  refine wpAny_bind (set_next S hs (Nat.le_of_lt hi) (fun e slot' he hs' => ?_) fun he => ?_)
  · dsimp only
    refine wpAny_bind (wpAny_setField ho hd (by simp) ?_)
    have ho1 : (s.heap.update it (Obj.mapFields (·.setIfInBounds 0 (rawInt (slot' : Int))))).get? it = some (Obj.mapFields (·.setIfInBounds 0 (rawInt (slot' : Int))) o) :=
      Heap.get?_update_self _ ho (Obj.isFreed_of_fields (Obj.data_mapFields hd _))
    have hd1 := Obj.data_mapFields hd (·.setIfInBounds 0 (rawInt (slot' : Int)))
    refine wpAny_bind (wpAny_setField (s := { s with heap := s.heap.update it (Obj.mapFields (·.setIfInBounds 0 (rawInt (slot' : Int)))) }) ho1 hd1 (by simp) ?_)
    have ho2 := Heap.get?_update_self (Obj.mapFields (·.setIfInBounds 1 (rawInt ((i : Int) + 1)))) ho1 (Obj.isFreed_of_fields (Obj.data_mapFields hd1 _))
    have hd2 := Obj.data_mapFields hd1 (·.setIfInBounds 1 (rawInt ((i : Int) + 1)))
    refine wpAny_pure ⟨_, rfl, wpAny_pure (hQ e _ slot' he ⟨_, ho2, ?_, ?_⟩ hs' ((Heap.SameBut.update s.heap it _).trans (Heap.SameBut.update _ it _)))⟩
    · rw [Obj.cls_mapFields, Obj.cls_mapFields]; exact hc
    · rw [hd2]; simp [rawInt]
  · rw [Array.getElem?_eq_none_iff, ord_size] at he
    omega
theorem setit_done {it : Addr} {slot i : Nat} {Q : Option Value → Shared → Prop} (hh : A.handled = none) (S : SetAt w s.heap a es ep tb) (hit : IsSetIter s.heap it a slot i es.size ep) (hs : SlotAt w tb i slot) (hi : i = es.size)
    (hQ : ∀ h', Heap.ExtBut it s.heap h' → Q none { s with heap := h' }) : wpAny (model prog w) A (pyNext (.ref it)) Q E s := by
  obtain ⟨o, ho, hc, hd⟩ := id hit
  obtain ⟨oa, hoa, hxa, hda⟩ := S.ex
  unfold pyNext
  refine wpAny_bind (wpAny_attempt (wpAny_callSpecial?_slot (name := Str.ofString "__next__") (setit_type hit) slot_setit_next
    (wpAny_call_entry slot_setit_next (setit_type hit) entry_setit_next ?_ (args_setit_next _))))
  unfold Builtin.«set_iterator.__next__»
  refine wpAny_bind (wpAny_pure ?_)
  refine wpAny_bind (wpAny_fieldsOf ho hd ?_)
  dsimp only
  refine wpAny_bind (wpAny_setEntries_of hoa hda S.tab.fits ?_)
  rw [if_neg (by simp)]
  simp only [Int.toNat_natCast]
  refine wpAny_bind (set_next S hs (Nat.le_of_eq hi) (fun e slot' he hs' => ?_) fun he => ?_)
  · obtain ⟨q, _⟩ := Array.getElem?_eq_some_iff.mp he
    rw [ord_size] at q
    omega
  · dsimp only
    refine wpAny_bind (wpAny_setField ho hd (by simp) ?_)
    show wpAny _ _ (newExc (.type "StopIteration") [] >>= _) _ _ _
    refine wpAny_bind ?_
    simp only [newExc, newTuple]
    refine wpAny_bind (wpAny_newObj_type ?_ (by size_fits))
    refine wpAny_bind (m := firstArgMember _ _) (wpAny_of_eq (a := Value.none) (by first | rfl | (simp only [firstArgMember]; rfl)) ?_)
    refine wpAny_newObj_type ?_ (by size_fits)
    simp only [raiseNew]
    refine wpAny_bind (wpAny_handled ?_)
    rw [show A.in1.handled = none from hh]
    refine wpAny_bind (wpAny_pure (wpAny_throw ?_))
    refine wpAny_bind (wpAny_isInstance (T := "StopIteration") (b := true) ⟨_, Heap.get?_push_size _ rfl, rfl⟩ isSubtype_stop ?_)
    exact wpAny_pure (hQ _ (((Heap.SameBut.update ..).extBut.push _).push _))
theorem setit_self {it : Addr} {slot i n : Nat} {Q : Value → Shared → Prop} (hit : IsSetIter s.heap it a slot i n ep) (h : Q (.ref it) s) : wpAny (model prog w) A (pyIter (.ref it)) Q E s := by
  refine wpAny_pyIter_slot (setit_type hit) slot_setit_iter (wpAny_call_entry slot_setit_iter (setit_type hit) entry_setit_iter ?_ (args_setit_iter _))
  show wpAny _ _ (ret (.ref it)) _ _ s
  exact wpAny_pure ⟨_, rfl, "set_iterator", _, setit_type hit, slot_setit_next.lookup, h⟩
theorem set_walks (hh : A.handled = none) (I : Addr) (hne : a ≠ I) : Walks prog w A I [I, a] [I] es.size (fun i v => ∃ e, (ordE w a ep es)[i]? = some e ∧ v = e.2)
    (fun i h => SetAt w h a es ep tb ∧ ∃ slot, IsSetIter h I a slot i es.size ep ∧ SlotAt w tb i slot) where
  sub := fun b hb => by simp at hb; simp [hb]
  frame := fun i h h' st hk => by
    obtain ⟨S, slot, ⟨o, ho, r⟩, hs⟩ := st
    exact ⟨S.keep fun o e => hk a (by simp) o e, slot, ⟨o, hk I (by simp) o ho, r⟩, hs⟩
  item := fun i s Q E hi st hQ => by
    obtain ⟨S, slot, hit, hs⟩ := st
    refine setit_item S hit hs hi fun e h' slot' he hit' hs' hsb => ?_
    exact hQ e.2 h' s.toks ⟨e, he, rfl⟩ ⟨S.keep fun o q => hsb.extBut a o hne q, slot', hit', hs'⟩ fun b o hb q => hsb.extBut b o (fun z => hb (by simp [z])) q
  done := fun s Q E st hQ => by
    obtain ⟨S, slot, hit, hs⟩ := st
    exact setit_done hh S hit hs rfl fun h' he => hQ h' s.toks fun b o hb q => he b o (fun z => hb (by simp [z])) q
  self := fun _ _ _ _ st hQ => by
    obtain ⟨S, slot, hit, hs⟩ := st
    exact setit_self hit hQ
theorem hint_set {r : Addr} {Q : Bool → Shared → Prop} (hT : s.TypeIs (.ref r) "set") (h : Q false s) : wpAny (model prog w) A (Builtin.List.listLengthHint (.ref r)) Q E s := by
  unfold Builtin.List.listLengthHint
  refine wpAny_bind (wpAny_specialOf hT F.slot_set_len.lookup ?_)
  generalize hid : ("set.__len__" : String) = id0
  wp_delta
  rw [show splitId id0 = some ("set", "__len__") from by subst hid; decide +kernel]
  subst hid
  refine wpAny_bind (wpAny_isInstance (T := "set") (b := true) hT (by rw [isSubtype_type]; kernel_rfl) ?_)
  refine wpAny_ite_split (fun hab => absurd hab (by decide)) (fun _ => ?_)
  refine wpAny_ite_split (fun _ => ?_) (fun hab => absurd (by decide +kernel) hab)
  refine wpAny_bind (wpAny_typeOf hT ?_)
  exact wpAny_pure h
theorem set_src : PySem.W.KdlSrc prog w "set" a a es.size (fun i v => ∃ e, (ordE w a ep es)[i]? = some e ∧ v = e.2) (fun h => SetAt w h a es ep tb) where
  type := fun s S => S.typeIs
  there := fun _ S => ⟨S.lt, S.lt⟩
  keep := fun _ _ S hk => S.keep fun o e => hk a (.inl rfl) o e
  notList := by decide
  notTuple := by decide
  hint := fun _ _ _ _ S hq => hint_set S.typeIs hq
  iter := fun A s hh S => ⟨_, _, (fun _ _ hq => set_iter S hq), set_walks (tb := tb) hh _ (Nat.ne_of_lt S.lt), ⟨S.keep fun o e => Heap.get?_push_of_some _ e, 0, ⟨_, Heap.get?_push_size _ rfl, rfl, rfl⟩, fun _ => ⟨fun _ => rfl, fun k x hk => by omega⟩⟩⟩
end
end DL

set_option Elab.async false
set_option linter.all false
set_option maxRecDepth 100000
set_option maxHeartbeats 4000000
/-! SETS OF INTS, 6: sorted(set(list)) as a reading -/
namespace DL
open PySem PySem.Spec PyProof.Rows L2
/-! ### the numbers met -/
theorem met_ind (P : List Int → Prop) (h0 : P []) (h1 : ∀ l k, P l → P (l ++ [k])) : ∀ l, P l := by
  intro l
  have : ∀ (n : Nat) (l : List Int), l.length = n → P l := by
    intro n
    induction n with
    | zero => intro l h; rw [List.eq_nil_of_length_eq_zero h]; exact h0
    | succ n ih =>
      intro l h
      rcases List.eq_nil_or_concat l with e | ⟨m, t, e⟩
      · subst e; simp at h
      · have e' : l = m ++ [t] := by simpa using e
        rw [e'] at h ⊢
        exact h1 m t (ih m (by simp at h; exact h))
  exact this _ l rfl
theorem met_mem (ns : List Int) : ∀ k, k ∈ met ns ↔ k ∈ ns := by
  refine met_ind (fun ns => ∀ k, k ∈ met ns ↔ k ∈ ns) (fun k => Iff.rfl) (fun l k ih x => ?_) ns
  rw [met_snoc]
  split
  · rename_i h
    rw [ih x, List.mem_append, List.mem_singleton]
    constructor
    · exact .inl
    · rintro (h' | rfl)
      · exact h'
      · exact (ih _).mp h
  · rw [List.mem_append, List.mem_append, ih x]
theorem met_nodup (ns : List Int) : (met ns).Nodup := by
  refine met_ind (fun ns => (met ns).Nodup) List.nodup_nil (fun l k ih => ?_) ns
  rw [met_snoc]
  split
  · exact ih
  · rename_i h
    rw [List.nodup_append]
    refine ⟨ih, by simp, fun a ha b hb => ?_⟩
    rw [List.mem_singleton] at hb
    subst hb
    exact fun z => h (z ▸ ha)
theorem eraseDups_nodup : ∀ (n : Nat) (l : List Int), l.length ≤ n → l.eraseDups.Nodup
  | 0, l, h => by rw [List.eq_nil_of_length_eq_zero (Nat.le_zero.mp h)]; simp
  | n + 1, [], _ => by simp
  | n + 1, a :: l, h => by
    rw [List.eraseDups_cons, List.nodup_cons]
    have hl := List.length_filter_le (fun b => !b == a) l
    refine ⟨fun hm => ?_, eraseDups_nodup n _ (by simp at h; omega)⟩
    rw [List.mem_eraseDups, List.mem_filter] at hm
    simp at hm
theorem met_sort (ns : List Int) : isort (met ns) = isort ns.eraseDups :=
  sorted_unique ((isort_perm _).trans (((List.perm_ext_iff_of_nodup (met_nodup ns) (eraseDups_nodup _ ns (Nat.le_refl _))).mpr fun k => by rw [met_mem, List.mem_eraseDups]).trans (isort_perm _).symm)) (isort_sorted _) (isort_sorted _)
/-! ### a set as an object of the abstract heap -/
def SetO (w : World) (a : Addr) (ns : List Int) : HO := .ext fun h => ∃ es ep tb, SetAt w h a es ep tb ∧ EsOk es.toList ns
theorem call_setI {X : Cx} (hc : X.calm = true) : CallR X (.type "set") (fun xs H Q => ∃ p ns, xs = [.ref p] ∧ H p = some (.lst (ns.map V.int)) ∧ ns.length < 18 ∧ ∀ l, H l = none → Q (.ref l) (upd H l (SetO X.w l (met ns)))) := by
  intro pins s σ H xs us Q I r h
  obtain ⟨p, ns, rfl, hp, hl, q⟩ := h
  obtain ⟨u, rfl, r1⟩ := vals1 r
  cases (show u = .ref p from r1)
  obtain ⟨z, its, n, rv, hlen, e⟩ := I.lstM hp
  have hi : IntsAre its ns := intsAre_of rv
  refine call_set (items := its.toArray) (I.ok.hd hc) ⟨_, e, rfl, _, rfl⟩ (by simpa using hi) hl fun h' tk es ep tb _ S hE hk => ?_
  have hk' : ∀ b o, s.heap.get? b = some o → h'.get? b = some o := fun b o eb => hk b o (Heap.lt_size eb) eb
  refine ⟨.ref s.heap.objs.size, _, I.laid (t' := tk) (o := SetO X.w s.heap.objs.size (met ns)) hk' (Nat.le_refl _) ?_, rfl, q _ (I.hok.fresh (Nat.le_refl _))⟩
  obtain ⟨o, ho, _⟩ := S.ex
  exact ⟨⟨es, ep, tb, S, hE⟩, ⟨o, ho⟩, fun h1 h2 ⟨es, ep, tb, S, hE⟩ hk => ⟨es, ep, tb, S.keep hk, hE⟩⟩
theorem ints_of_es : ∀ (l : List (Int × Value)), (∀ e ∈ l, ∃ (k : Int) (t : Tok), e = (hashInt k, .int k t)) → IntsAre (l.map (·.2)) (l.map keyE)
  | [], _ => .nil
  | e :: l, h => by
    obtain ⟨k, t, rfl⟩ := h e (.head _)
    exact .cons k t (ints_of_es l fun e he => h e (.tail _ he))
theorem items_eq {L : Array (Int × Value)} {acc : Array Value} (h : ItemsOf (fun i v => ∃ e, L[i]? = some e ∧ v = e.2) acc L.size) : acc.toList = L.toList.map (·.2) := by
  apply List.ext_getElem?
  intro i
  rw [Array.getElem?_toList, List.getElem?_map, Array.getElem?_toList]
  cases q : acc[i]? with
  | some v =>
    obtain ⟨e, he, rfl⟩ := h.2 i v q
    rw [he]; rfl
  | none =>
    have : L.size ≤ i := by rw [← h.1]; exact Array.getElem?_eq_none_iff.mp q
    rw [Array.getElem?_eq_none this]; rfl
theorem call_sortedS {X : Cx} (hc : X.calm = true) : CallR X (.builtin "sorted") (fun xs H Q => ∃ p ns, xs = [.ref p] ∧ H p = some (SetO X.w p ns) ∧ ns.length < 64 ∧ ∀ l, H l = none → Q (.ref l) (upd H l (.lst ((isort ns).map V.int)))) := by
  intro pins s σ H xs us Q I r h
  obtain ⟨p, ns, rfl, hp, hl, q⟩ := h
  obtain ⟨u, rfl, r1⟩ := vals1 r
  cases (show u = .ref p from r1)
  obtain ⟨⟨es, ep, tb, S, hE⟩, _⟩ := I.hok p _ hp
  have hsz : es.size = ns.length := by rw [← Array.length_toList]; exact hE.length
  refine Calls.call_function_entry kind_sorted plain_sorted entry_sorted (args_sorted1 _) ?_
  unfold Builtin.«sorted»
  refine wpAny_bind (m := checkCount "sorted" 1 1 _) (wpAny_pure ?_)
  refine wpAny_bind (PySem.W.kdu_collect (A := X.A.in1) (set_src (a := p) (es := es) (ep := ep) (tb := tb)) (by simp [I.ok.hd hc]) S (by rw [hsz, sizeLine_eq]; omega) fun h' tk acc hk hacc => ?_)
  have hacc' : ItemsOf (fun i v => ∃ e, (ordE X.w p ep es)[i]? = some e ∧ v = e.2) acc (ordE X.w p ep es).size := by rw [ord_size]; exact hacc
  have hitems := items_eq hacc'
  have hE2 : EsOk (ordE X.w p ep es).toList ns := hE.of_perm (ord_perm X.w p ep es)
  have hI : IntsAre acc.toList ((ordE X.w p ep es).toList.map keyE) := by
    rw [hitems]
    exact ints_of_es _ hE2.all
  have hal : acc.toList.length = ns.length := by rw [hitems, List.length_map]; exact hE2.length
  refine wpAny_bind (wpAny_newList ?_ (by rw [hal, sizeLine_eq]; omega))
  have hoL : (h'.push (seqObj "list" acc.toList.toArray 0)).get? h'.objs.size = some (seqObj "list" acc.toList.toArray 0) := Heap.get?_push_size _ rfl
  refine wpAny_bind (wpAny_holding (wpAny_call_entry slot_list_sort ⟨_, hoL, rfl⟩ entry_list_sort (list_sort_tree hoL hI (by omega) fun out ns' a1 a2 a3 => ⟨_, rfl, ?_⟩) (args_list_sort _)))
  have en : ns' = isort ns := sorted_unique ((a2.trans hE2.perm).trans (isort_perm ns).symm) a3 (isort_sorted ns)
  subst en
  obtain ⟨c, he⟩ := sortedHeap_at (out := out) hoL
  have keep : ∀ b o, h'.get? b = some o → (sortedHeap (h'.push (seqObj "list" acc.toList.toArray 0)) h'.objs.size acc.toList out).get? b = some o := fun b o eb => by
    have hlt := Heap.lt_size eb
    rw [sortedHeap_old (Nat.ne_of_lt hlt) (by rw [size_push']; exact Nat.lt_succ_of_lt hlt), Heap.get?_push_ne _ _ _ (Nat.ne_of_lt hlt)]
    exact eb
  have hz : ((isort ns).map V.int).length ≤ sizeLine := by rw [List.length_map, (isort_perm ns).length_eq, sizeLine_eq]; omega
  have I1 : Inv X pins σ H { s with heap := h', toks := tk } := I.kept (t' := tk) hk
  exact wpAny_pure ⟨_, rfl, .ref h'.objs.size, _, I1.laid (t' := tk) (o := .lst ((isort ns).map V.int)) keep (Nat.le_refl _) ⟨hz, out.toList, c, vals_ints a1, by simpa [seqObj] using he⟩, rfl, q _ (I1.hok.fresh (Nat.le_refl _))⟩
theorem de_sortedSet {X : Cx} {G₀ H₀ : Hp} {p p2 pos pos2 : Pos} {e : Expr} {f : FE} (he : DE X G₀ H₀ e f) (hm : X.mg "sorted" = none) (hm2 : X.mg "set" = none)
    (hc : X.calm = true := by rfl) (hg : Gl X "sorted" := by rfl) (hg2 : Gl X "set" := by rfl)
    (hs : starEach [.Call (.Name "set" p2) [e] [] pos2] X.env = [(false, eval (.Call (.Name "set" p2) [e] [] pos2) X.env)] := by rfl) (hs2 : starEach [e] X.env = [(false, eval e X.env)] := by rfl) :
    DE X G₀ H₀ (.Call (.Name "sorted" p) [.Call (.Name "set" p2) [e] [] pos2] [] pos) (f1 gSortSet f) :=
  (pe_callB (call_sortedS hc) hg hm boot_sorted (pa_cons (pe_callTy (call_setI hc) hg2 hm2 boot_set (pa_cons he pa_nil hs2) (by decide) (by decide) hs2 rfl) pa_nil hs) (by decide) (by decide) hs rfl).imp fun σ H Q q => by
    obtain ⟨env, G, val, I, e, k⟩ := q
    obtain ⟨x, e1, e⟩ := bind_inv e
    refine tE_one I e1 fun v G' H' g l I' o => ?_
    unfold gSortSet at e
    split at e
    · rename_i ds hd
      rw [hd] at o
      split at e
      · rename_i ns hn
        split at e
        · rename_i hl
          cases e
          obtain ⟨a, vs, rfl, h1, r1⟩ := Opd.lst I' o
          rw [asInts_of hn] at r1
          rw [r1.ints_of] at h1
          refine ⟨a, ns, rfl, h1, hl, fun b hb => ?_⟩
          have hml := met_le ns
          refine ⟨b, met ns, rfl, upd_same, by omega, fun c hc => ?_⟩
          have g1 := Grow.laidL (o := SetO X.w b (met ns)) l hb
          have g2 := Grow.laidL (o := .lst ((isort (met ns)).map V.int)) g1.2 hc
          have h3 := valFresh (K := X.K) (env := env) (σ := σ) (ds := (isort (met ns)).map .int) g1.2 hc (RepL.ints _)
          have g01 := g.trans g1.1
          have h4 := ValOk.base g01.h h3
          rw [met_sort] at h4 g2 ⊢
          exact k _ G' _ (g01.trans g2.1) g2.2 h4
        · cases e
      · cases e
    · cases e
end DL

set_option Elab.async false
set_option linter.all false
set_option maxRecDepth 100000
set_option maxHeartbeats 4000000
namespace DL
open PySem PySem.Spec PyProof.Rows L2
/-! ### sum of a list of ints -/
theorem preSum_take (ns : List Int) : ∀ n, n ≤ ns.length → preSum (fun i => ns.getD i 0) n = (ns.take n).sum
  | 0, _ => by simp [preSum]
  | n + 1, h => by
    have ih := preSum_take ns n (by omega)
    show preSum (fun i => ns.getD i 0) n + ns.getD n 0 = _
    have e : ns.getD n 0 = ns[n] := by simp [List.getD, show n < ns.length by omega]
    rw [ih, e, List.take_succ_eq_append_getElem (by omega), List.sum_append]
    simp
theorem call_sum {X : Cx} (hc : X.calm = true) : CallR X (.builtin "sum") (fun xs H Q => ∃ (p : Addr) (ns : List Int), xs = [.ref p] ∧ H p = some (.lst (ns.map V.int)) ∧ Q (.int ns.sum) H) := by
  intro pins s σ H xs us Q I r h
  obtain ⟨p, ns, rfl, hp, q⟩ := h
  obtain ⟨u, rfl, r1⟩ := vals1 r
  cases (show u = .ref p from r1)
  obtain ⟨z, its, n, rv, hlen, e⟩ := I.lstM hp
  have hi : IntsAre its ns := intsAre_of rv
  have hil : its.length = ns.length := by rw [← hlen, List.length_map]
  have hl : s.heap.IsList p its.toArray := ⟨_, e, rfl, _, rfl⟩
  have hpl := Heap.lt_size e
  refine call_sum_walkAnyS (wpAny_pyIter_list hl ?_)
  have hne : p ≠ s.heap.objs.size := Nat.ne_of_lt hpl
  have W := (Walks.list (prog := X.prog) (w := X.w) (A := X.A.in1) (by simp [I.ok.hd hc]) s.heap.objs.size p hne its.toArray).toS
  refine ⟨s.heap.objs.size, _, _, _, _, _, _, fun i => ns.getD i 0, rfl, W, ⟨⟨_, Heap.get?_push_size _ rfl, rfl, rfl⟩, hl.push _⟩, fun b hb => ?_, fun i v hv => ?_, fun s' t' hm => ?_⟩
  · rw [Heap.size_push]
    rcases List.mem_cons.mp hb with e' | hb
    · rw [e']; exact Nat.lt_succ_self _
    · rw [List.mem_singleton.mp hb]; exact Nat.lt_succ_of_lt hpl
  · exact IntsAre.int_at hi i v (by simpa using hv)
  · have hk : ∀ b o, s.heap.get? b = some o → s'.heap.get? b = some o := fun b o eb =>
      hm.heap b o (fun hI => absurd (Heap.lt_size eb) (by rw [List.mem_singleton.mp hI]; exact Nat.lt_irrefl _)) (Heap.get?_push_of_some _ eb)
    rw [Moved.eq_with hm]
    refine ⟨.int ns.sum, H, I.kept hk, ⟨t', ?_⟩, q⟩
    have := preSum_take ns ns.length (Nat.le_refl _)
    rw [List.take_length] at this
    simp only [List.size_toArray, hil, this]
@[simp] def gSum : List D → Out Val
  | [.lst ds] => match asInts ds with
    | some ns => .ok (.pers (.int ns.sum))
    | none => .bad
  | _ => .bad
theorem cd_sum {K : PySem.W.Frag} : CallD K (fun xs H Q => ∃ (p : Addr) (ns : List Int), xs = [.ref p] ∧ H p = some (.lst (ns.map V.int)) ∧ Q (.int ns.sum) H) gSum := by
  intro G₀ H₀ env σ G H vs xs val Q I a e k
  unfold gSum at e
  split at e
  · rename_i ds hx
    split at e
    · rename_i ns hn
      cases e
      obtain ⟨v, rfl, o⟩ := args1 a hx
      obtain ⟨p, us, rfl, h1, r1⟩ := Opd.lst I o
      rw [asInts_of hn] at r1
      rw [r1.ints_of] at h1
      exact ⟨p, ns, rfl, h1, k _ G H (Grow.refl _ _) I.le rfl⟩
    · cases e
  · cases e
end DL

set_option Elab.async false
set_option linter.all false
set_option maxRecDepth 100000
set_option maxHeartbeats 4000000
namespace My
open PySem PySem.Spec PyProof.Rows L2 DL

/-! ### arithmetic of the guards -/
theorem atI_nn {α : Type} (xs : List α) (i : Int) (h : 0 ≤ i) : atI xs i = xs[i.toNat]? := by
  unfold atI ixN
  rw [if_pos h]
  split
  · rfl
  · rename_i h2
    rw [List.getElem?_eq_none (by omega)]
    rfl
theorem atI_m1 {α : Type} (xs : List α) : atI xs (-1) = xs[xs.length - 1]? := by
  unfold atI ixN
  by_cases h : xs.length = 0
  · have : xs = [] := List.eq_nil_of_length_eq_zero h
    subst this
    simp
  · rw [if_neg (by omega), if_pos (by omega)]
    show xs[(-1 + (xs.length : Int)).toNat]? = _
    congr 1
    omega
theorem cMul_l {i j : Int} (h1 : -(2 ^ 64) < i) (h2 : i < 2 ^ 64) : cMul i j = true := by
  unfold cMul small64
  rw [decide_eq_true h1, decide_eq_true h2]
  rfl
theorem cMul_r {i j : Int} (h1 : -(2 ^ 64) < j) (h2 : j < 2 ^ 64) : cMul i j = true := by
  unfold cMul small64
  rw [decide_eq_true h1, decide_eq_true h2]
  simp
theorem cDiv_of {i j : Int} (h1 : 0 < j) (h2 : j < 2 ^ 250) : cDiv i j = true := by
  unfold cDiv
  rw [decide_eq_true h1, decide_eq_true h2]
  rfl
@[simp] theorem cPow_10 (j : Int) (h1 : 0 ≤ j) (h2 : j ≤ 1000000) : cPow 10 j = true := by
  unfold cPow
  rw [decide_eq_true h1, decide_eq_true h2]
  decide
@[simp] theorem eqD_int (i j : Int) : eqD (.int i) (.int j) = (i == j) := rfl
@[simp] theorem eqD_nn : eqD .non .non = true := rfl
@[simp] theorem eqD_ni (i : Int) : eqD .non (.int i) = false := rfl
@[simp] theorem eqD_in (i : Int) : eqD (.int i) .non = false := rfl
@[simp] theorem eqD_bb (a b : Bool) : eqD (.bl a) (.bl b) = (a == b) := rfl
@[simp] theorem shal_int (n : Nat) (i : Int) : shal n (.int i) = true := by cases n <;> rfl
@[simp] theorem shal_non (n : Nat) : shal n .non = true := by cases n <;> rfl
@[simp] theorem shal_bl (n : Nat) (b : Bool) : shal n (.bl b) = true := by cases n <;> rfl
@[simp] theorem shal_tup (n : Nat) (ds : List D) : shal (n + 1) (.tup ds) = ds.all (shal n) := rfl
@[simp] theorem shal_lst (n : Nat) (ds : List D) : shal (n + 1) (.lst ds) = ds.all (shal n) := rfl
theorem eqD_tup (xs ys : List D) : eqD (.tup xs) (.tup ys) = eqDL xs ys := by simp only [eqD, eqDL, toPy, PyData.eqv]
theorem eqD_lst (xs ys : List D) : eqD (.lst xs) (.lst ys) = eqDL xs ys := by simp only [eqD, eqDL, toPy, PyData.eqv]
theorem eqDL_nil : eqDL [] [] = true := by simp only [eqDL, toPyL, PyData.eqvAll]
theorem eqDL_cons (x y : D) (xs ys : List D) : eqDL (x :: xs) (y :: ys) = (eqD x y && eqDL xs ys) := by simp only [eqDL, eqD, toPyL, PyData.eqvAll]
theorem eqDL_nc (y : D) (ys : List D) : eqDL [] (y :: ys) = false := by simp only [eqDL, toPyL, PyData.eqvAll]
theorem eqDL_cn (y : D) (ys : List D) : eqDL (y :: ys) [] = false := by simp only [eqDL, toPyL, PyData.eqvAll]
/-- lists of one kind of thing -/
theorem eqDL_map {α : Type} [DecidableEq α] (f : α → D) (h : ∀ x y, eqD (f x) (f y) = decide (x = y)) : ∀ xs ys : List α, eqDL (xs.map f) (ys.map f) = decide (xs = ys)
  | [], [] => by simp [eqDL_nil]
  | [], y :: ys => by simp [eqDL_nc]
  | x :: xs, [] => by simp [eqDL_cn]
  | x :: xs, y :: ys => by
    rw [List.map_cons, List.map_cons, eqDL_cons, h, eqDL_map f h xs ys]
    by_cases h1 : x = y <;> by_cases h2 : xs = ys <;> simp [h1, h2]
/-- a loop by a word about what is between its turns -/
theorem forD_inv {g : D → Ev → Out Ev} {fb : FS} (P : Nat → Ev → Prop) : ∀ (ds : List D) (i : Nat) (env : Ev), P i env →
    (∀ (j : Nat) (d : D) (env : Ev), i ≤ j → ds[j - i]? = some d → P j env → ∃ env1 env2, g d env = .ok env1 ∧ fb env1 = .ok (.next env2) ∧ P (j + 1) env2) →
    ∃ env', forD g fb ds env = .ok (.next env') ∧ P (i + ds.length) env'
  | [], i, env, h, _ => ⟨env, rfl, h⟩
  | d :: ds, i, env, h, step => by
    obtain ⟨env1, env2, e1, e2, h2⟩ := step i d env (Nat.le_refl _) (by simp) h
    obtain ⟨env', e3, h3⟩ := forD_inv P ds (i + 1) env2 h2 fun j d' env hj hd hp => step j d' env (by omega) (by
      have : j - i = (j - (i + 1)) + 1 := by omega
      rw [this]; simpa using hd) hp
    refine ⟨env', ?_, ?_⟩
    · simp only [forD, e1, bind_ok, e2]
      exact e3
    · have : i + (d :: ds).length = i + 1 + ds.length := by simp; omega
      rw [this]; exact h3
theorem rng_get {lo : Int} {n j : Nat} {d : D} (h : (rngD lo n)[j]? = some d) : j < n ∧ d = .int (lo + j) := by
  have hj : j < n := by
    have := (List.getElem?_eq_some_iff.mp h).1
    simpa [rngD] using this
  refine ⟨hj, ?_⟩
  simp [rngD, hj] at h
  exact h.symm
@[simp] theorem rng_len (lo : Int) (n : Nat) : (rngD lo n).length = n := by simp [rngD]

/-- a comprehension over one kind of thing -/
theorem compD_map {α : Type} {g : D → Ev → Out Ev} {ft : FT} {fe : FE} (P : Ev → Prop) (f : α → D) (h : α → Option D) : ∀ (xs : List α) (env : Ev), P env →
    (∀ x env, x ∈ xs → P env → ∃ env1, g (f x) env = .ok env1 ∧ P env1 ∧ ((h x = none ∧ ft env1 = .ok false) ∨ ∃ y v, h x = some y ∧ ft env1 = .ok true ∧ fe env1 = .ok v ∧ v.hold = .ok y)) →
    compD g ft fe (xs.map f) env = .ok (xs.filterMap h)
  | [], env, _, _ => rfl
  | x :: xs, env, hp, step => by
    obtain ⟨env1, e1, p1, r⟩ := step x env (by simp) hp
    have ih := compD_map P f h xs env1 p1 fun x env hx => step x env (by simp [hx])
    rcases r with ⟨h1, h2⟩ | ⟨y, v, h1, h2, h3, h4⟩
    · simp only [List.map_cons, compD, e1, bind_ok, h2, List.filterMap_cons, h1]
      exact ih
    · simp only [List.map_cons, compD, e1, bind_ok, h2, List.filterMap_cons, h1, if_true, h3, h4, ih]
def spotD (p : Int × Int) : D := .tup [.int p.1, .int p.2]
def lineD (l : Int × List Int) : D := .tup [.int l.1, .lst (l.2.map .int)]
theorem eq_spot (p q : Int × Int) : eqD (spotD p) (spotD q) = decide (p = q) := by
  unfold spotD
  rw [eqD_tup, eqDL_cons, eqDL_cons, eqDL_nil, eqD_int, eqD_int]
  obtain ⟨a, b⟩ := p
  obtain ⟨c, d⟩ := q
  by_cases h1 : a = c <;> by_cases h2 : b = d <;> simp [h1, h2]
theorem any_spot (p : Int × Int) : ∀ ps : List (Int × Int), (ps.map spotD).any (fun z => eqD z (spotD p)) = decide (p ∈ ps)
  | [] => by simp
  | q :: ps => by
    rw [List.map_cons, List.any_cons, any_spot p ps, eq_spot]
    by_cases h1 : q = p
    · simp [h1]
    · have : ¬ p = q := fun h => h1 h.symm
      simp [h1, this]
theorem shal_spot (n : Nat) (p : Int × Int) : shal (n + 1) (spotD p) = true := by simp [spotD]

theorem cut_take (l : List D) (i : Int) (n : Nat) (hi : i = n) : cutD l none (some i) = l.take n := by
  subst hi
  show (l.drop 0).take ((if (n : Int) < 0 then ((n : Int) + (l.length : Int)).toNat else min (n : Int).toNat l.length) - 0) = l.take n
  rw [if_neg (by omega), Int.toNat_natCast, List.drop_zero, Nat.sub_zero]
  by_cases h : n ≤ l.length
  · rw [Nat.min_eq_left h]
  · rw [Nat.min_eq_right (by omega), List.take_of_length_le (Nat.le_refl _), List.take_of_length_le (by omega)]
theorem cut_drop (l : List D) (i : Int) (n : Nat) (hi : i = n) : cutD l (some i) none = l.drop n := by
  subst hi
  show (l.drop (if (n : Int) < 0 then ((n : Int) + (l.length : Int)).toNat else min (n : Int).toNat l.length)).take (l.length - (if (n : Int) < 0 then ((n : Int) + (l.length : Int)).toNat else min (n : Int).toNat l.length)) = l.drop n
  rw [if_neg (by omega), Int.toNat_natCast, List.take_of_length_le (by rw [List.length_drop]; exact Nat.le_refl _)]
  by_cases h : n ≤ l.length
  · rw [Nat.min_eq_left h]
  · rw [Nat.min_eq_right (by omega), List.drop_of_length_le (Nat.le_refl _), List.drop_of_length_le (by omega)]
def asSpots : List D → Option (List (Int × Int))
  | [] => some []
  | .tup [.int x, .int y] :: ds => (asSpots ds).map ((x, y) :: ·)
  | _ :: _ => none
theorem asSpots_map : ∀ ps : List (Int × Int), asSpots (ps.map spotD) = some ps
  | [] => rfl
  | p :: ps => by simp [asSpots, spotD, asSpots_map ps]
theorem asSpots_of : ∀ {ds : List D} {ps : List (Int × Int)}, asSpots ds = some ps → ds = ps.map spotD := by
  intro ds
  induction ds with
  | nil => intro ps h; cases h; rfl
  | cons d ds ih =>
    intro ps h
    unfold asSpots at h
    split at h
    · rename_i e; cases e
    · rename_i x y ds' e
      cases e
      cases q : asSpots ds with
      | none => rw [q] at h; cases h
      | some qs => rw [q] at h; cases h; rw [ih q]; rfl
    · cases h
structure Frm where
  w : Int
  h : Int
  s : Int
  r : Int
  u : Int
def frmD (f : Frm) : D := .tup [.int f.w, .int f.h, .int f.s, .int f.r, .int f.u]
structure FrmOk (f : Frm) : Prop where
  w1 : 1 ≤ f.w
  w2 : f.w ≤ 10 ^ 9
  h1 : 1 ≤ f.h
  h2 : f.h ≤ 10 ^ 18
  s1 : -3 ≤ f.s
  s2 : f.s ≤ 3
  r1 : -(10 ^ 30) ≤ f.r
  r2 : f.r ≤ 10 ^ 30
  u1 : -(10 ^ 30) ≤ f.u
  u2 : f.u ≤ 10 ^ 30
def putP (f : Frm) (p : Int × Int) : Int × Int := (f.w * p.1 + f.r, f.h * p.2 + f.s * p.1 + f.u)

def boardV (ps : List (Int × Int)) : List (Int × List Int) := (isort (ps.map (·.1)).eraseDups).map fun x => (x, isort ((ps.filter fun p => p.1 == x).map (·.2)))
theorem eraseDups_len : ∀ (n : Nat) (l : List Int), l.length ≤ n → l.eraseDups.length ≤ l.length
  | 0, l, h => by
    have : l = [] := List.eq_nil_of_length_eq_zero (by omega)
    subst this; simp
  | n + 1, [], h => by simp
  | n + 1, a :: l, h => by
    rw [List.eraseDups_cons]
    have h1 : (l.filter fun b => !b == a).length ≤ l.length := List.length_filter_le _ _
    have h2 := eraseDups_len n (l.filter fun b => !b == a) (by simp at h; omega)
    simp only [List.length_cons]
    omega
theorem board_len (ps : List (Int × Int)) : (boardV ps).length ≤ ps.length := by
  unfold boardV
  rw [List.length_map, (isort_perm _).length_eq]
  have := eraseDups_len _ (ps.map (·.1)) (Nat.le_refl _)
  simpa using this
theorem board_hs (ps : List (Int × Int)) : ∀ l ∈ boardV ps, l.2.length ≤ ps.length := by
  intro l hl
  unfold boardV at hl
  obtain ⟨x, _, rfl⟩ := List.mem_map.mp hl
  show (isort ((ps.filter fun p => p.1 == x).map (·.2))).length ≤ _
  rw [(isort_perm _).length_eq, List.length_map]
  exact List.length_filter_le _ _
def f_put : FS :=
 seqS (asgS (gT [2, 3, 4, 5, 6]) (fVar 1))
 (retS (fComp [2, 5, 3, 4, 6] 2 (fItL (fVar 0)) (gT [5, 6]) (fYes) (fTup (hCons (f2 gAdd (f2 gMul (fVar 0) (fVar 5)) (fVar 1)) (hCons (f2 gAdd (f2 gAdd (f2 gMul (fVar 2) (fVar 6)) (f2 gMul (fVar 3) (fVar 5))) (fVar 4)) (hNil))))))


def n_put : List D → Out Val
  | [.lst ds, .tup [.int w, .int h, .int s, .int r, .int u]] => match asSpots ds with
    | some ps => if ps.length ≤ 100000 ∧ 1 ≤ w ∧ w ≤ 10 ^ 9 ∧ 1 ≤ h ∧ h ≤ 10 ^ 18 ∧ -3 ≤ s ∧ s ≤ 3 then .ok (.fresh ((ps.map (putP ⟨w, h, s, r, u⟩)).map spotD)) else .bad
    | none => .bad
  | _ => .bad
theorem nice_put : ∀ ds v, ds.length = 2 → n_put ds = .ok v → runD 7 f_put ds = .ok v := by
  intro ds v hlen h
  clear hlen
  unfold n_put at h
  split at h
  · rename_i ds w h' s r u
    split at h
    · rename_i ps hps
      split at h
      · rename_i hb
        cases h
        obtain ⟨hl, w1, w2, h1, h2, s1, s2⟩ := hb
        rw [asSpots_of hps]
        have cw : ∀ j, cMul w j = true := fun j => cMul_l (by omega) (by omega)
        have ch : ∀ j, cMul h' j = true := fun j => cMul_l (by omega) (by omega)
        have cs : ∀ j, cMul s j = true := fun j => cMul_l (by omega) (by omega)
        have loop := compD_map (g := gT [5, 6]) (ft := fYes) (fe := fTup (hCons (f2 gAdd (f2 gMul (fVar 0) (fVar 5)) (fVar 1)) (hCons (f2 gAdd (f2 gAdd (f2 gMul (fVar 2) (fVar 6)) (f2 gMul (fVar 3) (fVar 5))) (fVar 4)) (hNil))))
          (fun env => ∃ s5 s6, env = [.pers (.int w), .pers (.int r), .pers (.int h'), .pers (.int s), .pers (.int u), s5, s6]) spotD (fun p => some (spotD (putP ⟨w, h', s, r, u⟩ p))) ps
          [.pers (.int w), .pers (.int r), .pers (.int h'), .pers (.int s), .pers (.int u), .un, .un] ⟨_, _, rfl⟩ (fun p env _ ⟨s5, s6, he⟩ => by
            subst he
            refine ⟨[.pers (.int w), .pers (.int r), .pers (.int h'), .pers (.int s), .pers (.int u), .pers (.int p.1), .pers (.int p.2)], by simp [spotD], ⟨_, _, rfl⟩, .inr ⟨_, .pers (spotD (putP ⟨w, h', s, r, u⟩ p)), rfl, rfl, ?_, rfl⟩⟩
            simp [cw, ch, cs, spotD, putP])
        simp at loop
        have e : ps.filterMap (fun p => some (spotD (putP ⟨w, h', s, r, u⟩ p))) = (ps.map (putP ⟨w, h', s, r, u⟩)).map spotD := by
          rw [List.filterMap_eq_map', List.map_map]
          rfl
        simp at e
        simp [f_put, hl, loop, e]
      · cases h
    · cases h
  · cases h

def f_cell_at : FS :=
 seqS (ifS (fTrB (f2 gLt (fVar 1) (fB gLen (fCons (fVar 0) (fNil)))))
 (retS (f2 gIx (fVar 0) (fVar 1)))
 (nxtS))
 (retS (fC (.int 0)))


def n_cell_at : List D → Out Val
  | [.scr ns, .int k] => if 0 ≤ k then .ok (.pers (.int (ns.getD k.toNat 0))) else .bad
  | _ => .bad
theorem nice_cell_at : ∀ ds v, ds.length = 2 → n_cell_at ds = .ok v → runD 2 f_cell_at ds = .ok v := by
  intro ds v hlen h
  clear hlen
  unfold n_cell_at at h
  split at h
  · rename_i ns k
    split at h
    · rename_i hk
      cases h
      by_cases hl : k < (ns.length : Int)
      · have hn : k.toNat < ns.length := by omega
        simp [f_cell_at, atI_nn _ _ hk, hl, List.getElem?_eq_getElem hn]
      · have hn : ns.length ≤ k.toNat := by omega
        simp [f_cell_at, atI_nn _ _ hk, hl, List.getElem?_eq_none hn]
    · cases h
  · cases h

def f_block : FS :=
 seqS (setS 2 true (fC (.int 0)))
 (seqS (ifS (fTrB (f2 gLt (f2 gAdd (fC (.int 1)) (f2 gMod (f2 gDiv (fVar 1) (fC (.int 8))) (fC (.int 62)))) (fB gLen (fCons (fVar 0) (fNil)))))
 (setS 2 true (f2 gDiv (f2 gIx (fVar 0) (f2 gAdd (fC (.int 1)) (f2 gMod (f2 gDiv (fVar 1) (fC (.int 8))) (fC (.int 62))))) (f2 gPow (fC (.int 10)) (fC (.int 64)))))
 (nxtS))
 (seqS (forS (fRng1 (fCons (f2 gMod (fVar 1) (fC (.int 8))) (fNil))) (gN 3)
 (setS 2 true (f2 gDiv (fVar 2) (fC (.int 2147483587)))))
 (retS (fVar 2))))


def divs : Nat → Int → Int
  | 0, c => c
  | n + 1, c => divs n (c / 2147483587)
def blockV (ns : List Int) (k : Int) : Int := divs (k % 8).toNat (if 1 + k / 8 % 62 < (ns.length : Int) then ns.getD (1 + k / 8 % 62).toNat 0 / 10 ^ 64 else 0)
theorem block_for {a b s : Slot} : ∀ (xs : List D) (c : Int), (∀ d ∈ xs, ∃ i, d = .int i) →
    ∃ s', forD (gN 3) (setS 2 true (f2 gDiv (fVar 2) (fC (.int 2147483587)))) xs [a, b, .pers (.int c), s] = .ok (.next [a, b, .pers (.int (divs xs.length c)), s']) := by
  intro xs
  induction xs generalizing s with
  | nil => intro c _; exact ⟨s, rfl⟩
  | cons d xs ih =>
    intro c h
    obtain ⟨i, rfl⟩ := h d (by simp)
    obtain ⟨s', e⟩ := ih (s := .pers (.int i)) (c / 2147483587) fun d hd => h d (by simp [hd])
    refine ⟨s', ?_⟩
    have hc : cDiv c 2147483587 = true := cDiv_of (by decide) (by decide)
    simp [forD, hc, divs]
    simpa using e
def n_block : List D → Out Val
  | [.scr ns, .int k] => if 0 ≤ k then .ok (.pers (.int (blockV ns k))) else .bad
  | _ => .bad
theorem nice_block : ∀ ds v, ds.length = 2 → n_block ds = .ok v → runD 4 f_block ds = .ok v := by
  intro ds v hlen h
  clear hlen
  unfold n_block at h
  split at h
  · rename_i ns k
    split at h
    · rename_i hk
      cases h
      have h8 : cDiv k 8 = true := cDiv_of (by decide) (by decide)
      have hr : (-1000000 : Int) ≤ k % 8 ∧ k % 8 ≤ 1000000 := by omega
      have hp : ∀ (i : Int), cDiv i 10000000000000000000000000000000000000000000000000000000000000000 = true := fun i => cDiv_of (by decide) (by decide)
      have all : ∀ d ∈ rngD 0 (k % 8).toNat, ∃ i, d = D.int i := by
        intro d hd
        simp only [rngD, List.mem_map] at hd
        obtain ⟨i, _, rfl⟩ := hd
        exact ⟨_, rfl⟩
      unfold blockV
      by_cases hl : 1 + k / 8 % 62 < (ns.length : Int)
      · have hn : (1 + k / 8 % 62).toNat < ns.length := by omega
        obtain ⟨s', e⟩ := block_for (a := .pers (.scr ns)) (b := .pers (.int k)) (s := .un) (rngD 0 (k % 8).toNat) (ns[(1 + k / 8 % 62).toNat] / 10 ^ 64) all
        have e' := e
        simp at e'
        simp [f_block, h8, hl, atI_nn _ _ (show 0 ≤ 1 + k / 8 % 62 by omega), List.getElem?_eq_getElem hn, hp, hr, e']
      · obtain ⟨s', e⟩ := block_for (a := .pers (.scr ns)) (b := .pers (.int k)) (s := .un) (rngD 0 (k % 8).toNat) 0 all
        have e' := e
        simp at e'
        simp [f_block, h8, hl, hr, e']
    · cases h
  · cases h

def f_mixed : FS :=
 seqS (setS 2 true (fC (.int 0)))
 (seqS (ifS (fTrB (f2 gGt (fB gLen (fCons (fVar 0) (fNil))) (fC (.int 0))))
 (setS 2 true (f2 gIx (fVar 0) (fC (.int 0))))
 (nxtS))
 (seqS (ifS (fAnd (fTrB (f2 gEq (f2 gMod (f2 gDiv (fVar 2) (f2 gPow (fC (.int 10)) (fC (.int 6)))) (fC (.int 2))) (fC (.int 1)))) (fTrB (f2 gNe (fCall n_block (fCons (fVar 0) (fCons (fVar 1) (fNil)))) (fC (.int 0)))))
 (retS (f2 gMod (fCall n_block (fCons (fVar 0) (fCons (fVar 1) (fNil)))) (fC (.int 2147483587))))
 (nxtS))
 (seqS (ifS (fTrB (f2 gGt (fB gLen (fCons (fVar 0) (fNil))) (fC (.int 0))))
 (setS 2 true (f2 gIx (fVar 0) (f2 gMod (fVar 1) (fB gMin2 (fCons (fC (.int 63)) (fCons (fB gLen (fCons (fVar 0) (fNil))) (fNil)))))))
 (nxtS))
 (seqS (setS 3 true (f2 gAdd (f2 gMod (fVar 2) (f2 gPow (fC (.int 10)) (fC (.int 18)))) (f2 gMul (fC (.int 48271)) (f2 gAdd (fVar 1) (fC (.int 1))))))
 (seqS (setS 3 true (f2 gAdd (f2 gMod (f2 gMul (fVar 3) (fVar 3)) (fC (.int 2147483629))) (f2 gMul (fC (.int 69621)) (fVar 1))))
 (retS (f2 gMod (f2 gMul (fVar 3) (fVar 3)) (fC (.int 2147483587)))))))))


def cell0 (ns : List Int) : Int := if 0 < ns.length then ns.getD 0 0 else 0
def cellK (ns : List Int) (k : Int) : Int := if 0 < ns.length then ns.getD (k % (min 63 (ns.length : Int))).toNat 0 else 0
def mix1 (ns : List Int) (k : Int) : Int := cellK ns k % 10 ^ 18 + 48271 * (k + 1)
def mix2 (ns : List Int) (k : Int) : Int := mix1 ns k * mix1 ns k % 2147483629 + 69621 * k
def mixedV (ns : List Int) (k : Int) : Int :=
  if cell0 ns / 10 ^ 6 % 2 = 1 ∧ blockV ns k ≠ 0 then blockV ns k % 2147483587 else mix2 ns k * mix2 ns k % 2147483587
theorem mixed_nn (ns : List Int) (k : Int) : 0 ≤ mixedV ns k := by
  unfold mixedV
  split
  · exact Int.emod_nonneg _ (by decide)
  · exact Int.emod_nonneg _ (by decide)
theorem mixed_lt (ns : List Int) (k : Int) : mixedV ns k < 2147483587 := by
  unfold mixedV
  split
  · exact Int.emod_lt_of_pos _ (by decide)
  · exact Int.emod_lt_of_pos _ (by decide)
def n_mixed : List D → Out Val
  | [.scr ns, .int k] => if 0 ≤ k ∧ k ≤ 1000000 then .ok (.pers (.int (mixedV ns k))) else .bad
  | _ => .bad
theorem nice_mixed : ∀ ds v, ds.length = 2 → n_mixed ds = .ok v → runD 4 f_mixed ds = .ok v := by
  intro ds v hlen h
  clear hlen
  unfold n_mixed at h
  split at h
  · rename_i ns k
    split at h
    · rename_i hk
      cases h
      obtain ⟨hk0, hk1⟩ := hk
      have d6 : ∀ i : Int, cDiv i 1000000 = true := fun i => cDiv_of (by decide) (by decide)
      have m1 : cMul 48271 (k + 1) = true := cMul_l (by decide) (by decide)
      have m2 : cMul 69621 k = true := cMul_l (by decide) (by decide)
      have hx := Int.emod_nonneg (cellK ns k) (show (10 : Int) ^ 18 ≠ 0 by decide)
      have hy := Int.emod_lt_of_pos (cellK ns k) (show (0 : Int) < 10 ^ 18 by decide)
      have e1 : 0 ≤ mix1 ns k ∧ mix1 ns k < 2 ^ 64 := by
        unfold mix1
        omega
      have e2 : 0 ≤ mix2 ns k ∧ mix2 ns k < 2 ^ 64 := by
        have h1 := Int.emod_nonneg (mix1 ns k * mix1 ns k) (show (2147483629 : Int) ≠ 0 by decide)
        have h2 := Int.emod_lt_of_pos (mix1 ns k * mix1 ns k) (show (0 : Int) < 2147483629 by decide)
        unfold mix2
        omega
      have m3 : cMul (mix1 ns k) (mix1 ns k) = true := cMul_l (by omega) e1.2
      have m4 : cMul (mix2 ns k) (mix2 ns k) = true := cMul_l (by omega) e2.2
      by_cases hn : 0 < ns.length
      · have hn' : (0 : Int) < ns.length := by omega
        have c0 : ns[0]? = some (cell0 ns) := by
          unfold cell0
          rw [if_pos hn, List.getD_eq_getElem?_getD, List.getElem?_eq_getElem hn]
          rfl
        have hmin : (if (ns.length : Int) < 63 then (ns.length : Int) else 63) = min 63 (ns.length : Int) := by
          rw [Int.min_def]; split <;> split <;> omega
        have hmp : 0 < min 63 (ns.length : Int) := by omega
        have hq0 : 0 ≤ k % min 63 (ns.length : Int) := Int.emod_nonneg _ (by omega)
        have hq1 : k % min 63 (ns.length : Int) < min 63 (ns.length : Int) := Int.emod_lt_of_pos _ hmp
        have hq2 : (k % min 63 (ns.length : Int)).toNat < ns.length := by omega
        have ck : ns[(k % min 63 (ns.length : Int)).toNat]? = some (cellK ns k) := by
          unfold cellK
          rw [if_pos hn, List.getD_eq_getElem?_getD, List.getElem?_eq_getElem hq2]
          rfl
        have a0 : atI ns 0 = some (cell0 ns) := by rw [atI_nn _ _ (by decide)]; exact c0
        have ak : atI ns (k % min 63 (ns.length : Int)) = some (cellK ns k) := by rw [atI_nn _ _ hq0]; exact ck
        have u1 : cellK ns k % 1000000000000000000 + 48271 * (k + 1) = mix1 ns k := by unfold mix1; rfl
        have u2 : mix1 ns k * mix1 ns k % 2147483629 + 69621 * k = mix2 ns k := rfl
        unfold mixedV
        by_cases hc : cell0 ns / 10 ^ 6 % 2 = 1
        · have hc' : cell0 ns / 1000000 % 2 = 1 := hc
          by_cases hb : blockV ns k = 0
          · simp [f_mixed, n_block, hn, hn', hk0, a0, d6, hc', hb, hmin, hmp, ak, m1, m2, u1, m3, u2, m4]
          · simp [f_mixed, n_block, hn, hn', hk0, a0, d6, hc', hb, hmin, hmp, ak, m1, m2, u1, m3, u2, m4]
        · have hc' : ¬ cell0 ns / 1000000 % 2 = 1 := hc
          simp [f_mixed, n_block, hn, hn', hk0, a0, d6, hc', hmin, hmp, ak, m1, m2, u1, m3, u2, m4]
      · have hnil : ns = [] := List.eq_nil_of_length_eq_zero (by omega)
        subst hnil
        have u1 : 48271 * (k + 1) = mix1 [] k := by unfold mix1 cellK; simp
        have u2 : mix1 [] k * mix1 [] k % 2147483629 + 69621 * k = mix2 [] k := rfl
        have z0 : cell0 [] = 0 := rfl
        unfold mixedV
        simp [f_mixed, n_block, z0, d6, m1, m2, u1, m3, u2, m4]
    · cases h
  · cases h

def f_frame : FS :=
 seqS (setS 1 true (f2 gIx (fLst (hCons (fC (.int 1)) (hCons (f2 gAdd (fC (.int 1)) (f2 gMod (fCall n_cell_at (fCons (fVar 0) (fCons (fC (.int 0)) (fNil)))) (f2 gPow (fC (.int 10)) (fC (.int 9))))) (hNil)))) (f2 gMod (fCall n_mixed (fCons (fVar 0) (fCons (fC (.int 14)) (fNil)))) (fC (.int 2)))))
 (seqS (setS 2 true (f2 gIx (fLst (hCons (fC (.int 1)) (hCons (f2 gAdd (fC (.int 1)) (f2 gMod (fCall n_cell_at (fCons (fVar 0) (fCons (fC (.int 1)) (fNil)))) (f2 gPow (fC (.int 10)) (fC (.int 18))))) (hNil)))) (f2 gMod (fCall n_mixed (fCons (fVar 0) (fCons (fC (.int 15)) (fNil)))) (fC (.int 2)))))
 (seqS (setS 3 true (f2 gIx (fLst (hCons (fC (.int 20)) (hCons (f2 gPow (fC (.int 10)) (fC (.int 30))) (hNil)))) (f2 gMod (fCall n_mixed (fCons (fVar 0) (fCons (fC (.int 16)) (fNil)))) (fC (.int 2)))))
 (seqS (setS 4 true (f2 gSub (f2 gMod (fCall n_mixed (fCons (fVar 0) (fCons (fC (.int 17)) (fNil)))) (fC (.int 7))) (fC (.int 3))))
 (seqS (setS 5 true (f2 gSub (f2 gMod (fCall n_cell_at (fCons (fVar 0) (fCons (fC (.int 2)) (fNil)))) (fVar 3)) (f2 gDiv (fVar 3) (fC (.int 2)))))
 (retS (fTup (hCons (fVar 1) (hCons (fVar 2) (hCons (fVar 4) (hCons (fVar 5) (hCons (f2 gSub (f2 gMod (fCall n_cell_at (fCons (fVar 0) (fCons (fC (.int 3)) (fNil)))) (fVar 3)) (f2 gDiv (fVar 3) (fC (.int 2)))) (hNil))))))))))))


def farV (ns : List Int) : Int := if mixedV ns 16 % 2 = 0 then 20 else 10 ^ 30
def frmV (ns : List Int) : Frm where
  w := if mixedV ns 14 % 2 = 0 then 1 else 1 + ns.getD 0 0 % 10 ^ 9
  h := if mixedV ns 15 % 2 = 0 then 1 else 1 + ns.getD 1 0 % 10 ^ 18
  s := mixedV ns 17 % 7 - 3
  r := ns.getD 2 0 % farV ns - farV ns / 2
  u := ns.getD 3 0 % farV ns - farV ns / 2
theorem far_ok (ns : List Int) : 20 ≤ farV ns ∧ farV ns ≤ 10 ^ 30 := by
  unfold farV
  split <;> decide
theorem frm_ok (ns : List Int) : FrmOk (frmV ns) := by
  have hf := far_ok ns
  have a1 := Int.emod_nonneg (ns.getD 2 0) (show farV ns ≠ 0 by omega)
  have a2 := Int.emod_lt_of_pos (ns.getD 2 0) (show 0 < farV ns by omega)
  have b1 := Int.emod_nonneg (ns.getD 3 0) (show farV ns ≠ 0 by omega)
  have b2 := Int.emod_lt_of_pos (ns.getD 3 0) (show 0 < farV ns by omega)
  constructor <;> simp only [frmV]
  · split <;> omega
  · split <;> omega
  · split <;> omega
  · split <;> omega
  · omega
  · omega
  · omega
  · omega
  · omega
  · omega
def n_frame : List D → Out Val
  | [.scr ns] => .ok (.pers (frmD (frmV ns)))
  | _ => .bad
theorem atI_two (a b : D) (m : Int) : atI [a, b] (m % 2) = some (if m % 2 = 0 then a else b) := by
  rw [atI_nn _ _ (by omega)]
  have : m % 2 = 0 ∨ m % 2 = 1 := by omega
  rcases this with h | h <;> rw [h] <;> rfl
theorem nice_frame : ∀ ds v, ds.length = 1 → n_frame ds = .ok v → runD 6 f_frame ds = .ok v := by
  intro ds v hlen h
  clear hlen
  unfold n_frame at h
  split at h
  · rename_i ns
    cases h
    have hf := far_ok ns
    have d2 : cDiv (farV ns) 2 = true := cDiv_of (by decide) (by decide)
    have hfar : (if mixedV ns 16 % 2 = 0 then D.int 20 else D.int 1000000000000000000000000000000) = D.int (farV ns) := by
      unfold farV
      split <;> rfl
    have hw : (if mixedV ns 14 % 2 = 0 then D.int 1 else D.int (1 + ns.getD 0 0 % 1000000000)) = D.int (frmV ns).w := by
      simp only [frmV]; split <;> rfl
    have hh : (if mixedV ns 15 % 2 = 0 then D.int 1 else D.int (1 + ns.getD 1 0 % 1000000000000000000)) = D.int (frmV ns).h := by
      simp only [frmV]; split <;> rfl
    have hp : 0 < farV ns := by omega
    simp only [List.getD_eq_getElem?_getD] at hw hh
    simp [f_frame, n_mixed, n_cell_at, atI_two, hw, hh, hfar, hp, d2, frmD]
    simp [frmV]
  · cases h

def f_pegs : FS :=
 seqS (setS 1 true (fCall n_mixed (fCons (fVar 0) (fCons (fC (.int 0)) (fNil)))))
 (seqS (setS 2 true (f2 gIx (fLst (hCons (f2 gMod (fVar 1) (fC (.int 7))) (hCons (f2 gMod (fVar 1) (fC (.int 7))) (hCons (fC (.int 12)) (hNil))))) (f2 gMod (f2 gDiv (f2 gMod (f2 gDiv (fVar 1) (fC (.int 7))) (fC (.int 8))) (fC (.int 3))) (fC (.int 3)))))
 (seqS (setS 3 false (fLst (hNil)))
 (seqS (forS (fRng1 (fCons (fVar 2) (fNil))) (gN 4)
 (seqS (setS 1 true (fCall n_mixed (fCons (fVar 0) (fCons (f2 gAdd (fC (.int 1)) (fVar 4)) (fNil)))))
 (seqS (setS 5 true (fTup (hCons (f2 gMul (fC (.int 2)) (f2 gMod (fVar 1) (fC (.int 5)))) (hCons (f2 gMod (f2 gDiv (fVar 1) (fC (.int 5))) (fC (.int 7))) (hNil)))))
 (ifS (fTrB (f2 gNin (fVar 5) (fVar 3)))
 (appS 3 (fVar 5))
 (nxtS)))))
 (retS (fVar 3)))))


def pegAt (ns : List Int) (k : Nat) : Int × Int := (2 * (mixedV ns (1 + k) % 5), mixedV ns (1 + k) / 5 % 7)
def manyV (ns : List Int) : Int := if mixedV ns 0 / 7 % 8 / 3 % 3 = 2 then 12 else mixedV ns 0 % 7
def pegsUpTo (ns : List Int) : Nat → List (Int × Int)
  | 0 => []
  | n + 1 => if pegAt ns n ∈ pegsUpTo ns n then pegsUpTo ns n else pegsUpTo ns n ++ [pegAt ns n]
def pegsV (ns : List Int) : List (Int × Int) := pegsUpTo ns (manyV ns).toNat
theorem many_le (ns : List Int) : 0 ≤ manyV ns ∧ manyV ns ≤ 12 := by
  unfold manyV
  split <;> omega
theorem pegs_len (ns : List Int) : ∀ n, (pegsUpTo ns n).length ≤ n
  | 0 => Nat.le_refl _
  | n + 1 => by
    have := pegs_len ns n
    unfold pegsUpTo
    split
    · omega
    · simp; omega
theorem pegs_nodup (ns : List Int) : ∀ n, (pegsUpTo ns n).Nodup
  | 0 => List.nodup_nil
  | n + 1 => by
    unfold pegsUpTo
    split
    · exact pegs_nodup ns n
    · rename_i h
      rw [List.nodup_append]
      refine ⟨pegs_nodup ns n, by simp, fun a ha b hb => ?_⟩
      have : b = pegAt ns n := by simpa using hb
      subst this
      rintro rfl
      exact h ha
theorem pegAt_range (ns : List Int) (k : Nat) : (∃ i : Int, (pegAt ns k).1 = 2 * i ∧ 0 ≤ i ∧ i ≤ 4) ∧ 0 ≤ (pegAt ns k).2 ∧ (pegAt ns k).2 ≤ 6 := by
  unfold pegAt
  refine ⟨⟨mixedV ns (1 + k) % 5, rfl, by omega, by omega⟩, by omega, by omega⟩
theorem pegs_range (ns : List Int) : ∀ n, ∀ p ∈ pegsUpTo ns n, (∃ i : Int, p.1 = 2 * i ∧ 0 ≤ i ∧ i ≤ 4) ∧ 0 ≤ p.2 ∧ p.2 ≤ 6
  | 0, p, h => by simp [pegsUpTo] at h
  | n + 1, p, h => by
    unfold pegsUpTo at h
    split at h
    · exact pegs_range ns n p h
    · rcases List.mem_append.mp h with h | h
      · exact pegs_range ns n p h
      · have : p = pegAt ns n := by simpa using h
        rw [this]; exact pegAt_range ns n
def n_pegs : List D → Out Val
  | [.scr ns] => .ok (.fresh ((pegsV ns).map spotD))
  | _ => .bad
theorem nice_pegs : ∀ ds v, ds.length = 1 → n_pegs ds = .ok v → runD 6 f_pegs ds = .ok v := by
  intro ds v hlen h
  clear hlen
  unfold n_pegs at h
  split at h
  · rename_i ns
    cases h
    have hm0 := mixed_nn ns 0
    have d7 : cDiv (mixedV ns 0) 7 = true := cDiv_of (by decide) (by decide)
    have d3 : cDiv (mixedV ns 0 / 7 % 8) 3 = true := cDiv_of (by decide) (by decide)
    have hmany := many_le ns
    have hat : atI [D.int (mixedV ns 0 % 7), D.int (mixedV ns 0 % 7), D.int 12] (mixedV ns 0 / 7 % 8 / 3 % 3) = some (.int (manyV ns)) := by
      rw [atI_nn _ _ (by omega)]
      unfold manyV
      have : mixedV ns 0 / 7 % 8 / 3 % 3 = 0 ∨ mixedV ns 0 / 7 % 8 / 3 % 3 = 1 ∨ mixedV ns 0 / 7 % 8 / 3 % 3 = 2 := by omega
      rcases this with h | h | h <;> rw [h] <;> rfl
    have hr : (-1000000 : Int) ≤ manyV ns ∧ manyV ns ≤ 1000000 := by omega
    have loop := forD_inv (g := gN 4) (fb := seqS (setS 1 true (fCall n_mixed (fCons (fVar 0) (fCons (f2 gAdd (fC (.int 1)) (fVar 4)) (fNil)))))
 (seqS (setS 5 true (fTup (hCons (f2 gMul (fC (.int 2)) (f2 gMod (fVar 1) (fC (.int 5)))) (hCons (f2 gMod (f2 gDiv (fVar 1) (fC (.int 5))) (fC (.int 7))) (hNil)))))
 (ifS (fTrB (f2 gNin (fVar 5) (fVar 3)))
 (appS 3 (fVar 5))
 (nxtS)))) (fun i env => ∃ s1 s2 s4 s5, env = [.pers (.scr ns), s1, s2, .own ((pegsUpTo ns i).map spotD), s4, s5]) (rngD 0 (manyV ns).toNat) 0
      [.pers (.scr ns), .pers (.int (mixedV ns 0)), .pers (.int (manyV ns)), .own [], .un, .un] ⟨_, _, _, _, rfl⟩ (fun j d env _ hd ⟨s1, s2, s4, s5, he⟩ => by
        subst he
        obtain ⟨hj, rfl⟩ := rng_get hd
        simp only [Nat.sub_zero] at hj ⊢
        have hk : (0 : Int) ≤ 1 + (j : Int) ∧ 1 + (j : Int) ≤ 1000000 := by omega
        have c2 : cMul 2 (mixedV ns (1 + (j : Int)) % 5) = true := cMul_l (by decide) (by decide)
        have d5 : cDiv (mixedV ns (1 + (j : Int))) 5 = true := cDiv_of (by decide) (by decide)
        have hs : shal 4 (.tup [.int (2 * (mixedV ns (1 + (j : Int)) % 5)), .int (mixedV ns (1 + (j : Int)) / 5 % 7)]) = true := by simp
        have ha : ((pegsUpTo ns j).map spotD).any (fun z => eqD z (.tup [.int (2 * (mixedV ns (1 + (j : Int)) % 5)), .int (mixedV ns (1 + (j : Int)) / 5 % 7)])) = decide (pegAt ns j ∈ pegsUpTo ns j) := any_spot (pegAt ns j) _
        have hl := pegs_len ns j
        have hl2 : (pegsUpTo ns j).length < 100000 := by omega
        by_cases hin : pegAt ns j ∈ pegsUpTo ns j
        · rw [decide_eq_true hin] at ha
          refine ⟨_, [.pers (.scr ns), .pers (.int (mixedV ns (1 + (j : Int)))), s2, .own ((pegsUpTo ns j).map spotD), .pers (.int j), .pers (spotD (pegAt ns j))], rfl, ?_, ⟨_, _, _, _, by rw [pegsUpTo, if_pos hin]⟩⟩
          simp [-List.any_map, n_mixed, hk, c2, d5, ha, spotD, pegAt, hl2]
        · rw [decide_eq_false hin] at ha
          refine ⟨_, [.pers (.scr ns), .pers (.int (mixedV ns (1 + (j : Int)))), s2, .own ((pegsUpTo ns j ++ [pegAt ns j]).map spotD), .pers (.int j), .pers (spotD (pegAt ns j))], rfl, ?_, ⟨_, _, _, _, by rw [pegsUpTo, if_neg hin]⟩⟩
          simp [-List.any_map, n_mixed, hk, c2, d5, ha, spotD, pegAt, hl2])
    obtain ⟨env', e, s1, s2, s4, s5, he⟩ := loop
    subst he
    simp only [rng_len, Nat.zero_add] at e
    unfold f_pegs
    simp at e
    simp [n_mixed, d7, d3, hat, hr, e]
    rfl
  · cases h

def f_board : FS :=
 retS (fComp [0] 1 (fItL (f1 gSortSet (fComp [] 2 (fItL (fVar 0)) (gT [0, 1]) (fYes) (fVar 0)))) (gN 1) (fYes) (fTup (hCons (fVar 1) (hCons (fB gSorted (fCons (fComp [1] 2 (fItL (fVar 0)) (gT [1, 2]) (fTrB (f2 gEq (fVar 1) (fVar 0))) (fVar 2)) (fNil))) (hNil)))))


def n_board : List D → Out Val
  | [.lst ds] => match asSpots ds with
    | some ps => if ps.length < 18 then .ok (.fresh ((boardV ps).map lineD)) else .bad
    | none => .bad
  | _ => .bad
theorem nice_board : ∀ ds v, ds.length = 1 → n_board ds = .ok v → runD 1 f_board ds = .ok v := by
  intro ds v hlen h
  clear hlen
  unfold n_board at h
  split at h
  · rename_i ds
    split at h
    · rename_i ps hps
      split at h
      · rename_i hl
        cases h
        rw [asSpots_of hps]
        have hl' : ps.length ≤ 100000 := by omega
        have xs := compD_map (g := gT [0, 1]) (ft := fYes) (fe := fVar 0) (fun env => ∃ s0 s1, env = [s0, s1]) spotD (fun p => some (.int p.1)) ps [.un, .un] ⟨_, _, rfl⟩ (fun p env _ ⟨s0, s1, he⟩ => by
          subst he
          exact ⟨[.pers (.int p.1), .pers (.int p.2)], by simp [spotD], ⟨_, _, rfl⟩, .inr ⟨_, .pers (.int p.1), rfl, rfl, rfl, rfl⟩⟩)
        have xs' : compD (gT [0, 1]) fYes (fVar 0) (ps.map spotD) [.un, .un] = .ok ((ps.map (·.1)).map .int) := by
          rw [xs, List.filterMap_eq_map', List.map_map]
          rfl
        have ys : ∀ (x : Int), compD (gT [1, 2]) (fTrB (f2 gEq (fVar 1) (fVar 0))) (fVar 2) (ps.map spotD) [.pers (.int x), .un, .un] = .ok (((ps.filter fun p => p.1 == x).map (·.2)).map .int) := by
          intro x
          rw [compD_map (fun env => ∃ s1 s2, env = [.pers (.int x), s1, s2]) spotD (fun p => if p.1 == x then some (.int p.2) else none) ps [.pers (.int x), .un, .un] ⟨_, _, rfl⟩ (fun p env _ ⟨s1, s2, he⟩ => by
            subst he
            refine ⟨[.pers (.int x), .pers (.int p.1), .pers (.int p.2)], by simp [spotD], ⟨_, _, rfl⟩, ?_⟩
            by_cases hx : p.1 = x
            · exact .inr ⟨.int p.2, .pers (.int p.2), by simp [hx], by simp [hx], rfl, rfl⟩
            · exact .inl ⟨by simp [hx], by simp [hx]⟩)]
          clear hps hl hl' xs xs'
          induction ps with
          | nil => rfl
          | cons p ps ih =>
            simp only [List.filterMap_cons, List.filter_cons]
            by_cases hx : (p.1 == x) = true
            · simp only [hx, if_true, List.map_cons]
              simpa using ih
            · simp only [hx]
              simpa using ih
        have hz : ∀ x : Int, ((ps.filter fun p => p.1 == x).map (·.2)).length < 64 := fun x => by
          rw [List.length_map]
          have := List.length_filter_le (fun p : Int × Int => p.1 == x) ps
          omega
        have hout := compD_map (g := gN 1) (ft := fYes) (fe := fTup (hCons (fVar 1) (hCons (fB gSorted (fCons (fComp [1] 2 (fItL (fVar 0)) (gT [1, 2]) (fTrB (f2 gEq (fVar 1) (fVar 0))) (fVar 2)) (fNil))) (hNil))))
          (fun env => ∃ s1, env = [.pers (.lst (ps.map spotD)), s1]) D.int (fun x => some (lineD (x, isort ((ps.filter fun p => p.1 == x).map (·.2))))) (isort (ps.map (·.1)).eraseDups) [.pers (.lst (ps.map spotD)), .un] ⟨_, rfl⟩ (fun x env _ ⟨s1, he⟩ => by
            subst he
            refine ⟨[.pers (.lst (ps.map spotD)), .pers (.int x)], by simp, ⟨_, rfl⟩, .inr ⟨_, .pers (lineD (x, isort ((ps.filter fun p => p.1 == x).map (·.2)))), rfl, rfl, ?_, rfl⟩⟩
            have hz' := hz x
            have ys' := ys x
            simp only [fTup, hCons, fVar, fB, fCons, fComp, fItL, hNil, fNil, List.getElem?_cons_succ, List.getElem?_cons_zero, bind_ok, Val.hold, List.length_map, hl', if_true, capE, List.map_cons, List.map_nil, List.cons_append, List.nil_append, List.replicate, ys', frz, Val.d, gSorted, asInts_map, List.length_cons, List.length_nil, lineD]
            simp only [List.length_map] at hz'
            simp [hz'])
        have hlen2 : (isort (ps.map (·.1)).eraseDups).length ≤ 100000 := by
          have := board_len ps
          unfold boardV at this
          simp only [List.length_map] at this
          omega
        have hl3 : (ps.map (·.1)).length < 18 := by simpa using hl
        have he : (isort (ps.map (·.1)).eraseDups).filterMap (fun x => some (lineD (x, isort ((ps.filter fun p => p.1 == x).map (·.2))))) = (boardV ps).map lineD := by
          rw [List.filterMap_eq_map']
          unfold boardV
          rw [List.map_map]
          rfl
        rw [he] at hout
        unfold f_board
        simp only [runD, retS, fComp, fItL, f1, fVar, List.map_cons, List.map_nil, List.cons_append, List.nil_append, List.length_cons, List.length_nil, Nat.sub_self, List.replicate, List.append_nil, List.getElem?_cons_zero, bind_ok, Val.hold, List.length_map, hl', if_true, capE, xs', Val.d, gSortSet, asInts_map, hl3, hlen2, hout]
        simp only [List.length_map] at hl3
        simp [hl3, hlen2, hout]
      · cases h
    · cases h
  · cases h

end My

set_option Elab.async false
set_option linter.all false
set_option maxRecDepth 100000
set_option maxHeartbeats 4000000
namespace My
open PySem PySem.Spec PyProof.Rows L2 DL

/-! ### gates -/
structure Gate where
  x : Int
  lo : Option Int
  hi : Option Int
  w : Int
deriving DecidableEq
def optD : Option Int → D
  | none => .non
  | some i => .int i
def gateD (g : Gate) : D := .tup [.int g.x, optD g.lo, optD g.hi, .int g.w]
theorem eq_opt (a b : Option Int) : eqD (optD a) (optD b) = decide (a = b) := by
  cases a with
  | none => cases b <;> simp [optD]
  | some i =>
    cases b with
    | none => simp [optD]
    | some j => by_cases h : i = j <;> simp [optD, h]
theorem shal_opt (n : Nat) (a : Option Int) : shal n (optD a) = true := by cases a <;> simp [optD]
theorem eq_gate (g h : Gate) : eqD (gateD g) (gateD h) = decide (g = h) := by
  unfold gateD
  rw [eqD_tup, eqDL_cons, eqDL_cons, eqDL_cons, eqDL_cons, eqDL_nil, eqD_int, eqD_int, eq_opt, eq_opt]
  obtain ⟨a, b, c, d⟩ := g
  obtain ⟨a', b', c', d'⟩ := h
  by_cases h1 : a = a' <;> by_cases h2 : b = b' <;> by_cases h3 : c = c' <;> by_cases h4 : d = d' <;> simp [h1, h2, h3, h4]
theorem shal_gate (n : Nat) (g : Gate) : shal (n + 1) (gateD g) = true := by simp [gateD, shal_opt]
theorem shal_gates (n : Nat) (gs : List Gate) : shal (n + 2) (.lst (gs.map gateD)) = true := by
  rw [shal_lst, List.all_map, List.all_eq_true]
  intro g _
  exact shal_gate n g
def asOpt : D → Option (Option Int)
  | .non => some none
  | .int i => some (some i)
  | _ => none
def asGate : D → Option Gate
  | .tup [.int x, lo, hi, .int w] => match asOpt lo, asOpt hi with
    | some l, some h => some ⟨x, l, h, w⟩
    | _, _ => none
  | _ => none
theorem asOpt_opt (a : Option Int) : asOpt (optD a) = some a := by cases a <;> rfl
theorem asOpt_of {d : D} {a : Option Int} (h : asOpt d = some a) : d = optD a := by
  unfold asOpt at h
  split at h
  · cases h; rfl
  · cases h; rfl
  · cases h
theorem asGate_gate (g : Gate) : asGate (gateD g) = some g := by
  simp [asGate, gateD, asOpt_opt]
theorem asGate_of {d : D} {g : Gate} (h : asGate d = some g) : d = gateD g := by
  unfold asGate at h
  split at h
  · split at h
    · rename_i h1 h2
      cases h
      rw [asOpt_of h1, asOpt_of h2]
      rfl
    · cases h
  · cases h
def asGates : List D → Option (List Gate)
  | [] => some []
  | d :: ds => match asGate d, asGates ds with
    | some g, some gs => some (g :: gs)
    | _, _ => none
theorem asGates_map : ∀ gs : List Gate, asGates (gs.map gateD) = some gs
  | [] => rfl
  | g :: gs => by simp [asGates, asGate_gate, asGates_map gs]
theorem asGates_of : ∀ {ds : List D} {gs : List Gate}, asGates ds = some gs → ds = gs.map gateD
  | [], gs, h => by cases h; rfl
  | d :: ds, gs, h => by
    unfold asGates at h
    split at h
    · rename_i g gs' h1 h2
      cases h
      rw [asGate_of h1, asGates_of h2]
      rfl
    · cases h
theorem noLst_gate (g : Gate) : noLst (gateD g) = true := by
  obtain ⟨x, lo, hi, w⟩ := g
  cases lo <;> cases hi <;> simp [gateD, optD, noLst, noLstL]
theorem noLst_gates : ∀ gs : List Gate, noLstL (gs.map gateD) = true
  | [] => by simp [noLstL]
  | g :: gs => by simp [noLstL, noLst_gate, noLst_gates gs]
/-- the same gate with unlike ways -/
def opp (g h : Gate) : Bool := decide (g.x = h.x ∧ g.lo = h.lo ∧ g.hi = h.hi) && !decide (g.w = h.w)
def stepG (st : List Gate) (g : Gate) : List Gate := match st.getLast? with
  | some t => if opp t g = true then st.dropLast else st ++ [g]
  | none => st ++ [g]
def shortV (gs : List Gate) : List Gate := gs.foldl stepG []
theorem stepG_len (st : List Gate) (g : Gate) : (stepG st g).length ≤ st.length + 1 := by
  unfold stepG
  split
  · split <;> simp
    omega
  · simp
theorem seq_next {f g : FS} {env env' : Ev} (h : f env = .ok (.next env')) : seqS f g env = g env' := by
  simp only [seqS, h, bind_ok]
theorem seq_ret {f g : FS} {env : Ev} {v : Val} (h : f env = .ok (.ret v)) : seqS f g env = .ok (.ret v) := by
  simp only [seqS, h, bind_ok]
theorem sIx43 : ¬ (HT.sIx 4 0 none = 0 ∧ HT.sIx 4 4 (some 3) = 4) := by decide
theorem eq3 (g h : Gate) : eqD (.tup [.int g.x, optD g.lo, optD g.hi]) (.tup [.int h.x, optD h.lo, optD h.hi]) = decide (g.x = h.x ∧ g.lo = h.lo ∧ g.hi = h.hi) := by
  rw [eqD_tup, eqDL_cons, eqDL_cons, eqDL_cons, eqDL_nil, eqD_int, eq_opt, eq_opt]
  by_cases h1 : g.x = h.x <;> by_cases h2 : g.lo = h.lo <;> by_cases h3 : g.hi = h.hi <;> simp [h1, h2, h3]
theorem cut3 (a b c d : D) : cutD [a, b, c, d] none (some 3) = [a, b, c] := rfl

/-- the place among the lines stays within them -/
def Path (n : Nat) : Int → List Gate → Prop
  | h, [] => 0 ≤ h ∧ h ≤ n
  | h, g :: gs => 0 ≤ h ∧ h ≤ n ∧ Path n (h + g.w) gs
def sumW (gs : List Gate) : Int := (gs.map (·.w)).sum
theorem Path.snoc {n : Nat} {g : Gate} : ∀ {h : Int} {gs : List Gate}, Path n h gs → 0 ≤ h + sumW gs + g.w → h + sumW gs + g.w ≤ n → Path n h (gs ++ [g])
  | h, [], p, h1, h2 => by
    simp only [sumW, List.map_nil, List.sum_nil, Int.add_zero] at h1 h2
    exact ⟨p.1, p.2, h1, h2⟩
  | h, g' :: gs, p, h1, h2 => by
    have e : sumW (g' :: gs) = g'.w + sumW gs := by simp [sumW]
    rw [e] at h1 h2
    exact ⟨p.1, p.2.1, Path.snoc p.2.2 (by omega) (by omega)⟩
def Way (g : Gate) : Prop := g.w = 1 ∨ g.w = -1
theorem ends_at (hs : List Int) (i : Int) (h0 : 0 ≤ i) (h1 : i ≤ hs.length + 1) : ∃ o, atI (D.non :: (hs.map D.int ++ [D.non])) i = some (optD o) := by
  rw [atI_nn _ _ h0]
  cases q : i.toNat with
  | zero => exact ⟨none, rfl⟩
  | succ k =>
    rw [List.getElem?_cons_succ]
    by_cases hk : k < hs.length
    · rw [List.getElem?_append_left (by simpa using hk), List.getElem?_map, List.getElem?_eq_getElem hk]
      exact ⟨some hs[k], rfl⟩
    · have : k = hs.length := by omega
      subst this
      rw [List.getElem?_append_right (by simp)]
      exact ⟨none, by simp [optD]⟩

theorem Path.last {n : Nat} : ∀ {h : Int} {gs : List Gate}, Path n h gs → 0 ≤ h + sumW gs ∧ h + sumW gs ≤ n
  | h, [], p => by simp [sumW]; exact p
  | h, g :: gs, p => by
    have := Path.last p.2.2
    have e : sumW (g :: gs) = g.w + sumW gs := by simp [sumW]
    rw [e]
    omega

/-! ### shortened rows -/
theorem stepG_nil (g : Gate) : stepG [] g = [g] := rfl
theorem stepG_snoc (l : List Gate) (t g : Gate) : stepG (l ++ [t]) g = if opp t g = true then l else l ++ [t] ++ [g] := by
  unfold stepG
  rw [List.getLast?_concat]
  simp only [List.dropLast_concat]
/-- no neighbours are one gate to and fro -/
def Rd (l : List Gate) : Prop := ∀ a g h b, l = a ++ g :: h :: b → opp g h = false
theorem Rd.pre {l m : List Gate} (h : Rd (l ++ m)) : Rd l := fun a g k b e => h a g k (b ++ m) (by rw [e]; simp)
theorem Rd.suf {l m : List Gate} (h : Rd (l ++ m)) : Rd m := fun a g k b e => h (l ++ a) g k b (by rw [e]; simp)
theorem snoc_cases {α : Type} (l : List α) : l = [] ∨ ∃ m t, l = m ++ [t] := by
  rcases List.eq_nil_or_concat l with h | ⟨m, t, h⟩
  · exact .inl h
  · exact .inr ⟨m, t, by simpa using h⟩
theorem Rd.snoc {l : List Gate} {t g : Gate} (h : Rd (l ++ [t])) (ho : opp t g = false) : Rd (l ++ [t] ++ [g]) := by
  intro a x y b e
  rcases snoc_cases b with rfl | ⟨b', z, rfl⟩
  · have e2 : l ++ [t] ++ [g] = (a ++ [x]) ++ [y] := by rw [e]; simp
    obtain ⟨e3, e4⟩ := List.append_inj' e2 rfl
    obtain ⟨_, e5⟩ := List.append_inj' e3 rfl
    cases e4
    cases e5
    exact ho
  · have e2 : l ++ [t] ++ [g] = (a ++ x :: y :: b') ++ [z] := by rw [e]; simp
    obtain ⟨e3, _⟩ := List.append_inj' e2 rfl
    exact h a x y b' e3
theorem rd_nil : Rd [] := fun a g h b e => by simp at e
theorem rd_one (g : Gate) : Rd [g] := fun a x y b e => by
  have := congrArg List.length e
  simp at this
  omega
theorem rd_step {s : List Gate} (h : Rd s) (g : Gate) : Rd (stepG s g) := by
  rcases snoc_cases s with rfl | ⟨m, t, rfl⟩
  · exact rd_one g
  · rw [stepG_snoc]
    split
    · exact h.pre
    · rename_i ho
      exact h.snoc (by simpa using ho)
theorem rd_fold : ∀ (gs s : List Gate), Rd s → Rd (gs.foldl stepG s)
  | [], s, h => h
  | g :: gs, s, h => rd_fold gs _ (rd_step h g)
theorem rd_short (gs : List Gate) : Rd (shortV gs) := rd_fold gs [] rd_nil
theorem fold_rd : ∀ (gs s : List Gate), Rd (s ++ gs) → gs.foldl stepG s = s ++ gs
  | [], s, _ => by simp
  | g :: gs, s, h => by
    rw [List.foldl_cons]
    have e : stepG s g = s ++ [g] := by
      rcases snoc_cases s with rfl | ⟨m, t, rfl⟩
      · rfl
      · rw [stepG_snoc, if_neg]
        have := h m t g gs (by simp)
        rw [this]
        exact Bool.false_ne_true
    rw [e, fold_rd gs (s ++ [g]) (by simpa using h)]
    simp
theorem short_rd {gs : List Gate} (h : Rd gs) : shortV gs = gs := by
  have := fold_rd gs [] (by simpa using h)
  simpa [shortV] using this
theorem short_short (gs : List Gate) : shortV (shortV gs) = shortV gs := short_rd (rd_short gs)
theorem way_step {s : List Gate} {g : Gate} (hs : ∀ t ∈ s, Way t) (hg : Way g) : ∀ t ∈ stepG s g, Way t := by
  intro t ht
  rcases snoc_cases s with rfl | ⟨m, u, rfl⟩
  · rw [stepG_nil, List.mem_singleton] at ht
    rw [ht]; exact hg
  · rw [stepG_snoc] at ht
    split at ht
    · exact hs t (List.mem_append_left _ ht)
    · rcases List.mem_append.mp ht with h | h
      · exact hs t h
      · rw [List.mem_singleton] at h; rw [h]; exact hg
theorem way_fold : ∀ (gs s : List Gate), (∀ t ∈ s, Way t) → (∀ t ∈ gs, Way t) → ∀ t ∈ gs.foldl stepG s, Way t
  | [], s, h, _ => h
  | g :: gs, s, h, h' => way_fold gs _ (way_step h (h' g (by simp))) fun t ht => h' t (by simp [ht])
theorem way_short {gs : List Gate} (h : ∀ t ∈ gs, Way t) : ∀ t ∈ shortV gs, Way t := way_fold gs [] (by simp) h
theorem opp_iff (g h : Gate) : opp g h = true ↔ (g.x = h.x ∧ g.lo = h.lo ∧ g.hi = h.hi) ∧ g.w ≠ h.w := by simp [opp]
theorem opp_eq {t g h : Gate} (ht : Way t) (hg : Way g) (hh : Way h) (h1 : opp t g = true) (h2 : opp g h = true) : t = h := by
  rw [opp_iff] at h1 h2
  obtain ⟨a1, a2, a3, a4⟩ := t
  obtain ⟨b1, b2, b3, b4⟩ := g
  obtain ⟨c1, c2, c3, c4⟩ := h
  obtain ⟨⟨p1, p2, p3⟩, p4⟩ := h1
  obtain ⟨⟨q1, q2, q3⟩, q4⟩ := h2
  simp only [Way] at *
  have : a4 = c4 := by omega
  simp_all
theorem step_pair {s : List Gate} {g h : Gate} (hs : Rd s) (hw : ∀ t ∈ s, Way t) (hg : Way g) (hh : Way h) (ho : opp g h = true) : stepG (stepG s g) h = s := by
  rcases snoc_cases s with rfl | ⟨m, t, rfl⟩
  · rw [stepG_nil]
    show stepG ([] ++ [g]) h = []
    rw [stepG_snoc, if_pos ho]
  · rw [stepG_snoc]
    split
    · rename_i h1
      have e := opp_eq (hw t (by simp)) hg hh h1 ho
      subst e
      rcases snoc_cases m with rfl | ⟨k, u, rfl⟩
      · rfl
      · rw [stepG_snoc, if_neg]
        have := hs k u t [] (by simp)
        rw [this]
        exact Bool.false_ne_true
    · rw [stepG_snoc, if_pos ho]
/-- a pair taken out, or put in -/
theorem short_pair {a b : List Gate} {g h : Gate} (ha : ∀ t ∈ a, Way t) (hg : Way g) (hh : Way h) (ho : opp g h = true) : shortV (a ++ g :: h :: b) = shortV (a ++ b) := by
  have e := step_pair (rd_short a) (way_short ha) hg hh ho
  unfold shortV at e ⊢
  rw [List.foldl_append, List.foldl_append, List.foldl_cons, List.foldl_cons, e]
theorem short_app (a b : List Gate) : shortV (a ++ b) = b.foldl stepG (shortV a) := by
  unfold shortV
  rw [List.foldl_append]
theorem shortV_len (gs : List Gate) : (shortV gs).length ≤ gs.length := by
  have : ∀ (gs s : List Gate), (gs.foldl stepG s).length ≤ s.length + gs.length := by
    intro gs
    induction gs with
    | nil => intro s; simp
    | cons g gs ih =>
      intro s
      rw [List.foldl_cons]
      have := ih (stepG s g)
      have := stepG_len s g
      simp
      omega
  simpa [shortV] using this gs []
@[reducible] def i1_walk : FS :=
 ifS (fTrB (f2 gEq (fVar 4) (fC (.int 0))))
 (setS 9 true (fC (.int 1)))
 (nxtS)

@[reducible] def i2_walk : FS :=
 ifS (fTrB (f2 gEq (fVar 4) (fB gLen (fCons (fVar 5) (fNil)))))
 (setS 9 true (f1 gNeg (fC (.int 1))))
 (nxtS)

@[reducible] def i3_walk : FS :=
 ifS (fAnd (fTrB (f2 gNe (fVar 6) (fLst (hNil)))) (fAnd (fTrB (f2 gEq (f2 gMod (f2 gDiv (fVar 8) (fC (.int 64))) (fC (.int 3))) (fC (.int 1)))) (fTrB (f2 gEq (f2 gIx (f2 gIx (fVar 6) (f1 gNeg (fC (.int 1)))) (fC (.int 0))) (fVar 10)))))
 (appS 6 (fTup (hCons (fVar 10) (hCons (f2 gIx (f2 gIx (fVar 6) (f1 gNeg (fC (.int 1)))) (fC (.int 1))) (hCons (f2 gIx (f2 gIx (fVar 6) (f1 gNeg (fC (.int 1)))) (fC (.int 2))) (hCons (fVar 9) (hNil)))))))
 (appS 6 (fTup (hCons (fVar 10) (hCons (f2 gIx (fVar 12) (fVar 13)) (hCons (f2 gIx (fVar 12) (f2 gAdd (fVar 13) (fC (.int 1)))) (hCons (fVar 9) (hNil)))))))

@[reducible] def i4_walk : FS :=
 ifS (fTrB (f2 gNe (fVar 5) (fLst (hNil))))
 (seqS (asgS (gT [10, 11]) (f2 gIx (fVar 5) (f2 gSub (fVar 4) (fB gInt (fCons (f2 gEq (fVar 9) (f1 gNeg (fC (.int 1)))) (fNil))))))
 (seqS (setS 12 true (f2 gAdd (f2 gAdd (fLst (hCons (fC .non) (hNil))) (fVar 11)) (fLst (hCons (fC .non) (hNil)))))
 (seqS (setS 13 true (f2 gMod (f2 gDiv (fVar 8) (fC (.int 2))) (f2 gAdd (fB gLen (fCons (fVar 11) (fNil))) (fC (.int 1)))))
 (seqS (i3_walk)
 (setS 4 true (f2 gAdd (fVar 4) (fVar 9)))))))
 (nxtS)

@[reducible] def b5_walk : FS :=
 seqS (setS 8 true (fCall n_mixed (fCons (fVar 0) (fCons (f2 gAdd (fVar 1) (fVar 7)) (fNil)))))
 (seqS (setS 9 true (f2 gIx (fLst (hCons (fC (.int 1)) (hCons (f1 gNeg (fC (.int 1))) (hNil)))) (f2 gMod (fVar 8) (fC (.int 2)))))
 (seqS (i1_walk)
 (seqS (i2_walk)
 (i4_walk))))

def f_walk : FS :=
 seqS (setS 5 true (fCall n_board (fCons (fVar 3) (fNil))))
 (seqS (setS 6 false (fLst (hNil)))
 (seqS (forS (fRng1 (fCons (fVar 2) (fNil))) (gN 7)
 (b5_walk))
 (retS (fVar 6))))


def n_walk : List D → Out Val := runD 14 f_walk
theorem nice_walk : ∀ ds v, ds.length = 5 → n_walk ds = .ok v → runD 14 f_walk ds = .ok v := fun _ _ _ h => h
@[reducible] def wkE (ns : List Int) (st : Int) (s2 s3 : Slot) (here : Int) (bs : List (Int × List Int)) (gs : List Gate) (k : Int) (a b c d e f : Slot) : Ev :=
  [.pers (.scr ns), .pers (.int st), s2, s3, .pers (.int here), .pers (.lst (bs.map lineD)), .own (gs.map gateD), .pers (.int k), a, b, c, d, e, f]
theorem neg_one_beq : ((-1 : Int) == -1) = true := rfl
theorem ne_nil_eqD {α : Type} {f : α → D} {l : List α} (h : l ≠ []) : eqD (.lst (l.map f)) (.lst []) = false := by
  cases l with
  | nil => exact absurd rfl h
  | cons b bs => rw [List.map_cons, eqD_lst, eqDL_cn]
theorem last_at {α : Type} {f : α → D} {l : List α} {t : α} (h : l.getLast? = some t) : atI (l.map f) (-1) = some (f t) := by
  rw [atI_m1, List.length_map, List.getElem?_map, ← List.getLast?_eq_getElem?, h]; rfl
/-- the row gets one gate more -/
theorem walk_put {ns : List Int} {st k here w mv : Int} {s2 s3 s10 s11 s12 s13 : Slot} {bs : List (Int × List Int)} {gs : List Gate} {l : Int × List Int}
    (hw : w = 1 ∨ w = -1) (hb : bs ≠ []) (hll : l.2.length ≤ 100) (hat : atI (bs.map lineD) (here - (if w = -1 then 1 else 0)) = some (lineD l)) (hg : gs.length < 10000) :
    ∃ g t10 t11 t12 t13, g.x = l.1 ∧ g.w = w ∧ i4_walk (wkE ns st s2 s3 here bs gs k (.pers (.int mv)) (.pers (.int w)) s10 s11 s12 s13) =
      .ok (.next (wkE ns st s2 s3 (here + w) bs (gs ++ [g]) k (.pers (.int mv)) (.pers (.int w)) t10 t11 t12 t13)) := by
  have hatp0 : 0 ≤ mv / 2 % ((l.2.length : Int) + 1) := Int.emod_nonneg _ (by omega)
  have hatp1 : mv / 2 % ((l.2.length : Int) + 1) < (l.2.length : Int) + 1 := Int.emod_lt_of_pos _ (by omega)
  obtain ⟨o1, ho1⟩ := ends_at l.2 (mv / 2 % ((l.2.length : Int) + 1)) hatp0 (by omega)
  obtain ⟨o2, ho2⟩ := ends_at l.2 (mv / 2 % ((l.2.length : Int) + 1) + 1) (by omega) (by omega)
  have d2 : cDiv mv 2 = true := cDiv_of (by decide) (by decide)
  have d64 : cDiv mv 64 = true := cDiv_of (by decide) (by decide)
  have hpos : (0 : Int) < (l.2.length : Int) + 1 := by omega
  have hne0 := ne_nil_eqD (f := lineD) hb
  have hgl : gs.length < 100000 := by omega
  have q1 : 1 + l.2.length ≤ 100000 := by omega
  have q2 : l.2.length + 1 + 1 ≤ 100000 := by omega
  have ht : (fTrB (f2 gNe (fVar 5) (fLst (hNil)))) (wkE ns st s2 s3 here bs gs k (.pers (.int mv)) (.pers (.int w)) s10 s11 s12 s13) = .ok true := by
    simp [hne0]
  unfold i4_walk
  simp only [ifS]
  rw [ht, bind_ok, if_pos rfl]
  rw [seq_next (env' := wkE ns st s2 s3 here bs gs k (.pers (.int mv)) (.pers (.int w)) (.pers (.int l.1)) (.pers (.lst (l.2.map .int))) s12 s13) (by
    have hat' := hat
    rcases hw with rfl | rfl
    · simp at hat'
      simp [hat', lineD]
    · simp at hat'
      simp [hat', lineD, neg_one_beq])]
  rw [seq_next (env' := wkE ns st s2 s3 here bs gs k (.pers (.int mv)) (.pers (.int w)) (.pers (.int l.1)) (.pers (.lst (l.2.map .int))) (.pers (.lst (D.non :: (l.2.map D.int ++ [D.non])))) s13) (by
    simp [q1, q2])]
  rw [seq_next (env' := wkE ns st s2 s3 here bs gs k (.pers (.int mv)) (.pers (.int w)) (.pers (.int l.1)) (.pers (.lst (l.2.map .int))) (.pers (.lst (D.non :: (l.2.map D.int ++ [D.non])))) (.pers (.int (mv / 2 % ((l.2.length : Int) + 1))))) (by simp [d2, hpos])]
  have fin : ∀ g : Gate, i3_walk (wkE ns st s2 s3 here bs gs k (.pers (.int mv)) (.pers (.int w)) (.pers (.int l.1)) (.pers (.lst (l.2.map .int))) (.pers (.lst (D.non :: (l.2.map D.int ++ [D.non])))) (.pers (.int (mv / 2 % ((l.2.length : Int) + 1))))) =
      .ok (.next (wkE ns st s2 s3 here bs (gs ++ [g]) k (.pers (.int mv)) (.pers (.int w)) (.pers (.int l.1)) (.pers (.lst (l.2.map .int))) (.pers (.lst (D.non :: (l.2.map D.int ++ [D.non])))) (.pers (.int (mv / 2 % ((l.2.length : Int) + 1)))))) →
      seqS i3_walk (setS 4 true (f2 gAdd (fVar 4) (fVar 9))) (wkE ns st s2 s3 here bs gs k (.pers (.int mv)) (.pers (.int w)) (.pers (.int l.1)) (.pers (.lst (l.2.map .int))) (.pers (.lst (D.non :: (l.2.map D.int ++ [D.non])))) (.pers (.int (mv / 2 % ((l.2.length : Int) + 1))))) =
      .ok (.next (wkE ns st s2 s3 (here + w) bs (gs ++ [g]) k (.pers (.int mv)) (.pers (.int w)) (.pers (.int l.1)) (.pers (.lst (l.2.map .int))) (.pers (.lst (D.non :: (l.2.map D.int ++ [D.non])))) (.pers (.int (mv / 2 % ((l.2.length : Int) + 1)))))) := by
    intro g hg
    rw [seq_next hg]
    simp
  by_cases hcond : (∃ t, gs.getLast? = some t ∧ mv / 64 % 3 = 1 ∧ t.x = l.1)
  · obtain ⟨t, ht, hm3, htx⟩ := hcond
    have hgne : gs ≠ [] := fun z => by subst z; cases ht
    have hat2 := last_at (f := gateD) ht
    have hne1 := ne_nil_eqD (f := gateD) hgne
    have a0 : ∀ a b c d : D, atI [a, b, c, d] 0 = some a := fun _ _ _ _ => rfl
    have a1 : ∀ a b c d : D, atI [a, b, c, d] 1 = some b := fun _ _ _ _ => rfl
    have a2 : ∀ a b c d : D, atI [a, b, c, d] 2 = some c := fun _ _ _ _ => rfl
    refine ⟨⟨l.1, t.lo, t.hi, w⟩, _, _, _, _, rfl, rfl, fin _ ?_⟩
    simp [i3_walk, hne1, d64, hm3, hat2, gateD, a0, a1, a2, htx, hgl]
  · refine ⟨⟨l.1, o1, o2, w⟩, _, _, _, _, rfl, rfl, fin _ ?_⟩
    have hfalse : (fAnd (fTrB (f2 gNe (fVar 6) (fLst (hNil)))) (fAnd (fTrB (f2 gEq (f2 gMod (f2 gDiv (fVar 8) (fC (.int 64))) (fC (.int 3))) (fC (.int 1)))) (fTrB (f2 gEq (f2 gIx (f2 gIx (fVar 6) (f1 gNeg (fC (.int 1)))) (fC (.int 0))) (fVar 10)))))
        (wkE ns st s2 s3 here bs gs k (.pers (.int mv)) (.pers (.int w)) (.pers (.int l.1)) (.pers (.lst (l.2.map .int))) (.pers (.lst (D.non :: (l.2.map D.int ++ [D.non])))) (.pers (.int (mv / 2 % ((l.2.length : Int) + 1))))) = .ok false := by
      cases hq : gs.getLast? with
      | none =>
        have : gs = [] := List.getLast?_eq_none_iff.mp hq
        subst this
        have : eqD (.lst []) (.lst []) = true := by rw [eqD_lst, eqDL_nil]
        simp [this]
      | some t =>
        have hgne : gs ≠ [] := fun z => by subst z; cases hq
        have hat2 := last_at (f := gateD) hq
        have hne1 := ne_nil_eqD (f := gateD) hgne
        have a0 : ∀ a b c d : D, atI [a, b, c, d] 0 = some a := fun _ _ _ _ => rfl
        by_cases hm3 : mv / 64 % 3 = 1
        · have hx : ¬ t.x = l.1 := fun z => hcond ⟨t, hq, hm3, z⟩
          simp [hne1, d64, hm3, hat2, gateD, a0, hx]
        · simp [hne1, d64, hm3]
    unfold i3_walk
    simp only [ifS, hfalse, bind_ok]
    simp [ho1, ho2, gateD, hgl]
/-- the turn of the walk on a board with lines -/
theorem walk_turn {ns : List Int} {st k here : Int} {s2 s3 s8 s9 s10 s11 s12 s13 : Slot} {bs : List (Int × List Int)} {gs : List Gate} (hk0 : 0 ≤ st + k) (hk1 : st + k ≤ 1000000) (hb : bs ≠ []) (hs : ∀ l ∈ bs, l.2.length ≤ 100) (h0 : 0 ≤ here) (h1 : here ≤ bs.length) (hg : gs.length < 10000) :
    ∃ g t8 t9 t10 t11 t12 t13, Way g ∧ 0 ≤ here + g.w ∧ here + g.w ≤ bs.length ∧
      b5_walk (wkE ns st s2 s3 here bs gs k s8 s9 s10 s11 s12 s13) = .ok (.next (wkE ns st s2 s3 (here + g.w) bs (gs ++ [g]) k t8 t9 t10 t11 t12 t13)) := by
  have hlen : 0 < bs.length := List.length_pos_iff.mpr hb
  have hm : n_mixed [.scr ns, .int (st + k)] = .ok (.pers (.int (mixedV ns (st + k)))) := by simp [n_mixed, hk0, hk1]
  generalize hmv : mixedV ns (st + k) = mv at hm
  have rest : ∀ w : Int, (w = 1 ∨ w = -1) → 0 ≤ here + w → here + w ≤ bs.length →
      b5_walk (wkE ns st s2 s3 here bs gs k s8 s9 s10 s11 s12 s13) = i4_walk (wkE ns st s2 s3 here bs gs k (.pers (.int mv)) (.pers (.int w)) s10 s11 s12 s13) →
      ∃ g t8 t9 t10 t11 t12 t13, Way g ∧ 0 ≤ here + g.w ∧ here + g.w ≤ bs.length ∧
        b5_walk (wkE ns st s2 s3 here bs gs k s8 s9 s10 s11 s12 s13) = .ok (.next (wkE ns st s2 s3 (here + g.w) bs (gs ++ [g]) k t8 t9 t10 t11 t12 t13)) := by
    intro w hw hw1 hw2 e
    have hix0 : 0 ≤ here - (if w = -1 then 1 else 0) := by rcases hw with rfl | rfl <;> simp <;> omega
    have hix1 : here - (if w = -1 then 1 else 0) < bs.length := by rcases hw with rfl | rfl <;> simp <;> omega
    obtain ⟨l, hl⟩ : ∃ l, bs[(here - (if w = -1 then 1 else 0)).toNat]? = some l := ⟨_, List.getElem?_eq_getElem (by omega)⟩
    have hat : atI (bs.map lineD) (here - (if w = -1 then 1 else 0)) = some (lineD l) := by
      rw [atI_nn _ _ hix0, List.getElem?_map, hl]; rfl
    obtain ⟨g, t10, t11, t12, t13, _, hgw, e2⟩ := walk_put (ns := ns) (st := st) (k := k) (mv := mv) (s2 := s2) (s3 := s3) (s10 := s10) (s11 := s11) (s12 := s12) (s13 := s13) hw hb (hs l (List.mem_of_getElem? hl)) hat hg
    refine ⟨g, .pers (.int mv), .pers (.int w), t10, t11, t12, t13, by unfold Way; rw [hgw]; exact hw, by rw [hgw]; exact hw1, by rw [hgw]; exact hw2, ?_⟩
    rw [e, e2, hgw]
  have first : ∀ w9 : Slot, (setS 9 true (f2 gIx (fLst (hCons (fC (.int 1)) (hCons (f1 gNeg (fC (.int 1))) (hNil)))) (f2 gMod (fVar 8) (fC (.int 2))))) (wkE ns st s2 s3 here bs gs k (.pers (.int mv)) w9 s10 s11 s12 s13) =
      .ok (.next (wkE ns st s2 s3 here bs gs k (.pers (.int mv)) (.pers (.int (if mv % 2 = 0 then 1 else -1))) s10 s11 s12 s13)) := by
    intro w9
    simp [atI_two]
    split <;> rfl
  have one : i1_walk (wkE ns st s2 s3 here bs gs k (.pers (.int mv)) (.pers (.int (if mv % 2 = 0 then 1 else -1))) s10 s11 s12 s13) =
      .ok (.next (wkE ns st s2 s3 here bs gs k (.pers (.int mv)) (.pers (.int (if here = 0 then 1 else if mv % 2 = 0 then 1 else -1))) s10 s11 s12 s13)) := by
    unfold i1_walk
    by_cases z : here = 0 <;> simp [z]
  have two : ∀ w9 : Int, i2_walk (wkE ns st s2 s3 here bs gs k (.pers (.int mv)) (.pers (.int w9)) s10 s11 s12 s13) =
      .ok (.next (wkE ns st s2 s3 here bs gs k (.pers (.int mv)) (.pers (.int (if here = bs.length then -1 else w9))) s10 s11 s12 s13)) := by
    intro w9
    unfold i2_walk
    by_cases z : here = (bs.length : Int) <;> simp [z]
  refine rest (if here = bs.length then -1 else if here = 0 then 1 else if mv % 2 = 0 then 1 else -1) ?_ ?_ ?_ ?_
  · split <;> first | exact .inr rfl | skip
    split <;> first | exact .inl rfl | skip
    split <;> first | exact .inl rfl | exact .inr rfl
  · split <;> first | omega | (split <;> first | omega | (split <;> omega))
  · split <;> first | omega | (split <;> first | omega | (split <;> omega))
  · unfold b5_walk
    rw [seq_next (env' := wkE ns st s2 s3 here bs gs k (.pers (.int mv)) s9 s10 s11 s12 s13) (by simp [hm])]
    rw [seq_next (first s9), seq_next one, seq_next (two _)]
theorem walk_none {ns : List Int} {st k here : Int} {s2 s3 s8 s9 s10 s11 s12 s13 : Slot} (hk0 : 0 ≤ st + k) (hk1 : st + k ≤ 1000000) (h0 : here = 0) :
    ∃ t8 t9, b5_walk (wkE ns st s2 s3 here [] [] k s8 s9 s10 s11 s12 s13) = .ok (.next (wkE ns st s2 s3 here [] [] k t8 t9 s10 s11 s12 s13)) := by
  subst h0
  have hm : n_mixed [.scr ns, .int (st + k)] = .ok (.pers (.int (mixedV ns (st + k)))) := by simp [n_mixed, hk0, hk1]
  have hz : eqD (.lst []) (.lst []) = true := by rw [eqD_lst, eqDL_nil]
  refine ⟨.pers (.int (mixedV ns (st + k))), .pers (.int (-1)), ?_⟩
  unfold b5_walk i1_walk i2_walk i4_walk
  simp [hm, atI_two, hz]
theorem walk_ok (ns : List Int) (st : Int) (many : Nat) (ps : List (Int × Int)) (here : Int) (hst : 0 ≤ st) (hst2 : st ≤ 1000) (hmany : many ≤ 1000) (hps : ps.length < 18) (h0 : 0 ≤ here) (h1 : here ≤ (boardV ps).length) :
    ∃ gs : List Gate, n_walk [.scr ns, .int st, .int many, .lst (ps.map spotD), .int here] = .ok (.fresh (gs.map gateD)) ∧ (∀ g ∈ gs, Way g) ∧ Path (boardV ps).length here gs ∧ gs.length ≤ many ∧ (boardV ps ≠ [] → gs.length = many) := by
  have hbd : n_board [.lst (ps.map spotD)] = .ok (.fresh ((boardV ps).map lineD)) := by simp [n_board, asSpots_map, hps]
  have hs : ∀ l ∈ boardV ps, l.2.length ≤ 100 := fun l hl => by have := board_hs ps l hl; omega
  have hr : (-1000000 : Int) ≤ (many : Int) ∧ (many : Int) ≤ 1000000 := by omega
  have loop : ∃ gs : List Gate, (∃ k' t8 t9 t10 t11 t12 t13 here', forD (gN 7) b5_walk (rngD 0 many) [.pers (.scr ns), .pers (.int st), .pers (.int many), .pers (.lst (ps.map spotD)), .pers (.int here), .pers (.lst ((boardV ps).map lineD)), .own [], .un, .un, .un, .un, .un, .un, .un] =
      .ok (.next [.pers (.scr ns), .pers (.int st), .pers (.int many), .pers (.lst (ps.map spotD)), here', .pers (.lst ((boardV ps).map lineD)), .own (gs.map gateD), k', t8, t9, t10, t11, t12, t13])) ∧
      (∀ g ∈ gs, Way g) ∧ Path (boardV ps).length here gs ∧ gs.length ≤ many ∧ (boardV ps ≠ [] → gs.length = many) := by
    by_cases hb : boardV ps = []
    · rw [hb] at h1 ⊢
      have hz : here = 0 := by simp at h1; omega
      obtain ⟨env', e, k', t8, t9, he⟩ := forD_inv (g := gN 7) (fb := b5_walk) (fun i env => ∃ k' t8 t9, env = [.pers (.scr ns), .pers (.int st), .pers (.int many), .pers (.lst (ps.map spotD)), .pers (.int here), .pers (.lst (List.map lineD [])), .own [], k', t8, t9, .un, .un, .un, .un]) (rngD 0 many) 0
        [.pers (.scr ns), .pers (.int st), .pers (.int many), .pers (.lst (ps.map spotD)), .pers (.int here), .pers (.lst (List.map lineD [])), .own [], .un, .un, .un, .un, .un, .un, .un] ⟨_, _, _, rfl⟩ (fun j d env _ hd ⟨k', t8, t9, he⟩ => by
          subst he
          obtain ⟨hj, rfl⟩ := rng_get hd
          simp only [Nat.sub_zero] at hj ⊢
          obtain ⟨u8, u9, e⟩ := walk_none (ns := ns) (st := st) (k := 0 + (j : Int)) (here := here) (s2 := .pers (.int many)) (s3 := .pers (.lst (ps.map spotD))) (s8 := t8) (s9 := t9) (s10 := .un) (s11 := .un) (s12 := .un) (s13 := .un) (by omega) (by omega) hz
          exact ⟨_, _, rfl, e, _, _, _, rfl⟩)
      refine ⟨[], ⟨k', t8, t9, _, _, _, _, _, by rw [e, he]; rfl⟩, by simp, ⟨by omega, by simp; omega⟩, by simp, fun z => absurd rfl z⟩
    · obtain ⟨env', e, gs, k', t8, t9, t10, t11, t12, t13, he, q1, q2, q3⟩ := forD_inv (g := gN 7) (fb := b5_walk) (fun i env => ∃ gs k' t8 t9 t10 t11 t12 t13, env = [.pers (.scr ns), .pers (.int st), .pers (.int many), .pers (.lst (ps.map spotD)), .pers (.int (here + sumW gs)), .pers (.lst ((boardV ps).map lineD)), .own (gs.map gateD), k', t8, t9, t10, t11, t12, t13] ∧
          (∀ g ∈ gs, Way g) ∧ Path (boardV ps).length here gs ∧ gs.length = i) (rngD 0 many) 0
        [.pers (.scr ns), .pers (.int st), .pers (.int many), .pers (.lst (ps.map spotD)), .pers (.int here), .pers (.lst ((boardV ps).map lineD)), .own [], .un, .un, .un, .un, .un, .un, .un] ⟨[], .un, .un, .un, .un, .un, .un, .un, by simp [sumW], by simp, ⟨h0, h1⟩, rfl⟩ (fun j d env _ hd ⟨gs, k', t8, t9, t10, t11, t12, t13, he, q1, q2, q3⟩ => by
          subst he
          obtain ⟨hj, rfl⟩ := rng_get hd
          simp only [Nat.sub_zero] at hj ⊢
          obtain ⟨p1, p2⟩ := q2.last
          obtain ⟨g, u8, u9, u10, u11, u12, u13, hw, b1, b2, e⟩ := walk_turn (ns := ns) (st := st) (k := 0 + (j : Int)) (here := here + sumW gs) (s2 := .pers (.int many)) (s3 := .pers (.lst (ps.map spotD))) (s8 := t8) (s9 := t9) (s10 := t10) (s11 := t11) (s12 := t12) (s13 := t13) (gs := gs) (by omega) (by omega) hb hs p1 p2 (by omega)
          have es : here + sumW gs + g.w = here + sumW (gs ++ [g]) := by simp [sumW, List.sum_append]; omega
          refine ⟨_, _, rfl, e, gs ++ [g], _, _, _, _, _, _, _, by rw [es], ?_, q2.snoc b1 b2, by simp [q3]⟩
          intro g' hg'
          rcases List.mem_append.mp hg' with h | h
          · exact q1 g' h
          · rw [List.mem_singleton] at h; rw [h]; exact hw)
      simp only [rng_len, Nat.zero_add] at q3
      exact ⟨gs, ⟨_, _, _, _, _, _, _, _, by rw [e, he]⟩, q1, q2, by omega, fun _ => q3⟩
  obtain ⟨gs, ⟨k', t8, t9, t10, t11, t12, t13, here', e⟩, r⟩ := loop
  refine ⟨gs, ?_, r⟩
  unfold n_walk f_walk
  show (((seqS _ _ : FS) _).bind _) = _
  rw [seq_next (env' := [.pers (.scr ns), .pers (.int st), .pers (.int many), .pers (.lst (ps.map spotD)), .pers (.int here), .pers (.lst ((boardV ps).map lineD)), .un, .un, .un, .un, .un, .un, .un, .un]) (by simp [hbd])]
  rw [seq_next (env' := [.pers (.scr ns), .pers (.int st), .pers (.int many), .pers (.lst (ps.map spotD)), .pers (.int here), .pers (.lst ((boardV ps).map lineD)), .own [], .un, .un, .un, .un, .un, .un, .un]) (by simp)]
  rw [seq_next (env' := [.pers (.scr ns), .pers (.int st), .pers (.int many), .pers (.lst (ps.map spotD)), here', .pers (.lst ((boardV ps).map lineD)), .own (gs.map gateD), k', t8, t9, t10, t11, t12, t13]) (by
    simp only [forS, fRng1, fCons, fNil, fVar, List.getElem?_cons_succ, List.getElem?_cons_zero, bind_ok, frz, List.map_cons, List.map_nil, Val.d, hr, and_self, if_true, Int.toNat_natCast]
    exact e)]
  rfl

def f_p_to_and_fro : FS :=
 retS (fAndV (f2 gEq (fSl (fVar 0) (fNo) (fSo (fC (.int 3)))) (fSl (fVar 1) (fNo) (fSo (fC (.int 3))))) (f2 gNe (f2 gIx (fVar 0) (fC (.int 3))) (f2 gIx (fVar 1) (fC (.int 3)))))


def n_p_to_and_fro : List D → Out Val
  | [a, b] => match asGate a, asGate b with
    | some g, some h => .ok (.pers (.bl (opp g h)))
    | _, _ => .bad
  | _ => .bad
theorem nice_p_to_and_fro : ∀ ds v, ds.length = 2 → n_p_to_and_fro ds = .ok v → runD 2 f_p_to_and_fro ds = .ok v := by
  intro ds v hlen h
  clear hlen
  unfold n_p_to_and_fro at h
  split at h
  · split at h
    · rename_i g h' h1 h2
      cases h
      rw [asGate_of h1, asGate_of h2]
      have a3 : ∀ a b c d : D, atI [a, b, c, d] 3 = some d := fun _ _ _ _ => rfl
      have e3 := eq3 g h'
      by_cases hc : g.x = h'.x ∧ g.lo = h'.lo ∧ g.hi = h'.hi
      · rw [decide_eq_true hc] at e3
        have ho : opp g h' = !decide (g.w = h'.w) := by simp [opp, hc]
        rw [ho]
        by_cases hw : g.w = h'.w
        · simp [f_p_to_and_fro, gateD, cut3, sIx43, shal_opt, e3, a3, hw]
        · simp [f_p_to_and_fro, gateD, cut3, sIx43, shal_opt, e3, a3, hw]
      · rw [decide_eq_false hc] at e3
        simp [f_p_to_and_fro, gateD, cut3, sIx43, shal_opt, e3, a3, opp, hc]
    · cases h
  · cases h

def f_p_shortened : FS :=
 seqS (setS 1 false (fLst (hNil)))
 (seqS (forS (fItL (fVar 0)) (gN 2)
 (ifS (fAnd (fTr (fVar 1)) (fTr (fCall n_p_to_and_fro (fCons (f2 gIx (fVar 1) (f1 gNeg (fC (.int 1)))) (fCons (fVar 2) (fNil))))))
 (popS 1)
 (appS 1 (fVar 2))))
 (retS (fVar 1)))


theorem short_for (row s2 : Slot) : ∀ (gs st : List Gate) (s2 : Slot), st.length + gs.length ≤ 10000 →
    ∃ s2', forD (gN 2) (ifS (fAnd (fTr (fVar 1)) (fTr (fCall n_p_to_and_fro (fCons (f2 gIx (fVar 1) (f1 gNeg (fC (.int 1)))) (fCons (fVar 2) (fNil))))))
 (popS 1)
 (appS 1 (fVar 2))) (gs.map gateD) [row, .own (st.map gateD), s2] = .ok (.next [row, .own ((gs.foldl stepG st).map gateD), s2'])
  | [], st, s2, _ => ⟨s2, rfl⟩
  | g :: gs, st, s2, hl => by
    have hstep := stepG_len st g
    obtain ⟨s2', e⟩ := short_for row s2 gs (stepG st g) (.pers (gateD g)) (by simp at hl; omega)
    refine ⟨s2', ?_⟩
    rw [List.map_cons, List.foldl_cons]
    have body : (ifS (fAnd (fTr (fVar 1)) (fTr (fCall n_p_to_and_fro (fCons (f2 gIx (fVar 1) (f1 gNeg (fC (.int 1)))) (fCons (fVar 2) (fNil)))))) (popS 1) (appS 1 (fVar 2))) [row, .own (st.map gateD), .pers (gateD g)] = .ok (.next [row, .own ((stepG st g).map gateD), .pers (gateD g)]) := by
      unfold stepG
      cases q : st.getLast? with
      | none =>
        have : st = [] := List.getLast?_eq_none_iff.mp q
        subst this
        simp
      | some t =>
        have hne : st ≠ [] := fun z => by subst z; cases q
        have hpos : 0 < st.length := List.length_pos_iff.mpr hne
        have hat : atI (st.map gateD) (-1) = some (gateD t) := by
          rw [atI_m1, List.length_map, List.getElem?_map, ← List.getLast?_eq_getElem?, q]
          rfl
        have hemp : (st.map gateD).isEmpty = false := by cases st <;> simp_all
        have hcall : n_p_to_and_fro [gateD t, gateD g] = .ok (.pers (.bl (opp t g))) := by simp [n_p_to_and_fro, asGate_gate]
        have hne2 : ¬ st.length = 0 := by omega
        have hlt : st.length < 100000 := by simp at hl; omega
        cases ho : opp t g with
        | true => simp [hat, hcall, ho, hne, hne2, List.map_dropLast]
        | false => simp [hat, hcall, ho, hne, hlt]
    simp only [forD, gN, List.set_cons_succ, List.set_cons_zero, bind_ok]
    rw [body]
    exact e
def n_p_shortened : List D → Out Val
  | [.lst ds] => match asGates ds with
    | some gs => if gs.length ≤ 10000 then .ok (.fresh ((shortV gs).map gateD)) else .bad
    | none => .bad
  | _ => .bad
theorem nice_p_shortened : ∀ ds v, ds.length = 1 → n_p_shortened ds = .ok v → runD 3 f_p_shortened ds = .ok v := by
  intro ds v hlen h
  clear hlen
  unfold n_p_shortened at h
  split at h
  · split at h
    · rename_i gs hg
      split at h
      · rename_i hl
        cases h
        rw [asGates_of hg]
        obtain ⟨s2', e⟩ := short_for (.pers (.lst (gs.map gateD))) .un gs [] .un (by simpa using hl)
        unfold f_p_shortened
        show (((seqS _ _ : FS) _).bind _) = _
        rw [seq_next (env' := [.pers (.lst (gs.map gateD)), .own [], .un]) (by simp)]
        rw [seq_next (env' := [.pers (.lst (gs.map gateD)), .own ((gs.foldl stepG []).map gateD), s2']) (by
          simp only [forS, fItL, fVar, List.getElem?_cons_zero, bind_ok, Val.hold]
          exact e)]
        rfl
      · cases h
    · cases h
  · cases h

@[reducible] def e1_reached : FE :=
 f2 gIx (fVar 0) (fC (.int 3))

def f_reached : FS :=
 retS (f2 gAdd (fVar 1) (fB gSum (fCons (fComp [] 1 (fItL (fSl (fVar 0) (fNo) (fSo (fVar 2)))) (gN 0) (fYes) (e1_reached)) (fNil))))


def n_reached : List D → Out Val
  | [.lst ds, .int st, .int at_] => match asGates ds with
    | some gs => if 0 ≤ at_ ∧ gs.length ≤ 1000 then .ok (.pers (.int (st + sumW (gs.take at_.toNat)))) else .bad
    | none => .bad
  | _ => .bad
theorem nice_reached : ∀ ds v, ds.length = 3 → n_reached ds = .ok v → runD 3 f_reached ds = .ok v := by
  intro ds v hlen h
  clear hlen
  unfold n_reached at h
  split at h
  · split at h
    · rename_i gs hg
      split at h
      · rename_i hb
        cases h
        rename_i st at_ _
        obtain ⟨h0, hl⟩ := hb
        rw [asGates_of hg]
        have hcut : cutD (gs.map gateD) none (some at_) = (gs.take at_.toNat).map gateD := by
          rw [cut_take _ _ at_.toNat (by omega), List.map_take]
        have a3 : ∀ a b c d : D, atI [a, b, c, d] 3 = some d := fun _ _ _ _ => rfl
        have loop := compD_map (g := gN 0) (ft := fYes) (fe := e1_reached) (fun env => ∃ s0, env = [s0]) gateD (fun g => some (.int g.w)) (gs.take at_.toNat) [.un] ⟨_, rfl⟩ (fun g env _ ⟨s0, he⟩ => by
          subst he
          refine ⟨[.pers (gateD g)], by simp, ⟨_, rfl⟩, .inr ⟨_, .pers (.int g.w), rfl, rfl, ?_, rfl⟩⟩
          simp [e1_reached, gateD, a3])
        have e : (gs.take at_.toNat).filterMap (fun g => some (D.int g.w)) = ((gs.take at_.toNat).map (·.w)).map .int := by
          rw [List.filterMap_eq_map', List.map_map]; rfl
        rw [e] at loop
        have hz : ((gs.take at_.toNat).map gateD).length ≤ 100000 := by rw [List.length_map, List.length_take]; omega
        have hcomp : (fComp [] 1 (fItL (fSl (fVar 0) (fNo) (fSo (fVar 2)))) (gN 0) fYes e1_reached) [.pers (.lst (gs.map gateD)), .pers (.int st), .pers (.int at_)] = .ok (.fresh (((gs.take at_.toNat).map (·.w)).map .int)) := by
          have hi : (fItL (fSl (fVar 0) (fNo) (fSo (fVar 2)))) [.pers (.lst (gs.map gateD)), .pers (.int st), .pers (.int at_)] = .ok ((gs.take at_.toNat).map gateD) := by
            simp [hcut]
          unfold fComp
          rw [hi, bind_ok, if_pos hz]
          have hcap : capE [] 1 [.pers (.lst (gs.map gateD)), .pers (.int st), .pers (.int at_)] = [.un] := rfl
          rw [hcap, loop]
          rfl
        have hs : (fB gSum (fCons (fComp [] 1 (fItL (fSl (fVar 0) (fNo) (fSo (fVar 2)))) (gN 0) fYes e1_reached) fNil)) [.pers (.lst (gs.map gateD)), .pers (.int st), .pers (.int at_)] = .ok (.pers (.int (sumW (gs.take at_.toNat)))) := by
          unfold fB fCons
          rw [hcomp]
          simp only [bind_ok, fNil, frz, List.map_cons, List.map_nil, Val.d, gSum, asInts_map]
          rfl
        unfold f_reached
        show (((retS _ : FS) [.pers (.lst (gs.map gateD)), .pers (.int st), .pers (.int at_)]).bind _) = _
        unfold retS f2
        rw [hs]
        rfl
      · cases h
    · cases h
  · cases h

@[reducible] def b1_law : FS :=
 appS 7 (fTup (hCons (fVar 8) (hCons (fVar 9) (hCons (fVar 10) (hCons (f2 gSub (fC (.int 0)) (fVar 11)) (hNil))))))

@[reducible] def i2_law : FS :=
 ifS (fTrB (f2 gNe (fCall n_p_shortened (fCons (fB gList (fCons (fVar 3) (fNil))) (fNil))) (fVar 4)))
 (retS (fC (.bl false)))
 (nxtS)

@[reducible] def b3_law : FS :=
 seqS (setS 6 true (f2 gMod (fCall n_mixed (fCons (fVar 0) (fCons (f2 gAdd (fC (.int 50)) (fVar 5)) (fNil)))) (f2 gAdd (fB gLen (fCons (fVar 3) (fNil))) (fC (.int 1)))))
 (seqS (setS 7 false (fCall n_walk (fCons (fVar 0) (fCons (f2 gAdd (fC (.int 55)) (fVar 5)) (fCons (fC (.int 1)) (fCons (fVar 1) (fCons (fCall n_reached (fCons (fVar 3) (fCons (fVar 2) (fCons (fVar 6) (fNil))))) (fNil))))))))
 (seqS (forS (fItL (fB gList (fCons (fVar 7) (fNil)))) (gT [8, 9, 10, 11])
 (b1_law))
 (seqS (setS 3 true (f2 gAdd (f2 gAdd (fSl (fVar 3) (fNo) (fSo (fVar 6))) (fVar 7)) (fSl (fVar 3) (fSo (fVar 6)) (fNo))))
 (i2_law))))

def f_law : FS :=
 seqS (setS 1 true (fCall n_put (fCons (fCall n_pegs (fCons (fVar 0) (fNil))) (fCons (fCall n_frame (fCons (fVar 0) (fNil))) (fNil)))))
 (seqS (setS 2 true (f2 gMod (fCall n_mixed (fCons (fVar 0) (fCons (fC (.int 20)) (fNil)))) (f2 gAdd (fB gLen (fCons (fCall n_board (fCons (fVar 1) (fNil))) (fNil))) (fC (.int 1)))))
 (seqS (setS 3 true (fCall n_walk (fCons (fVar 0) (fCons (fC (.int 21)) (fCons (f2 gMod (fCall n_mixed (fCons (fVar 0) (fCons (fC (.int 19)) (fNil)))) (fC (.int 9))) (fCons (fVar 1) (fCons (fVar 2) (fNil))))))))
 (seqS (setS 4 true (fCall n_p_shortened (fCons (fB gList (fCons (fVar 3) (fNil))) (fNil))))
 (seqS (forS (fRng1 (fCons (fB gMin2 (fCons (fC (.int 5)) (fCons (fB gLen (fCons (fVar 0) (fNil))) (fNil)))) (fNil))) (gN 5)
 (b3_law))
 (retS (fC (.bl true)))))))

def n_law : List D → Out Val := runD 12 f_law

theorem nice_law : ∀ ds v, ds.length = 1 → n_law ds = .ok v → runD 12 f_law ds = .ok v := fun _ _ _ h => h

end My

set_option Elab.async false
set_option linter.all false
set_option maxRecDepth 100000
set_option maxHeartbeats 4000000
namespace My
open PySem PySem.Spec PyProof.Rows L2 DL

theorem pegs_le (ns : List Int) : ((pegsV ns).map (putP (frmV ns))).length ≤ 12 := by
  rw [List.length_map]
  have h1 := pegs_len ns (manyV ns).toNat
  have h2 := many_le ns
  unfold pegsV
  omega
theorem sumW_app (a b : List Gate) : sumW (a ++ b) = sumW a + sumW b := by simp [sumW, List.sum_append]
theorem sumW_cons (g : Gate) (b : List Gate) : sumW (g :: b) = g.w + sumW b := by simp [sumW]
theorem Path.app {n : Nat} : ∀ {h : Int} {a b : List Gate}, Path n h (a ++ b) ↔ Path n h a ∧ Path n (h + sumW a) b
  | h, [], b => by
    simp only [List.nil_append, sumW, List.map_nil, List.sum_nil, Int.add_zero]
    constructor
    · intro p
      refine ⟨?_, p⟩
      cases b with
      | nil => exact p
      | cons g b => exact ⟨p.1, p.2.1⟩
    · exact fun p => p.2
  | h, g :: a, b => by
    have ih := Path.app (n := n) (h := h + g.w) (a := a) (b := b)
    rw [sumW_cons, ← Int.add_assoc]
    constructor
    · intro p
      obtain ⟨q1, q2⟩ := ih.mp p.2.2
      exact ⟨⟨p.1, p.2.1, q1⟩, q2⟩
    · rintro ⟨p, q⟩
      exact ⟨p.1, p.2.1, ih.mpr ⟨p.2.2, q⟩⟩
def flip (g : Gate) : Gate := ⟨g.x, g.lo, g.hi, 0 - g.w⟩
theorem opp_flip {g : Gate} (h : Way g) : opp g (flip g) = true := by
  rw [opp_iff]
  refine ⟨⟨rfl, rfl, rfl⟩, ?_⟩
  unfold Way at h
  show g.w ≠ 0 - g.w
  omega
theorem way_flip {g : Gate} (h : Way g) : Way (flip g) := by
  unfold Way at h ⊢
  show 0 - g.w = 1 ∨ 0 - g.w = -1
  omega
theorem short_ok (gs : List Gate) (h : gs.length ≤ 1000) : n_p_shortened [.lst (gs.map gateD)] = .ok (.fresh ((shortV gs).map gateD)) := by
  have : gs.length ≤ 10000 := by omega
  simp [n_p_shortened, asGates_map, this]
theorem row_turn {ns : List Int} {ps : List (Int × Int)} {st : Int} {k : Nat} {gs gs0 : List Gate} {s6 s7 s8 s9 s10 s11 : Slot} (hps : ps.length < 18) (hk : k ≤ 10) (hl : gs.length ≤ 100) (hw : ∀ g ∈ gs, Way g) (hp : Path (boardV ps).length st gs) (hs : shortV gs = shortV gs0) :
    ∃ gs' t6 t7 t8 t9 t10 t11, b3_law [.pers (.scr ns), .pers (.lst (ps.map spotD)), .pers (.int st), .pers (.lst (gs.map gateD)), .pers (.lst ((shortV gs0).map gateD)), .pers (.int k), s6, s7, s8, s9, s10, s11] =
      .ok (.next [.pers (.scr ns), .pers (.lst (ps.map spotD)), .pers (.int st), .pers (.lst (gs'.map gateD)), .pers (.lst ((shortV gs0).map gateD)), .pers (.int k), t6, t7, t8, t9, t10, t11]) ∧
      (∀ g ∈ gs', Way g) ∧ Path (boardV ps).length st gs' ∧ shortV gs' = shortV gs0 ∧ gs'.length ≤ gs.length + 2 := by
  have hm : n_mixed [.scr ns, .int (50 + (k : Int))] = .ok (.pers (.int (mixedV ns (50 + k)))) := by
    have h1 : (0 : Int) ≤ 50 + k := by omega
    have h2 : (50 : Int) + k ≤ 1000000 := by omega
    simp [n_mixed, h1, h2]
  have i0 : 0 ≤ mixedV ns (50 + k) % ((gs.length : Int) + 1) := Int.emod_nonneg _ (by omega)
  have i1 : mixedV ns (50 + k) % ((gs.length : Int) + 1) < (gs.length : Int) + 1 := Int.emod_lt_of_pos _ (by omega)
  obtain ⟨at_, hat⟩ : ∃ at_, at_ = mixedV ns (50 + k) % ((gs.length : Int) + 1) := ⟨_, rfl⟩
  rw [← hat] at i0 i1
  have hpos : (0 : Int) < (gs.length : Int) + 1 := by omega
  have hre : n_reached [.lst (gs.map gateD), .int st, .int at_] = .ok (.pers (.int (st + sumW (gs.take at_.toNat)))) := by
    have : gs.length ≤ 1000 := by omega
    simp [n_reached, asGates_map, i0, this]
  have hsplit : gs = gs.take at_.toNat ++ gs.drop at_.toNat := (List.take_append_drop _ _).symm
  generalize ha : gs.take at_.toNat = a at hre hsplit
  generalize hb : gs.drop at_.toNat = b at hsplit
  have hp2 : Path (boardV ps).length st a ∧ Path (boardV ps).length (st + sumW a) b := by rw [hsplit] at hp; exact Path.app.mp hp
  obtain ⟨r0, r1⟩ := hp2.1.last
  obtain ⟨pr, hwalk, hpw, hpp, hpl, _⟩ := walk_ok ns (55 + k) 1 ps (st + sumW a) (by omega) (by omega) (by omega) hps r0 r1
  have c1 : cutD (gs.map gateD) none (some at_) = a.map gateD := by rw [cut_take _ _ at_.toNat (by omega), ← List.map_take, ha]
  have c2 : cutD (gs.map gateD) (some at_) none = b.map gateD := by rw [cut_drop _ _ at_.toNat (by omega), ← List.map_drop, hb]
  have hab : a.length + b.length = gs.length := by rw [hsplit, List.length_append]
  unfold b3_law
  rw [seq_next (env' := [.pers (.scr ns), .pers (.lst (ps.map spotD)), .pers (.int st), .pers (.lst (gs.map gateD)), .pers (.lst ((shortV gs0).map gateD)), .pers (.int k), .pers (.int at_), s7, s8, s9, s10, s11]) (by simp [hm, hpos, hat])]
  rw [seq_next (env' := [.pers (.scr ns), .pers (.lst (ps.map spotD)), .pers (.int st), .pers (.lst (gs.map gateD)), .pers (.lst ((shortV gs0).map gateD)), .pers (.int k), .pers (.int at_), .own (pr.map gateD), s8, s9, s10, s11]) (by
    simp only [setS, fCall, fCons, fVar, fC, fNil, f2, gAdd, List.getElem?_cons_succ, List.getElem?_cons_zero, bind_ok, frz, callG, List.map_cons, List.map_nil, Val.d, hre, List.all_cons, List.all_nil, Val.isPers, Bool.and_self, Bool.true_or, if_true]
    rw [show ((1 : Int)) = ((1 : Nat) : Int) from rfl, hwalk]
    rfl)]
  have inner : ∃ pr2 t8 t9 t10 t11, forS (fItL (fB gList (fCons (fVar 7) (fNil)))) (gT [8, 9, 10, 11]) b1_law [.pers (.scr ns), .pers (.lst (ps.map spotD)), .pers (.int st), .pers (.lst (gs.map gateD)), .pers (.lst ((shortV gs0).map gateD)), .pers (.int k), .pers (.int at_), .own (pr.map gateD), s8, s9, s10, s11] =
      .ok (.next [.pers (.scr ns), .pers (.lst (ps.map spotD)), .pers (.int st), .pers (.lst (gs.map gateD)), .pers (.lst ((shortV gs0).map gateD)), .pers (.int k), .pers (.int at_), .own (pr2.map gateD), t8, t9, t10, t11]) ∧
      (∀ g ∈ pr2, Way g) ∧ Path (boardV ps).length (st + sumW a) pr2 ∧ sumW pr2 = 0 ∧ pr2.length ≤ 2 ∧ shortV (a ++ pr2 ++ b) = shortV (a ++ b) := by
    cases pr with
    | nil => exact ⟨[], s8, s9, s10, s11, by simp [forD], by simp, ⟨r0, r1⟩, rfl, by simp, by simp⟩
    | cons g pr =>
      have : pr = [] := by
        cases pr with
        | nil => rfl
        | cons _ _ => simp at hpl
      subst this
      have hg := hpw g (by simp)
      refine ⟨[g, flip g], _, _, _, _, by simp [forD, gateD, flip]; exact ⟨rfl, rfl, rfl, rfl⟩, ?_, ?_, ?_, by simp, ?_⟩
      · intro t ht
        rcases List.mem_cons.mp ht with rfl | ht
        · exact hg
        · rw [List.mem_singleton] at ht; rw [ht]; exact way_flip hg
      · have q := hpp.2.2
        have e : st + sumW a + g.w + (flip g).w = st + sumW a := by show _ + g.w + (0 - g.w) = _; omega
        exact ⟨r0, r1, q.1, q.2, by rw [e]; exact ⟨r0, r1⟩⟩
      · rw [sumW_cons, sumW_cons]
        show g.w + (0 - g.w + 0) = 0
        omega
      · rw [show a ++ [g, flip g] ++ b = a ++ g :: flip g :: b by simp]
        exact short_pair (fun t ht => hw t (by rw [hsplit]; simp [ht])) hg (way_flip hg) (opp_flip hg)
  obtain ⟨pr2, t8, t9, t10, t11, e, w2, p2, s2, l2, sh2⟩ := inner
  rw [seq_next e]
  have q1 : a.length + pr2.length ≤ 100000 := by omega
  have q2 : a.length + pr2.length + b.length ≤ 100000 := by omega
  have hsum : shortV (a ++ pr2 ++ b) = shortV gs0 := by rw [sh2, ← hsplit]; exact hs
  have hlen : (a ++ pr2 ++ b).length ≤ 1000 := by simp; omega
  refine ⟨a ++ pr2 ++ b, .pers (.int at_), .own (pr2.map gateD), t8, t9, t10, t11, ?_, ?_, ?_, hsum, by simp; omega⟩
  · rw [seq_next (env' := [.pers (.scr ns), .pers (.lst (ps.map spotD)), .pers (.int st), .pers (.lst ((a ++ pr2 ++ b).map gateD)), .pers (.lst ((shortV gs0).map gateD)), .pers (.int k), .pers (.int at_), .own (pr2.map gateD), t8, t9, t10, t11]) (by
      simp only [setS, f2, fSl, fVar, fNo, fSo, List.getElem?_cons_succ, List.getElem?_cons_zero, bind_ok, Val.d, gSl, c1, c2, gAdd, List.length_map, q1, if_true, List.length_append]
      simp [q2])]
    have hsh := short_ok (a ++ pr2 ++ b) hlen
    rw [hsum] at hsh
    have heq : eqD (.lst ((shortV gs0).map gateD)) (.lst ((shortV gs0).map gateD)) = true := by rw [eqD_lst, eqDL_map gateD eq_gate, decide_eq_true rfl]
    have hsha := shal_gates 2 (shortV gs0)
    unfold i2_law
    simp only [ifS]
    rw [show (fTrB (f2 gNe (fCall n_p_shortened (fCons (fB gList (fCons (fVar 3) (fNil))) (fNil))) (fVar 4))) [.pers (.scr ns), .pers (.lst (ps.map spotD)), .pers (.int st), .pers (.lst ((a ++ pr2 ++ b).map gateD)), .pers (.lst ((shortV gs0).map gateD)), .pers (.int k), .pers (.int at_), .own (pr2.map gateD), t8, t9, t10, t11] = .ok false by
      simp only [fTrB, f2, fCall, fCons, fB, fVar, fNil, List.getElem?_cons_succ, List.getElem?_cons_zero, bind_ok, Val.d, frz, List.map_cons, List.map_nil, gList, callG, hsh, List.all_cons, List.all_nil, Val.isPers, Bool.and_self, Bool.true_or, if_true, gNe, hsha, heq]
      rfl]
    rfl
  · intro t ht
    rcases List.mem_append.mp ht with ht | ht
    · rcases List.mem_append.mp ht with ht | ht
      · exact hw t (by rw [hsplit]; simp [ht])
      · exact w2 t ht
    · exact hw t (by rw [hsplit]; simp [ht])
  · refine Path.app.mpr ⟨Path.app.mpr ⟨hp2.1, p2⟩, ?_⟩
    rw [sumW_app, s2, Int.add_zero]
    exact hp2.2
theorem main : ∀ ns : List Int, ns.length ≤ 63 → runD 12 f_law [.scr ns] = .ok (.pers (.bl true)) := by
  intro ns hns
  have hpl := pegs_le ns
  obtain ⟨ps, hps⟩ : ∃ ps, ps = (pegsV ns).map (putP (frmV ns)) := ⟨_, rfl⟩
  have hfo := frm_ok ns
  have hput : n_put [.lst ((pegsV ns).map spotD), frmD (frmV ns)] = .ok (.fresh (ps.map spotD)) := by
    have hl : (pegsV ns).length ≤ 100000 := by rw [List.length_map] at hpl; omega
    obtain ⟨a1, a2, a3, a4, a5, a6, _, _, _, _⟩ := hfo
    have e : (⟨(frmV ns).w, (frmV ns).h, (frmV ns).s, (frmV ns).r, (frmV ns).u⟩ : Frm) = frmV ns := rfl
    simp only [n_put, frmD, asSpots_map]
    rw [if_pos ⟨hl, a1, a2, a3, a4, a5, a6⟩, e, hps]
  rw [← hps] at hpl
  have hbd : n_board [.lst (ps.map spotD)] = .ok (.fresh ((boardV ps).map lineD)) := by
    have : ps.length < 18 := by omega
    simp [n_board, asSpots_map, this]
  have hm : n_mixed [.scr ns, .int 20] = .ok (.pers (.int (mixedV ns 20))) := by simp [n_mixed]
  have hm19 : n_mixed [.scr ns, .int 19] = .ok (.pers (.int (mixedV ns 19))) := by simp [n_mixed]
  have s0 : 0 ≤ mixedV ns 20 % (((boardV ps).length : Int) + 1) := Int.emod_nonneg _ (by omega)
  have s1 : mixedV ns 20 % (((boardV ps).length : Int) + 1) < ((boardV ps).length : Int) + 1 := Int.emod_lt_of_pos _ (by omega)
  obtain ⟨st, hst⟩ : ∃ st, st = mixedV ns 20 % (((boardV ps).length : Int) + 1) := ⟨_, rfl⟩
  rw [← hst] at s0 s1
  obtain ⟨mn, hmn⟩ : ∃ mn : Nat, (mn : Int) = mixedV ns 19 % 9 := ⟨(mixedV ns 19 % 9).toNat, by omega⟩
  obtain ⟨gs, hwalk, hw, hpath, hgl, _⟩ := walk_ok ns 21 mn ps st (by omega) (by omega) (by omega) (by omega) s0 (by omega)
  have hgl' : gs.length ≤ 8 := by omega
  have hsh := short_ok gs (by omega)
  have hpegs : n_pegs [.scr ns] = .ok (.fresh ((pegsV ns).map spotD)) := rfl
  have hfr : n_frame [.scr ns] = .ok (.pers (frmD (frmV ns))) := rfl
  have hpos : (0 : Int) < ((boardV ps).length : Int) + 1 := by omega
  have hmin : (if (ns.length : Int) < 5 then (ns.length : Int) else 5) = ((min 5 ns.length : Nat) : Int) := by split <;> omega
  obtain ⟨env', e, gs', k', t6, t7, t8, t9, t10, t11, he, q1, q2, q3, q4⟩ := forD_inv (g := gN 5) (fb := b3_law) (fun i env => ∃ gs' k' t6 t7 t8 t9 t10 t11, env = [.pers (.scr ns), .pers (.lst (ps.map spotD)), .pers (.int st), .pers (.lst (gs'.map gateD)), .pers (.lst ((shortV gs).map gateD)), k', t6, t7, t8, t9, t10, t11] ∧
      (∀ g ∈ gs', Way g) ∧ Path (boardV ps).length st gs' ∧ shortV gs' = shortV gs ∧ gs'.length ≤ 8 + 2 * i) (rngD 0 (min 5 ns.length)) 0
    [.pers (.scr ns), .pers (.lst (ps.map spotD)), .pers (.int st), .pers (.lst (gs.map gateD)), .pers (.lst ((shortV gs).map gateD)), .un, .un, .un, .un, .un, .un, .un] ⟨gs, .un, .un, .un, .un, .un, .un, .un, rfl, hw, hpath, rfl, by omega⟩ (fun j d env _ hd ⟨gs', k', t6, t7, t8, t9, t10, t11, he, q1, q2, q3, q4⟩ => by
      subst he
      obtain ⟨hj, rfl⟩ := rng_get hd
      simp only [Nat.sub_zero] at hj ⊢
      obtain ⟨gs2, u6, u7, u8, u9, u10, u11, e, r1, r2, r3, r4⟩ := row_turn (ns := ns) (ps := ps) (st := st) (k := j) (gs := gs') (gs0 := gs) (s6 := t6) (s7 := t7) (s8 := t8) (s9 := t9) (s10 := t10) (s11 := t11) (by omega) (by omega) (by omega) q1 q2 q3
      exact ⟨[.pers (.scr ns), .pers (.lst (ps.map spotD)), .pers (.int st), .pers (.lst (gs'.map gateD)), .pers (.lst ((shortV gs).map gateD)), .pers (.int j), t6, t7, t8, t9, t10, t11], _, by simp, e, gs2, _, _, _, _, _, _, _, rfl, r1, r2, r3, by omega⟩)
  unfold f_law
  show (((seqS _ _ : FS) [.pers (.scr ns), .un, .un, .un, .un, .un, .un, .un, .un, .un, .un, .un]).bind _) = _
  rw [seq_next (env' := [.pers (.scr ns), .pers (.lst (ps.map spotD)), .un, .un, .un, .un, .un, .un, .un, .un, .un, .un]) (by simp [hpegs, hfr, hput])]
  rw [seq_next (env' := [.pers (.scr ns), .pers (.lst (ps.map spotD)), .pers (.int st), .un, .un, .un, .un, .un, .un, .un, .un, .un]) (by simp [hbd, hm, hpos, hst])]
  rw [seq_next (env' := [.pers (.scr ns), .pers (.lst (ps.map spotD)), .pers (.int st), .pers (.lst (gs.map gateD)), .un, .un, .un, .un, .un, .un, .un, .un]) (by simp [hm19, ← hmn, hwalk])]
  rw [seq_next (env' := [.pers (.scr ns), .pers (.lst (ps.map spotD)), .pers (.int st), .pers (.lst (gs.map gateD)), .pers (.lst ((shortV gs).map gateD)), .un, .un, .un, .un, .un, .un, .un]) (by simp [hsh])]
  rw [seq_next (env' := env') (by
    have hi : (fRng1 (fCons (fB gMin2 (fCons (fC (.int 5)) (fCons (fB gLen (fCons (fVar 0) (fNil))) (fNil)))) (fNil))) [.pers (.scr ns), .pers (.lst (ps.map spotD)), .pers (.int st), .pers (.lst (gs.map gateD)), .pers (.lst ((shortV gs).map gateD)), .un, .un, .un, .un, .un, .un, .un] = .ok (rngD 0 (min 5 ns.length)) := by
      have hr : (-1000000 : Int) ≤ ((min 5 ns.length : Nat) : Int) ∧ ((min 5 ns.length : Nat) : Int) ≤ 1000000 := by omega
      simp only [fRng1, fCons, fB, fC, fVar, fNil, List.getElem?_cons_zero, bind_ok, frz, List.map_cons, List.map_nil, Val.d, gLen, gMin2, hmin, hr, and_self, if_true, Int.toNat_natCast]
    unfold forS
    rw [hi, bind_ok, e])]
  rfl

end My

set_option Elab.async false
set_option linter.all false
set_option maxRecDepth 100000
set_option maxHeartbeats 4000000
namespace My
open PySem PySem.Spec PyProof.Rows L2 DL
def top (i : Nat) : Stmt := PySem.Challenge.pw_tautline_k14_pairs_put_in.main.body.getD i (.Pass ⟨0, 0, 0, 0⟩)
abbrev s_put : Stmt := top 10
theorem sc_put : FnScope ["_law_spots", "_law_frame_here", "_law_wide", "_law_high", "_law_slant", "_law_right", "_law_up"] ["_law_spots", "_law_frame_here"] (defScope s_put) := ⟨rfl, rfl, rfl, by decide +kernel, rfl, by decide +kernel, by decide +kernel⟩
abbrev s_cell_at : Stmt := top 4
theorem sc_cell_at : FnScope ["_law_script", "_law_k"] ["_law_script", "_law_k"] (defScope s_cell_at) := ⟨rfl, rfl, rfl, by decide +kernel, rfl, by decide +kernel, by decide +kernel⟩
abbrev s_block : Stmt := top 6
theorem sc_block : FnScope ["_law_script", "_law_k", "_law_cell", "_law_j"] ["_law_script", "_law_k"] (defScope s_block) := ⟨rfl, rfl, rfl, by decide +kernel, rfl, by decide +kernel, by decide +kernel⟩
abbrev s_mixed : Stmt := top 7
theorem sc_mixed : FnScope ["_law_script", "_law_k", "_law_cell", "_law_number"] ["_law_script", "_law_k"] (defScope s_mixed) := ⟨rfl, rfl, rfl, by decide +kernel, rfl, by decide +kernel, by decide +kernel⟩
abbrev s_frame : Stmt := top 9
theorem sc_frame : FnScope ["_law_script", "_law_wide", "_law_high", "_law_far", "_law_slant", "_law_right"] ["_law_script"] (defScope s_frame) := ⟨rfl, rfl, rfl, by decide +kernel, rfl, by decide +kernel, by decide +kernel⟩
abbrev s_pegs : Stmt := top 8
theorem sc_pegs : FnScope ["_law_script", "_law_number", "_law_many", "_law_found", "_law_k", "_law_peg"] ["_law_script"] (defScope s_pegs) := ⟨rfl, rfl, rfl, by decide +kernel, rfl, by decide +kernel, by decide +kernel⟩
abbrev s_board : Stmt := top 11
theorem sc_board : FnScope ["_law_pegs_here"] ["_law_pegs_here"] (defScope s_board) := ⟨rfl, rfl, rfl, by decide +kernel, rfl, by decide +kernel, by decide +kernel⟩
abbrev s_walk : Stmt := top 12
theorem sc_walk : FnScope ["_law_script", "_law_start", "_law_many", "_law_pegs_here", "_law_here", "_law_board_here", "_law_found", "_law_k", "_law_number", "_law_way", "_law_x", "_law_heights", "_law_ends", "_law_at"] ["_law_script", "_law_start", "_law_many", "_law_pegs_here", "_law_here"] (defScope s_walk) := ⟨rfl, rfl, rfl, by decide +kernel, rfl, by decide +kernel, by decide +kernel⟩
abbrev s_p_to_and_fro : Stmt := top 2
theorem sc_p_to_and_fro : FnScope ["gate", "later"] ["gate", "later"] (defScope s_p_to_and_fro) := ⟨rfl, rfl, rfl, by decide +kernel, rfl, by decide +kernel, by decide +kernel⟩
abbrev s_p_shortened : Stmt := top 1
theorem sc_p_shortened : FnScope ["row", "kept", "gate"] ["row"] (defScope s_p_shortened) := ⟨rfl, rfl, rfl, by decide +kernel, rfl, by decide +kernel, by decide +kernel⟩
abbrev s_reached : Stmt := top 13
theorem sc_reached : FnScope ["_law_row", "_law_start", "_law_at"] ["_law_row", "_law_start", "_law_at"] (defScope s_reached) := ⟨rfl, rfl, rfl, by decide +kernel, rfl, by decide +kernel, by decide +kernel⟩
abbrev s_law : Stmt := top 14
theorem sc_law : FnScope ["_law_script", "_law_pegs_here", "_law_start", "_law_row", "_law_due", "_law_k", "_law_at", "_law_pair", "_law_x", "_law_low", "_law_high", "_law_way"] ["_law_script"] (defScope s_law) := ⟨rfl, rfl, rfl, by decide +kernel, rfl, by decide +kernel, by decide +kernel⟩
section
variable {P : Program} {w : World} {K : PySem.W.Frag} {mg : Str → Option Value} {base : Heap} {k : Nat}
theorem ok_put {f : Addr} {fd : FuncData} (F : Fun K "_law_put" "_law_put" s_put f fd)   : FnOk P w K mg base CX0 (k + 1) f fd ["_law_spots", "_law_frame_here"] (spD K (runD 7 f_put) 2) := by
  have nd := (sc_put).nd
  exact fn_ok (N := ["_law_spots", "_law_frame_here", "_law_wide", "_law_high", "_law_slant", "_law_right", "_law_up"]) F sc_put fun cdv A outer s G H E hr =>
      dss_cons (ds_asg (de_var (pv 1)) (dg_tup rfl (dgs_cons (i := 2) nd (dgs_cons (i := 3) nd (dgs_cons (i := 4) nd (dgs_cons (i := 5) nd (dgs_cons (i := 6) nd (dgs_nil))))))))
       (dss_one (ds_ret (de_comp (cap := [2, 5, 3, 4, 6]) (own := ["_law_x", "_law_y"]) ⟨rfl, by decide +kernel, by decide +kernel, rfl, rfl⟩ (di_list (de_var (pv 0))) (fun _ _ _ => dg_tup rfl (dgs_cons (i := 5) (show (["_law_wide", "_law_right", "_law_high", "_law_slant", "_law_up", "_law_x", "_law_y"] : List Str).Nodup from by decide +kernel) (dgs_cons (i := 6) (show (["_law_wide", "_law_right", "_law_high", "_law_slant", "_law_up", "_law_x", "_law_y"] : List Str).Nodup from by decide +kernel) (dgs_nil)))) (calm_tup [5, 6]) (fun _ _ _ => dts_nil) (fun _ _ _ => de_tup (dh_cons (de_add (de_mul (de_var (pv 0)) (de_var (pv 5))) (de_var (pv 1))) (dh_cons (de_add (de_add (de_mul (de_var (pv 2)) (de_var (pv 6))) (de_mul (de_var (pv 3)) (de_var (pv 5)))) (de_var (pv 4))) (dh_nil)))))))

theorem cal_put {f : Addr} {fd : FuncData} (F : Fun K "_law_put" "_law_put" s_put f fd) (hm : mg "_law_put" = some (.ref f))   : Cal P w K mg base (k + 1) "_law_put" ["_law_spots", "_law_frame_here"] n_put :=
  Cal.imp ⟨f, fd, ok_put F  , hm, F.kp, F.binds (ps := ["_law_spots", "_law_frame_here"]) fun _ _ _ _ _ _ us hl => match us, hl with | [_, _], _ => rfl⟩ nice_put

theorem ok_cell_at {f : Addr} {fd : FuncData} (F : Fun K "_law_cell_at" "_law_cell_at" s_cell_at f fd)  (b_len : mg "len" = none) : FnOk P w K mg base CX0 (k + 1) f fd ["_law_script", "_law_k"] (spD K (runD 2 f_cell_at) 2) := by
  have nd := (sc_cell_at).nd
  exact fn_ok (N := ["_law_script", "_law_k"]) F sc_cell_at fun cdv A outer s G H E hr =>
      dss_cons (ds_if (dt_lt (de_var (pv 1)) (de_callB call_len_seq cd_len b_len PySem.boot_len (da_cons (de_var (pv 0)) (da_nil))))
       (dss_one (ds_ret (de_at (de_var (pv 0)) (de_var (pv 1)))))
       (dss_nil))
       (dss_one (ds_ret (de_int)))

theorem cal_cell_at {f : Addr} {fd : FuncData} (F : Fun K "_law_cell_at" "_law_cell_at" s_cell_at f fd) (hm : mg "_law_cell_at" = some (.ref f))  (b_len : mg "len" = none) : Cal P w K mg base (k + 1) "_law_cell_at" ["_law_script", "_law_k"] n_cell_at :=
  Cal.imp ⟨f, fd, ok_cell_at F  b_len, hm, F.kp, F.binds (ps := ["_law_script", "_law_k"]) fun _ _ _ _ _ _ us hl => match us, hl with | [_, _], _ => rfl⟩ nice_cell_at

theorem ok_block {f : Addr} {fd : FuncData} (F : Fun K "_law_block" "_law_block" s_block f fd)  (b_len : mg "len" = none) (b_range : mg "range" = none) : FnOk P w K mg base CX0 (k + 1) f fd ["_law_script", "_law_k"] (spD K (runD 4 f_block) 2) := by
  have nd := (sc_block).nd
  exact fn_ok (N := ["_law_script", "_law_k", "_law_cell", "_law_j"]) F sc_block fun cdv A outer s G H E hr =>
      dss_cons (ds_set (i := 2) true nd (de_int))
       (dss_cons (ds_if (dt_lt (de_add (de_int) (de_mod (de_div (de_var (pv 1)) (de_int)) (de_int))) (de_callB call_len_seq cd_len b_len PySem.boot_len (da_cons (de_var (pv 0)) (da_nil))))
       (dss_one (ds_set (i := 2) true nd (de_div (de_at (de_var (pv 0)) (de_add (de_int) (de_mod (de_div (de_var (pv 1)) (de_int)) (de_int)))) (de_pow (de_int) (de_int)))))
       (dss_nil))
       (dss_cons (ds_for PassesOwn.never (di_range1 b_range (da_cons (de_mod (de_var (pv 1)) (de_int)) (da_nil))) (dg_name (i := 3) nd)
       (dss_one (ds_set (i := 2) true nd (de_div (de_var (pv 2)) (de_int)))))
       (dss_one (ds_ret (de_var (pv 2))))))

theorem cal_block {f : Addr} {fd : FuncData} (F : Fun K "_law_block" "_law_block" s_block f fd) (hm : mg "_law_block" = some (.ref f))  (b_len : mg "len" = none) (b_range : mg "range" = none) : Cal P w K mg base (k + 1) "_law_block" ["_law_script", "_law_k"] n_block :=
  Cal.imp ⟨f, fd, ok_block F  b_len b_range, hm, F.kp, F.binds (ps := ["_law_script", "_law_k"]) fun _ _ _ _ _ _ us hl => match us, hl with | [_, _], _ => rfl⟩ nice_block

theorem ok_mixed {f : Addr} {fd : FuncData} (F : Fun K "_law_mixed" "_law_mixed" s_mixed f fd) (c_block : Cal P w K mg base k "_law_block" ["_law_script", "_law_k"] n_block) (b_len : mg "len" = none) (b_min : mg "min" = none) : FnOk P w K mg base CX0 (k + 1) f fd ["_law_script", "_law_k"] (spD K (runD 4 f_mixed) 2) := by
  have nd := (sc_mixed).nd
  exact fn_ok (N := ["_law_script", "_law_k", "_law_cell", "_law_number"]) F sc_mixed fun cdv A outer s G H E hr =>
      dss_cons (ds_set (i := 2) true nd (de_int))
       (dss_cons (ds_if (dt_gt (de_callB call_len_seq cd_len b_len PySem.boot_len (da_cons (de_var (pv 0)) (da_nil))) (de_int))
       (dss_one (ds_set (i := 2) true nd (de_at (de_var (pv 0)) (de_int))))
       (dss_nil))
       (dss_cons (ds_if (dt_w (dw_and (dt_eq (hu20 hr) (de_mod (de_div (de_var (pv 2)) (de_pow (de_int) (de_int))) (de_int)) (de_int)) (dw_and1 (dt_ne (hu20 hr) (de_cal c_block hr (da_cons (de_var (pv 0)) (da_cons (de_var (pv 1)) (da_nil))) (len_cons (len_cons (len_nil)))) (de_int)))))
       (dss_one (ds_ret (de_mod (de_cal c_block hr (da_cons (de_var (pv 0)) (da_cons (de_var (pv 1)) (da_nil))) (len_cons (len_cons (len_nil)))) (de_int))))
       (dss_nil))
       (dss_cons (ds_if (dt_gt (de_callB call_len_seq cd_len b_len PySem.boot_len (da_cons (de_var (pv 0)) (da_nil))) (de_int))
       (dss_one (ds_set (i := 2) true nd (de_at (de_var (pv 0)) (de_mod (de_var (pv 1)) (de_callB (call_min2 rfl) cd_min2 b_min boot_min (da_cons (de_int) (da_cons (de_callB call_len_seq cd_len b_len PySem.boot_len (da_cons (de_var (pv 0)) (da_nil))) (da_nil))))))))
       (dss_nil))
       (dss_cons (ds_set (i := 3) true nd (de_add (de_mod (de_var (pv 2)) (de_pow (de_int) (de_int))) (de_mul (de_int) (de_add (de_var (pv 1)) (de_int)))))
       (dss_cons (ds_set (i := 3) true nd (de_add (de_mod (de_mul (de_var (pv 3)) (de_var (pv 3))) (de_int)) (de_mul (de_int) (de_var (pv 1)))))
       (dss_one (ds_ret (de_mod (de_mul (de_var (pv 3)) (de_var (pv 3))) (de_int)))))))))

theorem cal_mixed {f : Addr} {fd : FuncData} (F : Fun K "_law_mixed" "_law_mixed" s_mixed f fd) (hm : mg "_law_mixed" = some (.ref f)) (c_block : Cal P w K mg base k "_law_block" ["_law_script", "_law_k"] n_block) (b_len : mg "len" = none) (b_min : mg "min" = none) : Cal P w K mg base (k + 1) "_law_mixed" ["_law_script", "_law_k"] n_mixed :=
  Cal.imp ⟨f, fd, ok_mixed F c_block b_len b_min, hm, F.kp, F.binds (ps := ["_law_script", "_law_k"]) fun _ _ _ _ _ _ us hl => match us, hl with | [_, _], _ => rfl⟩ nice_mixed

theorem ok_frame {f : Addr} {fd : FuncData} (F : Fun K "_law_frame" "_law_frame" s_frame f fd) (c_cell_at : Cal P w K mg base k "_law_cell_at" ["_law_script", "_law_k"] n_cell_at) (c_mixed : Cal P w K mg base k "_law_mixed" ["_law_script", "_law_k"] n_mixed)  : FnOk P w K mg base CX0 (k + 1) f fd ["_law_script"] (spD K (runD 6 f_frame) 1) := by
  have nd := (sc_frame).nd
  exact fn_ok (N := ["_law_script", "_law_wide", "_law_high", "_law_far", "_law_slant", "_law_right"]) F sc_frame fun cdv A outer s G H E hr =>
      dss_cons (ds_set (i := 1) true nd (de_at (de_lst (dh_cons (de_int) (dh_cons (de_add (de_int) (de_mod (de_cal c_cell_at hr (da_cons (de_var (pv 0)) (da_cons (de_int) (da_nil))) (len_cons (len_cons (len_nil)))) (de_pow (de_int) (de_int)))) (dh_nil)))) (de_mod (de_cal c_mixed hr (da_cons (de_var (pv 0)) (da_cons (de_int) (da_nil))) (len_cons (len_cons (len_nil)))) (de_int))))
       (dss_cons (ds_set (i := 2) true nd (de_at (de_lst (dh_cons (de_int) (dh_cons (de_add (de_int) (de_mod (de_cal c_cell_at hr (da_cons (de_var (pv 0)) (da_cons (de_int) (da_nil))) (len_cons (len_cons (len_nil)))) (de_pow (de_int) (de_int)))) (dh_nil)))) (de_mod (de_cal c_mixed hr (da_cons (de_var (pv 0)) (da_cons (de_int) (da_nil))) (len_cons (len_cons (len_nil)))) (de_int))))
       (dss_cons (ds_set (i := 3) true nd (de_at (de_lst (dh_cons (de_int) (dh_cons (de_pow (de_int) (de_int)) (dh_nil)))) (de_mod (de_cal c_mixed hr (da_cons (de_var (pv 0)) (da_cons (de_int) (da_nil))) (len_cons (len_cons (len_nil)))) (de_int))))
       (dss_cons (ds_set (i := 4) true nd (de_sub (de_mod (de_cal c_mixed hr (da_cons (de_var (pv 0)) (da_cons (de_int) (da_nil))) (len_cons (len_cons (len_nil)))) (de_int)) (de_int)))
       (dss_cons (ds_set (i := 5) true nd (de_sub (de_mod (de_cal c_cell_at hr (da_cons (de_var (pv 0)) (da_cons (de_int) (da_nil))) (len_cons (len_cons (len_nil)))) (de_var (pv 3))) (de_div (de_var (pv 3)) (de_int))))
       (dss_one (ds_ret (de_tup (dh_cons (de_var (pv 1)) (dh_cons (de_var (pv 2)) (dh_cons (de_var (pv 4)) (dh_cons (de_var (pv 5)) (dh_cons (de_sub (de_mod (de_cal c_cell_at hr (da_cons (de_var (pv 0)) (da_cons (de_int) (da_nil))) (len_cons (len_cons (len_nil)))) (de_var (pv 3))) (de_div (de_var (pv 3)) (de_int))) (dh_nil)))))))))))))

theorem cal_frame {f : Addr} {fd : FuncData} (F : Fun K "_law_frame" "_law_frame" s_frame f fd) (hm : mg "_law_frame" = some (.ref f)) (c_cell_at : Cal P w K mg base k "_law_cell_at" ["_law_script", "_law_k"] n_cell_at) (c_mixed : Cal P w K mg base k "_law_mixed" ["_law_script", "_law_k"] n_mixed)  : Cal P w K mg base (k + 1) "_law_frame" ["_law_script"] n_frame :=
  Cal.imp ⟨f, fd, ok_frame F c_cell_at c_mixed , hm, F.kp, F.binds (ps := ["_law_script"]) fun _ _ _ _ _ _ us hl => match us, hl with | [_], _ => rfl⟩ nice_frame

theorem ok_pegs {f : Addr} {fd : FuncData} (F : Fun K "_law_pegs" "_law_pegs" s_pegs f fd) (c_mixed : Cal P w K mg base k "_law_mixed" ["_law_script", "_law_k"] n_mixed) (b_range : mg "range" = none) : FnOk P w K mg base CX0 (k + 1) f fd ["_law_script"] (spD K (runD 6 f_pegs) 1) := by
  have nd := (sc_pegs).nd
  exact fn_ok (N := ["_law_script", "_law_number", "_law_many", "_law_found", "_law_k", "_law_peg"]) F sc_pegs fun cdv A outer s G H E hr =>
      dss_cons (ds_set (i := 1) true nd (de_cal c_mixed hr (da_cons (de_var (pv 0)) (da_cons (de_int) (da_nil))) (len_cons (len_cons (len_nil)))))
       (dss_cons (ds_set (i := 2) true nd (de_at (de_lst (dh_cons (de_mod (de_var (pv 1)) (de_int)) (dh_cons (de_mod (de_var (pv 1)) (de_int)) (dh_cons (de_int) (dh_nil))))) (de_mod (de_div (de_mod (de_div (de_var (pv 1)) (de_int)) (de_int)) (de_int)) (de_int))))
       (dss_cons (ds_set (i := 3) false nd (de_lst (dh_nil)))
       (dss_cons (ds_for PassesOwn.never (di_range1 b_range (da_cons (de_var (pv 2)) (da_nil))) (dg_name (i := 4) nd)
       (dss_cons (ds_set (i := 1) true nd (de_cal c_mixed hr (da_cons (de_var (pv 0)) (da_cons (de_add (de_int) (de_var (pv 4))) (da_nil))) (len_cons (len_cons (len_nil)))))
       (dss_cons (ds_set (i := 5) true nd (de_tup (dh_cons (de_mul (de_int) (de_mod (de_var (pv 1)) (de_int))) (dh_cons (de_mod (de_div (de_var (pv 1)) (de_int)) (de_int)) (dh_nil)))))
       (dss_one (ds_if (dt_nin (hu20 hr) (de_var (pv 5)) (de_var (pv 3)))
       (dss_one (ds_append (pv 3) (de_var (pv 5))))
       (dss_nil))))))
       (dss_one (ds_ret (de_var (pv 3)))))))

theorem cal_pegs {f : Addr} {fd : FuncData} (F : Fun K "_law_pegs" "_law_pegs" s_pegs f fd) (hm : mg "_law_pegs" = some (.ref f)) (c_mixed : Cal P w K mg base k "_law_mixed" ["_law_script", "_law_k"] n_mixed) (b_range : mg "range" = none) : Cal P w K mg base (k + 1) "_law_pegs" ["_law_script"] n_pegs :=
  Cal.imp ⟨f, fd, ok_pegs F c_mixed b_range, hm, F.kp, F.binds (ps := ["_law_script"]) fun _ _ _ _ _ _ us hl => match us, hl with | [_], _ => rfl⟩ nice_pegs

theorem ok_board {f : Addr} {fd : FuncData} (F : Fun K "_law_board" "_law_board" s_board f fd)  (b_sorted : mg "sorted" = none) (b_set : mg "set" = none) : FnOk P w K mg base CX0 (k + 1) f fd ["_law_pegs_here"] (spD K (runD 1 f_board) 1) := by
  have nd := (sc_board).nd
  exact fn_ok (N := ["_law_pegs_here"]) F sc_board fun cdv A outer s G H E hr =>
      dss_one (ds_ret (de_comp (cap := [0]) (own := ["_law_x"]) ⟨rfl, by decide +kernel, by decide +kernel, rfl, rfl⟩ (di_list (de_sortedSet (de_comp (cap := []) (own := ["_law_x", "_law_y"]) ⟨rfl, by decide +kernel, by decide +kernel, rfl, rfl⟩ (di_list (de_var (pv 0))) (fun _ _ _ => dg_tup rfl (dgs_cons (i := 0) (show (["_law_x", "_law_y"] : List Str).Nodup from by decide +kernel) (dgs_cons (i := 1) (show (["_law_x", "_law_y"] : List Str).Nodup from by decide +kernel) (dgs_nil)))) (calm_tup [0, 1]) (fun _ _ _ => dts_nil) (fun _ _ _ => de_var (pv 0))) b_sorted b_set)) (fun _ _ _ => dg_name (i := 1) (show (["_law_pegs_here", "_law_x"] : List Str).Nodup from by decide +kernel)) (calm_name 1) (fun _ _ _ => dts_nil) (fun _ _ _ => de_tup (dh_cons (de_var (pv 1)) (dh_cons (de_callB call_sorted cd_sorted b_sorted boot_sorted (da_cons (de_comp (cap := [1]) (own := ["_law_a", "_law_y"]) ⟨rfl, by decide +kernel, by decide +kernel, rfl, rfl⟩ (di_list (de_var (pv 0))) (fun _ _ _ => dg_tup rfl (dgs_cons (i := 1) (show (["_law_x", "_law_a", "_law_y"] : List Str).Nodup from by decide +kernel) (dgs_cons (i := 2) (show (["_law_x", "_law_a", "_law_y"] : List Str).Nodup from by decide +kernel) (dgs_nil)))) (calm_tup [1, 2]) (fun _ _ _ => dts_one (dt_eq (hu20 hr) (de_var (pv 1)) (de_var (pv 0)))) (fun _ _ _ => de_var (pv 2))) (da_nil))) (dh_nil))))))

theorem cal_board {f : Addr} {fd : FuncData} (F : Fun K "_law_board" "_law_board" s_board f fd) (hm : mg "_law_board" = some (.ref f))  (b_sorted : mg "sorted" = none) (b_set : mg "set" = none) : Cal P w K mg base (k + 1) "_law_board" ["_law_pegs_here"] n_board :=
  Cal.imp ⟨f, fd, ok_board F  b_sorted b_set, hm, F.kp, F.binds (ps := ["_law_pegs_here"]) fun _ _ _ _ _ _ us hl => match us, hl with | [_], _ => rfl⟩ nice_board

theorem ok_walk {f : Addr} {fd : FuncData} (F : Fun K "_law_walk" "_law_walk" s_walk f fd) (c_board : Cal P w K mg base k "_law_board" ["_law_pegs_here"] n_board) (c_mixed : Cal P w K mg base k "_law_mixed" ["_law_script", "_law_k"] n_mixed) (b_range : mg "range" = none) (b_len : mg "len" = none) (b_int : mg "int" = none) : FnOk P w K mg base CX0 (k + 1) f fd ["_law_script", "_law_start", "_law_many", "_law_pegs_here", "_law_here"] (spD K (runD 14 f_walk) 5) := by
  have nd := (sc_walk).nd
  exact fn_ok (N := ["_law_script", "_law_start", "_law_many", "_law_pegs_here", "_law_here", "_law_board_here", "_law_found", "_law_k", "_law_number", "_law_way", "_law_x", "_law_heights", "_law_ends", "_law_at"]) F sc_walk fun cdv A outer s G H E hr =>
      dss_cons (ds_set (i := 5) true nd (de_cal c_board hr (da_cons (de_var (pv 3)) (da_nil)) (len_cons (len_nil))))
       (dss_cons (ds_set (i := 6) false nd (de_lst (dh_nil)))
       (dss_cons (ds_for PassesOwn.never (di_range1 b_range (da_cons (de_var (pv 2)) (da_nil))) (dg_name (i := 7) nd)
       (dss_cons (ds_set (i := 8) true nd (de_cal c_mixed hr (da_cons (de_var (pv 0)) (da_cons (de_add (de_var (pv 1)) (de_var (pv 7))) (da_nil))) (len_cons (len_cons (len_nil)))))
       (dss_cons (ds_set (i := 9) true nd (de_at (de_lst (dh_cons (de_int) (dh_cons (de_neg (de_int)) (dh_nil)))) (de_mod (de_var (pv 8)) (de_int))))
       (dss_cons (ds_if (dt_eq (hu20 hr) (de_var (pv 4)) (de_int))
       (dss_one (ds_set (i := 9) true nd (de_int)))
       (dss_nil))
       (dss_cons (ds_if (dt_eq (hu20 hr) (de_var (pv 4)) (de_callB call_len_seq cd_len b_len PySem.boot_len (da_cons (de_var (pv 5)) (da_nil))))
       (dss_one (ds_set (i := 9) true nd (de_neg (de_int))))
       (dss_nil))
       (dss_one (ds_if (dt_ne (hu20 hr) (de_var (pv 5)) (de_lst (dh_nil)))
       (dss_cons (ds_asg (de_at (de_var (pv 5)) (de_sub (de_var (pv 4)) (de_callT call_int1 cd_int b_int boot_int (da_cons (de_eq (hu20 hr) (de_var (pv 9)) (de_neg (de_int))) (da_nil))))) (dg_tup rfl (dgs_cons (i := 10) nd (dgs_cons (i := 11) nd (dgs_nil)))))
       (dss_cons (ds_set (i := 12) true nd (de_add (de_add (de_lst (dh_cons (de_non) (dh_nil))) (de_var (pv 11))) (de_lst (dh_cons (de_non) (dh_nil)))))
       (dss_cons (ds_set (i := 13) true nd (de_mod (de_div (de_var (pv 8)) (de_int)) (de_add (de_callB call_len_seq cd_len b_len PySem.boot_len (da_cons (de_var (pv 11)) (da_nil))) (de_int))))
       (dss_cons (ds_if (dt_w (dw_and (dt_ne (hu20 hr) (de_var (pv 6)) (de_lst (dh_nil))) (dw_and (dt_eq (hu20 hr) (de_mod (de_div (de_var (pv 8)) (de_int)) (de_int)) (de_int)) (dw_and1 (dt_eq (hu20 hr) (de_at (de_at (de_var (pv 6)) (de_neg (de_int))) (de_int)) (de_var (pv 10)))))))
       (dss_one (ds_append (pv 6) (de_tup (dh_cons (de_var (pv 10)) (dh_cons (de_at (de_at (de_var (pv 6)) (de_neg (de_int))) (de_int)) (dh_cons (de_at (de_at (de_var (pv 6)) (de_neg (de_int))) (de_int)) (dh_cons (de_var (pv 9)) (dh_nil))))))))
       (dss_one (ds_append (pv 6) (de_tup (dh_cons (de_var (pv 10)) (dh_cons (de_at (de_var (pv 12)) (de_var (pv 13))) (dh_cons (de_at (de_var (pv 12)) (de_add (de_var (pv 13)) (de_int))) (dh_cons (de_var (pv 9)) (dh_nil)))))))))
       (dss_one (ds_set (i := 4) true nd (de_add (de_var (pv 4)) (de_var (pv 9)))))))))
       (dss_nil))))))))
       (dss_one (ds_ret (de_var (pv 6))))))

theorem cal_walk {f : Addr} {fd : FuncData} (F : Fun K "_law_walk" "_law_walk" s_walk f fd) (hm : mg "_law_walk" = some (.ref f)) (c_board : Cal P w K mg base k "_law_board" ["_law_pegs_here"] n_board) (c_mixed : Cal P w K mg base k "_law_mixed" ["_law_script", "_law_k"] n_mixed) (b_range : mg "range" = none) (b_len : mg "len" = none) (b_int : mg "int" = none) : Cal P w K mg base (k + 1) "_law_walk" ["_law_script", "_law_start", "_law_many", "_law_pegs_here", "_law_here"] n_walk :=
  Cal.imp ⟨f, fd, ok_walk F c_board c_mixed b_range b_len b_int, hm, F.kp, F.binds (ps := ["_law_script", "_law_start", "_law_many", "_law_pegs_here", "_law_here"]) fun _ _ _ _ _ _ us hl => match us, hl with | [_, _, _, _, _], _ => rfl⟩ nice_walk

theorem ok_p_to_and_fro {f : Addr} {fd : FuncData} (F : Fun K "to_and_fro" "to_and_fro" s_p_to_and_fro f fd)   : FnOk P w K mg base CX0 (k + 1) f fd ["gate", "later"] (spD K (runD 2 f_p_to_and_fro) 2) := by
  have nd := (sc_p_to_and_fro).nd
  exact fn_ok (N := ["gate", "later"]) F sc_p_to_and_fro fun cdv A outer s G H E hr =>
      dss_one (ds_ret (de_and (de_eq (hu20 hr) (de_sl (de_var (pv 0)) (do_none) (do_some (de_int))) (de_sl (de_var (pv 1)) (do_none) (do_some (de_int)))) (de_one (de_ne (hu20 hr) (de_at (de_var (pv 0)) (de_int)) (de_at (de_var (pv 1)) (de_int))))))

theorem cal_p_to_and_fro {f : Addr} {fd : FuncData} (F : Fun K "to_and_fro" "to_and_fro" s_p_to_and_fro f fd) (hm : mg "to_and_fro" = some (.ref f))   : Cal P w K mg base (k + 1) "to_and_fro" ["gate", "later"] n_p_to_and_fro :=
  Cal.imp ⟨f, fd, ok_p_to_and_fro F  , hm, F.kp, F.binds (ps := ["gate", "later"]) fun _ _ _ _ _ _ us hl => match us, hl with | [_, _], _ => rfl⟩ nice_p_to_and_fro

theorem ok_p_shortened {f : Addr} {fd : FuncData} (F : Fun K "shortened" "shortened" s_p_shortened f fd) (c_p_to_and_fro : Cal P w K mg base k "to_and_fro" ["gate", "later"] n_p_to_and_fro)  : FnOk P w K mg base CX0 (k + 1) f fd ["row"] (spD K (runD 3 f_p_shortened) 1) := by
  have nd := (sc_p_shortened).nd
  exact fn_ok (N := ["row", "kept", "gate"]) F sc_p_shortened fun cdv A outer s G H E hr =>
      dss_cons (ds_set (i := 1) false nd (de_lst (dh_nil)))
       (dss_cons (ds_for PassesOwn.never (di_list (de_var (pv 0))) (dg_name (i := 2) nd)
       (dss_one (ds_if (dt_w (dw_and (dt_val (de_var (pv 1))) (dw_and1 (dt_val (de_cal c_p_to_and_fro hr (da_cons (de_at (de_var (pv 1)) (de_neg (de_int))) (da_cons (de_var (pv 2)) (da_nil))) (len_cons (len_cons (len_nil))))))))
       (dss_one (ds_pop (pv 1)))
       (dss_one (ds_append (pv 1) (de_var (pv 2)))))))
       (dss_one (ds_ret (de_var (pv 1)))))

theorem cal_p_shortened {f : Addr} {fd : FuncData} (F : Fun K "shortened" "shortened" s_p_shortened f fd) (hm : mg "shortened" = some (.ref f)) (c_p_to_and_fro : Cal P w K mg base k "to_and_fro" ["gate", "later"] n_p_to_and_fro)  : Cal P w K mg base (k + 1) "shortened" ["row"] n_p_shortened :=
  Cal.imp ⟨f, fd, ok_p_shortened F c_p_to_and_fro , hm, F.kp, F.binds (ps := ["row"]) fun _ _ _ _ _ _ us hl => match us, hl with | [_], _ => rfl⟩ nice_p_shortened

theorem ok_reached {f : Addr} {fd : FuncData} (F : Fun K "_law_reached" "_law_reached" s_reached f fd)  (b_sum : mg "sum" = none) : FnOk P w K mg base CX0 (k + 1) f fd ["_law_row", "_law_start", "_law_at"] (spD K (runD 3 f_reached) 3) := by
  have nd := (sc_reached).nd
  exact fn_ok (N := ["_law_row", "_law_start", "_law_at"]) F sc_reached fun cdv A outer s G H E hr =>
      dss_one (ds_ret (de_add (de_var (pv 1)) (de_callB (call_sum rfl) cd_sum b_sum boot_sum (da_cons (de_comp (cap := []) (own := ["_law_gate"]) ⟨rfl, by decide +kernel, by decide +kernel, rfl, rfl⟩ (di_list (de_sl (de_var (pv 0)) (do_none) (do_some (de_var (pv 2))))) (fun _ _ _ => dg_name (i := 0) (show (["_law_gate"] : List Str).Nodup from by decide +kernel)) (calm_name 0) (fun _ _ _ => dts_nil) (fun _ _ _ => de_at (de_var (pv 0)) (de_int))) (da_nil)))))

theorem cal_reached {f : Addr} {fd : FuncData} (F : Fun K "_law_reached" "_law_reached" s_reached f fd) (hm : mg "_law_reached" = some (.ref f))  (b_sum : mg "sum" = none) : Cal P w K mg base (k + 1) "_law_reached" ["_law_row", "_law_start", "_law_at"] n_reached :=
  Cal.imp ⟨f, fd, ok_reached F  b_sum, hm, F.kp, F.binds (ps := ["_law_row", "_law_start", "_law_at"]) fun _ _ _ _ _ _ us hl => match us, hl with | [_, _, _], _ => rfl⟩ nice_reached

theorem ok_law {f : Addr} {fd : FuncData} (F : Fun K "law" "law" s_law f fd) (c_put : Cal P w K mg base k "_law_put" ["_law_spots", "_law_frame_here"] n_put) (c_frame : Cal P w K mg base k "_law_frame" ["_law_script"] n_frame) (c_pegs : Cal P w K mg base k "_law_pegs" ["_law_script"] n_pegs) (c_mixed : Cal P w K mg base k "_law_mixed" ["_law_script", "_law_k"] n_mixed) (c_board : Cal P w K mg base k "_law_board" ["_law_pegs_here"] n_board) (c_walk : Cal P w K mg base k "_law_walk" ["_law_script", "_law_start", "_law_many", "_law_pegs_here", "_law_here"] n_walk) (c_p_shortened : Cal P w K mg base k "shortened" ["row"] n_p_shortened) (c_reached : Cal P w K mg base k "_law_reached" ["_law_row", "_law_start", "_law_at"] n_reached) (b_len : mg "len" = none) (b_list : mg "list" = none) (b_min : mg "min" = none) (b_range : mg "range" = none) : FnOk P w K mg base CX0 (k + 1) f fd ["_law_script"] (spD K (runD 12 f_law) 1) := by
  have nd := (sc_law).nd
  exact fn_ok (N := ["_law_script", "_law_pegs_here", "_law_start", "_law_row", "_law_due", "_law_k", "_law_at", "_law_pair", "_law_x", "_law_low", "_law_high", "_law_way"]) F sc_law fun cdv A outer s G H E hr =>
      dss_cons (ds_set (i := 1) true nd (de_cal c_put hr (da_cons (de_cal c_pegs hr (da_cons (de_var (pv 0)) (da_nil)) (len_cons (len_nil))) (da_cons (de_cal c_frame hr (da_cons (de_var (pv 0)) (da_nil)) (len_cons (len_nil))) (da_nil))) (len_cons (len_cons (len_nil)))))
       (dss_cons (ds_set (i := 2) true nd (de_mod (de_cal c_mixed hr (da_cons (de_var (pv 0)) (da_cons (de_int) (da_nil))) (len_cons (len_cons (len_nil)))) (de_add (de_callB call_len_seq cd_len b_len PySem.boot_len (da_cons (de_cal c_board hr (da_cons (de_var (pv 1)) (da_nil)) (len_cons (len_nil))) (da_nil))) (de_int))))
       (dss_cons (ds_set (i := 3) true nd (de_cal c_walk hr (da_cons (de_var (pv 0)) (da_cons (de_int) (da_cons (de_mod (de_cal c_mixed hr (da_cons (de_var (pv 0)) (da_cons (de_int) (da_nil))) (len_cons (len_cons (len_nil)))) (de_int)) (da_cons (de_var (pv 1)) (da_cons (de_var (pv 2)) (da_nil)))))) (len_cons (len_cons (len_cons (len_cons (len_cons (len_nil))))))))
       (dss_cons (ds_set (i := 4) true nd (de_cal c_p_shortened hr (da_cons (de_callT call_list_of cd_list b_list boot_list (da_cons (de_var (pv 3)) (da_nil))) (da_nil)) (len_cons (len_nil))))
       (dss_cons (ds_for PassesOwn.never (di_range1 b_range (da_cons (de_callB (call_min2 rfl) cd_min2 b_min boot_min (da_cons (de_int) (da_cons (de_callB call_len_seq cd_len b_len PySem.boot_len (da_cons (de_var (pv 0)) (da_nil))) (da_nil)))) (da_nil))) (dg_name (i := 5) nd)
       (dss_cons (ds_set (i := 6) true nd (de_mod (de_cal c_mixed hr (da_cons (de_var (pv 0)) (da_cons (de_add (de_int) (de_var (pv 5))) (da_nil))) (len_cons (len_cons (len_nil)))) (de_add (de_callB call_len_seq cd_len b_len PySem.boot_len (da_cons (de_var (pv 3)) (da_nil))) (de_int))))
       (dss_cons (ds_set (i := 7) false nd (de_cal c_walk hr (da_cons (de_var (pv 0)) (da_cons (de_add (de_int) (de_var (pv 5))) (da_cons (de_int) (da_cons (de_var (pv 1)) (da_cons (de_cal c_reached hr (da_cons (de_var (pv 3)) (da_cons (de_var (pv 2)) (da_cons (de_var (pv 6)) (da_nil)))) (len_cons (len_cons (len_cons (len_nil))))) (da_nil)))))) (len_cons (len_cons (len_cons (len_cons (len_cons (len_nil))))))))
       (dss_cons (ds_for PassesOwn.never (di_list (de_callT call_list_of cd_list b_list boot_list (da_cons (de_var (pv 7)) (da_nil)))) (dg_tup rfl (dgs_cons (i := 8) nd (dgs_cons (i := 9) nd (dgs_cons (i := 10) nd (dgs_cons (i := 11) nd (dgs_nil))))))
       (dss_one (ds_append (pv 7) (de_tup (dh_cons (de_var (pv 8)) (dh_cons (de_var (pv 9)) (dh_cons (de_var (pv 10)) (dh_cons (de_sub (de_int) (de_var (pv 11))) (dh_nil)))))))))
       (dss_cons (ds_set (i := 3) true nd (de_add (de_add (de_sl (de_var (pv 3)) (do_none) (do_some (de_var (pv 6)))) (de_var (pv 7))) (de_sl (de_var (pv 3)) (do_some (de_var (pv 6))) (do_none))))
       (dss_one (ds_if (dt_ne (hu20 hr) (de_cal c_p_shortened hr (da_cons (de_callT call_list_of cd_list b_list boot_list (da_cons (de_var (pv 3)) (da_nil))) (da_nil)) (len_cons (len_nil))) (de_var (pv 4)))
       (dss_one (ds_ret (de_bl)))
       (dss_nil))))))))
       (dss_one (ds_ret (de_bl)))))))

theorem cal_law {f : Addr} {fd : FuncData} (F : Fun K "law" "law" s_law f fd) (hm : mg "law" = some (.ref f)) (c_put : Cal P w K mg base k "_law_put" ["_law_spots", "_law_frame_here"] n_put) (c_frame : Cal P w K mg base k "_law_frame" ["_law_script"] n_frame) (c_pegs : Cal P w K mg base k "_law_pegs" ["_law_script"] n_pegs) (c_mixed : Cal P w K mg base k "_law_mixed" ["_law_script", "_law_k"] n_mixed) (c_board : Cal P w K mg base k "_law_board" ["_law_pegs_here"] n_board) (c_walk : Cal P w K mg base k "_law_walk" ["_law_script", "_law_start", "_law_many", "_law_pegs_here", "_law_here"] n_walk) (c_p_shortened : Cal P w K mg base k "shortened" ["row"] n_p_shortened) (c_reached : Cal P w K mg base k "_law_reached" ["_law_row", "_law_start", "_law_at"] n_reached) (b_len : mg "len" = none) (b_list : mg "list" = none) (b_min : mg "min" = none) (b_range : mg "range" = none) : Cal P w K mg base (k + 1) "law" ["_law_script"] n_law :=
  Cal.imp ⟨f, fd, ok_law F c_put c_frame c_pegs c_mixed c_board c_walk c_p_shortened c_reached b_len b_list b_min b_range, hm, F.kp, F.binds (ps := ["_law_script"]) fun _ _ _ _ _ _ us hl => match us, hl with | [_], _ => rfl⟩ nice_law

end
end My

set_option Elab.async false
set_option linter.all false
set_option maxRecDepth 100000
set_option maxHeartbeats 4000000
namespace My
open PySem PySem.Spec PyProof.Rows L2 DL
theorem all_mk {l : PySem.W.OpenLaw} {w : World} {K : PySem.W.Frag} {h : Heap} {mg : Str → Option Value} {fa f1 f2 f3 f4 f5 f6 f7 f8 f9 f10 f11 f12 : Addr} (X : K.In h) (G : h.Ns mainGlobals mg) (hfa : mg "law" = some (.ref fa))
  {od1 an1 : Option Addr} {sl1 : Array (Option Value)} {oc1 kV1 dc1 pm1 cd1 ct1 : Value}
  (a1 : PySem.W.nsIn K mainGlobals "_law_put" = some (some (.ref f1))) (l1 : K.lookup f1 = some ⟨oc1, od1, .func (PySem.W.fnOf "_law_put" "_law_put" (defArgs s_put) (defBody s_put) (defScope s_put) .none kV1 dc1 pm1 an1 cd1 ct1), sl1⟩) (c1 : PySem.W.codeIn K cd1 "_law_put" = true) (k1 : PySem.W.keepIn K (.ref f1) = true)
  {od2 an2 : Option Addr} {sl2 : Array (Option Value)} {oc2 kV2 dc2 pm2 cd2 ct2 : Value}
  (a2 : PySem.W.nsIn K mainGlobals "_law_cell_at" = some (some (.ref f2))) (l2 : K.lookup f2 = some ⟨oc2, od2, .func (PySem.W.fnOf "_law_cell_at" "_law_cell_at" (defArgs s_cell_at) (defBody s_cell_at) (defScope s_cell_at) .none kV2 dc2 pm2 an2 cd2 ct2), sl2⟩) (c2 : PySem.W.codeIn K cd2 "_law_cell_at" = true) (k2 : PySem.W.keepIn K (.ref f2) = true)
  {od3 an3 : Option Addr} {sl3 : Array (Option Value)} {oc3 kV3 dc3 pm3 cd3 ct3 : Value}
  (a3 : PySem.W.nsIn K mainGlobals "_law_block" = some (some (.ref f3))) (l3 : K.lookup f3 = some ⟨oc3, od3, .func (PySem.W.fnOf "_law_block" "_law_block" (defArgs s_block) (defBody s_block) (defScope s_block) .none kV3 dc3 pm3 an3 cd3 ct3), sl3⟩) (c3 : PySem.W.codeIn K cd3 "_law_block" = true) (k3 : PySem.W.keepIn K (.ref f3) = true)
  {od4 an4 : Option Addr} {sl4 : Array (Option Value)} {oc4 kV4 dc4 pm4 cd4 ct4 : Value}
  (a4 : PySem.W.nsIn K mainGlobals "_law_mixed" = some (some (.ref f4))) (l4 : K.lookup f4 = some ⟨oc4, od4, .func (PySem.W.fnOf "_law_mixed" "_law_mixed" (defArgs s_mixed) (defBody s_mixed) (defScope s_mixed) .none kV4 dc4 pm4 an4 cd4 ct4), sl4⟩) (c4 : PySem.W.codeIn K cd4 "_law_mixed" = true) (k4 : PySem.W.keepIn K (.ref f4) = true)
  {od5 an5 : Option Addr} {sl5 : Array (Option Value)} {oc5 kV5 dc5 pm5 cd5 ct5 : Value}
  (a5 : PySem.W.nsIn K mainGlobals "_law_frame" = some (some (.ref f5))) (l5 : K.lookup f5 = some ⟨oc5, od5, .func (PySem.W.fnOf "_law_frame" "_law_frame" (defArgs s_frame) (defBody s_frame) (defScope s_frame) .none kV5 dc5 pm5 an5 cd5 ct5), sl5⟩) (c5 : PySem.W.codeIn K cd5 "_law_frame" = true) (k5 : PySem.W.keepIn K (.ref f5) = true)
  {od6 an6 : Option Addr} {sl6 : Array (Option Value)} {oc6 kV6 dc6 pm6 cd6 ct6 : Value}
  (a6 : PySem.W.nsIn K mainGlobals "_law_pegs" = some (some (.ref f6))) (l6 : K.lookup f6 = some ⟨oc6, od6, .func (PySem.W.fnOf "_law_pegs" "_law_pegs" (defArgs s_pegs) (defBody s_pegs) (defScope s_pegs) .none kV6 dc6 pm6 an6 cd6 ct6), sl6⟩) (c6 : PySem.W.codeIn K cd6 "_law_pegs" = true) (k6 : PySem.W.keepIn K (.ref f6) = true)
  {od7 an7 : Option Addr} {sl7 : Array (Option Value)} {oc7 kV7 dc7 pm7 cd7 ct7 : Value}
  (a7 : PySem.W.nsIn K mainGlobals "_law_board" = some (some (.ref f7))) (l7 : K.lookup f7 = some ⟨oc7, od7, .func (PySem.W.fnOf "_law_board" "_law_board" (defArgs s_board) (defBody s_board) (defScope s_board) .none kV7 dc7 pm7 an7 cd7 ct7), sl7⟩) (c7 : PySem.W.codeIn K cd7 "_law_board" = true) (k7 : PySem.W.keepIn K (.ref f7) = true)
  {od8 an8 : Option Addr} {sl8 : Array (Option Value)} {oc8 kV8 dc8 pm8 cd8 ct8 : Value}
  (a8 : PySem.W.nsIn K mainGlobals "_law_walk" = some (some (.ref f8))) (l8 : K.lookup f8 = some ⟨oc8, od8, .func (PySem.W.fnOf "_law_walk" "_law_walk" (defArgs s_walk) (defBody s_walk) (defScope s_walk) .none kV8 dc8 pm8 an8 cd8 ct8), sl8⟩) (c8 : PySem.W.codeIn K cd8 "_law_walk" = true) (k8 : PySem.W.keepIn K (.ref f8) = true)
  {od9 an9 : Option Addr} {sl9 : Array (Option Value)} {oc9 kV9 dc9 pm9 cd9 ct9 : Value}
  (a9 : PySem.W.nsIn K mainGlobals "to_and_fro" = some (some (.ref f9))) (l9 : K.lookup f9 = some ⟨oc9, od9, .func (PySem.W.fnOf "to_and_fro" "to_and_fro" (defArgs s_p_to_and_fro) (defBody s_p_to_and_fro) (defScope s_p_to_and_fro) .none kV9 dc9 pm9 an9 cd9 ct9), sl9⟩) (c9 : PySem.W.codeIn K cd9 "to_and_fro" = true) (k9 : PySem.W.keepIn K (.ref f9) = true)
  {od10 an10 : Option Addr} {sl10 : Array (Option Value)} {oc10 kV10 dc10 pm10 cd10 ct10 : Value}
  (a10 : PySem.W.nsIn K mainGlobals "shortened" = some (some (.ref f10))) (l10 : K.lookup f10 = some ⟨oc10, od10, .func (PySem.W.fnOf "shortened" "shortened" (defArgs s_p_shortened) (defBody s_p_shortened) (defScope s_p_shortened) .none kV10 dc10 pm10 an10 cd10 ct10), sl10⟩) (c10 : PySem.W.codeIn K cd10 "shortened" = true) (k10 : PySem.W.keepIn K (.ref f10) = true)
  {od11 an11 : Option Addr} {sl11 : Array (Option Value)} {oc11 kV11 dc11 pm11 cd11 ct11 : Value}
  (a11 : PySem.W.nsIn K mainGlobals "_law_reached" = some (some (.ref f11))) (l11 : K.lookup f11 = some ⟨oc11, od11, .func (PySem.W.fnOf "_law_reached" "_law_reached" (defArgs s_reached) (defBody s_reached) (defScope s_reached) .none kV11 dc11 pm11 an11 cd11 ct11), sl11⟩) (c11 : PySem.W.codeIn K cd11 "_law_reached" = true) (k11 : PySem.W.keepIn K (.ref f11) = true)
  {od12 an12 : Option Addr} {sl12 : Array (Option Value)} {oc12 kV12 dc12 pm12 cd12 ct12 : Value}
  (a12 : PySem.W.nsIn K mainGlobals "law" = some (some (.ref f12))) (l12 : K.lookup f12 = some ⟨oc12, od12, .func (PySem.W.fnOf "law" "law" (defArgs s_law) (defBody s_law) (defScope s_law) .none kV12 dc12 pm12 an12 cd12 ct12), sl12⟩) (c12 : PySem.W.codeIn K cd12 "law" = true) (k12 : PySem.W.keepIn K (.ref f12) = true)
  (z_len : PySem.W.nsIn K mainGlobals "len" = some none)
  (z_range : PySem.W.nsIn K mainGlobals "range" = some none)
  (z_min : PySem.W.nsIn K mainGlobals "min" = some none)
  (z_sorted : PySem.W.nsIn K mainGlobals "sorted" = some none)
  (z_set : PySem.W.nsIn K mainGlobals "set" = some none)
  (z_int : PySem.W.nsIn K mainGlobals "int" = some none)
  (z_sum : PySem.W.nsIn K mainGlobals "sum" = some none)
  (z_list : PySem.W.nsIn K mainGlobals "list" = some none) :
  ∃ fd : FuncData, (∀ (s : Shared) (v : Value), BindsTo s fd ⟨[v], []⟩ [("_law_script", v)]) ∧ ∀ base : Heap, K.In base → base.Ns mainGlobals mg → FnOk l.prog w K mg base CX0 4 fa fd ["_law_script"] (spD K (runD 12 f_law) 1) := by
  have e := hfa.symm.trans (PySem.W.mg_of X G a12)
  cases e
  have b_len := PySem.W.mg_none_of X G z_len
  have b_range := PySem.W.mg_none_of X G z_range
  have b_min := PySem.W.mg_none_of X G z_min
  have b_sorted := PySem.W.mg_none_of X G z_sorted
  have b_set := PySem.W.mg_none_of X G z_set
  have b_int := PySem.W.mg_none_of X G z_int
  have b_sum := PySem.W.mg_none_of X G z_sum
  have b_list := PySem.W.mg_none_of X G z_list
  have F1 := fun_mk (st := s_put) l1 c1 k1
  have F2 := fun_mk (st := s_cell_at) l2 c2 k2
  have F3 := fun_mk (st := s_block) l3 c3 k3
  have F4 := fun_mk (st := s_mixed) l4 c4 k4
  have F5 := fun_mk (st := s_frame) l5 c5 k5
  have F6 := fun_mk (st := s_pegs) l6 c6 k6
  have F7 := fun_mk (st := s_board) l7 c7 k7
  have F8 := fun_mk (st := s_walk) l8 c8 k8
  have F9 := fun_mk (st := s_p_to_and_fro) l9 c9 k9
  have F10 := fun_mk (st := s_p_shortened) l10 c10 k10
  have F11 := fun_mk (st := s_reached) l11 c11 k11
  have F12 := fun_mk (st := s_law) l12 c12 k12
  refine ⟨PySem.W.fnOf "law" "law" (defArgs s_law) (defBody s_law) (defScope s_law) .none kV12 dc12 pm12 an12 cd12 ct12, fun s v => .of_eq rfl, fun base _ _ => ?run⟩
  case run =>
    have q_put : Cal l.prog w K mg base 1 "_law_put" ["_law_spots", "_law_frame_here"] n_put := cal_put (k := 0) F1 (PySem.W.mg_of X G a1)  
    have q_cell_at : Cal l.prog w K mg base 1 "_law_cell_at" ["_law_script", "_law_k"] n_cell_at := cal_cell_at (k := 0) F2 (PySem.W.mg_of X G a2)  b_len
    have q_block : Cal l.prog w K mg base 1 "_law_block" ["_law_script", "_law_k"] n_block := cal_block (k := 0) F3 (PySem.W.mg_of X G a3)  b_len b_range
    have q_mixed : Cal l.prog w K mg base 2 "_law_mixed" ["_law_script", "_law_k"] n_mixed := cal_mixed (k := 1) F4 (PySem.W.mg_of X G a4) (q_block.mono (by decide)) b_len b_min
    have q_frame : Cal l.prog w K mg base 3 "_law_frame" ["_law_script"] n_frame := cal_frame (k := 2) F5 (PySem.W.mg_of X G a5) (q_cell_at.mono (by decide)) (q_mixed.mono (by decide)) 
    have q_pegs : Cal l.prog w K mg base 3 "_law_pegs" ["_law_script"] n_pegs := cal_pegs (k := 2) F6 (PySem.W.mg_of X G a6) (q_mixed.mono (by decide)) b_range
    have q_board : Cal l.prog w K mg base 1 "_law_board" ["_law_pegs_here"] n_board := cal_board (k := 0) F7 (PySem.W.mg_of X G a7)  b_sorted b_set
    have q_walk : Cal l.prog w K mg base 3 "_law_walk" ["_law_script", "_law_start", "_law_many", "_law_pegs_here", "_law_here"] n_walk := cal_walk (k := 2) F8 (PySem.W.mg_of X G a8) (q_board.mono (by decide)) (q_mixed.mono (by decide)) b_range b_len b_int
    have q_p_to_and_fro : Cal l.prog w K mg base 1 "to_and_fro" ["gate", "later"] n_p_to_and_fro := cal_p_to_and_fro (k := 0) F9 (PySem.W.mg_of X G a9)  
    have q_p_shortened : Cal l.prog w K mg base 2 "shortened" ["row"] n_p_shortened := cal_p_shortened (k := 1) F10 (PySem.W.mg_of X G a10) (q_p_to_and_fro.mono (by decide)) 
    have q_reached : Cal l.prog w K mg base 1 "_law_reached" ["_law_row", "_law_start", "_law_at"] n_reached := cal_reached (k := 0) F11 (PySem.W.mg_of X G a11)  b_sum
    exact ok_law (k := 3) F12 (q_put.mono (by decide)) (q_frame.mono (by decide)) (q_pegs.mono (by decide)) (q_mixed.mono (by decide)) (q_board.mono (by decide)) (q_walk.mono (by decide)) (q_p_shortened.mono (by decide)) (q_reached.mono (by decide)) b_len b_list b_min b_range
theorem law_sp (main : ∀ ns : List Int, ns.length ≤ 63 → runD 12 f_law [.scr ns] = .ok (.pers (.bl true))) (K : PySem.W.Frag) (H : Hp) (a : Addr) (ns : List Int) (hl : ns.length ≤ 63) (hS : SqL K H a (ns.map V.int)) :
    spD K (runD 12 f_law) 1 [.ref a] H (fun v _ => v = .bl true) fun _ _ _ => False :=
  ⟨H, [.scr ns], _, rfl, Same.refl _, ⟨_, _, rfl, ⟨a, rfl, hS⟩, rfl⟩, main ns hl, fun v G' H' _ _ h => h⟩
end My

set_option Elab.async false
set_option linter.all false
set_option maxRecDepth 100000
set_option maxHeartbeats 4000000
namespace My
open PySem PySem.Spec PyProof.Rows L2 DL
end My
open PySem PySem.W PyProof.Rows
set_option maxRecDepth 100000 in
set_option maxHeartbeats 0 in
theorem PySem.Challenge.cw_tautline_k14_pairs_put_in_holds : PySem.Challenge.rw_tautline_k14_pairs_put_in.Holds := by
  w_on; o_law; k_head; (case hw => w_witness2)
  k_fill
  refine L2.walk_ofK (l := PySem.Challenge.rw_tautline_k14_pairs_put_in) (n := 63) (k := 4) (x := "_law_script") (CX := L2.CX0) (sp := fun K => DL.spD K (DL.runD 12 My.f_law) 1) rfl (by decide) rfl ⟨rfl, by decide, by decide⟩ (fun w h Y => PySem.W.kIn_of Y) ?F ?S ?C
  case F =>
    intro w mg fa h KX G hmg
    refine' My.all_mk KX G hmg ?a1 ?l1 ?c1 ?k1 ?a2 ?l2 ?c2 ?k2 ?a3 ?l3 ?c3 ?k3 ?a4 ?l4 ?c4 ?k4 ?a5 ?l5 ?c5 ?k5 ?a6 ?l6 ?c6 ?k6 ?a7 ?l7 ?c7 ?k7 ?a8 ?l8 ?c8 ?k8 ?a9 ?l9 ?c9 ?k9 ?a10 ?l10 ?c10 ?k10 ?a11 ?l11 ?c11 ?k11 ?a12 ?l12 ?c12 ?k12 ?z_len ?z_range ?z_min ?z_sorted ?z_set ?z_int ?z_sum ?z_list
    (case a1 => k_is); (case l1 => k_is); (case c1 => k_is); (case k1 => k_is)
    (case a2 => k_is); (case l2 => k_is); (case c2 => k_is); (case k2 => k_is)
    (case a3 => k_is); (case l3 => k_is); (case c3 => k_is); (case k3 => k_is)
    (case a4 => k_is); (case l4 => k_is); (case c4 => k_is); (case k4 => k_is)
    (case a5 => k_is); (case l5 => k_is); (case c5 => k_is); (case k5 => k_is)
    (case a6 => k_is); (case l6 => k_is); (case c6 => k_is); (case k6 => k_is)
    (case a7 => k_is); (case l7 => k_is); (case c7 => k_is); (case k7 => k_is)
    (case a8 => k_is); (case l8 => k_is); (case c8 => k_is); (case k8 => k_is)
    (case a9 => k_is); (case l9 => k_is); (case c9 => k_is); (case k9 => k_is)
    (case a10 => k_is); (case l10 => k_is); (case c10 => k_is); (case k10 => k_is)
    (case a11 => k_is); (case l11 => k_is); (case c11 => k_is); (case k11 => k_is)
    (case a12 => k_is); (case l12 => k_is); (case c12 => k_is); (case k12 => k_is)
    (case z_len => k_is)
    (case z_range => k_is)
    (case z_min => k_is)
    (case z_sorted => k_is)
    (case z_set => k_is)
    (case z_int => k_is)
    (case z_sum => k_is)
    (case z_list => k_is)
  case S => exact fun K H a ns hl hO hS => My.law_sp My.main K H a ns hl hS
  case C => exact fun _ _ _ _ z => z

