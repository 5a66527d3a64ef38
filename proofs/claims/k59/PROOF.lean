import PyProof.Rows.All
import Wide.All
import OpenK.AllK
import Wide.FinOn
import HandS.ForMost
import HandS.AnyAll
import HandS.IsInst
import HandS.More
import HandS.Flow
import HandS.Wide
import HandS.TupAny
import HandS.Strs
import HandS.SetFor
import HandS.Sort
import HandS.SortRule
import HandS.Iter
import HandS.Star
import KE.KTupSum
import HandS.Dict
import HandS.Style
import PyProof.TypeEq
import PyProof.InstEq
import HandS.Deep
import HandS.Ends
import PyProof.ReprRoads
import PyProof.ReprLen
import HandS.TupMul
import HandS.Conv
import HandS.SortOrd
import PyProof.TupleOfSeq
import HandS.TryOnly
import KE.KRevSl
import HandS.SortKw
import HandS.GenList
import PyProof.GenComp
import PyProof.CodeObjX
import PyProof.ConsumeS
import HandS.EndTab
import PySem.Challenge.RW_gatewarden_k59_programs_told
set_option Elab.async false
set_option linter.all false
set_option maxRecDepth 100000
section
set_option Elab.async false
set_option linter.all false
set_option maxRecDepth 100000
namespace PG
open PySem PySem.Spec PyProof.Rows L2

abbrev D := PyData

/-! ### data and values -/
def KLst (K : PySem.W.Frag) (a : Addr) (xs : List V) : Prop := ∃ (o : Obj) (its : Array Value) (n : Nat), K.lookup a = some o ∧ o.cls = .type "list" ∧ o.dict = none ∧ o.data = .seq its n ∧ its.size ≤ sizeLine ∧ Vals xs its.toList
def KTup (K : PySem.W.Frag) (a : Addr) (xs : List V) : Prop := ∃ (o : Obj) (its : Array Value) (n : Nat), K.lookup a = some o ∧ o.cls = .type "tuple" ∧ o.data = .seq its n ∧ its.size ≤ sizeLine ∧ Vals xs its.toList
def LAt (K : PySem.W.Frag) (A : Addr → Prop) (H : Hp) (a : Addr) (xs : List V) : Prop := H a = some (.lst xs) ∧ ¬ A a
def WAt (K : PySem.W.Frag) (A : Addr → Prop) (H : Hp) (a : Addr) (xs : List V) : Prop := (Rd H a (.lst xs) ∧ ¬ A a) ∨ KLst K a xs
def TAt (K : PySem.W.Frag) (A : Addr → Prop) (H : Hp) (a : Addr) (xs : List V) : Prop := (Rd H a (.tup xs) ∧ ¬ A a) ∨ KTup K a xs
theorem LAt.sq {K : PySem.W.Frag} {A : Addr → Prop} {H : Hp} {a : Addr} {xs : List V} (h : LAt K A H a xs) : SqL K H a xs := .inl (.inl h.1)
theorem WAt.sq {K : PySem.W.Frag} {A : Addr → Prop} {H : Hp} {a : Addr} {xs : List V} (h : WAt K A H a xs) : SqL K H a xs := h.elim (fun x => .inl x.1) .inr
inductive FlatA : List V → List PyData → Prop
  | nil : FlatA [] []
  | int (i : Int) {vs : List V} {ds : List PyData} : FlatA vs ds → FlatA (.int i :: vs) (.int i :: ds)
  | str (x : Str) {vs : List V} {ds : List PyData} : FlatA vs ds → FlatA (.str x :: vs) (.str x :: ds)
theorem TAt.sq {K : PySem.W.Frag} {A : Addr → Prop} {H : Hp} {a : Addr} {xs : List V} (h : TAt K A H a xs) : SqT K H a xs := h.elim (fun x => .inl x.1) .inr

mutual
inductive Rp (K : PySem.W.Frag) (A : Addr → Prop) (H : Hp) : V → PyData → Prop
  | non : Rp K A H .non .none
  | bl (b : Bool) : Rp K A H (.bl b) (.bool b)
  | int (i : Int) : Rp K A H (.int i) (.int i)
  | str (x : Str) : Rp K A H (.str x) (.str x)
  | lst {a : Addr} {xs : List V} {ds : List PyData} : LAt K A H a xs → RpA K A H xs ds → Rp K A H (.ref a) (.list ds)
  | tup {a : Addr} {xs : List V} {ds : List PyData} : TAt K A H a xs → RpA K A H xs ds → Rp K A H (.ref a) (.tuple ds)
  | ro {a : Addr} {xs : List V} {ds : List PyData} : WAt K A H a xs → FlatA xs ds → Rp K A H (.ref a) (.dict [(.list ds, .none)])
inductive RpA (K : PySem.W.Frag) (A : Addr → Prop) (H : Hp) : List V → List PyData → Prop
  | nil : RpA K A H [] []
  | cons {v : V} {vs : List V} {d : PyData} {ds : List PyData} : Rp K A H v d → RpA K A H vs ds → RpA K A H (v :: vs) (d :: ds)
end

/-- what stood apart from A stands, apart from A' -/
def Mv (A : Addr → Prop) (H : Hp) (A' : Addr → Prop) (H' : Hp) : Prop := ∀ a o, H a = some o → ¬ A a → H' a = some o ∧ ¬ A' a
theorem Mv.trans {A B C : Addr → Prop} {H H1 H2 : Hp} (m : Mv A H B H1) (n : Mv B H1 C H2) : Mv A H C H2 := fun a o h k => by
  obtain ⟨h1, k1⟩ := m a o h k
  exact n a o h1 k1
theorem Mv.refl {A : Addr → Prop} {H : Hp} : Mv A H A H := fun _ _ h k => ⟨h, k⟩
section
variable {K : PySem.W.Frag} {A A' : Addr → Prop} {H H' : Hp}
theorem Mv.rd (m : Mv A H A' H') {a : Addr} {u : HO} (h : Rd H a u) (k : ¬ A a) : Rd H' a u ∧ ¬ A' a := by
  rcases h with h | ⟨o, h⟩
  · exact ⟨.inl (m a _ h k).1, (m a _ h k).2⟩
  · exact ⟨.inr ⟨o, (m a _ h k).1⟩, (m a _ h k).2⟩
theorem LAt.move (m : Mv A H A' H') {a : Addr} {xs : List V} (h : LAt K A H a xs) : LAt K A' H' a xs := m a _ h.1 h.2
theorem WAt.move (m : Mv A H A' H') {a : Addr} {xs : List V} (h : WAt K A H a xs) : WAt K A' H' a xs := h.elim (fun x => .inl (m.rd x.1 x.2)) .inr
theorem FlatA.rp : ∀ {vs : List V} {ds : List PyData}, FlatA vs ds → RpA K A H vs ds
  | _, _, .nil => .nil
  | _, _, .int i f => .cons (.int i) f.rp
  | _, _, .str x f => .cons (.str x) f.rp
theorem TAt.move (m : Mv A H A' H') {a : Addr} {xs : List V} (h : TAt K A H a xs) : TAt K A' H' a xs := h.elim (fun x => .inl (m.rd x.1 x.2)) .inr
mutual
theorem Rp.move (m : Mv A H A' H') : ∀ (d : PyData) (v : V), Rp K A H v d → Rp K A' H' v d
  | .none, _, h => by cases h; exact .non
  | .bool b, _, h => by cases h; exact .bl b
  | .int i, _, h => by cases h; exact .int i
  | .str x, _, h => by cases h; exact .str x
  | .list ds, _, h => by
    cases h with
    | lst l r => exact .lst (l.move m) (RpA.move m ds _ r)
  | .tuple ds, _, h => by
    cases h with
    | tup l r => exact .tup (l.move m) (RpA.move m ds _ r)
  | .dict _, _, h => by
    cases h with
    | ro w f => exact .ro (w.move m) f
theorem RpA.move (m : Mv A H A' H') : ∀ (ds : List PyData) (vs : List V), RpA K A H vs ds → RpA K A' H' vs ds
  | [], _, h => by cases h; exact .nil
  | d :: ds, _, h => by
    cases h with
    | cons h1 h2 => exact .cons (Rp.move m d _ h1) (RpA.move m ds _ h2)
end
theorem Rp.mv {v : V} {d : PyData} (h : Rp K A H v d) (m : Mv A H A' H') : Rp K A' H' v d := Rp.move m d v h
theorem RpA.mv {vs : List V} {ds : List PyData} (h : RpA K A H vs ds) (m : Mv A H A' H') : RpA K A' H' vs ds := RpA.move m ds vs h
mutual
theorem Rp.dp : ∀ (d : PyData) (v : V), Rp K A H v d → d.canLay0 = true → Dp K H v d
  | .none, _, h, _ => by cases h; exact .non
  | .bool b, _, h, _ => by cases h; exact .bl b
  | .int i, _, h, _ => by cases h; exact .int i
  | .str x, _, h, _ => by cases h; exact .str x
  | .list ds, _, h, s => by
    cases h with
    | lst l r => exact .lst l.sq (RpA.dp ds _ r (by simpa [PyData.canLay0] using s))
  | .tuple ds, _, h, s => by
    cases h with
    | tup l r => exact .tup l.sq (RpA.dp ds _ r (by simpa [PyData.canLay0] using s))
  | .dict _, _, h, s => by simp [PyData.canLay0] at s
theorem RpA.dp : ∀ (ds : List PyData) (vs : List V), RpA K A H vs ds → PyData.canLayAll0 ds = true → DpAll K H vs ds
  | [], _, h, _ => by cases h; exact .nil
  | d :: ds, _, h, s => by
    cases h with
    | cons h1 h2 =>
      simp only [PyData.canLayAll0, Bool.and_eq_true] at s
      exact .cons (Rp.dp d _ h1 s.1) (RpA.dp ds _ h2 s.2)
end
theorem RpA.length : ∀ {vs : List V} {ds : List PyData}, RpA K A H vs ds → vs.length = ds.length
  | _, [], h => by cases h; rfl
  | _, _ :: ds, h => by
    cases h with
    | cons h1 h2 => simp [RpA.length h2]
theorem RpA.get : ∀ {vs : List V} {ds : List PyData} {i : Nat} {d : PyData}, RpA K A H vs ds → ds[i]? = some d → ∃ v, vs[i]? = some v ∧ Rp K A H v d
  | _, [], _, _, h, e => by simp at e
  | _, _ :: ds, 0, _, h, e => by
    cases h with
    | cons h1 h2 => simp at e; subst e; exact ⟨_, rfl, h1⟩
  | _, _ :: ds, i + 1, _, h, e => by
    cases h with
    | cons h1 h2 =>
      obtain ⟨v, h3, h4⟩ := RpA.get (i := i) h2 (by simpa using e)
      exact ⟨v, by simpa using h3, h4⟩
theorem RpA.getV : ∀ {vs : List V} {ds : List PyData} {i : Nat} {v : V}, RpA K A H vs ds → vs[i]? = some v → ∃ d, ds[i]? = some d ∧ Rp K A H v d
  | [], _, _, _, h, e => by simp at e
  | _ :: _, [], _, _, h, e => by cases h
  | _ :: _, _ :: ds, 0, _, h, e => by
    cases h with
    | cons h1 h2 => simp at e; subst e; exact ⟨_, rfl, h1⟩
  | _ :: vs, _ :: ds, i + 1, _, h, e => by
    cases h with
    | cons h1 h2 =>
      obtain ⟨v, h3, h4⟩ := RpA.getV (i := i) h2 (by simpa using e)
      exact ⟨v, by simpa using h3, h4⟩
theorem RpA.app : ∀ {vs ws : List V} {ds es : List PyData}, RpA K A H vs ds → RpA K A H ws es → RpA K A H (vs ++ ws) (ds ++ es)
  | _, _, [], _, h, k => by cases h; exact k
  | _, _, _ :: ds, _, h, k => by
    cases h with
    | cons h1 h2 => exact .cons h1 (RpA.app h2 k)
theorem RpA.set : ∀ {vs : List V} {ds : List PyData} {v : V} {d : PyData} (i : Nat), RpA K A H vs ds → Rp K A H v d → RpA K A H (vs.set i v) (ds.set i d)
  | _, [], _, _, _, h, _ => by cases h; exact .nil
  | _, _ :: ds, _, _, 0, h, k => by
    cases h with
    | cons h1 h2 => exact .cons k h2
  | _, _ :: ds, _, _, i + 1, h, k => by
    cases h with
    | cons h1 h2 => exact .cons h1 (RpA.set i h2 k)
theorem RpA.take : ∀ {vs : List V} {ds : List PyData} (i : Nat), RpA K A H vs ds → RpA K A H (vs.take i) (ds.take i)
  | _, _, 0, h => by simp; exact .nil
  | _, [], _ + 1, h => by cases h; exact .nil
  | _, _ :: ds, i + 1, h => by
    cases h with
    | cons h1 h2 => exact .cons h1 (RpA.take i h2)
theorem RpA.drop : ∀ {vs : List V} {ds : List PyData} (i : Nat), RpA K A H vs ds → RpA K A H (vs.drop i) (ds.drop i)
  | _, _, 0, h => by simpa using h
  | _, [], _ + 1, h => by cases h; exact .nil
  | _, _ :: ds, i + 1, h => by
    cases h with
    | cons h1 h2 => exact RpA.drop i h2
theorem RpA.ints : ∀ {vs : List V} {ns : List Int}, RpA K A H vs (ns.map PyData.int) → vs = ns.map V.int
  | _, [], h => by cases h; rfl
  | _, _ :: ns, h => by
    cases h with
    | cons h1 h2 => cases h1; simp [RpA.ints h2]
theorem RpA.ofInts : ∀ (ns : List Int), RpA K A H (ns.map V.int) (ns.map PyData.int)
  | [] => .nil
  | n :: ns => .cons (.int n) (RpA.ofInts ns)
end

/-! ### slots -/
inductive Cell where
  | v (d : PyData)
  | l (p : Bool) (ds : List PyData)
abbrev Rho := List (Option Cell)
/-- the defs that hold generator expressions, whatever the law -/
def tabNames : List Str := (["is_word", "is_rule", "is_chain", "is_book", "_jumps_onwards", "_restricted_rules", "whole_ranges", "is_numeral", "read_items", "is_sight", "_may_break", "compiled", "is_key", "is_byte_row", "switches", "_words", "_is_inner", "is_ascending", "accepted_view", "is_plain", "places_of", "field_ranges", "field_parts", "_fitting", "_bounds_reached", "is_history", "thrown_sets", "is_program", "is_instruction", "_is_case", "_all_before", "is_row", "_are_states", "_are_lengths", "_with_places", "is_double", "_is_double_chain", "flattened", "members", "is_box", "in_box", "whole_box", "box_of", "is_plan", "_are_conditions", "woven", "smooth_orders", "check_steps", "_is_smooth", "_is_thrown", "_are_sets", "_are_stops", "is_byte_box", "is_journal", "shortened", "passing", "_spare", "suite_of", "relinked"] : List String).map Str.ofString
def tblP (p : Addr) (h : Heap) : Prop := ∃ ps : Array Value, h.get? p = some { cls := .none, data := .fields ps } ∧ TriplesOk ps.toList
/-- a table of codes, however long it has grown -/
def tblO (p : Addr) : HO := .ext (tblP p)
def TsOk (K : PySem.W.Frag) (H : Hp) : Prop := ∀ x ∈ tabNames, ∀ cc p, PySem.W.tabIn K x = some (cc, p) → H p = some (tblO p)
structure Act (K : PySem.W.Frag) where
  A : Addr → Prop
  H0 : Hp
  pn : Nat → Option Addr
  ts : TsOk K H0
  tp : ∀ i a, pn i = some a → ∃ us, H0 a = some (.lst us)
def Act.plus {K : PySem.W.Frag} (c : Act K) (a : Addr) : Act K := { c with A := fun b => c.A b ∨ b = a }
def Own (ρ : Rho) (σ : L2.St) (a : Addr) : Prop := ∃ (i : Nat) (p : Bool) (ds : List PyData), ρ[i]? = some (some (Cell.l p ds)) ∧ σ[i]? = some (some (V.ref a))
def Av {K : PySem.W.Frag} (c : Act K) (ρ : Rho) (σ : L2.St) (a : Addr) : Prop := c.A a ∨ Own ρ σ a
structure Rel (K : PySem.W.Frag) (c : Act K) (ρ : Rho) (σ : L2.St) (H : Hp) : Prop where
  len : ρ.length = σ.length
  val : ∀ (i : Nat) (d : PyData), ρ[i]? = some (some (.v d)) → ∃ v, σ[i]? = some (some v) ∧ Rp K (Av c ρ σ) H v d
  lst : ∀ (i : Nat) (p : Bool) (ds : List PyData), ρ[i]? = some (some (.l p ds)) → ∃ a vs, σ[i]? = some (some (.ref a)) ∧ H a = some (.lst vs) ∧ RpA K (Av c ρ σ) H vs ds ∧ (p = false → c.H0 a = none ∧ ¬ c.A a)
  dis : ∀ (i j : Nat) (p q : Bool) (ds es : List PyData) (a : Addr), ρ[i]? = some (some (.l p ds)) → ρ[j]? = some (some (.l q es)) → σ[i]? = some (some (.ref a)) → σ[j]? = some (some (.ref a)) → i = j
  pin : ∀ (i : Nat) (a : Addr), c.pn i = some a ↔ ∃ (ds : List PyData), ρ[i]? = some (some (.l true ds)) ∧ σ[i]? = some (some (V.ref a))
  pA : ∀ (i : Nat) (a : Addr), c.pn i = some a → c.A a
  old : ∀ (a : Addr) (o : HO), c.H0 a = some o → (∀ i, c.pn i ≠ some a) → H a = some o
  av : ∀ a, c.A a → H a ≠ none
abbrev Stp {K : PySem.W.Frag} (c : Act K) (ρ : Rho) (σ : L2.St) (H : Hp) (ρ' : Rho) (σ' : L2.St) (H' : Hp) : Prop := Mv (Av c ρ σ) H (Av c ρ' σ') H'
section
variable {K : PySem.W.Frag} {c : Act K} {ρ ρ' : Rho} {σ σ' : L2.St} {H H' : Hp}
theorem Rel.ts (R : Rel K c ρ σ H) : TsOk K H := fun x hx cc p ht => R.old p _ (c.ts x hx cc p ht) fun i z => by
  obtain ⟨us, e⟩ := c.tp i p z
  rw [c.ts x hx cc p ht] at e
  cases e
theorem Rel.own (R : Rel K c ρ σ H) {a : Addr} (h : Own ρ σ a) : ∃ vs, H a = some (.lst vs) := by
  obtain ⟨i, p, ds, h1, h2⟩ := h
  obtain ⟨b, vs, e1, e2, _⟩ := R.lst i p ds h1
  rw [h2] at e1
  cases e1
  exact ⟨vs, e2⟩
theorem Rel.avS (R : Rel K c ρ σ H) {a : Addr} (h : Av c ρ σ a) : H a ≠ none := by
  rcases h with h | h
  · exact R.av a h
  · obtain ⟨vs, e⟩ := R.own h
    rw [e]
    exact fun z => nomatch z
theorem Rel.noAv (R : Rel K c ρ σ H) {a : Addr} (h : H a = none) : ¬ Av c ρ σ a := fun z => R.avS z h
/-- the heap grows -/
theorem Rel.mvG (R : Rel K c ρ σ H) (k : ∀ a o, H a = some o → H' a = some o) : Mv (Av c ρ σ) H (Av c ρ σ) H' := fun a o h n => ⟨k a o h, n⟩
theorem Rel.grow (R : Rel K c ρ σ H) (k : ∀ a o, H a = some o → H' a = some o) : Rel K c ρ σ H' where
  len := R.len
  val := fun i d h => by
    obtain ⟨v, e, r⟩ := R.val i d h
    exact ⟨v, e, r.mv (R.mvG k)⟩
  lst := fun i p ds h => by
    obtain ⟨a, vs, e, e2, r, q⟩ := R.lst i p ds h
    exact ⟨a, vs, e, k _ _ e2, r.mv (R.mvG k), q⟩
  dis := R.dis
  pin := R.pin
  pA := R.pA
  old := fun a o h n => k _ _ (R.old a o h n)
  av := fun a h => by
    cases e : H a with
    | none => exact absurd e (R.av a h)
    | some o => rw [k a o e]; exact fun z => nomatch z
theorem kp_upd {p : Addr} {o : HO} (h : H p = none) : ∀ b x, H b = some x → upd H p o b = some x := fun b x e => by
  rw [upd_ne (ne_of_none e h)]
  exact e
/-- the heap grows, p among the new, kept apart -/
theorem Rel.mvP (R : Rel K c ρ σ H) {p : Addr} (h : H p = none) (k : ∀ a o, H a = some o → H' a = some o) : Mv (Av c ρ σ) H (Av (c.plus p) ρ σ) H' := fun a x e n => ⟨k a x e, fun z => by
    rcases z with (z | z) | z
    · exact n (.inl z)
    · subst z; rw [h] at e; cases e
    · exact n (.inr z)⟩
theorem Rel.plus (R : Rel K c ρ σ H) {p : Addr} (h : H p = none) (k : ∀ a o, H a = some o → H' a = some o) (hp : H' p ≠ none) : Rel K (c.plus p) ρ σ H' := by
  have m := R.mvP h k
  have R1 := R.grow k
  refine ⟨R.len, fun i d e => ?_, fun i p ds e => ?_, R.dis, R.pin, fun i a e => .inl (R.pA i a e), R1.old, fun a z => ?_⟩
  · obtain ⟨v, e1, r⟩ := R.val i d e
    exact ⟨v, e1, r.mv m⟩
  · obtain ⟨a, vs, e1, e2, r, q⟩ := R.lst i p ds e
    exact ⟨a, vs, e1, k _ _ e2, r.mv m, fun z => ⟨(q z).1, fun y => y.elim (q z).2 fun w => by subst w; rw [h] at e2; cases e2⟩⟩
  · rcases z with z | z
    · exact R1.av a z
    · subst z; exact hp
theorem Rel.fresh0 (R : Rel K c ρ σ H) {p : Addr} (h : H p = none) : c.H0 p = none := by
  cases e : c.H0 p with
  | none => rfl
  | some o =>
    have := R.old p o e fun i z => R.av p (R.pA i p z) h
    rw [h] at this
    cases this
theorem mv_unplus {p : Addr} : Mv (Av (c.plus p) ρ σ) H (Av c ρ σ) H := fun a o e n => ⟨e, fun z => n (z.elim (fun x => .inl (.inl x)) .inr)⟩
theorem Rel.unplus {p : Addr} (R : Rel K (c.plus p) ρ σ H) (pA : ∀ (i : Nat) (a : Addr), c.pn i = some a → c.A a) : Rel K c ρ σ H :=
  ⟨R.len, fun i d e => by
    obtain ⟨v, e1, r⟩ := R.val i d e
    exact ⟨v, e1, r.mv mv_unplus⟩, fun i p ds e => by
    obtain ⟨a, vs, e1, e2, r, q⟩ := R.lst i p ds e
    exact ⟨a, vs, e1, e2, r.mv mv_unplus, fun z => ⟨(q z).1, fun y => (q z).2 (.inl y)⟩⟩, R.dis, R.pin, pA, R.old, fun a z => R.av a (.inl z)⟩
theorem get_set {α : Type} {l : List α} {i j : Nat} {x : α} (h : i < l.length) : (l.set i x)[j]? = if i = j then some x else l[j]? := by
  rw [List.getElem?_set]
  by_cases e : i = j
  · subst e; simp [h]
  · simp [e]
theorem lt_of_get {α : Type} {l : List α} {i : Nat} {x : α} (h : l[i]? = some x) : i < l.length := by
  rcases Nat.lt_or_ge i l.length with h1 | h1
  · exact h1
  · rw [List.getElem?_eq_none h1] at h; cases h
/-- an owned list is written -/
theorem Rel.write (R : Rel K c ρ σ H) {i : Nat} {p : Bool} {ds ds' : List PyData} {a : Addr} {vs' : List V} (hi : ρ[i]? = some (some (.l p ds))) (ha : σ[i]? = some (some (.ref a)))
    (hw : H' a = some (.lst vs')) (kw : ∀ b o, b ≠ a → H b = some o → H' b = some o) (r : RpA K (Av c ρ σ) H' vs' ds') : Rel K c (ρ.set i (some (.l p ds'))) σ H' ∧ Stp c ρ σ H (ρ.set i (some (.l p ds'))) σ H' := by
  have hl := lt_of_get hi
  have gs : ∀ j, (ρ.set i (some (Cell.l p ds')))[j]? = if i = j then some (some (Cell.l p ds')) else ρ[j]? := fun j => get_set hl
  have own : ∀ b, Own (ρ.set i (some (.l p ds'))) σ b → Own ρ σ b := fun b ⟨j, q, es, h1, h2⟩ => by
    rw [gs] at h1
    by_cases e : i = j
    · subst e; exact ⟨i, p, ds, hi, h2⟩
    · rw [if_neg e] at h1; exact ⟨j, q, es, h1, h2⟩
  have aown : Own ρ σ a := ⟨i, p, ds, hi, ha⟩
  have mv : Stp c ρ σ H (ρ.set i (some (.l p ds'))) σ H' := fun b o e n => by
    have nb : b ≠ a := fun z => n (by subst z; exact .inr aown)
    exact ⟨kw b o nb e, fun z => n (z.elim .inl fun x => .inr (own b x))⟩
  refine ⟨⟨by rw [List.length_set]; exact R.len, fun j d e => ?_, fun j q es e => ?_, fun j k q q' es es' b h1 h2 h3 h4 => ?_, fun j b => ?_, R.pA, fun b o e n => ?_, fun b e => ?_⟩, mv⟩
  · rw [gs] at e
    by_cases e1 : i = j
    · rw [if_pos e1] at e; cases e
    · rw [if_neg e1] at e
      obtain ⟨v, h1, h2⟩ := R.val j d e
      exact ⟨v, h1, h2.mv mv⟩
  · rw [gs] at e
    by_cases e1 : i = j
    · rw [if_pos e1] at e
      cases e
      subst e1
      obtain ⟨b, vs, h1, h2, h3, h4⟩ := R.lst i p ds hi
      rw [ha] at h1
      cases h1
      exact ⟨a, vs', ha, hw, r.mv fun b o e n => ⟨e, fun z => n (z.elim .inl fun x => .inr (own b x))⟩, h4⟩
    · rw [if_neg e1] at e
      obtain ⟨b, vs, h1, h2, h3, h4⟩ := R.lst j q es e
      have nb : b ≠ a := fun z => e1 (by subst z; exact R.dis i j p q ds es b hi e ha h1)
      exact ⟨b, vs, h1, kw _ _ nb h2, h3.mv mv, h4⟩
  · rw [gs] at h1 h2
    by_cases e1 : i = j
    · by_cases e2 : i = k
      · omega
      · rw [if_neg e2] at h2
        subst e1
        exact R.dis i k p q' ds es' b hi h2 h3 h4
    · rw [if_neg e1] at h1
      by_cases e2 : i = k
      · subst e2
        exact R.dis j i q p es ds b h1 hi h3 h4
      · rw [if_neg e2] at h2
        exact R.dis j k q q' es es' b h1 h2 h3 h4
  · rw [R.pin]
    constructor
    · rintro ⟨es, h1, h2⟩
      by_cases e : i = j
      · subst e
        rw [hi] at h1
        cases h1
        exact ⟨ds', by rw [gs, if_pos rfl], h2⟩
      · exact ⟨es, by rw [gs, if_neg e]; exact h1, h2⟩
    · rintro ⟨es, h1, h2⟩
      rw [gs] at h1
      by_cases e : i = j
      · subst e
        rw [if_pos rfl] at h1
        cases h1
        exact ⟨ds, hi, h2⟩
      · rw [if_neg e] at h1
        exact ⟨es, h1, h2⟩
  · have nb : b ≠ a := fun z => by
      subst z
      obtain ⟨b', vs, h1, h2, h3, h4⟩ := R.lst i p ds hi
      rw [ha] at h1
      cases h1
      cases p with
      | false => rw [(h4 rfl).1] at e; cases e
      | true => exact n i ((R.pin i b).mpr ⟨ds, hi, ha⟩)
    exact kw b o nb (R.old b o e n)
  · by_cases z : b = a
    · subst z; rw [hw]; exact fun z => nomatch z
    · cases e2 : H b with
      | none => exact absurd e2 (R.av b e)
      | some o => rw [kw b o z e2]; exact fun z => nomatch z
/-- an owned list of the call's own becomes a value -/
theorem Rel.freeze (R : Rel K c ρ σ H) {i : Nat} {ds : List PyData} {a : Addr} (hi : ρ[i]? = some (some (.l false ds))) (ha : σ[i]? = some (some (.ref a))) :
    Rel K c (ρ.set i (some (.v (.list ds)))) σ H ∧ Rp K (Av c (ρ.set i (some (.v (.list ds)))) σ) H (.ref a) (.list ds) ∧ Stp c ρ σ H (ρ.set i (some (.v (.list ds)))) σ H := by
  have hl := lt_of_get hi
  have gs : ∀ j, (ρ.set i (some (Cell.v (.list ds))))[j]? = if i = j then some (some (Cell.v (.list ds))) else ρ[j]? := fun j => get_set hl
  have own : ∀ b, Own (ρ.set i (some (.v (.list ds)))) σ b → Own ρ σ b := fun b ⟨j, q, es, h1, h2⟩ => by
    rw [gs] at h1
    by_cases e : i = j
    · rw [if_pos e] at h1; cases h1
    · rw [if_neg e] at h1; exact ⟨j, q, es, h1, h2⟩
  have nA : ¬ c.A a := by
    obtain ⟨b, vs, h1, h2, h3, h4⟩ := R.lst i false ds hi
    rw [ha] at h1
    cases h1
    exact (h4 rfl).2
  have nown : ¬ Own (ρ.set i (some (.v (.list ds)))) σ a := fun ⟨j, q, es, h1, h2⟩ => by
    rw [gs] at h1
    by_cases e : i = j
    · rw [if_pos e] at h1; cases h1
    · rw [if_neg e] at h1; exact e (R.dis i j false q ds es a hi h1 ha h2)
  have mv : Stp c ρ σ H (ρ.set i (some (.v (.list ds)))) σ H := fun b o e n => ⟨e, fun z => n (z.elim .inl fun x => .inr (own b x))⟩
  have rp : Rp K (Av c (ρ.set i (some (.v (.list ds)))) σ) H (.ref a) (.list ds) := by
    obtain ⟨b, vs, h1, h2, h3, h4⟩ := R.lst i false ds hi
    rw [ha] at h1
    cases h1
    exact .lst ⟨h2, fun z => z.elim nA nown⟩ (h3.mv mv)
  refine ⟨⟨by rw [List.length_set]; exact R.len, fun j d e => ?_, fun j q es e => ?_, fun j k q q' es es' b h1 h2 h3 h4 => ?_, fun j b => ?_, R.pA, R.old, R.av⟩, rp, mv⟩
  · rw [gs] at e
    by_cases e1 : i = j
    · rw [if_pos e1] at e
      cases e
      subst e1
      exact ⟨.ref a, ha, rp⟩
    · rw [if_neg e1] at e
      obtain ⟨v, h1, h2⟩ := R.val j d e
      exact ⟨v, h1, h2.mv mv⟩
  · rw [gs] at e
    by_cases e1 : i = j
    · rw [if_pos e1] at e; cases e
    · rw [if_neg e1] at e
      obtain ⟨b, vs, h1, h2, h3, h4⟩ := R.lst j q es e
      exact ⟨b, vs, h1, h2, h3.mv mv, h4⟩
  · rw [gs] at h1 h2
    by_cases e1 : i = j
    · rw [if_pos e1] at h1; cases h1
    · by_cases e2 : i = k
      · rw [if_pos e2] at h2; cases h2
      · rw [if_neg e1] at h1
        rw [if_neg e2] at h2
        exact R.dis j k q q' es es' b h1 h2 h3 h4
  · rw [R.pin]
    constructor
    · rintro ⟨es, h1, h2⟩
      by_cases e : i = j
      · subst e; rw [hi] at h1; cases h1
      · exact ⟨es, by rw [gs, if_neg e]; exact h1, h2⟩
    · rintro ⟨es, h1, h2⟩
      rw [gs] at h1
      by_cases e : i = j
      · rw [if_pos e] at h1; cases h1
      · rw [if_neg e] at h1; exact ⟨es, h1, h2⟩
end
end PG
end
section
set_option Elab.async false
set_option linter.all false
set_option maxRecDepth 100000
namespace PG
open PySem PySem.Spec PyProof.Rows L2

/-! ### what a program's parts do, on data -/
abbrev EF := Rho → Option (PyData × Rho)
abbrev NF := Rho → Option (List PyData × Rho)
abbrev TF := Rho → Option (Bool × Rho)
inductive Out where
  | next
  | brk
  | cont
  | ret (d : PyData)
  | retL (ds : List PyData)
abbrev SF := Rho → Option (Out × Rho)
abbrev GF := PyData → Rho → Option Rho

/-! expressions -/
@[simp] def eName (i : Nat) : EF := fun ρ => match ρ[i]? with
  | some (some (.v d)) => some (d, ρ)
  | _ => none
@[simp] def eFrz (i : Nat) : EF := fun ρ => match ρ[i]? with
  | some (some (.l false ds)) => some (.list ds, ρ.set i (some (.v (.list ds))))
  | _ => none
@[simp] def eC (d : PyData) : EF := fun ρ => some (d, ρ)
@[simp] def eUn (o : PyData → Option PyData) (f : EF) : EF := fun ρ => match f ρ with
  | some (x, ρ1) => (match o x with
    | some z => some (z, ρ1)
    | none => none)
  | none => none
@[simp] def eBin (o : PyData → PyData → Option PyData) (f g : EF) : EF := fun ρ => match f ρ with
  | some (x, ρ1) => (match g ρ1 with
    | some (y, ρ2) => (match o x y with
      | some z => some (z, ρ2)
      | none => none)
    | none => none)
  | none => none
@[simp] def eTest (f : TF) : EF := fun ρ => match f ρ with
  | some (b, ρ1) => some (.bool b, ρ1)
  | none => none
@[simp] def eIf (t : TF) (f g : EF) : EF := fun ρ => match t ρ with
  | some (true, ρ1) => f ρ1
  | some (false, ρ1) => g ρ1
  | none => none
@[simp] def nNil : NF := fun ρ => some ([], ρ)
@[simp] def nCons (f : EF) (g : NF) : NF := fun ρ => match f ρ with
  | some (x, ρ1) => (match g ρ1 with
    | some (xs, ρ2) => some (x :: xs, ρ2)
    | none => none)
  | none => none
@[simp] def eTup (f : NF) : EF := fun ρ => match f ρ with
  | some (xs, ρ1) => if xs.length ≤ 16777216 then some (.tuple xs, ρ1) else none
  | none => none
@[simp] def nDisp (f : NF) : NF := fun ρ => match f ρ with
  | some (xs, ρ1) => if xs.length ≤ 16777216 then some (xs, ρ1) else none
  | none => none
@[simp] def eLst (f : NF) : EF := fun ρ => match f ρ with
  | some (xs, ρ1) => some (.list xs, ρ1)
  | none => none
/-- a call of a def that changes nothing -/
@[simp] def eCall (F : List PyData → Option PyData) (f : NF) : EF := fun ρ => match f ρ with
  | some (xs, ρ1) => (match F xs with
    | some z => some (z, ρ1)
    | none => none)
  | none => none
/-- .. that hands back a new list -/
@[simp] def nCall (F : List PyData → Option (List PyData)) (f : NF) : NF := fun ρ => match f ρ with
  | some (xs, ρ1) => (match F xs with
    | some z => some (z, ρ1)
    | none => none)
  | none => none
/-- .. that changes the list at slot i, its first argument -/
@[simp] def eCallL (F : List PyData → List PyData → Option (PyData × List PyData)) (i : Nat) (f : NF) : EF := fun ρ => match ρ[i]? with
  | some (some (.l _ _)) => (match f ρ with
    | some (xs, ρ1) => (match ρ1[i]? with
      | some (some (.l p ps)) => (match F ps xs with
        | some (z, ps') => some (z, ρ1.set i (some (.l p ps')))
        | none => none)
      | _ => none)
    | none => none)
  | _ => none
/-- .. and hands back a new list -/
@[simp] def nCallL (F : List PyData → List PyData → Option (List PyData × List PyData)) (i : Nat) (f : NF) : NF := fun ρ => match ρ[i]? with
  | some (some (.l _ _)) => (match f ρ with
    | some (xs, ρ1) => (match ρ1[i]? with
      | some (some (.l p ps)) => (match F ps xs with
        | some (z, ps') => some (z, ρ1.set i (some (.l p ps')))
        | none => none)
      | _ => none)
    | none => none)
  | _ => none
/-- xs[e] of an owned list -/
@[simp] def eIxL (o : PyData → PyData → Option PyData) (i : Nat) (g : EF) : EF := fun ρ => match ρ[i]? with
  | some (some (.l _ _)) => (match g ρ with
    | some (y, ρ1) => (match ρ1[i]? with
      | some (some (.l _ ps)) => (match o (.list ps) y with
        | some z => some (z, ρ1)
        | none => none)
      | _ => none)
    | none => none)
  | _ => none
@[simp] def eUnL (o : PyData → Option PyData) (i : Nat) : EF := fun ρ => match ρ[i]? with
  | some (some (.l _ ps)) => (match o (.list ps) with
    | some z => some (z, ρ)
    | none => none)
  | _ => none

/-! tests -/
@[simp] def truth : PyData → Option Bool
  | .none => some false
  | .bool b => some b
  | .int i => some (i != 0)
  | .str x => if x.length ≤ 16777216 then some ((x.length : Int) != 0) else none
  | .list xs => some (!xs.isEmpty)
  | .tuple xs => some (!xs.isEmpty)
  | .dict _ => none
@[simp] def tTru (f : EF) : TF := fun ρ => match f ρ with
  | some (x, ρ1) => (match truth x with
    | some b => some (b, ρ1)
    | none => none)
  | none => none
def asB : PyData → Option Bool
  | .bool b => some b
  | _ => none
@[simp] def tBl (f : EF) : TF := fun ρ => match f ρ with
  | some (.bool b, ρ1) => some (b, ρ1)
  | _ => none
@[simp] def tAnd' (f g : TF) : TF := fun ρ => match f ρ with
  | some (true, ρ1) => g ρ1
  | some (false, ρ1) => some (false, ρ1)
  | none => none
@[simp] def tOr' (f g : TF) : TF := fun ρ => match f ρ with
  | some (true, ρ1) => some (true, ρ1)
  | some (false, ρ1) => g ρ1
  | none => none
@[simp] def tNot' (f : TF) : TF := fun ρ => match f ρ with
  | some (b, ρ1) => some (!b, ρ1)
  | none => none
/-- and, or as values -/
@[simp] def eAnd (f g : EF) : EF := fun ρ => match f ρ with
  | some (x, ρ1) => (match truth x with
    | some true => g ρ1
    | some false => some (x, ρ1)
    | none => none)
  | none => none
@[simp] def eOr (f g : EF) : EF := fun ρ => match f ρ with
  | some (x, ρ1) => (match truth x with
    | some true => some (x, ρ1)
    | some false => g ρ1
    | none => none)
  | none => none
@[simp] def eNot (f : EF) : EF := fun ρ => match f ρ with
  | some (x, ρ1) => (match truth x with
    | some b => some (.bool (!b), ρ1)
    | none => none)
  | none => none
/-- a < b < c of ints -/
@[simp] def eChain (o o' : PyData → PyData → Option PyData) (f g h : EF) : EF := fun ρ => match f ρ with
  | some (x, ρ1) => (match g ρ1 with
    | some (y, ρ2) => (match o x y with
      | some (.bool true) => (match h ρ2 with
        | some (z, ρ3) => (match o' y z with
          | some (.bool b) => some (.bool b, ρ3)
          | _ => none)
        | none => none)
      | some (.bool false) => some (.bool false, ρ2)
      | _ => none)
    | none => none)
  | none => none

/-! statements -/
@[simp] def setV (i : Nat) (d : PyData) (ρ : Rho) : Option Rho := match ρ[i]? with
  | none => none
  | some (some (.l true _)) => none
  | _ => some (ρ.set i (some (.v d)))
@[simp] def setL (i : Nat) (ds : List PyData) (ρ : Rho) : Option Rho := match ρ[i]? with
  | none => none
  | some (some (.l true _)) => none
  | _ => some (ρ.set i (some (.l false ds)))
@[simp] def sSet (i : Nat) (f : EF) : SF := fun ρ => match f ρ with
  | some (d, ρ1) => (match setV i d ρ1 with
    | some ρ2 => some (.next, ρ2)
    | none => none)
  | none => none
@[simp] def sSetL (i : Nat) (f : NF) : SF := fun ρ => match f ρ with
  | some (ds, ρ1) => (match setL i ds ρ1 with
    | some ρ2 => some (.next, ρ2)
    | none => none)
  | none => none
@[simp] def sSeq (f g : SF) : SF := fun ρ => match f ρ with
  | some (.next, ρ1) => g ρ1
  | r => r
@[simp] def sNil : SF := fun ρ => some (.next, ρ)
@[simp] def sIf (t : TF) (f g : SF) : SF := fun ρ => match t ρ with
  | some (true, ρ1) => f ρ1
  | some (false, ρ1) => g ρ1
  | none => none
@[simp] def sRet (f : EF) : SF := fun ρ => match f ρ with
  | some (d, ρ1) => some (.ret d, ρ1)
  | none => none
@[simp] def sRetL (f : NF) : SF := fun ρ => match f ρ with
  | some (ds, ρ1) => some (.retL ds, ρ1)
  | none => none
/-- return of an owned list's name -/
@[simp] def sRetO (i : Nat) : SF := fun ρ => match ρ[i]? with
  | some (some (.l false ds)) => some (.retL ds, ρ)
  | _ => none
@[simp] def sExpr (f : EF) : SF := fun ρ => match f ρ with
  | some (_, ρ1) => some (.next, ρ1)
  | none => none
@[simp] def sBrk : SF := fun ρ => some (.brk, ρ)
@[simp] def sCont : SF := fun ρ => some (.cont, ρ)
/-- xs.append(e) of an owned list -/
@[simp] def sApp (i : Nat) (f : EF) : SF := fun ρ => match ρ[i]? with
  | some (some (.l _ _)) => (match f ρ with
    | some (d, ρ1) => (match ρ1[i]? with
      | some (some (.l p ds)) => if ds.length < 16777216 then some (.next, ρ1.set i (some (.l p (ds ++ [d])))) else none
      | _ => none)
    | none => none)
  | _ => none
def ixOf (n : Nat) (i : Int) : Option Nat := if 0 ≤ i then (if i < n then some i.toNat else none) else if -(n : Int) ≤ i then some (i + n).toNat else none
/-- xs[e] = f of an owned list -/
@[simp] def sSto (i : Nat) (g f : EF) : SF := fun ρ => match f ρ with
  | some (d, ρ1) => (match ρ1[i]? with
    | some (some (.l _ _)) => (match g ρ1 with
      | some (.int k, ρ2) => (match ρ2[i]? with
        | some (some (.l p ds)) => (match ixOf ds.length k with
          | some j => some (.next, ρ2.set i (some (.l p (ds.set j d))))
          | none => none)
        | _ => none)
      | _ => none)
    | _ => none)
  | none => none
def forL (g : GF) (b : SF) : List PyData → SF
  | [], ρ => some (.next, ρ)
  | d :: ds, ρ => match g d ρ with
    | none => none
    | some ρ1 => match b ρ1 with
      | some (.next, ρ2) => forL g b ds ρ2
      | some (.cont, ρ2) => forL g b ds ρ2
      | some (.brk, ρ2) => some (.next, ρ2)
      | r => r
def sFor (it : NF) (g : GF) (b : SF) : SF := fun ρ => match it ρ with
  | some (ds, ρ1) => forL g b ds ρ1
  | none => none
def whl (t : TF) (b : SF) : Nat → SF
  | 0, _ => none
  | n + 1, ρ => match t ρ with
    | some (true, ρ1) => (match b ρ1 with
      | some (.next, ρ2) => whl t b n ρ2
      | some (.cont, ρ2) => whl t b n ρ2
      | some (.brk, ρ2) => some (.next, ρ2)
      | r => r)
    | some (false, ρ1) => some (.next, ρ1)
    | none => none
def sWhile (n : Rho → Nat) (t : TF) (b : SF) : SF := fun ρ => whl t b (n ρ) ρ
/-- targets -/
@[simp] def gSet (i : Nat) : GF := fun d ρ => setV i d ρ
@[simp] def gPairs : List Nat → List PyData → Rho → Option Rho
  | [], [], ρ => some ρ
  | i :: is, d :: ds, ρ => (match setV i d ρ with
    | some ρ1 => gPairs is ds ρ1
    | none => none)
  | _, _, _ => none
@[simp] def gTupS (is : List Nat) : GF := fun d ρ => match d with
  | .tuple ds => gPairs is ds ρ
  | _ => none
@[simp] def sAsg (f : EF) (g : GF) : SF := fun ρ => match f ρ with
  | some (d, ρ1) => (match g d ρ1 with
    | some ρ2 => some (.next, ρ2)
    | none => none)
  | none => none
/-- comprehensions -/
def wipeR (ρ : Rho) : List Nat → Rho
  | [] => ρ
  | v :: vs => (wipeR ρ vs).set v none
def plainAt (ρ : Rho) (vs : List Nat) : Bool := vs.all fun v => match ρ[v]? with
  | some none => true
  | some (some (.v _)) => true
  | _ => false
def compL (g : GF) (t : TF) (e : EF) (vs : List Nat) : List PyData → List PyData → Rho → Option (List PyData × Rho)
  | [], acc, ρ => some (acc, ρ)
  | d :: ds, acc, ρ => match g d ρ with
    | none => none
    | some ρ1 => match t ρ1 with
      | none => none
      | some (false, ρ2) => if plainAt ρ2 vs then compL g t e vs ds acc (wipeR ρ2 vs) else none
      | some (true, ρ2) => match e ρ2 with
        | none => none
        | some (y, ρ3) => if plainAt ρ3 vs && decide (acc.length < 16777216) then compL g t e vs ds (acc ++ [y]) (wipeR ρ3 vs) else none
def restR (ρ0 ρ : Rho) : List Nat → Rho
  | [] => ρ
  | v :: vs => (restR ρ0 ρ vs).set v (ρ0[v]?.getD none)
def nComp (it : NF) (g : GF) (t : TF) (e : EF) (vs : List Nat) : NF := fun ρ => match it ρ with
  | some (ds, ρ1) => if plainAt ρ1 vs then (match compL g t e vs ds [] (wipeR ρ1 vs) with
    | some (out, ρ2) => some (out, restR ρ1 ρ2 vs)
    | none => none) else none
  | none => none
@[simp] def tYesF : TF := fun ρ => some (true, ρ)

/-! operations on data -/
@[simp] def dAdd : PyData → PyData → Option PyData
  | .int i, .int j => some (.int (i + j))
  | .list xs, .list ys => if xs.length + ys.length ≤ 16777216 then some (.list (xs ++ ys)) else none
  | .tuple xs, .tuple ys => if xs.length + ys.length ≤ 16777216 then some (.tuple (xs ++ ys)) else none
  | .str x, .str y => if x.length + y.length ≤ 16777216 then some (.str (x ++ y)) else none
  | _, _ => none
@[simp] def dI2 (C : Int → Int → Bool) (g : Int → Int → PyData) : PyData → PyData → Option PyData
  | .int i, .int j => if C i j then some (g i j) else none
  | _, _ => none
@[simp] def cT : Int → Int → Bool := fun _ _ => true
@[simp] def dSub := dI2 cT fun i j => .int (i - j)
@[simp] def dMul := dI2 (fun i j => (decide (-18446744073709551616 < i) && decide (i < 18446744073709551616)) || (decide (-18446744073709551616 < j) && decide (j < 18446744073709551616))) fun i j => .int (i * j)
@[simp] def dDiv := dI2 (fun _ j => decide (0 < j) && decide (j < 18446744073709551616)) fun i j => .int (i / j)
@[simp] def dMod := dI2 (fun _ j => decide (0 < j)) fun i j => .int (i % j)
@[simp] def dShr := dI2 (fun _ j => decide (0 ≤ j)) fun i j => .int (i / 2 ^ j.toNat)
@[simp] def dLt := dI2 cT fun i j => .bool (decide (i < j))
@[simp] def dLe := dI2 cT fun i j => .bool (decide (i ≤ j))
@[simp] def dGt := dI2 cT fun i j => .bool (decide (j < i))
@[simp] def dGe := dI2 cT fun i j => .bool (decide (j ≤ i))
def dEq : PyData → PyData → Option PyData
  | .int i, .int j => some (.bool (decide (i = j)))
  | x, y => if SeqAt.shaped x && SeqAt.shaped y then some (.bool (PyData.eqv x y)) else none
def dNe : PyData → PyData → Option PyData
  | .int i, .int j => some (.bool (!decide (i = j)))
  | x, y => if SeqAt.shaped x && SeqAt.shaped y then some (.bool (!PyData.eqv x y)) else none
@[simp] def dNeg : PyData → Option PyData
  | .int i => some (.int (-i))
  | _ => none
@[simp] def isNone : PyData → Bool
  | .none => true
  | _ => false
@[simp] def dIsN : PyData → Option PyData := fun x => some (.bool (isNone x))
@[simp] def dNotN : PyData → Option PyData := fun x => some (.bool (!isNone x))
def atD (xs : List PyData) (i : Int) : Option PyData := (ixOf xs.length i).bind fun j => xs[j]?
/-- lists that are read only: the script's, the module's -/
def RO (ds : List PyData) : PyData := .dict [(.list ds, .none)]
@[simp] def dIx : PyData → PyData → Option PyData
  | .list xs, .int i => atD xs i
  | .tuple xs, .int i => atD xs i
  | .dict [(.list xs, .none)], .int i => atD xs i
  | _, _ => none
@[simp] def dLen : PyData → Option PyData
  | .list xs => some (.int xs.length)
  | .tuple xs => some (.int xs.length)
  | .dict [(.list xs, .none)] => some (.int xs.length)
  | .str x => if x.length ≤ 16777216 then some (.int x.length) else none
  | _ => none
def sIxD (n d : Nat) : Option Int → Nat
  | none => d
  | some v => if v < 0 then (v + (n : Int)).toNat else min v.toNat n
def cutD (xs : List PyData) (lo hi : Option Int) : List PyData := (xs.drop (sIxD xs.length 0 lo)).take (sIxD xs.length xs.length hi - sIxD xs.length 0 lo)
end PG
end
section
set_option Elab.async false
set_option linter.all false
set_option maxRecDepth 100000
namespace PG
open PySem PySem.Spec PyProof.Rows L2

/-! ### readings by data -/
def tE (K : PySem.W.Frag) (f : EF) : TE := fun σ H Q => ∃ (c : Act K) (ρ : Rho) (d : PyData) (ρ' : Rho), Rel K c ρ σ H ∧ f ρ = some (d, ρ') ∧
  ∀ v H', Rel K c ρ' σ H' → Rp K (Av c ρ' σ) H' v d → Stp c ρ σ H ρ' σ H' → Q v H'
def tT (K : PySem.W.Frag) (f : TF) : TT := fun σ H Q => ∃ (c : Act K) (ρ : Rho) (b : Bool) (ρ' : Rho), Rel K c ρ σ H ∧ f ρ = some (b, ρ') ∧
  ∀ H', Rel K c ρ' σ H' → Stp c ρ σ H ρ' σ H' → Q b H'
def tA (K : PySem.W.Frag) (f : NF) : TA := fun σ H Q => ∃ (c : Act K) (ρ : Rho) (ds : List PyData) (ρ' : Rho), Rel K c ρ σ H ∧ f ρ = some (ds, ρ') ∧
  ∀ vs H', Rel K c ρ' σ H' → RpA K (Av c ρ' σ) H' vs ds → Stp c ρ σ H ρ' σ H' → Q vs H'
/-- a new list -/
def tN (K : PySem.W.Frag) (f : NF) : TE := fun σ H Q => ∃ (c : Act K) (ρ : Rho) (ds : List PyData) (ρ' : Rho), Rel K c ρ σ H ∧ f ρ = some (ds, ρ') ∧
  ∀ a vs H', Rel K (c.plus a) ρ' σ H' → H' a = some (.lst vs) → RpA K (Av (c.plus a) ρ' σ) H' vs ds → ¬ Av c ρ' σ a → c.H0 a = none → (¬ Av c ρ σ a → H a = none) → Stp c ρ σ H ρ' σ H' → Q (.ref a) H'

section
variable {X : Cx} {e a b : Expr} {pos : Pos} {f g h : EF} {tf tg : TF} {n m : NF}
theorem pe_of {t t' : TE} (h : PE X e t) (k : ∀ σ H Q, t' σ H Q → t σ H Q) : PE X e t' := ⟨fun pins s σ H Q I q => h.run pins s σ H Q I (k σ H Q q)⟩
theorem pt_of {t t' : TT} (h : PT X e t) (k : ∀ σ H Q, t' σ H Q → t σ H Q) : PT X e t' := ⟨fun pins s σ H Q I q => h.run pins s σ H Q I (k σ H Q q)⟩
theorem pw_of {t t' : TT} (h : PW X e t) (k : ∀ σ H Q, t' σ H Q → t σ H Q) : PW X e t' := ⟨fun wh pins s σ H Q I q => h.run wh pins s σ H Q I (k σ H Q q)⟩
theorem pa_of {es : List Expr} {t t' : TA} (h : PA X es t) (k : ∀ σ H Q, t' σ H Q → t σ H Q) : PA X es t' := ⟨fun p pins s σ H Q I q => h.run p pins s σ H Q I (k σ H Q q)⟩
theorem ps_of {st : Stmt} {t t' : TS} (h : PS X st t) (k : ∀ D σ H, t' D σ H → t D σ H) : PS X st t' := ⟨fun pins s σ H D I q => h.run pins s σ H D I (k D σ H q)⟩
theorem pss_of {st : List Stmt} {t t' : TS} (h : PSs X st t) (k : ∀ D σ H, t' D σ H → t D σ H) : PSs X st t' := ⟨fun pins s σ H D I q => h.run pins s σ H D I (k D σ H q)⟩

/-! names, constants -/
theorem ev_name {i : Nat} (h : PE X e (tVar i)) : PE X e (tE X.K (eName i)) := pe_of h fun σ H Q ⟨c, ρ, d, ρ', R, e, q⟩ => by
  unfold eName at e
  split at e
  · rename_i d' hd
    cases e
    obtain ⟨v, h1, h2⟩ := R.val i d hd
    exact ⟨v, h1, q v H R h2 Mv.refl⟩
  · cases e
theorem ev_c {v : V} {d : PyData} (h : PE X e (tC v)) (r : ∀ A H, Rp X.K A H v d) : PE X e (tE X.K (eC d)) := pe_of h fun σ H Q ⟨c, ρ, d', ρ', R, e, q⟩ => by
  cases e
  exact q v H R (r _ _) Mv.refl
theorem ev_int {i : Int} {j} : PE X (.Constant (.int i) j pos) (tE X.K (eC (.int i))) := ev_c pe_int fun _ _ => .int i
theorem ev_bool {b : Bool} {j} : PE X (.Constant (.bool b) j pos) (tE X.K (eC (.bool b))) := ev_c pe_bl fun _ _ => .bl b
theorem ev_none {j} : PE X (.Constant .none j pos) (tE X.K (eC .none)) := ev_c pe_non fun _ _ => .non
theorem ev_str {x : Str} {j} : PE X (.Constant (.str x) j pos) (tE X.K (eC (.str x))) := ev_c pe_str fun _ _ => .str x
/-- an owned list as a value: from here on it is read only -/
theorem ev_frz {i : Nat} (h : PE X e (tVar i)) : PE X e (tE X.K (eFrz i)) := pe_of h fun σ H Q ⟨c, ρ, d', ρ', R, e, q⟩ => by
  unfold eFrz at e
  split at e
  · rename_i ds hd
    cases e
    obtain ⟨a, vs, h1, _⟩ := R.lst i false ds hd
    obtain ⟨R', r', m'⟩ := R.freeze hd h1
    exact ⟨.ref a, h1, q _ H R' r' m'⟩
  · cases e

/-! ### operations -/
def OpS (K : PySem.W.Frag) (r : R2) (o : PyData → PyData → Option PyData) : Prop := ∀ (c : Act K) (ρ : Rho) (σ : L2.St) (H : Hp) (v1 v2 : V) (x y d : PyData) (Q : VK), Rel K c ρ σ H → Rp K (Av c ρ σ) H v1 x → Rp K (Av c ρ σ) H v2 y → o x y = some d →
  (∀ v H', Rel K c ρ σ H' → Rp K (Av c ρ σ) H' v d → (∀ a o, H a = some o → H' a = some o) → Q v H') → r v1 v2 H Q
def UnS (K : PySem.W.Frag) (r : V → Hp → VK → Prop) (o : PyData → Option PyData) : Prop := ∀ (c : Act K) (ρ : Rho) (σ : L2.St) (H : Hp) (v1 : V) (x d : PyData) (Q : VK), Rel K c ρ σ H → Rp K (Av c ρ σ) H v1 x → o x = some d →
  (∀ v H', Rel K c ρ σ H' → Rp K (Av c ρ σ) H' v d → (∀ a o, H a = some o → H' a = some o) → Q v H') → r v1 H Q
theorem bin_inv {o : PyData → PyData → Option PyData} {ρ ρ' : Rho} {d : PyData} (h : eBin o f g ρ = some (d, ρ')) : ∃ x ρ1 y, f ρ = some (x, ρ1) ∧ g ρ1 = some (y, ρ') ∧ o x y = some d := by
  unfold eBin at h
  split at h
  · rename_i x ρ1 h1
    split at h
    · rename_i y ρ2 h2
      split at h
      · rename_i z h3
        cases h
        exact ⟨x, ρ1, y, h1, h2, h3⟩
      · cases h
    · cases h
  · cases h
theorem un_inv' {o : PyData → Option PyData} {ρ ρ' : Rho} {d : PyData} (h : eUn o f ρ = some (d, ρ')) : ∃ x, f ρ = some (x, ρ') ∧ o x = some d := by
  unfold eUn at h
  split at h
  · rename_i x ρ1 h1
    split at h
    · rename_i z h3
      cases h
      exact ⟨x, h1, h3⟩
    · cases h
  · cases h
theorem rd_bin {K : PySem.W.Frag} {r : R2} {o : PyData → PyData → Option PyData} (s : OpS K r o) : ∀ σ H Q, tE K (eBin o f g) σ H Q → tOp r (tE K f) (tE K g) σ H Q := fun σ H Q ⟨c, ρ, d, ρ', R, e, q⟩ => by
  obtain ⟨x, ρ1, y, h1, h2, h3⟩ := bin_inv e
  refine ⟨c, ρ, x, ρ1, R, h1, fun v1 H1 R1 r1 m1 => ⟨c, ρ1, y, ρ', R1, h2, fun v2 H2 R2 r2 m2 => ?_⟩⟩
  exact s c ρ' σ H2 v1 v2 x y d Q R2 (r1.mv m2) r2 h3 fun v H' R' r' k => q v H' R' r' ((m1.trans m2).trans (R2.mvG k))
theorem ev_op {op : Operator} {r : R2} {o : PyData → PyData → Option PyData} (ho : OpR X (binaryOp op) r) (s : OpS X.K r o) (ha : PE X a (tE X.K f)) (hb : PE X b (tE X.K g)) : PE X (.BinOp a op b pos) (tE X.K (eBin o f g)) :=
  pe_of (pe_op ho ha hb) (rd_bin s)
theorem ev_cmp {op : CmpOp} {r : R2} {o : PyData → PyData → Option PyData} (ho : OpR X (compareOp op) r) (s : OpS X.K r o) (ha : PE X a (tE X.K f)) (hb : PE X b (tE X.K g)) (hm : behindInMarks op b = false) : PE X (.Compare a [op] [b] pos) (tE X.K (eBin o f g)) :=
  pe_of (pe_cmpR ho ha hb hm) (rd_bin s)
theorem ev_ix {r : R2} {o : PyData → PyData → Option PyData} (hr : IxR X r) (s : OpS X.K r o) (ha : PE X a (tE X.K f)) (hb : PE X b (tE X.K g)) (hs : PlainIx b) : PE X (.Subscript a b pos) (tE X.K (eBin o f g)) :=
  pe_of (pe_ix hr ha hb hs) (rd_bin s)
theorem bl_inv {ρ ρ' : Rho} {b : Bool} (h : tBl f ρ = some (b, ρ')) : f ρ = some (.bool b, ρ') := by
  unfold tBl at h
  split at h
  · rename_i b' ρ1 h1
    cases h
    exact h1
  · cases h
theorem rd_bl {K : PySem.W.Frag} {t : TE} (k : ∀ σ H Q, tE K f σ H Q → t σ H Q) : ∀ σ H Q, tT K (tBl f) σ H Q → tTest t σ H Q := fun σ H Q ⟨c, ρ, d, ρ', R, e, q⟩ =>
  k σ H _ ⟨c, ρ, .bool d, ρ', R, bl_inv e, fun v H' R' r' m => by cases r'; exact ⟨d, rfl, q H' R' m⟩⟩
theorem et_cmp {op : CmpOp} {r : R2} {o : PyData → PyData → Option PyData} (ho : OpR X (compareOp op) r) (s : OpS X.K r o) (ha : PE X a (tE X.K f)) (hb : PE X b (tE X.K g)) (hm : behindInMarks op b = false) : PT X (.Compare a [op] [b] pos) (tT X.K (tBl (eBin o f g))) :=
  pt_of (pt_cmpR ho ha hb hm) (rd_bl (rd_bin s))
theorem rd_un {K : PySem.W.Frag} {r : V → Hp → VK → Prop} {o : PyData → Option PyData} (s : UnS K r o) : ∀ σ H Q, tE K (eUn o f) σ H Q → tUn r (tE K f) σ H Q := fun σ H Q ⟨c, ρ, d, ρ', R, e, q⟩ => by
  obtain ⟨x, h1, h3⟩ := un_inv' e
  exact ⟨c, ρ, x, ρ', R, h1, fun v1 H1 R1 r1 m1 => s c ρ' σ H1 v1 x d Q R1 r1 h3 fun v H' R' r' k => q v H' R' r' (m1.trans (R1.mvG k))⟩
theorem ev_un {op : UnaryOp} {r : V → Hp → VK → Prop} {o : PyData → Option PyData} (ho : UnR X (unaryOp op) r) (s : UnS X.K r o) (ha : PE X a (tE X.K f)) : PE X (.UnaryOp op a pos) (tE X.K (eUn o f)) :=
  pe_of (pe_un ho ha) (rd_un s)
theorem os_same {K : PySem.W.Frag} {c : Act K} {ρ : Rho} {σ : L2.St} {H : Hp} {Q : VK} {v : V} {d : PyData} (R : Rel K c ρ σ H) (q : ∀ v H', Rel K c ρ σ H' → Rp K (Av c ρ σ) H' v d → (∀ a o, H a = some o → H' a = some o) → Q v H') (r : Rp K (Av c ρ σ) H v d) : Q v H :=
  q v H R r fun _ _ h => h
theorem os_i2 {K : PySem.W.Frag} {C : Int → Int → Bool} {C' : Int → Int → Prop} {g : Int → Int → PyData} {g' : Int → Int → V} (hC : ∀ i j, C i j = true → C' i j) (hg : ∀ A H i j, Rp K A H (g' i j) (g i j)) : OpS K (rI C' g') (dI2 C g) := by
  intro c ρ σ H v1 v2 x y d Q R r1 r2 ho q
  unfold dI2 at ho
  split at ho
  · rename_i i j
    split at ho
    · rename_i hc
      cases ho
      cases r1
      cases r2
      exact ⟨i, j, rfl, rfl, hC i j hc, os_same R q (hg _ _ _ _)⟩
    · cases ho
  · cases ho
theorem os_i20 {K : PySem.W.Frag} {g : Int → Int → PyData} {g' : Int → Int → V} (hg : ∀ A H i j, Rp K A H (g' i j) (g i j)) : OpS K (rI0 g') (dI2 cT g) := by
  intro c ρ σ H v1 v2 x y d Q R r1 r2 ho q
  unfold dI2 at ho
  split at ho
  · rename_i i j
    split at ho
    · cases ho
      cases r1
      cases r2
      exact ⟨i, j, rfl, rfl, os_same R q (hg _ _ _ _)⟩
    · cases ho
  · cases ho
theorem sl16 : sizeLine = 16777216 := sizeLine_eq
theorem os_sub {K : PySem.W.Frag} : OpS K (rI0 fun i j => .int (i - j)) dSub := os_i20 fun _ _ _ _ => .int _
theorem os_lt {K : PySem.W.Frag} : OpS K (rI0 fun i j => .bl (decide (i < j))) dLt := os_i20 fun _ _ _ _ => .bl _
theorem os_le {K : PySem.W.Frag} : OpS K (rI0 fun i j => .bl (decide (i ≤ j))) dLe := os_i20 fun _ _ _ _ => .bl _
theorem os_gt {K : PySem.W.Frag} : OpS K (rI0 fun i j => .bl (decide (j < i))) dGt := os_i20 fun _ _ _ _ => .bl _
theorem os_ge {K : PySem.W.Frag} : OpS K (rI0 fun i j => .bl (decide (j ≤ i))) dGe := os_i20 fun _ _ _ _ => .bl _
theorem os_mul {K : PySem.W.Frag} : OpS K (rI CMul fun i j => .int (i * j)) dMul := os_i2 (fun i j h => by
  simp only [Bool.or_eq_true, Bool.and_eq_true, decide_eq_true_eq] at h
  exact h) fun _ _ _ _ => .int _
theorem os_div {K : PySem.W.Frag} : OpS K (rI CDivW fun i j => .int (i / j)) dDiv := os_i2 (fun i j h => by
  simp only [Bool.and_eq_true, decide_eq_true_eq] at h
  exact wide_div (b := 64) h.1 (by omega) (by decide) (by decide)) fun _ _ _ _ => .int _
theorem os_mod {K : PySem.W.Frag} : OpS K (rI (fun _ j => 0 < j) fun i j => .int (i % j)) dMod := os_i2 (fun i j h => by
  simpa using h) fun _ _ _ _ => .int _
theorem os_shr {K : PySem.W.Frag} : OpS K (rI (fun _ j => 0 ≤ j) fun i j => .int (i / 2 ^ j.toNat)) dShr := os_i2 (fun i j h => by
  simpa using h) fun _ _ _ _ => .int _
theorem Rel.alloc {K : PySem.W.Frag} {c : Act K} {ρ : Rho} {σ : L2.St} {H : Hp} (R : Rel K c ρ σ H) {p : Addr} {o : HO} (hp : H p = none) : Rel K c ρ σ (upd H p o) ∧ (∀ a x, H a = some x → upd H p o a = some x) := ⟨R.grow (kp_upd hp), kp_upd hp⟩
theorem Rel.newTup {K : PySem.W.Frag} {c : Act K} {ρ : Rho} {σ : L2.St} {H : Hp} (R : Rel K c ρ σ H) {p : Addr} {xs : List V} {ds : List PyData} (hp : H p = none) (r : RpA K (Av c ρ σ) H xs ds) : Rp K (Av c ρ σ) (upd H p (.tup xs)) (.ref p) (.tuple ds) :=
  .tup (.inl ⟨.inl upd_same, R.noAv hp⟩) (r.mv (R.mvG (kp_upd hp)))
theorem Rel.newLst {K : PySem.W.Frag} {c : Act K} {ρ : Rho} {σ : L2.St} {H : Hp} (R : Rel K c ρ σ H) {p : Addr} {xs : List V} {ds : List PyData} (hp : H p = none) (r : RpA K (Av c ρ σ) H xs ds) : Rp K (Av c ρ σ) (upd H p (.lst xs)) (.ref p) (.list ds) :=
  .lst ⟨upd_same, R.noAv hp⟩ (r.mv (R.mvG (kp_upd hp)))
/-- + -/
theorem op_addD : OpR X (binaryOp .Add) (fun x y H Q => rI0 (fun i j => .int (i + j)) x y H Q ∨ rCat x y H Q ∨ rCatA X.K x y H Q ∨ ∃ i j, x = .str i ∧ y = .str j ∧ i.length + j.length ≤ sizeLine ∧ Q (.str (i ++ j)) H) :=
  op_add.or (op_cat.or (op_catA.or op_add_str))
theorem RpA.nil_iff {K : PySem.W.Frag} {A : Addr → Prop} {H : Hp} {vs : List V} {ds : List PyData} (h : RpA K A H vs ds) : vs = [] ↔ ds = [] := by cases h <;> simp
theorem os_add {K : PySem.W.Frag} : OpS K (fun x y H Q => rI0 (fun i j => .int (i + j)) x y H Q ∨ rCat x y H Q ∨ rCatA K x y H Q ∨ ∃ i j, x = .str i ∧ y = .str j ∧ i.length + j.length ≤ sizeLine ∧ Q (.str (i ++ j)) H) dAdd := by
  intro c ρ σ H v1 v2 x y d Q R r1 r2 ho q
  unfold dAdd at ho
  split at ho
  · cases ho
    cases r1
    cases r2
    exact .inl ⟨_, _, rfl, rfl, os_same R q (.int _)⟩
  · split at ho
    · rename_i hl
      cases ho
      cases r1 with
      | lst l1 a1 =>
        cases r2 with
        | lst l2 a2 =>
          refine .inr (.inl ⟨_, _, _, _, rfl, rfl, l1.1, l2.1, by rw [a1.length, a2.length, sl16]; exact hl, fun p hp => ?_⟩)
          exact q _ _ (R.alloc hp).1 (R.newLst hp (a1.app a2)) (R.alloc hp).2
    · cases ho
  · split at ho
    · rename_i hl
      cases ho
      cases r1 with
      | tup l1 a1 =>
        cases r2 with
        | tup l2 a2 =>
          refine .inr (.inr (.inl ⟨_, _, _, _, rfl, rfl, l1.sq, l2.sq, by rw [a1.length, a2.length, sl16]; exact hl, fun z => ?_, fun _ z => ?_, fun _ _ p hp => ?_⟩))
          · have e := a1.nil_iff.mp z
            subst e
            exact os_same R q (.tup l2 a2)
          · have e := a2.nil_iff.mp z
            subst e
            rw [List.append_nil] at q
            exact os_same R q (.tup l1 a1)
          · exact q _ _ (R.alloc hp).1 (R.newTup hp (a1.app a2)) (R.alloc hp).2
    · cases ho
  · split at ho
    · rename_i hl
      cases ho
      cases r1
      cases r2
      exact .inr (.inr (.inr ⟨_, _, rfl, rfl, by rw [sl16]; exact hl, os_same R q (.str _)⟩))
    · cases ho
  · cases ho
/-- == and != -/
theorem dp_of {K : PySem.W.Frag} {A : Addr → Prop} {H : Hp} {v : V} {d : PyData} (r : Rp K A H v d) (s : SeqAt.shaped d = true) : Dp K H v d := Rp.dp d v r (SeqAt.canLay_of_shaped s)
theorem os_eq {K : PySem.W.Frag} : OpS K (rEqD K) dEq := by
  intro c ρ σ H v1 v2 x y d Q R r1 r2 ho q
  unfold dEq at ho
  split at ho
  · rename_i i j
    cases ho
    refine ⟨.int i, .int j, dp_of r1 rfl, dp_of r2 rfl, rfl, rfl, ?_⟩
    have e : PyData.eqv (.int i) (.int j) = decide (i = j) := by simp [PyData.eqv, Bool.beq_eq_decide_eq]
    rw [e]
    exact os_same R q (.bl _)
  · split at ho
    · rename_i hs
      cases ho
      simp only [Bool.and_eq_true] at hs
      exact ⟨x, y, dp_of r1 hs.1, dp_of r2 hs.2, hs.1, hs.2, os_same R q (.bl _)⟩
    · cases ho
theorem os_ne {K : PySem.W.Frag} : OpS K (rNeD K) dNe := by
  intro c ρ σ H v1 v2 x y d Q R r1 r2 ho q
  unfold dNe at ho
  split at ho
  · rename_i i j
    cases ho
    refine ⟨.int i, .int j, dp_of r1 rfl, dp_of r2 rfl, rfl, rfl, ?_⟩
    have e : PyData.eqv (.int i) (.int j) = decide (i = j) := by simp [PyData.eqv, Bool.beq_eq_decide_eq]
    rw [e]
    exact os_same R q (.bl _)
  · split at ho
    · rename_i hs
      cases ho
      simp only [Bool.and_eq_true] at hs
      exact ⟨x, y, dp_of r1 hs.1, dp_of r2 hs.2, hs.1, hs.2, os_same R q (.bl _)⟩
    · cases ho
/-- is None -/
theorem none_iff {K : PySem.W.Frag} {A : Addr → Prop} {H : Hp} {v : V} {d : PyData} (r : Rp K A H v d) : decide (v = V.non) = isNone d := by
  cases r <;> simp [isNone]
theorem rd_isN {K : PySem.W.Frag} : ∀ σ H Q, tE K (eUn dIsN f) σ H Q → tIsN (tE K f) σ H Q := fun σ H Q ⟨c, ρ, d, ρ', R, e, q⟩ => by
  obtain ⟨x, h1, h3⟩ := un_inv' e
  cases h3
  exact ⟨c, ρ, x, ρ', R, h1, fun v1 H1 R1 r1 m1 => by
    show Q (.bl (decide (v1 = V.non))) H1
    rw [none_iff r1]
    exact q _ H1 R1 (.bl _) m1⟩
theorem rd_notN {K : PySem.W.Frag} : ∀ σ H Q, tE K (eUn dNotN f) σ H Q → tNotN (tE K f) σ H Q := fun σ H Q ⟨c, ρ, d, ρ', R, e, q⟩ => by
  obtain ⟨x, h1, h3⟩ := un_inv' e
  cases h3
  exact ⟨c, ρ, x, ρ', R, h1, fun v1 H1 R1 r1 m1 => by
    show Q (.bl (!decide (v1 = V.non))) H1
    rw [none_iff r1]
    exact q _ H1 R1 (.bl _) m1⟩
theorem pt_ofPC {op : CmpOp} {t : TE} (h : PC X op a b t) (h1 : behindInMarks op b = false := by first | exact nobehind _ (by decide) (by decide) | rfl) : PT X (.Compare a [op] [b] pos) (tB t) := pt_cmp h h1
theorem rd_blB {K : PySem.W.Frag} {t : TE} (k : ∀ σ H Q, tE K f σ H Q → t σ H Q) : ∀ σ H Q, tT K (tBl f) σ H Q → tB t σ H Q := fun σ H Q ⟨c, ρ, d, ρ', R, e, q⟩ =>
  k σ H _ ⟨c, ρ, .bool d, ρ', R, bl_inv e, fun v H' R' r' m => by cases r'; exact ⟨d, rfl, q H' R' m⟩⟩
theorem ev_isN {j pos'} (ha : PE X a (tE X.K f)) : PE X (.Compare a [.Is] [.Constant .none j pos'] pos) (tE X.K (eUn dIsN f)) := pe_of (pe_cmp (pc_isN ha)) rd_isN
theorem ev_notN {j pos'} (ha : PE X a (tE X.K f)) : PE X (.Compare a [.IsNot] [.Constant .none j pos'] pos) (tE X.K (eUn dNotN f)) := pe_of (pe_cmp (pc_notN ha)) rd_notN
theorem et_isN {j pos'} (ha : PE X a (tE X.K f)) : PT X (.Compare a [.Is] [.Constant .none j pos'] pos) (tT X.K (tBl (eUn dIsN f))) := pt_of (pt_cmp (pc_isN ha)) (rd_blB rd_isN)
theorem et_notN {j pos'} (ha : PE X a (tE X.K f)) : PT X (.Compare a [.IsNot] [.Constant .none j pos'] pos) (tT X.K (tBl (eUn dNotN f))) := pt_of (pt_cmp (pc_notN ha)) (rd_blB rd_notN)
theorem us_neg {K : PySem.W.Frag} : UnS K (rU fun i => .int (-i)) dNeg := by
  intro c ρ σ H v1 x d Q R r1 ho q
  unfold dNeg at ho
  split at ho
  · cases ho
    cases r1
    exact ⟨_, rfl, os_same R q (.int _)⟩
  · cases ho
/-- an item -/
theorem ix_at {xs : List PyData} {vs : List V} {i : Int} {d : PyData} {K : PySem.W.Frag} {A : Addr → Prop} {H : Hp} (r : RpA K A H vs xs) (h : atD xs i = some d) : ∃ v, atI vs i = some v ∧ Rp K A H v d := by
  unfold atD at h
  unfold atI
  rw [r.length]
  cases e : ixOf xs.length i with
  | none => rw [e] at h; cases h
  | some j =>
    rw [e] at h
    have e' : ixN xs.length i = some j := e
    rw [e']
    exact r.get h
theorem os_ix {K : PySem.W.Frag} : OpS K (rIx K) dIx := by
  intro c ρ σ H v1 v2 x y d Q R r1 r2 ho q
  unfold dIx at ho
  split at ho
  · cases r2
    cases r1 with
    | lst l a =>
      obtain ⟨v, h1, h2⟩ := ix_at a ho
      exact .inl ⟨_, _, _, v, rfl, rfl, l.sq, h1, os_same R q h2⟩
  · cases r2
    cases r1 with
    | tup l a =>
      obtain ⟨v, h1, h2⟩ := ix_at a ho
      exact .inr (.inl ⟨_, _, _, v, rfl, rfl, l.sq, h1, os_same R q h2⟩)
  · cases r2
    cases r1 with
    | ro l a =>
      obtain ⟨v, h1, h2⟩ := ix_at (K := K) (A := Av c ρ σ) (H := H) a.rp ho
      exact .inl ⟨_, _, _, v, rfl, rfl, l.sq, h1, os_same R q h2⟩
  · cases ho
end
end PG
end
section
set_option Elab.async false
set_option linter.all false
set_option maxRecDepth 100000
namespace PG
open PySem PySem.Spec PyProof.Rows L2

section
variable {K : PySem.W.Frag} {c : Act K} {ρ ρ' : Rho} {σ σ' : L2.St} {H H' : Hp}
theorem setV_inv {i : Nat} {d : PyData} (h : setV i d ρ = some ρ') : i < ρ.length ∧ (∀ ds, ρ[i]? ≠ some (some (.l true ds))) ∧ ρ' = ρ.set i (some (.v d)) := by
  unfold setV at h
  split at h
  · cases h
  · cases h
  · rename_i h1 h2
    cases h
    refine ⟨?_, fun ds z => h2 ds z, rfl⟩
    rcases Nat.lt_or_ge i ρ.length with h3 | h3
    · exact h3
    · exact absurd (List.getElem?_eq_none h3) h1
theorem setL_inv {i : Nat} {d : List PyData} (h : setL i d ρ = some ρ') : i < ρ.length ∧ (∀ ds, ρ[i]? ≠ some (some (.l true ds))) ∧ ρ' = ρ.set i (some (.l false d)) := by
  unfold setL at h
  split at h
  · cases h
  · cases h
  · rename_i h1 h2
    cases h
    refine ⟨?_, fun ds z => h2 ds z, rfl⟩
    rcases Nat.lt_or_ge i ρ.length with h3 | h3
    · exact h3
    · exact absurd (List.getElem?_eq_none h3) h1
theorem Rel.assign (R : Rel K c ρ σ H) {i : Nat} {d : PyData} {v : V} (h : setV i d ρ = some ρ') (r : Rp K (Av c ρ σ) H v d) :
    Rel K c ρ' (σ.set i (some v)) H ∧ Stp c ρ σ H ρ' (σ.set i (some v)) H := by
  obtain ⟨hl, np, rfl⟩ := setV_inv h
  have hl' : i < σ.length := by rw [← R.len]; exact hl
  have gs : ∀ j, (ρ.set i (some (Cell.v d)))[j]? = if i = j then some (some (Cell.v d)) else ρ[j]? := fun j => get_set hl
  have gv : ∀ j, (σ.set i (some v))[j]? = if i = j then some (some v) else σ[j]? := fun j => get_set hl'
  have own : ∀ b, Own (ρ.set i (some (.v d))) (σ.set i (some v)) b → Own ρ σ b := fun b ⟨j, q, es, h1, h2⟩ => by
    rw [gs] at h1
    rw [gv] at h2
    by_cases e : i = j
    · rw [if_pos e] at h1; cases h1
    · rw [if_neg e] at h1 h2; exact ⟨j, q, es, h1, h2⟩
  have mv : Stp c ρ σ H (ρ.set i (some (.v d))) (σ.set i (some v)) H := fun b o e n => ⟨e, fun z => n (z.elim .inl fun x => .inr (own b x))⟩
  refine ⟨⟨by rw [List.length_set, List.length_set]; exact R.len, fun j d' e => ?_, fun j q es e => ?_, fun j k q q' es es' b h1 h2 h3 h4 => ?_, fun j b => ?_, R.pA, R.old, R.av⟩, mv⟩
  · rw [gs] at e
    rw [gv]
    by_cases e1 : i = j
    · rw [if_pos e1] at e
      cases e
      exact ⟨v, by rw [if_pos e1], r.mv mv⟩
    · rw [if_neg e1] at e
      obtain ⟨u, h1, h2⟩ := R.val j d' e
      exact ⟨u, by rw [if_neg e1]; exact h1, h2.mv mv⟩
  · rw [gs] at e
    rw [gv]
    by_cases e1 : i = j
    · rw [if_pos e1] at e; cases e
    · rw [if_neg e1] at e
      obtain ⟨b, vs, h1, h2, h3, h4⟩ := R.lst j q es e
      exact ⟨b, vs, by rw [if_neg e1]; exact h1, h2, h3.mv mv, h4⟩
  · rw [gs] at h1 h2
    rw [gv] at h3 h4
    by_cases e1 : i = j
    · rw [if_pos e1] at h1; cases h1
    · by_cases e2 : i = k
      · rw [if_pos e2] at h2; cases h2
      · rw [if_neg e1] at h1 h3
        rw [if_neg e2] at h2 h4
        exact R.dis j k q q' es es' b h1 h2 h3 h4
  · rw [R.pin, gs, gv]
    by_cases e : i = j
    · subst e
      rw [if_pos rfl, if_pos rfl]
      constructor
      · rintro ⟨es, h1, h2⟩; exact absurd h1 (np es)
      · rintro ⟨es, h1, h2⟩; cases h1
    · rw [if_neg e, if_neg e]
theorem Rel.assignL {a : Addr} (R : Rel K (c.plus a) ρ σ H) {i : Nat} {ds : List PyData} {vs : List V} (h : setL i ds ρ = some ρ') (ha : H a = some (.lst vs)) (r : RpA K (Av (c.plus a) ρ σ) H vs ds)
    (h0 : c.H0 a = none) (na : ¬ Av c ρ σ a) (pA : ∀ i a, c.pn i = some a → c.A a) :
    Rel K c ρ' (σ.set i (some (.ref a))) H ∧ Mv (Av (c.plus a) ρ σ) H (Av c ρ' (σ.set i (some (.ref a)))) H := by
  obtain ⟨hl, np, rfl⟩ := setL_inv h
  have hl' : i < σ.length := by rw [← R.len]; exact hl
  have gs : ∀ j, (ρ.set i (some (Cell.l false ds)))[j]? = if i = j then some (some (Cell.l false ds)) else ρ[j]? := fun j => get_set hl
  have gv : ∀ j, (σ.set i (some (V.ref a)))[j]? = if i = j then some (some (V.ref a)) else σ[j]? := fun j => get_set hl'
  have own : ∀ b, Own (ρ.set i (some (.l false ds))) (σ.set i (some (.ref a))) b → b = a ∨ Own ρ σ b := fun b ⟨j, q, es, h1, h2⟩ => by
    rw [gs] at h1
    rw [gv] at h2
    by_cases e : i = j
    · rw [if_pos e] at h2; cases h2; exact .inl rfl
    · rw [if_neg e] at h1 h2; exact .inr ⟨j, q, es, h1, h2⟩
  have mv : Mv (Av (c.plus a) ρ σ) H (Av c (ρ.set i (some (.l false ds))) (σ.set i (some (.ref a)))) H := fun b o e n => ⟨e, fun z => n (z.elim (fun x => .inl (.inl x)) fun x => (own b x).elim (fun w => .inl (.inr w)) .inr)⟩
  have nown : ∀ (j : Nat) (q : Bool) (es : List PyData), ρ[j]? = some (some (.l q es)) → σ[j]? ≠ some (some (.ref a)) := fun j q es h1 h2 => na (.inr ⟨j, q, es, h1, h2⟩)
  refine ⟨⟨by rw [List.length_set, List.length_set]; exact R.len, fun j d' e => ?_, fun j q es e => ?_, fun j k q q' es es' b h1 h2 h3 h4 => ?_, fun j b => ?_, pA, R.old, fun b z => R.av b (.inl z)⟩, mv⟩
  · rw [gs] at e
    rw [gv]
    by_cases e1 : i = j
    · rw [if_pos e1] at e; cases e
    · rw [if_neg e1] at e
      obtain ⟨u, h1, h2⟩ := R.val j d' e
      exact ⟨u, by rw [if_neg e1]; exact h1, h2.mv mv⟩
  · rw [gs] at e
    rw [gv]
    by_cases e1 : i = j
    · rw [if_pos e1] at e
      cases e
      exact ⟨a, vs, by rw [if_pos e1], ha, r.mv mv, fun _ => ⟨h0, fun z => na (.inl z)⟩⟩
    · rw [if_neg e1] at e
      obtain ⟨b, vs, h1, h2, h3, h4⟩ := R.lst j q es e
      exact ⟨b, vs, by rw [if_neg e1]; exact h1, h2, h3.mv mv, fun z => ⟨(h4 z).1, fun y => (h4 z).2 (.inl y)⟩⟩
  · rw [gs] at h1 h2
    rw [gv] at h3 h4
    by_cases e1 : i = j
    · by_cases e2 : i = k
      · omega
      · rw [if_neg e2] at h2 h4
        rw [if_pos e1] at h3
        cases h3
        exact absurd h4 (nown k q' es' h2)
    · rw [if_neg e1] at h1 h3
      by_cases e2 : i = k
      · rw [if_pos e2] at h4
        cases h4
        exact absurd h3 (nown j q es h1)
      · rw [if_neg e2] at h2 h4
        exact R.dis j k q q' es es' b h1 h2 h3 h4
  · rw [show c.pn j = some b ↔ _ from R.pin j b, gs, gv]
    by_cases e : i = j
    · subst e
      rw [if_pos rfl, if_pos rfl]
      constructor
      · rintro ⟨es, h1, h2⟩; exact absurd h1 (np es)
      · rintro ⟨es, h1, h2⟩; cases h1
    · rw [if_neg e, if_neg e]
end

section
variable {X : Cx} {e a b : Expr} {pos : Pos} {f g h : EF} {tf tg : TF} {n m : NF} {es : List Expr}
/-! ### argument lists, displays -/
theorem so {α β : Type} {a c : α} {b d : β} (h : some (a, b) = some (c, d)) : a = c ∧ b = d := by
  cases h; exact ⟨rfl, rfl⟩
theorem ea_nil : PA X [] (tA X.K nNil) := pa_of pa_nil fun σ H Q ⟨c, ρ, ds, ρ', R, e, q⟩ => by
  cases e
  exact q [] H R .nil Mv.refl
theorem ncons_inv {ρ ρ' : Rho} {ds : List PyData} (h : nCons f n ρ = some (ds, ρ')) : ∃ x ρ1 xs, f ρ = some (x, ρ1) ∧ n ρ1 = some (xs, ρ') ∧ ds = x :: xs := by
  unfold nCons at h
  split at h
  · rename_i x ρ1 h1
    split at h
    · rename_i xs ρ2 h2
      cases h
      exact ⟨x, ρ1, xs, h1, h2, rfl⟩
    · cases h
  · cases h
theorem ea_cons (ha : PE X a (tE X.K f)) (hr : PA X es (tA X.K n)) (hs : starEach (a :: es) X.env = (false, eval a X.env) :: starEach es X.env := by rfl) : PA X (a :: es) (tA X.K (nCons f n)) :=
  pa_of (pa_cons ha hr hs) fun σ H Q ⟨c, ρ, ds, ρ', R, e, q⟩ => by
    obtain ⟨x, ρ1, xs, h1, h2, rfl⟩ := ncons_inv e
    exact ⟨c, ρ, x, ρ1, R, h1, fun v H1 R1 r1 m1 => ⟨c, ρ1, xs, ρ', R1, h2, fun vs H2 R2 r2 m2 => q _ H2 R2 (.cons (r1.mv m2) r2) (m1.trans m2)⟩⟩
theorem ev_tup {x1} (h : PA X es (tA X.K n)) : PE X (.Tuple es x1 pos) (tE X.K (eTup n)) := pe_of (pe_tup h) fun σ H Q ⟨c, ρ, d, ρ', R, e, q⟩ => by
  unfold eTup at e
  split at e
  · rename_i xs ρ1 h1
    split at e
    · rename_i hl
      obtain ⟨e1, e2⟩ := so e
      subst e1 e2
      refine ⟨c, ρ, xs, ρ1, R, h1, fun vs H1 R1 r1 m1 => ⟨by rw [r1.length, sl16]; exact hl, fun p hp => ?_⟩⟩
      exact q _ _ (R1.alloc hp).1 (R1.newTup hp r1) (m1.trans (R1.mvG (kp_upd hp)))
    · cases e
  · cases e
theorem avOf {K : PySem.W.Frag} {c : Act K} {ρ ρ' : Rho} {σ σ' : L2.St} {H H' : Hp} {p : Addr} (m : Stp c ρ σ H ρ' σ' H') (hp : H' p = none) : ¬ Av c ρ σ p → H p = none := fun n => by
  cases e : H p with
  | none => rfl
  | some o => rw [(m p o e n).1] at hp; cases hp
theorem en_lst (h : PA X es (tA X.K n)) : PE X (.List es pos) (tN X.K (nDisp n)) := pe_of (pe_lst h) fun σ H Q ⟨c, ρ, ds, ρ', R, e, q⟩ => by
  unfold nDisp at e
  split at e
  · rename_i xs ρ1 h1
    split at e
    · rename_i hl
      obtain ⟨e1, e2⟩ := so e
      subst e1 e2
      refine ⟨c, ρ, xs, ρ1, R, h1, fun vs H1 R1 r1 m1 => ⟨by rw [r1.length, sl16]; exact hl, fun p hp => ?_⟩⟩
      exact q p vs _ (R1.plus hp (kp_upd hp) (by rw [upd_same]; exact fun z => nomatch z)) upd_same (r1.mv (R1.mvP hp (kp_upd hp))) (R1.noAv hp) (R1.fresh0 hp) (avOf (K := X.K) m1 hp) (m1.trans (R1.mvG (kp_upd hp)))
    · cases e
  · cases e
/-- a new list, as a value -/
theorem ev_new (h : PE X e (tN X.K n)) : PE X e (tE X.K (eLst n)) := pe_of h fun σ H Q ⟨c, ρ, d, ρ', R, e, q⟩ => by
  unfold eLst at e
  split at e
  · rename_i xs ρ1 h1
    obtain ⟨e1, e2⟩ := so e
    subst e1 e2
    refine ⟨c, ρ, xs, ρ1, R, h1, fun a vs H' R' ha r' na h0 nw m => ?_⟩
    have R2 := R'.unplus R.pA
    exact q _ _ R2 (.lst ⟨ha, na⟩ (r'.mv mv_unplus)) m
  · cases e

/-! ### calls -/
def spP (K : PySem.W.Frag) (k : Nat) (F : List PyData → Option PyData) : Sp := fun vs H Q _ => vs.length = k ∧ TsOk K H ∧ ∃ (A : Addr → Prop) (ds : List PyData) (r : PyData), RpA K A H vs ds ∧ (∀ a, A a → H a ≠ none) ∧ F ds = some r ∧
  ∀ v H', (∀ a o, H a = some o → H' a = some o) → Rp K A H' v r → Q v H'
def spN (K : PySem.W.Frag) (k : Nat) (F : List PyData → Option (List PyData)) : Sp := fun vs H Q _ => vs.length = k ∧ TsOk K H ∧ ∃ (A : Addr → Prop) (ds : List PyData) (r : List PyData), RpA K A H vs ds ∧ (∀ a, A a → H a ≠ none) ∧ F ds = some r ∧
  ∀ a us H', (∀ a o, H a = some o → H' a = some o) → H a = none → H' a = some (.lst us) → RpA K (fun b => A b ∨ b = a) H' us r → Q (.ref a) H'
def spL (K : PySem.W.Frag) (k : Nat) (F : List PyData → List PyData → Option (PyData × List PyData)) : Sp := fun vs H Q _ => vs.length = k + 1 ∧ TsOk K H ∧ ∃ (A : Addr → Prop) (a : Addr) (us ws : List V) (ps ds : List PyData) (r : PyData) (ps' : List PyData),
  vs = .ref a :: ws ∧ H a = some (.lst us) ∧ RpA K A H us ps ∧ A a ∧ RpA K A H ws ds ∧ (∀ a, A a → H a ≠ none) ∧ F ps ds = some (r, ps') ∧
  ∀ v H' us', (∀ b o, b ≠ a → H b = some o → H' b = some o) → H' a = some (.lst us') → RpA K A H' us' ps' → Rp K A H' v r → Q v H'
variable {F1 : List PyData → Option PyData} {F2 : List PyData → Option (List PyData)} {F3 : List PyData → List PyData → Option (PyData × List PyData)} {k j : Nat} {fa : Addr} {fd : FuncData} {ps : List Str} {x : Str} {p : Pos}
theorem rd_call {E : XK} (hk : ∀ ρ ds ρ', n ρ = some (ds, ρ') → ds.length = k) : ∀ σ H Q, tE X.K (eCall F1 n) σ H Q → tCall (spP X.K k F1) [] E (tA X.K n) σ H Q := fun σ H Q ⟨c, ρ, d, ρ', R, e, q⟩ => by
  unfold eCall at e
  split at e
  · rename_i xs ρ1 h1
    split at e
    · rename_i z h2
      obtain ⟨e1, e2⟩ := so e
      subst e1 e2
      refine ⟨c, ρ, xs, ρ1, R, h1, fun vs H1 R1 r1 m1 => ?_⟩
      show spP X.K k F1 (vs ++ []) H1 Q E
      rw [List.append_nil]
      refine ⟨by rw [r1.length]; exact hk _ _ _ h1, R1.ts, Av c ρ1 σ, xs, z, r1, fun a ha => R1.avS ha, h2, fun v H' kp r => ?_⟩
      exact q v H' (R1.grow kp) r (m1.trans (R1.mvG kp))
    · cases e
  · cases e
theorem ev_call (F : FnOk X.prog X.w X.K X.mg X.base CX0 j fa fd ps (spP X.K k F1)) (hr : Room j X.A) (hg : Gl X x) (hm : X.mg x = some (.ref fa)) (hkp : PySem.W.keepIn X.K (.ref fa) = true) (hb : L2.Binds X.K fd ps [])
    (ha : PA X (e :: es) (tA X.K n)) (hk : ∀ ρ ds ρ', n ρ = some (ds, ρ') → ds.length = k) (hdb : (x == ("__debug__" : Str)) = false := by decide) (he : starEach (e :: es) X.env = (false, eval e X.env) :: starEach es X.env := by rfl) (hpl : (backTo pos (starEach es X.env)).any (·.1) = false := by rfl) :
    PE X (.Call (.Name x p) (e :: es) [] pos) (tE X.K (eCall F1 n)) :=
  pe_of (pe_call F hr hg hm hkp hb .nil pass0 ha hdb he hpl) (rd_call hk)
theorem ev_call0 (F : FnOk X.prog X.w X.K X.mg X.base CX0 j fa fd ps (spP X.K 0 F1)) (hr : Room j X.A) (hg : Gl X x) (hm : X.mg x = some (.ref fa)) (hkp : PySem.W.keepIn X.K (.ref fa) = true) (hb : L2.Binds X.K fd ps [])
    (hdb : (x == ("__debug__" : Str)) = false := by decide) : PE X (.Call (.Name x p) [] [] pos) (tE X.K (eCall F1 nNil)) :=
  pe_of (pe_call0 F hr hg hm hkp hb .nil pass0 hdb) fun σ H Q ⟨c, ρ, d, ρ', R, e, q⟩ => by
    unfold eCall nNil at e
    simp only at e
    split at e
    · rename_i z h2
      obtain ⟨e1, e2⟩ := so e
      subst e1 e2
      exact ⟨rfl, R.ts, Av c ρ σ, [], z, .nil, fun a ha => R.avS ha, h2, fun v H' kp r => q v H' (R.grow kp) r (R.mvG kp)⟩
    · cases e
theorem en_call (F : FnOk X.prog X.w X.K X.mg X.base CX0 j fa fd ps (spN X.K k F2)) (hr : Room j X.A) (hg : Gl X x) (hm : X.mg x = some (.ref fa)) (hkp : PySem.W.keepIn X.K (.ref fa) = true) (hb : L2.Binds X.K fd ps [])
    (ha : PA X (e :: es) (tA X.K n)) (hk : ∀ ρ ds ρ', n ρ = some (ds, ρ') → ds.length = k) (hdb : (x == ("__debug__" : Str)) = false := by decide) (he : starEach (e :: es) X.env = (false, eval e X.env) :: starEach es X.env := by rfl) (hpl : (backTo pos (starEach es X.env)).any (·.1) = false := by rfl) :
    PE X (.Call (.Name x p) (e :: es) [] pos) (tN X.K (nCall F2 n)) :=
  pe_of (pe_call F hr hg hm hkp hb .nil pass0 ha hdb he hpl) fun σ H Q ⟨c, ρ, d, ρ', R, e, q⟩ => by
    unfold nCall at e
    split at e
    · rename_i xs ρ1 h1
      split at e
      · rename_i z h2
        obtain ⟨e1, e2⟩ := so e
        subst e1 e2
        refine ⟨c, ρ, xs, ρ1, R, h1, fun vs H1 R1 r1 m1 => ?_⟩
        show spN X.K k F2 (vs ++ []) H1 Q E0
        rw [List.append_nil]
        refine ⟨by rw [r1.length]; exact hk _ _ _ h1, R1.ts, Av c ρ1 σ, xs, z, r1, fun a ha => R1.avS ha, h2, fun a us H' kp hn hl r => ?_⟩
        refine q a us H' (R1.plus hn kp (by rw [hl]; exact fun z => nomatch z)) hl (r.mv fun b o e n => ⟨e, fun z => n ?_⟩) (R1.noAv hn) (R1.fresh0 hn) (avOf (K := X.K) m1 hn) (m1.trans (R1.mvG kp))
        rcases z with (z | z) | z
        · exact .inl (.inl z)
        · exact .inr z
        · exact .inl (.inr z)
      · cases e
    · cases e
theorem callL_inv {i : Nat} {ρ ρ' : Rho} {d : PyData} (e : eCallL F3 i n ρ = some (d, ρ')) : ∃ p0 l0 xs ρ1 pp pl ps', ρ[i]? = some (some (.l p0 l0)) ∧ n ρ = some (xs, ρ1) ∧ ρ1[i]? = some (some (.l pp pl)) ∧ F3 pl xs = some (d, ps') ∧ ρ' = ρ1.set i (some (.l pp ps')) := by
  unfold eCallL at e
  split at e
  · rename_i p0 l0 h0
    split at e
    · rename_i xs ρ1 h1
      split at e
      · rename_i pp pl h2
        split at e
        · rename_i z ps' h3
          obtain ⟨e1, e2⟩ := so e
          subst e1 e2
          exact ⟨p0, l0, xs, ρ1, pp, pl, ps', h0, h1, h2, h3, rfl⟩
        · cases e
      · cases e
    · cases e
  · cases e
/-- f(pool, ..): the owned list at slot i may change -/
theorem rd_callL {i : Nat} {E : XK} (hk : ∀ ρ ds ρ', n ρ = some (ds, ρ') → ds.length = k) : ∀ σ H Q, tE X.K (eCallL F3 i n) σ H Q → tCall (spL X.K k F3) [] E (tCons (tVar i) (tA X.K n)) σ H Q := fun σ H Q ⟨c, ρ, d, ρ', R, e, q⟩ => by
  obtain ⟨p0, l0, xs, ρ1, pp, pl, ps', h0, h1, h2, h3, rfl⟩ := callL_inv e
  obtain ⟨a, us0, g1, _⟩ := R.lst i p0 l0 h0
  refine ⟨.ref a, g1, c, ρ, xs, ρ1, R, h1, fun vs H1 R1 r1 m1 => ?_⟩
  obtain ⟨a', us, g1', g2, g3, _⟩ := R1.lst i pp pl h2
  rw [g1] at g1'
  cases g1'
  show spL X.K k F3 (.ref a :: vs ++ []) H1 Q E
  rw [List.append_nil]
  refine ⟨by rw [List.length_cons, r1.length, hk _ _ _ h1], R1.ts, Av c ρ1 σ, a, us, vs, pl, xs, d, ps', rfl, g2, g3, .inr ⟨i, pp, pl, h2, g1⟩, r1, fun b hb => R1.avS hb, h3, fun v H' us' kp hl r2 r3 => ?_⟩
  obtain ⟨R2, m2⟩ := R1.write h2 g1 hl kp r2
  have m3 : Mv (Av c ρ1 σ) H' (Av c (ρ1.set i (some (.l pp ps'))) σ) H' := fun b o e n => ⟨e, fun z => n (z.elim .inl fun ⟨jj, q', es', w1, w2⟩ => .inr (by
    rw [get_set (lt_of_get h2)] at w1
    by_cases ee : i = jj
    · subst ee; exact ⟨i, pp, pl, h2, w2⟩
    · rw [if_neg ee] at w1; exact ⟨jj, q', es', w1, w2⟩))⟩
  exact q v H' R2 (r3.mv m3) (m1.trans m2)
theorem ev_callL {i : Nat} (F : FnOk X.prog X.w X.K X.mg X.base CX0 j fa fd ps (spL X.K k F3)) (hr : Room j X.A) (hg : Gl X x) (hm : X.mg x = some (.ref fa)) (hkp : PySem.W.keepIn X.K (.ref fa) = true) (hb : L2.Binds X.K fd ps [])
    (hv : PE X e (tVar i)) (ha : PA X es (tA X.K n)) (hk : ∀ ρ ds ρ', n ρ = some (ds, ρ') → ds.length = k) (hdb : (x == ("__debug__" : Str)) = false := by decide) (he : starEach (e :: es) X.env = (false, eval e X.env) :: starEach es X.env := by rfl) (hpl : (backTo pos (starEach es X.env)).any (·.1) = false := by rfl) :
    PE X (.Call (.Name x p) (e :: es) [] pos) (tE X.K (eCallL F3 i n)) :=
  pe_of (pe_call F hr hg hm hkp hb .nil pass0 (pa_cons hv ha he) hdb he hpl) (rd_callL hk)
theorem nlen_nil : ∀ ρ ds ρ', nNil ρ = some (ds, ρ') → ds.length = 0 := fun ρ ds ρ' h => by cases h; rfl
theorem nlen_cons (h : ∀ ρ ds ρ', n ρ = some (ds, ρ') → ds.length = k) : ∀ ρ ds ρ', nCons f n ρ = some (ds, ρ') → ds.length = k + 1 := fun ρ ds ρ' e => by
  obtain ⟨x, ρ1, xs, h1, h2, rfl⟩ := ncons_inv e
  rw [List.length_cons, h _ _ _ h2]
end
end PG
end
section
set_option Elab.async false
set_option linter.all false
set_option maxRecDepth 100000
namespace PG
open PySem PySem.Spec PyProof.Rows L2
section
variable {X : Cx} {e a b : Expr} {pos : Pos} {f g h : EF} {tf tg : TF} {n m : NF} {es : List Expr}
/-! ### tests -/
theorem tru_of {K : PySem.W.Frag} {A : Addr → Prop} {H : Hp} {v : V} {d : PyData} {k : Bool} (r : Rp K A H v d) (h : truth d = some k) : TruV K v H k := by
  cases r with
  | non => cases h; rfl
  | bl b => cases h; rfl
  | int i => cases h; rfl
  | str x =>
    unfold truth at h
    simp only at h
    split at h
    · rename_i hl
      cases h
      exact ⟨by rw [sl16]; exact hl, rfl⟩
    · cases h
  | @lst p xs ds l r =>
    cases h
    refine .inl ⟨xs, l.sq, ?_⟩
    cases r <;> rfl
  | @tup p xs ds l r =>
    cases h
    refine .inr (.inl ⟨xs, l.sq, ?_⟩)
    cases r <;> rfl
  | ro => cases h
theorem tru_inv {ρ ρ' : Rho} {b : Bool} (h : tTru f ρ = some (b, ρ')) : ∃ x, f ρ = some (x, ρ') ∧ truth x = some b := by
  unfold tTru at h
  split at h
  · rename_i x ρ1 h1
    split at h
    · rename_i b' h2
      obtain ⟨e1, e2⟩ := so h
      subst e1 e2
      exact ⟨x, h1, h2⟩
    · cases h
  · cases h
theorem et_tru (ha : PE X a (tE X.K f)) (he : ∀ whole, isTrue a X.env whole = (do let v ← whole; standAt a.pos; holding [v] (truthy v)) := by intro _; rfl) : PT X a (tT X.K (tTru f)) :=
  pt_of (pt_truth ha he) fun σ H Q ⟨c, ρ, d, ρ', R, e, q⟩ => by
    obtain ⟨x, h1, h2⟩ := tru_inv e
    exact ⟨c, ρ, x, ρ', R, h1, fun v H' R' r' m => ⟨d, tru_of r' h2, q H' R' m⟩⟩
theorem tnot_inv {ρ ρ' : Rho} {b : Bool} (h : tNot' tf ρ = some (b, ρ')) : ∃ b', tf ρ = some (b', ρ') ∧ b = !b' := by
  unfold tNot' at h
  split at h
  · rename_i b' ρ1 h1
    obtain ⟨e1, e2⟩ := so h
    subst e2
    exact ⟨b', h1, e1.symm⟩
  · cases h
theorem et_not (ha : PT X a (tT X.K tf)) : PT X (.UnaryOp .Not a pos) (tT X.K (tNot' tf)) := pt_of (pt_not ha) fun σ H Q ⟨c, ρ, d, ρ', R, e, q⟩ => by
  obtain ⟨b', h1, rfl⟩ := tnot_inv e
  exact ⟨c, ρ, b', ρ', R, h1, fun H' R' m => q H' R' m⟩
theorem rd_and {K : PySem.W.Frag} : ∀ σ H Q, tT K (tAnd' tf tg) σ H Q → tAnd (tT K tf) (tT K tg) σ H Q := fun σ H Q ⟨c, ρ, d, ρ', R, e, q⟩ => by
  unfold tAnd' at e
  split at e
  · rename_i ρ1 h1
    exact ⟨c, ρ, true, ρ1, R, h1, fun H' R' m => iteT ⟨c, ρ1, d, ρ', R', e, fun H2 R2 m2 => q H2 R2 (m.trans m2)⟩⟩
  · rename_i ρ1 h1
    obtain ⟨e1, e2⟩ := so e
    subst e1 e2
    exact ⟨c, ρ, false, ρ1, R, h1, fun H' R' m => iteF (q H' R' m)⟩
  · cases e
theorem rd_or {K : PySem.W.Frag} : ∀ σ H Q, tT K (tOr' tf tg) σ H Q → tOr (tT K tf) (tT K tg) σ H Q := fun σ H Q ⟨c, ρ, d, ρ', R, e, q⟩ => by
  unfold tOr' at e
  split at e
  · rename_i ρ1 h1
    obtain ⟨e1, e2⟩ := so e
    subst e1 e2
    exact ⟨c, ρ, true, ρ1, R, h1, fun H' R' m => iteT (q H' R' m)⟩
  · rename_i ρ1 h1
    exact ⟨c, ρ, false, ρ1, R, h1, fun H' R' m => iteF ⟨c, ρ1, d, ρ', R', e, fun H2 R2 m2 => q H2 R2 (m.trans m2)⟩⟩
  · cases e
theorem ew_and1 (ha : PT X a (tT X.K tf)) : PW X (.BoolOp .And [a] pos) (tT X.K tf) := pw_and1 ha
theorem ew_or1 (ha : PT X a (tT X.K tf)) : PW X (.BoolOp .Or [a] pos) (tT X.K tf) := pw_or1 ha
theorem ew_and {rest : List Expr} (ha : PT X a (tT X.K tf)) (hb : PW X (.BoolOp .And (b :: rest) pos) (tT X.K tg)) : PW X (.BoolOp .And (a :: b :: rest) pos) (tT X.K (tAnd' tf tg)) := pw_of (pw_and ha hb) rd_and
theorem ew_or {rest : List Expr} (ha : PT X a (tT X.K tf)) (hb : PW X (.BoolOp .Or (b :: rest) pos) (tT X.K tg)) : PW X (.BoolOp .Or (a :: b :: rest) pos) (tT X.K (tOr' tf tg)) := pw_of (pw_or ha hb) rd_or
/-- and, or, not as values -/
theorem ev_one {op} (ha : PE X a (tE X.K f)) : PE X (.BoolOp op [a] pos) (tE X.K f) := pe_one ha
theorem ev_and {rest : List Expr} (ha : PE X a (tE X.K f)) (hb : PE X (.BoolOp .And (b :: rest) pos) (tE X.K g)) : PE X (.BoolOp .And (a :: b :: rest) pos) (tE X.K (eAnd f g)) :=
  pe_of (pe_andT ha hb) fun σ H Q ⟨c, ρ, d, ρ', R, e, q⟩ => by
    unfold eAnd at e
    split at e
    · rename_i x ρ1 h1
      split at e
      · rename_i h2
        exact ⟨c, ρ, x, ρ1, R, h1, fun v H' R' r' m => ⟨true, tru_of r' h2, iteT ⟨c, ρ1, d, ρ', R', e, fun v2 H2 R2 r2 m2 => q v2 H2 R2 r2 (m.trans m2)⟩⟩⟩
      · rename_i h2
        obtain ⟨e1, e2⟩ := so e
        subst e1 e2
        exact ⟨c, ρ, x, ρ1, R, h1, fun v H' R' r' m => ⟨false, tru_of r' h2, iteF (q v H' R' r' m)⟩⟩
      · cases e
    · cases e
theorem ev_or {rest : List Expr} (ha : PE X a (tE X.K f)) (hb : PE X (.BoolOp .Or (b :: rest) pos) (tE X.K g)) : PE X (.BoolOp .Or (a :: b :: rest) pos) (tE X.K (eOr f g)) :=
  pe_of (pe_orT ha hb) fun σ H Q ⟨c, ρ, d, ρ', R, e, q⟩ => by
    unfold eOr at e
    split at e
    · rename_i x ρ1 h1
      split at e
      · rename_i h2
        obtain ⟨e1, e2⟩ := so e
        subst e1 e2
        exact ⟨c, ρ, x, ρ1, R, h1, fun v H' R' r' m => ⟨true, tru_of r' h2, iteT (q v H' R' r' m)⟩⟩
      · rename_i h2
        exact ⟨c, ρ, x, ρ1, R, h1, fun v H' R' r' m => ⟨false, tru_of r' h2, iteF ⟨c, ρ1, d, ρ', R', e, fun v2 H2 R2 r2 m2 => q v2 H2 R2 r2 (m.trans m2)⟩⟩⟩
      · cases e
    · cases e
theorem ev_not (ha : PE X a (tE X.K f)) : PE X (.UnaryOp .Not a pos) (tE X.K (eNot f)) := pe_of (pe_notT ha) fun σ H Q ⟨c, ρ, d, ρ', R, e, q⟩ => by
  unfold eNot at e
  split at e
  · rename_i x ρ1 h1
    split at e
    · rename_i k h2
      obtain ⟨e1, e2⟩ := so e
      subst e1 e2
      exact ⟨c, ρ, x, ρ1, R, h1, fun v H' R' r' m => ⟨k, tru_of r' h2, q _ H' R' (.bl _) m⟩⟩
    · cases e
  · cases e
theorem ev_if {cnd : Expr} (hc : PT X cnd (tT X.K tf)) (ha : PE X a (tE X.K f)) (hb : PE X b (tE X.K g)) : PE X (.IfExp cnd a b pos) (tE X.K (eIf tf f g)) := pe_of (pe_ifExp hc ha hb) fun σ H Q ⟨c, ρ, d, ρ', R, e, q⟩ => by
  unfold eIf at e
  split at e
  · rename_i ρ1 h1
    exact ⟨c, ρ, true, ρ1, R, h1, fun H' R' m => iteT ⟨c, ρ1, d, ρ', R', e, fun v2 H2 R2 r2 m2 => q v2 H2 R2 r2 (m.trans m2)⟩⟩
  · rename_i ρ1 h1
    exact ⟨c, ρ, false, ρ1, R, h1, fun H' R' m => iteF ⟨c, ρ1, d, ρ', R', e, fun v2 H2 R2 r2 m2 => q v2 H2 R2 r2 (m.trans m2)⟩⟩
  · cases e
theorem chain_inv {o o' : PyData → PyData → Option PyData} {ρ ρ' : Rho} {d : PyData} (e : eChain o o' f g h ρ = some (d, ρ')) : ∃ x ρ1 y ρ2 k, f ρ = some (x, ρ1) ∧ g ρ1 = some (y, ρ2) ∧ o x y = some (.bool k) ∧
    ((k = true ∧ ∃ z b, h ρ2 = some (z, ρ') ∧ o' y z = some (.bool b) ∧ d = .bool b) ∨ (k = false ∧ d = .bool false ∧ ρ' = ρ2)) := by
  unfold eChain at e
  split at e
  · rename_i x ρ1 h1
    split at e
    · rename_i y ρ2 h2
      split at e
      · rename_i h3
        split at e
        · rename_i z ρ3 h4
          split at e
          · rename_i b h5
            obtain ⟨e1, e2⟩ := so e
            subst e1 e2
            exact ⟨x, ρ1, y, ρ2, true, h1, h2, h3, .inl ⟨rfl, z, b, h4, h5, rfl⟩⟩
          · cases e
        · cases e
      · rename_i h3
        obtain ⟨e1, e2⟩ := so e
        subst e1 e2
        exact ⟨x, ρ1, y, ρ2, false, h1, h2, h3, .inr ⟨rfl, rfl, rfl⟩⟩
      · cases e
    · cases e
  · cases e
theorem rd_chain {K : PySem.W.Frag} {r r' : R2} {o o' : PyData → PyData → Option PyData} (s : OpS K r o) (s' : OpS K r' o') : ∀ σ H Q, tE K (eChain o o' f g h) σ H Q → tChain r r' (tE K f) (tE K g) (tE K h) σ H Q := fun σ H Q ⟨c, ρ, d, ρ', R, e, q⟩ => by
  obtain ⟨x, ρ1, y, ρ2, k, h1, h2, h3, h4⟩ := chain_inv e
  refine ⟨c, ρ, x, ρ1, R, h1, fun v1 H1 R1 r1 m1 => ⟨c, ρ1, y, ρ2, R1, h2, fun v2 H2 R2 r2 m2 => ?_⟩⟩
  refine s c ρ2 σ H2 v1 v2 x y _ _ R2 (r1.mv m2) r2 h3 fun v H3 R3 r3 k3 => ?_
  cases r3
  have m3 := (m1.trans m2).trans (R2.mvG k3)
  refine ⟨k, rfl, ?_⟩
  rcases h4 with ⟨rfl, z, b, h5, h6, rfl⟩ | ⟨rfl, rfl, rfl⟩
  · rw [if_pos rfl]
    refine ⟨c, ρ2, z, ρ', R3, h5, fun v4 H4 R4 r4 m4 => ?_⟩
    exact s' c ρ' σ H4 v2 v4 y z _ _ R4 ((r2.mv (R2.mvG k3)).mv m4) r4 h6 fun v5 H5 R5 r5 k5 => q v5 H5 R5 r5 ((m3.trans m4).trans (R4.mvG k5))
  · rw [if_neg Bool.false_ne_true]
    exact q _ H3 R3 (.bl _) m3
theorem ev_chain {cx : Expr} {op op' : CmpOp} {r r' : R2} {o o' : PyData → PyData → Option PyData} (ho : OpR X (compareOp op) r) (s : OpS X.K r o) (ho' : OpR X (compareOp op') r') (s' : OpS X.K r' o') (ha : PE X a (tE X.K f)) (hb : PE X b (tE X.K g)) (hc : PE X cx (tE X.K h))
    (hm : lastMarks [op, op'] [b, cx] = false := by with_unfolding_all rfl) : PE X (.Compare a [op, op'] [b, cx] pos) (tE X.K (eChain o o' f g h)) := pe_of (pe_chain ho ho' ha hb hc hm) (rd_chain s s')
theorem et_chain {cx : Expr} {op op' : CmpOp} {r r' : R2} {o o' : PyData → PyData → Option PyData} (ho : OpR X (compareOp op) r) (s : OpS X.K r o) (ho' : OpR X (compareOp op') r') (s' : OpS X.K r' o') (ha : PE X a (tE X.K f)) (hb : PE X b (tE X.K g)) (hc : PE X cx (tE X.K h))
    (hm : lastMarks [op, op'] [b, cx] = false := by with_unfolding_all rfl) : PT X (.Compare a [op, op'] [b, cx] pos) (tT X.K (tBl (eChain o o' f g h))) := by
  refine pt_of (pt_chain ho ho' ha hb hc hm) ?_
  exact rd_bl (rd_chain s s')

/-! ### built-in functions -/
def FnS (K : PySem.W.Frag) (r : List V → Hp → VK → Prop) (o : List PyData → Option PyData) : Prop := ∀ (c : Act K) (ρ : Rho) (σ : L2.St) (H : Hp) (vs : List V) (ds : List PyData) (d : PyData) (Q : VK), Rel K c ρ σ H → RpA K (Av c ρ σ) H vs ds → o ds = some d →
  (∀ v H', Rel K c ρ σ H' → Rp K (Av c ρ σ) H' v d → (∀ a o, H a = some o → H' a = some o) → Q v H') → r vs H Q
def FnN (K : PySem.W.Frag) (r : List V → Hp → VK → Prop) (o : List PyData → Option (List PyData)) : Prop := ∀ (c : Act K) (ρ : Rho) (σ : L2.St) (H : Hp) (vs : List V) (ds ys : List PyData) (Q : VK), Rel K c ρ σ H → RpA K (Av c ρ σ) H vs ds → o ds = some ys →
  (∀ p us, H p = none → RpA K (Av c ρ σ) H us ys → Q (.ref p) (upd H p (.lst us))) → r vs H Q
theorem rd_fn {K : PySem.W.Frag} {r : List V → Hp → VK → Prop} {o : List PyData → Option PyData} (s : FnS K r o) : ∀ σ H Q, tE K (eCall o n) σ H Q → tCB r (tA K n) σ H Q := fun σ H Q ⟨c, ρ, d, ρ', R, e, q⟩ => by
  unfold eCall at e
  split at e
  · rename_i xs ρ1 h1
    split at e
    · rename_i z h2
      obtain ⟨e1, e2⟩ := so e
      subst e1 e2
      exact ⟨c, ρ, xs, ρ1, R, h1, fun vs H1 R1 r1 m1 => s c ρ1 σ H1 vs xs z Q R1 r1 h2 fun v H' R' r' k => q v H' R' r' (m1.trans (R1.mvG k))⟩
    · cases e
  · cases e
theorem rd_fnN {K : PySem.W.Frag} {r : List V → Hp → VK → Prop} {o : List PyData → Option (List PyData)} (s : FnN K r o) : ∀ σ H Q, tN K (nCall o n) σ H Q → tCB r (tA K n) σ H Q := fun σ H Q ⟨c, ρ, d, ρ', R, e, q⟩ => by
  unfold nCall at e
  split at e
  · rename_i xs ρ1 h1
    split at e
    · rename_i z h2
      obtain ⟨e1, e2⟩ := so e
      subst e1 e2
      refine ⟨c, ρ, xs, ρ1, R, h1, fun vs H1 R1 r1 m1 => s c ρ1 σ H1 vs xs z Q R1 r1 h2 fun p us hp r' => ?_⟩
      exact q p us _ (R1.plus hp (kp_upd hp) (by rw [upd_same]; exact fun z => nomatch z)) upd_same (r'.mv (R1.mvP hp (kp_upd hp))) (R1.noAv hp) (R1.fresh0 hp) (avOf (K := K) m1 hp) (m1.trans (R1.mvG (kp_upd hp)))
    · cases e
  · cases e
variable {x : Str} {p : Pos} {id : String} {r : List V → Hp → VK → Prop} {o1 : List PyData → Option PyData} {o2 : List PyData → Option (List PyData)}
theorem ev_fn (hc : CallR X (.builtin id) r) (s : FnS X.K r o1) (hg : Gl X x) (hm : X.mg x = none) (hv : bootBuiltins x = some (.builtin id)) (ha : PA X (e :: es) (tA X.K n)) (hn : x ≠ "__name__" := by decide) (hdb : (x == ("__debug__" : Str)) = false := by decide)
    (he : starEach (e :: es) X.env = (false, eval e X.env) :: starEach es X.env := by rfl) (hpl : (backTo pos (starEach es X.env)).any (·.1) = false := by rfl) : PE X (.Call (.Name x p) (e :: es) [] pos) (tE X.K (eCall o1 n)) :=
  pe_of (pe_callB hc hg hm hv ha hn hdb he hpl) (rd_fn s)
theorem ev_fnT (hc : CallR X (.type id) r) (s : FnS X.K r o1) (hg : Gl X x) (hm : X.mg x = none) (hv : bootBuiltins x = some (.type id)) (ha : PA X (e :: es) (tA X.K n)) (hn : x ≠ "__name__" := by decide) (hdb : (x == ("__debug__" : Str)) = false := by decide)
    (he : starEach (e :: es) X.env = (false, eval e X.env) :: starEach es X.env := by rfl) (hpl : (backTo pos (starEach es X.env)).any (·.1) = false := by rfl) : PE X (.Call (.Name x p) (e :: es) [] pos) (tE X.K (eCall o1 n)) :=
  pe_of (pe_callTy hc hg hm hv ha hn hdb he hpl) (rd_fn s)
theorem en_fn (hc : CallR X (.builtin id) r) (s : FnN X.K r o2) (hg : Gl X x) (hm : X.mg x = none) (hv : bootBuiltins x = some (.builtin id)) (ha : PA X (e :: es) (tA X.K n)) (hn : x ≠ "__name__" := by decide) (hdb : (x == ("__debug__" : Str)) = false := by decide)
    (he : starEach (e :: es) X.env = (false, eval e X.env) :: starEach es X.env := by rfl) (hpl : (backTo pos (starEach es X.env)).any (·.1) = false := by rfl) : PE X (.Call (.Name x p) (e :: es) [] pos) (tN X.K (nCall o2 n)) :=
  pe_of (pe_callB hc hg hm hv ha hn hdb he hpl) (rd_fnN s)
theorem en_fnT (hc : CallR X (.type id) r) (s : FnN X.K r o2) (hg : Gl X x) (hm : X.mg x = none) (hv : bootBuiltins x = some (.type id)) (ha : PA X (e :: es) (tA X.K n)) (hn : x ≠ "__name__" := by decide) (hdb : (x == ("__debug__" : Str)) = false := by decide)
    (he : starEach (e :: es) X.env = (false, eval e X.env) :: starEach es X.env := by rfl) (hpl : (backTo pos (starEach es X.env)).any (·.1) = false := by rfl) : PE X (.Call (.Name x p) (e :: es) [] pos) (tN X.K (nCall o2 n)) :=
  pe_of (pe_callTy hc hg hm hv ha hn hdb he hpl) (rd_fnN s)
@[simp] def o1of (o : PyData → Option PyData) : List PyData → Option PyData
  | [x] => o x
  | _ => none
@[simp] def o2of (o : PyData → PyData → Option PyData) : List PyData → Option PyData
  | [x, y] => o x y
  | _ => none
@[simp] def dAbs : PyData → Option PyData
  | .int i => some (.int (if i < 0 then -i else i))
  | _ => none
@[simp] def dInt : PyData → Option PyData
  | .int i => some (.int i)
  | _ => none
@[simp] def dMax := dI2 cT fun i j => .int (if j > i then j else i)
@[simp] def dMin := dI2 cT fun i j => .int (if j < i then j else i)
@[simp] def dTupOf : PyData → Option PyData
  | .list xs => some (.tuple xs)
  | .tuple xs => some (.tuple xs)
  | .dict [(.list xs, .none)] => some (.tuple xs)
  | _ => none
@[simp] def dLstOf : PyData → Option (List PyData)
  | .list xs => some xs
  | .tuple xs => some xs
  | .dict [(.list xs, .none)] => some xs
  | _ => none
@[simp] def n1of (o : PyData → Option (List PyData)) : List PyData → Option (List PyData)
  | [x] => o x
  | _ => none
theorem rpa1 {K : PySem.W.Frag} {A : Addr → Prop} {H : Hp} {vs : List V} {d : PyData} (r : RpA K A H vs [d]) : ∃ v, vs = [v] ∧ Rp K A H v d := by
  cases r with
  | cons h t => cases t; exact ⟨_, rfl, h⟩
theorem rpa2 {K : PySem.W.Frag} {A : Addr → Prop} {H : Hp} {vs : List V} {d d' : PyData} (r : RpA K A H vs [d, d']) : ∃ v v', vs = [v, v'] ∧ Rp K A H v d ∧ Rp K A H v' d' := by
  cases r with
  | cons h t =>
    obtain ⟨v', rfl, h'⟩ := rpa1 t
    exact ⟨_, v', rfl, h, h'⟩
theorem o1_inv {o : PyData → Option PyData} {ds : List PyData} {d : PyData} (h : o1of o ds = some d) : ∃ x, ds = [x] ∧ o x = some d := by
  unfold o1of at h
  split at h
  · exact ⟨_, rfl, h⟩
  · cases h
theorem o2_inv {o : PyData → PyData → Option PyData} {ds : List PyData} {d : PyData} (h : o2of o ds = some d) : ∃ x y, ds = [x, y] ∧ o x y = some d := by
  unfold o2of at h
  split at h
  · exact ⟨_, _, rfl, h⟩
  · cases h
theorem n1_inv {o : PyData → Option (List PyData)} {ds : List PyData} {d : List PyData} (h : n1of o ds = some d) : ∃ x, ds = [x] ∧ o x = some d := by
  unfold n1of at h
  split at h
  · exact ⟨_, rfl, h⟩
  · cases h
theorem fs_len {K : PySem.W.Frag} : FnS K (fun xs H Q => (∃ p ys, xs = [.ref p] ∧ (SqL K H p ys ∨ SqT K H p ys) ∧ Q (.int ys.length) H) ∨ ∃ z, xs = [.str z] ∧ z.length ≤ sizeLine ∧ Q (.int z.length) H) (o1of dLen) := by
  intro c ρ σ H vs ds d Q R r ho q
  obtain ⟨x, rfl, h2⟩ := o1_inv ho
  obtain ⟨v, rfl, w1⟩ := rpa1 r
  unfold dLen at h2
  split at h2
  · cases h2
    cases w1 with
    | lst l a => exact .inl ⟨_, _, rfl, .inl l.sq, by rw [a.length]; exact os_same R q (.int _)⟩
  · cases h2
    cases w1 with
    | tup l a => exact .inl ⟨_, _, rfl, .inr l.sq, by rw [a.length]; exact os_same R q (.int _)⟩
  · cases h2
    cases w1 with
    | ro l a => exact .inl ⟨_, _, rfl, .inl l.sq, by rw [(a.rp (K := K) (A := Av c ρ σ) (H := H)).length]; exact os_same R q (.int _)⟩
  · split at h2
    · rename_i hl
      cases h2
      cases w1
      exact .inr ⟨_, rfl, by rw [sl16]; exact hl, os_same R q (.int _)⟩
    · cases h2
  · cases h2
theorem cl_len : CallR X (.builtin "len") (fun xs H Q => (∃ p ys, xs = [.ref p] ∧ (SqL X.K H p ys ∨ SqT X.K H p ys) ∧ Q (.int ys.length) H) ∨ ∃ z, xs = [.str z] ∧ z.length ≤ sizeLine ∧ Q (.int z.length) H) := call_len_seq.or call_len_str
theorem fs_abs {K : PySem.W.Frag} : FnS K (fun xs H Q => ∃ i, xs = [.int i] ∧ Q (.int (if i < 0 then -i else i)) H) (o1of dAbs) := by
  intro c ρ σ H vs ds d Q R r ho q
  obtain ⟨x, rfl, h2⟩ := o1_inv ho
  obtain ⟨v, rfl, w1⟩ := rpa1 r
  unfold dAbs at h2
  split at h2
  · cases h2
    cases w1
    exact ⟨_, rfl, os_same R q (.int _)⟩
  · cases h2
theorem fs_int {K : PySem.W.Frag} : FnS K (fun xs H Q => (∃ i, xs = [.int i] ∧ Q (.int i) H) ∨ ∃ k, xs = [.bl k] ∧ Q (.int (if k then 1 else 0)) H) (o1of dInt) := by
  intro c ρ σ H vs ds d Q R r ho q
  obtain ⟨x, rfl, h2⟩ := o1_inv ho
  obtain ⟨v, rfl, w1⟩ := rpa1 r
  unfold dInt at h2
  split at h2
  · cases h2
    cases w1
    exact .inl ⟨_, rfl, os_same R q (.int _)⟩
  · cases h2
theorem fs_max {K : PySem.W.Frag} : FnS K (fun xs H Q => ∃ i j, xs = [.int i, .int j] ∧ Q (.int (if j > i then j else i)) H) (o2of dMax) := by
  intro c ρ σ H vs ds d Q R r ho q
  obtain ⟨x, y, rfl, h2⟩ := o2_inv ho
  obtain ⟨v, v', rfl, w1, w2⟩ := rpa2 r
  unfold dMax dI2 cT at h2
  split at h2
  · cases h2
    cases w1
    cases w2
    exact ⟨_, _, rfl, os_same R q (.int _)⟩
  · cases h2
theorem fs_min {K : PySem.W.Frag} : FnS K (fun xs H Q => ∃ i j, xs = [.int i, .int j] ∧ Q (.int (if j < i then j else i)) H) (o2of dMin) := by
  intro c ρ σ H vs ds d Q R r ho q
  obtain ⟨x, y, rfl, h2⟩ := o2_inv ho
  obtain ⟨v, v', rfl, w1, w2⟩ := rpa2 r
  unfold dMin dI2 cT at h2
  split at h2
  · cases h2
    cases w1
    cases w2
    exact ⟨_, _, rfl, os_same R q (.int _)⟩
  · cases h2
theorem fs_tup {K : PySem.W.Frag} : FnS K (fun xs H Q => ∃ p ys, xs = [.ref p] ∧ ((SqL K H p ys ∧ ∀ l, H l = none → Q (.ref l) (upd H l (.tup ys))) ∨ (SqT K H p ys ∧ Q (.ref p) H))) (o1of dTupOf) := by
  intro c ρ σ H vs ds d Q R r ho q
  obtain ⟨x, rfl, h2⟩ := o1_inv ho
  obtain ⟨v, rfl, w1⟩ := rpa1 r
  unfold dTupOf at h2
  split at h2
  · cases h2
    cases w1 with
    | lst l a => exact ⟨_, _, rfl, .inl ⟨l.sq, fun p hp => q _ _ (R.alloc hp).1 (R.newTup hp a) (R.alloc hp).2⟩⟩
  · cases h2
    cases w1 with
    | tup l a => exact ⟨_, _, rfl, .inr ⟨l.sq, os_same R q (.tup l a)⟩⟩
  · cases h2
    cases w1 with
    | ro l a => exact ⟨_, _, rfl, .inl ⟨l.sq, fun p hp => q _ _ (R.alloc hp).1 (R.newTup hp a.rp) (R.alloc hp).2⟩⟩
  · cases h2
theorem fn_list {K : PySem.W.Frag} : FnN K (fun xs H Q => ∃ p ys, xs = [.ref p] ∧ (SqL K H p ys ∨ SqT K H p ys) ∧ ∀ l, H l = none → Q (.ref l) (upd H l (.lst ys))) (n1of dLstOf) := by
  intro c ρ σ H vs ds d Q R r ho q
  obtain ⟨x, rfl, h2⟩ := n1_inv ho
  obtain ⟨v, rfl, w1⟩ := rpa1 r
  unfold dLstOf at h2
  split at h2
  · cases h2
    cases w1 with
    | lst l a => exact ⟨_, _, rfl, .inl l.sq, fun p hp => q p _ hp a⟩
  · cases h2
    cases w1 with
    | tup l a => exact ⟨_, _, rfl, .inr l.sq, fun p hp => q p _ hp a⟩
  · cases h2
    cases w1 with
    | ro l a => exact ⟨_, _, rfl, .inl l.sq, fun p hp => q p _ hp a.rp⟩
  · cases h2
/-! isinstance -/
def tyName : PyData → String
  | .none => "NoneType"
  | .bool _ => "bool"
  | .int _ => "int"
  | .str _ => "str"
  | .list _ => "list"
  | .tuple _ => "tuple"
  | .dict _ => "?"
def isN (T n : String) : Bool := decide (n = T) || (decide (T = "int") && decide (n = "bool"))
def isTy (T : String) (d : PyData) : Bool := isN T (tyName d)
@[simp] def dIsi (T : String) : PyData → Option PyData := fun x => match x with
  | .dict _ => none
  | x => some (.bool (isTy T x))
theorem tyx_of {K : PySem.W.Frag} {A : Addr → Prop} {H : Hp} {v : V} {d : PyData} (r : Rp K A H v d) (h : ∀ kvs, d ≠ .dict kvs) : TyX K H v (.type (tyName d)) := by
  cases r with
  | non => exact .base .non
  | bl b => exact .base (.bl b)
  | int i => exact .base (.int i)
  | str x => exact .base (.str x)
  | lst l a => exact .base (.lst l.1)
  | tup l a =>
    rcases l with ⟨l | ⟨o, l⟩, _⟩ | ⟨o, its, n, hk, hc, _⟩
    · exact .base (.tup l)
    · exact .fTuple l
    · exact .kTuple hk hc
  | ro l a => exact absurd rfl (h _)
theorem kitB_all : ∀ n ∈ ["NoneType", "bool", "int", "str", "list", "tuple"], ∀ T ∈ ["int", "bool", "str", "list", "tuple"], kitB n T = some (isN T n) := by decide +kernel
theorem tyName_mem (d : PyData) (h : ∀ kvs, d ≠ .dict kvs) : tyName d ∈ ["NoneType", "bool", "int", "str", "list", "tuple"] := by
  cases d <;> first
    | exact absurd rfl (h _)
    | simp [tyName]
theorem kitB_ty {T : String} (hT : T ∈ ["int", "bool", "str", "list", "tuple"]) (d : PyData) (h : ∀ kvs, d ≠ .dict kvs) : kitB (tyName d) T = some (isTy T d) := kitB_all _ (tyName_mem d h) T hT
theorem ev_isi {T : String} (hT : T ∈ ["int", "bool", "str", "list", "tuple"]) (hg : Gl X "isinstance") (hm : X.mg "isinstance" = none) (ha : PE X a (tE X.K f)) (hb : PE X b (tC (.ty T)))
    (he : starEach [a, b] X.env = (false, eval a X.env) :: starEach [b] X.env := by rfl) (he2 : starEach [b] X.env = (false, eval b X.env) :: starEach [] X.env := by rfl) (hpl : (backTo pos (starEach [b] X.env)).any (·.1) = false := by rfl) :
    PE X (.Call (.Name "isinstance" p) [a, b] [] pos) (tE X.K (eUn (dIsi T) f)) :=
  pe_of (pe_callB call_isi hg hm (by rfl) (pa_cons ha (pa_cons hb pa_nil he2) he) (by decide) (by decide) he hpl) fun σ H Q ⟨c, ρ, d, ρ', R, e, q⟩ => by
    obtain ⟨x, h1, h3⟩ := un_inv' e
    refine ⟨c, ρ, x, ρ', R, h1, fun v1 H1 R1 r1 m1 => ?_⟩
    have nd : ∀ kvs, x ≠ .dict kvs := fun kvs z => by subst z; cases h3
    have hd : d = .bool (isTy T x) := by
      unfold dIsi at h3
      split at h3
      · cases h3
      · exact (Option.some.inj h3).symm
    subst hd
    exact ⟨v1, .ty T, _, _, isTy T x, rfl, .ty T, tyx_of r1 nd, kit_ty (kitB_ty hT x nd), q _ H1 R1 (.bl _) m1⟩
end
end PG
end
section
set_option Elab.async false
set_option linter.all false
set_option maxRecDepth 100000
namespace PG
open PySem PySem.Spec PyProof.Rows L2

/-! ### statements -/
def sPost (K : PySem.W.Frag) (c : Act K) (ρ : Rho) (σ : L2.St) (H : Hp) (E : Ends) (ρ' : Rho) : Out → Prop
  | .next => ∀ σ' H', Rel K c ρ' σ' H' → Stp c ρ σ H ρ' σ' H' → E.nx σ' H'
  | .brk => ∀ σ' H', Rel K c ρ' σ' H' → Stp c ρ σ H ρ' σ' H' → E.bk σ' H'
  | .cont => ∀ σ' H', Rel K c ρ' σ' H' → Stp c ρ σ H ρ' σ' H' → E.ct σ' H'
  | .ret d => ∀ v σ' H', Rel K c ρ' σ' H' → Rp K c.A H' v d → E.rt v H'
  | .retL ds => ∀ a vs σ' H', Rel K c ρ' σ' H' → H' a = some (.lst vs) → RpA K (fun b => c.A b ∨ b = a) H' vs ds → c.H0 a = none → E.rt (.ref a) H'
def tS (K : PySem.W.Frag) (F : SF) : TS := fun E σ H => ∃ (c : Act K) (ρ : Rho) (o : Out) (ρ' : Rho), Rel K c ρ σ H ∧ F ρ = some (o, ρ') ∧ sPost K c ρ σ H E ρ' o
def tG (K : PySem.W.Frag) (G : GF) (is : List Nat) : TG := fun v σ H Q => ∃ (c : Act K) (ρ : Rho) (d : PyData) (ρ' : Rho), Rel K c ρ σ H ∧ Rp K (Av c ρ σ) H v d ∧ G d ρ = some ρ' ∧
  ∀ σ', Rel K c ρ' σ' H → Stp c ρ σ H ρ' σ' H → σ'.length = σ.length → (∀ j, j ∉ is → σ'[j]? = σ[j]?) → Q σ' H

section
variable {X : Cx} {e a b : Expr} {pos : Pos} {f g h : EF} {tf tg : TF} {n m : NF} {es : List Expr} {st : Stmt} {sts : List Stmt} {F G' : SF}
theorem sPost.pre {K : PySem.W.Frag} {c : Act K} {ρ ρ1 ρ' : Rho} {σ σ1 : L2.St} {H H1 : Hp} {E : Ends} {o : Out} (m : Stp c ρ σ H ρ1 σ1 H1) (p : sPost K c ρ σ H E ρ' o) : sPost K c ρ1 σ1 H1 E ρ' o := by
  cases o with
  | next => exact fun σ' H' R' m' => p σ' H' R' (m.trans m')
  | brk => exact fun σ' H' R' m' => p σ' H' R' (m.trans m')
  | cont => exact fun σ' H' R' m' => p σ' H' R' (m.trans m')
  | ret d => exact p
  | retL ds => exact p
theorem es_nil : PSs X [] (tS X.K sNil) := pss_of pss_nil fun E σ H ⟨c, ρ, o, ρ', R, e, q⟩ => by
  cases e
  exact q σ H R Mv.refl
theorem es_cons (h1 : PS X st (tS X.K F)) (h2 : PSs X sts (tS X.K G')) : PSs X (st :: sts) (tS X.K (sSeq F G')) := pss_of (pss_cons h1 h2) fun E σ H ⟨c, ρ, o, ρ', R, e, q⟩ => by
  unfold sSeq at e
  split at e
  · rename_i ρ1 e1
    exact ⟨c, ρ, .next, ρ1, R, e1, fun σ1 H1 R1 m1 => ⟨c, ρ1, o, ρ', R1, e, q.pre m1⟩⟩
  · rename_i hn
    refine ⟨c, ρ, o, ρ', R, e, ?_⟩
    cases o with
    | next => exact absurd e (hn ρ')
    | brk => exact q
    | cont => exact q
    | ret d => exact q
    | retL ds => exact q
theorem es_one (h1 : PS X st (tS X.K F)) : PSs X [st] (tS X.K F) := pss_of (pss_one h1) fun E σ H q => q
theorem es_if {A B : List Stmt} (hc : PT X e (tT X.K tf)) (ha : PSs X A (tS X.K F)) (hb : PSs X B (tS X.K G')) : PS X (.If e A B pos) (tS X.K (sIf tf F G')) := ps_of (ps_if hc ha hb) fun E σ H ⟨c, ρ, o, ρ', R, e, q⟩ => by
  unfold sIf at e
  split at e
  · rename_i ρ1 h1
    exact ⟨c, ρ, true, ρ1, R, h1, fun H' R' m => iteT ⟨c, ρ1, o, ρ', R', e, q.pre m⟩⟩
  · rename_i ρ1 h1
    exact ⟨c, ρ, false, ρ1, R, h1, fun H' R' m => iteF ⟨c, ρ1, o, ρ', R', e, q.pre m⟩⟩
  · cases e
theorem av_sub {K : PySem.W.Frag} {c : Act K} {ρ : Rho} {σ : L2.St} {H : Hp} : Mv (Av c ρ σ) H c.A H := fun a o e n => ⟨e, fun z => n (.inl z)⟩
theorem es_ret (he : PE X e (tE X.K f)) : PS X (.Return (some e) pos) (tS X.K (sRet f)) := ps_of (ps_ret he) fun E σ H ⟨c, ρ, o, ρ', R, e, q⟩ => by
  unfold sRet at e
  split at e
  · rename_i d ρ1 h1
    obtain ⟨e1, e2⟩ := so e
    subst e1 e2
    exact ⟨c, ρ, d, ρ1, R, h1, fun v H' R' r' m => q v σ H' R' (r'.mv av_sub)⟩
  · cases e
theorem es_retN : PS X (.Return none pos) (tS X.K (sRet (eC .none))) := ps_of ps_retN fun E σ H ⟨c, ρ, o, ρ', R, e, q⟩ => by
  cases e
  exact q .non σ H R .non
theorem es_retL (he : PE X e (tN X.K n)) : PS X (.Return (some e) pos) (tS X.K (sRetL n)) := ps_of (ps_ret he) fun E σ H ⟨c, ρ, o, ρ', R, e, q⟩ => by
  unfold sRetL at e
  split at e
  · rename_i d ρ1 h1
    obtain ⟨e1, e2⟩ := so e
    subst e1 e2
    exact ⟨c, ρ, d, ρ1, R, h1, fun a vs H' R' ha r' na h0 nw m => q a vs σ H' (R'.unplus R.pA) ha (r'.mv av_sub) h0⟩
  · cases e
theorem es_retO {i : Nat} (hv : PE X e (tVar i)) : PS X (.Return (some e) pos) (tS X.K (sRetO i)) := ps_of (ps_ret hv) fun E σ H ⟨c, ρ, o, ρ', R, e, q⟩ => by
  unfold sRetO at e
  split at e
  · rename_i ds h1
    obtain ⟨e1, e2⟩ := so e
    subst e1 e2
    obtain ⟨a, vs, g1, g2, g3, g4⟩ := R.lst i false ds h1
    refine ⟨.ref a, g1, q a vs σ H R g2 (g3.mv fun b o e n => ⟨e, fun z => n ?_⟩) (g4 rfl).1⟩
    rcases z with z | z
    · exact .inl z
    · subst z; exact .inr ⟨i, false, ds, h1, g1⟩
  · cases e
theorem es_expr (he : PE X e (tE X.K f)) (hs : swapsWith e none pos.line X.env = pure false := by rfl) : PS X (.Expr e pos) (tS X.K (sExpr f)) := ps_of (ps_expr he hs) fun E σ H ⟨c, ρ, o, ρ', R, e, q⟩ => by
  unfold sExpr at e
  split at e
  · rename_i d ρ1 h1
    obtain ⟨e1, e2⟩ := so e
    subst e1 e2
    exact ⟨c, ρ, d, ρ1, R, h1, fun v H' R' r' m => q σ H' R' m⟩
  · cases e
theorem es_pass : PS X (.Pass pos) (tS X.K sNil) := ps_of ps_pass fun E σ H ⟨c, ρ, o, ρ', R, e, q⟩ => by
  cases e
  exact q σ H R Mv.refl
theorem es_brk : PS X (.Break pos) (tS X.K sBrk) := ps_of ps_break fun E σ H ⟨c, ρ, o, ρ', R, e, q⟩ => by
  cases e
  exact q σ H R Mv.refl
theorem es_cont : PS X (.Continue pos) (tS X.K sCont) := ps_of ps_continue fun E σ H ⟨c, ρ, o, ρ', R, e, q⟩ => by
  cases e
  exact q σ H R Mv.refl
theorem es_doc {x j} {pos'} : PS X (.Expr (.Constant (.str x) j pos) pos') (tS X.K sNil) := ps_of ps_doc fun E σ H ⟨c, ρ, o, ρ', R, e, q⟩ => by
  cases e
  exact q σ H R Mv.refl
/-! assignments -/
theorem es_set {i : Nat} {x : Str} {pos' : Pos} (hN : X.N.Nodup) (hi : X.N[i]? = some x) (hx : Loc X.env.scope x) (he : PE X e (tE X.K f)) (hs : swapsWith e (some (.Name x pos')) pos.line X.env = pure false := by rfl)
    (hf : X.fn x = true ∨ X.env.scope.names.lookup x = some .local := by first | exact .inl rfl | exact .inr rfl | assumption) : PS X (.Assign [.Name x pos'] e pos) (tS X.K (sSet i f)) :=
  ps_of (ps_set hN hi hx he hs hf) fun E σ H ⟨c, ρ, o, ρ', R, e, q⟩ => by
    unfold sSet at e
    split at e
    · rename_i d ρ1 h1
      split at e
      · rename_i ρ2 h2
        obtain ⟨e1, e2⟩ := so e
        subst e1 e2
        refine ⟨c, ρ, d, ρ1, R, h1, fun v H' R' r' m => ?_⟩
        obtain ⟨R2, m2⟩ := R'.assign h2 r'
        exact q _ H' R2 (m.trans m2)
      · cases e
    · cases e
theorem es_setL {i : Nat} {x : Str} {pos' : Pos} (hN : X.N.Nodup) (hi : X.N[i]? = some x) (hx : Loc X.env.scope x) (he : PE X e (tN X.K n)) (hs : swapsWith e (some (.Name x pos')) pos.line X.env = pure false := by rfl)
    (hf : X.fn x = true ∨ X.env.scope.names.lookup x = some .local := by first | exact .inl rfl | exact .inr rfl | assumption) : PS X (.Assign [.Name x pos'] e pos) (tS X.K (sSetL i n)) :=
  ps_of (ps_set hN hi hx he hs hf) fun E σ H ⟨c, ρ, o, ρ', R, e, q⟩ => by
    unfold sSetL at e
    split at e
    · rename_i d ρ1 h1
      split at e
      · rename_i ρ2 h2
        obtain ⟨e1, e2⟩ := so e
        subst e1 e2
        refine ⟨c, ρ, d, ρ1, R, h1, fun a vs H' R' ha r' na h0 nw m => ?_⟩
        obtain ⟨R2, m2⟩ := R'.assignL h2 ha r' h0 na R.pA
        refine q _ H' R2 fun b o eb nb => ?_
        obtain ⟨w1, w2⟩ := m b o eb nb
        have nba : b ≠ a := fun z => by subst z; rw [nw nb] at eb; cases eb
        exact m2 b o w1 fun z => z.elim (fun y => y.elim (fun y => w2 (.inl y)) nba) fun y => w2 (.inr y)
      · cases e
    · cases e
theorem es_asg {tgt : Expr} {G : GF} {is : List Nat} (he : PE X e (tE X.K f)) (hg : PG X tgt (tG X.K G is)) (hs : swapsWithSole [tgt] e pos.line X.env = pure false := by rfl) (hw : swappedStores [tgt] e X.env = pure none := by rfl)
    (h1 : (assignEach [tgt] X.env).map (·.2) = [assign tgt X.env] := by rfl) : PS X (.Assign [tgt] e pos) (tS X.K (sAsg f G)) :=
  ps_of (ps_asg he hg hs hw h1) fun E σ H ⟨c, ρ, o, ρ', R, e, q⟩ => by
    unfold sAsg at e
    split at e
    · rename_i d ρ1 h1
      split at e
      · rename_i ρ2 h2
        obtain ⟨e1, e2⟩ := so e
        subst e1 e2
        exact ⟨c, ρ, d, ρ1, R, h1, fun v H' R' r' m => ⟨c, ρ1, d, ρ2, R', r', h2, fun σ' R2 m2 _ _ => q σ' H' R2 (m.trans m2)⟩⟩
      · cases e
    · cases e
/-! targets -/
theorem pg_of {tgt : Expr} {t t' : TG} (h : PG X tgt t) (k : ∀ v σ H Q, t' v σ H Q → t v σ H Q) : PG X tgt t' := ⟨fun pins s σ H v u Q I r q => h.run pins s σ H v u Q I r (k v σ H Q q)⟩
theorem eg_name {i : Nat} {x : Str} (hN : X.N.Nodup) (hi : X.N[i]? = some x) (hx : Loc X.env.scope x) (hf : X.fn x = true ∨ X.env.scope.names.lookup x = some .local := by first | exact .inl rfl | exact .inr rfl | assumption) : PG X (.Name x pos) (tG X.K (gSet i) [i]) :=
  pg_of (pg_name hN hi hx hf) fun v σ H Q ⟨c, ρ, d, ρ', R, r, e, q⟩ => by
    obtain ⟨R2, m2⟩ := R.assign e r
    refine q _ R2 m2 (List.length_set ..) fun j hj => ?_
    rw [List.getElem?_set_ne (fun z => hj (by simp [z]))]
def gsPairs (is : List Nat) : TGs := match is with
  | [] => gNil
  | i :: r => gCons (gName i) (gsPairs r)
theorem rd_pairs {K : PySem.W.Frag} {c : Act K} {H : Hp} : ∀ (is : List Nat) (vs : List V) (ds : List PyData) (ρ ρ' : Rho) (σ : L2.St) (Q : L2.St → Hp → Prop), Rel K c ρ σ H → RpA K (Av c ρ σ) H vs ds → gPairs is ds ρ = some ρ' →
    (∀ σ', Rel K c ρ' σ' H → Stp c ρ σ H ρ' σ' H → σ'.length = σ.length → (∀ j, j ∉ is → σ'[j]? = σ[j]?) → Q σ' H) → gsPairs is vs σ H Q
  | [], vs, [], ρ, ρ', σ, Q, R, r, e, q => by
    cases r
    cases e
    exact ⟨rfl, q σ R Mv.refl rfl fun _ _ => rfl⟩
  | [], vs, _ :: _, ρ, ρ', σ, Q, R, r, e, q => by cases e
  | _ :: _, vs, [], ρ, ρ', σ, Q, R, r, e, q => by cases e
  | i :: is, _, d :: ds, ρ, ρ', σ, Q, R, r, e, q => by
    cases r with
    | @cons v vs _ _ h1 h2 =>
      unfold gPairs at e
      split at e
      · rename_i ρ1 e1
        obtain ⟨R2, m2⟩ := R.assign e1 h1
        refine ⟨v, vs, rfl, rd_pairs is vs ds ρ1 ρ' _ Q R2 (h2.mv m2) e fun σ' R' m' l' k' => ?_⟩
        refine q σ' R' (m2.trans m') (by rw [l', List.length_set]) fun j hj => ?_
        rw [k' j (fun z => hj (List.mem_cons_of_mem _ z)), List.getElem?_set_ne (fun z => hj (by simp [z]))]
      · cases e
theorem gpairs_len : ∀ (is : List Nat) (ds : List PyData) (ρ ρ' : Rho), gPairs is ds ρ = some ρ' → ds.length = is.length
  | [], [], _, _, _ => rfl
  | [], _ :: _, _, _, e => by cases e
  | _ :: _, [], _, _, e => by cases e
  | i :: is, d :: ds, ρ, ρ', e => by
    unfold gPairs at e
    split at e
    · rename_i ρ1 e1
      rw [List.length_cons, List.length_cons, gpairs_len is ds ρ1 ρ' e]
    · cases e
theorem eg_tup {k : Nat} {is : List Nat} (hc : X.calm = true) (h : PGs X es (gsPairs is)) (hn : (assignEach es X.env).length = is.length := by rfl) (hst : (assignEach es X.env).findIdx? (·.1) = none := by rfl) : PG X (.Tuple es k pos) (tG X.K (gTupS is) is) :=
  pg_of (pg_tup hc h hn hst) fun v σ H Q ⟨c, ρ, d, ρ', R, r, e, q⟩ => by
    unfold gTupS at e
    split at e
    · rename_i ds
      cases r with
      | @tup p xs _ l al =>
        exact ⟨p, xs, rfl, l.sq, by rw [al.length, gpairs_len _ _ _ _ e], rd_pairs is xs ds ρ ρ' σ Q R al e q⟩
    · cases e
/-! owned lists -/
theorem es_app {i : Nat} {apos cpos : Pos} (hv : PE X a (tVar i)) (he : PE X e (tE X.K f)) (hbase : attributeBase a "append" X.env (eval a X.env) = eval a X.env := by rfl)
    (hfew : ((backTo cpos (starEach [e] X.env)).all (fun x => !x.1) && (backToKw cpos (keywordEach [] X.env)).all (fun x => x.1.isSome)
      && decide ([e].length + ([] : List Keyword).length + (if ([] : List Keyword).isEmpty then 0 else 1) < 30)) = true := by rfl)
    (hline : (apos.endLine == cpos.line) = true := by rfl) (hs : starEach [e] X.env = (false, eval e X.env) :: starEach [] X.env := by rfl) (hplain : (backTo cpos (starEach [] X.env)).any (·.1) = false := by rfl)
    (hsw : swapsWith (.Call (.Attribute a "append" apos) [e] [] cpos) none pos.line X.env = pure false := by rfl) :
    PS X (.Expr (.Call (.Attribute a "append" apos) [e] [] cpos) pos) (tS X.K (sApp i f)) :=
  ps_of (ps_expr (pe_bm PySem.F.plainAttrs_list PySem.F.slot_list_append PySem.F.type_list_append mt_append hv (pa_cons he pa_nil hs) hbase hfew hline hs hplain) hsw) fun E σ H ⟨c, ρ, o, ρ', R, e, q⟩ => by
    unfold sApp at e
    split at e
    · rename_i p0 l0 h0
      split at e
      · rename_i d ρ1 h1
        split at e
        · rename_i p ds h2
          split at e
          · rename_i hl
            obtain ⟨e1, e2⟩ := so e
            subst e1 e2
            obtain ⟨a, us0, g1, g2, _⟩ := R.lst i p0 l0 h0
            refine ⟨.ref a, g1, .inl ⟨rfl, us0, .inl (.inl g2)⟩, c, ρ, d, ρ1, R, h1, fun v H1 R1 r1 m1 => ?_⟩
            obtain ⟨a', us, g1', g2', g3, _⟩ := R1.lst i p ds h2
            rw [g1] at g1'
            cases g1'
            refine ⟨a, us, v, rfl, rfl, g2', by rw [g3.length, sl16]; exact hl, ?_⟩
            have own : Av c ρ1 σ a := .inr ⟨i, p, ds, h2, g1⟩
            have mw : Mv (Av c ρ1 σ) H1 (Av c ρ1 σ) (upd H1 a (.lst (us ++ [v]))) := fun b o e n => ⟨by rw [upd_ne (fun z => n (by subst z; exact own))]; exact e, n⟩
            obtain ⟨R2, m2⟩ := R1.write (ds' := ds ++ [d]) h2 g1 upd_same (fun b o nb eb => by rw [upd_ne nb]; exact eb) ((g3.app (.cons r1 .nil)).mv mw)
            exact q σ _ R2 (m1.trans m2)
          · cases e
        · cases e
      · cases e
    · cases e
theorem es_sto {i : Nat} {tpos : Pos} (hv : PE X a (tVar i)) (hi : PE X b (tE X.K g)) (he : PE X e (tE X.K f))
    (ha : ∀ v, assign (.Subscript a b tpos) X.env v = (do
      let ov ← holding [v] (eval a X.env)
      let iv ← holding [v, ov] (eval b X.env)
      standAt tpos
      holding [v, ov, iv] (setItem ov iv v)
      release [v, ov, iv] []) := by intro _; rfl) (hs : swapsWithSole [.Subscript a b tpos] e pos.line X.env = pure false := by rfl) (hw : swappedStores [.Subscript a b tpos] e X.env = pure none := by rfl)
    (h1 : (assignEach [.Subscript a b tpos] X.env).map (·.2) = [assign (.Subscript a b tpos) X.env] := by rfl) : PS X (.Assign [.Subscript a b tpos] e pos) (tS X.K (sSto i g f)) :=
  ps_of (ps_asg he (pg_sub hv hi set_list ha) hs hw h1) fun E σ H ⟨c, ρ, o, ρ', R, e, q⟩ => by
    unfold sSto at e
    split at e
    · rename_i d ρ1 h1
      split at e
      · rename_i p0 l0 h0
        split at e
        · rename_i k ρ2 h2
          split at e
          · rename_i p ds h3
            split at e
            · rename_i j hj
              obtain ⟨e1, e2⟩ := so e
              subst e1 e2
              refine ⟨c, ρ, d, ρ1, R, h1, fun v H1 R1 r1 m1 => ?_⟩
              obtain ⟨a, us0, g1, g2, _⟩ := R1.lst i p0 l0 h0
              refine ⟨.ref a, g1, c, ρ1, .int k, ρ2, R1, h2, fun vk H2 R2 rk m2 => ?_⟩
              cases rk
              obtain ⟨a', us, g1', g2', g3, _⟩ := R2.lst i p ds h3
              rw [g1] at g1'
              cases g1'
              refine ⟨a, us, k, j, rfl, rfl, g2', by rw [g3.length]; exact hj, ?_⟩
              have own : Av c ρ2 σ a := .inr ⟨i, p, ds, h3, g1⟩
              have mw : Mv (Av c ρ2 σ) H2 (Av c ρ2 σ) (upd H2 a (.lst (us.set j v))) := fun b o e n => ⟨by rw [upd_ne (fun z => n (by subst z; exact own))]; exact e, n⟩
              obtain ⟨R3, m3⟩ := R2.write (ds' := ds.set j d) h3 g1 upd_same (fun b o nb eb => by rw [upd_ne nb]; exact eb) ((g3.set j (r1.mv m2)).mv mw)
              exact q σ _ R3 ((m1.trans m2).trans m3)
            · cases e
          · cases e
        · cases e
      · cases e
    · cases e
/-- reading an owned list -/
theorem ev_ixL {r : R2} {o : PyData → PyData → Option PyData} {i : Nat} (hr : IxR X r) (s : OpS X.K r o) (hv : PE X a (tVar i)) (hb : PE X b (tE X.K g)) (hs : PlainIx b)
    (so2 : ∀ ds y z, o (.list ds) y = some z → ∃ k, y = .int k ∧ atD ds k = some z) (hr2 : ∀ x y H Q, rIxL X.K x y H Q → r x y H Q) : PE X (.Subscript a b pos) (tE X.K (eIxL o i g)) :=
  pe_of (pe_ix hr hv hb hs) fun σ H Q ⟨c, ρ, d, ρ', R, e, q⟩ => by
    unfold eIxL at e
    split at e
    · rename_i p0 l0 h0
      split at e
      · rename_i y ρ1 h1
        split at e
        · rename_i p ds h2
          split at e
          · rename_i z h3
            obtain ⟨e1, e2⟩ := so e
            subst e1 e2
            obtain ⟨a, us0, g1, g2, _⟩ := R.lst i p0 l0 h0
            refine ⟨.ref a, g1, c, ρ, y, ρ1, R, h1, fun v H1 R1 r1 m1 => ?_⟩
            obtain ⟨a', us, g1', g2', g3, _⟩ := R1.lst i p ds h2
            rw [g1] at g1'
            cases g1'
            obtain ⟨k, rfl, hk⟩ := so2 ds y z h3
            cases r1
            obtain ⟨v, w1, w2⟩ := ix_at g3 hk
            exact hr2 _ _ _ _ ⟨a, us, k, v, rfl, rfl, .inl (.inl g2'), w1, q v H1 R1 w2 m1⟩
          · cases e
        · cases e
      · cases e
    · cases e
theorem ev_ixO {i : Nat} (hv : PE X a (tVar i)) (hb : PE X b (tE X.K g)) (hs : PlainIx b) : PE X (.Subscript a b pos) (tE X.K (eIxL dIx i g)) :=
  ev_ixL ix_seq os_ix hv hb hs (fun ds y z h => by
    unfold dIx at h
    split at h <;> first
      | (rename_i hh; cases hh; exact ⟨_, rfl, h⟩)
      | (rename_i hh _; cases hh; exact ⟨_, rfl, h⟩)
      | (rename_i hh; cases hh; done)
      | cases h) fun x y H Q h => .inl h

/-! ### loops -/
def JOk (K : PySem.W.Frag) (c : Act K) (ρ1 : Rho) (σ1 : L2.St) (H1 : Hp) (J : It) (ds : List PyData) : Prop := ∀ (c' : Act K) (ρi : Rho) (σi : L2.St) (Hi : Hp), Mv (Av c ρ1 σ1) H1 (Av c' ρi σi) Hi →
  (∀ (i : Nat) (d : PyData), ds[i]? = some d → J.go i Hi ∧ ∀ x H', J.yld i Hi x H' → H' = Hi ∧ Rp K (Av c' ρi σi) Hi x d) ∧ J.stop ds.length Hi
def tI (K : PySem.W.Frag) (f : NF) : TI := fun σ H R => ∃ (c : Act K) (ρ : Rho) (ds : List PyData) (ρ' : Rho), Rel K c ρ σ H ∧ f ρ = some (ds, ρ') ∧
  ∀ J H1, Rel K c ρ' σ H1 → Stp c ρ σ H ρ' σ H1 → JOk K c ρ' σ H1 J ds → R J H1
theorem pi_of {tgt : Expr} {t t' : TI} (h : PI X tgt e t) (k : ∀ σ H R, t' σ H R → t σ H R) : PI X tgt e t' := ⟨fun pins s σ H R I q => h.run pins s σ H R I (k σ H R q)⟩
theorem jok_list {K : PySem.W.Frag} {c : Act K} {ρ : Rho} {σ : L2.St} {H : Hp} {p : Addr} {xs : List V} {ds : List PyData} (l : WAt K (Av c ρ σ) H p xs) (r : RpA K (Av c ρ σ) H xs ds) : JOk K c ρ σ H (Itl K p) ds := fun c' ρi σi Hi m => by
  have l2 := (l.move m).sq
  have r2 := r.mv m
  refine ⟨fun i d hd => ?_, ⟨xs, l2, by rw [r2.length]; exact Nat.le_refl _⟩⟩
  obtain ⟨v, h1, h2⟩ := r2.get hd
  exact ⟨⟨xs, v, l2, h1⟩, fun x H' y => ⟨y.1, by
    have := y.2 xs l2
    rw [h1] at this
    cases this
    exact h2⟩⟩
theorem jok_tup {K : PySem.W.Frag} {c : Act K} {ρ : Rho} {σ : L2.St} {H : Hp} {p : Addr} {xs : List V} {ds : List PyData} (l : TAt K (Av c ρ σ) H p xs) (r : RpA K (Av c ρ σ) H xs ds) : JOk K c ρ σ H (Itt K p) ds := fun c' ρi σi Hi m => by
  have l2 := (l.move m).sq
  have r2 := r.mv m
  refine ⟨fun i d hd => ?_, ⟨xs, l2, by rw [r2.length]; exact Nat.le_refl _⟩⟩
  obtain ⟨v, h1, h2⟩ := r2.get hd
  exact ⟨⟨xs, v, l2, h1⟩, fun x H' y => ⟨y.1, by
    have := y.2 xs l2
    rw [h1] at this
    cases this
    exact h2⟩⟩
def itL (f : EF) : NF := fun ρ => match f ρ with
  | some (.list xs, ρ1) => some (xs, ρ1)
  | some (.dict [(.list xs, .none)], ρ1) => some (xs, ρ1)
  | _ => none
def itT (f : EF) : NF := fun ρ => match f ρ with
  | some (.tuple xs, ρ1) => some (xs, ρ1)
  | _ => none
theorem ei_list {tgt : Expr} (he : PE X e (tE X.K f)) : PI X tgt e (tI X.K (itL f)) := pi_of (pi_list he) fun σ H R ⟨c, ρ, ds, ρ', R0, e, q⟩ => by
  unfold itL at e
  split at e
  · rename_i xs ρ1 h1
    obtain ⟨e1, e2⟩ := so e
    subst e1 e2
    refine ⟨c, ρ, _, ρ1, R0, h1, fun v H1 R1 r1 m1 => ?_⟩
    cases r1 with
    | lst l a => exact ⟨_, rfl, ⟨_, l.sq⟩, q _ H1 R1 m1 (jok_list (.inl ⟨.inl l.1, l.2⟩) a)⟩
  · rename_i xs ρ1 h1
    obtain ⟨e1, e2⟩ := so e
    subst e1 e2
    refine ⟨c, ρ, _, ρ1, R0, h1, fun v H1 R1 r1 m1 => ?_⟩
    cases r1 with
    | ro l a => exact ⟨_, rfl, ⟨_, l.sq⟩, q _ H1 R1 m1 (jok_list l a.rp)⟩
  · cases e
theorem ei_tup {tgt : Expr} (he : PE X e (tE X.K f)) : PI X tgt e (tI X.K (itT f)) := pi_of (pi_tup he) fun σ H R ⟨c, ρ, ds, ρ', R0, e, q⟩ => by
  unfold itT at e
  split at e
  · rename_i xs ρ1 h1
    obtain ⟨e1, e2⟩ := so e
    subst e1 e2
    refine ⟨c, ρ, _, ρ1, R0, h1, fun v H1 R1 r1 m1 => ?_⟩
    cases r1 with
    | tup l a => exact ⟨_, rfl, ⟨_, l.sq⟩, q _ H1 R1 m1 (jok_tup l a)⟩
  · cases e
/-- range -/
def rng (lo : Int) (n : Nat) : List PyData := (List.range n).map fun k => .int (lo + (k : Nat))
theorem jok_rng {K : PySem.W.Frag} {c : Act K} {ρ : Rho} {σ : L2.St} {H : Hp} (lo : Int) (n : Nat) : JOk K c ρ σ H (Itr lo n) (rng lo n) := fun c' ρi σi Hi m => by
  refine ⟨fun i d hd => ?_, ?_⟩
  · unfold rng at hd
    rw [List.getElem?_map] at hd
    rcases Nat.lt_or_ge i n with h | h
    · rw [List.getElem?_range h] at hd
      cases hd
      exact ⟨h, fun x H' y => ⟨y.1, by rw [y.2]; exact .int _⟩⟩
    · rw [List.getElem?_eq_none (by simpa using h)] at hd
      cases hd
  · show n ≤ (rng lo n).length
    unfold rng
    rw [List.length_map, List.length_range]
    exact Nat.le_refl _
def in62 (i : Int) : Bool := decide (-4611686018427387904 ≤ i) && decide (i < 4611686018427387904)
def itR1 (f : NF) : NF := fun ρ => match f ρ with
  | some ([.int j], ρ1) => if in62 j then some (rng 0 j.toNat, ρ1) else none
  | _ => none
def itR2 (f : NF) : NF := fun ρ => match f ρ with
  | some ([.int i, .int j], ρ1) => if in62 i && in62 j then some (rng i (j - i).toNat, ρ1) else none
  | _ => none
theorem in62_iff {i : Int} (h : in62 i = true) : -(2 ^ 62) ≤ i ∧ i < 2 ^ 62 := by
  simp only [in62, Bool.and_eq_true, decide_eq_true_eq] at h
  exact ⟨by omega, by omega⟩
theorem ei_rng1 {tgt : Expr} {p : Pos} (hg : Gl X "range") (hm : X.mg "range" = none) (ha : PA X [a] (tA X.K n)) (hs : starEach [a] X.env = [(false, eval a X.env)] := by rfl) : PI X tgt (.Call (.Name "range" p) [a] [] pos) (tI X.K (itR1 n)) :=
  pi_of (pi_range1 hg hm ha hs) fun σ H R ⟨c, ρ, ds, ρ', R0, e, q⟩ => by
    unfold itR1 at e
    split at e
    · rename_i j ρ1 h1
      split at e
      · rename_i hj
        obtain ⟨e1, e2⟩ := so e
        subst e1 e2
        refine ⟨c, ρ, _, ρ1, R0, h1, fun vs H1 R1 r1 m1 => ?_⟩
        obtain ⟨v, rfl, r2⟩ := rpa1 r1
        cases r2
        obtain ⟨w1, w2⟩ := in62_iff hj
        exact ⟨j, rfl, w1, w2, q _ H1 R1 m1 (jok_rng 0 _)⟩
      · cases e
    · cases e
theorem ei_rng2 {tgt : Expr} {p : Pos} (hg : Gl X "range") (hm : X.mg "range" = none) (ha : PA X [a, b] (tA X.K n)) (hs : starEach [a, b] X.env = [(false, eval a X.env), (false, eval b X.env)] := by rfl) (hs2 : starEach [b] X.env = [(false, eval b X.env)] := by rfl) :
    PI X tgt (.Call (.Name "range" p) [a, b] [] pos) (tI X.K (itR2 n)) :=
  pi_of (pi_range2 hg hm ha hs hs2) fun σ H R ⟨c, ρ, ds, ρ', R0, e, q⟩ => by
    unfold itR2 at e
    split at e
    · rename_i i j ρ1 h1
      split at e
      · rename_i hj
        obtain ⟨e1, e2⟩ := so e
        subst e1 e2
        simp only [Bool.and_eq_true] at hj
        refine ⟨c, ρ, _, ρ1, R0, h1, fun vs H1 R1 r1 m1 => ?_⟩
        obtain ⟨v, v', rfl, w1, w2⟩ := rpa2 r1
        cases w1
        cases w2
        obtain ⟨a1, a2⟩ := in62_iff hj.1
        obtain ⟨b1, b2⟩ := in62_iff hj.2
        exact ⟨i, j, rfl, ⟨a1, a2, b1, b2⟩, q _ H1 R1 m1 (jok_rng i _)⟩
      · cases e
    · cases e
theorem drop_cons {α : Type} {l : List α} {i : Nat} {d : α} {r : List α} (h : l.drop i = d :: r) : l[i]? = some d ∧ l.drop (i + 1) = r := by
  constructor
  · have := List.getElem?_drop (xs := l) (i := i) (j := 0)
    rw [h] at this
    simpa using this.symm
  · have := List.drop_drop (i := 1) (j := i) (l := l)
    rw [h] at this
    simpa [Nat.add_comm] using this.symm
theorem es_for {tgt iter : Expr} {body : List Stmt} {it : NF} {G : GF} {is : List Nat} (hp : PassesOwn (model X.prog X.w) X.A X.env X.xe) (hc : X.calm = true) (hi : PI X tgt iter (tI X.K it)) (hg : PG X tgt (tG X.K G is)) (hb : PSs X body (tS X.K F)) (hs : ∀ x, foldedSetIterable iter X.env x = pure x := by intro _; rfl) :
    PS X (.For tgt iter body [] pos) (tS X.K (sFor it G F)) := ps_of (ps_for hp hc hi hg hb hs) fun E σ H ⟨c, ρ, o, ρ', R, e, q⟩ => by
  unfold sFor at e
  split at e
  · rename_i ds ρ1 h1
    refine ⟨c, ρ, ds, ρ1, R, h1, fun J H1 R1 m1 jo => ?_⟩
    refine ⟨fun i m σi Hi => m = ds.length - i ∧ i ≤ ds.length ∧ ∃ ρi, Rel X.K c ρi σi Hi ∧ Stp c ρ1 σ H1 ρi σi Hi ∧ forL G F (ds.drop i) ρi = some (o, ρ'), ⟨ds.length, by simp, Nat.zero_le _, ρ1, R1, Mv.refl, e⟩, ?_⟩
    rintro i m σi Hi ⟨rfl, hi, ρi, Ri, mi, ei⟩
    obtain ⟨jg, js⟩ := jo c ρi σi Hi mi
    cases hd : ds.drop i with
    | nil =>
      rw [hd] at ei
      unfold forL at ei
      obtain ⟨e1, e2⟩ := so ei
      subst e1 e2
      have : i = ds.length := by
        have := congrArg List.length hd
        rw [List.length_drop, List.length_nil] at this
        omega
      subst this
      exact .inl ⟨js, q σi Hi Ri (m1.trans mi)⟩
    | cons d r =>
      obtain ⟨g1, g2⟩ := drop_cons hd
      rw [hd] at ei
      obtain ⟨k1, k2⟩ := jg i d g1
      have hlt := lt_of_get g1
      unfold forL at ei
      split at ei
      · cases ei
      · rename_i ρa ea
        refine .inr ⟨k1, fun σ' H' => ds.length - (i + 1) = ds.length - (i + 1) ∧ i + 1 ≤ ds.length ∧ ∃ ρi, Rel X.K c ρi σ' H' ∧ Stp c ρ1 σ H1 ρi σ' H' ∧ forL G F (ds.drop (i + 1)) ρi = some (o, ρ'), fun σ' H' z => ⟨ds.length - (i + 1), by omega, z⟩, fun x H' y => ?_⟩
        obtain ⟨rfl, rx⟩ := k2 x H' y
        refine ⟨c, ρi, d, ρa, Ri, rx, ea, fun σ2 Ra ma _ _ => ?_⟩
        rw [g2]
        have mm := mi.trans ma
        split at ei
        · rename_i ρb eb
          exact ⟨c, ρa, .next, ρb, Ra, eb, fun σ3 H3 R3 m3 => ⟨rfl, hlt, ρb, R3, mm.trans m3, ei⟩⟩
        · rename_i ρb eb
          exact ⟨c, ρa, .cont, ρb, Ra, eb, fun σ3 H3 R3 m3 => ⟨rfl, hlt, ρb, R3, mm.trans m3, ei⟩⟩
        · rename_i ρb eb
          obtain ⟨e1, e2⟩ := so ei
          subst e1 e2
          exact ⟨c, ρa, .brk, ρb, Ra, eb, fun σ3 H3 R3 m3 => q σ3 H3 R3 ((m1.trans mm).trans m3)⟩
        · rename_i hn1 hn2 hn3
          refine ⟨c, ρa, o, ρ', Ra, ei, ?_⟩
          cases o with
          | next => exact absurd ei (hn1 ρ')
          | brk => exact absurd ei (hn3 ρ')
          | cont => exact absurd ei (hn2 ρ')
          | ret d => exact q
          | retL d => exact q
  · cases e
theorem es_while {body : List Stmt} {mu : Rho → Nat} (hp : PassesOwn (model X.prog X.w) X.A X.env X.xe) (hc : PT X e (tT X.K tf)) (hb : PSs X body (tS X.K F)) : PS X (.While e body [] pos) (tS X.K (sWhile mu tf F)) :=
  ps_of (ps_while hp hc hb) fun E σ H ⟨c, ρ, o, ρ', R, e, q⟩ => by
    refine ⟨fun m σi Hi => ∃ ρi, Rel X.K c ρi σi Hi ∧ Stp c ρ σ H ρi σi Hi ∧ whl tf F m ρi = some (o, ρ'), ⟨mu ρ, ρ, R, Mv.refl, e⟩, ?_⟩
    rintro m σi Hi ⟨ρi, Ri, mi, ei⟩
    cases m with
    | zero => cases ei
    | succ m =>
      unfold whl at ei
      split at ei
      · rename_i ρa ea
        refine ⟨c, ρi, true, ρa, Ri, ea, fun H1 R1 m1 => iteT ?_⟩
        refine ⟨fun σ' H' => ∃ ρi, Rel X.K c ρi σ' H' ∧ Stp c ρ σ H ρi σ' H' ∧ whl tf F m ρi = some (o, ρ'), fun σ' H' z => ⟨m, Nat.lt_succ_self m, z⟩, ?_⟩
        have mm := mi.trans m1
        split at ei
        · rename_i ρb eb
          exact ⟨c, ρa, .next, ρb, R1, eb, fun σ3 H3 R3 m3 => ⟨ρb, R3, mm.trans m3, ei⟩⟩
        · rename_i ρb eb
          exact ⟨c, ρa, .cont, ρb, R1, eb, fun σ3 H3 R3 m3 => ⟨ρb, R3, mm.trans m3, ei⟩⟩
        · rename_i ρb eb
          obtain ⟨e1, e2⟩ := so ei
          subst e1 e2
          exact ⟨c, ρa, .brk, ρb, R1, eb, fun σ3 H3 R3 m3 => q σ3 H3 R3 (mm.trans m3)⟩
        · rename_i hn1 hn2 hn3
          refine ⟨c, ρa, o, ρ', R1, ei, ?_⟩
          cases o with
          | next => exact absurd ei (hn1 ρ')
          | brk => exact absurd ei (hn3 ρ')
          | cont => exact absurd ei (hn2 ρ')
          | ret d => exact q
          | retL d => exact q
      · rename_i ρa ea
        obtain ⟨e1, e2⟩ := so ei
        subst e1 e2
        exact ⟨c, ρi, false, ρa, Ri, ea, fun H1 R1 m1 => iteF (q σi H1 R1 (mi.trans m1))⟩
      · cases ei
end
end PG
end
section
set_option Elab.async false
set_option linter.all false
set_option maxRecDepth 100000
namespace PG
open PySem PySem.Spec PyProof.Rows L2

/-! ### slots forgotten and given back -/
section
variable {K : PySem.W.Frag} {c : Act K} {ρ ρ' : Rho} {σ σ' : L2.St} {H H' : Hp}
theorem Rel.clear (R : Rel K c ρ σ H) {v : Nat} (hp : ρ[v]? = some none ∨ ∃ d, ρ[v]? = some (some (Cell.v d))) : Rel K c (ρ.set v none) (σ.set v none) H ∧ Stp c ρ σ H (ρ.set v none) (σ.set v none) H := by
  have hl : v < ρ.length := by
    rcases hp with h | ⟨d, h⟩ <;> exact lt_of_get h
  have nl : ∀ p ds, ρ[v]? ≠ some (some (Cell.l p ds)) := fun p ds z => by
    rcases hp with h | ⟨d, h⟩ <;> (rw [h] at z; cases z)
  have hl' : v < σ.length := by rw [← R.len]; exact hl
  have gs : ∀ j, (ρ.set v none)[j]? = if v = j then some none else ρ[j]? := fun j => get_set hl
  have gv : ∀ j, (σ.set v none)[j]? = if v = j then some none else σ[j]? := fun j => get_set hl'
  have own : ∀ b, Own (ρ.set v none) (σ.set v none) b → Own ρ σ b := fun b ⟨j, q, es, h1, h2⟩ => by
    rw [gs] at h1
    rw [gv] at h2
    by_cases e : v = j
    · rw [if_pos e] at h1; cases h1
    · rw [if_neg e] at h1 h2; exact ⟨j, q, es, h1, h2⟩
  have mv : Stp c ρ σ H (ρ.set v none) (σ.set v none) H := fun b o e n => ⟨e, fun z => n (z.elim .inl fun x => .inr (own b x))⟩
  refine ⟨⟨by rw [List.length_set, List.length_set]; exact R.len, fun j d' e => ?_, fun j q es e => ?_, fun j k q q' es es' b h1 h2 h3 h4 => ?_, fun j b => ?_, R.pA, R.old, R.av⟩, mv⟩
  · rw [gs] at e
    rw [gv]
    by_cases e1 : v = j
    · rw [if_pos e1] at e; cases e
    · rw [if_neg e1] at e
      obtain ⟨u, h1, h2⟩ := R.val j d' e
      exact ⟨u, by rw [if_neg e1]; exact h1, h2.mv mv⟩
  · rw [gs] at e
    rw [gv]
    by_cases e1 : v = j
    · rw [if_pos e1] at e; cases e
    · rw [if_neg e1] at e
      obtain ⟨b, vs, h1, h2, h3, h4⟩ := R.lst j q es e
      exact ⟨b, vs, by rw [if_neg e1]; exact h1, h2, h3.mv mv, h4⟩
  · rw [gs] at h1 h2
    rw [gv] at h3 h4
    by_cases e1 : v = j
    · rw [if_pos e1] at h1; cases h1
    · by_cases e2 : v = k
      · rw [if_pos e2] at h2; cases h2
      · rw [if_neg e1] at h1 h3
        rw [if_neg e2] at h2 h4
        exact R.dis j k q q' es es' b h1 h2 h3 h4
  · rw [R.pin, gs, gv]
    by_cases e : v = j
    · subst e
      rw [if_pos rfl, if_pos rfl]
      constructor
      · rintro ⟨es, h1, h2⟩; exact absurd h1 (nl true es)
      · rintro ⟨es, h1, h2⟩; cases h1
    · rw [if_neg e, if_neg e]
theorem wipeR_len (ρ : Rho) : ∀ vs : List Nat, (wipeR ρ vs).length = ρ.length
  | [] => rfl
  | v :: vs => by unfold wipeR; rw [List.length_set, wipeR_len ρ vs]
theorem wipeR_get (ρ : Rho) : ∀ (vs : List Nat) (j : Nat), (wipeR ρ vs)[j]? = if j ∈ vs ∧ j < ρ.length then some none else ρ[j]?
  | [], j => by simp [wipeR]
  | v :: vs, j => by
    unfold wipeR
    rw [List.getElem?_set, wipeR_len, wipeR_get ρ vs j]
    by_cases e : v = j
    · subst e
      by_cases h : v < ρ.length
      · simp [h]
      · simp [h]
    · simp [e, Ne.symm e]
theorem wipe_get (σ : L2.St) : ∀ (vs : List Nat) (j : Nat), (wipe σ vs)[j]? = if j ∈ vs ∧ j < σ.length then some none else σ[j]?
  | [], j => by simp [wipe]
  | v :: vs, j => by
    unfold wipe
    rw [List.getElem?_set, wipe_length, wipe_get σ vs j]
    by_cases e : v = j
    · subst e
      by_cases h : v < σ.length
      · simp [h]
      · simp [h]
    · simp [e, Ne.symm e]
theorem plain_iff {vs : List Nat} : plainAt ρ vs = true ↔ ∀ v ∈ vs, ρ[v]? = some none ∨ ∃ d, ρ[v]? = some (some (Cell.v d)) := by
  unfold plainAt
  rw [List.all_eq_true]
  refine ⟨fun h v hv => ?_, fun h v hv => ?_⟩
  · have := h v hv
    split at this
    · exact .inl (by assumption)
    · rename_i d hd; exact .inr ⟨d, hd⟩
    · cases this
  · rcases h v hv with e | ⟨d, e⟩ <;> simp [e]
theorem Rel.wipe (R : Rel K c ρ σ H) : ∀ {vs : List Nat}, plainAt ρ vs = true → Rel K c (wipeR ρ vs) (L2.wipe σ vs) H ∧ Stp c ρ σ H (wipeR ρ vs) (L2.wipe σ vs) H
  | [], _ => ⟨R, Mv.refl⟩
  | v :: vs, h => by
    have hv := plain_iff.mp h
    obtain ⟨R1, m1⟩ := Rel.wipe R (vs := vs) (plain_iff.mpr fun u hu => hv u (List.mem_cons_of_mem _ hu))
    have hp : (wipeR ρ vs)[v]? = some none ∨ ∃ d, (wipeR ρ vs)[v]? = some (some (Cell.v d)) := by
      rw [wipeR_get]
      by_cases e : v ∈ vs ∧ v < ρ.length
      · rw [if_pos e]; exact .inl rfl
      · rw [if_neg e]; exact hv v List.mem_cons_self
    obtain ⟨R2, m2⟩ := R1.clear hp
    exact ⟨R2, m1.trans m2⟩
theorem plain_wipe {vs : List Nat} (h : plainAt ρ vs = true) : plainAt (wipeR ρ vs) vs = true := plain_iff.mpr fun v hv => by
  rw [wipeR_get, if_pos ⟨hv, by rcases plain_iff.mp h v hv with e | ⟨d, e⟩ <;> exact lt_of_get e⟩]
  exact .inl rfl
theorem restR_len (ρ0 ρ : Rho) : ∀ vs : List Nat, (restR ρ0 ρ vs).length = ρ.length
  | [] => rfl
  | v :: vs => by unfold restR; rw [List.length_set, restR_len ρ0 ρ vs]
theorem restR_get (ρ0 ρ : Rho) : ∀ (vs : List Nat) (j : Nat), (restR ρ0 ρ vs)[j]? = if j ∈ vs ∧ j < ρ.length then some (ρ0[j]?.getD none) else ρ[j]?
  | [], j => by simp [restR]
  | v :: vs, j => by
    unfold restR
    rw [List.getElem?_set, restR_len, restR_get ρ0 ρ vs j]
    by_cases e : v = j
    · subst e
      by_cases h : v < ρ.length
      · simp [h]
      · simp [h]
    · simp [e, Ne.symm e]
theorem Rel.rest {c' : Act K} {ρ1 ρ2 : Rho} {H1 Hi : Hp} {vs : List Nat} (R1 : Rel K c ρ1 σ H1) (R2 : Rel K c' ρ2 (L2.wipe σ vs) Hi) (m : Mv (Av c ρ1 σ) H1 (Av c' ρ2 (L2.wipe σ vs)) Hi) (h1 : plainAt ρ1 vs = true) (h2 : plainAt ρ2 vs = true) :
    Rel K c' (restR ρ1 ρ2 vs) σ Hi ∧ (∀ b, Own (restR ρ1 ρ2 vs) σ b ↔ Own ρ2 (L2.wipe σ vs) b) := by
  have l1 := R1.len
  have l2 : ρ2.length = σ.length := by rw [R2.len, wipe_length]
  have p1 := plain_iff.mp h1
  have p2 := plain_iff.mp h2
  have inlen : ∀ j ∈ vs, j < ρ2.length := fun j hj => by rcases p2 j hj with e | ⟨d, e⟩ <;> exact lt_of_get e
  have gin : ∀ j, j ∈ vs → (restR ρ1 ρ2 vs)[j]? = ρ1[j]? := fun j hj => by
    rw [restR_get, if_pos ⟨hj, inlen j hj⟩]
    rcases p1 j hj with e | ⟨d, e⟩ <;> rw [e] <;> rfl
  have gout : ∀ j, j ∉ vs → (restR ρ1 ρ2 vs)[j]? = ρ2[j]? := fun j hj => by rw [restR_get, if_neg fun z => hj z.1]
  have sout : ∀ j, j ∉ vs → (L2.wipe σ vs)[j]? = σ[j]? := fun j hj => by rw [wipe_get, if_neg fun z => hj z.1]
  have nl1 : ∀ j ∈ vs, ∀ p ds, ρ1[j]? ≠ some (some (Cell.l p ds)) := fun j hj p ds z => by
    rcases p1 j hj with h | ⟨d, h⟩ <;> (rw [h] at z; cases z)
  have nl2 : ∀ j ∈ vs, ∀ p ds, ρ2[j]? ≠ some (some (Cell.l p ds)) := fun j hj p ds z => by
    rcases p2 j hj with h | ⟨d, h⟩ <;> (rw [h] at z; cases z)
  have own : ∀ b, Own (restR ρ1 ρ2 vs) σ b ↔ Own ρ2 (L2.wipe σ vs) b := fun b => by
    constructor
    · rintro ⟨j, q, es, g1, g2⟩
      by_cases hj : j ∈ vs
      · rw [gin j hj] at g1; exact absurd g1 (nl1 j hj q es)
      · exact ⟨j, q, es, by rw [← gout j hj]; exact g1, by rw [sout j hj]; exact g2⟩
    · rintro ⟨j, q, es, g1, g2⟩
      by_cases hj : j ∈ vs
      · exact absurd g1 (nl2 j hj q es)
      · exact ⟨j, q, es, by rw [gout j hj]; exact g1, by rw [← sout j hj]; exact g2⟩
  have mv : Mv (Av c' ρ2 (L2.wipe σ vs)) Hi (Av c' (restR ρ1 ρ2 vs) σ) Hi := fun a o e n => ⟨e, fun z => n (z.elim .inl fun y => .inr ((own a).mp y))⟩
  refine ⟨⟨by rw [restR_len]; exact l2, fun j d e => ?_, fun j q es e => ?_, fun j k q q' es es' b g1 g2 g3 g4 => ?_, fun j b => ?_, R2.pA, R2.old, R2.av⟩, own⟩
  · by_cases hj : j ∈ vs
    · rw [gin j hj] at e
      obtain ⟨v, w1, w2⟩ := R1.val j d e
      exact ⟨v, w1, (w2.mv m).mv mv⟩
    · rw [gout j hj] at e
      obtain ⟨v, w1, w2⟩ := R2.val j d e
      exact ⟨v, by rw [← sout j hj]; exact w1, w2.mv mv⟩
  · by_cases hj : j ∈ vs
    · rw [gin j hj] at e; exact absurd e (nl1 j hj q es)
    · rw [gout j hj] at e
      obtain ⟨b, us, w1, w2, w3, w4⟩ := R2.lst j q es e
      exact ⟨b, us, by rw [← sout j hj]; exact w1, w2, w3.mv mv, w4⟩
  · by_cases hj : j ∈ vs
    · rw [gin j hj] at g1; exact absurd g1 (nl1 j hj _ _)
    · by_cases hk : k ∈ vs
      · rw [gin k hk] at g2; exact absurd g2 (nl1 k hk _ _)
      · rw [gout j hj] at g1
        rw [gout k hk] at g2
        exact R2.dis j k q q' es es' b g1 g2 (by rw [sout j hj]; exact g3) (by rw [sout k hk]; exact g4)
  · rw [R2.pin]
    by_cases hj : j ∈ vs
    · constructor
      · rintro ⟨es, g1, _⟩; exact absurd g1 (nl2 j hj _ _)
      · rintro ⟨es, g1, _⟩; rw [gin j hj] at g1; exact absurd g1 (nl1 j hj _ _)
    · rw [gout j hj, sout j hj]
/-- a list kept apart is written -/
theorem Rel.scratch (R : Rel K c ρ σ H) {p : Addr} {o : HO} (hA : c.A p) (hn : ∀ i, c.pn i ≠ some p) (h0 : c.H0 p = none) : Rel K c ρ σ (upd H p o) ∧ Stp c ρ σ H ρ σ (upd H p o) := by
  have mv : Stp c ρ σ H ρ σ (upd H p o) := fun b x e n => ⟨by rw [upd_ne fun z => n (by subst z; exact .inl hA)]; exact e, n⟩
  refine ⟨⟨R.len, fun j d e => ?_, fun j q es e => ?_, R.dis, R.pin, R.pA, fun b x e n => ?_, fun b hb => ?_⟩, mv⟩
  · obtain ⟨v, w1, w2⟩ := R.val j d e
    exact ⟨v, w1, w2.mv mv⟩
  · obtain ⟨b, us, w1, w2, w3, w4⟩ := R.lst j q es e
    have nb : b ≠ p := fun z => by
      subst z
      cases q with
      | false => exact (w4 rfl).2 hA
      | true => exact hn j ((R.pin j b).mpr ⟨es, e, w1⟩)
    exact ⟨b, us, w1, by rw [upd_ne nb]; exact w2, w3.mv mv, w4⟩
  · have nb : b ≠ p := fun z => by subst z; rw [h0] at e; cases e
    rw [upd_ne nb]
    exact R.old b x e n
  · by_cases z : b = p
    · subst z; rw [upd_same]; exact fun z => nomatch z
    · rw [upd_ne z]; exact R.av b hb
theorem ts_upd {K : PySem.W.Frag} {H : Hp} {p : Addr} {o : HO} (h : TsOk K H) (h0 : H p = none) : TsOk K (upd H p o) := fun x hx cc q ht => by
  rw [upd_ne fun z => by subst z; rw [h x hx cc q ht] at h0; cases h0]
  exact h x hx cc q ht
theorem tp_upd {pn : Nat → Option Addr} {H : Hp} {p : Addr} {o : HO} (h : ∀ i a, pn i = some a → ∃ us, H a = some (.lst us)) (h0 : H p = none) : ∀ i a, pn i = some a → ∃ us, upd H p o a = some (.lst us) := fun i a z => by
  obtain ⟨us, e⟩ := h i a z
  exact ⟨us, by rw [upd_ne fun y => by subst y; rw [h0] at e; cases e]; exact e⟩
def Act.mem {K : PySem.W.Frag} (c : Act K) (p : Addr) (o : HO) (h0 : c.H0 p = none) : Act K := { c with H0 := upd c.H0 p o, ts := ts_upd c.ts h0, tp := tp_upd c.tp h0 }
theorem Rel.memo (R : Rel K c ρ σ H) {p : Addr} {o : HO} (h0 : c.H0 p = none) (hA : c.A p) (h : H p = some o) : Rel K (c.mem p o h0) ρ σ H :=
  ⟨R.len, R.val, fun j q es e => by
    obtain ⟨b, us, w1, w2, w3, w4⟩ := R.lst j q es e
    refine ⟨b, us, w1, w2, w3, fun z => ⟨?_, (w4 z).2⟩⟩
    show upd c.H0 p o b = none
    rw [upd_ne fun y => (w4 z).2 (by subst y; exact hA)]
    exact (w4 z).1, R.dis, R.pin, R.pA, fun b x e n => by
    by_cases z : b = p
    · subst z
      have e' : upd c.H0 b o b = some x := e
      rw [upd_same] at e'
      cases e'
      exact h
    · exact R.old b x (by
        have e' : upd c.H0 p o b = some x := e
        rw [upd_ne z] at e'
        exact e') n, R.av⟩
theorem Rel.unmemo {p : Addr} {o : HO} {h0 : c.H0 p = none} (R : Rel K (c.mem p o h0) ρ σ H) (_ : c.H0 p = none) (hn : ∀ i, c.pn i ≠ some p) : Rel K c ρ σ H ∧ H p = some o := by
  refine ⟨⟨R.len, R.val, fun j q es e => ?_, R.dis, R.pin, R.pA, fun b x e n => ?_, R.av⟩, R.old p o upd_same hn⟩
  · obtain ⟨b, us, w1, w2, w3, w4⟩ := R.lst j q es e
    refine ⟨b, us, w1, w2, w3, fun z => ⟨?_, (w4 z).2⟩⟩
    have e1 : upd c.H0 p o b = none := (w4 z).1
    by_cases y : b = p
    · subst y; exact h0
    · rw [upd_ne y] at e1; exact e1
  · refine R.old b x ?_ n
    show upd c.H0 p o b = some x
    rw [upd_ne fun z => by subst z; rw [h0] at e; cases e]
    exact e
end
section
variable {X : Cx} {e a b : Expr} {pos : Pos} {f g h : EF} {tf tg : TF} {n m : NF} {es : List Expr}
theorem ptst_nil : PTs X [] (tT X.K tYesF) := ⟨fun pins s σ H Q I q => pts_nil.run pins s σ H Q I (by
  obtain ⟨c, ρ, b, ρ', R, e, q⟩ := q
  cases e
  exact q H R Mv.refl)⟩
theorem ptst_one (h : PT X a (tT X.K tf)) : PTs X [a] (tT X.K tf) := pts_one h
/-- a comprehension's reading -/
theorem rd_comp {K : PySem.W.Frag} {it : NF} {G : GF} {is vs : List Nat} (his : ∀ j ∈ is, j ∈ vs) : ∀ σ H Q, tN K (nComp it G tf f vs) σ H Q → tLc (tI K it) (tG K G is) (tT K tf) (tE K f) vs σ H Q := fun σ H Q ⟨c, ρ, ds, ρ', R, e, q⟩ => by
  unfold nComp at e
  split at e
  · rename_i ds0 ρ1 h1
    split at e
    · rename_i hp
      split at e
      · rename_i out ρ2 h2
        obtain ⟨e1, e2⟩ := so e
        subst e1 e2
        refine ⟨c, ρ, ds0, ρ1, R, h1, fun J H1 R1 m1 jo => fun Dd hD => ?_⟩
        have hn : ∀ i, c.pn i ≠ some Dd := fun i z => R1.av Dd (R1.pA i Dd z) hD
        have h0 : c.H0 Dd = none := R1.fresh0 hD
        obtain ⟨Rw, mw⟩ := R1.wipe hp
        have Rw' : Rel K (c.plus Dd) (wipeR ρ1 vs) (wipe σ vs) (upd H1 Dd (.lst [])) := Rw.plus hD (kp_upd hD) (by rw [upd_same]; exact fun z => nomatch z)
        have mw' : Mv (Av c ρ1 σ) H1 (Av (c.plus Dd) (wipeR ρ1 vs) (wipe σ vs)) (upd H1 Dd (.lst [])) := mw.trans (Rw.mvP hD (kp_upd hD))
        refine ⟨fun i m Hi => m = ds0.length - i ∧ i ≤ ds0.length ∧ ∃ ρi acc us, plainAt ρi vs = true ∧ Rel K (c.plus Dd) ρi (wipe σ vs) Hi ∧ Hi Dd = some (.lst us) ∧ RpA K (Av (c.plus Dd) ρi (wipe σ vs)) Hi us acc ∧
          Mv (Av c ρ1 σ) H1 (Av (c.plus Dd) ρi (wipe σ vs)) Hi ∧ compL G tf f vs (ds0.drop i) acc ρi = some (out, ρ2),
          ⟨ds0.length, by simp, Nat.zero_le _, wipeR ρ1 vs, [], [], plain_wipe hp, Rw', upd_same, .nil, mw', h2⟩, ?_⟩
        rintro i m Hi ⟨rfl, hi, ρi, acc, us, hpi, Ri, hDi, ri, mi, ei⟩
        obtain ⟨jg, js⟩ := jo _ _ _ Hi mi
        cases hd : ds0.drop i with
        | nil =>
          rw [hd] at ei
          unfold compL at ei
          obtain ⟨e1, e2⟩ := so ei
          subst e1 e2
          have : i = ds0.length := by
            have := congrArg List.length hd
            rw [List.length_drop, List.length_nil] at this
            omega
          subst this
          obtain ⟨Rr, own⟩ := R1.rest Ri mi hp hpi
          have mo : Mv (Av (c.plus Dd) ρi (wipe σ vs)) Hi (Av (c.plus Dd) (restR ρ1 ρi vs) σ) Hi := fun b o eb nb => ⟨eb, fun z => nb (z.elim .inl fun y => .inr ((own b).mp y))⟩
          have mt : Mv (Av c ρ1 σ) H1 (Av c (restR ρ1 ρi vs) σ) Hi := (mi.trans mo).trans mv_unplus
          refine .inl ⟨js, q Dd us Hi Rr hDi (ri.mv mo) (fun z => ?_) h0 (avOf (K := K) m1 hD) (m1.trans mt)⟩
          rcases z with z | z
          · exact R1.av Dd z hD
          · obtain ⟨j, p, es, w1, w2⟩ := (own Dd).mp z
            obtain ⟨b, us', g1, g2, g3, g4⟩ := Ri.lst j p es w1
            rw [w2] at g1
            cases g1
            cases p with
            | false => exact (g4 rfl).2 (.inr rfl)
            | true => exact hn j ((Ri.pin j Dd).mpr ⟨es, w1, w2⟩)
        | cons d r =>
          obtain ⟨g1, g2⟩ := drop_cons hd
          rw [hd] at ei
          obtain ⟨k1, k2⟩ := jg i d g1
          have hlt := lt_of_get g1
          unfold compL at ei
          split at ei
          · cases ei
          · rename_i ρa ea
            refine .inr ⟨k1, fun H' => ds0.length - (i + 1) = ds0.length - (i + 1) ∧ i + 1 ≤ ds0.length ∧ ∃ ρi acc us, plainAt ρi vs = true ∧ Rel K (c.plus Dd) ρi (wipe σ vs) H' ∧ H' Dd = some (.lst us) ∧ RpA K (Av (c.plus Dd) ρi (wipe σ vs)) H' us acc ∧
              Mv (Av c ρ1 σ) H1 (Av (c.plus Dd) ρi (wipe σ vs)) H' ∧ compL G tf f vs (ds0.drop (i + 1)) acc ρi = some (out, ρ2), fun H' z => ⟨ds0.length - (i + 1), by omega, z⟩, fun x H' y => ?_⟩
            obtain ⟨rfl, rx⟩ := k2 x H' y
            refine ⟨c.plus Dd, ρi, d, ρa, Ri, rx, ea, fun σ2 Ra ma hl hk => ?_⟩
            have hw : wipe σ2 vs = wipe σ vs := by
              apply List.ext_getElem?
              intro j
              rw [wipe_get, wipe_get]
              rw [hl, wipe_length]
              by_cases hj : j ∈ vs
              · by_cases hj2 : j < σ.length
                · rw [if_pos ⟨hj, hj2⟩, if_pos ⟨hj, hj2⟩]
                · rw [if_neg fun z => hj2 z.2, if_neg fun z => hj2 z.2, List.getElem?_eq_none (by rw [hl, wipe_length]; omega), List.getElem?_eq_none (by omega)]
              · rw [if_neg fun z => hj z.1, if_neg fun z => hj z.1, hk j fun z => hj (his j z), wipe_get, if_neg fun z => hj z.1]
            refine ⟨hw, ?_⟩
            have hA : (c.plus Dd).A Dd := .inr rfl
            have Ra' := Ra.memo h0 hA hDi
            split at ei
            · cases ei
            · rename_i ρb eb
              split at ei
              · rename_i hpb
                refine ⟨_, ρa, false, ρb, Ra', eb, fun H3 R3 m3 => iteF ?_⟩
                obtain ⟨R3', hD3⟩ := R3.unmemo h0 hn
                obtain ⟨R4, m4⟩ := R3'.wipe hpb
                rw [hw] at R4 m4
                have mm := ma.trans (Mv.trans m3 m4)
                exact ⟨rfl, hlt, wipeR ρb vs, acc, us, plain_wipe hpb, R4, hD3, ri.mv mm, mi.trans mm, by rw [g2]; exact ei⟩
              · cases ei
            · rename_i ρb eb
              split at ei
              · cases ei
              · rename_i y ρc ec
                split at ei
                · rename_i hpc
                  simp only [Bool.and_eq_true, decide_eq_true_eq] at hpc
                  refine ⟨_, ρa, true, ρb, Ra', eb, fun H3 R3 m3 => iteT ?_⟩
                  refine ⟨_, ρb, y, ρc, R3, ec, fun v H4 R4 r4 m4 => ?_⟩
                  obtain ⟨R4', hD4⟩ := R4.unmemo h0 hn
                  obtain ⟨R5, m5⟩ := R4'.wipe hpc.1
                  rw [hw] at R5 m5
                  obtain ⟨R6, m6⟩ := R5.scratch (o := .lst (us ++ [v])) hA hn h0
                  have mm := ma.trans (Mv.trans m3 (Mv.trans m4 (Mv.trans m5 m6)))
                  refine ⟨us, hD4, by rw [ri.length, sl16]; exact hpc.2, rfl, hlt, wipeR ρc vs, acc ++ [y], us ++ [v], plain_wipe hpc.1, R6, upd_same, (ri.mv mm).app (.cons (r4.mv (Mv.trans m5 m6)) .nil), mi.trans mm, by rw [g2]; exact ei⟩
                · cases ei
      · cases e
    · cases e
  · cases e
theorem en_comp {elt tgt iter : Expr} {ifs : List Expr} {scope : Scope} {own : List (Str × Nat)} {it : NF} {G : GF} {is : List Nat} (hc : X.calm = true) (hN : X.N.Nodup) (hi : PI X tgt iter (tI X.K it)) (ok : BlkOk X.N X.env.scope scope own)
    (hg : ∀ (s : Shared) (H : Hp) (C : Addr) (cl : List (Str × Addr)) (fp : List Addr), PG (X.blk s H scope (compEnvC scope cl C X.env) fp) tgt (tG X.K G is)) (ht : ∀ (s : Shared) (H : Hp) (C : Addr) (cl : List (Str × Addr)) (fp : List Addr), PTs (X.blk s H scope (compEnvC scope cl C X.env) fp) ifs (tT X.K tf))
    (he : ∀ (s : Shared) (H : Hp) (C : Addr) (cl : List (Str × Addr)) (fp : List Addr), PE (X.blk s H scope (compEnvC scope cl C X.env) fp) elt (tE X.K f)) (his : ∀ j ∈ is, j ∈ own.map (·.2) := by decide) (hs : ∀ x, foldedSetIterable iter X.env x = pure x := by intro _; rfl) :
    PE X (.ListComp elt [⟨tgt, iter, ifs, 0⟩] scope pos) (tN X.K (nComp it G tf f (own.map (·.2)))) := pe_of (pe_lc hc hN hi ok hg ht he hs) (rd_comp his)
end
end PG
end
section
set_option Elab.async false
set_option linter.all false
set_option maxRecDepth 100000
namespace PG
open PySem PySem.Spec PyProof.Rows L2
section
variable {X : Cx} {e a b : Expr} {pos : Pos} {f g h : EF} {tf tg : TF} {n m : NF} {es : List Expr} {F G' : SF}
theorem rd_setV {K : PySem.W.Frag} {i : Nat} {t : TE} (k : ∀ σ H Q, tE K f σ H Q → t σ H Q) : ∀ E σ H, tS K (sSet i f) E σ H → tAsg t (gName i) E σ H := fun E σ H ⟨c, ρ, o, ρ', R, e, q⟩ => by
    unfold sSet at e
    split at e
    · rename_i d ρ1 h1
      split at e
      · rename_i ρ2 h2
        obtain ⟨e1, e2⟩ := so e
        subst e1 e2
        refine k _ _ _ ⟨c, ρ, d, ρ1, R, h1, fun v H' R' r' m => ?_⟩
        obtain ⟨R2, m2⟩ := R'.assign h2 r'
        exact q _ H' R2 (m.trans m2)
      · cases e
    · cases e
theorem rd_setL {K : PySem.W.Frag} {i : Nat} {t : TE} (k : ∀ σ H Q, tN K n σ H Q → t σ H Q) : ∀ E σ H, tS K (sSetL i n) E σ H → tAsg t (gName i) E σ H := fun E σ H ⟨c, ρ, o, ρ', R, e, q⟩ => by
    unfold sSetL at e
    split at e
    · rename_i d ρ1 h1
      split at e
      · rename_i ρ2 h2
        obtain ⟨e1, e2⟩ := so e
        subst e1 e2
        refine k _ _ _ ⟨c, ρ, d, ρ1, R, h1, fun a vs H' R' ha r' na h0 nw m => ?_⟩
        obtain ⟨R2, m2⟩ := R'.assignL h2 ha r' h0 na R.pA
        refine q _ H' R2 fun b o eb nb => ?_
        obtain ⟨w1, w2⟩ := m b o eb nb
        have nba : b ≠ a := fun z => by subst z; rw [nw nb] at eb; cases eb
        exact m2 b o w1 fun z => z.elim (fun y => y.elim (fun y => w2 (.inl y)) nba) fun y => w2 (.inr y)
      · cases e
    · cases e
theorem rd_newE {K : PySem.W.Frag} {t : TE} (k : ∀ σ H Q, tN K n σ H Q → t σ H Q) : ∀ σ H Q, tE K (eLst n) σ H Q → t σ H Q := fun σ H Q ⟨c, ρ, d, ρ', R, e, q⟩ => by
  unfold eLst at e
  split at e
  · rename_i xs ρ1 h1
    obtain ⟨e1, e2⟩ := so e
    subst e1 e2
    refine k _ _ _ ⟨c, ρ, xs, ρ1, R, h1, fun a vs H' R' ha r' na h0 nw m => ?_⟩
    have R2 := R'.unplus R.pA
    exact q _ _ R2 (.lst ⟨ha, na⟩ (r'.mv mv_unplus)) m
  · cases e
section
variable {i : Nat} {y : Str} {py : Pos} {elt tgt iter : Expr} {ifs : List Expr} {scope : Scope} {own : List (Str × Nat)} {spos : Pos} {it : NF} {G : GF} {is : List Nat}
theorem es_setLcV (hc : X.calm = true) (hN : X.N.Nodup) (hy : X.N[i]? = some y) (hyl : X.env.scope.names.lookup y = some .local)
    (hsw : swapsWith (.ListComp elt [⟨tgt, iter, ifs, 0⟩] scope pos) (some (.Name y py)) spos.line X.env = pure true) (hi : PI X tgt iter (tI X.K it)) (ok : BlkOk X.N X.env.scope scope own)
    (hg : ∀ (s : Shared) (H : Hp) (C : Addr) (cl : List (Str × Addr)) (fp : List Addr), PG (X.blk s H scope (compEnvC scope cl C X.env) fp) tgt (tG X.K G is)) (ht : ∀ (s : Shared) (H : Hp) (C : Addr) (cl : List (Str × Addr)) (fp : List Addr), PTs (X.blk s H scope (compEnvC scope cl C X.env) fp) ifs (tT X.K tf))
    (he : ∀ (s : Shared) (H : Hp) (C : Addr) (cl : List (Str × Addr)) (fp : List Addr), PE (X.blk s H scope (compEnvC scope cl C X.env) fp) elt (tE X.K f)) (his : ∀ j ∈ is, j ∈ own.map (·.2) := by decide) (hs : ∀ x, foldedSetIterable iter X.env x = pure x := by intro _; rfl) :
    PS X (.Assign [.Name y py] (.ListComp elt [⟨tgt, iter, ifs, 0⟩] scope pos) spos) (tS X.K (sSet i (eLst (nComp it G tf f (own.map (·.2)))))) :=
  ps_of (ps_setLc hc hN hy hyl hsw hi ok hg ht he hs) (rd_setV (rd_newE (rd_comp his)))
theorem es_setLcL (hc : X.calm = true) (hN : X.N.Nodup) (hy : X.N[i]? = some y) (hyl : X.env.scope.names.lookup y = some .local)
    (hsw : swapsWith (.ListComp elt [⟨tgt, iter, ifs, 0⟩] scope pos) (some (.Name y py)) spos.line X.env = pure true) (hi : PI X tgt iter (tI X.K it)) (ok : BlkOk X.N X.env.scope scope own)
    (hg : ∀ (s : Shared) (H : Hp) (C : Addr) (cl : List (Str × Addr)) (fp : List Addr), PG (X.blk s H scope (compEnvC scope cl C X.env) fp) tgt (tG X.K G is)) (ht : ∀ (s : Shared) (H : Hp) (C : Addr) (cl : List (Str × Addr)) (fp : List Addr), PTs (X.blk s H scope (compEnvC scope cl C X.env) fp) ifs (tT X.K tf))
    (he : ∀ (s : Shared) (H : Hp) (C : Addr) (cl : List (Str × Addr)) (fp : List Addr), PE (X.blk s H scope (compEnvC scope cl C X.env) fp) elt (tE X.K f)) (his : ∀ j ∈ is, j ∈ own.map (·.2) := by decide) (hs : ∀ x, foldedSetIterable iter X.env x = pure x := by intro _; rfl) :
    PS X (.Assign [.Name y py] (.ListComp elt [⟨tgt, iter, ifs, 0⟩] scope pos) spos) (tS X.K (sSetL i (nComp it G tf f (own.map (·.2))))) :=
  ps_of (ps_setLc hc hN hy hyl hsw hi ok hg ht he hs) (rd_setL (rd_comp his))
end

/-! ### defs -/
@[simp] def rho0 (ds : List PyData) (m : Nat) : Rho := ds.map (fun d => some (Cell.v d)) ++ List.replicate m none
@[simp] def rhoL (ps ds : List PyData) (m : Nat) : Rho := some (Cell.l true ps) :: (ds.map (fun d => some (Cell.v d)) ++ List.replicate m none)
@[simp] def endP : Option (Out × Rho) → Option PyData
  | some (.ret d, _) => some d
  | some (.retL ds, _) => some (.list ds)
  | some (.next, _) => some .none
  | _ => none
@[simp] def endN : Option (Out × Rho) → Option (List PyData)
  | some (.retL ds, _) => some ds
  | _ => none
@[simp] def pool0 (ρ : Rho) : Option (List PyData) := match ρ with
  | some (.l true ps) :: _ => some ps
  | _ => none
@[simp] def endL : Option (Out × Rho) → Option (PyData × List PyData)
  | some (.ret d, ρ) => (match pool0 ρ with
    | some ps => some (d, ps)
    | none => none)
  | some (.retL ds, ρ) => (match pool0 ρ with
    | some ps => some (.list ds, ps)
    | none => none)
  | some (.next, ρ) => (match pool0 ρ with
    | some ps => some (.none, ps)
    | none => none)
  | _ => none
def defP (b : SF) (k m : Nat) : List PyData → Option PyData := fun ds => if ds.length = k then endP (b (rho0 ds m)) else none
def defN (b : SF) (k m : Nat) : List PyData → Option (List PyData) := fun ds => if ds.length = k then endN (b (rho0 ds m)) else none
def defL (b : SF) (k m : Nat) : List PyData → List PyData → Option (PyData × List PyData) := fun ps ds => if ds.length = k then endL (b (rhoL ps ds m)) else none
theorem rho0_get {ds : List PyData} {m i : Nat} {cl : Cell} (h : (rho0 ds m)[i]? = some (some cl)) : ∃ d, ds[i]? = some d ∧ cl = .v d := by
  unfold rho0 at h
  rw [List.getElem?_append] at h
  split at h
  · rw [List.getElem?_map] at h
    cases e : ds[i]? with
    | none => rw [e] at h; cases h
    | some d => rw [e] at h; cases h; exact ⟨d, rfl, rfl⟩
  · rw [List.getElem?_replicate] at h
    split at h <;> cases h
theorem start_get {N : List Str} {vs : List V} {i : Nat} {v : V} (h : vs[i]? = some v) : (L2.start N vs)[i]? = some (some v) := by
  unfold L2.start
  rw [List.getElem?_append_left (by rw [List.length_map]; exact lt_of_get h), List.getElem?_map, h]
  rfl
theorem rel_start {K : PySem.W.Frag} {A : Addr → Prop} {H : Hp} {N : List Str} {vs : List V} {ds : List PyData} {m : Nat} (ht : TsOk K H) (r : RpA K A H vs ds) (hA : ∀ a, A a → H a ≠ none) (hN : vs.length + m = N.length) :
    Rel K ⟨A, H, fun _ => none, ht, fun _ _ z => nomatch z⟩ (rho0 ds m) (L2.start N vs) H := by
  have nown : ∀ b, ¬ Own (rho0 ds m) (L2.start N vs) b := fun b ⟨i, p, es, h1, _⟩ => by
    obtain ⟨d, _, z⟩ := rho0_get h1
    cases z
  refine ⟨?_, fun i d h => ?_, fun i p es h => ?_, fun i j p q es es' b h1 => ?_, fun i b => ?_, (fun i b h => nomatch h), fun b o h _ => h, hA⟩
  · unfold rho0 L2.start
    rw [List.length_append, List.length_append, List.length_map, List.length_map, List.length_replicate, List.length_replicate, r.length]
    rw [r.length] at hN
    omega
  · obtain ⟨d', h1, h2⟩ := rho0_get h
    cases h2
    obtain ⟨v, h3, h4⟩ := r.get h1
    exact ⟨v, start_get h3, h4.mv fun b o e n => ⟨e, fun z => z.elim n (nown b)⟩⟩
  · obtain ⟨d', h1, h2⟩ := rho0_get h
    cases h2
  · obtain ⟨d', _, h2⟩ := rho0_get h1
    cases h2
  · constructor
    · intro h; cases h
    · rintro ⟨es, h1, _⟩
      obtain ⟨d', _, h2⟩ := rho0_get h1
      cases h2
theorem tp1 {H : Hp} {a : Addr} {us : List V} (ha : H a = some (.lst us)) : ∀ (i : Nat) (b : Addr), (if i = 0 then some a else none) = some b → ∃ us, H b = some (.lst us) := fun i b z => by
  split at z
  · cases z; exact ⟨us, ha⟩
  · cases z
theorem rhoL_get {ps ds : List PyData} {m i : Nat} {cl : Cell} (h : (rhoL ps ds m)[i]? = some (some cl)) : (i = 0 ∧ cl = .l true ps) ∨ ∃ j d, i = j + 1 ∧ ds[j]? = some d ∧ cl = .v d := by
  cases i with
  | zero =>
    unfold rhoL at h
    simp at h
    exact .inl ⟨rfl, h.symm⟩
  | succ j =>
    have h' : (rho0 ds m)[j]? = some (some cl) := by
      unfold rhoL at h
      simpa [rho0] using h
    obtain ⟨d, h1, h2⟩ := rho0_get h'
    exact .inr ⟨j, d, rfl, h1, h2⟩
theorem rel_startL {K : PySem.W.Frag} {A : Addr → Prop} {H : Hp} {N : List Str} {a : Addr} {us ws : List V} {ps ds : List PyData} {m : Nat} (ht : TsOk K H) (ha : H a = some (.lst us)) (rp : RpA K A H us ps) (hAa : A a) (r : RpA K A H ws ds) (hA : ∀ a, A a → H a ≠ none) (hN : ws.length + 1 + m = N.length) :
    Rel K ⟨A, H, fun i => if i = 0 then some a else none, ht, tp1 ha⟩ (rhoL ps ds m) (L2.start N (.ref a :: ws)) H := by
  have g0 : (L2.start N (.ref a :: ws))[0]? = some (some (V.ref a)) := start_get rfl
  have own : ∀ b, Own (rhoL ps ds m) (L2.start N (.ref a :: ws)) b → A b := fun b ⟨i, p, es, h1, h2⟩ => by
    rcases rhoL_get h1 with ⟨rfl, z⟩ | ⟨j, d, _, _, z⟩
    · rw [g0] at h2; cases h2; exact hAa
    · cases z
  have mv : Mv A H (Av ⟨A, H, fun i => if i = 0 then some a else none, ht, tp1 ha⟩ (rhoL ps ds m) (L2.start N (.ref a :: ws))) H := fun b o e n => ⟨e, fun z => z.elim n fun y => n (own b y)⟩
  refine ⟨?_, fun i d h => ?_, fun i p es h => ?_, fun i j p q es es' b h1 h2 h3 h4 => ?_, fun i b => ?_, fun i b h => ?_, fun b o h _ => h, hA⟩
  · unfold rhoL L2.start
    simp only [List.length_append, List.length_map, List.length_replicate, List.length_cons, r.length]
    rw [r.length] at hN
    omega
  · rcases rhoL_get h with ⟨_, z⟩ | ⟨j, d', rfl, h1, z⟩
    · cases z
    · cases z
      obtain ⟨v, h3, h4⟩ := r.get h1
      exact ⟨v, start_get (by simpa using h3), h4.mv mv⟩
  · rcases rhoL_get h with ⟨rfl, z⟩ | ⟨j, d', rfl, h1, z⟩
    · cases z
      exact ⟨a, us, g0, ha, rp.mv mv, fun z => nomatch z⟩
    · cases z
  · rcases rhoL_get h1 with ⟨rfl, _⟩ | ⟨_, _, _, _, z⟩
    · rcases rhoL_get h2 with ⟨rfl, _⟩ | ⟨_, _, _, _, z⟩
      · rfl
      · cases z
    · cases z
  · show (if i = 0 then some a else none) = some b ↔ _
    by_cases hi : i = 0
    · subst hi
      rw [if_pos rfl]
      constructor
      · intro h; cases h; exact ⟨ps, rfl, g0⟩
      · rintro ⟨es, h1, h2⟩; rw [g0] at h2; cases h2; rfl
    · rw [if_neg hi]
      constructor
      · intro h; cases h
      · rintro ⟨es, h1, h2⟩
        rcases rhoL_get h1 with ⟨rfl, _⟩ | ⟨_, _, _, _, z⟩
        · exact absurd rfl hi
        · cases z
  · have h' : (if i = 0 then some a else none) = some b := h
    by_cases hi : i = 0
    · rw [if_pos hi] at h'; cases h'; exact hAa
    · rw [if_neg hi] at h'; cases h'
end
section
variable {P : Program} {w : World} {K : PySem.W.Frag} {mg : Str → Option Value} {base : Heap} {x qual : Str} {st : Stmt} {fa : Addr} {fd : FuncData} {N ps : List Str} {j k m : Nat} {b : SF}
theorem ok_P (F : L2.Fun K x qual st fa fd) (S : FnScope N ps (defScope st)) (hk : ps.length = k) (hm : k + m = N.length)
    (hb : ∀ (cdv : Value) (A : Around) (outer : List Env) (s : Shared) (H : Hp) (E : XK), Room j (A.deeper (envOfC qual (defScope st) s.heap.objs.size fa cdv)) → PSs (cxOf CX0 P w K mg base N qual (defScope st) fa cdv A outer s H E).nox (defBody st) (tS K b)) :
    FnOk P w K mg base CX0 (j + 1) fa fd ps (spP K k (defP b k m)) := by
  refine F.ok S (fun vs H Q E h => h.1.trans hk.symm) fun cdv A outer s H vs Q E hr h => ?_
  obtain ⟨hl, ht, A', ds, r, ra, hA, e, q⟩ := h
  refine ⟨_, hb cdv A outer s H E hr, ?_⟩
  have R := rel_start (m := m) (N := N) ht ra hA (by omega)
  unfold defP at e
  split at e
  · cases eb : b (rho0 ds m) with
    | none => rw [eb] at e; cases e
    | some z =>
      obtain ⟨o, ρ'⟩ := z
      rw [eb] at e
      have kp : ∀ σ' H', Rel K ⟨A', H, fun _ => none, ht, fun _ _ z => nomatch z⟩ ρ' σ' H' → ∀ a o, H a = some o → H' a = some o := fun σ' H' R' a o h => R'.old a o h fun i z => nomatch z
      refine ⟨_, rho0 ds m, o, ρ', R, eb, ?_⟩
      cases o with
      | next => cases e; exact fun σ' H' R' _ => q .non H' (kp σ' H' R') .non
      | brk => cases e
      | cont => cases e
      | ret d => cases e; exact fun v σ' H' R' r' => q v H' (kp σ' H' R') r'
      | retL ds => cases e; exact fun a vs σ' H' R' ha r' h0 => q (.ref a) H' (kp σ' H' R') (.lst ⟨ha, fun z => hA a z h0⟩ (r'.mv fun b o e n => ⟨e, fun z => n (.inl z)⟩))
  · cases e
theorem ok_N (F : L2.Fun K x qual st fa fd) (S : FnScope N ps (defScope st)) (hk : ps.length = k) (hm : k + m = N.length)
    (hb : ∀ (cdv : Value) (A : Around) (outer : List Env) (s : Shared) (H : Hp) (E : XK), Room j (A.deeper (envOfC qual (defScope st) s.heap.objs.size fa cdv)) → PSs (cxOf CX0 P w K mg base N qual (defScope st) fa cdv A outer s H E).nox (defBody st) (tS K b)) :
    FnOk P w K mg base CX0 (j + 1) fa fd ps (spN K k (defN b k m)) := by
  refine F.ok S (fun vs H Q E h => h.1.trans hk.symm) fun cdv A outer s H vs Q E hr h => ?_
  obtain ⟨hl, ht, A', ds, r, ra, hA, e, q⟩ := h
  refine ⟨_, hb cdv A outer s H E hr, ?_⟩
  have R := rel_start (m := m) (N := N) ht ra hA (by omega)
  unfold defN at e
  split at e
  · cases eb : b (rho0 ds m) with
    | none => rw [eb] at e; cases e
    | some z =>
      obtain ⟨o, ρ'⟩ := z
      rw [eb] at e
      have kp : ∀ σ' H', Rel K ⟨A', H, fun _ => none, ht, fun _ _ z => nomatch z⟩ ρ' σ' H' → ∀ a o, H a = some o → H' a = some o := fun σ' H' R' a o h => R'.old a o h fun i z => nomatch z
      refine ⟨_, rho0 ds m, o, ρ', R, eb, ?_⟩
      cases o with
      | next => cases e
      | brk => cases e
      | cont => cases e
      | ret d => cases e
      | retL ds => cases e; exact fun a vs σ' H' R' ha r' h0 => q a vs H' (kp σ' H' R') h0 ha r'
  · cases e
theorem pool_get {ρ : Rho} {ps' : List PyData} (h : pool0 ρ = some ps') : ρ[0]? = some (some (.l true ps')) := by
  unfold pool0 at h
  split at h
  · cases h; rfl
  · cases h
theorem ok_L (F : L2.Fun K x qual st fa fd) (S : FnScope N ps (defScope st)) (hk : ps.length = k + 1) (hm : k + 1 + m = N.length)
    (hb : ∀ (cdv : Value) (A : Around) (outer : List Env) (s : Shared) (H : Hp) (E : XK), Room j (A.deeper (envOfC qual (defScope st) s.heap.objs.size fa cdv)) → PSs (cxOf CX0 P w K mg base N qual (defScope st) fa cdv A outer s H E).nox (defBody st) (tS K b)) :
    FnOk P w K mg base CX0 (j + 1) fa fd ps (spL K k (defL b k m)) := by
  refine F.ok S (fun vs H Q E h => h.1.trans hk.symm) fun cdv A outer s H vs Q E hr h => ?_
  obtain ⟨hl, ht, A', a, us, ws, pl, ds, r, pl', rfl, ha, rp, hAa, ra, hA, e, q⟩ := h
  refine ⟨_, hb cdv A outer s H E hr, ?_⟩
  have hws : ws.length = k := by simpa using hl
  have R := rel_startL (m := m) (N := N) ht ha rp hAa ra hA (by omega)
  unfold defL at e
  split at e
  · cases eb : b (rhoL pl ds m) with
    | none => rw [eb] at e; cases e
    | some z =>
      obtain ⟨o, ρ'⟩ := z
      rw [eb] at e
      have fin : ∀ (ps2 : List PyData), pool0 ρ' = some ps2 → ∀ σ' H', Rel K ⟨A', H, fun i => if i = 0 then some a else none, ht, tp1 ha⟩ ρ' σ' H' → (∀ b o, b ≠ a → H b = some o → H' b = some o) ∧ ∃ us', H' a = some (.lst us') ∧ RpA K A' H' us' ps2 := fun ps2 hp σ' H' R' => by
        refine ⟨fun b o nb h => R'.old b o h fun i z => ?_, ?_⟩
        · have z' : (if i = 0 then some a else none) = some b := z
          by_cases hi : i = 0
          · rw [if_pos hi] at z'; cases z'; exact nb rfl
          · rw [if_neg hi] at z'; cases z'
        · obtain ⟨a', us', g1, g2, g3, _⟩ := R'.lst 0 true ps2 (pool_get hp)
          obtain ⟨es, w1, w2⟩ := (R'.pin 0 a).mp rfl
          rw [g1] at w2
          cases w2
          exact ⟨us', g2, g3.mv av_sub⟩
      refine ⟨_, rhoL pl ds m, o, ρ', R, eb, ?_⟩
      cases o with
      | next =>
        intro σ' H' R' _
        cases hp : pool0 ρ' with
        | none => simp only [endL, hp] at e; cases e
        | some ps2 =>
          simp only [endL, hp] at e
          cases e
          obtain ⟨h1, us', h2, h3⟩ := fin _ hp σ' H' R'
          exact q .non H' us' h1 h2 h3 .non
      | brk => cases e
      | cont => cases e
      | ret d =>
        intro v σ' H' R' r'
        cases hp : pool0 ρ' with
        | none => simp only [endL, hp] at e; cases e
        | some ps2 =>
          simp only [endL, hp] at e
          cases e
          obtain ⟨h1, us', h2, h3⟩ := fin _ hp σ' H' R'
          exact q v H' us' h1 h2 h3 r'
      | retL es =>
        intro a2 vs σ' H' R' ha2 r' h0
        cases hp : pool0 ρ' with
        | none => simp only [endL, hp] at e; cases e
        | some ps2 =>
          simp only [endL, hp] at e
          cases e
          obtain ⟨h1, us', h2, h3⟩ := fin _ hp σ' H' R'
          exact q (.ref a2) H' us' h1 h2 h3 (.lst ⟨ha2, fun z => hA a2 z h0⟩ (r'.mv fun b o e n => ⟨e, fun z => n (.inl z)⟩))
  · cases e
/-- the law itself -/
theorem law_sp {F1 : List PyData → Option PyData} {K : PySem.W.Frag} {H : Hp} {a : Addr} {ns : List Int} (ht : TsOk K H) (hS : SqL K H a (ns.map V.int)) (hF : F1 [RO (ns.map PyData.int)] = some (.bool true)) :
    spP K 1 F1 [.ref a] H (fun v _ => v = .bl true) fun _ _ _ => False := by
  refine ⟨rfl, ht, fun _ => False, [RO (ns.map PyData.int)], .bool true, .cons (.ro (xs := ns.map V.int) ?_ ?_) .nil, fun _ z => z.elim, hF, fun v H' _ r => by cases r; rfl⟩
  · rcases hS with h | h
    · exact .inl ⟨h, id⟩
    · exact .inr h
  · clear hS hF ht
    induction ns with
    | nil => exact .nil
    | cons i ns ih => exact .int i ih
end
end PG
end
section
set_option Elab.async false
set_option linter.all false
set_option maxRecDepth 100000
namespace PG
open PySem PySem.Spec PyProof.Rows L2
/-! ### set(xs) of a list of ints -/
abbrev sObj (w : World) : Obj := { cls := .type "set", dict := none, data := .set #[] 0 (.fresh 0 0 (!w.params.followText "set-order")) }
section
variable {P : Program} {w : World} {A : Around} {E : Value → Shared → Prop} {s : Shared}
set_option maxHeartbeats 4000000 in
theorem setOfList {l : Addr} {items : Array Value} (ns : List Int) {Q : Value → Shared → Prop} (hh : A.handled = none) (hl : s.heap.IsList l items) (hit : IntsAre items.toList ns) (hb : ns.length + 1 < scanBound)
    (h : ∀ (h' : Heap) (tk c : Nat), SetR w h' s.heap.objs.size (fun j => decide (j ∈ ns)) c → c ≤ ns.length → (∀ b o, s.heap.get? b = some o → h'.get? b = some o) → Q (.ref s.heap.objs.size) { s with heap := h', toks := tk }) :
    wpAny (model P w) A (call (.type "set") [.ref l]) Q E s := by
  have hisz : items.size = ns.length := by simpa using IntsAre.length hit
  obtain ⟨c, tl, hmro⟩ := F.called_set.mro
  have h3 := F.called_set.made
  have h4 := F.called_set.sub
  apply wpAny_call
  apply codeAny_of_tree
  show wpAny _ _ (callAny (.type "set") _) _ _ _
  apply wpAny_pure
  refine ⟨Code.quiet_builtin _ (by decide +kernel), codeAny_builtin F.entry_type_call ?_⟩
  rw [Around.under_plain (weight_type_call_type "set" [.ref l] []) rfl]
  have h1 := F.called_set.notType
  have h2 := F.called_set.canCreate
  have hct := F.typeCall_set_1 (.ref l)
  repeat (any_goals (first | assumption | wp_step))
  refine codeAny_mono (code_set_led1 (.ref l) (E := E) (Q₁ := fun u s1 => u = .ref s.heap.objs.size ∧ s1 = { s with heap := s.heap.push (sObj w) }) ⟨rfl, rfl⟩) fun r s1 hr => ?_
  cases r with
  | error e => exact hr
  | ok fl =>
    cases fl with
    | ret u =>
      obtain ⟨rfl, rfl⟩ := hr
      have gS : (s.heap.push (sObj w)).get? s.heap.objs.size = some (sObj w) := Heap.get?_push_size _ rfl
      have gT : Shared.TypeIs { s with heap := s.heap.push (sObj w) } (.ref s.heap.objs.size) "set" := ⟨_, gS, rfl⟩
      have i1 := F.called_set.init.lookup
      have i2 := F.called_set.init.bind (.ref s.heap.objs.size)
      repeat (any_goals (first | assumption | wp_step))
      refine codeAny_mono (codeAny_call_builtin (R := wants (fun r s2 => r = .none ∧ ∃ h' tk c, s2 = { s with heap := h', toks := tk } ∧ SetR w h' s.heap.objs.size (fun j => decide (j ∈ ns)) c ∧ c ≤ ns.length ∧
          (∀ b o, s.heap.get? b = some o → h'.get? b = some o)) E) F.called_set.init.plain F.entry_set_init (check_set_init_1 gT ?_)) fun r2 s2 hr2 => ?_
      · obtain ⟨⟨oc, od, dt, sl⟩, hol, hcl, nl, hdl⟩ := hl
        simp only at hcl hdl
        subst hcl hdl
        have hol' : (s.heap.push (sObj w)).get? l = some { cls := .type "list", dict := od, data := .seq items nl, slots := sl } := Heap.get?_push_of_some _ hol
        have k1 := F.sub_list_set
        have k2 := F.sub_list_frozenset
        have k3 : (Value.type "list" == Value.type "dict") = false := by decide
        have hl1 : (s.heap.push (sObj w)).IsList l items := ⟨_, hol', rfl, nl, rfl⟩
        unfold Builtin.«set.__init__» noKeywords Builtin.Frozenset.updateFrom
        generalize hPI : pyIter = PI
        wp_walk
        subst hPI
        apply wpAny_pyIter_list hl1
        refine wpAny_bind (wpAny_runValue ?_)
        have lS : l < s.heap.objs.size := Heap.lt_size hol
        have a3 : A.in1.in1.in1.handled = none := by simp [hh]
        have nI : l ≠ (s.heap.push (sObj w)).objs.size := by
          rw [Heap.size_push]
          exact Nat.ne_of_lt (Nat.lt_succ_of_lt lS)
        have nS : s.heap.objs.size ∉ [(s.heap.push (sObj w)).objs.size, l] := by
          rw [Heap.size_push]
          simp only [List.mem_cons, List.not_mem_nil, or_false, not_or]
          exact ⟨Nat.ne_of_lt (Nat.lt_succ_self _), Nat.ne_of_gt lS⟩
        have hv : ∀ (i : Nat) (v : Value), items[i]? = some v → ∃ k t, ns[i]? = some k ∧ v = .int k t := fun i v hv => by
          have hi : i < ns.length := by rw [← hisz]; exact (Array.getElem?_eq_some_iff.mp hv).1
          obtain ⟨t, e⟩ := PyProof.Rows.IntsAre.int_at hit i v (by rw [Array.getElem?_toList]; exact hv)
          exact ⟨ns[i], t, List.getElem?_eq_getElem hi, by rw [e, List.getD_eq_getElem?_getD, List.getElem?_eq_getElem hi] <;> rfl⟩
        refine set_update_ints ((Walks.list a3 _ l nI items).toS) s.heap.objs.size nS ns hisz hb hv (items.size - 0) 0 _ (by omega) (Nat.zero_le _) ⟨⟨_, Heap.get?_push_size _ rfl, rfl, rfl⟩, (hl1.push _)⟩ ?g0 ?g1
        case g0 => exact ⟨0, Nat.le_refl 0, setR_new_at (Heap.get?_push_of_some _ gS)⟩
        case g1 =>
          intro s' c' hm hc' hS'
          obtain ⟨h', g2, d', tk', os'⟩ := s'
          obtain rfl : g2 = s.gens := hm.gens
          obtain rfl : d' = s.drawn := hm.drawn
          obtain rfl : os' = s.os := hm.os
          show wpAny _ _ _ _ _ _
          apply wpAny_pure
          show wpAny _ _ (ret Value.none) _ _ _
          rw [hisz] at hc'
          refine wpAny_pure ⟨rfl, h', tk', c', rfl, hS', hc', fun b o e => ?_⟩
          have hb0 : b < s.heap.objs.size := Heap.lt_size e
          refine hm.heap b o ?_ (Heap.get?_push_of_some _ (Heap.get?_push_of_some _ e))
          simp only [List.mem_cons, List.not_mem_nil, or_false, not_or, Heap.size_push]
          exact ⟨Nat.ne_of_lt hb0, Nat.ne_of_lt (Nat.lt_succ_of_lt hb0)⟩
      · cases r2 with
        | error e => exact hr2
        | ok fl2 =>
          cases fl2 with
          | ret z =>
            obtain ⟨rfl, h', tk, c', rfl, q1, q2, q3⟩ := hr2
            repeat (any_goals (first | assumption | wp_step))
            exact h h' tk c' q1 q2 q3
          | _ => exact hr2
    | _ => exact hr
end
section
variable {X : Cx} {e a b : Expr} {pos : Pos} {f g h : EF} {tf tg : TF} {n m : NF} {es : List Expr}
/-! ### sorted(set(xs)) -/
def intsOf : List PyData → Option (List Int)
  | [] => some []
  | .int i :: r => (match intsOf r with
    | some l => some (i :: l)
    | none => none)
  | _ :: _ => none
theorem intsOf_map : ∀ {ds : List PyData} {ns : List Int}, intsOf ds = some ns → ds = ns.map PyData.int
  | [], ns, h => by cases h; rfl
  | d :: r, ns, h => by
    unfold intsOf at h
    split at h
    · rename_i hh; cases hh
    · rename_i i r' hh
      cases hh
      split at h
      · rename_i l hl
        cases h
        rw [intsOf_map hl]
        rfl
      · cases h
    · cases h
/-- the members, ascending, each once -/
def insI (k : Int) : List Int → List Int
  | [] => [k]
  | x :: r => if k < x then k :: x :: r else if k = x then x :: r else x :: insI k r
def sortI : List Int → List Int
  | [] => []
  | k :: r => insI k (sortI r)
theorem mem_insI (k j : Int) : ∀ l : List Int, j ∈ insI k l ↔ j = k ∨ j ∈ l
  | [] => by simp [insI]
  | x :: r => by
    unfold insI
    by_cases h1 : k < x
    · rw [if_pos h1]; simp
    · rw [if_neg h1]
      by_cases h2 : k = x
      · rw [if_pos h2]
        subst h2
        simp
      · rw [if_neg h2, List.mem_cons, mem_insI k j r, List.mem_cons]
        constructor
        · rintro (h | h | h)
          · exact .inr (.inl h)
          · exact .inl h
          · exact .inr (.inr h)
        · rintro (h | h | h)
          · exact .inr (.inl h)
          · exact .inl h
          · exact .inr (.inr h)
theorem mem_sortI (j : Int) : ∀ l : List Int, j ∈ sortI l ↔ j ∈ l
  | [] => by simp [sortI]
  | k :: r => by
    unfold sortI
    rw [mem_insI, mem_sortI j r, List.mem_cons]
theorem pw_insI (k : Int) : ∀ l : List Int, l.Pairwise (· < ·) → (insI k l).Pairwise (· < ·)
  | [], _ => by simp [insI]
  | x :: r, h => by
    unfold insI
    obtain ⟨h1, h2⟩ := List.pairwise_cons.mp h
    by_cases c1 : k < x
    · rw [if_pos c1]
      refine List.pairwise_cons.mpr ⟨fun y hy => ?_, h⟩
      rcases List.mem_cons.mp hy with e | e
      · omega
      · have := h1 y e; omega
    · rw [if_neg c1]
      by_cases c2 : k = x
      · rw [if_pos c2]; exact h
      · rw [if_neg c2]
        refine List.pairwise_cons.mpr ⟨fun y hy => ?_, pw_insI k r h2⟩
        rcases (mem_insI k y r).mp hy with e | e
        · omega
        · exact h1 y e
theorem pw_sortI : ∀ l : List Int, (sortI l).Pairwise (· < ·)
  | [] => by simp [sortI]
  | k :: r => pw_insI k _ (pw_sortI r)
theorem len_insI (k : Int) : ∀ l : List Int, (insI k l).length ≤ l.length + 1
  | [] => by simp [insI]
  | x :: r => by
    unfold insI
    by_cases c1 : k < x
    · rw [if_pos c1]; simp
    · rw [if_neg c1]
      by_cases c2 : k = x
      · rw [if_pos c2]; simp
      · rw [if_neg c2]; simp; exact len_insI k r
theorem len_sortI : ∀ l : List Int, (sortI l).length ≤ l.length
  | [] => by simp [sortI]
  | k :: r => by
    have h1 := len_insI k (sortI r)
    have h2 := len_sortI r
    unfold sortI
    simp only [List.length_cons]
    omega
/-- two ascending lists with the same members are one -/
theorem pw_eq : ∀ {l m : List Int}, l.Pairwise (· < ·) → m.Pairwise (· < ·) → (∀ k, k ∈ l ↔ k ∈ m) → l = m
  | [], [], _, _, _ => rfl
  | [], y :: m, _, _, h => by have := (h y).mpr (by simp); simp at this
  | x :: l, [], _, _, h => by have := (h x).mp (by simp); simp at this
  | x :: l, y :: m, hl, hm, h => by
    obtain ⟨l1, l2⟩ := List.pairwise_cons.mp hl
    obtain ⟨m1, m2⟩ := List.pairwise_cons.mp hm
    have e : x = y := by
      rcases List.mem_cons.mp ((h x).mp (by simp)) with e | e
      · exact e
      · rcases List.mem_cons.mp ((h y).mpr (by simp)) with e2 | e2
        · exact e2.symm
        · have a1 := m1 x e
          have a2 := l1 y e2
          omega
    subst e
    rw [pw_eq l2 m2 fun k => ?_]
    constructor
    · intro hk
      rcases List.mem_cons.mp ((h k).mp (List.mem_cons_of_mem _ hk)) with e | e
      · subst e; exact absurd (l1 k hk) (Int.lt_irrefl _)
      · exact e
    · intro hk
      rcases List.mem_cons.mp ((h k).mpr (List.mem_cons_of_mem _ hk)) with e | e
      · subst e; exact absurd (m1 k hk) (Int.lt_irrefl _)
      · exact e
/-- sorted(set(xs)): fewer than 64 items -/
def dSortSet : PyData → Option (List PyData)
  | .list ds => (match intsOf ds with
    | some ns => if ns.length < 64 then some ((sortI ns).map PyData.int) else none
    | none => none)
  | _ => none
def rSetLI (K : PySem.W.Frag) (w : World) : List V → Hp → VK → Prop := fun xs H Q => ∃ (l : Addr) (ns : List Int), xs = [.ref l] ∧ SqL K H l (ns.map V.int) ∧ ns.length < 64 ∧
  ∀ p c, c ≤ ns.length → H p = none → Q (.ref p) (upd H p (SetO w p (fun j => decide (j ∈ ns)) c))
theorem cr_setLI (hc : X.calm = true) : CallR X (.type "set") (rSetLI X.K X.w) := by
  intro pins s σ H xs us Q I r hq
  obtain ⟨l, ns, rfl, hl, hn, q⟩ := hq
  obtain ⟨u, rfl, ru⟩ := vals1 r
  cases ru
  obtain ⟨its, rv, pl, hz⟩ := I.list hl
  refine setOfList ns (I.ok.hd hc) pl.isList (by simpa using intsAre_of rv) (by unfold scanBound; omega) fun h' tk c R1 hc' k => ?_
  have hf : H s.heap.objs.size = none := I.hok.fresh (Nat.le_refl _)
  exact ⟨.ref _, _, I.laid (t' := tk) k (Nat.le_refl _) (setO_new R1), rfl, q _ c hc' hf⟩
theorem en_sortSet {p1 p2 q1 : Pos} (hc : X.calm = true) (hg : Gl X "sorted") (hm : X.mg "sorted" = none) (hg2 : Gl X "set") (hm2 : X.mg "set" = none) (ha : PE X a (tE X.K f))
    (na : starEach [a] X.env = (false, eval a X.env) :: starEach [] X.env := by rfl) (ns1 : starEach [.Call (.Name "set" p2) [a] [] q1] X.env = (false, eval (.Call (.Name "set" p2) [a] [] q1) X.env) :: starEach [] X.env := by rfl) :
    PE X (.Call (.Name "sorted" p1) [.Call (.Name "set" p2) [a] [] q1] [] pos) (tN X.K (nCall (n1of dSortSet) (nCons f nNil))) :=
  pe_of (pe_callB (cr_sortedSet hc) hg hm (by decide +kernel) (pa_cons (pe_callTy (cr_setLI hc) hg2 hm2 PyProof.Rows.boot_set (pa_cons ha pa_nil na) (he := na)) pa_nil ns1) (he := ns1)) fun σ H Q ⟨c, ρ, d, ρ', R, e, q⟩ => by
    unfold nCall at e
    split at e
    · rename_i xs ρ1 h1
      split at e
      · rename_i z h2
        obtain ⟨e1, e2⟩ := so e
        subst e1 e2
        obtain ⟨x, ρ2, xs', w1, w2, rfl⟩ := ncons_inv h1
        cases w2
        obtain ⟨y, hy, h3⟩ := n1_inv h2
        cases hy
        unfold dSortSet at h3
        split at h3
        · rename_i ds
          split at h3
          · rename_i ns hns
            split at h3
            · rename_i hlen
              cases h3
              refine ⟨c, ρ, _, ρ1, R, w1, fun v H1 R1 r1 m1 => ?_⟩
              cases r1 with
              | @lst p xs _ l al =>
                have hds := intsOf_map hns
                subst hds
                have hxs := al.ints
                subst hxs
                refine ⟨p, ns, rfl, l.sq, hlen, fun p2 cc hcc hp2 => ?_⟩
                refine ⟨p2, _, cc, rfl, upd_same, by omega, fun ms p3 o1 o2 o3 hp3 => ?_⟩
                have hms : ms = sortI ns := pw_eq o1 (pw_sortI ns) fun k => by rw [o2, mem_sortI]; simp
                subst hms
                have g1 : ∀ a o, H1 a = some o → upd (upd H1 p2 (SetO X.w p2 (fun j => decide (j ∈ ns)) cc)) p3 (.lst ((sortI ns).map V.int)) a = some o := fun b o eb => kp_upd hp3 b o (kp_upd hp2 b o eb)
                have n3 : H1 p3 = none := by
                  cases e3 : H1 p3 with
                  | none => rfl
                  | some o =>
                    have := kp_upd (o := SetO X.w p2 (fun j => decide (j ∈ ns)) cc) hp2 p3 o e3
                    rw [this] at hp3
                    cases hp3
                refine q p3 _ _ (R1.plus n3 g1 (by rw [upd_same]; exact fun z => nomatch z)) upd_same (RpA.ofInts _) (R1.noAv n3) (R1.fresh0 n3) (avOf (K := X.K) m1 n3) (m1.trans (R1.mvG g1))
            · cases h3
          · cases h3
        · cases h3
      · cases e
    · cases e
end
end PG
end
section
set_option Elab.async false
set_option linter.all false
set_option maxRecDepth 100000
namespace PG
open PySem PySem.Spec PyProof.Rows L2
section
variable {X : Cx} {e a b : Expr} {pos : Pos} {f g h : EF} {tf tg : TF} {n m : NF} {es : List Expr}
/-! ### owned lists, read -/
theorem unl_inv {o : PyData → Option PyData} {i : Nat} {ρ ρ' : Rho} {d : PyData} (h : eUnL o i ρ = some (d, ρ')) : ∃ p ds, ρ[i]? = some (some (Cell.l p ds)) ∧ o (.list ds) = some d ∧ ρ' = ρ := by
  unfold eUnL at h
  split at h
  · rename_i p ds h1
    split at h
    · rename_i z h2
      obtain ⟨e1, e2⟩ := so h
      subst e1 e2
      exact ⟨p, ds, h1, h2, rfl⟩
    · cases h
  · cases h
theorem ev_lenO {i : Nat} {p : Pos} (hv : PE X a (tVar i)) (hg : Gl X "len") (hm : X.mg "len" = none) (na : starEach [a] X.env = (false, eval a X.env) :: starEach [] X.env := by rfl) : PE X (.Call (.Name "len" p) [a] [] pos) (tE X.K (eUnL dLen i)) :=
  pe_of (pe_callB call_len_seq hg hm PySem.boot_len (pa_cons hv pa_nil na) (he := na)) fun σ H Q ⟨c, ρ, d, ρ', R, e, q⟩ => by
    obtain ⟨pp, ds, h1, h2, rfl⟩ := unl_inv e
    obtain ⟨l, us, g1, g2, g3, _⟩ := R.lst i pp ds h1
    cases h2
    exact ⟨.ref l, g1, l, us, rfl, .inl (.inl (.inl g2)), by rw [g3.length]; exact q _ H R (.int _) Mv.refl⟩
theorem ev_tupO {i : Nat} {p : Pos} (hv : PE X a (tVar i)) (hg : Gl X "tuple") (hm : X.mg "tuple" = none) (na : starEach [a] X.env = (false, eval a X.env) :: starEach [] X.env := by rfl) : PE X (.Call (.Name "tuple" p) [a] [] pos) (tE X.K (eUnL dTupOf i)) :=
  pe_of (pe_callTy call_tuple_of hg hm PyProof.Rows.boot_tuple (pa_cons hv pa_nil na) (he := na)) fun σ H Q ⟨c, ρ, d, ρ', R, e, q⟩ => by
    obtain ⟨pp, ds, h1, h2, rfl⟩ := unl_inv e
    obtain ⟨l, us, g1, g2, g3, _⟩ := R.lst i pp ds h1
    cases h2
    exact ⟨.ref l, g1, l, us, rfl, .inl ⟨.inl (.inl g2), fun p hp => q _ _ (R.alloc hp).1 (R.newTup hp g3) (R.mvG (kp_upd hp))⟩⟩
@[simp] def tTruL (i : Nat) : TF := fun ρ => match ρ[i]? with
  | some (some (.l _ ds)) => some (!ds.isEmpty, ρ)
  | _ => none
theorem et_truO {i : Nat} (hv : PE X a (tVar i)) (he : ∀ whole, isTrue a X.env whole = (do let v ← whole; standAt a.pos; holding [v] (truthy v)) := by intro _; rfl) : PT X a (tT X.K (tTruL i)) :=
  pt_of (pt_truth hv he) fun σ H Q ⟨c, ρ, d, ρ', R, e, q⟩ => by
    unfold tTruL at e
    split at e
    · rename_i pp ds h1
      obtain ⟨e1, e2⟩ := so e
      subst e1 e2
      obtain ⟨l, us, g1, g2, g3, _⟩ := R.lst i pp ds h1
      refine ⟨.ref l, g1, _, .inl ⟨us, .inl (.inl g2), ?_⟩, q H R Mv.refl⟩
      cases g3 <;> rfl
    · cases e
/-! x op= e -/
@[simp] def sAug (i : Nat) (o : PyData → PyData → Option PyData) (f : EF) : SF := fun ρ => match ρ[i]? with
  | some (some (.v x)) => (match f ρ with
    | some (y, ρ1) => (match o x y with
      | some z => (match setV i z ρ1 with
        | some ρ2 => some (.next, ρ2)
        | none => none)
      | none => none)
    | none => none)
  | _ => none
theorem pip_of {X : Cx} {op : Operator} {r : R2} (ho : OpR X (inplaceOp op) r) : PIp X op r := fun pins s σ H x y v u Q I r1 r2 q => ho pins s σ H x y v u Q I r1 r2 q
theorem es_aug {i : Nat} {x : Str} {op : Operator} {r : R2} {o : PyData → PyData → Option PyData} {pos' : Pos} (hN : X.N.Nodup) (hi : X.N[i]? = some x) (hx : Loc X.env.scope x) (ho : OpR X (inplaceOp op) r) (s : OpS X.K r o) (he : PE X e (tE X.K f))
    (hf : X.fn x = true ∨ X.env.scope.names.lookup x = some .local := by first | exact .inl rfl | exact .inr rfl | assumption) : PS X (.AugAssign (.Name x pos') op e pos) (tS X.K (sAug i o f)) :=
  ps_of (ps_aug hN hi hx he (pip_of ho) hf) fun E σ H ⟨c, ρ, ot, ρ', R, e, q⟩ => by
    unfold sAug at e
    split at e
    · rename_i x h0
      split at e
      · rename_i y ρ1 h1
        split at e
        · rename_i z h2
          split at e
          · rename_i ρ2 h3
            obtain ⟨e1, e2⟩ := so e
            subst e1 e2
            obtain ⟨v, g1, g2⟩ := R.val i x h0
            refine ⟨v, g1, c, ρ, y, ρ1, R, h1, fun u H1 R1 r1 m1 => ?_⟩
            refine s c ρ1 σ H1 v u x y z _ R1 (g2.mv m1) r1 h2 fun w H2 R2 r2 k2 => ?_
            obtain ⟨R3, m3⟩ := R2.assign h3 r2
            exact q _ H2 R3 ((m1.trans (R1.mvG k2)).trans m3)
          · cases e
        · cases e
      · cases e
    · cases e
theorem iop_addD : OpR X (inplaceOp .Add) (rI0 fun i j => .int (i + j)) := iop_add
@[simp] def dAddI := dI2 cT fun i j => .int (i + j)
theorem os_addI {K : PySem.W.Frag} : OpS K (rI0 fun i j => .int (i + j)) dAddI := os_i20 fun _ _ _ _ => .int _
/-! iterating a list or a tuple -/
@[simp] def itS (f : EF) : NF := fun ρ => match f ρ with
  | some (.list xs, ρ1) => some (xs, ρ1)
  | some (.tuple xs, ρ1) => some (xs, ρ1)
  | some (.dict [(.list xs, .none)], ρ1) => some (xs, ρ1)
  | _ => none
theorem ei_seq {tgt : Expr} (he : PE X e (tE X.K f)) : PI X tgt e (tI X.K (itS f)) := ⟨fun pins s σ H R I hq => by
  obtain ⟨c, ρ, ds, ρ', R0, e1, q⟩ := hq
  unfold itS at e1
  split at e1
  · rename_i xs ρ1 h1
    exact (ei_list he).run pins s σ H R I ⟨c, ρ, ds, ρ', R0, by unfold itL; rw [h1]; exact e1, q⟩
  · rename_i xs ρ1 h1
    exact (ei_tup he).run pins s σ H R I ⟨c, ρ, ds, ρ', R0, by unfold itT; rw [h1]; exact e1, q⟩
  · rename_i xs ρ1 h1
    exact (ei_list he).run pins s σ H R I ⟨c, ρ, ds, ρ', R0, by unfold itL; rw [h1]; exact e1, q⟩
  · cases e1⟩
/-! ### slices -/
@[simp] def oE : Option EF → Rho → Option (Option Int × Rho)
  | none, ρ => some (none, ρ)
  | some g, ρ => (match g ρ with
    | some (.int i, ρ1) => some (some i, ρ1)
    | _ => none)
def tO (K : PySem.W.Frag) (g : Option EF) : TO := fun σ H Q => ∃ (c : Act K) (ρ : Rho) (o : Option Int) (ρ' : Rho), Rel K c ρ σ H ∧ oE g ρ = some (o, ρ') ∧ ∀ H', Rel K c ρ' σ H' → Stp c ρ σ H ρ' σ H' → Q o H'
theorem po_of {e : Option Expr} {t t' : TO} (h : PO X e t) (k : ∀ σ H Q, t' σ H Q → t σ H Q) : PO X e t' := ⟨fun pins s σ H Q I q => h.run pins s σ H Q I (k σ H Q q)⟩
theorem eo_none : PO X none (tO X.K none) := po_of po_none fun σ H Q ⟨c, ρ, o, ρ', R, e, q⟩ => by
  cases e
  exact q H R Mv.refl
theorem eo_some (h : PE X a (tE X.K g)) : PO X (some a) (tO X.K (some g)) := po_of (po_some h) fun σ H Q ⟨c, ρ, o, ρ', R, e, q⟩ => by
  unfold oE at e
  simp only at e
  split at e
  · rename_i i ρ1 h1
    obtain ⟨e1, e2⟩ := so e
    subst e1 e2
    exact ⟨c, ρ, _, ρ1, R, h1, fun v H' R' r' m => by cases r'; exact ⟨i, rfl, q H' R' m⟩⟩
  · cases e
@[simp] def nSl (f : EF) (lo hi : Option EF) : NF := fun ρ => match f ρ with
  | some (.list xs, ρ1) => (match oE lo ρ1 with
    | some (l, ρ2) => (match oE hi ρ2 with
      | some (u, ρ3) => some (cutD xs l u, ρ3)
      | none => none)
    | none => none)
  | some (.dict [(.list xs, .none)], ρ1) => (match oE lo ρ1 with
    | some (l, ρ2) => (match oE hi ρ2 with
      | some (u, ρ3) => some (cutD xs l u, ρ3)
      | none => none)
    | none => none)
  | _ => none
@[simp] def eSlT (f : EF) (lo hi : Option EF) : EF := fun ρ => match f ρ with
  | some (.tuple xs, ρ1) => (match oE lo ρ1 with
    | some (l, ρ2) => (match oE hi ρ2 with
      | some (u, ρ3) => some (.tuple (cutD xs l u), ρ3)
      | none => none)
    | none => none)
  | _ => none
theorem cut_rp {K : PySem.W.Frag} {A : Addr → Prop} {H : Hp} {vs : List V} {ds : List PyData} (r : RpA K A H vs ds) (l u : Option Int) : RpA K A H (cutV vs l u) (cutD ds l u) := by
  have e1 : ∀ n d o, sIxD n d o = HT.sIx n d o := fun n d o => by cases o <;> rfl
  unfold cutV cutD
  rw [r.length, e1, e1]
  exact (r.drop _).take _
theorem en_sl {lo hi : Option Expr} {l u : Option EF} {p2 : Pos} (ha : PE X a (tE X.K f)) (hl : PO X lo (tO X.K l)) (hu : PO X hi (tO X.K u)) : PE X (.Subscript a (.Slice lo hi none p2) pos) (tN X.K (nSl f l u)) :=
  pe_of (pe_slice sl_list ha hl hu) fun σ H Q ⟨c, ρ, d, ρ', R, e, q⟩ => by
    unfold nSl at e
    split at e
    · rename_i xs ρ1 h1
      split at e
      · rename_i l' ρ2 h2
        split at e
        · rename_i u' ρ3 h3
          obtain ⟨e1, e2⟩ := so e
          subst e1 e2
          refine ⟨c, ρ, _, ρ1, R, h1, fun v H1 R1 r1 m1 => ⟨c, ρ1, l', ρ2, R1, h2, fun H2 R2 m2 => ⟨c, ρ2, u', ρ3, R2, h3, fun H3 R3 m3 => ?_⟩⟩⟩
          cases r1.mv (m2.trans m3) with
          | @lst p us _ ll al =>
            refine ⟨p, us, rfl, ll.sq, fun p2 hp => ?_⟩
            exact q p2 _ _ (R3.plus hp (kp_upd hp) (by rw [upd_same]; exact fun z => nomatch z)) upd_same ((cut_rp al l' u').mv (R3.mvP hp (kp_upd hp))) (R3.noAv hp) (R3.fresh0 hp) (avOf (K := X.K) ((m1.trans m2).trans m3) hp) (((m1.trans m2).trans m3).trans (R3.mvG (kp_upd hp)))
        · cases e
      · cases e
    · rename_i xs ρ1 h1
      split at e
      · rename_i l' ρ2 h2
        split at e
        · rename_i u' ρ3 h3
          obtain ⟨e1, e2⟩ := so e
          subst e1 e2
          refine ⟨c, ρ, _, ρ1, R, h1, fun v H1 R1 r1 m1 => ⟨c, ρ1, l', ρ2, R1, h2, fun H2 R2 m2 => ⟨c, ρ2, u', ρ3, R2, h3, fun H3 R3 m3 => ?_⟩⟩⟩
          cases r1.mv (m2.trans m3) with
          | @ro p us _ ll al =>
            refine ⟨p, us, rfl, ll.sq, fun p2 hp => ?_⟩
            exact q p2 _ _ (R3.plus hp (kp_upd hp) (by rw [upd_same]; exact fun z => nomatch z)) upd_same ((cut_rp al.rp l' u').mv (R3.mvP hp (kp_upd hp))) (R3.noAv hp) (R3.fresh0 hp) (avOf (K := X.K) ((m1.trans m2).trans m3) hp) (((m1.trans m2).trans m3).trans (R3.mvG (kp_upd hp)))
        · cases e
      · cases e
    · cases e
theorem cut_whole {n lo hi : Nat} {xs : List PyData} (h1 : lo = 0) (h2 : hi = xs.length) : (xs.drop lo).take (hi - lo) = xs := by
  subst h1 h2
  simp
theorem ev_slT {lo hi : Option Expr} {l u : Option EF} {p2 : Pos} (ha : PE X a (tE X.K f)) (hl : PO X lo (tO X.K l)) (hu : PO X hi (tO X.K u)) : PE X (.Subscript a (.Slice lo hi none p2) pos) (tE X.K (eSlT f l u)) :=
  pe_of (pe_slice sl_tupA ha hl hu) fun σ H Q ⟨c, ρ, d, ρ', R, e, q⟩ => by
    unfold eSlT at e
    split at e
    · rename_i xs ρ1 h1
      split at e
      · rename_i l' ρ2 h2
        split at e
        · rename_i u' ρ3 h3
          obtain ⟨e1, e2⟩ := so e
          subst e1 e2
          refine ⟨c, ρ, _, ρ1, R, h1, fun v H1 R1 r1 m1 => ⟨c, ρ1, l', ρ2, R1, h2, fun H2 R2 m2 => ⟨c, ρ2, u', ρ3, R2, h3, fun H3 R3 m3 => ?_⟩⟩⟩
          cases r1.mv (m2.trans m3) with
          | @tup p us _ ll al =>
            have mm := (m1.trans m2).trans m3
            refine ⟨p, us, rfl, ll.sq, fun hw => ?_, fun hw p2 hp => ?_⟩
            · have ec : cutD xs l' u' = xs := by
                have e1 : ∀ n d o, sIxD n d o = HT.sIx n d o := fun n d o => by cases o <;> rfl
                unfold cutD
                rw [← al.length, e1, e1, hw.1, hw.2, al.length]
                simp
              rw [ec] at q
              exact q _ H3 R3 (.tup ll al) mm
            · exact q _ _ (R3.alloc hp).1 (R3.newTup hp (cut_rp al l' u')) (mm.trans (R3.mvG (kp_upd hp)))
        · cases e
      · cases e
    · cases e
end
/-- long enough -/
def FUEL : Nat := 1000000
theorem whl_mono {t : TF} {b : SF} : ∀ (k n : Nat) (ρ : Rho) (r : Out × Rho), whl t b k ρ = some r → k ≤ n → whl t b n ρ = some r
  | 0, _, _, _, h, _ => by cases h
  | k + 1, 0, _, _, _, h => by omega
  | k + 1, n + 1, ρ, r, h, hl => by
    unfold whl at h ⊢
    split at h
    · rename_i ρ1 h1
      split at h
      · rename_i ρ2 h2
        exact whl_mono k n ρ2 r h (by omega)
      · rename_i ρ2 h2
        exact whl_mono k n ρ2 r h (by omega)
      · rename_i ρ2 h2
        exact h
      · rename_i n1 n2 n3
        exact h
    · exact h
    · cases h
end PG
end
section
set_option Elab.async false
set_option linter.all false
set_option maxRecDepth 100000
namespace PG
open PySem PySem.Spec PyProof.Rows L2
section
variable {X : Cx} {e a b : Expr} {pos : Pos} {f g h : EF} {tf tg : TF} {n m : NF} {es : List Expr}
/-! ### sum of ints -/
@[simp] def dSum : PyData → Option PyData
  | .list ds => (match intsOf ds with
    | some ns => some (.int ns.sum)
    | none => none)
  | .tuple ds => (match intsOf ds with
    | some ns => some (.int ns.sum)
    | none => none)
  | _ => none
def rSumA (K : PySem.W.Frag) : List V → Hp → VK → Prop := fun vs H Q => ∃ (a : Addr) (ns : List Int), vs = [V.ref a] ∧ (SqL K H a (ns.map V.int) ∨ SqT K H a (ns.map V.int)) ∧ Q (.int ns.sum) H
theorem cr_sumA (hc : X.calm = true) : CallR X (.builtin "sum") (rSumA X.K) := by
  intro pins s σ H vs us Q I r hq
  obtain ⟨l, ns, rfl, hl, q⟩ := hq
  rcases hl with hl | hl
  · exact cr_sum hc pins s σ H _ us Q I r ⟨l, ns, rfl, hl, q⟩
  · obtain ⟨u, rfl, ru⟩ := vals1 r
    cases ru
    obtain ⟨its, rv, pt, hz⟩ := I.tuple hl
    have hi : IntsAre its ns := intsAre_of rv
    obtain ⟨xs, ex⟩ := hi.allInts.items
    have hn : numsOf (intItems xs).toList = ns := by rw [← ex]; exact hi.numsOf
    rw [nums_intItems] at hn
    have pt' : s.heap.IsTuple l (intItems xs) := by rw [← ex]; exact pt
    refine PySem.W.ktm_sumG (I.ok.hd hc) pt' fun h' tk t' hk => ?_
    refine ⟨.int ns.sum, H, I.kept hk, ⟨t', ?_⟩, q⟩
    rw [preSum_eq, List.take_of_length_le (by simp), hn]
theorem fs_sum {K : PySem.W.Frag} : FnS K (rSumA K) (o1of dSum) := by
  intro c ρ σ H vs ds d Q R r ho q
  obtain ⟨x, rfl, h2⟩ := o1_inv ho
  obtain ⟨v, rfl, w1⟩ := rpa1 r
  unfold dSum at h2
  split at h2
  · split at h2
    · rename_i ns hn
      cases h2
      have hds := intsOf_map hn
      subst hds
      cases w1 with
      | lst l al =>
        have hx := al.ints
        subst hx
        exact ⟨_, ns, rfl, .inl l.sq, os_same R q (.int _)⟩
    · cases h2
  · split at h2
    · rename_i ns hn
      cases h2
      have hds := intsOf_map hn
      subst hds
      cases w1 with
      | tup l al =>
        have hx := al.ints
        subst hx
        exact ⟨_, ns, rfl, .inr l.sq, os_same R q (.int _)⟩
    · cases h2
  · cases h2
/-! ### (*xs, ..) -/
@[simp] def nStar (f : EF) (g : NF) : NF := fun ρ => match f ρ with
  | some (.list xs, ρ1) => (match g ρ1 with
    | some (ys, ρ2) => some (xs ++ ys, ρ2)
    | none => none)
  | some (.tuple xs, ρ1) => (match g ρ1 with
    | some (ys, ρ2) => some (xs ++ ys, ρ2)
    | none => none)
  | _ => none
theorem ea_star {p : Pos} (ha : PE X a (tE X.K f)) (hr : PA X es (tA X.K n)) (hs : starEach (.Starred a p :: es) X.env = (true, eval a X.env) :: starEach es X.env := by rfl) : PA X (.Starred a p :: es) (tA X.K (nStar f n)) :=
  pa_of (StX.pa_star ha hr hs) fun σ H Q ⟨c, ρ, ds, ρ', R, e, q⟩ => by
    unfold nStar at e
    split at e
    · rename_i xs ρ1 h1
      split at e
      · rename_i ys ρ2 h2
        obtain ⟨e1, e2⟩ := so e
        subst e1 e2
        refine ⟨c, ρ, _, ρ1, R, h1, fun v H1 R1 r1 m1 => ?_⟩
        cases r1 with
        | lst l al => exact ⟨_, _, rfl, .inr l.sq, c, ρ1, ys, ρ2, R1, h2, fun vs H2 R2 r2 m2 => q _ H2 R2 ((al.mv m2).app r2) (m1.trans m2)⟩
      · cases e
    · rename_i xs ρ1 h1
      split at e
      · rename_i ys ρ2 h2
        obtain ⟨e1, e2⟩ := so e
        subst e1 e2
        refine ⟨c, ρ, _, ρ1, R, h1, fun v H1 R1 r1 m1 => ?_⟩
        cases r1 with
        | tup l al => exact ⟨_, _, rfl, .inl l.sq, c, ρ1, ys, ρ2, R1, h2, fun vs H2 R2 r2 m2 => q _ H2 R2 ((al.mv m2).app r2) (m1.trans m2)⟩
      · cases e
    · cases e
/-! ### [..] * n -/
@[simp] def dRep : PyData → PyData → Option PyData
  | .list xs, .int k => if -9223372036854775808 ≤ k ∧ k < 9223372036854775808 ∧ xs.length * k.toNat ≤ 16777216 then some (.list (List.replicate k.toNat xs).flatten) else none
  | _, _ => none
theorem rpa_rep {K : PySem.W.Frag} {A : Addr → Prop} {H : Hp} {vs : List V} {ds : List PyData} (r : RpA K A H vs ds) : ∀ k : Nat, RpA K A H (List.replicate k vs).flatten (List.replicate k ds).flatten
  | 0 => .nil
  | k + 1 => by
    rw [List.replicate_succ, List.replicate_succ, List.flatten_cons, List.flatten_cons]
    exact r.app (rpa_rep r k)
theorem os_rep {K : PySem.W.Frag} : OpS K rRep dRep := by
  intro c ρ σ H v1 v2 x y d Q R r1 r2 ho q
  unfold dRep at ho
  split at ho
  · split at ho
    · rename_i hk
      cases ho
      cases r2
      cases r1 with
      | lst l al =>
        refine ⟨_, _, _, rfl, rfl, l.1, by omega, by omega, by rw [al.length, sl16]; exact hk.2.2, fun p hp => ?_⟩
        exact q _ _ (R.alloc hp).1 (R.newLst hp (rpa_rep al _)) (R.alloc hp).2
    · cases ho
  · cases ho
/-! ### range(0, n, c) -/
def stp (c : Int) (n : Nat) : List PyData := (List.range n).map fun k => .int (0 + (k : Nat) * c)
@[simp] def itR3 (f : NF) : NF := fun ρ => match f ρ with
  | some ([.int i, .int j, .int c], ρ1) => if i = 0 ∧ c = 2 ∧ 0 ≤ j ∧ j ≤ 16777216 then some (stp 2 ((j + 1) / 2).toNat, ρ1) else none
  | _ => none
theorem jok_stp {K : PySem.W.Frag} {c : Act K} {ρ : Rho} {σ : L2.St} {H : Hp} (cc : Int) (n : Nat) : JOk K c ρ σ H (Itc 0 cc n) (stp cc n) := fun c' ρi σi Hi m => by
  refine ⟨fun i d hd => ?_, ?_⟩
  · unfold stp at hd
    rw [List.getElem?_map] at hd
    rcases Nat.lt_or_ge i n with h | h
    · rw [List.getElem?_range h] at hd
      cases hd
      exact ⟨h, fun x H' y => ⟨y.1, by rw [y.2]; exact .int _⟩⟩
    · rw [List.getElem?_eq_none (by simpa using h)] at hd
      cases hd
  · show n ≤ (stp cc n).length
    unfold stp
    rw [List.length_map, List.length_range]
    exact Nat.le_refl _
theorem rgc2 {j : Int} (h0 : 0 ≤ j) (h1 : j ≤ 16777216) : RgC 0 j 2 ((j + 1) / 2).toNat := by
  have e : Builtin.Range.rangeSize 0 j 2 = (((j + 1) / 2).toNat : Int) := by
    unfold Builtin.Range.rangeSize
    rw [if_pos (by decide)]
    split <;> omega
  refine ⟨by decide, by decide, ?_, e⟩
  unfold Builtin.Range.small
  rw [e]
  simp only [Builtin.Range.rangeFitsLong, Bool.and_eq_true, Bool.or_eq_true, decide_eq_true_eq, beq_iff_eq, show (2 : Int) > 0 by decide, if_true]
  omega
theorem ei_rng3 {tgt e3 : Expr} {p : Pos} (hg : Gl X "range") (hm : X.mg "range" = none) (ha : PA X [a, b, e3] (tA X.K n)) (hs : starEach [a, b, e3] X.env = (false, eval a X.env) :: starEach [b, e3] X.env := by rfl)
    (hpl : (backTo pos (starEach [b, e3] X.env)).any (·.1) = false := by rfl) : PI X tgt (.Call (.Name "range" p) [a, b, e3] [] pos) (tI X.K (itR3 n)) :=
  pi_of (pi_range3 hg hm ha hs hpl) fun σ H R ⟨c, ρ, ds, ρ', R0, e, q⟩ => by
    unfold itR3 at e
    split at e
    · rename_i i j k ρ1 h1
      split at e
      · rename_i hj
        obtain ⟨e1, e2⟩ := so e
        subst e1 e2
        obtain ⟨rfl, rfl, j0, j1⟩ := hj
        refine ⟨c, ρ, _, ρ1, R0, h1, fun vs H1 R1 r1 m1 => ?_⟩
        cases r1 with
        | cons w1 t1 =>
          obtain ⟨v, v', rfl, w2, w3⟩ := rpa2 t1
          cases w1
          cases w2
          cases w3
          exact ⟨0, j, 2, _, rfl, rgc2 j0 j1, q _ H1 R1 m1 (jok_stp 2 _)⟩
      · cases e
    · cases e
end
@[simp] theorem isTy_int_none  : isTy "int" .none = false := by simp [isTy, isN, tyName]
@[simp] theorem isTy_int_bool (b : Bool) : isTy "int" (.bool b) = true := by simp [isTy, isN, tyName]
@[simp] theorem isTy_int_int (i : Int) : isTy "int" (.int i) = true := by simp [isTy, isN, tyName]
@[simp] theorem isTy_int_str (x : Str) : isTy "int" (.str x) = false := by simp [isTy, isN, tyName]
@[simp] theorem isTy_int_list (xs : List PyData) : isTy "int" (.list xs) = false := by simp [isTy, isN, tyName]
@[simp] theorem isTy_int_tuple (xs : List PyData) : isTy "int" (.tuple xs) = false := by simp [isTy, isN, tyName]
@[simp] theorem isTy_bool_none  : isTy "bool" .none = false := by simp [isTy, isN, tyName]
@[simp] theorem isTy_bool_bool (b : Bool) : isTy "bool" (.bool b) = true := by simp [isTy, isN, tyName]
@[simp] theorem isTy_bool_int (i : Int) : isTy "bool" (.int i) = false := by simp [isTy, isN, tyName]
@[simp] theorem isTy_bool_str (x : Str) : isTy "bool" (.str x) = false := by simp [isTy, isN, tyName]
@[simp] theorem isTy_bool_list (xs : List PyData) : isTy "bool" (.list xs) = false := by simp [isTy, isN, tyName]
@[simp] theorem isTy_bool_tuple (xs : List PyData) : isTy "bool" (.tuple xs) = false := by simp [isTy, isN, tyName]
@[simp] theorem isTy_str_none  : isTy "str" .none = false := by simp [isTy, isN, tyName]
@[simp] theorem isTy_str_bool (b : Bool) : isTy "str" (.bool b) = false := by simp [isTy, isN, tyName]
@[simp] theorem isTy_str_int (i : Int) : isTy "str" (.int i) = false := by simp [isTy, isN, tyName]
@[simp] theorem isTy_str_str (x : Str) : isTy "str" (.str x) = true := by simp [isTy, isN, tyName]
@[simp] theorem isTy_str_list (xs : List PyData) : isTy "str" (.list xs) = false := by simp [isTy, isN, tyName]
@[simp] theorem isTy_str_tuple (xs : List PyData) : isTy "str" (.tuple xs) = false := by simp [isTy, isN, tyName]
@[simp] theorem isTy_list_none  : isTy "list" .none = false := by simp [isTy, isN, tyName]
@[simp] theorem isTy_list_bool (b : Bool) : isTy "list" (.bool b) = false := by simp [isTy, isN, tyName]
@[simp] theorem isTy_list_int (i : Int) : isTy "list" (.int i) = false := by simp [isTy, isN, tyName]
@[simp] theorem isTy_list_str (x : Str) : isTy "list" (.str x) = false := by simp [isTy, isN, tyName]
@[simp] theorem isTy_list_list (xs : List PyData) : isTy "list" (.list xs) = true := by simp [isTy, isN, tyName]
@[simp] theorem isTy_list_tuple (xs : List PyData) : isTy "list" (.tuple xs) = false := by simp [isTy, isN, tyName]
@[simp] theorem isTy_tuple_none  : isTy "tuple" .none = false := by simp [isTy, isN, tyName]
@[simp] theorem isTy_tuple_bool (b : Bool) : isTy "tuple" (.bool b) = false := by simp [isTy, isN, tyName]
@[simp] theorem isTy_tuple_int (i : Int) : isTy "tuple" (.int i) = false := by simp [isTy, isN, tyName]
@[simp] theorem isTy_tuple_str (x : Str) : isTy "tuple" (.str x) = false := by simp [isTy, isN, tyName]
@[simp] theorem isTy_tuple_list (xs : List PyData) : isTy "tuple" (.list xs) = false := by simp [isTy, isN, tyName]
@[simp] theorem isTy_tuple_tuple (xs : List PyData) : isTy "tuple" (.tuple xs) = true := by simp [isTy, isN, tyName]
@[simp] theorem dEq_ii (i j : Int) : dEq (.int i) (.int j) = some (.bool (decide (i = j))) := rfl
@[simp] theorem dNe_ii (i j : Int) : dNe (.int i) (.int j) = some (.bool (!decide (i = j))) := rfl
@[simp] theorem dEq_bb (a b : Bool) : dEq (.bool a) (.bool b) = some (.bool (a == b)) := rfl
@[simp] theorem dNe_bb (a b : Bool) : dNe (.bool a) (.bool b) = some (.bool (!(a == b))) := rfl
theorem dEq_self : ∀ {d : PyData}, SeqAt.shaped d = true → PyData.eqv d d = true → dEq d d = some (.bool true)
  | .int i, _, _ => by simp
  | .none, _, _ => rfl
  | .bool b, _, _ => by simp
  | .str x, h, e => by simp [dEq, h, e]
  | .list xs, h, e => by simp [dEq, h, e]
  | .tuple xs, h, e => by simp [dEq, h, e]
  | .dict xs, h, e => by simp [dEq, h, e]
end PG
end
section
set_option Elab.async false
set_option linter.all false
set_option maxRecDepth 100000
namespace PG
open PySem PySem.Spec PyProof.Rows L2
section
variable {X : Cx} {e a b : Expr} {pos : Pos} {f g h : EF} {n m : NF} {es : List Expr}
/-! ### sorted(xs), pairs of whole numbers -/
def sPairs (K : PySem.W.Frag) : List V → Hp → VK → Prop := fun vs H Q => ∃ (a : Addr) (xs : List V) (k : V → Int × Int), vs = [V.ref a] ∧ SqL K H a xs ∧ (∀ x ∈ xs, ∃ t, x = V.ref t ∧ SqT K H t [.int (k x).1, .int (k x).2]) ∧
  ∀ ys p, SrtO.Srtd (ltP k) ys → SrtO.Stb (ltP k) ys xs → H p = none → Q (.ref p) (upd H p (.lst ys))
theorem cr_sPairs : CallR X (.builtin "sorted") (sPairs X.K) := by
  intro pins s σ H vs us Q I r h
  obtain ⟨a, xs, k, rfl, hs, hx, q⟩ := h
  obtain ⟨its, rv, hl, hz⟩ := I.list hs
  obtain ⟨u, rfl, ru⟩ := vals1 r
  obtain rfl : u = Value.ref a := ru
  obtain ⟨e1, e2⟩ := refs_back rv fun x m => by
    obtain ⟨t, e, _⟩ := hx x m
    exact ⟨t, e⟩
  refine SrtO.sorted_pairsO (k := fun u => k (backV u)) hl.isList (by rw [← rv.length]; exact hz) (fun v hv => ?_) fun h' d out h1 h2 kp hd hn => ?_
  · obtain ⟨t, rfl⟩ := e2 v hv
    have hm : V.ref t ∈ xs := by rw [e1]; exact List.mem_map.mpr ⟨_, hv, rfl⟩
    obtain ⟨t', e, ht⟩ := hx _ hm
    cases e
    obtain ⟨its2, r2, ⟨o, ho, hc, n, hd⟩, _⟩ := I.tuple ht
    obtain ⟨u1, u2, rfl, ri, rj⟩ := vals2 r2
    obtain ⟨t1, rfl⟩ := ri
    obtain ⟨t2, rfl⟩ := rj
    exact ⟨t, o, t1, t2, n, rfl, ho, hc, hd⟩
  · have h3 : ∀ u ∈ out, ∃ a, u = Value.ref a := fun u hu => e2 u (h2.perm.mem_iff.mp hu)
    obtain ⟨n, hn⟩ := hn
    have hb : SrtO.Stb (ltP k) (out.map backV) xs := by
      rw [e1]
      exact SrtO.Stb.map (ltP_swo k) backV h2
    refine ⟨.ref d, upd H d (.lst (out.map backV)), I.laid (t' := s.toks) kp hd ⟨?_, out, n, vals_back h3, hn⟩, rfl, q _ d (SrtO.srtd_map h1) hb (I.hok.fresh hd)⟩
    rw [hb.len]
    exact hz
/-- the pairs, by their first and then by their second number -/
def insP (k : Int × Int) : List (Int × Int) → List (Int × Int)
  | [] => [k]
  | j :: r => if SrtO.lexB j k then j :: insP k r else k :: j :: r
def sortP : List (Int × Int) → List (Int × Int)
  | [] => []
  | k :: r => insP k (sortP r)
theorem perm_insP (k : Int × Int) : ∀ l, (insP k l).Perm (k :: l)
  | [] => List.Perm.refl _
  | j :: r => by
    unfold insP
    split
    · exact ((perm_insP k r).cons j).trans (List.Perm.swap k j r)
    · exact List.Perm.refl _
theorem perm_sortP : ∀ l, (sortP l).Perm l
  | [] => List.Perm.refl _
  | k :: r => (perm_insP k _).trans ((perm_sortP r).cons k)
/-- sorted: no later one is before an earlier one -/
def SrtP (l : List (Int × Int)) : Prop := l.Pairwise fun x y => SrtO.lexB y x = false
theorem srt_insP (k : Int × Int) : ∀ l, SrtP l → SrtP (insP k l)
  | [], _ => by simp [SrtP, insP]
  | j :: r, h => by
    obtain ⟨h1, h2⟩ := List.pairwise_cons.mp h
    unfold insP
    split
    · rename_i c
      refine List.pairwise_cons.mpr ⟨fun x hx => ?_, srt_insP k r h2⟩
      rcases List.mem_cons.mp ((perm_insP k r).mem_iff.mp hx) with rfl | hx
      · have := SrtO.lexB_iff.mp c
        refine SrtO.lexB_no.mpr ?_
        omega
      · exact h1 x hx
    · rename_i c
      have c' : SrtO.lexB j k = false := by simpa using c
      refine List.pairwise_cons.mpr ⟨fun x hx => ?_, h⟩
      rcases List.mem_cons.mp hx with rfl | hx
      · exact c'
      · have a := SrtO.lexB_no.mp c'
        have b := SrtO.lexB_no.mp (h1 x hx)
        refine SrtO.lexB_no.mpr ?_
        omega
theorem srt_sortP : ∀ l, SrtP (sortP l)
  | [] => by simp [SrtP, sortP]
  | k :: r => srt_insP k _ (srt_sortP r)
theorem srt_uniq : ∀ {l m : List (Int × Int)}, SrtP l → SrtP m → l.Perm m → l = m
  | [], m, _, _, h => (List.Perm.eq_nil h.symm).symm
  | x :: l, [], _, _, h => absurd h.length_eq (by simp)
  | x :: l, y :: m, hl, hm, h => by
    obtain ⟨l1, l2⟩ := List.pairwise_cons.mp hl
    obtain ⟨m1, m2⟩ := List.pairwise_cons.mp hm
    have e : x = y := by
      rcases List.mem_cons.mp (h.mem_iff.mp (List.mem_cons_self (a := x) (l := l))) with e | hx
      · exact e
      · rcases List.mem_cons.mp (h.mem_iff.mpr (List.mem_cons_self (a := y) (l := m))) with e | hy
        · exact e.symm
        · have a := SrtO.lexB_no.mp (m1 x hx)
          have b := SrtO.lexB_no.mp (l1 y hy)
          exact Prod.ext (by omega) (by omega)
    subst e
    rw [srt_uniq l2 m2 h.cons_inv]
def pairOf : PyData → Option (Int × Int)
  | .tuple [.int i, .int j] => some (i, j)
  | _ => none
def pairsOf : List PyData → Option (List (Int × Int))
  | [] => some []
  | d :: r => (match pairOf d, pairsOf r with
    | some p, some l => some (p :: l)
    | _, _ => none)
def prD (x : Int × Int) : PyData := .tuple [.int x.1, .int x.2]
theorem pairOf_eq {d : PyData} {p : Int × Int} (h : pairOf d = some p) : d = prD p := by
  unfold pairOf at h
  split at h
  · cases h; rfl
  · cases h
theorem pairsOf_eq : ∀ {ds : List PyData} {l : List (Int × Int)}, pairsOf ds = some l → ds = l.map prD
  | [], l, h => by cases h; rfl
  | d :: r, l, h => by
    unfold pairsOf at h
    split at h
    · rename_i p l' h1 h2
      cases h
      rw [pairOf_eq h1, pairsOf_eq h2]
      rfl
    · cases h
def dSortP : PyData → Option (List PyData)
  | .list ds => (match pairsOf ds with
    | some l => some ((sortP l).map prD)
    | none => none)
  | _ => none
/-- what a value is, as a pair -/
theorem rp_pair {K : PySem.W.Frag} {A : Addr → Prop} {H : Hp} {v : V} {p : Int × Int} (h : Rp K A H v (prD p)) : ∃ t, v = V.ref t ∧ SqT K H t [.int p.1, .int p.2] := by
  cases h with
  | @tup t xs _ l al =>
    have e := RpA.ints (ns := [p.1, p.2]) al
    subst e
    exact ⟨t, rfl, l.sq⟩
def pairsAt (K : PySem.W.Frag) (H : Hp) : List V → List (Int × Int) → Prop
  | [], [] => True
  | v :: vs, p :: l => (∃ t, v = V.ref t ∧ SqT K H t [.int p.1, .int p.2]) ∧ pairsAt K H vs l
  | _, _ => False
def sPairs2 (K : PySem.W.Frag) : List V → Hp → VK → Prop := fun vs H Q => ∃ (a : Addr) (xs : List V) (ps : List (Int × Int)), vs = [V.ref a] ∧ SqL K H a xs ∧ pairsAt K H xs ps ∧
  ∀ ys p (k : V → Int × Int), ps = xs.map k → SrtO.Srtd (ltP k) ys → SrtO.Stb (ltP k) ys xs → H p = none → Q (.ref p) (upd H p (.lst ys))
theorem pairsAt_map {K : PySem.W.Frag} {H : Hp} (k : V → Int × Int) (hk : ∀ t p, SqT K H t [.int p.1, .int p.2] → k (.ref t) = p) : ∀ {vs : List V} {l : List (Int × Int)}, pairsAt K H vs l → l = vs.map k ∧ ∀ x ∈ vs, ∃ t, x = V.ref t ∧ SqT K H t [.int (k x).1, .int (k x).2]
  | [], [], _ => ⟨rfl, by simp⟩
  | [], p :: l, h => by cases h
  | v :: vs, [], h => by cases h
  | v :: vs, p :: l, h => by
    obtain ⟨⟨t, rfl, ht⟩, h2⟩ := h
    obtain ⟨e, he⟩ := pairsAt_map k hk h2
    have hp := hk t p ht
    refine ⟨by rw [List.map_cons, hp, ← e], fun x hx => ?_⟩
    rcases List.mem_cons.mp hx with rfl | hx
    · rw [hp]
      exact ⟨t, rfl, ht⟩
    · exact he x hx
open Classical in
noncomputable def keyOf (K : PySem.W.Frag) (H : Hp) : V → Int × Int
  | .ref t => if h : ∃ p : Int × Int, SqT K H t [.int p.1, .int p.2] then h.choose else (0, 0)
  | _ => (0, 0)
theorem cr_sPairs2 : CallR X (.builtin "sorted") (sPairs2 X.K) := by
  intro pins s σ H vs us Q I r h
  obtain ⟨a, xs, ps, hv, hs, hx, q⟩ := h
  have hk : ∀ t p, SqT X.K H t [.int p.1, .int p.2] → keyOf X.K H (.ref t) = p := by
    intro t p hp
    have ex : ∃ p : Int × Int, SqT X.K H t [.int p.1, .int p.2] := ⟨p, hp⟩
    have e := I.tuple_inj hp ex.choose_spec
    simp only [List.cons.injEq, V.int.injEq, and_true] at e
    have e2 : keyOf X.K H (.ref t) = ex.choose := by
      unfold keyOf
      exact dif_pos ex
    rw [e2]
    exact (Prod.ext e.1 e.2).symm
  obtain ⟨e1, e2⟩ := pairsAt_map _ hk hx
  exact cr_sPairs pins s σ H vs us Q I r ⟨a, xs, keyOf X.K H, hv, hs, e2, fun ys p h1 h2 h3 => q ys p _ e1 h1 h2 h3⟩
theorem pairsAt_of {K : PySem.W.Frag} {A : Addr → Prop} {H : Hp} : ∀ {vs : List V} {l : List (Int × Int)}, RpA K A H vs (l.map prD) → pairsAt K H vs l
  | [], [], _ => trivial
  | [], p :: l, h => by cases h
  | v :: vs, [], h => by cases h
  | v :: vs, p :: l, h => by
    cases h with
    | cons h1 h2 => exact ⟨rp_pair h1, pairsAt_of h2⟩
theorem rpa_mem {K : PySem.W.Frag} {A : Addr → Prop} {H : Hp} (k : V → Int × Int) : ∀ {xs : List V}, RpA K A H xs ((xs.map k).map prD) → ∀ x ∈ xs, Rp K A H x (prD (k x))
  | [], _, x, hx => by cases hx
  | y :: ys, h, x, hx => by
    cases h with
    | cons h1 h2 =>
      rcases List.mem_cons.mp hx with rfl | hx
      · exact h1
      · exact rpa_mem k h2 x hx
theorem rpa_of_mem {K : PySem.W.Frag} {A : Addr → Prop} {H : Hp} (k : V → Int × Int) : ∀ {ys : List V}, (∀ y ∈ ys, Rp K A H y (prD (k y))) → RpA K A H ys ((ys.map k).map prD)
  | [], _ => .nil
  | y :: ys, h => .cons (h y (by simp)) (rpa_of_mem k fun z hz => h z (by simp [hz]))
theorem fn_sortP {K : PySem.W.Frag} : FnN K (sPairs2 K) (n1of dSortP) := by
  intro c ρ σ H vs ds ys Q R r ho q
  obtain ⟨x, rfl, h2⟩ := n1_inv ho
  obtain ⟨v, rfl, w1⟩ := rpa1 r
  unfold dSortP at h2
  split at h2
  · rename_i ds
    split at h2
    · rename_i l hl
      cases h2
      have e := pairsOf_eq hl
      subst e
      cases w1 with
      | @lst p xs _ la al =>
        refine ⟨p, xs, l, rfl, la.sq, pairsAt_of al, fun zs p2 k hk h1 h3 hp => q p2 zs hp ?_⟩
        have e1 : zs.map k = sortP l := by
          refine srt_uniq (SrtO.srtd_map (lt := SrtO.lexB) (f := k) h1) (srt_sortP l) ?_
          rw [hk]
          exact (h3.perm.map k).trans (perm_sortP _).symm
        rw [← e1]
        refine rpa_of_mem k fun y hy => ?_
        rw [hk] at al
        exact rpa_mem k al y (h3.perm.mem_iff.mp hy)
    · cases h2
  · cases h2
end
end PG
end
section
set_option Elab.async false
set_option linter.all false
set_option maxRecDepth 100000
namespace PG
open PySem PySem.Spec PyProof.Rows L2
/-! ### a table of the module with whole-number keys and values -/
def entOk : List DictEntry → List (Int × Int) → Bool
  | [], [] => true
  | e :: r, p :: t => decide (e.hash = hashInt p.1) && Value.isInt p.1 e.key && Value.isInt p.2 e.val && entOk r t
  | _, _ => false
structure ITab (K : PySem.W.Frag) (d : Addr) (tab : List (Int × Int)) : Prop where
  at_ : ∃ es n, K.lookup d = some ⟨.type "dict", none, .dict es n, #[]⟩ ∧ entOk es.toList tab = true
  low : (d == sysModules) = false
def getI (tab : List (Int × Int)) (i : Int) : Option Int := (tab.find? fun p => decide (p.1 = i)).map (·.2)
@[simp] def dGetT (tab : List (Int × Int)) : PyData → PyData → Option PyData
  | .int i, y => some (match getI tab i with
    | some v => .int v
    | none => y)
  | _, _ => none
theorem entOk_cons {e : DictEntry} {r : List DictEntry} {p : Int × Int} {t : List (Int × Int)} (h : entOk (e :: r) (p :: t) = true) : e.hash = hashInt p.1 ∧ Value.isInt p.1 e.key = true ∧ Value.isInt p.2 e.val = true ∧ entOk r t = true := by
  simp only [entOk, Bool.and_eq_true, decide_eq_true_eq] at h
  exact ⟨h.1.1.1, h.1.1.2, h.1.2, h.2⟩
theorem entOk_keys {P : Program} {w : World} : ∀ {es : List DictEntry} {tab : List (Int × Int)}, entOk es tab = true → ∀ e ∈ es, ∃ k, (mixKind P w).is k e.key = true ∧ e.hash = (mixKind P w).hash k
  | [], [], _, e, he => by cases he
  | [], _ :: _, h, _, _ => by cases h
  | _ :: _, [], h, _, _ => by cases h
  | e :: r, p :: t, h, x, hx => by
    obtain ⟨h1, h2, h3, h4⟩ := entOk_cons h
    rcases List.mem_cons.mp hx with rfl | hx
    · exact ⟨.inl p.1, h2, h1⟩
    · exact entOk_keys h4 x hx
theorem entOk_find {P : Program} {w : World} : ∀ {es : List DictEntry} {tab : List (Int × Int)} (i : Int), entOk es tab = true →
    match getI tab i with
    | some v => ∃ t, (es.find? fun e => (mixKind P w).is (.inl i) e.key).map (·.val) = some (Value.int v t)
    | none => (es.find? fun e => (mixKind P w).is (.inl i) e.key).map (·.val) = none
  | [], [], i, _ => rfl
  | [], _ :: _, _, h => by cases h
  | _ :: _, [], _, h => by cases h
  | e :: r, p :: t, i, h => by
    obtain ⟨h1, h2, h3, h4⟩ := entOk_cons h
    have ih := entOk_find (P := P) (w := w) i h4
    obtain ⟨tk, ek⟩ := Value.isInt_shape h2
    obtain ⟨tv, ev⟩ := Value.isInt_shape h3
    unfold getI at ih ⊢
    by_cases c : p.1 = i
    · have e1 : (mixKind P w).is (.inl i) e.key = true := by rw [ek, ← c]; exact mixKind_int P w p.1 tk
      rw [List.find?_cons_of_pos (by simpa using c), List.find?_cons_of_pos (p := fun e : DictEntry => (mixKind P w).is (.inl i) e.key) e1]
      exact ⟨tv, by rw [Option.map_some, ev]⟩
    · have e1 : ¬ (mixKind P w).is (.inl i) e.key = true := by
        rw [ek]
        intro z
        have z' : Value.isInt i (Value.int p.1 tk) = true := z
        obtain ⟨t2, e2⟩ := Value.isInt_shape z'
        cases e2
        exact c rfl
      rw [List.find?_cons_of_neg (by simpa using c), List.find?_cons_of_neg (p := fun e : DictEntry => (mixKind P w).is (.inl i) e.key) e1]
      exact ih
section
variable {X : Cx} {d : Addr} {tab : List (Int × Int)} {o e e2 : Expr} {apos cpos : Pos} {f g : EF}
theorem itab_map (D : ITab X.K d tab) {pins : List (Addr × Obj)} {σ : L2.St} {H : Hp} {s : Shared} (I : L2.Inv X pins σ H s) : ∃ m : Key → Option Value, s.heap.MapOf (mixKind X.prog X.w) d m ∧ ∀ i : Int, (match getI tab i with
    | some v => ∃ t, m (.inl i) = some (Value.int v t)
    | none => m (.inl i) = none) := by
  obtain ⟨es, n, hl, hk⟩ := D.at_
  refine ⟨fun k => findBy (mixKind X.prog X.w).is es k, ⟨_, es, n, I.kIn _ _ hl, ⟨rfl, rfl, rfl⟩, rfl, fun x hx => entOk_keys hk x (Array.mem_toList_iff.mpr hx), fun _ => rfl⟩, fun i => ?_⟩
  have h := entOk_find (P := X.prog) (w := X.w) i hk
  obtain ⟨l⟩ := es
  have q : findBy (mixKind X.prog X.w).is (Array.mk l) (.inl i) = (l.find? fun e => (mixKind X.prog X.w).is (.inl i) e.key).map (·.val) := by
    unfold findBy
    rw [List.find?_toArray]
  dsimp only
  rw [q]
  exact h
def rGetT (tab : List (Int × Int)) : V → V → Hp → VK → Prop := fun y z H Q => ∃ i : Int, y = .int i ∧ Q (match getI tab i with
  | some v => .int v
  | none => z) H
theorem pe_kget2 {ty tx : TE} (D : ITab X.K d tab) (ho : PE X o (tC (.ref d))) (he : PE X e ty) (hf : PE X e2 tx) (m : M2 X o "get" apos e e2 cpos) : PE X (.Call (.Attribute o "get" apos) [e, e2] [] cpos) (fun σ H Q => ty σ H fun y H2 => tx σ H2 fun z H3 => rGetT tab y z H3 Q) := by
  refine ⟨fun pins s σ H Q I h => ?_⟩
  refine wpAny_Call_method m.base m.few m.line PySem.F.plainAttrs_dict PySem.F.slot_dict_get PySem.F.type_dict_get (thn (ho.run pins s σ H (fun x H1 => x = .ref d ∧ ty σ H1 fun y H2 => tx σ H2 fun z H3 => rGetT tab y z H3 Q) I ⟨rfl, h⟩) fun u s1 ⟨x, H1, I1, rx, ex, q1⟩ => ?_)
  subst ex
  obtain rfl : u = Value.ref d := rx
  obtain ⟨mf, hm, _⟩ := itab_map D I1
  refine ⟨hm.typeIs, fun b q => ?_, ?_⟩
  · cases q
    obtain ⟨ob, _, _, h1, h2, _⟩ := hm
    exact ⟨ob, h1, h2.2.1⟩
  rw [m.trees]
  refine Calls.callWith_builtin rfl (Calls.evalArgs_plain (Calls.spliced_cons (thn (he.run pins s1 σ H1 _ I1 q1) fun iv s2 ⟨y, H2, I2, ry, q2⟩ =>
    Calls.spliced_cons (thn (hf.run pins s2 σ H2 _ I2 q2) fun fv s3 ⟨z, H3, I3, rz, i, ei, q3⟩ => Calls.spliced_nil ?_))))
  subst ei
  obtain ⟨mf, hm, hmi⟩ := itab_map D I3
  obtain ⟨t, rfl⟩ := ry
  refine call_meetsIn PySem.F.slot_dict_get hm.typeIs PySem.F.entry_dict_get (PySem.F.args_dict_get_3 _ _ _) (meets_dict_get_default (mixKind X.prog X.w) d (mixKind_int X.prog X.w i t) D.low fv) ⟨_, hm, ?_⟩
  have hi := hmi i
  refine ⟨_, H3, I3.tok _, ?_, q3⟩
  cases hg : getI tab i with
  | some v =>
    rw [hg] at hi
    obtain ⟨t2, e2⟩ := hi
    rw [e2]
    exact ⟨t2, rfl⟩
  | none =>
    rw [hg] at hi
    rw [hi]
    exact rz
theorem os_getT {K : PySem.W.Frag} : OpS K (rGetT tab) (dGetT tab) := by
  intro c ρ σ H v1 v2 x y d Q R r1 r2 ho q
  match x, ho, r1 with
  | .int i, ho, r1 =>
    cases ho
    cases r1
    refine ⟨i, rfl, q _ _ R ?_ fun _ _ h => h⟩
    cases getI tab i with
    | some v => exact .int v
    | none => exact r2
theorem ev_kget2 (D : ITab X.K d tab) (ho : PE X o (tC (.ref d))) (he : PE X e (tE X.K f)) (hf : PE X e2 (tE X.K g)) (m : M2 X o "get" apos e e2 cpos) : PE X (.Call (.Attribute o "get" apos) [e, e2] [] cpos) (tE X.K (eBin (dGetT tab) f g)) :=
  pe_of (pe_kget2 D ho he hf m) (rd_bin os_getT)
end
end PG
end
section
set_option Elab.async false
set_option linter.all false
set_option maxRecDepth 100000
namespace PG
open PySem PySem.Spec PyProof.Rows L2
/-! ### x in xs, whole numbers; a table of the module: k in T, T[k] -/
def isInI (i : Int) (ns : List Int) : Bool := ns.any fun y => y == i
def inD (i : Int) (ds : List PyData) : Option Bool := match intsOf ds with
  | some ns => some (isInI i ns)
  | none => none
@[simp] def dIn : PyData → PyData → Option PyData
  | .int i, .list ds => (inD i ds).map fun b => .bool b
  | .int i, .tuple ds => (inD i ds).map fun b => .bool b
  | _, _ => none
@[simp] def dNotIn : PyData → PyData → Option PyData
  | .int i, .list ds => (inD i ds).map fun b => .bool (!b)
  | .int i, .tuple ds => (inD i ds).map fun b => .bool (!b)
  | _, _ => none
theorem inV_ints (i : Int) : ∀ ns : List Int, inV (.int i) (ns.map V.int) = isInI i ns
  | [] => rfl
  | k :: r => by
    have ih := inV_ints i r
    unfold inV isInI at ih ⊢
    rw [List.map_cons, List.any_cons, List.any_cons, ih]
    rfl
theorem flat_ints : ∀ ns : List Int, (ns.map V.int).all flatV = true
  | [] => rfl
  | k :: r => by
    have ih := flat_ints r
    simp only [List.map_cons, List.all_cons, ih, flatV, Bool.true_and]
theorem inD_inv {i : Int} {ds : List PyData} {b : Bool} (h : inD i ds = some b) : ∃ ns : List Int, ds = ns.map PyData.int ∧ b = isInI i ns := by
  unfold inD at h
  split at h
  · rename_i ns hn
    cases h
    exact ⟨ns, intsOf_map hn, rfl⟩
  · cases h
theorem os_in {K : PySem.W.Frag} : OpS K (rIn K false) dIn := by
  intro c ρ σ H v1 v2 x y d Q R r1 r2 ho q
  match x, y, ho, r1, r2 with
  | .int i, .list ds, ho, r1, r2 =>
    obtain ⟨b, hb, rfl⟩ := Option.map_eq_some_iff.mp ho
    obtain ⟨ns, rfl, rfl⟩ := inD_inv hb
    cases r1
    cases r2 with
    | @lst p xs _ l al =>
      have e := al.ints
      subst e
      exact ⟨p, _, rfl, .inl l.sq, rfl, flat_ints ns, by rw [inV_ints]; exact q _ _ R (.bl _) fun _ _ h => h⟩
  | .int i, .tuple ds, ho, r1, r2 =>
    obtain ⟨b, hb, rfl⟩ := Option.map_eq_some_iff.mp ho
    obtain ⟨ns, rfl, rfl⟩ := inD_inv hb
    cases r1
    cases r2 with
    | @tup p xs _ l al =>
      have e := al.ints
      subst e
      exact ⟨p, _, rfl, .inr l.sq, rfl, flat_ints ns, by rw [inV_ints]; exact q _ _ R (.bl _) fun _ _ h => h⟩
theorem os_notIn {K : PySem.W.Frag} : OpS K (rIn K true) dNotIn := by
  intro c ρ σ H v1 v2 x y d Q R r1 r2 ho q
  match x, y, ho, r1, r2 with
  | .int i, .list ds, ho, r1, r2 =>
    obtain ⟨b, hb, rfl⟩ := Option.map_eq_some_iff.mp ho
    obtain ⟨ns, rfl, rfl⟩ := inD_inv hb
    cases r1
    cases r2 with
    | @lst p xs _ l al =>
      have e := al.ints
      subst e
      exact ⟨p, _, rfl, .inl l.sq, rfl, flat_ints ns, by rw [inV_ints]; exact q _ _ R (.bl _) fun _ _ h => h⟩
  | .int i, .tuple ds, ho, r1, r2 =>
    obtain ⟨b, hb, rfl⟩ := Option.map_eq_some_iff.mp ho
    obtain ⟨ns, rfl, rfl⟩ := inD_inv hb
    cases r1
    cases r2 with
    | @tup p xs _ l al =>
      have e := al.ints
      subst e
      exact ⟨p, _, rfl, .inr l.sq, rfl, flat_ints ns, by rw [inV_ints]; exact q _ _ R (.bl _) fun _ _ h => h⟩
section
variable {X : Cx} {d : Addr} {tab : List (Int × Int)} {a b : Expr} {pos : Pos} {f g : EF}
@[simp] def dInT (tab : List (Int × Int)) : PyData → Option PyData
  | .int i => some (.bool (getI tab i).isSome)
  | _ => none
@[simp] def dNotInT (tab : List (Int × Int)) : PyData → Option PyData
  | .int i => some (.bool (!(getI tab i).isSome))
  | _ => none
@[simp] def dIxT (tab : List (Int × Int)) : PyData → Option PyData
  | .int i => (getI tab i).map PyData.int
  | _ => none
theorem map_isSome {m : Option Value} {g : Option Int} (h : match g with
    | some v => ∃ t, m = some (Value.int v t)
    | none => m = none) : m.isSome = g.isSome := by
  cases g with
  | some v => obtain ⟨t, e⟩ := h; rw [e]; rfl
  | none =>
    have h : m = none := h
    rw [h]
    rfl
theorem op_inT (D : ITab X.K d tab) : OpR X (compareOp .In) (fun x y H Q => ∃ i : Int, x = .int i ∧ y = .ref d ∧ Q (.bl (getI tab i).isSome) H) := by
  intro pins s σ H x y v u Q I rx ry h
  obtain ⟨i, rfl, rfl, q⟩ := h
  obtain ⟨t, rfl⟩ := rx
  cases ry
  obtain ⟨mf, hm, hi⟩ := itab_map D I
  refine wpAny_in_of (mixKind_int X.prog X.w i t) D.low hm ?_
  rw [map_isSome (hi i)]
  exact ⟨.bl _, H, I.tok _, rfl, q⟩
theorem op_notInT (D : ITab X.K d tab) : OpR X (compareOp .NotIn) (fun x y H Q => ∃ i : Int, x = .int i ∧ y = .ref d ∧ Q (.bl (!(getI tab i).isSome)) H) := by
  intro pins s σ H x y v u Q I rx ry h
  obtain ⟨i, rfl, rfl, q⟩ := h
  obtain ⟨t, rfl⟩ := rx
  cases ry
  obtain ⟨mf, hm, hi⟩ := itab_map D I
  refine wpAny_notIn_of (mixKind_int X.prog X.w i t) D.low hm ?_
  rw [map_isSome (hi i)]
  exact ⟨.bl _, H, I.tok _, rfl, q⟩
theorem ix_T (D : ITab X.K d tab) : IxR X (fun x y H Q => ∃ (i v : Int), x = .ref d ∧ y = .int i ∧ getI tab i = some v ∧ Q (.int v) H) := by
  intro value slice pins s σ H x y v u Q I rx ry h hs
  obtain ⟨i, w, rfl, rfl, e, q⟩ := h
  cases rx
  obtain ⟨t, rfl⟩ := ry
  obtain ⟨mf, hm, hi⟩ := itab_map D I
  have hi := hi i
  rw [e] at hi
  obtain ⟨t2, e2⟩ := hi
  exact tail_any hm.typeIs slot_dict_getitem.lookup (wpAny_getItem_of (mixKind_int X.prog X.w i t) hm e2 ⟨.int w, H, I.tok _, ⟨t2, rfl⟩, q⟩) hs
theorem un_inv {o : PyData → Option PyData} {ρ ρ' : Rho} {z : PyData} (h : eUn o f ρ = some (z, ρ')) : ∃ x, f ρ = some (x, ρ') ∧ o x = some z := by
  unfold eUn at h
  split at h
  · rename_i x ρ1 h1
    split at h
    · rename_i w h2
      cases h
      exact ⟨x, h1, h2⟩
    · cases h
  · cases h
theorem ev_inT (D : ITab X.K d tab) (ha : PE X a (tE X.K f)) (hb : PE X b (tC (.ref d))) (hm : behindInMarks .In b = false) : PE X (.Compare a [.In] [b] pos) (tE X.K (eUn (dInT tab) f)) :=
  pe_of (pe_cmpR (op_inT D) ha hb hm) fun σ H Q ⟨c, ρ, z, ρ', R, e, q⟩ => by
    obtain ⟨x, h1, h2⟩ := un_inv e
    refine ⟨c, ρ, x, ρ', R, h1, fun v1 H1 R1 r1 m1 => ?_⟩
    match x, h2, r1 with
    | .int i, h2, r1 =>
      cases h2
      cases r1
      exact ⟨i, rfl, rfl, q _ H1 R1 (.bl _) m1⟩
theorem ev_notInT (D : ITab X.K d tab) (ha : PE X a (tE X.K f)) (hb : PE X b (tC (.ref d))) (hm : behindInMarks .NotIn b = false) : PE X (.Compare a [.NotIn] [b] pos) (tE X.K (eUn (dNotInT tab) f)) :=
  pe_of (pe_cmpR (op_notInT D) ha hb hm) fun σ H Q ⟨c, ρ, z, ρ', R, e, q⟩ => by
    obtain ⟨x, h1, h2⟩ := un_inv e
    refine ⟨c, ρ, x, ρ', R, h1, fun v1 H1 R1 r1 m1 => ?_⟩
    match x, h2, r1 with
    | .int i, h2, r1 =>
      cases h2
      cases r1
      exact ⟨i, rfl, rfl, q _ H1 R1 (.bl _) m1⟩
theorem ev_ixT (D : ITab X.K d tab) (ha : PE X a (tC (.ref d))) (hb : PE X b (tE X.K f)) (hs : PlainIx b) : PE X (.Subscript a b pos) (tE X.K (eUn (dIxT tab) f)) :=
  pe_of (pe_ix (ix_T D) ha hb hs) fun σ H Q ⟨c, ρ, z, ρ', R, e, q⟩ => by
    obtain ⟨x, h1, h2⟩ := un_inv e
    refine ⟨c, ρ, x, ρ', R, h1, fun v1 H1 R1 r1 m1 => ?_⟩
    match x, h2, r1 with
    | .int i, h2, r1 =>
      obtain ⟨w, hw, rfl⟩ := Option.map_eq_some_iff.mp h2
      cases r1
      exact ⟨i, w, rfl, rfl, hw, q _ H1 R1 (.int _) m1⟩
end
end PG
end
section
set_option Elab.async false
set_option linter.all false
set_option maxRecDepth 100000
namespace PG
open PySem PySem.Spec PyProof.Rows L2
/-! ### a, b = x, y and a, b, c = x, y, z: no tuple is made -/
@[simp] def sPar (is : List Nat) (f : NF) : SF := fun ρ => match f ρ with
  | some (ds, ρ1) => (match gPairs is ds ρ1 with
    | some ρ2 => some (.next, ρ2)
    | none => none)
  | none => none
theorem par_inv {is : List Nat} {f : NF} {ρ ρ' : Rho} {o : Out} (h : sPar is f ρ = some (o, ρ')) : ∃ ds ρ1, f ρ = some (ds, ρ1) ∧ gPairs is ds ρ1 = some ρ' ∧ o = .next := by
  unfold sPar at h
  split at h
  · rename_i ds ρ1 h1
    split at h
    · rename_i ρ2 h2
      cases h
      exact ⟨ds, ρ1, h1, h2, rfl⟩
    · cases h
  · cases h
theorem pairs_cons {i : Nat} {is : List Nat} {ds : List PyData} {ρ ρ' : Rho} (h : gPairs (i :: is) ds ρ = some ρ') : ∃ d r ρ1, ds = d :: r ∧ setV i d ρ = some ρ1 ∧ gPairs is r ρ1 = some ρ' := by
  cases ds with
  | nil => cases h
  | cons d r =>
    unfold gPairs at h
    split at h
    · rename_i ρ1 h1
      exact ⟨d, r, ρ1, rfl, h1, h⟩
    · cases h
theorem pairs_nil {ds : List PyData} {ρ ρ' : Rho} (h : gPairs [] ds ρ = some ρ') : ds = [] ∧ ρ = ρ' := by
  cases ds with
  | nil => cases h; exact ⟨rfl, rfl⟩
  | cons d r => cases h
section
variable {X : Cx} {a b c' : Expr} {pos : Pos} {n : NF}
theorem es_par {i j : Nat} {x y : Str} {px py pt : Pos} {kt k2 pt2} (hc : X.calm = true) (hN : X.N.Nodup) (hi : X.N[i]? = some x) (hj : X.N[j]? = some y) (hij : i ≠ j)
    (hx : X.env.scope.names.lookup x = some .local) (hy : X.env.scope.names.lookup y = some .local) (ha : PA X [a, b] (tA X.K n))
    (hw : swappedStores [.Tuple [.Name x px, .Name y py] kt pt] (.Tuple [a, b] k2 pt2) X.env = pure (some [x, y]))
    (hs : swapsWithSole [.Tuple [.Name x px, .Name y py] kt pt] (.Tuple [a, b] k2 pt2) pos.line X.env = pure false := by rfl) :
    PS X (.Assign [.Tuple [.Name x px, .Name y py] kt pt] (.Tuple [a, b] k2 pt2) pos) (tS X.K (sPar [i, j] n)) :=
  ps_of (ps_par hc hN hi hj hij hx hy ha hw hs) fun E σ H ⟨c, ρ, o, ρ', R, e, q⟩ => by
    obtain ⟨ds, ρ1, h1, h2, rfl⟩ := par_inv e
    obtain ⟨d1, r1, ρ2, rfl, g1, h2⟩ := pairs_cons h2
    obtain ⟨d2, r2, ρ3, rfl, g2, h2⟩ := pairs_cons h2
    obtain ⟨rfl, rfl⟩ := pairs_nil h2
    refine ⟨c, ρ, _, ρ1, R, h1, fun vs H1 R1 r1 m1 => ?_⟩
    obtain ⟨v, w, rfl, rv, rw'⟩ := rpa2 r1
    obtain ⟨R2, m2⟩ := R1.assign g1 rv
    obtain ⟨R3, m3⟩ := R2.assign g2 (rw'.mv m2)
    exact ⟨v, w, rfl, q _ H1 R3 ((m1.trans m2).trans m3)⟩
theorem rpa3 {K : PySem.W.Frag} {A : Addr → Prop} {H : Hp} {vs : List V} {d1 d2 d3 : PyData} (r : RpA K A H vs [d1, d2, d3]) : ∃ u v w, vs = [u, v, w] ∧ Rp K A H u d1 ∧ Rp K A H v d2 ∧ Rp K A H w d3 := by
  cases r with
  | cons h t =>
    obtain ⟨v, w, rfl, hv, hw⟩ := rpa2 t
    exact ⟨_, v, w, rfl, h, hv, hw⟩
theorem es_par3 {i j l : Nat} {x y z : Str} {px py pz pt : Pos} {kt k2 pt2} (hc : X.calm = true) (hN : X.N.Nodup) (hi : X.N[i]? = some x) (hj : X.N[j]? = some y) (hl : X.N[l]? = some z) (hij : i ≠ j) (hil : i ≠ l) (hjl : j ≠ l)
    (hx : X.env.scope.names.lookup x = some .local) (hy : X.env.scope.names.lookup y = some .local) (hz : X.env.scope.names.lookup z = some .local) (ha : PA X [a, b, c'] (tA X.K n))
    (hw : swappedStores [.Tuple [.Name x px, .Name y py, .Name z pz] kt pt] (.Tuple [a, b, c'] k2 pt2) X.env = pure (some [x, y, z]))
    (hs : swapsWithSole [.Tuple [.Name x px, .Name y py, .Name z pz] kt pt] (.Tuple [a, b, c'] k2 pt2) pos.line X.env = pure false := by rfl) :
    PS X (.Assign [.Tuple [.Name x px, .Name y py, .Name z pz] kt pt] (.Tuple [a, b, c'] k2 pt2) pos) (tS X.K (sPar [i, j, l] n)) :=
  ps_of (ps_par3 hc hN hi hj hl hij hil hjl hx hy hz ha hw hs) fun E σ H ⟨c, ρ, o, ρ', R, e, q⟩ => by
    obtain ⟨ds, ρ1, h1, h2, rfl⟩ := par_inv e
    obtain ⟨d1, r1, ρ2, rfl, g1, h2⟩ := pairs_cons h2
    obtain ⟨d2, r2, ρ3, rfl, g2, h2⟩ := pairs_cons h2
    obtain ⟨d3, r3, ρ4, rfl, g3, h2⟩ := pairs_cons h2
    obtain ⟨rfl, rfl⟩ := pairs_nil h2
    refine ⟨c, ρ, _, ρ1, R, h1, fun vs H1 R1 r1 m1 => ?_⟩
    obtain ⟨u, v, w, rfl, ru, rv, rw'⟩ := rpa3 r1
    obtain ⟨R2, m2⟩ := R1.assign g1 ru
    obtain ⟨R3, m3⟩ := R2.assign g2 (rv.mv m2)
    obtain ⟨R4, m4⟩ := R3.assign g3 (rw'.mv (m2.trans m3))
    exact ⟨u, v, w, rfl, q _ H1 R4 (((m1.trans m2).trans m3).trans m4)⟩
end
section
variable {X : Cx} {d : Addr} {tab : List (Int × Int)} {a b : Expr} {pos : Pos} {f : EF}
theorem et_inT (D : ITab X.K d tab) (ha : PE X a (tE X.K f)) (hb : PE X b (tC (.ref d))) (hm : behindInMarks .In b = false) : PT X (.Compare a [.In] [b] pos) (tT X.K (tBl (eUn (dInT tab) f))) :=
  pt_of (pt_cmpR (op_inT D) ha hb hm) fun σ H Q ⟨c, ρ, z, ρ', R, e, q⟩ => by
    obtain ⟨x, h1, h2⟩ := un_inv (bl_inv e)
    refine ⟨c, ρ, x, ρ', R, h1, fun v1 H1 R1 r1 m1 => ?_⟩
    match x, h2, r1 with
    | .int i, h2, r1 =>
      cases h2
      cases r1
      exact ⟨i, rfl, rfl, _, rfl, q H1 R1 m1⟩
theorem et_notInT (D : ITab X.K d tab) (ha : PE X a (tE X.K f)) (hb : PE X b (tC (.ref d))) (hm : behindInMarks .NotIn b = false) : PT X (.Compare a [.NotIn] [b] pos) (tT X.K (tBl (eUn (dNotInT tab) f))) :=
  pt_of (pt_cmpR (op_notInT D) ha hb hm) fun σ H Q ⟨c, ρ, z, ρ', R, e, q⟩ => by
    obtain ⟨x, h1, h2⟩ := un_inv (bl_inv e)
    refine ⟨c, ρ, x, ρ', R, h1, fun v1 H1 R1 r1 m1 => ?_⟩
    match x, h2, r1 with
    | .int i, h2, r1 =>
      cases h2
      cases r1
      exact ⟨i, rfl, rfl, _, rfl, q H1 R1 m1⟩
end
end PG
end
section
set_option Elab.async false
set_option linter.all false
set_option maxRecDepth 100000
namespace PG
open PySem PySem.Spec PyProof.Rows L2
/-! ### type(x) == T -/
def six : List String := ["NoneType", "bool", "int", "str", "list", "tuple"]
theorem meta_six : ∀ n ∈ six, ∀ s' : Shared, s'.TypeIs (.type n) "type" := by
  intro n hn s'
  simp only [six, List.mem_cons, List.not_mem_nil, or_false] at hn
  rcases hn with rfl | rfl | rfl | rfl | rfl | rfl
  · exact TypeEq.meta_NoneType s'
  · exact TypeEq.meta_bool s'
  · exact TypeEq.meta_int s'
  · exact TypeEq.meta_str s'
  · exact TypeEq.meta_list s'
  · exact TypeEq.meta_tuple s'
section
variable {X : Cx} {a b : Expr} {pos : Pos} {p : Pos} {f : EF}
theorem op_eqTy : OpR X (compareOp .Eq) (fun x y H Q => ∃ m n, x = .ty m ∧ y = .ty n ∧ m ∈ six ∧ n ∈ six ∧ Q (.bl (decide (m = n))) H) := by
  intro pins s σ H x y v u Q I rx ry h
  obtain ⟨m, n, rfl, rfl, hm, hn, q⟩ := h
  cases (show v = Value.type m from rx)
  cases (show u = Value.type n from ry)
  by_cases e : m = n
  · subst e
    rw [decide_eq_true rfl] at q
    exact TypeEq.eq_type_same (meta_six m hm) ⟨.bl true, H, I, rfl, q⟩
  · rw [decide_eq_false e] at q
    exact TypeEq.eq_type_other (meta_six m hm) (meta_six n hn) (by rw [ty_beq, decide_eq_false e]) ⟨.bl false, H, I, rfl, q⟩
@[simp] def dTyIs (T : String) : PyData → Option PyData
  | .dict _ => none
  | x => some (.bool (decide (tyName x = T)))
theorem tyB_of {K : PySem.W.Frag} {A : Addr → Prop} {H : Hp} {v : V} {d : PyData} (r : Rp K A H v d) (h : ∀ kvs, d ≠ .dict kvs) : TyB K H v (tyName d) := by
  cases r with
  | non => exact .non
  | bl b => exact .bl b
  | int i => exact .int i
  | str x => exact .str x
  | lst l a => exact .lst l.sq
  | tup l a => exact .tup l.sq
  | ro l a => exact absurd rfl (h _)
theorem tyIs_inv {T : String} {x d : PyData} (h : dTyIs T x = some d) : (∀ kvs, x ≠ .dict kvs) ∧ d = .bool (decide (tyName x = T)) := by
  cases x <;> first
    | (cases h; done)
    | exact ⟨(fun kvs z => by cases z), (Option.some.inj h).symm⟩
theorem tyName_six {d : PyData} (h : ∀ kvs, d ≠ .dict kvs) : tyName d ∈ six := tyName_mem d h
theorem rd_ty {T : String} (hT : T ∈ six) {K : PySem.W.Frag} : ∀ σ H Q, tE K (eUn (dTyIs T) f) σ H Q → tOp (fun x y H Q => ∃ m n, x = .ty m ∧ y = .ty n ∧ m ∈ six ∧ n ∈ six ∧ Q (.bl (decide (m = n))) H) (fun σ H Q => tE K f σ H fun v H1 => rTyp K [v] H1 Q) (tC (.ty T)) σ H Q := fun σ H Q ⟨c, ρ, d, ρ', R, e, q⟩ => by
  obtain ⟨x, h1, h3⟩ := un_inv e
  obtain ⟨nd, rfl⟩ := tyIs_inv h3
  exact ⟨c, ρ, x, ρ', R, h1, fun v1 H1 R1 r1 m1 => ⟨v1, _, rfl, tyB_of r1 nd, _, _, rfl, rfl, tyName_six nd, hT, q _ H1 R1 (.bl _) m1⟩⟩
theorem pe_type1 {te : TE} (hg : Gl X "type") (hm : X.mg "type" = none) (ha : PE X a te) (he : starEach [a] X.env = (false, eval a X.env) :: starEach [] X.env := by rfl) (hpl : (backTo pos (starEach [] X.env)).any (·.1) = false := by rfl) :
    PE X (.Call (.Name "type" p) [a] [] pos) (fun σ H Q => te σ H fun v H1 => rTyp X.K [v] H1 Q) :=
  pe_of (pe_callTy call_type1 hg hm (by rfl) (pa_cons ha pa_nil he) (by decide) (by decide) he hpl) fun σ H Q h => h
theorem ev_tyEq {T : String} {pos2 : Pos} (hT : T ∈ six) (hg : Gl X "type") (hm : X.mg "type" = none) (ha : PE X a (tE X.K f)) (hb : PE X b (tC (.ty T))) (hk : behindInMarks .Eq b = false)
    (he : starEach [a] X.env = (false, eval a X.env) :: starEach [] X.env := by rfl) (hpl : (backTo pos (starEach [] X.env)).any (·.1) = false := by rfl) :
    PE X (.Compare (.Call (.Name "type" p) [a] [] pos) [.Eq] [b] pos2) (tE X.K (eUn (dTyIs T) f)) :=
  pe_of (pe_cmpR op_eqTy (pe_type1 hg hm ha he hpl) hb hk) (rd_ty hT)
theorem et_tyEq {T : String} {pos2 : Pos} (hT : T ∈ six) (hg : Gl X "type") (hm : X.mg "type" = none) (ha : PE X a (tE X.K f)) (hb : PE X b (tC (.ty T))) (hk : behindInMarks .Eq b = false)
    (he : starEach [a] X.env = (false, eval a X.env) :: starEach [] X.env := by rfl) (hpl : (backTo pos (starEach [] X.env)).any (·.1) = false := by rfl) :
    PT X (.Compare (.Call (.Name "type" p) [a] [] pos) [.Eq] [b] pos2) (tT X.K (tBl (eUn (dTyIs T) f))) :=
  pt_of (pt_cmpR op_eqTy (pe_type1 hg hm ha he hpl) hb hk) (rd_bl (rd_ty hT))
end
end PG
end
section
set_option Elab.async false
set_option linter.all false
set_option maxRecDepth 100000
namespace PG
open PySem PySem.Spec PyProof.Rows L2
/-! ### type(x) != T -/
theorem slotNeTy : Slot "type" (cmpInfo .NotEq).2.1 "object.__ne__" :=
  .of (owner := "object") (n := "__ne__") (by rw [typeLookup_type, builtinLookup_eq_fast]; kernel_rfl) (by decide +kernel) (by decide +kernel) (by decide +kernel)
    (by first | exact .inl (by decide +kernel) | exact .inr (by decide +kernel)) (by rw [isSubtype_type]; kernel_rfl)
section
variable {prog : Program} {w : World} {A : Around} {E : Value → Shared → Prop} {s : Shared}
theorem spEq_same {m : String} {Q : Option Value → Shared → Prop} (hm : ∀ s' : Shared, s'.TypeIs (.type m) "type") (q : Q (some (.bool true)) s) : wpAny (model prog w) A (callSpecialIfBound? (.type m) "__eq__" [.type m]) Q E s :=
  wpAny_callSpecialIfBound?_slot (name := (cmpInfo .Eq).2.1) (hm _) TypeEq.slot_type_eq (call_gives TypeEq.slot_type_eq (hm _) F.entry_object_eq (F.args_object_eq_2 _ _) (TypeEq.object_eq_same rfl (by simp)) q)
theorem spEq_other {m n : String} {Q : Option Value → Shared → Prop} (hm : ∀ s' : Shared, s'.TypeIs (.type m) "type") (hne : (Value.type m == Value.type n) = false) (q : Q (some .notImplemented) s) :
    wpAny (model prog w) A (callSpecialIfBound? (.type m) "__eq__" [.type n]) Q E s :=
  wpAny_callSpecialIfBound?_slot (name := (cmpInfo .Eq).2.1) (hm _) TypeEq.slot_type_eq (call_gives TypeEq.slot_type_eq (hm _) F.entry_object_eq (F.args_object_eq_2 _ _) (TypeEq.object_eq_other rfl hne) q)
theorem neTy_in_same {m : String} {Q : Fin → Shared → Prop} (hm : ∀ s' : Shared, s'.TypeIs (.type m) "type") (hu : A.units < cLine) (q : Q (.done (.ret (.bool false))) s) :
    wpAny (model prog w) A (Builtin.«object.__ne__» ⟨[.type m, .type m], []⟩) Q E s := by
  unfold Builtin.«object.__ne__»
  repeat (first | with_reducible refine wpAny_cRoomFor hu ?_ | with_reducible refine spEq_same hm ?_ | wp_step)
  exact q
theorem neTy_in_other {m n : String} {Q : Fin → Shared → Prop} (hm : ∀ s' : Shared, s'.TypeIs (.type m) "type") (hne : (Value.type m == Value.type n) = false) (hu : A.units < cLine) (q : Q (.done (.ret .notImplemented)) s) :
    wpAny (model prog w) A (Builtin.«object.__ne__» ⟨[.type m, .type n], []⟩) Q E s := by
  unfold Builtin.«object.__ne__»
  repeat (first | with_reducible refine wpAny_cRoomFor hu ?_ | with_reducible refine spEq_other hm hne ?_ | wp_step)
  exact q
theorem callNe_same {m : String} {Q : Value → Shared → Prop} (hm : ∀ s' : Shared, s'.TypeIs (.type m) "type") (hu : A.units + 1 < cLine) (q : Q (.bool false) s) : wpAny (model prog w) A (call (.builtin "object.__ne__") [.type m, .type m]) Q E s :=
  wpAny_call (codeAny_call_builtin slotNeTy.plain F.cmpEntry_ne (slotNeTy.check _ _ _ _ _ _ _ _ (hm _) (F.cmpArgs_ne _ _) (neTy_in_same (A := A.in1) hm hu q)))
theorem callNe_other {m n : String} {Q : Value → Shared → Prop} (hm : ∀ s' : Shared, s'.TypeIs (.type m) "type") (hne : (Value.type m == Value.type n) = false) (hu : A.units + 1 < cLine) (q : Q .notImplemented s) :
    wpAny (model prog w) A (call (.builtin "object.__ne__") [.type m, .type n]) Q E s :=
  wpAny_call (codeAny_call_builtin slotNeTy.plain F.cmpEntry_ne (slotNeTy.check _ _ _ _ _ _ _ _ (hm _) (F.cmpArgs_ne _ _) (neTy_in_other (A := A.in1) hm hne hu q)))
theorem ne_type_same {m : String} {Q : Value → Shared → Prop} (hm : ∀ s' : Shared, s'.TypeIs (.type m) "type") (hu : A.units + 1 < cLine) (q : Q (.bool false) s) : wpAny (model prog w) A (compareOp .NotEq (.type m) (.type m)) Q E s := by
  show wpAny _ A (richCompare .NotEq _ _) Q E s
  exact wpAny_richCompare_same (T := "type") (hm s) (hm s) slotNeTy (callNe_same hm hu ⟨(by intro e; cases e), q⟩)
theorem ne_type_other {m n : String} {Q : Value → Shared → Prop} (hm : ∀ s' : Shared, s'.TypeIs (.type m) "type") (hn : ∀ s' : Shared, s'.TypeIs (.type n) "type") (hne : (Value.type m == Value.type n) = false) (hne2 : (Value.type n == Value.type m) = false) (hu : A.units + 1 < cLine) (q : Q (.bool true) s) :
    wpAny (model prog w) A (compareOp .NotEq (.type m) (.type n)) Q E s := by
  have hu0 : A.units < cLine := by omega
  have k1 : ∀ {s : Shared} {Q : Option Value → Shared → Prop}, Q none s → wpAny (model prog w) A (tryCompare (.type m) "__ne__" (.type n)) Q E s := fun {s Q} q =>
    wpAny_tryCompare_declines (name := (cmpInfo .NotEq).2.1) (hm _) slotNeTy (callNe_other hm hne hu ⟨rfl, q⟩)
  have k2 : ∀ {s : Shared} {Q : Option Value → Shared → Prop}, Q none s → wpAny (model prog w) A (tryCompare (.type n) "__ne__" (.type m)) Q E s := fun {s Q} q =>
    wpAny_tryCompare_declines (name := (cmpInfo .NotEq).2.1) (hn _) slotNeTy (callNe_other hn hne2 hu ⟨rfl, q⟩)
  have hk : isSame (.type m) (.type n) = pure false := by rw [isSame_plain rfl, hne]
  show wpAny _ A (richCompare .NotEq _ _) Q E s
  simp only [richCompare, cmpInfo_NotEq, (hm s).oneThing_none]
  repeat (first | with_reducible refine wpAny_cRoomFor hu0 ?_ | with_reducible refine wpAny_typeOf (hm _) ?_ | with_reducible refine wpAny_typeOf (hn _) ?_ | with_reducible refine k1 ?_ | with_reducible refine k2 ?_ | with_reducible refine wpAny_of_eq hk ?_ | wp_step)
  exact q
end
section
variable {X : Cx} {a b : Expr} {pos : Pos} {p : Pos} {f : EF}
def rTyNe : R2 := fun x y H Q => ∃ m n, x = .ty m ∧ y = .ty n ∧ m ∈ six ∧ n ∈ six ∧ Q (.bl (!decide (m = n))) H
theorem op_neTy (hu : X.A.units + 64 < cLine) : OpR X (compareOp .NotEq) rTyNe := by
  intro pins s σ H x y v u Q I rx ry h
  obtain ⟨m, n, rfl, rfl, hm, hn, q⟩ := h
  cases (show v = Value.type m from rx)
  cases (show u = Value.type n from ry)
  by_cases e : m = n
  · subst e
    rw [decide_eq_true rfl] at q
    exact ne_type_same (meta_six m hm) (by omega) ⟨.bl false, H, I, rfl, q⟩
  · rw [decide_eq_false e] at q
    exact ne_type_other (meta_six m hm) (meta_six n hn) (by rw [ty_beq, decide_eq_false e]) (by rw [ty_beq, decide_eq_false fun z => e z.symm]) (by omega) ⟨.bl true, H, I, rfl, q⟩
@[simp] def dTyNe (T : String) : PyData → Option PyData
  | .dict _ => none
  | x => some (.bool (!decide (tyName x = T)))
theorem tyNe_inv {T : String} {x d : PyData} (h : dTyNe T x = some d) : (∀ kvs, x ≠ .dict kvs) ∧ d = .bool (!decide (tyName x = T)) := by
  cases x <;> first | (cases h; done) | exact ⟨(fun kvs z => by cases z), (Option.some.inj h).symm⟩
theorem rd_tyNe {T : String} (hT : T ∈ six) {K : PySem.W.Frag} : ∀ σ H Q, tE K (eUn (dTyNe T) f) σ H Q → tOp rTyNe (fun σ H Q => tE K f σ H fun v H1 => rTyp K [v] H1 Q) (tC (.ty T)) σ H Q := fun σ H Q ⟨c, ρ, d, ρ', R, e, q⟩ => by
  obtain ⟨x, h1, h3⟩ := un_inv e
  obtain ⟨nd, rfl⟩ := tyNe_inv h3
  exact ⟨c, ρ, x, ρ', R, h1, fun v1 H1 R1 r1 m1 => ⟨v1, _, rfl, tyB_of r1 nd, _, _, rfl, rfl, tyName_six nd, hT, q _ H1 R1 (.bl _) m1⟩⟩
theorem ev_tyNe {T : String} {pos2 : Pos} (hu : X.A.units + 64 < cLine) (hT : T ∈ six) (hg : Gl X "type") (hm : X.mg "type" = none) (ha : PE X a (tE X.K f)) (hb : PE X b (tC (.ty T))) (hk : behindInMarks .NotEq b = false)
    (he : starEach [a] X.env = (false, eval a X.env) :: starEach [] X.env := by rfl) (hpl : (backTo pos (starEach [] X.env)).any (·.1) = false := by rfl) :
    PE X (.Compare (.Call (.Name "type" p) [a] [] pos) [.NotEq] [b] pos2) (tE X.K (eUn (dTyNe T) f)) :=
  pe_of (pe_cmpR (op_neTy hu) (pe_type1 hg hm ha he hpl) hb hk) (rd_tyNe hT)
theorem et_tyNe {T : String} {pos2 : Pos} (hu : X.A.units + 64 < cLine) (hT : T ∈ six) (hg : Gl X "type") (hm : X.mg "type" = none) (ha : PE X a (tE X.K f)) (hb : PE X b (tC (.ty T))) (hk : behindInMarks .NotEq b = false)
    (he : starEach [a] X.env = (false, eval a X.env) :: starEach [] X.env := by rfl) (hpl : (backTo pos (starEach [] X.env)).any (·.1) = false := by rfl) :
    PT X (.Compare (.Call (.Name "type" p) [a] [] pos) [.NotEq] [b] pos2) (tT X.K (tBl (eUn (dTyNe T) f))) :=
  pt_of (pt_cmpR (op_neTy hu) (pe_type1 hg hm ha he hpl) hb hk) (rd_bl (rd_tyNe hT))
/-! ### x in an owned list -/
@[simp] def eBinO (o : PyData → PyData → Option PyData) (f : EF) (i : Nat) : EF := fun ρ => match f ρ with
  | some (x, ρ1) => (match ρ1[i]? with
    | some (some (.l _ ps)) => (match o x (.list ps) with
      | some z => some (z, ρ1)
      | none => none)
    | _ => none)
  | none => none
theorem binO_inv {o : PyData → PyData → Option PyData} {i : Nat} {ρ ρ' : Rho} {z : PyData} (h : eBinO o f i ρ = some (z, ρ')) : ∃ x p ps, f ρ = some (x, ρ') ∧ ρ'[i]? = some (some (.l p ps)) ∧ o x (.list ps) = some z := by
  unfold eBinO at h
  split at h
  · rename_i x ρ1 h1
    split at h
    · rename_i p ps h2
      split at h
      · rename_i z' h3
        cases h
        exact ⟨x, p, ps, h1, h2, h3⟩
      · cases h
    · cases h
  · cases h
theorem rd_inO {i : Nat} {neg : Bool} {o : PyData → PyData → Option PyData} (ho : ∀ x ps d, o x (.list ps) = some d → ∃ j ns, x = .int j ∧ ps = ns.map PyData.int ∧ d = .bool (if neg then !isInI j ns else isInI j ns)) {K : PySem.W.Frag} :
    ∀ σ H Q, tE K (eBinO o f i) σ H Q → tOp (rIn K neg) (tE K f) (tVar i) σ H Q := fun σ H Q ⟨c, ρ, d, ρ', R, e, q⟩ => by
  obtain ⟨x, p, ps, h1, h2, h3⟩ := binO_inv e
  obtain ⟨j, ns, rfl, rfl, rfl⟩ := ho _ _ _ h3
  refine ⟨c, ρ, _, ρ', R, h1, fun v1 H1 R1 r1 m1 => ?_⟩
  obtain ⟨l, us, g1, g2, g3, _⟩ := R1.lst i p _ h2
  have e3 := g3.ints
  subst e3
  cases r1
  exact ⟨.ref l, g1, l, _, rfl, .inl (.inl (.inl g2)), rfl, flat_ints ns, by rw [inV_ints]; exact q _ H1 R1 (.bl _) m1⟩
theorem inL_inv {x d : PyData} {ps : List PyData} (h : dIn x (.list ps) = some d) : ∃ j ns, x = .int j ∧ ps = ns.map PyData.int ∧ d = .bool (if false then !isInI j ns else isInI j ns) := by
  cases x <;> first
    | (cases h; done)
    | (rename_i j
       obtain ⟨b, hb, rfl⟩ := Option.map_eq_some_iff.mp h
       obtain ⟨ns, rfl, rfl⟩ := inD_inv hb
       exact ⟨j, ns, rfl, rfl, rfl⟩)
theorem notInL_inv {x d : PyData} {ps : List PyData} (h : dNotIn x (.list ps) = some d) : ∃ j ns, x = .int j ∧ ps = ns.map PyData.int ∧ d = .bool (if true then !isInI j ns else isInI j ns) := by
  cases x <;> first
    | (cases h; done)
    | (rename_i j
       obtain ⟨b, hb, rfl⟩ := Option.map_eq_some_iff.mp h
       obtain ⟨ns, rfl, rfl⟩ := inD_inv hb
       exact ⟨j, ns, rfl, rfl, rfl⟩)
theorem ev_inO {i : Nat} (ho : OpR X (compareOp .In) (rIn X.K false)) (ha : PE X a (tE X.K f)) (hv : PE X b (tVar i)) (hm : behindInMarks .In b = false) : PE X (.Compare a [.In] [b] pos) (tE X.K (eBinO dIn f i)) := pe_of (pe_cmpR ho ha hv hm) (rd_inO fun _ _ _ h => inL_inv h)
theorem et_inO {i : Nat} (ho : OpR X (compareOp .In) (rIn X.K false)) (ha : PE X a (tE X.K f)) (hv : PE X b (tVar i)) (hm : behindInMarks .In b = false) : PT X (.Compare a [.In] [b] pos) (tT X.K (tBl (eBinO dIn f i))) := pt_of (pt_cmpR ho ha hv hm) (rd_bl (rd_inO fun _ _ _ h => inL_inv h))
theorem ev_notInO {i : Nat} (ho : OpR X (compareOp .NotIn) (rIn X.K true)) (ha : PE X a (tE X.K f)) (hv : PE X b (tVar i)) (hm : behindInMarks .NotIn b = false) : PE X (.Compare a [.NotIn] [b] pos) (tE X.K (eBinO dNotIn f i)) := pe_of (pe_cmpR ho ha hv hm) (rd_inO fun _ _ _ h => notInL_inv h)
theorem et_notInO {i : Nat} (ho : OpR X (compareOp .NotIn) (rIn X.K true)) (ha : PE X a (tE X.K f)) (hv : PE X b (tVar i)) (hm : behindInMarks .NotIn b = false) : PT X (.Compare a [.NotIn] [b] pos) (tT X.K (tBl (eBinO dNotIn f i))) := pt_of (pt_cmpR ho ha hv hm) (rd_bl (rd_inO fun _ _ _ h => notInL_inv h))
end
end PG
end
section
set_option Elab.async false
set_option linter.all false
set_option maxRecDepth 100000
namespace PG
open PySem PySem.Spec PyProof.Rows L2
/-! ### x in xs: flat items, or data in a list -/
def flatD : PyData → Bool
  | .none => true
  | .bool _ => true
  | .int _ => true
  | .str _ => true
  | _ => false
def memD (x : PyData) (ds : List PyData) : Bool := ds.any fun z => PyData.eqv z x
def dMem (neg : Bool) (x : PyData) : PyData → Option PyData
  | .list ds => if (flatD x && ds.all flatD) || (SeqAt.shaped x && SeqAt.shaped (.list ds)) then some (.bool (if neg then !memD x ds else memD x ds)) else none
  | .tuple ds => if flatD x && ds.all flatD then some (.bool (if neg then !memD x ds else memD x ds)) else none
  | _ => none
def dIn2 : PyData → PyData → Option PyData := dMem false
def dNotIn2 : PyData → PyData → Option PyData := dMem true
section
variable {K : PySem.W.Frag} {A : Addr → Prop} {H : Hp}
theorem flat_rp {v : V} {d : PyData} (r : Rp K A H v d) (h : flatD d = true) : flatV v = true := by cases r <;> first | rfl | cases h
theorem eqv_rp {v u : V} {d e : PyData} (r : Rp K A H v d) (q : Rp K A H u e) (h : flatD d = true) (k : flatD e = true) : eqV v u = PyData.eqv d e := by
  cases r <;> cases q <;> first | (cases h; done) | (cases k; done) | (simp [eqV, PyData.eqv]; done) | (simp [eqV, PyData.eqv, BEq.comm])
theorem flat_rpA : ∀ {vs : List V} {ds : List PyData}, RpA K A H vs ds → ds.all flatD = true → vs.all flatV = true
  | _, [], r, _ => by cases r; rfl
  | _, d :: ds, r, h => by
    cases r with
    | cons r1 r2 =>
      simp only [List.all_cons, Bool.and_eq_true] at h ⊢
      exact ⟨flat_rp r1 h.1, flat_rpA r2 h.2⟩
theorem mem_rpA {u : V} {x : PyData} (q : Rp K A H u x) (hx : flatD x = true) : ∀ {vs : List V} {ds : List PyData}, RpA K A H vs ds → ds.all flatD = true → inV u vs = memD x ds
  | _, [], r, _ => by cases r; rfl
  | _, d :: ds, r, h => by
    cases r with
    | cons r1 r2 =>
      simp only [List.all_cons, Bool.and_eq_true] at h
      have ih := mem_rpA q hx r2 h.2
      unfold inV memD at ih ⊢
      rw [List.any_cons, List.any_cons, ih, eqv_rp r1 q h.1 hx]
end
theorem u65 {A : Around} {k : Nat} (r : Room k A) : A.units + 65 < cLine := by have := r.un; omega
def rMem (K : PySem.W.Frag) : R2 := fun x y H Q => rIn K false x y H Q ∨ rInD K x y H Q
def rNotMem (K : PySem.W.Frag) : R2 := fun x y H Q => rIn K true x y H Q ∨ rNotInD K x y H Q
section
variable {X : Cx} {a b : Expr} {pos : Pos} {f : EF}
theorem op_mem (hu : X.A.units + 65 < cLine) : OpR X (compareOp .In) (rMem X.K) := fun pins s σ H x y v u Q I rx ry h => h.elim (op_in_seq pins s σ H x y v u Q I rx ry) (op_inD hu pins s σ H x y v u Q I rx ry)
theorem op_notMem (hu : X.A.units + 65 < cLine) : OpR X (compareOp .NotIn) (rNotMem X.K) := fun pins s σ H x y v u Q I rx ry h => h.elim (op_notIn_seq pins s σ H x y v u Q I rx ry) (op_notInD hu pins s σ H x y v u Q I rx ry)
end
section
variable {K : PySem.W.Frag}
theorem mem_list {neg : Bool} {x d : PyData} {ds : List PyData} (h : dMem neg x (.list ds) = some d) : d = .bool (if neg then !memD x ds else memD x ds) ∧ ((flatD x = true ∧ ds.all flatD = true) ∨ (SeqAt.shaped x = true ∧ SeqAt.shaped (.list ds) = true)) := by
  unfold dMem at h
  simp only at h
  split at h
  · rename_i hc
    cases h
    simp only [Bool.or_eq_true, Bool.and_eq_true] at hc
    exact ⟨rfl, hc⟩
  · cases h
theorem mem_tup {neg : Bool} {x d : PyData} {ds : List PyData} (h : dMem neg x (.tuple ds) = some d) : d = .bool (if neg then !memD x ds else memD x ds) ∧ flatD x = true ∧ ds.all flatD = true := by
  unfold dMem at h
  simp only at h
  split at h
  · rename_i hc
    cases h
    simp only [Bool.and_eq_true] at hc
    exact ⟨rfl, hc⟩
  · cases h
/-- the list at l holds us, which are ds -/
theorem mem_at {A : Addr → Prop} {H : Hp} {neg : Bool} {v : V} {x d : PyData} {l : Addr} {us : List V} {ds : List PyData} {Q : VK} (r1 : Rp K A H v x) (q2 : SqL K H l us) (q3 : RpA K A H us ds) (h : dMem neg x (.list ds) = some d) (q : ∀ b, d = .bool b → Q (.bl b) H) :
    rIn K neg v (.ref l) H Q ∨ (if neg then rNotInD K else rInD K) v (.ref l) H Q := by
  obtain ⟨rfl, hc⟩ := mem_list h
  rcases hc with ⟨h1, h2⟩ | ⟨h1, h2⟩
  · refine .inl ⟨l, us, rfl, .inl q2, flat_rp r1 h1, flat_rpA q3 h2, ?_⟩
    rw [mem_rpA r1 h1 q3 h2]
    exact q _ rfl
  · refine .inr ?_
    have d1 := Rp.dp _ _ r1 (SeqAt.canLay_of_shaped h1)
    have d2 : Dp K H (.ref l) (.list ds) := .lst q2 (RpA.dp _ _ q3 (SeqAt.canLay_of_shaped h2))
    cases neg with
    | true => exact ⟨x, ds, d1, d2, h1, h2, q _ rfl⟩
    | false => exact ⟨x, ds, d1, d2, h1, h2, q _ rfl⟩
theorem os_mem : OpS K (rMem K) dIn2 := by
  intro c ρ σ H v1 v2 x y d Q R r1 r2 ho q
  cases y with
  | list ds =>
    cases r2 with
    | lst l al => exact mem_at (neg := false) r1 l.sq al ho fun b e => by subst e; exact q _ _ R (.bl _) fun _ _ h => h
  | tuple ds =>
    cases r2 with
    | tup l al =>
      obtain ⟨rfl, h1, h2⟩ := mem_tup ho
      refine .inl ⟨_, _, rfl, .inr l.sq, flat_rp r1 h1, flat_rpA al h2, ?_⟩
      rw [mem_rpA r1 h1 al h2]
      exact q _ _ R (.bl _) fun _ _ h => h
  | _ => cases ho
theorem os_notMem : OpS K (rNotMem K) dNotIn2 := by
  intro c ρ σ H v1 v2 x y d Q R r1 r2 ho q
  cases y with
  | list ds =>
    cases r2 with
    | lst l al => exact mem_at (neg := true) r1 l.sq al ho fun b e => by subst e; exact q _ _ R (.bl _) fun _ _ h => h
  | tuple ds =>
    cases r2 with
    | tup l al =>
      obtain ⟨rfl, h1, h2⟩ := mem_tup ho
      refine .inl ⟨_, _, rfl, .inr l.sq, flat_rp r1 h1, flat_rpA al h2, ?_⟩
      rw [mem_rpA r1 h1 al h2]
      exact q _ _ R (.bl _) fun _ _ h => h
  | _ => cases ho
end
section
variable {X : Cx} {a b : Expr} {pos : Pos} {f : EF}
theorem rd_memO {i : Nat} {neg : Bool} {K : PySem.W.Frag} : ∀ σ H Q, tE K (eBinO (dMem neg) f i) σ H Q → tOp (fun x y H Q => rIn K neg x y H Q ∨ (if neg then rNotInD K else rInD K) x y H Q) (tE K f) (tVar i) σ H Q := fun σ H Q ⟨c, ρ, d, ρ', R, e, q⟩ => by
  obtain ⟨x, p, ps, h1, h2, h3⟩ := binO_inv e
  refine ⟨c, ρ, _, ρ', R, h1, fun v1 H1 R1 r1 m1 => ?_⟩
  obtain ⟨l, us, g1, g2, g3, _⟩ := R1.lst i p _ h2
  exact ⟨.ref l, g1, mem_at r1 (.inl (.inl g2)) g3 h3 fun b e => by subst e; exact q _ H1 R1 (.bl _) m1⟩
theorem ev_memO {i : Nat} (hu : X.A.units + 65 < cLine) (ha : PE X a (tE X.K f)) (hv : PE X b (tVar i)) (hm : behindInMarks .In b = false) : PE X (.Compare a [.In] [b] pos) (tE X.K (eBinO dIn2 f i)) := pe_of (pe_cmpR (op_mem hu) ha hv hm) (rd_memO (neg := false))
theorem et_memO {i : Nat} (hu : X.A.units + 65 < cLine) (ha : PE X a (tE X.K f)) (hv : PE X b (tVar i)) (hm : behindInMarks .In b = false) : PT X (.Compare a [.In] [b] pos) (tT X.K (tBl (eBinO dIn2 f i))) := pt_of (pt_cmpR (op_mem hu) ha hv hm) (rd_bl (rd_memO (neg := false)))
theorem ev_notMemO {i : Nat} (hu : X.A.units + 65 < cLine) (ha : PE X a (tE X.K f)) (hv : PE X b (tVar i)) (hm : behindInMarks .NotIn b = false) : PE X (.Compare a [.NotIn] [b] pos) (tE X.K (eBinO dNotIn2 f i)) := pe_of (pe_cmpR (op_notMem hu) ha hv hm) (rd_memO (neg := true))
theorem et_notMemO {i : Nat} (hu : X.A.units + 65 < cLine) (ha : PE X a (tE X.K f)) (hv : PE X b (tVar i)) (hm : behindInMarks .NotIn b = false) : PT X (.Compare a [.NotIn] [b] pos) (tT X.K (tBl (eBinO dNotIn2 f i))) := pt_of (pt_cmpR (op_notMem hu) ha hv hm) (rd_bl (rd_memO (neg := true)))
end
end PG
end
section
set_option Elab.async false
set_option linter.all false
set_option maxRecDepth 100000
namespace PG
open PySem PySem.Spec PyProof.Rows L2
/-! ### repr(x): asked where no text of an object is being made (the law's own body) -/
/-- a def's promise, where nothing of that kind is under way -/
structure FnQ (P : Program) (w : World) (K : PySem.W.Frag) (mg : Str → Option Value) (bas : Heap) (k : Nat) (fa : Addr) (fd : FuncData) (ps : List Str) (sp : Sp) : Prop where
  arity : ∀ vs H Q E, sp vs H Q E → vs.length = ps.length
  does : ∀ (B : Around) (up : List Env) (s : Shared) (H : Hp) (ar : Args) (us : List Value) (vs : List V) (Q : VK) (E : XK), B.guards = some [] → Room k B → Env0 P w K mg bas B up s H → BindsTo s fd ar (ps.zip us) → Vals vs us → sp vs H Q E →
    codeAny (model P w) B (.call (.ref fa) ar) (CR CX0 up P w H s Q E) s
theorem guards_deeper {B : Around} {env : Env} (h : B.guards = some []) : (B.deeper env).guards = some [] := by
  first | exact h | (simp [Around.deeper, h])
section
variable {P : Program} {w : World} {K : PySem.W.Frag} {mg : Str → Option Value} {bas : Heap}
theorem fnq_of {k : Nat} {fa : Addr} {nm ql : Str} {pr : Arguments} {bd : List Stmt} {sc : Scope} {dV kV doc pm cdv ct oc : Value} {an od : Option Addr} {sl : Array (Option Value)} {N ps : List Str} {sp : Sp}
    (hl : K.lookup fa = some ⟨oc, od, .func (PySem.W.fnOf nm ql pr bd sc dV kV doc pm an cdv ct), sl⟩) (hc : PySem.W.codeIn K cdv ql = true) (S : FnScope N ps sc) (har : ∀ vs H Q E, sp vs H Q E → vs.length = ps.length)
    (hbd : ∀ (B : Around) (up : List Env) (s : Shared) (H : Hp) (vs : List V) (Q : VK) (E : XK), (B.deeper (envOfC ql sc s.heap.objs.size fa cdv)).guards = some [] → Room k (B.deeper (envOfC ql sc s.heap.objs.size fa cdv)) → sp vs H Q E →
      ∃ t, PSs (cxOf CX0 P w K mg bas N ql sc fa cdv B up s H E) bd t ∧ t { nx := fun _ H' => Q .non H', rt := Q } (start N vs) H) :
    FnQ P w K mg bas (k + 1) fa (PySem.W.fnOf nm ql pr bd sc dV kV doc pm an cdv ct) ps sp := by
  refine ⟨har, fun B up s H ar us vs Q E hgd room en hbind rv want => ?_⟩
  have many := har _ _ _ _ want
  have kin : K.In s.heap := en.mod.kin.keeps fun b o e => (en.bs b o e).1
  have nolim : s.heap.NoLimit := en.mod.nolimit.keeps fun b o e => (en.bs b o e).1
  have kinds : ∀ y ∈ ps.zip us, sc.names.lookup y.1 = some .local ∨ (sc.names.lookup y.1 = some .cell ∧ ((cellsFrom (s.heap.objs.size + 1) sc.names []).lookup y.1).isSome = true) := fun y hy => by
    obtain ⟨n, v⟩ := y
    rcases S.par n (List.of_mem_zip hy).1 with q | q
    · exact .inl q
    · exact .inr ⟨q, PySem.W.cellsFrom_some _ _ _ (.inl q)⟩
  refine codeAny_call_function room.depth (kin _ _ hl) rfl S.co S.gen rfl (PySem.W.codeRec_of kin hc) (hbind _ _ _ _ ?_)
  refine wpAny_newFunctionEnv_cells S.kind kinds fun env henv s1 x => ?_
  subst henv
  refine ⟨nolim.keeps x.toInCall.keep, codeAny_func ?_⟩
  obtain ⟨t, tp, tq⟩ := hbd B up s H vs Q E (guards_deeper hgd) (room.deeper _) want
  have inv : Inv (cxOf CX0 P w K mg bas N ql sc fa cdv B up s H E) [] (start N vs) H s1 := inv_start S room.hd en many rv x
  refine wpAny_mono (tp.run [] s1 (start N vs) H _ inv tq) (fun fl s' hs => ?_) fun e s' hs => hs
  cases fl with
  | ret u => exact let ⟨v, σ', H', J, rv', q⟩ := hs; ⟨v, H', J.os, J.bare, J.base, J.hok, rv', q⟩
  | next => exact let ⟨σ', H', J, q⟩ := hs; ⟨.non, H', J.os, J.bare, J.base, J.hok, rfl, q⟩
  | brk => exact let ⟨_, _, _, q⟩ := hs; False.elim q
  | cont => exact let ⟨_, _, _, q⟩ := hs; False.elim q
/-- a def on data, in such a place -/
theorem okq_P {x qual : Str} {st : Stmt} {fa : Addr} {fd : FuncData} {N ps : List Str} {j k m : Nat} {b : SF} (F : L2.Fun K x qual st fa fd) (S : FnScope N ps (defScope st)) (hk : ps.length = k) (hm : k + m = N.length)
    (hb : ∀ (cdv : Value) (A : Around) (outer : List Env) (s : Shared) (H : Hp) (E : XK), (A.deeper (envOfC qual (defScope st) s.heap.objs.size fa cdv)).guards = some [] → Room j (A.deeper (envOfC qual (defScope st) s.heap.objs.size fa cdv)) → PSs (cxOf CX0 P w K mg bas N qual (defScope st) fa cdv A outer s H E).nox (defBody st) (tS K b)) :
    FnQ P w K mg bas (j + 1) fa fd ps (spP K k (defP b k m)) := by
  obtain ⟨oc, od, kV, doc, pm, an, cdv, ct, sl, rfl, lk, hcd⟩ := F.ex
  refine fnq_of lk hcd S (fun vs H Q E h => h.1.trans hk.symm) fun A outer s H vs Q E hg hr h => ?_
  obtain ⟨hl, ht, A', ds, r, ra, hA, e, q⟩ := h
  refine ⟨_, (hb cdv A outer s H E hg hr).nox, ?_⟩
  have R := rel_start (m := m) (N := N) ht ra hA (by omega)
  unfold defP at e
  split at e
  · cases eb : b (rho0 ds m) with
    | none => rw [eb] at e; cases e
    | some z =>
      obtain ⟨o, ρ'⟩ := z
      rw [eb] at e
      have kp : ∀ σ' H', Rel K ⟨A', H, fun _ => none, ht, fun _ _ z => nomatch z⟩ ρ' σ' H' → ∀ a o, H a = some o → H' a = some o := fun σ' H' R' a o h => R'.old a o h fun i z => nomatch z
      refine ⟨_, rho0 ds m, o, ρ', R, eb, ?_⟩
      cases o with
      | next => cases e; exact fun σ' H' R' _ => q .non H' (kp σ' H' R') .non
      | brk => cases e
      | cont => cases e
      | ret d => cases e; exact fun v σ' H' R' r' => q v H' (kp σ' H' R') r'
      | retL ds => cases e; exact fun a vs σ' H' R' ha r' h0 => q (.ref a) H' (kp σ' H' R') (.lst ⟨ha, fun z => hA a z h0⟩ (r'.mv fun b o e n => ⟨e, fun z => n (.inl z)⟩))
  · cases e
end
/-! the law's own call -/
theorem law_runs {P : Program} {w : World} {K : PySem.W.Frag} {mg mb : Str → Option Value} {k : Nat} {fa at_ : Addr} {fd : FuncData} {x : Str} {sp : Sp} {st : Shared} {us : List Value} {ns : List Int}
    (kin : K.In st.heap) (gns : st.heap.Ns mainGlobals mg) (bns : st.heap.Ns builtinsNs mb) (boot : ∀ y : Str, y ≠ "__name__" → mb y = bootBuiltins y) (nolim : st.heap.NoLimit) (nog : st.gens = #[])
    (hat : st.heap.get? at_ = some { cls := .type "list", data := .seq us.toArray }) (cells : IntsAre us ns) (short : ns.length ≤ sizeLine) (room : Room k callerA)
    (F : ∀ bas : Heap, K.In bas → bas.Ns mainGlobals mg → FnQ P w K mg bas k fa fd [x] sp) (binds : ∀ (s : Shared) (u : Value), BindsTo s fd ⟨[u], []⟩ [(x, u)])
    (want : ∀ H : Hp, Only H → SqL K H at_ (ns.map V.int) → sp [.ref at_] H (fun v _ => v = .bl true) fun _ _ _ => False) :
    codeAny (model P w) callerA (.call (.ref fa) ⟨[.ref at_], []⟩) (fun r s' => r = .ok (.ret (.bool true)) ∧ OldK st.heap s'.heap ∧ s'.os = st.os ∧ AllBare s'.gens) st := by
  have vals := vals_ints cells
  have many := cells.length
  have main : ∀ H : Hp, Only H → SqL K H at_ (ns.map V.int) → HOk P w H st.heap → (∀ b, H b ≠ none → b = at_) → (H at_ ≠ none → K.lookup at_ = none) →
      codeAny (model P w) callerA (.call (.ref fa) ⟨[.ref at_], []⟩) (fun r s' => r = .ok (.ret (.bool true)) ∧ OldK st.heap s'.heap ∧ s'.os = st.os ∧ AllBare s'.gens) st := by
    intro H only sq hok alone notK
    have low : ∀ {b : Addr} {o : Obj}, st.heap.get? b = some o → H b = none → (hidT st.heap H).get? b = some o := fun e n => hidT_get e n
    have dictNo : ∀ {b : Addr} {o : Obj} {es : Array DictEntry} {ep : Nat}, st.heap.get? b = some o → o.data = .dict es ep → H b = none := fun {b o es ep} e d => by
      cases q : H b with
      | none => rfl
      | some u =>
        obtain rfl := alone b (by rw [q]; simp)
        rw [hat] at e
        cases e
        exact nomatch (show Data.seq us.toArray _ = Data.dict es ep from d)
    have ns2 : ∀ {b : Addr} {m : Str → Option Value}, st.heap.Ns b m → (hidT st.heap H).Ns b m := fun {b m} h => by
      obtain ⟨o, es, ep, e, d, r⟩ := h
      exact ⟨o, es, ep, low e (dictNo e d), d, r⟩
    have kin2 : K.In (hidT st.heap H) := fun b o e => low (kin b o e) (by
      cases q : H b with
      | none => rfl
      | some u =>
        obtain rfl := alone b (by rw [q]; simp)
        rw [notK (by rw [q]; simp)] at e
        cases e)
    have md : Mod K mg (hidT st.heap H) := ⟨kin2, ns2 gns, ⟨mb, ns2 bns, boot⟩, by obtain ⟨mc, h1, h2⟩ := nolim; exact ⟨mc, ns2 h1, h2⟩⟩
    have en : Env0 P w K mg (hidT st.heap H) callerA [] st H := ⟨rfl, md, fun b o e => of_hidT e, Nat.le_of_eq (hidT_size _ _), trivial, (fun b hb => nomatch (show b ∈ ([] : List Addr) from hb)), hok, .of_eq nog⟩
    refine codeAny_mono ((F _ kin2 (ns2 gns)).does callerA [] st H ⟨[.ref at_], []⟩ [.ref at_] [.ref at_] _ _ rfl room en (binds st (.ref at_)) (.cons rfl .nil) (want H only sq)) fun r s' h => ?_
    cases r with
    | error e => exact absurd h (by intro z; exact z)
    | ok fl =>
      cases fl with
      | next => exact False.elim h
      | brk => exact False.elim h
      | cont => exact False.elim h
      | ret u =>
        obtain ⟨v, H', os, bare, un, hok', rv, q⟩ := h
        obtain rfl : v = .bl true := q
        obtain rfl : u = Value.bool true := rv
        refine ⟨rfl, OldK.of_keep fun b o e => ?_, os, bare⟩
        cases q : H b with
        | none => exact un.keep b o e q (by intro z; exact nomatch (show b ∈ ([] : List Addr) from z)) (by simp)
        | some u =>
          rcases only b with z | ⟨ob, xs, z⟩
          · rw [q] at z
            cases z
          · obtain ⟨e1, _⟩ := hok b _ z
            obtain ⟨e2, _⟩ := hok' b _ (un.frzs b ob _ z)
            rw [e] at e1
            cases e1
            exact e2
  cases hk : K.lookup at_ with
  | some o =>
    have e := kin at_ o hk
    rw [hat] at e
    cases e
    refine main (fun _ => none) (fun _ => .inl rfl) (.inr ⟨_, us.toArray, _, hk, rfl, rfl, rfl, by rw [List.size_toArray, many]; exact short, by simpa using vals⟩) (fun b u z => nomatch (show (none : Option HO) = some u from z)) (fun b z => absurd rfl z) fun z => absurd rfl z
  | none =>
    refine main (fun b => if b = at_ then some (.frz { cls := .type "list", data := .seq us.toArray } (.lst (ns.map V.int))) else none) (fun b => ?_) (.inl (.inr ⟨{ cls := .type "list", data := .seq us.toArray }, if_pos rfl⟩)) (fun b u z => ?_) (fun b z => ?_) fun _ => hk
    · rcases Classical.em (b = at_) with hb | hb
      · exact .inr ⟨_, _, if_pos hb⟩
      · exact .inl (if_neg hb)
    · rcases Classical.em (b = at_) with hb | hb
      · have z' := (if_pos hb).symm.trans z
        cases z'
        subst hb
        exact ⟨hat, by rw [List.length_map]; exact short, us, _, vals, hat⟩
      · exact nomatch (if_neg hb).symm.trans z
    · rcases Classical.em (b = at_) with hb | hb
      · exact hb
      · exact absurd (if_neg hb) z
theorem walkq_of {l : PySem.W.OpenLaw} {n k : Nat} {q : Program} {loose : List Str} {XP : (Str → Option Value) → Heap → Prop} {YP : World → Heap → Prop} {d : DefRec} {K : Params → PySem.W.Frag} {sp : World → Sp} {x : Str}
    (most : l.most = some n) (short : n ≤ sizeLine) (nodef : d.params.defaults = []) (room : Room k callerA) (hY : ∀ (w : World) (h : Heap), YP w h → (K w.params).In h)
    (F : ∀ (w : World) (mg : Str → Option Value) (fa : Addr) (h : Heap), (K w.params).In h → h.Ns mainGlobals mg → mg d.name = some (.ref fa) →
      ∃ fd : FuncData, (∀ (s : Shared) (u : Value), BindsTo s fd ⟨[u], []⟩ [(x, u)]) ∧ ∀ bas : Heap, (K w.params).In bas → bas.Ns mainGlobals mg → FnQ l.prog w (K w.params) mg bas k fa fd [x] (sp w))
    (want : ∀ (w : World) (H : Hp) (a : Addr) (ns : List Int), ns.length ≤ n → Only H → SqL (K w.params) H a (ns.map V.int) → sp w [.ref a] H (fun v _ => v = .bl true) fun _ _ _ => False) :
    PySem.W.WalkO q loose XP YP l.row.toRowW d [] (fun f vs => PySem.call f vs) := by
  refine Att.attach_call most nodef fun w s₀ st mg mb fa o pm cd doc a vs ns G Y ho hd hcd hmg hobj hints hlen hg => ?_
  have kin := hY w _ Y
  obtain ⟨fd, binds, hF⟩ := F w mg fa _ kin G.T.g hmg
  exact law_runs kin G.T.g G.T.b G.T.builtins G.T.nolimit hg hobj hints (Nat.le_trans hlen short) room hF binds fun H only sq => want w H a ns hlen only sq
/-! repr -/
def reprOk (d : PyData) : Bool := d.canLay0 && decide (d.depth ≤ 64) && d.showable && decide (d.shown.length ≤ 16777216)
def dRepr (d : PyData) : Option PyData := if reprOk d then some (.str d.shown) else none
mutual
theorem noDict0 : ∀ d : PyData, d.canLay0 = true → d.hasDict = false
  | .none, _ => rfl
  | .bool _, _ => rfl
  | .int _, _ => rfl
  | .str _, _ => rfl
  | .list xs, h => by simp only [PyData.canLay0] at h; simp only [PyData.hasDict]; exact noDictA xs h
  | .tuple xs, h => by simp only [PyData.canLay0] at h; simp only [PyData.hasDict]; exact noDictA xs h
  | .dict _, h => by simp [PyData.canLay0] at h
theorem noDictA : ∀ ds : List PyData, PyData.canLayAll0 ds = true → PyData.hasDictAll ds = false
  | [], _ => rfl
  | d :: ds, h => by
    simp only [PyData.canLayAll0, Bool.and_eq_true] at h
    simp only [PyData.hasDictAll, noDict0 d h.1, noDictA ds h.2, Bool.or_false]
end
section
variable {X : Cx} {a : Expr} {p pos : Pos} {f : EF}
def rRepr (K : PySem.W.Frag) : List V → Hp → VK → Prop := fun xs H Q => ∃ v d, xs = [v] ∧ Dp K H v d ∧ reprOk d = true ∧ Q (.str d.shown) H
theorem call_repr (hg : X.A.guards = some []) (hu : X.A.units + 66 < cLine) : CallR X (.builtin "repr") (rRepr X.K) := by
  intro pins s σ H xs us Q I r h
  obtain ⟨v, d, rfl, hd, ok, q⟩ := h
  obtain ⟨u, rfl, rv⟩ := vals1 r
  obtain ⟨as, rd⟩ := Dp.reads I d v u hd rv
  simp only [reprOk, Bool.and_eq_true, decide_eq_true_eq] at ok
  obtain ⟨⟨⟨h1, h2⟩, h3⟩, h4⟩ := ok
  have hz : d.shown.length ≤ sizeLine := by rw [sizeLine_eq]; exact h4
  have hsm : d.hasDict = true → sysModules ∉ as := fun z => by rw [noDict0 d h1] at z; cases z
  cases rd with
  | none => exact P.repr_of_none ⟨.str _, H, I.tok _, ⟨_, rfl⟩, q⟩
  | bool b => exact P.repr_of_bool ⟨.str _, H, I.tok _, ⟨_, rfl⟩, q⟩
  | int i t => exact P.repr_of_int (by simpa [PyData.showable] using h3) ⟨.str _, H, I.tok _, ⟨_, rfl⟩, q⟩
  | str x t => exact P.repr_of_str ⟨.str _, H, I.tok _, ⟨_, rfl⟩, q⟩ (by simpa only [PyData.shown] using hz)
  | list q1 q2 q3 q4 => exact repr_of_reads' (.list q1 q2 q3 q4) h3 hsm hg (by omega) (fun _ _ e => e) (fun h' u tk kp => ⟨.str _, H, I.kept kp, ⟨_, rfl⟩, q⟩) hz
  | tuple q1 q2 q3 q4 => exact repr_of_reads' (.tuple q1 q2 q3 q4) h3 hsm hg (by omega) (fun _ _ e => e) (fun h' u tk kp => ⟨.str _, H, I.kept kp, ⟨_, rfl⟩, q⟩) hz
  | dict _ _ _ _ _ => simp [PyData.canLay0] at h1
end
theorem fs_repr {K : PySem.W.Frag} : FnS K (rRepr K) (o1of dRepr) := by
  intro c ρ σ H vs ds d Q R r ho q
  obtain ⟨x, rfl, h2⟩ := o1_inv ho
  obtain ⟨v, rfl, w1⟩ := rpa1 r
  unfold dRepr at h2
  split at h2
  · rename_i hc
    cases h2
    have hl : x.canLay0 = true := by
      simp only [reprOk, Bool.and_eq_true] at hc
      exact hc.1.1.1
    exact ⟨v, x, rfl, Rp.dp _ _ w1 hl, hc, os_same R q (.str _)⟩
  · cases h2
theorem u66 {A : Around} {k : Nat} (r : Room k A) : A.units + 66 < cLine := by have := r.un; omega
/-! texts compared -/
@[simp] def dNeS : PyData → PyData → Option PyData
  | .str x, .str y => some (.bool (!decide (x = y)))
  | _, _ => none
@[simp] def dEqS : PyData → PyData → Option PyData
  | .str x, .str y => some (.bool (decide (x = y)))
  | _, _ => none
theorem os_neS {K : PySem.W.Frag} : OpS K rNe dNeS := by
  intro c ρ σ H v1 v2 x y d Q R r1 r2 ho q
  unfold dNeS at ho
  split at ho
  · cases ho
    cases r1
    cases r2
    refine ⟨rfl, ?_⟩
    rename_i a b
    have e : (decide (V.str a = V.str b)) = decide (a = b) := by
      rw [Bool.eq_iff_iff]
      simp
    rw [e]
    exact os_same R q (.bl _)
  · cases ho
theorem os_eqS {K : PySem.W.Frag} : OpS K rEq dEqS := by
  intro c ρ σ H v1 v2 x y d Q R r1 r2 ho q
  unfold dEqS at ho
  split at ho
  · cases ho
    cases r1
    cases r2
    refine ⟨rfl, ?_⟩
    rename_i a b
    have e : (decide (V.str a = V.str b)) = decide (a = b) := by
      rw [Bool.eq_iff_iff]
      simp
    rw [e]
    exact os_same R q (.bl _)
  · cases ho
end PG
end
section
set_option Elab.async false
set_option linter.all false
set_option maxRecDepth 100000
set_option maxHeartbeats 4000000
namespace PG
open PySem PySem.Spec PyProof.Rows L2
theorem tuple_mul1 (l : Addr) (items : Array Value) (n : Nat) (dd : Option Addr) (sl : Array (Option Value)) (x : Int) (u : Tok) (c0 : (decide (x < -(2 ^ 63)) || decide (x ≥ 2 ^ 63)) = false) (c1 : (items.isEmpty || x == 1) = true) :
    Meets (Builtin.«tuple.__mul__» ⟨[.ref l, .int x u], []⟩) (fun _ R s => s.heap.get? l = some { cls := .type "tuple", dict := dd, data := .seq items n, slots := sl } ∧
      R (.ok (.ret (Value.ref l))) s) :=
  .of_wp fun prog w A R s h => by
    obtain ⟨hp, g, d, tk, os⟩ := s
    obtain ⟨hl, h⟩ := h
    have f1 := AutoSeq1.idx_int
    wp_walk using wpAny_loadPart' hl
    repeat (first
      | (refine wpAny_ite_false (decide_eq_false (by rw [c0]; exact Bool.false_ne_true)) ?_; wp_walk using wpAny_loadPart' hl)
      | (refine wpAny_ite_true (decide_eq_true (by rw [c1])) ?_; wp_walk using wpAny_loadPart' hl))

    exact ⟨_, rfl, h⟩
theorem tuple_mul0 (l : Addr) (items : Array Value) (n : Nat) (dd : Option Addr) (sl : Array (Option Value)) (x : Int) (u : Tok) (c0 : (decide (x < -(2 ^ 63)) || decide (x ≥ 2 ^ 63)) = false) (c1 : (items.isEmpty || x == 1) = false) (c2 : (decide (x ≤ 0) || items.isEmpty) = true) :
    Meets (Builtin.«tuple.__mul__» ⟨[.ref l, .int x u], []⟩) (fun _ R s => s.heap.get? l = some { cls := .type "tuple", dict := dd, data := .seq items n, slots := sl } ∧
      R (.ok (.ret (Value.ref s.heap.objs.size))) { s with heap := s.heap.push { cls := Value.type "tuple", data := Data.seq #[] }, toks := s.toks }) :=
  .of_wp fun prog w A R s h => by
    obtain ⟨hp, g, d, tk, os⟩ := s
    obtain ⟨hl, h⟩ := h
    have f1 := AutoSeq1.idx_int
    wp_walk using wpAny_loadPart' hl
    repeat (first
      | (refine wpAny_ite_false (decide_eq_false (by rw [c0]; exact Bool.false_ne_true)) ?_; wp_walk using wpAny_loadPart' hl)
      | (refine wpAny_ite_false (decide_eq_false (by rw [c1]; exact Bool.false_ne_true)) ?_; wp_walk using wpAny_loadPart' hl)
      | (refine wpAny_ite_true (decide_eq_true (by rw [c2])) ?_; wp_walk using wpAny_loadPart' hl))

    exact ⟨_, rfl, h⟩

def rRepT2 (K : PySem.W.Frag) : R2 := fun x y H Q => ∃ l k xs, x = .ref l ∧ y = .int k ∧ SqT K H l xs ∧ -(2 ^ 63) ≤ k ∧ k < 2 ^ 63 ∧ xs.length * k.toNat ≤ sizeLine ∧ (xs = [] ∨ k = 1 → Q (.ref l) H) ∧
  ∀ p, H p = none → Q (.ref p) (upd H p (.tup (List.replicate k.toNat xs).flatten))
section
variable {X : Cx}
theorem op_repT2 : OpR X (binaryOp .Mult) (rRepT2 X.K) := by
  intro pins s σ H x y v u Q I rx ry h
  obtain ⟨l, k, xs, rfl, rfl, hT, h1, h2, hz, qs, q⟩ := h
  cases rx
  obtain ⟨t, rfl⟩ := ry
  obtain ⟨its, r, ⟨⟨cls, dd, data, sl⟩, ho, hc, n, hd⟩, hs⟩ := I.tuple hT
  simp only at hc hd
  subst hc hd
  have hle : its.length = xs.length := r.length.symm
  have hsz0 : its.toArray.size = xs.length := by rw [List.size_toArray, hle]
  have c0 : (decide (k < -(2 ^ 63)) || decide (k ≥ 2 ^ 63)) = false := by
    rw [decide_eq_false (by omega), decide_eq_false (by omega)] <;> rfl
  have go : ∀ {Qv : Value → Shared → Prop} {Sp : PySem.Spec} (M : Meets (Builtin.«tuple.__mul__» ⟨[.ref l, .int k t], []⟩) Sp), Sp X.A (wants Qv X.xe) s → wpAny (model X.prog X.w) X.A (binaryOp .Mult (.ref l) (.int k t)) Qv X.xe s := fun M hM =>
    wpAny_binaryOp_repeat_ref (T := "tuple") (U := "int") (by decide) ⟨_, ho, rfl⟩ (fun s' => typeIs_int s' k t) noFill_tuple_mul F.fills_int_mul F.slot_int_rmul repeat_tuple F.slot_int_index.lookup
    (call_meets F.slot_int_rmul (typeIs_int s k t) F.entry_int_rmul (F.args_int_rmul_2 _ _) (int_rmul_tuple k t l its.toArray n dd sl)
      ⟨ho, rfl, ⟨_, ho, rfl⟩, call_meets F.slot_tuple_mul ⟨_, ho, rfl⟩ F.entry_tuple_mul (F.args_tuple_mul_2 _ _) M hM⟩)
  have hi : its.toArray.isEmpty = xs.isEmpty := by
    cases its with
    | nil => rw [show xs = [] from List.eq_nil_of_length_eq_zero hle.symm]; rfl
    | cons a b =>
      cases xs with
      | nil => cases hle
      | cons _ _ => rfl
  by_cases c1 : (its.toArray.isEmpty || k == 1) = true
  · refine go (tuple_mul1 l its.toArray n dd sl k t c0 c1) ⟨ho, ?_⟩
    refine ⟨.ref l, H, I, rfl, qs ?_⟩
    rw [hi] at c1
    rcases Bool.or_eq_true_iff.mp c1 with c | c
    · exact .inl (List.isEmpty_iff.mp c)
    · exact .inr (by simpa using c)
  have c1 : (its.toArray.isEmpty || k == 1) = false := by simpa using c1
  have hne : its.toArray.isEmpty = false := by
    cases e : its.toArray.isEmpty with
    | false => rfl
    | true => rw [e] at c1; cases c1
  by_cases c2 : k ≤ 0
  · refine go (tuple_mul0 l its.toArray n dd sl k t c0 c1 (by rw [hne, decide_eq_true c2]; rfl)) ⟨ho, ?_⟩
    have e0 : k.toNat = 0 := by omega
    rw [e0] at q
    exact ⟨.ref s.heap.objs.size, _, I.laid (t' := s.toks) (o := .tup (List.replicate 0 xs).flatten) (fun b ob q => Heap.get?_push_of_some _ q) (Nat.le_refl _) ⟨by simp, [], .nil, IsTup.new _ _⟩, rfl, q _ (I.hok.fresh (Nat.le_refl _))⟩
  · have c2' : (decide (k ≤ 0) || its.toArray.isEmpty) = false := by rw [hne, decide_eq_false c2]; rfl
    have hm : ((its.toArray.size : Nat) : Int) * k ≤ (sizeLine : Nat) := by
      rw [hsz0]
      have : ((xs.length * k.toNat : Nat) : Int) ≤ (sizeLine : Nat) := by exact_mod_cast hz
      rw [Int.natCast_mul, show ((k.toNat : Nat) : Int) = k by omega] at this
      exact this
    have flen : (List.replicate k.toNat its).flatten.length ≤ sizeLine := by
      rw [PyProof.Rows.lm_len_rep_flat, hle, Nat.mul_comm]
      exact hz
    have c3 : ¬ ((its.toArray.size : Nat) : Int) * k > (2 ^ 63 - 1) / 8 := by
      rw [sizeLine_eq] at hm
      omega
    have c4 : Builtin.Tuple.tupleTooMany (((its.toArray.size : Nat) : Int) * k) = false := by
      unfold Builtin.Tuple.tupleTooMany
      exact decide_eq_false (by omega)
    refine go (tuple_mulW l its.toArray n dd sl k t c0 c1 c2' c3 c4 (by rw [size_rep, List.size_toArray]; exact flen)) ⟨ho, ?_⟩
    rw [size_rep]
    refine ⟨.ref s.heap.objs.size, _, I.laid (t' := s.toks) (o := .tup (List.replicate k.toNat xs).flatten) (fun b ob q => Heap.get?_push_of_some _ q) (Nat.le_refl _) ?_, rfl, q _ (I.hok.fresh (Nat.le_refl _))⟩
    exact ⟨by rw [PyProof.Rows.lm_len_rep_flat, Nat.mul_comm]; exact hz, _, r.rep k.toNat, IsTup.new _ _⟩
end
@[simp] def dRepT : PyData → PyData → Option PyData
  | .tuple xs, .int k => if -9223372036854775808 ≤ k ∧ k < 9223372036854775808 ∧ xs.length * k.toNat ≤ 16777216 then some (.tuple (List.replicate k.toNat xs).flatten) else none
  | _, _ => none
theorem os_repT {K : PySem.W.Frag} : OpS K (rRepT2 K) dRepT := by
  intro c ρ σ H v1 v2 x y d Q R r1 r2 ho q
  unfold dRepT at ho
  split at ho
  · rename_i ds k
    split at ho
    · rename_i hk
      cases ho
      cases r2
      cases r1 with
      | @tup a xs _ l al =>
        refine ⟨_, _, xs, rfl, rfl, l.sq, by omega, by omega, by rw [al.length, sl16]; exact hk.2.2, fun hs => ?_, fun p hp => ?_⟩
        · refine q _ _ R ?_ fun _ _ h => h
          have e : (List.replicate k.toNat ds).flatten = ds := by
            rcases hs with rfl | rfl
            · cases al
              simp
            · simp
          rw [e]
          exact .tup l al
        · exact q _ _ (R.alloc hp).1 (R.newTup hp (rpa_rep al _)) (R.alloc hp).2
    · cases ho
  · cases ho
end PG
end
section
set_option Elab.async false
set_option linter.all false
set_option maxRecDepth 100000
namespace PG
open PySem PySem.Spec PyProof.Rows L2
/-! ### a table of the module whose keys are tuples of whole numbers -/
def intsAt : List Value → List Int → Bool
  | [], [] => true
  | v :: r, i :: t => Value.isInt i v && intsAt r t
  | _, _ => false
def seqTop : Data → Option (List Value)
  | .seq its _ => some its.toList
  | _ => none
def keyAt (K : PySem.W.Frag) (v : Value) (ks : List Int) : Bool := match v with
  | .ref b => match K.lookup b with
    | some o => o.cls == Value.type "tuple" && (match seqTop o.data with
      | some its => intsAt its ks
      | none => false)
    | none => false
  | _ => false
def tupH (ks : List Int) : Int := reduceHash (Builtin.Tuple.tupleHashOf (ks.map hashInt))
def tentOk (K : PySem.W.Frag) : List DictEntry → List (List Int × Int) → Bool
  | [], [] => true
  | e :: r, p :: t => decide (e.hash = tupH p.1) && keyAt K e.key p.1 && Value.isInt p.2 e.val && tentOk K r t
  | _, _ => false
def inK (ks : List Int) : List Key := ks.map Sum.inl
structure TTab (K : PySem.W.Frag) (d : Addr) (tab : List (List Int × Int)) : Prop where
  at_ : ∃ es n, K.lookup d = some ⟨.type "dict", none, .dict es n, #[]⟩ ∧ tentOk K es.toList tab = true
  one : (tab.map fun p => inK p.1).Nodup
  low : (d == sysModules) = false
def getT (tab : List (List Int × Int)) (ks : List Int) : Option Int := (tab.find? fun p => decide (p.1 = ks)).map (·.2)
theorem inK_inj : ∀ {a b : List Int}, inK a = inK b → a = b
  | [], [], _ => rfl
  | [], _ :: _, h => by simp [inK] at h
  | _ :: _, [], h => by simp [inK] at h
  | x :: a, y :: b, h => by
    simp only [inK, List.map_cons, List.cons.injEq, Sum.inl.injEq] at h
    rw [h.1, inK_inj (a := a) (b := b) h.2]
theorem items_ints {P : Program} {w : World} : ∀ {vs : List Value} {ks : List Int}, intsAt vs ks = true → ItemsAre (mixKind P w) (inK ks) vs
  | [], [], _ => .nil
  | [], _ :: _, h => by cases h
  | _ :: _, [], h => by cases h
  | v :: vs, k :: ks, h => by
    simp only [intsAt, Bool.and_eq_true] at h
    exact .cons h.1 (items_ints h.2)
theorem keyAt_inv {P : Program} {w : World} {K : PySem.W.Frag} {v : Value} {ks : List Int} (h : keyAt K v ks = true) : ∃ b o its n, v = .ref b ∧ K.lookup b = some o ∧ o.cls = .type "tuple" ∧ o.data = .seq its n ∧ ItemsAre (mixKind P w) (inK ks) its.toList := by
  unfold keyAt at h
  split at h
  · rename_i b
    split at h
    · rename_i o ho
      rw [Bool.and_eq_true] at h
      obtain ⟨h1, h2⟩ := h
      split at h2
      · rename_i its hi
        unfold seqTop at hi
        split at hi
        · rename_i arr n hd
          cases hi
          exact ⟨b, o, arr, n, rfl, ho, eq_of_beq h1, hd, items_ints h2⟩
        · cases hi
      · cases h2
    · cases h
  · cases h
theorem tent_xs {P : Program} {w : World} {K : PySem.W.Frag} : ∀ {es : List DictEntry} {tab : List (List Int × Int)}, tentOk K es tab = true →
    ∃ xs : List (List Key × Addr × Value), es = xs.map (entryOfKey (tupleKind (mixKind P w))) ∧ xs.map (·.1) = tab.map (fun p => inK p.1) ∧
      (∀ x ∈ xs, ∃ o its n, K.lookup x.2.1 = some o ∧ o.cls = .type "tuple" ∧ o.data = .seq its n ∧ ItemsAre (mixKind P w) x.1 its.toList) ∧
      ∀ ks : List Int, match getT tab ks with
        | some v => ∃ t, (atKey xs (inK ks)).map (·.2) = some (Value.int v t)
        | none => (atKey xs (inK ks)).map (·.2) = none
  | [], [], _ => ⟨[], rfl, rfl, fun x hx => by simp at hx, fun ks => rfl⟩
  | [], _ :: _, h => by cases h
  | _ :: _, [], h => by cases h
  | e :: r, p :: t, h => by
    simp only [tentOk, Bool.and_eq_true, decide_eq_true_eq] at h
    obtain ⟨⟨⟨h1, h2⟩, h3⟩, h4⟩ := h
    obtain ⟨xs, q1, q2, q3, q4⟩ := tent_xs (P := P) (w := w) h4
    obtain ⟨b, o, its, n, ek, k1, k2, k3, k4⟩ := keyAt_inv (P := P) (w := w) h2
    obtain ⟨tv, ev⟩ := Value.isInt_shape h3
    refine ⟨(inK p.1, b, e.val) :: xs, ?_, ?_, ?_, ?_⟩
    · obtain ⟨eh, ekk, evv⟩ := e
      simp only at ek h1
      subst ek h1
      rw [List.map_cons, ← q1]
      congr 1
      show _ = DictEntry.mk (tupleKeyHash (mixKind P w) (inK p.1)) _ _
      congr 1
      unfold tupH tupleKeyHash inK
      rw [List.map_map]
      rfl
    · rw [List.map_cons, List.map_cons, q2]
    · intro x hx
      rcases List.mem_cons.mp hx with rfl | hx
      · exact ⟨o, its, n, k1, k2, k3, k4⟩
      · exact q3 x hx
    · intro ks
      have ih := q4 ks
      unfold getT atKey at ih ⊢
      by_cases c : p.1 = ks
      · rw [List.find?_cons_of_pos (by simpa using c), List.find?_cons_of_pos (by simp [c])]
        exact ⟨tv, by simp [ev]⟩
      · rw [List.find?_cons_of_neg (by simpa using c), List.find?_cons_of_neg (by simp; exact fun z => c (inK_inj z))]
        exact ih
section
variable {X : Cx} {d : Addr} {tab : List (List Int × Int)} {o e : Expr} {apos cpos : Pos} {f : EF}
theorem ttab_dict (D : TTab X.K d tab) {pins : List (Addr × Obj)} {σ : L2.St} {H : Hp} {s : Shared} (I : L2.Inv X pins σ H s) : ∃ xs, s.heap.DictOfH (tupleKind (mixKind X.prog X.w)) d xs ∧ ∀ ks : List Int, (match getT tab ks with
    | some v => ∃ t, (atKey xs (inK ks)).map (·.2) = some (Value.int v t)
    | none => (atKey xs (inK ks)).map (·.2) = none) := by
  obtain ⟨es, n, hl, hk⟩ := D.at_
  obtain ⟨xs, q1, q2, q3, q4⟩ := tent_xs (P := X.prog) (w := X.w) hk
  refine ⟨xs, ⟨_, es, n, I.kIn _ _ hl, ⟨rfl, rfl, rfl⟩, rfl, q1, fun x hx => ?_, by rw [q2]; exact D.one⟩, q4⟩
  obtain ⟨o, its, m, a1, a2, a3, a4⟩ := q3 x hx
  exact ⟨o, its, m, I.kIn _ _ a1, a2, a3, a4⟩
def rGetT1 (K : PySem.W.Frag) (tab : List (List Int × Int)) : V → Hp → VK → Prop := fun y H Q => ∃ (b : Addr) (ks : List Int), y = .ref b ∧ SqT K H b (ks.map V.int) ∧ Q (match getT tab ks with
  | some v => .int v
  | none => .non) H
theorem pe_tget1 {ty : TE} (hu : X.A.units + 1 < cLine) (D : TTab X.K d tab) (ho : PE X o (tC (.ref d))) (he : PE X e ty) (m : M1 X o "get" apos e cpos) : PE X (.Call (.Attribute o "get" apos) [e] [] cpos) (fun σ H Q => ty σ H fun y H2 => rGetT1 X.K tab y H2 Q) := by
  refine ⟨fun pins s σ H Q I h => ?_⟩
  refine wpAny_Call_method m.base m.few m.line PySem.F.plainAttrs_dict PySem.F.slot_dict_get PySem.F.type_dict_get (thn (ho.run pins s σ H (fun x H1 => x = .ref d ∧ ty σ H1 fun y H2 => rGetT1 X.K tab y H2 Q) I ⟨rfl, h⟩) fun u s1 ⟨x, H1, I1, rx, ex, q1⟩ => ?_)
  subst ex
  obtain rfl : u = Value.ref d := rx
  obtain ⟨xs, hm, _⟩ := ttab_dict D I1
  refine ⟨hm.typeIs, fun b q => ?_, ?_⟩
  · cases q
    obtain ⟨ob, _, _, h1, h2, _⟩ := hm
    exact ⟨ob, h1, h2.2.1⟩
  rw [m.trees]
  refine Calls.callWith_builtin rfl (Calls.evalArgs_plain (Calls.spliced_cons (thn (he.run pins s1 σ H1 _ I1 q1) fun iv s2 ⟨y, H2, I2, ry, b, ks, ey, hT, q2⟩ => Calls.spliced_nil ?_)))
  subst ey
  obtain rfl : iv = Value.ref b := ry
  obtain ⟨xs, hm, hi⟩ := ttab_dict D I2
  obtain ⟨its, r, ⟨o, ho, hc, n, hd⟩, _⟩ := I2.tuple hT
  have hkey : (tupleKind (mixKind X.prog X.w)).is s2.heap (inK ks) b := by
    refine ⟨o, its.toArray, n, ho, hc, hd, ?_⟩
    have e : ks.map V.int = (inK ks).map kV := by rw [inK, List.map_map]; rfl
    rw [e] at r
    simpa using items_are r
  refine call_meetsIn PySem.F.slot_dict_get hm.typeIs PySem.F.entry_dict_get (PySem.F.args_dict_get_2 _ _) (meetsH_dict_get (tupleKind (mixKind X.prog X.w)) d b D.low) ⟨tupleKind_room_in1 hu, inK ks, xs, hkey, hm, ?_⟩
  have hi := hi ks
  refine ⟨_, H2, I2.tok _, ?_, q2⟩
  cases hg : getT tab ks with
  | some v =>
    rw [hg] at hi
    obtain ⟨t2, e2⟩ := hi
    rw [e2]
    exact ⟨t2, rfl⟩
  | none =>
    rw [hg] at hi
    rw [hi]
    rfl
@[simp] def dGetT1 (tab : List (List Int × Int)) : PyData → Option PyData
  | .tuple ds => (match intsOf ds with
    | some ks => some (match getT tab ks with
      | some v => .int v
      | none => .none)
    | none => none)
  | _ => none
theorem ev_tget1 (hu : X.A.units + 1 < cLine) (D : TTab X.K d tab) (ho : PE X o (tC (.ref d))) (he : PE X e (tE X.K f)) (m : M1 X o "get" apos e cpos) : PE X (.Call (.Attribute o "get" apos) [e] [] cpos) (tE X.K (eUn (dGetT1 tab) f)) :=
  pe_of (pe_tget1 hu D ho he m) fun σ H Q ⟨c, ρ, z, ρ', R, e, q⟩ => by
    obtain ⟨x, h1, h2⟩ := un_inv e
    refine ⟨c, ρ, x, ρ', R, h1, fun v1 H1 R1 r1 m1 => ?_⟩
    match x, h2, r1 with
    | .tuple ds, h2, r1 =>
      unfold dGetT1 at h2
      dsimp only at h2
      split at h2
      · rename_i ks hks
        cases h2
        have := intsOf_map hks
        subst this
        cases r1 with
        | @tup a xs _ l al =>
          have e := al.ints
          subst e
          refine ⟨a, ks, rfl, l.sq, q _ H1 R1 ?_ m1⟩
          cases getT tab ks with
          | some v => exact .int v
          | none => exact .non
      · cases h2
/-! ### list(range(a, b)) -/
def nLstRg (f g : EF) : NF := fun ρ => match f ρ with
  | some (.int i, ρ1) => (match g ρ1 with
    | some (.int j, ρ2) => if -1000000 ≤ i ∧ i ≤ 1000000 ∧ -1000000 ≤ j ∧ j ≤ 1000000 then some (rng i (j - i).toNat, ρ2) else none
    | _ => none)
  | _ => none
theorem rpa_rg {K : PySem.W.Frag} {A : Addr → Prop} {H : Hp} (f : Nat → Int) : ∀ l : List Nat, RpA K A H (l.map fun i => V.int (f i)) (l.map fun i => PyData.int (f i))
  | [] => .nil
  | _ :: l => .cons (.int _) (rpa_rg f l)
theorem en_lstRg {a b : Expr} {g : EF} {p q1 : Pos} {pos pos2 : Pos} (hc : X.calm = true) (hg : Gl X "list") (hm : X.mg "list" = none) (hg2 : Gl X "range") (hm2 : X.mg "range" = none) (ha : PE X a (tE X.K f)) (hb : PE X b (tE X.K g))
    (na : starEach [Expr.Call (.Name "range" q1) [a, b] [] pos2] X.env = (false, eval (Expr.Call (.Name "range" q1) [a, b] [] pos2) X.env) :: starEach [] X.env := by rfl)
    (na2 : starEach [a, b] X.env = (false, eval a X.env) :: starEach [b] X.env := by rfl)
    (nb : starEach [b] X.env = (false, eval b X.env) :: starEach [] X.env := by rfl) (hp : (backTo pos2 (starEach [b] X.env)).any (·.1) = false := by rfl) :
    PE X (.Call (.Name "list" p) [.Call (.Name "range" q1) [a, b] [] pos2] [] pos) (tN X.K (nLstRg f g)) :=
  pe_of (pe_listRg hc hg hm (prg_2 hg2 hm2 ha hb na2 nb hp) na) fun σ H Q ⟨c, ρ, ds, ρ', R, e, q⟩ => by
    unfold nLstRg at e
    split at e
    · rename_i i ρ1 h1
      split at e
      · rename_i j ρ2 h2
        split at e
        · rename_i hl
          obtain ⟨e1, e2⟩ := so e
          subst e1 e2
          refine ⟨c, ρ, .int i, ρ1, R, h1, fun v1 H1 R1 r1 m1 => ⟨c, ρ1, .int j, ρ2, R1, h2, fun v2 H2 R2 r2 m2 => ?_⟩⟩
          cases r1
          cases r2
          refine ⟨i, j, rfl, rfl, ⟨by omega, by omega, by omega, by omega, by omega⟩, fun p hp => ?_⟩
          have m := m1.trans m2
          exact q p _ _ (R2.plus hp (kp_upd hp) (by rw [upd_same]; exact fun z => nomatch z)) upd_same (rpa_rg (fun k => i + (k : Nat)) _) (R2.noAv hp) (R2.fresh0 hp) (avOf (K := X.K) m hp) (m.trans (R2.mvG (kp_upd hp)))
        · cases e
      · cases e
    · cases e
end
/-! ### a list of the module, read only -/
def flatOk : List Value → List PyData → Bool
  | [], [] => true
  | v :: r, .int i :: t => Value.isInt i v && flatOk r t
  | v :: r, .str x :: t => Value.isStrOf x v && flatOk r t
  | _, _ => false
def flatV1 : PyData → V
  | .int i => .int i
  | .str x => .str x
  | _ => .non
structure ROTab (K : PySem.W.Frag) (d : Addr) (ds : List PyData) : Prop where
  at_ : ∃ its n, K.lookup d = some ⟨.type "list", none, .seq its n, #[]⟩ ∧ flatOk its.toList ds = true
  low : ds.length ≤ 1000
theorem flatA_of : ∀ {vs : List Value} {ds : List PyData}, flatOk vs ds = true → FlatA (ds.map flatV1) ds ∧ Vals (ds.map flatV1) vs ∧ vs.length = ds.length
  | [], [], _ => ⟨.nil, .nil, rfl⟩
  | [], _ :: _, h => by cases h
  | _ :: _, [], h => by cases h
  | v :: r, .int i :: t, h => by
    simp only [flatOk, Bool.and_eq_true] at h
    obtain ⟨a, b, c⟩ := flatA_of h.2
    exact ⟨.int i a, .cons (Value.isInt_shape h.1) b, by simp [c]⟩
  | v :: r, .str x :: t, h => by
    simp only [flatOk, Bool.and_eq_true] at h
    obtain ⟨a, b, c⟩ := flatA_of h.2
    exact ⟨.str x a, .cons (keyIs_rel (k := .inr x) h.1) b, by simp [c]⟩
theorem ROTab.ro {K : PySem.W.Frag} {d : Addr} {ds : List PyData} (D : ROTab K d ds) (A : Addr → Prop) (H : Hp) : Rp K A H (.ref d) (RO ds) := by
  obtain ⟨its, n, hl, hf⟩ := D.at_
  obtain ⟨a, b, c⟩ := flatA_of hf
  have := D.low
  exact .ro (.inr ⟨_, its, n, hl, rfl, rfl, rfl, by rw [← Array.length_toList, c, sl16]; omega, b⟩) a
theorem ev_ro {X : Cx} {d : Addr} {ds : List PyData} {e : Expr} (D : ROTab X.K d ds) (h : PE X e (tC (.ref d))) : PE X e (tE X.K (eC (RO ds))) := ev_c h fun A H => D.ro A H
theorem u1 {A : Around} {k : Nat} (r : Room k A) : A.units + 1 < cLine := by have := r.un; omega
end PG
end
section
set_option Elab.async false
set_option linter.all false
set_option maxRecDepth 100000
namespace PG
open PySem PySem.Spec PyProof.Rows L2
/-! ### t < u of tuples of whole numbers -/
@[simp] def dLtT : PyData → PyData → Option PyData
  | .tuple xs, .tuple ys => (match intsOf xs, intsOf ys with
    | some ns, some ms => some (.bool (HT.lexLt ns ms))
    | _, _ => none)
  | _, _ => none
theorem os_ltT {K : PySem.W.Frag} : OpS K (rLtT K) dLtT := by
  intro c ρ σ H v1 v2 x y d Q R r1 r2 ho q
  unfold dLtT at ho
  split at ho
  · rename_i xs ys
    split at ho
    · rename_i ns ms hn hm
      cases ho
      have e1 := intsOf_map hn
      have e2 := intsOf_map hm
      subst e1 e2
      cases r1 with
      | @tup a us _ l al =>
        cases r2 with
        | @tup b ws _ l2 al2 =>
          have e := al.ints
          have e' := al2.ints
          subst e e'
          exact ⟨a, b, ns, ms, rfl, rfl, l.sq, l2.sq, q _ _ R (.bl _) fun _ _ h => h⟩
    · cases ho
  · cases ho
/-! ### raise: nothing is said of it -/
def sRaise : SF := fun _ => none
theorem es_raise {X : Cx} {st : Stmt} : PS X st (tS X.K sRaise) := by
  refine ⟨fun pins s σ H D I h => ?_⟩
  obtain ⟨c, ρ, o, ρ', R, e, q⟩ := h
  cases e
end PG
end
section
set_option Elab.async false
set_option linter.all false
set_option maxRecDepth 100000
namespace PG
open PySem PySem.Spec PyProof.Rows L2
section
variable {prog : Program} {w : World} {A : Around} {E : Value → Shared → Prop} {s : Shared}
/-- sorted of a tuple whose items are pairs of whole numbers -/
theorem sorted_tup {l : Addr} {vs : List Value} {k : Value → Int × Int} {Q : Value → Shared → Prop} (hl : IsTup s.heap l vs.toArray) (hz : vs.length ≤ sizeLine) (hp : ∀ v ∈ vs, Srt.IsPair s.heap v (k v).1 (k v).2)
    (h : ∀ (h1 h' : Heap) (out : List Value), SrtO.Srtd (fun v u => SrtO.lexB (k v) (k u)) out → SrtO.Stb (fun v u => SrtO.lexB (k v) (k u)) out vs → (∀ b o, s.heap.get? b = some o → h1.get? b = some o) → (∀ b o, h1.get? b = some o → h'.get? b = some o) →
      (∃ n, h'.get? h1.objs.size = some (seqObj "list" out.toArray n)) → Q (.ref h1.objs.size) { s with heap := h' }) : wpAny (model prog w) A (call (.builtin "sorted") [.ref l]) Q E s := by
  obtain ⟨o, ho, hc, n, hd⟩ := hl
  apply Calls.call_function_entry kind_sorted plain_sorted entry_sorted (args_sorted1 _); unfold Builtin.«sorted»
  refine wpAny_bind (m := checkCount "sorted" 1 1 _) (wpAny_pure (wpAny_bind (wpAny_collect_seq (hsz := by rw [List.size_toArray]; exact hz) l (.inr rfl) ho hc hd fun h1 k1 => ?_)))
  rw [show vs.toArray.toList = vs by simp]
  refine wpAny_bind (wpAny_newList ?_ hz)
  have at2 : (h1.push (seqObj "list" vs.toArray 0)).get? h1.objs.size = some (seqObj "list" vs.toArray 0) := Heap.get?_push_size _ rfl
  have k2 : ∀ b o, s.heap.get? b = some o → b ≠ h1.objs.size ∧ (h1.push (seqObj "list" vs.toArray 0)).get? b = some o := fun b o q => ⟨Nat.ne_of_lt (Heap.lt_size (k1 b o q)), Heap.get?_push_of_some _ (k1 b o q)⟩
  show wpAny _ _ _ _ _ { s with heap := h1.push (seqObj "list" vs.toArray 0) }
  refine wpAny_bind (wpAny_holding (wpAny_call_entry slot_list_sort ⟨_, at2, rfl⟩ entry_list_sort (SrtO.list_sort_ord (SrtO.swo_lex k) at2 hz (fun h2 => ?_) fun out hs hb => ⟨_, rfl, ?_⟩) (args_list_sort _)))
  · exact SrtO.pairs_sortableO (s := { s with heap := h1.push (seqObj "list" vs.toArray 0) }) (by omega) (fun v hv => (hp v hv).keeps fun b o e _ => (k2 b o e).2) fun o e c => by
      have e2 : some o = some (seqObj "list" vs.toArray 0) := e.symm.trans at2
      cases e2
      exact absurd (Value.type.inj c) (by decide)
  · refine wpAny_pure ⟨_, rfl, h h1 _ out hs hb k1 (fun b o q => ?_) (sortedHeap_at at2)⟩
    have lt := Heap.lt_size q
    rw [sortedHeap_old (Nat.ne_of_lt lt) (by rw [size_push']; exact Nat.lt_succ_of_lt lt)]
    exact Heap.get?_push_of_some _ q
end
section
variable {X : Cx}
def sPairsT (K : PySem.W.Frag) : List V → Hp → VK → Prop := fun vs H Q => ∃ (a : Addr) (xs : List V) (ps : List (Int × Int)), vs = [V.ref a] ∧ SqT K H a xs ∧ pairsAt K H xs ps ∧
  ∀ ys p (k : V → Int × Int), ps = xs.map k → SrtO.Srtd (ltP k) ys → SrtO.Stb (ltP k) ys xs → H p = none → Q (.ref p) (upd H p (.lst ys))
theorem cr_sPairsT : CallR X (.builtin "sorted") (sPairsT X.K) := by
  intro pins s σ H vs us Q I r h
  obtain ⟨a, xs, ps, rfl, hs, hx, q⟩ := h
  have hk : ∀ t p, SqT X.K H t [.int p.1, .int p.2] → keyOf X.K H (.ref t) = p := by
    intro t p hp
    have ex : ∃ p : Int × Int, SqT X.K H t [.int p.1, .int p.2] := ⟨p, hp⟩
    have e := I.tuple_inj hp ex.choose_spec
    simp only [List.cons.injEq, V.int.injEq, and_true] at e
    have e2 : keyOf X.K H (.ref t) = ex.choose := by
      unfold keyOf
      exact dif_pos ex
    rw [e2]
    exact (Prod.ext e.1 e.2).symm
  obtain ⟨ep, hx⟩ := pairsAt_map _ hk hx
  generalize keyOf X.K H = k at ep hx
  obtain ⟨its, rv, hl, hz⟩ := I.tuple hs
  obtain ⟨u, rfl, ru⟩ := vals1 r
  obtain rfl : u = Value.ref a := ru
  obtain ⟨e1, e2⟩ := refs_back rv fun x m => by
    obtain ⟨t, e, _⟩ := hx x m
    exact ⟨t, e⟩
  refine sorted_tup (k := fun u => k (backV u)) hl (by rw [← rv.length]; exact hz) (fun v hv => ?_) fun hm h' out s1 s2 k1 k2 hn => ?_
  · obtain ⟨t, rfl⟩ := e2 v hv
    have hm : V.ref t ∈ xs := by rw [e1]; exact List.mem_map.mpr ⟨_, hv, rfl⟩
    obtain ⟨t', e, ht⟩ := hx _ hm
    cases e
    obtain ⟨its2, r2, ⟨o, ho, hc, n, hd⟩, _⟩ := I.tuple ht
    obtain ⟨u1, u2, rfl, ri, rj⟩ := vals2 r2
    obtain ⟨t1, rfl⟩ := ri
    obtain ⟨t2, rfl⟩ := rj
    exact ⟨t, o, t1, t2, n, rfl, ho, hc, hd⟩
  · have h3 : ∀ u ∈ out, ∃ a, u = Value.ref a := fun u hu => e2 u (s2.perm.mem_iff.mp hu)
    obtain ⟨n, hn⟩ := hn
    have hb : SrtO.Stb (ltP k) (out.map backV) xs := by
      rw [e1]
      exact SrtO.Stb.map (ltP_swo k) backV s2
    have I1 : Inv X pins σ H { s with heap := hm } := I.kept (t' := s.toks) k1
    refine ⟨.ref hm.objs.size, upd H hm.objs.size (.lst (out.map backV)), I1.laid (t' := s.toks) k2 (Nat.le_refl _) ⟨?_, out, n, vals_back h3, hn⟩, rfl, q _ _ k ep (SrtO.srtd_map s1) hb (I1.hok.fresh (Nat.le_refl _))⟩
    rw [hb.len]
    exact hz
def dSortPT : PyData → Option (List PyData)
  | .tuple ds => (match pairsOf ds with
    | some l => some ((sortP l).map prD)
    | none => none)
  | _ => none
theorem fn_sortPT {K : PySem.W.Frag} : FnN K (sPairsT K) (n1of dSortPT) := by
  intro c ρ σ H vs ds ys Q R r ho q
  obtain ⟨x, rfl, h2⟩ := n1_inv ho
  obtain ⟨v, rfl, w1⟩ := rpa1 r
  unfold dSortPT at h2
  split at h2
  · rename_i ds
    split at h2
    · rename_i l hl
      cases h2
      have e := pairsOf_eq hl
      subst e
      cases w1 with
      | @tup p xs _ la al =>
        refine ⟨p, xs, l, rfl, la.sq, pairsAt_of al, fun zs p2 k hk h1 h3 hp => q p2 zs hp ?_⟩
        have e1 : zs.map k = sortP l := by
          refine srt_uniq (SrtO.srtd_map (lt := SrtO.lexB) (f := k) h1) (srt_sortP l) ?_
          rw [hk]
          exact (h3.perm.map k).trans (perm_sortP _).symm
        rw [← e1]
        refine rpa_of_mem k fun y hy => ?_
        rw [hk] at al
        exact rpa_mem k al y (h3.perm.mem_iff.mp hy)
    · cases h2
  · cases h2
end
/-! a list unpacked into names -/
@[simp] def gLstS (is : List Nat) : GF := fun d ρ => match d with
  | .list ds => gPairs is ds ρ
  | _ => none
section
variable {X : Cx} {es : List Expr} {pos : Pos}
theorem eg_lst {k : Nat} {is : List Nat} (hc : X.calm = true) (h : PGs X es (gsPairs is)) (hn : (assignEach es X.env).length = is.length := by rfl) (hst : (assignEach es X.env).findIdx? (·.1) = none := by rfl) : PG X (.Tuple es k pos) (tG X.K (gLstS is) is) :=
  pg_of (pg_lst hc h hn hst) fun v σ H Q ⟨c, ρ, d, ρ', R, r, e, q⟩ => by
    unfold gLstS at e
    split at e
    · rename_i ds
      cases r with
      | @lst p xs _ l al =>
        exact ⟨p, xs, rfl, l.sq, by rw [al.length, gpairs_len _ _ _ _ e], rd_pairs is xs ds ρ ρ' σ Q R al e q⟩
    · cases e
end
end PG
end
section
set_option Elab.async false
set_option linter.all false
set_option maxRecDepth 100000
namespace PG
open PySem PySem.Spec PyProof.Rows L2
/-! ### an owned list + a list -/
@[simp] def eAddO (i : Nat) (g : EF) : EF := fun ρ => match ρ[i]? with
  | some (some (.l _ _)) => (match g ρ with
    | some (.list ds, ρ1) => (match ρ1[i]? with
      | some (some (.l _ es)) => if es.length + ds.length ≤ 16777216 then some (.list (es ++ ds), ρ1) else none
      | _ => none)
    | _ => none)
  | _ => none
section
variable {X : Cx} {a b e : Expr} {pos : Pos} {f g : EF} {n : NF} {es : List Expr}
theorem addO_inv {i : Nat} {ρ ρ' : Rho} {d : PyData} (h : eAddO i g ρ = some (d, ρ')) : ∃ p0 l0 ds p l, ρ[i]? = some (some (.l p0 l0)) ∧ g ρ = some (.list ds, ρ') ∧ ρ'[i]? = some (some (.l p l)) ∧ l.length + ds.length ≤ 16777216 ∧ d = .list (l ++ ds) := by
  unfold eAddO at h
  split at h
  · rename_i p0 l0 h0
    split at h
    · rename_i ds ρ1 h1
      split at h
      · rename_i p l h2
        split at h
        · rename_i hl
          obtain ⟨e1, e2⟩ := so h
          subst e1 e2
          exact ⟨p0, l0, ds, p, l, h0, h1, h2, hl, rfl⟩
        · cases h
      · cases h
    · cases h
  · cases h
theorem rd_addO {i : Nat} {K : PySem.W.Frag} : ∀ σ H Q, tE K (eAddO i g) σ H Q → tOp rCat (tVar i) (tE K g) σ H Q := fun σ H Q ⟨c, ρ, d, ρ', R, e, q⟩ => by
  obtain ⟨p0, l0, ds, p, l, h0, h1, h2, hl, rfl⟩ := addO_inv e
  obtain ⟨a0, us0, g1, _⟩ := R.lst i p0 l0 h0
  refine ⟨.ref a0, g1, c, ρ, .list ds, ρ', R, h1, fun v1 H1 R1 r1 m1 => ?_⟩
  obtain ⟨a1, us, g1', g2, g3, _⟩ := R1.lst i p l h2
  rw [g1] at g1'
  cases g1'
  cases r1 with
  | lst l2 a2 =>
    refine ⟨_, _, _, _, rfl, rfl, g2, l2.1, by rw [g3.length, a2.length, sl16]; exact hl, fun p hp => ?_⟩
    exact q _ _ (R1.alloc hp).1 (R1.newLst hp (g3.app a2)) (m1.trans (R1.mvG (R1.alloc hp).2))
theorem ev_addO {i : Nat} (hv : PE X a (tVar i)) (hb : PE X b (tE X.K g)) : PE X (.BinOp a .Add b pos) (tE X.K (eAddO i g)) := pe_of (pe_op op_cat hv hb) rd_addO
end

/-- an owned list as a value, or what was made a value before -/
@[simp] def eFrz2 (i : Nat) : EF := fun ρ => match ρ[i]? with
  | some (some (.l false ds)) => some (.list ds, ρ.set i (some (.v (.list ds))))
  | some (some (.v d)) => some (d, ρ)
  | _ => none
theorem ev_frz2 {X : Cx} {e : Expr} {i : Nat} (h : PE X e (tVar i)) : PE X e (tE X.K (eFrz2 i)) := pe_of h fun σ H Q ⟨c, ρ, d', ρ', R, e, q⟩ => by
  unfold eFrz2 at e
  split at e
  · rename_i ds hd
    cases e
    obtain ⟨a, vs, h1, _⟩ := R.lst i false ds hd
    obtain ⟨R', r', m'⟩ := R.freeze hd h1
    exact ⟨.ref a, h1, q _ H R' r' m'⟩
  · rename_i d hd
    cases e
    obtain ⟨v, h1, h2⟩ := R.val i d' hd
    exact ⟨v, h1, q v H R h2 Mv.refl⟩
  · cases e

/-! ### two lists of the caller's are lent -/
abbrev F2L := List PyData → List PyData → List PyData → Option (PyData × List PyData × List PyData)
def spM (K : PySem.W.Frag) (k : Nat) (F : F2L) : Sp := fun vs H Q _ => vs.length = k + 2 ∧ TsOk K H ∧ ∃ (A : Addr → Prop) (a b : Addr) (us us2 ws : List V) (ps qs ds : List PyData) (r : PyData) (ps' qs' : List PyData),
  vs = .ref a :: .ref b :: ws ∧ a ≠ b ∧ H a = some (.lst us) ∧ RpA K A H us ps ∧ A a ∧ H b = some (.lst us2) ∧ RpA K A H us2 qs ∧ A b ∧ RpA K A H ws ds ∧ (∀ a, A a → H a ≠ none) ∧ F ps qs ds = some (r, ps', qs') ∧
  ∀ v H' us' us2', (∀ c o, c ≠ a → c ≠ b → H c = some o → H' c = some o) → H' a = some (.lst us') → RpA K A H' us' ps' → H' b = some (.lst us2') → RpA K A H' us2' qs' → Rp K A H' v r → Q v H'
@[simp] def rhoM (ps qs ds : List PyData) (m : Nat) : Rho := some (Cell.l true ps) :: some (Cell.l true qs) :: (ds.map (fun d => some (Cell.v d)) ++ List.replicate m none)
@[simp] def pool1 (ρ : Rho) : Option (List PyData) := match ρ with
  | _ :: some (.l true ps) :: _ => some ps
  | _ => none
@[simp] def endM : Option (Out × Rho) → Option (PyData × List PyData × List PyData)
  | some (.ret d, ρ) => (match pool0 ρ, pool1 ρ with
    | some ps, some qs => some (d, ps, qs)
    | _, _ => none)
  | _ => none
def defM (b : SF) (k m : Nat) : F2L := fun ps qs ds => if ds.length = k then endM (b (rhoM ps qs ds m)) else none
theorem rhoM_get {ps qs ds : List PyData} {m i : Nat} {cl : Cell} (h : (rhoM ps qs ds m)[i]? = some (some cl)) : (i = 0 ∧ cl = .l true ps) ∨ (i = 1 ∧ cl = .l true qs) ∨ ∃ j d, i = j + 2 ∧ ds[j]? = some d ∧ cl = .v d := by
  cases i with
  | zero =>
    unfold rhoM at h
    simp at h
    exact .inl ⟨rfl, h.symm⟩
  | succ i =>
    cases i with
    | zero =>
      unfold rhoM at h
      simp at h
      exact .inr (.inl ⟨rfl, h.symm⟩)
    | succ j =>
      have h' : (rho0 ds m)[j]? = some (some cl) := by
        unfold rhoM at h
        simpa [rho0] using h
      obtain ⟨d, h1, h2⟩ := rho0_get h'
      exact .inr (.inr ⟨j, d, rfl, h1, h2⟩)
abbrev pn2 (a b : Addr) : Nat → Option Addr := fun i => if i = 0 then some a else if i = 1 then some b else none
theorem pn2_some {a b c : Addr} {i : Nat} (h : pn2 a b i = some c) : (i = 0 ∧ c = a) ∨ (i = 1 ∧ c = b) := by
  unfold pn2 at h
  split at h
  · rename_i e; cases h; exact .inl ⟨e, rfl⟩
  · split at h
    · rename_i e; cases h; exact .inr ⟨e, rfl⟩
    · cases h
theorem tp2 {H : Hp} {a b : Addr} {us us2 : List V} (ha : H a = some (.lst us)) (hb : H b = some (.lst us2)) : ∀ (i : Nat) (x : Addr), pn2 a b i = some x → ∃ us, H x = some (.lst us) := fun i x z => by
  rcases pn2_some z with ⟨_, rfl⟩ | ⟨_, rfl⟩
  · exact ⟨us, ha⟩
  · exact ⟨us2, hb⟩
theorem rel_startM {K : PySem.W.Frag} {A : Addr → Prop} {H : Hp} {N : List Str} {a b : Addr} {us us2 ws : List V} {ps qs ds : List PyData} {m : Nat} (ht : TsOk K H) (nab : a ≠ b) (ha : H a = some (.lst us)) (rp : RpA K A H us ps) (hAa : A a) (hb : H b = some (.lst us2)) (rq : RpA K A H us2 qs) (hAb : A b) (r : RpA K A H ws ds) (hA : ∀ a, A a → H a ≠ none) (hN : ws.length + 2 + m = N.length) :
    Rel K ⟨A, H, pn2 a b, ht, tp2 ha hb⟩ (rhoM ps qs ds m) (L2.start N (.ref a :: .ref b :: ws)) H := by
  have g0 : (L2.start N (.ref a :: .ref b :: ws))[0]? = some (some (V.ref a)) := start_get rfl
  have g1 : (L2.start N (.ref a :: .ref b :: ws))[1]? = some (some (V.ref b)) := start_get rfl
  have own : ∀ c, Own (rhoM ps qs ds m) (L2.start N (.ref a :: .ref b :: ws)) c → A c := fun c ⟨i, p, es, h1, h2⟩ => by
    rcases rhoM_get h1 with ⟨rfl, z⟩ | ⟨rfl, z⟩ | ⟨j, d, _, _, z⟩
    · rw [g0] at h2; cases h2; exact hAa
    · rw [g1] at h2; cases h2; exact hAb
    · cases z
  have mv : Mv A H (Av ⟨A, H, pn2 a b, ht, tp2 ha hb⟩ (rhoM ps qs ds m) (L2.start N (.ref a :: .ref b :: ws))) H := fun c o e n => ⟨e, fun z => z.elim n fun y => n (own c y)⟩
  refine ⟨?_, fun i d h => ?_, fun i p es h => ?_, fun i j p q es es' c h1 h2 h3 h4 => ?_, fun i c => ?_, fun i c h => ?_, fun c o h _ => h, hA⟩
  · unfold rhoM L2.start
    simp only [List.length_append, List.length_map, List.length_replicate, List.length_cons, r.length]
    rw [r.length] at hN
    omega
  · rcases rhoM_get h with ⟨_, z⟩ | ⟨_, z⟩ | ⟨j, d', rfl, h1, z⟩
    · cases z
    · cases z
    · cases z
      obtain ⟨v, h3, h4⟩ := r.get h1
      exact ⟨v, start_get (by simpa using h3), h4.mv mv⟩
  · rcases rhoM_get h with ⟨rfl, z⟩ | ⟨rfl, z⟩ | ⟨j, d', rfl, h1, z⟩
    · cases z
      exact ⟨a, us, g0, ha, rp.mv mv, fun z => nomatch z⟩
    · cases z
      exact ⟨b, us2, g1, hb, rq.mv mv, fun z => nomatch z⟩
    · cases z
  · rcases rhoM_get h1 with ⟨rfl, _⟩ | ⟨rfl, _⟩ | ⟨_, _, _, _, z⟩
    · rcases rhoM_get h2 with ⟨rfl, _⟩ | ⟨rfl, _⟩ | ⟨_, _, _, _, z⟩
      · rfl
      · rw [g0] at h3; rw [g1] at h4; cases h3; cases h4; exact absurd rfl nab
      · cases z
    · rcases rhoM_get h2 with ⟨rfl, _⟩ | ⟨rfl, _⟩ | ⟨_, _, _, _, z⟩
      · rw [g1] at h3; rw [g0] at h4; cases h3; cases h4; exact absurd rfl nab
      · rfl
      · cases z
    · cases z
  · constructor
    · intro h
      rcases pn2_some h with ⟨rfl, rfl⟩ | ⟨rfl, rfl⟩
      · exact ⟨ps, rfl, g0⟩
      · exact ⟨qs, rfl, g1⟩
    · rintro ⟨es, h1, h2⟩
      rcases rhoM_get h1 with ⟨rfl, _⟩ | ⟨rfl, _⟩ | ⟨_, _, _, _, z⟩
      · rw [g0] at h2; cases h2; rfl
      · rw [g1] at h2; cases h2; rfl
      · cases z
  · rcases pn2_some h with ⟨rfl, rfl⟩ | ⟨rfl, rfl⟩
    · exact hAa
    · exact hAb
theorem pool1_get {ρ : Rho} {ps' : List PyData} (h : pool1 ρ = some ps') : ρ[1]? = some (some (.l true ps')) := by
  unfold pool1 at h
  split at h
  · cases h; rfl
  · cases h
section
variable {P : Program} {w : World} {K : PySem.W.Frag} {mg : Str → Option Value} {base : Heap} {x qual : Str} {st : Stmt} {fa : Addr} {fd : FuncData} {N ps : List Str} {j k m : Nat} {b : SF}
theorem ok_M (F : L2.Fun K x qual st fa fd) (S : FnScope N ps (defScope st)) (hk : ps.length = k + 2) (hm : k + 2 + m = N.length)
    (hb : ∀ (cdv : Value) (A : Around) (outer : List Env) (s : Shared) (H : Hp) (E : XK), Room j (A.deeper (envOfC qual (defScope st) s.heap.objs.size fa cdv)) → PSs (cxOf CX0 P w K mg base N qual (defScope st) fa cdv A outer s H E).nox (defBody st) (tS K b)) :
    FnOk P w K mg base CX0 (j + 1) fa fd ps (spM K k (defM b k m)) := by
  refine F.ok S (fun vs H Q E h => h.1.trans hk.symm) fun cdv A outer s H vs Q E hr h => ?_
  obtain ⟨hl, ht, A', a, a2, us, us2, ws, pl, ql, ds, r, pl', ql', rfl, nab, ha, rp, hAa, ha2, rq, hAb, ra, hA, e, q⟩ := h
  refine ⟨_, hb cdv A outer s H E hr, ?_⟩
  have hws : ws.length = k := by simpa using hl
  have R := rel_startM (m := m) (N := N) ht nab ha rp hAa ha2 rq hAb ra hA (by omega)
  unfold defM at e
  split at e
  · cases eb : b (rhoM pl ql ds m) with
    | none => rw [eb] at e; cases e
    | some z =>
      obtain ⟨o, ρ'⟩ := z
      rw [eb] at e
      have at_ : ∀ (i : Nat) (cc : Addr) (ps2 : List PyData), pn2 a a2 i = some cc → ρ'[i]? = some (some (.l true ps2)) → ∀ σ' H', Rel K ⟨A', H, pn2 a a2, ht, tp2 ha ha2⟩ ρ' σ' H' → ∃ us', H' cc = some (.lst us') ∧ RpA K A' H' us' ps2 := fun i cc ps2 hi hg σ' H' R' => by
        obtain ⟨a', us', g1, g2, g3, _⟩ := R'.lst i true ps2 hg
        obtain ⟨es, w1, w2⟩ := (R'.pin i cc).mp hi
        rw [g1] at w2
        cases w2
        exact ⟨us', g2, g3.mv av_sub⟩
      refine ⟨_, rhoM pl ql ds m, o, ρ', R, eb, ?_⟩
      cases o with
      | ret d =>
        intro v σ' H' R' r'
        cases hp : pool0 ρ' with
        | none => simp only [endM, hp] at e; cases e
        | some ps2 =>
          cases hq : pool1 ρ' with
          | none => simp only [endM, hp, hq] at e; cases e
          | some qs2 =>
            simp only [endM, hp, hq] at e
            cases e
            obtain ⟨us', h2, h3⟩ := at_ 0 a _ rfl (pool_get hp) σ' H' R'
            obtain ⟨us2', h4, h5⟩ := at_ 1 a2 _ rfl (pool1_get hq) σ' H' R'
            refine q v H' us' us2' (fun c o n1 n2 h => R'.old c o h fun i z => ?_) h2 h3 h4 h5 r'
            rcases pn2_some z with ⟨_, rfl⟩ | ⟨_, rfl⟩
            · exact n1 rfl
            · exact n2 rfl
      | next => cases e
      | brk => cases e
      | cont => cases e
      | retL ds => cases e
  · cases e
end
/-- f(pool, list, ..) -/
@[simp] def eCallM (F : F2L) (i i2 : Nat) (f : NF) : EF := fun ρ => match ρ[i]? with
  | some (some (.l _ _)) => (match ρ[i2]? with
    | some (some (.l _ _)) => (match f ρ with
      | some (xs, ρ1) => (match ρ1[i]? with
        | some (some (.l p ps)) => (match ρ1[i2]? with
          | some (some (.l p2 qs)) => if i = i2 then none else (match F ps qs xs with
            | some (z, ps', qs') => some (z, (ρ1.set i (some (.l p ps'))).set i2 (some (.l p2 qs')))
            | none => none)
          | _ => none)
        | _ => none)
      | none => none)
    | _ => none)
  | _ => none
section
variable {X : Cx} {e e2 : Expr} {es : List Expr} {pos p : Pos} {n : NF} {F4 : F2L} {k j : Nat} {fa : Addr} {fd : FuncData} {ps : List Str} {x : Str}
theorem callM_inv {i i2 : Nat} {ρ ρ' : Rho} {d : PyData} (e : eCallM F4 i i2 n ρ = some (d, ρ')) : ∃ p0 l0 q0 m0 xs ρ1 pp pl qp ql ps' qs', ρ[i]? = some (some (.l p0 l0)) ∧ ρ[i2]? = some (some (.l q0 m0)) ∧ n ρ = some (xs, ρ1) ∧ ρ1[i]? = some (some (.l pp pl)) ∧ ρ1[i2]? = some (some (.l qp ql)) ∧ i ≠ i2 ∧ F4 pl ql xs = some (d, ps', qs') ∧ ρ' = (ρ1.set i (some (.l pp ps'))).set i2 (some (.l qp qs')) := by
  unfold eCallM at e
  split at e
  · rename_i p0 l0 h0
    split at e
    · rename_i q0 m0 h0'
      split at e
      · rename_i xs ρ1 h1
        split at e
        · rename_i pp pl h2
          split at e
          · rename_i qp ql h2'
            split at e
            · cases e
            · rename_i ne
              split at e
              · rename_i z ps' qs' h3
                obtain ⟨e1, e2⟩ := so e
                subst e1 e2
                exact ⟨p0, l0, q0, m0, xs, ρ1, pp, pl, qp, ql, ps', qs', h0, h0', h1, h2, h2', ne, h3, rfl⟩
              · cases e
          · cases e
        · cases e
      · cases e
    · cases e
  · cases e
theorem rd_callM {i i2 : Nat} {E : XK} (hk : ∀ ρ ds ρ', n ρ = some (ds, ρ') → ds.length = k) : ∀ σ H Q, tE X.K (eCallM F4 i i2 n) σ H Q → tCall (spM X.K k F4) [] E (tCons (tVar i) (tCons (tVar i2) (tA X.K n))) σ H Q := fun σ H Q ⟨c, ρ, d, ρ', R, e, q⟩ => by
  obtain ⟨p0, l0, q0, m0, xs, ρ1, pp, pl, qp, ql, ps', qs', h0, h0', h1, h2, h2', ne, h3, rfl⟩ := callM_inv e
  obtain ⟨a, us0, g1, _⟩ := R.lst i p0 l0 h0
  obtain ⟨b, us0', k1, _⟩ := R.lst i2 q0 m0 h0'
  refine ⟨.ref a, g1, .ref b, k1, c, ρ, xs, ρ1, R, h1, fun vs H1 R1 r1 m1 => ?_⟩
  obtain ⟨a', us, g1', g2, g3, _⟩ := R1.lst i pp pl h2
  rw [g1] at g1'
  cases g1'
  obtain ⟨b', us2, k1', k2, k3, _⟩ := R1.lst i2 qp ql h2'
  rw [k1] at k1'
  cases k1'
  have nab : a ≠ b := fun z => ne (by subst z; exact R1.dis i i2 _ _ _ _ a h2 h2' g1 k1)
  show spM X.K k F4 (.ref a :: .ref b :: vs ++ []) H1 Q E
  rw [List.append_nil]
  refine ⟨by rw [List.length_cons, List.length_cons, r1.length, hk _ _ _ h1], R1.ts, Av c ρ1 σ, a, b, us, us2, vs, pl, ql, xs, d, ps', qs', rfl, nab, g2, g3, .inr ⟨i, pp, pl, h2, g1⟩, k2, k3, .inr ⟨i2, qp, ql, h2', k1⟩, r1, fun b hb => R1.avS hb, h3, fun v H' us' us2' kp hl r2 hl2 r3 r4 => ?_⟩
  let Hm : Hp := fun c => if c = b then H1 b else H' c
  have hm1 : ∀ c, c ≠ b → Hm c = H' c := fun c h => if_neg h
  have hm2 : Hm b = H1 b := if_pos rfl
  have mvm : Mv (Av c ρ1 σ) H' (Av c ρ1 σ) Hm := fun x o e nn => ⟨by rw [hm1 x fun z => nn (by subst z; exact .inr ⟨i2, qp, ql, h2', k1⟩)]; exact e, nn⟩
  obtain ⟨R2, m2⟩ := R1.write (H' := Hm) h2 g1 (by rw [hm1 a nab]; exact hl) (fun x o n1 hx => by
    by_cases xb : x = b
    · subst xb; rw [hm2]; exact hx
    · rw [hm1 x xb]; exact kp x o n1 xb hx) (r2.mv mvm)
  have h2s : (ρ1.set i (some (.l pp ps')))[i2]? = some (some (.l qp ql)) := by rw [get_set (lt_of_get h2), if_neg ne]; exact h2'
  have sub : ∀ x, Av c (ρ1.set i (some (.l pp ps'))) σ x → Av c ρ1 σ x := fun x z => z.elim .inl fun ⟨jj, q', es', w1, w2⟩ => .inr (by
    rw [get_set (lt_of_get h2)] at w1
    by_cases ee : i = jj
    · subst ee; exact ⟨i, pp, pl, h2, w2⟩
    · rw [if_neg ee] at w1; exact ⟨jj, q', es', w1, w2⟩)
  obtain ⟨R3, m3⟩ := R2.write (H' := H') h2s k1 hl2 (fun x o n1 hx => by rw [hm1 x n1] at hx; exact hx) (r3.mv fun x o e nn => ⟨e, fun z => nn (sub x z)⟩)
  have m4 : Mv (Av c ρ1 σ) H' (Av c ((ρ1.set i (some (.l pp ps'))).set i2 (some (.l qp qs'))) σ) H' := fun x o e nn => ⟨e, fun z => nn (sub x (z.elim .inl fun ⟨jj, q', es', w1, w2⟩ => .inr (by
    rw [get_set (lt_of_get h2s)] at w1
    by_cases ee : i2 = jj
    · subst ee; exact ⟨i2, qp, ql, h2s, w2⟩
    · rw [if_neg ee] at w1; exact ⟨jj, q', es', w1, w2⟩)))⟩
  exact q v H' R3 (r4.mv m4) (m1.trans (m2.trans m3))
theorem ev_callM {i i2 : Nat} (F : FnOk X.prog X.w X.K X.mg X.base CX0 j fa fd ps (spM X.K k F4)) (hr : Room j X.A) (hg : Gl X x) (hm : X.mg x = some (.ref fa)) (hkp : PySem.W.keepIn X.K (.ref fa) = true) (hb : L2.Binds X.K fd ps [])
    (hv : PE X e (tVar i)) (hv2 : PE X e2 (tVar i2)) (ha : PA X es (tA X.K n)) (hk : ∀ ρ ds ρ', n ρ = some (ds, ρ') → ds.length = k) (hdb : (x == ("__debug__" : Str)) = false := by decide) (he : starEach (e :: e2 :: es) X.env = (false, eval e X.env) :: starEach (e2 :: es) X.env := by rfl) (he2 : starEach (e2 :: es) X.env = (false, eval e2 X.env) :: starEach es X.env := by rfl) (hpl : (backTo pos (starEach (e2 :: es) X.env)).any (·.1) = false := by rfl) :
    PE X (.Call (.Name x p) (e :: e2 :: es) [] pos) (tE X.K (eCallM F4 i i2 n)) :=
  pe_of (pe_call F hr hg hm hkp hb .nil pass0 (pa_cons hv (pa_cons hv2 ha he2) he) hdb he hpl) (rd_callM hk)
end
end PG
end
section
set_option Elab.async false
set_option linter.all false
set_option maxRecDepth 100000
namespace PG
open PySem PySem.Spec PyProof.Rows L2
/-! ### xs.extend(t), t a tuple -/
theorem list_extend_tup (l : Addr) (items : Array Value) (n : Nat) (b : Addr) (items2 : Array Value) (hs0 : ¬(!items.isEmpty && Builtin.List.listTooLong (items.size + items2.size)) = true) (hs1 : items.size ≤ sizeLine) (hs2 : items.size + items2.size ≤ sizeLine + 1) :
    Meets (Builtin.«list.extend» ⟨[.ref l, .ref b], []⟩) (fun _ R s => s.heap.get? l = some { cls := .type "list", dict := none, data := .seq items n, slots := #[] } ∧ IsTup s.heap b items2 ∧ R (.ok (.ret Value.none)) { s with heap := s.heap.update l (Obj.mapSeq fun x => x ++ items2), toks := s.toks }) :=
  .of_wp fun prog w A R s h => by
    obtain ⟨hp, g, d, tk, os⟩ := s; obtain ⟨hl, hb, h⟩ := h
    obtain ⟨⟨cls, dict, data, slots⟩, hb, hc, n2, hd⟩ := hb
    cases hc
    cases hd
    have f2 := sub_tuple_tuple; have f3 := sub_list_list; have f4 := sub_tuple_list; have f5 := sub_list_tuple;
    have hz' : (items ++ items2).size ≤ sizeLine + 1 := by rw [Array.size_append]; exact hs2
    wp_walk using (wpAny_updateSeq hl rfl (hz := hs1) (_hz' := hz')), wpAny_loadPart' hl, wpAny_loadPart' hb; exact ⟨_, rfl, h⟩
def rExtT (K : PySem.W.Frag) : V → List V → Hp → VK → Prop := fun x vs H Q => ∃ l b xs zs, x = .ref l ∧ vs = [.ref b] ∧ H l = some (.lst xs) ∧ SqT K H b zs ∧ xs.length + zs.length ≤ sizeLine ∧ Q .non (upd H l (.lst (xs ++ zs)))
section
variable {X : Cx}
theorem mt_extendT : MtM X "list.extend" (rExtT X.K) := by
  intro pins s σ H x vs v us Q I rx rv h
  obtain ⟨l, b, xs, zs, rfl, rfl, hH, hB, hz, q⟩ := h
  cases rx
  obtain ⟨u, rfl, ru⟩ := rv.one
  cases ru
  obtain ⟨z, its, n, r, hl, e⟩ := I.lstM hH
  obtain ⟨its2, r2, e2, z2⟩ := I.tuple hB
  have hl2 := r2.length
  have hsz : its.toArray.size + its2.toArray.size ≤ sizeLine := by rw [List.size_toArray, List.size_toArray]; omega
  have hlong : ¬ (!its.toArray.isEmpty && Builtin.List.listTooLong (its.toArray.size + its2.toArray.size)) = true := by
    rw [notLongL hsz, Bool.and_false]
    exact Bool.false_ne_true
  refine call_meets PySem.F.slot_list_extend ⟨_, e, rfl⟩ PySem.F.entry_list_extend (PySem.F.args_list_extend_2 _ _)
    (list_extend_tup l its.toArray n b its2.toArray hlong (by rw [List.size_toArray]; omega) (by omega)) ⟨e, e2, ?_⟩
  refine ⟨.non, _, I.lset (its' := its ++ its2) (t' := s.toks) hH e (by simp) (r.append r2) ?_, rfl, q⟩
  rw [List.length_append]
  omega
end
@[simp] def sExt (i : Nat) (f : EF) : SF := fun ρ => match ρ[i]? with
  | some (some (.l _ _)) => (match f ρ with
    | some (.tuple ds, ρ1) => (match ρ1[i]? with
      | some (some (.l p es)) => if es.length + ds.length ≤ 16777216 then some (.next, ρ1.set i (some (.l p (es ++ ds)))) else none
      | _ => none)
    | _ => none)
  | _ => none
section
variable {X : Cx} {a e : Expr} {pos : Pos} {f : EF}
theorem es_ext {i : Nat} {apos cpos : Pos} (hv : PE X a (tVar i)) (he : PE X e (tE X.K f)) (hbase : attributeBase a "extend" X.env (eval a X.env) = eval a X.env := by rfl)
    (hfew : ((backTo cpos (starEach [e] X.env)).all (fun x => !x.1) && (backToKw cpos (keywordEach [] X.env)).all (fun x => x.1.isSome)
      && decide ([e].length + ([] : List Keyword).length + (if ([] : List Keyword).isEmpty then 0 else 1) < 30)) = true := by rfl)
    (hline : (apos.endLine == cpos.line) = true := by rfl) (hs : starEach [e] X.env = (false, eval e X.env) :: starEach [] X.env := by rfl) (hplain : (backTo cpos (starEach [] X.env)).any (·.1) = false := by rfl)
    (hsw : swapsWith (.Call (.Attribute a "extend" apos) [e] [] cpos) none pos.line X.env = pure false := by rfl) :
    PS X (.Expr (.Call (.Attribute a "extend" apos) [e] [] cpos) pos) (tS X.K (sExt i f)) :=
  ps_of (ps_expr (pe_bm PySem.F.plainAttrs_list PySem.F.slot_list_extend PySem.F.type_list_extend mt_extendT hv (pa_cons he pa_nil hs) hbase hfew hline hs hplain) hsw) fun E σ H ⟨c, ρ, o, ρ', R, e, q⟩ => by
    unfold sExt at e
    split at e
    · rename_i p0 l0 h0
      split at e
      · rename_i ds ρ1 h1
        split at e
        · rename_i p es h2
          split at e
          · rename_i hl
            obtain ⟨e1, e2⟩ := so e
            subst e1 e2
            obtain ⟨a, us0, g1, g2, _⟩ := R.lst i p0 l0 h0
            refine ⟨.ref a, g1, .inl ⟨rfl, us0, .inl (.inl g2)⟩, c, ρ, _, ρ1, R, h1, fun v H1 R1 r1 m1 => ?_⟩
            obtain ⟨a', us, g1', g2', g3, _⟩ := R1.lst i p es h2
            rw [g1] at g1'
            cases g1'
            cases r1 with
            | @tup b vs _ lb al =>
              refine ⟨a, b, us, vs, rfl, rfl, g2', lb.sq, by rw [g3.length, al.length, sl16]; exact hl, ?_⟩
              have own : Av c ρ1 σ a := .inr ⟨i, p, es, h2, g1⟩
              have mw : Mv (Av c ρ1 σ) H1 (Av c ρ1 σ) (upd H1 a (.lst (us ++ vs))) := fun b o e n => ⟨by rw [upd_ne (fun z => n (by subst z; exact own))]; exact e, n⟩
              obtain ⟨R2, m2⟩ := R1.write (ds' := es ++ ds) h2 g1 upd_same (fun b o nb eb => by rw [upd_ne nb]; exact eb) ((g3.app al).mv mw)
              exact q σ _ R2 (m1.trans m2)
          · cases e
        · cases e
      · cases e
    · cases e
end
/-! ### t[::-1], t a tuple -/
section
variable {prog : Program} {w : World} {A : Around} {E : Value → Shared → Prop} {s : Shared}
theorem sliceApplied_rev {sl : Addr} {vl vu vs : Value} {n : Nat} {Q : Int × Int × Nat → Shared → Prop} (hs : s.heap.IsSliceOf sl vl vu vs) (pl : IsPart vl none) (pu : IsPart vu none) (ps : IsPart vs (some (-1)))
    (h : Q ((n : Int) - 1, -1, n) s) : wpAny (model prog w) A (Builtin.Slice.sliceApplied (.ref sl) (pure (n : Int))) Q E s := by
  obtain ⟨os, hos, hcs, hds⟩ := id hs
  unfold Builtin.Slice.sliceApplied Builtin.Slice.sliceFields
  refine wpAny_bind (wpAny_bind (wpAny_field hos hds (x := vl) rfl (wpAny_bind (wpAny_field hos hds (x := vu) rfl (wpAny_bind (wpAny_field hos hds (x := vs) rfl (wpAny_pure ?_)))))))
  refine wpAny_bind (HT.slicePart_ ps ?_)
  show wpAny _ _ (if ((-1 : Int) == 0) = true then _ else _) _ _ s
  rw [if_neg (by decide)]
  refine wpAny_bind (HT.slicePart_ pl (wpAny_bind (HT.slicePart_ pu (wpAny_bind (wpAny_pure ?_)))))
  show wpAny _ _ (pure ((n : Int) - 1, (-1 : Int), Builtin.Slice.slicePlaces ((n : Int) - 1) (-1) (-1))) _ _ s
  have e : Builtin.Slice.slicePlaces ((n : Int) - 1) (-1) (-1) = n := by
    unfold Builtin.Slice.slicePlaces
    have h1 : ¬ ((-1 : Int) > 0) := by omega
    simp only [h1, if_false, Int.neg_neg, Int.ediv_one]
    split <;> omega
  rw [e]
  exact wpAny_pure h
theorem fm_congr {α β : Type} {f g : α → Option β} : ∀ {l : List α}, (∀ x ∈ l, f x = g x) → l.filterMap f = l.filterMap g
  | [], _ => rfl
  | x :: l, h => by
    rw [List.filterMap_cons, List.filterMap_cons, h x (by simp), fm_congr fun y hy => h y (by simp [hy])]
theorem fm_all : ∀ l : List Value, (List.range l.length).filterMap (fun k => l[k]?) = l
  | [] => rfl
  | x :: l => by
    rw [List.length_cons, List.range_succ_eq_map, List.filterMap_cons]
    simp only [List.getElem?_cons_zero]
    rw [List.filterMap_map]
    simp only [Function.comp_def, List.getElem?_cons_succ]
    rw [fm_all l]
theorem pick_rev (xs : Array Value) : ((List.range xs.size).filterMap fun (k : Nat) => xs[(((xs.size : Nat) : Int) - 1 + (k : Int) * -1).toNat]?) = xs.toList.reverse := by
  have e1 : ∀ k, k < xs.size → xs[(((xs.size : Nat) : Int) - 1 + (k : Int) * -1).toNat]? = xs.toList.reverse[k]? := fun k hk => by
    rw [show (((xs.size : Nat) : Int) - 1 + (k : Int) * -1).toNat = xs.size - 1 - k by omega, List.getElem?_reverse (by simpa using hk)]
    simp
  rw [fm_congr (g := fun k : Nat => xs.toList.reverse[k]?) fun k hk => e1 k (by simpa using hk)]
  have := fm_all xs.toList.reverse
  simpa using this
theorem getItem_tuple_rev {t sl : Addr} {items : Array Value} {vl vu vs : Value} {Q : Value → Shared → Prop} (ht : IsTup s.heap t items) (hs : s.heap.IsSliceOf sl vl vu vs) (pl : IsPart vl none) (pu : IsPart vu none) (ps : IsPart vs (some (-1)))
    (h : Q (.ref s.heap.objs.size) { s with heap := s.heap.push { cls := .type "tuple", data := .seq items.toList.reverse.toArray } })
    (hsz : items.size ≤ sizeLine) : wpAny (model prog w) A (getItem (.ref t) (.ref sl)) Q E s := by
  have htake : sizeOk (.seq items.toList.reverse.toArray) := by
    show items.toList.reverse.toArray.size ≤ sizeLine
    rw [List.size_toArray, List.length_reverse, Array.length_toList]
    exact hsz
  obtain ⟨os, hos, hcs, hds⟩ := id hs
  have hTs : s.TypeIs (.ref sl) "slice" := ⟨os, hos, hcs⟩
  unfold getItem
  try with_reducible refine wpAny_holding ?_
  first | refine wpAny_bind (wpAny_pure ?_) | skip
  refine wpAny_bind (wpAny_sequenceKey ht.typeIs (by decide) ?_)
  refine wpAny_bind (wpAny_callSpecial?_slot (name := Str.ofString "__getitem__") ht.typeIs PyProof.Rows.slot_tuple_getitem
    (wpAny_call_entry PyProof.Rows.slot_tuple_getitem ht.typeIs entry_tuple_getitem ?_ (args_tuple_getitem _ _)))
  show wpAny _ _ (Builtin.Tuple.tupleItemsOf (.ref t) >>= _) _ _ s
  refine wpAny_bind (tupleItemsOf_ ht ?_)
  refine wpAny_bind (wpAny_typeOf hTs ?_)
  rw [if_pos (by decide)]
  refine wpAny_bind (sliceApplied_rev hs pl pu ps ?_)
  have hno : ¬ (((((items.size : Nat) : Int) - 1) == 0 && (-1 : Int) == 1 && items.size == items.size) = true) := by
    intro q
    rw [Bool.and_eq_true, Bool.and_eq_true] at q
    exact absurd q.1.2 (by decide)
  show wpAny _ _ (if ((((items.size : Nat) : Int) - 1) == 0 && (-1 : Int) == 1 && items.size == items.size) = true then _ else _) _ _ s
  rw [if_neg hno, pick_rev]
  first
    | exact wpAny_bind (m := Builtin.Tuple.tupleExact _) (wpAny_newObj_type (wpAny_pure ⟨_, rfl, wpAny_pure h⟩) htake)
    | exact wpAny_bind (m := Builtin.Tuple.tupleExact _) (wpAny_newObj_type (wpAny_bind (wpAny_pure (wpAny_pure ⟨_, rfl, wpAny_pure h⟩))) htake)
    | exact wpAny_bind (wpAny_bind (m := Builtin.Tuple.tupleExact _) (wpAny_newObj_type (wpAny_pure (wpAny_pure ⟨_, rfl, wpAny_pure h⟩)) htake))
    | exact wpAny_bind (wpAny_bind (m := Builtin.Tuple.tupleExact _) (wpAny_newObj_type (wpAny_pure ⟨_, rfl, wpAny_pure h⟩) htake))
end
def tRevT (K : PySem.W.Frag) (te : TE) : TE := fun σ H Q => te σ H fun x H1 => ∃ a xs, x = .ref a ∧ SqT K H1 a xs ∧ ∀ p, H1 p = none → Q (.ref p) (upd H1 p (.tup xs.reverse))
@[simp] def eRevT (f : EF) : EF := fun ρ => match f ρ with
  | some (.tuple xs, ρ1) => some (.tuple xs.reverse, ρ1)
  | _ => none
section
variable {X : Cx} {e : Expr} {f : EF}
theorem pe_revT {te : TE} {k : Nat} {p1 p2 p3 pos : Pos} (he : PE X e te) : PE X (.Subscript e (.Slice none none (some (.UnaryOp .USub (.Constant (.int 1) k p1) p2)) p3) pos) (tRevT X.K te) := by
  refine ⟨fun pins s σ H Q I h => ?_⟩
  refine Subscript_ (thn (he.run pins s σ H _ I h) fun v s1 ⟨x, H1, I1, r1, q1⟩ => ?_)
  obtain ⟨a, xs, ex, hx, q⟩ := q1
  subst ex
  cases r1
  have hst : PO X (some (.UnaryOp .USub (.Constant (.int 1) k p1) p2)) (tPart (tUn (rU fun i => .int (-i)) (tC (.int 1)))) := po_some (pe_un un_neg pe_int)
  refine wpAny_Slice (thn (po_none.run pins s1 σ H1 (fun o H2 => o = none ∧ H2 = H1) I1 ⟨rfl, rfl⟩) fun vl s2 ⟨l, H2, I2, pl, el, e2⟩ => ?_)
  subst el e2
  refine thn (po_none.run pins s2 σ H2 (fun o H3 => o = none ∧ H3 = H2) I2 ⟨rfl, rfl⟩) fun vu s3 ⟨u, H3, I3, pu, eu, e3⟩ => ?_
  subst eu e3
  refine thn (hst.run pins s3 σ H3 (fun o H4 => o = some (-1) ∧ H4 = H3) I3 ⟨1, rfl, -1, rfl, rfl, rfl⟩) fun vs s4 ⟨o, H4, I4, ps, eo, e4⟩ => ?_
  subst eo e4
  have I5 : Inv X pins σ H4 { s4 with heap := s4.heap.push { cls := .type "slice", data := .fields #[vl, vu, vs] } } := I4.kept (t' := s4.toks) fun b ob q => Heap.get?_push_of_some _ q
  obtain ⟨its, r, ht, hz⟩ := I5.tuple hx
  have hlen := r.length
  show wpAny (model X.prog X.w) X.A (subscriptTail e (.Slice none none (some (.UnaryOp .USub (.Constant (.int 1) k p1) p2)) p3) (.ref a) (.ref s4.heap.objs.size)) (EP X pins σ Q) X.xe { s4 with heap := s4.heap.push { cls := .type "slice", data := .fields #[vl, vu, vs] } }
  refine tail_any (ops := [.ref a, .ref s4.heap.objs.size]) ht.typeIs (PyProof.Rows.slot_tuple_getitem.lookup) ?_ (by with_unfolding_all rfl)
  refine getItem_tuple_rev ht (Heap.IsSliceOf.new _ vl vu vs) pl pu ps ?_ (by rw [List.size_toArray]; omega)
  refine ⟨.ref _, _, I5.laid (t' := s4.toks) (o := .tup xs.reverse) (fun b ob q => Heap.get?_push_of_some _ q) (Nat.le_refl _) ?_, rfl, q _ (I5.hok.fresh (Nat.le_refl _))⟩
  refine ⟨by rw [List.length_reverse]; exact hz, _, r.reverse, ?_⟩
  exact IsTup.new _ _
theorem RpA.rev {K : PySem.W.Frag} {A : Addr → Prop} {H : Hp} : ∀ {vs : List V} {ds : List PyData}, RpA K A H vs ds → RpA K A H vs.reverse ds.reverse
  | _, _, .nil => .nil
  | _, _, .cons r rs => by
    rw [List.reverse_cons, List.reverse_cons]
    exact (RpA.rev rs).app (.cons r .nil)
theorem ev_revT {k : Nat} {p1 p2 p3 pos : Pos} (he : PE X e (tE X.K f)) : PE X (.Subscript e (.Slice none none (some (.UnaryOp .USub (.Constant (.int 1) k p1) p2)) p3) pos) (tE X.K (eRevT f)) :=
  pe_of (pe_revT he) fun σ H Q ⟨c, ρ, d, ρ', R, e, q⟩ => by
    unfold eRevT at e
    split at e
    · rename_i xs ρ1 h1
      obtain ⟨e1, e2⟩ := so e
      subst e1 e2
      refine ⟨c, ρ, _, ρ1, R, h1, fun v H1 R1 r1 m1 => ?_⟩
      cases r1 with
      | @tup p us _ ll al =>
        exact ⟨p, us, rfl, ll.sq, fun p2 hp => q _ _ (R1.alloc hp).1 (R1.newTup hp (RpA.rev al)) (m1.trans (R1.mvG (kp_upd hp)))⟩
    · cases e
end
end PG
end
section
set_option Elab.async false
set_option linter.all false
set_option maxRecDepth 100000
namespace PG
open PySem PySem.Spec PyProof.Rows L2
/-! ### a comprehension that walks an owned list -/
section
variable {X : Cx} {e a b : Expr} {pos : Pos} {f g h : EF} {tf tg : TF} {n m : NF} {es : List Expr}
theorem comp_core {K : PySem.W.Frag} {G : GF} {is vs : List Nat} (his : ∀ j ∈ is, j ∈ vs) {c : Act K} {ρ1 ρ2 : Rho} {σ : L2.St} {H1 : Hp} {J : It} {ds0 out : List PyData} {Q : VK} (R1 : Rel K c ρ1 σ H1) (hp : plainAt ρ1 vs = true) (h2 : compL G tf f vs ds0 [] (wipeR ρ1 vs) = some (out, ρ2))
    (jo : ∀ (Dd : Addr) (ρi : Rho) (Hi : Hp), Rel K (c.plus Dd) ρi (wipe σ vs) Hi → Mv (Av c ρ1 σ) H1 (Av (c.plus Dd) ρi (wipe σ vs)) Hi →
      (∀ (i : Nat) (d : PyData), ds0[i]? = some d → J.go i Hi ∧ ∀ x H', J.yld i Hi x H' → H' = Hi ∧ Rp K (Av (c.plus Dd) ρi (wipe σ vs)) Hi x d) ∧ J.stop ds0.length Hi)
    (q : ∀ (a : Addr) (us : List V) (H' : Hp), Rel K (c.plus a) (restR ρ1 ρ2 vs) σ H' → H' a = some (.lst us) → RpA K (Av (c.plus a) (restR ρ1 ρ2 vs) σ) H' us out → ¬ Av c (restR ρ1 ρ2 vs) σ a → c.H0 a = none → H1 a = none → Mv (Av c ρ1 σ) H1 (Av (c.plus a) (restR ρ1 ρ2 vs) σ) H' → Q (.ref a) H') :
    ∀ D, H1 D = none → ∃ W : Nat → Nat → Hp → Prop, (∃ m, W 0 m (upd H1 D (.lst []))) ∧ ∀ i m H, W i m H →
      (J.stop i H ∧ Q (.ref D) H) ∨ (J.go i H ∧ ∃ Nx : Hp → Prop, (∀ H', Nx H' → ∃ m', m' < m ∧ W (i + 1) m' H') ∧ ∀ x H', J.yld i H x H' → tG K G is x (wipe σ vs) H' fun σ2 H2 => wipe σ2 vs = wipe σ vs ∧ tT K tf σ2 H2 fun b H3 =>
        if b = true then tE K f σ2 H3 fun y H4 => ∃ acc, H4 D = some (.lst acc) ∧ acc.length < sizeLine ∧ Nx (upd H4 D (.lst (acc ++ [y]))) else Nx H3) := by
  intro Dd hD
  have hn : ∀ i, c.pn i ≠ some Dd := fun i z => R1.av Dd (R1.pA i Dd z) hD
  have h0 : c.H0 Dd = none := R1.fresh0 hD
  obtain ⟨Rw, mw⟩ := R1.wipe hp
  have Rw' : Rel K (c.plus Dd) (wipeR ρ1 vs) (wipe σ vs) (upd H1 Dd (.lst [])) := Rw.plus hD (kp_upd hD) (by rw [upd_same]; exact fun z => nomatch z)
  have mw' : Mv (Av c ρ1 σ) H1 (Av (c.plus Dd) (wipeR ρ1 vs) (wipe σ vs)) (upd H1 Dd (.lst [])) := mw.trans (Rw.mvP hD (kp_upd hD))
  refine ⟨fun i m Hi => m = ds0.length - i ∧ i ≤ ds0.length ∧ ∃ ρi acc us, plainAt ρi vs = true ∧ Rel K (c.plus Dd) ρi (wipe σ vs) Hi ∧ Hi Dd = some (.lst us) ∧ RpA K (Av (c.plus Dd) ρi (wipe σ vs)) Hi us acc ∧
    Mv (Av c ρ1 σ) H1 (Av (c.plus Dd) ρi (wipe σ vs)) Hi ∧ compL G tf f vs (ds0.drop i) acc ρi = some (out, ρ2),
    ⟨ds0.length, by simp, Nat.zero_le _, wipeR ρ1 vs, [], [], plain_wipe hp, Rw', upd_same, .nil, mw', h2⟩, ?_⟩
  rintro i m Hi ⟨rfl, hi, ρi, acc, us, hpi, Ri, hDi, ri, mi, ei⟩
  obtain ⟨jg, js⟩ := jo Dd ρi Hi Ri mi
  cases hd : ds0.drop i with
  | nil =>
    rw [hd] at ei
    unfold compL at ei
    obtain ⟨e1, e2⟩ := so ei
    subst e1 e2
    have : i = ds0.length := by
      have := congrArg List.length hd
      rw [List.length_drop, List.length_nil] at this
      omega
    subst this
    obtain ⟨Rr, own⟩ := R1.rest Ri mi hp hpi
    have mo : Mv (Av (c.plus Dd) ρi (wipe σ vs)) Hi (Av (c.plus Dd) (restR ρ1 ρi vs) σ) Hi := fun b o eb nb => ⟨eb, fun z => nb (z.elim .inl fun y => .inr ((own b).mp y))⟩
    have mt : Mv (Av c ρ1 σ) H1 (Av c (restR ρ1 ρi vs) σ) Hi := (mi.trans mo).trans mv_unplus
    refine .inl ⟨js, q Dd us Hi Rr hDi (ri.mv mo) (fun z => ?_) h0 hD (mi.trans mo)⟩
    rcases z with z | z
    · exact R1.av Dd z hD
    · obtain ⟨j, p, es, w1, w2⟩ := (own Dd).mp z
      obtain ⟨b, us', g1, g2, g3, g4⟩ := Ri.lst j p es w1
      rw [w2] at g1
      cases g1
      cases p with
      | false => exact (g4 rfl).2 (.inr rfl)
      | true => exact hn j ((Ri.pin j Dd).mpr ⟨es, w1, w2⟩)
  | cons d r =>
    obtain ⟨g1, g2⟩ := drop_cons hd
    rw [hd] at ei
    obtain ⟨k1, k2⟩ := jg i d g1
    have hlt := lt_of_get g1
    unfold compL at ei
    split at ei
    · cases ei
    · rename_i ρa ea
      refine .inr ⟨k1, fun H' => ds0.length - (i + 1) = ds0.length - (i + 1) ∧ i + 1 ≤ ds0.length ∧ ∃ ρi acc us, plainAt ρi vs = true ∧ Rel K (c.plus Dd) ρi (wipe σ vs) H' ∧ H' Dd = some (.lst us) ∧ RpA K (Av (c.plus Dd) ρi (wipe σ vs)) H' us acc ∧
        Mv (Av c ρ1 σ) H1 (Av (c.plus Dd) ρi (wipe σ vs)) H' ∧ compL G tf f vs (ds0.drop (i + 1)) acc ρi = some (out, ρ2), fun H' z => ⟨ds0.length - (i + 1), by omega, z⟩, fun x H' y => ?_⟩
      obtain ⟨rfl, rx⟩ := k2 x H' y
      refine ⟨c.plus Dd, ρi, d, ρa, Ri, rx, ea, fun σ2 Ra ma hl hk => ?_⟩
      have hw : wipe σ2 vs = wipe σ vs := by
        apply List.ext_getElem?
        intro j
        rw [wipe_get, wipe_get]
        rw [hl, wipe_length]
        by_cases hj : j ∈ vs
        · by_cases hj2 : j < σ.length
          · rw [if_pos ⟨hj, hj2⟩, if_pos ⟨hj, hj2⟩]
          · rw [if_neg fun z => hj2 z.2, if_neg fun z => hj2 z.2, List.getElem?_eq_none (by rw [hl, wipe_length]; omega), List.getElem?_eq_none (by omega)]
        · rw [if_neg fun z => hj z.1, if_neg fun z => hj z.1, hk j fun z => hj (his j z), wipe_get, if_neg fun z => hj z.1]
      refine ⟨hw, ?_⟩
      have hA : (c.plus Dd).A Dd := .inr rfl
      have Ra' := Ra.memo h0 hA hDi
      split at ei
      · cases ei
      · rename_i ρb eb
        split at ei
        · rename_i hpb
          refine ⟨_, ρa, false, ρb, Ra', eb, fun H3 R3 m3 => iteF ?_⟩
          obtain ⟨R3', hD3⟩ := R3.unmemo h0 hn
          obtain ⟨R4, m4⟩ := R3'.wipe hpb
          rw [hw] at R4 m4
          have mm := ma.trans (Mv.trans m3 m4)
          exact ⟨rfl, hlt, wipeR ρb vs, acc, us, plain_wipe hpb, R4, hD3, ri.mv mm, mi.trans mm, by rw [g2]; exact ei⟩
        · cases ei
      · rename_i ρb eb
        split at ei
        · cases ei
        · rename_i y ρc ec
          split at ei
          · rename_i hpc
            simp only [Bool.and_eq_true, decide_eq_true_eq] at hpc
            refine ⟨_, ρa, true, ρb, Ra', eb, fun H3 R3 m3 => iteT ?_⟩
            refine ⟨_, ρb, y, ρc, R3, ec, fun v H4 R4 r4 m4 => ?_⟩
            obtain ⟨R4', hD4⟩ := R4.unmemo h0 hn
            obtain ⟨R5, m5⟩ := R4'.wipe hpc.1
            rw [hw] at R5 m5
            obtain ⟨R6, m6⟩ := R5.scratch (o := .lst (us ++ [v])) hA hn h0
            have mm := ma.trans (Mv.trans m3 (Mv.trans m4 (Mv.trans m5 m6)))
            refine ⟨us, hD4, by rw [ri.length, sl16]; exact hpc.2, rfl, hlt, wipeR ρc vs, acc ++ [y], us ++ [v], plain_wipe hpc.1, R6, upd_same, (ri.mv mm).app (.cons (r4.mv (Mv.trans m5 m6)) .nil), mi.trans mm, by rw [g2]; exact ei⟩
          · cases ei
end
/-- the Act with one list more kept apart, as it stands -/
def Act.hide {K : PySem.W.Frag} (c : Act K) (b : Addr) (o : HO) (h0 : c.H0 b = none) : Act K := { A := fun x => c.A x ∨ x = b, H0 := upd c.H0 b o, pn := c.pn, ts := ts_upd c.ts h0, tp := tp_upd c.tp h0 }
section
variable {K : PySem.W.Frag} {c : Act K} {ρ : Rho} {σ : L2.St} {H : Hp} {i : Nat} {ds : List PyData} {b : Addr} {us : List V} {h0 : c.H0 b = none}
theorem hide_av (hi : ρ[i]? = some (some (.l false ds))) (hb : σ[i]? = some (some (.ref b))) (x : Addr) : Av (c.hide b (.lst us) h0) (ρ.set i none) σ x ↔ Av c ρ σ x := by
  have hl := lt_of_get hi
  constructor
  · rintro (z | ⟨j, p, es, w1, w2⟩)
    · rcases z with z | z
      · exact .inl z
      · subst z; exact .inr ⟨i, _, _, hi, hb⟩
    · rw [get_set hl] at w1
      by_cases e : i = j
      · subst e; rw [if_pos rfl] at w1; cases w1
      · rw [if_neg e] at w1; exact .inr ⟨j, p, es, w1, w2⟩
  · rintro (z | ⟨j, p, es, w1, w2⟩)
    · exact .inl (.inl z)
    · by_cases e : i = j
      · subst e; rw [hb] at w2; cases w2; exact .inl (.inr rfl)
      · exact .inr ⟨j, p, es, by rw [get_set hl, if_neg e]; exact w1, w2⟩
theorem hide_mv (hi : ρ[i]? = some (some (.l false ds))) (hb : σ[i]? = some (some (.ref b))) : Mv (Av c ρ σ) H (Av (c.hide b (.lst us) h0) (ρ.set i none) σ) H := fun x o e n => ⟨e, fun z => n ((hide_av hi hb x).mp z)⟩
theorem Rel.hide (R : Rel K c ρ σ H) (hi : ρ[i]? = some (some (.l false ds))) (hb : σ[i]? = some (some (.ref b))) (hH : H b = some (.lst us)) : Rel K (c.hide b (.lst us) h0) (ρ.set i none) σ H := by
  have hl := lt_of_get hi
  have gs : ∀ j, (ρ.set i none)[j]? = if i = j then some none else ρ[j]? := fun j => get_set hl
  have mv := hide_mv (c := c) (H := H) (us := us) (h0 := h0) hi hb
  refine ⟨by rw [List.length_set]; exact R.len, fun j d e => ?_, fun j q es e => ?_, fun j k q q' es es' x h1 h2 h3 h4 => ?_, fun j x => ?_, fun j x e => .inl (R.pA j x e), fun x o e n => ?_, fun x e => ?_⟩
  · rw [gs] at e
    by_cases e1 : i = j
    · rw [if_pos e1] at e; cases e
    · rw [if_neg e1] at e
      obtain ⟨v, w1, w2⟩ := R.val j d e
      exact ⟨v, w1, w2.mv mv⟩
  · rw [gs] at e
    by_cases e1 : i = j
    · rw [if_pos e1] at e; cases e
    · rw [if_neg e1] at e
      obtain ⟨x, vs, w1, w2, w3, w4⟩ := R.lst j q es e
      have nx : x ≠ b := fun z => e1 (by subst z; exact R.dis i j _ _ _ _ x hi e hb w1)
      refine ⟨x, vs, w1, w2, w3.mv mv, fun z => ⟨?_, fun y => y.elim (w4 z).2 nx⟩⟩
      show upd c.H0 b (.lst us) x = none
      rw [upd_ne nx]
      exact (w4 z).1
  · rw [gs] at h1 h2
    by_cases e1 : i = j
    · rw [if_pos e1] at h1; cases h1
    · by_cases e2 : i = k
      · rw [if_pos e2] at h2; cases h2
      · rw [if_neg e1] at h1
        rw [if_neg e2] at h2
        exact R.dis j k q q' es es' x h1 h2 h3 h4
  · show c.pn j = some x ↔ _
    rw [R.pin, gs]
    by_cases e1 : i = j
    · subst e1
      rw [if_pos rfl, hi]
      constructor
      · rintro ⟨es, w, _⟩; cases w
      · rintro ⟨es, w, _⟩; cases w
    · rw [if_neg e1]
  · have e' : upd c.H0 b (.lst us) x = some o := e
    by_cases z : x = b
    · subst z; rw [upd_same] at e'; cases e'; exact hH
    · rw [upd_ne z] at e'; exact R.old x o e' n
  · rcases e with e | e
    · exact R.av x e
    · subst e; rw [hH]; exact fun z => nomatch z
/-- it is seen again -/
theorem Rel.seen {a : Addr} {H' : Hp} {ρ' : Rho} (R : Rel K c ρ σ H) (hi : ρ[i]? = some (some (.l false ds))) (hb : σ[i]? = some (some (.ref b))) (hH : H b = some (.lst us)) (ru : RpA K (Av c ρ σ) H us ds) (hc : c.H0 b = none ∧ ¬ c.A b)
    (ha : H a = none) (R' : Rel K ((c.hide b (.lst us) h0).plus a) ρ' σ H') (hn : ρ'[i]? = some none) (m : Mv (Av (c.hide b (.lst us) h0) (ρ.set i none) σ) H (Av ((c.hide b (.lst us) h0).plus a) ρ' σ) H') :
    Rel K (c.plus a) (ρ'.set i (some (.l false ds))) σ H' ∧ (∀ x, Av (c.plus a) (ρ'.set i (some (.l false ds))) σ x ↔ Av ((c.hide b (.lst us) h0).plus a) ρ' σ x) := by
  have hl := lt_of_get hn
  have gs : ∀ j, (ρ'.set i (some (Cell.l false ds)))[j]? = if i = j then some (some (Cell.l false ds)) else ρ'[j]? := fun j => get_set hl
  have av : ∀ x, Av (c.plus a) (ρ'.set i (some (.l false ds))) σ x ↔ Av ((c.hide b (.lst us) h0).plus a) ρ' σ x := fun x => by
    constructor
    · rintro (z | ⟨j, p, es, w1, w2⟩)
      · exact .inl (z.elim (fun y => .inl (.inl y)) .inr)
      · rw [gs] at w1
        by_cases e : i = j
        · subst e; rw [hb] at w2; cases w2; exact .inl (.inl (.inr rfl))
        · rw [if_neg e] at w1; exact .inr ⟨j, p, es, w1, w2⟩
    · rintro (z | ⟨j, p, es, w1, w2⟩)
      · rcases z with (z | z) | z
        · exact .inl (.inl z)
        · subst z; exact .inr ⟨i, false, ds, by rw [gs, if_pos rfl], hb⟩
        · exact .inl (.inr z)
      · have e : i ≠ j := fun z => by subst z; rw [hn] at w1; cases w1
        exact .inr ⟨j, p, es, by rw [gs, if_neg e]; exact w1, w2⟩
  have mv : Mv (Av ((c.hide b (.lst us) h0).plus a) ρ' σ) H' (Av (c.plus a) (ρ'.set i (some (.l false ds))) σ) H' := fun x o e n => ⟨e, fun z => n ((av x).mp z)⟩
  have hnp : ∀ j, c.pn j ≠ some b := fun j z => hc.2 (R.pA j b z)
  have hH' : H' b = some (.lst us) := R'.old b _ (show upd c.H0 b (.lst us) b = _ from upd_same) hnp
  have nba : b ≠ a := fun z => by subst z; rw [ha] at hH; cases hH
  refine ⟨⟨by rw [List.length_set]; exact R'.len, fun j d e => ?_, fun j q es e => ?_, fun j k q q' es es' x h1 h2 h3 h4 => ?_, fun j x => ?_, fun j x e => .inl (R.pA j x e), fun x o e n => ?_, fun x e => ?_⟩, av⟩
  · rw [gs] at e
    by_cases e1 : i = j
    · rw [if_pos e1] at e; cases e
    · rw [if_neg e1] at e
      obtain ⟨v, w1, w2⟩ := R'.val j d e
      exact ⟨v, w1, w2.mv mv⟩
  · rw [gs] at e
    by_cases e1 : i = j
    · rw [if_pos e1] at e
      cases e
      subst e1
      exact ⟨b, us, hb, hH', ((ru.mv (hide_mv hi hb)).mv m).mv mv, fun _ => ⟨hc.1, fun z => z.elim hc.2 nba⟩⟩
    · rw [if_neg e1] at e
      obtain ⟨x, vs, w1, w2, w3, w4⟩ := R'.lst j q es e
      refine ⟨x, vs, w1, w2, w3.mv mv, fun z => ?_⟩
      obtain ⟨y1, y2⟩ := w4 z
      have nx : x ≠ b := fun z => y2 (.inl (.inr z))
      have y1' : upd c.H0 b (.lst us) x = none := y1
      rw [upd_ne nx] at y1'
      exact ⟨y1', fun z => y2 (z.elim (fun z => .inl (.inl z)) .inr)⟩
  · have no : ∀ k q es, k ≠ i → ρ'[k]? = some (some (Cell.l q es)) → σ[k]? = some (some (.ref b)) → False := fun k q es nk w1 w2 => by
      obtain ⟨y, vs, v1, v2, v3, v4⟩ := R'.lst k q es w1
      rw [w2] at v1
      cases v1
      cases q with
      | false => exact (v4 rfl).2 (.inl (.inr rfl))
      | true => exact hnp k ((R'.pin k b).mpr ⟨es, w1, w2⟩)
    rw [gs] at h1 h2
    by_cases e1 : i = j
    · by_cases e2 : i = k
      · exact e1.symm.trans e2
      · rw [if_neg e2] at h2
        subst e1
        rw [hb] at h3
        cases h3
        exact (no k _ _ (fun z => e2 z.symm) h2 h4).elim
    · rw [if_neg e1] at h1
      by_cases e2 : i = k
      · subst e2
        rw [hb] at h4
        cases h4
        exact (no j _ _ (fun z => e1 z.symm) h1 h3).elim
      · rw [if_neg e2] at h2
        exact R'.dis j k q q' es es' x h1 h2 h3 h4
  · have r := R'.pin j x
    show c.pn j = some x ↔ _
    rw [gs]
    by_cases e1 : i = j
    · subst e1
      rw [if_pos rfl]
      constructor
      · intro z
        obtain ⟨es, w, _⟩ := r.mp z
        rw [hn] at w
        cases w
      · rintro ⟨es, w, _⟩; cases w
    · rw [if_neg e1]
      exact r
  · have nx : x ≠ b := fun z => by
      subst z
      have e' : c.H0 x = some o := e
      rw [hc.1] at e'
      cases e'
    exact R'.old x o (by show upd c.H0 b (.lst us) x = _; rw [upd_ne nx]; exact e) n
  · exact R'.av x (e.elim (fun z => .inl (.inl z)) .inr)
end
/-- [f for x in known if t], known an owned list: the parts don't see it -/
def nCompO (i : Nat) (g : GF) (t : TF) (e : EF) (vs : List Nat) : NF := fun ρ => match ρ[i]? with
  | some (some (.l false ds)) => if plainAt (ρ.set i none) vs then (match compL g t e vs ds [] (wipeR (ρ.set i none) vs) with
    | some (out, ρ2) => (match (restR (ρ.set i none) ρ2 vs)[i]? with
      | some none => some (out, (restR (ρ.set i none) ρ2 vs).set i (some (.l false ds)))
      | _ => none)
    | none => none) else none
  | _ => none
section
variable {X : Cx} {e a b : Expr} {pos : Pos} {f g h : EF} {tf tg : TF} {n m : NF} {es : List Expr}
theorem rd_compO {K : PySem.W.Frag} {i : Nat} {G : GF} {is vs : List Nat} (his : ∀ j ∈ is, j ∈ vs) : ∀ σ H Q, tN K (nCompO i G tf f vs) σ H Q → tLc (iList K (tVar i)) (tG K G is) (tT K tf) (tE K f) vs σ H Q := fun σ H Q ⟨c, ρ, out, ρ', R, e, q⟩ => by
  unfold nCompO at e
  split at e
  · rename_i ds h0
    split at e
    · rename_i hp
      split at e
      · rename_i out' ρ2 h2
        split at e
        · rename_i hn
          obtain ⟨e1, e2⟩ := so e
          subst e1 e2
          obtain ⟨b, us, g1, g2, g3, g4⟩ := R.lst i false ds h0
          have hc := g4 rfl
          have R1 := R.hide (h0 := hc.1) h0 g1 g2
          refine ⟨.ref b, g1, b, rfl, ⟨us, .inl (.inl g2)⟩, ?_⟩
          refine comp_core his R1 hp h2 (fun Dd ρi Hi Ri mi => ?_) fun a ws H' Rr ha ra na h00 hD mm => ?_
          · have hnp : ∀ j, (c.hide b (.lst us) hc.1).pn j ≠ some b := fun j z => hc.2 (R.pA j b z)
            have hHi : Hi b = some (.lst us) := Ri.old b _ (show upd c.H0 b (.lst us) b = _ from upd_same) hnp
            have rr := (g3.mv (hide_mv h0 g1)).mv mi
            refine ⟨fun k d hk => ?_, ⟨us, .inl (.inl hHi), by rw [rr.length]; exact Nat.le_refl _⟩⟩
            obtain ⟨v, w1, w2⟩ := rr.get hk
            exact ⟨⟨us, v, .inl (.inl hHi), w1⟩, fun x H' y => ⟨y.1, by
              have := y.2 us (.inl (.inl hHi))
              rw [w1] at this
              cases this
              exact w2⟩⟩
          · obtain ⟨R2, av⟩ := R.seen h0 g1 g2 g3 hc hD Rr hn mm
            have mv : Mv (Av ((c.hide b (.lst us) hc.1).plus a) (restR (ρ.set i none) ρ2 vs) σ) H' (Av (c.plus a) ((restR (ρ.set i none) ρ2 vs).set i (some (.l false ds))) σ) H' := fun x o e n => ⟨e, fun z => n ((av x).mp z)⟩
            have nab : a ≠ b := fun z => by subst z; rw [g2] at hD; cases hD
            refine q a ws H' R2 ha (ra.mv mv) (fun z => ?_) ?_ (fun _ => hD) (((hide_mv h0 g1).trans mm).trans (mv.trans mv_unplus))
            · have z' := (av a).mp (z.elim (fun y => .inl (.inl y)) .inr)
              rcases z with z | ⟨j, p, es, w1, w2⟩
              · exact na (.inl (.inl z))
              · rw [get_set (lt_of_get hn)] at w1
                by_cases e : i = j
                · subst e; rw [g1] at w2; cases w2; exact nab rfl
                · rw [if_neg e] at w1; exact na (.inr ⟨j, p, es, w1, w2⟩)
            · have h00' : upd c.H0 b (.lst us) a = none := h00
              rw [upd_ne nab] at h00'
              exact h00'
        · cases e
      · cases e
    · cases e
  · cases e
theorem en_compO {i : Nat} {elt tgt iter : Expr} {ifs : List Expr} {scope : Scope} {own : List (Str × Nat)} {G : GF} {is : List Nat} (hc : X.calm = true) (hN : X.N.Nodup) (hv : PE X iter (tVar i)) (ok : BlkOk X.N X.env.scope scope own)
    (hg : ∀ (s : Shared) (H : Hp) (C : Addr) (cl : List (Str × Addr)) (fp : List Addr), PG (X.blk s H scope (compEnvC scope cl C X.env) fp) tgt (tG X.K G is)) (ht : ∀ (s : Shared) (H : Hp) (C : Addr) (cl : List (Str × Addr)) (fp : List Addr), PTs (X.blk s H scope (compEnvC scope cl C X.env) fp) ifs (tT X.K tf))
    (he : ∀ (s : Shared) (H : Hp) (C : Addr) (cl : List (Str × Addr)) (fp : List Addr), PE (X.blk s H scope (compEnvC scope cl C X.env) fp) elt (tE X.K f)) (his : ∀ j ∈ is, j ∈ own.map (·.2) := by decide) (hs : ∀ x, foldedSetIterable iter X.env x = pure x := by intro _; rfl) :
    PE X (.ListComp elt [⟨tgt, iter, ifs, 0⟩] scope pos) (tN X.K (nCompO i G tf f (own.map (·.2)))) := pe_of (pe_lc hc hN (pi_list hv) ok hg ht he hs) (rd_compO his)
end
end PG
end
section
set_option Elab.async false
set_option linter.all false
set_option maxRecDepth 100000
namespace PG
open PySem PySem.Spec PyProof.Rows L2
/-! ### sorted(set(xs)), up to some thousands -/
section
variable {P : Program} {w : World} {A : Around} {E : Value → Shared → Prop} {s : Shared} {a : Addr}
theorem sorted_setA {S : Int → Bool} {n : Nat} {Q : Value → Shared → Prop} (R : SetR w s.heap a S n) (hh : A.handled = none) (h64 : n < 4096)
    (hQ : ∀ s' p (out : Array Value) (c : Nat) (ns : List Int), (∀ b o, s.heap.get? b = some o → s'.heap.get? b = some o) → s'.gens = s.gens → s'.os = s.os → s.heap.objs.size ≤ p →
      s'.heap.get? p = some (seqObj "list" out c) → IntsAre out.toList ns → ns.Pairwise (· < ·) → (∀ k, k ∈ ns ↔ S k = true) → ns.length = n → Q (.ref p) s') :
    wpAny (model P w) A (call (.builtin "sorted") [.ref a]) Q E s := by
  obtain ⟨o, es, ep, t, ho, hex, hd, g, nd, hm, hb, hf, hn, hr, hl⟩ := R
  refine Calls.call_function_entry kind_sorted plain_sorted entry_sorted (args_sorted1 _) ?_
  unfold Builtin.«sorted»
  refine wpAny_bind (m := checkCount "sorted" 1 1 _) (wpAny_pure ?_)
  refine wpAny_bind (collect_set (A := A.in1) hh ⟨o, ho, hex.1, hd⟩ hf hb hr hl fun s1 vs k1 hz g1 o1 pm => ?_)
  have hvl : vs.length = n := by rw [pm.length_eq, List.length_map, Array.length_toList]; exact hn
  have hI : IntsAre vs (vs.map Builtin.Re.reRawOf) := ints_of vs fun v hv => by
    obtain ⟨e, he, q⟩ := List.mem_map.mp (pm.mem_iff.mp hv)
    obtain ⟨k, tk, h1, _⟩ := g e he
    exact ⟨k, tk, by rw [← q]; exact h1⟩
  have pk : (vs.map Builtin.Re.reRawOf).Perm (es.toList.map L2.keyOf) := by
    have q := pm.map Builtin.Re.reRawOf
    rw [List.map_map] at q
    exact q
  have hsl : vs.length ≤ sizeLine := by rw [hvl, sizeLine_eq]; omega
  refine wpAny_bind (wpAny_newList ?_ hsl)
  have hoL : (s1.heap.push (seqObj "list" vs.toArray 0)).get? s1.heap.objs.size = some (seqObj "list" vs.toArray 0) := Heap.get?_push_size _ rfl
  refine wpAny_bind (wpAny_holding (wpAny_call_entry slot_list_sort ⟨_, hoL, rfl⟩ entry_list_sort (SrtO.list_sort_ord SrtO.swo_int hoL hsl (fun h2 => SrtO.ints_sortable hI h2) fun outl h1 h2 => ⟨_, rfl, ?_⟩) (args_list_sort _)))
  obtain ⟨ns', a1, a2, a3⟩ := SrtR.ints_outR (b := false) hI h1 h2
  obtain ⟨c, hc⟩ := sortedHeap_at (vs := vs) (out := outl.toArray) hoL
  have pn : ns'.Perm (es.toList.map L2.keyOf) := a2.trans pk
  have a1' : IntsAre outl.toArray.toList ns' := a1
  have a3' : ns'.Pairwise (· ≤ ·) := a3
  refine wpAny_pure ⟨_, rfl, hQ _ s1.heap.objs.size outl.toArray c ns' (fun b u e => ?_) g1 o1 hz hc a1' (lt_of_le_nodup ns' a3' (pn.nodup_iff.mpr nd)) (fun k => by rw [pn.mem_iff, ← hm k]) ?_⟩
  · have q := k1 b u e
    have hlt := Heap.lt_size q
    show (sortedHeap (s1.heap.push (seqObj "list" vs.toArray 0)) s1.heap.objs.size vs outl.toArray).get? b = some u
    rw [sortedHeap_old (Nat.ne_of_lt hlt) (by rw [size_push']; exact Nat.lt_succ_of_lt hlt)]
    exact Heap.get?_push_of_some _ q
  · rw [pn.length_eq, List.length_map, Array.length_toList]; exact hn
end
section
variable {X : Cx} {e a b : Expr} {pos : Pos} {f g h : EF} {tf tg : TF} {n m : NF} {es : List Expr}
def rSortedSetA (w : World) : List V → Hp → VK → Prop := fun vs H Q => ∃ (a : Addr) (S : Int → Bool) (n : Nat), vs = [V.ref a] ∧ H a = some (SetO w a S n) ∧ n < 4096 ∧
  ∀ (ns : List Int) (p : Addr), ns.Pairwise (· < ·) → (∀ k : Int, k ∈ ns ↔ S k = true) → ns.length = n → H p = none → Q (.ref p) (upd H p (.lst (ns.map V.int)))
theorem cr_sortedSetA (hc : X.calm = true) : CallR X (.builtin "sorted") (rSortedSetA X.w) := by
  intro pins s σ H vs us Q I r h
  obtain ⟨a, S, n, rfl, ha, h64, q⟩ := h
  have R := setO_get I ha
  rw [Vals.ref1 r]
  refine sorted_setA R (I.ok.hd hc) h64 fun s' p out c ns k g o hp hg hi hs hm hl => ?_
  have hlen : (ns.map V.int).length ≤ sizeLine := by rw [List.length_map, hl, sizeLine_eq]; omega
  have hn : H p = none := I.hok.fresh hp
  have J : Inv X pins σ (upd H p (.lst (ns.map V.int))) { s with heap := s'.heap, gens := s'.gens, drawn := s'.drawn, toks := s'.toks } :=
    I.call (ch := []) (Un.laid k hp hn) (I.hok.laid k hp ⟨hlen, out.toList, c, vals_of_ints hi, hg⟩) (by rw [g]; exact I.bare) (fun _ z => nomatch z)
  have e : s' = { s with heap := s'.heap, gens := s'.gens, drawn := s'.drawn, toks := s'.toks } := by
    cases s'
    cases s
    cases o
    rfl
  rw [e]
  exact ⟨.ref p, _, J, rfl, q ns p hs hm hl hn⟩
def rSetLIA (K : PySem.W.Frag) (w : World) : List V → Hp → VK → Prop := fun xs H Q => ∃ (l : Addr) (ns : List Int), xs = [.ref l] ∧ SqL K H l (ns.map V.int) ∧ ns.length < 4000 ∧
  ∀ p c, c ≤ ns.length → H p = none → Q (.ref p) (upd H p (SetO w p (fun j => decide (j ∈ ns)) c))
theorem cr_setLIA (hc : X.calm = true) : CallR X (.type "set") (rSetLIA X.K X.w) := by
  intro pins s σ H xs us Q I r hq
  obtain ⟨l, ns, rfl, hl, hn, q⟩ := hq
  obtain ⟨u, rfl, ru⟩ := vals1 r
  cases ru
  obtain ⟨its, rv, pl, hz⟩ := I.list hl
  refine setOfList ns (I.ok.hd hc) pl.isList (by simpa using intsAre_of rv) (by unfold scanBound; omega) fun h' tk c R1 hc' k => ?_
  have hf : H s.heap.objs.size = none := I.hok.fresh (Nat.le_refl _)
  exact ⟨.ref _, _, I.laid (t' := tk) k (Nat.le_refl _) (setO_new R1), rfl, q _ c hc' hf⟩
/-- sorted(set(xs)): fewer than 4000 items -/
def dSortSetA : PyData → Option (List PyData)
  | .list ds => (match intsOf ds with
    | some ns => if ns.length < 4000 then some ((sortI ns).map PyData.int) else none
    | none => none)
  | _ => none
theorem en_sortSetA {p1 p2 q1 : Pos} (hc : X.calm = true) (hg : Gl X "sorted") (hm : X.mg "sorted" = none) (hg2 : Gl X "set") (hm2 : X.mg "set" = none) (ha : PE X a (tE X.K f))
    (na : starEach [a] X.env = (false, eval a X.env) :: starEach [] X.env := by rfl) (ns1 : starEach [.Call (.Name "set" p2) [a] [] q1] X.env = (false, eval (.Call (.Name "set" p2) [a] [] q1) X.env) :: starEach [] X.env := by rfl) :
    PE X (.Call (.Name "sorted" p1) [.Call (.Name "set" p2) [a] [] q1] [] pos) (tN X.K (nCall (n1of dSortSetA) (nCons f nNil))) :=
  pe_of (pe_callB (cr_sortedSetA hc) hg hm (by decide +kernel) (pa_cons (pe_callTy (cr_setLIA hc) hg2 hm2 PyProof.Rows.boot_set (pa_cons ha pa_nil na) (he := na)) pa_nil ns1) (he := ns1)) fun σ H Q ⟨c, ρ, d, ρ', R, e, q⟩ => by
    unfold nCall at e
    split at e
    · rename_i xs ρ1 h1
      split at e
      · rename_i z h2
        obtain ⟨e1, e2⟩ := so e
        subst e1 e2
        obtain ⟨x, ρ2, xs', w1, w2, rfl⟩ := ncons_inv h1
        cases w2
        obtain ⟨y, hy, h3⟩ := n1_inv h2
        cases hy
        unfold dSortSetA at h3
        split at h3
        · rename_i ds
          split at h3
          · rename_i ns hns
            split at h3
            · rename_i hlen
              cases h3
              refine ⟨c, ρ, _, ρ1, R, w1, fun v H1 R1 r1 m1 => ?_⟩
              cases r1 with
              | @lst p xs _ l al =>
                have hds := intsOf_map hns
                subst hds
                have hxs := al.ints
                subst hxs
                refine ⟨p, ns, rfl, l.sq, hlen, fun p2 cc hcc hp2 => ?_⟩
                refine ⟨p2, _, cc, rfl, upd_same, by omega, fun ms p3 o1 o2 o3 hp3 => ?_⟩
                have hms : ms = sortI ns := pw_eq o1 (pw_sortI ns) fun k => by rw [o2, mem_sortI]; simp
                subst hms
                have g1 : ∀ a o, H1 a = some o → upd (upd H1 p2 (SetO X.w p2 (fun j => decide (j ∈ ns)) cc)) p3 (.lst ((sortI ns).map V.int)) a = some o := fun b o eb => kp_upd hp3 b o (kp_upd hp2 b o eb)
                have n3 : H1 p3 = none := by
                  cases e3 : H1 p3 with
                  | none => rfl
                  | some o =>
                    have := kp_upd (o := SetO X.w p2 (fun j => decide (j ∈ ns)) cc) hp2 p3 o e3
                    rw [this] at hp3
                    cases hp3
                refine q p3 _ _ (R1.plus n3 g1 (by rw [upd_same]; exact fun z => nomatch z)) upd_same (RpA.ofInts _) (R1.noAv n3) (R1.fresh0 n3) (avOf (K := X.K) m1 n3) (m1.trans (R1.mvG g1))
            · cases h3
          · cases h3
        · cases h3
      · cases e
    · cases e
end
end PG
end
section
set_option Elab.async false
set_option linter.all false
set_option maxRecDepth 100000
set_option maxHeartbeats 1000000
namespace PG
open PySem PySem.Spec PyProof.Rows L2 GenW GxR
/-! ### a generator expression that is handed to all, any, sum, tuple at once -/
/-- the frame of a generator expression, B around it -/
abbrev gblk (X : Cx) (s : Shared) (H : Hp) (ce : Env) (fp : List Addr) (B : Around) (pn : List (Addr × Obj)) : Cx :=
  { X with s_0 := s, H_0 := H, A := B, env := ce, outer := X.stack, stack := ce :: X.stack, ex := fp, fn := fun _ => false, pn := pn, xe := fun _ _ => False }
/-- its names -/
structure GNames (N : List Str) (sc scope : Scope) (own : List (Str × Nat)) : Prop where
  blk : BlkOk N sc scope own
  nocell : ∀ y ∈ scope.names, y.2 ≠ .cell
  dot : scope.names.lookup (".0" : Str) = some NameKind.local
  co : scope.isCoroutine = false
section
variable {X : Cx} {pins : List (Addr × Obj)} {σ : L2.St} {H : Hp} {s s' : Shared}
theorem clo_look {X : Cx} {N : List Str} {scope : Scope} {own : List (Str × Nat)} (ok : GNames N X.env.scope scope own) (hf : ∀ y ∈ scope.names, y.2 = .free → ∃ c, X.env.cells.lookup y.1 = some c) {y : Str} {c : Addr}
    (e : (cloFrom X.env.cells scope.names []).lookup y = some c) : X.env.cells.lookup y = some c ∧ (y, NameKind.free) ∈ scope.names := by
  rcases cloFrom_mem (PySem.mem_of_lookup e) with z | ⟨z1, z2⟩
  · exact nomatch z
  · obtain ⟨c', e'⟩ := hf _ z1 rfl
    rw [e'] at z2
    have z3 : c = c' := z2
    rw [z3]
    exact ⟨e', z1⟩
theorem clo_has {X : Cx} {N : List Str} {scope : Scope} {own : List (Str × Nat)} (ok : GNames N X.env.scope scope own) (hf : ∀ y ∈ scope.names, y.2 = .free → ∃ c, X.env.cells.lookup y.1 = some c) {y : Str}
    (e : (y, NameKind.free) ∈ scope.names) : ∃ c, (cloFrom X.env.cells scope.names []).lookup y = some c ∧ X.env.cells.lookup y = some c := by
  obtain ⟨c, h⟩ := mem_lookup (cloFrom_has (cells := X.env.cells) (acc := []) e)
  exact ⟨c, h, (clo_look ok hf h).1⟩
/-- the frame stands -/
theorem ginv {scope : Scope} {own : List (Str × Nat)} {fp : List Addr} {B : Around} {pn : List (Addr × Obj)} {ce : Env} {m0 : Str → Option Value} (I : Inv X pins σ H s) (ok : GNames X.N X.env.scope scope own) (hN : X.N.Nodup)
    (hfp : ∀ b ∈ fp, FpOk X pins H b ∧ b < s.heap.objs.size) (e1 : ce.scope = scope) (e2 : ce.locals = s.heap.objs.size) (e3 : ce.globals = mainGlobals) (e4 : ce.builtins = builtinsNs) (e5 : ce.cells = cloFrom X.env.cells scope.names [])
    (e6 : ce.frame = some ce.locals) (hB : B.handled = none) (hF : B.frames = some (ce :: X.stack)) (kp : ∀ b o, s.heap.get? b = some o → s'.heap.get? b = some o) (hm : s'.heap.Ns s.heap.objs.size m0) (ho : s'.os = s.os) (hb : AllBare s'.gens)
    (hpn : ∀ p ∈ pn, s'.heap.get? p.1 = some p.2 ∧ s.heap.objs.size < p.1 ∧ ∀ v, p.2.data ≠ .cell v) : Inv (gblk X s H ce fp B pn) [] (wipe σ (own.map (·.2))) H s' := by
  have hfree : ∀ y ∈ scope.names, y.2 = .free → ∃ c, X.env.cells.lookup y.1 = some c := fun y hy e => by
    rcases ok.blk.free y hy e with k | k
    · exact I.ok.has _ (.inl k)
    · exact I.ok.has _ (.inr k)
  have low : ∀ {y c}, ce.cells.lookup y = some c → X.env.cells.lookup y = some c ∧ c < s.heap.objs.size ∧ (y, NameKind.free) ∈ scope.names := fun {y c} e => by
    rw [e5] at e
    obtain ⟨w1, w2⟩ := clo_look ok hfree e
    obtain ⟨v, z⟩ := I.cell _ _ w1
    exact ⟨w1, z.lt, w2⟩
  have young : ∀ {b}, s.heap.objs.size ≤ b → H b = none ∧ b ∉ frs X.stack := fun {b} hb' => by
    refine ⟨I.hok.fresh hb', fun z => ?_⟩
    obtain ⟨_, o, w, _⟩ := I.stack.mem z
    exact absurd (Nat.lt_of_lt_of_le (Heap.lt_size w) hb') (Nat.lt_irrefl _)
  have okG : (gblk X s H ce fp B pn).Ok := {
    mod := I.ok.mod
    kind := by show ce.scope.kind = _; rw [e1]; exact ok.blk.kind
    glob := e3
    blt := e4
    above := by show s.heap.objs.size ≤ ce.locals; rw [e2]; exact Nat.le_refl _
    inj := fun y z c h1 h2 => I.ok.inj y z c (low h1).1 (low h2).1
    has := fun y hy => by
      have hy : scope.names.lookup y = some .cell ∨ scope.names.lookup y = some .free := by
        rw [← e1]; exact hy
      rcases hy with hy | hy
      · exact absurd rfl (ok.nocell _ (PySem.mem_of_lookup hy))
      · obtain ⟨c, w, _⟩ := clo_has ok hfree (PySem.mem_of_lookup hy)
        exact ⟨c, by show ce.cells.lookup y = _; rw [e5]; exact w⟩
    cab := fun y c z => nomatch (show false = true from z)
    hd := fun _ => hB
    frames := hF
    stk := .inr ⟨rfl, e6⟩
    exf := fun b hb' => ⟨by show b ≠ ce.locals; rw [e2]; exact Nat.ne_of_lt (hfp b hb').2, fun y c h z => (hfp b hb').1.2.2.2.2.1 y c (low h).1 z⟩
    bs := I.bs
    bsz := Nat.le_trans I.ok.bsz I.sz
    noex := fun b o e z => by
      rcases (hfp b z).1.2.2.2.1 with w | w
      · exact I.ok.noex b o e w
      · exact absurd (Nat.lt_of_lt_of_le (Heap.lt_size e) (Nat.le_trans I.ok.bsz w)) (Nat.lt_irrefl _)
    exfs := fun b hb' z => by
      rcases List.mem_cons.mp (I.stkSub b z) with w | w
      · exact (hfp b hb').1.2.1 w
      · exact (hfp b hb').1.2.2.1 w
    funs := I.stack
    frf := I.stkFree }
  refine ⟨okG, ho, hb, Un.kept kp, ⟨m0, by show s'.heap.Ns ce.locals m0; rw [e2]; exact hm, fun i y v w1 w2 w3 => ?_⟩, fun y c e => ?_, ?_, fun y c e => ?_, fun p hp => ?_, I.hok.kept kp, by rw [wipe_length]; exact I.len⟩
  · obtain ⟨w2, hni⟩ := wipe_some w2
    have w3 : Vis scope y := by
      have w3' : Vis ce.scope y := w3
      rw [e1] at w3'
      exact w3'
    have notown : ∀ k, scope.names.lookup y = some k → k = .local ∨ k = .cell → False := fun k hk hk2 => by
      rcases ok.blk.own _ (PySem.mem_of_lookup hk) hk2 with z | z
      · obtain ⟨p, hp, py⟩ := List.mem_map.mp z
        have q := ok.blk.ix p hp
        have py' : p.1 = y := py
        rw [py'] at q
        exact hni (List.mem_map.mpr ⟨p, hp, nodup_ix hN q w1⟩)
      · exact z (List.mem_of_getElem? w1)
    have fr : scope.names.lookup y = some .free := by
      rcases w3 with z | z | z
      · exact (notown _ z (.inl rfl)).elim
      · exact (notown _ z (.inr rfl)).elim
      · exact z
    obtain ⟨c, g1, g2⟩ := clo_has ok hfree (PySem.mem_of_lookup fr)
    obtain ⟨m, hn, hl⟩ := I.loc
    have vis : Vis X.env.scope y := by
      rcases ok.blk.free _ (PySem.mem_of_lookup fr) rfl with k | k
      · exact .inr (.inl k)
      · exact .inr (.inr k)
    obtain ⟨u, r, q⟩ := hl i y v w1 w2 vis
    refine ⟨u, r, .inr ⟨.inr (by show ce.scope.names.lookup y = _; rw [e1]; exact fr), c, by show ce.cells.lookup y = _; rw [e5]; exact g1, ?_⟩⟩
    rcases q with ⟨k, _⟩ | ⟨_, c', g3, z⟩
    · have k : X.env.scope.names.lookup y = some .local := k
      rcases ok.blk.free _ (PySem.mem_of_lookup fr) rfl with k2 | k2 <;> (rw [show X.env.scope.names.lookup y = _ from k2] at k; cases k)
    · rw [g2] at g3
      cases g3
      exact z.keeps kp
  · obtain ⟨g1, _⟩ := low (show ce.cells.lookup y = some c from e)
    obtain ⟨v, z⟩ := I.cell y c g1
    exact ⟨v, z.keeps kp⟩
  · show H ce.locals = none
    rw [e2]
    exact I.hok.fresh (Nat.le_refl _)
  · exact I.freeC y c (low (show ce.cells.lookup y = some c from e)).1
  · have hp : p ∈ pn := by simpa using hp
    obtain ⟨q1, q2, q3⟩ := hpn p hp
    refine ⟨q1, (young (Nat.le_of_lt q2)).1, ?_, (young (Nat.le_of_lt q2)).2, q3⟩
    show p.1 ≠ ce.locals
    rw [e2]
    exact Nat.ne_of_gt q2
end
end PG
end
section
set_option Elab.async false
set_option linter.all false
set_option maxRecDepth 100000
set_option maxHeartbeats 1000000
namespace PG
open PySem PySem.Spec PyProof.Rows L2 GenW GxR
/-! ### the run of a generator expression -/
/-- what the consumer does while the generator sleeps -/
structure Woke {κ : Type} (po : κ → List (Addr × Obj)) (Ss : List Addr) (k' : κ) (s s2 : Shared) : Prop where
  os : s2.os = s.os
  bare : AllBare s2.gens
  keep : ∀ b o, b ∉ Ss → s.heap.get? b = some o → s2.heap.get? b = some o
  own : ∀ p ∈ po k', s2.heap.get? p.1 = some p.2
/-- an item is handed out -/
def GYp {κ : Type} (Y : Cx) (σ0 : L2.St) (po : κ → List (Addr × Obj)) (Ss : List Addr) (Got : κ → V → Hp → (κ → Hp → Prop) → Prop) : Protocol := fun _ _ v s kap =>
  ∃ (k : κ) (y : V) (H : Hp) (Nx : κ → Hp → Prop), RelV y v ∧ Inv Y (po k) σ0 H s ∧ Got k y H Nx ∧ ∀ k' s2, Woke po Ss k' s s2 → Nx k' H → kap (.send .none) s2
/-- the generator is through -/
def GRe {κ : Type} (Y : Cx) (σ0 : L2.St) (po : κ → List (Addr × Obj)) (Fin : κ → Hp → Prop) : GenEnd := fun _ _ r s =>
  ((r = .ok (.ret .none) ∨ r = .ok .next) ∧ ∃ k H, Inv Y (po k) σ0 H s ∧ Fin k H) ∨ ∃ e, r = .error e ∧ False
/-- a turn of the generator's loop -/
def GTurn {κ : Type} (J : It) (g : TG) (tt : TT) (te : TE) (vs : List Nat) (σ0 : L2.St) (W : κ → Nat → Nat → Hp → Prop) (Fin : κ → Hp → Prop) (Got : κ → V → Hp → (κ → Hp → Prop) → Prop) : Prop :=
  ∀ k i m H, W k i m H → (J.stop i H ∧ Fin k H) ∨ (J.go i H ∧ 0 < m ∧ ∃ Nx : κ → Hp → Prop, (∀ k' H', Nx k' H' → ∃ m', m' < m ∧ W k' (i + 1) m' H') ∧
    ∀ x H', J.yld i H x H' → g x σ0 H' fun σ2 H2 => wipe σ2 vs = σ0 ∧ tt σ2 H2 fun b H3 => if b = true then te σ2 H3 fun y H4 => Got k y H4 Nx else Nx k H3)
/-- the consumer's objects: none of the generator's -/
structure Aside {κ : Type} (Y : Cx) (fp : List Addr) (po : κ → List (Addr × Obj)) (Ss : List Addr) : Prop where
  all : ∀ k, (po k).map (·.1) = Ss
  nocell : ∀ k, ∀ p ∈ po k, ∀ v, p.2.data ≠ .cell v
  young : ∀ b ∈ Ss, Y.s_0.heap.objs.size ≤ b
  frame : ∀ b ∈ Ss, b ≠ Y.env.locals
  cells : ∀ b ∈ Ss, ∀ x c, Y.env.cells.lookup x = some c → c ≠ b
  its : ∀ b ∈ Ss, b ∉ fp
  pn : ∀ b ∈ Ss, ∀ p ∈ Y.pn, p.1 ≠ b
section
variable {κ : Type} {Y : Cx} {σ0 σ : L2.St} {po : κ → List (Addr × Obj)} {Ss fp : List Addr} {H : Hp} {s s2 : Shared} {k k' : κ}
theorem Aside.mem (a : Aside Y fp po Ss) {b : Addr} (h : b ∈ Ss) (k : κ) : ∃ p ∈ po k, p.1 = b := by
  rw [← a.all k] at h
  obtain ⟨p, hp, e⟩ := List.mem_map.mp h
  exact ⟨p, hp, e⟩
theorem Aside.of (a : Aside Y fp po Ss) {p : Addr × Obj} (h : p ∈ po k) : p.1 ∈ Ss := by
  rw [← a.all k]
  exact List.mem_map.mpr ⟨p, h, rfl⟩
/-- the generator wakes -/
theorem Woke.inv (z : Woke po Ss k' s s2) (a : Aside Y fp po Ss) (I : Inv Y (po k) σ H s) : Inv Y (po k') σ H s2 := by
  have free : ∀ b ∈ Ss, H b = none ∧ b ∉ Y.fs := fun b hb => by
    obtain ⟨p, hp, e⟩ := a.mem hb k
    obtain ⟨_, w1, _, w2, _⟩ := I.pin p (List.mem_append_right _ hp)
    rw [e] at w1 w2
    exact ⟨w1, w2⟩
  have nt : ∀ b u, H b = some u → b ∉ Ss := fun b u e hb => by rw [(free b hb).1] at e; cases e
  have I0 : Inv Y [] σ H s := I.pins_of fun p hp => nomatch hp
  have un : Un (frs Y.stack) Ss H H s.heap s2.heap := {
    keep := fun b o e _ _ hx => z.keep b o hx e
    slot := fun b o e _ _ hx => ⟨o.slots, z.keep b o hx e⟩
    free := fun _ _ _ n _ => n
    there := fun b o e hx => ⟨o, z.keep b o hx e⟩
    tups := fun _ _ e => e
    frzs := fun _ _ _ e => e
    tbls := fun _ _ e => ⟨#[], by rw [e]; simp⟩ }
  have hok : HOk Y.prog Y.w H s2.heap := fun b u e => (I.hok b u e).stay (fun c v hc q => z.keep c v (by
    rcases hc with w | w
    · rw [w]; exact nt b u e
    · exact nt c _ w) q) (fun _ q => q) fun _ _ q => q
  have J : Inv Y [] σ H s2 := I0.call' (ch := Ss) z.os un hok z.bare fun b hb => ⟨.inr (a.young b hb), a.frame b hb, a.cells b hb, fun p hp => a.pn b hb p (by simpa using hp)⟩
  exact J.pins_of fun p hp => ⟨z.own p hp, (free p.1 (a.of hp)).1, a.frame p.1 (a.of hp), (free p.1 (a.of hp)).2, a.nocell k' p hp⟩
end
/-- the loop -/
theorem gen_loop {κ : Type} {Y : Cx} {σ0 : L2.St} {po : κ → List (Addr × Obj)} {Ss fp : List Addr} {B0 : Around} {elt tg iter : Expr} {ifs : List Expr} {scope : Scope} {gpos : Pos} {it : Addr} {tn : Nat → Heap → Prop} {J : It} {g : TG} {tt : TT} {te : TE} {vs : List Nat}
    {W : κ → Nat → Nat → Hp → Prop} {Fin : κ → Hp → Prop} {Got : κ → V → Hp → (κ → Hp → Prop) → Prop} (hov : B0.over (.compLoop (.GeneratorExp elt [⟨tg, iter, ifs, 0⟩] scope gpos) 0 (.ref it) .none Y.env) [] = Y.A) (hc : Y.calm = true) (hco : Y.env.scope.isCoroutine = false)
    (hxe : Y.xe = fun _ _ => False) (T : Turn Y.prog Y.w Y.K tg J fp it tn) (hex : Y.ex = fp) (hwl : wipe σ0 vs = σ0) (pg : PG Y tg g) (pt : PTs Y ifs tt) (pe : PE Y elt te) (turn : GTurn J g tt te vs σ0 W Fin Got) (a : Aside Y fp po Ss) (hpn : ∀ p ∈ Y.pn, p.1 ∉ fp) :
    ∀ (m n : Nat) (k : κ) (i : Nat) (H : Hp) (s₀ s : Shared), m ≤ n → Inv Y (po k) σ0 H s → tn i s.heap → (∀ b ∈ fp, H b = none) → W k i m H →
      Seg (model Y.prog Y.w) B0 (GRe Y σ0 po Fin) (GYp Y σ0 po Ss Got) n s₀ (.compLoop (.GeneratorExp elt [⟨tg, iter, ifs, 0⟩] scope gpos) 0 (.ref it) .none Y.env) ((model Y.prog Y.w).den (.compLoop (.GeneratorExp elt [⟨tg, iter, ifs, 0⟩] scope gpos) 0 (.ref it) .none Y.env)) [] s := by
  intro m
  induction m using Nat.strongRecOn with
  | ind m ih =>
    intro n k i H s₀ s hmn I st nf w
    have ready : ∀ {k : κ} {σ' : L2.St} {H' : Hp} {s' : Shared}, Inv Y (po k) σ' H' s' → (∀ b ∈ fp, H' b = none) → ∀ b ∈ fp, FpOk Y (po k) H' b := fun {k σ' H' s'} I' hn b hb => by
      have hb' : b ∈ Y.ex := by rw [hex]; exact hb
      refine ⟨hn b hb, (I'.ok.exf b hb').1, I'.ok.exfs b hb', .inl hb', (I'.ok.exf b hb').2, fun p hp z => ?_⟩
      rcases List.mem_append.mp hp with q | q
      · exact hpn p q (by rw [z]; exact hb)
      · exact a.its _ (a.of q) (by rw [z]; exact hb)
    show Seg _ B0 _ _ n s₀ _ ((compTurn (.GeneratorExp elt [⟨tg, iter, ifs, 0⟩] scope gpos) 0 (.ref it) .none Y.env).onRaise (leaving Y.env)) [] s
    rw [compTurn_gen]
    rw [Sem.onRaise_eq_wrap]
    refine seg_bind_wrap (wpAny_standAt (seg_bind_wrap ?_))
    rw [hov]
    have fl : ∀ {e : Value} {z : Shared} {Q : Prop}, Y.xe e z → Q := fun {e z Q} h => by rw [hxe] at h; exact h.elim
    rcases turn k i m H w with ⟨stop, fin⟩ | ⟨go, m0, Nx, hNx, step⟩
    · refine thnF (T.done Y rfl rfl rfl hc i (po k) s σ0 H (fun _ _ => False) I (ready I nf) st stop) fun r s1 hr => ?_
      obtain ⟨rfl, I1⟩ := hr
      exact seg_end (.ok .next) (.inl ⟨.inr rfl, k, H, I1, fin⟩)
    · refine thnF (T.item Y rfl rfl rfl hc i (po k) s σ0 H (fun _ _ => False) I (ready I nf) st go) fun r s1 hr => ?_
      obtain ⟨u, rfl, h1⟩ := hr
      refine seg_bind_wrap ?_
      rw [hov]
      refine thnF h1 fun _ s2 h2 => ?_
      obtain ⟨x, H2, I2, rx, y2, st2, n2⟩ := h2
      have I2' := I2.pinned (ready I2 n2) (T.obj _ _ st2)
      refine seg_bind_wrap ?_
      rw [hov]
      refine wpAny_mono (pg.run _ s2 _ H2 x u _ I2' rx (step x H2 y2)) (fun _ s3 h3 => ?_) fun _ _ z => fl z
      obtain ⟨σ3, H3, I3, hw3, q3⟩ := h3
      refine seg_bind_wrap ?_
      rw [hov]
      refine wpAny_mono (pt.run _ s3 σ3 H3 _ I3 q3) (fun b s4 h4 => ?_) fun _ _ z => fl z
      obtain ⟨H4, I4, q4⟩ := h4
      have hl : σ0.length = σ3.length := by rw [← hw3, wipe_length]
      -- the turn is over, its item may be out
      have over : ∀ {z : Shared} {H' : Hp}, Inv Y (po k ++ pinsAt fp s2.heap) σ3 H' z → Inv Y (po k) σ0 H' z ∧ tn (i + 1) z.heap ∧ ∀ b ∈ fp, H' b = none := fun {z H'} I' => by
        have at_ : ∀ b ∈ fp, ∀ o, s2.heap.get? b = some o → z.heap.get? b = some o ∧ H' b = none := fun b hb o e => by
          obtain ⟨w1, w2, _⟩ := I'.pin (b, o) (List.mem_append_right _ (List.mem_append_right _ (mem_pinsAt hb e)))
          exact ⟨w1, w2⟩
        refine ⟨I'.unpinned.weak hl fun j v e => ?_, T.keep _ _ _ st2 fun b hb o e => (at_ b hb o e).1, fun b hb => ?_⟩
        · rw [← hw3] at e
          exact (wipe_some e).1
        · obtain ⟨o, e, _⟩ := T.obj _ _ st2 b hb
          exact (at_ b hb o e).2
      cases b with
      | false =>
        simp only [Bool.false_eq_true, if_false] at q4 ⊢
        obtain ⟨m', hm, w'⟩ := hNx k H4 q4
        obtain ⟨I5, st5, n5⟩ := over I4
        exact seg_again rfl (ih m' hm n k (i + 1) H4 s₀ s4 (by omega) I5 st5 n5 w')
      | true =>
        simp only [if_true] at q4 ⊢
        have yo : ∀ v, yieldOut Y.env v = yieldValue v := fun v => by simp only [yieldOut, hco, Bool.false_eq_true, if_false]
        simp only [yo]
        rw [Sem.bind_eq_wrap', Sem.bind_eq_wrap', Sem.wrap_wrap, Sem.wrap_wrap]
        refine seg_wrap ?_
        rw [hov]
        refine wpAny_mono (pe.run _ s4 σ3 H4 _ I4 q4) (fun v s5 h5 => ?_) fun _ _ z => fl z
        obtain ⟨y, H5, I5, ry, got⟩ := h5
        obtain ⟨I6, st6, n6⟩ := over I5
        obtain ⟨n', rfl⟩ : ∃ n', n = n' + 1 := ⟨n - 1, by omega⟩
        refine seg_at (seg_yield rfl rfl rfl ⟨k, y, H5, Nx, ry, I6, got, fun k' s7 wk nx => ?_⟩)
        obtain ⟨m', hm, w'⟩ := hNx k' H5 nx
        refine seg_again rfl (ih m' hm n' k' (i + 1) H5 s7 s7 (by omega) (wk.inv a I6) (T.keep _ _ _ st6 fun b hb o e => wk.keep b o (fun z => a.its b z hb) e) n6 w')
end PG
end
section
set_option Elab.async false
set_option linter.all false
set_option maxRecDepth 100000
set_option maxHeartbeats 1000000
namespace PG
open PySem PySem.Spec PyProof.Rows L2 GenW GxR
/-! ### a generator expression is made -/
section
variable {X : Cx} {pins : List (Addr × Obj)} {σ : L2.St} {H : Hp} {s : Shared}
theorem tblP_ok {P : Program} {w : World} {h : Heap} {p : Addr} (t : tblP p h) : ObjOk P w H h p (tblO p) := by
  refine ⟨t, ?_, fun h1 h2 q k => ?_⟩
  · obtain ⟨ps, e, _⟩ := t
    exact ⟨_, e⟩
  · obtain ⟨ps, e, tr⟩ := q
    exact ⟨ps, k _ e, tr⟩
/-- the table has grown -/
theorem inv_tbl {p : Addr} {h' : Heap} {g' : Array GenState} {d' : Drawn} {t' : Nat} (I : Inv X pins σ H s) (hp : H p = some (tblO p)) (k : ∀ b o, b ≠ p → s.heap.get? b = some o → h'.get? b = some o) (t : tblP p h') (hg : AllBare g') :
    Inv X pins σ H { s with heap := h', gens := g', drawn := d', toks := t' } := by
  have np : ∀ b, H b = none → b ≠ p := fun b e z => by subst z; rw [hp] at e; cases e
  refine I.step (g' := g') (d' := d') (ch := []) (fun b hb => nomatch hb) (fun b o _ _ _ e n => k b o (np b n) e) (fun b o _ _ _ e n => ⟨o.slots, k b o (np b n) e⟩) (fun _ _ _ _ n => n) (fun b o _ e => ?_) (fun _ _ e => e) (fun _ _ _ e => e) (fun _ _ e => ⟨#[], by rw [e]; simp⟩) (fun m hm => ?_) (fun b u e => ?_) hg
  · by_cases z : b = p
    · subst z
      obtain ⟨ps, w, _⟩ := t
      exact ⟨_, w⟩
    · exact ⟨o, k b o z e⟩
  · obtain ⟨ob, es, ep, w, r⟩ := hm
    exact ⟨ob, es, ep, k _ ob (np _ I.free) w, r⟩
  · by_cases z : b = p
    · subst z
      rw [hp] at e
      cases e
      exact tblP_ok t
    · refine (I.hok b u e).stay (fun c v hc q => k c v (fun y => ?_) q) (fun _ q => q) fun _ _ q => q
      rcases hc with w | w
      · exact z (w.symm.trans y)
      · rw [y, hp] at w
        cases w
theorem inv_setGen {g : Nat} {x : GenState} (I : Inv X pins σ H s) (hx : x.bare = true) : Inv X pins σ H (s.setGen g x) :=
  I.call' (s' := s.setGen g x) (ch := []) rfl Un.refl I.hok (allBare_setGen I.bare hx) fun b hb => nomatch hb
end
/-- the code object and the table of the def that runs -/
structure Tbd (X : Cx) (c p : Addr) : Prop where
  code : X.env.code = .ref c
  tab : TabB X.base X.mg c p
/-- the generator has been made, it has not begun -/
structure GMde (X : Cx) (pins : List (Addr × Obj)) (σ : L2.St) (own : List (Str × Nat)) (ge : Expr) (ce : Env) (it : Addr) (fp : List Addr) (tn : Nat → Heap → Prop) (H : Hp) (s4 : Shared) (a : Addr) (ob : Obj) (g : Nat) (s : Shared) : Prop where
  before : Inv X pins σ H s4
  inv : ∀ B : Around, B.handled = none → B.frames = some (ce :: X.stack) → Inv (gblk X s4 H ce fp B [(a, ob)]) [] (wipe σ (own.map (·.2))) H s
  gen : ∀ h : Heap, h.get? a = some ob → h.IsGen a g
  at_ : s.heap.get? a = some ob
  fresh : s.gens[g]? = some (.fresh (.compStart ge 0 (.ref it) .none ce))
  tn : tn 0 s.heap
  nf : ∀ b ∈ fp, H b = none
  fpk : ∀ b ∈ fp, FpOk X pins H b ∧ b < s4.heap.objs.size
  low : s4.heap.objs.size < a
theorem gen_made {X : Cx} {pins : List (Addr × Obj)} {σ : L2.St} {H : Hp} {s : Shared} {elt tg iter : Expr} {ifs : List Expr} {scope : Scope} {gpos : Pos} {own : List (Str × Nat)} {c p : Addr} {wi : TI} {R : It → Hp → Prop} {Q' : Value → Shared → Prop}
    (hc : X.calm = true) (hN : X.N.Nodup) (hd : X.A.depth < recursionLimit) (tb : Tbd X c p) (I : Inv X pins σ H s) (hi : PI X tg iter wi) (ok : GNames X.N X.env.scope scope own) (hs : ∀ x, genFold iter X.env x = pure x) (h : wi σ H fun J H1 => H1 p = some (tblO p) ∧ R J H1)
    (hQ : ∀ (code : Value) (C it a : Addr) (g : Nat) (fp : List Addr) (tn : Nat → Heap → Prop) (J : It) (H1 : Hp) (s4 s5 : Shared) (ob : Obj), R J H1 → Turn X.prog X.w X.K tg J fp it tn →
      GMde X pins σ own (.GeneratorExp elt [⟨tg, iter, ifs, 0⟩] scope gpos) (genEnv scope (cloFrom X.env.cells scope.names []) C code builtinsNs X.env) it fp tn H1 s4 a ob g s5 → Q' (.ref a) s5) :
    wpAny (model X.prog X.w) X.A (eval (.GeneratorExp elt [⟨tg, iter, ifs, 0⟩] scope gpos) X.env) Q' X.xe s := by
  have hfree : ∀ y ∈ scope.names, y.2 = .free → ∃ c, X.env.cells.lookup y.1 = some c := fun y hy e => by
    rcases ok.blk.free y hy e with k | k
    · exact I.ok.has _ (.inl k)
    · exact I.ok.has _ (.inr k)
  refine wpAny_GeneratorExp_make ok.co (closure_ok hfree) ok.nocell ok.dot ok.blk.kind hd (thn (hi.run pins s σ H _ I h) fun xv s1 hx => thn hx fun itv s2 h2 => ?_) hs
  obtain ⟨it, fp, tn, J, H2, rfl, I2, T, st2, f2, hP, r2⟩ := h2
  refine ⟨I2.nolimit, ?_⟩
  obtain ⟨ps, eP, tr⟩ : tblP p s2.heap := by
    have := I2.hok p _ hP
    exact this.1
  have sz : ∀ b ∈ fp, b < s2.heap.objs.size := fun b hb => by
    obtain ⟨o, e, _⟩ := T.obj _ _ st2 b hb
    exact Heap.lt_size e
  have np : ∀ b ∈ fp, b ≠ p := fun b hb z => by
    have := (f2 b hb).1
    rw [z, hP] at this
    cases this
  have cd : PySem.W.CodeHd s2.heap c p := tb.tab.code.keeps I2.bk
  -- behind the code
  have rest : ∀ (code : Value) (h3 : Heap) (tk : Nat), (∀ b o, b ≠ p → s2.heap.get? b = some o → h3.get? b = some o) → tblP p h3 → wpAny (model X.prog X.w) X.A (builtinsFor X.env.globals X.env.builtins) (fun bi s₄ =>
        ∀ h', h'.Ns s₄.heap.objs.size (fun y => if y = ".0" then some (.ref it) else none) → Heap.SameBut s₄.heap.objs.size (s₄.heap.push { cls := .type "frame", data := .dict #[] }) h' →
          Q' (.ref h'.objs.size) { s₄ with
            gens := s₄.gens.push (.fresh (.compStart (.GeneratorExp elt [⟨tg, iter, ifs, 0⟩] scope gpos) 0 (.ref it) .none (genEnv scope (cloFrom X.env.cells scope.names []) s₄.heap.objs.size code bi X.env))),
            toks := s₄.toks + 1 + 1 + 1,
            heap := h'.push { cls := .type "generator", data := .fields #[.int s₄.gens.size 0, .str "<genexpr>" (s₄.toks + 1), .str (X.env.qual ++ "<genexpr>") (s₄.toks + 1 + 1)] } }) X.xe { s2 with heap := h3, toks := tk } := by
    intro code h3 tk kb tp
    have I3 : Inv X pins σ H2 { s2 with heap := h3, toks := tk } := inv_tbl (g' := s2.gens) (d' := s2.drawn) I2 hP kb tp I2.bare
    obtain ⟨bm, ob, b1, b2, b3, b4, b5, b6, b7, b8⟩ := tb.tab.bm
    refine wpAny_builtinsFor (m := X.mg) (by rw [I.ok.glob]; exact I3.ok.mod.glob.keeps I3.bk) b1 b2 (I3.bk _ _ b5) b6 b7 b8 fun h' hn hs' => ?_
    have szh : h'.objs.size = h3.objs.size + 1 := by
      have := hs'.1
      rw [this]
      exact Heap.size_push ..
    have k1 : ∀ b o, h3.get? b = some o → h'.get? b = some o := fun b o e => hs'.extBut b o (Nat.ne_of_lt (Heap.lt_size e)) (Heap.get?_push_of_some _ e)
    generalize hob : ({ cls := .type "generator", data := .fields #[.int s2.gens.size 0, .str "<genexpr>" (tk + 1), .str (X.env.qual ++ "<genexpr>") (tk + 1 + 1)] } : Obj) = gob
    have k2 : ∀ b o, h3.get? b = some o → (h'.push gob).get? b = some o := fun b o e => Heap.get?_push_of_some _ (k1 b o e)
    have gat : (h'.push gob).get? h'.objs.size = some gob := by rw [← hob]; exact Heap.get?_push_size _ rfl
    have gis : ∀ h : Heap, h.get? h'.objs.size = some gob → h.IsGen h'.objs.size s2.gens.size := fun h e => ⟨gob, _, _, e, by rw [← hob], by rw [← hob], by rw [← hob]⟩
    have it3 : ∀ b ∈ fp, ∀ o, s2.heap.get? b = some o → (h'.push gob).get? b = some o := fun b hb o e => k2 b o (kb b o (np b hb) e)
    have fpk : ∀ b ∈ fp, FpOk X pins H2 b ∧ b < h3.objs.size := fun b hb => ⟨f2 b hb, by
      obtain ⟨o, e, _⟩ := T.obj _ _ st2 b hb
      exact Heap.lt_size (kb b o (np b hb) e)⟩
    have main := hQ code h3.objs.size it h'.objs.size s2.gens.size fp tn J H2 { s2 with heap := h3, toks := tk }
      { s2 with gens := s2.gens.push (.fresh (.compStart (.GeneratorExp elt [⟨tg, iter, ifs, 0⟩] scope gpos) 0 (.ref it) .none (genEnv scope (cloFrom X.env.cells scope.names []) h3.objs.size code builtinsNs X.env))), toks := tk + 1 + 1 + 1, heap := h'.push gob } gob r2 T
    refine main ⟨I3, fun B hB hF => ?_, gis, gat, Array.getElem?_push_size .., T.keep _ _ _ st2 it3, fun b hb => (f2 b hb).1, fpk, by show h3.objs.size < h'.objs.size; omega⟩
    refine ginv I3 ok hN fpk rfl rfl I.ok.glob rfl rfl rfl hB hF k2 (hn.push gob) rfl (AllBare.push I2.bare rfl) fun q hq => ?_
    obtain rfl : q = (h'.objs.size, gob) := by simpa using hq
    exact ⟨gat, by show h3.objs.size < h'.objs.size; omega, fun v z => by rw [← hob] at z; cases z⟩
  cases hf : codeAmong gpos ps.toList with
  | none =>
    refine wpAny_genexprCodeX tb.code (cd.code eP tr) (cd.tab eP) hf fun c' h' tk hx _ _ hco' _ ht' _ => ?_
    obtain ⟨_, _, _, _, _, _, _, _, _, _, _, _, _, _, _, _, _, _, _, htr, _⟩ := hco'
    exact rest _ h' tk hx ⟨_, ht'.2, htr⟩
  | some cv =>
    refine wpAny_genexprCode_hit tb.code (cd.code eP tr) hf ?_
    exact rest cv s2.heap s2.toks (fun _ _ _ e => e) ⟨ps, eP, tr⟩
end PG
end
section
set_option Elab.async false
set_option linter.all false
set_option maxRecDepth 100000
set_option maxHeartbeats 1000000
namespace PG
open PySem PySem.Spec PyProof.Rows L2 GenW GxR
/-! ### all, any of a generator expression -/
theorem gen_start {P : Program} {w : World} {K : PySem.W.Frag} {B0 : Around} {R : GenEnd} {Yp : Protocol} {n : Nat} {s₀ s : Shared} {elt tg iter : Expr} {ifs : List Expr} {scope : Scope} {gpos : Pos} {it : Addr} {ce : Env} {fp : List Addr} {tn : Nat → Heap → Prop} {J : It} (T : Turn P w K tg J fp it tn) (st : tn 0 s.heap)
    (loop : Seg (model P w) B0 R Yp n s₀ (.compLoop (.GeneratorExp elt [⟨tg, iter, ifs, 0⟩] scope gpos) 0 (.ref it) .none ce) ((model P w).den (.compLoop (.GeneratorExp elt [⟨tg, iter, ifs, 0⟩] scope gpos) 0 (.ref it) .none ce)) [] s) :
    Seg (model P w) B0 R Yp n s₀ (.compStart (.GeneratorExp elt [⟨tg, iter, ifs, 0⟩] scope gpos) 0 (.ref it) .none ce) ((model P w).den (.compStart (.GeneratorExp elt [⟨tg, iter, ifs, 0⟩] scope gpos) 0 (.ref it) .none ce)) [] s := by
  show Seg _ B0 _ _ n s₀ _ ((compStart (.GeneratorExp elt [⟨tg, iter, ifs, 0⟩] scope gpos) 0 (.ref it) .none ce).onRaise (leaving ce)) [] s
  unfold compStart
  rw [Sem.onRaise_eq_wrap]
  show Seg _ B0 _ _ n s₀ _ ((ask >>= _).wrap _ _ _ _) [] s
  refine seg_bind_wrap (wpAny_askSetting ?_)
  split
  · exact seg_again rfl loop
  · refine seg_bind_wrap (wpAny_rule ?_)
    show Seg _ B0 _ _ n s₀ _ ((standAt iter.pos >>= _).wrap _ _ _ _) [] s
    refine seg_bind_wrap (wpAny_standAt (seg_bind_wrap ?_))
    exact T.self _ 0 s _ _ st (seg_again rfl loop)
/-- the generator waits to be asked -/
structure Waits {κ : Type} (P : Program) (w : World) (B0 : Around) (Y : Cx) (σ0 : L2.St) (po : κ → List (Addr × Obj)) (Ss : List Addr) (Fin : κ → Hp → Prop) (Got : κ → V → Hp → (κ → Hp → Prop) → Prop) (a : Addr) (g n : Nat) (s : Shared) : Prop where
  gen : s.heap.IsGen a g
  nolimit : s.heap.NoLimit
  goes : ∃ gs, s.gens[g]? = some gs ∧ gs.Goes (model P w) B0 (GRe Y σ0 po Fin) (GYp Y σ0 po Ss Got) n (.send .none) (s.setGen g .running)
theorem waits_next {κ : Type} {Y : Cx} {σ0 : L2.St} {po : κ → List (Addr × Obj)} {Ss : List Addr} {Fin : κ → Hp → Prop} {Got : κ → V → Hp → (κ → Hp → Prop) → Prop} {a : Addr} {g n : Nat} {s : Shared} {A : Around} {ob : Obj} {E : Value → Shared → Prop} {Q : Option Value → Shared → Prop}
    (hh : A.handled = none) (hd : A.depth < recursionLimit) (hpn : Y.pn = [(a, ob)]) (hg : ∀ h : Heap, h.get? a = some ob → h.IsGen a g) {fp : List Addr} (as : Aside Y fp po Ss) (hSs : a ∉ Ss) (w : Waits Y.prog Y.w A.in1 Y σ0 po Ss Fin Got a g n s)
    (hend : ∀ k H s1, Inv Y (po k) σ0 H s1 → Fin k H → Q none s1)
    (hitem : ∀ k y v H (Nx : κ → Hp → Prop) s1, RelV y v → Inv Y (po k) σ0 H s1 → Got k y H Nx → (∀ k' s2, Woke po Ss k' s1 s2 → s1.gens.size ≤ s2.gens.size → s2.gens[g]? = s1.gens[g]? → Nx k' H → ∃ m, m < n ∧ Waits Y.prog Y.w A.in1 Y σ0 po Ss Fin Got a g m s2) → Q (some v) s1) :
    wpAny (model Y.prog Y.w) A (pyNext (.ref a)) Q E s := by
  obtain ⟨w1, w2, gs, w3, w4⟩ := w
  have lt : g + 1 ≤ s.gens.size := (Array.getElem?_eq_some_iff.mp w3).1
  refine wpAny_gsz lt (next_genG (F := fun _ _ s1 => ∃ k H, Inv Y (po k) σ0 H s1 ∧ Fin k H) (Er := fun _ _ => False) hh w2 hd w1 w3 w4 (fun v s1 gs' hb hv => ?_) (fun s1 hp h' hk => ?_) fun e s1 he => he.elim)
  · intro gz
    obtain ⟨k, y, H, Nx, ry, I, got, kap⟩ := hv
    have gl : g < s1.gens.size := by
      have q : (s1.setGen g gs').gens.size = s1.gens.size := setGen_size _ _ _
      have gz' : g + 1 ≤ (s1.setGen g gs').gens.size := gz
      omega
    refine hitem k y v H Nx _ ry (inv_setGen I hb) got fun k' s2 wk hsz hgen nx => ?_
    cases n with
    | zero =>
      refine (kap k' s2 ⟨wk.os, wk.bare, wk.keep, wk.own⟩ nx).elim
    | succ m =>
      have at_ : s2.heap.get? a = some ob := wk.keep a ob hSs (I.pin (a, ob) (by rw [hpn]; simp)).1
      refine ⟨m, Nat.lt_succ_self _, hg _ at_, ?_, gs', ?_, ?_⟩
      · obtain ⟨mc, q1, q2⟩ := I.ok.mod.nolimit
        have bk : ∀ b o, Y.base.get? b = some o → s2.heap.get? b = some o := fun b o e => wk.keep b o (fun z => ?_) (I.bk b o e)
        · exact (I.ok.mod.nolimit).keeps bk
        · exact absurd (Nat.lt_of_lt_of_le (Heap.lt_size e) (Nat.le_trans I.ok.bsz (as.young b z))) (Nat.lt_irrefl _)
      · rw [hgen]
        exact setGen_at gl
      · exact kap k' _ ⟨wk.os, allBare_setGen wk.bare rfl, wk.keep, wk.own⟩ nx
  · intro _
    obtain ⟨k, H, I, fin⟩ := hp
    have J : Inv Y (po k) σ0 H (s1.setGen g .finished) := inv_setGen I rfl
    exact hend k H _ (J.kept (t' := (s1.setGen g .finished).toks) hk) fin
abbrev nopo : Unit → List (Addr × Obj) := fun _ => []
/-- all: at each item that is true, on; at one that is not, over -/
abbrev gotAll (Qf : Hp → Prop) : Unit → V → Hp → (Unit → Hp → Prop) → Prop := fun _ y H Nx => (y = .bl true ∧ Nx () H) ∨ (y = .bl false ∧ Qf H)
abbrev gotAny (Qt : Hp → Prop) : Unit → V → Hp → (Unit → Hp → Prop) → Prop := fun _ y H Nx => (y = .bl false ∧ Nx () H) ∨ (y = .bl true ∧ Qt H)
theorem woke_refl {s : Shared} (h : AllBare s.gens) : Woke nopo [] () s s := ⟨rfl, h, fun _ _ _ e => e, fun _ hp => nomatch hp⟩
theorem aside_none {Y : Cx} {fp : List Addr} : Aside Y fp nopo [] := ⟨fun _ => rfl, (fun _ _ hp => nomatch hp), (fun _ hb => nomatch hb), (fun _ hb => nomatch hb), (fun _ hb => nomatch hb), (fun _ hb => nomatch hb), (fun _ hb => nomatch hb)⟩
section
variable {Y : Cx} {σ0 : L2.St} {Fin : Unit → Hp → Prop} {Qx : Hp → Prop} {a : Addr} {g : Nat} {A : Around} {ob : Obj} {R : Result → Shared → Prop}
theorem all_drain (hh : A.handled = none) (hd : A.depth < recursionLimit) (hpn : Y.pn = [(a, ob)]) (hg : ∀ h : Heap, h.get? a = some ob → h.IsGen a g)
    (hend : ∀ H s, Inv Y [] σ0 H s → Fin () H → R (.ok (.ret (.bool true))) s) (hout : ∀ H s, Inv Y [] σ0 H s → Qx H → R (.ok (.ret (.bool false))) s) :
    ∀ (n : Nat) (s : Shared), Waits Y.prog Y.w A.in1.in1 Y σ0 nopo [] Fin (gotAll Qx) a g n s → codeAny (model Y.prog Y.w) A (.builtin "all.loop" ⟨[.ref a], []⟩) R s := by
  intro n
  induction n using Nat.strongRecOn with
  | ind n ih =>
    intro s w
    refine codeAny_builtin F.entry_all_loop ?_
    rw [Around.under_plainId F.plain_all_loop _]
    show wpAny _ A.in1 (pyNext (.ref a) >>= _) _ _ s
    refine wpAny_bind (waits_next (A := A.in1) (fp := []) hh hd hpn hg aside_none (fun z => nomatch z) w (fun _ H s1 I fin => ?_) fun _ y v H Nx s1 ry I got more => ?_)
    · exact wpAny_bind (wpAny_rule (wpAny_pure (hend H s1 I fin)))
    · rcases got with ⟨rfl, nx⟩ | ⟨rfl, q⟩
      · obtain rfl : v = Value.bool true := ry
        refine wpAny_bind (wpAny_holding (wpAny_truthy_bool (wpAny_bind (wpAny_letGo ?_))))
        obtain ⟨m, hm, w'⟩ := more () s1 (woke_refl I.bare) (Nat.le_refl _) rfl nx
        rw [if_pos rfl]
        exact wpAny_pure ⟨plainId_quiet F.plain_all_loop _, ih m hm s1 w'⟩
      · obtain rfl : v = Value.bool false := ry
        refine wpAny_bind (wpAny_holding (wpAny_truthy_bool (wpAny_bind (wpAny_letGo ?_))))
        rw [if_neg Bool.false_ne_true]
        exact wpAny_bind (wpAny_rule (wpAny_pure (hout H s1 I q)))
theorem any_drain (hh : A.handled = none) (hd : A.depth < recursionLimit) (hpn : Y.pn = [(a, ob)]) (hg : ∀ h : Heap, h.get? a = some ob → h.IsGen a g)
    (hend : ∀ H s, Inv Y [] σ0 H s → Fin () H → R (.ok (.ret (.bool false))) s) (hout : ∀ H s, Inv Y [] σ0 H s → Qx H → R (.ok (.ret (.bool true))) s) :
    ∀ (n : Nat) (s : Shared), Waits Y.prog Y.w A.in1.in1 Y σ0 nopo [] Fin (gotAny Qx) a g n s → codeAny (model Y.prog Y.w) A (.builtin "any.loop" ⟨[.ref a], []⟩) R s := by
  intro n
  induction n using Nat.strongRecOn with
  | ind n ih =>
    intro s w
    refine codeAny_builtin F.entry_any_loop ?_
    rw [Around.under_plainId F.plain_any_loop _]
    show wpAny _ A.in1 (pyNext (.ref a) >>= _) _ _ s
    refine wpAny_bind (waits_next (A := A.in1) (fp := []) hh hd hpn hg aside_none (fun z => nomatch z) w (fun _ H s1 I fin => ?_) fun _ y v H Nx s1 ry I got more => ?_)
    · exact wpAny_bind (wpAny_rule (wpAny_pure (hend H s1 I fin)))
    · rcases got with ⟨rfl, nx⟩ | ⟨rfl, q⟩
      · obtain rfl : v = Value.bool false := ry
        refine wpAny_bind (wpAny_holding (wpAny_truthy_bool (wpAny_bind (wpAny_letGo ?_))))
        obtain ⟨m, hm, w'⟩ := more () s1 (woke_refl I.bare) (Nat.le_refl _) rfl nx
        rw [if_neg Bool.false_ne_true]
        exact wpAny_pure ⟨plainId_quiet F.plain_any_loop _, ih m hm s1 w'⟩
      · obtain rfl : v = Value.bool true := ry
        refine wpAny_bind (wpAny_holding (wpAny_truthy_bool (wpAny_bind (wpAny_letGo ?_))))
        rw [if_pos rfl]
        exact wpAny_bind (wpAny_rule (wpAny_pure (hout H s1 I q)))
end
/-- what is asked of the parts, in whatever frame they run -/
structure GParts (X : Cx) (j : Nat) (elt tg : Expr) (ifs : List Expr) (scope : Scope) (g : TG) (tt : TT) (te : TE) : Prop where
  tg : ∀ (s : Shared) (H : Hp) (C : Addr) (cl : List (Str × Addr)) (code : Value) (fp : List Addr) (B : Around) (pn : List (Addr × Obj)), Room j B → PG (gblk X s H (genEnv scope cl C code builtinsNs X.env) fp B pn) tg g
  ifs : ∀ (s : Shared) (H : Hp) (C : Addr) (cl : List (Str × Addr)) (code : Value) (fp : List Addr) (B : Around) (pn : List (Addr × Obj)), Room j B → PTs (gblk X s H (genEnv scope cl C code builtinsNs X.env) fp B pn) ifs tt
  elt : ∀ (s : Shared) (H : Hp) (C : Addr) (cl : List (Str × Addr)) (code : Value) (fp : List Addr) (B : Around) (pn : List (Addr × Obj)), Room j B → PE (gblk X s H (genEnv scope cl C code builtinsNs X.env) fp B pn) elt te
/-- the reading: W by the turn and a measure -/
def tGen (wi : TI) (p : Addr) (g : TG) (tt : TT) (te : TE) (vs : List Nat) (Fin : Hp → Prop) (Got : Unit → V → Hp → (Unit → Hp → Prop) → Prop) : L2.St → Hp → Prop := fun σ H => wi σ H fun J H1 => H1 p = some (tblO p) ∧
  ∃ W : Nat → Nat → Hp → Prop, (∃ m, W 0 m H1) ∧ GTurn (κ := Unit) J g tt te vs (wipe σ vs) (fun _ => W) (fun _ => Fin) Got
theorem wipe_wipe (σ : L2.St) (vs : List Nat) : wipe (wipe σ vs) vs = wipe σ vs := by
  apply List.ext_getElem?
  intro j
  rw [wipe_get, wipe_length]
  by_cases h : j ∈ vs ∧ j < σ.length
  · rw [if_pos h, wipe_get, if_pos h]
  · rw [if_neg h]
theorem gen_over {A : Around} {elt : Expr} {gs : List Comprehension} {scope : Scope} {pos : Pos} {it : Addr} {ce : Env} : A.over (.compLoop (.GeneratorExp elt gs scope pos) 0 (.ref it) .none ce) [] = A.deeper ce := by
  first
    | rfl
    | (simp [Around.over, Around.deeper, marksOver, frameCount, unitsOf, envsOf, guardsOf, pushEnvs, pushGuards, Code.envs, Code.env?, Code.isFrame, Code.guards, Code.isGuard, Code.weight, Code.frames, Code.isCreation, Code.isCaller, Code.cUnits])
/-- the frame's room -/
theorem gen_room {j : Nat} {A : Around} {ce : Env} (hr : Room (j + 1) A) : Room j (A.in1.in1.deeper ce) := by
  refine ⟨hr.hd, ?_, ?_⟩
  · have := hr.dp
    show A.depth + 1 + 3 * j + 5 < _
    omega
  · have := hr.un
    show A.units + 1 + 1 + 3 + 16 * j + 200 < _
    omega
theorem gen_frames {A : Around} {ce : Env} {st : List Env} (h : A.frames = some st) : (A.in1.in1.deeper ce).frames = some (ce :: st) := Around.frames_deeper (A := A.in1.in1) h
section
variable {X : Cx} {pins : List (Addr × Obj)} {σ : L2.St} {H : Hp} {s : Shared} {own : List (Str × Nat)} {ge : Expr} {ce : Env} {it : Addr} {fp : List Addr} {tn : Nat → Heap → Prop} {H1 H' : Hp} {s4 s5 s' : Shared} {a : Addr} {ob : Obj} {gi : Nat} {B : Around} {σ' : L2.St}
/-- back in the def's frame -/
theorem GMde.back (M : GMde X pins σ own ge ce it fp tn H1 s4 a ob gi s5) {ps : List (Addr × Obj)} (I : Inv (gblk X s4 H1 ce fp B [(a, ob)]) ps σ' H' s') : Inv X pins σ H' s' :=
  M.before.call' (ch := fp) I.os I.base I.hok I.bare fun b hb => by
    obtain ⟨_, f1, _, f3, f4, f5⟩ := (M.fpk b hb).1
    exact ⟨f3, f1, f4, f5⟩
end
section
variable {X : Cx} {elt tg iter : Expr} {ifs : List Expr} {scope : Scope} {gpos p1 pos : Pos} {own : List (Str × Nat)} {c p : Addr} {wi : TI} {g : TG} {tt : TT} {te : TE} {j : Nat}
/-- made and waiting -/
theorem gen_waits {pins : List (Addr × Obj)} {σ : L2.St} {H1 : Hp} {s4 s5 : Shared} {ce : Env} {it a : Addr} {fp : List Addr} {tn : Nat → Heap → Prop} {J : It} {ob : Obj} {gi : Nat} {κ : Type} {po : κ → List (Addr × Obj)} {Ss : List Addr} {W : κ → Nat → Nat → Hp → Prop} {Fin : κ → Hp → Prop} {Got : κ → V → Hp → (κ → Hp → Prop) → Prop} {k0 : κ} {m0 : Nat} {s6 : Shared}
    (hr : Room (j + 1) X.A) (hc : X.calm = true) (ok : GNames X.N X.env.scope scope own) (hfr : X.A.frames = some X.stack) (hce : ce.scope = scope) (T : Turn X.prog X.w X.K tg J fp it tn) (M : GMde X pins σ own (.GeneratorExp elt [⟨tg, iter, ifs, 0⟩] scope gpos) ce it fp tn H1 s4 a ob gi s5)
    (pg : PG (gblk X s4 H1 ce fp (X.A.in1.in1.deeper ce) [(a, ob)]) tg g) (pt : PTs (gblk X s4 H1 ce fp (X.A.in1.in1.deeper ce) [(a, ob)]) ifs tt) (pe : PE (gblk X s4 H1 ce fp (X.A.in1.in1.deeper ce) [(a, ob)]) elt te)
    (turn : GTurn J g tt te (own.map (·.2)) (wipe σ (own.map (·.2))) W Fin Got) (w0 : W k0 0 m0 H1) (as : Aside (gblk X s4 H1 ce fp (X.A.in1.in1.deeper ce) [(a, ob)]) fp po Ss) (I6 : Inv (gblk X s4 H1 ce fp (X.A.in1.in1.deeper ce) [(a, ob)]) (po k0) (wipe σ (own.map (·.2))) H1 s6) (kp : ∀ b o, s5.heap.get? b = some o → s6.heap.get? b = some o) (hgz : s6.gens = s5.gens) :
    Waits X.prog X.w X.A.in1.in1 (gblk X s4 H1 ce fp (X.A.in1.in1.deeper ce) [(a, ob)]) (wipe σ (own.map (·.2))) po Ss Fin Got a gi m0 s6 := by
  have st6 : tn 0 s6.heap := T.keep _ _ _ M.tn fun b _ o e => kp b o e
  refine ⟨M.gen _ (kp a ob M.at_), I6.nolimit, .fresh (.compStart (.GeneratorExp elt [⟨tg, iter, ifs, 0⟩] scope gpos) 0 (.ref it) .none ce), by rw [hgz]; exact M.fresh, rfl, ?_⟩
  refine gen_start (P := X.prog) (w := X.w) T st6 ?_
  exact gen_loop (Y := gblk X s4 H1 ce fp (X.A.in1.in1.deeper ce) [(a, ob)]) (B0 := X.A.in1.in1) gen_over hc (by show ce.scope.isCoroutine = false; rw [hce]; exact ok.co) rfl T rfl (wipe_wipe _ _) pg pt pe turn as (fun q hq => by
    obtain rfl : q = (a, ob) := by simpa using hq
    exact fun z => Nat.lt_irrefl _ (Nat.lt_trans M.low (M.fpk a z).2)) m0 m0 k0 0 H1 _ _ (Nat.le_refl _) (inv_setGen I6 rfl) st6 M.nf w0
theorem pe_all (hr : Room (j + 1) X.A) (hc : X.calm = true) (hN : X.N.Nodup) (hg : Gl X "all") (hm : X.mg "all" = none) (tb : Tbd X c p) (hi : PI X tg iter wi) (ok : GNames X.N X.env.scope scope own) (parts : GParts X j elt tg ifs scope g tt te) (hb : bootBuiltins "all" = some (.builtin "all")) (hs : ∀ x, genFold iter X.env x = pure x := by intro _; rfl)
    (he : starEach [.GeneratorExp elt [⟨tg, iter, ifs, 0⟩] scope gpos] X.env = (false, eval (.GeneratorExp elt [⟨tg, iter, ifs, 0⟩] scope gpos) X.env) :: starEach [] X.env := by rfl) :
    PE X (.Call (.Name "all" p1) [.GeneratorExp elt [⟨tg, iter, ifs, 0⟩] scope gpos] [] pos) (fun σ H Q => tGen wi p g tt te (own.map (·.2)) (Q (.bl true)) (gotAll (Q (.bl false))) σ H) := by
  refine ⟨fun pins s σ H Q I h => ?_⟩
  refine wpAny_Call_Name_kw (ld_blt I hg hm hb ?_)
  refine PyProof.Rows.callWith_builtin1 ?_ he (by rfl)
  rw [he]
  show wpAny _ _ (spliced ((false, eval (.GeneratorExp elt [⟨tg, iter, ifs, 0⟩] scope gpos) X.env) :: backTo pos (starEach [] X.env))) _ _ s
  refine Calls.spliced_cons (gen_made hc hN (by have := hr.dp; omega) tb I hi ok hs h fun code C it a gi fp tn J H1 s4 s5 ob r T M => ?_)
  obtain ⟨W, ⟨m0, w0⟩, turn⟩ := r
  refine Calls.spliced_nil ?_
  refine call_function_tree F.kind_all F.plain_all F.entry_all (F.args_all1 _) ?_
  unfold Builtin.«all»
  refine wpAny_bind (m := oneArg "all" _) (wpAny_pure (wpAny_bind (wpAny_pyIter_gen (M.gen _ M.at_) ?_)))
  have hf := I.ok.frames
  have wt := gen_waits (po := nopo) (Ss := []) hr hc ok hf rfl T M (parts.tg _ _ _ _ _ _ _ _ (gen_room hr)) (parts.ifs _ _ _ _ _ _ _ _ (gen_room hr)) (parts.elt _ _ _ _ _ _ _ _ (gen_room hr)) turn (k0 := ()) w0 aside_none (M.inv _ hr.hd (gen_frames hf)) (fun _ _ e => e) rfl
  refine wpAny_pure ⟨plainId_quiet F.plain_all_loop _, all_drain (A := X.A) (Y := gblk X s4 H1 (genEnv scope (cloFrom X.env.cells scope.names []) C code builtinsNs X.env) fp (X.A.in1.in1.deeper (genEnv scope (cloFrom X.env.cells scope.names []) C code builtinsNs X.env)) [(a, ob)]) hr.hd (by have := hr.dp; omega) rfl M.gen (fun H' s' J' q => ?_) (fun H' s' J' q => ?_) m0 s5 wt⟩
  · exact ⟨.bl true, H', M.back J', rfl, q⟩
  · exact ⟨.bl false, H', M.back J', rfl, q⟩
theorem pe_any (hr : Room (j + 1) X.A) (hc : X.calm = true) (hN : X.N.Nodup) (hg : Gl X "any") (hm : X.mg "any" = none) (tb : Tbd X c p) (hi : PI X tg iter wi) (ok : GNames X.N X.env.scope scope own) (parts : GParts X j elt tg ifs scope g tt te) (hb : bootBuiltins "any" = some (.builtin "any")) (hs : ∀ x, genFold iter X.env x = pure x := by intro _; rfl)
    (he : starEach [.GeneratorExp elt [⟨tg, iter, ifs, 0⟩] scope gpos] X.env = (false, eval (.GeneratorExp elt [⟨tg, iter, ifs, 0⟩] scope gpos) X.env) :: starEach [] X.env := by rfl) :
    PE X (.Call (.Name "any" p1) [.GeneratorExp elt [⟨tg, iter, ifs, 0⟩] scope gpos] [] pos) (fun σ H Q => tGen wi p g tt te (own.map (·.2)) (Q (.bl false)) (gotAny (Q (.bl true))) σ H) := by
  refine ⟨fun pins s σ H Q I h => ?_⟩
  refine wpAny_Call_Name_kw (ld_blt I hg hm hb ?_)
  refine PyProof.Rows.callWith_builtin1 ?_ he (by rfl)
  rw [he]
  show wpAny _ _ (spliced ((false, eval (.GeneratorExp elt [⟨tg, iter, ifs, 0⟩] scope gpos) X.env) :: backTo pos (starEach [] X.env))) _ _ s
  refine Calls.spliced_cons (gen_made hc hN (by have := hr.dp; omega) tb I hi ok hs h fun code C it a gi fp tn J H1 s4 s5 ob r T M => ?_)
  obtain ⟨W, ⟨m0, w0⟩, turn⟩ := r
  refine Calls.spliced_nil ?_
  refine call_function_tree F.kind_any F.plain_any F.entry_any (F.args_any1 _) ?_
  unfold Builtin.«any»
  refine wpAny_bind (m := oneArg "any" _) (wpAny_pure (wpAny_bind (wpAny_pyIter_gen (M.gen _ M.at_) ?_)))
  have hf := I.ok.frames
  have wt := gen_waits (po := nopo) (Ss := []) hr hc ok hf rfl T M (parts.tg _ _ _ _ _ _ _ _ (gen_room hr)) (parts.ifs _ _ _ _ _ _ _ _ (gen_room hr)) (parts.elt _ _ _ _ _ _ _ _ (gen_room hr)) turn (k0 := ()) w0 aside_none (M.inv _ hr.hd (gen_frames hf)) (fun _ _ e => e) rfl
  refine wpAny_pure ⟨plainId_quiet F.plain_any_loop _, any_drain (A := X.A) (Y := gblk X s4 H1 (genEnv scope (cloFrom X.env.cells scope.names []) C code builtinsNs X.env) fp (X.A.in1.in1.deeper (genEnv scope (cloFrom X.env.cells scope.names []) C code builtinsNs X.env)) [(a, ob)]) hr.hd (by have := hr.dp; omega) rfl M.gen (fun H' s' J' q => ?_) (fun H' s' J' q => ?_) m0 s5 wt⟩
  · exact ⟨.bl false, H', M.back J', rfl, q⟩
  · exact ⟨.bl true, H', M.back J', rfl, q⟩
end
end PG
end
section
set_option Elab.async false
set_option linter.all false
set_option maxRecDepth 100000
set_option maxHeartbeats 1000000
namespace PG
open PySem PySem.Spec PyProof.Rows L2 GenW GxR
/-! ### all, any of a generator expression, on data -/
/-- stop: the item at which it is over (all: False) -/
def genL (stop : Bool) (G : GF) (t : TF) (e : EF) (vs : List Nat) : List PyData → Rho → Option (Bool × Rho)
  | [], ρ => some (!stop, ρ)
  | d :: ds, ρ => match G d ρ with
    | none => none
    | some ρ1 => match t ρ1 with
      | none => none
      | some (false, ρ2) => if plainAt ρ2 vs then genL stop G t e vs ds (wipeR ρ2 vs) else none
      | some (true, ρ2) => match e ρ2 with
        | some (.bool b, ρ3) => if plainAt ρ3 vs then (if b = stop then some (stop, wipeR ρ3 vs) else genL stop G t e vs ds (wipeR ρ3 vs)) else none
        | _ => none
def eGen (stop : Bool) (it : NF) (G : GF) (t : TF) (e : EF) (vs : List Nat) : EF := fun ρ => match it ρ with
  | some (ds, ρ1) => if plainAt ρ1 vs then (match genL stop G t e vs ds (wipeR ρ1 vs) with
    | some (b, ρ2) => some (.bool b, restR ρ1 ρ2 vs)
    | none => none) else none
  | none => none
/-- what it is asked at an item -/
abbrev gotB (stop : Bool) (Qx : Hp → Prop) : Unit → V → Hp → (Unit → Hp → Prop) → Prop := fun _ y H Nx => (y = .bl (!stop) ∧ Nx () H) ∨ (y = .bl stop ∧ Qx H)
theorem rd_gen {stop : Bool} {K : PySem.W.Frag} {it : NF} {G : GF} {tf : TF} {f : EF} {is vs : List Nat} {p cc : Addr} {x : Str} (hx : x ∈ tabNames) (hp : PySem.W.tabIn K x = some (cc, p)) (his : ∀ j ∈ is, j ∈ vs) :
    ∀ σ H Q, tE K (eGen stop it G tf f vs) σ H Q → tGen (tI K it) p (tG K G is) (tT K tf) (tE K f) vs (Q (.bl (!stop))) (gotB stop (Q (.bl stop))) σ H := fun σ H Q ⟨c, ρ, d, ρ', R, e, q⟩ => by
  unfold eGen at e
  split at e
  · rename_i ds0 ρ1 h1
    split at e
    · rename_i hpl
      split at e
      · rename_i out ρ2 h2
        obtain ⟨e1, e2⟩ := so e
        subst e1 e2
        refine ⟨c, ρ, ds0, ρ1, R, h1, fun J H1 R1 m1 jo => ⟨R1.ts x hx cc p hp, ?_⟩⟩
        obtain ⟨Rw, mw⟩ := R1.wipe hpl
        -- the end: from the generator's slots back to the def's
        have fin : ∀ (ρi : Rho) (Hi : Hp), plainAt ρi vs = true → Rel K c ρi (wipe σ vs) Hi → Mv (Av c ρ1 σ) H1 (Av c ρi (wipe σ vs)) Hi → ρ2 = ρi → Q (.bl out) Hi := fun ρi Hi hpi Ri mi er => by
          subst er
          obtain ⟨Rr, own⟩ := R1.rest Ri mi hpl hpi
          have mo : Mv (Av c ρ2 (wipe σ vs)) Hi (Av c (restR ρ1 ρ2 vs) σ) Hi := fun b o eb nb => ⟨eb, fun z => nb (z.elim .inl fun y => .inr ((own b).mp y))⟩
          exact q (.bl out) Hi Rr (.bl out) (m1.trans (mi.trans mo))
        refine ⟨fun i m Hi => m = ds0.length - i ∧ i ≤ ds0.length ∧ ∃ ρi, plainAt ρi vs = true ∧ Rel K c ρi (wipe σ vs) Hi ∧ Mv (Av c ρ1 σ) H1 (Av c ρi (wipe σ vs)) Hi ∧ genL stop G tf f vs (ds0.drop i) ρi = some (out, ρ2),
          ⟨ds0.length, by simp, Nat.zero_le _, wipeR ρ1 vs, plain_wipe hpl, Rw, mw, h2⟩, ?_⟩
        rintro _ i m Hi ⟨rfl, hi, ρi, hpi, Ri, mi, ei⟩
        obtain ⟨jg, js⟩ := jo _ _ _ Hi mi
        cases hd : ds0.drop i with
        | nil =>
          rw [hd] at ei
          unfold genL at ei
          obtain ⟨e1, e2⟩ := so ei
          have hz : i = ds0.length := by
            have := congrArg List.length hd
            rw [List.length_drop, List.length_nil] at this
            omega
          subst hz
          rw [e1]
          exact .inl ⟨js, fin ρi Hi hpi Ri mi e2.symm⟩
        | cons d r =>
          obtain ⟨g1, g2⟩ := drop_cons hd
          rw [hd] at ei
          obtain ⟨k1, k2⟩ := jg i d g1
          have hlt := lt_of_get g1
          unfold genL at ei
          split at ei
          · cases ei
          · rename_i ρa ea
            refine .inr ⟨k1, by omega, fun _ H' => ds0.length - (i + 1) = ds0.length - (i + 1) ∧ i + 1 ≤ ds0.length ∧ ∃ ρi, plainAt ρi vs = true ∧ Rel K c ρi (wipe σ vs) H' ∧ Mv (Av c ρ1 σ) H1 (Av c ρi (wipe σ vs)) H' ∧ genL stop G tf f vs (ds0.drop (i + 1)) ρi = some (out, ρ2),
              fun _ H' z => ⟨ds0.length - (i + 1), by omega, z⟩, fun x H' y => ?_⟩
            obtain ⟨rfl, rx⟩ := k2 x H' y
            refine ⟨c, ρi, d, ρa, Ri, rx, ea, fun σ2 Ra ma hl hk => ?_⟩
            have hw : wipe σ2 vs = wipe σ vs := by
              apply List.ext_getElem?
              intro j
              rw [wipe_get, wipe_get, hl, wipe_length]
              by_cases hj : j ∈ vs
              · by_cases hj2 : j < σ.length
                · rw [if_pos ⟨hj, hj2⟩, if_pos ⟨hj, hj2⟩]
                · rw [if_neg fun z => hj2 z.2, if_neg fun z => hj2 z.2, List.getElem?_eq_none (by rw [hl, wipe_length]; omega), List.getElem?_eq_none (by omega)]
              · rw [if_neg fun z => hj z.1, if_neg fun z => hj z.1, hk j fun z => hj (his j z), wipe_get, if_neg fun z => hj z.1]
            refine ⟨hw, ?_⟩
            split at ei
            · cases ei
            · rename_i ρb eb
              split at ei
              · rename_i hpb
                refine ⟨c, ρa, false, ρb, Ra, eb, fun H3 R3 m3 => iteF ?_⟩
                obtain ⟨R4, m4⟩ := R3.wipe hpb
                rw [hw] at R4 m4
                exact ⟨rfl, hlt, wipeR ρb vs, plain_wipe hpb, R4, mi.trans (ma.trans (Mv.trans m3 m4)), by rw [g2]; exact ei⟩
              · cases ei
            · rename_i ρb eb
              split at ei
              · rename_i b ρc ec
                split at ei
                · rename_i hpc
                  refine ⟨c, ρa, true, ρb, Ra, eb, fun H3 R3 m3 => iteT ?_⟩
                  refine ⟨c, ρb, .bool b, ρc, R3, ec, fun v H4 R4 r4 m4 => ?_⟩
                  cases r4
                  obtain ⟨R5, m5⟩ := R4.wipe hpc
                  rw [hw] at R5 m5
                  have mm := mi.trans (ma.trans (Mv.trans m3 (Mv.trans m4 m5)))
                  split at ei
                  · rename_i hb
                    subst hb
                    obtain ⟨e1, e2⟩ := so ei
                    rw [e1]
                    exact .inr ⟨rfl, fin (wipeR ρc vs) H4 (plain_wipe hpc) R5 mm e2.symm⟩
                  · rename_i hb
                    refine .inl ⟨by cases b <;> cases stop <;> first | rfl | exact absurd rfl hb, rfl, hlt, wipeR ρc vs, plain_wipe hpc, R5, mm, by rw [g2]; exact ei⟩
                · cases ei
              · cases ei
      · cases e
    · cases e
  · cases e
section
variable {X : Cx} {elt tgt iter : Expr} {ifs : List Expr} {scope : Scope} {gpos p1 pos : Pos} {own : List (Str × Nat)} {c p : Addr} {j : Nat} {it : NF} {G : GF} {is : List Nat} {tf : TF} {f : EF} {x : Str}
/-- the parts, on data -/
structure GPartsD (X : Cx) (j : Nat) (elt tg : Expr) (ifs : List Expr) (scope : Scope) (G : GF) (is : List Nat) (tf : TF) (f : EF) : Prop where
  parts : ∀ (s : Shared) (H : Hp) (C : Addr) (cl : List (Str × Addr)) (code : Value) (fp : List Addr) (B : Around) (pn : List (Addr × Obj)), Room j B →
    PG (gblk X s H (genEnv scope cl C code builtinsNs X.env) fp B pn) tg (tG X.K G is) ∧ PTs (gblk X s H (genEnv scope cl C code builtinsNs X.env) fp B pn) ifs (tT X.K tf) ∧ PE (gblk X s H (genEnv scope cl C code builtinsNs X.env) fp B pn) elt (tE X.K f)
theorem GPartsD.to (h : GPartsD X j elt tgt ifs scope G is tf f) : GParts X j elt tgt ifs scope (tG X.K G is) (tT X.K tf) (tE X.K f) :=
  ⟨fun s H C cl code fp B pn r => (h.parts s H C cl code fp B pn r).1, fun s H C cl code fp B pn r => (h.parts s H C cl code fp B pn r).2.1, fun s H C cl code fp B pn r => (h.parts s H C cl code fp B pn r).2.2⟩
theorem ev_all (hr : Room (j + 1) X.A) (hc : X.calm = true) (hN : X.N.Nodup) (hg : Gl X "all") (hm : X.mg "all" = none) (hx : x ∈ tabNames) (hp : PySem.W.tabIn X.K x = some (c, p)) (tb : Tbd X c p) (hi : PI X tgt iter (tI X.K it)) (ok : GNames X.N X.env.scope scope own) (parts : GPartsD X j elt tgt ifs scope G is tf f)
    (his : ∀ j ∈ is, j ∈ own.map (·.2) := by decide) (hb : bootBuiltins "all" = some (.builtin "all") := by decide +kernel) (hs : ∀ x, genFold iter X.env x = pure x := by intro _; rfl)
    (he : starEach [.GeneratorExp elt [⟨tgt, iter, ifs, 0⟩] scope gpos] X.env = (false, eval (.GeneratorExp elt [⟨tgt, iter, ifs, 0⟩] scope gpos) X.env) :: starEach [] X.env := by rfl) :
    PE X (.Call (.Name "all" p1) [.GeneratorExp elt [⟨tgt, iter, ifs, 0⟩] scope gpos] [] pos) (tE X.K (eGen false it G tf f (own.map (·.2)))) :=
  pe_of (pe_all hr hc hN hg hm tb hi ok parts.to hb hs he) fun σ H Q h => rd_gen (stop := false) hx hp his σ H Q h
theorem ev_any (hr : Room (j + 1) X.A) (hc : X.calm = true) (hN : X.N.Nodup) (hg : Gl X "any") (hm : X.mg "any" = none) (hx : x ∈ tabNames) (hp : PySem.W.tabIn X.K x = some (c, p)) (tb : Tbd X c p) (hi : PI X tgt iter (tI X.K it)) (ok : GNames X.N X.env.scope scope own) (parts : GPartsD X j elt tgt ifs scope G is tf f)
    (his : ∀ j ∈ is, j ∈ own.map (·.2) := by decide) (hb : bootBuiltins "any" = some (.builtin "any") := by decide +kernel) (hs : ∀ x, genFold iter X.env x = pure x := by intro _; rfl)
    (he : starEach [.GeneratorExp elt [⟨tgt, iter, ifs, 0⟩] scope gpos] X.env = (false, eval (.GeneratorExp elt [⟨tgt, iter, ifs, 0⟩] scope gpos) X.env) :: starEach [] X.env := by rfl) :
    PE X (.Call (.Name "any" p1) [.GeneratorExp elt [⟨tgt, iter, ifs, 0⟩] scope gpos] [] pos) (tE X.K (eGen true it G tf f (own.map (·.2)))) :=
  pe_of (pe_any hr hc hN hg hm tb hi ok parts.to hb hs he) fun σ H Q h => rd_gen (stop := true) hx hp his σ H Q h
end
end PG
end
section
set_option Elab.async false
set_option linter.all false
set_option maxRecDepth 100000
set_option maxHeartbeats 1000000
namespace PG
open PySem PySem.Spec PyProof.Rows L2 GenW GxR
/-! ### defs that hold generator expressions; the law's call among tables -/
/-- what is known of every such def's code -/
def TbOk (K : PySem.W.Frag) (mg : Str → Option Value) (base : Heap) : Prop := ∀ x ∈ tabNames, ∀ cc p, PySem.W.tabIn K x = some (cc, p) → TabB base mg cc p
/-- a def, its code object, its table -/
structure FunT (K : PySem.W.Frag) (x qual : Str) (st : Stmt) (f : Addr) (fd : FuncData) (cc p : Addr) : Prop where
  ex : ∃ (oc : Value) (od : Option Addr) (kV doc pm : Value) (an : Option Addr) (ct : Value) (osl : Array (Option Value)),
    fd = PySem.W.fnOf x qual (defArgs st) (defBody st) (defScope st) .none kV doc pm an (.ref cc) ct ∧ K.lookup f = some ⟨oc, od, .func fd, osl⟩ ∧ PySem.W.codeIn K (.ref cc) qual = true
  kp : PySem.W.keepIn K (.ref f) = true
  tab : PySem.W.tabIn K x = some (cc, p)
theorem tabIn_mk {K : PySem.W.Frag} {x qual : Str} {st : Stmt} {f cc p : Addr} {oc xe : Value} {od an xd : Option Addr} {osl xs : Array (Option Value)} {kV doc pm ct : Value} {xv : Array Value} (a : PySem.W.nsIn K mainGlobals x = some (some (.ref f))) (l : K.lookup f = some ⟨oc, od, .func (PySem.W.fnOf x qual (defArgs st) (defBody st) (defScope st) .none kV doc pm an (.ref cc) ct), osl⟩)
    (e : K.lookup cc = some ⟨xe, xd, .fields xv, xs⟩) (h : xv[11]? = some (.ref p)) : PySem.W.tabIn K x = some (cc, p) := by
  unfold PySem.W.tabIn
  rw [a]; dsimp only; rw [l]; dsimp only [PySem.W.fnOf]; rw [e]; dsimp only; rw [h]
theorem funT_mk {K : PySem.W.Frag} {x qual : Str} {st : Stmt} {f cc p : Addr} {oc : Value} {od an : Option Addr} {osl : Array (Option Value)} {kV doc pm ct : Value} (l : K.lookup f = some ⟨oc, od, .func (PySem.W.fnOf x qual (defArgs st) (defBody st) (defScope st) .none kV doc pm an (.ref cc) ct), osl⟩)
    (c : PySem.W.codeIn K (.ref cc) qual = true) (k : PySem.W.keepIn K (.ref f) = true) (t : PySem.W.tabIn K x = some (cc, p)) : FunT K x qual st f (PySem.W.fnOf x qual (defArgs st) (defBody st) (defScope st) .none kV doc pm an (.ref cc) ct) cc p :=
  ⟨⟨oc, od, kV, doc, pm, an, ct, osl, rfl, l, c⟩, k, t⟩
section
variable {P : Program} {w : World} {K : PySem.W.Frag} {mg : Str → Option Value} {base : Heap} {x qual : Str} {st : Stmt} {fa cc p : Addr} {fd : FuncData} {N ps : List Str} {j k m : Nat} {b : SF}
theorem FunT.fun (F : FunT K x qual st fa fd cc p) : L2.Fun K x qual st fa fd := by
  obtain ⟨⟨oc, od, kV, doc, pm, an, ct, osl, e, l, c⟩, k, t⟩ := F
  exact ⟨⟨oc, od, kV, doc, pm, an, .ref cc, ct, osl, e, l, c⟩, k⟩
theorem ok_PT (F : FunT K x qual st fa fd cc p) (hx : x ∈ tabNames) (TB : TbOk K mg base) (S : FnScope N ps (defScope st)) (hk : ps.length = k) (hm : k + m = N.length)
    (hb : ∀ (A : Around) (outer : List Env) (s : Shared) (H : Hp) (E : XK), Tbd (cxOf CX0 P w K mg base N qual (defScope st) fa (.ref cc) A outer s H E).nox cc p → Room j (A.deeper (envOfC qual (defScope st) s.heap.objs.size fa (.ref cc))) →
      PSs (cxOf CX0 P w K mg base N qual (defScope st) fa (.ref cc) A outer s H E).nox (defBody st) (tS K b)) :
    FnOk P w K mg base CX0 (j + 1) fa fd ps (spP K k (defP b k m)) := by
  obtain ⟨oc, od, kV, doc, pm, an, ct, osl, rfl, lk, hcd⟩ := F.ex
  refine fn_of lk hcd S (fun vs H Q E h => h.1.trans hk.symm) fun A outer s H vs Q E hr h => ?_
  obtain ⟨hl, ht, A', ds, r, ra, hA, e, q⟩ := h
  refine ⟨_, (hb A outer s H E ⟨rfl, TB x hx cc p F.tab⟩ hr).nox, ?_⟩
  have R := rel_start (m := m) (N := N) ht ra hA (by omega)
  unfold defP at e
  split at e
  · cases eb : b (rho0 ds m) with
    | none => rw [eb] at e; cases e
    | some z =>
      obtain ⟨o, ρ'⟩ := z
      rw [eb] at e
      have kp : ∀ σ' H', Rel K ⟨A', H, fun _ => none, ht, fun _ _ z => nomatch z⟩ ρ' σ' H' → ∀ a o, H a = some o → H' a = some o := fun σ' H' R' a o h => R'.old a o h fun i z => nomatch z
      refine ⟨_, rho0 ds m, o, ρ', R, eb, ?_⟩
      cases o with
      | next => cases e; exact fun σ' H' R' _ => q .non H' (kp σ' H' R') .non
      | brk => cases e
      | cont => cases e
      | ret d => cases e; exact fun v σ' H' R' r' => q v H' (kp σ' H' R') r'
      | retL ds => cases e; exact fun a vs σ' H' R' ha r' h0 => q (.ref a) H' (kp σ' H' R') (.lst ⟨ha, fun z => hA a z h0⟩ (r'.mv fun b o e n => ⟨e, fun z => n (.inl z)⟩))
  · cases e
end
theorem FnOk.q {P : Program} {w : World} {K : PySem.W.Frag} {mg : Str → Option Value} {base : Heap} {k : Nat} {fa : Addr} {fd : FuncData} {ps : List Str} {sp : Sp} (F : FnOk P w K mg base CX0 k fa fd ps sp) : FnQ P w K mg base k fa fd ps sp :=
  ⟨F.len, fun B up s H ar us vs Q E _ => F.run B up s H ar us vs Q E⟩
/-- what is asked of the program for the tables -/
def tabsOk (K : PySem.W.Frag) (q : Program) : Bool := tabNames.all fun x => match PySem.W.tabIn K x with
  | none => true
  | some (_, p) => ((recsOf q).any fun d => d.name == x) && (K.lookup p).isNone
theorem tabs_at {K : PySem.W.Frag} {q : Program} {loose : List Str} {mean : ExcName → Option Value} {mg mb : Str → Option Value} {h : Heap} (ok : tabsOk K q = true) (T : Top q loose mean mg mb h) (X : K.In h) {x : Str} (hx : x ∈ tabNames) {cc p : Addr} (ht : PySem.W.tabIn K x = some (cc, p)) :
    PySem.W.CodeHd h cc p ∧ h.get? p = some { cls := .none, data := .fields #[] } ∧ K.lookup p = none := by
  have q1 := List.all_eq_true.mp ok x hx
  rw [ht] at q1
  simp only [Bool.and_eq_true] at q1
  obtain ⟨q1, q2⟩ := q1
  have hf : ∃ d, (recsOf q).find? (fun e => e.name == x) = some d := by
    cases e : (recsOf q).find? (fun e => e.name == x) with
    | some d => exact ⟨d, rfl⟩
    | none =>
      obtain ⟨d, hd, hn⟩ := List.any_eq_true.mp q1
      exact absurd hn (List.find?_eq_none.mp e d hd)
  obtain ⟨d, hd⟩ := hf
  obtain ⟨w1, w2⟩ := PySem.W.tab_of T X hd ht
  exact ⟨w1, w2, by simpa using q2⟩
/-- the address of a table -/
def IsTab (K : PySem.W.Frag) (b : Addr) : Prop := ∃ x ∈ tabNames, ∃ cc, PySem.W.tabIn K x = some (cc, b)
open Classical in
/-- what is tracked at the law's entry -/
noncomputable def hp0 (K : PySem.W.Frag) (u : Addr → Option HO) : Hp := fun b => if IsTab K b then some (tblO b) else u b
/-- but for tables nothing but the script -/
def only1 (at_ : Addr) (o : Obj) (xs : List V) (u : Addr → Option HO) : Prop := ∀ b, u b = none ∨ (b = at_ ∧ u b = some (.frz o (.lst xs)))
theorem law_runsT {P q : Program} {w : World} {K : PySem.W.Frag} {loose : List Str} {mean : ExcName → Option Value} {mg mb : Str → Option Value} {k : Nat} {fa at_ : Addr} {fd : FuncData} {x : Str} {sp : Sp} {st : Shared} {us : List Value} {ns : List Int}
    (kin : K.In st.heap) (T : Top q loose mean mg mb st.heap) (tok : tabsOk K q = true) (nog : st.gens = #[])
    (hat : st.heap.get? at_ = some { cls := .type "list", data := .seq us.toArray }) (cells : IntsAre us ns) (short : ns.length ≤ sizeLine) (room : Room k callerA)
    (F : ∀ bas : Heap, K.In bas → bas.Ns mainGlobals mg → TbOk K mg bas → FnQ P w K mg bas k fa fd [x] sp) (binds : ∀ (s : Shared) (u : Value), BindsTo s fd ⟨[u], []⟩ [(x, u)])
    (want : ∀ H : Hp, TsOk K H → SqL K H at_ (ns.map V.int) → sp [.ref at_] H (fun v H' => v = .bl true ∧ ∀ a o, H a = some o → H' a = some o) fun _ _ _ => False) :
    codeAny (model P w) callerA (.call (.ref fa) ⟨[.ref at_], []⟩) (fun r s' => r = .ok (.ret (.bool true)) ∧ OldK st.heap s'.heap ∧ s'.os = st.os ∧ AllBare s'.gens) st := by
  have vals := vals_ints cells
  have many := cells.length
  have tabs : ∀ b, IsTab K b → st.heap.get? b = some { cls := .none, data := .fields #[] } ∧ K.lookup b = none ∧ ∃ cc, PySem.W.CodeHd st.heap cc b := fun b ⟨y, hy, cc, hc⟩ => by
    obtain ⟨w1, w2, w3⟩ := tabs_at tok T kin hy hc
    exact ⟨w2, w3, cc, w1⟩
  have atT : ¬ IsTab K at_ := fun z => by
    have e := (tabs at_ z).1
    rw [hat] at e
    cases congrArg Obj.data (Option.some.inj e)
  have main : ∀ u : Addr → Option HO, only1 at_ { cls := .type "list", data := .seq us.toArray } (ns.map V.int) u → SqL K (hp0 K u) at_ (ns.map V.int) → (u at_ ≠ none → K.lookup at_ = none) →
      codeAny (model P w) callerA (.call (.ref fa) ⟨[.ref at_], []⟩) (fun r s' => r = .ok (.ret (.bool true)) ∧ OldK st.heap s'.heap ∧ s'.os = st.os ∧ AllBare s'.gens) st := by
    intro u only sq notK
    have hT : ∀ b, IsTab K b → hp0 K u b = some (tblO b) := fun b z => if_pos z
    have hN : ∀ b, ¬ IsTab K b → hp0 K u b = u b := fun b z => if_neg z
    generalize hp0 K u = H at hT hN sq ⊢
    -- what stands at a tracked address
    have kinds : ∀ {b : Addr} {o : Obj}, st.heap.get? b = some o → H b ≠ none → o.data = .fields #[] ∨ (b = at_ ∧ o.data = .seq us.toArray 0) ∨ (b = at_ ∧ ∃ n, o.data = .seq us.toArray n) := fun {b o} e h => by
      by_cases z : IsTab K b
      · rw [(tabs b z).1] at e
        cases e
        exact .inl rfl
      · rw [hN b z] at h
        rcases only b with y | ⟨rfl, _⟩
        · exact absurd y h
        · rw [hat] at e
          cases e
          exact .inr (.inr ⟨rfl, _, rfl⟩)
    have low : ∀ {b : Addr} {o : Obj}, st.heap.get? b = some o → (o.data ≠ .fields #[]) → (∀ n, o.data ≠ .seq us.toArray n) → (hidT st.heap H).get? b = some o := fun {b o} e h1 h2 => hidT_get e (by
      cases y : H b with
      | none => rfl
      | some v =>
        rcases kinds e (by rw [y]; simp) with z | ⟨_, z⟩ | ⟨_, n, z⟩
        · exact absurd z h1
        · exact absurd z (h2 _)
        · exact absurd z (h2 n))
    have ns2 : ∀ {b : Addr} {m : Str → Option Value}, st.heap.Ns b m → (hidT st.heap H).Ns b m := fun {b m} h => by
      obtain ⟨o, es, ep, e, d, r⟩ := h
      exact ⟨o, es, ep, low e (by rw [d]; exact fun z => nomatch z) (fun n => by rw [d]; exact fun z => nomatch z), d, r⟩
    have kin2 : K.In (hidT st.heap H) := fun b o e => hidT_get (kin b o e) (by
      cases y : H b with
      | none => rfl
      | some v =>
        by_cases z : IsTab K b
        · rw [(tabs b z).2.1] at e
          cases e
        · rw [hN b z] at y
          rcases only b with y' | ⟨rfl, y'⟩
          · rw [y'] at y; cases y
          · rw [notK (by rw [y']; simp)] at e
            cases e)
    have md : Mod K mg (hidT st.heap H) := ⟨kin2, ns2 T.g, ⟨mb, ns2 T.b, T.builtins⟩, by obtain ⟨mc, h1, h2⟩ := T.nolimit; exact ⟨mc, ns2 h1, h2⟩⟩
    have hok : HOk P w H st.heap := fun b v e => by
      by_cases z : IsTab K b
      · rw [hT b z] at e
        cases e
        exact tblP_ok ⟨#[], (tabs b z).1, trivial⟩
      · rw [hN b z] at e
        rcases only b with y | ⟨rfl, y⟩
        · rw [y] at e; cases e
        · rw [y] at e
          cases e
          exact ⟨hat, by rw [List.length_map]; exact short, us, _, vals, hat⟩
    have en : Env0 P w K mg (hidT st.heap H) callerA [] st H := ⟨rfl, md, fun b o e => of_hidT e, Nat.le_of_eq (hidT_size _ _), trivial, (fun b hb => nomatch (show b ∈ ([] : List Addr) from hb)), hok, .of_eq nog⟩
    have ts : TsOk K H := fun y hy cc p hc => hT p ⟨y, hy, cc, hc⟩
    have TB : TbOk K mg (hidT st.heap H) := fun y hy cc p hc => by
      obtain ⟨w1, w2, w3⟩ := tabs_at tok T kin hy hc
      refine ⟨?_, ?_, fun z => ?_⟩
      · obtain ⟨o, vs, file, tf, flags, tg, inF, text, tt, e1, r1, r2, r3, r⟩ := w1
        refine ⟨o, vs, file, tf, flags, tg, inF, text, tt, low e1 (by
          rw [r2]
          intro z
          cases z
          simp at r3) (fun n => by rw [r2]; exact fun z => nomatch z), r1, r2, r3, r⟩
      · obtain ⟨bm, ob, b1, b2, b3, b4, b5, b6⟩ := T.bmain
        refine ⟨bm, ob, b1, b2, fun z => ?_, fun z => ?_, low b3 (by rw [b6]; exact fun z => nomatch z) (fun n => by rw [b6]; exact fun z => nomatch z), b4, b5, b6⟩
        · obtain ⟨o, es, ep, e, hd, _⟩ := T.g
          rw [z, e] at b3
          cases b3
          rw [hd] at b6
          cases b6
        · rw [z, w2] at b3
          cases b3
          cases b6
      · obtain ⟨o, es, ep, e, hd, _⟩ := T.g
        rw [z, w2] at e
        cases e
        cases hd
    refine codeAny_mono ((F _ kin2 (ns2 T.g) TB).does callerA [] st H ⟨[.ref at_], []⟩ [.ref at_] [.ref at_] _ _ rfl room en (binds st (.ref at_)) (.cons rfl .nil) (want H ts sq)) fun r s' h => ?_
    cases r with
    | error e => exact absurd h (by intro z; exact z)
    | ok fl =>
      cases fl with
      | next => exact False.elim h
      | brk => exact False.elim h
      | cont => exact False.elim h
      | ret u2 =>
        obtain ⟨v, H', os, bare, un, hok', rv, q1, q2⟩ := h
        subst q1
        obtain rfl : u2 = Value.bool true := rv
        have grown : ∀ b, IsTab K b → ∃ ps : Array Value, s'.heap.get? b = some { cls := .none, data := .fields ps } := fun b z => by
          obtain ⟨⟨ps, e, _⟩, _⟩ := hok' b _ (q2 b _ (hT b z))
          exact ⟨ps, e⟩
        have kept : ∀ b o, ¬ IsTab K b → st.heap.get? b = some o → s'.heap.get? b = some o := fun b o z e => by
          cases y : H b with
          | none => exact un.keep b o e y (by intro z; exact nomatch (show b ∈ ([] : List Addr) from z)) (by simp)
          | some v =>
            have y0 := y
            rw [hN b z] at y
            rcases only b with y' | ⟨rfl, y'⟩
            · rw [y'] at y; cases y
            · rw [y'] at y
              cases y
              obtain ⟨e1, _⟩ := hok b _ y0
              obtain ⟨e2, _⟩ := hok' b _ (un.frzs b _ _ y0)
              rw [e] at e1
              cases e1
              exact e2
        refine ⟨rfl, ⟨fun b o e => ?_, fun b o e => ?_⟩, os, bare⟩
        · by_cases z : IsTab K b
          · obtain ⟨e1, _, cc, hc⟩ := tabs b z
            obtain ⟨ps, e2⟩ := grown b z
            rw [e1] at e
            cases e
            exact .inr (.inl ⟨(hc.tab e1).isCodeTable, rfl, #[], ps, rfl, by rw [Array.empty_append]; exact e2⟩)
          · exact .inl (kept b o z e)
        · by_cases z : IsTab K b
          · obtain ⟨ps, e2⟩ := grown b z
            exact ⟨_, e2⟩
          · exact ⟨o, kept b o z e⟩
  cases hk : K.lookup at_ with
  | some o =>
    have e := kin at_ o hk
    rw [hat] at e
    cases e
    exact main (fun _ => none) (fun _ => .inl rfl) (.inr ⟨_, us.toArray, _, hk, rfl, rfl, rfl, by rw [List.size_toArray, many]; exact short, by simpa using vals⟩) fun z => absurd rfl z
  | none =>
    refine main (fun b => if b = at_ then some (.frz { cls := .type "list", data := .seq us.toArray } (.lst (ns.map V.int))) else none) (fun b => ?_) (.inl (.inr ⟨{ cls := .type "list", data := .seq us.toArray }, ?_⟩)) fun _ => hk
    · rcases Classical.em (b = at_) with hb | hb
      · exact .inr ⟨hb, if_pos hb⟩
      · exact .inl (if_neg hb)
    · exact (if_neg atT).trans (if_pos rfl)
theorem walkt_of {l : PySem.W.OpenLaw} {n k : Nat} {q : Program} {loose : List Str} {XP : (Str → Option Value) → Heap → Prop} {YP : World → Heap → Prop} {d : DefRec} {K : Params → PySem.W.Frag} {sp : World → Sp} {x : Str}
    (most : l.most = some n) (short : n ≤ sizeLine) (nodef : d.params.defaults = []) (room : Room k callerA) (hY : ∀ (w : World) (h : Heap), YP w h → (K w.params).In h)
    (F : ∀ (w : World) (mg : Str → Option Value) (fa : Addr) (h : Heap), (K w.params).In h → h.Ns mainGlobals mg → mg d.name = some (.ref fa) →
      tabsOk (K w.params) q = true ∧ ∃ fd : FuncData, (∀ (s : Shared) (u : Value), BindsTo s fd ⟨[u], []⟩ [(x, u)]) ∧ ∀ bas : Heap, (K w.params).In bas → bas.Ns mainGlobals mg → TbOk (K w.params) mg bas → FnQ l.prog w (K w.params) mg bas k fa fd [x] (sp w))
    (want : ∀ (w : World) (H : Hp) (a : Addr) (ns : List Int), ns.length ≤ n → TsOk (K w.params) H → SqL (K w.params) H a (ns.map V.int) → sp w [.ref a] H (fun v H' => v = .bl true ∧ ∀ a o, H a = some o → H' a = some o) fun _ _ _ => False) :
    PySem.W.WalkO q loose XP YP l.row.toRowW d [] (fun f vs => PySem.call f vs) := by
  refine Att.attach_call most nodef fun w s₀ st mg mb fa o pm cd doc a vs ns G Y ho hd hcd hmg hobj hints hlen hg => ?_
  have kin := hY w _ Y
  obtain ⟨tok, fd, binds, hF⟩ := F w mg fa _ kin G.T.g hmg
  exact law_runsT kin G.T tok hg hobj hints (Nat.le_trans hlen short) room hF binds fun H ts sq => want w H a ns hlen ts sq
theorem law_spT {F1 : List PyData → Option PyData} {K : PySem.W.Frag} {H : Hp} {a : Addr} {ns : List Int} (ht : TsOk K H) (hS : SqL K H a (ns.map V.int)) (hF : F1 [RO (ns.map PyData.int)] = some (.bool true)) :
    spP K 1 F1 [.ref a] H (fun v H' => v = .bl true ∧ ∀ a o, H a = some o → H' a = some o) fun _ _ _ => False := by
  refine ⟨rfl, ht, fun _ => False, [RO (ns.map PyData.int)], .bool true, .cons (.ro (xs := ns.map V.int) ?_ ?_) .nil, fun _ z => z.elim, hF, fun v H' kp r => by cases r; exact ⟨rfl, kp⟩⟩
  · rcases hS with h | h
    · exact .inl ⟨h, id⟩
    · exact .inr h
  · clear hS hF ht
    induction ns with
    | nil => exact .nil
    | cons i ns ih => exact .int i ih
end PG
end
section
set_option Elab.async false
set_option linter.all false
set_option maxRecDepth 100000
namespace PG
open PySem PySem.Spec PyProof.Rows L2
/-! ### a table of the module: whole-number keys, values of any plain kind -/
def kval (K : PySem.W.Frag) : Value → PyData → Bool
  | .int i _, .int j => decide (i = j)
  | .str x _, .str y => decide (x = y)
  | .bool a, .bool b => decide (a = b)
  | .none, .none => true
  | .ref a, .tuple ds => match K.lookup a with
    | some ⟨.type "tuple", _, .seq its _, _⟩ => flatOk its.toList ds && decide (its.size ≤ sizeLine)
    | _ => false
  | _, _ => false
theorem kval_ok {K : PySem.W.Frag} {v : Value} {d : PyData} (h : kval K v d = true) : ∃ x : V, RelV x v ∧ ∀ A H, Rp K A H x d := by
  unfold kval at h
  split at h
  · simp only [decide_eq_true_eq] at h; subst h; exact ⟨.int _, ⟨_, rfl⟩, fun _ _ => .int _⟩
  · simp only [decide_eq_true_eq] at h; subst h; exact ⟨.str _, ⟨_, rfl⟩, fun _ _ => .str _⟩
  · simp only [decide_eq_true_eq] at h; subst h; exact ⟨.bl _, rfl, fun _ _ => .bl _⟩
  · exact ⟨.non, rfl, fun _ _ => .non⟩
  · rename_i a ds
    split at h
    · rename_i od its n sl hl
      simp only [Bool.and_eq_true, decide_eq_true_eq] at h
      obtain ⟨f, r, _⟩ := flatA_of h.1
      exact ⟨.ref a, rfl, fun A H => .tup (.inr ⟨_, its, n, hl, rfl, rfl, h.2, r⟩) f.rp⟩
    · cases h
  · cases h
def entOkD (K : PySem.W.Frag) : List DictEntry → List (Int × PyData) → Bool
  | [], [] => true
  | e :: r, p :: t => decide (e.hash = hashInt p.1) && Value.isInt p.1 e.key && kval K e.val p.2 && entOkD K r t
  | _, _ => false
structure DTab (K : PySem.W.Frag) (d : Addr) (tab : List (Int × PyData)) : Prop where
  at_ : ∃ es n, K.lookup d = some ⟨.type "dict", none, .dict es n, #[]⟩ ∧ entOkD K es.toList tab = true
  low : (d == sysModules) = false
def getD' (tab : List (Int × PyData)) (i : Int) : Option PyData := (tab.find? fun p => decide (p.1 = i)).map (·.2)
@[simp] def dGetD (tab : List (Int × PyData)) : PyData → PyData → Option PyData
  | .int i, y => some (match getD' tab i with
    | some v => v
    | none => y)
  | _, _ => none
@[simp] def dIxD (tab : List (Int × PyData)) : PyData → Option PyData
  | .int i => getD' tab i
  | _ => none
@[simp] def dInD (tab : List (Int × PyData)) : PyData → Option PyData
  | .int i => some (.bool (getD' tab i).isSome)
  | _ => none
@[simp] def dNotInD (tab : List (Int × PyData)) : PyData → Option PyData
  | .int i => some (.bool (!(getD' tab i).isSome))
  | _ => none
section
variable {K : PySem.W.Frag}
theorem entOkD_cons {e : DictEntry} {r : List DictEntry} {p : Int × PyData} {t : List (Int × PyData)} (h : entOkD K (e :: r) (p :: t) = true) : e.hash = hashInt p.1 ∧ Value.isInt p.1 e.key = true ∧ kval K e.val p.2 = true ∧ entOkD K r t = true := by
  simp only [entOkD, Bool.and_eq_true, decide_eq_true_eq] at h
  exact ⟨h.1.1.1, h.1.1.2, h.1.2, h.2⟩
theorem entOkD_keys {P : Program} {w : World} : ∀ {es : List DictEntry} {tab : List (Int × PyData)}, entOkD K es tab = true → ∀ e ∈ es, ∃ k, (mixKind P w).is k e.key = true ∧ e.hash = (mixKind P w).hash k
  | [], [], _, e, he => by cases he
  | [], _ :: _, h, _, _ => by cases h
  | _ :: _, [], h, _, _ => by cases h
  | e :: r, p :: t, h, x, hx => by
    obtain ⟨h1, h2, h3, h4⟩ := entOkD_cons h
    rcases List.mem_cons.mp hx with rfl | hx
    · exact ⟨.inl p.1, h2, h1⟩
    · exact entOkD_keys h4 x hx
theorem entOkD_find {P : Program} {w : World} : ∀ {es : List DictEntry} {tab : List (Int × PyData)} (i : Int), entOkD K es tab = true →
    match getD' tab i with
    | some d => ∃ v, (es.find? fun e => (mixKind P w).is (.inl i) e.key).map (·.val) = some v ∧ kval K v d = true
    | none => (es.find? fun e => (mixKind P w).is (.inl i) e.key).map (·.val) = none
  | [], [], i, _ => rfl
  | [], _ :: _, _, h => by cases h
  | _ :: _, [], _, h => by cases h
  | e :: r, p :: t, i, h => by
    obtain ⟨h1, h2, h3, h4⟩ := entOkD_cons h
    have ih := entOkD_find (P := P) (w := w) i h4
    obtain ⟨tk, ek⟩ := Value.isInt_shape h2
    unfold getD' at ih ⊢
    by_cases c : p.1 = i
    · have e1 : (mixKind P w).is (.inl i) e.key = true := by rw [ek, ← c]; exact mixKind_int P w p.1 tk
      rw [List.find?_cons_of_pos (by simpa using c), List.find?_cons_of_pos (p := fun e : DictEntry => (mixKind P w).is (.inl i) e.key) e1]
      exact ⟨_, rfl, h3⟩
    · have e1 : ¬ (mixKind P w).is (.inl i) e.key = true := by
        rw [ek]
        intro z
        have z' : Value.isInt i (Value.int p.1 tk) = true := z
        obtain ⟨t2, e2⟩ := Value.isInt_shape z'
        cases e2
        exact c rfl
      rw [List.find?_cons_of_neg (by simpa using c), List.find?_cons_of_neg (p := fun e : DictEntry => (mixKind P w).is (.inl i) e.key) e1]
      exact ih
end
section
variable {X : Cx} {d : Addr} {tab : List (Int × PyData)} {o a b e e2 : Expr} {apos cpos pos : Pos} {f g : EF}
theorem dtab_map (D : DTab X.K d tab) {pins : List (Addr × Obj)} {σ : L2.St} {H : Hp} {s : Shared} (I : L2.Inv X pins σ H s) : ∃ m : Key → Option Value, s.heap.MapOf (mixKind X.prog X.w) d m ∧ ∀ i : Int, (match getD' tab i with
    | some d => ∃ v, m (.inl i) = some v ∧ kval X.K v d = true
    | none => m (.inl i) = none) := by
  obtain ⟨es, n, hl, hk⟩ := D.at_
  refine ⟨fun k => findBy (mixKind X.prog X.w).is es k, ⟨_, es, n, I.kIn _ _ hl, ⟨rfl, rfl, rfl⟩, rfl, fun x hx => entOkD_keys hk x (Array.mem_toList_iff.mpr hx), fun _ => rfl⟩, fun i => ?_⟩
  have h := entOkD_find (P := X.prog) (w := X.w) i hk
  obtain ⟨l⟩ := es
  have q : findBy (mixKind X.prog X.w).is (Array.mk l) (.inl i) = (l.find? fun e => (mixKind X.prog X.w).is (.inl i) e.key).map (·.val) := by
    unfold findBy
    rw [List.find?_toArray]
  dsimp only
  rw [q]
  exact h
/-- what is handed back, as a value -/
def rGetD (K : PySem.W.Frag) (tab : List (Int × PyData)) : V → V → Hp → VK → Prop := fun y z H Q => ∃ i : Int, y = .int i ∧ (match getD' tab i with
  | some d => ∀ v, (∀ A H, Rp K A H v d) → Q v H
  | none => Q z H)
theorem pe_getD2 {ty tx : TE} (D : DTab X.K d tab) (ho : PE X o (tC (.ref d))) (he : PE X e ty) (hf : PE X e2 tx) (m : M2 X o "get" apos e e2 cpos) : PE X (.Call (.Attribute o "get" apos) [e, e2] [] cpos) (fun σ H Q => ty σ H fun y H2 => tx σ H2 fun z H3 => rGetD X.K tab y z H3 Q) := by
  refine ⟨fun pins s σ H Q I h => ?_⟩
  refine wpAny_Call_method m.base m.few m.line PySem.F.plainAttrs_dict PySem.F.slot_dict_get PySem.F.type_dict_get (thn (ho.run pins s σ H (fun x H1 => x = .ref d ∧ ty σ H1 fun y H2 => tx σ H2 fun z H3 => rGetD X.K tab y z H3 Q) I ⟨rfl, h⟩) fun u s1 ⟨x, H1, I1, rx, ex, q1⟩ => ?_)
  subst ex
  obtain rfl : u = Value.ref d := rx
  obtain ⟨mf, hm, _⟩ := dtab_map D I1
  refine ⟨hm.typeIs, fun b q => ?_, ?_⟩
  · cases q
    obtain ⟨ob, _, _, h1, h2, _⟩ := hm
    exact ⟨ob, h1, h2.2.1⟩
  rw [m.trees]
  refine Calls.callWith_builtin rfl (Calls.evalArgs_plain (Calls.spliced_cons (thn (he.run pins s1 σ H1 _ I1 q1) fun iv s2 ⟨y, H2, I2, ry, q2⟩ =>
    Calls.spliced_cons (thn (hf.run pins s2 σ H2 _ I2 q2) fun fv s3 ⟨z, H3, I3, rz, i, ei, q3⟩ => Calls.spliced_nil ?_))))
  subst ei
  obtain ⟨mf, hm, hmi⟩ := dtab_map D I3
  obtain ⟨t, rfl⟩ := ry
  refine call_meetsIn PySem.F.slot_dict_get hm.typeIs PySem.F.entry_dict_get (PySem.F.args_dict_get_3 _ _ _) (meets_dict_get_default (mixKind X.prog X.w) d (mixKind_int X.prog X.w i t) D.low fv) ⟨_, hm, ?_⟩
  have hi := hmi i
  cases hg : getD' tab i with
  | some v =>
    rw [hg] at hi q3
    obtain ⟨v2, e2, hk⟩ := hi
    rw [e2]
    obtain ⟨x, rx, rp⟩ := kval_ok hk
    exact ⟨x, H3, I3.tok _, rx, q3 x rp⟩
  | none =>
    rw [hg] at hi q3
    rw [hi]
    exact ⟨z, H3, I3.tok _, rz, q3⟩
theorem os_getD {K : PySem.W.Frag} : OpS K (rGetD K tab) (dGetD tab) := by
  intro c ρ σ H v1 v2 x y d Q R r1 r2 ho q
  match x, ho, r1 with
  | .int i, ho, r1 =>
    cases ho
    cases r1
    refine ⟨i, rfl, ?_⟩
    cases hg : getD' tab i with
    | some v => exact fun v' r => q v' H R (by rw [hg]; exact r _ _) fun _ _ h => h
    | none => exact q _ H R (by rw [hg]; exact r2) fun _ _ h => h
theorem ev_getD2 (D : DTab X.K d tab) (ho : PE X o (tC (.ref d))) (he : PE X e (tE X.K f)) (hf : PE X e2 (tE X.K g)) (m : M2 X o "get" apos e e2 cpos) : PE X (.Call (.Attribute o "get" apos) [e, e2] [] cpos) (tE X.K (eBin (dGetD tab) f g)) :=
  pe_of (pe_getD2 D ho he hf m) (rd_bin os_getD)
theorem ix_D (D : DTab X.K d tab) : IxR X (fun x y H Q => ∃ (i : Int) (z : PyData), x = .ref d ∧ y = .int i ∧ getD' tab i = some z ∧ ∀ v, (∀ A H, Rp X.K A H v z) → Q v H) := by
  intro value slice pins s σ H x y v u Q I rx ry h hs
  obtain ⟨i, w, rfl, rfl, e, q⟩ := h
  cases rx
  obtain ⟨t, rfl⟩ := ry
  obtain ⟨mf, hm, hi⟩ := dtab_map D I
  have hi := hi i
  rw [e] at hi
  obtain ⟨v2, e2, hk⟩ := hi
  obtain ⟨x, rx, rp⟩ := kval_ok hk
  exact tail_any hm.typeIs slot_dict_getitem.lookup (wpAny_getItem_of (mixKind_int X.prog X.w i t) hm e2 ⟨x, H, I.tok _, rx, q x rp⟩) hs
theorem ev_ixD (D : DTab X.K d tab) (ha : PE X a (tC (.ref d))) (hb : PE X b (tE X.K f)) (hs : PlainIx b) : PE X (.Subscript a b pos) (tE X.K (eUn (dIxD tab) f)) :=
  pe_of (pe_ix (ix_D D) ha hb hs) fun σ H Q ⟨c, ρ, z, ρ', R, e, q⟩ => by
    obtain ⟨x, h1, h2⟩ := un_inv e
    refine ⟨c, ρ, x, ρ', R, h1, fun v1 H1 R1 r1 m1 => ?_⟩
    match x, h2, r1 with
    | .int i, h2, r1 =>
      cases r1
      exact ⟨i, z, rfl, rfl, h2, fun v r => q _ H1 R1 (r _ _) m1⟩
end
end PG
end
section
set_option Elab.async false
set_option linter.all false
set_option maxRecDepth 100000
set_option maxHeartbeats 1000000
namespace PG
open PySem PySem.Spec PyProof.Rows L2 GenW GxR
/-! ### slices of tuples and of texts; tuples of the module -/
section
variable {X : Cx} {a : Expr} {f : EF} {pos : Pos}
@[simp] def eSlX (f : EF) (lo hi : Option EF) : EF := fun ρ => match f ρ with
  | some (.tuple xs, ρ1) => (match oE lo ρ1 with
    | some (l, ρ2) => (match oE hi ρ2 with
      | some (u, ρ3) => some (.tuple (cutD xs l u), ρ3)
      | none => none)
    | none => none)
  | some (.str z, ρ1) => (match oE lo ρ1 with
    | some (l, ρ2) => (match oE hi ρ2 with
      | some (u, ρ3) => if z.length ≤ 16777216 then some (.str (cutS z l u), ρ3) else none
      | none => none)
    | none => none)
  | _ => none
theorem ev_slX {lo hi : Option Expr} {l u : Option EF} {p2 : Pos} (ha : PE X a (tE X.K f)) (hl : PO X lo (tO X.K l)) (hu : PO X hi (tO X.K u)) : PE X (.Subscript a (.Slice lo hi none p2) pos) (tE X.K (eSlX f l u)) :=
  pe_of (pe_slice (SlR.or sl_tupA sl_str) ha hl hu) fun σ H Q ⟨c, ρ, d, ρ', R, e, q⟩ => by
    unfold eSlX at e
    split at e
    · rename_i xs ρ1 h1
      split at e
      · rename_i l' ρ2 h2
        split at e
        · rename_i u' ρ3 h3
          obtain ⟨e1, e2⟩ := so e
          subst e1 e2
          refine ⟨c, ρ, _, ρ1, R, h1, fun v H1 R1 r1 m1 => ⟨c, ρ1, l', ρ2, R1, h2, fun H2 R2 m2 => ⟨c, ρ2, u', ρ3, R2, h3, fun H3 R3 m3 => .inl ?_⟩⟩⟩
          cases r1.mv (m2.trans m3) with
          | @tup p us _ ll al =>
            have mm := (m1.trans m2).trans m3
            refine ⟨p, us, rfl, ll.sq, fun hw => ?_, fun hw p2 hp => ?_⟩
            · have ec : cutD xs l' u' = xs := by
                have e1 : ∀ n d o, sIxD n d o = HT.sIx n d o := fun n d o => by cases o <;> rfl
                unfold cutD
                rw [← al.length, e1, e1, hw.1, hw.2, al.length]
                simp
              rw [ec] at q
              exact q _ H3 R3 (.tup ll al) mm
            · exact q _ _ (R3.alloc hp).1 (R3.newTup hp (cut_rp al l' u')) (mm.trans (R3.mvG (kp_upd hp)))
        · cases e
      · cases e
    · rename_i z ρ1 h1
      split at e
      · rename_i l' ρ2 h2
        split at e
        · rename_i u' ρ3 h3
          split at e
          · rename_i hz
            obtain ⟨e1, e2⟩ := so e
            subst e1 e2
            refine ⟨c, ρ, _, ρ1, R, h1, fun v H1 R1 r1 m1 => ⟨c, ρ1, l', ρ2, R1, h2, fun H2 R2 m2 => ⟨c, ρ2, u', ρ3, R2, h3, fun H3 R3 m3 => .inr ?_⟩⟩⟩
            cases r1.mv (m2.trans m3) with
            | str =>
              exact ⟨z, rfl, by simpa [sl16] using hz, q _ H3 R3 (.str _) ((m1.trans m2).trans m3)⟩
          · cases e
        · cases e
      · cases e
    · cases e
/-- a tuple of the module: whole numbers and texts -/
structure KTab (K : PySem.W.Frag) (d : Addr) (ds : List PyData) : Prop where
  at_ : ∃ its n, K.lookup d = some ⟨.type "tuple", none, .seq its n, #[]⟩ ∧ flatOk its.toList ds = true
  low : ds.length ≤ 1000
theorem KTab.tup {K : PySem.W.Frag} {d : Addr} {ds : List PyData} (D : KTab K d ds) (A : Addr → Prop) (H : Hp) : Rp K A H (.ref d) (.tuple ds) := by
  obtain ⟨its, n, hl, hf⟩ := D.at_
  obtain ⟨a, b, c⟩ := flatA_of hf
  have := D.low
  exact .tup (.inr ⟨_, its, n, hl, rfl, rfl, by rw [← Array.length_toList, c, sl16]; omega, b⟩) a.rp
theorem ev_kt {X : Cx} {d : Addr} {ds : List PyData} {e : Expr} (D : KTab X.K d ds) (h : PE X e (tC (.ref d))) : PE X e (tE X.K (eC (.tuple ds))) := ev_c h fun A H => D.tup A H
end
end PG
end
section
set_option Elab.async false
set_option linter.all false
set_option maxRecDepth 100000
namespace PG
open PySem
/-! ### what is wanted of a part, and what it then wants of its own parts -/
def WS (f : SF) (ρ : Rho) (Q : Out → Rho → Prop) : Prop := ∃ o ρ', f ρ = some (o, ρ') ∧ Q o ρ'
def WE (f : EF) (ρ : Rho) (Q : PyData → Rho → Prop) : Prop := ∃ d ρ', f ρ = some (d, ρ') ∧ Q d ρ'
def WN (f : NF) (ρ : Rho) (Q : List PyData → Rho → Prop) : Prop := ∃ d ρ', f ρ = some (d, ρ') ∧ Q d ρ'
def WT (f : TF) (ρ : Rho) (Q : Bool → Rho → Prop) : Prop := ∃ d ρ', f ρ = some (d, ρ') ∧ Q d ρ'
def WO (f : Option EF) (ρ : Rho) (Q : Option Int → Rho → Prop) : Prop := ∃ d ρ', oE f ρ = some (d, ρ') ∧ Q d ρ'
def WG (g : GF) (d : PyData) (ρ : Rho) (Q : Rho → Prop) : Prop := ∃ ρ', g d ρ = some ρ' ∧ Q ρ'
/-- an answer is there, and it is as wanted -/
def WA (x : Option PyData) (Q : PyData → Prop) : Prop := ∃ z, x = some z ∧ Q z
def WL (x : Option (List PyData)) (Q : List PyData → Prop) : Prop := ∃ z, x = some z ∧ Q z
def WP (x : Option (PyData × List PyData)) (Q : PyData → List PyData → Prop) : Prop := ∃ z ps, x = some (z, ps) ∧ Q z ps
def WB (x : Option Bool) (Q : Bool → Prop) : Prop := ∃ z, x = some z ∧ Q z
theorem WA.mono {x : Option PyData} {Q R : PyData → Prop} (h : WA x Q) (k : ∀ z, Q z → R z) : WA x R := let ⟨z, e, q⟩ := h; ⟨z, e, k z q⟩
theorem WL.mono {x : Option (List PyData)} {Q R : List PyData → Prop} (h : WL x Q) (k : ∀ z, Q z → R z) : WL x R := let ⟨z, e, q⟩ := h; ⟨z, e, k z q⟩
theorem WP.mono {x : Option (PyData × List PyData)} {Q R : PyData → List PyData → Prop} (h : WP x Q) (k : ∀ z ps, Q z ps → R z ps) : WP x R := let ⟨z, ps, e, q⟩ := h; ⟨z, ps, e, k z ps q⟩
theorem WS.mono {f : SF} {ρ : Rho} {Q R : Out → Rho → Prop} (h : WS f ρ Q) (k : ∀ o ρ', Q o ρ' → R o ρ') : WS f ρ R := let ⟨o, r, e, q⟩ := h; ⟨o, r, e, k _ _ q⟩
theorem WE.mono {f : EF} {ρ : Rho} {Q R : PyData → Rho → Prop} (h : WE f ρ Q) (k : ∀ o ρ', Q o ρ' → R o ρ') : WE f ρ R := let ⟨o, r, e, q⟩ := h; ⟨o, r, e, k _ _ q⟩
theorem WN.mono {f : NF} {ρ : Rho} {Q R : List PyData → Rho → Prop} (h : WN f ρ Q) (k : ∀ o ρ', Q o ρ' → R o ρ') : WN f ρ R := let ⟨o, r, e, q⟩ := h; ⟨o, r, e, k _ _ q⟩
theorem WT.mono {f : TF} {ρ : Rho} {Q R : Bool → Rho → Prop} (h : WT f ρ Q) (k : ∀ o ρ', Q o ρ' → R o ρ') : WT f ρ R := let ⟨o, r, e, q⟩ := h; ⟨o, r, e, k _ _ q⟩
theorem wa_eq {x : Option PyData} {e : PyData} {Q : PyData → Prop} (h : x = some e) (q : Q e) : WA x Q := ⟨e, h, q⟩
theorem wl_eq {x : Option (List PyData)} {e : List PyData} {Q : List PyData → Prop} (h : x = some e) (q : Q e) : WL x Q := ⟨e, h, q⟩
theorem wp_eq {x : Option (PyData × List PyData)} {e : PyData} {ps : List PyData} {Q : PyData → List PyData → Prop} (h : x = some (e, ps)) (q : Q e ps) : WP x Q := ⟨e, ps, h, q⟩
theorem wb_eq {x : Option Bool} {e : Bool} {Q : Bool → Prop} (h : x = some e) (q : Q e) : WB x Q := ⟨e, h, q⟩
theorem of_wa {x : Option PyData} {e : PyData} (h : WA x (· = e)) : x = some e := by obtain ⟨z, h, rfl⟩ := h; exact h
theorem of_wl {x : Option (List PyData)} {e : List PyData} (h : WL x (· = e)) : x = some e := by obtain ⟨z, h, rfl⟩ := h; exact h

section
variable {ρ : Rho}
/-! slots that are stored -/
def PlainC (x : Option Cell) : Prop := x = none ∨ ∃ d, x = some (.v d)
inductive SetR : Nat → PyData → Rho → Rho → Prop
  | h0 {d : PyData} {r : Rho} : SetR 0 d (none :: r) (some (.v d) :: r)
  | h1 {d x : PyData} {r : Rho} : SetR 0 d (some (.v x) :: r) (some (.v d) :: r)
  | hl {d : PyData} {xs : List PyData} {r : Rho} : SetR 0 d (some (.l false xs) :: r) (some (.v d) :: r)
  | hc {d : PyData} {c : Option Cell} {r : Rho} : PlainC c → SetR 0 d (c :: r) (some (.v d) :: r)
  | s {i : Nat} {d : PyData} {c : Option Cell} {r r' : Rho} : SetR i d r r' → SetR (i + 1) d (c :: r) (c :: r')
inductive SetLR : Nat → List PyData → Rho → Rho → Prop
  | h0 {d : List PyData} {r : Rho} : SetLR 0 d (none :: r) (some (.l false d) :: r)
  | h1 {d : List PyData} {x : PyData} {r : Rho} : SetLR 0 d (some (.v x) :: r) (some (.l false d) :: r)
  | hl {d xs : List PyData} {r : Rho} : SetLR 0 d (some (.l false xs) :: r) (some (.l false d) :: r)
  | s {i : Nat} {d : List PyData} {c : Option Cell} {r r' : Rho} : SetLR i d r r' → SetLR (i + 1) d (c :: r) (c :: r')
/-- an owned list in its slot is another one -/
inductive PutR : Nat → List PyData → Rho → List PyData → Rho → Prop
  | h {p : Bool} {ds ds' : List PyData} {r : Rho} : PutR 0 ds (some (.l p ds) :: r) ds' (some (.l p ds') :: r)
  | s {i : Nat} {ds ds' : List PyData} {c : Option Cell} {r r' : Rho} : PutR i ds r ds' r' → PutR (i + 1) ds (c :: r) ds' (c :: r')
theorem SetR.eq : ∀ {i : Nat} {d : PyData} {r r' : Rho}, SetR i d r r' → setV i d r = some r'
  | _, _, _, _, .h0 => rfl
  | _, _, _, _, .h1 => rfl
  | _, _, _, _, .hl => rfl
  | _, _, _, _, .hc h => by rcases h with rfl | ⟨x, rfl⟩ <;> rfl
  | _, _, _, _, .s (i := i) (c := c) (r := r) h => by
    have := h.eq
    unfold setV at this ⊢
    rw [List.getElem?_cons_succ]
    split at this
    · cases this
    · cases this
    · rename_i x q1 q2
      cases e : r[i]? with
      | none => exact absurd e q1
      | some y =>
        cases y with
        | none => rw [e] at *; simp at this ⊢; exact this
        | some y =>
          cases y with
          | v y => rw [e] at *; simp at this ⊢; exact this
          | l p y =>
            cases p with
            | true => exact absurd e (q2 y)
            | false => rw [e] at *; simp at this ⊢; exact this
theorem SetLR.eq : ∀ {i : Nat} {d : List PyData} {r r' : Rho}, SetLR i d r r' → setL i d r = some r'
  | _, _, _, _, .h0 => rfl
  | _, _, _, _, .h1 => rfl
  | _, _, _, _, .hl => rfl
  | _, _, _, _, .s (i := i) (c := c) (r := r) h => by
    have := h.eq
    unfold setL at this ⊢
    rw [List.getElem?_cons_succ]
    split at this
    · cases this
    · cases this
    · rename_i x q1 q2
      cases e : r[i]? with
      | none => exact absurd e q1
      | some y =>
        cases y with
        | none => rw [e] at *; simp at this ⊢; exact this
        | some y =>
          cases y with
          | v y => rw [e] at *; simp at this ⊢; exact this
          | l p y =>
            cases p with
            | true => exact absurd e (q2 y)
            | false => rw [e] at *; simp at this ⊢; exact this
theorem PutR.get {i : Nat} {ds ds' : List PyData} {r r' : Rho} (h : PutR i ds r ds' r') : ∃ p, r[i]? = some (some (.l p ds)) ∧ r.set i (some (.l p ds')) = r' := by
  induction h with
  | h => exact ⟨_, rfl, rfl⟩
  | s h ih =>
    obtain ⟨p, e1, e2⟩ := ih
    exact ⟨p, by rw [List.getElem?_cons_succ]; exact e1, by rw [List.set_cons_succ, e2]⟩

/-! expressions -/
variable {Q : PyData → Rho → Prop} {f g h : EF} {n m : NF} {t u : TF}
theorem we_name {i : Nat} {d : PyData} (hget : ρ[i]? = some (some (.v d))) (q : Q d ρ) : WE (eName i) ρ Q := ⟨d, ρ, by simp [hget], q⟩
theorem we_frz {i : Nat} {ds : List PyData} {ρ' : Rho} (hget : ρ[i]? = some (some (.l false ds))) (hset : SetR i (.list ds) ρ ρ') (q : Q (.list ds) ρ') : WE (eFrz i) ρ Q := by
  refine ⟨.list ds, ρ', ?_, q⟩
  have := hset.eq
  simp only [setV, hget, Option.some.injEq] at this
  simp [hget, this]
theorem we_c {d : PyData} (q : Q d ρ) : WE (eC d) ρ Q := ⟨d, ρ, rfl, q⟩
theorem we_un {o : PyData → Option PyData} (w : WE f ρ fun x ρ1 => WA (o x) fun z => Q z ρ1) : WE (eUn o f) ρ Q := by
  obtain ⟨x, r, e, z, e2, q⟩ := w
  exact ⟨z, r, by simp [e, e2], q⟩
theorem we_bin {o : PyData → PyData → Option PyData} (w : WE f ρ fun x ρ1 => WE g ρ1 fun y ρ2 => WA (o x y) fun z => Q z ρ2) : WE (eBin o f g) ρ Q := by
  obtain ⟨x, r, e, y, r2, e2, z, e3, q⟩ := w
  exact ⟨z, r2, by simp [e, e2, e3], q⟩
theorem we_if (w : WT t ρ fun b ρ1 => (b = true → WE f ρ1 Q) ∧ (b = false → WE g ρ1 Q)) : WE (eIf t f g) ρ Q := by
  obtain ⟨b, r, e, q1, q2⟩ := w
  cases b with
  | true => obtain ⟨z, r2, e2, q⟩ := q1 rfl; exact ⟨z, r2, by simp [e, e2], q⟩
  | false => obtain ⟨z, r2, e2, q⟩ := q2 rfl; exact ⟨z, r2, by simp [e, e2], q⟩
theorem we_tup (w : WN n ρ fun xs ρ1 => xs.length ≤ 16777216 ∧ Q (.tuple xs) ρ1) : WE (eTup n) ρ Q := by
  obtain ⟨x, r, e, z, q⟩ := w
  exact ⟨_, r, by simp [e, z], q⟩
theorem we_lst (w : WN n ρ fun xs ρ1 => Q (.list xs) ρ1) : WE (eLst n) ρ Q := by
  obtain ⟨x, r, e, q⟩ := w
  exact ⟨_, r, by simp [e], q⟩
theorem we_call {F : List PyData → Option PyData} (w : WN n ρ fun xs ρ1 => WA (F xs) fun z => Q z ρ1) : WE (eCall F n) ρ Q := by
  obtain ⟨x, r, e, z, e2, q⟩ := w
  exact ⟨z, r, by simp [e, e2], q⟩
theorem PutR.uniq {i : Nat} {ds ds' : List PyData} {r r' : Rho} {p : Bool} {es : List PyData} (h : PutR i ds r ds' r') (e : r[i]? = some (some (.l p es))) : es = ds ∧ r.set i (some (.l p ds')) = r' := by
  obtain ⟨q, e1, e2⟩ := h.get
  rw [e1] at e
  cases e
  exact ⟨rfl, e2⟩
theorem we_callL {F : List PyData → List PyData → Option (PyData × List PyData)} {i : Nat} {p0 : Bool} {ps0 : List PyData} (hget : ρ[i]? = some (some (.l p0 ps0)))
    (w : WN n ρ fun xs ρ1 => ∃ p ps, ρ1[i]? = some (some (.l p ps)) ∧ WP (F ps xs) fun z ps' => ∃ ρ2, PutR i ps ρ1 ps' ρ2 ∧ Q z ρ2) : WE (eCallL F i n) ρ Q := by
  obtain ⟨x, r, e, p, ps, h1, z, ps', e2, r2, hp, q⟩ := w
  refine ⟨z, r2, ?_, q⟩
  simp [hget, e, h1, e2, (hp.uniq h1).2]
theorem wn_callL {F : List PyData → List PyData → Option (List PyData × List PyData)} {i : Nat} {p0 : Bool} {ps0 : List PyData} {R : List PyData → Rho → Prop} (hget : ρ[i]? = some (some (.l p0 ps0)))
    (w : WN n ρ fun xs ρ1 => ∃ p ps, ρ1[i]? = some (some (.l p ps)) ∧ ∃ z ps', F ps xs = some (z, ps') ∧ ∃ ρ2, PutR i ps ρ1 ps' ρ2 ∧ R z ρ2) : WN (nCallL F i n) ρ R := by
  obtain ⟨x, r, e, p, ps, h1, z, ps', e2, r2, hp, q⟩ := w
  refine ⟨z, r2, ?_, q⟩
  simp [hget, e, h1, e2, (hp.uniq h1).2]
theorem we_ixL {o : PyData → PyData → Option PyData} {i : Nat} {p0 : Bool} {ps0 : List PyData} (hget : ρ[i]? = some (some (.l p0 ps0))) (w : WE g ρ fun y ρ1 => ∃ p ps, ρ1[i]? = some (some (.l p ps)) ∧ WA (o (.list ps) y) fun z => Q z ρ1) : WE (eIxL o i g) ρ Q := by
  obtain ⟨x, r, e, p, ps, h1, z, e2, q⟩ := w
  exact ⟨z, r, by simp [hget, e, h1, e2], q⟩
theorem we_unL {o : PyData → Option PyData} {i : Nat} {p0 : Bool} {ps0 : List PyData} (hget : ρ[i]? = some (some (.l p0 ps0))) (w : WA (o (.list ps0)) fun z => Q z ρ) : WE (eUnL o i) ρ Q := by
  obtain ⟨z, e2, q⟩ := w
  exact ⟨z, ρ, by simp [hget, e2], q⟩
theorem we_and (w : WE f ρ fun x ρ1 => WB (truth x) fun b => (b = true → WE g ρ1 Q) ∧ (b = false → Q x ρ1)) : WE (eAnd f g) ρ Q := by
  obtain ⟨x, r, e, b, e2, q1, q2⟩ := w
  cases b with
  | true => obtain ⟨z, r2, e3, q⟩ := q1 rfl; exact ⟨z, r2, by simp [-truth, e, e2, e3], q⟩
  | false => exact ⟨x, r, by simp [-truth, e, e2], q2 rfl⟩
theorem we_or (w : WE f ρ fun x ρ1 => WB (truth x) fun b => (b = true → Q x ρ1) ∧ (b = false → WE g ρ1 Q)) : WE (eOr f g) ρ Q := by
  obtain ⟨x, r, e, b, e2, q1, q2⟩ := w
  cases b with
  | true => exact ⟨x, r, by simp [-truth, e, e2], q1 rfl⟩
  | false => obtain ⟨z, r2, e3, q⟩ := q2 rfl; exact ⟨z, r2, by simp [-truth, e, e2, e3], q⟩
theorem we_not (w : WE f ρ fun x ρ1 => WB (truth x) fun b => Q (.bool (!b)) ρ1) : WE (eNot f) ρ Q := by
  obtain ⟨x, r, e, b, e2, q⟩ := w
  exact ⟨_, r, by simp [-truth, e, e2], q⟩
theorem we_chain {o o' : PyData → PyData → Option PyData} (w : WE f ρ fun x ρ1 => WE g ρ1 fun y ρ2 => ∃ b, o x y = some (.bool b) ∧ (b = true → WE h ρ2 fun z ρ3 => ∃ c, o' y z = some (.bool c) ∧ Q (.bool c) ρ3) ∧ (b = false → Q (.bool false) ρ2)) : WE (eChain o o' f g h) ρ Q := by
  obtain ⟨x, r, e, y, r2, e2, b, e3, q1, q2⟩ := w
  cases b with
  | true => obtain ⟨z, r3, e4, c, e5, q⟩ := q1 rfl; exact ⟨_, r3, by simp [e, e2, e3, e4, e5], q⟩
  | false => exact ⟨_, r2, by simp [e, e2, e3], q2 rfl⟩
theorem we_slT {lo hi : Option EF} (w : WE f ρ fun x ρ1 => ∃ xs, x = .tuple xs ∧ WO lo ρ1 fun l ρ2 => WO hi ρ2 fun u ρ3 => Q (.tuple (cutD xs l u)) ρ3) : WE (eSlT f lo hi) ρ Q := by
  obtain ⟨x, r, e, xs, rfl, l, r2, e2, u, r3, e3, q⟩ := w
  exact ⟨_, r3, by simp [-oE, e, e2, e3], q⟩
theorem wo_none {Q : Option Int → Rho → Prop} (q : Q none ρ) : WO none ρ Q := ⟨_, _, rfl, q⟩
theorem wo_some {Q : Option Int → Rho → Prop} (w : WE f ρ fun x ρ1 => ∃ i, x = .int i ∧ Q (some i) ρ1) : WO (some f) ρ Q := by
  obtain ⟨x, r, e, i, rfl, q⟩ := w
  exact ⟨_, r, by simp [e], q⟩
/-! argument lists, new lists -/
variable {R : List PyData → Rho → Prop}
theorem wn_nil (q : R [] ρ) : WN nNil ρ R := ⟨_, _, rfl, q⟩
theorem wn_cons (w : WE f ρ fun x ρ1 => WN n ρ1 fun xs ρ2 => R (x :: xs) ρ2) : WN (nCons f n) ρ R := by
  obtain ⟨x, r, e, xs, r2, e2, q⟩ := w
  exact ⟨_, r2, by simp [e, e2], q⟩
theorem wn_star (w : WE f ρ fun x ρ1 => ∃ xs, (x = .list xs ∨ x = .tuple xs) ∧ WN n ρ1 fun ys ρ2 => R (xs ++ ys) ρ2) : WN (nStar f n) ρ R := by
  obtain ⟨x, r, e, xs, hx, ys, r2, e2, q⟩ := w
  refine ⟨_, r2, ?_, q⟩
  rcases hx with rfl | rfl <;> simp [e, e2]
theorem wn_disp (w : WN n ρ fun xs ρ1 => xs.length ≤ 16777216 ∧ R xs ρ1) : WN (nDisp n) ρ R := by
  obtain ⟨x, r, e, z, q⟩ := w
  exact ⟨_, r, by simp [e, z], q⟩
theorem wn_call {F : List PyData → Option (List PyData)} (w : WN n ρ fun xs ρ1 => WL (F xs) fun z => R z ρ1) : WN (nCall F n) ρ R := by
  obtain ⟨x, r, e, z, e2, q⟩ := w
  exact ⟨z, r, by simp [e, e2], q⟩
theorem wn_sl {lo hi : Option EF} (w : WE f ρ fun x ρ1 => ∃ xs, (x = .list xs ∨ x = RO xs) ∧ WO lo ρ1 fun l ρ2 => WO hi ρ2 fun u ρ3 => R (cutD xs l u) ρ3) : WN (nSl f lo hi) ρ R := by
  obtain ⟨x, r, e, xs, hx, l, r2, e2, u, r3, e3, q⟩ := w
  refine ⟨_, r3, ?_, q⟩
  rcases hx with rfl | rfl <;> simp [-oE, RO, e, e2, e3]
theorem wn_its (w : WE f ρ fun x ρ1 => ∃ xs, (x = .list xs ∨ x = .tuple xs ∨ x = RO xs) ∧ R xs ρ1) : WN (itS f) ρ R := by
  obtain ⟨x, r, e, xs, hx, q⟩ := w
  refine ⟨_, r, ?_, q⟩
  rcases hx with rfl | rfl | rfl <;> simp [RO, e]
theorem wn_r1 (w : WN n ρ fun xs ρ1 => ∃ j, xs = [.int j] ∧ in62 j = true ∧ R (rng 0 j.toNat) ρ1) : WN (itR1 n) ρ R := by
  obtain ⟨x, r, e, j, rfl, e2, q⟩ := w
  exact ⟨_, r, by simp [itR1, e, e2], q⟩
theorem wn_r2 (w : WN n ρ fun xs ρ1 => ∃ i j, xs = [.int i, .int j] ∧ in62 i = true ∧ in62 j = true ∧ R (rng i (j - i).toNat) ρ1) : WN (itR2 n) ρ R := by
  obtain ⟨x, r, e, i, j, rfl, e2, e3, q⟩ := w
  exact ⟨_, r, by simp [itR2, e, e2, e3], q⟩
theorem wn_r3 (w : WN n ρ fun xs ρ1 => ∃ j, xs = [.int 0, .int j, .int 2] ∧ 0 ≤ j ∧ j ≤ 16777216 ∧ R (stp 2 ((j + 1) / 2).toNat) ρ1) : WN (itR3 n) ρ R := by
  obtain ⟨x, r, e, j, rfl, e2, e3, q⟩ := w
  exact ⟨_, r, by simp [itR3, e, e2, e3], q⟩
/-! tests -/
variable {P : Bool → Rho → Prop}
theorem wt_tru (w : WE f ρ fun x ρ1 => WB (truth x) fun b => P b ρ1) : WT (tTru f) ρ P := by
  obtain ⟨x, r, e, b, e2, q⟩ := w
  exact ⟨b, r, by simp [-truth, e, e2], q⟩
theorem wt_bl (w : WE f ρ fun x ρ1 => ∃ b, x = .bool b ∧ P b ρ1) : WT (tBl f) ρ P := by
  obtain ⟨x, r, e, b, rfl, q⟩ := w
  exact ⟨b, r, by simp [e], q⟩
theorem wt_truL {i : Nat} {p : Bool} {ds : List PyData} (hget : ρ[i]? = some (some (.l p ds))) (q : P (!ds.isEmpty) ρ) : WT (tTruL i) ρ P := ⟨_, ρ, by simp [hget], q⟩
theorem wt_and (w : WT t ρ fun b ρ1 => (b = true → WT u ρ1 P) ∧ (b = false → P false ρ1)) : WT (tAnd' t u) ρ P := by
  obtain ⟨b, r, e, q1, q2⟩ := w
  cases b with
  | true => obtain ⟨z, r2, e2, q⟩ := q1 rfl; exact ⟨z, r2, by simp [e, e2], q⟩
  | false => exact ⟨_, r, by simp [e], q2 rfl⟩
theorem wt_or (w : WT t ρ fun b ρ1 => (b = true → P true ρ1) ∧ (b = false → WT u ρ1 P)) : WT (tOr' t u) ρ P := by
  obtain ⟨b, r, e, q1, q2⟩ := w
  cases b with
  | false => obtain ⟨z, r2, e2, q⟩ := q2 rfl; exact ⟨z, r2, by simp [e, e2], q⟩
  | true => exact ⟨_, r, by simp [e], q1 rfl⟩
theorem wt_not (w : WT t ρ fun b ρ1 => P (!b) ρ1) : WT (tNot' t) ρ P := by
  obtain ⟨b, r, e, q⟩ := w
  exact ⟨_, r, by simp [e], q⟩
theorem wt_yes (q : P true ρ) : WT tYesF ρ P := ⟨_, _, rfl, q⟩
/-! statements -/
variable {S : Out → Rho → Prop} {a b c : SF}
theorem ws_asc (w : WS (sSeq a (sSeq b c)) ρ S) : WS (sSeq (sSeq a b) c) ρ S := by
  obtain ⟨o, r, e, q⟩ := w
  refine ⟨o, r, ?_, q⟩
  simp only [sSeq] at e ⊢
  cases h : a ρ with
  | none => rw [h] at e; cases e
  | some x =>
    obtain ⟨oa, ra⟩ := x
    rw [h] at e
    cases oa <;> exact e
theorem ws_nilc (w : WS c ρ S) : WS (sSeq sNil c) ρ S := by
  obtain ⟨o, r, e, q⟩ := w
  exact ⟨o, r, by simpa using e, q⟩
theorem ws_nil (q : S .next ρ) : WS sNil ρ S := ⟨_, _, rfl, q⟩
theorem ws_set {i : Nat} (w : WE f ρ fun d ρ1 => ∃ ρ2, SetR i d ρ1 ρ2 ∧ WS c ρ2 S) : WS (sSeq (sSet i f) c) ρ S := by
  obtain ⟨d, r, e, r2, s, o, r3, e3, q⟩ := w
  exact ⟨o, r3, by simp [-setV, e, s.eq, e3], q⟩
theorem ws_setL {i : Nat} (w : WN n ρ fun d ρ1 => ∃ ρ2, SetLR i d ρ1 ρ2 ∧ WS c ρ2 S) : WS (sSeq (sSetL i n) c) ρ S := by
  obtain ⟨d, r, e, r2, s, o, r3, e3, q⟩ := w
  exact ⟨o, r3, by simp [-setL, e, s.eq, e3], q⟩
theorem ws_if (w : WT t ρ fun x ρ1 => (x = true → WS (sSeq a c) ρ1 S) ∧ (x = false → WS (sSeq b c) ρ1 S)) : WS (sSeq (sIf t a b) c) ρ S := by
  obtain ⟨x, r, e, q1, q2⟩ := w
  cases x with
  | true => obtain ⟨o, r2, e2, q⟩ := q1 rfl; exact ⟨o, r2, by simp only [sSeq, sIf, e] at e2 ⊢; exact e2, q⟩
  | false => obtain ⟨o, r2, e2, q⟩ := q2 rfl; exact ⟨o, r2, by simp only [sSeq, sIf, e] at e2 ⊢; exact e2, q⟩
theorem ws_ret (w : WE f ρ fun d ρ1 => S (.ret d) ρ1) : WS (sSeq (sRet f) c) ρ S := by
  obtain ⟨d, r, e, q⟩ := w
  exact ⟨_, r, by simp [e], q⟩
theorem ws_retL (w : WN n ρ fun d ρ1 => S (.retL d) ρ1) : WS (sSeq (sRetL n) c) ρ S := by
  obtain ⟨d, r, e, q⟩ := w
  exact ⟨_, r, by simp [e], q⟩
theorem ws_retO {i : Nat} {ds : List PyData} (hget : ρ[i]? = some (some (.l false ds))) (q : S (.retL ds) ρ) : WS (sSeq (sRetO i) c) ρ S := ⟨_, ρ, by simp [hget], q⟩
theorem ws_expr (w : WE f ρ fun d ρ1 => WS c ρ1 S) : WS (sSeq (sExpr f) c) ρ S := by
  obtain ⟨d, r, e, o, r2, e2, q⟩ := w
  exact ⟨o, r2, by simp [e, e2], q⟩
theorem ws_brk (q : S .brk ρ) : WS (sSeq sBrk c) ρ S := ⟨_, ρ, rfl, q⟩
theorem ws_cont (q : S .cont ρ) : WS (sSeq sCont c) ρ S := ⟨_, ρ, rfl, q⟩
theorem ws_app {i : Nat} {p0 : Bool} {ps0 : List PyData} (hget : ρ[i]? = some (some (.l p0 ps0))) (w : WE f ρ fun d ρ1 => ∃ ds, ds.length < 16777216 ∧ ∃ ρ2, PutR i ds ρ1 (ds ++ [d]) ρ2 ∧ WS c ρ2 S) : WS (sSeq (sApp i f) c) ρ S := by
  obtain ⟨d, r, e, ds, z, r2, s, o, r3, e3, q⟩ := w
  obtain ⟨p, g1, g2⟩ := s.get
  exact ⟨o, r3, by simp [hget, e, g1, z, g2, e3], q⟩
theorem ws_sto {i : Nat} (w : WE f ρ fun d ρ1 => ∃ p0 ps0, ρ1[i]? = some (some (.l p0 ps0)) ∧ WE g ρ1 fun k ρ2 => ∃ kk j ds, k = .int kk ∧ ixOf ds.length kk = some j ∧ ∃ ρ3, PutR i ds ρ2 (ds.set j d) ρ3 ∧ WS c ρ3 S) : WS (sSeq (sSto i g f) c) ρ S := by
  obtain ⟨d, r, e, p0, ps0, h1, k, r2, e2, kk, j, ds, rfl, ej, r3, s, o, r4, e4, q⟩ := w
  obtain ⟨p, g1, g2⟩ := s.get
  exact ⟨o, r4, by simp [e, h1, e2, g1, ej, g2, e4], q⟩
theorem ws_for {it : NF} {g : GF} (w : WN it ρ fun ds ρ1 => WS (sSeq (forL g b ds) c) ρ1 S) : WS (sSeq (sFor it g b) c) ρ S := by
  obtain ⟨ds, r, e, o, r2, e2, q⟩ := w
  exact ⟨o, r2, by simp only [sSeq, sFor, e] at e2 ⊢; exact e2, q⟩
theorem ws_asg {g : GF} (w : WE f ρ fun d ρ1 => WG g d ρ1 fun ρ2 => WS c ρ2 S) : WS (sSeq (sAsg f g) c) ρ S := by
  obtain ⟨d, r, e, r2, e2, o, r3, e3, q⟩ := w
  exact ⟨o, r3, by simp [e, e2, e3], q⟩
theorem ws_par {is : List Nat} (w : WN n ρ fun ds ρ1 => WG (fun _ => gPairs is ds) .none ρ1 fun ρ2 => WS c ρ2 S) : WS (sSeq (sPar is n) c) ρ S := by
  obtain ⟨d, r, e, r2, e2, o, r3, e3, q⟩ := w
  exact ⟨o, r3, by simp [e, e2, e3], q⟩
theorem ws_aug {i : Nat} {o : PyData → PyData → Option PyData} {x : PyData} (hget : ρ[i]? = some (some (.v x))) (w : WE f ρ fun y ρ1 => WA (o x y) fun z => ∃ ρ2, SetR i z ρ1 ρ2 ∧ WS c ρ2 S) : WS (sSeq (sAug i o f) c) ρ S := by
  obtain ⟨d, r, e, z, e2, r2, s, o, r3, e3, q⟩ := w
  exact ⟨o, r3, by simp [-setV, hget, e, e2, s.eq, e3], q⟩
/-! targets -/
variable {T : Rho → Prop}
theorem wg_set {i : Nat} {d : PyData} {ρ' : Rho} (hset : SetR i d ρ ρ') (q : T ρ') : WG (gSet i) d ρ T := ⟨_, hset.eq, q⟩
theorem wg_tup {is : List Nat} {ds : List PyData} (w : WG (fun _ => gPairs is ds) .none ρ T) : WG (gTupS is) (.tuple ds) ρ T := by
  obtain ⟨r, e, q⟩ := w
  exact ⟨r, by simpa using e, q⟩
theorem wg_p0 {x : PyData} (q : T ρ) : WG (fun _ => gPairs [] []) x ρ T := ⟨ρ, rfl, q⟩
theorem wg_ps {i : Nat} {is : List Nat} {d x : PyData} {ds : List PyData} {ρ' : Rho} (hset : SetR i d ρ ρ') (w : WG (fun _ => gPairs is ds) x ρ' T) : WG (fun _ => gPairs (i :: is) (d :: ds)) x ρ T := by
  obtain ⟨r, e, q⟩ := w
  exact ⟨r, by simp only [gPairs, hset.eq]; exact e, q⟩
/-! the loop over known items -/
theorem ws_forn {g : GF} (w : WS c ρ S) : WS (sSeq (forL g b []) c) ρ S := by
  obtain ⟨o, r, e, q⟩ := w
  exact ⟨o, r, by simpa [forL] using e, q⟩
/-- behind one turn -/
def Turn (g : GF) (b c : SF) (ds : List PyData) (S : Out → Rho → Prop) : Out → Rho → Prop
  | .next, ρ => WS (sSeq (forL g b ds) c) ρ S
  | .cont, ρ => WS (sSeq (forL g b ds) c) ρ S
  | .brk, ρ => WS c ρ S
  | o, ρ => S o ρ
theorem ws_forc {g : GF} {d : PyData} {ds : List PyData} (w : WG g d ρ fun ρ1 => WS b ρ1 (Turn g b c ds S)) : WS (sSeq (forL g b (d :: ds)) c) ρ S := by
  obtain ⟨r, e, o, r2, e2, q⟩ := w
  cases o with
  | next => obtain ⟨o, r3, e3, q⟩ := q; exact ⟨o, r3, by simp only [sSeq, forL, e, e2] at e3 ⊢; exact e3, q⟩
  | cont => obtain ⟨o, r3, e3, q⟩ := q; exact ⟨o, r3, by simp only [sSeq, forL, e, e2] at e3 ⊢; exact e3, q⟩
  | brk => obtain ⟨o, r3, e3, q⟩ := q; exact ⟨o, r3, by simp only [sSeq, forL, e, e2] at e3 ⊢; exact e3, q⟩
  | ret d => exact ⟨_, r2, by simp only [sSeq, forL, e, e2], q⟩
  | retL d => exact ⟨_, r2, by simp only [sSeq, forL, e, e2], q⟩
/-- the loop by an invariant: what is left, the state -/
theorem ws_inv {g : GF} (I : List PyData → Rho → Prop) : ∀ (ds : List PyData) (ρ : Rho), I ds ρ →
    (∀ d r ρ, I (d :: r) ρ → WG g d ρ fun ρ1 => WS b ρ1 fun o ρ2 => match o with
      | .next => I r ρ2
      | .cont => I r ρ2
      | .brk => WS c ρ2 S
      | o => S o ρ2) → (∀ ρ, I [] ρ → WS c ρ S) → WS (sSeq (forL g b ds) c) ρ S
  | [], ρ, h, _, hd => ws_forn (hd ρ h)
  | d :: r, ρ, h, hs, hd => by
    obtain ⟨r1, e1, o, r2, e2, q⟩ := hs d r ρ h
    refine ws_forc ⟨r1, e1, o, r2, e2, ?_⟩
    cases o with
    | next => exact ws_inv I r r2 q hs hd
    | cont => exact ws_inv I r r2 q hs hd
    | brk => exact q
    | ret d => exact q
    | retL d => exact q
/-! comprehensions -/
/-- a comprehension by an invariant: what is left, what is made, the state; its own slots are empty ahead of it -/
theorem wn_compI {it : NF} {g : GF} {e : EF} {vs : List Nat} (I : List PyData → List PyData → Rho → Prop)
    (w : WN it ρ fun ds ρ1 => plainAt ρ1 vs = true ∧ I ds [] (wipeR ρ1 vs) ∧
      (∀ d r acc ρ2, I (d :: r) acc ρ2 → WG g d ρ2 fun ρ3 => WT t ρ3 fun b ρ4 => (b = true → WE e ρ4 fun y ρ5 => plainAt ρ5 vs = true ∧ acc.length < 16777216 ∧ I r (acc ++ [y]) (wipeR ρ5 vs)) ∧ (b = false → plainAt ρ4 vs = true ∧ I r acc (wipeR ρ4 vs))) ∧
      ∀ acc ρ2, I [] acc ρ2 → R acc (restR ρ1 ρ2 vs)) : WN (nComp it g t e vs) ρ R := by
  obtain ⟨ds, r1, e1, hp, h0, hs, hd⟩ := w
  have key : ∀ (ds acc : List PyData) (ρ2 : Rho), I ds acc ρ2 → ∃ acc' ρ3, compL g t e vs ds acc ρ2 = some (acc', ρ3) ∧ I [] acc' ρ3 := by
    intro ds
    induction ds with
    | nil => intro acc ρ2 h; exact ⟨acc, ρ2, rfl, h⟩
    | cons d r ih =>
      intro acc ρ2 h
      obtain ⟨r3, f3, b, r4, f4, q1, q2⟩ := hs d r acc ρ2 h
      cases b with
      | true =>
        obtain ⟨y, r5, f5, p5, l5, i5⟩ := q1 rfl
        obtain ⟨acc', r6, f6, i6⟩ := ih _ _ i5
        exact ⟨acc', r6, by rw [compL]; simp [f3, f4, f5, p5, l5, f6], i6⟩
      | false =>
        obtain ⟨p5, i5⟩ := q2 rfl
        obtain ⟨acc', r6, f6, i6⟩ := ih _ _ i5
        exact ⟨acc', r6, by rw [compL]; simp [f3, f4, p5, f6], i6⟩
  obtain ⟨acc', r3, e3, i3⟩ := key ds [] _ h0
  exact ⟨acc', _, by unfold nComp; simp only [e1, hp, if_true, e3], hd acc' r3 i3⟩
/-- one that changes nothing: an item x is kept if k x, and gives m x; its own slots are empty ahead of it -/
theorem wn_map {it : NF} {g : GF} {e : EF} {vs : List Nat} {α : Type} (en : α → PyData) (k : α → Bool) (m : α → PyData) (l : List α)
    (w : WN it ρ fun ds ρ1 => ds = l.map en ∧ l.length ≤ 16777216 ∧ plainAt ρ1 vs = true ∧
      (∀ x ∈ l, WG g (en x) (wipeR ρ1 vs) fun ρ3 => WT t ρ3 fun b ρ4 => b = k x ∧ (k x = true → WE e ρ4 fun y ρ5 => y = m x ∧ plainAt ρ5 vs = true ∧ wipeR ρ5 vs = wipeR ρ1 vs) ∧ (k x = false → plainAt ρ4 vs = true ∧ wipeR ρ4 vs = wipeR ρ1 vs)) ∧
      R ((l.filter k).map m) (restR ρ1 (wipeR ρ1 vs) vs)) : WN (nComp it g t e vs) ρ R := by
  obtain ⟨ds, r1, e1, rfl, hl, hp, hx, hd⟩ := w
  refine wn_compI (fun ds acc ρ2 => ∃ l2 l1, l = l1 ++ l2 ∧ ds = l2.map en ∧ acc = (l1.filter k).map m ∧ ρ2 = wipeR r1 vs) ⟨_, r1, e1, hp, ⟨l, [], rfl, rfl, rfl, rfl⟩, ?_, ?_⟩
  · rintro d r acc ρ2 ⟨l2, l1, el, ed, rfl, rfl⟩
    cases l2 with
    | nil => cases ed
    | cons x l2 =>
      simp only [List.map_cons, List.cons.injEq] at ed
      obtain ⟨rfl, rfl⟩ := ed
      obtain ⟨r3, f3, b, r4, f4, hb, q1, q2⟩ := hx x (by rw [el]; simp)
      refine ⟨r3, f3, b, r4, f4, fun hb1 => ?_, fun hb1 => ?_⟩
      · rw [hb] at hb1
        obtain ⟨y, r5, f5, rfl, p5, w5⟩ := q1 hb1
        refine ⟨_, r5, f5, p5, ?_, l2, l1 ++ [x], by simp [el], rfl, by simp [hb1], w5⟩
        have h1 := List.length_filter_le k l1
        have h2 : l1.length + (l2.length + 1) = l.length := by rw [el]; simp
        simp only [List.length_map]
        omega
      · rw [hb] at hb1
        obtain ⟨p5, w5⟩ := q2 hb1
        exact ⟨p5, l2, l1 ++ [x], by simp [el], rfl, by simp [hb1], w5⟩
  · rintro acc ρ2 ⟨l2, l1, el, ed, rfl, rfl⟩
    have : l2 = [] := by cases l2 with
      | nil => rfl
      | cons _ _ => cases ed
    subst this
    rw [List.append_nil] at el
    subst el
    exact hd
/-- one whose parts change nothing but its own slots: each item is kept if c, and gives m -/
theorem wn_comp {it : NF} {g : GF} {e : EF} {vs : List Nat} {α : Type} (en : α → PyData) (k : α → Bool) (m : α → PyData)
    (w : WN it ρ fun ds ρ1 => ∃ l : List α, ds = l.map en ∧ l.length ≤ 16777216 ∧ plainAt ρ1 vs = true ∧
      (∀ x ∈ l, ∃ ρ2, g (en x) (wipeR ρ1 vs) = some ρ2 ∧ t ρ2 = some (k x, ρ2) ∧ (k x = true → e ρ2 = some (m x, ρ2)) ∧ plainAt ρ2 vs = true ∧ wipeR ρ2 vs = wipeR ρ1 vs) ∧
      restR ρ1 (wipeR ρ1 vs) vs = ρ1 ∧ R ((l.filter k).map m) ρ1) : WN (nComp it g t e vs) ρ R := by
  obtain ⟨ds, r1, e1, l, rfl, hl, hp, hx, hr, q⟩ := w
  refine ⟨_, r1, ?_, q⟩
  have key : ∀ (l : List α) (acc : List PyData), acc.length + l.length ≤ 16777216 → (∀ x ∈ l, ∃ ρ2, g (en x) (wipeR r1 vs) = some ρ2 ∧ t ρ2 = some (k x, ρ2) ∧ (k x = true → e ρ2 = some (m x, ρ2)) ∧ plainAt ρ2 vs = true ∧ wipeR ρ2 vs = wipeR r1 vs) →
      compL g t e vs (l.map en) acc (wipeR r1 vs) = some (acc ++ (l.filter k).map m, wipeR r1 vs) := by
    intro l
    induction l with
    | nil => intro acc _ _; simp [compL]
    | cons x l ih =>
      intro acc ha hx
      obtain ⟨r2, f1, f2, f3, f4, f5⟩ := hx x (by simp)
      simp only [List.length_cons] at ha
      cases hk : k x with
      | false => rw [List.map_cons, compL]; simp [f1, f2, hk, f4, f5, ih acc (by omega) fun y hy => hx y (by simp [hy])]
      | true =>
        have := ih (acc ++ [m x]) (by simp; omega) fun y hy => hx y (by simp [hy])
        have hlt : acc.length < 16777216 := by omega
        rw [List.map_cons, compL]; simp [f1, f2, hk, f3 hk, f4, f5, this, hlt]
  have := key l [] (by simpa using hl) hx
  unfold nComp
  simp only [e1, hp, if_true, this, hr, List.nil_append]
end

theorem setr_i {i : Nat} {d : PyData} {ρ ρ' : Rho} {P : Rho → Prop} (hset : SetR i d ρ ρ') (q : P ρ') : ∃ ρ2, SetR i d ρ ρ2 ∧ P ρ2 := ⟨_, hset, q⟩
theorem setl_i {i : Nat} {d : List PyData} {ρ ρ' : Rho} {P : Rho → Prop} (hset : SetLR i d ρ ρ') (q : P ρ') : ∃ ρ2, SetLR i d ρ ρ2 ∧ P ρ2 := ⟨_, hset, q⟩
theorem put_i {i : Nat} {ds ds' : List PyData} {ρ ρ' : Rho} {P : Rho → Prop} (hset : PutR i ds ρ ds' ρ') (q : P ρ') : ∃ ρ2, PutR i ds ρ ds' ρ2 ∧ P ρ2 := ⟨_, hset, q⟩
theorem pool_i {ρ : Rho} {i : Nat} {p : Bool} {ps : List PyData} {P : List PyData → Prop} (hget : ρ[i]? = some (some (.l p ps))) (q : P ps) : ∃ p ps, ρ[i]? = some (some (.l p ps)) ∧ P ps := ⟨_, _, hget, q⟩
theorem bool_i {b : Bool} {P : Bool → Prop} (q : P b) : ∃ c, PyData.bool b = .bool c ∧ P c := ⟨_, rfl, q⟩
theorem int_i {b : Int} {P : Int → Prop} (q : P b) : ∃ c, PyData.int b = .int c ∧ P c := ⟨_, rfl, q⟩
theorem r1_i {j : Int} {P : Int → Prop} (h : in62 j = true) (q : P j) : ∃ i, [PyData.int j] = [.int i] ∧ in62 i = true ∧ P i := ⟨_, rfl, h, q⟩
theorem r2_i {j k : Int} {P : Int → Int → Prop} (h : in62 j = true) (h2 : in62 k = true) (q : P j k) : ∃ i l, [PyData.int j, PyData.int k] = [.int i, .int l] ∧ in62 i = true ∧ in62 l = true ∧ P i l := ⟨_, _, rfl, h, h2, q⟩
theorem seqL_i {xs : List PyData} {P : List PyData → Prop} (q : P xs) : ∃ ys, (PyData.list xs = .list ys ∨ PyData.list xs = .tuple ys ∨ PyData.list xs = RO ys) ∧ P ys := ⟨_, .inl rfl, q⟩
theorem seqT_i {xs : List PyData} {P : List PyData → Prop} (q : P xs) : ∃ ys, (PyData.tuple xs = .list ys ∨ PyData.tuple xs = .tuple ys ∨ PyData.tuple xs = RO ys) ∧ P ys := ⟨_, .inr (.inl rfl), q⟩
theorem seqR_i {xs : List PyData} {P : List PyData → Prop} (q : P xs) : ∃ ys, (RO xs = .list ys ∨ RO xs = .tuple ys ∨ RO xs = RO ys) ∧ P ys := ⟨_, .inr (.inr rfl), q⟩
theorem starT_i {xs : List PyData} {P : List PyData → Prop} (q : P xs) : ∃ ys, (PyData.tuple xs = .list ys ∨ PyData.tuple xs = .tuple ys) ∧ P ys := ⟨_, .inr rfl, q⟩
theorem starL_i {xs : List PyData} {P : List PyData → Prop} (q : P xs) : ∃ ys, (PyData.list xs = .list ys ∨ PyData.list xs = .tuple ys) ∧ P ys := ⟨_, .inl rfl, q⟩
theorem len_i {xs : List PyData} {P : Prop} (h : Nat.ble xs.length 16777216 = true) (q : P) : xs.length ≤ 16777216 ∧ P := ⟨Nat.le_of_ble_eq_true h, q⟩
theorem tup_i {xs : List PyData} {P : List PyData → Prop} (q : P xs) : ∃ ys, PyData.tuple xs = .tuple ys ∧ P ys := ⟨_, rfl, q⟩
theorem yes_i {A B : Prop} (q : A) : (true = true → A) ∧ (true = false → B) := ⟨fun _ => q, fun h => nomatch h⟩
theorem no_i {A B : Prop} (q : B) : (false = true → A) ∧ (false = false → B) := ⟨fun h => (nomatch h), fun _ => q⟩
theorem nyes_i {A B : Prop} (q : B) : ((!true) = true → A) ∧ ((!true) = false → B) := ⟨fun h => (nomatch h), fun _ => q⟩
theorem nno_i {A B : Prop} (q : A) : ((!false) = true → A) ∧ ((!false) = false → B) := ⟨fun _ => q, fun h => nomatch h⟩
theorem dec_i {p : Prop} [Decidable p] {A B : Prop} (q1 : p → A) (q2 : ¬ p → B) : (decide p = true → A) ∧ (decide p = false → B) := ⟨fun h => q1 (of_decide_eq_true h), fun h => q2 (of_decide_eq_false h)⟩
theorem decn_i {p : Prop} [Decidable p] {A B : Prop} (q1 : p → B) (q2 : ¬ p → A) : ((!decide p) = true → A) ∧ ((!decide p) = false → B) := ⟨fun h => q2 (by simpa using h), fun h => q1 (by simpa using h)⟩
theorem decy_i {p : Prop} [Decidable p] {A B : Prop} (h : p) (q : A) : (decide p = true → A) ∧ (decide p = false → B) := ⟨fun _ => q, fun k => absurd h (of_decide_eq_false k)⟩
theorem decno_i {p : Prop} [Decidable p] {A B : Prop} (h : ¬ p) (q : B) : (decide p = true → A) ∧ (decide p = false → B) := ⟨fun k => absurd (of_decide_eq_true k) h, fun _ => q⟩
theorem ndecy_i {p : Prop} [Decidable p] {A B : Prop} (h : ¬ p) (q : A) : ((!decide p) = true → A) ∧ ((!decide p) = false → B) := ⟨fun _ => q, fun k => absurd (by simpa using k) h⟩
theorem ndecno_i {p : Prop} [Decidable p] {A B : Prop} (h : p) (q : B) : ((!decide p) = true → A) ∧ ((!decide p) = false → B) := ⟨fun k => absurd h (by simpa using k), fun _ => q⟩
theorem bit_i {b : Bool} {A B : Prop} (q1 : b = true → A) (q2 : b = false → B) : (b = true → A) ∧ (b = false → B) := ⟨q1, q2⟩
/-! ### defs -/
def EndP (Q : PyData → Prop) : Out → Rho → Prop
  | .ret d, _ => Q d
  | .retL ds, _ => Q (.list ds)
  | .next, _ => Q .none
  | _, _ => False
def EndN (Q : List PyData → Prop) : Out → Rho → Prop
  | .retL ds, _ => Q ds
  | _, _ => False
def EndL (Q : PyData → List PyData → Prop) : Out → Rho → Prop
  | .ret d, ρ => ∃ ps, pool0 ρ = some ps ∧ Q d ps
  | .retL ds, ρ => ∃ ps, pool0 ρ = some ps ∧ Q (.list ds) ps
  | .next, ρ => ∃ ps, pool0 ρ = some ps ∧ Q .none ps
  | _, _ => False
theorem wa_def {b : SF} {k m : Nat} {ds : List PyData} {Q : PyData → Prop} (hl : ds.length = k) (w : WS b (rho0 ds m) (EndP Q)) : WA (defP b k m ds) Q := by
  obtain ⟨o, r, e, q⟩ := w
  cases o with
  | ret d => exact ⟨d, by simp only [defP, hl, if_true, e, endP], q⟩
  | retL d => exact ⟨_, by simp only [defP, hl, if_true, e, endP], q⟩
  | next => exact ⟨_, by simp only [defP, hl, if_true, e, endP], q⟩
  | brk => exact q.elim
  | cont => exact q.elim
theorem wl_def {b : SF} {k m : Nat} {ds : List PyData} {Q : List PyData → Prop} (hl : ds.length = k) (w : WS b (rho0 ds m) (EndN Q)) : WL (defN b k m ds) Q := by
  obtain ⟨o, r, e, q⟩ := w
  cases o with
  | retL d => exact ⟨_, by simp only [defN, hl, if_true, e, endN], q⟩
  | ret d => exact q.elim
  | next => exact q.elim
  | brk => exact q.elim
  | cont => exact q.elim
theorem wp_def {b : SF} {k m : Nat} {ps ds : List PyData} {Q : PyData → List PyData → Prop} (hl : ds.length = k) (w : WS b (rhoL ps ds m) (EndL Q)) : WP (defL b k m ps ds) Q := by
  obtain ⟨o, r, e, q⟩ := w
  cases o with
  | ret d => obtain ⟨ps', e2, q⟩ := q; exact ⟨d, ps', by simp only [defL, hl, if_true, e, endL, e2], q⟩
  | retL d => obtain ⟨ps', e2, q⟩ := q; exact ⟨_, ps', by simp only [defL, hl, if_true, e, endL, e2], q⟩
  | next => obtain ⟨ps', e2, q⟩ := q; exact ⟨_, ps', by simp only [defL, hl, if_true, e, endL, e2], q⟩
  | brk => exact q.elim
  | cont => exact q.elim
theorem endP_ret {d : PyData} {r : Rho} {Q : PyData → Prop} (q : Q d) : EndP Q (.ret d) r := q
theorem endP_retL {d : List PyData} {r : Rho} {Q : PyData → Prop} (q : Q (.list d)) : EndP Q (.retL d) r := q
theorem endN_ret {d : List PyData} {r : Rho} {Q : List PyData → Prop} (q : Q d) : EndN Q (.retL d) r := q
theorem endL_ret {d : PyData} {ps : List PyData} {r : Rho} {Q : PyData → List PyData → Prop} (q : Q d ps) : EndL Q (.ret d) (some (.l true ps) :: r) := ⟨ps, rfl, q⟩
theorem endL_retL {d : List PyData} {ps : List PyData} {r : Rho} {Q : PyData → List PyData → Prop} (q : Q (.list d) ps) : EndL Q (.retL d) (some (.l true ps) :: r) := ⟨ps, rfl, q⟩
theorem rho0_eq (ds : List PyData) (m : Nat) : rho0 ds m = ds.map (fun d => some (Cell.v d)) ++ List.replicate m none := rfl
theorem rhoL_eq (ps ds : List PyData) (m : Nat) : rhoL ps ds m = some (Cell.l true ps) :: (ds.map (fun d => some (Cell.v d)) ++ List.replicate m none) := rfl
/-! ### operations that ask something -/
theorem wa_add {i j : Int} {Q : PyData → Prop} (q : Q (.int (i + j))) : WA (dAdd (.int i) (.int j)) Q := ⟨_, rfl, q⟩
theorem wa_addL {xs ys : List PyData} {Q : PyData → Prop} (hl : xs.length + ys.length ≤ 16777216) (q : Q (.list (xs ++ ys))) : WA (dAdd (.list xs) (.list ys)) Q := ⟨_, if_pos hl, q⟩
theorem wa_addT {xs ys : List PyData} {Q : PyData → Prop} (hl : xs.length + ys.length ≤ 16777216) (q : Q (.tuple (xs ++ ys))) : WA (dAdd (.tuple xs) (.tuple ys)) Q := ⟨_, if_pos hl, q⟩
theorem wa_sub {i j : Int} {Q : PyData → Prop} (q : Q (.int (i - j))) : WA (dSub (.int i) (.int j)) Q := ⟨_, rfl, q⟩
theorem wa_mulR {i j : Int} {Q : PyData → Prop} (h1 : -18446744073709551616 < j) (h2 : j < 18446744073709551616) (q : Q (.int (i * j))) : WA (dMul (.int i) (.int j)) Q := ⟨_, by simp [h1, h2], q⟩
theorem wa_mulL {i j : Int} {Q : PyData → Prop} (h1 : -18446744073709551616 < i) (h2 : i < 18446744073709551616) (q : Q (.int (i * j))) : WA (dMul (.int i) (.int j)) Q := ⟨_, by simp [h1, h2], q⟩
theorem wa_div {i j : Int} {Q : PyData → Prop} (h1 : 0 < j) (h2 : j < 18446744073709551616) (q : Q (.int (i / j))) : WA (dDiv (.int i) (.int j)) Q := ⟨_, by simp [h1, h2], q⟩
theorem wa_mod {i j : Int} {Q : PyData → Prop} (h1 : 0 < j) (q : Q (.int (i % j))) : WA (dMod (.int i) (.int j)) Q := ⟨_, by simp [h1], q⟩
theorem wa_shr {i j : Int} {Q : PyData → Prop} (h1 : 0 ≤ j) (q : Q (.int (i / 2 ^ j.toNat))) : WA (dShr (.int i) (.int j)) Q := ⟨_, by simp [h1], q⟩
theorem wa_lt {i j : Int} {Q : PyData → Prop} (q : Q (.bool (decide (i < j)))) : WA (dLt (.int i) (.int j)) Q := ⟨_, rfl, q⟩
theorem wa_le {i j : Int} {Q : PyData → Prop} (q : Q (.bool (decide (i ≤ j)))) : WA (dLe (.int i) (.int j)) Q := ⟨_, rfl, q⟩
theorem wa_gt {i j : Int} {Q : PyData → Prop} (q : Q (.bool (decide (j < i)))) : WA (dGt (.int i) (.int j)) Q := ⟨_, rfl, q⟩
theorem wa_ge {i j : Int} {Q : PyData → Prop} (q : Q (.bool (decide (j ≤ i)))) : WA (dGe (.int i) (.int j)) Q := ⟨_, rfl, q⟩
theorem wa_eqI {i j : Int} {Q : PyData → Prop} (q : Q (.bool (decide (i = j)))) : WA (dEq (.int i) (.int j)) Q := ⟨_, rfl, q⟩
theorem wa_neI {i j : Int} {Q : PyData → Prop} (q : Q (.bool (!decide (i = j)))) : WA (dNe (.int i) (.int j)) Q := ⟨_, rfl, q⟩
theorem wa_ixT {xs : List PyData} {i : Int} {Q : PyData → Prop} (w : WA (atD xs i) Q) : WA (dIx (.tuple xs) (.int i)) Q := w
theorem wa_ixS {xs : List PyData} {i : Int} {Q : PyData → Prop} (w : WA (atD xs i) Q) : WA (dIx (.list xs) (.int i)) Q := w
theorem wa_at {xs : List PyData} {k : Nat} {Q : PyData → Prop} (h : k < xs.length) (q : Q xs[k]) : WA (atD xs (k : Int)) Q := by
  have h2 : (k : Int) < (xs.length : Int) := by omega
  exact ⟨xs[k], by simp [atD, ixOf, h2, h], q⟩
theorem wa_neg {i : Int} {Q : PyData → Prop} (q : Q (.int (-i))) : WA (dNeg (.int i)) Q := ⟨_, rfl, q⟩
theorem wa_lenL {xs : List PyData} {Q : PyData → Prop} (q : Q (.int xs.length)) : WA (o1of dLen [.list xs]) Q := ⟨_, rfl, q⟩
theorem wa_lenT {xs : List PyData} {Q : PyData → Prop} (q : Q (.int xs.length)) : WA (o1of dLen [.tuple xs]) Q := ⟨_, rfl, q⟩
theorem wa_int {i : Int} {Q : PyData → Prop} (q : Q (.int i)) : WA (o1of dInt [.int i]) Q := ⟨_, rfl, q⟩
theorem wa_max {i j : Int} {Q : PyData → Prop} (q : Q (.int (if j > i then j else i))) : WA (o2of dMax [.int i, .int j]) Q := ⟨_, rfl, q⟩
theorem wa_min {i j : Int} {Q : PyData → Prop} (q : Q (.int (if j < i then j else i))) : WA (o2of dMin [.int i, .int j]) Q := ⟨_, rfl, q⟩
theorem wb_bool {b : Bool} {Q : Bool → Prop} (q : Q b) : WB (truth (.bool b)) Q := ⟨b, rfl, q⟩
theorem wb_int {i : Int} {Q : Bool → Prop} (q : Q (i != 0)) : WB (truth (.int i)) Q := ⟨_, rfl, q⟩
end PG
end
section
set_option Elab.async false
set_option linter.all false
set_option maxRecDepth 100000
namespace PG
open PySem
/-! ### answers found by instances -/
class Ev1 (o : PyData → Option PyData) (x : PyData) (z : outParam PyData) : Prop where
  h : o x = some z
class Ev (F : List PyData → Option PyData) (xs : List PyData) (z : outParam PyData) : Prop where
  h : F xs = some z
class EvN (F : List PyData → Option (List PyData)) (xs : List PyData) (z : outParam (List PyData)) : Prop where
  h : F xs = some z
class EvB (x : PyData) (b : outParam Bool) : Prop where
  h : truth x = some b
theorem wa_ev1 {o : PyData → Option PyData} {x z : PyData} {Q : PyData → Prop} [e : Ev1 o x z] (q : Q z) : WA (o x) Q := ⟨z, e.h, q⟩
theorem wa_ev {F : List PyData → Option PyData} {xs : List PyData} {z : PyData} {Q : PyData → Prop} [e : Ev F xs z] (q : Q z) : WA (F xs) Q := ⟨z, e.h, q⟩
theorem wl_ev {F : List PyData → Option (List PyData)} {xs z : List PyData} {Q : List PyData → Prop} [e : EvN F xs z] (q : Q z) : WL (F xs) Q := ⟨z, e.h, q⟩
theorem wb_ev {x : PyData} {b : Bool} {Q : Bool → Prop} [e : EvB x b] (q : Q b) : WB (truth x) Q := ⟨b, e.h, q⟩
instance : Ev1 (dIsi "tuple") .none (.bool false) := ⟨by simp [isTy, isN, tyName]⟩
instance : Ev1 (dTyIs "tuple") .none (.bool false) := ⟨by simp [tyName]⟩
instance : Ev1 (dTyNe "tuple") .none (.bool true) := ⟨by simp [tyName]⟩
instance {b : Bool} : Ev1 (dIsi "tuple") (.bool b) (.bool false) := ⟨by simp [isTy, isN, tyName]⟩
instance {b : Bool} : Ev1 (dTyIs "tuple") (.bool b) (.bool false) := ⟨by simp [tyName]⟩
instance {b : Bool} : Ev1 (dTyNe "tuple") (.bool b) (.bool true) := ⟨by simp [tyName]⟩
instance {i : Int} : Ev1 (dIsi "tuple") (.int i) (.bool false) := ⟨by simp [isTy, isN, tyName]⟩
instance {i : Int} : Ev1 (dTyIs "tuple") (.int i) (.bool false) := ⟨by simp [tyName]⟩
instance {i : Int} : Ev1 (dTyNe "tuple") (.int i) (.bool true) := ⟨by simp [tyName]⟩
instance {x : Str} : Ev1 (dIsi "tuple") (.str x) (.bool false) := ⟨by simp [isTy, isN, tyName]⟩
instance {x : Str} : Ev1 (dTyIs "tuple") (.str x) (.bool false) := ⟨by simp [tyName]⟩
instance {x : Str} : Ev1 (dTyNe "tuple") (.str x) (.bool true) := ⟨by simp [tyName]⟩
instance {xs : List PyData} : Ev1 (dIsi "tuple") (.list xs) (.bool false) := ⟨by simp [isTy, isN, tyName]⟩
instance {xs : List PyData} : Ev1 (dTyIs "tuple") (.list xs) (.bool false) := ⟨by simp [tyName]⟩
instance {xs : List PyData} : Ev1 (dTyNe "tuple") (.list xs) (.bool true) := ⟨by simp [tyName]⟩
instance {xs : List PyData} : Ev1 (dIsi "tuple") (.tuple xs) (.bool true) := ⟨by simp [isTy, isN, tyName]⟩
instance {xs : List PyData} : Ev1 (dTyIs "tuple") (.tuple xs) (.bool true) := ⟨by simp [tyName]⟩
instance {xs : List PyData} : Ev1 (dTyNe "tuple") (.tuple xs) (.bool false) := ⟨by simp [tyName]⟩
instance : Ev1 (dIsi "list") .none (.bool false) := ⟨by simp [isTy, isN, tyName]⟩
instance : Ev1 (dTyIs "list") .none (.bool false) := ⟨by simp [tyName]⟩
instance : Ev1 (dTyNe "list") .none (.bool true) := ⟨by simp [tyName]⟩
instance {b : Bool} : Ev1 (dIsi "list") (.bool b) (.bool false) := ⟨by simp [isTy, isN, tyName]⟩
instance {b : Bool} : Ev1 (dTyIs "list") (.bool b) (.bool false) := ⟨by simp [tyName]⟩
instance {b : Bool} : Ev1 (dTyNe "list") (.bool b) (.bool true) := ⟨by simp [tyName]⟩
instance {i : Int} : Ev1 (dIsi "list") (.int i) (.bool false) := ⟨by simp [isTy, isN, tyName]⟩
instance {i : Int} : Ev1 (dTyIs "list") (.int i) (.bool false) := ⟨by simp [tyName]⟩
instance {i : Int} : Ev1 (dTyNe "list") (.int i) (.bool true) := ⟨by simp [tyName]⟩
instance {x : Str} : Ev1 (dIsi "list") (.str x) (.bool false) := ⟨by simp [isTy, isN, tyName]⟩
instance {x : Str} : Ev1 (dTyIs "list") (.str x) (.bool false) := ⟨by simp [tyName]⟩
instance {x : Str} : Ev1 (dTyNe "list") (.str x) (.bool true) := ⟨by simp [tyName]⟩
instance {xs : List PyData} : Ev1 (dIsi "list") (.list xs) (.bool true) := ⟨by simp [isTy, isN, tyName]⟩
instance {xs : List PyData} : Ev1 (dTyIs "list") (.list xs) (.bool true) := ⟨by simp [tyName]⟩
instance {xs : List PyData} : Ev1 (dTyNe "list") (.list xs) (.bool false) := ⟨by simp [tyName]⟩
instance {xs : List PyData} : Ev1 (dIsi "list") (.tuple xs) (.bool false) := ⟨by simp [isTy, isN, tyName]⟩
instance {xs : List PyData} : Ev1 (dTyIs "list") (.tuple xs) (.bool false) := ⟨by simp [tyName]⟩
instance {xs : List PyData} : Ev1 (dTyNe "list") (.tuple xs) (.bool true) := ⟨by simp [tyName]⟩
instance : Ev1 (dIsi "int") .none (.bool false) := ⟨by simp [isTy, isN, tyName]⟩
instance : Ev1 (dTyIs "int") .none (.bool false) := ⟨by simp [tyName]⟩
instance : Ev1 (dTyNe "int") .none (.bool true) := ⟨by simp [tyName]⟩
instance {b : Bool} : Ev1 (dIsi "int") (.bool b) (.bool true) := ⟨by simp [isTy, isN, tyName]⟩
instance {b : Bool} : Ev1 (dTyIs "int") (.bool b) (.bool false) := ⟨by simp [tyName]⟩
instance {b : Bool} : Ev1 (dTyNe "int") (.bool b) (.bool true) := ⟨by simp [tyName]⟩
instance {i : Int} : Ev1 (dIsi "int") (.int i) (.bool true) := ⟨by simp [isTy, isN, tyName]⟩
instance {i : Int} : Ev1 (dTyIs "int") (.int i) (.bool true) := ⟨by simp [tyName]⟩
instance {i : Int} : Ev1 (dTyNe "int") (.int i) (.bool false) := ⟨by simp [tyName]⟩
instance {x : Str} : Ev1 (dIsi "int") (.str x) (.bool false) := ⟨by simp [isTy, isN, tyName]⟩
instance {x : Str} : Ev1 (dTyIs "int") (.str x) (.bool false) := ⟨by simp [tyName]⟩
instance {x : Str} : Ev1 (dTyNe "int") (.str x) (.bool true) := ⟨by simp [tyName]⟩
instance {xs : List PyData} : Ev1 (dIsi "int") (.list xs) (.bool false) := ⟨by simp [isTy, isN, tyName]⟩
instance {xs : List PyData} : Ev1 (dTyIs "int") (.list xs) (.bool false) := ⟨by simp [tyName]⟩
instance {xs : List PyData} : Ev1 (dTyNe "int") (.list xs) (.bool true) := ⟨by simp [tyName]⟩
instance {xs : List PyData} : Ev1 (dIsi "int") (.tuple xs) (.bool false) := ⟨by simp [isTy, isN, tyName]⟩
instance {xs : List PyData} : Ev1 (dTyIs "int") (.tuple xs) (.bool false) := ⟨by simp [tyName]⟩
instance {xs : List PyData} : Ev1 (dTyNe "int") (.tuple xs) (.bool true) := ⟨by simp [tyName]⟩
instance : Ev1 (dIsi "bool") .none (.bool false) := ⟨by simp [isTy, isN, tyName]⟩
instance : Ev1 (dTyIs "bool") .none (.bool false) := ⟨by simp [tyName]⟩
instance : Ev1 (dTyNe "bool") .none (.bool true) := ⟨by simp [tyName]⟩
instance {b : Bool} : Ev1 (dIsi "bool") (.bool b) (.bool true) := ⟨by simp [isTy, isN, tyName]⟩
instance {b : Bool} : Ev1 (dTyIs "bool") (.bool b) (.bool true) := ⟨by simp [tyName]⟩
instance {b : Bool} : Ev1 (dTyNe "bool") (.bool b) (.bool false) := ⟨by simp [tyName]⟩
instance {i : Int} : Ev1 (dIsi "bool") (.int i) (.bool false) := ⟨by simp [isTy, isN, tyName]⟩
instance {i : Int} : Ev1 (dTyIs "bool") (.int i) (.bool false) := ⟨by simp [tyName]⟩
instance {i : Int} : Ev1 (dTyNe "bool") (.int i) (.bool true) := ⟨by simp [tyName]⟩
instance {x : Str} : Ev1 (dIsi "bool") (.str x) (.bool false) := ⟨by simp [isTy, isN, tyName]⟩
instance {x : Str} : Ev1 (dTyIs "bool") (.str x) (.bool false) := ⟨by simp [tyName]⟩
instance {x : Str} : Ev1 (dTyNe "bool") (.str x) (.bool true) := ⟨by simp [tyName]⟩
instance {xs : List PyData} : Ev1 (dIsi "bool") (.list xs) (.bool false) := ⟨by simp [isTy, isN, tyName]⟩
instance {xs : List PyData} : Ev1 (dTyIs "bool") (.list xs) (.bool false) := ⟨by simp [tyName]⟩
instance {xs : List PyData} : Ev1 (dTyNe "bool") (.list xs) (.bool true) := ⟨by simp [tyName]⟩
instance {xs : List PyData} : Ev1 (dIsi "bool") (.tuple xs) (.bool false) := ⟨by simp [isTy, isN, tyName]⟩
instance {xs : List PyData} : Ev1 (dTyIs "bool") (.tuple xs) (.bool false) := ⟨by simp [tyName]⟩
instance {xs : List PyData} : Ev1 (dTyNe "bool") (.tuple xs) (.bool true) := ⟨by simp [tyName]⟩
instance : Ev1 (dIsi "str") .none (.bool false) := ⟨by simp [isTy, isN, tyName]⟩
instance : Ev1 (dTyIs "str") .none (.bool false) := ⟨by simp [tyName]⟩
instance : Ev1 (dTyNe "str") .none (.bool true) := ⟨by simp [tyName]⟩
instance {b : Bool} : Ev1 (dIsi "str") (.bool b) (.bool false) := ⟨by simp [isTy, isN, tyName]⟩
instance {b : Bool} : Ev1 (dTyIs "str") (.bool b) (.bool false) := ⟨by simp [tyName]⟩
instance {b : Bool} : Ev1 (dTyNe "str") (.bool b) (.bool true) := ⟨by simp [tyName]⟩
instance {i : Int} : Ev1 (dIsi "str") (.int i) (.bool false) := ⟨by simp [isTy, isN, tyName]⟩
instance {i : Int} : Ev1 (dTyIs "str") (.int i) (.bool false) := ⟨by simp [tyName]⟩
instance {i : Int} : Ev1 (dTyNe "str") (.int i) (.bool true) := ⟨by simp [tyName]⟩
instance {x : Str} : Ev1 (dIsi "str") (.str x) (.bool true) := ⟨by simp [isTy, isN, tyName]⟩
instance {x : Str} : Ev1 (dTyIs "str") (.str x) (.bool true) := ⟨by simp [tyName]⟩
instance {x : Str} : Ev1 (dTyNe "str") (.str x) (.bool false) := ⟨by simp [tyName]⟩
instance {xs : List PyData} : Ev1 (dIsi "str") (.list xs) (.bool false) := ⟨by simp [isTy, isN, tyName]⟩
instance {xs : List PyData} : Ev1 (dTyIs "str") (.list xs) (.bool false) := ⟨by simp [tyName]⟩
instance {xs : List PyData} : Ev1 (dTyNe "str") (.list xs) (.bool true) := ⟨by simp [tyName]⟩
instance {xs : List PyData} : Ev1 (dIsi "str") (.tuple xs) (.bool false) := ⟨by simp [isTy, isN, tyName]⟩
instance {xs : List PyData} : Ev1 (dTyIs "str") (.tuple xs) (.bool false) := ⟨by simp [tyName]⟩
instance {xs : List PyData} : Ev1 (dTyNe "str") (.tuple xs) (.bool true) := ⟨by simp [tyName]⟩
instance : Ev1 dIsN .none (.bool true) := ⟨rfl⟩
instance : Ev1 dNotN .none (.bool false) := ⟨rfl⟩
instance {b : Bool} : Ev1 dIsN (.bool b) (.bool false) := ⟨rfl⟩
instance {b : Bool} : Ev1 dNotN (.bool b) (.bool true) := ⟨rfl⟩
instance {i : Int} : Ev1 dIsN (.int i) (.bool false) := ⟨rfl⟩
instance {i : Int} : Ev1 dNotN (.int i) (.bool true) := ⟨rfl⟩
instance {x : Str} : Ev1 dIsN (.str x) (.bool false) := ⟨rfl⟩
instance {x : Str} : Ev1 dNotN (.str x) (.bool true) := ⟨rfl⟩
instance {xs : List PyData} : Ev1 dIsN (.list xs) (.bool false) := ⟨rfl⟩
instance {xs : List PyData} : Ev1 dNotN (.list xs) (.bool true) := ⟨rfl⟩
instance {xs : List PyData} : Ev1 dIsN (.tuple xs) (.bool false) := ⟨rfl⟩
instance {xs : List PyData} : Ev1 dNotN (.tuple xs) (.bool true) := ⟨rfl⟩
instance : EvB .none false := ⟨rfl⟩
instance {xs : List PyData} : EvB (.list xs) (!xs.isEmpty) := ⟨rfl⟩
instance {xs : List PyData} : EvB (.tuple xs) (!xs.isEmpty) := ⟨rfl⟩
instance {xs : List PyData} : Ev (o1of dTupOf) [.list xs] (.tuple xs) := ⟨rfl⟩
instance {xs : List PyData} : Ev (o1of dTupOf) [.tuple xs] (.tuple xs) := ⟨rfl⟩
instance {xs : List PyData} : EvN (n1of dLstOf) [.list xs] xs := ⟨rfl⟩
instance {xs : List PyData} : EvN (n1of dLstOf) [.tuple xs] xs := ⟨rfl⟩
instance {xs : List PyData} : EvN (n1of dLstOf) [RO xs] xs := ⟨rfl⟩
instance {i : Int} : Ev (o1of dAbs) [.int i] (.int (if i < 0 then -i else i)) := ⟨rfl⟩
theorem ch_le {i j : Int} {P : Bool → Prop} (q : P (decide (i ≤ j))) : ∃ b, dLe (.int i) (.int j) = some (.bool b) ∧ P b := ⟨_, rfl, q⟩
theorem ch_lt {i j : Int} {P : Bool → Prop} (q : P (decide (i < j))) : ∃ b, dLt (.int i) (.int j) = some (.bool b) ∧ P b := ⟨_, rfl, q⟩
theorem ch_eq {i j : Int} {P : Bool → Prop} (q : P (decide (i = j))) : ∃ b, dEq (.int i) (.int j) = some (.bool b) ∧ P b := ⟨_, rfl, q⟩
theorem wa_binO {o : PyData → PyData → Option PyData} {f : EF} {i : Nat} {ρ : Rho} {Q : PyData → Rho → Prop} (w : WE f ρ fun x ρ1 => ∃ p ps, ρ1[i]? = some (some (.l p ps)) ∧ WA (o x (.list ps)) fun z => Q z ρ1) : WE (eBinO o f i) ρ Q := by
  obtain ⟨x, r, e, p, ps, h, z, e2, q⟩ := w
  exact ⟨z, r, by simp [e, h, e2], q⟩
/-- an item of a written tuple at a drawn place -/
theorem wa_pick {xs : List PyData} {v : Int} (P : PyData → Prop) {Q : PyData → Prop} (h0 : 0 ≤ v) (h1 : v < xs.length) (hP : ∀ x ∈ xs, P x) (q : ∀ x, P x → Q x) : WA (dIx (.tuple xs) (.int v)) Q := by
  have h2 : v.toNat < xs.length := by omega
  refine ⟨xs[v.toNat], ?_, q _ (hP _ (List.getElem_mem h2))⟩
  show atD xs v = _
  simp [atD, ixOf, h0, h1, h2]
theorem wa_pickI (ns : List Int) (P : Int → Prop) {v : Int} {Q : PyData → Prop} (h0 : 0 ≤ v) (h1 : v < ns.length) (hP : ∀ n ∈ ns, P n) (q : ∀ n, P n → Q (.int n)) : WA (dIx (.tuple (ns.map PyData.int)) (.int v)) Q :=
  wa_pick (fun d => ∃ n, d = .int n ∧ P n) h0 (by simpa using h1) (fun x hx => by
    obtain ⟨n, hn, rfl⟩ := List.mem_map.mp hx
    exact ⟨n, rfl, hP n hn⟩) (fun x ⟨n, e, hn⟩ => by subst e; exact q n hn)
/-- the item at a place that is written -/
theorem wa_ixn {xs : List PyData} {k : Nat} {d : PyData} {Q : PyData → Prop} (hget : xs[k]? = some d) (q : Q d) : WA (dIx (.tuple xs) (.int (k : Nat))) Q := by
  obtain ⟨h, e⟩ := List.getElem?_eq_some_iff.mp hget
  refine ⟨d, ?_, q⟩
  show atD xs _ = _
  have h2 : (k : Int) < (xs.length : Int) := by omega
  simp [atD, ixOf, h2, hget]
theorem wa_ixnL {xs : List PyData} {k : Nat} {d : PyData} {Q : PyData → Prop} (hget : xs[k]? = some d) (q : Q d) : WA (dIx (.list xs) (.int (k : Nat))) Q := wa_ixn (xs := xs) hget q
theorem wa_ix0 {xs : List PyData} {d : PyData} {Q : PyData → Prop} (hget : xs[0]? = some d) (q : Q d) : WA (dIx (.tuple xs) (.int 0)) Q := wa_ixn (k := 0) hget q
theorem wa_ix1 {xs : List PyData} {d : PyData} {Q : PyData → Prop} (hget : xs[1]? = some d) (q : Q d) : WA (dIx (.tuple xs) (.int 1)) Q := wa_ixn (k := 1) hget q
theorem wa_ix2 {xs : List PyData} {d : PyData} {Q : PyData → Prop} (hget : xs[2]? = some d) (q : Q d) : WA (dIx (.tuple xs) (.int 2)) Q := wa_ixn (k := 2) hget q
theorem wa_ix3 {xs : List PyData} {d : PyData} {Q : PyData → Prop} (hget : xs[3]? = some d) (q : Q d) : WA (dIx (.tuple xs) (.int 3)) Q := wa_ixn (k := 3) hget q
theorem wa_ix4 {xs : List PyData} {d : PyData} {Q : PyData → Prop} (hget : xs[4]? = some d) (q : Q d) : WA (dIx (.tuple xs) (.int 4)) Q := wa_ixn (k := 4) hget q
theorem wa_ix5 {xs : List PyData} {d : PyData} {Q : PyData → Prop} (hget : xs[5]? = some d) (q : Q d) : WA (dIx (.tuple xs) (.int 5)) Q := wa_ixn (k := 5) hget q
theorem wa_ix6 {xs : List PyData} {d : PyData} {Q : PyData → Prop} (hget : xs[6]? = some d) (q : Q d) : WA (dIx (.tuple xs) (.int 6)) Q := wa_ixn (k := 6) hget q
theorem wa_ix7 {xs : List PyData} {d : PyData} {Q : PyData → Prop} (hget : xs[7]? = some d) (q : Q d) : WA (dIx (.tuple xs) (.int 7)) Q := wa_ixn (k := 7) hget q
theorem wa_ix8 {xs : List PyData} {d : PyData} {Q : PyData → Prop} (hget : xs[8]? = some d) (q : Q d) : WA (dIx (.tuple xs) (.int 8)) Q := wa_ixn (k := 8) hget q
theorem wa_il0 {xs : List PyData} {d : PyData} {Q : PyData → Prop} (hget : xs[0]? = some d) (q : Q d) : WA (dIx (.list xs) (.int 0)) Q := wa_ixn (k := 0) hget q
theorem wa_il1 {xs : List PyData} {d : PyData} {Q : PyData → Prop} (hget : xs[1]? = some d) (q : Q d) : WA (dIx (.list xs) (.int 1)) Q := wa_ixn (k := 1) hget q
theorem wa_il2 {xs : List PyData} {d : PyData} {Q : PyData → Prop} (hget : xs[2]? = some d) (q : Q d) : WA (dIx (.list xs) (.int 2)) Q := wa_ixn (k := 2) hget q
end PG
end
section
set_option Elab.async false
set_option linter.all false
set_option maxRecDepth 100000
namespace PG
open PySem
instance {xs : List PyData} : Ev1 dLen (.list xs) (.int xs.length) := ⟨rfl⟩
instance {xs : List PyData} : Ev1 dLen (.tuple xs) (.int xs.length) := ⟨rfl⟩
instance {xs : List PyData} : Ev1 dTupOf (.list xs) (.tuple xs) := ⟨rfl⟩
instance {xs : List PyData} : Ev1 dTupOf (.tuple xs) (.tuple xs) := ⟨rfl⟩
theorem wa_neS {x : Str} {Q : PyData → Prop} (q : Q (.bool false)) : WA (dNeS (.str x) (.str x)) Q := ⟨_, by simp, q⟩
/-! ### while, by a measure -/
section
variable {ρ : Rho} {t : TF} {b c : SF} {S : Out → Rho → Prop}
theorem whl_run (I : Nat → Rho → Prop) (J : Rho → Prop) (step : ∀ m ρ, I m ρ → WT t ρ fun x ρ1 => (x = true → WS b ρ1 fun o ρ2 => o = .next ∧ ∃ m', m' < m ∧ I m' ρ2) ∧ (x = false → J ρ1)) :
    ∀ (m : Nat) (ρ : Rho), I m ρ → ∃ ρ', whl t b (m + 1) ρ = some (.next, ρ') ∧ J ρ' := by
  intro m
  induction m using Nat.strongRecOn with
  | _ m ih =>
    intro ρ h
    obtain ⟨x, ρ1, e1, q1, q2⟩ := step m ρ h
    cases x with
    | false => exact ⟨ρ1, by rw [whl]; simp only [e1], q2 rfl⟩
    | true =>
      obtain ⟨o, ρ2, e2, rfl, m', hm, h2⟩ := q1 rfl
      obtain ⟨ρ3, e3, j⟩ := ih m' hm ρ2 h2
      refine ⟨ρ3, ?_, j⟩
      rw [whl]
      simp only [e1, e2]
      exact whl_mono (m' + 1) m ρ2 _ e3 hm
theorem ws_while {n : Rho → Nat} (I : Nat → Rho → Prop) (J : Rho → Prop) (m : Nat) (hm : m < n ρ) (h : I m ρ)
    (step : ∀ m ρ, I m ρ → WT t ρ fun x ρ1 => (x = true → WS b ρ1 fun o ρ2 => o = .next ∧ ∃ m', m' < m ∧ I m' ρ2) ∧ (x = false → J ρ1))
    (q : ∀ ρ1, J ρ1 → WS c ρ1 S) : WS (sSeq (sWhile n t b) c) ρ S := by
  obtain ⟨ρ1, e, j⟩ := whl_run I J step m ρ h
  obtain ⟨o, ρ2, e2, q2⟩ := q ρ1 j
  refine ⟨o, ρ2, ?_, q2⟩
  have e3 := whl_mono (m + 1) (n ρ) ρ _ e hm
  have e4 : sWhile n t b ρ = some (.next, ρ1) := e3
  show sSeq (sWhile n t b) c ρ = _
  simp only [sSeq, e4]
  exact e2
/-- for, by an invariant over what is left -/
theorem ws_forI {g : GF} (I : List PyData → Rho → Prop) (ds : List PyData) (h : I ds ρ)
    (step : ∀ d r ρ, I (d :: r) ρ → WG g d ρ fun ρ1 => WS b ρ1 fun o ρ2 => o = .next ∧ I r ρ2)
    (q : ∀ ρ1, I [] ρ1 → WS c ρ1 S) : WS (sSeq (forL g b ds) c) ρ S := by
  have key : ∀ (ds : List PyData) (ρ : Rho), I ds ρ → ∃ ρ', forL g b ds ρ = some (.next, ρ') ∧ I [] ρ' := by
    intro ds
    induction ds with
    | nil => intro ρ h; exact ⟨ρ, rfl, h⟩
    | cons d r ih =>
      intro ρ h
      obtain ⟨ρ1, e1, o, ρ2, e2, rfl, h2⟩ := step d r ρ h
      obtain ⟨ρ3, e3, h3⟩ := ih ρ2 h2
      exact ⟨ρ3, by simp [forL, e1, e2, e3], h3⟩
  obtain ⟨ρ1, e, j⟩ := key ds ρ h
  obtain ⟨o, ρ2, e2, q2⟩ := q ρ1 j
  refine ⟨o, ρ2, ?_, q2⟩
  show sSeq (forL g b ds) c ρ = _
  simp only [sSeq, e]
  exact e2
end
end PG
end
section
set_option Elab.async false
set_option linter.all false
set_option maxRecDepth 100000
namespace Pr_C
open PySem PG
/-! what each def does, on data -/
def X_law_same_1 (R : List PyData → Option PyData) : TF :=
  (tNot' (tTru (eCall R (nCons (eBin dIx (eName 0) (eName 2)) (nCons (eBin dIx (eName 1) (eName 2)) nNil)))))
def X_law_same_2 (R : List PyData → Option PyData) : EF :=
  (eName 2)
def B_law_same (R : List PyData → Option PyData) : SF :=
  (sSeq (sIf (tOr' (tTru (eUn (dIsi "tuple") (eName 1))) (tTru (eUn (dIsi "list") (eName 1))))
  (sSeq (sIf (tOr' (tBl (eBin dNe (eUn (dIsi "tuple") (eName 1)) (eUn (dIsi "tuple") (eName 0)))) (tOr' (tBl (eBin dNe (eUn (dIsi "list") (eName 1)) (eUn (dIsi "list") (eName 0)))) (tBl (eBin dNe (eCall (o1of dLen) (nCons (eName 0) nNil)) (eCall (o1of dLen) (nCons (eName 1) nNil))))))
  (sSeq (sRet (eC (.bool false)))
  sNil)
  sNil)
  (sSeq (sRet (eBin dEq (eCall (o1of dLen) (nCons (eLst (nComp (itR1 (nCons (eCall (o1of dLen) (nCons (eName 1) nNil)) nNil)) (gSet 2) (X_law_same_1 R) (X_law_same_2 R) [2])) nNil)) (eC (.int 0))))
  sNil))
  sNil)
  (sSeq (sIf (tBl (eUn dIsN (eName 1)))
  (sSeq (sRet (eUn dIsN (eName 0)))
  sNil)
  sNil)
  (sSeq (sIf (tOr' (tTru (eUn (dIsi "bool") (eName 1))) (tTru (eUn (dIsi "bool") (eName 0))))
  (sSeq (sRet (eAnd (eUn (dIsi "bool") (eName 1)) (eAnd (eUn (dIsi "bool") (eName 0)) (eBin dEq (eName 0) (eName 1)))))
  sNil)
  sNil)
  (sSeq (sIf (tTru (eUn (dIsi "int") (eName 1)))
  (sSeq (sRet (eAnd (eUn (dIsi "int") (eName 0)) (eBin dEq (eName 0) (eName 1))))
  sNil)
  sNil)
  (sSeq (sRet (eAnd (eUn (dIsi "str") (eName 0)) (eBin dEq (eName 0) (eName 1))))
  sNil)))))
def F_law_same : Nat → List PyData → Option PyData
  | 0 => fun _ => none
  | n + 1 => defP (B_law_same (F_law_same n)) 2 1
def X_law_pool_1 : SF :=
  (sSeq (sSet 1 (eBin dMod (eCall (o1of dInt) (nCons (eBin dAdd (eBin dMul (eName 1) (eC (.int 31))) (eName 2)) nNil)) (eC (.int 1000003))))
  sNil)
def B_law_pool : SF :=
  (sSeq (sSet 1 (eC (.int 7)))
  (sSeq (sFor (itS (eLst (nSl (eName 0) none (some (eC (.int 63)))))) (gSet 2)
  X_law_pool_1)
  (sSeq (sRetL (nDisp (nCons (eLst (nCall (n1of dLstOf) (nCons (eName 0) nNil))) (nCons (eC (.int 0)) (nCons (eC (.int 0)) (nCons (eC (.int 0)) (nCons (eName 1) nNil)))))))
  sNil)))
def F_law_pool : List PyData → Option (List PyData) := defN B_law_pool 1 2
def X_law_spread_1 : SF :=
  (sSeq (sSet 1 (eBin dMod (eCall (o1of dInt) (nCons (eBin dAdd (eBin dAdd (eBin dMul (eName 1) (eC (.int 48271))) (eC (.int 12345))) (eName 3)) nNil)) (eC (.int 2147483647))))
  (sSeq (sSet 2 (eBin dAdd (eBin dMul (eName 2) (eC (.int 2147483647))) (eName 1)))
  sNil))
def B_law_spread : SF :=
  (sSeq (sSet 1 (eBin dMod (eCall (o1of dInt) (nCons (eName 0) nNil)) (eC (.int 2147483647))))
  (sSeq (sSet 2 (eC (.int 1)))
  (sSeq (sFor (itR1 (nCons (eC (.int 4)) nNil)) (gSet 3)
  X_law_spread_1)
  (sSeq (sRet (eName 2))
  sNil))))
def F_law_spread : List PyData → Option PyData := defP B_law_spread 1 3
def B_law_draw : SF :=
  (sSeq (sIf (tAnd' (tBl (eBin dLe (eIxL dIx 0 (eC (.int 2))) (eC (.int 0)))) (tBl (eBin dLt (eIxL dIx 0 (eC (.int 1))) (eCall (o1of dLen) (nCons (eIxL dIx 0 (eC (.int 0))) nNil)))))
  (sSeq (sSet 3 (eBin dIx (eIxL dIx 0 (eC (.int 0))) (eIxL dIx 0 (eC (.int 1)))))
  (sSeq (sSto 0 (eC (.int 1)) (eBin dAdd (eIxL dIx 0 (eC (.int 1))) (eC (.int 1))))
  (sSeq (sSto 0 (eC (.int 2)) (eName 3))
  (sSeq (sIf (tBl (eBin dLt (eName 3) (eC (.int 1000000000000000000))))
  (sSeq (sSto 0 (eC (.int 2)) (eCall F_law_spread (nCons (eName 3) nNil)))
  sNil)
  sNil)
  sNil))))
  sNil)
  (sSeq (sSto 0 (eC (.int 3)) (eBin dAdd (eIxL dIx 0 (eC (.int 3))) (eC (.int 1))))
  (sSeq (sIf (tBl (eBin dLe (eIxL dIx 0 (eC (.int 2))) (eC (.int 0))))
  (sSeq (sSet 4 (eBin dMod (eCall (o1of dInt) (nCons (eBin dAdd (eBin dAdd (eBin dMul (eIxL dIx 0 (eC (.int 4))) (eC (.int 48271))) (eBin dMul (eIxL dIx 0 (eC (.int 3))) (eC (.int 69621)))) (eC (.int 1))) nNil)) (eC (.int 2147483647))))
  (sSeq (sSet 4 (eBin dMod (eCall (o1of dInt) (nCons (eBin dAdd (eBin dMul (eName 4) (eC (.int 16807))) (eIxL dIx 0 (eC (.int 3)))) nNil)) (eC (.int 2147483629))))
  (sSeq (sRet (eBin dMod (eBin dDiv (eName 4) (eC (.int 5))) (eName 1)))
  sNil)))
  sNil)
  (sSeq (sSet 2 (eBin dMod (eCall (o1of dInt) (nCons (eIxL dIx 0 (eC (.int 2))) nNil)) (eName 1)))
  (sSeq (sSto 0 (eC (.int 2)) (eBin dDiv (eIxL dIx 0 (eC (.int 2))) (eName 1)))
  (sSeq (sRet (eName 2))
  sNil))))))
def F_law_draw : List PyData → List PyData → Option (PyData × List PyData) := defL B_law_draw 1 3
def X_law_has_1 : TF :=
  (tAnd' (tBl (eBin dLe (eBin dIx (eName 2) (eC (.int 0))) (eName 1))) (tBl (eBin dLe (eName 1) (eBin dIx (eName 2) (eC (.int 1))))))
def X_law_has_2 : EF :=
  (eName 2)
def B_law_has : SF :=
  (sSeq (sRet (eBin dGt (eCall (o1of dLen) (nCons (eLst (nComp (itS (eName 0)) (gSet 2) X_law_has_1 X_law_has_2 [2])) nNil)) (eC (.int 0))))
  sNil)
def F_law_has : List PyData → Option PyData := defP B_law_has 2 1
def X_law_union_1 : EF :=
  (eCall (o2of dMin) (nCons (eBin dIx (eName 5) (eC (.int 0))) (nCons (eBin dAdd (eName 1) (eC (.int 1))) nNil)))
def X_law_union_2 : EF :=
  (eCall (o2of dMin) (nCons (eBin dAdd (eBin dIx (eName 5) (eC (.int 1))) (eC (.int 1))) (nCons (eBin dAdd (eName 1) (eC (.int 1))) nNil)))
def X_law_union_3 : SF :=
  (sSeq (sIf (tTru (eCall F_law_has (nCons (eName 0) (nCons (eBin dIx (eName 2) (eName 4)) nNil))))
  (sSeq (sIf (tAnd' (tBl (eBin dGt (eUnL dLen 3) (eC (.int 0)))) (tBl (eBin dEq (eBin dAdd (eBin dIx (eIxL dIx 3 (eUn dNeg (eC (.int 1)))) (eC (.int 1))) (eC (.int 1))) (eBin dIx (eName 2) (eName 4)))))
  (sSeq (sSto 3 (eUn dNeg (eC (.int 1))) (eTup (nCons (eBin dIx (eIxL dIx 3 (eUn dNeg (eC (.int 1)))) (eC (.int 0))) (nCons (eBin dSub (eBin dIx (eName 2) (eBin dAdd (eName 4) (eC (.int 1)))) (eC (.int 1))) nNil))))
  sNil)
  (sSeq (sApp 3 (eTup (nCons (eBin dIx (eName 2) (eName 4)) (nCons (eBin dSub (eBin dIx (eName 2) (eBin dAdd (eName 4) (eC (.int 1)))) (eC (.int 1))) nNil))))
  sNil))
  sNil)
  sNil)
  sNil)
def B_law_union : SF :=
  (sSeq (sSet 2 (eLst (nCall (n1of dSortSet) (nCons (eBin dAdd (eBin dAdd (eLst (nDisp (nCons (eC (.int 0)) (nCons (eBin dAdd (eName 1) (eC (.int 1))) nNil)))) (eLst (nComp (itS (eName 0)) (gSet 5) tYesF X_law_union_1 [5]))) (eLst (nComp (itS (eName 0)) (gSet 5) tYesF X_law_union_2 [5]))) nNil))))
  (sSeq (sSetL 3 (nDisp nNil))
  (sSeq (sFor (itR1 (nCons (eBin dSub (eCall (o1of dLen) (nCons (eName 2) nNil)) (eC (.int 1))) nNil)) (gSet 4)
  X_law_union_3)
  (sSeq (sRet (eUnL dTupOf 3))
  sNil))))
def F_law_union : List PyData → Option PyData := defP B_law_union 2 4
def B_law_number : SF :=
  (sSeq (sSet 2 (eCallL F_law_draw 0 (nCons (eC (.int 4)) nNil)))
  (sSeq (sIf (tBl (eBin dEq (eName 2) (eC (.int 0))))
  (sSeq (sRet (eCallL F_law_draw 0 (nCons (eBin dAdd (eName 1) (eC (.int 1))) nNil)))
  sNil)
  sNil)
  (sSeq (sIf (tBl (eBin dEq (eName 2) (eC (.int 1))))
  (sSeq (sRet (eCall (o2of dMin) (nCons (eName 1) (nCons (eCallL F_law_draw 0 (nCons (eC (.int 12)) nNil)) nNil))))
  sNil)
  sNil)
  (sSeq (sIf (tBl (eBin dEq (eName 2) (eC (.int 2))))
  (sSeq (sRet (eCall (o2of dMax) (nCons (eC (.int 0)) (nCons (eBin dSub (eName 1) (eCallL F_law_draw 0 (nCons (eC (.int 12)) nNil))) nNil))))
  sNil)
  sNil)
  (sSeq (sRet (eCall (o2of dMin) (nCons (eName 1) (nCons (eBin dMul (eC (.int 256)) (eCallL F_law_draw 0 (nCons (eC (.int 256)) nNil))) nNil))))
  sNil)))))
def F_law_number : List PyData → List PyData → Option (PyData × List PyData) := defL B_law_number 1 1
def X_law_pairs_1 : SF :=
  (sSeq (sSet 5 (eCallL F_law_number 0 (nCons (eName 1) nNil)))
  (sSeq (sApp 3 (eTup (nCons (eName 5) (nCons (eCall (o2of dMin) (nCons (eName 1) (nCons (eBin dAdd (eName 5) (eBin dIx (eTup (nCons (eC (.int 0)) (nCons (eC (.int 1)) (nCons (eC (.int 3)) (nCons (eC (.int 255)) (nCons (eC (.int 5000)) nNil)))))) (eCallL F_law_draw 0 (nCons (eC (.int 5)) nNil)))) nNil))) nNil))))
  sNil))
def B_law_pairs : SF :=
  (sSeq (sSetL 3 (nDisp nNil))
  (sSeq (sFor (itR1 (nCons (eName 2) nNil)) (gSet 4)
  X_law_pairs_1)
  (sSeq (sRetO 3)
  sNil)))
def F_law_pairs : List PyData → List PyData → Option (PyData × List PyData) := defL B_law_pairs 2 3
def B_law_drawn_set : SF :=
  (sSeq (sRet (eCall F_law_union (nCons (eCallL F_law_pairs 0 (nCons (eName 1) (nCons (eCallL F_law_draw 0 (nCons (eBin dAdd (eName 2) (eC (.int 1))) nNil)) nNil))) (nCons (eName 1) nNil))))
  sNil)
def F_law_drawn_set : List PyData → List PyData → Option (PyData × List PyData) := defL B_law_drawn_set 2 0
def X_law_power_1 : SF :=
  (sSeq (sSet 1 (eBin dMul (eName 1) (eC (.int 2))))
  sNil)
def B_law_power : SF :=
  (sSeq (sSet 1 (eC (.int 1)))
  (sSeq (sFor (itR1 (nCons (eName 0) nNil)) (gSet 2)
  X_law_power_1)
  (sSeq (sRet (eName 1))
  sNil)))
def F_law_power : List PyData → Option PyData := defP B_law_power 1 2
def B_law_pick : SF :=
  (sSeq (sRet (eBin dIx (eName 1) (eCallL F_law_draw 0 (nCons (eCall (o1of dLen) (nCons (eName 1) nNil)) nNil))))
  sNil)
def F_law_pick : List PyData → List PyData → Option (PyData × List PyData) := defL B_law_pick 1 0
def B_law_is_integer : SF :=
  (sSeq (sRet (eAnd (eUn (dIsi "int") (eName 0)) (eNot (eUn (dIsi "bool") (eName 0)))))
  sNil)
def F_law_is_integer : List PyData → Option PyData := defP B_law_is_integer 1 0
end Pr_C
end
section
set_option linter.all false
set_option maxRecDepth 100000
set_option Elab.async false
namespace Pr_C
open PySem PG
/-! ### the pool -/
structure Pool where
  cells : List Int
  at_ : Int
  cur : Int
  n : Int
  salt : Int
def Pool.d (p : Pool) : List PyData := [.list (p.cells.map PyData.int), .int p.at_, .int p.cur, .int p.n, .int p.salt]
def Pool.ok (p : Pool) : Prop := 0 ≤ p.at_
@[simp] theorem ixOf_len (n : Nat) (i : Int) (h0 : 0 ≤ i) (h1 : i < n) : ixOf n i = some i.toNat := by simp [ixOf, h0, h1]
theorem rng4 : rng 0 4 = [.int 0, .int 1, .int 2, .int 3] := rfl
theorem spread_ok (c : Int) : ∃ t, F_law_spread [.int c] = some (.int t) := by
  simp [F_law_spread, defP, B_law_spread, X_law_spread_1, sFor, itR1, in62, rng4, forL]
theorem atD_at {cells : List Int} {i : Int} (h0 : 0 ≤ i) (h1 : i < cells.length) : ∃ c, atD (cells.map PyData.int) i = some (.int c) := by
  refine ⟨cells[i.toNat]'(by omega), ?_⟩
  simp [atD, ixOf, h0, h1]

def zed (salt n : Int) : Int := ((salt * 48271 + (n + 1) * 69621 + 1) % 2147483647 * 16807 + (n + 1)) % 2147483629 / 5
theorem draw_ok (p : Pool) (h : p.ok) (many : Int) (h0 : 0 < many) (h1 : many < 18446744073709551616) : ∃ (v : Int) (p' : Pool), F_law_draw p.d [.int many] = some (.int v, p'.d) ∧ p'.ok ∧ 0 ≤ v ∧ v < many := by
  obtain ⟨cells, a, cur, n, salt⟩ := p
  have hk : (0 : Int) ≤ a := h
  have hk1 : (0 : Int) ≤ a + 1 := by omega
  have e1 : ∀ x : Int, 0 ≤ x % many := fun x => Int.emod_nonneg _ (by omega)
  have e2 : ∀ x : Int, x % many < many := fun x => Int.emod_lt_of_pos _ h0
  by_cases c1 : cur ≤ 0
  · by_cases c2 : a < cells.length
    · obtain ⟨c, hc⟩ := atD_at hk c2
      by_cases c3 : c < 1000000000000000000
      · obtain ⟨t, ht⟩ := spread_ok c
        by_cases c4 : t ≤ 0
        · refine ⟨zed salt n % many, ⟨cells, a + 1, t, n + 1, salt⟩, ?_, hk1, e1 _, e2 _⟩
          simp [F_law_draw, B_law_draw, defL, Pool.d, zed, atD, ixOf, c1, c2, hk, ht, c3, c4, h0, h1] at hc ⊢
          simp [hc, ht, c3, c4, h0, h1]
        · refine ⟨t % many, ⟨cells, a + 1, t / many, n + 1, salt⟩, ?_, hk1, e1 _, e2 _⟩
          simp [F_law_draw, B_law_draw, defL, Pool.d, zed, atD, ixOf, c1, c2, hk, ht, c3, c4, h0, h1] at hc ⊢
          simp [hc, ht, c3, c4, h0, h1]
      · have c4 : ¬ c ≤ 0 := by omega
        refine ⟨c % many, ⟨cells, a + 1, c / many, n + 1, salt⟩, ?_, hk1, e1 _, e2 _⟩
        simp [F_law_draw, B_law_draw, defL, Pool.d, zed, atD, ixOf, c1, c2, hk, c3, c4, h0, h1] at hc ⊢
        simp [hc, c3, c4, h0, h1]
    · refine ⟨zed salt n % many, ⟨cells, a, cur, n + 1, salt⟩, ?_, hk, e1 _, e2 _⟩
      simp [F_law_draw, B_law_draw, defL, Pool.d, zed, atD, ixOf, c1, c2, h0, h1]
  · refine ⟨cur % many, ⟨cells, a, cur / many, n + 1, salt⟩, ?_, hk, e1 _, e2 _⟩
    simp [F_law_draw, B_law_draw, defL, Pool.d, zed, atD, ixOf, c1, h0, h1]

/-! ### loops -/
theorem forL_ind {g : GF} {b : SF} {P : List PyData → Rho → Prop} : ∀ (ds : List PyData) (ρ : Rho), P ds ρ → (∀ d r ρ, P (d :: r) ρ → ∃ ρ1 ρ2, g d ρ = some ρ1 ∧ b ρ1 = some (.next, ρ2) ∧ P r ρ2) → ∃ ρ', forL g b ds ρ = some (.next, ρ') ∧ P [] ρ'
  | [], ρ, h, _ => ⟨ρ, rfl, h⟩
  | d :: r, ρ, h, hs => by
    obtain ⟨ρ1, ρ2, e1, e2, h2⟩ := hs d r ρ h
    obtain ⟨ρ', e3, h3⟩ := forL_ind r ρ2 h2 hs
    exact ⟨ρ', by simp [forL, e1, e2, e3], h3⟩
/-- a comprehension that changes nothing -/
theorem compL_pure {g : GF} {t : TF} {e : EF} {vs : List Nat} {ρ : Rho} (c : PyData → Bool) (m : PyData → PyData) : ∀ (ds acc : List PyData), acc.length + ds.length ≤ 16777216 →
    (∀ d ∈ ds, ∃ ρ1, g d ρ = some ρ1 ∧ t ρ1 = some (c d, ρ1) ∧ (c d = true → e ρ1 = some (m d, ρ1)) ∧ plainAt ρ1 vs = true ∧ wipeR ρ1 vs = ρ) → compL g t e vs ds acc ρ = some (acc ++ (ds.filter c).map m, ρ)
  | [], acc, _, _ => by simp [compL]
  | d :: ds, acc, hl, h => by
    obtain ⟨ρ1, e1, e2, e3, e4, e5⟩ := h d (by simp)
    have hl' : acc.length + ds.length + 1 ≤ 16777216 := by simp only [List.length_cons] at hl; omega
    cases hc : c d with
    | false =>
      have ih := compL_pure c m ds acc (by omega) fun x hx => h x (by simp [hx])
      simp [compL, e1, e2, hc, e4, e5, ih]
    | true =>
      have ih := compL_pure c m ds (acc ++ [m d]) (by simp; omega) fun x hx => h x (by simp [hx])
      have hlt : acc.length < 16777216 := by omega
      simp [compL, e1, e2, e3 hc, hc, e4, e5, ih, hlt]
/-- .. that changes the state -/
theorem compL_ind {g : GF} {t : TF} {e : EF} {vs : List Nat} {P : List PyData → List PyData → Rho → Prop} : ∀ (ds acc : List PyData) (ρ : Rho), acc.length + ds.length ≤ 16777216 → P ds acc ρ →
    (∀ d r acc ρ, P (d :: r) acc ρ → ∃ ρ1 ρ2 y ρ3, g d ρ = some ρ1 ∧ t ρ1 = some (true, ρ2) ∧ e ρ2 = some (y, ρ3) ∧ plainAt ρ3 vs = true ∧ P r (acc ++ [y]) (wipeR ρ3 vs)) →
    ∃ out ρ', compL g t e vs ds acc ρ = some (out, ρ') ∧ P [] out ρ' ∧ out.length = acc.length + ds.length
  | [], acc, ρ, _, h, _ => ⟨acc, ρ, rfl, h, rfl⟩
  | d :: r, acc, ρ, hl, h, hs => by
    obtain ⟨ρ1, ρ2, y, ρ3, e1, e2, e3, e4, h2⟩ := hs d r acc ρ h
    simp only [List.length_cons] at hl
    obtain ⟨out, ρ', e5, h5, h6⟩ := compL_ind r (acc ++ [y]) _ (by simp; omega) h2 hs
    have hlt : acc.length < 16777216 := by omega
    exact ⟨out, ρ', by simp [compL, e1, e2, e3, e4, hlt, e5], h5, by rw [h6]; simp; omega⟩

/-! ### two data that are one -/
mutual
def dep : PyData → Nat
  | .list xs => depA xs + 1
  | .tuple xs => depA xs + 1
  | _ => 1
def depA : List PyData → Nat
  | [] => 0
  | x :: xs => max (dep x) (depA xs)
end
mutual
def nod : PyData → Bool
  | .list xs => nodA xs
  | .tuple xs => nodA xs
  | .dict _ => false
  | .str x => PyData.canLay0 (.str x)
  | _ => true
def nodA : List PyData → Bool
  | [] => true
  | x :: xs => nod x && nodA xs
end
theorem dep_mem : ∀ {xs : List PyData} {x : PyData}, x ∈ xs → dep x ≤ depA xs
  | y :: xs, x, h => by
    simp only [depA]
    rcases List.mem_cons.mp h with e | e
    · subst e; omega
    · have := dep_mem e; omega
theorem nod_mem : ∀ {xs : List PyData} {x : PyData}, nodA xs = true → x ∈ xs → nod x = true
  | y :: xs, x, h0, h => by
    simp only [nodA, Bool.and_eq_true] at h0
    rcases List.mem_cons.mp h with e | e
    · subst e; exact h0.1
    · exact nod_mem h0.2 e
theorem atD_nat {xs : List PyData} {k : Nat} (h : k < xs.length) : atD xs (k : Int) = some xs[k] := by
  have h2 : (k : Int) < (xs.length : Int) := by omega
  simp [atD, ixOf, h2, h]
theorem same_turn (n : Nat) (xs : List PyData) (d : PyData) (hix : ∀ i, dIx d (.int i) = atD xs i) (ih : ∀ x ∈ xs, F_law_same n [x, x] = some (.bool true)) (j : Nat) (hj' : j < xs.length) :
    X_law_same_1 (F_law_same n) [some (.v d), some (.v d), some (.v (.int (j : Nat)))] = some (false, [some (.v d), some (.v d), some (.v (.int (j : Nat)))]) := by
  have e1 : dIx d (.int (j : Nat)) = some xs[j] := by rw [hix, atD_nat hj']
  have e2 := ih xs[j] (List.getElem_mem hj')
  simp [X_law_same_1, -dIx, e1, e2]
theorem same_comp (n : Nat) (xs : List PyData) (d : PyData) (hix : ∀ i, dIx d (.int i) = atD xs i) (hl : xs.length < 16777216) (ih : ∀ x ∈ xs, F_law_same n [x, x] = some (.bool true)) :
    compL (gSet 2) (X_law_same_1 (F_law_same n)) (X_law_same_2 (F_law_same n)) [2] (rng 0 xs.length) [] [some (.v d), some (.v d), none] = some ([], [some (.v d), some (.v d), none]) := by
  have hr : (rng 0 xs.length).length = xs.length := by simp [rng]
  have this := compL_pure (g := gSet 2) (t := X_law_same_1 (F_law_same n)) (e := X_law_same_2 (F_law_same n)) (vs := [2]) (ρ := [some (.v d), some (.v d), none]) (fun _ => false) id (rng 0 xs.length) [] (by rw [hr, List.length_nil]; omega) fun k hk => by
        unfold rng at hk
        obtain ⟨j, hj, rfl⟩ := List.mem_map.mp hk
        have hj' : j < xs.length := by simpa using hj
        rw [Int.zero_add]
        exact ⟨[some (.v d), some (.v d), some (.v (.int (j : Nat)))], by simp, same_turn n xs d hix ih j hj', (fun z => by cases z), by simp [plainAt], by simp [wipeR]⟩
  have ef : (rng 0 xs.length).filter (fun _ => false) = [] := by simp [List.filter_eq_nil_iff]
  rw [this, ef]
  simp
theorem same_n (n : Nat) (xs : List PyData) (d : PyData) (hix : ∀ i, dIx d (.int i) = atD xs i) (hlen : dLen d = some (.int xs.length)) (hl : xs.length < 16777216) (ih : ∀ x ∈ xs, F_law_same n [x, x] = some (.bool true)) :
    nComp (itR1 (nCons (eCall (o1of dLen) (nCons (eName 1) nNil)) nNil)) (gSet 2) (X_law_same_1 (F_law_same n)) (X_law_same_2 (F_law_same n)) [2] [some (.v d), some (.v d), none] = some ([], [some (.v d), some (.v d), none]) := by
  have hin : in62 (xs.length : Int) = true := by
    simp only [in62, Bool.and_eq_true, decide_eq_true_eq]
    omega
  have h1 := same_comp n xs d hix hl ih
  simp [nComp, itR1, hlen, -dLen, hin, plainAt, wipeR, h1, restR]
theorem ix_lst (xs : List PyData) : ∀ i, dIx (.list xs) (.int i) = atD xs i := fun _ => rfl
theorem ix_tup' (xs : List PyData) : ∀ i, dIx (.tuple xs) (.int i) = atD xs i := fun _ => rfl
theorem len_lst (xs : List PyData) : dLen (.list xs) = some (.int xs.length) := rfl
theorem len_tup (xs : List PyData) : dLen (.tuple xs) = some (.int xs.length) := rfl
theorem same_end (f : NF) (d : PyData) (k2 : f [some (.v d), some (.v d), none] = some ([], [some (.v d), some (.v d), none])) :
    eBin dEq (eCall (o1of dLen) (nCons (eLst f) nNil)) (eC (.int 0)) [some (.v d), some (.v d), none] = some (.bool true, [some (.v d), some (.v d), none]) := by
  simp [k2]
theorem same_b5 (d : PyData) (hd : (∃ xs, d = .list xs) ∨ ∃ xs, d = .tuple xs) (B : SF) (g : EF) (h : g [some (.v d), some (.v d), none] = some (.bool true, [some (.v d), some (.v d), none])) :
 sSeq (sIf (tOr' (tTru (eUn (dIsi "tuple") (eName 1))) (tTru (eUn (dIsi "list") (eName 1))))
  (sSeq (sIf (tOr' (tBl (eBin dNe (eUn (dIsi "tuple") (eName 1)) (eUn (dIsi "tuple") (eName 0)))) (tOr' (tBl (eBin dNe (eUn (dIsi "list") (eName 1)) (eUn (dIsi "list") (eName 0)))) (tBl (eBin dNe (eCall (o1of dLen) (nCons (eName 0) nNil)) (eCall (o1of dLen) (nCons (eName 1) nNil))))))
  (sSeq (sRet (eC (.bool false)))
  sNil)
  sNil)
  (sSeq (sRet g)
  sNil))
  sNil) B [some (.v d), some (.v d), none] = some (.ret (.bool true), [some (.v d), some (.v d), none]) := by
  rcases hd with ⟨xs, rfl⟩ | ⟨xs, rfl⟩ <;> simp [h]
theorem same_last (b : SF) (d : PyData) (r : Rho) (h : b [some (.v d), some (.v d), none] = some (.ret (.bool true), r)) : defP b 2 1 [d, d] = some (.bool true) := by
  simp [defP, h]
theorem same_list (n : Nat) (xs : List PyData) (hl : xs.length < 16777216) (ih : ∀ x ∈ xs, F_law_same n [x, x] = some (.bool true)) : F_law_same (n + 1) [.list xs, .list xs] = some (.bool true) := by
  rw [F_law_same]
  refine same_last _ _ [some (.v (.list xs)), some (.v (.list xs)), none] ?_
  unfold B_law_same
  exact same_b5 _ (.inl ⟨xs, rfl⟩) _ _ (same_end _ _ (same_n n xs (.list xs) (ix_lst xs) (len_lst xs) hl ih))
theorem same_tup (n : Nat) (xs : List PyData) (hl : xs.length < 16777216) (ih : ∀ x ∈ xs, F_law_same n [x, x] = some (.bool true)) : F_law_same (n + 1) [.tuple xs, .tuple xs] = some (.bool true) := by
  rw [F_law_same]
  refine same_last _ _ [some (.v (.tuple xs)), some (.v (.tuple xs)), none] ?_
  unfold B_law_same
  exact same_b5 _ (.inr ⟨xs, rfl⟩) _ _ (same_end _ _ (same_n n xs (.tuple xs) (ix_tup' xs) (len_tup xs) hl ih))
theorem same_int (n : Nat) (i : Int) : F_law_same (n + 1) [.int i, .int i] = some (.bool true) := by
  simp [F_law_same, defP, B_law_same]
theorem same_bool (n : Nat) (i : Bool) : F_law_same (n + 1) [.bool i, .bool i] = some (.bool true) := by
  simp [F_law_same, defP, B_law_same]
theorem same_none (n : Nat) : F_law_same (n + 1) [.none, .none] = some (.bool true) := by
  simp [F_law_same, defP, B_law_same]
/-! ### pairs of ints -/
def pr (x : Int × Int) : PyData := .tuple [.int x.1, .int x.2]
def prs (l : List (Int × Int)) : List PyData := l.map pr
theorem same_pr (n : Nat) (x : Int × Int) : F_law_same (n + 2) [pr x, pr x] = some (.bool true) :=
  same_tup (n + 1) _ (by simp) fun y hy => by
    rcases List.mem_cons.mp hy with rfl | hy
    · exact same_int n _
    · rcases List.mem_cons.mp hy with rfl | hy
      · exact same_int n _
      · cases hy
theorem same_prsL (n : Nat) (l : List (Int × Int)) (hl : l.length < 16777216) : F_law_same (n + 3) [.list (prs l), .list (prs l)] = some (.bool true) :=
  same_list (n + 2) _ (by simpa [prs] using hl) fun y hy => by
    obtain ⟨x, _, rfl⟩ := List.mem_map.mp hy
    exact same_pr n x
theorem same_prsT (n : Nat) (l : List (Int × Int)) (hl : l.length < 16777216) : F_law_same (n + 3) [.tuple (prs l), .tuple (prs l)] = some (.bool true) :=
  same_tup (n + 2) _ (by simpa [prs] using hl) fun y hy => by
    obtain ⟨x, _, rfl⟩ := List.mem_map.mp hy
    exact same_pr n x
/-! ### drawn numbers -/
theorem number_ok (p : Pool) (h : p.ok) (top : Int) (h0 : 0 ≤ top) (h1 : top < 1000000000) : ∃ (v : Int) (p' : Pool), F_law_number p.d [.int top] = some (.int v, p'.d) ∧ p'.ok ∧ 0 ≤ v ∧ v ≤ top := by
  obtain ⟨t, p1, e1, k1, t0, t1⟩ := draw_ok p h 4 (by decide) (by decide)
  by_cases c0 : t = 0
  · subst c0
    obtain ⟨v, p2, e2, k2, v0, v1⟩ := draw_ok p1 k1 (top + 1) (by omega) (by omega)
    exact ⟨v, p2, by simp [F_law_number, B_law_number, defL, e1, e2], k2, v0, by omega⟩
  · by_cases c1 : t = 1
    · subst c1
      obtain ⟨v, p2, e2, k2, v0, v1⟩ := draw_ok p1 k1 12 (by decide) (by decide)
      exact ⟨if v < top then v else top, p2, by simp [F_law_number, B_law_number, defL, e1, e2], k2, by split <;> omega, by split <;> omega⟩
    · by_cases c2 : t = 2
      · subst c2
        obtain ⟨v, p2, e2, k2, v0, v1⟩ := draw_ok p1 k1 12 (by decide) (by decide)
        exact ⟨if top - v > 0 then top - v else 0, p2, by simp [F_law_number, B_law_number, defL, e1, e2], k2, by split <;> omega, by split <;> omega⟩
      · obtain ⟨v, p2, e2, k2, v0, v1⟩ := draw_ok p1 k1 256 (by decide) (by decide)
        exact ⟨if 256 * v < top then 256 * v else top, p2, by simp [F_law_number, B_law_number, defL, e1, e2, c0, c1, c2], k2, by split <;> omega, by split <;> omega⟩
/-! ### drawn pairs -/
def okPair (top : Int) (x : Int × Int) : Prop := 0 ≤ x.1 ∧ x.1 ≤ x.2 ∧ x.2 ≤ top
theorem rng_len (lo : Int) (n : Nat) : (rng lo n).length = n := by simp [rng]
theorem rng_mem {lo : Int} {n : Nat} {d : PyData} (h : d ∈ rng lo n) : ∃ k, k < n ∧ d = .int (lo + (k : Nat)) := by
  obtain ⟨k, hk, rfl⟩ := List.mem_map.mp h
  exact ⟨k, by simpa using hk, rfl⟩
theorem five_at {v : Int} (h0 : 0 ≤ v) (h1 : v < 5) : ∃ k : Int, 0 ≤ k ∧ k ≤ 5000 ∧ dIx (.tuple [.int 0, .int 1, .int 3, .int 255, .int 5000]) (.int v) = some (.int k) := by
  rcases (show v = 0 ∨ v = 1 ∨ v = 2 ∨ v = 3 ∨ v = 4 by omega) with rfl | rfl | rfl | rfl | rfl
  · exact ⟨0, by decide, by decide, rfl⟩
  · exact ⟨1, by decide, by decide, rfl⟩
  · exact ⟨3, by decide, by decide, rfl⟩
  · exact ⟨255, by decide, by decide, rfl⟩
  · exact ⟨5000, by decide, by decide, rfl⟩
def plainC (x : Option Cell) : Prop := x = none ∨ ∃ d, x = some (.v d)
theorem setV_at {ρ : Rho} {i : Nat} {d : PyData} {x : Option Cell} (h : ρ[i]? = some x) (hx : plainC x) : setV i d ρ = some (ρ.set i (some (.v d))) := by
  rcases hx with rfl | ⟨y, rfl⟩ <;> simp [h]
theorem pairs_ok (p : Pool) (h : p.ok) (top many : Int) (h0 : 0 ≤ top) (h1 : top < 1000000000) (m0 : 0 ≤ many) (m1 : many ≤ 1000) :
    ∃ (l : List (Int × Int)) (p' : Pool), F_law_pairs p.d [.int top, .int many] = some (.list (prs l), p'.d) ∧ p'.ok ∧ (∀ x ∈ l, okPair top x) ∧ l.length = many.toNat := by
  have hin : in62 many = true := by simp only [in62, Bool.and_eq_true, decide_eq_true_eq]; omega
  obtain ⟨ρ', e, l, p', x4, x5, rfl, k, ol, ll, _, _⟩ := forL_ind (g := gSet 4) (b := X_law_pairs_1) (P := fun ds ρ => ∃ (l : List (Int × Int)) (p' : Pool) (x4 x5 : Option Cell), ρ = [some (.l true p'.d), some (.v (.int top)), some (.v (.int many)), some (.l false (prs l)), x4, x5] ∧ p'.ok ∧ (∀ x ∈ l, okPair top x) ∧ l.length + ds.length = many.toNat ∧ plainC x4 ∧ plainC x5)
    (rng 0 many.toNat) [some (.l true p.d), some (.v (.int top)), some (.v (.int many)), some (.l false []), none, none] ⟨[], p, none, none, rfl, h, by simp, by simp [rng_len], .inl rfl, .inl rfl⟩ (by
      rintro d r ρ ⟨l, p', x4, x5, rfl, k, ol, ll, q4, q5⟩
      obtain ⟨v, p1, e1, k1, v0, v1⟩ := number_ok p' k top h0 h1
      obtain ⟨t, p2, e2, k2, t0, t1⟩ := draw_ok p1 k1 5 (by decide) (by decide)
      obtain ⟨c, c0, c1, e3⟩ := five_at t0 t1
      have hl : l.length < 16777216 := by simp only [List.length_cons] at ll; omega
      refine ⟨[some (.l true p'.d), some (.v (.int top)), some (.v (.int many)), some (.l false (prs l)), some (.v d), x5], _, ?_, ?_, l ++ [(v, if v + c < top then v + c else top)], p2, some (.v d), some (.v (.int v)), rfl, k2, ?_, ?_, .inr ⟨_, rfl⟩, .inr ⟨_, rfl⟩⟩
      · rcases q4 with rfl | ⟨y, rfl⟩ <;> simp
      · rcases q5 with rfl | ⟨y, rfl⟩ <;> simp [X_law_pairs_1, e1, e2, -dIx, e3, hl, prs, pr]
      · intro x hx
        rcases List.mem_append.mp hx with hx | hx
        · exact ol x hx
        · simp only [List.mem_singleton] at hx
          subst hx
          refine ⟨v0, ?_, ?_⟩
          · show v ≤ if v + c < top then v + c else top
            split <;> omega
          · show (if v + c < top then v + c else top) ≤ top
            split <;> omega
      · simp only [List.length_append, List.length_cons, List.length_nil] at ll ⊢
        omega)
  refine ⟨l, p', ?_, k, ol, by simpa using ll⟩
  simp [F_law_pairs, B_law_pairs, defL, sFor, itR1, hin, e]
end Pr_C
end
section
set_option Elab.async false
set_option linter.all false
set_option maxRecDepth 100000
namespace Pr_C
open PySem PG
abbrev IL (e : List Int) : List PyData := e.map PyData.int
theorem wp_draw {p : Pool} {n : Int} {Q : PyData → List PyData → Prop} (hp : p.ok) (h0 : 0 < n) (h1 : n < 18446744073709551616) (q : ∀ (v : Int) (p' : Pool), p'.ok → 0 ≤ v → v < n → Q (.int v) p'.d) : WP (F_law_draw p.d [.int n]) Q := by
  obtain ⟨v, p', e, k, a, b⟩ := draw_ok p hp n h0 h1
  exact ⟨_, _, e, q v p' k a b⟩
/-- what a def that draws gives, whatever the pool holds -/
def LS (F : List PyData → List PyData → Option (PyData × List PyData)) (xs : List PyData) (R : PyData → Prop) : Prop := ∀ p : Pool, p.ok → WP (F p.d xs) fun z ps => ∃ p' : Pool, p'.ok ∧ ps = p'.d ∧ R z
theorem wp_ls {F : List PyData → List PyData → Option (PyData × List PyData)} {xs : List PyData} {R : PyData → Prop} {p : Pool} {Q : PyData → List PyData → Prop} (h : LS F xs R) (hp : p.ok) (q : ∀ (z : PyData) (p' : Pool), p'.ok → R z → Q z p'.d) : WP (F p.d xs) Q :=
  (h p hp).mono fun z ps ⟨p', k, e, r⟩ => by subst e; exact q z p' k r
theorem ls_i {p : Pool} {Q : Prop} (hp : p.ok) (q : Q) : ∃ p' : Pool, p'.ok ∧ p.d = p'.d ∧ Q := ⟨p, hp, rfl, q⟩
local macro_rules | `(tactic| array_get_dec) => `(tactic| first | ((with_reducible apply PG.ws_set)) | ((with_reducible apply PG.ws_if)) | ((with_reducible apply PG.ws_ret)) | ((with_reducible apply PG.ws_setL)) | ((with_reducible apply PG.ws_expr)) | ((with_reducible apply PG.ws_nilc)) | ((with_reducible apply PG.ws_asc)) | ((with_reducible apply PG.ws_nil)) | ((with_reducible apply PG.ws_for)) | ((with_reducible apply PG.ws_asg)) | ((with_reducible apply PG.ws_par)) | ((with_reducible apply PG.ws_retL)) | ((with_reducible apply PG.ws_brk)) | ((with_reducible apply PG.ws_cont)) | ((with_reducible apply PG.ws_forn)) | ((with_reducible apply PG.ws_sto)) | ((with_reducible apply PG.ws_aug); (case hget => rfl)) | ((with_reducible apply PG.ws_app); (case hget => rfl)) | ((with_reducible apply PG.ws_retO); (case hget => rfl)) | ((with_reducible apply PG.we_name); (case hget => rfl)) | ((with_reducible apply PG.we_c)) | ((with_reducible apply PG.we_bin)) | ((with_reducible apply PG.we_un)) | ((with_reducible apply PG.we_call)) | ((with_reducible apply PG.we_callL); (case hget => rfl)) | ((with_reducible apply PG.we_tup)) | ((with_reducible apply PG.we_lst)) | ((with_reducible apply PG.we_if)) | ((with_reducible apply PG.we_ixL); (case hget => rfl)) | ((with_reducible apply PG.we_unL); (case hget => rfl)) | ((with_reducible apply PG.we_and)) | ((with_reducible apply PG.we_or)) | ((with_reducible apply PG.we_not)) | ((with_reducible apply PG.we_chain)) | ((with_reducible apply PG.we_slT)) | ((with_reducible apply PG.wn_cons)) | ((with_reducible apply PG.wn_nil)) | ((with_reducible apply PG.wn_star)) | ((with_reducible apply PG.wn_disp)) | ((with_reducible apply PG.wn_call)) | ((with_reducible apply PG.wn_sl)) | ((with_reducible apply PG.wn_its)) | ((with_reducible apply PG.wn_r1)) | ((with_reducible apply PG.wn_r2)) | ((with_reducible apply PG.wn_r3)) | ((with_reducible apply PG.wt_tru)) | ((with_reducible apply PG.wt_bl)) | ((with_reducible apply PG.wt_and)) | ((with_reducible apply PG.wt_or)) | ((with_reducible apply PG.wt_not)) | ((with_reducible apply PG.wt_yes)) | ((with_reducible apply PG.wt_truL); (case hget => rfl)) | ((with_reducible apply PG.wo_none)) | ((with_reducible apply PG.wo_some)) | ((with_reducible apply PG.wg_p0)) | ((with_reducible apply PG.wg_tup)) | ((with_reducible apply PG.wg_ps); (case hset => (repeat' (first | exact PG.SetR.h0 | exact PG.SetR.h1 | exact PG.SetR.hl | exact PG.SetR.hc (by assumption) | apply PG.SetR.s)))) | ((with_reducible apply PG.wg_set); (case hset => (repeat' (first | exact PG.SetR.h0 | exact PG.SetR.h1 | exact PG.SetR.hl | exact PG.SetR.hc (by assumption) | apply PG.SetR.s)))) | ((with_reducible apply PG.we_frz); (case hget => rfl); (case hset => (repeat' (first | exact PG.SetR.h0 | exact PG.SetR.h1 | exact PG.SetR.hl | exact PG.SetR.hc (by assumption) | apply PG.SetR.s)))) | ((with_reducible apply PG.setr_i); (case hset => (repeat' (first | exact PG.SetR.h0 | exact PG.SetR.h1 | exact PG.SetR.hl | exact PG.SetR.hc (by assumption) | apply PG.SetR.s)))) | ((with_reducible apply PG.setl_i); (case hset => (repeat' (first | exact PG.SetLR.h0 | exact PG.SetLR.h1 | exact PG.SetLR.hl | apply PG.SetLR.s)))) | ((with_reducible apply PG.put_i); (case hset => (repeat' (first | exact PG.PutR.h | apply PG.PutR.s)))) | ((with_reducible apply PG.pool_i); (case hget => rfl)) | ((with_reducible apply PG.bool_i)) | ((with_reducible apply PG.int_i)) | ((with_reducible apply PG.seqL_i)) | ((with_reducible apply PG.seqT_i)) | ((with_reducible apply PG.seqR_i)) | ((with_reducible apply PG.starT_i)) | ((with_reducible apply PG.starL_i)) | ((with_reducible apply PG.len_i); (case h => rfl)) | ((with_reducible apply PG.tup_i)) | ((with_reducible apply PG.yes_i)) | ((with_reducible apply PG.no_i)) | ((with_reducible apply PG.nyes_i)) | ((with_reducible apply PG.nno_i)) | ((with_reducible apply PG.wa_add)) | ((with_reducible apply PG.wa_sub)) | ((with_reducible apply PG.wa_lt)) | ((with_reducible apply PG.wa_le)) | ((with_reducible apply PG.wa_gt)) | ((with_reducible apply PG.wa_ge)) | ((with_reducible apply PG.wa_eqI)) | ((with_reducible apply PG.wa_neI)) | ((with_reducible apply PG.wa_neg)) | ((with_reducible apply PG.wa_lenL)) | ((with_reducible apply PG.wa_lenT)) | ((with_reducible apply PG.wa_int)) | ((with_reducible apply PG.wa_max)) | ((with_reducible apply PG.wa_min)) | ((with_reducible apply PG.wb_bool)) | ((with_reducible apply PG.wb_int)) | ((with_reducible apply PG.endP_ret)) | ((with_reducible apply PG.endP_retL)) | ((with_reducible apply PG.endN_ret)) | ((with_reducible apply PG.endL_ret)) | ((with_reducible apply PG.endL_retL)) | ((with_reducible apply PG.wa_binO)) | ((with_reducible apply PG.ch_le)) | ((with_reducible apply PG.ch_lt)) | ((with_reducible apply PG.ch_eq)) | ((with_reducible apply PG.wa_ix0); (case hget => rfl)) | ((with_reducible apply PG.wa_ix1); (case hget => rfl)) | ((with_reducible apply PG.wa_ix2); (case hget => rfl)) | ((with_reducible apply PG.wa_ix3); (case hget => rfl)) | ((with_reducible apply PG.wa_ix4); (case hget => rfl)) | ((with_reducible apply PG.wa_ix5); (case hget => rfl)) | ((with_reducible apply PG.wa_ix6); (case hget => rfl)) | ((with_reducible apply PG.wa_ix7); (case hget => rfl)) | ((with_reducible apply PG.wa_ix8); (case hget => rfl)) | ((with_reducible apply PG.wa_il0); (case hget => rfl)) | ((with_reducible apply PG.wa_il1); (case hget => rfl)) | ((with_reducible apply PG.wa_il2); (case hget => rfl)) | ((with_reducible apply PG.wa_ev1)) | ((with_reducible apply PG.wa_ev)) | ((with_reducible apply PG.wl_ev)) | ((with_reducible apply PG.wb_ev)) | ((with_reducible apply PG.wa_mod); (case h1 => omega)) | ((with_reducible apply PG.wa_div); (case h1 => omega); (case h2 => omega)) | ((with_reducible apply PG.wa_mulR); (case h1 => omega); (case h2 => omega)) | ((with_reducible apply PG.wa_mulL); (case h1 => omega); (case h2 => omega)) | ((with_reducible apply PG.wa_shr); (case h1 => omega)))
local macro_rules | `(tactic| array_get_dec) => `(tactic| first | ((with_reducible apply Pr_C.wp_draw); (case hp => assumption); (case h0 => omega); (case h1 => omega)) | ((with_reducible apply Pr_C.ls_i); (case hp => assumption)))

theorem number_ls (top : Int) (h0 : 0 ≤ top) (h1 : top < 1000000000) : LS F_law_number [.int top] fun d => ∃ v, d = .int v ∧ 0 ≤ v ∧ v ≤ top := by
  intro p hp
  unfold F_law_number; refine PG.wp_def rfl ?_; simp only [PG.rhoL_eq, List.map_cons, List.map_nil, List.replicate_succ, List.replicate_zero, List.cons_append, List.nil_append]; unfold B_law_number
  (repeat array_get_dec); intro v1 p1 k1 a1 b1; (repeat array_get_dec)
  (first | (with_reducible apply PG.dec_i) | (with_reducible apply PG.decn_i) | (with_reducible apply PG.bit_i)) <;> intro h
  · (repeat array_get_dec); intro v2 p2 k2 a2 b2; (repeat array_get_dec); (refine ⟨?_, ?_⟩ <;> (try split) <;> omega)
  (repeat array_get_dec); (first | (with_reducible apply PG.dec_i) | (with_reducible apply PG.decn_i) | (with_reducible apply PG.bit_i)) <;> intro h
  · (repeat array_get_dec); intro v2 p2 k2 a2 b2; (repeat array_get_dec); (refine ⟨?_, ?_⟩ <;> (try split) <;> omega)
  (repeat array_get_dec); (first | (with_reducible apply PG.dec_i) | (with_reducible apply PG.decn_i) | (with_reducible apply PG.bit_i)) <;> intro h
  · (repeat array_get_dec); intro v2 p2 k2 a2 b2; (repeat array_get_dec); (refine ⟨?_, ?_⟩ <;> (try split) <;> omega)
  (repeat array_get_dec); intro v2 p2 k2 a2 b2; (repeat array_get_dec); (refine ⟨?_, ?_⟩ <;> (try split) <;> omega)
end Pr_C
end
section
set_option linter.all false
set_option maxRecDepth 100000
set_option Elab.async false
namespace Pr_C
open PySem PG
/-! ### loops over a range -/
theorem forL_rng {g : GF} {b : SF} {P : Nat → Rho → Prop} (n : Nat) (ρ : Rho) (h0 : P 0 ρ) (hs : ∀ k ρ, k < n → P k ρ → ∃ ρ1 ρ2, g (.int (k : Nat)) ρ = some ρ1 ∧ b ρ1 = some (.next, ρ2) ∧ P (k + 1) ρ2) : ∃ ρ', forL g b (rng 0 n) ρ = some (.next, ρ') ∧ P n ρ' := by
  obtain ⟨ρ', e, k, hk, hd, hp⟩ := forL_ind (g := g) (b := b) (P := fun ds ρ => ∃ k, k ≤ n ∧ ds = (rng 0 n).drop k ∧ P k ρ) (rng 0 n) ρ ⟨0, by omega, rfl, h0⟩ (by
    rintro d r ρ ⟨k, hk, hd, hp⟩
    have hl := congrArg List.length hd
    simp only [List.length_cons, List.length_drop, rng_len] at hl
    have hk' : k < (rng 0 n).length := by rw [rng_len]; omega
    rw [List.drop_eq_getElem_cons hk'] at hd
    obtain ⟨rfl, rfl⟩ := List.cons.inj hd
    have hx : (rng 0 n)[k] = .int (k : Nat) := by simp [rng]
    obtain ⟨ρ1, ρ2, e1, e2, h2⟩ := hs k ρ (by omega) hp
    exact ⟨ρ1, ρ2, by rw [hx]; exact e1, e2, k + 1, by omega, rfl, h2⟩)
  have hl := congrArg List.length hd
  simp only [List.length_nil, List.length_drop, rng_len] at hl
  have : k = n := by omega
  subst this
  exact ⟨ρ', e, hp⟩
/-! ### the pool -/
theorem pool_ok (ns : List Int) (h : ns.length ≤ 63) : ∃ p : Pool, F_law_pool [RO (ns.map PyData.int)] = some p.d ∧ p.ok := by
  obtain ⟨ρ', e, s, x2, rfl, _, _⟩ := forL_ind (g := gSet 2) (b := X_law_pool_1) (P := fun ds ρ => ∃ (s : Int) (x2 : Option Cell), ρ = [some (.v (RO (ns.map PyData.int))), some (.v (.int s)), x2] ∧ plainC x2 ∧ ∀ d ∈ ds, ∃ i : Int, d = .int i)
    (cutD (ns.map PyData.int) none (some 63)) [some (.v (RO (ns.map PyData.int))), some (.v (.int 7)), none] ⟨7, none, rfl, .inl rfl, by
      intro d hd
      have := List.mem_of_mem_drop (List.mem_of_mem_take hd)
      obtain ⟨i, _, rfl⟩ := List.mem_map.mp this
      exact ⟨i, rfl⟩⟩ (by
      rintro d r ρ ⟨s, x2, rfl, q2, hd⟩
      obtain ⟨i, rfl⟩ := hd d (by simp)
      refine ⟨[some (.v (RO (ns.map PyData.int))), some (.v (.int s)), some (.v (.int i))], [some (.v (RO (ns.map PyData.int))), some (.v (.int ((s * 31 + i) % 1000003))), some (.v (.int i))], ?_, ?_, _, _, rfl, .inr ⟨_, rfl⟩, fun d h => hd d (by simp [h])⟩
      · rcases q2 with rfl | ⟨y, rfl⟩ <;> simp
      · simp [X_law_pool_1])
  refine ⟨⟨ns, 0, 0, 0, s⟩, ?_, by simp [Pool.ok]⟩
  simp only [RO] at e ⊢
  simp [F_law_pool, B_law_pool, defN, sFor, e, Pool.d]
/-! ### has -/
def hasP (l : List (Int × Int)) (x : Int) : Bool := l.any fun p => decide (p.1 ≤ x) && decide (x ≤ p.2)
def cHas (x : Int) : PyData → Bool
  | .tuple [.int a, .int b] => decide (a ≤ x) && decide (x ≤ b)
  | _ => false
@[simp] theorem dIx_p0 (a b : PyData) : dIx (.tuple [a, b]) (.int 0) = some a := rfl
@[simp] theorem dIx_p1 (a b : PyData) : dIx (.tuple [a, b]) (.int 1) = some b := rfl
theorem has_filter (l : List (Int × Int)) (c : PyData → Bool) (c' : Int × Int → Bool) (h : ∀ p, c (pr p) = c' p) : decide ((0 : Int) < (((prs l).filter c).length : Nat)) = l.any c' := by
  induction l with
  | nil => rfl
  | cons p l ih =>
    simp only [prs, List.map_cons, List.filter_cons, List.any_cons] at ih ⊢
    rw [h p]
    cases c' p
    · simp only [Bool.false_eq_true, if_false, Bool.false_or]; exact ih
    · simp only [if_true, Bool.true_or, decide_eq_true_eq, List.length_cons]; omega
theorem has_ok (l : List (Int × Int)) (d : PyData) (x : Int) (hd : d = .list (prs l) ∨ d = .tuple (prs l)) (hl : l.length ≤ 16777216) : F_law_has [d, .int x] = some (.bool (hasP l x)) := by
  have hit : itS (eName 0) [some (.v d), some (.v (.int x)), none] = some (prs l, [some (.v d), some (.v (.int x)), none]) := by rcases hd with rfl | rfl <;> rfl
  have hc := compL_pure (g := gSet 2) (t := X_law_has_1) (e := X_law_has_2) (vs := [2]) (ρ := [some (.v d), some (.v (.int x)), none]) (cHas x) id (prs l) [] (by simpa [prs] using hl) (by
    intro y hy
    obtain ⟨p, _, rfl⟩ := List.mem_map.mp hy
    refine ⟨[some (.v d), some (.v (.int x)), some (.v (pr p))], by simp, ?_, by simp [X_law_has_2], by simp [plainAt], by simp [wipeR]⟩
    simp only [pr, X_law_has_1, cHas]
    by_cases c1 : p.1 ≤ x <;> simp [-dIx, c1])
  have hn : nComp (itS (eName 0)) (gSet 2) X_law_has_1 X_law_has_2 [2] [some (.v d), some (.v (.int x)), none] = some ((prs l).filter (cHas x), [some (.v d), some (.v (.int x)), none]) := by
    unfold nComp
    rw [hit]
    simp [plainAt, wipeR, restR, hc]
  have hf := has_filter l (cHas x) (fun p => decide (p.1 ≤ x) && decide (x ≤ p.2)) (fun p => rfl)
  simp only [F_law_has, B_law_has, defP]
  simp [hn, -Int.natCast_pos] at hf ⊢
  rw [hasP, ← hf]
/-! ### unions -/
theorem intsOf_ints : ∀ ns : List Int, intsOf (ns.map PyData.int) = some ns
  | [] => rfl
  | k :: r => by simp [intsOf, intsOf_ints r]
theorem dSortSet_ints (ns : List Int) (h : ns.length < 64) : dSortSet (.list (ns.map PyData.int)) = some ((sortI ns).map PyData.int) := by
  simp [dSortSet, intsOf_ints, h]
theorem atD_ints (ns : List Int) (k : Nat) (h : k < ns.length) : dIx (.list (ns.map PyData.int)) (.int (k : Nat)) = some (.int ns[k]) := by
  show atD _ _ = _
  rw [atD_nat (by simpa using h)]
  simp
theorem ixOf_last (xs : List PyData) (y : PyData) : ixOf (xs ++ [y]).length (-1) = some xs.length := by
  have h : (-1 : Int) + ((xs ++ [y]).length : Int) = xs.length := by simp; omega
  have h0 : ¬ (0 : Int) ≤ -1 := by decide
  have h1 : -((xs ++ [y]).length : Int) ≤ -1 := by simp; omega
  unfold ixOf
  rw [if_neg h0, if_pos h1, h]
  simp
theorem atD_last (xs : List PyData) (y : PyData) : dIx (.list (xs ++ [y])) (.int (-1)) = some y := by
  show atD _ _ = _
  unfold atD
  rw [ixOf_last]
  simp
def mn1 (top : Int) : PyData → PyData
  | .tuple [.int a, .int b] => .int (if top + 1 < a then top + 1 else a)
  | _ => .none
def mn2 (top : Int) : PyData → PyData
  | .tuple [.int a, .int b] => .int (if top + 1 < b + 1 then top + 1 else b + 1)
  | _ => .none
def edges (l : List (Int × Int)) (top : Int) : List Int := [0, top + 1] ++ l.map (fun p => if top + 1 < p.1 then top + 1 else p.1) ++ l.map (fun p => if top + 1 < p.2 + 1 then top + 1 else p.2 + 1)
theorem map_true (xs : List PyData) : xs.filter (fun _ => true) = xs := by simp
theorem comp_u1 (l : List (Int × Int)) (top : Int) (hl : l.length ≤ 30) : nComp (itS (eName 0)) (gSet 5) tYesF X_law_union_1 [5] [some (.v (.list (prs l))), some (.v (.int top)), none, none, none, none] = some (l.map (fun p => PyData.int (if top + 1 < p.1 then top + 1 else p.1)), [some (.v (.list (prs l))), some (.v (.int top)), none, none, none, none]) := by
  have hc := compL_pure (g := gSet 5) (t := tYesF) (e := X_law_union_1) (vs := [5]) (ρ := [some (.v (.list (prs l))), some (.v (.int top)), none, none, none, none]) (fun _ => true) (mn1 top) (prs l) [] (by simp [prs]; omega) (by
    intro y hy
    obtain ⟨p, _, rfl⟩ := List.mem_map.mp hy
    exact ⟨[some (.v (.list (prs l))), some (.v (.int top)), none, none, none, some (.v (pr p))], by simp, by simp, by simp [X_law_union_1, pr, mn1, -dIx], by simp [plainAt], by simp [wipeR]⟩)
  rw [map_true] at hc
  have e : (prs l).map (mn1 top) = l.map (fun p => PyData.int (if top + 1 < p.1 then top + 1 else p.1)) := by simp [prs, pr, mn1]
  rw [e] at hc
  unfold nComp
  simp [plainAt, wipeR, restR] at hc ⊢
  simp [hc]
theorem comp_u2 (l : List (Int × Int)) (top : Int) (hl : l.length ≤ 30) : nComp (itS (eName 0)) (gSet 5) tYesF X_law_union_2 [5] [some (.v (.list (prs l))), some (.v (.int top)), none, none, none, none] = some (l.map (fun p => PyData.int (if top + 1 < p.2 + 1 then top + 1 else p.2 + 1)), [some (.v (.list (prs l))), some (.v (.int top)), none, none, none, none]) := by
  have hc := compL_pure (g := gSet 5) (t := tYesF) (e := X_law_union_2) (vs := [5]) (ρ := [some (.v (.list (prs l))), some (.v (.int top)), none, none, none, none]) (fun _ => true) (mn2 top) (prs l) [] (by simp [prs]; omega) (by
    intro y hy
    obtain ⟨p, _, rfl⟩ := List.mem_map.mp hy
    exact ⟨[some (.v (.list (prs l))), some (.v (.int top)), none, none, none, some (.v (pr p))], by simp, by simp, by simp [X_law_union_2, pr, mn2, -dIx], by simp [plainAt], by simp [wipeR]⟩)
  rw [map_true] at hc
  have e : (prs l).map (mn2 top) = l.map (fun p => PyData.int (if top + 1 < p.2 + 1 then top + 1 else p.2 + 1)) := by simp [prs, pr, mn2]
  rw [e] at hc
  unfold nComp
  simp [plainAt, wipeR, restR] at hc ⊢
  simp [hc]
/-- one edge -/
theorem turn_no (L : PyData) (E F : List PyData) (top : Int) (k : PyData) (e0 : PyData) (h0 : dIx (.list E) k = some e0) (hh : F_law_has [L, e0] = some (.bool false)) :
    X_law_union_3 [some (.v L), some (.v (.int top)), some (.v (.list E)), some (.l false F), some (.v k), none] = some (.next, [some (.v L), some (.v (.int top)), some (.v (.list E)), some (.l false F), some (.v k), none]) := by
  simp [X_law_union_3, -dIx, h0, hh]
theorem turn_new (L : PyData) (E F : List PyData) (top k e0 e1 : Int) (h0 : dIx (.list E) (.int k) = some (.int e0)) (h1 : dIx (.list E) (.int (k + 1)) = some (.int e1)) (hh : F_law_has [L, .int e0] = some (.bool true)) (hf : F.length < 16777216) (hn : F = [] ∨ ∃ G a b, F = G ++ [.tuple [.int a, .int b]] ∧ b + 1 ≠ e0) :
    X_law_union_3 [some (.v L), some (.v (.int top)), some (.v (.list E)), some (.l false F), some (.v (.int k)), none] = some (.next, [some (.v L), some (.v (.int top)), some (.v (.list E)), some (.l false (F ++ [.tuple [.int e0, .int (e1 - 1)]])), some (.v (.int k)), none]) := by
  rcases hn with rfl | ⟨G, a, b, rfl, hne⟩
  · simp [X_law_union_3, -dIx, h0, h1, hh]
  · have hl := atD_last G (.tuple [.int a, .int b])
    have hp : (0 : Int) < ((G ++ [PyData.tuple [.int a, .int b]]).length : Int) := by simp
    generalize G ++ [PyData.tuple [.int a, .int b]] = F at *
    have hp' : 0 < F.length := by omega
    simp [X_law_union_3, -dIx, h0, h1, hh, hl, hne, hf, hp']
theorem turn_join (L : PyData) (E G : List PyData) (top k e0 e1 a b : Int) (h0 : dIx (.list E) (.int k) = some (.int e0)) (h1 : dIx (.list E) (.int (k + 1)) = some (.int e1)) (hh : F_law_has [L, .int e0] = some (.bool true)) (hne : b + 1 = e0) :
    X_law_union_3 [some (.v L), some (.v (.int top)), some (.v (.list E)), some (.l false (G ++ [.tuple [.int a, .int b]])), some (.v (.int k)), none] = some (.next, [some (.v L), some (.v (.int top)), some (.v (.list E)), some (.l false (G ++ [.tuple [.int a, .int (e1 - 1)]])), some (.v (.int k)), none]) := by
  have hl := atD_last G (.tuple [.int a, .int b])
  have hi := ixOf_last G (.tuple [.int a, .int b])
  have hs : (G ++ [PyData.tuple [.int a, .int b]]).set G.length (.tuple [.int a, .int (e1 - 1)]) = G ++ [.tuple [.int a, .int (e1 - 1)]] := by simp
  have hp : (0 : Int) < ((G ++ [PyData.tuple [.int a, .int b]]).length : Int) := by simp
  generalize G ++ [PyData.tuple [.int a, .int b]] = F at *
  have hp' : 0 < F.length := by omega
  simp [X_law_union_3, -dIx, h0, h1, hh, hl, hne, hi, hs, hp']
/-- a set as the document has it, but for the gaps -/
def PwS (l : List (Int × Int)) : Prop := l.Pairwise fun x y => x.2 < y.1
theorem pw_snoc {l : List (Int × Int)} {y : Int × Int} (h : PwS l) (hy : ∀ x ∈ l, x.2 < y.1) : PwS (l ++ [y]) := by
  unfold PwS
  rw [List.pairwise_append]
  exact ⟨h, by simp, fun x hx z hz => by simp only [List.mem_singleton] at hz; subst hz; exact hy x hx⟩
theorem pw_left {l m : List (Int × Int)} (h : PwS (l ++ m)) : PwS l := (List.pairwise_append.mp h).1
def Fin (L : PyData) (E : List PyData) (top k B : Int) (n : Nat) (r : List (Int × Int)) (r' : List (Int × Int)) : Prop := (∀ x ∈ r', okPair top x) ∧ PwS r' ∧ r'.length ≤ n ∧ (∀ x ∈ r', x.2 < B) ∧ X_law_union_3 [some (.v L), some (.v (.int top)), some (.v (.list E)), some (.l false (prs r)), some (.v (.int k)), none] = some (.next, [some (.v L), some (.v (.int top)), some (.v (.list E)), some (.l false (prs r')), some (.v (.int k)), none])
theorem union_loop (L : PyData) (l : List (Int × Int)) (hL : L = .list (prs l)) (hl : l.length ≤ 16777216) (top : Int) (E : List Int) (hE : E.Pairwise (· < ·)) (hlen : E.length ≤ 64) (hb : ∀ e ∈ E, 0 ≤ e ∧ e ≤ top + 1) :
    ∃ (r : List (Int × Int)) (x4 : Option Cell), forL (gSet 4) X_law_union_3 (rng 0 (E.length - 1)) [some (.v L), some (.v (.int top)), some (.v (.list (E.map PyData.int))), some (.l false []), none, none] = some (.next, [some (.v L), some (.v (.int top)), some (.v (.list (E.map PyData.int))), some (.l false (prs r)), x4, none]) ∧ (∀ x ∈ r, okPair top x) ∧ PwS r ∧ r.length ≤ 64 := by
  obtain ⟨ρ', e, r, x4, rfl, q4, o, w, c, _⟩ := forL_rng (g := gSet 4) (b := X_law_union_3) (P := fun k ρ => ∃ (r : List (Int × Int)) (x4 : Option Cell), ρ = [some (.v L), some (.v (.int top)), some (.v (.list (E.map PyData.int))), some (.l false (prs r)), x4, none] ∧ plainC x4 ∧ (∀ x ∈ r, okPair top x) ∧ PwS r ∧ r.length ≤ k ∧ ∀ e, E[k]? = some e → ∀ x ∈ r, x.2 < e)
    (E.length - 1) [some (.v L), some (.v (.int top)), some (.v (.list (E.map PyData.int))), some (.l false []), none, none] ⟨[], none, rfl, .inl rfl, by simp, by simp [PwS], by simp, by simp⟩ (by
      rintro k ρ hk ⟨r, x4, rfl, q4, o, w, c, he⟩
      have k0 : k < E.length := by omega
      have k1 : k + 1 < E.length := by omega
      have hlt : E[k] < E[k + 1] := List.pairwise_iff_getElem.mp hE k (k + 1) k0 k1 (by omega)
      have b0 := hb E[k] (List.getElem_mem k0)
      have b1 := hb E[k + 1] (List.getElem_mem k1)
      have a0 := atD_ints E k k0
      have a1 := atD_ints E (k + 1) k1
      have he := he E[k] (by simp [k0])
      have hs : ∀ e, E[k + 1]? = some e → e = E[k + 1] := fun e h => by simpa [k1, eq_comm] using h
      generalize hA : E[k] = A at *
      generalize hB : E[k + 1] = B at *
      have hg : ∀ (d : PyData), gSet 4 d [some (.v L), some (.v (.int top)), some (.v (.list (E.map PyData.int))), some (.l false (prs r)), x4, none] = some [some (.v L), some (.v (.int top)), some (.v (.list (E.map PyData.int))), some (.l false (prs r)), some (.v d), none] := by
        intro d
        rcases q4 with rfl | ⟨y, rfl⟩ <;> rfl
      have hh := has_ok l L A (.inl hL) hl
      cases hc : hasP l A with
      | false =>
        rw [hc] at hh
        exact ⟨_, _, hg _, turn_no _ _ _ _ _ _ a0 hh, r, _, rfl, .inr ⟨_, rfl⟩, o, w, by omega, fun e h x hx => by rw [hs e h]; have := he x hx; omega⟩
      | true =>
        rw [hc] at hh
        suffices hfin : ∃ r', Fin L (E.map PyData.int) top (k : Nat) B (k + 1) r r' by
          obtain ⟨r', o', w', c', h', e'⟩ := hfin
          exact ⟨_, _, hg _, e', r', _, rfl, .inr ⟨_, rfl⟩, o', w', c', fun e h x hx => by rw [hs e h]; exact h' x hx⟩
        have hfl : (prs r).length < 16777216 := by simp [prs]; omega
        have app : (r = [] ∨ ∃ G a b, r = G ++ [(a, b)] ∧ b + 1 ≠ A) → ∃ r', Fin L (E.map PyData.int) top (k : Nat) B (k + 1) r r' := fun hn => ⟨r ++ [(A, B - 1)], (by
            intro x hx
            rcases List.mem_append.mp hx with hx | hx
            · exact o x hx
            · simp only [List.mem_singleton] at hx
              subst hx
              exact ⟨b0.1, by show A ≤ B - 1; omega, by show B - 1 ≤ top; omega⟩), (pw_snoc w he), (by simp; omega), (by
            intro x hx
            rcases List.mem_append.mp hx with hx | hx
            · have := he x hx; omega
            · simp only [List.mem_singleton] at hx
              subst hx
              show B - 1 < B
              omega), (by
            have e2 : prs (r ++ [(A, B - 1)]) = prs r ++ [.tuple [.int A, .int (B - 1)]] := by simp [prs, pr]
            rw [e2]
            refine turn_new _ _ _ _ _ _ _ a0 a1 hh hfl ?_
            rcases hn with rfl | ⟨G, a, b, rfl, hne⟩
            · exact .inl rfl
            · exact .inr ⟨prs G, a, b, by simp [prs, pr], hne⟩)⟩
        rcases List.eq_nil_or_concat r with rfl | ⟨G, ⟨a, b⟩, rfl⟩
        · exact app (.inl rfl)
        · by_cases hne : b + 1 = A
          · refine ⟨G ++ [(a, B - 1)], ?_, ?_, ?_, ?_, ?_⟩
            · intro x hx
              rcases List.mem_append.mp hx with hx | hx
              · exact o x (by simp [hx])
              · simp only [List.mem_singleton] at hx
                subst hx
                obtain ⟨o1, o2, o3⟩ := o (a, b) (by simp)
                simp only at o1 o2 o3
                exact ⟨o1, by show a ≤ B - 1; omega, by show B - 1 ≤ top; omega⟩
            · have w2 := w
              simp only [List.concat_eq_append] at w2
              refine pw_snoc (pw_left w2) fun x hx => ?_
              exact (List.pairwise_append.mp w2).2.2 x hx (a, b) (by simp)
            · simp at c ⊢; omega
            · intro x hx
              rcases List.mem_append.mp hx with hx | hx
              · have := he x (by simp [hx]); omega
              · simp only [List.mem_singleton] at hx
                subst hx
                show B - 1 < B
                omega
            · have e2 : prs (G.concat (a, b)) = prs G ++ [.tuple [.int a, .int b]] := by simp [prs, pr]
              have e3 : prs (G ++ [(a, B - 1)]) = prs G ++ [.tuple [.int a, .int (B - 1)]] := by simp [prs, pr]
              rw [e2, e3]
              exact turn_join _ _ _ _ _ _ _ _ _ a0 a1 hh hne
          · exact app (.inr ⟨G, a, b, by simp, hne⟩))
  exact ⟨r, x4, e, o, w, by omega⟩
theorem union_ok (l : List (Int × Int)) (top : Int) (h0 : 0 ≤ top) (h1 : top < 1000000000) (hl : l.length ≤ 30) (hok : ∀ x ∈ l, okPair top x) :
    ∃ r : List (Int × Int), F_law_union [.list (prs l), .int top] = some (.tuple (prs r)) ∧ (∀ x ∈ r, okPair top x) ∧ PwS r ∧ r.length ≤ 64 := by
  have hb : ∀ e ∈ sortI (edges l top), 0 ≤ e ∧ e ≤ top + 1 := by
    intro e he
    rw [mem_sortI] at he
    simp only [edges, List.mem_append, List.mem_cons, List.not_mem_nil, or_false, List.mem_map] at he
    rcases he with ((rfl | rfl) | ⟨p, hp, rfl⟩) | ⟨p, hp, rfl⟩
    · omega
    · omega
    · obtain ⟨o1, o2, o3⟩ := hok p hp
      split <;> omega
    · obtain ⟨o1, o2, o3⟩ := hok p hp
      split <;> omega
  have hln : (edges l top).length = 2 + l.length + l.length := by simp [edges]; omega
  have hls := len_sortI (edges l top)
  have hne : 0 < (sortI (edges l top)).length := List.length_pos_of_mem ((mem_sortI 0 _).mpr (by simp [edges]))
  obtain ⟨r, x4, e, o, w, c⟩ := union_loop (.list (prs l)) l rfl (by omega) top (sortI (edges l top)) (pw_sortI _) (by omega) hb
  refine ⟨r, ?_, o, w, c⟩
  have g1 := comp_u1 l top hl
  have g2 := comp_u2 l top hl
  have g3 := dSortSet_ints (edges l top) (by omega)
  have g4 : (edges l top).map PyData.int = .int 0 :: .int (top + 1) :: (l.map (fun p => PyData.int (if top + 1 < p.1 then top + 1 else p.1)) ++ l.map (fun p => PyData.int (if top + 1 < p.2 + 1 then top + 1 else p.2 + 1))) := by
    simp only [edges, List.map_append, List.map_cons, List.map_nil, List.map_map, List.cons_append, List.nil_append]
    rfl
  rw [g4] at g3
  generalize sortI (edges l top) = E at *
  have g5 : in62 ((E.length : Int) - 1) = true := by simp only [in62, Bool.and_eq_true, decide_eq_true_eq]; omega
  have g6 : ((E.length : Int) - 1).toNat = E.length - 1 := by omega
  have m1 : (l.map (fun p => PyData.int (if top + 1 < p.1 then top + 1 else p.1))).length = l.length := by simp
  have m2 : (l.map (fun p => PyData.int (if top + 1 < p.2 + 1 then top + 1 else p.2 + 1))).length = l.length := by simp
  generalize l.map (fun p => PyData.int (if top + 1 < p.1 then top + 1 else p.1)) = M1 at *
  generalize l.map (fun p => PyData.int (if top + 1 < p.2 + 1 then top + 1 else p.2 + 1)) = M2 at *
  have s1 : 2 + M1.length ≤ 16777216 := by omega
  have s2 : M1.length + 1 + 1 + M2.length ≤ 16777216 := by omega
  simp only [F_law_union, B_law_union, defP]
  simp [g1, g2, g3, s1, s2, sFor, itR1, g5, g6, e]
/-! ### drawn sets -/
theorem drawn_gen (A B : List PyData → List PyData → Option (PyData × List PyData)) (U : List PyData → Option PyData) (pd p1 p2 : List PyData) (top many : Int) (v d r : PyData) (e1 : A pd [.int (many + 1)] = some (v, p1)) (e2 : B p1 [.int top, v] = some (d, p2)) (e3 : U [d, .int top] = some r) :
    defL (sSeq (sRet (eCall U (nCons (eCallL B 0 (nCons (eName 1) (nCons (eCallL A 0 (nCons (eBin dAdd (eName 2) (eC (.int 1))) nNil)) nNil))) (nCons (eName 1) nNil)))) sNil) 2 0 pd [.int top, .int many] = some (r, p2) := by
  simp [defL, e1, e2, e3]
theorem drawn_set_ok (p : Pool) (h : p.ok) (top many : Int) (h0 : 0 ≤ top) (h1 : top < 1000000000) (m0 : 0 ≤ many) (m1 : many ≤ 30) :
    ∃ (r : List (Int × Int)) (p' : Pool), F_law_drawn_set p.d [.int top, .int many] = some (.tuple (prs r), p'.d) ∧ p'.ok ∧ (∀ x ∈ r, okPair top x) ∧ PwS r ∧ r.length ≤ 64 := by
  obtain ⟨v, p1, e1, k1, v0, v1⟩ := draw_ok p h (many + 1) (by omega) (by omega)
  obtain ⟨l, p2, e2, k2, ol, ll⟩ := pairs_ok p1 k1 top v h0 h1 v0 (by omega)
  obtain ⟨r, e3, o, w, c⟩ := union_ok l top h0 h1 (by omega) ol
  exact ⟨r, p2, drawn_gen F_law_draw F_law_pairs F_law_union _ _ _ _ _ _ _ _ e1 e2 e3, k2, o, w, c⟩
theorem sFor_of {it : NF} {g : GF} {b : SF} {ρ ρ1 : Rho} {ds : List PyData} (h : it ρ = some (ds, ρ1)) : sFor it g b ρ = forL g b ds ρ1 := by
  unfold sFor
  rw [h]
theorem power_step (a c : PyData) (s : Int) : X_law_power_1 [some (.v a), some (.v (.int s)), some (.v c)] = some (.next, [some (.v a), some (.v (.int (s * 2))), some (.v c)]) := by
  simp [X_law_power_1]
theorem power_end (d : Int) (n : Int) (s : Int) (x2 : Option Cell) (it : NF) (g : GF) (b : SF) (e : sFor it g b [some (.v (.int n)), some (.v (.int 1)), none] = some (.next, [some (.v (.int n)), some (.v (.int s)), x2])) :
    defP (sSeq (sSet 1 (eC (.int 1))) (sSeq (sFor it g b) (sSeq (sRet (eName 1)) sNil))) 1 2 [.int n] = some (.int s) := by
  simp [defP, e]
theorem power_it (n : Nat) (h : n ≤ 62) (a b : Option Cell) : itR1 (nCons (eName 0) nNil) [some (.v (.int (n : Nat))), a, b] = some (rng 0 n, [some (.v (.int (n : Nat))), a, b]) := by
  have hin : in62 (n : Int) = true := by simp only [in62, Bool.and_eq_true, decide_eq_true_eq]; omega
  simp [itR1, hin]
theorem power_ok (n : Nat) (h : n ≤ 62) : F_law_power [.int (n : Nat)] = some (.int (2 ^ n)) := by
  obtain ⟨ρ', e, x2, hr, _⟩ := forL_rng (g := gSet 2) (b := X_law_power_1) (P := fun k ρ => ∃ x2, ρ = [some (.v (.int (n : Nat))), some (.v (.int (2 ^ k))), x2] ∧ plainC x2) n [some (.v (.int (n : Nat))), some (.v (.int 1)), none] ⟨none, rfl, .inl rfl⟩ (by
    rintro k ρ hk ⟨x2, rfl, q⟩
    refine ⟨[some (.v (.int (n : Nat))), some (.v (.int (2 ^ k))), some (.v (.int (k : Nat)))], _, ?_, power_step _ _ _, _, by rw [Int.pow_succ], .inr ⟨_, rfl⟩⟩
    · rcases q with rfl | ⟨y, rfl⟩ <;> simp)
  subst hr
  have k := power_end 0 (n : Int) (2 ^ n) x2 (itR1 (nCons (eName 0) nNil)) (gSet 2) X_law_power_1 ((sFor_of (power_it n h _ _)).trans e)
  unfold F_law_power B_law_power
  exact k
end Pr_C
end
section
set_option linter.all false
set_option maxRecDepth 100000
set_option Elab.async false
namespace Pr_C
open PySem PG
/-! ### sets, as the document has them -/
def Mem (r : List (Int × Int)) (n : Int) : Prop := ∃ x ∈ r, x.1 ≤ n ∧ n ≤ x.2
def Can (r : List (Int × Int)) : Prop := r.Pairwise (fun x y => x.2 + 1 < y.1) ∧ ∀ x ∈ r, x.1 ≤ x.2
theorem mem_cons {x : Int × Int} {r : List (Int × Int)} {n : Int} : Mem (x :: r) n ↔ (x.1 ≤ n ∧ n ≤ x.2) ∨ Mem r n := by
  constructor
  · rintro ⟨y, hy, h⟩
    rcases List.mem_cons.mp hy with rfl | hy
    · exact .inl h
    · exact .inr ⟨y, hy, h⟩
  · rintro (h | ⟨y, hy, h⟩)
    · exact ⟨x, by simp, h⟩
    · exact ⟨y, by simp [hy], h⟩
theorem mem_app {r s : List (Int × Int)} {n : Int} : Mem (r ++ s) n ↔ Mem r n ∨ Mem s n := by
  constructor
  · rintro ⟨y, hy, h⟩
    rcases List.mem_append.mp hy with hy | hy
    · exact .inl ⟨y, hy, h⟩
    · exact .inr ⟨y, hy, h⟩
  · rintro (⟨y, hy, h⟩ | ⟨y, hy, h⟩)
    · exact ⟨y, by simp [hy], h⟩
    · exact ⟨y, by simp [hy], h⟩
theorem mem_one {x : Int × Int} {n : Int} : Mem [x] n ↔ x.1 ≤ n ∧ n ≤ x.2 := by
  rw [mem_cons]
  exact ⟨fun h => h.elim id (fun ⟨_, h, _⟩ => by cases h), fun h => Or.inl h⟩
theorem mem_nil {n : Int} : ¬ Mem [] n := fun ⟨_, h, _⟩ => by cases h
theorem can_tail {x : Int × Int} {r : List (Int × Int)} (h : Can (x :: r)) : x.1 ≤ x.2 ∧ Can r ∧ ∀ n, Mem r n → x.2 + 1 < n := by
  obtain ⟨h1, h2⟩ := h
  obtain ⟨h3, h4⟩ := List.pairwise_cons.mp h1
  refine ⟨h2 x (by simp), ⟨h4, fun y hy => h2 y (by simp [hy])⟩, ?_⟩
  rintro n ⟨y, hy, h5, h6⟩
  have := h3 y hy
  omega
theorem can_uniq : ∀ {r s : List (Int × Int)}, Can r → Can s → (∀ n, Mem r n ↔ Mem s n) → r = s
  | [], [], _, _, _ => rfl
  | [], y :: s, _, hs, h => absurd ((h y.1).mpr ⟨y, by simp, Int.le_refl _, hs.2 y (by simp)⟩) mem_nil
  | x :: r, [], hr, _, h => absurd ((h x.1).mp ⟨x, by simp, Int.le_refl _, hr.2 x (by simp)⟩) mem_nil
  | x :: r, y :: s, hr, hs, h => by
    obtain ⟨x0, r1, r2⟩ := can_tail hr
    obtain ⟨y0, s1, s2⟩ := can_tail hs
    have a1 := mem_cons.mp ((h x.1).mp (mem_cons.mpr (.inl ⟨Int.le_refl _, x0⟩)))
    have a2 := mem_cons.mp ((h y.1).mpr (mem_cons.mpr (.inl ⟨Int.le_refl _, y0⟩)))
    have e1 : x.1 = y.1 := by
      have b1 : y.1 ≤ x.1 := a1.elim (fun k => k.1) fun k => by have := s2 _ k; omega
      have b2 : x.1 ≤ y.1 := a2.elim (fun k => k.1) fun k => by have := r2 _ k; omega
      omega
    have b1 : ¬ x.2 < y.2 := by
      intro c
      have := mem_cons.mp ((h (x.2 + 1)).mpr (mem_cons.mpr (.inl ⟨by omega, by omega⟩)))
      rcases this with k | k
      · omega
      · have := r2 _ k; omega
    have b2 : ¬ y.2 < x.2 := by
      intro c
      have := mem_cons.mp ((h (y.2 + 1)).mp (mem_cons.mpr (.inl ⟨by omega, by omega⟩)))
      rcases this with k | k
      · omega
      · have := s2 _ k; omega
    have e : x = y := Prod.ext e1 (by omega)
    subst e
    rw [can_uniq r1 s1 fun n => ?_]
    constructor
    · intro k
      have := r2 n k
      rcases mem_cons.mp ((h n).mp (mem_cons.mpr (.inr k))) with q | q
      · omega
      · exact q
    · intro k
      have := s2 n k
      rcases mem_cons.mp ((h n).mpr (mem_cons.mpr (.inr k))) with q | q
      · omega
      · exact q
theorem can_snoc {r : List (Int × Int)} {y : Int × Int} (h : Can r) (hy : y.1 ≤ y.2) (hl : ∀ x ∈ r, x.2 + 1 < y.1) : Can (r ++ [y]) := by
  refine ⟨?_, fun x hx => ?_⟩
  · rw [List.pairwise_append]
    exact ⟨h.1, by simp, fun x hx z hz => by simp only [List.mem_singleton] at hz; subst hz; exact hl x hx⟩
  · rcases List.mem_append.mp hx with hx | hx
    · exact h.2 x hx
    · simp only [List.mem_singleton] at hx
      subst hx
      exact hy
theorem can_left {l m : List (Int × Int)} (h : Can (l ++ m)) : Can l := ⟨(List.pairwise_append.mp h.1).1, fun x hx => h.2 x (by simp [hx])⟩
theorem can_last {l : List (Int × Int)} {y : Int × Int} (h : Can (l ++ [y])) : ∀ x ∈ l, x.2 + 1 < y.1 := fun x hx => (List.pairwise_append.mp h.1).2.2 x hx y (by simp)
theorem hasP_iff (l : List (Int × Int)) (n : Int) : hasP l n = true ↔ Mem l n := by
  unfold hasP Mem
  rw [List.any_eq_true]
  simp only [Bool.and_eq_true, decide_eq_true_eq]
/-! ### unions -/
def Fin2 (L : PyData) (E : List PyData) (top k B : Int) (n : Nat) (l r : List (Int × Int)) (r' : List (Int × Int)) : Prop := Can r' ∧ r'.length ≤ n ∧ (∀ x ∈ r', x.2 < B) ∧ (∀ m, Mem r' m ↔ Mem l m ∧ m < B) ∧ X_law_union_3 [some (.v L), some (.v (.int top)), some (.v (.list E)), some (.l false (prs r)), some (.v (.int k)), none] = some (.next, [some (.v L), some (.v (.int top)), some (.v (.list E)), some (.l false (prs r')), some (.v (.int k)), none])
theorem union_loop2 (L : PyData) (l : List (Int × Int)) (hL : L = .list (prs l)) (hl : l.length ≤ 16777216) (top : Int) (E : List Int) (hE : E.Pairwise (· < ·)) (hlen : E.length ≤ 64) (hlow : ∀ e, E[0]? = some e → ∀ m, Mem l m → e ≤ m)
    (hp : ∀ p ∈ l, p.1 ≤ p.2 ∧ p.1 ∈ E ∧ p.2 + 1 ∈ E) :
    ∃ (r : List (Int × Int)) (x4 : Option Cell), forL (gSet 4) X_law_union_3 (rng 0 (E.length - 1)) [some (.v L), some (.v (.int top)), some (.v (.list (E.map PyData.int))), some (.l false []), none, none] = some (.next, [some (.v L), some (.v (.int top)), some (.v (.list (E.map PyData.int))), some (.l false (prs r)), x4, none]) ∧ Can r ∧ r.length ≤ 64 ∧ (∀ e, E[E.length - 1]? = some e → ∀ m, Mem r m ↔ Mem l m ∧ m < e) := by
  obtain ⟨ρ', e, r, x4, rfl, q4, w, c, _, hm⟩ := forL_rng (g := gSet 4) (b := X_law_union_3) (P := fun k ρ => ∃ (r : List (Int × Int)) (x4 : Option Cell), ρ = [some (.v L), some (.v (.int top)), some (.v (.list (E.map PyData.int))), some (.l false (prs r)), x4, none] ∧ plainC x4 ∧ Can r ∧ r.length ≤ k ∧ (∀ e, E[k]? = some e → ∀ x ∈ r, x.2 < e) ∧ (∀ e, E[k]? = some e → ∀ m, Mem r m ↔ Mem l m ∧ m < e))
    (E.length - 1) [some (.v L), some (.v (.int top)), some (.v (.list (E.map PyData.int))), some (.l false []), none, none] ⟨[], none, rfl, .inl rfl, ⟨by simp, by simp⟩, by simp, by simp, fun e he m => ⟨fun h => absurd h mem_nil, fun h => by have := hlow e he m h.1; omega⟩⟩ (by
      rintro k ρ hk ⟨r, x4, rfl, q4, w, c, he, hm⟩
      have k0 : k < E.length := by omega
      have k1 : k + 1 < E.length := by omega
      have hlt : E[k] < E[k + 1] := List.pairwise_iff_getElem.mp hE k (k + 1) k0 k1 (by omega)
      have cons : ∀ x ∈ E, E[k] < x → E[k + 1] ≤ x := by
        intro x hx hlx
        obtain ⟨j, hj, rfl⟩ := List.getElem_of_mem hx
        rcases Nat.lt_trichotomy j (k + 1) with h | h | h
        · rcases Nat.lt_or_ge j k with h' | h'
          · have := List.pairwise_iff_getElem.mp hE j k hj k0 h'; omega
          · have : j = k := by omega
            subst this; omega
        · subst h; exact Int.le_refl _
        · have := List.pairwise_iff_getElem.mp hE (k + 1) j k1 hj h; omega
      have a0 := atD_ints E k k0
      have a1 := atD_ints E (k + 1) k1
      have he := he E[k] (by simp [k0])
      have hm := hm E[k] (by simp [k0])
      have hs : ∀ e, E[k + 1]? = some e → e = E[k + 1] := fun e h => by simpa [k1, eq_comm] using h
      generalize hA : E[k] = A at *
      generalize hB : E[k + 1] = B at *
      have const : ∀ m, A ≤ m → m < B → (Mem l m ↔ Mem l A) := by
        intro m h1 h2
        constructor
        · rintro ⟨p, hpl, h3, h4⟩
          obtain ⟨g1, g2, g3⟩ := hp p hpl
          refine ⟨p, hpl, ?_, by omega⟩
          by_cases hc : A < p.1
          · have := cons _ g2 hc; omega
          · omega
        · rintro ⟨p, hpl, h3, h4⟩
          obtain ⟨g1, g2, g3⟩ := hp p hpl
          have := cons _ g3 (by omega)
          exact ⟨p, hpl, by omega, by omega⟩
      have hg : ∀ (d : PyData), gSet 4 d [some (.v L), some (.v (.int top)), some (.v (.list (E.map PyData.int))), some (.l false (prs r)), x4, none] = some [some (.v L), some (.v (.int top)), some (.v (.list (E.map PyData.int))), some (.l false (prs r)), some (.v d), none] := by
        intro d
        rcases q4 with rfl | ⟨y, rfl⟩ <;> rfl
      have hh := has_ok l L A (.inl hL) hl
      have hiff := hasP_iff l A
      cases hc : hasP l A with
      | false =>
        rw [hc] at hh hiff
        have hno : ¬ Mem l A := fun h => by cases hiff.mpr h
        refine ⟨_, _, hg _, turn_no _ _ _ _ _ _ a0 hh, r, _, rfl, .inr ⟨_, rfl⟩, w, by omega, fun e h x hx => by rw [hs e h]; have := he x hx; omega, fun e h m => ?_⟩
        rw [hs e h, hm m]
        constructor
        · rintro ⟨h1, h2⟩; exact ⟨h1, by omega⟩
        · rintro ⟨h1, h2⟩
          refine ⟨h1, ?_⟩
          by_cases hq : m < A
          · exact hq
          · exact absurd ((const m (by omega) h2).mp h1) hno
      | true =>
        rw [hc] at hh hiff
        have hyes : Mem l A := hiff.mp rfl
        suffices hfin : ∃ r', Fin2 L (E.map PyData.int) top (k : Nat) B (k + 1) l r r' by
          obtain ⟨r', w', c', h', m', e'⟩ := hfin
          exact ⟨_, _, hg _, e', r', _, rfl, .inr ⟨_, rfl⟩, w', c', fun e h x hx => by rw [hs e h]; exact h' x hx, fun e h => by rw [hs e h]; exact m'⟩
        have hfl : (prs r).length < 16777216 := by simp [prs]; omega
        have app : (∀ x ∈ r, x.2 + 1 < A) → (r = [] ∨ ∃ G a b, r = G ++ [(a, b)] ∧ b + 1 ≠ A) → ∃ r', Fin2 L (E.map PyData.int) top (k : Nat) B (k + 1) l r r' := fun hgap hn => ⟨r ++ [(A, B - 1)], can_snoc w (by show A ≤ B - 1; omega) hgap, (by simp; omega), (by
            intro x hx
            rcases List.mem_append.mp hx with hx | hx
            · have := he x hx; omega
            · simp only [List.mem_singleton] at hx
              subst hx
              show B - 1 < B
              omega), (by
            intro m
            rw [mem_app, mem_one, hm m]
            constructor
            · rintro (⟨h1, h2⟩ | ⟨h1, h2⟩)
              · exact ⟨h1, by omega⟩
              · have h1 : A ≤ m := h1
                have h2 : m ≤ B - 1 := h2
                exact ⟨(const m h1 (by omega)).mpr hyes, by omega⟩
            · rintro ⟨h1, h2⟩
              by_cases hq : m < A
              · exact .inl ⟨h1, hq⟩
              · exact .inr ⟨by show A ≤ m; omega, by show m ≤ B - 1; omega⟩), (by
            have e2 : prs (r ++ [(A, B - 1)]) = prs r ++ [.tuple [.int A, .int (B - 1)]] := by simp [prs, pr]
            rw [e2]
            refine turn_new _ _ _ _ _ _ _ a0 a1 hh hfl ?_
            rcases hn with rfl | ⟨G, a, b, rfl, hne⟩
            · exact .inl rfl
            · exact .inr ⟨prs G, a, b, by simp [prs, pr], hne⟩)⟩
        rcases List.eq_nil_or_concat r with rfl | ⟨G, ⟨a, b⟩, hG⟩
        · exact app (by simp) (.inl rfl)
        · rw [List.concat_eq_append] at hG
          subst hG
          have hb := he (a, b) (by simp)
          have hab := w.2 (a, b) (by simp)
          have hlast := can_last w
          by_cases hne : b + 1 = A
          · refine ⟨G ++ [(a, B - 1)], can_snoc (can_left w) (by show a ≤ B - 1; simp only at hab; omega) hlast, ?_, ?_, ?_, ?_⟩
            · simp at c ⊢; omega
            · intro x hx
              rcases List.mem_append.mp hx with hx | hx
              · have := he x (by simp [hx]); omega
              · simp only [List.mem_singleton] at hx
                subst hx
                show B - 1 < B
                omega
            · intro m
              have hm := hm m
              rw [mem_app, mem_one] at hm
              rw [mem_app, mem_one]
              simp only at hab hb hm ⊢
              constructor
              · rintro (h1 | ⟨h1, h2⟩)
                · have := hm.mp (.inl h1)
                  exact ⟨this.1, by omega⟩
                · by_cases hq : m < A
                  · have := hm.mp (.inr ⟨h1, by omega⟩)
                    exact ⟨this.1, by omega⟩
                  · exact ⟨(const m (by omega) (by omega)).mpr hyes, by omega⟩
              · rintro ⟨h1, h2⟩
                by_cases hq : m < A
                · rcases hm.mpr ⟨h1, hq⟩ with q | q
                  · exact .inl q
                  · exact .inr ⟨q.1, by omega⟩
                · exact .inr ⟨by omega, by omega⟩
            · have e2 : prs (G ++ [(a, b)]) = prs G ++ [.tuple [.int a, .int b]] := by simp [prs, pr]
              have e3 : prs (G ++ [(a, B - 1)]) = prs G ++ [.tuple [.int a, .int (B - 1)]] := by simp [prs, pr]
              rw [e2, e3]
              exact turn_join _ _ _ _ _ _ _ _ _ a0 a1 hh hne
          · refine app (fun x hx => ?_) (.inr ⟨G, a, b, rfl, hne⟩)
            rcases List.mem_append.mp hx with hx | hx
            · have := hlast x hx
              simp only at this hab hb
              omega
            · simp only [List.mem_singleton] at hx
              subst hx
              simp only at hb ⊢
              omega)
  refine ⟨r, x4, e, w, by omega, hm⟩
theorem union_ok2 (l : List (Int × Int)) (top : Int) (h0 : 0 ≤ top) (h1 : top < 1000000000) (hl : l.length ≤ 30) (hok : ∀ x ∈ l, okPair top x) :
    ∃ r : List (Int × Int), F_law_union [.list (prs l), .int top] = some (.tuple (prs r)) ∧ Can r ∧ r.length ≤ 64 ∧ ∀ m, Mem r m ↔ Mem l m := by
  have hb : ∀ e ∈ sortI (edges l top), 0 ≤ e ∧ e ≤ top + 1 := by
    intro e he
    rw [mem_sortI] at he
    simp only [edges, List.mem_append, List.mem_cons, List.not_mem_nil, or_false, List.mem_map] at he
    rcases he with ((rfl | rfl) | ⟨p, hp, rfl⟩) | ⟨p, hp, rfl⟩
    · omega
    · omega
    · obtain ⟨o1, o2, o3⟩ := hok p hp
      split <;> omega
    · obtain ⟨o1, o2, o3⟩ := hok p hp
      split <;> omega
  have hin : ∀ p ∈ l, p.1 ≤ p.2 ∧ p.1 ∈ sortI (edges l top) ∧ p.2 + 1 ∈ sortI (edges l top) := by
    intro p hp
    obtain ⟨o1, o2, o3⟩ := hok p hp
    refine ⟨o2, ?_, ?_⟩
    · rw [mem_sortI]
      simp only [edges, List.mem_append, List.mem_map]
      exact .inl (.inr ⟨p, hp, if_neg (by omega)⟩)
    · rw [mem_sortI]
      simp only [edges, List.mem_append, List.mem_map]
      exact .inr ⟨p, hp, if_neg (by omega)⟩
  have htop : top + 1 ∈ sortI (edges l top) := (mem_sortI _ _).mpr (by simp [edges])
  have hln : (edges l top).length = 2 + l.length + l.length := by simp [edges]; omega
  have hls := len_sortI (edges l top)
  have hne : 0 < (sortI (edges l top)).length := List.length_pos_of_mem ((mem_sortI 0 _).mpr (by simp [edges]))
  obtain ⟨r, x4, e, w, c, hm⟩ := union_loop2 (.list (prs l)) l rfl (by omega) top (sortI (edges l top)) (pw_sortI _) (by omega) (by
    rintro e he m ⟨p, hp, h2, h3⟩
    have hz : (0 : Int) ∈ sortI (edges l top) := (mem_sortI 0 _).mpr (by simp [edges])
    have o1 := (hok p hp).1
    obtain ⟨j, hj, hj0⟩ := List.getElem_of_mem hz
    have he' : (sortI (edges l top))[0] = e := by simpa [hne] using he
    rcases Nat.eq_zero_or_pos j with rfl | hjp
    · omega
    · have := List.pairwise_iff_getElem.mp (pw_sortI (edges l top)) 0 j hne hj hjp
      omega) hin
  have hfin : ∀ m, Mem r m ↔ Mem l m := by
    intro m
    have hlast : (sortI (edges l top))[(sortI (edges l top)).length - 1]? = some (top + 1) := by
      obtain ⟨j, hj, hj0⟩ := List.getElem_of_mem htop
      have hk : (sortI (edges l top)).length - 1 < (sortI (edges l top)).length := by omega
      rw [List.getElem?_eq_getElem hk]
      have b1 := hb _ (List.getElem_mem hk)
      rcases Nat.lt_or_ge j ((sortI (edges l top)).length - 1) with h | h
      · have := List.pairwise_iff_getElem.mp (pw_sortI (edges l top)) j _ hj hk h
        omega
      · have : j = (sortI (edges l top)).length - 1 := by omega
        subst this
        rw [hj0]
    rw [hm _ hlast m]
    constructor
    · exact fun h => h.1
    · intro h
      refine ⟨h, ?_⟩
      obtain ⟨p, hp, h2, h3⟩ := h
      have := (hok p hp).2.2
      omega
  refine ⟨r, ?_, w, c, hfin⟩
  clear hfin hm hin hb htop
  have g1 := comp_u1 l top hl
  have g2 := comp_u2 l top hl
  have g3 := dSortSet_ints (edges l top) (by omega)
  have g4 : (edges l top).map PyData.int = .int 0 :: .int (top + 1) :: (l.map (fun p => PyData.int (if top + 1 < p.1 then top + 1 else p.1)) ++ l.map (fun p => PyData.int (if top + 1 < p.2 + 1 then top + 1 else p.2 + 1))) := by
    simp only [edges, List.map_append, List.map_cons, List.map_nil, List.map_map, List.cons_append, List.nil_append]
    rfl
  rw [g4] at g3
  generalize sortI (edges l top) = E at *
  have g5 : in62 ((E.length : Int) - 1) = true := by simp only [in62, Bool.and_eq_true, decide_eq_true_eq]; omega
  have g6 : ((E.length : Int) - 1).toNat = E.length - 1 := by omega
  have m1 : (l.map (fun p => PyData.int (if top + 1 < p.1 then top + 1 else p.1))).length = l.length := by simp
  have m2 : (l.map (fun p => PyData.int (if top + 1 < p.2 + 1 then top + 1 else p.2 + 1))).length = l.length := by simp
  generalize l.map (fun p => PyData.int (if top + 1 < p.1 then top + 1 else p.1)) = M1 at *
  generalize l.map (fun p => PyData.int (if top + 1 < p.2 + 1 then top + 1 else p.2 + 1)) = M2 at *
  have s1 : 2 + M1.length ≤ 16777216 := by omega
  have s2 : M1.length + 1 + 1 + M2.length ≤ 16777216 := by omega
  simp only [F_law_union, B_law_union, defP]
  simp [g1, g2, g3, s1, s2, sFor, itR1, g5, g6, e]
end Pr_C
end
section
set_option Elab.async false
set_option linter.all false
set_option maxRecDepth 100000
namespace Pr_D
open PySem PG Pr_C
/-! what each def does, on data -/
def B_is_tuple : SF :=
  (sSeq (sRet (eAnd (eUn (dTyIs "tuple") (eName 0)) (eBin dEq (eCall (o1of dLen) (nCons (eName 0) nNil)) (eName 1))))
  sNil)
def F_is_tuple : List PyData → Option PyData := defP B_is_tuple 2 0
def B_law_bent (R : List PyData → List PyData → Option (PyData × List PyData)) : SF :=
  (sSeq (sIf (tAnd' (tTru (eUn (dIsi "tuple") (eName 1))) (tAnd' (tBl (eBin dGt (eCall (o1of dLen) (nCons (eName 1) nNil)) (eC (.int 0)))) (tBl (eBin dGt (eCallL F_law_draw 0 (nCons (eC (.int 3)) nNil)) (eC (.int 0))))))
  (sSeq (sSet 3 (eCallL F_law_draw 0 (nCons (eCall (o1of dLen) (nCons (eName 1) nNil)) nNil)))
  (sSeq (sRet (eBin dAdd (eBin dAdd (eSlT (eName 1) none (some (eName 3))) (eTup (nCons (eCallL R 0 (nCons (eBin dIx (eName 1) (eName 3)) nNil)) nNil))) (eSlT (eName 1) (some (eBin dAdd (eName 3) (eC (.int 1)))) none)))
  sNil))
  sNil)
  (sSeq (sSet 2 (eCallL F_law_draw 0 (nCons (eC (.int 9)) nNil)))
  (sSeq (sIf (tBl (eBin dEq (eName 2) (eC (.int 0))))
  (sSeq (sRet (eBin dIx (eTup (nCons (eC (.str (Str.ofString "x"))) (nCons (eC (.bool true)) (nCons (eTup nNil) (nCons (eC (.int 0)) (nCons (eUn dNeg (eC (.int 1))) (nCons (eC .none) (nCons (eC (.bool false)) (nCons (eLst (nDisp nNil)) nNil))))))))) (eCallL F_law_draw 0 (nCons (eC (.int 8)) nNil))))
  sNil)
  sNil)
  (sSeq (sIf (tTru (eCall F_law_is_integer (nCons (eName 1) nNil)))
  (sSeq (sRet (eBin dAdd (eName 1) (eBin dIx (eTup (nCons (eC (.int 1)) (nCons (eUn dNeg (eC (.int 1))) (nCons (eC (.int 2)) (nCons (eC (.int 0)) nNil))))) (eCallL F_law_draw 0 (nCons (eC (.int 4)) nNil)))))
  sNil)
  sNil)
  (sSeq (sIf (tTru (eUn (dIsi "str") (eName 1)))
  (sSeq (sRet (eBin dIx (eTup (nCons (eBin dAdd (eName 1) (eC (.str (Str.ofString "a")))) (nCons (eSlT (eName 1) (some (eC (.int 1))) none) (nCons (eBin dAdd (eName 1) (eC (.str (Str.ofString "A")))) (nCons (eBin dAdd (eName 1) (eC (.str (Str.ofString " ")))) (nCons (eSlT (eName 1) none (some (eC (.int 1)))) nNil)))))) (eCallL F_law_draw 0 (nCons (eC (.int 5)) nNil))))
  sNil)
  sNil)
  (sSeq (sIf (tOr' (tNot' (tTru (eUn (dIsi "tuple") (eName 1)))) (tBl (eBin dEq (eCall (o1of dLen) (nCons (eName 1) nNil)) (eC (.int 0)))))
  (sSeq (sRet (eIf (tBl (eBin dLt (eName 2) (eC (.int 5)))) (eTup (nCons (eName 1) (nCons (eC (.int 0)) nNil))) (eTup nNil)))
  sNil)
  sNil)
  (sSeq (sSet 3 (eCallL F_law_draw 0 (nCons (eCall (o1of dLen) (nCons (eName 1) nNil)) nNil)))
  (sSeq (sIf (tBl (eBin dLt (eName 2) (eC (.int 3))))
  (sSeq (sRet (eBin dAdd (eSlT (eName 1) none (some (eName 3))) (eSlT (eName 1) (some (eBin dAdd (eName 3) (eC (.int 1)))) none)))
  sNil)
  sNil)
  (sSeq (sIf (tBl (eBin dLt (eName 2) (eC (.int 5))))
  (sSeq (sRet (eBin dAdd (eBin dAdd (eSlT (eName 1) none (some (eName 3))) (eTup (nCons (eBin dIx (eName 1) (eName 3)) nNil))) (eSlT (eName 1) (some (eName 3)) none)))
  sNil)
  sNil)
  (sSeq (sIf (tBl (eBin dEq (eName 2) (eC (.int 5))))
  (sSeq (sRet (eLst (nCall (n1of dLstOf) (nCons (eName 1) nNil))))
  sNil)
  sNil)
  (sSeq (sSet 4 (eCallL F_law_draw 0 (nCons (eCall (o1of dLen) (nCons (eName 1) nNil)) nNil)))
  (sSeq (sSetL 5 (nCall (n1of dLstOf) (nCons (eName 1) nNil)))
  (sSeq (sSto 5 (eName 3) (eBin dIx (eName 1) (eName 4)))
  (sSeq (sSto 5 (eName 4) (eBin dIx (eName 1) (eName 3)))
  (sSeq (sRet (eUnL dTupOf 5))
  sNil)))))))))))))))
def F_law_bent : Nat → List PyData → List PyData → Option (PyData × List PyData)
  | 0 => fun _ _ => none
  | n + 1 => defL (B_law_bent (F_law_bent n)) 1 4
def X_law_booled_1 (R : List PyData → Option PyData) : EF :=
  (eCall R (nCons (eName 1) nNil))
def B_law_booled (R : List PyData → Option PyData) : SF :=
  (sSeq (sIf (tTru (eUn (dIsi "tuple") (eName 0)))
  (sSeq (sRet (eCall (o1of dTupOf) (nCons (eLst (nComp (itS (eName 0)) (gSet 1) tYesF (X_law_booled_1 R) [1])) nNil)))
  sNil)
  sNil)
  (sSeq (sRet (eIf (tAnd' (tTru (eCall F_law_is_integer (nCons (eName 0) nNil))) (tAnd' (tBl (eBin dLe (eC (.int 0)) (eName 0))) (tBl (eBin dLt (eName 0) (eC (.int 2)))))) (eBin dIx (eTup (nCons (eC (.bool false)) (nCons (eC (.bool true)) nNil))) (eName 0)) (eName 0)))
  sNil))
def F_law_booled : Nat → List PyData → Option PyData
  | 0 => fun _ => none
  | n + 1 => defP (B_law_booled (F_law_booled n)) 1 1
def B_is_number : SF :=
  (sSeq (sRet (eAnd (eUn (dTyIs "int") (eName 0)) (eChain dLe dLe (eName 1) (eName 0) (eName 2))))
  sNil)
def F_is_number : List PyData → Option PyData := defP B_is_number 3 0
def B_is_address : SF :=
  (sSeq (sRet (eCall F_is_number (nCons (eName 0) (nCons (eC (.int 0)) (nCons (eC (.int 65535)) nNil)))))
  sNil)
def F_is_address : List PyData → Option PyData := defP B_is_address 1 0
def B_law_is_number : SF :=
  (sSeq (sRet (eAnd (eCall F_law_is_integer (nCons (eName 0) nNil)) (eAnd (eBin dLe (eC (.int 0)) (eName 0)) (eBin dLe (eName 0) (eName 1)))))
  sNil)
def F_law_is_number : List PyData → Option PyData := defP B_law_is_number 2 0
end Pr_D
end
section
set_option linter.all false
set_option maxRecDepth 100000
set_option Elab.async false
namespace Pr_D
open PySem PG Pr_C
/-! ### data of which the text is short -/
def okS (x : Str) : Bool := PyData.strOk x && decide (x.length ≤ 20)
mutual
def okd (B : Int) : PyData → Bool
  | .none => true
  | .bool _ => true
  | .int i => decide (-B ≤ i) && decide (i ≤ B)
  | .str x => okS x
  | .list xs => okA B xs
  | .tuple xs => okA B xs
  | .dict _ => false
def okA (B : Int) : List PyData → Bool
  | [] => true
  | x :: xs => okd B x && okA B xs
end
mutual
def wt : PyData → Nat
  | .list xs => wtA xs + 1
  | .tuple xs => wtA xs + 1
  | _ => 1
def wtA : List PyData → Nat
  | [] => 0
  | x :: xs => wt x + wtA xs
end
theorem okA_mem {B : Int} : ∀ {xs : List PyData}, okA B xs = true ↔ ∀ x ∈ xs, okd B x = true
  | [] => by simp [okA]
  | x :: xs => by simp [okA, okA_mem (xs := xs)]
theorem wtA_app : ∀ (xs ys : List PyData), wtA (xs ++ ys) = wtA xs + wtA ys
  | [], ys => by simp [wtA]
  | x :: xs, ys => by simp only [List.cons_append, wtA, wtA_app xs ys]; omega
theorem wt_pos : ∀ d : PyData, 1 ≤ wt d
  | .none => Nat.le_refl _
  | .bool _ => Nat.le_refl _
  | .int _ => Nat.le_refl _
  | .str _ => Nat.le_refl _
  | .list xs => by simp only [wt]; omega
  | .tuple xs => by simp only [wt]; omega
  | .dict _ => Nat.le_refl _
theorem wtA_len : ∀ xs : List PyData, xs.length ≤ wtA xs
  | [] => Nat.le_refl _
  | x :: xs => by
    have := wtA_len xs
    have := wt_pos x
    simp only [List.length_cons, wtA]
    omega
theorem wtA_mem : ∀ {xs : List PyData} {x : PyData}, x ∈ xs → wt x ≤ wtA xs
  | y :: ys, x, h => by
    simp only [wtA]
    rcases List.mem_cons.mp h with rfl | h
    · omega
    · have := wtA_mem h; omega
theorem wtA_take (xs : List PyData) (n : Nat) : wtA (xs.take n) ≤ wtA xs := by
  have h := wtA_app (xs.take n) (xs.drop n)
  rw [List.take_append_drop] at h
  omega
theorem wtA_drop (xs : List PyData) (n : Nat) : wtA (xs.drop n) ≤ wtA xs := by
  have h := wtA_app (xs.take n) (xs.drop n)
  rw [List.take_append_drop] at h
  omega
theorem wtA_set : ∀ (xs : List PyData) (i : Nat) (y : PyData), wtA (xs.set i y) ≤ wtA xs + wt y
  | [], i, y => by simp [wtA]
  | x :: xs, 0, y => by simp only [List.set_cons_zero, wtA]; omega
  | x :: xs, i + 1, y => by
    have := wtA_set xs i y
    simp only [List.set_cons_succ, wtA]
    omega
theorem okS_leaf {x : Str} (h : okS x = true) : PyData.strOk x = true ∧ (x.cps.toList.all fun c => decide (c < 16 ^ 8)) = true ∧ x.cps.size ≤ 20 := by
  unfold okS at h
  rw [Bool.and_eq_true, decide_eq_true_eq] at h
  refine ⟨h.1, ?_, h.2⟩
  have h1 := h.1
  unfold PyData.strOk at h1
  rw [Array.all_eq_true] at h1
  rw [List.all_eq_true]
  intro c hc
  obtain ⟨i, hi, rfl⟩ := List.mem_iff_getElem.mp hc
  have := h1 i (by simpa using hi)
  simp only [decide_eq_true_eq] at this ⊢
  simp only [Array.getElem_toList]
  omega
mutual
theorem ok_lay {B : Int} (hB : B ≤ 1000000000000) : ∀ d : PyData, okd B d = true → d.canLay0 = true ∧ d.showable = true ∧ d.leavesShort 25 = true ∧ d.weight + 1 ≤ 62 * wt d
  | .none, _ => ⟨rfl, rfl, rfl, by simp [PyData.weight, wt]⟩
  | .bool _, _ => ⟨rfl, rfl, rfl, by simp [PyData.weight, wt]⟩
  | .int i, h => by
    simp only [okd, Bool.and_eq_true, decide_eq_true_eq] at h
    have h1 : i.natAbs < 2 ^ 60 := by omega
    have h2 : i.natAbs.log2 < 60 := by
      by_cases hz : i.natAbs = 0
      · rw [hz]; decide
      · exact (Nat.log2_lt hz).mpr h1
    refine ⟨rfl, by simp only [PyData.showable, decide_eq_true_eq]; omega, ?_, ?_⟩
    · have h3 := int_text_length_le10 (a := i) (k := 20) (by decide) (by omega)
      simp only [PyData.leavesShort, decide_eq_true_eq]
      show (Str.ofString (toString i)).length ≤ 25
      rw [ofString_length]
      omega
    · simp only [PyData.weight, wt]
      split <;> omega
  | .str x, h => by
    have h := okS_leaf h
    exact ⟨h.1, rfl, h.2.1, by simp only [PyData.weight, wt]; omega⟩
  | .list xs, h => by
    obtain ⟨h1, h2, h3, h4⟩ := ok_layA hB xs h
    exact ⟨h1, h2, h3, by simp only [PyData.weight, wt]; omega⟩
  | .tuple xs, h => by
    obtain ⟨h1, h2, h3, h4⟩ := ok_layA hB xs h
    exact ⟨h1, h2, h3, by simp only [PyData.weight, wt]; omega⟩
  | .dict _, h => by cases h
theorem ok_layA {B : Int} (hB : B ≤ 1000000000000) : ∀ xs : List PyData, okA B xs = true → PyData.canLayAll0 xs = true ∧ PyData.showableAll xs = true ∧ PyData.leavesShortAll 25 xs = true ∧ PyData.weightAll xs ≤ 62 * wtA xs
  | [], _ => ⟨rfl, rfl, rfl, by simp [PyData.weightAll, wtA]⟩
  | x :: xs, h => by
    simp only [okA, Bool.and_eq_true] at h
    obtain ⟨a1, a2, a3, a4⟩ := ok_lay hB x h.1
    obtain ⟨b1, b2, b3, b4⟩ := ok_layA hB xs h.2
    refine ⟨by simp [PyData.canLayAll0, a1, b1], by simp [PyData.showableAll, a2, b2], by simp [PyData.leavesShortAll, a3, b3], ?_⟩
    simp only [PyData.weightAll, wtA]
    omega
end
/-- what can be shown -/
structure Gd (B : Int) (D W : Nat) (d : PyData) : Prop where
  ok : okd B d = true
  dp : d.depth ≤ D
  w : wt d ≤ W
theorem Gd.repr {B : Int} {D W : Nat} {d : PyData} (g : Gd B D W d) (hB : B ≤ 1000000000000) (hD : D ≤ 60) (hW : W ≤ 9000) : dRepr d = some (.str d.shown) := by
  obtain ⟨h1, h2, h3, h4⟩ := ok_lay hB d g.ok
  have h5 := PyData.shown_le 25 (by decide) d h3
  have h6 := g.w
  have h7 := g.dp
  have h8 : d.shown.length ≤ 16777216 := by
    have : (25 + 2) * d.weight ≤ (25 + 2) * (62 * 9000) := Nat.mul_le_mul_left _ (by omega)
    omega
  unfold dRepr reprOk
  rw [if_pos]
  simp only [h1, h2, Bool.and_eq_true, decide_eq_true_eq]
  exact ⟨⟨⟨trivial, by omega⟩, trivial⟩, h8⟩
end Pr_D
end
section
set_option linter.all false
set_option maxRecDepth 100000
set_option Elab.async false
namespace Pr_D
open PySem PG Pr_C
theorem cut_sub {xs : List PyData} {lo hi : Option Int} : ∀ x ∈ cutD xs lo hi, x ∈ xs := fun x hx => List.mem_of_mem_drop (List.mem_of_mem_take hx)
theorem cut_wt {xs : List PyData} {lo hi : Option Int} : wtA (cutD xs lo hi) ≤ wtA xs := Nat.le_trans (wtA_take _ _) (wtA_drop _ _)
theorem cut_len {xs : List PyData} {lo hi : Option Int} : (cutD xs lo hi).length ≤ xs.length := by
  unfold cutD
  simp only [List.length_take, List.length_drop]
  omega
theorem depthAll_le {D : Nat} : ∀ {xs : List PyData}, PyData.depthAll xs ≤ D ↔ ∀ x ∈ xs, x.depth ≤ D
  | [] => by simp [PyData.depthAll]
  | x :: xs => by
    have := depthAll_le (D := D) (xs := xs)
    simp only [PyData.depthAll, List.mem_cons, forall_eq_or_imp, Nat.max_le, this]
/-- the items of a sequence that can be shown -/
structure Gs (B : Int) (D W : Nat) (xs : List PyData) : Prop where
  ok : ∀ x ∈ xs, okd B x = true ∧ x.depth ≤ D
  w : wtA xs ≤ W
theorem Gs.tup {B : Int} {D W : Nat} {xs : List PyData} (g : Gs B D W xs) : Gd B (D + 1) (W + 1) (.tuple xs) :=
  ⟨by simp only [okd]; exact okA_mem.mpr fun x hx => (g.ok x hx).1, by simp only [PyData.depth]; exact Nat.succ_le_succ (depthAll_le.mpr fun x hx => (g.ok x hx).2), by simp only [wt]; have := g.w; omega⟩
theorem Gs.lst {B : Int} {D W : Nat} {xs : List PyData} (g : Gs B D W xs) : Gd B (D + 1) (W + 1) (.list xs) :=
  ⟨by simp only [okd]; exact okA_mem.mpr fun x hx => (g.ok x hx).1, by simp only [PyData.depth]; exact Nat.succ_le_succ (depthAll_le.mpr fun x hx => (g.ok x hx).2), by simp only [wt]; have := g.w; omega⟩
theorem Gs.of_tup {B : Int} {D W : Nat} {xs : List PyData} (g : Gd B (D + 1) W (.tuple xs)) : Gs B D (W - 1) xs ∧ 1 ≤ W := by
  obtain ⟨h1, h2, h3⟩ := g
  simp only [okd] at h1
  simp only [PyData.depth] at h2
  simp only [wt] at h3
  exact ⟨⟨fun x hx => ⟨okA_mem.mp h1 x hx, depthAll_le.mp (Nat.le_of_succ_le_succ h2) x hx⟩, by omega⟩, by omega⟩
theorem Gs.app {B : Int} {D W V : Nat} {xs ys : List PyData} (g : Gs B D W xs) (h : Gs B D V ys) : Gs B D (W + V) (xs ++ ys) :=
  ⟨fun x hx => (List.mem_append.mp hx).elim (g.ok x) (h.ok x), by rw [wtA_app]; have := g.w; have := h.w; omega⟩
theorem Gs.one {B : Int} {D W : Nat} {x : PyData} (g : Gd B D W x) : Gs B D W [x] := ⟨fun y hy => by simp at hy; subst hy; exact ⟨g.ok, g.dp⟩, by simp only [wtA]; have := g.w; omega⟩
theorem Gs.cut {B : Int} {D W : Nat} {xs : List PyData} {lo hi : Option Int} (g : Gs B D W xs) : Gs B D W (cutD xs lo hi) := ⟨fun x hx => g.ok x (cut_sub x hx), Nat.le_trans cut_wt g.w⟩
theorem Gs.nil {B : Int} {D W : Nat} : Gs B D W [] := ⟨fun x hx => (nomatch hx), Nat.zero_le _⟩
theorem Gs.mem {B : Int} {D W : Nat} {xs : List PyData} {x : PyData} (g : Gs B D W xs) (h : x ∈ xs) : Gd B D W x := ⟨(g.ok x h).1, (g.ok x h).2, Nat.le_trans (wtA_mem h) g.w⟩
theorem Gs.set {B : Int} {D W V : Nat} {xs : List PyData} {i : Nat} {y : PyData} (g : Gs B D W xs) (h : Gd B D V y) : Gs B D (W + V) (xs.set i y) :=
  ⟨fun x hx => by
    rcases List.mem_or_eq_of_mem_set hx with hx | rfl
    · exact g.ok x hx
    · exact ⟨h.ok, h.dp⟩, Nat.le_trans (wtA_set _ _ _) (Nat.add_le_add g.w h.w)⟩
theorem Gs.len {B : Int} {D W : Nat} {xs : List PyData} (g : Gs B D W xs) : xs.length ≤ W := Nat.le_trans (wtA_len xs) g.w
mutual
theorem okd_mono {B C : Int} (h : B ≤ C) : ∀ d : PyData, okd B d = true → okd C d = true
  | .none, _ => rfl
  | .bool _, _ => rfl
  | .int i, g => by simp only [okd, Bool.and_eq_true, decide_eq_true_eq] at g ⊢; omega
  | .str _, g => g
  | .list xs, g => by simp only [okd] at g ⊢; exact okA_mono h xs g
  | .tuple xs, g => by simp only [okd] at g ⊢; exact okA_mono h xs g
  | .dict _, g => by cases g
theorem okA_mono {B C : Int} (h : B ≤ C) : ∀ xs : List PyData, okA B xs = true → okA C xs = true
  | [], _ => rfl
  | x :: xs, g => by
    simp only [okA, Bool.and_eq_true] at g ⊢
    exact ⟨okd_mono h x g.1, okA_mono h xs g.2⟩
end
theorem Gd.mono {B C : Int} {D E W V : Nat} {d : PyData} (g : Gd B D W d) (h1 : B ≤ C) (h2 : D ≤ E) (h3 : W ≤ V) : Gd C E V d := ⟨okd_mono h1 d g.ok, Nat.le_trans g.dp h2, Nat.le_trans g.w h3⟩
theorem Gs.mono {B C : Int} {D E W V : Nat} {d : List PyData} (g : Gs B D W d) (h1 : B ≤ C) (h2 : D ≤ E) (h3 : W ≤ V) : Gs C E V d := ⟨fun x hx => ⟨okd_mono h1 x (g.ok x hx).1, Nat.le_trans (g.ok x hx).2 h2⟩, Nat.le_trans g.w h3⟩
theorem Gd.int {B : Int} {D W : Nat} {i : Int} (h0 : -B ≤ i) (h1 : i ≤ B) (hW : 1 ≤ W) : Gd B D W (.int i) := ⟨by simp [okd, h0, h1], Nat.zero_le _, hW⟩
/-- made of whole numbers and tuples alone -/
inductive It : PyData → Prop
  | int (i : Int) : It (.int i)
  | tup {xs : List PyData} : (∀ x ∈ xs, It x) → It (.tuple xs)
theorem ixOf_nat {n : Nat} {v : Int} (h0 : 0 ≤ v) (h1 : v < n) : ixOf n v = some v.toNat := by simp [ixOf, h0, h1]
theorem wa_at' {xs : List PyData} {v : Int} {Q : PyData → Prop} (h0 : 0 ≤ v) (h1 : v < xs.length) (q : ∀ x ∈ xs, Q x) : WA (dIx (.tuple xs) (.int v)) Q := wa_pick (fun x => x ∈ xs) h0 h1 (fun x hx => hx) (fun x hx => q x hx)
instance : Ev F_law_is_integer [.none] (.bool false) := ⟨rfl⟩
instance {i : Int} : Ev F_law_is_integer [.int i] (.bool true) := ⟨rfl⟩
instance {b : Bool} : Ev F_law_is_integer [.bool b] (.bool false) := ⟨rfl⟩
instance {x : Str} : Ev F_law_is_integer [.str x] (.bool false) := ⟨rfl⟩
instance {xs : List PyData} : Ev F_law_is_integer [.list xs] (.bool false) := ⟨rfl⟩
instance {xs : List PyData} : Ev F_law_is_integer [.tuple xs] (.bool false) := ⟨rfl⟩
local macro_rules | `(tactic| array_get_dec) => `(tactic| first | ((with_reducible apply PG.ws_set)) | ((with_reducible apply PG.ws_if)) | ((with_reducible apply PG.ws_ret)) | ((with_reducible apply PG.ws_setL)) | ((with_reducible apply PG.ws_expr)) | ((with_reducible apply PG.ws_nilc)) | ((with_reducible apply PG.ws_asc)) | ((with_reducible apply PG.ws_nil)) | ((with_reducible apply PG.ws_for)) | ((with_reducible apply PG.ws_asg)) | ((with_reducible apply PG.ws_par)) | ((with_reducible apply PG.ws_retL)) | ((with_reducible apply PG.ws_brk)) | ((with_reducible apply PG.ws_cont)) | ((with_reducible apply PG.ws_forn)) | ((with_reducible apply PG.ws_sto)) | ((with_reducible apply PG.ws_aug); (case hget => rfl)) | ((with_reducible apply PG.ws_app); (case hget => rfl)) | ((with_reducible apply PG.ws_retO); (case hget => rfl)) | ((with_reducible apply PG.we_name); (case hget => rfl)) | ((with_reducible apply PG.we_c)) | ((with_reducible apply PG.we_bin)) | ((with_reducible apply PG.we_un)) | ((with_reducible apply PG.we_call)) | ((with_reducible apply PG.we_callL); (case hget => rfl)) | ((with_reducible apply PG.we_tup)) | ((with_reducible apply PG.we_lst)) | ((with_reducible apply PG.we_if)) | ((with_reducible apply PG.we_ixL); (case hget => rfl)) | ((with_reducible apply PG.we_unL); (case hget => rfl)) | ((with_reducible apply PG.we_and)) | ((with_reducible apply PG.we_or)) | ((with_reducible apply PG.we_not)) | ((with_reducible apply PG.we_chain)) | ((with_reducible apply PG.we_slT)) | ((with_reducible apply PG.wn_cons)) | ((with_reducible apply PG.wn_nil)) | ((with_reducible apply PG.wn_star)) | ((with_reducible apply PG.wn_disp)) | ((with_reducible apply PG.wn_call)) | ((with_reducible apply PG.wn_sl)) | ((with_reducible apply PG.wn_its)) | ((with_reducible apply PG.wn_r1)) | ((with_reducible apply PG.wn_r2)) | ((with_reducible apply PG.wn_r3)) | ((with_reducible apply PG.wt_tru)) | ((with_reducible apply PG.wt_bl)) | ((with_reducible apply PG.wt_and)) | ((with_reducible apply PG.wt_or)) | ((with_reducible apply PG.wt_not)) | ((with_reducible apply PG.wt_yes)) | ((with_reducible apply PG.wt_truL); (case hget => rfl)) | ((with_reducible apply PG.wo_none)) | ((with_reducible apply PG.wo_some)) | ((with_reducible apply PG.wg_p0)) | ((with_reducible apply PG.wg_tup)) | ((with_reducible apply PG.wg_ps); (case hset => (repeat' (first | exact PG.SetR.h0 | exact PG.SetR.h1 | exact PG.SetR.hl | exact PG.SetR.hc (by assumption) | apply PG.SetR.s)))) | ((with_reducible apply PG.wg_set); (case hset => (repeat' (first | exact PG.SetR.h0 | exact PG.SetR.h1 | exact PG.SetR.hl | exact PG.SetR.hc (by assumption) | apply PG.SetR.s)))) | ((with_reducible apply PG.we_frz); (case hget => rfl); (case hset => (repeat' (first | exact PG.SetR.h0 | exact PG.SetR.h1 | exact PG.SetR.hl | exact PG.SetR.hc (by assumption) | apply PG.SetR.s)))) | ((with_reducible apply PG.setr_i); (case hset => (repeat' (first | exact PG.SetR.h0 | exact PG.SetR.h1 | exact PG.SetR.hl | exact PG.SetR.hc (by assumption) | apply PG.SetR.s)))) | ((with_reducible apply PG.setl_i); (case hset => (repeat' (first | exact PG.SetLR.h0 | exact PG.SetLR.h1 | exact PG.SetLR.hl | apply PG.SetLR.s)))) | ((with_reducible apply PG.put_i); (case hset => (repeat' (first | exact PG.PutR.h | apply PG.PutR.s)))) | ((with_reducible apply PG.pool_i); (case hget => rfl)) | ((with_reducible apply PG.bool_i)) | ((with_reducible apply PG.int_i)) | ((with_reducible apply PG.seqL_i)) | ((with_reducible apply PG.seqT_i)) | ((with_reducible apply PG.seqR_i)) | ((with_reducible apply PG.starT_i)) | ((with_reducible apply PG.starL_i)) | ((with_reducible apply PG.len_i); (case h => rfl)) | ((with_reducible apply PG.tup_i)) | ((with_reducible apply PG.yes_i)) | ((with_reducible apply PG.no_i)) | ((with_reducible apply PG.nyes_i)) | ((with_reducible apply PG.nno_i)) | ((with_reducible apply PG.wa_add)) | ((with_reducible apply PG.wa_sub)) | ((with_reducible apply PG.wa_lt)) | ((with_reducible apply PG.wa_le)) | ((with_reducible apply PG.wa_gt)) | ((with_reducible apply PG.wa_ge)) | ((with_reducible apply PG.wa_eqI)) | ((with_reducible apply PG.wa_neI)) | ((with_reducible apply PG.wa_neg)) | ((with_reducible apply PG.wa_lenL)) | ((with_reducible apply PG.wa_lenT)) | ((with_reducible apply PG.wa_int)) | ((with_reducible apply PG.wa_max)) | ((with_reducible apply PG.wa_min)) | ((with_reducible apply PG.wb_bool)) | ((with_reducible apply PG.wb_int)) | ((with_reducible apply PG.endP_ret)) | ((with_reducible apply PG.endP_retL)) | ((with_reducible apply PG.endN_ret)) | ((with_reducible apply PG.endL_ret)) | ((with_reducible apply PG.endL_retL)) | ((with_reducible apply PG.wa_binO)) | ((with_reducible apply PG.ch_le)) | ((with_reducible apply PG.ch_lt)) | ((with_reducible apply PG.ch_eq)) | ((with_reducible apply PG.wa_ix0); (case hget => rfl)) | ((with_reducible apply PG.wa_ix1); (case hget => rfl)) | ((with_reducible apply PG.wa_ix2); (case hget => rfl)) | ((with_reducible apply PG.wa_ix3); (case hget => rfl)) | ((with_reducible apply PG.wa_ix4); (case hget => rfl)) | ((with_reducible apply PG.wa_ix5); (case hget => rfl)) | ((with_reducible apply PG.wa_ix6); (case hget => rfl)) | ((with_reducible apply PG.wa_ix7); (case hget => rfl)) | ((with_reducible apply PG.wa_ix8); (case hget => rfl)) | ((with_reducible apply PG.wa_il0); (case hget => rfl)) | ((with_reducible apply PG.wa_il1); (case hget => rfl)) | ((with_reducible apply PG.wa_il2); (case hget => rfl)) | ((with_reducible apply PG.wa_ev1)) | ((with_reducible apply PG.wa_ev)) | ((with_reducible apply PG.wl_ev)) | ((with_reducible apply PG.wb_ev)) | ((with_reducible apply PG.wa_mod); (case h1 => omega)) | ((with_reducible apply PG.wa_div); (case h1 => omega); (case h2 => omega)) | ((with_reducible apply PG.wa_mulR); (case h1 => omega); (case h2 => omega)) | ((with_reducible apply PG.wa_mulL); (case h1 => omega); (case h2 => omega)) | ((with_reducible apply PG.wa_shr); (case h1 => omega)))
local macro_rules | `(tactic| array_get_dec) => `(tactic| first | ((with_reducible apply Pr_C.wp_draw); (case hp => assumption); (case h0 => omega); (case h1 => omega)) | ((with_reducible apply Pr_C.ls_i); (case hp => assumption)))

theorem odd_pick {B : Int} {D W : Nat} (hB : 0 ≤ B) (hW : 1 ≤ W) : ∀ x ∈ [PyData.str (Str.ofString "x"), .bool true, .tuple [], .int 0, .int (-1), .none, .bool false, .list []], Gd (B + 2) (D + 1) W x := by
  intro x hx
  simp only [List.mem_cons, List.not_mem_nil, or_false] at hx
  rcases hx with rfl | rfl | rfl | rfl | rfl | rfl | rfl | rfl
  · exact ⟨by show okS (Str.ofString "x") = true; decide +kernel, by simp [PyData.depth], by simpa [wt] using hW⟩
  · exact ⟨rfl, by simp [PyData.depth], by simpa [wt] using hW⟩
  · exact ⟨rfl, by simp [PyData.depth, PyData.depthAll], by simpa [wt, wtA] using hW⟩
  · exact .int (by omega) (by omega) hW
  · exact .int (by omega) (by omega) hW
  · exact ⟨rfl, by simp [PyData.depth], by simpa [wt] using hW⟩
  · exact ⟨rfl, by simp [PyData.depth], by simpa [wt] using hW⟩
  · exact ⟨rfl, by simp [PyData.depth, PyData.depthAll], by simpa [wt, wtA] using hW⟩
theorem ws_if_key {t : TF} {a c : SF} {ρ : Rho} {S : Out → Rho → Prop} (st : Pool → Rho) (key : ∀ p' : Pool, p'.ok → WS c (st p') S)
    (w : WT t ρ fun x ρ1 => (x = true → WS (sSeq a c) ρ1 S) ∧ (x = false → ∃ p' : Pool, p'.ok ∧ ρ1 = st p')) : WS (sSeq (sIf t a sNil) c) ρ S := by
  obtain ⟨x, ρ1, e, q1, q2⟩ := w
  refine ws_if ⟨x, ρ1, e, q1, fun h => ?_⟩
  obtain ⟨p', k, rfl⟩ := q2 h
  exact ws_nilc (key p' k)
theorem bent_ls (B : Int) (W : Nat) (hB : 0 ≤ B) (hW1 : 1 ≤ W) (hW : W ≤ 100000) : ∀ (n D : Nat) (v : PyData), It v → Gd B D W v → D < n → LS (F_law_bent n) [v] (Gd (B + 2) (D + 1) (3 * W * (D + 1) + 30))
  | 0, D, v, _, _, h => absurd h (Nat.not_lt_zero _)
  | n + 1, D, v, it, g, h => by
    have hR : W + 30 ≤ 3 * W * (D + 1) + 30 := by
      have : 3 * W * 1 ≤ 3 * W * (D + 1) := Nat.mul_le_mul_left _ (by omega)
      omega
    have hR3 : 3 * W + 30 ≤ 3 * W * (D + 1) + 30 := by
      have : 3 * W * 1 ≤ 3 * W * (D + 1) := Nat.mul_le_mul_left _ (by omega)
      omega
    intro p hp
    rw [F_law_bent]
    refine PG.wp_def rfl ?_
    simp only [PG.rhoL_eq, List.map_cons, List.map_nil, List.replicate_succ, List.replicate_zero, List.cons_append, List.nil_append]
    unfold B_law_bent
    cases it with
    | int i =>
      have gi := g.ok
      simp only [okd, Bool.and_eq_true, decide_eq_true_eq] at gi
      (repeat array_get_dec); intro v1 p1 k1 a1 b1; (repeat array_get_dec)
      (first | (with_reducible apply PG.dec_i) | (with_reducible apply PG.decn_i) | (with_reducible apply PG.bit_i)) <;> intro h
      · (repeat array_get_dec); intro v2 p2 k2 a2 b2; (repeat array_get_dec)
        refine wa_pick (Gd (B + 2) (D + 1) (3 * W * (D + 1) + 30)) a2 (by simpa using b2) (odd_pick hB (by omega)) ?_
        intro x hx; (repeat array_get_dec)
        exact hx
      (repeat array_get_dec); intro v2 p2 k2 a2 b2; (repeat array_get_dec)
      refine wa_pickI [1, -1, 2, 0] (fun z => -1 ≤ z ∧ z ≤ 2) a2 (by simpa using b2) (by simp) ?_
      intro z hz; (repeat array_get_dec)
      exact .int (by omega) (by omega) (by omega)
    | @tup xs hx =>
      cases D with
      | zero =>
        have := g.dp
        simp [PyData.depth] at this
      | succ D =>
      obtain ⟨gs, hw⟩ := Gs.of_tup g
      have hl := gs.len
      refine ws_if_key (fun p' => [some (.l true p'.d), some (.v (.tuple xs)), none, none, none, none]) ?_ ?_
      · intro p hp
        (repeat array_get_dec); intro v1 p1 k1 a1 b1; (repeat array_get_dec)
        (first | (with_reducible apply PG.dec_i) | (with_reducible apply PG.decn_i) | (with_reducible apply PG.bit_i)) <;> intro h
        · (repeat array_get_dec); intro v2 p2 k2 a2 b2; (repeat array_get_dec)
          refine wa_pick (Gd (B + 2) (D + 1 + 1) (3 * W * (D + 1 + 1) + 30)) a2 (by simpa using b2) (odd_pick hB (by omega)) ?_
          intro x hx; (repeat array_get_dec)
          exact hx
        (repeat array_get_dec)
        (first | (with_reducible apply PG.dec_i) | (with_reducible apply PG.decn_i) | (with_reducible apply PG.bit_i)) <;> intro h2
        · (repeat array_get_dec)
          (first | (with_reducible apply PG.dec_i) | (with_reducible apply PG.decn_i) | (with_reducible apply PG.bit_i)) <;> intro h3
          · (repeat array_get_dec)
            exact (Gs.tup (Gs.app (Gs.one (g.mono (by omega) (Nat.le_refl _) (Nat.le_refl _))) (Gs.one (Gd.int (W := 1) (by omega) (by omega) (Nat.le_refl _))))).mono (Int.le_refl _) (Nat.le_refl _) (by omega)
          · (repeat array_get_dec)
            exact (Gs.tup (B := B + 2) (D := D + 1) (W := 0) .nil).mono (Int.le_refl _) (Nat.le_refl _) (by omega)
        (repeat array_get_dec); intro v2 p2 k2 a2 b2; (repeat array_get_dec)
        (first | (with_reducible apply PG.dec_i) | (with_reducible apply PG.decn_i) | (with_reducible apply PG.bit_i)) <;> intro h3
        · (repeat array_get_dec)
          refine wa_addT (by have := @cut_len xs none (some v2); have := @cut_len xs (some (v2 + 1)) none; omega) ?_
          (repeat array_get_dec)
          exact (Gs.tup (Gs.app gs.cut gs.cut)).mono (by omega) (by omega) (by omega)
        (repeat array_get_dec)
        (first | (with_reducible apply PG.dec_i) | (with_reducible apply PG.decn_i) | (with_reducible apply PG.bit_i)) <;> intro h4
        · (repeat array_get_dec)
          refine wa_at' a2 (by simpa using b2) fun x hx => ?_
          (repeat array_get_dec)
          refine wa_addT (by have := @cut_len xs none (some v2); simp; omega) ?_
          (repeat array_get_dec)
          refine wa_addT (by have := @cut_len xs none (some v2); have := @cut_len xs (some v2) none; simp; omega) ?_
          (repeat array_get_dec)
          exact (Gs.tup (Gs.app (Gs.app gs.cut (Gs.one (gs.mem hx))) gs.cut)).mono (by omega) (by omega) (by omega)
        (repeat array_get_dec)
        (first | (with_reducible apply PG.dec_i) | (with_reducible apply PG.decn_i) | (with_reducible apply PG.bit_i)) <;> intro h5
        · (repeat array_get_dec)
          exact (Gs.lst gs).mono (by omega) (by omega) (by omega)
        (repeat array_get_dec); intro v3 p3 k3 a3 b3; (repeat array_get_dec)
        refine wa_at' a3 (by simpa using b3) fun x hx => ?_
        (repeat array_get_dec)
        refine ⟨v2, v2.toNat, xs, rfl, ixOf_nat a2 b2, ?_⟩
        (repeat array_get_dec)
        refine wa_at' a2 (by simpa using b2) fun y hy => ?_
        (repeat array_get_dec)
        refine ⟨v3, v3.toNat, xs.set v2.toNat x, rfl, ixOf_nat a3 (by simpa using b3), ?_⟩
        (repeat array_get_dec)
        exact (Gs.tup (Gs.set (Gs.set gs (gs.mem hx)) (gs.mem hy))).mono (by omega) (by omega) (by omega)
      · (repeat array_get_dec)
        (first | (with_reducible apply PG.dec_i) | (with_reducible apply PG.decn_i) | (with_reducible apply PG.bit_i)) <;> intro h
        · (repeat array_get_dec); intro v1 p1 k1 a1 b1; (repeat array_get_dec)
          (first | (with_reducible apply PG.dec_i) | (with_reducible apply PG.decn_i) | (with_reducible apply PG.bit_i)) <;> intro h1
          · (repeat array_get_dec); intro v2 p2 k2 a2 b2; (repeat array_get_dec)
            refine wa_at' a2 (by simpa using b2) fun x hm => ?_
            (repeat array_get_dec)
            refine wp_ls (bent_ls B W hB hW1 hW n D x (hx x hm) ((gs.mem hm).mono (Int.le_refl _) (Nat.le_refl _) (by omega)) (by omega)) k2 ?_
            intro z p3 k3 gz
            (repeat array_get_dec)
            refine wa_addT (by have := @cut_len xs none (some v2); simp; omega) ?_
            (repeat array_get_dec)
            refine wa_addT (by have := @cut_len xs none (some v2); have := @cut_len xs (some (v2 + 1)) none; simp; omega) ?_
            (repeat array_get_dec)
            have e : 3 * W * (D + 1 + 1) = 3 * W * (D + 1) + 3 * W := Nat.mul_succ _ _
            have gs' : Gs (B + 2) (D + 1) (W - 1) xs := gs.mono (by omega) (by omega) (Nat.le_refl _)
            exact (Gs.tup (Gs.app (Gs.app gs'.cut (Gs.one gz)) gs'.cut)).mono (Int.le_refl _) (Nat.le_refl _) (by omega)
          · first | exact ⟨p1, k1, rfl⟩ | exact PG.no_i ⟨p1, k1, rfl⟩
        · exact PG.no_i ⟨p, hp, rfl⟩
end Pr_D
end
section
set_option linter.all false
set_option maxRecDepth 100000
set_option Elab.async false
namespace Pr_D
open PySem PG Pr_C
local macro_rules | `(tactic| array_get_dec) => `(tactic| first | ((with_reducible apply PG.ws_set)) | ((with_reducible apply PG.ws_if)) | ((with_reducible apply PG.ws_ret)) | ((with_reducible apply PG.ws_setL)) | ((with_reducible apply PG.ws_expr)) | ((with_reducible apply PG.ws_nilc)) | ((with_reducible apply PG.ws_asc)) | ((with_reducible apply PG.ws_nil)) | ((with_reducible apply PG.ws_for)) | ((with_reducible apply PG.ws_asg)) | ((with_reducible apply PG.ws_par)) | ((with_reducible apply PG.ws_retL)) | ((with_reducible apply PG.ws_brk)) | ((with_reducible apply PG.ws_cont)) | ((with_reducible apply PG.ws_forn)) | ((with_reducible apply PG.ws_sto)) | ((with_reducible apply PG.ws_aug); (case hget => rfl)) | ((with_reducible apply PG.ws_app); (case hget => rfl)) | ((with_reducible apply PG.ws_retO); (case hget => rfl)) | ((with_reducible apply PG.we_name); (case hget => rfl)) | ((with_reducible apply PG.we_c)) | ((with_reducible apply PG.we_bin)) | ((with_reducible apply PG.we_un)) | ((with_reducible apply PG.we_call)) | ((with_reducible apply PG.we_callL); (case hget => rfl)) | ((with_reducible apply PG.we_tup)) | ((with_reducible apply PG.we_lst)) | ((with_reducible apply PG.we_if)) | ((with_reducible apply PG.we_ixL); (case hget => rfl)) | ((with_reducible apply PG.we_unL); (case hget => rfl)) | ((with_reducible apply PG.we_and)) | ((with_reducible apply PG.we_or)) | ((with_reducible apply PG.we_not)) | ((with_reducible apply PG.we_chain)) | ((with_reducible apply PG.we_slT)) | ((with_reducible apply PG.wn_cons)) | ((with_reducible apply PG.wn_nil)) | ((with_reducible apply PG.wn_star)) | ((with_reducible apply PG.wn_disp)) | ((with_reducible apply PG.wn_call)) | ((with_reducible apply PG.wn_sl)) | ((with_reducible apply PG.wn_its)) | ((with_reducible apply PG.wn_r1)) | ((with_reducible apply PG.wn_r2)) | ((with_reducible apply PG.wn_r3)) | ((with_reducible apply PG.wt_tru)) | ((with_reducible apply PG.wt_bl)) | ((with_reducible apply PG.wt_and)) | ((with_reducible apply PG.wt_or)) | ((with_reducible apply PG.wt_not)) | ((with_reducible apply PG.wt_yes)) | ((with_reducible apply PG.wt_truL); (case hget => rfl)) | ((with_reducible apply PG.wo_none)) | ((with_reducible apply PG.wo_some)) | ((with_reducible apply PG.wg_p0)) | ((with_reducible apply PG.wg_tup)) | ((with_reducible apply PG.wg_ps); (case hset => (repeat' (first | exact PG.SetR.h0 | exact PG.SetR.h1 | exact PG.SetR.hl | exact PG.SetR.hc (by assumption) | apply PG.SetR.s)))) | ((with_reducible apply PG.wg_set); (case hset => (repeat' (first | exact PG.SetR.h0 | exact PG.SetR.h1 | exact PG.SetR.hl | exact PG.SetR.hc (by assumption) | apply PG.SetR.s)))) | ((with_reducible apply PG.we_frz); (case hget => rfl); (case hset => (repeat' (first | exact PG.SetR.h0 | exact PG.SetR.h1 | exact PG.SetR.hl | exact PG.SetR.hc (by assumption) | apply PG.SetR.s)))) | ((with_reducible apply PG.setr_i); (case hset => (repeat' (first | exact PG.SetR.h0 | exact PG.SetR.h1 | exact PG.SetR.hl | exact PG.SetR.hc (by assumption) | apply PG.SetR.s)))) | ((with_reducible apply PG.setl_i); (case hset => (repeat' (first | exact PG.SetLR.h0 | exact PG.SetLR.h1 | exact PG.SetLR.hl | apply PG.SetLR.s)))) | ((with_reducible apply PG.put_i); (case hset => (repeat' (first | exact PG.PutR.h | apply PG.PutR.s)))) | ((with_reducible apply PG.pool_i); (case hget => rfl)) | ((with_reducible apply PG.bool_i)) | ((with_reducible apply PG.int_i)) | ((with_reducible apply PG.seqL_i)) | ((with_reducible apply PG.seqT_i)) | ((with_reducible apply PG.seqR_i)) | ((with_reducible apply PG.starT_i)) | ((with_reducible apply PG.starL_i)) | ((with_reducible apply PG.len_i); (case h => rfl)) | ((with_reducible apply PG.tup_i)) | ((with_reducible apply PG.yes_i)) | ((with_reducible apply PG.no_i)) | ((with_reducible apply PG.nyes_i)) | ((with_reducible apply PG.nno_i)) | ((with_reducible apply PG.wa_add)) | ((with_reducible apply PG.wa_sub)) | ((with_reducible apply PG.wa_lt)) | ((with_reducible apply PG.wa_le)) | ((with_reducible apply PG.wa_gt)) | ((with_reducible apply PG.wa_ge)) | ((with_reducible apply PG.wa_eqI)) | ((with_reducible apply PG.wa_neI)) | ((with_reducible apply PG.wa_neg)) | ((with_reducible apply PG.wa_lenL)) | ((with_reducible apply PG.wa_lenT)) | ((with_reducible apply PG.wa_int)) | ((with_reducible apply PG.wa_max)) | ((with_reducible apply PG.wa_min)) | ((with_reducible apply PG.wb_bool)) | ((with_reducible apply PG.wb_int)) | ((with_reducible apply PG.endP_ret)) | ((with_reducible apply PG.endP_retL)) | ((with_reducible apply PG.endN_ret)) | ((with_reducible apply PG.endL_ret)) | ((with_reducible apply PG.endL_retL)) | ((with_reducible apply PG.wa_binO)) | ((with_reducible apply PG.ch_le)) | ((with_reducible apply PG.ch_lt)) | ((with_reducible apply PG.ch_eq)) | ((with_reducible apply PG.wa_ix0); (case hget => rfl)) | ((with_reducible apply PG.wa_ix1); (case hget => rfl)) | ((with_reducible apply PG.wa_ix2); (case hget => rfl)) | ((with_reducible apply PG.wa_ix3); (case hget => rfl)) | ((with_reducible apply PG.wa_ix4); (case hget => rfl)) | ((with_reducible apply PG.wa_ix5); (case hget => rfl)) | ((with_reducible apply PG.wa_ix6); (case hget => rfl)) | ((with_reducible apply PG.wa_ix7); (case hget => rfl)) | ((with_reducible apply PG.wa_ix8); (case hget => rfl)) | ((with_reducible apply PG.wa_il0); (case hget => rfl)) | ((with_reducible apply PG.wa_il1); (case hget => rfl)) | ((with_reducible apply PG.wa_il2); (case hget => rfl)) | ((with_reducible apply PG.wa_ev1)) | ((with_reducible apply PG.wa_ev)) | ((with_reducible apply PG.wl_ev)) | ((with_reducible apply PG.wb_ev)) | ((with_reducible apply PG.wa_mod); (case h1 => omega)) | ((with_reducible apply PG.wa_div); (case h1 => omega); (case h2 => omega)) | ((with_reducible apply PG.wa_mulR); (case h1 => omega); (case h2 => omega)) | ((with_reducible apply PG.wa_mulL); (case h1 => omega); (case h2 => omega)) | ((with_reducible apply PG.wa_shr); (case h1 => omega)))
local macro_rules | `(tactic| array_get_dec) => `(tactic| first | ((with_reducible apply Pr_C.wp_draw); (case hp => assumption); (case h0 => omega); (case h1 => omega)) | ((with_reducible apply Pr_C.ls_i); (case hp => assumption)))

theorem wipe1 (x : Option Cell) : wipeR [x, none] [1] = [x, none] := rfl
/-- the items of a tuple, each given to a def -/
theorem map_we {x : PyData} {xs : List PyData} {R : List PyData → Option PyData} {X : EF} {m : PyData → PyData} {P : List PyData → Rho → Prop} (hX : ∀ y, X [some (.v x), some (.v y)] = match R [y] with
    | some z => some (z, [some (.v x), some (.v y)])
    | none => none) (hl : xs.length ≤ 16777216) (hx : ∀ y ∈ xs, R [y] = some (m y)) (hd : x = .tuple xs) (q : P (xs.map m) [some (.v x), none]) :
    WN (nComp (itS (eName 0)) (gSet 1) tYesF X [1]) [some (.v x), none] P := by
  subst hd
  refine wn_map id (fun _ => true) m xs ?_
  (repeat array_get_dec)
  refine ⟨by simp, hl, rfl, fun y hy => ?_, ?_⟩
  · simp only [wipe1, id]
    (repeat array_get_dec)
    refine ⟨rfl, fun _ => ?_, fun z => (nomatch z)⟩
    exact ⟨m y, _, by rw [hX, hx y hy], rfl, rfl, rfl⟩
  · rw [List.filter_eq_self.mpr (by simp)]
    exact q
theorem booled_ok (B : Int) : ∀ (n D : Nat) (v : PyData), It v → ∀ W, Gd B D W v → W ≤ 100000 → D < n → ∃ z, F_law_booled n [v] = some z ∧ Gd B D W z
  | 0, D, v, _, _, _, _, h => absurd h (Nat.not_lt_zero _)
  | n + 1, D, v, it, W, g, hW, h => by
    cases it with
    | int i =>
      by_cases c0 : i = 0
      · subst c0
        exact ⟨.bool false, by simp [F_law_booled, B_law_booled, defP, F_law_is_integer, B_law_is_integer, isTy, isN, tyName, atD, ixOf], ⟨rfl, Nat.zero_le _, g.w⟩⟩
      by_cases c1 : i = 1
      · subst c1
        exact ⟨.bool true, by simp [F_law_booled, B_law_booled, defP, F_law_is_integer, B_law_is_integer, isTy, isN, tyName, atD, ixOf], ⟨rfl, Nat.zero_le _, g.w⟩⟩
      refine ⟨.int i, ?_, g⟩
      by_cases c2 : 0 ≤ i
      · have c3 : ¬ i < 2 := by omega
        simp [F_law_booled, B_law_booled, defP, F_law_is_integer, B_law_is_integer, isTy, isN, tyName, atD, ixOf, c2, c3]
      · simp [F_law_booled, B_law_booled, defP, F_law_is_integer, B_law_is_integer, isTy, isN, tyName, atD, ixOf, c2]
    | @tup xs hx =>
      cases D with
      | zero =>
        have := g.dp
        simp [PyData.depth] at this
      | succ D =>
      obtain ⟨gs, hw⟩ := Gs.of_tup g
      have hl := gs.len
      have ih : ∀ y ∈ xs, ∃ z, F_law_booled n [y] = some z ∧ Gd B D (wt y) z := fun y hy => booled_ok B n D y (hx y hy) (wt y) ⟨(gs.ok y hy).1, (gs.ok y hy).2, Nat.le_refl _⟩ (by have := wtA_mem hy; have := gs.w; omega) (by omega)
      let m : PyData → PyData := fun y => (F_law_booled n [y]).getD .none
      have hm : ∀ y ∈ xs, F_law_booled n [y] = some (m y) := fun y hy => by
        obtain ⟨z, e, _⟩ := ih y hy
        simp [m, e]
      have gm : ∀ y ∈ xs, Gd B D (wt y) (m y) := fun y hy => by
        obtain ⟨z, e, gz⟩ := ih y hy
        simpa [m, e] using gz
      have gt : Gs B D (W - 1) (xs.map m) := by
        refine ⟨fun z hz => ?_, ?_⟩
        · obtain ⟨y, hy, rfl⟩ := List.mem_map.mp hz
          exact ⟨(gm y hy).ok, (gm y hy).dp⟩
        · have key : ∀ ys : List PyData, (∀ y ∈ ys, y ∈ xs) → wtA (ys.map m) ≤ wtA ys := by
            intro ys
            induction ys with
            | nil => intro _; exact Nat.le_refl _
            | cons y ys ih2 =>
              intro hs
              have a := (gm y (hs y (by simp))).w
              have b := ih2 fun z hz => hs z (by simp [hz])
              simp only [List.map_cons, wtA]
              omega
          exact Nat.le_trans (key xs fun _ h => h) gs.w
      refine ⟨.tuple (xs.map m), ?_, gt.tup.mono (Int.le_refl _) (Nat.le_refl _) (by omega)⟩
      refine of_wa ?_
      rw [F_law_booled]
      refine PG.wa_def rfl ?_
      simp only [PG.rho0_eq, List.map_cons, List.map_nil, List.replicate_succ, List.replicate_zero, List.cons_append, List.nil_append]
      unfold B_law_booled
      (repeat array_get_dec)
      refine map_we (R := F_law_booled n) (m := m) (fun y => ?_) (by omega) hm rfl ?_
      · simp [X_law_booled_1] <;> (split <;> rename_i h2 <;> simp [h2])
      · (repeat array_get_dec)
        all_goals rfl
end Pr_D
end
section
set_option Elab.async false
set_option linter.all false
set_option maxRecDepth 100000
namespace Pr_S
open PySem PG Pr_C
/-! what each def does, on data -/
def X_words_of_1 : EF :=
  (eBin dAdd (eBin dMul (eC (.int 256)) (eBin dIx (eName 1) (eName 2))) (eBin dIx (eName 1) (eBin dAdd (eName 2) (eC (.int 1)))))
def B_words_of : SF :=
  (sSeq (sSet 1 (eIf (tBl (eBin dEq (eBin dMod (eCall (o1of dLen) (nCons (eName 0) nNil)) (eC (.int 2))) (eC (.int 0)))) (eName 0) (eTup (nStar (eName 0) (nCons (eC (.int 0)) nNil)))))
  (sSeq (sRet (eLst (nComp (itR3 (nCons (eC (.int 0)) (nCons (eCall (o1of dLen) (nCons (eName 1) nNil)) (nCons (eC (.int 2)) nNil)))) (gSet 2) tYesF X_words_of_1 [2])))
  sNil))
def F_words_of : List PyData → Option PyData := defP B_words_of 1 2
def B_folded : SF :=
  (sSeq (sSet 1 (eCall (o1of dSum) (nCons (eName 0) nNil)))
  (sSeq (sIf (tBl (eBin dEq (eName 1) (eC (.int 0))))
  (sSeq (sRet (eC (.int 0)))
  sNil)
  sNil)
  (sSeq (sRet (eBin dAdd (eBin dMod (eBin dSub (eName 1) (eC (.int 1))) (eC (.int 65535))) (eC (.int 1))))
  sNil)))
def F_folded : List PyData → Option PyData := defP B_folded 1 1
def B_sum_of : SF :=
  (sSeq (sRet (eBin dSub (eC (.int 65535)) (eCall F_folded (nCons (eCall F_words_of (nCons (eName 0) nNil)) nNil))))
  sNil)
def F_sum_of : List PyData → Option PyData := defP B_sum_of 1 0
def X_law_fold_1 : TF :=
  (tBl (eBin dGt (eName 1) (eC (.int 65535))))
def X_law_fold_2 : SF :=
  (sSeq (sSet 1 (eBin dAdd (eBin dDiv (eName 1) (eC (.int 65536))) (eBin dMod (eCall (o1of dInt) (nCons (eName 1) nNil)) (eC (.int 65536)))))
  sNil)
def B_law_fold : SF :=
  (sSeq (sSet 1 (eCall (o1of dSum) (nCons (eName 0) nNil)))
  (sSeq (sWhile (fun _ => FUEL) X_law_fold_1
  X_law_fold_2)
  (sSeq (sRet (eName 1))
  sNil)))
def F_law_fold : List PyData → Option PyData := defP B_law_fold 1 1
def X_law_words_1 : EF :=
  (eBin dAdd (eBin dMul (eC (.int 256)) (eBin dIx (eName 1) (eBin dMul (eC (.int 2)) (eName 2)))) (eBin dIx (eName 1) (eBin dAdd (eBin dMul (eC (.int 2)) (eName 2)) (eC (.int 1)))))
def B_law_words : SF :=
  (sSeq (sSet 1 (eBin dAdd (eLst (nCall (n1of dLstOf) (nCons (eName 0) nNil))) (eBin dRep (eLst (nDisp (nCons (eC (.int 0)) nNil))) (eBin dMod (eCall (o1of dInt) (nCons (eCall (o1of dLen) (nCons (eName 0) nNil)) nNil)) (eC (.int 2))))))
  (sSeq (sRet (eLst (nComp (itR1 (nCons (eBin dDiv (eCall (o1of dLen) (nCons (eName 1) nNil)) (eC (.int 2))) nNil)) (gSet 2) tYesF X_law_words_1 [2])))
  sNil))
def F_law_words : List PyData → Option PyData := defP B_law_words 1 2
def B_law_check : SF :=
  (sSeq (sRet (eBin dSub (eC (.int 65535)) (eCall F_law_fold (nCons (eCall F_law_words (nCons (eName 0) nNil)) nNil))))
  sNil)
def F_law_check : List PyData → Option PyData := defP B_law_check 1 0
def B_law_two : SF :=
  (sSeq (sRet (eTup (nCons (eBin dDiv (eName 0) (eC (.int 256))) (nCons (eBin dMod (eCall (o1of dInt) (nCons (eName 0) nNil)) (eC (.int 256))) nNil))))
  sNil)
def F_law_two : List PyData → Option PyData := defP B_law_two 1 0
def X_law_row_1 : EF :=
  (eBin dIx (eTup (nCons (eCallL F_law_draw 0 (nCons (eC (.int 256)) nNil)) (nCons (eC (.int 0)) (nCons (eC (.int 255)) (nCons (eC (.int 1)) nNil))))) (eCallL F_law_draw 0 (nCons (eC (.int 4)) nNil)))
def B_law_row : SF :=
  (sSeq (sRet (eCall (o1of dTupOf) (nCons (eLst (nComp (itR1 (nCons (eName 1) nNil)) (gSet 2) tYesF X_law_row_1 [2])) nNil)))
  sNil)
def F_law_row : List PyData → List PyData → Option (PyData × List PyData) := defL B_law_row 1 1
end Pr_S
end
section
set_option linter.all false
set_option maxRecDepth 100000
set_option Elab.async false
namespace Pr_S
open PySem PG Pr_C
def fo (t : Int) : Int := if t = 0 then 0 else (t - 1) % 65535 + 1
theorem fo_small {t : Int} (h0 : 0 ≤ t) (h1 : t ≤ 65535) : fo t = t := by
  unfold fo; split <;> omega
theorem fo_step {t : Int} (h : 65535 < t) : fo (t / 65536 + t % 65536) = fo t := by
  unfold fo
  rw [if_neg (by omega), if_neg (by omega)]
  omega
theorem fo_cong {t u k : Int} (h0 : 0 < t) (h1 : 0 < u) (h : t = u + 65535 * k) : fo t = fo u := by
  unfold fo
  rw [if_neg (by omega), if_neg (by omega), h]
  omega
theorem fo_range {t : Int} (h0 : 0 < t) : 1 ≤ fo t ∧ fo t ≤ 65535 ∧ ∃ k, fo t = t + 65535 * k := by
  unfold fo
  rw [if_neg (by omega)]
  refine ⟨by omega, by omega, -((t - 1) / 65535), by omega⟩
def wds : List Int → List Int
  | a :: b :: r => (256 * a + b) :: wds r
  | [a] => [256 * a + 0]
  | [] => []
def pad (e : List Int) : List Int := if e.length % 2 = 0 then e else e ++ [0]
def wat (e : List Int) (k : Nat) : Int := 256 * e.getD (2 * k) 0 + e.getD (2 * k + 1) 0
theorem pad_two (a b : Int) (r : List Int) : pad (a :: b :: r) = a :: b :: pad r := by
  unfold pad
  by_cases h : r.length % 2 = 0
  · rw [if_pos h, if_pos (by simp only [List.length_cons]; omega)]
  · rw [if_neg h, if_neg (by simp only [List.length_cons]; omega)]
    rfl
theorem pad_even (e : List Int) : (pad e).length % 2 = 0 := by
  unfold pad
  split
  · assumption
  · simp; omega
theorem wds_range : ∀ e : List Int, (List.range ((pad e).length / 2)).map (wat (pad e)) = wds e
  | [] => rfl
  | [a] => by simp [pad, wds, wat, List.range, List.range.loop]
  | a :: b :: r => by
    have ih := wds_range r
    rw [pad_two]
    have h : (a :: b :: pad r).length / 2 = (pad r).length / 2 + 1 := by simp only [List.length_cons]; omega
    rw [h, List.range_succ_eq_map, List.map_cons, List.map_map]
    have h2 : (wat (a :: b :: pad r) ∘ Nat.succ) = wat (pad r) := by
      funext k
      simp [wat, Nat.mul_succ]
    rw [h2, ih]
    rfl
theorem wds_app : ∀ (l r : List Int), l.length % 2 = 0 → wds (l ++ r) = wds l ++ wds r
  | [], r, _ => rfl
  | [a], r, h => by simp at h
  | a :: b :: l, r, h => by
    have := wds_app l r (by simp only [List.length_cons] at h; omega)
    simp only [List.cons_append, wds, this]
theorem wds_nn : ∀ e : List Int, (∀ x ∈ e, 0 ≤ x ∧ x ≤ 255) → 0 ≤ (wds e).sum ∧ (wds e).sum ≤ 65535 * e.length ∧ e.sum ≤ (wds e).sum
  | [], _ => by simp [wds]
  | [a], h => by
    have := h a (by simp)
    simp [wds]; omega
  | a :: b :: r, h => by
    have h1 := h a (by simp)
    have h2 := h b (by simp)
    have h3 := wds_nn r fun x hx => h x (by simp [hx])
    simp only [wds, List.sum_cons, List.length_cons]
    omega
/-! ### the sums of the program -/
theorem stp_map (n : Nat) (f : PyData → PyData) : (stp 2 n).map f = (List.range n).map fun k => f (.int (0 + ((k : Nat) : Int) * 2)) := by simp [stp]
theorem getD_nat {E : List Int} {i : Nat} (h : i < E.length) : (IL E)[i]? = some (.int (E.getD i 0)) := by
  simp [IL, h]
theorem ix_tu (E : List Int) (i : Nat) (z : Int) (hz : z = i) (h : i < E.length) : dIx (.tuple (IL E)) (.int z) = some (.int (E.getD i 0)) := by
  subst hz
  show atD _ _ = _
  rw [atD_nat (by simpa using h)]
  simp [h]
theorem ix_li (E : List Int) (i : Nat) (z : Int) (hz : z = i) (h : i < E.length) : dIx (.list (IL E)) (.int z) = some (.int (E.getD i 0)) := by
  subst hz
  show atD _ _ = _
  rw [atD_nat (by simpa using h)]
  simp [h]
theorem wo_e (A E : PyData) (k x y : Int) (h1 : dIx E (.int k) = some (.int x)) (h2 : dIx E (.int (k + 1)) = some (.int y)) : X_words_of_1 [some (.v A), some (.v E), some (.v (.int k))] = some (.int (256 * x + y), [some (.v A), some (.v E), some (.v (.int k))]) := by
  simp [X_words_of_1, -dIx, h1, h2]
theorem lw_e (A E : PyData) (k x y : Int) (h1 : dIx E (.int (2 * k)) = some (.int x)) (h2 : dIx E (.int (2 * k + 1)) = some (.int y)) : X_law_words_1 [some (.v A), some (.v E), some (.v (.int k))] = some (.int (256 * x + y), [some (.v A), some (.v E), some (.v (.int k))]) := by
  simp [X_law_words_1, -dIx, h1, h2]
def mW (E : List Int) (c : Nat) : PyData → PyData
  | .int k => .int (wat E (k.toNat / c))
  | _ => .none
theorem wo_comp (A : PyData) (E : List Int) (n : Nat) (hE : E.length = 2 * n) (hn : n ≤ 1000) : compL (gSet 2) tYesF X_words_of_1 [2] (stp 2 n) [] [some (.v A), some (.v (.tuple (IL E))), none] = some (IL ((List.range n).map (wat E)), [some (.v A), some (.v (.tuple (IL E))), none]) := by
  have hc := compL_pure (g := gSet 2) (t := tYesF) (e := X_words_of_1) (vs := [2]) (ρ := [some (.v A), some (.v (.tuple (IL E))), none]) (fun _ => true) (mW E 2) (stp 2 n) [] (by simp [stp]; omega) (by
    intro d hd
    obtain ⟨k, hk, rfl⟩ := List.mem_map.mp hd
    have hk : k < n := by simpa using hk
    refine ⟨[some (.v A), some (.v (.tuple (IL E))), some (.v (.int (0 + ((k : Nat) : Int) * 2)))], by simp, by simp, fun _ => ?_, by simp [plainAt], by simp [wipeR]⟩
    rw [wo_e A _ _ _ _ (ix_tu E (2 * k) _ (by omega) (by omega)) (ix_tu E (2 * k + 1) _ (by omega) (by omega))]
    have : (0 + ((k : Nat) : Int) * 2).toNat / 2 = k := by omega
    simp only [mW, this, wat])
  rw [map_true, stp_map] at hc
  rw [hc]
  have : ∀ k : Nat, mW E 2 (.int (0 + ((k : Nat) : Int) * 2)) = .int (wat E k) := by
    intro k
    have : (0 + ((k : Nat) : Int) * 2).toNat / 2 = k := by omega
    simp only [mW, this]
  simp only [this, List.nil_append, IL, List.map_map]
  rfl
theorem lw_comp (A : PyData) (E : List Int) (n : Nat) (hE : E.length = 2 * n) (hn : n ≤ 1000) : compL (gSet 2) tYesF X_law_words_1 [2] (rng 0 n) [] [some (.v A), some (.v (.list (IL E))), none] = some (IL ((List.range n).map (wat E)), [some (.v A), some (.v (.list (IL E))), none]) := by
  have hc := compL_pure (g := gSet 2) (t := tYesF) (e := X_law_words_1) (vs := [2]) (ρ := [some (.v A), some (.v (.list (IL E))), none]) (fun _ => true) (mW E 1) (rng 0 n) [] (by simp [rng]; omega) (by
    intro d hd
    obtain ⟨k, hk, rfl⟩ := List.mem_map.mp hd
    have hk : k < n := by simpa using hk
    refine ⟨[some (.v A), some (.v (.list (IL E))), some (.v (.int (0 + ((k : Nat) : Int))))], by simp, by simp, fun _ => ?_, by simp [plainAt], by simp [wipeR]⟩
    rw [lw_e A _ _ _ _ (ix_li E (2 * k) _ (by omega) (by omega)) (ix_li E (2 * k + 1) _ (by omega) (by omega))]
    have : (0 + ((k : Nat) : Int)).toNat / 1 = k := by omega
    simp only [mW, this, wat])
  rw [map_true] at hc
  rw [hc]
  have : ∀ k : Nat, mW E 1 (.int (0 + ((k : Nat) : Int))) = .int (wat E k) := by
    intro k
    have : (0 + ((k : Nat) : Int)).toNat / 1 = k := by omega
    simp only [mW, this]
  simp only [rng, List.map_map, List.nil_append, IL, Function.comp_def, this]
/-- the rest of a def that sets 1 and hands back a comprehension over it -/
theorem two_gen (f : EF) (it : NF) (e : EF) (A E : PyData) (ds : List PyData) (out : List PyData) (hf : f [some (.v A), none, none] = some (E, [some (.v A), none, none])) (hi : it [some (.v A), some (.v E), none] = some (ds, [some (.v A), some (.v E), none]))
    (hc : compL (gSet 2) tYesF e [2] ds [] [some (.v A), some (.v E), none] = some (out, [some (.v A), some (.v E), none])) :
    defP (sSeq (sSet 1 f) (sSeq (sRet (eLst (nComp it (gSet 2) tYesF e [2]))) sNil)) 1 2 [A] = some (.list out) := by
  simp [-tYesF, defP, hf, nComp, hi, plainAt, wipeR, restR, hc]
theorem words_ok (e : List Int) (hl : e.length ≤ 2000) : F_words_of [.tuple (IL e)] = some (.list (IL (wds e))) := by
  have hp := pad_even e
  have hpl : (pad e).length ≤ e.length + 1 := by unfold pad; split <;> simp
  have hr : (((pad e).length : Int) + 1) / 2 = ((pad e).length / 2 : Nat) := by omega
  rw [← wds_range e]
  refine two_gen _ _ X_words_of_1 (.tuple (IL e)) (.tuple (IL (pad e))) (stp 2 ((pad e).length / 2)) _ ?_ ?_ (wo_comp _ (pad e) _ (by omega) (by omega))
  · by_cases h : e.length % 2 = 0
    · have h2 : ((e.length : Int) % 2 = 0) := by omega
      simp [pad, h, h2]
    · have h2 : ¬ ((e.length : Int) % 2 = 0) := by omega
      have h3 : e.length + 1 ≤ 16777216 := by omega
      simp [pad, h, h2, h3]
  · have h5 : (pad e).length ≤ 16777216 := by omega
    have h6 : (((pad e).length / 2 : Nat) : Int).toNat = (pad e).length / 2 := by omega
    simp only [IL, itR3, nCons, eC, eCall, eName, nNil, o1of, dLen, List.length_map, hr, h6, List.getElem?_cons_succ, List.getElem?_cons_zero]
    rw [if_pos ⟨trivial, trivial, by omega, by omega⟩]
theorem div2 (i : Int) : dDiv (.int i) (.int 2) = some (.int (i / 2)) := rfl
theorem mod2 (i : Int) : dMod (.int i) (.int 2) = some (.int (i % 2)) := rfl
theorem it_div (A : PyData) (E : List PyData) (n : Nat) (h : (E.length : Int) / 2 = (n : Nat)) (hn : n ≤ 1000000) : itR1 (nCons (eBin dDiv (eCall (o1of dLen) (nCons (eName 1) nNil)) (eC (.int 2))) nNil) [some (.v A), some (.v (.list E)), none] = some (rng 0 n, [some (.v A), some (.v (.list E)), none]) := by
  have h5 : in62 ((n : Nat) : Int) = true := by simp only [in62, Bool.and_eq_true, decide_eq_true_eq]; omega
  have e1 : dDiv (.int (E.length : Nat)) (.int 2) = some (.int (n : Nat)) := by
    rw [div2, h]
  simp [-dDiv, itR1, e1, h5]
theorem add_ll (xs ys : List PyData) (h : xs.length + ys.length ≤ 16777216) : dAdd (.list xs) (.list ys) = some (.list (xs ++ ys)) := if_pos h
theorem rep0 (x : PyData) : dRep (.list [x]) (.int 0) = some (.list []) := rfl
theorem rep1 (x : PyData) : dRep (.list [x]) (.int 1) = some (.list [x]) := rfl
theorem eBin_of {o : PyData → PyData → Option PyData} {f g : EF} {ρ ρ1 ρ2 : Rho} {x y z : PyData} (h1 : f ρ = some (x, ρ1)) (h2 : g ρ1 = some (y, ρ2)) (h3 : o x y = some z) : eBin o f g ρ = some (z, ρ2) := by
  simp only [eBin, h1, h2, h3]
theorem pe1 (ρ : Rho) : eLst (nDisp (nCons (eC (.int 0)) nNil)) ρ = some (.list [.int 0], ρ) := by simp
theorem pe2 (e : List PyData) (b : Int) (h2 : (e.length : Int) % 2 = b) : eBin dMod (eCall (o1of dInt) (nCons (eCall (o1of dLen) (nCons (eName 0) nNil)) nNil)) (eC (.int 2)) [some (.v (.tuple e)), none, none] = some (.int b, [some (.v (.tuple e)), none, none]) := by
  simp only [eBin, eC, eCall, nCons, eName, nNil, o1of, dLen, dInt, List.getElem?_cons_zero, mod2, h2]
theorem pe3 (e : List PyData) : eLst (nCall (n1of dLstOf) (nCons (eName 0) nNil)) [some (.v (.tuple e)), none, none] = some (.list e, [some (.v (.tuple e)), none, none]) := by
  simp only [eLst, nCall, n1of, dLstOf, nCons, eName, nNil, List.getElem?_cons_zero]
theorem pad_ev (e : List PyData) (hl : e.length ≤ 2000) (b : Int) (y : List PyData) (hy : y.length ≤ 1) (hr : dRep (.list [.int 0]) (.int b) = some (.list y)) (h2 : (e.length : Int) % 2 = b) :
    eBin dAdd (eLst (nCall (n1of dLstOf) (nCons (eName 0) nNil))) (eBin dRep (eLst (nDisp (nCons (eC (.int 0)) nNil))) (eBin dMod (eCall (o1of dInt) (nCons (eCall (o1of dLen) (nCons (eName 0) nNil)) nNil)) (eC (.int 2)))) [some (.v (.tuple e)), none, none] = some (.list (e ++ y), [some (.v (.tuple e)), none, none]) :=
  eBin_of (pe3 e) (eBin_of (pe1 _) (pe2 e b h2) hr) (add_ll e y (by omega))
theorem law_words_ok (e : List Int) (hl : e.length ≤ 2000) : F_law_words [.tuple (IL e)] = some (.list (IL (wds e))) := by
  have hp := pad_even e
  have hpl : (pad e).length ≤ e.length + 1 := by unfold pad; split <;> simp
  rw [← wds_range e]
  refine two_gen _ _ X_law_words_1 (.tuple (IL e)) (.list (IL (pad e))) (rng 0 ((pad e).length / 2)) _ ?_ ?_ (lw_comp _ (pad e) _ (by omega) (by omega))
  · by_cases h : e.length % 2 = 0
    · rw [pad_ev (IL e) (by simpa using hl) 0 [] (by simp) (rep0 _) (by simp; omega)]
      simp [pad, h]
    · rw [pad_ev (IL e) (by simpa using hl) 1 [.int 0] (by simp) (rep1 _) (by simp; omega)]
      simp [pad, h]
  · exact it_div _ (IL (pad e)) _ (by simp) (by omega)
/-! ### folding -/
theorem sum_li (w : List Int) : dSum (.list (IL w)) = some (.int w.sum) := by
  simp only [dSum, IL, intsOf_ints]
theorem sum_tu (w : List Int) : dSum (.tuple (IL w)) = some (.int w.sum) := by
  simp only [dSum, IL, intsOf_ints]
theorem folded_gen (d : PyData) (t : Int) (h : dSum d = some (.int t)) : F_folded [d] = some (.int (fo t)) := by
  by_cases c : t = 0
  · simp [F_folded, defP, B_folded, -dSum, h, fo, c]
  · simp [F_folded, defP, B_folded, -dSum, h, fo, c]
theorem ft_test (A : Option Cell) (t : Int) : X_law_fold_1 [A, some (.v (.int t))] = some (decide (65535 < t), [A, some (.v (.int t))]) := by
  simp [X_law_fold_1]
theorem ft_step (A : Option Cell) (t : Int) : X_law_fold_2 [A, some (.v (.int t))] = some (.next, [A, some (.v (.int (t / 65536 + t % 65536)))]) := by
  simp [X_law_fold_2]
theorem fold_stop (A : Option Cell) (n : Nat) (t : Int) (h0 : 0 ≤ t) (h1 : t ≤ 65535) : whl X_law_fold_1 X_law_fold_2 (n + 1) [A, some (.v (.int t))] = some (.next, [A, some (.v (.int (fo t)))]) := by
  unfold whl
  rw [ft_test, decide_eq_false (by omega), fo_small h0 h1]
theorem fold_go (A : Option Cell) (n : Nat) (t : Int) (h : 65535 < t) : whl X_law_fold_1 X_law_fold_2 (n + 1) [A, some (.v (.int t))] = whl X_law_fold_1 X_law_fold_2 n [A, some (.v (.int (t / 65536 + t % 65536)))] := by
  rw [whl.eq_2, ft_test, decide_eq_true h]
  simp only [ft_step]
theorem fold_loop (A : Option Cell) : ∀ (n : Nat) (t : Int), 0 ≤ t → t ≤ 65535 * (n + 1) → whl X_law_fold_1 X_law_fold_2 (n + 1) [A, some (.v (.int t))] = some (.next, [A, some (.v (.int (fo t)))])
  | 0, t, h0, h1 => fold_stop A 0 t h0 (by omega)
  | n + 1, t, h0, h1 => by
    by_cases h : 65535 < t
    · rw [fold_go A _ t h, fold_loop A n _ (by omega) (by omega), fo_step h]
    · exact fold_stop A _ t h0 (by omega)
theorem fold_big (A : Option Cell) (t : Int) (h0 : 0 ≤ t) (h1 : t ≤ 4611686018427387904) : whl X_law_fold_1 X_law_fold_2 (40000 + 3) [A, some (.v (.int t))] = some (.next, [A, some (.v (.int (fo t)))]) := by
  by_cases h : 65535 < t
  · have e1 := fold_go A (40000 + 2) t h
    rw [show 40000 + 3 = 40000 + 2 + 1 from rfl, e1, ← fo_step h]
    generalize hu : t / 65536 + t % 65536 = u
    have u0 : 0 ≤ u := by omega
    have u1 : u ≤ 70368744243200 := by omega
    by_cases g : 65535 < u
    · rw [fold_go A (40000 + 1) u g, ← fo_step g]
      exact fold_loop A 40000 _ (by omega) (by omega)
    · exact fold_stop A _ u u0 (by omega)
  · exact fold_stop A _ t h0 (by omega)
theorem fold_gen (S : PyData → Option PyData) (t : TF) (b : SF) (k : Nat) (d : PyData) (u v : Int) (hk : k ≤ FUEL) (hs : S d = some (.int u)) (h : whl t b k [some (.v d), some (.v (.int u))] = some (.next, [some (.v d), some (.v (.int v))])) :
    defP (sSeq (sSet 1 (eCall (o1of S) (nCons (eName 0) nNil))) (sSeq (sWhile (fun _ => FUEL) t b) (sSeq (sRet (eName 1)) sNil))) 1 1 [d] = some (.int v) := by
  have h2 := whl_mono k FUEL _ _ h hk
  generalize FUEL = N at *
  simp [defP, hs, sWhile, h2]
theorem law_fold_ok (w : List Int) (h0 : 0 ≤ w.sum) (h1 : w.sum ≤ 4611686018427387904) : F_law_fold [.list (IL w)] = some (.int (fo w.sum)) :=
  fold_gen dSum X_law_fold_1 X_law_fold_2 (40000 + 3) _ _ _ (by unfold FUEL; decide) (sum_li w) (fold_big _ _ h0 h1)
theorem folded_ok (w : List Int) : F_folded [.list (IL w)] = some (.int (fo w.sum)) := folded_gen _ _ (sum_li w)
theorem minus_gen (F W : List PyData → Option PyData) (d w : PyData) (t : Int) (hw : W [d] = some w) (hf : F [w] = some (.int t)) : defP (sSeq (sRet (eBin dSub (eC (.int 65535)) (eCall F (nCons (eCall W (nCons (eName 0) nNil)) nNil)))) sNil) 1 0 [d] = some (.int (65535 - t)) := by
  simp [defP, hw, hf]
def Row (e : List Int) : Prop := (∀ x ∈ e, 0 ≤ x ∧ x ≤ 255) ∧ e.length ≤ 2000
theorem row_sum {e : List Int} (h : Row e) : 0 ≤ (wds e).sum ∧ (wds e).sum ≤ 131070000 ∧ e.sum ≤ (wds e).sum := by
  obtain ⟨h1, h2, h3⟩ := wds_nn e h.1
  have := h.2
  exact ⟨h1, by omega, h3⟩
theorem sum_of_ok {e : List Int} (h : Row e) : F_sum_of [.tuple (IL e)] = some (.int (65535 - fo (wds e).sum)) :=
  minus_gen F_folded F_words_of _ _ _ (words_ok e h.2) (folded_ok _)
theorem law_check_ok {e : List Int} (h : Row e) : F_law_check [.tuple (IL e)] = some (.int (65535 - fo (wds e).sum)) :=
  minus_gen F_law_fold F_law_words _ _ _ (law_words_ok e h.2) (law_fold_ok _ (row_sum h).1 (by have := (row_sum h).2.1; omega))
theorem two_ok (n : Int) : F_law_two [.int n] = some (.tuple (IL [n / 256, n % 256])) := by
  simp [F_law_two, B_law_two, defP]
/-! ### drawn rows -/
theorem rowe_gen (A : List PyData → List PyData → Option (PyData × List PyData)) (pd p1 p2 : List PyData) (a v z : PyData) (x y : Option Cell) (e1 : A pd [.int 256] = some (a, p1)) (e2 : A p1 [.int 4] = some (v, p2)) (e3 : dIx (.tuple [a, .int 0, .int 255, .int 1]) v = some z) :
    eBin dIx (eTup (nCons (eCallL A 0 (nCons (eC (.int 256)) nNil)) (nCons (eC (.int 0)) (nCons (eC (.int 255)) (nCons (eC (.int 1)) nNil))))) (eCallL A 0 (nCons (eC (.int 4)) nNil)) [some (.l true pd), x, y] = some (z, [some (.l true p2), x, y]) := by
  simp [-dIx, e1, e2, e3]
theorem four_at {a v : Int} (ha : 0 ≤ a) (ha2 : a < 256) (h0 : 0 ≤ v) (h1 : v < 4) : ∃ z : Int, 0 ≤ z ∧ z ≤ 255 ∧ dIx (.tuple [.int a, .int 0, .int 255, .int 1]) (.int v) = some (.int z) := by
  rcases (show v = 0 ∨ v = 1 ∨ v = 2 ∨ v = 3 by omega) with rfl | rfl | rfl | rfl
  · exact ⟨a, ha, by omega, rfl⟩
  · exact ⟨0, by decide, by decide, rfl⟩
  · exact ⟨255, by decide, by decide, rfl⟩
  · exact ⟨1, by decide, by decide, rfl⟩
theorem row_comp (p : Pool) (hp : p.ok) (m : PyData) (n : Nat) (hn : n ≤ 1000) : ∃ (e : List Int) (p' : Pool), compL (gSet 2) tYesF X_law_row_1 [2] (rng 0 n) [] [some (.l true p.d), some (.v m), none] = some (IL e, [some (.l true p'.d), some (.v m), none]) ∧ p'.ok ∧ Row e ∧ e.length = n := by
  obtain ⟨out, ρ', e, ⟨p', l, hr, hp', ha, ho⟩, hl⟩ := compL_ind (g := gSet 2) (t := tYesF) (e := X_law_row_1) (vs := [2]) (P := fun ds acc ρ => ∃ (p : Pool) (l : List Int), ρ = [some (.l true p.d), some (.v m), none] ∧ p.ok ∧ acc = IL l ∧ (∀ x ∈ l, 0 ≤ x ∧ x ≤ 255))
    (rng 0 n) [] [some (.l true p.d), some (.v m), none] (by simp [rng_len]; omega) ⟨p, [], rfl, hp, rfl, by simp⟩ (by
    rintro d r acc ρ ⟨p, l, rfl, hp, rfl, ho⟩
    obtain ⟨a, p1, e1, k1, a0, a1⟩ := draw_ok p hp 256 (by decide) (by decide)
    obtain ⟨v, p2, e2, k2, v0, v1⟩ := draw_ok p1 k1 4 (by decide) (by decide)
    obtain ⟨z, z0, z1, e3⟩ := four_at a0 a1 v0 v1
    refine ⟨[some (.l true p.d), some (.v m), some (.v d)], [some (.l true p.d), some (.v m), some (.v d)], .int z, [some (.l true p2.d), some (.v m), some (.v d)], rfl, rfl, rowe_gen F_law_draw _ _ _ _ _ _ _ _ e1 e2 e3, rfl, p2, l ++ [z], rfl, k2, by simp [IL], ?_⟩
    intro x hx
    rcases List.mem_append.mp hx with hx | hx
    · exact ho x hx
    · simp only [List.mem_singleton] at hx
      subst hx
      exact ⟨z0, z1⟩)
  rw [hr] at e
  rw [ha] at e hl
  simp only [IL, List.length_map, List.length_nil, rng_len, Nat.zero_add] at hl
  exact ⟨l, p', e, hp', ⟨ho, by omega⟩, hl⟩
theorem row_gen (e : EF) (pd p2 : List PyData) (z : Int) (n : Nat) (out : List PyData) (hz : z.toNat = n) (hin : in62 z = true) (h : compL (gSet 2) tYesF e [2] (rng 0 n) [] [some (.l true pd), some (.v (.int z)), none] = some (out, [some (.l true p2), some (.v (.int z)), none])) :
    defL (sSeq (sRet (eCall (o1of dTupOf) (nCons (eLst (nComp (itR1 (nCons (eName 1) nNil)) (gSet 2) tYesF e [2])) nNil))) sNil) 1 1 pd [.int z] = some (.tuple out, p2) := by
  subst hz
  simp [-tYesF, defL, nComp, itR1, hin, plainAt, wipeR, restR, h]
theorem in62_ok {z : Int} (h0 : 0 ≤ z) (h1 : z ≤ 1000000) : in62 z = true := by simp only [in62, Bool.and_eq_true, decide_eq_true_eq]; omega
theorem law_row_ok (p : Pool) (hp : p.ok) (z : Int) (h0 : 0 ≤ z) (h1 : z ≤ 1000) : ∃ (e : List Int) (p' : Pool), F_law_row p.d [.int z] = some (.tuple (IL e), p'.d) ∧ p'.ok ∧ Row e ∧ e.length = z.toNat := by
  obtain ⟨e, p', h, hp', hr, hl⟩ := row_comp p hp (.int z) z.toNat (by omega)
  exact ⟨e, p', row_gen X_law_row_1 _ _ z _ _ rfl (in62_ok h0 (by omega)) h, hp', hr, hl⟩
/-! ### single statements -/
end Pr_S
end
section
set_option Elab.async false
set_option linter.all false
set_option maxRecDepth 100000
namespace Pr_P
open PySem PG Pr_C Pr_D Pr_S
/-! what each def does, on data -/
def B_head_bytes : SF :=
  (sSeq (sRet (eBin (dGetT [(6, 8), (17, 6), (1, 4)]) (eName 0) (eC (.int 0))))
  sNil)
def F_head_bytes : List PyData → Option PyData := defP B_head_bytes 1 0
def B_length_of : SF :=
  (sSeq (sPar [1, 2, 3] (nCons (eBin dIx (eName 0) (eC (.int 2))) (nCons (eBin dIx (eName 0) (eC (.int 4))) (nCons (eBin dIx (eName 0) (eC (.int 6))) nNil))))
  (sSeq (sRet (eBin dAdd (eBin dAdd (eBin dAdd (eC (.int 12)) (eCall (o1of dLen) (nCons (eName 2) nNil))) (eCall F_head_bytes (nCons (eName 1) nNil))) (eCall (o1of dLen) (nCons (eName 3) nNil))))
  sNil))
def F_length_of : List PyData → Option PyData := defP B_length_of 1 3
def B_law_inner_size : SF :=
  (sSeq (sRet (eIf (tBl (eBin dEq (eName 0) (eC (.int 6)))) (eC (.int 8)) (eIf (tBl (eBin dEq (eName 0) (eC (.int 17)))) (eC (.int 6)) (eIf (tBl (eBin dEq (eName 0) (eC (.int 1)))) (eC (.int 4)) (eC (.int 0))))))
  sNil)
def F_law_inner_size : List PyData → Option PyData := defP B_law_inner_size 1 0
def B_law_kind : SF :=
  (sSeq (sRet (eBin dIx (eTup (nCons (eC (.int 6)) (nCons (eC (.int 6)) (nCons (eC (.int 17)) (nCons (eC (.int 1)) (nCons (eCallL F_law_draw 0 (nCons (eC (.int 256)) nNil)) nNil)))))) (eCallL F_law_draw 0 (nCons (eC (.int 5)) nNil))))
  sNil)
def F_law_kind : List PyData → List PyData → Option (PyData × List PyData) := defL B_law_kind 0 0
def B_law_inner : SF :=
  (sSeq (sIf (tBl (eBin dEq (eName 1) (eC (.int 6))))
  (sSeq (sRet (eTup (nCons (eCallL F_law_number 0 (nCons (eC (.int 65535)) nNil)) (nCons (eCallL F_law_number 0 (nCons (eC (.int 65535)) nNil)) (nCons (eCallL F_law_draw 0 (nCons (eC (.int 8)) nNil)) nNil)))))
  sNil)
  sNil)
  (sSeq (sIf (tBl (eBin dEq (eName 1) (eC (.int 17))))
  (sSeq (sRet (eTup (nCons (eCallL F_law_number 0 (nCons (eC (.int 65535)) nNil)) (nCons (eCallL F_law_number 0 (nCons (eC (.int 65535)) nNil)) nNil))))
  sNil)
  sNil)
  (sSeq (sRet (eIf (tBl (eBin dEq (eName 1) (eC (.int 1)))) (eTup (nCons (eCallL F_law_draw 0 (nCons (eC (.int 256)) nNil)) (nCons (eCallL F_law_draw 0 (nCons (eC (.int 256)) nNil)) nNil))) (eTup nNil)))
  sNil)))
def F_law_inner : List PyData → List PyData → Option (PyData × List PyData) := defL B_law_inner 1 0
def B_law_packet : SF :=
  (sSeq (sSet 2 (eCallL F_law_kind 0 nNil))
  (sSeq (sSet 3 (eTup (nCons (eCallL F_law_number 0 (nCons (eC (.int 65535)) nNil)) (nCons (eCallL F_law_number 0 (nCons (eC (.int 65535)) nNil)) nNil))))
  (sSeq (sSet 4 (eCallL F_law_row 0 (nCons (eBin dMul (eC (.int 2)) (eCallL F_law_draw 0 (nCons (eC (.int 5)) nNil))) nNil)))
  (sSeq (sSet 5 (eCallL F_law_row 0 (nCons (eCallL F_law_draw 0 (nCons (eBin dAdd (eName 1) (eC (.int 1))) nNil)) nNil)))
  (sSeq (sRet (eBin dAdd (eName 3) (eTup (nCons (eName 2) (nCons (eBin dIx (eTup (nCons (eBin dAdd (eC (.int 1)) (eCallL F_law_draw 0 (nCons (eC (.int 255)) nNil))) (nCons (eC (.int 1)) (nCons (eC (.int 2)) (nCons (eC (.int 64)) nNil))))) (eCallL F_law_draw 0 (nCons (eC (.int 4)) nNil))) (nCons (eName 4) (nCons (eCallL F_law_inner 0 (nCons (eName 2) nNil)) (nCons (eName 5) nNil))))))))
  sNil)))))
def F_law_packet : List PyData → List PyData → Option (PyData × List PyData) := defL B_law_packet 1 4
def B_law_length : SF :=
  (sSeq (sRet (eBin dAdd (eBin dAdd (eBin dAdd (eC (.int 12)) (eCall (o1of dLen) (nCons (eBin dIx (eName 0) (eC (.int 4))) nNil))) (eCall F_law_inner_size (nCons (eBin dIx (eName 0) (eC (.int 2))) nNil))) (eCall (o1of dLen) (nCons (eBin dIx (eName 0) (eC (.int 6))) nNil))))
  sNil)
def F_law_length : List PyData → Option PyData := defP B_law_length 1 0
def X_law_is_row_1 : TF :=
  (tNot' (tTru (eCall F_law_is_number (nCons (eName 1) (nCons (eC (.int 255)) nNil)))))
def X_law_is_row_2 : EF :=
  (eName 1)
def B_law_is_row : SF :=
  (sSeq (sRet (eAnd (eUn (dIsi "tuple") (eName 0)) (eBin dEq (eCall (o1of dLen) (nCons (eLst (nComp (itS (eName 0)) (gSet 1) X_law_is_row_1 X_law_is_row_2 [1])) nNil)) (eC (.int 0)))))
  sNil)
def F_law_is_row : List PyData → Option PyData := defP B_law_is_row 1 1
def X_law_is_packet_1 : TF :=
  (tNot' (tTru (eCall F_law_is_number (nCons (eBin dIx (eBin dIx (eName 0) (eC (.int 5))) (eName 2)) (nCons (eBin dIx (eName 1) (eName 2)) nNil)))))
def X_law_is_packet_2 : EF :=
  (eName 2)
def B_law_is_packet : SF :=
  (sSeq (sIf (tOr' (tNot' (tTru (eUn (dIsi "tuple") (eName 0)))) (tOr' (tBl (eBin dNe (eCall (o1of dLen) (nCons (eName 0) nNil)) (eC (.int 7)))) (tOr' (tNot' (tTru (eCall F_law_is_number (nCons (eBin dIx (eName 0) (eC (.int 0))) (nCons (eC (.int 65535)) nNil))))) (tNot' (tTru (eCall F_law_is_number (nCons (eBin dIx (eName 0) (eC (.int 1))) (nCons (eC (.int 65535)) nNil))))))))
  (sSeq (sRet (eC (.bool false)))
  sNil)
  sNil)
  (sSeq (sIf (tOr' (tNot' (tTru (eCall F_law_is_number (nCons (eBin dIx (eName 0) (eC (.int 2))) (nCons (eC (.int 255)) nNil))))) (tOr' (tNot' (tTru (eCall F_law_is_number (nCons (eBin dIx (eName 0) (eC (.int 3))) (nCons (eC (.int 255)) nNil))))) (tBl (eBin dEq (eBin dIx (eName 0) (eC (.int 3))) (eC (.int 0))))))
  (sSeq (sRet (eC (.bool false)))
  sNil)
  sNil)
  (sSeq (sIf (tOr' (tNot' (tTru (eCall F_law_is_row (nCons (eBin dIx (eName 0) (eC (.int 4))) nNil)))) (tOr' (tBl (eBin dNotIn2 (eCall (o1of dLen) (nCons (eBin dIx (eName 0) (eC (.int 4))) nNil)) (eTup (nCons (eC (.int 0)) (nCons (eC (.int 2)) (nCons (eC (.int 4)) (nCons (eC (.int 6)) (nCons (eC (.int 8)) nNil)))))))) (tNot' (tTru (eCall F_law_is_row (nCons (eBin dIx (eName 0) (eC (.int 6))) nNil))))))
  (sSeq (sRet (eC (.bool false)))
  sNil)
  sNil)
  (sSeq (sSet 1 (eIf (tBl (eBin dEq (eBin dIx (eName 0) (eC (.int 2))) (eC (.int 6)))) (eTup (nCons (eC (.int 65535)) (nCons (eC (.int 65535)) (nCons (eC (.int 7)) nNil)))) (eIf (tBl (eBin dEq (eBin dIx (eName 0) (eC (.int 2))) (eC (.int 17)))) (eTup (nCons (eC (.int 65535)) (nCons (eC (.int 65535)) nNil))) (eIf (tBl (eBin dEq (eBin dIx (eName 0) (eC (.int 2))) (eC (.int 1)))) (eTup (nCons (eC (.int 255)) (nCons (eC (.int 255)) nNil))) (eTup nNil)))))
  (sSeq (sIf (tOr' (tNot' (tTru (eUn (dIsi "tuple") (eBin dIx (eName 0) (eC (.int 5)))))) (tBl (eBin dNe (eCall (o1of dLen) (nCons (eBin dIx (eName 0) (eC (.int 5))) nNil)) (eCall (o1of dLen) (nCons (eName 1) nNil)))))
  (sSeq (sRet (eC (.bool false)))
  sNil)
  sNil)
  (sSeq (sRet (eAnd (eBin dEq (eCall (o1of dLen) (nCons (eLst (nComp (itR1 (nCons (eCall (o1of dLen) (nCons (eName 1) nNil)) nNil)) (gSet 2) X_law_is_packet_1 X_law_is_packet_2 [2])) nNil)) (eC (.int 0))) (eBin dLe (eCall F_law_length (nCons (eName 0) nNil)) (eC (.int 1500)))))
  sNil))))))
def F_law_is_packet : List PyData → Option PyData := defP B_law_is_packet 1 2
def B_two : SF :=
  (sSeq (sRet (eTup (nCons (eBin dDiv (eName 0) (eC (.int 256))) (nCons (eBin dMod (eName 0) (eC (.int 256))) nNil))))
  sNil)
def F_two : List PyData → Option PyData := defP B_two 1 0
def B_inner_bytes : SF :=
  (sSeq (sIf (tBl (eBin dEq (eName 0) (eC (.int 6))))
  (sSeq (sRet (eTup (nStar (eCall F_two (nCons (eBin dIx (eName 1) (eC (.int 0))) nNil)) (nStar (eCall F_two (nCons (eBin dIx (eName 1) (eC (.int 1))) nNil)) (nCons (eBin dIx (eName 1) (eC (.int 2))) (nCons (eC (.int 0)) (nCons (eC (.int 0)) (nCons (eC (.int 0)) nNil))))))))
  sNil)
  sNil)
  (sSeq (sIf (tBl (eBin dEq (eName 0) (eC (.int 17))))
  (sSeq (sRet (eTup (nStar (eCall F_two (nCons (eBin dIx (eName 1) (eC (.int 0))) nNil)) (nStar (eCall F_two (nCons (eBin dIx (eName 1) (eC (.int 1))) nNil)) (nCons (eC (.int 0)) (nCons (eC (.int 0)) nNil))))))
  sNil)
  sNil)
  (sSeq (sIf (tBl (eBin dEq (eName 0) (eC (.int 1))))
  (sSeq (sRet (eTup (nStar (eName 1) (nCons (eC (.int 0)) (nCons (eC (.int 0)) nNil)))))
  sNil)
  sNil)
  (sSeq (sRet (eTup nNil))
  sNil))))
def F_inner_bytes : List PyData → Option PyData := defP B_inner_bytes 2 0
def B_inner_row : SF :=
  (sSeq (sRet (eTup (nStar (eCall F_two (nCons (eName 0) nNil)) (nStar (eCall F_two (nCons (eName 1) nNil)) (nStar (eCall F_two (nCons (eName 2) nNil)) (nStar (eCall F_two (nCons (eCall (o1of dLen) (nCons (eName 3) nNil)) nNil)) (nStar (eName 3) nNil)))))))
  sNil)
def F_inner_row : List PyData → Option PyData := defP B_inner_row 4 0
def B_write_packet : SF :=
  (sSeq (sAsg (eName 0) (gTupS [5, 6, 7, 8, 9, 10, 11]))
  (sSeq (sSet 1 (eTup (nCons (eBin dAdd (eC (.int 70)) (eBin dDiv (eCall (o1of dLen) (nCons (eName 9) nNil)) (eC (.int 2)))) (nCons (eName 7) (nStar (eCall F_two (nCons (eCall F_length_of (nCons (eName 0) nNil)) nNil)) (nCons (eName 8) (nCons (eC (.int 0)) nNil)))))))
  (sSeq (sSet 2 (eTup (nStar (eCall F_two (nCons (eName 5) nNil)) (nStar (eCall F_two (nCons (eName 6) nNil)) (nStar (eName 9) nNil)))))
  (sSeq (sSet 3 (eCall F_sum_of (nCons (eTup (nStar (eName 1) (nCons (eC (.int 0)) (nCons (eC (.int 0)) (nStar (eName 2) nNil))))) nNil)))
  (sSeq (sSet 4 (eTup (nStar (eCall F_inner_bytes (nCons (eName 7) (nCons (eName 10) nNil))) (nStar (eName 11) nNil))))
  (sSeq (sIf (tBl (eUn (dInT [(6, 6), (17, 4), (1, 2)]) (eName 7)))
  (sSeq (sSet 12 (eUn (dIxT [(6, 6), (17, 4), (1, 2)]) (eName 7)))
  (sSeq (sSet 13 (eCall F_sum_of (nCons (eCall F_inner_row (nCons (eName 5) (nCons (eName 6) (nCons (eName 7) (nCons (eName 4) nNil))))) nNil)))
  (sSeq (sSet 4 (eTup (nStar (eSlT (eName 4) none (some (eName 12))) (nStar (eCall F_two (nCons (eName 13) nNil)) (nStar (eSlT (eName 4) (some (eBin dAdd (eName 12) (eC (.int 2)))) none) nNil)))))
  sNil)))
  sNil)
  (sSeq (sRet (eTup (nStar (eName 1) (nStar (eCall F_two (nCons (eName 3) nNil)) (nStar (eName 2) (nStar (eName 4) nNil))))))
  sNil)))))))
def F_write_packet : List PyData → Option PyData := defP B_write_packet 1 13
def B_law_bytes : SF :=
  (sSeq (sSet 1 (eBin dAdd (eBin dAdd (eTup (nCons (eBin dAdd (eC (.int 70)) (eBin dDiv (eCall (o1of dLen) (nCons (eBin dIx (eName 0) (eC (.int 4))) nNil)) (eC (.int 2)))) (nCons (eBin dIx (eName 0) (eC (.int 2))) nNil))) (eCall F_law_two (nCons (eCall F_law_length (nCons (eName 0) nNil)) nNil))) (eTup (nCons (eBin dIx (eName 0) (eC (.int 3))) (nCons (eC (.int 0)) nNil)))))
  (sSeq (sSet 2 (eBin dAdd (eCall F_law_two (nCons (eBin dIx (eName 0) (eC (.int 0))) nNil)) (eCall F_law_two (nCons (eBin dIx (eName 0) (eC (.int 1))) nNil))))
  (sSeq (sSet 3 (eBin dAdd (eBin dAdd (eBin dAdd (eName 1) (eCall F_law_two (nCons (eCall F_law_check (nCons (eBin dAdd (eBin dAdd (eBin dAdd (eName 1) (eTup (nCons (eC (.int 0)) (nCons (eC (.int 0)) nNil)))) (eName 2)) (eBin dIx (eName 0) (eC (.int 4)))) nNil)) nNil))) (eName 2)) (eBin dIx (eName 0) (eC (.int 4)))))
  (sSeq (sSet 4 (eBin dIx (eName 0) (eC (.int 5))))
  (sSeq (sIf (tBl (eBin dEq (eBin dIx (eName 0) (eC (.int 2))) (eC (.int 6))))
  (sSeq (sSet 4 (eBin dAdd (eBin dAdd (eCall F_law_two (nCons (eBin dIx (eName 4) (eC (.int 0))) nNil)) (eCall F_law_two (nCons (eBin dIx (eName 4) (eC (.int 1))) nNil))) (eTup (nCons (eBin dIx (eName 4) (eC (.int 2))) (nCons (eC (.int 0)) nNil)))))
  sNil)
  sNil)
  (sSeq (sIf (tBl (eBin dEq (eBin dIx (eName 0) (eC (.int 2))) (eC (.int 17))))
  (sSeq (sSet 4 (eBin dAdd (eCall F_law_two (nCons (eBin dIx (eName 4) (eC (.int 0))) nNil)) (eCall F_law_two (nCons (eBin dIx (eName 4) (eC (.int 1))) nNil))))
  sNil)
  sNil)
  (sSeq (sIf (tBl (eBin dEq (eCall F_law_inner_size (nCons (eBin dIx (eName 0) (eC (.int 2))) nNil)) (eC (.int 0))))
  (sSeq (sRet (eBin dAdd (eName 3) (eBin dIx (eName 0) (eC (.int 6)))))
  sNil)
  sNil)
  (sSeq (sSet 5 (eBin dAdd (eBin dAdd (eName 4) (eTup (nCons (eC (.int 0)) (nCons (eC (.int 0)) nNil)))) (eBin dIx (eName 0) (eC (.int 6)))))
  (sSeq (sSet 6 (eCall F_law_check (nCons (eBin dAdd (eBin dAdd (eBin dAdd (eName 2) (eCall F_law_two (nCons (eBin dIx (eName 0) (eC (.int 2))) nNil))) (eCall F_law_two (nCons (eCall (o1of dLen) (nCons (eName 5) nNil)) nNil))) (eName 5)) nNil)))
  (sSeq (sRet (eBin dAdd (eBin dAdd (eBin dAdd (eName 3) (eName 4)) (eCall F_law_two (nCons (eName 6) nNil))) (eBin dIx (eName 0) (eC (.int 6)))))
  sNil))))))))))
def F_law_bytes : List PyData → Option PyData := defP B_law_bytes 1 6
def B_has_ports : SF :=
  (sSeq (sRet (eBin dIn2 (eName 0) (eTup (nCons (eC (.int 6)) (nCons (eC (.int 17)) nNil)))))
  sNil)
def F_has_ports : List PyData → Option PyData := defP B_has_ports 1 0
def B_least_length : SF :=
  (sSeq (sRet (eBin dAdd (eC (.int 12)) (eCall F_head_bytes (nCons (eName 0) nNil))))
  sNil)
def F_least_length : List PyData → Option PyData := defP B_least_length 1 0
def B_law_tops : SF :=
  (sSeq (sRet (eTup (nCons (eC (.int 1)) (nCons (eC (.int 255)) (nCons (eC (.int 65535)) (nCons (eC (.int 65535)) (nCons (eC (.int 65535)) (nCons (eC (.int 65535)) (nCons (eC (.int 7)) (nCons (eC (.int 65535)) (nCons (eC (.int 1500)) (nCons (eC (.int 6)) (nCons (eC (.int 1)) nNil)))))))))))))
  sNil)
def F_law_tops : List PyData → Option PyData := defP B_law_tops 0 0
def B_law_least : SF :=
  (sSeq (sRet (eBin dAdd (eC (.int 12)) (eCall F_law_inner_size (nCons (eName 0) nNil))))
  sNil)
def F_law_least : List PyData → Option PyData := defP B_law_least 1 0
def X_law_is_sight_1 : TF :=
  (tNot' (tTru (eCall F_law_is_number (nCons (eBin dIx (eName 0) (eName 2)) (nCons (eBin dIx (eCall F_law_tops nNil) (eName 2)) nNil)))))
def X_law_is_sight_2 : EF :=
  (eName 2)
def B_law_is_sight : SF :=
  (sSeq (sIf (tOr' (tNot' (tTru (eUn (dIsi "tuple") (eName 0)))) (tBl (eBin dNe (eCall (o1of dLen) (nCons (eName 0) nNil)) (eC (.int 9)))))
  (sSeq (sRet (eC (.bool false)))
  sNil)
  sNil)
  (sSeq (sIf (tOr' (tBl (eBin dGt (eCall (o1of dLen) (nCons (eLst (nComp (itR1 (nCons (eC (.int 9)) nNil)) (gSet 2) X_law_is_sight_1 X_law_is_sight_2 [2])) nNil)) (eC (.int 0)))) (tBl (eBin dEq (eBin dIx (eName 0) (eC (.int 2))) (eBin dIx (eName 0) (eC (.int 4))))))
  (sSeq (sRet (eC (.bool false)))
  sNil)
  sNil)
  (sSeq (sSet 1 (eBin dIx (eName 0) (eC (.int 1))))
  (sSeq (sIf (tOr' (tBl (eBin dLt (eBin dIx (eName 0) (eC (.int 8))) (eCall F_law_least (nCons (eName 1) nNil)))) (tAnd' (tBl (eBin dNotIn2 (eName 1) (eTup (nCons (eC (.int 6)) (nCons (eC (.int 17)) nNil))))) (tBl (eBin dGt (eBin dAdd (eBin dIx (eName 0) (eC (.int 3))) (eBin dIx (eName 0) (eC (.int 5)))) (eC (.int 0))))))
  (sSeq (sRet (eC (.bool false)))
  sNil)
  sNil)
  (sSeq (sRet (eAnd (eOr (eBin dEq (eName 1) (eC (.int 6))) (eBin dEq (eBin dIx (eName 0) (eC (.int 6))) (eC (.int 0)))) (eOr (eBin dEq (eName 1) (eC (.int 1))) (eBin dEq (eBin dIx (eName 0) (eC (.int 7))) (eC (.int 0))))))
  sNil)))))
def F_law_is_sight : List PyData → Option PyData := defP B_law_is_sight 1 2
def X_law_world_1 : TF :=
  (tBl (eBinO dIn2 (eName 3) 2))
def X_law_world_2 : SF :=
  (sSeq (sSet 3 (eBin dMod (eCall (o1of dInt) (nCons (eBin dAdd (eName 3) (eC (.int 1))) nNil)) (eC (.int 65536))))
  sNil)
def X_law_world_3 : TF :=
  (tBl (eBin dLt (eUnL dLen 2) (eC (.int 3))))
def X_law_world_4 : SF :=
  (sSeq (sSet 3 (eBin dIx (eTup (nCons (eBin dSub (eBin dAdd (eCallL F_law_number 0 (nCons (eC (.int 65535)) nNil)) (eUnL dLen 2)) (eC (.int 1))) (nCons (eBin dAdd (eName 1) (eUnL dLen 2)) nNil))) (eCallL F_law_draw 0 (nCons (eC (.int 2)) nNil))))
  (sSeq (sSet 3 (eBin dMod (eCall (o1of dInt) (nCons (eName 3) nNil)) (eC (.int 65536))))
  (sSeq (sWhile (fun _ => FUEL) X_law_world_1
  X_law_world_2)
  (sSeq (sApp 2 (eName 3))
  sNil))))
def B_law_world : SF :=
  (sSeq (sSet 1 (eCallL F_law_number 0 (nCons (eC (.int 65535)) nNil)))
  (sSeq (sSetL 2 (nDisp (nCons (eName 1) nNil)))
  (sSeq (sWhile (fun _ => FUEL) X_law_world_3
  X_law_world_4)
  (sSeq (sRet (eTup (nCons (eUnL dTupOf 2) (nCons (eTup (nCons (eCallL F_law_number 0 (nCons (eC (.int 65535)) nNil)) (nCons (eCallL F_law_number 0 (nCons (eC (.int 65535)) nNil)) nNil))) nNil))))
  sNil))))
def F_law_world : List PyData → List PyData → Option (PyData × List PyData) := defL B_law_world 0 3
def B_law_sight : SF :=
  (sSeq (sSet 3 (eBin dIx (eTup (nCons (eC (.int 6)) (nCons (eC (.int 6)) (nCons (eC (.int 6)) (nCons (eC (.int 17)) (nCons (eC (.int 17)) (nCons (eC (.int 1)) (nCons (eCallL F_law_draw 0 (nCons (eC (.int 256)) nNil)) nNil)))))))) (eCallL F_law_draw 0 (nCons (eC (.int 7)) nNil))))
  (sSeq (sSet 4 (eCallL F_law_draw 0 (nCons (eC (.int 3)) nNil)))
  (sSeq (sSet 5 (eBin dIx (eBin dIx (eName 1) (eC (.int 0))) (eName 4)))
  (sSeq (sSet 6 (eBin dIx (eBin dIx (eName 1) (eC (.int 0))) (eBin dMod (eCall (o1of dInt) (nCons (eBin dAdd (eBin dAdd (eName 4) (eC (.int 1))) (eCallL F_law_draw 0 (nCons (eC (.int 2)) nNil))) nNil)) (eC (.int 3)))))
  (sSeq (sSet 7 (eIf (tBl (eBin dIn2 (eName 3) (eTup (nCons (eC (.int 6)) (nCons (eC (.int 17)) nNil))))) (eTup (nCons (eBin dIx (eBin dIx (eName 1) (eC (.int 1))) (eCallL F_law_draw 0 (nCons (eC (.int 2)) nNil))) (nCons (eBin dIx (eBin dIx (eName 1) (eC (.int 1))) (eCallL F_law_draw 0 (nCons (eC (.int 2)) nNil))) nNil))) (eTup (nCons (eC (.int 0)) (nCons (eC (.int 0)) nNil)))))
  (sSeq (sSet 8 (eIf (tBl (eBin dEq (eName 3) (eC (.int 6)))) (eBin dIx (eTup (nCons (eC (.int 0)) (nCons (eC (.int 1)) (nCons (eC (.int 1)) (nCons (eC (.int 2)) (nCons (eC (.int 4)) (nCons (eCallL F_law_draw 0 (nCons (eC (.int 8)) nNil)) nNil))))))) (eCallL F_law_draw 0 (nCons (eC (.int 6)) nNil))) (eC (.int 0))))
  (sSeq (sSet 9 (eIf (tBl (eBin dEq (eName 3) (eC (.int 1)))) (eCallL F_law_draw 0 (nCons (eC (.int 65536)) nNil)) (eC (.int 0))))
  (sSeq (sSet 10 (eBin dAdd (eCall F_law_least (nCons (eName 3) nNil)) (eBin dIx (eTup (nCons (eC (.int 0)) (nCons (eC (.int 0)) (nCons (eC (.int 1)) (nCons (eCallL F_law_draw 0 (nCons (eBin dAdd (eName 2) (eC (.int 1))) nNil)) nNil))))) (eCallL F_law_draw 0 (nCons (eC (.int 4)) nNil)))))
  (sSeq (sRet (eTup (nCons (eCallL F_law_draw 0 (nCons (eC (.int 2)) nNil)) (nCons (eName 3) (nCons (eName 5) (nCons (eBin dIx (eName 7) (eC (.int 0))) (nCons (eName 6) (nCons (eBin dIx (eName 7) (eC (.int 1))) (nCons (eName 8) (nCons (eName 9) (nCons (eName 10) nNil)))))))))))
  sNil)))))))))
def F_law_sight : List PyData → List PyData → Option (PyData × List PyData) := defL B_law_sight 2 8
def B_sight_of : SF :=
  (sSeq (sAsg (eTup (nCons (eBin dIx (eName 1) (eC (.int 0))) (nCons (eBin dIx (eName 1) (eC (.int 1))) (nCons (eBin dIx (eName 1) (eC (.int 2))) (nCons (eBin dIx (eName 1) (eC (.int 5))) nNil))))) (gTupS [2, 3, 4, 5]))
  (sSeq (sAsg (eTup (nCons (eC (.int 0)) (nCons (eC (.int 0)) (nCons (eC (.int 0)) (nCons (eC (.int 0)) nNil))))) (gTupS [6, 7, 8, 9]))
  (sSeq (sIf (tTru (eCall F_has_ports (nCons (eName 4) nNil)))
  (sSeq (sAsg (eSlT (eName 5) none (some (eC (.int 2)))) (gTupS [6, 7]))
  sNil)
  sNil)
  (sSeq (sIf (tBl (eBin dEq (eName 4) (eC (.int 6))))
  (sSeq (sSet 8 (eBin dIx (eName 5) (eC (.int 2))))
  sNil)
  sNil)
  (sSeq (sIf (tBl (eBin dEq (eName 4) (eC (.int 1))))
  (sSeq (sSet 9 (eBin dAdd (eBin dMul (eC (.int 256)) (eBin dIx (eName 5) (eC (.int 0)))) (eBin dIx (eName 5) (eC (.int 1)))))
  sNil)
  sNil)
  (sSeq (sRet (eTup (nCons (eName 0) (nCons (eName 4) (nCons (eName 2) (nCons (eName 6) (nCons (eName 3) (nCons (eName 7) (nCons (eName 8) (nCons (eName 9) (nCons (eCall F_length_of (nCons (eName 1) nNil)) nNil)))))))))))
  sNil))))))
def F_sight_of : List PyData → Option PyData := defP B_sight_of 2 8
def B_packet_of : SF :=
  (sSeq (sAsg (eName 0) (gTupS [3, 4, 5, 6, 7, 8, 9, 10, 11]))
  (sSeq (sSet 1 (eTup nNil))
  (sSeq (sIf (tBl (eBin dEq (eName 4) (eC (.int 6))))
  (sSeq (sSet 1 (eTup (nCons (eName 6) (nCons (eName 8) (nCons (eName 9) nNil)))))
  sNil)
  sNil)
  (sSeq (sIf (tBl (eBin dEq (eName 4) (eC (.int 17))))
  (sSeq (sSet 1 (eTup (nCons (eName 6) (nCons (eName 8) nNil))))
  sNil)
  sNil)
  (sSeq (sIf (tBl (eBin dEq (eName 4) (eC (.int 1))))
  (sSeq (sSet 1 (eTup (nCons (eBin dDiv (eName 10) (eC (.int 256))) (nCons (eBin dMod (eName 10) (eC (.int 256))) nNil))))
  sNil)
  sNil)
  (sSeq (sSet 2 (eBin dRepT (eTup (nCons (eC (.int 0)) nNil)) (eBin dSub (eName 11) (eCall F_least_length (nCons (eName 4) nNil)))))
  (sSeq (sRet (eTup (nCons (eName 5) (nCons (eName 7) (nCons (eName 4) (nCons (eC (.int 64)) (nCons (eTup nNil) (nCons (eName 1) (nCons (eName 2) nNil)))))))))
  sNil)))))))
def F_packet_of : List PyData → Option PyData := defP B_packet_of 1 11
def B_law_seen : SF :=
  (sSeq (sSet 2 (eBin dIx (eName 1) (eC (.int 5))))
  (sSeq (sSet 3 (eIf (tBl (eBin dIn2 (eBin dIx (eName 1) (eC (.int 2))) (eTup (nCons (eC (.int 6)) (nCons (eC (.int 17)) nNil))))) (eSlT (eName 2) none (some (eC (.int 2)))) (eTup (nCons (eC (.int 0)) (nCons (eC (.int 0)) nNil)))))
  (sSeq (sSet 4 (eIf (tBl (eBin dEq (eBin dIx (eName 1) (eC (.int 2))) (eC (.int 6)))) (eBin dIx (eName 2) (eC (.int 2))) (eC (.int 0))))
  (sSeq (sSet 5 (eIf (tBl (eBin dEq (eBin dIx (eName 1) (eC (.int 2))) (eC (.int 1)))) (eBin dAdd (eBin dMul (eC (.int 256)) (eBin dIx (eName 2) (eC (.int 0)))) (eBin dIx (eName 2) (eC (.int 1)))) (eC (.int 0))))
  (sSeq (sRet (eTup (nCons (eName 0) (nCons (eBin dIx (eName 1) (eC (.int 2))) (nCons (eBin dIx (eName 1) (eC (.int 0))) (nCons (eBin dIx (eName 3) (eC (.int 0))) (nCons (eBin dIx (eName 1) (eC (.int 1))) (nCons (eBin dIx (eName 3) (eC (.int 1))) (nCons (eName 4) (nCons (eName 5) (nCons (eCall F_law_length (nCons (eName 1) nNil)) nNil)))))))))))
  sNil)))))
def F_law_seen : List PyData → Option PyData := defP B_law_seen 2 4
def B_law_plain_packet : SF :=
  (sSeq (sSet 1 (eBin dIx (eName 0) (eC (.int 1))))
  (sSeq (sSet 2 (eTup nNil))
  (sSeq (sIf (tBl (eBin dEq (eName 1) (eC (.int 6))))
  (sSeq (sSet 2 (eTup (nCons (eBin dIx (eName 0) (eC (.int 3))) (nCons (eBin dIx (eName 0) (eC (.int 5))) (nCons (eBin dIx (eName 0) (eC (.int 6))) nNil)))))
  sNil)
  sNil)
  (sSeq (sIf (tBl (eBin dEq (eName 1) (eC (.int 17))))
  (sSeq (sSet 2 (eTup (nCons (eBin dIx (eName 0) (eC (.int 3))) (nCons (eBin dIx (eName 0) (eC (.int 5))) nNil))))
  sNil)
  sNil)
  (sSeq (sIf (tBl (eBin dEq (eName 1) (eC (.int 1))))
  (sSeq (sSet 2 (eCall F_law_two (nCons (eBin dIx (eName 0) (eC (.int 7))) nNil)))
  sNil)
  sNil)
  (sSeq (sRet (eTup (nCons (eBin dIx (eName 0) (eC (.int 2))) (nCons (eBin dIx (eName 0) (eC (.int 4))) (nCons (eName 1) (nCons (eC (.int 64)) (nCons (eTup nNil) (nCons (eName 2) (nCons (eBin dRepT (eTup (nCons (eC (.int 0)) nNil)) (eBin dSub (eBin dIx (eName 0) (eC (.int 8))) (eCall F_law_least (nCons (eName 1) nNil)))) nNil)))))))))
  sNil))))))
def F_law_plain_packet : List PyData → Option PyData := defP B_law_plain_packet 1 2
end Pr_P
end
section
set_option linter.all false
set_option maxRecDepth 100000
set_option Elab.async false
namespace Pr_P
open PySem PG Pr_C Pr_D Pr_S
/-! ### equal data are the same -/
def sz : Nat → PyData → Bool
  | 0, _ => false
  | _ + 1, .int _ => true
  | _ + 1, .bool _ => true
  | _ + 1, .none => true
  | n + 1, .tuple xs => decide (xs.length < 16777216) && xs.all (sz n)
  | n + 1, .list xs => decide (xs.length < 16777216) && xs.all (sz n)
  | _ + 1, _ => false
theorem same_ok : ∀ (n : Nat) (d : PyData), sz n d = true → F_law_same n [d, d] = some (.bool true)
  | n + 1, .int i, _ => same_int n i
  | n + 1, .bool i, _ => same_bool n i
  | n + 1, .none, _ => same_none n
  | n + 1, .tuple xs, h => by
    simp only [sz, Bool.and_eq_true, decide_eq_true_eq, List.all_eq_true] at h
    exact same_tup n xs h.1 fun x hx => same_ok n x (h.2 x hx)
  | n + 1, .list xs, h => by
    simp only [sz, Bool.and_eq_true, decide_eq_true_eq, List.all_eq_true] at h
    exact same_list n xs h.1 fun x hx => same_ok n x (h.2 x hx)
theorem sz_int (n : Nat) (i : Int) : sz (n + 1) (.int i) = true := rfl
theorem sz_tup {n : Nat} {xs : List PyData} (h : xs.length < 16777216) (h2 : ∀ x ∈ xs, sz n x = true) : sz (n + 1) (.tuple xs) = true := by
  simp only [sz, Bool.and_eq_true, decide_eq_true_eq, List.all_eq_true]
  exact ⟨h, h2⟩
theorem sz_il {n : Nat} {e : List Int} (h : e.length < 16777216) : sz (n + 2) (.tuple (IL e)) = true :=
  sz_tup (by simpa using h) fun x hx => by
    obtain ⟨i, _, rfl⟩ := List.mem_map.mp hx
    rfl
/-! ### packets -/
inductive Inn where
  | st (a b f : Int)
  | ask (a b : Int)
  | note (t c : Int)
  | oth
def Inn.l : Inn → List Int
  | .st a b f => [a, b, f]
  | .ask a b => [a, b]
  | .note t c => [t, c]
  | .oth => []
def Inn.ok (k : Int) : Inn → Prop
  | .st a b f => k = 6 ∧ (0 ≤ a ∧ a ≤ 65535) ∧ (0 ≤ b ∧ b ≤ 65535) ∧ 0 ≤ f ∧ f ≤ 7
  | .ask a b => k = 17 ∧ (0 ≤ a ∧ a ≤ 65535) ∧ 0 ≤ b ∧ b ≤ 65535
  | .note t c => k = 1 ∧ (0 ≤ t ∧ t ≤ 255) ∧ 0 ≤ c ∧ c ≤ 255
  | .oth => k ≠ 6 ∧ k ≠ 17 ∧ k ≠ 1
structure Pk where
  s : Int
  d : Int
  k : Int
  t : Int
  o : List Int
  i : Inn
  p : List Int
def Pk.v (p : Pk) : PyData := .tuple [.int p.s, .int p.d, .int p.k, .int p.t, .tuple (IL p.o), .tuple (IL p.i.l), .tuple (IL p.p)]
structure Pk.Ok (p : Pk) : Prop where
  s : 0 ≤ p.s ∧ p.s ≤ 65535
  d : 0 ≤ p.d ∧ p.d ≤ 65535
  k : 0 ≤ p.k ∧ p.k ≤ 255
  t : 1 ≤ p.t ∧ p.t ≤ 255
  o : (∀ x ∈ p.o, 0 ≤ x ∧ x ≤ 255) ∧ p.o.length ≤ 8 ∧ p.o.length % 2 = 0
  i : p.i.ok p.k
  p : (∀ x ∈ p.p, 0 ≤ x ∧ x ≤ 255) ∧ p.p.length ≤ 1500
def isz (k : Int) : Int := if k = 6 then 8 else if k = 17 then 6 else if k = 1 then 4 else 0
def Pk.len (p : Pk) : Int := 12 + p.o.length + isz p.k + p.p.length
theorem isz_bd (k : Int) : 0 ≤ isz k ∧ isz k ≤ 8 := by unfold isz; split <;> (try split) <;> (try split) <;> omega
theorem head_ok (k : Int) : F_head_bytes [.int k] = some (.int (isz k)) := by
  by_cases h1 : k = 6
  · subst h1; rfl
  by_cases h2 : k = 17
  · subst h2; rfl
  by_cases h3 : k = 1
  · subst h3; rfl
  have e1 : ¬ 6 = k := fun h => h1 h.symm
  have e2 : ¬ 17 = k := fun h => h2 h.symm
  have e3 : ¬ 1 = k := fun h => h3 h.symm
  simp [F_head_bytes, B_head_bytes, defP, getI, isz, h1, h2, h3, e1, e2, e3]
theorem isize_ok (k : Int) : F_law_inner_size [.int k] = some (.int (isz k)) := by
  by_cases h1 : k = 6
  · subst h1; rfl
  by_cases h2 : k = 17
  · subst h2; rfl
  by_cases h3 : k = 1
  · subst h3; rfl
  simp [F_law_inner_size, B_law_inner_size, defP, dEq, isz, h1, h2, h3]
theorem length_ok (a b t x : PyData) (k : Int) (o p : List PyData) : F_length_of [.tuple [a, b, .int k, t, .tuple o, x, .tuple p]] = some (.int (12 + o.length + isz k + p.length)) := by
  simp [F_length_of, B_length_of, defP, atD, ixOf, head_ok]
theorem law_length_ok (a b t x : PyData) (k : Int) (o p : List PyData) : F_law_length [.tuple [a, b, .int k, t, .tuple o, x, .tuple p]] = some (.int (12 + o.length + isz k + p.length)) := by
  simp [F_law_length, B_law_length, defP, atD, ixOf, isize_ok]
theorem integer_ok (i : Int) : F_law_is_integer [.int i] = some (.bool true) := by
  rfl
theorem number_is (i top : Int) : F_law_is_number [.int i, .int top] = some (.bool (decide (0 ≤ i) && decide (i ≤ top))) := by
  by_cases h : 0 ≤ i <;> simp [F_law_is_number, B_law_is_number, defP, integer_ok, h]

local macro_rules | `(tactic| array_get_dec) => `(tactic| first | ((with_reducible apply PG.ws_set)) | ((with_reducible apply PG.ws_if)) | ((with_reducible apply PG.ws_ret)) | ((with_reducible apply PG.ws_setL)) | ((with_reducible apply PG.ws_expr)) | ((with_reducible apply PG.ws_nilc)) | ((with_reducible apply PG.ws_asc)) | ((with_reducible apply PG.ws_nil)) | ((with_reducible apply PG.ws_for)) | ((with_reducible apply PG.ws_asg)) | ((with_reducible apply PG.ws_par)) | ((with_reducible apply PG.ws_retL)) | ((with_reducible apply PG.ws_brk)) | ((with_reducible apply PG.ws_cont)) | ((with_reducible apply PG.ws_forn)) | ((with_reducible apply PG.ws_sto)) | ((with_reducible apply PG.ws_aug); (case hget => rfl)) | ((with_reducible apply PG.ws_app); (case hget => rfl)) | ((with_reducible apply PG.ws_retO); (case hget => rfl)) | ((with_reducible apply PG.we_name); (case hget => rfl)) | ((with_reducible apply PG.we_c)) | ((with_reducible apply PG.we_bin)) | ((with_reducible apply PG.we_un)) | ((with_reducible apply PG.we_call)) | ((with_reducible apply PG.we_callL); (case hget => rfl)) | ((with_reducible apply PG.we_tup)) | ((with_reducible apply PG.we_lst)) | ((with_reducible apply PG.we_if)) | ((with_reducible apply PG.we_ixL); (case hget => rfl)) | ((with_reducible apply PG.we_unL); (case hget => rfl)) | ((with_reducible apply PG.we_and)) | ((with_reducible apply PG.we_or)) | ((with_reducible apply PG.we_not)) | ((with_reducible apply PG.we_chain)) | ((with_reducible apply PG.we_slT)) | ((with_reducible apply PG.wn_cons)) | ((with_reducible apply PG.wn_nil)) | ((with_reducible apply PG.wn_star)) | ((with_reducible apply PG.wn_disp)) | ((with_reducible apply PG.wn_call)) | ((with_reducible apply PG.wn_sl)) | ((with_reducible apply PG.wn_its)) | ((with_reducible apply PG.wn_r1)) | ((with_reducible apply PG.wn_r2)) | ((with_reducible apply PG.wn_r3)) | ((with_reducible apply PG.wt_tru)) | ((with_reducible apply PG.wt_bl)) | ((with_reducible apply PG.wt_and)) | ((with_reducible apply PG.wt_or)) | ((with_reducible apply PG.wt_not)) | ((with_reducible apply PG.wt_yes)) | ((with_reducible apply PG.wt_truL); (case hget => rfl)) | ((with_reducible apply PG.wo_none)) | ((with_reducible apply PG.wo_some)) | ((with_reducible apply PG.wg_p0)) | ((with_reducible apply PG.wg_tup)) | ((with_reducible apply PG.wg_ps); (case hset => (repeat' (first | exact PG.SetR.h0 | exact PG.SetR.h1 | exact PG.SetR.hl | exact PG.SetR.hc (by assumption) | apply PG.SetR.s)))) | ((with_reducible apply PG.wg_set); (case hset => (repeat' (first | exact PG.SetR.h0 | exact PG.SetR.h1 | exact PG.SetR.hl | exact PG.SetR.hc (by assumption) | apply PG.SetR.s)))) | ((with_reducible apply PG.we_frz); (case hget => rfl); (case hset => (repeat' (first | exact PG.SetR.h0 | exact PG.SetR.h1 | exact PG.SetR.hl | exact PG.SetR.hc (by assumption) | apply PG.SetR.s)))) | ((with_reducible apply PG.setr_i); (case hset => (repeat' (first | exact PG.SetR.h0 | exact PG.SetR.h1 | exact PG.SetR.hl | exact PG.SetR.hc (by assumption) | apply PG.SetR.s)))) | ((with_reducible apply PG.setl_i); (case hset => (repeat' (first | exact PG.SetLR.h0 | exact PG.SetLR.h1 | exact PG.SetLR.hl | apply PG.SetLR.s)))) | ((with_reducible apply PG.put_i); (case hset => (repeat' (first | exact PG.PutR.h | apply PG.PutR.s)))) | ((with_reducible apply PG.pool_i); (case hget => rfl)) | ((with_reducible apply PG.bool_i)) | ((with_reducible apply PG.int_i)) | ((with_reducible apply PG.seqL_i)) | ((with_reducible apply PG.seqT_i)) | ((with_reducible apply PG.seqR_i)) | ((with_reducible apply PG.starT_i)) | ((with_reducible apply PG.starL_i)) | ((with_reducible apply PG.len_i); (case h => rfl)) | ((with_reducible apply PG.tup_i)) | ((with_reducible apply PG.yes_i)) | ((with_reducible apply PG.no_i)) | ((with_reducible apply PG.nyes_i)) | ((with_reducible apply PG.nno_i)) | ((with_reducible apply PG.wa_add)) | ((with_reducible apply PG.wa_sub)) | ((with_reducible apply PG.wa_lt)) | ((with_reducible apply PG.wa_le)) | ((with_reducible apply PG.wa_gt)) | ((with_reducible apply PG.wa_ge)) | ((with_reducible apply PG.wa_eqI)) | ((with_reducible apply PG.wa_neI)) | ((with_reducible apply PG.wa_neg)) | ((with_reducible apply PG.wa_lenL)) | ((with_reducible apply PG.wa_lenT)) | ((with_reducible apply PG.wa_int)) | ((with_reducible apply PG.wa_max)) | ((with_reducible apply PG.wa_min)) | ((with_reducible apply PG.wb_bool)) | ((with_reducible apply PG.wb_int)) | ((with_reducible apply PG.endP_ret)) | ((with_reducible apply PG.endP_retL)) | ((with_reducible apply PG.endN_ret)) | ((with_reducible apply PG.endL_ret)) | ((with_reducible apply PG.endL_retL)) | ((with_reducible apply PG.wa_binO)) | ((with_reducible apply PG.ch_le)) | ((with_reducible apply PG.ch_lt)) | ((with_reducible apply PG.ch_eq)) | ((with_reducible apply PG.wa_ix0); (case hget => rfl)) | ((with_reducible apply PG.wa_ix1); (case hget => rfl)) | ((with_reducible apply PG.wa_ix2); (case hget => rfl)) | ((with_reducible apply PG.wa_ix3); (case hget => rfl)) | ((with_reducible apply PG.wa_ix4); (case hget => rfl)) | ((with_reducible apply PG.wa_ix5); (case hget => rfl)) | ((with_reducible apply PG.wa_ix6); (case hget => rfl)) | ((with_reducible apply PG.wa_ix7); (case hget => rfl)) | ((with_reducible apply PG.wa_ix8); (case hget => rfl)) | ((with_reducible apply PG.wa_il0); (case hget => rfl)) | ((with_reducible apply PG.wa_il1); (case hget => rfl)) | ((with_reducible apply PG.wa_il2); (case hget => rfl)) | ((with_reducible apply PG.wa_ev1)) | ((with_reducible apply PG.wa_ev)) | ((with_reducible apply PG.wl_ev)) | ((with_reducible apply PG.wb_ev)) | ((with_reducible apply PG.wa_mod); (case h1 => omega)) | ((with_reducible apply PG.wa_div); (case h1 => omega); (case h2 => omega)) | ((with_reducible apply PG.wa_mulR); (case h1 => omega); (case h2 => omega)) | ((with_reducible apply PG.wa_mulL); (case h1 => omega); (case h2 => omega)) | ((with_reducible apply PG.wa_shr); (case h1 => omega)))
local macro_rules | `(tactic| array_get_dec) => `(tactic| first | ((with_reducible apply Pr_C.wp_draw); (case hp => assumption); (case h0 => omega); (case h1 => omega)) | ((with_reducible apply Pr_C.ls_i); (case hp => assumption)))

theorem wp_number {p : Pool} {top : Int} {Q : PyData → List PyData → Prop} (hp : p.ok) (h0 : 0 ≤ top) (h1 : top < 1000000000) (q : ∀ (v : Int) (p' : Pool), p'.ok → 0 ≤ v → v ≤ top → Q (.int v) p'.d) : WP (F_law_number p.d [.int top]) Q := by
  obtain ⟨v, p', e, k, a, b⟩ := number_ok p hp top h0 h1
  exact ⟨_, _, e, q v p' k a b⟩
theorem wp_row {p : Pool} {z : Int} {Q : PyData → List PyData → Prop} (hp : p.ok) (h0 : 0 ≤ z) (h1 : z ≤ 1000) (q : ∀ (e : List Int) (p' : Pool), p'.ok → Row e → e.length = z.toNat → Q (.tuple (IL e)) p'.d) : WP (F_law_row p.d [.int z]) Q := by
  obtain ⟨e, p', h, k, a, b⟩ := law_row_ok p hp z h0 h1
  exact ⟨_, _, h, q e p' k a b⟩
local macro_rules | `(tactic| array_get_dec) => `(tactic| first | ((with_reducible apply Pr_P.wp_number); (case hp => assumption); (case h0 => omega); (case h1 => omega)) | ((with_reducible apply Pr_P.wp_row); (case hp => assumption); (case h0 => omega); (case h1 => omega)))

theorem kind_ls : LS F_law_kind [] fun d => ∃ k, d = .int k ∧ 0 ≤ k ∧ k ≤ 255 := by
  intro p hp
  unfold F_law_kind; refine PG.wp_def rfl ?_; simp only [PG.rhoL_eq, List.map_cons, List.map_nil, List.replicate_succ, List.replicate_zero, List.cons_append, List.nil_append]; unfold B_law_kind
  (repeat array_get_dec); intro v1 p1 k1 a1 b1; (repeat array_get_dec); intro v2 p2 k2 a2 b2; (repeat array_get_dec)
  refine wa_pickI [6, 6, 17, 1, v1] (fun k => 0 ≤ k ∧ k ≤ 255) a2 b2 (by simp; omega) ?_
  intro k hk; (repeat array_get_dec)
  exact hk
theorem wp_kind {p : Pool} {Q : PyData → List PyData → Prop} (hp : p.ok) (q : ∀ (k : Int) (p' : Pool), p'.ok → 0 ≤ k → k ≤ 255 → Q (.int k) p'.d) : WP (F_law_kind p.d []) Q :=
  wp_ls kind_ls hp fun z p' hp' ⟨k, e, a, b⟩ => by subst e; exact q k p' hp' a b
theorem inner_ls (k : Int) : LS F_law_inner [.int k] fun d => ∃ i : Inn, d = .tuple (IL i.l) ∧ i.ok k := by
  intro p hp
  unfold F_law_inner; refine PG.wp_def rfl ?_; simp only [PG.rhoL_eq, List.map_cons, List.map_nil, List.replicate_succ, List.replicate_zero, List.cons_append, List.nil_append]; unfold B_law_inner
  (repeat array_get_dec)
  (first | (with_reducible apply PG.dec_i) | (with_reducible apply PG.decn_i) | (with_reducible apply PG.bit_i)) <;> intro h
  · (repeat array_get_dec); intro v1 p1 k1 a1 b1; (repeat array_get_dec); intro v2 p2 k2 a2 b2; (repeat array_get_dec); intro v3 p3 k3 a3 b3; (repeat array_get_dec)
    exact ⟨.st v1 v2 v3, rfl, h, ⟨a1, b1⟩, ⟨a2, b2⟩, a3, by omega⟩
  (repeat array_get_dec)
  (first | (with_reducible apply PG.dec_i) | (with_reducible apply PG.decn_i) | (with_reducible apply PG.bit_i)) <;> intro h2
  · (repeat array_get_dec); intro v1 p1 k1 a1 b1; (repeat array_get_dec); intro v2 p2 k2 a2 b2; (repeat array_get_dec)
    exact ⟨.ask v1 v2, rfl, h2, ⟨a1, b1⟩, a2, b2⟩
  (repeat array_get_dec)
  (first | (with_reducible apply PG.dec_i) | (with_reducible apply PG.decn_i) | (with_reducible apply PG.bit_i)) <;> intro h3
  · (repeat array_get_dec); intro v1 p1 k1 a1 b1; (repeat array_get_dec); intro v2 p2 k2 a2 b2; (repeat array_get_dec)
    exact ⟨.note v1 v2, rfl, h3, ⟨a1, by omega⟩, a2, by omega⟩
  · (repeat array_get_dec)
    exact ⟨.oth, rfl, h, h2, h3⟩
theorem wp_inner {p : Pool} {k : Int} {Q : PyData → List PyData → Prop} (hp : p.ok) (q : ∀ (i : Inn) (p' : Pool), p'.ok → i.ok k → Q (.tuple (IL i.l)) p'.d) : WP (F_law_inner p.d [.int k]) Q :=
  wp_ls (inner_ls k) hp fun z p' hp' ⟨i, e, a⟩ => by subst e; exact q i p' hp' a
local macro_rules | `(tactic| array_get_dec) => `(tactic| first | ((with_reducible apply Pr_P.wp_kind); (case hp => assumption)) | ((with_reducible apply Pr_P.wp_inner); (case hp => assumption)))

theorem packet_ls (most : Int) (h0 : 0 ≤ most) (h1 : most ≤ 900) : LS F_law_packet [.int most] fun d => ∃ k : Pk, d = k.v ∧ k.Ok ∧ (k.p.length : Int) ≤ most := by
  intro p hp
  unfold F_law_packet; refine PG.wp_def rfl ?_; simp only [PG.rhoL_eq, List.map_cons, List.map_nil, List.replicate_succ, List.replicate_zero, List.cons_append, List.nil_append]; unfold B_law_packet
  (repeat array_get_dec); intro k p1 k1 ka kb; (repeat array_get_dec); intro v2 p2 k2 a2 b2; (repeat array_get_dec); intro v3 p3 k3 a3 b3; (repeat array_get_dec)
  intro v4 p4 k4 a4 b4; (repeat array_get_dec); intro e p5 k5 ro lo; (repeat array_get_dec); intro v6 p6 k6 a6 b6; (repeat array_get_dec); intro e2 p7 k7 ro2 lo2; (repeat array_get_dec)
  intro v8 p8 k8 a8 b8; (repeat array_get_dec); intro v9 p9 k9 a9 b9; (repeat array_get_dec)
  refine wa_pickI [1 + v8, 1, 2, 64] (fun k => 1 ≤ k ∧ k ≤ 255) a9 b9 (by simp; omega) ?_
  intro t ht; (repeat array_get_dec); intro i p10 k10 hi; (repeat array_get_dec)
  refine wa_addT (by simp) ?_
  (repeat array_get_dec)
  exact ⟨⟨v2, v3, k, t, e, i, e2⟩, rfl, ⟨⟨a2, b2⟩, ⟨a3, b3⟩, ⟨ka, kb⟩, ht, ⟨ro.1, by dsimp only; omega, by dsimp only; omega⟩, hi, ro2.1, by dsimp only; omega⟩, by dsimp only; omega⟩
theorem wipe1 (x : Option Cell) : wipeR [x, none] [1] = [x, none] := rfl
theorem plain1 (x : Option Cell) : plainAt [x, none] [1] = true := rfl
theorem is_row_ok (e : List Int) (h : ∀ x ∈ e, 0 ≤ x ∧ x ≤ 255) (hl : e.length ≤ 16777216) : F_law_is_row [.tuple (IL e)] = some (.bool true) := by
  refine of_wa ?_
  unfold F_law_is_row; refine PG.wa_def rfl ?_; simp only [PG.rho0_eq, List.map_cons, List.map_nil, List.replicate_succ, List.replicate_zero, List.cons_append, List.nil_append]; unfold B_law_is_row
  (repeat array_get_dec)
  refine wn_map PyData.int (fun _ => false) PyData.int e ?_
  (repeat array_get_dec)
  refine ⟨rfl, hl, rfl, fun x hx => ?_, ?_⟩
  · have := h x hx
    have e1 := number_is x 255
    rw [decide_eq_true this.1, decide_eq_true this.2] at e1
    simp only [wipe1]
    unfold X_law_is_row_1
    (repeat array_get_dec)
    exact ⟨_, e1, by (repeat array_get_dec); exact ⟨rfl, fun z => (by cases z), fun _ => ⟨rfl, rfl⟩⟩⟩
  · rw [List.filter_eq_nil_iff.mpr (by simp)]
    (repeat array_get_dec)
    rfl
end Pr_P
end
section
set_option linter.all false
set_option maxRecDepth 100000
set_option Elab.async false
namespace Pr_P
open PySem PG Pr_C Pr_D Pr_S
local macro_rules | `(tactic| array_get_dec) => `(tactic| first | ((with_reducible apply PG.ws_set)) | ((with_reducible apply PG.ws_if)) | ((with_reducible apply PG.ws_ret)) | ((with_reducible apply PG.ws_setL)) | ((with_reducible apply PG.ws_expr)) | ((with_reducible apply PG.ws_nilc)) | ((with_reducible apply PG.ws_asc)) | ((with_reducible apply PG.ws_nil)) | ((with_reducible apply PG.ws_for)) | ((with_reducible apply PG.ws_asg)) | ((with_reducible apply PG.ws_par)) | ((with_reducible apply PG.ws_retL)) | ((with_reducible apply PG.ws_brk)) | ((with_reducible apply PG.ws_cont)) | ((with_reducible apply PG.ws_forn)) | ((with_reducible apply PG.ws_sto)) | ((with_reducible apply PG.ws_aug); (case hget => rfl)) | ((with_reducible apply PG.ws_app); (case hget => rfl)) | ((with_reducible apply PG.ws_retO); (case hget => rfl)) | ((with_reducible apply PG.we_name); (case hget => rfl)) | ((with_reducible apply PG.we_c)) | ((with_reducible apply PG.we_bin)) | ((with_reducible apply PG.we_un)) | ((with_reducible apply PG.we_call)) | ((with_reducible apply PG.we_callL); (case hget => rfl)) | ((with_reducible apply PG.we_tup)) | ((with_reducible apply PG.we_lst)) | ((with_reducible apply PG.we_if)) | ((with_reducible apply PG.we_ixL); (case hget => rfl)) | ((with_reducible apply PG.we_unL); (case hget => rfl)) | ((with_reducible apply PG.we_and)) | ((with_reducible apply PG.we_or)) | ((with_reducible apply PG.we_not)) | ((with_reducible apply PG.we_chain)) | ((with_reducible apply PG.we_slT)) | ((with_reducible apply PG.wn_cons)) | ((with_reducible apply PG.wn_nil)) | ((with_reducible apply PG.wn_star)) | ((with_reducible apply PG.wn_disp)) | ((with_reducible apply PG.wn_call)) | ((with_reducible apply PG.wn_sl)) | ((with_reducible apply PG.wn_its)) | ((with_reducible apply PG.wn_r1)) | ((with_reducible apply PG.wn_r2)) | ((with_reducible apply PG.wn_r3)) | ((with_reducible apply PG.wt_tru)) | ((with_reducible apply PG.wt_bl)) | ((with_reducible apply PG.wt_and)) | ((with_reducible apply PG.wt_or)) | ((with_reducible apply PG.wt_not)) | ((with_reducible apply PG.wt_yes)) | ((with_reducible apply PG.wt_truL); (case hget => rfl)) | ((with_reducible apply PG.wo_none)) | ((with_reducible apply PG.wo_some)) | ((with_reducible apply PG.wg_p0)) | ((with_reducible apply PG.wg_tup)) | ((with_reducible apply PG.wg_ps); (case hset => (repeat' (first | exact PG.SetR.h0 | exact PG.SetR.h1 | exact PG.SetR.hl | exact PG.SetR.hc (by assumption) | apply PG.SetR.s)))) | ((with_reducible apply PG.wg_set); (case hset => (repeat' (first | exact PG.SetR.h0 | exact PG.SetR.h1 | exact PG.SetR.hl | exact PG.SetR.hc (by assumption) | apply PG.SetR.s)))) | ((with_reducible apply PG.we_frz); (case hget => rfl); (case hset => (repeat' (first | exact PG.SetR.h0 | exact PG.SetR.h1 | exact PG.SetR.hl | exact PG.SetR.hc (by assumption) | apply PG.SetR.s)))) | ((with_reducible apply PG.setr_i); (case hset => (repeat' (first | exact PG.SetR.h0 | exact PG.SetR.h1 | exact PG.SetR.hl | exact PG.SetR.hc (by assumption) | apply PG.SetR.s)))) | ((with_reducible apply PG.setl_i); (case hset => (repeat' (first | exact PG.SetLR.h0 | exact PG.SetLR.h1 | exact PG.SetLR.hl | apply PG.SetLR.s)))) | ((with_reducible apply PG.put_i); (case hset => (repeat' (first | exact PG.PutR.h | apply PG.PutR.s)))) | ((with_reducible apply PG.pool_i); (case hget => rfl)) | ((with_reducible apply PG.bool_i)) | ((with_reducible apply PG.int_i)) | ((with_reducible apply PG.seqL_i)) | ((with_reducible apply PG.seqT_i)) | ((with_reducible apply PG.seqR_i)) | ((with_reducible apply PG.starT_i)) | ((with_reducible apply PG.starL_i)) | ((with_reducible apply PG.len_i); (case h => rfl)) | ((with_reducible apply PG.tup_i)) | ((with_reducible apply PG.yes_i)) | ((with_reducible apply PG.no_i)) | ((with_reducible apply PG.nyes_i)) | ((with_reducible apply PG.nno_i)) | ((with_reducible apply PG.wa_add)) | ((with_reducible apply PG.wa_sub)) | ((with_reducible apply PG.wa_lt)) | ((with_reducible apply PG.wa_le)) | ((with_reducible apply PG.wa_gt)) | ((with_reducible apply PG.wa_ge)) | ((with_reducible apply PG.wa_eqI)) | ((with_reducible apply PG.wa_neI)) | ((with_reducible apply PG.wa_neg)) | ((with_reducible apply PG.wa_lenL)) | ((with_reducible apply PG.wa_lenT)) | ((with_reducible apply PG.wa_int)) | ((with_reducible apply PG.wa_max)) | ((with_reducible apply PG.wa_min)) | ((with_reducible apply PG.wb_bool)) | ((with_reducible apply PG.wb_int)) | ((with_reducible apply PG.endP_ret)) | ((with_reducible apply PG.endP_retL)) | ((with_reducible apply PG.endN_ret)) | ((with_reducible apply PG.endL_ret)) | ((with_reducible apply PG.endL_retL)) | ((with_reducible apply PG.wa_binO)) | ((with_reducible apply PG.ch_le)) | ((with_reducible apply PG.ch_lt)) | ((with_reducible apply PG.ch_eq)) | ((with_reducible apply PG.wa_ix0); (case hget => rfl)) | ((with_reducible apply PG.wa_ix1); (case hget => rfl)) | ((with_reducible apply PG.wa_ix2); (case hget => rfl)) | ((with_reducible apply PG.wa_ix3); (case hget => rfl)) | ((with_reducible apply PG.wa_ix4); (case hget => rfl)) | ((with_reducible apply PG.wa_ix5); (case hget => rfl)) | ((with_reducible apply PG.wa_ix6); (case hget => rfl)) | ((with_reducible apply PG.wa_ix7); (case hget => rfl)) | ((with_reducible apply PG.wa_ix8); (case hget => rfl)) | ((with_reducible apply PG.wa_il0); (case hget => rfl)) | ((with_reducible apply PG.wa_il1); (case hget => rfl)) | ((with_reducible apply PG.wa_il2); (case hget => rfl)) | ((with_reducible apply PG.wa_ev1)) | ((with_reducible apply PG.wa_ev)) | ((with_reducible apply PG.wl_ev)) | ((with_reducible apply PG.wb_ev)) | ((with_reducible apply PG.wa_mod); (case h1 => omega)) | ((with_reducible apply PG.wa_div); (case h1 => omega); (case h2 => omega)) | ((with_reducible apply PG.wa_mulR); (case h1 => omega); (case h2 => omega)) | ((with_reducible apply PG.wa_mulL); (case h1 => omega); (case h2 => omega)) | ((with_reducible apply PG.wa_shr); (case h1 => omega)))
local macro_rules | `(tactic| array_get_dec) => `(tactic| first | ((with_reducible apply Pr_C.wp_draw); (case hp => assumption); (case h0 => omega); (case h1 => omega)) | ((with_reducible apply Pr_C.ls_i); (case hp => assumption)))

local macro_rules | `(tactic| array_get_dec) => `(tactic| first | ((with_reducible apply Pr_P.wp_number); (case hp => assumption); (case h0 => omega); (case h1 => omega)) | ((with_reducible apply Pr_P.wp_row); (case hp => assumption); (case h0 => omega); (case h1 => omega)) | ((with_reducible apply Pr_P.wp_kind); (case hp => assumption)) | ((with_reducible apply Pr_P.wp_inner); (case hp => assumption)))

theorem rng2 : rng 0 2 = [.int 0, .int 1] := rfl
theorem rng3 : rng 0 3 = [.int 0, .int 1, .int 2] := rfl
theorem rng0 : rng 0 0 = [] := rfl
theorem number_in {i top : Int} (h0 : 0 ≤ i) (h1 : i ≤ top) : F_law_is_number [.int i, .int top] = some (.bool true) := by
  rw [number_is, decide_eq_true h0, decide_eq_true h1]; rfl
theorem ipx1 (P : PyData) (xs ys : List PyData) (k x y : Int) (h5 : dIx P (.int 5) = some (.tuple xs)) (hx : dIx (.tuple xs) (.int k) = some (.int x)) (hy : dIx (.tuple ys) (.int k) = some (.int y)) (h0 : 0 ≤ x) (h1 : x ≤ y) :
    X_law_is_packet_1 [some (.v P), some (.v (.tuple ys)), some (.v (.int k))] = some (false, [some (.v P), some (.v (.tuple ys)), some (.v (.int k))]) := by
  have e := number_in h0 h1
  simp [X_law_is_packet_1, -dIx, h5, hx, hy, e]
def Inn.tops : Inn → List Int
  | .st .. => [65535, 65535, 7] | .ask .. => [65535, 65535] | .note .. => [255, 255] | .oth => []
theorem ip_comp (P : PyData) (i : Inn) (k : Int) (hi : i.ok k) (h5 : dIx P (.int 5) = some (.tuple (IL i.l))) (ys : List Int) (hy : ys = i.tops) :
    nComp (itR1 (nCons (eCall (o1of dLen) (nCons (eName 1) nNil)) nNil)) (gSet 2) X_law_is_packet_1 X_law_is_packet_2 [2] [some (.v P), some (.v (.tuple (IL ys))), none] = some ([], [some (.v P), some (.v (.tuple (IL ys))), none]) := by
  subst hy
  cases i with
  | st a b f =>
    obtain ⟨_, h1, h2, h3⟩ := hi
    have e0 := ipx1 P (IL [a, b, f]) (IL [65535, 65535, 7]) 0 a 65535 h5 rfl rfl h1.1 h1.2
    have e1 := ipx1 P (IL [a, b, f]) (IL [65535, 65535, 7]) 1 b 65535 h5 rfl rfl h2.1 h2.2
    have e2 := ipx1 P (IL [a, b, f]) (IL [65535, 65535, 7]) 2 f 7 h5 rfl rfl h3.1 h3.2
    simp only [IL, List.map_cons, List.map_nil] at e0 e1 e2
    simp [Inn.tops, nComp, itR1, in62, rng3, compL, plainAt, wipeR, restR, e0, e1, e2]
  | ask a b =>
    obtain ⟨_, h1, h2⟩ := hi
    have e0 := ipx1 P (IL [a, b]) (IL [65535, 65535]) 0 a 65535 h5 rfl rfl h1.1 h1.2
    have e1 := ipx1 P (IL [a, b]) (IL [65535, 65535]) 1 b 65535 h5 rfl rfl h2.1 h2.2
    simp only [IL, List.map_cons, List.map_nil] at e0 e1
    simp [Inn.tops, nComp, itR1, in62, rng2, compL, plainAt, wipeR, restR, e0, e1]
  | note a b =>
    obtain ⟨_, h1, h2⟩ := hi
    have e0 := ipx1 P (IL [a, b]) (IL [255, 255]) 0 a 255 h5 rfl rfl h1.1 h1.2
    have e1 := ipx1 P (IL [a, b]) (IL [255, 255]) 1 b 255 h5 rfl rfl h2.1 h2.2
    simp only [IL, List.map_cons, List.map_nil] at e0 e1
    simp [Inn.tops, nComp, itR1, in62, rng2, compL, plainAt, wipeR, restR, e0, e1]
  | oth => simp [Inn.tops, nComp, itR1, in62, rng0, compL, plainAt, wipeR, restR]
theorem is_packet_ok (p : Pk) (h : p.Ok) (hl : p.len ≤ 1500) : F_law_is_packet [p.v] = some (.bool true) := by
  obtain ⟨s, d, k, t, o, i, pp⟩ := p
  have r1 := is_row_ok o h.o.1 (by have := h.o.2.1; dsimp only at this; omega)
  have r2 := is_row_ok pp h.p.1 (by have := h.p.2; dsimp only at this; omega)
  have n1 := number_in h.s.1 h.s.2
  have n2 := number_in h.d.1 h.d.2
  have n3 := number_in h.k.1 h.k.2
  have n4 := number_in (show 0 ≤ t by have := h.t.1; dsimp only at this; omega) h.t.2
  have n5 : ¬ t = 0 := by have := h.t.1; dsimp only at this; omega
  have ll := law_length_ok (.int s) (.int d) (.int t) (.tuple (IL i.l)) k (IL o) (IL pp)
  have c := ip_comp (Pk.v ⟨s, d, k, t, o, i, pp⟩) i k h.i rfl _ rfl
  have hl2 : 12 + (o.length : Int) + isz k + pp.length ≤ 1500 := hl
  have o1 := h.o.2
  dsimp only at n1 n2 n3 o1
  have o2 : o.length = 0 ∨ o.length = 2 ∨ o.length = 4 ∨ o.length = 6 ∨ o.length = 8 := by omega
  have hi := h.i
  simp only [IL] at r1 r2 ll
  have o3 : dNotIn2 (.int o.length) (.tuple [.int 0, .int 2, .int 4, .int 6, .int 8]) = some (.bool false) := by
    rcases o2 with e | e | e | e | e <;> rw [e] <;> rfl
  cases i with
  | st a b f =>
    obtain ⟨hk, _⟩ := hi
    dsimp only at hk
    subst hk
    simp only [Pk.v, IL, Inn.l, Inn.tops, List.map_cons, List.map_nil, List.length_map] at c ll ⊢
    simp [F_law_is_packet, B_law_is_packet, defP, atD, ixOf, n1, n2, n3, n4, n5, r1, r2, o3, c, ll, dEq, dNe, hl2]
  | ask a b =>
    obtain ⟨hk, _⟩ := hi
    dsimp only at hk
    subst hk
    simp only [Pk.v, IL, Inn.l, Inn.tops, List.map_cons, List.map_nil, List.length_map] at c ll ⊢
    simp [F_law_is_packet, B_law_is_packet, defP, atD, ixOf, n1, n2, n3, n4, n5, r1, r2, o3, c, ll, dEq, dNe, hl2]
  | note a b =>
    obtain ⟨hk, _⟩ := hi
    dsimp only at hk
    subst hk
    simp only [Pk.v, IL, Inn.l, Inn.tops, List.map_cons, List.map_nil, List.length_map] at c ll ⊢
    simp [F_law_is_packet, B_law_is_packet, defP, atD, ixOf, n1, n2, n3, n4, n5, r1, r2, o3, c, ll, dEq, dNe, hl2]
  | oth =>
    obtain ⟨k1, k2, k3⟩ := hi
    dsimp only at k1 k2 k3
    simp only [Pk.v, IL, Inn.l, Inn.tops, List.map_cons, List.map_nil, List.length_map] at c ll ⊢
    simp [F_law_is_packet, B_law_is_packet, defP, atD, ixOf, n1, n2, n3, n4, n5, r1, r2, o3, c, ll, dEq, dNe, hl2, k1, k2, k3]
end Pr_P
end
section
set_option Elab.async false
set_option linter.all false
set_option maxRecDepth 100000
namespace PG
open PySem
/-! ### all, any of a generator expression; a table's get -/
section
variable {ρ : Rho}
/-- every item can be asked -/
theorem we_gen {stop : Bool} {it : NF} {g : GF} {t : TF} {e : EF} {vs : List Nat} {Q : PyData → Rho → Prop} {α : Type} (en : α → PyData) (k m : α → Bool) (l : List α)
    (w : WN it ρ fun ds ρ1 => ds = l.map en ∧ plainAt ρ1 vs = true ∧
      (∀ x ∈ l, WG g (en x) (wipeR ρ1 vs) fun ρ3 => WT t ρ3 fun b ρ4 => b = k x ∧ (k x = true → WE e ρ4 fun y ρ5 => y = .bool (m x) ∧ plainAt ρ5 vs = true ∧ wipeR ρ5 vs = wipeR ρ1 vs) ∧ (k x = false → plainAt ρ4 vs = true ∧ wipeR ρ4 vs = wipeR ρ1 vs)) ∧
      Q (.bool (if stop then (l.filter k).any m else (l.filter k).all m)) (restR ρ1 (wipeR ρ1 vs) vs)) : WE (eGen stop it g t e vs) ρ Q := by
  obtain ⟨ds, r1, e1, rfl, hp, hx, hd⟩ := w
  refine ⟨_, _, ?_, hd⟩
  have key : ∀ l : List α, (∀ x ∈ l, WG g (en x) (wipeR r1 vs) fun ρ3 => WT t ρ3 fun b ρ4 => b = k x ∧ (k x = true → WE e ρ4 fun y ρ5 => y = .bool (m x) ∧ plainAt ρ5 vs = true ∧ wipeR ρ5 vs = wipeR r1 vs) ∧ (k x = false → plainAt ρ4 vs = true ∧ wipeR ρ4 vs = wipeR r1 vs)) →
      genL stop g t e vs (l.map en) (wipeR r1 vs) = some (if stop then (l.filter k).any m else (l.filter k).all m, wipeR r1 vs) := by
    intro l
    induction l with
    | nil => intro _; cases stop <;> rfl
    | cons x l ih =>
      intro hx
      obtain ⟨r3, f3, b, r4, f4, hb, q1, q2⟩ := hx x (by simp)
      have ih' := ih fun y hy => hx y (by simp [hy])
      subst hb
      cases hk : k x with
      | false =>
        obtain ⟨p5, w5⟩ := q2 hk
        rw [List.map_cons, genL]
        simp only [f3, f4, hk, p5, if_true, w5, ih', List.filter_cons, Bool.false_eq_true, if_false]
      | true =>
        obtain ⟨y, r5, f5, rfl, p5, w5⟩ := q1 hk
        rw [List.map_cons, genL]
        simp only [f3, f4, hk, f5, p5, if_true, w5, List.filter_cons]
        by_cases hm : m x = stop
        · rw [if_pos hm]
          cases stop with
          | true => simp [hm]
          | false => simp [hm]
        · rw [if_neg hm, ih']
          cases stop with
          | true =>
            have hm' : m x = false := by cases h : m x <;> simp_all
            simp [hm']
          | false =>
            have hm' : m x = true := by cases h : m x <;> simp_all
            simp [hm']
  unfold eGen
  simp only [e1, hp, if_true, key l hx]
/-- .. and there is no test -/
theorem we_gen1 {stop : Bool} {it : NF} {g : GF} {e : EF} {vs : List Nat} {Q : PyData → Rho → Prop} {α : Type} (en : α → PyData) (m : α → Bool) (l : List α)
    (w : WN it ρ fun ds ρ1 => ds = l.map en ∧ plainAt ρ1 vs = true ∧ (∀ x ∈ l, WG g (en x) (wipeR ρ1 vs) fun ρ4 => WE e ρ4 fun y ρ5 => y = .bool (m x) ∧ plainAt ρ5 vs = true ∧ wipeR ρ5 vs = wipeR ρ1 vs) ∧
      Q (.bool (if stop then l.any m else l.all m)) (restR ρ1 (wipeR ρ1 vs) vs)) : WE (eGen stop it g tYesF e vs) ρ Q := by
  obtain ⟨ds, r1, e1, rfl, hp, hx, hd⟩ := w
  refine we_gen en (fun _ => true) m l ⟨_, r1, e1, rfl, hp, fun x hx' => ?_, by rw [List.filter_eq_self.mpr (by simp)]; exact hd⟩
  obtain ⟨r3, f3, w3⟩ := hx x hx'
  exact ⟨r3, f3, true, r3, rfl, rfl, fun _ => w3, fun z => nomatch z⟩
theorem wa_getDn {tab : List (Int × PyData)} {i : Int} {y z : PyData} {Q : PyData → Prop} (h : getD' tab i = some z) (q : Q z) : WA (dGetD tab (.int i) y) Q := ⟨z, by simp [h], q⟩
theorem wa_getDno {tab : List (Int × PyData)} {i : Int} {y : PyData} {Q : PyData → Prop} (h : getD' tab i = none) (q : Q y) : WA (dGetD tab (.int i) y) Q := ⟨y, by simp [h], q⟩
/-- two ways that meet -/
theorem ws_meet {t : TF} {a b c : SF} {S : Out → Rho → Prop} (I : Rho → Prop) (key : ∀ r, I r → WS c r S) (w : WT t ρ fun x ρ1 => (x = true → WS a ρ1 fun o r => o = .next ∧ I r) ∧ (x = false → WS b ρ1 fun o r => o = .next ∧ I r)) : WS (sSeq (sIf t a b) c) ρ S := by
  obtain ⟨x, ρ1, e, q1, q2⟩ := w
  refine ws_if ⟨x, ρ1, e, fun h => ?_, fun h => ?_⟩
  · obtain ⟨o, r, e2, rfl, hi⟩ := q1 h
    obtain ⟨o3, r3, e3, s⟩ := key r hi
    exact ⟨o3, r3, by simp [e2, e3], s⟩
  · obtain ⟨o, r, e2, rfl, hi⟩ := q2 h
    obtain ⟨o3, r3, e3, s⟩ := key r hi
    exact ⟨o3, r3, by simp [e2, e3], s⟩
end
end PG
end
section
set_option Elab.async false
set_option linter.all false
set_option maxRecDepth 100000
namespace PG
open PySem
/-! ### slices of tuples and texts; texts joined -/
section
variable {ρ : Rho} {f : EF}
def SlX (x : PyData) (lo hi : Option EF) (ρ1 : Rho) (Q : PyData → Rho → Prop) : Prop := match x with
  | .tuple xs => WO lo ρ1 fun l ρ2 => WO hi ρ2 fun u ρ3 => Q (.tuple (cutD xs l u)) ρ3
  | .str z => z.length ≤ 16777216 ∧ WO lo ρ1 fun l ρ2 => WO hi ρ2 fun u ρ3 => Q (.str (L2.cutS z l u)) ρ3
  | _ => False
theorem we_slX {lo hi : Option EF} {Q : PyData → Rho → Prop} (w : WE f ρ fun x ρ1 => SlX x lo hi ρ1 Q) : WE (eSlX f lo hi) ρ Q := by
  obtain ⟨x, r, e, q⟩ := w
  unfold SlX at q
  split at q
  · obtain ⟨l, r2, e2, u, r3, e3, q⟩ := q
    exact ⟨_, r3, by simp [-oE, e, e2, e3], q⟩
  · obtain ⟨hl, l, r2, e2, u, r3, e3, q⟩ := q
    exact ⟨_, r3, by simp [-oE, e, e2, e3, hl], q⟩
  · exact q.elim
theorem slx_t {xs : List PyData} {lo hi : Option EF} {Q : PyData → Rho → Prop} (q : WO lo ρ fun l ρ2 => WO hi ρ2 fun u ρ3 => Q (.tuple (cutD xs l u)) ρ3) : SlX (.tuple xs) lo hi ρ Q := q
theorem slx_s {z : Str} {lo hi : Option EF} {Q : PyData → Rho → Prop} (hl : z.length ≤ 16777216) (q : WO lo ρ fun l ρ2 => WO hi ρ2 fun u ρ3 => Q (.str (L2.cutS z l u)) ρ3) : SlX (.str z) lo hi ρ Q := ⟨hl, q⟩
theorem wa_addS {x y : Str} {Q : PyData → Prop} (hl : x.length + y.length ≤ 16777216) (q : Q (.str (x ++ y))) : WA (dAdd (.str x) (.str y)) Q := ⟨_, if_pos hl, q⟩
end
end PG
end
section
set_option linter.all false
set_option maxRecDepth 100000
set_option Elab.async false
namespace Pr_N
open PySem PG Pr_C Pr_D
/-! ### any value, told: a whole number between two, a tuple of so many -/
def Nd (d : PyData) : Prop := ∃ B, okd B d = true
def isI : PyData → Bool
  | .int _ => true
  | _ => false
def nb (lo hi : Int) : PyData → Bool
  | .int i => decide (lo ≤ i) && decide (i ≤ hi)
  | _ => false
def isT : PyData → Bool
  | .tuple _ => true
  | _ => false
theorem integer_is {a : PyData} (h : Nd a) : F_law_is_integer [a] = some (.bool (isI a)) := by
  cases a with
  | dict _ => obtain ⟨B, h⟩ := h; cases h
  | _ => rfl
theorem nd_tup {xs : List PyData} (h : Nd (.tuple xs)) : ∀ x ∈ xs, Nd x := fun x hx => by
  obtain ⟨B, h⟩ := h
  simp only [okd] at h
  exact ⟨B, okA_mem.mp h x hx⟩
theorem isi_is {d : PyData} (h : Nd d) : dIsi "tuple" d = some (.bool (isT d)) := by
  cases d with
  | dict _ => obtain ⟨B, h⟩ := h; cases h
  | _ => simp [isTy, isN, tyName, isT]
theorem tyis_is {d : PyData} (h : Nd d) : dTyIs "tuple" d = some (.bool (isT d)) := by
  cases d with
  | dict _ => obtain ⟨B, h⟩ := h; cases h
  | _ => simp [tyName, isT]
theorem isT_tup {d : PyData} (h : isT d = true) : ∃ xs, d = .tuple xs := by
  cases d with
  | tuple xs => exact ⟨xs, rfl⟩
  | _ => cases h
theorem number_is {a : PyData} {lo hi : Int} (h : Nd a) : F_is_number [a, .int lo, .int hi] = some (.bool (nb lo hi a)) := by
  cases a with
  | dict _ => obtain ⟨B, h⟩ := h; cases h
  | int i => by_cases h : lo ≤ i <;> simp [F_is_number, B_is_number, defP, tyName, dLe, h, nb]
  | _ => simp [F_is_number, B_is_number, defP, tyName, nb]
theorem lnumber_is {a : PyData} {hi : Int} (h : Nd a) : F_law_is_number [a, .int hi] = some (.bool (nb 0 hi a)) := by
  cases a with
  | dict _ => obtain ⟨B, h⟩ := h; cases h
  | int i => exact Pr_P.number_is i hi
  | _ => simp [F_law_is_number, B_law_is_number, defP, F_law_is_integer, B_law_is_integer, isTy, isN, tyName, nb]
theorem address_is {a : PyData} (h : Nd a) : F_is_address [a] = some (.bool (nb 0 65535 a)) := by
  simp [F_is_address, B_is_address, defP, number_is h]
/-- it is a tuple of k items -/
def tupN (k : Int) : PyData → Bool
  | .tuple xs => decide ((xs.length : Int) = k)
  | _ => false
theorem istuple_is {d : PyData} {k : Int} (h : Nd d) : F_is_tuple [d, .int k] = some (.bool (tupN k d)) := by
  cases d with
  | dict _ => obtain ⟨B, h⟩ := h; cases h
  | tuple xs => simp [F_is_tuple, B_is_tuple, defP, tyName, dEq, tupN]
  | _ => simp [F_is_tuple, B_is_tuple, defP, tyName, tupN]
theorem nb_int {lo hi : Int} {d : PyData} (h : nb lo hi d = true) : ∃ i, d = .int i ∧ lo ≤ i ∧ i ≤ hi := by
  cases d with
  | int i => simp only [nb, Bool.and_eq_true, decide_eq_true_eq] at h; exact ⟨i, rfl, h.1, h.2⟩
  | _ => cases h
theorem gd_nd {B : Int} {D W : Nat} {d : PyData} (g : Gd B D W d) : Nd d := ⟨B, g.ok⟩
theorem list_at {xs : List PyData} {k : Nat} (h : k < xs.length) : dIx (.tuple xs) (.int (k : Nat)) = some xs[k] := atD_nat h
end Pr_N
end
section
set_option Elab.async false
set_option linter.all false
set_option maxRecDepth 100000
namespace Pr_gatewarden_k59_programs_told
open PySem PG Pr_C Pr_D
/-! what each def does, on data -/
def B_first_text : SF :=
  (sSeq (sIf (tAnd' (tBl (eUn (dTyIs "tuple") (eName 0))) (tAnd' (tBl (eBin dNe (eName 0) (eTup nNil))) (tBl (eUn (dTyIs "str") (eBin dIx (eName 0) (eC (.int 0)))))))
  (sSeq (sRet (eBin dIx (eName 0) (eC (.int 0))))
  sNil)
  sNil)
  (sSeq (sRet (eC (.str (Str.ofString ""))))
  sNil))
def F_first_text : List PyData → Option PyData := defP B_first_text 1 0
def B_is_decision : SF :=
  (sSeq (sSet 1 (eCall F_first_text (nCons (eName 0) nNil)))
  (sSeq (sIf (tBl (eBin dEq (eName 1) (eC (.str (Str.ofString "refuse")))))
  (sSeq (sRet (eAnd (eBin dEq (eCall (o1of dLen) (nCons (eName 0) nNil)) (eC (.int 2))) (eCall F_is_number (nCons (eBin dIx (eName 0) (eC (.int 1))) (nCons (eC (.int 0)) (nCons (eC (.int 255)) nNil))))))
  sNil)
  sNil)
  (sSeq (sRet (eAnd (eBin dIn2 (eName 1) (eTup (nCons (eC (.str (Str.ofString "accept"))) (nCons (eC (.str (Str.ofString "drop"))) nNil)))) (eBin dEq (eCall (o1of dLen) (nCons (eName 0) nNil)) (eC (.int 1)))))
  sNil)))
def F_is_decision : List PyData → Option PyData := defP B_is_decision 1 1
def B_is_one_of : SF :=
  (sSeq (sRet (eAnd (eUn (dTyIs "str") (eName 0)) (eBin dIn2 (eName 0) (eName 1))))
  sNil)
def F_is_one_of : List PyData → Option PyData := defP B_is_one_of 2 0
def X_is_instruction_1 : EF :=
  (eCall F_is_number (nCons (eName 4) (nCons (eBin dAdd (eName 1) (eC (.int 1))) (nCons (eBin dSub (eName 2) (eC (.int 1))) nNil))))
def B_is_instruction : SF :=
  (sSeq (sSet 3 (eCall F_first_text (nCons (eName 0) nNil)))
  (sSeq (sIf (tBl (eBin dEq (eName 3) (eC (.str (Str.ofString "answer")))))
  (sSeq (sRet (eAnd (eBin dEq (eCall (o1of dLen) (nCons (eName 0) nNil)) (eC (.int 2))) (eCall F_is_decision (nCons (eBin dIx (eName 0) (eC (.int 1))) nNil))))
  sNil)
  sNil)
  (sSeq (sIf (tOr' (tBl (eBin dEq (eName 3) (eC (.str (Str.ofString ""))))) (tOr' (tBl (eBin dLt (eCall (o1of dLen) (nCons (eName 0) nNil)) (eC (.int 3)))) (tNot' (tTru (eCall F_is_number (nCons (eBin dIx (eName 0) (eC (.int 1))) (nCons (eC (.int 0)) (nCons (eBin dSub (eC (.int 4)) (eC (.int 1))) nNil))))))))
  (sSeq (sRet (eC (.bool false)))
  sNil)
  sNil)
  (sSeq (sIf (tBl (eBin dIn2 (eName 3) (eTup (nCons (eC (.str (Str.ofString "byte"))) (nCons (eC (.str (Str.ofString "word"))) nNil)))))
  (sSeq (sRet (eAnd (eBin dEq (eCall (o1of dLen) (nCons (eName 0) nNil)) (eC (.int 4))) (eAnd (eCall F_is_one_of (nCons (eBin dIx (eName 0) (eC (.int 2))) (nCons (eC (.tuple [.str (Str.ofString "outer"), .str (Str.ofString "inner")])) nNil))) (eCall F_is_number (nCons (eBin dIx (eName 0) (eC (.int 3))) (nCons (eC (.int 0)) (nCons (eC (.int 1500)) nNil)))))))
  sNil)
  sNil)
  (sSeq (sIf (tBl (eBin dEq (eName 3) (eC (.str (Str.ofString "special")))))
  (sSeq (sRet (eAnd (eBin dEq (eCall (o1of dLen) (nCons (eName 0) nNil)) (eC (.int 3))) (eCall F_is_one_of (nCons (eBin dIx (eName 0) (eC (.int 2))) (nCons (eC (.tuple [.str (Str.ofString "interface"), .str (Str.ofString "length"), .str (Str.ofString "side"), .str (Str.ofString "talk")])) nNil)))))
  sNil)
  sNil)
  (sSeq (sIf (tNot' (tTru (eCall F_is_number (nCons (eBin dIx (eName 0) (eC (.int 2))) (nCons (eC (.int 0)) (nCons (eC (.int 65535)) nNil))))))
  (sSeq (sRet (eC (.bool false)))
  sNil)
  sNil)
  (sSeq (sIf (tBl (eBin dEq (eName 3) (eC (.str (Str.ofString "less")))))
  (sSeq (sRet (eAnd (eBin dEq (eCall (o1of dLen) (nCons (eName 0) nNil)) (eC (.int 5))) (eGen false (itS (eSlT (eName 0) (some (eC (.int 3))) none)) (gSet 4) tYesF X_is_instruction_1 [4])))
  sNil)
  sNil)
  (sSeq (sRet (eAnd (eBin dIn2 (eName 3) (eTup (nCons (eC (.str (Str.ofString "put"))) (nCons (eC (.str (Str.ofString "mask"))) nNil)))) (eBin dEq (eCall (o1of dLen) (nCons (eName 0) nNil)) (eC (.int 3)))))
  sNil))))))))
def F_is_instruction : List PyData → Option PyData := defP B_is_instruction 3 2
def X_is_program_1 : EF :=
  (eCall F_is_instruction (nCons (eBin dIx (eName 0) (eName 1)) (nCons (eName 1) (nCons (eCall (o1of dLen) (nCons (eName 0) nNil)) nNil))))
def B_is_program : SF :=
  (sSeq (sIf (tOr' (tBl (eUn (dTyNe "tuple") (eName 0))) (tNot' (tBl (eChain dLe dLe (eC (.int 1)) (eCall (o1of dLen) (nCons (eName 0) nNil)) (eC (.int 200))))))
  (sSeq (sRet (eC (.bool false)))
  sNil)
  sNil)
  (sSeq (sRet (eGen false (itR1 (nCons (eCall (o1of dLen) (nCons (eName 0) nNil)) nNil)) (gSet 1) tYesF X_is_program_1 [1]))
  sNil))
def F_is_program : List PyData → Option PyData := defP B_is_program 1 1
def B_law_bent (R : List PyData → List PyData → Option (PyData × List PyData)) : SF :=
  (sSeq (sIf (tAnd' (tTru (eUn (dIsi "tuple") (eName 1))) (tAnd' (tBl (eBin dGt (eCall (o1of dLen) (nCons (eName 1) nNil)) (eC (.int 0)))) (tBl (eBin dGt (eCallL F_law_draw 0 (nCons (eC (.int 3)) nNil)) (eC (.int 0))))))
  (sSeq (sSet 3 (eCallL F_law_draw 0 (nCons (eCall (o1of dLen) (nCons (eName 1) nNil)) nNil)))
  (sSeq (sRet (eBin dAdd (eBin dAdd (eSlX (eName 1) none (some (eName 3))) (eTup (nCons (eCallL R 0 (nCons (eBin dIx (eName 1) (eName 3)) nNil)) nNil))) (eSlX (eName 1) (some (eBin dAdd (eName 3) (eC (.int 1)))) none)))
  sNil))
  sNil)
  (sSeq (sSet 2 (eCallL F_law_draw 0 (nCons (eC (.int 9)) nNil)))
  (sSeq (sIf (tBl (eBin dEq (eName 2) (eC (.int 0))))
  (sSeq (sRet (eBin dIx (eTup (nCons (eC (.str (Str.ofString "x"))) (nCons (eC (.bool true)) (nCons (eTup nNil) (nCons (eC (.int 0)) (nCons (eUn dNeg (eC (.int 1))) (nCons (eC .none) (nCons (eC (.bool false)) (nCons (eLst (nDisp nNil)) nNil))))))))) (eCallL F_law_draw 0 (nCons (eC (.int 8)) nNil))))
  sNil)
  sNil)
  (sSeq (sIf (tTru (eCall F_law_is_integer (nCons (eName 1) nNil)))
  (sSeq (sRet (eBin dAdd (eName 1) (eBin dIx (eTup (nCons (eC (.int 1)) (nCons (eUn dNeg (eC (.int 1))) (nCons (eC (.int 2)) (nCons (eC (.int 0)) nNil))))) (eCallL F_law_draw 0 (nCons (eC (.int 4)) nNil)))))
  sNil)
  sNil)
  (sSeq (sIf (tTru (eUn (dIsi "str") (eName 1)))
  (sSeq (sRet (eBin dIx (eTup (nCons (eBin dAdd (eName 1) (eC (.str (Str.ofString "a")))) (nCons (eSlX (eName 1) (some (eC (.int 1))) none) (nCons (eBin dAdd (eName 1) (eC (.str (Str.ofString "A")))) (nCons (eBin dAdd (eName 1) (eC (.str (Str.ofString " ")))) (nCons (eSlX (eName 1) none (some (eC (.int 1)))) nNil)))))) (eCallL F_law_draw 0 (nCons (eC (.int 5)) nNil))))
  sNil)
  sNil)
  (sSeq (sIf (tOr' (tNot' (tTru (eUn (dIsi "tuple") (eName 1)))) (tBl (eBin dEq (eCall (o1of dLen) (nCons (eName 1) nNil)) (eC (.int 0)))))
  (sSeq (sRet (eIf (tBl (eBin dLt (eName 2) (eC (.int 5)))) (eTup (nCons (eName 1) (nCons (eC (.int 0)) nNil))) (eTup nNil)))
  sNil)
  sNil)
  (sSeq (sSet 3 (eCallL F_law_draw 0 (nCons (eCall (o1of dLen) (nCons (eName 1) nNil)) nNil)))
  (sSeq (sIf (tBl (eBin dLt (eName 2) (eC (.int 3))))
  (sSeq (sRet (eBin dAdd (eSlX (eName 1) none (some (eName 3))) (eSlX (eName 1) (some (eBin dAdd (eName 3) (eC (.int 1)))) none)))
  sNil)
  sNil)
  (sSeq (sIf (tBl (eBin dLt (eName 2) (eC (.int 5))))
  (sSeq (sRet (eBin dAdd (eBin dAdd (eSlX (eName 1) none (some (eName 3))) (eTup (nCons (eBin dIx (eName 1) (eName 3)) nNil))) (eSlX (eName 1) (some (eName 3)) none)))
  sNil)
  sNil)
  (sSeq (sIf (tBl (eBin dEq (eName 2) (eC (.int 5))))
  (sSeq (sRet (eLst (nCall (n1of dLstOf) (nCons (eName 1) nNil))))
  sNil)
  sNil)
  (sSeq (sSet 4 (eCallL F_law_draw 0 (nCons (eCall (o1of dLen) (nCons (eName 1) nNil)) nNil)))
  (sSeq (sSetL 5 (nCall (n1of dLstOf) (nCons (eName 1) nNil)))
  (sSeq (sSto 5 (eName 3) (eBin dIx (eName 1) (eName 4)))
  (sSeq (sSto 5 (eName 4) (eBin dIx (eName 1) (eName 3)))
  (sSeq (sRet (eUnL dTupOf 5))
  sNil)))))))))))))))
def F_law_bent : Nat → List PyData → List PyData → Option (PyData × List PyData)
  | 0 => fun _ _ => none
  | n + 1 => defL (B_law_bent (F_law_bent n)) 1 4
def X_law_listed_1 (R : List PyData → Option PyData) : EF :=
  (eCall R (nCons (eName 2) (nCons (eBin dSub (eName 1) (eC (.int 1))) nNil)))
def B_law_listed (R : List PyData → Option PyData) : SF :=
  (sSeq (sIf (tNot' (tTru (eUn (dIsi "tuple") (eName 0))))
  (sSeq (sRet (eName 0))
  sNil)
  sNil)
  (sSeq (sRet (eIf (tBl (eBin dEq (eName 1) (eC (.int 0)))) (eLst (nCall (n1of dLstOf) (nCons (eName 0) nNil))) (eCall (o1of dTupOf) (nCons (eLst (nComp (itS (eName 0)) (gSet 2) tYesF (X_law_listed_1 R) [2])) nNil))))
  sNil))
def F_law_listed : Nat → List PyData → Option PyData
  | 0 => fun _ => none
  | n + 1 => defP (B_law_listed (F_law_listed n)) 2 1
def B_law_decision : SF :=
  (sSeq (sRet (eBin dIx (eTup (nCons (eTup (nCons (eC (.str (Str.ofString "accept"))) nNil)) (nCons (eTup (nCons (eC (.str (Str.ofString "accept"))) nNil)) (nCons (eTup (nCons (eC (.str (Str.ofString "drop"))) nNil)) (nCons (eTup (nCons (eC (.str (Str.ofString "refuse"))) (nCons (eCallL F_law_draw 0 (nCons (eC (.int 256)) nNil)) nNil))) nNil))))) (eCallL F_law_draw 0 (nCons (eC (.int 4)) nNil))))
  sNil)
def F_law_decision : List PyData → List PyData → Option (PyData × List PyData) := defL B_law_decision 0 0
def B_law_is_decision : SF :=
  (sSeq (sIf (tOr' (tNot' (tTru (eUn (dIsi "tuple") (eName 0)))) (tOr' (tBl (eBin dEq (eCall (o1of dLen) (nCons (eName 0) nNil)) (eC (.int 0)))) (tNot' (tTru (eUn (dIsi "str") (eBin dIx (eName 0) (eC (.int 0))))))))
  (sSeq (sRet (eC (.bool false)))
  sNil)
  sNil)
  (sSeq (sIf (tBl (eBin dEq (eBin dIx (eName 0) (eC (.int 0))) (eC (.str (Str.ofString "refuse")))))
  (sSeq (sRet (eAnd (eBin dEq (eCall (o1of dLen) (nCons (eName 0) nNil)) (eC (.int 2))) (eCall F_law_is_number (nCons (eBin dIx (eName 0) (eC (.int 1))) (nCons (eC (.int 255)) nNil)))))
  sNil)
  sNil)
  (sSeq (sRet (eAnd (eBin dEq (eCall (o1of dLen) (nCons (eName 0) nNil)) (eC (.int 1))) (eBin dIn2 (eBin dIx (eName 0) (eC (.int 0))) (eTup (nCons (eC (.str (Str.ofString "accept"))) (nCons (eC (.str (Str.ofString "drop"))) nNil))))))
  sNil)))
def F_law_is_decision : List PyData → Option PyData := defP B_law_is_decision 1 0
def X_law_is_instruction_1 : TF :=
  (tOr' (tNot' (tTru (eCall F_law_is_number (nCons (eName 3) (nCons (eBin dSub (eName 2) (eC (.int 1))) nNil))))) (tBl (eBin dLe (eName 3) (eName 1))))
def X_law_is_instruction_2 : EF :=
  (eName 3)
def B_law_is_instruction : SF :=
  (sSeq (sIf (tOr' (tNot' (tTru (eUn (dIsi "tuple") (eName 0)))) (tOr' (tBl (eBin dLt (eCall (o1of dLen) (nCons (eName 0) nNil)) (eC (.int 2)))) (tNot' (tTru (eUn (dIsi "str") (eBin dIx (eName 0) (eC (.int 0))))))))
  (sSeq (sRet (eC (.bool false)))
  sNil)
  sNil)
  (sSeq (sIf (tBl (eBin dEq (eBin dIx (eName 0) (eC (.int 0))) (eC (.str (Str.ofString "answer")))))
  (sSeq (sRet (eAnd (eBin dEq (eCall (o1of dLen) (nCons (eName 0) nNil)) (eC (.int 2))) (eCall F_law_is_decision (nCons (eBin dIx (eName 0) (eC (.int 1))) nNil))))
  sNil)
  sNil)
  (sSeq (sIf (tNot' (tTru (eCall F_law_is_number (nCons (eBin dIx (eName 0) (eC (.int 1))) (nCons (eC (.int 3)) nNil)))))
  (sSeq (sRet (eC (.bool false)))
  sNil)
  sNil)
  (sSeq (sIf (tBl (eBin dIn2 (eBin dIx (eName 0) (eC (.int 0))) (eTup (nCons (eC (.str (Str.ofString "byte"))) (nCons (eC (.str (Str.ofString "word"))) nNil)))))
  (sSeq (sRet (eAnd (eBin dEq (eCall (o1of dLen) (nCons (eName 0) nNil)) (eC (.int 4))) (eAnd (eUn (dIsi "str") (eBin dIx (eName 0) (eC (.int 2)))) (eAnd (eBin dIn2 (eBin dIx (eName 0) (eC (.int 2))) (eTup (nCons (eC (.str (Str.ofString "outer"))) (nCons (eC (.str (Str.ofString "inner"))) nNil)))) (eCall F_law_is_number (nCons (eBin dIx (eName 0) (eC (.int 3))) (nCons (eC (.int 1500)) nNil)))))))
  sNil)
  sNil)
  (sSeq (sIf (tBl (eBin dEq (eBin dIx (eName 0) (eC (.int 0))) (eC (.str (Str.ofString "special")))))
  (sSeq (sRet (eAnd (eBin dEq (eCall (o1of dLen) (nCons (eName 0) nNil)) (eC (.int 3))) (eAnd (eUn (dIsi "str") (eBin dIx (eName 0) (eC (.int 2)))) (eBin dIn2 (eBin dIx (eName 0) (eC (.int 2))) (eTup (nCons (eC (.str (Str.ofString "interface"))) (nCons (eC (.str (Str.ofString "length"))) (nCons (eC (.str (Str.ofString "talk"))) (nCons (eC (.str (Str.ofString "side"))) nNil)))))))))
  sNil)
  sNil)
  (sSeq (sIf (tBl (eBin dIn2 (eBin dIx (eName 0) (eC (.int 0))) (eTup (nCons (eC (.str (Str.ofString "put"))) (nCons (eC (.str (Str.ofString "mask"))) nNil)))))
  (sSeq (sRet (eAnd (eBin dEq (eCall (o1of dLen) (nCons (eName 0) nNil)) (eC (.int 3))) (eCall F_law_is_number (nCons (eBin dIx (eName 0) (eC (.int 2))) (nCons (eC (.int 65535)) nNil)))))
  sNil)
  sNil)
  (sSeq (sIf (tOr' (tBl (eBin dNe (eBin dIx (eName 0) (eC (.int 0))) (eC (.str (Str.ofString "less"))))) (tOr' (tBl (eBin dNe (eCall (o1of dLen) (nCons (eName 0) nNil)) (eC (.int 5)))) (tNot' (tTru (eCall F_law_is_number (nCons (eBin dIx (eName 0) (eC (.int 2))) (nCons (eC (.int 65535)) nNil)))))))
  (sSeq (sRet (eC (.bool false)))
  sNil)
  sNil)
  (sSeq (sRet (eBin dEq (eCall (o1of dLen) (nCons (eLst (nComp (itS (eSlT (eName 0) (some (eC (.int 3))) none)) (gSet 3) X_law_is_instruction_1 X_law_is_instruction_2 [3])) nNil)) (eC (.int 0))))
  sNil))))))))
def F_law_is_instruction : List PyData → Option PyData := defP B_law_is_instruction 3 1
def X_law_is_program_1 : TF :=
  (tNot' (tTru (eCall F_law_is_instruction (nCons (eBin dIx (eName 0) (eName 1)) (nCons (eName 1) (nCons (eCall (o1of dLen) (nCons (eName 0) nNil)) nNil))))))
def X_law_is_program_2 : EF :=
  (eName 1)
def B_law_is_program : SF :=
  (sSeq (sIf (tOr' (tNot' (tTru (eUn (dIsi "tuple") (eName 0)))) (tOr' (tBl (eBin dLt (eCall (o1of dLen) (nCons (eName 0) nNil)) (eC (.int 1)))) (tBl (eBin dGt (eCall (o1of dLen) (nCons (eName 0) nNil)) (eC (.int 200))))))
  (sSeq (sRet (eC (.bool false)))
  sNil)
  sNil)
  (sSeq (sRet (eBin dEq (eCall (o1of dLen) (nCons (eLst (nComp (itR1 (nCons (eCall (o1of dLen) (nCons (eName 0) nNil)) nNil)) (gSet 1) X_law_is_program_1 X_law_is_program_2 [1])) nNil)) (eC (.int 0))))
  sNil))
def F_law_is_program : List PyData → Option PyData := defP B_law_is_program 1 1
def B_law_instruction : SF :=
  (sSeq (sSet 3 (eBin dIx (eTup (nCons (eC (.int 0)) (nCons (eC (.int 1)) (nCons (eC (.int 0)) (nCons (eC (.int 1)) (nCons (eC (.int 2)) (nCons (eC (.int 3)) nNil))))))) (eCallL F_law_draw 0 (nCons (eC (.int 6)) nNil))))
  (sSeq (sSet 4 (eCallL F_law_draw 0 (nCons (eC (.int 8)) nNil)))
  (sSeq (sIf (tOr' (tBl (eBin dEq (eName 4) (eC (.int 0)))) (tBl (eBin dEq (eName 1) (eBin dSub (eName 2) (eC (.int 1))))))
  (sSeq (sRet (eTup (nCons (eC (.str (Str.ofString "answer"))) (nCons (eCallL F_law_decision 0 nNil) nNil))))
  sNil)
  sNil)
  (sSeq (sIf (tBl (eBin dEq (eName 4) (eC (.int 1))))
  (sSeq (sRet (eTup (nCons (eC (.str (Str.ofString "byte"))) (nCons (eName 3) (nCons (eBin dIx (eTup (nCons (eC (.str (Str.ofString "outer"))) (nCons (eC (.str (Str.ofString "inner"))) nNil))) (eCallL F_law_draw 0 (nCons (eC (.int 2)) nNil))) (nCons (eBin dIx (eTup (nCons (eC (.int 0)) (nCons (eC (.int 1)) (nCons (eC (.int 4)) (nCons (eC (.int 8)) (nCons (eC (.int 9)) (nCons (eC (.int 11)) (nCons (eC (.int 2)) (nCons (eC (.int 5)) (nCons (eC (.int 12)) (nCons (eCallL F_law_draw 0 (nCons (eC (.int 24)) nNil)) (nCons (eCallL F_law_draw 0 (nCons (eC (.int 90)) nNil)) nNil)))))))))))) (eCallL F_law_draw 0 (nCons (eC (.int 11)) nNil))) nNil))))))
  sNil)
  sNil)
  (sSeq (sIf (tBl (eBin dEq (eName 4) (eC (.int 2))))
  (sSeq (sRet (eTup (nCons (eC (.str (Str.ofString "word"))) (nCons (eName 3) (nCons (eBin dIx (eTup (nCons (eC (.str (Str.ofString "outer"))) (nCons (eC (.str (Str.ofString "inner"))) nNil))) (eCallL F_law_draw 0 (nCons (eC (.int 2)) nNil))) (nCons (eBin dIx (eTup (nCons (eC (.int 8)) (nCons (eC (.int 10)) (nCons (eC (.int 0)) (nCons (eC (.int 2)) (nCons (eCallL F_law_draw 0 (nCons (eC (.int 20)) nNil)) nNil)))))) (eCallL F_law_draw 0 (nCons (eC (.int 5)) nNil))) nNil))))))
  sNil)
  sNil)
  (sSeq (sIf (tBl (eBin dEq (eName 4) (eC (.int 3))))
  (sSeq (sRet (eTup (nCons (eC (.str (Str.ofString "special"))) (nCons (eName 3) (nCons (eBin dIx (eTup (nCons (eC (.str (Str.ofString "interface"))) (nCons (eC (.str (Str.ofString "length"))) (nCons (eC (.str (Str.ofString "talk"))) (nCons (eC (.str (Str.ofString "side"))) nNil))))) (eCallL F_law_draw 0 (nCons (eC (.int 4)) nNil))) nNil)))))
  sNil)
  sNil)
  (sSeq (sIf (tBl (eBin dEq (eName 4) (eC (.int 4))))
  (sSeq (sRet (eBin dIx (eTup (nCons (eTup (nCons (eC (.str (Str.ofString "put"))) (nCons (eName 3) (nCons (eCallL F_law_draw 0 (nCons (eC (.int 300)) nNil)) nNil)))) (nCons (eTup (nCons (eC (.str (Str.ofString "mask"))) (nCons (eName 3) (nCons (eBin dIx (eTup (nCons (eC (.int 1)) (nCons (eC (.int 255)) (nCons (eC (.int 7)) (nCons (eC (.int 65280)) (nCons (eC (.int 65535)) nNil)))))) (eCallL F_law_draw 0 (nCons (eC (.int 5)) nNil))) nNil)))) nNil))) (eCallL F_law_draw 0 (nCons (eC (.int 2)) nNil))))
  sNil)
  sNil)
  (sSeq (sSet 5 (eBin dIx (eTup (nCons (eC (.int 1)) (nCons (eC (.int 6)) (nCons (eC (.int 17)) (nCons (eC (.int 18)) (nCons (eC (.int 20)) (nCons (eC (.int 80)) (nCons (eC (.int 256)) (nCons (eCallL F_law_draw 0 (nCons (eC (.int 65536)) nNil)) nNil))))))))) (eCallL F_law_draw 0 (nCons (eC (.int 8)) nNil))))
  (sSeq (sRet (eTup (nCons (eC (.str (Str.ofString "less"))) (nCons (eName 3) (nCons (eName 5) (nCons (eBin dAdd (eBin dAdd (eName 1) (eC (.int 1))) (eCallL F_law_draw 0 (nCons (eBin dSub (eBin dSub (eName 2) (eC (.int 1))) (eName 1)) nNil))) (nCons (eBin dAdd (eBin dAdd (eName 1) (eC (.int 1))) (eCallL F_law_draw 0 (nCons (eBin dSub (eBin dSub (eName 2) (eC (.int 1))) (eName 1)) nNil))) nNil)))))))
  sNil)))))))))
def F_law_instruction : List PyData → List PyData → Option (PyData × List PyData) := defL B_law_instruction 2 3
def X_law_program_1 : SF :=
  (sSeq (sIf (tAnd' (tBl (eBin dLt (eName 4) (eC (.int 2)))) (tBl (eBin dGt (eName 2) (eC (.int 3)))))
  (sSeq (sApp 3 (eBin dIx (eTup (nCons (eTup (nCons (eC (.str (Str.ofString "special"))) (nCons (eName 4) (nCons (eC (.str (Str.ofString "talk"))) nNil)))) (nCons (eTup (nCons (eC (.str (Str.ofString "byte"))) (nCons (eName 4) (nCons (eC (.str (Str.ofString "outer"))) (nCons (eC (.int 1)) nNil))))) (nCons (eTup (nCons (eC (.str (Str.ofString "word"))) (nCons (eName 4) (nCons (eC (.str (Str.ofString "outer"))) (nCons (eC (.int 8)) nNil))))) (nCons (eTup (nCons (eC (.str (Str.ofString "special"))) (nCons (eName 4) (nCons (eC (.str (Str.ofString "interface"))) nNil)))) nNil))))) (eCallL F_law_draw 0 (nCons (eC (.int 4)) nNil))))
  sNil)
  (sSeq (sApp 3 (eCallL F_law_instruction 0 (nCons (eName 4) (nCons (eName 2) nNil))))
  sNil))
  sNil)
def B_law_program : SF :=
  (sSeq (sSet 2 (eBin dAdd (eC (.int 1)) (eCallL F_law_draw 0 (nCons (eName 1) nNil))))
  (sSeq (sSetL 3 (nDisp nNil))
  (sSeq (sFor (itR1 (nCons (eName 2) nNil)) (gSet 4)
  X_law_program_1)
  (sSeq (sIf (tAnd' (tBl (eBin dGt (eName 2) (eC (.int 1)))) (tAnd' (tBl (eBin dEq (eCallL F_law_draw 0 (nCons (eC (.int 6)) nNil)) (eC (.int 0)))) (tTru (eCall F_law_is_program (nCons (eCall (o1of dTupOf) (nCons (eLst (nSl (eFrz2 3) none (some (eUn dNeg (eC (.int 1)))))) nNil)) nNil)))))
  (sSeq (sSetL 3 (nSl (eFrz2 3) none (some (eUn dNeg (eC (.int 1))))))
  sNil)
  sNil)
  (sSeq (sRet (eCall (o1of dTupOf) (nCons (eFrz2 3) nNil)))
  sNil)))))
def F_law_program : List PyData → List PyData → Option (PyData × List PyData) := defL B_law_program 1 3
def X_law_1 : EF :=
  (eTup (nCons (eName 9) (nCons (eName 3) nNil)))
def X_law_2 : EF :=
  (eTup (nCons (eName 9) nNil))
def X_law_3 : EF :=
  (eCallL (F_law_bent 40) 1 (nCons (eName 2) nNil))
def X_law_4 : SF :=
  (sSeq (sSet 7 (eCall F_law_is_program (nCons (eName 6) nNil)))
  (sSeq (sSet 8 (eCall (o1of dRepr) (nCons (eName 6) nNil)))
  (sSeq (sIf (tOr' (tNot' (tTru (eCall (F_law_same 40) (nCons (eCall F_is_program (nCons (eName 6) nNil)) (nCons (eName 7) nNil))))) (tBl (eBin dNeS (eCall (o1of dRepr) (nCons (eName 6) nNil)) (eName 8))))
  (sSeq (sRet (eC (.bool false)))
  sNil)
  sNil)
  sNil)))
def B_law : SF :=
  (sSeq (sSetL 1 (nCall F_law_pool (nCons (eName 0) nNil)))
  (sSeq (sSet 2 (eCallL F_law_program 1 (nCons (eC (.int 12)) nNil)))
  (sSeq (sSet 3 (eTup (nCons (eC (.str (Str.ofString "answer"))) (nCons (eTup (nCons (eC (.str (Str.ofString "drop"))) nNil)) nNil))))
  (sSeq (sSet 4 (eLst (nDisp (nCons (eTup (nCons (eC (.str (Str.ofString "byte"))) (nCons (eC (.int 0)) (nCons (eC (.str (Str.ofString "outer"))) (nCons (eC (.int 1500)) nNil))))) (nCons (eTup (nCons (eC (.str (Str.ofString "byte"))) (nCons (eC (.int 0)) (nCons (eC (.str (Str.ofString "outer"))) (nCons (eC (.int 1501)) nNil))))) (nCons (eTup (nCons (eC (.str (Str.ofString "byte"))) (nCons (eC (.int 4)) (nCons (eC (.str (Str.ofString "outer"))) (nCons (eC (.int 0)) nNil))))) (nCons (eTup (nCons (eC (.str (Str.ofString "byte"))) (nCons (eC (.int 3)) (nCons (eC (.str (Str.ofString "inner"))) (nCons (eC (.int 0)) nNil))))) (nCons (eTup (nCons (eC (.str (Str.ofString "word"))) (nCons (eC (.int 0)) (nCons (eC (.str (Str.ofString "middle"))) (nCons (eC (.int 0)) nNil))))) (nCons (eTup (nCons (eC (.str (Str.ofString "word"))) (nCons (eC (.int 0)) (nCons (eC (.str (Str.ofString "outer"))) nNil)))) nNil)))))))))
  (sSeq (sSet 4 (eBin dAdd (eName 4) (eLst (nDisp (nCons (eTup (nCons (eC (.str (Str.ofString "special"))) (nCons (eC (.int 0)) (nCons (eC (.str (Str.ofString "talk"))) nNil)))) (nCons (eTup (nCons (eC (.str (Str.ofString "special"))) (nCons (eC (.int 0)) (nCons (eC (.str (Str.ofString "kind"))) nNil)))) (nCons (eTup (nCons (eC (.str (Str.ofString "special"))) (nCons (eC (.int 0)) (nCons (eC .none) nNil)))) (nCons (eTup (nCons (eC (.str (Str.ofString "put"))) (nCons (eC (.int 0)) (nCons (eC (.int 65535)) nNil)))) (nCons (eTup (nCons (eC (.str (Str.ofString "put"))) (nCons (eC (.int 0)) (nCons (eC (.int 65536)) nNil)))) (nCons (eTup (nCons (eC (.str (Str.ofString "put"))) (nCons (eC (.int 0)) (nCons (eUn dNeg (eC (.int 1))) nNil)))) (nCons (eTup (nCons (eC (.str (Str.ofString "mask"))) (nCons (eC (.int 0)) (nCons (eC (.bool true)) nNil)))) nNil)))))))))))
  (sSeq (sSet 4 (eBin dAdd (eName 4) (eLst (nDisp (nCons (eTup (nCons (eC (.str (Str.ofString "mask"))) (nCons (eC (.bool false)) (nCons (eC (.int 1)) nNil)))) (nCons (eTup (nCons (eC (.str (Str.ofString "mask"))) (nCons (eC (.int 3)) (nCons (eC (.int 0)) nNil)))) nNil))))))
  (sSeq (sSet 4 (eBin dAdd (eName 4) (eLst (nDisp (nCons (eTup (nCons (eC (.str (Str.ofString "less"))) (nCons (eC (.int 0)) (nCons (eC (.int 65535)) (nCons (eC (.int 1)) (nCons (eC (.int 1)) nNil)))))) (nCons (eTup (nCons (eC (.str (Str.ofString "less"))) (nCons (eC (.int 0)) (nCons (eC (.int 65536)) (nCons (eC (.int 1)) (nCons (eC (.int 1)) nNil)))))) (nCons (eTup (nCons (eC (.str (Str.ofString "less"))) (nCons (eC (.int 0)) (nCons (eC (.int 5)) (nCons (eC (.int 0)) (nCons (eC (.int 1)) nNil)))))) (nCons (eTup (nCons (eC (.str (Str.ofString "less"))) (nCons (eC (.int 0)) (nCons (eC (.int 5)) (nCons (eC (.int 1)) (nCons (eC (.int 2)) nNil)))))) (nCons (eTup (nCons (eC (.str (Str.ofString "less"))) (nCons (eC (.int 0)) (nCons (eC (.int 5)) (nCons (eC (.int 1)) nNil))))) (nCons (eTup (nCons (eC (.str (Str.ofString "less"))) (nCons (eC (.int 0)) (nCons (eC (.int 5)) (nCons (eC (.int 1)) (nCons (eC (.int 1)) (nCons (eC (.int 1)) nNil))))))) nNil))))))))))
  (sSeq (sSet 4 (eBin dAdd (eName 4) (eLst (nDisp (nCons (eTup (nCons (eC (.str (Str.ofString "less"))) (nCons (eC (.int 0)) (nCons (eC (.int 5)) (nCons (eC (.bool true)) (nCons (eC (.int 1)) nNil)))))) (nCons (eTup (nCons (eC (.str (Str.ofString "answer"))) (nCons (eTup (nCons (eC (.str (Str.ofString "back"))) nNil)) nNil))) (nCons (eTup (nCons (eC (.str (Str.ofString "answer"))) (nCons (eTup (nCons (eC (.str (Str.ofString "refuse"))) (nCons (eC (.int 256)) nNil))) nNil))) (nCons (eTup (nCons (eC (.str (Str.ofString "answer"))) nNil)) (nCons (eTup (nCons (eC (.str (Str.ofString "answer"))) (nCons (eTup (nCons (eC (.str (Str.ofString "drop"))) nNil)) (nCons (eC (.int 0)) nNil)))) (nCons (eTup (nCons (eC (.str (Str.ofString "halt"))) (nCons (eC (.int 0)) nNil))) (nCons (eTup nNil) (nCons (eC .none) (nCons (eLst (nDisp (nCons (eC (.str (Str.ofString "put"))) (nCons (eC (.int 0)) (nCons (eC (.int 1)) nNil))))) nNil)))))))))))))
  (sSeq (sSet 4 (eBin dAdd (eName 4) (eLst (nDisp (nCons (eTup (nCons (eC .none) (nCons (eC (.int 0)) (nCons (eC (.int 1)) nNil)))) nNil)))))
  (sSeq (sSet 5 (eLst (nDisp (nCons (eName 2) (nCons (eLst (nCall (n1of dLstOf) (nCons (eName 2) nNil))) (nCons (eCall (F_law_booled 40) (nCons (eName 2) nNil)) (nCons (eCall (F_law_listed 40) (nCons (eName 2) (nCons (eC (.int 1)) nNil))) (nCons (eTup nNil) (nCons (eBin dRepT (eTup (nCons (eName 3) nNil)) (eC (.int 200))) (nCons (eBin dRepT (eTup (nCons (eName 3) nNil)) (eC (.int 201))) (nCons (eBin dAdd (eName 2) (eTup (nCons (eC .none) nNil))) nNil)))))))))))
  (sSeq (sSet 5 (eBin dAdd (eName 5) (eLst (nDisp (nCons (eBin dAdd (eSlT (eName 2) none (some (eUn dNeg (eC (.int 1))))) (eTup (nCons (eTup (nCons (eC (.str (Str.ofString "less"))) (nCons (eC (.int 0)) (nCons (eC (.int 1)) (nCons (eCall (o1of dLen) (nCons (eName 2) nNil)) (nCons (eCall (o1of dLen) (nCons (eName 2) nNil)) nNil)))))) nNil))) nNil)))))
  (sSeq (sSet 5 (eBin dAdd (eBin dAdd (eName 5) (eLst (nComp (itS (eName 4)) (gSet 9) tYesF X_law_1 [9]))) (eLst (nComp (itS (eName 4)) (gSet 9) tYesF X_law_2 [9]))))
  (sSeq (sFor (itS (eBin dAdd (eName 5) (eLst (nComp (itR1 (nCons (eC (.int 8)) nNil)) (gSet 10) tYesF X_law_3 [10])))) (gSet 6)
  X_law_4)
  (sSeq (sRet (eC (.bool true)))
  sNil))))))))))))))
def F_law : List PyData → Option PyData := defP B_law 1 10
end Pr_gatewarden_k59_programs_told
end
section
set_option Elab.async false
set_option linter.all false
set_option maxRecDepth 100000
set_option maxHeartbeats 4000000
namespace Pr_gatewarden_k59_programs_told
open PySem PySem.Spec PyProof.Rows L2 PG Pr_C Pr_D
/-! the linked text does it -/
def topS (i : Nat) : Stmt := PySem.Challenge.pw_gatewarden_k59_programs_told.main.body.getD i (.Pass ⟨0, 0, 0, 0⟩)
abbrev s_is_number : Stmt := topS 1
theorem sc_is_number : FnScope ["value", "low", "high"] ["value", "low", "high"] (defScope s_is_number) := ⟨rfl, rfl, rfl, by decide +kernel, rfl, by decide +kernel, by decide +kernel⟩
abbrev s_first_text : Stmt := topS 2
theorem sc_first_text : FnScope ["value"] ["value"] (defScope s_first_text) := ⟨rfl, rfl, rfl, by decide +kernel, rfl, by decide +kernel, by decide +kernel⟩
abbrev s_is_decision : Stmt := topS 6
theorem sc_is_decision : FnScope ["value", "text"] ["value"] (defScope s_is_decision) := ⟨rfl, rfl, rfl, by decide +kernel, rfl, by decide +kernel, by decide +kernel⟩
abbrev s_is_one_of : Stmt := topS 15
theorem sc_is_one_of : FnScope ["value", "texts"] ["value", "texts"] (defScope s_is_one_of) := ⟨rfl, rfl, rfl, by decide +kernel, rfl, by decide +kernel, by decide +kernel⟩
abbrev s_is_instruction : Stmt := topS 14
theorem sc_is_instruction : FnScope ["value", "number", "count", "word", "other"] ["value", "number", "count"] (defScope s_is_instruction) := ⟨rfl, rfl, rfl, by decide +kernel, rfl, by decide +kernel, by decide +kernel⟩
abbrev s_is_program : Stmt := topS 13
theorem sc_is_program : FnScope ["value", "k"] ["value"] (defScope s_is_program) := ⟨rfl, rfl, rfl, by decide +kernel, rfl, by decide +kernel, by decide +kernel⟩
abbrev s_law_same : Stmt := topS 17
theorem sc_law_same : FnScope ["actual", "due", "k"] ["actual", "due"] (defScope s_law_same) := ⟨rfl, rfl, rfl, by decide +kernel, rfl, by decide +kernel, by decide +kernel⟩
abbrev s_law_is_integer : Stmt := topS 18
theorem sc_law_is_integer : FnScope ["actual"] ["actual"] (defScope s_law_is_integer) := ⟨rfl, rfl, rfl, by decide +kernel, rfl, by decide +kernel, by decide +kernel⟩
abbrev s_law_pool : Stmt := topS 19
theorem sc_law_pool : FnScope ["script", "salt", "cell"] ["script"] (defScope s_law_pool) := ⟨rfl, rfl, rfl, by decide +kernel, rfl, by decide +kernel, by decide +kernel⟩
abbrev s_law_spread : Stmt := topS 20
theorem sc_law_spread : FnScope ["cell", "mixed", "total", "k"] ["cell"] (defScope s_law_spread) := ⟨rfl, rfl, rfl, by decide +kernel, rfl, by decide +kernel, by decide +kernel⟩
abbrev s_law_draw : Stmt := topS 21
theorem sc_law_draw : FnScope ["pool", "many", "value", "cell", "mixed"] ["pool", "many"] (defScope s_law_draw) := ⟨rfl, rfl, rfl, by decide +kernel, rfl, by decide +kernel, by decide +kernel⟩
abbrev s_law_bent : Stmt := topS 22
theorem sc_law_bent : FnScope ["pool", "value", "turn", "at", "other", "items"] ["pool", "value"] (defScope s_law_bent) := ⟨rfl, rfl, rfl, by decide +kernel, rfl, by decide +kernel, by decide +kernel⟩
abbrev s_law_booled : Stmt := topS 23
theorem sc_law_booled : FnScope ["value", "part"] ["value"] (defScope s_law_booled) := ⟨rfl, rfl, rfl, by decide +kernel, rfl, by decide +kernel, by decide +kernel⟩
abbrev s_law_listed : Stmt := topS 24
theorem sc_law_listed : FnScope ["value", "deep", "part"] ["value", "deep"] (defScope s_law_listed) := ⟨rfl, rfl, rfl, by decide +kernel, rfl, by decide +kernel, by decide +kernel⟩
abbrev s_law_is_number : Stmt := topS 25
theorem sc_law_is_number : FnScope ["value", "top"] ["value", "top"] (defScope s_law_is_number) := ⟨rfl, rfl, rfl, by decide +kernel, rfl, by decide +kernel, by decide +kernel⟩
abbrev s_law_decision : Stmt := topS 26
theorem sc_law_decision : FnScope ["pool"] ["pool"] (defScope s_law_decision) := ⟨rfl, rfl, rfl, by decide +kernel, rfl, by decide +kernel, by decide +kernel⟩
abbrev s_law_is_decision : Stmt := topS 27
theorem sc_law_is_decision : FnScope ["value"] ["value"] (defScope s_law_is_decision) := ⟨rfl, rfl, rfl, by decide +kernel, rfl, by decide +kernel, by decide +kernel⟩
abbrev s_law_is_instruction : Stmt := topS 28
theorem sc_law_is_instruction : FnScope ["value", "at", "many", "k"] ["value", "at", "many"] (defScope s_law_is_instruction) := ⟨rfl, rfl, rfl, by decide +kernel, rfl, by decide +kernel, by decide +kernel⟩
abbrev s_law_is_program : Stmt := topS 29
theorem sc_law_is_program : FnScope ["value", "at"] ["value"] (defScope s_law_is_program) := ⟨rfl, rfl, rfl, by decide +kernel, rfl, by decide +kernel, by decide +kernel⟩
abbrev s_law_instruction : Stmt := topS 30
theorem sc_law_instruction : FnScope ["pool", "at", "many", "slot", "turn", "number"] ["pool", "at", "many"] (defScope s_law_instruction) := ⟨rfl, rfl, rfl, by decide +kernel, rfl, by decide +kernel, by decide +kernel⟩
abbrev s_law_program : Stmt := topS 31
theorem sc_law_program : FnScope ["pool", "most", "many", "found", "at"] ["pool", "most"] (defScope s_law_program) := ⟨rfl, rfl, rfl, by decide +kernel, rfl, by decide +kernel, by decide +kernel⟩
abbrev s_law : Stmt := topS 32
theorem sc_law : FnScope ["script", "pool", "program", "end", "odd", "tried", "value", "due", "kept", "step", "k"] ["script"] (defScope s_law) := ⟨rfl, rfl, rfl, by decide +kernel, rfl, by decide +kernel, by decide +kernel⟩
structure Tx (K : PySem.W.Frag) (mg : Str → Option Value) where
  a_is_number : Addr
  fd_is_number : FuncData
  F_is_number : L2.Fun K "is_number" "is_number" s_is_number a_is_number fd_is_number
  b_is_number : L2.Binds K fd_is_number ["value", "low", "high"] []
  g_is_number : mg "is_number" = some (.ref a_is_number)
  a_first_text : Addr
  fd_first_text : FuncData
  F_first_text : L2.Fun K "first_text" "first_text" s_first_text a_first_text fd_first_text
  b_first_text : L2.Binds K fd_first_text ["value"] []
  g_first_text : mg "first_text" = some (.ref a_first_text)
  a_is_decision : Addr
  fd_is_decision : FuncData
  F_is_decision : L2.Fun K "is_decision" "is_decision" s_is_decision a_is_decision fd_is_decision
  b_is_decision : L2.Binds K fd_is_decision ["value"] []
  g_is_decision : mg "is_decision" = some (.ref a_is_decision)
  a_is_one_of : Addr
  fd_is_one_of : FuncData
  F_is_one_of : L2.Fun K "_is_one_of" "_is_one_of" s_is_one_of a_is_one_of fd_is_one_of
  b_is_one_of : L2.Binds K fd_is_one_of ["value", "texts"] []
  g_is_one_of : mg "_is_one_of" = some (.ref a_is_one_of)
  a_is_instruction : Addr
  fd_is_instruction : FuncData
  cc_is_instruction : Addr
  pp_is_instruction : Addr
  F_is_instruction : FunT K "is_instruction" "is_instruction" s_is_instruction a_is_instruction fd_is_instruction cc_is_instruction pp_is_instruction
  b_is_instruction : L2.Binds K fd_is_instruction ["value", "number", "count"] []
  g_is_instruction : mg "is_instruction" = some (.ref a_is_instruction)
  a_is_program : Addr
  fd_is_program : FuncData
  cc_is_program : Addr
  pp_is_program : Addr
  F_is_program : FunT K "is_program" "is_program" s_is_program a_is_program fd_is_program cc_is_program pp_is_program
  b_is_program : L2.Binds K fd_is_program ["value"] []
  g_is_program : mg "is_program" = some (.ref a_is_program)
  a_law_same : Addr
  fd_law_same : FuncData
  F_law_same : L2.Fun K "_law_same" "_law_same" s_law_same a_law_same fd_law_same
  b_law_same : L2.Binds K fd_law_same ["actual", "due"] []
  g_law_same : mg "_law_same" = some (.ref a_law_same)
  a_law_is_integer : Addr
  fd_law_is_integer : FuncData
  F_law_is_integer : L2.Fun K "_law_is_integer" "_law_is_integer" s_law_is_integer a_law_is_integer fd_law_is_integer
  b_law_is_integer : L2.Binds K fd_law_is_integer ["actual"] []
  g_law_is_integer : mg "_law_is_integer" = some (.ref a_law_is_integer)
  a_law_pool : Addr
  fd_law_pool : FuncData
  F_law_pool : L2.Fun K "_law_pool" "_law_pool" s_law_pool a_law_pool fd_law_pool
  b_law_pool : L2.Binds K fd_law_pool ["script"] []
  g_law_pool : mg "_law_pool" = some (.ref a_law_pool)
  a_law_spread : Addr
  fd_law_spread : FuncData
  F_law_spread : L2.Fun K "_law_spread" "_law_spread" s_law_spread a_law_spread fd_law_spread
  b_law_spread : L2.Binds K fd_law_spread ["cell"] []
  g_law_spread : mg "_law_spread" = some (.ref a_law_spread)
  a_law_draw : Addr
  fd_law_draw : FuncData
  F_law_draw : L2.Fun K "_law_draw" "_law_draw" s_law_draw a_law_draw fd_law_draw
  b_law_draw : L2.Binds K fd_law_draw ["pool", "many"] []
  g_law_draw : mg "_law_draw" = some (.ref a_law_draw)
  a_law_bent : Addr
  fd_law_bent : FuncData
  F_law_bent : L2.Fun K "_law_bent" "_law_bent" s_law_bent a_law_bent fd_law_bent
  b_law_bent : L2.Binds K fd_law_bent ["pool", "value"] []
  g_law_bent : mg "_law_bent" = some (.ref a_law_bent)
  a_law_booled : Addr
  fd_law_booled : FuncData
  F_law_booled : L2.Fun K "_law_booled" "_law_booled" s_law_booled a_law_booled fd_law_booled
  b_law_booled : L2.Binds K fd_law_booled ["value"] []
  g_law_booled : mg "_law_booled" = some (.ref a_law_booled)
  a_law_listed : Addr
  fd_law_listed : FuncData
  F_law_listed : L2.Fun K "_law_listed" "_law_listed" s_law_listed a_law_listed fd_law_listed
  b_law_listed : L2.Binds K fd_law_listed ["value", "deep"] []
  g_law_listed : mg "_law_listed" = some (.ref a_law_listed)
  a_law_is_number : Addr
  fd_law_is_number : FuncData
  F_law_is_number : L2.Fun K "_law_is_number" "_law_is_number" s_law_is_number a_law_is_number fd_law_is_number
  b_law_is_number : L2.Binds K fd_law_is_number ["value", "top"] []
  g_law_is_number : mg "_law_is_number" = some (.ref a_law_is_number)
  a_law_decision : Addr
  fd_law_decision : FuncData
  F_law_decision : L2.Fun K "_law_decision" "_law_decision" s_law_decision a_law_decision fd_law_decision
  b_law_decision : L2.Binds K fd_law_decision ["pool"] []
  g_law_decision : mg "_law_decision" = some (.ref a_law_decision)
  a_law_is_decision : Addr
  fd_law_is_decision : FuncData
  F_law_is_decision : L2.Fun K "_law_is_decision" "_law_is_decision" s_law_is_decision a_law_is_decision fd_law_is_decision
  b_law_is_decision : L2.Binds K fd_law_is_decision ["value"] []
  g_law_is_decision : mg "_law_is_decision" = some (.ref a_law_is_decision)
  a_law_is_instruction : Addr
  fd_law_is_instruction : FuncData
  F_law_is_instruction : L2.Fun K "_law_is_instruction" "_law_is_instruction" s_law_is_instruction a_law_is_instruction fd_law_is_instruction
  b_law_is_instruction : L2.Binds K fd_law_is_instruction ["value", "at", "many"] []
  g_law_is_instruction : mg "_law_is_instruction" = some (.ref a_law_is_instruction)
  a_law_is_program : Addr
  fd_law_is_program : FuncData
  F_law_is_program : L2.Fun K "_law_is_program" "_law_is_program" s_law_is_program a_law_is_program fd_law_is_program
  b_law_is_program : L2.Binds K fd_law_is_program ["value"] []
  g_law_is_program : mg "_law_is_program" = some (.ref a_law_is_program)
  a_law_instruction : Addr
  fd_law_instruction : FuncData
  F_law_instruction : L2.Fun K "_law_instruction" "_law_instruction" s_law_instruction a_law_instruction fd_law_instruction
  b_law_instruction : L2.Binds K fd_law_instruction ["pool", "at", "many"] []
  g_law_instruction : mg "_law_instruction" = some (.ref a_law_instruction)
  a_law_program : Addr
  fd_law_program : FuncData
  F_law_program : L2.Fun K "_law_program" "_law_program" s_law_program a_law_program fd_law_program
  b_law_program : L2.Binds K fd_law_program ["pool", "most"] []
  g_law_program : mg "_law_program" = some (.ref a_law_program)
  a_law : Addr
  fd_law : FuncData
  F_law : L2.Fun K "law" "law" s_law a_law fd_law
  b_law : L2.Binds K fd_law ["script"] []
  g_law : mg "law" = some (.ref a_law)
  z_all : mg "all" = none
  z_bool : mg "bool" = none
  z_int : mg "int" = none
  z_isinstance : mg "isinstance" = none
  z_len : mg "len" = none
  z_list : mg "list" = none
  z_range : mg "range" = none
  z_repr : mg "repr" = none
  z_str : mg "str" = none
  z_tuple : mg "tuple" = none
  z_type : mg "type" = none
  t_CODE_TOP : Tok
  c_CODE_TOP : mg "CODE_TOP" = some (.int 255 t_CODE_TOP)
  t_GREATEST_LENGTH : Tok
  c_GREATEST_LENGTH : mg "GREATEST_LENGTH" = some (.int 1500 t_GREATEST_LENGTH)
  t_MOST_HELD : Tok
  c_MOST_HELD : mg "MOST_HELD" = some (.int 4 t_MOST_HELD)
  t_MOST_INSTRUCTIONS : Tok
  c_MOST_INSTRUCTIONS : mg "MOST_INSTRUCTIONS" = some (.int 200 t_MOST_INSTRUCTIONS)
  t_NUMBER_TOP : Tok
  c_NUMBER_TOP : mg "NUMBER_TOP" = some (.int 65535 t_NUMBER_TOP)
  d_BASES : Addr
  g_BASES : mg "BASES" = some (.ref d_BASES)
  K_BASES : KTab K d_BASES [.str (Str.ofString "outer"), .str (Str.ofString "inner")]
  d_SPECIALS : Addr
  g_SPECIALS : mg "SPECIALS" = some (.ref d_SPECIALS)
  K_SPECIALS : KTab K d_SPECIALS [.str (Str.ofString "interface"), .str (Str.ofString "length"), .str (Str.ofString "side"), .str (Str.ofString "talk")]
section
variable {P : Program} {w : World} {K : PySem.W.Frag} {mg : Str → Option Value} {base : Heap}
theorem ok_is_number (T : Tx K mg) (TB : TbOk K mg base) : FnOk P w K mg base CX0 1 T.a_is_number T.fd_is_number ["value", "low", "high"] (spP K 3 F_is_number) :=
  ok_P T.F_is_number sc_is_number rfl rfl fun cdv A outer s H E hr =>
  (es_cons (es_ret (ev_and (ev_tyEq (by decide) (by rfl) T.z_type (ev_name (pv 0)) (pe_bltn (by rfl) T.z_int (by decide +kernel) rfl) (by rfl)) (ev_one (ev_chain op_le os_le op_le os_le (ev_name (pv 1)) (ev_name (pv 0)) (ev_name (pv 2))))))
  es_nil)
theorem ok_first_text (T : Tx K mg) (TB : TbOk K mg base) : FnOk P w K mg base CX0 1 T.a_first_text T.fd_first_text ["value"] (spP K 1 F_first_text) :=
  ok_P T.F_first_text sc_first_text rfl rfl fun cdv A outer s H E hr =>
  (es_cons (es_if (ew_and (et_tyEq (by decide) (by rfl) T.z_type (ev_name (pv 0)) (pe_bltn (by rfl) T.z_tuple (by decide +kernel) rfl) (by rfl)) (ew_and (et_cmp (op_neD hr.units) os_ne (ev_name (pv 0)) (ev_tup ea_nil) (nomark _)) (ew_and1 (et_tyEq (by decide) (by rfl) T.z_type (ev_ix ix_seq os_ix (ev_name (pv 0)) ev_int (fun _ _ => rfl)) (pe_bltn (by rfl) T.z_str (by decide +kernel) rfl) (by rfl))))).pt
  (es_cons (es_ret (ev_ix ix_seq os_ix (ev_name (pv 0)) ev_int (fun _ _ => rfl)))
  es_nil)
  es_nil)
  (es_cons (es_ret ev_str)
  es_nil))
theorem ok_is_decision (T : Tx K mg) (TB : TbOk K mg base) : FnOk P w K mg base CX0 2 T.a_is_decision T.fd_is_decision ["value"] (spP K 1 F_is_decision) :=
  ok_P T.F_is_decision sc_is_decision rfl rfl fun cdv A outer s H E hr =>
  (es_cons (es_set sc_is_decision.nd (i := 1) rfl (by first | exact Or.inl rfl | exact Or.inr rfl) (ev_call (ok_first_text T TB) (hr.mono (by decide)) (by rfl) T.g_first_text T.F_first_text.kp T.b_first_text (ea_cons (ev_name (pv 0)) ea_nil) (nlen_cons nlen_nil)))
  (es_cons (es_if (et_cmp (op_eqD hr.units) os_eq (ev_name (pv 1)) ev_str (nomark _))
  (es_cons (es_ret (ev_and (ev_cmp (op_eqD hr.units) os_eq (ev_fn cl_len fs_len (by rfl) T.z_len PySem.boot_len (ea_cons (ev_name (pv 0)) ea_nil)) ev_int (nomark _)) (ev_one (ev_call (ok_is_number T TB) (hr.mono (by decide)) (by rfl) T.g_is_number T.F_is_number.kp T.b_is_number (ea_cons (ev_ix ix_seq os_ix (ev_name (pv 0)) ev_int (fun _ _ => rfl)) (ea_cons ev_int (ea_cons (ev_c (v := .int (255)) (pe_glob (by rfl) T.c_CODE_TOP ⟨_, rfl⟩) fun _ _ => .int _) ea_nil))) (nlen_cons (nlen_cons (nlen_cons nlen_nil)))))))
  es_nil)
  es_nil)
  (es_cons (es_ret (ev_and (ev_cmp (op_mem (u65 hr)) os_mem (ev_name (pv 1)) (ev_tup (ea_cons ev_str (ea_cons ev_str ea_nil))) (by rfl)) (ev_one (ev_cmp (op_eqD hr.units) os_eq (ev_fn cl_len fs_len (by rfl) T.z_len PySem.boot_len (ea_cons (ev_name (pv 0)) ea_nil)) ev_int (nomark _)))))
  es_nil)))
theorem ok_is_one_of (T : Tx K mg) (TB : TbOk K mg base) : FnOk P w K mg base CX0 1 T.a_is_one_of T.fd_is_one_of ["value", "texts"] (spP K 2 F_is_one_of) :=
  ok_P T.F_is_one_of sc_is_one_of rfl rfl fun cdv A outer s H E hr =>
  (es_cons (es_ret (ev_and (ev_tyEq (by decide) (by rfl) T.z_type (ev_name (pv 0)) (pe_bltn (by rfl) T.z_str (by decide +kernel) rfl) (by rfl)) (ev_one (ev_cmp (op_mem (u65 hr)) os_mem (ev_name (pv 0)) (ev_name (pv 1)) (by rfl)))))
  es_nil)
theorem ok_is_instruction (T : Tx K mg) (TB : TbOk K mg base) : FnOk P w K mg base CX0 3 T.a_is_instruction T.fd_is_instruction ["value", "number", "count"] (spP K 3 F_is_instruction) :=
  ok_PT T.F_is_instruction (by decide) TB sc_is_instruction rfl rfl fun A outer s H E tb hr =>
  (es_cons (es_set sc_is_instruction.nd (i := 3) rfl (by first | exact Or.inl rfl | exact Or.inr rfl) (ev_call (ok_first_text T TB) (hr.mono (by decide)) (by rfl) T.g_first_text T.F_first_text.kp T.b_first_text (ea_cons (ev_name (pv 0)) ea_nil) (nlen_cons nlen_nil)))
  (es_cons (es_if (et_cmp (op_eqD hr.units) os_eq (ev_name (pv 3)) ev_str (nomark _))
  (es_cons (es_ret (ev_and (ev_cmp (op_eqD hr.units) os_eq (ev_fn cl_len fs_len (by rfl) T.z_len PySem.boot_len (ea_cons (ev_name (pv 0)) ea_nil)) ev_int (nomark _)) (ev_one (ev_call (ok_is_decision T TB) (hr.mono (by decide)) (by rfl) T.g_is_decision T.F_is_decision.kp T.b_is_decision (ea_cons (ev_ix ix_seq os_ix (ev_name (pv 0)) ev_int (fun _ _ => rfl)) ea_nil) (nlen_cons nlen_nil)))))
  es_nil)
  es_nil)
  (es_cons (es_if (ew_or (et_cmp (op_eqD hr.units) os_eq (ev_name (pv 3)) ev_str (nomark _)) (ew_or (et_cmp op_lt os_lt (ev_fn cl_len fs_len (by rfl) T.z_len PySem.boot_len (ea_cons (ev_name (pv 0)) ea_nil)) ev_int (nomark _)) (ew_or1 (et_not (et_tru (ev_call (ok_is_number T TB) (hr.mono (by decide)) (by rfl) T.g_is_number T.F_is_number.kp T.b_is_number (ea_cons (ev_ix ix_seq os_ix (ev_name (pv 0)) ev_int (fun _ _ => rfl)) (ea_cons ev_int (ea_cons (ev_op op_sub os_sub (ev_c (v := .int (4)) (pe_glob (by rfl) T.c_MOST_HELD ⟨_, rfl⟩) fun _ _ => .int _) ev_int) ea_nil))) (nlen_cons (nlen_cons (nlen_cons nlen_nil))))))))).pt
  (es_cons (es_ret ev_bool)
  es_nil)
  es_nil)
  (es_cons (es_if (et_cmp (op_mem (u65 hr)) os_mem (ev_name (pv 3)) (ev_tup (ea_cons ev_str (ea_cons ev_str ea_nil))) (by rfl))
  (es_cons (es_ret (ev_and (ev_cmp (op_eqD hr.units) os_eq (ev_fn cl_len fs_len (by rfl) T.z_len PySem.boot_len (ea_cons (ev_name (pv 0)) ea_nil)) ev_int (nomark _)) (ev_and (ev_call (ok_is_one_of T TB) (hr.mono (by decide)) (by rfl) T.g_is_one_of T.F_is_one_of.kp T.b_is_one_of (ea_cons (ev_ix ix_seq os_ix (ev_name (pv 0)) ev_int (fun _ _ => rfl)) (ea_cons (ev_kt T.K_BASES (pe_glob (by rfl) T.g_BASES rfl)) ea_nil)) (nlen_cons (nlen_cons nlen_nil))) (ev_one (ev_call (ok_is_number T TB) (hr.mono (by decide)) (by rfl) T.g_is_number T.F_is_number.kp T.b_is_number (ea_cons (ev_ix ix_seq os_ix (ev_name (pv 0)) ev_int (fun _ _ => rfl)) (ea_cons ev_int (ea_cons (ev_c (v := .int (1500)) (pe_glob (by rfl) T.c_GREATEST_LENGTH ⟨_, rfl⟩) fun _ _ => .int _) ea_nil))) (nlen_cons (nlen_cons (nlen_cons nlen_nil))))))))
  es_nil)
  es_nil)
  (es_cons (es_if (et_cmp (op_eqD hr.units) os_eq (ev_name (pv 3)) ev_str (nomark _))
  (es_cons (es_ret (ev_and (ev_cmp (op_eqD hr.units) os_eq (ev_fn cl_len fs_len (by rfl) T.z_len PySem.boot_len (ea_cons (ev_name (pv 0)) ea_nil)) ev_int (nomark _)) (ev_one (ev_call (ok_is_one_of T TB) (hr.mono (by decide)) (by rfl) T.g_is_one_of T.F_is_one_of.kp T.b_is_one_of (ea_cons (ev_ix ix_seq os_ix (ev_name (pv 0)) ev_int (fun _ _ => rfl)) (ea_cons (ev_kt T.K_SPECIALS (pe_glob (by rfl) T.g_SPECIALS rfl)) ea_nil)) (nlen_cons (nlen_cons nlen_nil))))))
  es_nil)
  es_nil)
  (es_cons (es_if (et_not (et_tru (ev_call (ok_is_number T TB) (hr.mono (by decide)) (by rfl) T.g_is_number T.F_is_number.kp T.b_is_number (ea_cons (ev_ix ix_seq os_ix (ev_name (pv 0)) ev_int (fun _ _ => rfl)) (ea_cons ev_int (ea_cons (ev_c (v := .int (65535)) (pe_glob (by rfl) T.c_NUMBER_TOP ⟨_, rfl⟩) fun _ _ => .int _) ea_nil))) (nlen_cons (nlen_cons (nlen_cons nlen_nil))))))
  (es_cons (es_ret ev_bool)
  es_nil)
  es_nil)
  (es_cons (es_if (et_cmp (op_eqD hr.units) os_eq (ev_name (pv 3)) ev_str (nomark _))
  (es_cons (es_ret (ev_and (ev_cmp (op_eqD hr.units) os_eq (ev_fn cl_len fs_len (by rfl) T.z_len PySem.boot_len (ea_cons (ev_name (pv 0)) ea_nil)) ev_int (nomark _)) (ev_one (ev_all (own := [("other", 4)]) hr rfl sc_is_instruction.nd (by rfl) T.z_all (by decide) T.F_is_instruction.tab tb (ei_seq (ev_slT (ev_name (pv 0)) (eo_some ev_int) eo_none)) ⟨blkOk_by (N := ["value", "number", "count", "word", "other"]) (sc := defScope s_is_instruction) (by decide +kernel), by decide +kernel, rfl, rfl⟩ ⟨fun _ _ _ _ _ _ _ _ hr => ⟨(eg_name sc_is_instruction.nd (i := 4) rfl (by first | exact Or.inl rfl | exact Or.inr rfl)), ptst_nil, (ev_call (ok_is_number T TB) (hr.mono (by decide)) (by rfl) T.g_is_number T.F_is_number.kp T.b_is_number (ea_cons (ev_name (pv 4)) (ea_cons (ev_op op_addD os_add (ev_name (pv 1)) ev_int) (ea_cons (ev_op op_sub os_sub (ev_name (pv 2)) ev_int) ea_nil))) (nlen_cons (nlen_cons (nlen_cons nlen_nil))))⟩⟩))))
  es_nil)
  es_nil)
  (es_cons (es_ret (ev_and (ev_cmp (op_mem (u65 hr)) os_mem (ev_name (pv 3)) (ev_tup (ea_cons ev_str (ea_cons ev_str ea_nil))) (by rfl)) (ev_one (ev_cmp (op_eqD hr.units) os_eq (ev_fn cl_len fs_len (by rfl) T.z_len PySem.boot_len (ea_cons (ev_name (pv 0)) ea_nil)) ev_int (nomark _)))))
  es_nil))))))))
theorem ok_is_program (T : Tx K mg) (TB : TbOk K mg base) : FnOk P w K mg base CX0 5 T.a_is_program T.fd_is_program ["value"] (spP K 1 F_is_program) :=
  ok_PT T.F_is_program (by decide) TB sc_is_program rfl rfl fun A outer s H E tb hr =>
  (es_cons (es_if (ew_or (et_tyNe hr.units (by decide) (by rfl) T.z_type (ev_name (pv 0)) (pe_bltn (by rfl) T.z_tuple (by decide +kernel) rfl) (by rfl)) (ew_or1 (et_not (et_chain op_le os_le op_le os_le ev_int (ev_fn cl_len fs_len (by rfl) T.z_len PySem.boot_len (ea_cons (ev_name (pv 0)) ea_nil)) (ev_c (v := .int (200)) (pe_glob (by rfl) T.c_MOST_INSTRUCTIONS ⟨_, rfl⟩) fun _ _ => .int _))))).pt
  (es_cons (es_ret ev_bool)
  es_nil)
  es_nil)
  (es_cons (es_ret (ev_all (own := [("k", 1)]) hr rfl sc_is_program.nd (by rfl) T.z_all (by decide) T.F_is_program.tab tb (ei_rng1 (by rfl) T.z_range (ea_cons (ev_fn cl_len fs_len (by rfl) T.z_len PySem.boot_len (ea_cons (ev_name (pv 0)) ea_nil)) ea_nil)) ⟨blkOk_by (N := ["value", "k"]) (sc := defScope s_is_program) (by decide +kernel), by decide +kernel, rfl, rfl⟩ ⟨fun _ _ _ _ _ _ _ _ hr => ⟨(eg_name sc_is_program.nd (i := 1) rfl (by first | exact Or.inl rfl | exact Or.inr rfl)), ptst_nil, (ev_call (ok_is_instruction T TB) (hr.mono (by decide)) (by rfl) T.g_is_instruction T.F_is_instruction.kp T.b_is_instruction (ea_cons (ev_ix ix_seq os_ix (ev_name (pv 0)) (ev_name (pv 1)) (fun _ _ => rfl)) (ea_cons (ev_name (pv 1)) (ea_cons (ev_fn cl_len fs_len (by rfl) T.z_len PySem.boot_len (ea_cons (ev_name (pv 0)) ea_nil)) ea_nil))) (nlen_cons (nlen_cons (nlen_cons nlen_nil))))⟩⟩))
  es_nil))
theorem ok_law_same (T : Tx K mg) (TB : TbOk K mg base) : ∀ r : Nat, FnOk P w K mg base CX0 (0 + r) T.a_law_same T.fd_law_same ["actual", "due"] (spP K 2 (F_law_same r))
  | 0 => ⟨fun vs H Q E h => h.1, fun A outer s H args us vs Q E _ _ _ _ h => by obtain ⟨_, h⟩ := h; obtain ⟨_, _, _, _, _, _, e, _⟩ := h; cases e⟩
  | r + 1 => ok_P T.F_law_same sc_law_same rfl rfl fun cdv A outer s H E hr =>
  have HR := ok_law_same T TB r
  (es_cons (es_if (ew_or (et_tru (ev_isi (T := "tuple") (by decide) (by rfl) T.z_isinstance (ev_name (pv 1)) (pe_bltn (by rfl) T.z_tuple (by decide +kernel) rfl))) (ew_or1 (et_tru (ev_isi (T := "list") (by decide) (by rfl) T.z_isinstance (ev_name (pv 1)) (pe_bltn (by rfl) T.z_list (by decide +kernel) rfl))))).pt
  (es_cons (es_if (ew_or (et_cmp (op_neD hr.units) os_ne (ev_isi (T := "tuple") (by decide) (by rfl) T.z_isinstance (ev_name (pv 1)) (pe_bltn (by rfl) T.z_tuple (by decide +kernel) rfl)) (ev_isi (T := "tuple") (by decide) (by rfl) T.z_isinstance (ev_name (pv 0)) (pe_bltn (by rfl) T.z_tuple (by decide +kernel) rfl)) (nomark _)) (ew_or (et_cmp (op_neD hr.units) os_ne (ev_isi (T := "list") (by decide) (by rfl) T.z_isinstance (ev_name (pv 1)) (pe_bltn (by rfl) T.z_list (by decide +kernel) rfl)) (ev_isi (T := "list") (by decide) (by rfl) T.z_isinstance (ev_name (pv 0)) (pe_bltn (by rfl) T.z_list (by decide +kernel) rfl)) (nomark _)) (ew_or1 (et_cmp (op_neD hr.units) os_ne (ev_fn cl_len fs_len (by rfl) T.z_len PySem.boot_len (ea_cons (ev_name (pv 0)) ea_nil)) (ev_fn cl_len fs_len (by rfl) T.z_len PySem.boot_len (ea_cons (ev_name (pv 1)) ea_nil)) (nomark _))))).pt
  (es_cons (es_ret ev_bool)
  es_nil)
  es_nil)
  (es_cons (es_ret (ev_cmp (op_eqD hr.units) os_eq (ev_fn cl_len fs_len (by rfl) T.z_len PySem.boot_len (ea_cons (ev_new (en_comp rfl sc_law_same.nd (own := [("k", 2)]) (ei_rng1 (by rfl) T.z_range (ea_cons (ev_fn cl_len fs_len (by rfl) T.z_len PySem.boot_len (ea_cons (ev_name (pv 1)) ea_nil)) ea_nil)) (blkOk_by (N := ["actual", "due", "k"]) (sc := defScope s_law_same) (by decide +kernel)) (fun _ _ _ _ _ => (eg_name sc_law_same.nd (i := 2) rfl (by first | exact Or.inl rfl | exact Or.inr rfl))) (fun _ _ _ _ _ => (ptst_one (et_not (et_tru (ev_call HR hr (by rfl) T.g_law_same T.F_law_same.kp T.b_law_same (ea_cons (ev_ix ix_seq os_ix (ev_name (pv 0)) (ev_name (pv 2)) (fun _ _ => rfl)) (ea_cons (ev_ix ix_seq os_ix (ev_name (pv 1)) (ev_name (pv 2)) (fun _ _ => rfl)) ea_nil)) (nlen_cons (nlen_cons nlen_nil))))))) (fun _ _ _ _ _ => (ev_name (pv 2))))) ea_nil)) ev_int (nomark _)))
  es_nil))
  es_nil)
  (es_cons (es_if (et_isN (ev_name (pv 1)))
  (es_cons (es_ret (ev_isN (ev_name (pv 0))))
  es_nil)
  es_nil)
  (es_cons (es_if (ew_or (et_tru (ev_isi (T := "bool") (by decide) (by rfl) T.z_isinstance (ev_name (pv 1)) (pe_bltn (by rfl) T.z_bool (by decide +kernel) rfl))) (ew_or1 (et_tru (ev_isi (T := "bool") (by decide) (by rfl) T.z_isinstance (ev_name (pv 0)) (pe_bltn (by rfl) T.z_bool (by decide +kernel) rfl))))).pt
  (es_cons (es_ret (ev_and (ev_isi (T := "bool") (by decide) (by rfl) T.z_isinstance (ev_name (pv 1)) (pe_bltn (by rfl) T.z_bool (by decide +kernel) rfl)) (ev_and (ev_isi (T := "bool") (by decide) (by rfl) T.z_isinstance (ev_name (pv 0)) (pe_bltn (by rfl) T.z_bool (by decide +kernel) rfl)) (ev_one (ev_cmp (op_eqD hr.units) os_eq (ev_name (pv 0)) (ev_name (pv 1)) (nomark _))))))
  es_nil)
  es_nil)
  (es_cons (es_if (et_tru (ev_isi (T := "int") (by decide) (by rfl) T.z_isinstance (ev_name (pv 1)) (pe_bltn (by rfl) T.z_int (by decide +kernel) rfl)))
  (es_cons (es_ret (ev_and (ev_isi (T := "int") (by decide) (by rfl) T.z_isinstance (ev_name (pv 0)) (pe_bltn (by rfl) T.z_int (by decide +kernel) rfl)) (ev_one (ev_cmp (op_eqD hr.units) os_eq (ev_name (pv 0)) (ev_name (pv 1)) (nomark _)))))
  es_nil)
  es_nil)
  (es_cons (es_ret (ev_and (ev_isi (T := "str") (by decide) (by rfl) T.z_isinstance (ev_name (pv 0)) (pe_bltn (by rfl) T.z_str (by decide +kernel) rfl)) (ev_one (ev_cmp (op_eqD hr.units) os_eq (ev_name (pv 0)) (ev_name (pv 1)) (nomark _)))))
  es_nil)))))
theorem ok_law_is_integer (T : Tx K mg) (TB : TbOk K mg base) : FnOk P w K mg base CX0 1 T.a_law_is_integer T.fd_law_is_integer ["actual"] (spP K 1 F_law_is_integer) :=
  ok_P T.F_law_is_integer sc_law_is_integer rfl rfl fun cdv A outer s H E hr =>
  (es_cons (es_ret (ev_and (ev_isi (T := "int") (by decide) (by rfl) T.z_isinstance (ev_name (pv 0)) (pe_bltn (by rfl) T.z_int (by decide +kernel) rfl)) (ev_one (ev_not (ev_isi (T := "bool") (by decide) (by rfl) T.z_isinstance (ev_name (pv 0)) (pe_bltn (by rfl) T.z_bool (by decide +kernel) rfl))))))
  es_nil)
theorem ok_law_pool (T : Tx K mg) (TB : TbOk K mg base) : FnOk P w K mg base CX0 1 T.a_law_pool T.fd_law_pool ["script"] (spN K 1 F_law_pool) :=
  ok_N T.F_law_pool sc_law_pool rfl rfl fun cdv A outer s H E hr =>
  (es_cons (es_set sc_law_pool.nd (i := 1) rfl (by first | exact Or.inl rfl | exact Or.inr rfl) ev_int)
  (es_cons (es_for PassesOwn.never rfl (ei_seq (ev_new (en_sl (ev_name (pv 0)) eo_none (eo_some ev_int)))) (eg_name sc_law_pool.nd (i := 2) rfl (by first | exact Or.inl rfl | exact Or.inr rfl))
  (es_cons (es_set sc_law_pool.nd (i := 1) rfl (by first | exact Or.inl rfl | exact Or.inr rfl) (ev_op op_mod os_mod (ev_fnT call_int1 fs_int (by rfl) T.z_int PyProof.Rows.boot_int (ea_cons (ev_op op_addD os_add (ev_op op_mul os_mul (ev_name (pv 1)) ev_int) (ev_name (pv 2))) ea_nil)) ev_int))
  es_nil))
  (es_cons (es_retL (en_lst (ea_cons (ev_new (en_fnT call_list_of fn_list (by rfl) T.z_list PyProof.Rows.boot_list (ea_cons (ev_name (pv 0)) ea_nil))) (ea_cons ev_int (ea_cons ev_int (ea_cons ev_int (ea_cons (ev_name (pv 1)) ea_nil)))))))
  es_nil)))
theorem ok_law_spread (T : Tx K mg) (TB : TbOk K mg base) : FnOk P w K mg base CX0 1 T.a_law_spread T.fd_law_spread ["cell"] (spP K 1 F_law_spread) :=
  ok_P T.F_law_spread sc_law_spread rfl rfl fun cdv A outer s H E hr =>
  (es_cons (es_set sc_law_spread.nd (i := 1) rfl (by first | exact Or.inl rfl | exact Or.inr rfl) (ev_op op_mod os_mod (ev_fnT call_int1 fs_int (by rfl) T.z_int PyProof.Rows.boot_int (ea_cons (ev_name (pv 0)) ea_nil)) ev_int))
  (es_cons (es_set sc_law_spread.nd (i := 2) rfl (by first | exact Or.inl rfl | exact Or.inr rfl) ev_int)
  (es_cons (es_for PassesOwn.never rfl (ei_rng1 (by rfl) T.z_range (ea_cons ev_int ea_nil)) (eg_name sc_law_spread.nd (i := 3) rfl (by first | exact Or.inl rfl | exact Or.inr rfl))
  (es_cons (es_set sc_law_spread.nd (i := 1) rfl (by first | exact Or.inl rfl | exact Or.inr rfl) (ev_op op_mod os_mod (ev_fnT call_int1 fs_int (by rfl) T.z_int PyProof.Rows.boot_int (ea_cons (ev_op op_addD os_add (ev_op op_addD os_add (ev_op op_mul os_mul (ev_name (pv 1)) ev_int) ev_int) (ev_name (pv 3))) ea_nil)) ev_int))
  (es_cons (es_set sc_law_spread.nd (i := 2) rfl (by first | exact Or.inl rfl | exact Or.inr rfl) (ev_op op_addD os_add (ev_op op_mul os_mul (ev_name (pv 2)) ev_int) (ev_name (pv 1))))
  es_nil)))
  (es_cons (es_ret (ev_name (pv 2)))
  es_nil))))
theorem ok_law_draw (T : Tx K mg) (TB : TbOk K mg base) : FnOk P w K mg base CX0 2 T.a_law_draw T.fd_law_draw ["pool", "many"] (spL K 1 F_law_draw) :=
  ok_L T.F_law_draw sc_law_draw rfl rfl fun cdv A outer s H E hr =>
  (es_cons (es_if (ew_and (et_cmp op_le os_le (ev_ixO (pv 0) ev_int (fun _ _ => rfl)) ev_int (nomark _)) (ew_and1 (et_cmp op_lt os_lt (ev_ixO (pv 0) ev_int (fun _ _ => rfl)) (ev_fn cl_len fs_len (by rfl) T.z_len PySem.boot_len (ea_cons (ev_ixO (pv 0) ev_int (fun _ _ => rfl)) ea_nil)) (nomark _)))).pt
  (es_cons (es_set sc_law_draw.nd (i := 3) rfl (by first | exact Or.inl rfl | exact Or.inr rfl) (ev_ix ix_seq os_ix (ev_ixO (pv 0) ev_int (fun _ _ => rfl)) (ev_ixO (pv 0) ev_int (fun _ _ => rfl)) (fun _ _ => rfl)))
  (es_cons (es_sto (pv 0) ev_int (ev_op op_addD os_add (ev_ixO (pv 0) ev_int (fun _ _ => rfl)) ev_int))
  (es_cons (es_sto (pv 0) ev_int (ev_name (pv 3)))
  (es_cons (es_if (et_cmp op_lt os_lt (ev_name (pv 3)) ev_int (nomark _))
  (es_cons (es_sto (pv 0) ev_int (ev_call (ok_law_spread T TB) (hr.mono (by decide)) (by rfl) T.g_law_spread T.F_law_spread.kp T.b_law_spread (ea_cons (ev_name (pv 3)) ea_nil) (nlen_cons nlen_nil)))
  es_nil)
  es_nil)
  es_nil))))
  es_nil)
  (es_cons (es_sto (pv 0) ev_int (ev_op op_addD os_add (ev_ixO (pv 0) ev_int (fun _ _ => rfl)) ev_int))
  (es_cons (es_if (et_cmp op_le os_le (ev_ixO (pv 0) ev_int (fun _ _ => rfl)) ev_int (nomark _))
  (es_cons (es_set sc_law_draw.nd (i := 4) rfl (by first | exact Or.inl rfl | exact Or.inr rfl) (ev_op op_mod os_mod (ev_fnT call_int1 fs_int (by rfl) T.z_int PyProof.Rows.boot_int (ea_cons (ev_op op_addD os_add (ev_op op_addD os_add (ev_op op_mul os_mul (ev_ixO (pv 0) ev_int (fun _ _ => rfl)) ev_int) (ev_op op_mul os_mul (ev_ixO (pv 0) ev_int (fun _ _ => rfl)) ev_int)) ev_int) ea_nil)) ev_int))
  (es_cons (es_set sc_law_draw.nd (i := 4) rfl (by first | exact Or.inl rfl | exact Or.inr rfl) (ev_op op_mod os_mod (ev_fnT call_int1 fs_int (by rfl) T.z_int PyProof.Rows.boot_int (ea_cons (ev_op op_addD os_add (ev_op op_mul os_mul (ev_name (pv 4)) ev_int) (ev_ixO (pv 0) ev_int (fun _ _ => rfl))) ea_nil)) ev_int))
  (es_cons (es_ret (ev_op op_mod os_mod (ev_op op_fdivW os_div (ev_name (pv 4)) ev_int) (ev_name (pv 1))))
  es_nil)))
  es_nil)
  (es_cons (es_set sc_law_draw.nd (i := 2) rfl (by first | exact Or.inl rfl | exact Or.inr rfl) (ev_op op_mod os_mod (ev_fnT call_int1 fs_int (by rfl) T.z_int PyProof.Rows.boot_int (ea_cons (ev_ixO (pv 0) ev_int (fun _ _ => rfl)) ea_nil)) (ev_name (pv 1))))
  (es_cons (es_sto (pv 0) ev_int (ev_op op_fdivW os_div (ev_ixO (pv 0) ev_int (fun _ _ => rfl)) (ev_name (pv 1))))
  (es_cons (es_ret (ev_name (pv 2)))
  es_nil))))))
theorem ok_law_bent (T : Tx K mg) (TB : TbOk K mg base) : ∀ r : Nat, FnOk P w K mg base CX0 (2 + r) T.a_law_bent T.fd_law_bent ["pool", "value"] (spL K 1 (F_law_bent r))
  | 0 => ⟨fun vs H Q E h => h.1, fun A outer s H args us vs Q E _ _ _ _ h => by obtain ⟨_, h⟩ := h; obtain ⟨_, _, _, _, _, _, _, _, _, _, _, _, _, _, _, e, _⟩ := h; cases e⟩
  | r + 1 => ok_L T.F_law_bent sc_law_bent rfl rfl fun cdv A outer s H E hr =>
  have HR := ok_law_bent T TB r
  (es_cons (es_if (ew_and (et_tru (ev_isi (T := "tuple") (by decide) (by rfl) T.z_isinstance (ev_name (pv 1)) (pe_bltn (by rfl) T.z_tuple (by decide +kernel) rfl))) (ew_and (et_cmp op_gt os_gt (ev_fn cl_len fs_len (by rfl) T.z_len PySem.boot_len (ea_cons (ev_name (pv 1)) ea_nil)) ev_int (nomark _)) (ew_and1 (et_cmp op_gt os_gt (ev_callL (ok_law_draw T TB) (hr.mono (show 2 ≤ 2 + r by omega)) (by rfl) T.g_law_draw T.F_law_draw.kp T.b_law_draw (pv 0) (ea_cons ev_int ea_nil) (nlen_cons nlen_nil)) ev_int (nomark _))))).pt
  (es_cons (es_set sc_law_bent.nd (i := 3) rfl (by first | exact Or.inl rfl | exact Or.inr rfl) (ev_callL (ok_law_draw T TB) (hr.mono (show 2 ≤ 2 + r by omega)) (by rfl) T.g_law_draw T.F_law_draw.kp T.b_law_draw (pv 0) (ea_cons (ev_fn cl_len fs_len (by rfl) T.z_len PySem.boot_len (ea_cons (ev_name (pv 1)) ea_nil)) ea_nil) (nlen_cons nlen_nil)))
  (es_cons (es_ret (ev_op op_addD os_add (ev_op op_addD os_add (ev_slX (ev_name (pv 1)) eo_none (eo_some (ev_name (pv 3)))) (ev_tup (ea_cons (ev_callL HR hr (by rfl) T.g_law_bent T.F_law_bent.kp T.b_law_bent (pv 0) (ea_cons (ev_ix ix_seq os_ix (ev_name (pv 1)) (ev_name (pv 3)) (fun _ _ => rfl)) ea_nil) (nlen_cons nlen_nil)) ea_nil))) (ev_slX (ev_name (pv 1)) (eo_some (ev_op op_addD os_add (ev_name (pv 3)) ev_int)) eo_none)))
  es_nil))
  es_nil)
  (es_cons (es_set sc_law_bent.nd (i := 2) rfl (by first | exact Or.inl rfl | exact Or.inr rfl) (ev_callL (ok_law_draw T TB) (hr.mono (show 2 ≤ 2 + r by omega)) (by rfl) T.g_law_draw T.F_law_draw.kp T.b_law_draw (pv 0) (ea_cons ev_int ea_nil) (nlen_cons nlen_nil)))
  (es_cons (es_if (et_cmp (op_eqD hr.units) os_eq (ev_name (pv 2)) ev_int (nomark _))
  (es_cons (es_ret (ev_ix ix_seq os_ix (ev_tup (ea_cons ev_str (ea_cons ev_bool (ea_cons (ev_tup ea_nil) (ea_cons ev_int (ea_cons (ev_un un_neg us_neg ev_int) (ea_cons ev_none (ea_cons ev_bool (ea_cons (ev_new (en_lst ea_nil)) ea_nil))))))))) (ev_callL (ok_law_draw T TB) (hr.mono (show 2 ≤ 2 + r by omega)) (by rfl) T.g_law_draw T.F_law_draw.kp T.b_law_draw (pv 0) (ea_cons ev_int ea_nil) (nlen_cons nlen_nil)) (fun _ _ => rfl)))
  es_nil)
  es_nil)
  (es_cons (es_if (et_tru (ev_call (ok_law_is_integer T TB) (hr.mono (show 1 ≤ 2 + r by omega)) (by rfl) T.g_law_is_integer T.F_law_is_integer.kp T.b_law_is_integer (ea_cons (ev_name (pv 1)) ea_nil) (nlen_cons nlen_nil)))
  (es_cons (es_ret (ev_op op_addD os_add (ev_name (pv 1)) (ev_ix ix_seq os_ix (ev_tup (ea_cons ev_int (ea_cons (ev_un un_neg us_neg ev_int) (ea_cons ev_int (ea_cons ev_int ea_nil))))) (ev_callL (ok_law_draw T TB) (hr.mono (show 2 ≤ 2 + r by omega)) (by rfl) T.g_law_draw T.F_law_draw.kp T.b_law_draw (pv 0) (ea_cons ev_int ea_nil) (nlen_cons nlen_nil)) (fun _ _ => rfl))))
  es_nil)
  es_nil)
  (es_cons (es_if (et_tru (ev_isi (T := "str") (by decide) (by rfl) T.z_isinstance (ev_name (pv 1)) (pe_bltn (by rfl) T.z_str (by decide +kernel) rfl)))
  (es_cons (es_ret (ev_ix ix_seq os_ix (ev_tup (ea_cons (ev_op op_addD os_add (ev_name (pv 1)) ev_str) (ea_cons (ev_slX (ev_name (pv 1)) (eo_some ev_int) eo_none) (ea_cons (ev_op op_addD os_add (ev_name (pv 1)) ev_str) (ea_cons (ev_op op_addD os_add (ev_name (pv 1)) ev_str) (ea_cons (ev_slX (ev_name (pv 1)) eo_none (eo_some ev_int)) ea_nil)))))) (ev_callL (ok_law_draw T TB) (hr.mono (show 2 ≤ 2 + r by omega)) (by rfl) T.g_law_draw T.F_law_draw.kp T.b_law_draw (pv 0) (ea_cons ev_int ea_nil) (nlen_cons nlen_nil)) (fun _ _ => rfl)))
  es_nil)
  es_nil)
  (es_cons (es_if (ew_or (et_not (et_tru (ev_isi (T := "tuple") (by decide) (by rfl) T.z_isinstance (ev_name (pv 1)) (pe_bltn (by rfl) T.z_tuple (by decide +kernel) rfl)))) (ew_or1 (et_cmp (op_eqD hr.units) os_eq (ev_fn cl_len fs_len (by rfl) T.z_len PySem.boot_len (ea_cons (ev_name (pv 1)) ea_nil)) ev_int (nomark _)))).pt
  (es_cons (es_ret (ev_if (et_cmp op_lt os_lt (ev_name (pv 2)) ev_int (nomark _)) (ev_tup (ea_cons (ev_name (pv 1)) (ea_cons ev_int ea_nil))) (ev_tup ea_nil)))
  es_nil)
  es_nil)
  (es_cons (es_set sc_law_bent.nd (i := 3) rfl (by first | exact Or.inl rfl | exact Or.inr rfl) (ev_callL (ok_law_draw T TB) (hr.mono (show 2 ≤ 2 + r by omega)) (by rfl) T.g_law_draw T.F_law_draw.kp T.b_law_draw (pv 0) (ea_cons (ev_fn cl_len fs_len (by rfl) T.z_len PySem.boot_len (ea_cons (ev_name (pv 1)) ea_nil)) ea_nil) (nlen_cons nlen_nil)))
  (es_cons (es_if (et_cmp op_lt os_lt (ev_name (pv 2)) ev_int (nomark _))
  (es_cons (es_ret (ev_op op_addD os_add (ev_slX (ev_name (pv 1)) eo_none (eo_some (ev_name (pv 3)))) (ev_slX (ev_name (pv 1)) (eo_some (ev_op op_addD os_add (ev_name (pv 3)) ev_int)) eo_none)))
  es_nil)
  es_nil)
  (es_cons (es_if (et_cmp op_lt os_lt (ev_name (pv 2)) ev_int (nomark _))
  (es_cons (es_ret (ev_op op_addD os_add (ev_op op_addD os_add (ev_slX (ev_name (pv 1)) eo_none (eo_some (ev_name (pv 3)))) (ev_tup (ea_cons (ev_ix ix_seq os_ix (ev_name (pv 1)) (ev_name (pv 3)) (fun _ _ => rfl)) ea_nil))) (ev_slX (ev_name (pv 1)) (eo_some (ev_name (pv 3))) eo_none)))
  es_nil)
  es_nil)
  (es_cons (es_if (et_cmp (op_eqD hr.units) os_eq (ev_name (pv 2)) ev_int (nomark _))
  (es_cons (es_ret (ev_new (en_fnT call_list_of fn_list (by rfl) T.z_list PyProof.Rows.boot_list (ea_cons (ev_name (pv 1)) ea_nil))))
  es_nil)
  es_nil)
  (es_cons (es_set sc_law_bent.nd (i := 4) rfl (by first | exact Or.inl rfl | exact Or.inr rfl) (ev_callL (ok_law_draw T TB) (hr.mono (show 2 ≤ 2 + r by omega)) (by rfl) T.g_law_draw T.F_law_draw.kp T.b_law_draw (pv 0) (ea_cons (ev_fn cl_len fs_len (by rfl) T.z_len PySem.boot_len (ea_cons (ev_name (pv 1)) ea_nil)) ea_nil) (nlen_cons nlen_nil)))
  (es_cons (es_setL sc_law_bent.nd (i := 5) rfl (by first | exact Or.inl rfl | exact Or.inr rfl) (en_fnT call_list_of fn_list (by rfl) T.z_list PyProof.Rows.boot_list (ea_cons (ev_name (pv 1)) ea_nil)))
  (es_cons (es_sto (pv 5) (ev_name (pv 3)) (ev_ix ix_seq os_ix (ev_name (pv 1)) (ev_name (pv 4)) (fun _ _ => rfl)))
  (es_cons (es_sto (pv 5) (ev_name (pv 4)) (ev_ix ix_seq os_ix (ev_name (pv 1)) (ev_name (pv 3)) (fun _ _ => rfl)))
  (es_cons (es_ret (ev_tupO (pv 5) (by rfl) T.z_tuple))
  es_nil)))))))))))))))
theorem ok_law_booled (T : Tx K mg) (TB : TbOk K mg base) : ∀ r : Nat, FnOk P w K mg base CX0 (1 + r) T.a_law_booled T.fd_law_booled ["value"] (spP K 1 (F_law_booled r))
  | 0 => ⟨fun vs H Q E h => h.1, fun A outer s H args us vs Q E _ _ _ _ h => by obtain ⟨_, h⟩ := h; obtain ⟨_, _, _, _, _, _, e, _⟩ := h; cases e⟩
  | r + 1 => ok_P T.F_law_booled sc_law_booled rfl rfl fun cdv A outer s H E hr =>
  have HR := ok_law_booled T TB r
  (es_cons (es_if (et_tru (ev_isi (T := "tuple") (by decide) (by rfl) T.z_isinstance (ev_name (pv 0)) (pe_bltn (by rfl) T.z_tuple (by decide +kernel) rfl)))
  (es_cons (es_ret (ev_fnT call_tuple_of fs_tup (by rfl) T.z_tuple PyProof.Rows.boot_tuple (ea_cons (ev_new (en_comp rfl sc_law_booled.nd (own := [("part", 1)]) (ei_seq (ev_name (pv 0))) (blkOk_by (N := ["value", "part"]) (sc := defScope s_law_booled) (by decide +kernel)) (fun _ _ _ _ _ => (eg_name sc_law_booled.nd (i := 1) rfl (by first | exact Or.inl rfl | exact Or.inr rfl))) (fun _ _ _ _ _ => ptst_nil) (fun _ _ _ _ _ => (ev_call HR hr (by rfl) T.g_law_booled T.F_law_booled.kp T.b_law_booled (ea_cons (ev_name (pv 1)) ea_nil) (nlen_cons nlen_nil))))) ea_nil)))
  es_nil)
  es_nil)
  (es_cons (es_ret (ev_if (ew_and (et_tru (ev_call (ok_law_is_integer T TB) (hr.mono (show 1 ≤ 1 + r by omega)) (by rfl) T.g_law_is_integer T.F_law_is_integer.kp T.b_law_is_integer (ea_cons (ev_name (pv 0)) ea_nil) (nlen_cons nlen_nil))) (ew_and (et_cmp op_le os_le ev_int (ev_name (pv 0)) (nomark _)) (ew_and1 (et_cmp op_lt os_lt (ev_name (pv 0)) ev_int (nomark _))))).pt (ev_ix ix_seq os_ix (ev_tup (ea_cons ev_bool (ea_cons ev_bool ea_nil))) (ev_name (pv 0)) (fun _ _ => rfl)) (ev_name (pv 0))))
  es_nil))
theorem ok_law_listed (T : Tx K mg) (TB : TbOk K mg base) : ∀ r : Nat, FnOk P w K mg base CX0 (0 + r) T.a_law_listed T.fd_law_listed ["value", "deep"] (spP K 2 (F_law_listed r))
  | 0 => ⟨fun vs H Q E h => h.1, fun A outer s H args us vs Q E _ _ _ _ h => by obtain ⟨_, h⟩ := h; obtain ⟨_, _, _, _, _, _, e, _⟩ := h; cases e⟩
  | r + 1 => ok_P T.F_law_listed sc_law_listed rfl rfl fun cdv A outer s H E hr =>
  have HR := ok_law_listed T TB r
  (es_cons (es_if (et_not (et_tru (ev_isi (T := "tuple") (by decide) (by rfl) T.z_isinstance (ev_name (pv 0)) (pe_bltn (by rfl) T.z_tuple (by decide +kernel) rfl))))
  (es_cons (es_ret (ev_name (pv 0)))
  es_nil)
  es_nil)
  (es_cons (es_ret (ev_if (et_cmp (op_eqD hr.units) os_eq (ev_name (pv 1)) ev_int (nomark _)) (ev_new (en_fnT call_list_of fn_list (by rfl) T.z_list PyProof.Rows.boot_list (ea_cons (ev_name (pv 0)) ea_nil))) (ev_fnT call_tuple_of fs_tup (by rfl) T.z_tuple PyProof.Rows.boot_tuple (ea_cons (ev_new (en_comp rfl sc_law_listed.nd (own := [("part", 2)]) (ei_seq (ev_name (pv 0))) (blkOk_by (N := ["value", "deep", "part"]) (sc := defScope s_law_listed) (by decide +kernel)) (fun _ _ _ _ _ => (eg_name sc_law_listed.nd (i := 2) rfl (by first | exact Or.inl rfl | exact Or.inr rfl))) (fun _ _ _ _ _ => ptst_nil) (fun _ _ _ _ _ => (ev_call HR hr (by rfl) T.g_law_listed T.F_law_listed.kp T.b_law_listed (ea_cons (ev_name (pv 2)) (ea_cons (ev_op op_sub os_sub (ev_name (pv 1)) ev_int) ea_nil)) (nlen_cons (nlen_cons nlen_nil)))))) ea_nil))))
  es_nil))
theorem ok_law_is_number (T : Tx K mg) (TB : TbOk K mg base) : FnOk P w K mg base CX0 2 T.a_law_is_number T.fd_law_is_number ["value", "top"] (spP K 2 F_law_is_number) :=
  ok_P T.F_law_is_number sc_law_is_number rfl rfl fun cdv A outer s H E hr =>
  (es_cons (es_ret (ev_and (ev_call (ok_law_is_integer T TB) (hr.mono (by decide)) (by rfl) T.g_law_is_integer T.F_law_is_integer.kp T.b_law_is_integer (ea_cons (ev_name (pv 0)) ea_nil) (nlen_cons nlen_nil)) (ev_and (ev_cmp op_le os_le ev_int (ev_name (pv 0)) (nomark _)) (ev_one (ev_cmp op_le os_le (ev_name (pv 0)) (ev_name (pv 1)) (nomark _))))))
  es_nil)
theorem ok_law_decision (T : Tx K mg) (TB : TbOk K mg base) : FnOk P w K mg base CX0 3 T.a_law_decision T.fd_law_decision ["pool"] (spL K 0 F_law_decision) :=
  ok_L T.F_law_decision sc_law_decision rfl rfl fun cdv A outer s H E hr =>
  (es_cons (es_ret (ev_ix ix_seq os_ix (ev_tup (ea_cons (ev_tup (ea_cons ev_str ea_nil)) (ea_cons (ev_tup (ea_cons ev_str ea_nil)) (ea_cons (ev_tup (ea_cons ev_str ea_nil)) (ea_cons (ev_tup (ea_cons ev_str (ea_cons (ev_callL (ok_law_draw T TB) (hr.mono (by decide)) (by rfl) T.g_law_draw T.F_law_draw.kp T.b_law_draw (pv 0) (ea_cons ev_int ea_nil) (nlen_cons nlen_nil)) ea_nil))) ea_nil))))) (ev_callL (ok_law_draw T TB) (hr.mono (by decide)) (by rfl) T.g_law_draw T.F_law_draw.kp T.b_law_draw (pv 0) (ea_cons ev_int ea_nil) (nlen_cons nlen_nil)) (fun _ _ => rfl)))
  es_nil)
theorem ok_law_is_decision (T : Tx K mg) (TB : TbOk K mg base) : FnOk P w K mg base CX0 3 T.a_law_is_decision T.fd_law_is_decision ["value"] (spP K 1 F_law_is_decision) :=
  ok_P T.F_law_is_decision sc_law_is_decision rfl rfl fun cdv A outer s H E hr =>
  (es_cons (es_if (ew_or (et_not (et_tru (ev_isi (T := "tuple") (by decide) (by rfl) T.z_isinstance (ev_name (pv 0)) (pe_bltn (by rfl) T.z_tuple (by decide +kernel) rfl)))) (ew_or (et_cmp (op_eqD hr.units) os_eq (ev_fn cl_len fs_len (by rfl) T.z_len PySem.boot_len (ea_cons (ev_name (pv 0)) ea_nil)) ev_int (nomark _)) (ew_or1 (et_not (et_tru (ev_isi (T := "str") (by decide) (by rfl) T.z_isinstance (ev_ix ix_seq os_ix (ev_name (pv 0)) ev_int (fun _ _ => rfl)) (pe_bltn (by rfl) T.z_str (by decide +kernel) rfl))))))).pt
  (es_cons (es_ret ev_bool)
  es_nil)
  es_nil)
  (es_cons (es_if (et_cmp (op_eqD hr.units) os_eq (ev_ix ix_seq os_ix (ev_name (pv 0)) ev_int (fun _ _ => rfl)) ev_str (nomark _))
  (es_cons (es_ret (ev_and (ev_cmp (op_eqD hr.units) os_eq (ev_fn cl_len fs_len (by rfl) T.z_len PySem.boot_len (ea_cons (ev_name (pv 0)) ea_nil)) ev_int (nomark _)) (ev_one (ev_call (ok_law_is_number T TB) (hr.mono (by decide)) (by rfl) T.g_law_is_number T.F_law_is_number.kp T.b_law_is_number (ea_cons (ev_ix ix_seq os_ix (ev_name (pv 0)) ev_int (fun _ _ => rfl)) (ea_cons ev_int ea_nil)) (nlen_cons (nlen_cons nlen_nil))))))
  es_nil)
  es_nil)
  (es_cons (es_ret (ev_and (ev_cmp (op_eqD hr.units) os_eq (ev_fn cl_len fs_len (by rfl) T.z_len PySem.boot_len (ea_cons (ev_name (pv 0)) ea_nil)) ev_int (nomark _)) (ev_one (ev_cmp (op_mem (u65 hr)) os_mem (ev_ix ix_seq os_ix (ev_name (pv 0)) ev_int (fun _ _ => rfl)) (ev_tup (ea_cons ev_str (ea_cons ev_str ea_nil))) (by rfl)))))
  es_nil)))
theorem ok_law_is_instruction (T : Tx K mg) (TB : TbOk K mg base) : FnOk P w K mg base CX0 4 T.a_law_is_instruction T.fd_law_is_instruction ["value", "at", "many"] (spP K 3 F_law_is_instruction) :=
  ok_P T.F_law_is_instruction sc_law_is_instruction rfl rfl fun cdv A outer s H E hr =>
  (es_cons (es_if (ew_or (et_not (et_tru (ev_isi (T := "tuple") (by decide) (by rfl) T.z_isinstance (ev_name (pv 0)) (pe_bltn (by rfl) T.z_tuple (by decide +kernel) rfl)))) (ew_or (et_cmp op_lt os_lt (ev_fn cl_len fs_len (by rfl) T.z_len PySem.boot_len (ea_cons (ev_name (pv 0)) ea_nil)) ev_int (nomark _)) (ew_or1 (et_not (et_tru (ev_isi (T := "str") (by decide) (by rfl) T.z_isinstance (ev_ix ix_seq os_ix (ev_name (pv 0)) ev_int (fun _ _ => rfl)) (pe_bltn (by rfl) T.z_str (by decide +kernel) rfl))))))).pt
  (es_cons (es_ret ev_bool)
  es_nil)
  es_nil)
  (es_cons (es_if (et_cmp (op_eqD hr.units) os_eq (ev_ix ix_seq os_ix (ev_name (pv 0)) ev_int (fun _ _ => rfl)) ev_str (nomark _))
  (es_cons (es_ret (ev_and (ev_cmp (op_eqD hr.units) os_eq (ev_fn cl_len fs_len (by rfl) T.z_len PySem.boot_len (ea_cons (ev_name (pv 0)) ea_nil)) ev_int (nomark _)) (ev_one (ev_call (ok_law_is_decision T TB) (hr.mono (by decide)) (by rfl) T.g_law_is_decision T.F_law_is_decision.kp T.b_law_is_decision (ea_cons (ev_ix ix_seq os_ix (ev_name (pv 0)) ev_int (fun _ _ => rfl)) ea_nil) (nlen_cons nlen_nil)))))
  es_nil)
  es_nil)
  (es_cons (es_if (et_not (et_tru (ev_call (ok_law_is_number T TB) (hr.mono (by decide)) (by rfl) T.g_law_is_number T.F_law_is_number.kp T.b_law_is_number (ea_cons (ev_ix ix_seq os_ix (ev_name (pv 0)) ev_int (fun _ _ => rfl)) (ea_cons ev_int ea_nil)) (nlen_cons (nlen_cons nlen_nil)))))
  (es_cons (es_ret ev_bool)
  es_nil)
  es_nil)
  (es_cons (es_if (et_cmp (op_mem (u65 hr)) os_mem (ev_ix ix_seq os_ix (ev_name (pv 0)) ev_int (fun _ _ => rfl)) (ev_tup (ea_cons ev_str (ea_cons ev_str ea_nil))) (by rfl))
  (es_cons (es_ret (ev_and (ev_cmp (op_eqD hr.units) os_eq (ev_fn cl_len fs_len (by rfl) T.z_len PySem.boot_len (ea_cons (ev_name (pv 0)) ea_nil)) ev_int (nomark _)) (ev_and (ev_isi (T := "str") (by decide) (by rfl) T.z_isinstance (ev_ix ix_seq os_ix (ev_name (pv 0)) ev_int (fun _ _ => rfl)) (pe_bltn (by rfl) T.z_str (by decide +kernel) rfl)) (ev_and (ev_cmp (op_mem (u65 hr)) os_mem (ev_ix ix_seq os_ix (ev_name (pv 0)) ev_int (fun _ _ => rfl)) (ev_tup (ea_cons ev_str (ea_cons ev_str ea_nil))) (by rfl)) (ev_one (ev_call (ok_law_is_number T TB) (hr.mono (by decide)) (by rfl) T.g_law_is_number T.F_law_is_number.kp T.b_law_is_number (ea_cons (ev_ix ix_seq os_ix (ev_name (pv 0)) ev_int (fun _ _ => rfl)) (ea_cons ev_int ea_nil)) (nlen_cons (nlen_cons nlen_nil))))))))
  es_nil)
  es_nil)
  (es_cons (es_if (et_cmp (op_eqD hr.units) os_eq (ev_ix ix_seq os_ix (ev_name (pv 0)) ev_int (fun _ _ => rfl)) ev_str (nomark _))
  (es_cons (es_ret (ev_and (ev_cmp (op_eqD hr.units) os_eq (ev_fn cl_len fs_len (by rfl) T.z_len PySem.boot_len (ea_cons (ev_name (pv 0)) ea_nil)) ev_int (nomark _)) (ev_and (ev_isi (T := "str") (by decide) (by rfl) T.z_isinstance (ev_ix ix_seq os_ix (ev_name (pv 0)) ev_int (fun _ _ => rfl)) (pe_bltn (by rfl) T.z_str (by decide +kernel) rfl)) (ev_one (ev_cmp (op_mem (u65 hr)) os_mem (ev_ix ix_seq os_ix (ev_name (pv 0)) ev_int (fun _ _ => rfl)) (ev_tup (ea_cons ev_str (ea_cons ev_str (ea_cons ev_str (ea_cons ev_str ea_nil))))) (by rfl))))))
  es_nil)
  es_nil)
  (es_cons (es_if (et_cmp (op_mem (u65 hr)) os_mem (ev_ix ix_seq os_ix (ev_name (pv 0)) ev_int (fun _ _ => rfl)) (ev_tup (ea_cons ev_str (ea_cons ev_str ea_nil))) (by rfl))
  (es_cons (es_ret (ev_and (ev_cmp (op_eqD hr.units) os_eq (ev_fn cl_len fs_len (by rfl) T.z_len PySem.boot_len (ea_cons (ev_name (pv 0)) ea_nil)) ev_int (nomark _)) (ev_one (ev_call (ok_law_is_number T TB) (hr.mono (by decide)) (by rfl) T.g_law_is_number T.F_law_is_number.kp T.b_law_is_number (ea_cons (ev_ix ix_seq os_ix (ev_name (pv 0)) ev_int (fun _ _ => rfl)) (ea_cons ev_int ea_nil)) (nlen_cons (nlen_cons nlen_nil))))))
  es_nil)
  es_nil)
  (es_cons (es_if (ew_or (et_cmp (op_neD hr.units) os_ne (ev_ix ix_seq os_ix (ev_name (pv 0)) ev_int (fun _ _ => rfl)) ev_str (nomark _)) (ew_or (et_cmp (op_neD hr.units) os_ne (ev_fn cl_len fs_len (by rfl) T.z_len PySem.boot_len (ea_cons (ev_name (pv 0)) ea_nil)) ev_int (nomark _)) (ew_or1 (et_not (et_tru (ev_call (ok_law_is_number T TB) (hr.mono (by decide)) (by rfl) T.g_law_is_number T.F_law_is_number.kp T.b_law_is_number (ea_cons (ev_ix ix_seq os_ix (ev_name (pv 0)) ev_int (fun _ _ => rfl)) (ea_cons ev_int ea_nil)) (nlen_cons (nlen_cons nlen_nil)))))))).pt
  (es_cons (es_ret ev_bool)
  es_nil)
  es_nil)
  (es_cons (es_ret (ev_cmp (op_eqD hr.units) os_eq (ev_fn cl_len fs_len (by rfl) T.z_len PySem.boot_len (ea_cons (ev_new (en_comp rfl sc_law_is_instruction.nd (own := [("k", 3)]) (ei_seq (ev_slT (ev_name (pv 0)) (eo_some ev_int) eo_none)) (blkOk_by (N := ["value", "at", "many", "k"]) (sc := defScope s_law_is_instruction) (by decide +kernel)) (fun _ _ _ _ _ => (eg_name sc_law_is_instruction.nd (i := 3) rfl (by first | exact Or.inl rfl | exact Or.inr rfl))) (fun _ _ _ _ _ => (ptst_one (ew_or (et_not (et_tru (ev_call (ok_law_is_number T TB) (hr.mono (by decide)) (by rfl) T.g_law_is_number T.F_law_is_number.kp T.b_law_is_number (ea_cons (ev_name (pv 3)) (ea_cons (ev_op op_sub os_sub (ev_name (pv 2)) ev_int) ea_nil)) (nlen_cons (nlen_cons nlen_nil))))) (ew_or1 (et_cmp op_le os_le (ev_name (pv 3)) (ev_name (pv 1)) (nomark _)))).pt)) (fun _ _ _ _ _ => (ev_name (pv 3))))) ea_nil)) ev_int (nomark _)))
  es_nil))))))))
theorem ok_law_is_program (T : Tx K mg) (TB : TbOk K mg base) : FnOk P w K mg base CX0 5 T.a_law_is_program T.fd_law_is_program ["value"] (spP K 1 F_law_is_program) :=
  ok_P T.F_law_is_program sc_law_is_program rfl rfl fun cdv A outer s H E hr =>
  (es_cons (es_if (ew_or (et_not (et_tru (ev_isi (T := "tuple") (by decide) (by rfl) T.z_isinstance (ev_name (pv 0)) (pe_bltn (by rfl) T.z_tuple (by decide +kernel) rfl)))) (ew_or (et_cmp op_lt os_lt (ev_fn cl_len fs_len (by rfl) T.z_len PySem.boot_len (ea_cons (ev_name (pv 0)) ea_nil)) ev_int (nomark _)) (ew_or1 (et_cmp op_gt os_gt (ev_fn cl_len fs_len (by rfl) T.z_len PySem.boot_len (ea_cons (ev_name (pv 0)) ea_nil)) ev_int (nomark _))))).pt
  (es_cons (es_ret ev_bool)
  es_nil)
  es_nil)
  (es_cons (es_ret (ev_cmp (op_eqD hr.units) os_eq (ev_fn cl_len fs_len (by rfl) T.z_len PySem.boot_len (ea_cons (ev_new (en_comp rfl sc_law_is_program.nd (own := [("at", 1)]) (ei_rng1 (by rfl) T.z_range (ea_cons (ev_fn cl_len fs_len (by rfl) T.z_len PySem.boot_len (ea_cons (ev_name (pv 0)) ea_nil)) ea_nil)) (blkOk_by (N := ["value", "at"]) (sc := defScope s_law_is_program) (by decide +kernel)) (fun _ _ _ _ _ => (eg_name sc_law_is_program.nd (i := 1) rfl (by first | exact Or.inl rfl | exact Or.inr rfl))) (fun _ _ _ _ _ => (ptst_one (et_not (et_tru (ev_call (ok_law_is_instruction T TB) (hr.mono (by decide)) (by rfl) T.g_law_is_instruction T.F_law_is_instruction.kp T.b_law_is_instruction (ea_cons (ev_ix ix_seq os_ix (ev_name (pv 0)) (ev_name (pv 1)) (fun _ _ => rfl)) (ea_cons (ev_name (pv 1)) (ea_cons (ev_fn cl_len fs_len (by rfl) T.z_len PySem.boot_len (ea_cons (ev_name (pv 0)) ea_nil)) ea_nil))) (nlen_cons (nlen_cons (nlen_cons nlen_nil)))))))) (fun _ _ _ _ _ => (ev_name (pv 1))))) ea_nil)) ev_int (nomark _)))
  es_nil))
theorem ok_law_instruction (T : Tx K mg) (TB : TbOk K mg base) : FnOk P w K mg base CX0 4 T.a_law_instruction T.fd_law_instruction ["pool", "at", "many"] (spL K 2 F_law_instruction) :=
  ok_L T.F_law_instruction sc_law_instruction rfl rfl fun cdv A outer s H E hr =>
  (es_cons (es_set sc_law_instruction.nd (i := 3) rfl (by first | exact Or.inl rfl | exact Or.inr rfl) (ev_ix ix_seq os_ix (ev_tup (ea_cons ev_int (ea_cons ev_int (ea_cons ev_int (ea_cons ev_int (ea_cons ev_int (ea_cons ev_int ea_nil))))))) (ev_callL (ok_law_draw T TB) (hr.mono (by decide)) (by rfl) T.g_law_draw T.F_law_draw.kp T.b_law_draw (pv 0) (ea_cons ev_int ea_nil) (nlen_cons nlen_nil)) (fun _ _ => rfl)))
  (es_cons (es_set sc_law_instruction.nd (i := 4) rfl (by first | exact Or.inl rfl | exact Or.inr rfl) (ev_callL (ok_law_draw T TB) (hr.mono (by decide)) (by rfl) T.g_law_draw T.F_law_draw.kp T.b_law_draw (pv 0) (ea_cons ev_int ea_nil) (nlen_cons nlen_nil)))
  (es_cons (es_if (ew_or (et_cmp (op_eqD hr.units) os_eq (ev_name (pv 4)) ev_int (nomark _)) (ew_or1 (et_cmp (op_eqD hr.units) os_eq (ev_name (pv 1)) (ev_op op_sub os_sub (ev_name (pv 2)) ev_int) (nomark _)))).pt
  (es_cons (es_ret (ev_tup (ea_cons ev_str (ea_cons (ev_callL (ok_law_decision T TB) (hr.mono (by decide)) (by rfl) T.g_law_decision T.F_law_decision.kp T.b_law_decision (pv 0) ea_nil nlen_nil) ea_nil))))
  es_nil)
  es_nil)
  (es_cons (es_if (et_cmp (op_eqD hr.units) os_eq (ev_name (pv 4)) ev_int (nomark _))
  (es_cons (es_ret (ev_tup (ea_cons ev_str (ea_cons (ev_name (pv 3)) (ea_cons (ev_ix ix_seq os_ix (ev_tup (ea_cons ev_str (ea_cons ev_str ea_nil))) (ev_callL (ok_law_draw T TB) (hr.mono (by decide)) (by rfl) T.g_law_draw T.F_law_draw.kp T.b_law_draw (pv 0) (ea_cons ev_int ea_nil) (nlen_cons nlen_nil)) (fun _ _ => rfl)) (ea_cons (ev_ix ix_seq os_ix (ev_tup (ea_cons ev_int (ea_cons ev_int (ea_cons ev_int (ea_cons ev_int (ea_cons ev_int (ea_cons ev_int (ea_cons ev_int (ea_cons ev_int (ea_cons ev_int (ea_cons (ev_callL (ok_law_draw T TB) (hr.mono (by decide)) (by rfl) T.g_law_draw T.F_law_draw.kp T.b_law_draw (pv 0) (ea_cons ev_int ea_nil) (nlen_cons nlen_nil)) (ea_cons (ev_callL (ok_law_draw T TB) (hr.mono (by decide)) (by rfl) T.g_law_draw T.F_law_draw.kp T.b_law_draw (pv 0) (ea_cons ev_int ea_nil) (nlen_cons nlen_nil)) ea_nil)))))))))))) (ev_callL (ok_law_draw T TB) (hr.mono (by decide)) (by rfl) T.g_law_draw T.F_law_draw.kp T.b_law_draw (pv 0) (ea_cons ev_int ea_nil) (nlen_cons nlen_nil)) (fun _ _ => rfl)) ea_nil))))))
  es_nil)
  es_nil)
  (es_cons (es_if (et_cmp (op_eqD hr.units) os_eq (ev_name (pv 4)) ev_int (nomark _))
  (es_cons (es_ret (ev_tup (ea_cons ev_str (ea_cons (ev_name (pv 3)) (ea_cons (ev_ix ix_seq os_ix (ev_tup (ea_cons ev_str (ea_cons ev_str ea_nil))) (ev_callL (ok_law_draw T TB) (hr.mono (by decide)) (by rfl) T.g_law_draw T.F_law_draw.kp T.b_law_draw (pv 0) (ea_cons ev_int ea_nil) (nlen_cons nlen_nil)) (fun _ _ => rfl)) (ea_cons (ev_ix ix_seq os_ix (ev_tup (ea_cons ev_int (ea_cons ev_int (ea_cons ev_int (ea_cons ev_int (ea_cons (ev_callL (ok_law_draw T TB) (hr.mono (by decide)) (by rfl) T.g_law_draw T.F_law_draw.kp T.b_law_draw (pv 0) (ea_cons ev_int ea_nil) (nlen_cons nlen_nil)) ea_nil)))))) (ev_callL (ok_law_draw T TB) (hr.mono (by decide)) (by rfl) T.g_law_draw T.F_law_draw.kp T.b_law_draw (pv 0) (ea_cons ev_int ea_nil) (nlen_cons nlen_nil)) (fun _ _ => rfl)) ea_nil))))))
  es_nil)
  es_nil)
  (es_cons (es_if (et_cmp (op_eqD hr.units) os_eq (ev_name (pv 4)) ev_int (nomark _))
  (es_cons (es_ret (ev_tup (ea_cons ev_str (ea_cons (ev_name (pv 3)) (ea_cons (ev_ix ix_seq os_ix (ev_tup (ea_cons ev_str (ea_cons ev_str (ea_cons ev_str (ea_cons ev_str ea_nil))))) (ev_callL (ok_law_draw T TB) (hr.mono (by decide)) (by rfl) T.g_law_draw T.F_law_draw.kp T.b_law_draw (pv 0) (ea_cons ev_int ea_nil) (nlen_cons nlen_nil)) (fun _ _ => rfl)) ea_nil)))))
  es_nil)
  es_nil)
  (es_cons (es_if (et_cmp (op_eqD hr.units) os_eq (ev_name (pv 4)) ev_int (nomark _))
  (es_cons (es_ret (ev_ix ix_seq os_ix (ev_tup (ea_cons (ev_tup (ea_cons ev_str (ea_cons (ev_name (pv 3)) (ea_cons (ev_callL (ok_law_draw T TB) (hr.mono (by decide)) (by rfl) T.g_law_draw T.F_law_draw.kp T.b_law_draw (pv 0) (ea_cons ev_int ea_nil) (nlen_cons nlen_nil)) ea_nil)))) (ea_cons (ev_tup (ea_cons ev_str (ea_cons (ev_name (pv 3)) (ea_cons (ev_ix ix_seq os_ix (ev_tup (ea_cons ev_int (ea_cons ev_int (ea_cons ev_int (ea_cons ev_int (ea_cons ev_int ea_nil)))))) (ev_callL (ok_law_draw T TB) (hr.mono (by decide)) (by rfl) T.g_law_draw T.F_law_draw.kp T.b_law_draw (pv 0) (ea_cons ev_int ea_nil) (nlen_cons nlen_nil)) (fun _ _ => rfl)) ea_nil)))) ea_nil))) (ev_callL (ok_law_draw T TB) (hr.mono (by decide)) (by rfl) T.g_law_draw T.F_law_draw.kp T.b_law_draw (pv 0) (ea_cons ev_int ea_nil) (nlen_cons nlen_nil)) (fun _ _ => rfl)))
  es_nil)
  es_nil)
  (es_cons (es_set sc_law_instruction.nd (i := 5) rfl (by first | exact Or.inl rfl | exact Or.inr rfl) (ev_ix ix_seq os_ix (ev_tup (ea_cons ev_int (ea_cons ev_int (ea_cons ev_int (ea_cons ev_int (ea_cons ev_int (ea_cons ev_int (ea_cons ev_int (ea_cons (ev_callL (ok_law_draw T TB) (hr.mono (by decide)) (by rfl) T.g_law_draw T.F_law_draw.kp T.b_law_draw (pv 0) (ea_cons ev_int ea_nil) (nlen_cons nlen_nil)) ea_nil))))))))) (ev_callL (ok_law_draw T TB) (hr.mono (by decide)) (by rfl) T.g_law_draw T.F_law_draw.kp T.b_law_draw (pv 0) (ea_cons ev_int ea_nil) (nlen_cons nlen_nil)) (fun _ _ => rfl)))
  (es_cons (es_ret (ev_tup (ea_cons ev_str (ea_cons (ev_name (pv 3)) (ea_cons (ev_name (pv 5)) (ea_cons (ev_op op_addD os_add (ev_op op_addD os_add (ev_name (pv 1)) ev_int) (ev_callL (ok_law_draw T TB) (hr.mono (by decide)) (by rfl) T.g_law_draw T.F_law_draw.kp T.b_law_draw (pv 0) (ea_cons (ev_op op_sub os_sub (ev_op op_sub os_sub (ev_name (pv 2)) ev_int) (ev_name (pv 1))) ea_nil) (nlen_cons nlen_nil))) (ea_cons (ev_op op_addD os_add (ev_op op_addD os_add (ev_name (pv 1)) ev_int) (ev_callL (ok_law_draw T TB) (hr.mono (by decide)) (by rfl) T.g_law_draw T.F_law_draw.kp T.b_law_draw (pv 0) (ea_cons (ev_op op_sub os_sub (ev_op op_sub os_sub (ev_name (pv 2)) ev_int) (ev_name (pv 1))) ea_nil) (nlen_cons nlen_nil))) ea_nil)))))))
  es_nil)))))))))
theorem ok_law_program (T : Tx K mg) (TB : TbOk K mg base) : FnOk P w K mg base CX0 6 T.a_law_program T.fd_law_program ["pool", "most"] (spL K 1 F_law_program) :=
  ok_L T.F_law_program sc_law_program rfl rfl fun cdv A outer s H E hr =>
  (es_cons (es_set sc_law_program.nd (i := 2) rfl (by first | exact Or.inl rfl | exact Or.inr rfl) (ev_op op_addD os_add ev_int (ev_callL (ok_law_draw T TB) (hr.mono (by decide)) (by rfl) T.g_law_draw T.F_law_draw.kp T.b_law_draw (pv 0) (ea_cons (ev_name (pv 1)) ea_nil) (nlen_cons nlen_nil))))
  (es_cons (es_setL sc_law_program.nd (i := 3) rfl (by first | exact Or.inl rfl | exact Or.inr rfl) (en_lst ea_nil))
  (es_cons (es_for PassesOwn.never rfl (ei_rng1 (by rfl) T.z_range (ea_cons (ev_name (pv 2)) ea_nil)) (eg_name sc_law_program.nd (i := 4) rfl (by first | exact Or.inl rfl | exact Or.inr rfl))
  (es_cons (es_if (ew_and (et_cmp op_lt os_lt (ev_name (pv 4)) ev_int (nomark _)) (ew_and1 (et_cmp op_gt os_gt (ev_name (pv 2)) ev_int (nomark _)))).pt
  (es_cons (es_app (pv 3) (ev_ix ix_seq os_ix (ev_tup (ea_cons (ev_tup (ea_cons ev_str (ea_cons (ev_name (pv 4)) (ea_cons ev_str ea_nil)))) (ea_cons (ev_tup (ea_cons ev_str (ea_cons (ev_name (pv 4)) (ea_cons ev_str (ea_cons ev_int ea_nil))))) (ea_cons (ev_tup (ea_cons ev_str (ea_cons (ev_name (pv 4)) (ea_cons ev_str (ea_cons ev_int ea_nil))))) (ea_cons (ev_tup (ea_cons ev_str (ea_cons (ev_name (pv 4)) (ea_cons ev_str ea_nil)))) ea_nil))))) (ev_callL (ok_law_draw T TB) (hr.mono (by decide)) (by rfl) T.g_law_draw T.F_law_draw.kp T.b_law_draw (pv 0) (ea_cons ev_int ea_nil) (nlen_cons nlen_nil)) (fun _ _ => rfl)))
  es_nil)
  (es_cons (es_app (pv 3) (ev_callL (ok_law_instruction T TB) (hr.mono (by decide)) (by rfl) T.g_law_instruction T.F_law_instruction.kp T.b_law_instruction (pv 0) (ea_cons (ev_name (pv 4)) (ea_cons (ev_name (pv 2)) ea_nil)) (nlen_cons (nlen_cons nlen_nil))))
  es_nil))
  es_nil))
  (es_cons (es_if (ew_and (et_cmp op_gt os_gt (ev_name (pv 2)) ev_int (nomark _)) (ew_and (et_cmp (op_eqD hr.units) os_eq (ev_callL (ok_law_draw T TB) (hr.mono (by decide)) (by rfl) T.g_law_draw T.F_law_draw.kp T.b_law_draw (pv 0) (ea_cons ev_int ea_nil) (nlen_cons nlen_nil)) ev_int (nomark _)) (ew_and1 (et_tru (ev_call (ok_law_is_program T TB) (hr.mono (by decide)) (by rfl) T.g_law_is_program T.F_law_is_program.kp T.b_law_is_program (ea_cons (ev_fnT call_tuple_of fs_tup (by rfl) T.z_tuple PyProof.Rows.boot_tuple (ea_cons (ev_new (en_sl (ev_frz2 (pv 3)) eo_none (eo_some (ev_un un_neg us_neg ev_int)))) ea_nil)) ea_nil) (nlen_cons nlen_nil)))))).pt
  (es_cons (es_setL sc_law_program.nd (i := 3) rfl (by first | exact Or.inl rfl | exact Or.inr rfl) (en_sl (ev_frz2 (pv 3)) eo_none (eo_some (ev_un un_neg us_neg ev_int))))
  es_nil)
  es_nil)
  (es_cons (es_ret (ev_fnT call_tuple_of fs_tup (by rfl) T.z_tuple PyProof.Rows.boot_tuple (ea_cons (ev_frz2 (pv 3)) ea_nil)))
  es_nil)))))
theorem ok_law (T : Tx K mg) (TB : TbOk K mg base) : FnQ P w K mg base 44 T.a_law T.fd_law ["script"] (spP K 1 F_law) :=
  okq_P T.F_law sc_law rfl rfl fun cdv A outer s H E hg hr =>
  (es_cons (es_setL sc_law.nd (i := 1) rfl (by first | exact Or.inl rfl | exact Or.inr rfl) (en_call (ok_law_pool T TB) (hr.mono (by decide)) (by rfl) T.g_law_pool T.F_law_pool.kp T.b_law_pool (ea_cons (ev_name (pv 0)) ea_nil) (nlen_cons nlen_nil)))
  (es_cons (es_set sc_law.nd (i := 2) rfl (by first | exact Or.inl rfl | exact Or.inr rfl) (ev_callL (ok_law_program T TB) (hr.mono (by decide)) (by rfl) T.g_law_program T.F_law_program.kp T.b_law_program (pv 1) (ea_cons ev_int ea_nil) (nlen_cons nlen_nil)))
  (es_cons (es_set sc_law.nd (i := 3) rfl (by first | exact Or.inl rfl | exact Or.inr rfl) (ev_tup (ea_cons ev_str (ea_cons (ev_tup (ea_cons ev_str ea_nil)) ea_nil))))
  (es_cons (es_set sc_law.nd (i := 4) rfl (by first | exact Or.inl rfl | exact Or.inr rfl) (ev_new (en_lst (ea_cons (ev_tup (ea_cons ev_str (ea_cons ev_int (ea_cons ev_str (ea_cons ev_int ea_nil))))) (ea_cons (ev_tup (ea_cons ev_str (ea_cons ev_int (ea_cons ev_str (ea_cons ev_int ea_nil))))) (ea_cons (ev_tup (ea_cons ev_str (ea_cons ev_int (ea_cons ev_str (ea_cons ev_int ea_nil))))) (ea_cons (ev_tup (ea_cons ev_str (ea_cons ev_int (ea_cons ev_str (ea_cons ev_int ea_nil))))) (ea_cons (ev_tup (ea_cons ev_str (ea_cons ev_int (ea_cons ev_str (ea_cons ev_int ea_nil))))) (ea_cons (ev_tup (ea_cons ev_str (ea_cons ev_int (ea_cons ev_str ea_nil)))) ea_nil)))))))))
  (es_cons (es_set sc_law.nd (i := 4) rfl (by first | exact Or.inl rfl | exact Or.inr rfl) (ev_op op_addD os_add (ev_name (pv 4)) (ev_new (en_lst (ea_cons (ev_tup (ea_cons ev_str (ea_cons ev_int (ea_cons ev_str ea_nil)))) (ea_cons (ev_tup (ea_cons ev_str (ea_cons ev_int (ea_cons ev_str ea_nil)))) (ea_cons (ev_tup (ea_cons ev_str (ea_cons ev_int (ea_cons ev_none ea_nil)))) (ea_cons (ev_tup (ea_cons ev_str (ea_cons ev_int (ea_cons ev_int ea_nil)))) (ea_cons (ev_tup (ea_cons ev_str (ea_cons ev_int (ea_cons ev_int ea_nil)))) (ea_cons (ev_tup (ea_cons ev_str (ea_cons ev_int (ea_cons (ev_un un_neg us_neg ev_int) ea_nil)))) (ea_cons (ev_tup (ea_cons ev_str (ea_cons ev_int (ea_cons ev_bool ea_nil)))) ea_nil)))))))))))
  (es_cons (es_set sc_law.nd (i := 4) rfl (by first | exact Or.inl rfl | exact Or.inr rfl) (ev_op op_addD os_add (ev_name (pv 4)) (ev_new (en_lst (ea_cons (ev_tup (ea_cons ev_str (ea_cons ev_bool (ea_cons ev_int ea_nil)))) (ea_cons (ev_tup (ea_cons ev_str (ea_cons ev_int (ea_cons ev_int ea_nil)))) ea_nil))))))
  (es_cons (es_set sc_law.nd (i := 4) rfl (by first | exact Or.inl rfl | exact Or.inr rfl) (ev_op op_addD os_add (ev_name (pv 4)) (ev_new (en_lst (ea_cons (ev_tup (ea_cons ev_str (ea_cons ev_int (ea_cons ev_int (ea_cons ev_int (ea_cons ev_int ea_nil)))))) (ea_cons (ev_tup (ea_cons ev_str (ea_cons ev_int (ea_cons ev_int (ea_cons ev_int (ea_cons ev_int ea_nil)))))) (ea_cons (ev_tup (ea_cons ev_str (ea_cons ev_int (ea_cons ev_int (ea_cons ev_int (ea_cons ev_int ea_nil)))))) (ea_cons (ev_tup (ea_cons ev_str (ea_cons ev_int (ea_cons ev_int (ea_cons ev_int (ea_cons ev_int ea_nil)))))) (ea_cons (ev_tup (ea_cons ev_str (ea_cons ev_int (ea_cons ev_int (ea_cons ev_int ea_nil))))) (ea_cons (ev_tup (ea_cons ev_str (ea_cons ev_int (ea_cons ev_int (ea_cons ev_int (ea_cons ev_int (ea_cons ev_int ea_nil))))))) ea_nil))))))))))
  (es_cons (es_set sc_law.nd (i := 4) rfl (by first | exact Or.inl rfl | exact Or.inr rfl) (ev_op op_addD os_add (ev_name (pv 4)) (ev_new (en_lst (ea_cons (ev_tup (ea_cons ev_str (ea_cons ev_int (ea_cons ev_int (ea_cons ev_bool (ea_cons ev_int ea_nil)))))) (ea_cons (ev_tup (ea_cons ev_str (ea_cons (ev_tup (ea_cons ev_str ea_nil)) ea_nil))) (ea_cons (ev_tup (ea_cons ev_str (ea_cons (ev_tup (ea_cons ev_str (ea_cons ev_int ea_nil))) ea_nil))) (ea_cons (ev_tup (ea_cons ev_str ea_nil)) (ea_cons (ev_tup (ea_cons ev_str (ea_cons (ev_tup (ea_cons ev_str ea_nil)) (ea_cons ev_int ea_nil)))) (ea_cons (ev_tup (ea_cons ev_str (ea_cons ev_int ea_nil))) (ea_cons (ev_tup ea_nil) (ea_cons ev_none (ea_cons (ev_new (en_lst (ea_cons ev_str (ea_cons ev_int (ea_cons ev_int ea_nil))))) ea_nil)))))))))))))
  (es_cons (es_set sc_law.nd (i := 4) rfl (by first | exact Or.inl rfl | exact Or.inr rfl) (ev_op op_addD os_add (ev_name (pv 4)) (ev_new (en_lst (ea_cons (ev_tup (ea_cons ev_none (ea_cons ev_int (ea_cons ev_int ea_nil)))) ea_nil)))))
  (es_cons (es_set sc_law.nd (i := 5) rfl (by first | exact Or.inl rfl | exact Or.inr rfl) (ev_new (en_lst (ea_cons (ev_name (pv 2)) (ea_cons (ev_new (en_fnT call_list_of fn_list (by rfl) T.z_list PyProof.Rows.boot_list (ea_cons (ev_name (pv 2)) ea_nil))) (ea_cons (ev_call (ok_law_booled T TB 40) (hr.mono (by decide)) (by rfl) T.g_law_booled T.F_law_booled.kp T.b_law_booled (ea_cons (ev_name (pv 2)) ea_nil) (nlen_cons nlen_nil)) (ea_cons (ev_call (ok_law_listed T TB 40) (hr.mono (by decide)) (by rfl) T.g_law_listed T.F_law_listed.kp T.b_law_listed (ea_cons (ev_name (pv 2)) (ea_cons ev_int ea_nil)) (nlen_cons (nlen_cons nlen_nil))) (ea_cons (ev_tup ea_nil) (ea_cons (ev_op op_repT2 os_repT (ev_tup (ea_cons (ev_name (pv 3)) ea_nil)) ev_int) (ea_cons (ev_op op_repT2 os_repT (ev_tup (ea_cons (ev_name (pv 3)) ea_nil)) ev_int) (ea_cons (ev_op op_addD os_add (ev_name (pv 2)) (ev_tup (ea_cons ev_none ea_nil))) ea_nil)))))))))))
  (es_cons (es_set sc_law.nd (i := 5) rfl (by first | exact Or.inl rfl | exact Or.inr rfl) (ev_op op_addD os_add (ev_name (pv 5)) (ev_new (en_lst (ea_cons (ev_op op_addD os_add (ev_slT (ev_name (pv 2)) eo_none (eo_some (ev_un un_neg us_neg ev_int))) (ev_tup (ea_cons (ev_tup (ea_cons ev_str (ea_cons ev_int (ea_cons ev_int (ea_cons (ev_fn cl_len fs_len (by rfl) T.z_len PySem.boot_len (ea_cons (ev_name (pv 2)) ea_nil)) (ea_cons (ev_fn cl_len fs_len (by rfl) T.z_len PySem.boot_len (ea_cons (ev_name (pv 2)) ea_nil)) ea_nil)))))) ea_nil))) ea_nil)))))
  (es_cons (es_set sc_law.nd (i := 5) rfl (by first | exact Or.inl rfl | exact Or.inr rfl) (ev_op op_addD os_add (ev_op op_addD os_add (ev_name (pv 5)) (ev_new (en_comp rfl sc_law.nd (own := [("step", 9)]) (ei_seq (ev_name (pv 4))) (blkOk_by (N := ["script", "pool", "program", "end", "odd", "tried", "value", "due", "kept", "step", "k"]) (sc := defScope s_law) (by decide +kernel)) (fun _ _ _ _ _ => (eg_name sc_law.nd (i := 9) rfl (by first | exact Or.inl rfl | exact Or.inr rfl))) (fun _ _ _ _ _ => ptst_nil) (fun _ _ _ _ _ => (ev_tup (ea_cons (ev_name (pv 9)) (ea_cons (ev_name (pv 3)) ea_nil))))))) (ev_new (en_comp rfl sc_law.nd (own := [("step", 9)]) (ei_seq (ev_name (pv 4))) (blkOk_by (N := ["script", "pool", "program", "end", "odd", "tried", "value", "due", "kept", "step", "k"]) (sc := defScope s_law) (by decide +kernel)) (fun _ _ _ _ _ => (eg_name sc_law.nd (i := 9) rfl (by first | exact Or.inl rfl | exact Or.inr rfl))) (fun _ _ _ _ _ => ptst_nil) (fun _ _ _ _ _ => (ev_tup (ea_cons (ev_name (pv 9)) ea_nil)))))))
  (es_cons (es_for PassesOwn.never rfl (ei_seq (ev_op op_addD os_add (ev_name (pv 5)) (ev_new (en_comp rfl sc_law.nd (own := [("k", 10)]) (ei_rng1 (by rfl) T.z_range (ea_cons ev_int ea_nil)) (blkOk_by (N := ["script", "pool", "program", "end", "odd", "tried", "value", "due", "kept", "step", "k"]) (sc := defScope s_law) (by decide +kernel)) (fun _ _ _ _ _ => (eg_name sc_law.nd (i := 10) rfl (by first | exact Or.inl rfl | exact Or.inr rfl))) (fun _ _ _ _ _ => ptst_nil) (fun _ _ _ _ _ => (ev_callL (ok_law_bent T TB 40) (hr.mono (by decide)) (by rfl) T.g_law_bent T.F_law_bent.kp T.b_law_bent (pv 1) (ea_cons (ev_name (pv 2)) ea_nil) (nlen_cons nlen_nil))))))) (eg_name sc_law.nd (i := 6) rfl (by first | exact Or.inl rfl | exact Or.inr rfl))
  (es_cons (es_set sc_law.nd (i := 7) rfl (by first | exact Or.inl rfl | exact Or.inr rfl) (ev_call (ok_law_is_program T TB) (hr.mono (by decide)) (by rfl) T.g_law_is_program T.F_law_is_program.kp T.b_law_is_program (ea_cons (ev_name (pv 6)) ea_nil) (nlen_cons nlen_nil)))
  (es_cons (es_set sc_law.nd (i := 8) rfl (by first | exact Or.inl rfl | exact Or.inr rfl) (ev_fn (call_repr hg (u66 hr)) fs_repr (by rfl) T.z_repr (by decide +kernel) (ea_cons (ev_name (pv 6)) ea_nil)))
  (es_cons (es_if (ew_or (et_not (et_tru (ev_call (ok_law_same T TB 40) (hr.mono (by decide)) (by rfl) T.g_law_same T.F_law_same.kp T.b_law_same (ea_cons (ev_call (ok_is_program T TB) (hr.mono (by decide)) (by rfl) T.g_is_program T.F_is_program.kp T.b_is_program (ea_cons (ev_name (pv 6)) ea_nil) (nlen_cons nlen_nil)) (ea_cons (ev_name (pv 7)) ea_nil)) (nlen_cons (nlen_cons nlen_nil))))) (ew_or1 (et_cmp op_ne os_neS (ev_fn (call_repr hg (u66 hr)) fs_repr (by rfl) T.z_repr (by decide +kernel) (ea_cons (ev_name (pv 6)) ea_nil)) (ev_name (pv 8)) (by rfl)))).pt
  (es_cons (es_ret ev_bool)
  es_nil)
  es_nil)
  es_nil))))
  (es_cons (es_ret ev_bool)
  es_nil))))))))))))))
end

theorem all_mk {l : PySem.W.OpenLaw} {w : World} {K : PySem.W.Frag} {h : Heap} {mg : Str → Option Value} {fa : Addr} (X : K.In h) (G : h.Ns mainGlobals mg) (hfa : mg "law" = some (.ref fa))
    {f_is_number : Addr} {od_is_number an_is_number : Option Addr} {sl_is_number : Array (Option Value)} {oc_is_number kV_is_number dc_is_number pm_is_number cd_is_number ct_is_number : Value}
    {f_first_text : Addr} {od_first_text an_first_text : Option Addr} {sl_first_text : Array (Option Value)} {oc_first_text kV_first_text dc_first_text pm_first_text cd_first_text ct_first_text : Value}
    {f_is_decision : Addr} {od_is_decision an_is_decision : Option Addr} {sl_is_decision : Array (Option Value)} {oc_is_decision kV_is_decision dc_is_decision pm_is_decision cd_is_decision ct_is_decision : Value}
    {f_is_one_of : Addr} {od_is_one_of an_is_one_of : Option Addr} {sl_is_one_of : Array (Option Value)} {oc_is_one_of kV_is_one_of dc_is_one_of pm_is_one_of cd_is_one_of ct_is_one_of : Value}
    {f_is_instruction : Addr} {od_is_instruction an_is_instruction : Option Addr} {sl_is_instruction : Array (Option Value)} {oc_is_instruction kV_is_instruction dc_is_instruction pm_is_instruction ct_is_instruction : Value}{cc_is_instruction pp_is_instruction : Addr}{xe_is_instruction : Value} {xd_is_instruction : Option Addr} {xv_is_instruction : Array Value} {xs_is_instruction : Array (Option Value)}
    {f_is_program : Addr} {od_is_program an_is_program : Option Addr} {sl_is_program : Array (Option Value)} {oc_is_program kV_is_program dc_is_program pm_is_program ct_is_program : Value}{cc_is_program pp_is_program : Addr}{xe_is_program : Value} {xd_is_program : Option Addr} {xv_is_program : Array Value} {xs_is_program : Array (Option Value)}
    {f_law_same : Addr} {od_law_same an_law_same : Option Addr} {sl_law_same : Array (Option Value)} {oc_law_same kV_law_same dc_law_same pm_law_same cd_law_same ct_law_same : Value}
    {f_law_is_integer : Addr} {od_law_is_integer an_law_is_integer : Option Addr} {sl_law_is_integer : Array (Option Value)} {oc_law_is_integer kV_law_is_integer dc_law_is_integer pm_law_is_integer cd_law_is_integer ct_law_is_integer : Value}
    {f_law_pool : Addr} {od_law_pool an_law_pool : Option Addr} {sl_law_pool : Array (Option Value)} {oc_law_pool kV_law_pool dc_law_pool pm_law_pool cd_law_pool ct_law_pool : Value}
    {f_law_spread : Addr} {od_law_spread an_law_spread : Option Addr} {sl_law_spread : Array (Option Value)} {oc_law_spread kV_law_spread dc_law_spread pm_law_spread cd_law_spread ct_law_spread : Value}
    {f_law_draw : Addr} {od_law_draw an_law_draw : Option Addr} {sl_law_draw : Array (Option Value)} {oc_law_draw kV_law_draw dc_law_draw pm_law_draw cd_law_draw ct_law_draw : Value}
    {f_law_bent : Addr} {od_law_bent an_law_bent : Option Addr} {sl_law_bent : Array (Option Value)} {oc_law_bent kV_law_bent dc_law_bent pm_law_bent cd_law_bent ct_law_bent : Value}
    {f_law_booled : Addr} {od_law_booled an_law_booled : Option Addr} {sl_law_booled : Array (Option Value)} {oc_law_booled kV_law_booled dc_law_booled pm_law_booled cd_law_booled ct_law_booled : Value}
    {f_law_listed : Addr} {od_law_listed an_law_listed : Option Addr} {sl_law_listed : Array (Option Value)} {oc_law_listed kV_law_listed dc_law_listed pm_law_listed cd_law_listed ct_law_listed : Value}
    {f_law_is_number : Addr} {od_law_is_number an_law_is_number : Option Addr} {sl_law_is_number : Array (Option Value)} {oc_law_is_number kV_law_is_number dc_law_is_number pm_law_is_number cd_law_is_number ct_law_is_number : Value}
    {f_law_decision : Addr} {od_law_decision an_law_decision : Option Addr} {sl_law_decision : Array (Option Value)} {oc_law_decision kV_law_decision dc_law_decision pm_law_decision cd_law_decision ct_law_decision : Value}
    {f_law_is_decision : Addr} {od_law_is_decision an_law_is_decision : Option Addr} {sl_law_is_decision : Array (Option Value)} {oc_law_is_decision kV_law_is_decision dc_law_is_decision pm_law_is_decision cd_law_is_decision ct_law_is_decision : Value}
    {f_law_is_instruction : Addr} {od_law_is_instruction an_law_is_instruction : Option Addr} {sl_law_is_instruction : Array (Option Value)} {oc_law_is_instruction kV_law_is_instruction dc_law_is_instruction pm_law_is_instruction cd_law_is_instruction ct_law_is_instruction : Value}
    {f_law_is_program : Addr} {od_law_is_program an_law_is_program : Option Addr} {sl_law_is_program : Array (Option Value)} {oc_law_is_program kV_law_is_program dc_law_is_program pm_law_is_program cd_law_is_program ct_law_is_program : Value}
    {f_law_instruction : Addr} {od_law_instruction an_law_instruction : Option Addr} {sl_law_instruction : Array (Option Value)} {oc_law_instruction kV_law_instruction dc_law_instruction pm_law_instruction cd_law_instruction ct_law_instruction : Value}
    {f_law_program : Addr} {od_law_program an_law_program : Option Addr} {sl_law_program : Array (Option Value)} {oc_law_program kV_law_program dc_law_program pm_law_program cd_law_program ct_law_program : Value}
    {f_law : Addr} {od_law an_law : Option Addr} {sl_law : Array (Option Value)} {oc_law kV_law dc_law pm_law cd_law ct_law : Value}
    {t_CODE_TOP : Tok}
    {t_GREATEST_LENGTH : Tok}
    {t_MOST_HELD : Tok}
    {t_MOST_INSTRUCTIONS : Tok}
    {t_NUMBER_TOP : Tok}
    {d_BASES : Addr} {es_BASES : Array Value} {n_BASES : Nat}
    {d_SPECIALS : Addr} {es_SPECIALS : Array Value} {n_SPECIALS : Nat}
    (a_is_number : PySem.W.nsIn K mainGlobals "is_number" = some (some (.ref f_is_number))) (l_is_number : K.lookup f_is_number = some ⟨oc_is_number, od_is_number, .func (PySem.W.fnOf "is_number" "is_number" (defArgs s_is_number) (defBody s_is_number) (defScope s_is_number) .none kV_is_number dc_is_number pm_is_number an_is_number cd_is_number ct_is_number), sl_is_number⟩) (c_is_number : PySem.W.codeIn K cd_is_number "is_number" = true) (k_is_number : PySem.W.keepIn K (.ref f_is_number) = true)
    (a_first_text : PySem.W.nsIn K mainGlobals "first_text" = some (some (.ref f_first_text))) (l_first_text : K.lookup f_first_text = some ⟨oc_first_text, od_first_text, .func (PySem.W.fnOf "first_text" "first_text" (defArgs s_first_text) (defBody s_first_text) (defScope s_first_text) .none kV_first_text dc_first_text pm_first_text an_first_text cd_first_text ct_first_text), sl_first_text⟩) (c_first_text : PySem.W.codeIn K cd_first_text "first_text" = true) (k_first_text : PySem.W.keepIn K (.ref f_first_text) = true)
    (a_is_decision : PySem.W.nsIn K mainGlobals "is_decision" = some (some (.ref f_is_decision))) (l_is_decision : K.lookup f_is_decision = some ⟨oc_is_decision, od_is_decision, .func (PySem.W.fnOf "is_decision" "is_decision" (defArgs s_is_decision) (defBody s_is_decision) (defScope s_is_decision) .none kV_is_decision dc_is_decision pm_is_decision an_is_decision cd_is_decision ct_is_decision), sl_is_decision⟩) (c_is_decision : PySem.W.codeIn K cd_is_decision "is_decision" = true) (k_is_decision : PySem.W.keepIn K (.ref f_is_decision) = true)
    (a_is_one_of : PySem.W.nsIn K mainGlobals "_is_one_of" = some (some (.ref f_is_one_of))) (l_is_one_of : K.lookup f_is_one_of = some ⟨oc_is_one_of, od_is_one_of, .func (PySem.W.fnOf "_is_one_of" "_is_one_of" (defArgs s_is_one_of) (defBody s_is_one_of) (defScope s_is_one_of) .none kV_is_one_of dc_is_one_of pm_is_one_of an_is_one_of cd_is_one_of ct_is_one_of), sl_is_one_of⟩) (c_is_one_of : PySem.W.codeIn K cd_is_one_of "_is_one_of" = true) (k_is_one_of : PySem.W.keepIn K (.ref f_is_one_of) = true)
    (a_is_instruction : PySem.W.nsIn K mainGlobals "is_instruction" = some (some (.ref f_is_instruction))) (l_is_instruction : K.lookup f_is_instruction = some ⟨oc_is_instruction, od_is_instruction, .func (PySem.W.fnOf "is_instruction" "is_instruction" (defArgs s_is_instruction) (defBody s_is_instruction) (defScope s_is_instruction) .none kV_is_instruction dc_is_instruction pm_is_instruction an_is_instruction (.ref cc_is_instruction) ct_is_instruction), sl_is_instruction⟩) (c_is_instruction : PySem.W.codeIn K (.ref cc_is_instruction) "is_instruction" = true) (k_is_instruction : PySem.W.keepIn K (.ref f_is_instruction) = true) (x_is_instruction : K.lookup cc_is_instruction = some ⟨xe_is_instruction, xd_is_instruction, .fields xv_is_instruction, xs_is_instruction⟩) (p_is_instruction : xv_is_instruction[11]? = some (.ref pp_is_instruction))
    (a_is_program : PySem.W.nsIn K mainGlobals "is_program" = some (some (.ref f_is_program))) (l_is_program : K.lookup f_is_program = some ⟨oc_is_program, od_is_program, .func (PySem.W.fnOf "is_program" "is_program" (defArgs s_is_program) (defBody s_is_program) (defScope s_is_program) .none kV_is_program dc_is_program pm_is_program an_is_program (.ref cc_is_program) ct_is_program), sl_is_program⟩) (c_is_program : PySem.W.codeIn K (.ref cc_is_program) "is_program" = true) (k_is_program : PySem.W.keepIn K (.ref f_is_program) = true) (x_is_program : K.lookup cc_is_program = some ⟨xe_is_program, xd_is_program, .fields xv_is_program, xs_is_program⟩) (p_is_program : xv_is_program[11]? = some (.ref pp_is_program))
    (a_law_same : PySem.W.nsIn K mainGlobals "_law_same" = some (some (.ref f_law_same))) (l_law_same : K.lookup f_law_same = some ⟨oc_law_same, od_law_same, .func (PySem.W.fnOf "_law_same" "_law_same" (defArgs s_law_same) (defBody s_law_same) (defScope s_law_same) .none kV_law_same dc_law_same pm_law_same an_law_same cd_law_same ct_law_same), sl_law_same⟩) (c_law_same : PySem.W.codeIn K cd_law_same "_law_same" = true) (k_law_same : PySem.W.keepIn K (.ref f_law_same) = true)
    (a_law_is_integer : PySem.W.nsIn K mainGlobals "_law_is_integer" = some (some (.ref f_law_is_integer))) (l_law_is_integer : K.lookup f_law_is_integer = some ⟨oc_law_is_integer, od_law_is_integer, .func (PySem.W.fnOf "_law_is_integer" "_law_is_integer" (defArgs s_law_is_integer) (defBody s_law_is_integer) (defScope s_law_is_integer) .none kV_law_is_integer dc_law_is_integer pm_law_is_integer an_law_is_integer cd_law_is_integer ct_law_is_integer), sl_law_is_integer⟩) (c_law_is_integer : PySem.W.codeIn K cd_law_is_integer "_law_is_integer" = true) (k_law_is_integer : PySem.W.keepIn K (.ref f_law_is_integer) = true)
    (a_law_pool : PySem.W.nsIn K mainGlobals "_law_pool" = some (some (.ref f_law_pool))) (l_law_pool : K.lookup f_law_pool = some ⟨oc_law_pool, od_law_pool, .func (PySem.W.fnOf "_law_pool" "_law_pool" (defArgs s_law_pool) (defBody s_law_pool) (defScope s_law_pool) .none kV_law_pool dc_law_pool pm_law_pool an_law_pool cd_law_pool ct_law_pool), sl_law_pool⟩) (c_law_pool : PySem.W.codeIn K cd_law_pool "_law_pool" = true) (k_law_pool : PySem.W.keepIn K (.ref f_law_pool) = true)
    (a_law_spread : PySem.W.nsIn K mainGlobals "_law_spread" = some (some (.ref f_law_spread))) (l_law_spread : K.lookup f_law_spread = some ⟨oc_law_spread, od_law_spread, .func (PySem.W.fnOf "_law_spread" "_law_spread" (defArgs s_law_spread) (defBody s_law_spread) (defScope s_law_spread) .none kV_law_spread dc_law_spread pm_law_spread an_law_spread cd_law_spread ct_law_spread), sl_law_spread⟩) (c_law_spread : PySem.W.codeIn K cd_law_spread "_law_spread" = true) (k_law_spread : PySem.W.keepIn K (.ref f_law_spread) = true)
    (a_law_draw : PySem.W.nsIn K mainGlobals "_law_draw" = some (some (.ref f_law_draw))) (l_law_draw : K.lookup f_law_draw = some ⟨oc_law_draw, od_law_draw, .func (PySem.W.fnOf "_law_draw" "_law_draw" (defArgs s_law_draw) (defBody s_law_draw) (defScope s_law_draw) .none kV_law_draw dc_law_draw pm_law_draw an_law_draw cd_law_draw ct_law_draw), sl_law_draw⟩) (c_law_draw : PySem.W.codeIn K cd_law_draw "_law_draw" = true) (k_law_draw : PySem.W.keepIn K (.ref f_law_draw) = true)
    (a_law_bent : PySem.W.nsIn K mainGlobals "_law_bent" = some (some (.ref f_law_bent))) (l_law_bent : K.lookup f_law_bent = some ⟨oc_law_bent, od_law_bent, .func (PySem.W.fnOf "_law_bent" "_law_bent" (defArgs s_law_bent) (defBody s_law_bent) (defScope s_law_bent) .none kV_law_bent dc_law_bent pm_law_bent an_law_bent cd_law_bent ct_law_bent), sl_law_bent⟩) (c_law_bent : PySem.W.codeIn K cd_law_bent "_law_bent" = true) (k_law_bent : PySem.W.keepIn K (.ref f_law_bent) = true)
    (a_law_booled : PySem.W.nsIn K mainGlobals "_law_booled" = some (some (.ref f_law_booled))) (l_law_booled : K.lookup f_law_booled = some ⟨oc_law_booled, od_law_booled, .func (PySem.W.fnOf "_law_booled" "_law_booled" (defArgs s_law_booled) (defBody s_law_booled) (defScope s_law_booled) .none kV_law_booled dc_law_booled pm_law_booled an_law_booled cd_law_booled ct_law_booled), sl_law_booled⟩) (c_law_booled : PySem.W.codeIn K cd_law_booled "_law_booled" = true) (k_law_booled : PySem.W.keepIn K (.ref f_law_booled) = true)
    (a_law_listed : PySem.W.nsIn K mainGlobals "_law_listed" = some (some (.ref f_law_listed))) (l_law_listed : K.lookup f_law_listed = some ⟨oc_law_listed, od_law_listed, .func (PySem.W.fnOf "_law_listed" "_law_listed" (defArgs s_law_listed) (defBody s_law_listed) (defScope s_law_listed) .none kV_law_listed dc_law_listed pm_law_listed an_law_listed cd_law_listed ct_law_listed), sl_law_listed⟩) (c_law_listed : PySem.W.codeIn K cd_law_listed "_law_listed" = true) (k_law_listed : PySem.W.keepIn K (.ref f_law_listed) = true)
    (a_law_is_number : PySem.W.nsIn K mainGlobals "_law_is_number" = some (some (.ref f_law_is_number))) (l_law_is_number : K.lookup f_law_is_number = some ⟨oc_law_is_number, od_law_is_number, .func (PySem.W.fnOf "_law_is_number" "_law_is_number" (defArgs s_law_is_number) (defBody s_law_is_number) (defScope s_law_is_number) .none kV_law_is_number dc_law_is_number pm_law_is_number an_law_is_number cd_law_is_number ct_law_is_number), sl_law_is_number⟩) (c_law_is_number : PySem.W.codeIn K cd_law_is_number "_law_is_number" = true) (k_law_is_number : PySem.W.keepIn K (.ref f_law_is_number) = true)
    (a_law_decision : PySem.W.nsIn K mainGlobals "_law_decision" = some (some (.ref f_law_decision))) (l_law_decision : K.lookup f_law_decision = some ⟨oc_law_decision, od_law_decision, .func (PySem.W.fnOf "_law_decision" "_law_decision" (defArgs s_law_decision) (defBody s_law_decision) (defScope s_law_decision) .none kV_law_decision dc_law_decision pm_law_decision an_law_decision cd_law_decision ct_law_decision), sl_law_decision⟩) (c_law_decision : PySem.W.codeIn K cd_law_decision "_law_decision" = true) (k_law_decision : PySem.W.keepIn K (.ref f_law_decision) = true)
    (a_law_is_decision : PySem.W.nsIn K mainGlobals "_law_is_decision" = some (some (.ref f_law_is_decision))) (l_law_is_decision : K.lookup f_law_is_decision = some ⟨oc_law_is_decision, od_law_is_decision, .func (PySem.W.fnOf "_law_is_decision" "_law_is_decision" (defArgs s_law_is_decision) (defBody s_law_is_decision) (defScope s_law_is_decision) .none kV_law_is_decision dc_law_is_decision pm_law_is_decision an_law_is_decision cd_law_is_decision ct_law_is_decision), sl_law_is_decision⟩) (c_law_is_decision : PySem.W.codeIn K cd_law_is_decision "_law_is_decision" = true) (k_law_is_decision : PySem.W.keepIn K (.ref f_law_is_decision) = true)
    (a_law_is_instruction : PySem.W.nsIn K mainGlobals "_law_is_instruction" = some (some (.ref f_law_is_instruction))) (l_law_is_instruction : K.lookup f_law_is_instruction = some ⟨oc_law_is_instruction, od_law_is_instruction, .func (PySem.W.fnOf "_law_is_instruction" "_law_is_instruction" (defArgs s_law_is_instruction) (defBody s_law_is_instruction) (defScope s_law_is_instruction) .none kV_law_is_instruction dc_law_is_instruction pm_law_is_instruction an_law_is_instruction cd_law_is_instruction ct_law_is_instruction), sl_law_is_instruction⟩) (c_law_is_instruction : PySem.W.codeIn K cd_law_is_instruction "_law_is_instruction" = true) (k_law_is_instruction : PySem.W.keepIn K (.ref f_law_is_instruction) = true)
    (a_law_is_program : PySem.W.nsIn K mainGlobals "_law_is_program" = some (some (.ref f_law_is_program))) (l_law_is_program : K.lookup f_law_is_program = some ⟨oc_law_is_program, od_law_is_program, .func (PySem.W.fnOf "_law_is_program" "_law_is_program" (defArgs s_law_is_program) (defBody s_law_is_program) (defScope s_law_is_program) .none kV_law_is_program dc_law_is_program pm_law_is_program an_law_is_program cd_law_is_program ct_law_is_program), sl_law_is_program⟩) (c_law_is_program : PySem.W.codeIn K cd_law_is_program "_law_is_program" = true) (k_law_is_program : PySem.W.keepIn K (.ref f_law_is_program) = true)
    (a_law_instruction : PySem.W.nsIn K mainGlobals "_law_instruction" = some (some (.ref f_law_instruction))) (l_law_instruction : K.lookup f_law_instruction = some ⟨oc_law_instruction, od_law_instruction, .func (PySem.W.fnOf "_law_instruction" "_law_instruction" (defArgs s_law_instruction) (defBody s_law_instruction) (defScope s_law_instruction) .none kV_law_instruction dc_law_instruction pm_law_instruction an_law_instruction cd_law_instruction ct_law_instruction), sl_law_instruction⟩) (c_law_instruction : PySem.W.codeIn K cd_law_instruction "_law_instruction" = true) (k_law_instruction : PySem.W.keepIn K (.ref f_law_instruction) = true)
    (a_law_program : PySem.W.nsIn K mainGlobals "_law_program" = some (some (.ref f_law_program))) (l_law_program : K.lookup f_law_program = some ⟨oc_law_program, od_law_program, .func (PySem.W.fnOf "_law_program" "_law_program" (defArgs s_law_program) (defBody s_law_program) (defScope s_law_program) .none kV_law_program dc_law_program pm_law_program an_law_program cd_law_program ct_law_program), sl_law_program⟩) (c_law_program : PySem.W.codeIn K cd_law_program "_law_program" = true) (k_law_program : PySem.W.keepIn K (.ref f_law_program) = true)
    (a_law : PySem.W.nsIn K mainGlobals "law" = some (some (.ref f_law))) (l_law : K.lookup f_law = some ⟨oc_law, od_law, .func (PySem.W.fnOf "law" "law" (defArgs s_law) (defBody s_law) (defScope s_law) .none kV_law dc_law pm_law an_law cd_law ct_law), sl_law⟩) (c_law : PySem.W.codeIn K cd_law "law" = true) (k_law : PySem.W.keepIn K (.ref f_law) = true)
    (z_all : PySem.W.nsIn K mainGlobals "all" = some none)
    (z_bool : PySem.W.nsIn K mainGlobals "bool" = some none)
    (z_int : PySem.W.nsIn K mainGlobals "int" = some none)
    (z_isinstance : PySem.W.nsIn K mainGlobals "isinstance" = some none)
    (z_len : PySem.W.nsIn K mainGlobals "len" = some none)
    (z_list : PySem.W.nsIn K mainGlobals "list" = some none)
    (z_range : PySem.W.nsIn K mainGlobals "range" = some none)
    (z_repr : PySem.W.nsIn K mainGlobals "repr" = some none)
    (z_str : PySem.W.nsIn K mainGlobals "str" = some none)
    (z_tuple : PySem.W.nsIn K mainGlobals "tuple" = some none)
    (z_type : PySem.W.nsIn K mainGlobals "type" = some none)
    (c_CODE_TOP : PySem.W.nsIn K mainGlobals "CODE_TOP" = some (some (.int 255 t_CODE_TOP)))
    (c_GREATEST_LENGTH : PySem.W.nsIn K mainGlobals "GREATEST_LENGTH" = some (some (.int 1500 t_GREATEST_LENGTH)))
    (c_MOST_HELD : PySem.W.nsIn K mainGlobals "MOST_HELD" = some (some (.int 4 t_MOST_HELD)))
    (c_MOST_INSTRUCTIONS : PySem.W.nsIn K mainGlobals "MOST_INSTRUCTIONS" = some (some (.int 200 t_MOST_INSTRUCTIONS)))
    (c_NUMBER_TOP : PySem.W.nsIn K mainGlobals "NUMBER_TOP" = some (some (.int 65535 t_NUMBER_TOP)))
    (g_BASES : PySem.W.nsIn K mainGlobals "BASES" = some (some (.ref d_BASES))) (at_BASES : K.lookup d_BASES = some ⟨.type "tuple", none, .seq es_BASES n_BASES, #[]⟩) (ok_BASES : flatOk es_BASES.toList [.str (Str.ofString "outer"), .str (Str.ofString "inner")] = true)
    (g_SPECIALS : PySem.W.nsIn K mainGlobals "SPECIALS" = some (some (.ref d_SPECIALS))) (at_SPECIALS : K.lookup d_SPECIALS = some ⟨.type "tuple", none, .seq es_SPECIALS n_SPECIALS, #[]⟩) (ok_SPECIALS : flatOk es_SPECIALS.toList [.str (Str.ofString "interface"), .str (Str.ofString "length"), .str (Str.ofString "side"), .str (Str.ofString "talk")] = true) :
    ∃ fd : FuncData, (∀ (s : Shared) (v : Value), BindsTo s fd ⟨[v], []⟩ [("script", v)]) ∧ ∀ base : Heap, K.In base → base.Ns mainGlobals mg → TbOk K mg base → FnQ l.prog w K mg base 44 fa fd ["script"] (spP K 1 F_law) := by
  have e := hfa.symm.trans (PySem.W.mg_of X G a_law)
  cases e
  let T : Tx K mg := { a_is_number := f_is_number, fd_is_number := _, F_is_number := fun_mk (st := s_is_number) l_is_number c_is_number k_is_number, b_is_number := (fun_mk (st := s_is_number) l_is_number c_is_number k_is_number).binds (ps := ["value", "low", "high"]) fun _ _ _ _ _ _ us hl => match us, hl with | [_, _, _], _ => rfl, g_is_number := PySem.W.mg_of X G a_is_number, a_first_text := f_first_text, fd_first_text := _, F_first_text := fun_mk (st := s_first_text) l_first_text c_first_text k_first_text, b_first_text := (fun_mk (st := s_first_text) l_first_text c_first_text k_first_text).binds (ps := ["value"]) fun _ _ _ _ _ _ us hl => match us, hl with | [_], _ => rfl, g_first_text := PySem.W.mg_of X G a_first_text, a_is_decision := f_is_decision, fd_is_decision := _, F_is_decision := fun_mk (st := s_is_decision) l_is_decision c_is_decision k_is_decision, b_is_decision := (fun_mk (st := s_is_decision) l_is_decision c_is_decision k_is_decision).binds (ps := ["value"]) fun _ _ _ _ _ _ us hl => match us, hl with | [_], _ => rfl, g_is_decision := PySem.W.mg_of X G a_is_decision, a_is_one_of := f_is_one_of, fd_is_one_of := _, F_is_one_of := fun_mk (st := s_is_one_of) l_is_one_of c_is_one_of k_is_one_of, b_is_one_of := (fun_mk (st := s_is_one_of) l_is_one_of c_is_one_of k_is_one_of).binds (ps := ["value", "texts"]) fun _ _ _ _ _ _ us hl => match us, hl with | [_, _], _ => rfl, g_is_one_of := PySem.W.mg_of X G a_is_one_of, a_is_instruction := f_is_instruction, fd_is_instruction := _, cc_is_instruction := cc_is_instruction, pp_is_instruction := pp_is_instruction, F_is_instruction := funT_mk (st := s_is_instruction) l_is_instruction c_is_instruction k_is_instruction (tabIn_mk a_is_instruction l_is_instruction x_is_instruction p_is_instruction), b_is_instruction := ((funT_mk (st := s_is_instruction) l_is_instruction c_is_instruction k_is_instruction (tabIn_mk a_is_instruction l_is_instruction x_is_instruction p_is_instruction)).fun).binds (ps := ["value", "number", "count"]) fun _ _ _ _ _ _ us hl => match us, hl with | [_, _, _], _ => rfl, g_is_instruction := PySem.W.mg_of X G a_is_instruction, a_is_program := f_is_program, fd_is_program := _, cc_is_program := cc_is_program, pp_is_program := pp_is_program, F_is_program := funT_mk (st := s_is_program) l_is_program c_is_program k_is_program (tabIn_mk a_is_program l_is_program x_is_program p_is_program), b_is_program := ((funT_mk (st := s_is_program) l_is_program c_is_program k_is_program (tabIn_mk a_is_program l_is_program x_is_program p_is_program)).fun).binds (ps := ["value"]) fun _ _ _ _ _ _ us hl => match us, hl with | [_], _ => rfl, g_is_program := PySem.W.mg_of X G a_is_program, a_law_same := f_law_same, fd_law_same := _, F_law_same := fun_mk (st := s_law_same) l_law_same c_law_same k_law_same, b_law_same := (fun_mk (st := s_law_same) l_law_same c_law_same k_law_same).binds (ps := ["actual", "due"]) fun _ _ _ _ _ _ us hl => match us, hl with | [_, _], _ => rfl, g_law_same := PySem.W.mg_of X G a_law_same, a_law_is_integer := f_law_is_integer, fd_law_is_integer := _, F_law_is_integer := fun_mk (st := s_law_is_integer) l_law_is_integer c_law_is_integer k_law_is_integer, b_law_is_integer := (fun_mk (st := s_law_is_integer) l_law_is_integer c_law_is_integer k_law_is_integer).binds (ps := ["actual"]) fun _ _ _ _ _ _ us hl => match us, hl with | [_], _ => rfl, g_law_is_integer := PySem.W.mg_of X G a_law_is_integer, a_law_pool := f_law_pool, fd_law_pool := _, F_law_pool := fun_mk (st := s_law_pool) l_law_pool c_law_pool k_law_pool, b_law_pool := (fun_mk (st := s_law_pool) l_law_pool c_law_pool k_law_pool).binds (ps := ["script"]) fun _ _ _ _ _ _ us hl => match us, hl with | [_], _ => rfl, g_law_pool := PySem.W.mg_of X G a_law_pool, a_law_spread := f_law_spread, fd_law_spread := _, F_law_spread := fun_mk (st := s_law_spread) l_law_spread c_law_spread k_law_spread, b_law_spread := (fun_mk (st := s_law_spread) l_law_spread c_law_spread k_law_spread).binds (ps := ["cell"]) fun _ _ _ _ _ _ us hl => match us, hl with | [_], _ => rfl, g_law_spread := PySem.W.mg_of X G a_law_spread, a_law_draw := f_law_draw, fd_law_draw := _, F_law_draw := fun_mk (st := s_law_draw) l_law_draw c_law_draw k_law_draw, b_law_draw := (fun_mk (st := s_law_draw) l_law_draw c_law_draw k_law_draw).binds (ps := ["pool", "many"]) fun _ _ _ _ _ _ us hl => match us, hl with | [_, _], _ => rfl, g_law_draw := PySem.W.mg_of X G a_law_draw, a_law_bent := f_law_bent, fd_law_bent := _, F_law_bent := fun_mk (st := s_law_bent) l_law_bent c_law_bent k_law_bent, b_law_bent := (fun_mk (st := s_law_bent) l_law_bent c_law_bent k_law_bent).binds (ps := ["pool", "value"]) fun _ _ _ _ _ _ us hl => match us, hl with | [_, _], _ => rfl, g_law_bent := PySem.W.mg_of X G a_law_bent, a_law_booled := f_law_booled, fd_law_booled := _, F_law_booled := fun_mk (st := s_law_booled) l_law_booled c_law_booled k_law_booled, b_law_booled := (fun_mk (st := s_law_booled) l_law_booled c_law_booled k_law_booled).binds (ps := ["value"]) fun _ _ _ _ _ _ us hl => match us, hl with | [_], _ => rfl, g_law_booled := PySem.W.mg_of X G a_law_booled, a_law_listed := f_law_listed, fd_law_listed := _, F_law_listed := fun_mk (st := s_law_listed) l_law_listed c_law_listed k_law_listed, b_law_listed := (fun_mk (st := s_law_listed) l_law_listed c_law_listed k_law_listed).binds (ps := ["value", "deep"]) fun _ _ _ _ _ _ us hl => match us, hl with | [_, _], _ => rfl, g_law_listed := PySem.W.mg_of X G a_law_listed, a_law_is_number := f_law_is_number, fd_law_is_number := _, F_law_is_number := fun_mk (st := s_law_is_number) l_law_is_number c_law_is_number k_law_is_number, b_law_is_number := (fun_mk (st := s_law_is_number) l_law_is_number c_law_is_number k_law_is_number).binds (ps := ["value", "top"]) fun _ _ _ _ _ _ us hl => match us, hl with | [_, _], _ => rfl, g_law_is_number := PySem.W.mg_of X G a_law_is_number, a_law_decision := f_law_decision, fd_law_decision := _, F_law_decision := fun_mk (st := s_law_decision) l_law_decision c_law_decision k_law_decision, b_law_decision := (fun_mk (st := s_law_decision) l_law_decision c_law_decision k_law_decision).binds (ps := ["pool"]) fun _ _ _ _ _ _ us hl => match us, hl with | [_], _ => rfl, g_law_decision := PySem.W.mg_of X G a_law_decision, a_law_is_decision := f_law_is_decision, fd_law_is_decision := _, F_law_is_decision := fun_mk (st := s_law_is_decision) l_law_is_decision c_law_is_decision k_law_is_decision, b_law_is_decision := (fun_mk (st := s_law_is_decision) l_law_is_decision c_law_is_decision k_law_is_decision).binds (ps := ["value"]) fun _ _ _ _ _ _ us hl => match us, hl with | [_], _ => rfl, g_law_is_decision := PySem.W.mg_of X G a_law_is_decision, a_law_is_instruction := f_law_is_instruction, fd_law_is_instruction := _, F_law_is_instruction := fun_mk (st := s_law_is_instruction) l_law_is_instruction c_law_is_instruction k_law_is_instruction, b_law_is_instruction := (fun_mk (st := s_law_is_instruction) l_law_is_instruction c_law_is_instruction k_law_is_instruction).binds (ps := ["value", "at", "many"]) fun _ _ _ _ _ _ us hl => match us, hl with | [_, _, _], _ => rfl, g_law_is_instruction := PySem.W.mg_of X G a_law_is_instruction, a_law_is_program := f_law_is_program, fd_law_is_program := _, F_law_is_program := fun_mk (st := s_law_is_program) l_law_is_program c_law_is_program k_law_is_program, b_law_is_program := (fun_mk (st := s_law_is_program) l_law_is_program c_law_is_program k_law_is_program).binds (ps := ["value"]) fun _ _ _ _ _ _ us hl => match us, hl with | [_], _ => rfl, g_law_is_program := PySem.W.mg_of X G a_law_is_program, a_law_instruction := f_law_instruction, fd_law_instruction := _, F_law_instruction := fun_mk (st := s_law_instruction) l_law_instruction c_law_instruction k_law_instruction, b_law_instruction := (fun_mk (st := s_law_instruction) l_law_instruction c_law_instruction k_law_instruction).binds (ps := ["pool", "at", "many"]) fun _ _ _ _ _ _ us hl => match us, hl with | [_, _, _], _ => rfl, g_law_instruction := PySem.W.mg_of X G a_law_instruction, a_law_program := f_law_program, fd_law_program := _, F_law_program := fun_mk (st := s_law_program) l_law_program c_law_program k_law_program, b_law_program := (fun_mk (st := s_law_program) l_law_program c_law_program k_law_program).binds (ps := ["pool", "most"]) fun _ _ _ _ _ _ us hl => match us, hl with | [_, _], _ => rfl, g_law_program := PySem.W.mg_of X G a_law_program, a_law := fa, fd_law := _, F_law := fun_mk (st := s_law) l_law c_law k_law, b_law := (fun_mk (st := s_law) l_law c_law k_law).binds (ps := ["script"]) fun _ _ _ _ _ _ us hl => match us, hl with | [_], _ => rfl, g_law := PySem.W.mg_of X G a_law, z_all := PySem.W.mg_none_of X G z_all, z_bool := PySem.W.mg_none_of X G z_bool, z_int := PySem.W.mg_none_of X G z_int, z_isinstance := PySem.W.mg_none_of X G z_isinstance, z_len := PySem.W.mg_none_of X G z_len, z_list := PySem.W.mg_none_of X G z_list, z_range := PySem.W.mg_none_of X G z_range, z_repr := PySem.W.mg_none_of X G z_repr, z_str := PySem.W.mg_none_of X G z_str, z_tuple := PySem.W.mg_none_of X G z_tuple, z_type := PySem.W.mg_none_of X G z_type, t_CODE_TOP := t_CODE_TOP, c_CODE_TOP := PySem.W.mg_of X G c_CODE_TOP, t_GREATEST_LENGTH := t_GREATEST_LENGTH, c_GREATEST_LENGTH := PySem.W.mg_of X G c_GREATEST_LENGTH, t_MOST_HELD := t_MOST_HELD, c_MOST_HELD := PySem.W.mg_of X G c_MOST_HELD, t_MOST_INSTRUCTIONS := t_MOST_INSTRUCTIONS, c_MOST_INSTRUCTIONS := PySem.W.mg_of X G c_MOST_INSTRUCTIONS, t_NUMBER_TOP := t_NUMBER_TOP, c_NUMBER_TOP := PySem.W.mg_of X G c_NUMBER_TOP, d_BASES := d_BASES, g_BASES := PySem.W.mg_of X G g_BASES, K_BASES := ⟨⟨es_BASES, n_BASES, at_BASES, ok_BASES⟩, by decide⟩, d_SPECIALS := d_SPECIALS, g_SPECIALS := PySem.W.mg_of X G g_SPECIALS, K_SPECIALS := ⟨⟨es_SPECIALS, n_SPECIALS, at_SPECIALS, ok_SPECIALS⟩, by decide⟩ }
  exact ⟨PySem.W.fnOf "law" "law" (defArgs s_law) (defBody s_law) (defScope s_law) .none kV_law dc_law pm_law an_law cd_law ct_law, fun s v => .of_eq rfl, fun base _ _ TB => ok_law T TB⟩
end Pr_gatewarden_k59_programs_told
end
section
set_option linter.all false
set_option maxRecDepth 100000
set_option Elab.async false
namespace Pr_gatewarden_k59_programs_told
open PySem PG Pr_C Pr_D Pr_N
local macro_rules | `(tactic| array_get_dec) => `(tactic| first | ((with_reducible apply PG.ws_set)) | ((with_reducible apply PG.ws_if)) | ((with_reducible apply PG.ws_ret)) | ((with_reducible apply PG.ws_setL)) | ((with_reducible apply PG.ws_expr)) | ((with_reducible apply PG.ws_nilc)) | ((with_reducible apply PG.ws_asc)) | ((with_reducible apply PG.ws_nil)) | ((with_reducible apply PG.ws_for)) | ((with_reducible apply PG.ws_asg)) | ((with_reducible apply PG.ws_par)) | ((with_reducible apply PG.ws_retL)) | ((with_reducible apply PG.ws_brk)) | ((with_reducible apply PG.ws_cont)) | ((with_reducible apply PG.ws_forn)) | ((with_reducible apply PG.ws_sto)) | ((with_reducible apply PG.ws_aug); (case hget => rfl)) | ((with_reducible apply PG.ws_app); (case hget => rfl)) | ((with_reducible apply PG.ws_retO); (case hget => rfl)) | ((with_reducible apply PG.we_name); (case hget => rfl)) | ((with_reducible apply PG.we_c)) | ((with_reducible apply PG.we_bin)) | ((with_reducible apply PG.we_un)) | ((with_reducible apply PG.we_call)) | ((with_reducible apply PG.we_callL); (case hget => rfl)) | ((with_reducible apply PG.we_tup)) | ((with_reducible apply PG.we_lst)) | ((with_reducible apply PG.we_if)) | ((with_reducible apply PG.we_ixL); (case hget => rfl)) | ((with_reducible apply PG.we_unL); (case hget => rfl)) | ((with_reducible apply PG.we_and)) | ((with_reducible apply PG.we_or)) | ((with_reducible apply PG.we_not)) | ((with_reducible apply PG.we_chain)) | ((with_reducible apply PG.we_slT)) | ((with_reducible apply PG.wn_cons)) | ((with_reducible apply PG.wn_nil)) | ((with_reducible apply PG.wn_star)) | ((with_reducible apply PG.wn_disp)) | ((with_reducible apply PG.wn_call)) | ((with_reducible apply PG.wn_sl)) | ((with_reducible apply PG.wn_its)) | ((with_reducible apply PG.wn_r1)) | ((with_reducible apply PG.wn_r2)) | ((with_reducible apply PG.wn_r3)) | ((with_reducible apply PG.wt_tru)) | ((with_reducible apply PG.wt_bl)) | ((with_reducible apply PG.wt_and)) | ((with_reducible apply PG.wt_or)) | ((with_reducible apply PG.wt_not)) | ((with_reducible apply PG.wt_yes)) | ((with_reducible apply PG.wt_truL); (case hget => rfl)) | ((with_reducible apply PG.wo_none)) | ((with_reducible apply PG.wo_some)) | ((with_reducible apply PG.wg_p0)) | ((with_reducible apply PG.wg_tup)) | ((with_reducible apply PG.wg_ps); (case hset => (repeat' (first | exact PG.SetR.h0 | exact PG.SetR.h1 | exact PG.SetR.hl | exact PG.SetR.hc (by assumption) | apply PG.SetR.s)))) | ((with_reducible apply PG.wg_set); (case hset => (repeat' (first | exact PG.SetR.h0 | exact PG.SetR.h1 | exact PG.SetR.hl | exact PG.SetR.hc (by assumption) | apply PG.SetR.s)))) | ((with_reducible apply PG.we_frz); (case hget => rfl); (case hset => (repeat' (first | exact PG.SetR.h0 | exact PG.SetR.h1 | exact PG.SetR.hl | exact PG.SetR.hc (by assumption) | apply PG.SetR.s)))) | ((with_reducible apply PG.setr_i); (case hset => (repeat' (first | exact PG.SetR.h0 | exact PG.SetR.h1 | exact PG.SetR.hl | exact PG.SetR.hc (by assumption) | apply PG.SetR.s)))) | ((with_reducible apply PG.setl_i); (case hset => (repeat' (first | exact PG.SetLR.h0 | exact PG.SetLR.h1 | exact PG.SetLR.hl | apply PG.SetLR.s)))) | ((with_reducible apply PG.put_i); (case hset => (repeat' (first | exact PG.PutR.h | apply PG.PutR.s)))) | ((with_reducible apply PG.pool_i); (case hget => rfl)) | ((with_reducible apply PG.bool_i)) | ((with_reducible apply PG.int_i)) | ((with_reducible apply PG.seqL_i)) | ((with_reducible apply PG.seqT_i)) | ((with_reducible apply PG.seqR_i)) | ((with_reducible apply PG.starT_i)) | ((with_reducible apply PG.starL_i)) | ((with_reducible apply PG.len_i); (case h => rfl)) | ((with_reducible apply PG.tup_i)) | ((with_reducible apply PG.yes_i)) | ((with_reducible apply PG.no_i)) | ((with_reducible apply PG.nyes_i)) | ((with_reducible apply PG.nno_i)) | ((with_reducible apply PG.wa_add)) | ((with_reducible apply PG.wa_sub)) | ((with_reducible apply PG.wa_lt)) | ((with_reducible apply PG.wa_le)) | ((with_reducible apply PG.wa_gt)) | ((with_reducible apply PG.wa_ge)) | ((with_reducible apply PG.wa_eqI)) | ((with_reducible apply PG.wa_neI)) | ((with_reducible apply PG.wa_neg)) | ((with_reducible apply PG.wa_lenL)) | ((with_reducible apply PG.wa_lenT)) | ((with_reducible apply PG.wa_int)) | ((with_reducible apply PG.wa_max)) | ((with_reducible apply PG.wa_min)) | ((with_reducible apply PG.wb_bool)) | ((with_reducible apply PG.wb_int)) | ((with_reducible apply PG.endP_ret)) | ((with_reducible apply PG.endP_retL)) | ((with_reducible apply PG.endN_ret)) | ((with_reducible apply PG.endL_ret)) | ((with_reducible apply PG.endL_retL)) | ((with_reducible apply PG.wa_binO)) | ((with_reducible apply PG.ch_le)) | ((with_reducible apply PG.ch_lt)) | ((with_reducible apply PG.ch_eq)) | ((with_reducible apply PG.wa_ix0); (case hget => rfl)) | ((with_reducible apply PG.wa_ix1); (case hget => rfl)) | ((with_reducible apply PG.wa_ix2); (case hget => rfl)) | ((with_reducible apply PG.wa_ix3); (case hget => rfl)) | ((with_reducible apply PG.wa_ix4); (case hget => rfl)) | ((with_reducible apply PG.wa_ix5); (case hget => rfl)) | ((with_reducible apply PG.wa_ix6); (case hget => rfl)) | ((with_reducible apply PG.wa_ix7); (case hget => rfl)) | ((with_reducible apply PG.wa_ix8); (case hget => rfl)) | ((with_reducible apply PG.wa_il0); (case hget => rfl)) | ((with_reducible apply PG.wa_il1); (case hget => rfl)) | ((with_reducible apply PG.wa_il2); (case hget => rfl)) | ((with_reducible apply PG.wa_ev1)) | ((with_reducible apply PG.wa_ev)) | ((with_reducible apply PG.wl_ev)) | ((with_reducible apply PG.wb_ev)) | ((with_reducible apply PG.wa_mod); (case h1 => omega)) | ((with_reducible apply PG.wa_div); (case h1 => omega); (case h2 => omega)) | ((with_reducible apply PG.wa_mulR); (case h1 => omega); (case h2 => omega)) | ((with_reducible apply PG.wa_mulL); (case h1 => omega); (case h2 => omega)) | ((with_reducible apply PG.wa_shr); (case h1 => omega)))
local macro_rules | `(tactic| array_get_dec) => `(tactic| first | ((with_reducible apply Pr_C.wp_draw); (case hp => assumption); (case h0 => omega); (case h1 => omega)) | ((with_reducible apply Pr_C.ls_i); (case hp => assumption)))

abbrev G (d : PyData) : Prop := Gd 70000 6 2000 d
theorem g_item {xs : List PyData} {x : PyData} (g : G (.tuple xs)) (hx : x ∈ xs) : G x := ((Gs.of_tup g).1.mem hx).mono (Int.le_refl _) (by decide) (by decide)
theorem g_shp {d : PyData} (g : G d) : SeqAt.shaped d = true := by
  unfold SeqAt.shaped
  rw [Bool.and_eq_true]
  exact ⟨(ok_lay (by decide) d g.ok).1, decide_eq_true (by have := g.dp; omega)⟩
theorem eqvS (a b : Str) : PyData.eqv (.str a) (.str b) = decide (a = b) := by rw [PyData.eqv]; rfl
theorem deq_str {s t : Str} (hs : SeqAt.shaped (.str s) = true) (ht : SeqAt.shaped (.str t) = true) : dEq (.str s) (.str t) = some (.bool (decide (s = t))) := by
  simp [dEq, hs, ht, eqvS]
theorem dne_str {s t : Str} (hs : SeqAt.shaped (.str s) = true) (ht : SeqAt.shaped (.str t) = true) : dNe (.str s) (.str t) = some (.bool (!decide (s = t))) := by
  simp [dNe, hs, ht, eqvS]
def anyS (s : Str) (ts : List Str) : Bool := ts.any fun t => decide (t = s)
theorem in_str {s : Str} (ts : List Str) : dIn2 (.str s) (.tuple (ts.map PyData.str)) = some (.bool (anyS s ts)) := by
  have h : (ts.map PyData.str).all flatD = true := by simp [flatD]
  have e : memD (.str s) (ts.map PyData.str) = anyS s ts := by
    unfold memD anyS
    rw [List.any_map]
    exact congrArg ts.any (funext fun t => eqvS t s)
  have hf : flatD (.str s) = true := rfl
  unfold dIn2 dMem
  simp only [hf, h, Bool.and_self, if_true, e, Bool.false_eq_true, if_false]
def isS : PyData → Bool
  | .str _ => true
  | _ => false
theorem isS_str {d : PyData} (h : isS d = true) : ∃ s, d = .str s := by
  cases d with
  | str s => exact ⟨s, rfl⟩
  | _ => cases h
theorem tyisS {d : PyData} (h : Nd d) : dTyIs "str" d = some (.bool (isS d)) := by
  cases d with
  | dict _ => obtain ⟨B, h⟩ := h; cases h
  | _ => simp [tyName, isS]
theorem isiS {d : PyData} (h : Nd d) : dIsi "str" d = some (.bool (isS d)) := by
  cases d with
  | dict _ => obtain ⟨B, h⟩ := h; cases h
  | _ => simp [isTy, isN, tyName, isS]
/-- the first text -/
def ft : PyData → Str
  | .tuple (.str s :: _) => s
  | _ => Str.ofString ""
theorem ft_str {s : Str} {r : List PyData} : ft (.tuple (.str s :: r)) = s := rfl
theorem first_text_is {d : PyData} (g : G d) : F_first_text [d] = some (.str (ft d)) := by
  refine of_wa ?_
  unfold F_first_text; refine PG.wa_def rfl ?_; simp only [PG.rho0_eq, List.map_cons, List.map_nil, List.replicate_succ, List.replicate_zero, List.cons_append, List.nil_append]; unfold B_first_text
  (repeat array_get_dec)
  refine wa_eq (tyis_is (gd_nd g)) ?_
  cases ht : isT d with
  | false =>
    (repeat array_get_dec)
    cases d <;> first | rfl | cases ht
  | true =>
    obtain ⟨xs, rfl⟩ := isT_tup ht
    (repeat array_get_dec)
    have h0 : SeqAt.shaped (.tuple []) = true := rfl
    cases xs with
    | nil =>
      refine wa_eq (show dNe (.tuple []) (.tuple []) = some (.bool false) by simp [dNe, h0, PyData.eqv, PyData.eqvAll]) ?_
      (repeat array_get_dec)
      rfl
    | cons x r =>
      refine wa_eq (show dNe (.tuple (x :: r)) (.tuple []) = some (.bool true) by simp [dNe, h0, g_shp g, PyData.eqv, PyData.eqvAll]) ?_
      (repeat array_get_dec)
      refine wa_eq (tyisS (gd_nd (g_item g (by simp)))) ?_
      cases hs : isS x with
      | false =>
        (repeat array_get_dec)
        cases x <;> first | rfl | cases hs
      | true =>
        obtain ⟨s, rfl⟩ := isS_str hs
        (repeat array_get_dec)
        rfl
theorem at_ok {xs : List PyData} {k : Nat} (h : k < xs.length) : dIx (.tuple xs) (.int (k : Nat)) = some (xs.getD k .none) ∧ xs.getD k .none ∈ xs := by
  have e : xs.getD k .none = xs[k] := by simp [List.getD, h]
  rw [e]
  exact ⟨list_at h, List.getElem_mem _⟩
abbrev L (x : String) : Str := Str.ofString x
/-- one of some texts -/
def oneB (ts : List Str) : PyData → Bool
  | .str s => anyS s ts
  | _ => false
theorem one_of_is {d : PyData} (ts : List Str) (h : Nd d) : F_is_one_of [d, .tuple (ts.map PyData.str)] = some (.bool (oneB ts d)) := by
  refine of_wa ?_
  unfold F_is_one_of; refine PG.wa_def rfl ?_; simp only [PG.rho0_eq, List.map_cons, List.map_nil, List.replicate_succ, List.replicate_zero, List.cons_append, List.nil_append]; unfold B_is_one_of
  (repeat array_get_dec)
  refine wa_eq (tyisS h) ?_
  cases hs : isS d with
  | false =>
    (repeat array_get_dec)
    cases d <;> first | rfl | cases hs
  | true =>
    obtain ⟨s, rfl⟩ := isS_str hs
    (repeat array_get_dec)
    refine wa_eq (in_str ts) ?_
    (repeat array_get_dec)
    rfl
def dcB : PyData → Bool
  | .tuple (.str s :: r) => if decide (s = L "refuse") then decide (((.str s :: r : List PyData).length : Int) = 2) && nb 0 255 ((.str s :: r : List PyData).getD 1 .none) else anyS s [L "accept", L "drop"] && decide (((.str s :: r : List PyData).length : Int) = 1)
  | _ => false
theorem fst_cases (d : PyData) : (∃ s r, d = .tuple (.str s :: r)) ∨ (ft d = L "" ∧ dcB d = false) := by
  cases d with
  | tuple xs =>
    cases xs with
    | nil => exact .inr ⟨rfl, rfl⟩
    | cons x r =>
      cases x with
      | str s => exact .inl ⟨s, r, rfl⟩
      | _ => exact .inr ⟨rfl, rfl⟩
  | _ => exact .inr ⟨rfl, rfl⟩
theorem decision_is {d : PyData} (g : G d) : F_is_decision [d] = some (.bool (dcB d)) := by
  refine of_wa ?_
  unfold F_is_decision; refine PG.wa_def rfl ?_; simp only [PG.rho0_eq, List.map_cons, List.map_nil, List.replicate_succ, List.replicate_zero, List.cons_append, List.nil_append]; unfold B_is_decision
  (repeat array_get_dec)
  refine wa_eq (first_text_is g) ?_
  (repeat array_get_dec)
  rcases fst_cases d with ⟨s, r, rfl⟩ | ⟨e1, e2⟩
  · have hs : SeqAt.shaped (.str s) = true := g_shp (g_item g (by simp))
    simp only [ft_str]
    refine wa_eq (deq_str hs (by decide +kernel)) ?_
    cases e1 : decide (s = L "refuse") with
    | true =>
      (repeat array_get_dec)
      cases e2 : decide (((PyData.str s :: r).length : Int) = 2) with
      | false =>
        (repeat array_get_dec)
        simp only [dcB, e1, e2, if_true, Bool.false_and]
      | true =>
        (repeat array_get_dec)
        obtain ⟨h1, h2⟩ := at_ok (xs := .str s :: r) (k := 1) (by have := of_decide_eq_true e2; omega)
        refine wa_eq h1 ?_
        (repeat array_get_dec)
        refine wa_eq (number_is (gd_nd (g_item g h2))) ?_
        (repeat array_get_dec)
        simp only [dcB, e1, e2, if_true, Bool.true_and]
    | false =>
      (repeat array_get_dec)
      refine wa_eq (in_str [L "accept", L "drop"]) ?_
      cases e2 : anyS s [L "accept", L "drop"] with
      | false =>
        (repeat array_get_dec)
        simp only [dcB, e1, e2, Bool.false_eq_true, if_false, Bool.false_and]
      | true =>
        (repeat array_get_dec)
        simp only [dcB, e1, e2, Bool.false_eq_true, if_false, Bool.true_and]
  · rw [e1, e2]
    refine wa_eq (deq_str (by decide +kernel) (by decide +kernel)) ?_
    rw [show decide (L "" = Str.ofString "refuse") = false by decide +kernel]
    (repeat array_get_dec)
    refine wa_eq (in_str [L "accept", L "drop"]) ?_
    rw [show anyS (L "") [L "accept", L "drop"] = false by decide +kernel]
    (repeat array_get_dec)
    rfl
def insS (s : Str) (xs : List PyData) (k n : Int) : Bool :=
  if decide (s = L "answer") then decide ((xs.length : Int) = 2) && dcB (xs.getD 1 .none)
  else if decide ((xs.length : Int) < 3) || !nb 0 3 (xs.getD 1 .none) then false
  else if anyS s [L "byte", L "word"] then decide ((xs.length : Int) = 4) && (oneB [L "outer", L "inner"] (xs.getD 2 .none) && nb 0 1500 (xs.getD 3 .none))
  else if decide (s = L "special") then decide ((xs.length : Int) = 3) && oneB [L "interface", L "length", L "side", L "talk"] (xs.getD 2 .none)
  else if !nb 0 65535 (xs.getD 2 .none) then false
  else if decide (s = L "less") then decide ((xs.length : Int) = 5) && (xs.drop 3).all (nb (k + 1) (n - 1))
  else anyS s [L "put", L "mask"] && decide ((xs.length : Int) = 3)
def insB (k n : Int) : PyData → Bool
  | .tuple (.str s :: r) => insS s (.str s :: r) k n
  | _ => false
theorem fst_ins (d : PyData) : (∃ s r, d = .tuple (.str s :: r)) ∨ (ft d = L "" ∧ ∀ k n, insB k n d = false) := by
  cases d with
  | tuple xs =>
    cases xs with
    | nil => exact .inr ⟨rfl, fun _ _ => rfl⟩
    | cons x r =>
      cases x with
      | str s => exact .inl ⟨s, r, rfl⟩
      | _ => exact .inr ⟨rfl, fun _ _ => rfl⟩
  | _ => exact .inr ⟨rfl, fun _ _ => rfl⟩
theorem empty_ins {s : Str} {xs : List PyData} {k n : Int} (h : s = L "") : insS s xs k n = false := by
  subst h
  unfold insS
  rw [show decide (L "" = L "answer") = false by decide +kernel, show anyS (L "") [L "byte", L "word"] = false by decide +kernel, show decide (L "" = L "special") = false by decide +kernel, show decide (L "" = L "less") = false by decide +kernel, show anyS (L "") [L "put", L "mask"] = false by decide +kernel]
  simp
theorem cut3 (xs : List PyData) : cutD xs (some 3) none = xs.drop 3 := by
  unfold cutD
  have e1 : sIxD xs.length 0 (some 3) = min 3 xs.length := by simp [sIxD]
  have e2 : sIxD xs.length xs.length none = xs.length := rfl
  rw [e1, e2]
  by_cases h : 3 ≤ xs.length
  · rw [Nat.min_eq_left h]
    exact List.take_of_length_le (by simp)
  · rw [Nat.min_eq_right (by omega), List.drop_eq_nil_of_le (Nat.le_refl _), List.drop_eq_nil_of_le (by omega)]
    simp
theorem wipe4 (a b c d : Option Cell) : wipeR [a, b, c, d, none] [4] = [a, b, c, d, none] := rfl
theorem instruction_is {d : PyData} (g : G d) (k n : Int) : F_is_instruction [d, .int k, .int n] = some (.bool (insB k n d)) := by
  refine of_wa ?_
  unfold F_is_instruction; refine PG.wa_def rfl ?_; simp only [PG.rho0_eq, List.map_cons, List.map_nil, List.replicate_succ, List.replicate_zero, List.cons_append, List.nil_append]; unfold B_is_instruction
  (repeat array_get_dec)
  refine wa_eq (first_text_is g) ?_
  (repeat array_get_dec)
  rcases fst_ins d with ⟨s, r, rfl⟩ | ⟨e1, e2⟩
  · have hs : SeqAt.shaped (.str s) = true := g_shp (g_item g (by simp))
    have go := fun k h => at_ok (xs := .str s :: r) (k := k) h
    have nd : ∀ k, k < (PyData.str s :: r).length → Nd ((PyData.str s :: r).getD k .none) := fun k h => gd_nd (g_item g (go k h).2)
    simp only [ft_str, insB]
    generalize hxs : (PyData.str s :: r : List PyData) = xs at *
    refine wa_eq (deq_str hs (by decide +kernel)) ?_
    cases e1 : decide (s = L "answer") with
    | true =>
      (repeat array_get_dec)
      cases e2 : decide (((xs.length : Nat) : Int) = 2) with
      | false => (repeat array_get_dec); simp only [insS, e1, e2, if_true, Bool.false_and]
      | true =>
        (repeat array_get_dec)
        have hl := of_decide_eq_true e2
        refine wa_eq (go 1 (by omega)).1 ?_
        (repeat array_get_dec)
        refine wa_eq (decision_is (g_item g (go 1 (by omega)).2)) ?_
        (repeat array_get_dec)
        simp only [insS, e1, e2, if_true, Bool.true_and]
    | false =>
    (repeat array_get_dec)
    refine wa_eq (deq_str hs (by decide +kernel)) ?_
    cases e2 : decide (s = L "") with
    | true => (repeat array_get_dec); rw [empty_ins (of_decide_eq_true e2)]
    | false =>
    (repeat array_get_dec)
    cases e3 : decide (((xs.length : Nat) : Int) < 3) with
    | true => (repeat array_get_dec); simp only [insS, e1, e3, Bool.true_or, if_true, Bool.false_eq_true, if_false]
    | false =>
    (repeat array_get_dec)
    have hl : 3 ≤ xs.length := by have := of_decide_eq_false e3; omega
    refine wa_eq (go 1 (by omega)).1 ?_
    (repeat array_get_dec)
    rw [show (4 : Int) - 1 = 3 from rfl]
    refine wa_eq (number_is (nd 1 (by omega))) ?_
    cases e4 : nb 0 3 (xs.getD 1 .none) with
    | false => (repeat array_get_dec); simp only [insS, e1, e3, e4, Bool.not_false, Bool.or_true, if_true, Bool.false_eq_true, if_false]
    | true =>
    (repeat array_get_dec)
    refine wa_eq (in_str [L "byte", L "word"]) ?_
    cases e5 : anyS s [L "byte", L "word"] with
    | true =>
      (repeat array_get_dec)
      cases e6 : decide (((xs.length : Nat) : Int) = 4) with
      | false => (repeat array_get_dec); simp only [insS, e1, e3, e4, e5, e6, Bool.not_true, Bool.or_false, if_true, Bool.false_eq_true, if_false, Bool.false_and]
      | true =>
      (repeat array_get_dec)
      have hl4 := of_decide_eq_true e6
      refine wa_eq (go 2 (by omega)).1 ?_
      (repeat array_get_dec)
      refine wa_eq (one_of_is [L "outer", L "inner"] (nd 2 (by omega))) ?_
      cases e7 : oneB [L "outer", L "inner"] (xs.getD 2 .none) with
      | false => (repeat array_get_dec); simp only [insS, e1, e3, e4, e5, e6, e7, Bool.not_true, Bool.or_false, if_true, Bool.false_eq_true, if_false, Bool.false_and, Bool.true_and]
      | true =>
      (repeat array_get_dec)
      refine wa_eq (go 3 (by omega)).1 ?_
      (repeat array_get_dec)
      refine wa_eq (number_is (nd 3 (by omega))) ?_
      (repeat array_get_dec)
      simp only [insS, e1, e3, e4, e5, e6, e7, Bool.not_true, Bool.or_false, if_true, Bool.false_eq_true, if_false, Bool.true_and]
    | false =>
    (repeat array_get_dec)
    refine wa_eq (deq_str hs (by decide +kernel)) ?_
    cases e6 : decide (s = L "special") with
    | true =>
      (repeat array_get_dec)
      cases e7 : decide (((xs.length : Nat) : Int) = 3) with
      | false => (repeat array_get_dec); simp only [insS, e1, e3, e4, e5, e6, e7, Bool.not_true, Bool.or_false, if_true, Bool.false_eq_true, if_false, Bool.false_and]
      | true =>
      (repeat array_get_dec)
      refine wa_eq (go 2 (by omega)).1 ?_
      (repeat array_get_dec)
      refine wa_eq (one_of_is [L "interface", L "length", L "side", L "talk"] (nd 2 (by omega))) ?_
      (repeat array_get_dec)
      simp only [insS, e1, e3, e4, e5, e6, e7, Bool.not_true, Bool.or_false, if_true, Bool.false_eq_true, if_false, Bool.true_and]
    | false =>
    (repeat array_get_dec)
    refine wa_eq (go 2 (by omega)).1 ?_
    (repeat array_get_dec)
    refine wa_eq (number_is (nd 2 (by omega))) ?_
    cases e7 : nb 0 65535 (xs.getD 2 .none) with
    | false => (repeat array_get_dec); simp only [insS, e1, e3, e4, e5, e6, e7, Bool.not_true, Bool.or_false, if_true, Bool.false_eq_true, if_false, Bool.not_false]
    | true =>
    (repeat array_get_dec)
    refine wa_eq (deq_str hs (by decide +kernel)) ?_
    cases e8 : decide (s = L "less") with
    | true =>
      (repeat array_get_dec)
      cases e9 : decide (((xs.length : Nat) : Int) = 5) with
      | false => (repeat array_get_dec); simp only [insS, e1, e3, e4, e5, e6, e7, e8, e9, Bool.not_true, Bool.or_false, if_true, Bool.false_eq_true, if_false, Bool.false_and]
      | true =>
      (repeat array_get_dec)
      refine we_gen1 id (nb (k + 1) (n - 1)) (xs.drop 3) ?_
      (repeat array_get_dec)
      refine ⟨by rw [cut3, List.map_id], rfl, fun x hx => ?_, ?_⟩
      · simp only [wipe4, id]
        unfold X_is_instruction_1
        (repeat array_get_dec)
        exact wa_eq (number_is (gd_nd (g_item g (List.mem_of_mem_drop hx)))) ⟨rfl, rfl, rfl⟩
      · (repeat array_get_dec)
        simp only [insS, e1, e3, e4, e5, e6, e7, e8, e9, Bool.not_true, Bool.or_false, if_true, Bool.false_eq_true, if_false, Bool.true_and]
    | false =>
    (repeat array_get_dec)
    refine wa_eq (in_str [L "put", L "mask"]) ?_
    cases e9 : anyS s [L "put", L "mask"] with
    | false => (repeat array_get_dec); simp only [insS, e1, e3, e4, e5, e6, e7, e8, e9, Bool.not_true, Bool.or_false, if_true, Bool.false_eq_true, if_false, Bool.false_and]
    | true => (repeat array_get_dec); simp only [insS, e1, e3, e4, e5, e6, e7, e8, e9, Bool.not_true, Bool.or_false, if_true, Bool.false_eq_true, if_false, Bool.true_and]
  · rw [e1, e2]
    refine wa_eq (deq_str (by decide +kernel) (by decide +kernel)) ?_
    rw [show decide (L "" = Str.ofString "answer") = false by decide +kernel]
    (repeat array_get_dec)
    refine wa_eq (deq_str (by decide +kernel) (by decide +kernel)) ?_
    rw [show decide (L "" = Str.ofString "") = true by decide +kernel]
    (repeat array_get_dec)
    rfl
end Pr_gatewarden_k59_programs_told
end
section
set_option linter.all false
set_option maxRecDepth 100000
set_option Elab.async false
namespace Pr_gatewarden_k59_programs_told
open PySem PG Pr_C Pr_D Pr_N
local macro_rules | `(tactic| array_get_dec) => `(tactic| first | ((with_reducible apply PG.ws_set)) | ((with_reducible apply PG.ws_if)) | ((with_reducible apply PG.ws_ret)) | ((with_reducible apply PG.ws_setL)) | ((with_reducible apply PG.ws_expr)) | ((with_reducible apply PG.ws_nilc)) | ((with_reducible apply PG.ws_asc)) | ((with_reducible apply PG.ws_nil)) | ((with_reducible apply PG.ws_for)) | ((with_reducible apply PG.ws_asg)) | ((with_reducible apply PG.ws_par)) | ((with_reducible apply PG.ws_retL)) | ((with_reducible apply PG.ws_brk)) | ((with_reducible apply PG.ws_cont)) | ((with_reducible apply PG.ws_forn)) | ((with_reducible apply PG.ws_sto)) | ((with_reducible apply PG.ws_aug); (case hget => rfl)) | ((with_reducible apply PG.ws_app); (case hget => rfl)) | ((with_reducible apply PG.ws_retO); (case hget => rfl)) | ((with_reducible apply PG.we_name); (case hget => rfl)) | ((with_reducible apply PG.we_c)) | ((with_reducible apply PG.we_bin)) | ((with_reducible apply PG.we_un)) | ((with_reducible apply PG.we_call)) | ((with_reducible apply PG.we_callL); (case hget => rfl)) | ((with_reducible apply PG.we_tup)) | ((with_reducible apply PG.we_lst)) | ((with_reducible apply PG.we_if)) | ((with_reducible apply PG.we_ixL); (case hget => rfl)) | ((with_reducible apply PG.we_unL); (case hget => rfl)) | ((with_reducible apply PG.we_and)) | ((with_reducible apply PG.we_or)) | ((with_reducible apply PG.we_not)) | ((with_reducible apply PG.we_chain)) | ((with_reducible apply PG.we_slT)) | ((with_reducible apply PG.wn_cons)) | ((with_reducible apply PG.wn_nil)) | ((with_reducible apply PG.wn_star)) | ((with_reducible apply PG.wn_disp)) | ((with_reducible apply PG.wn_call)) | ((with_reducible apply PG.wn_sl)) | ((with_reducible apply PG.wn_its)) | ((with_reducible apply PG.wn_r1)) | ((with_reducible apply PG.wn_r2)) | ((with_reducible apply PG.wn_r3)) | ((with_reducible apply PG.wt_tru)) | ((with_reducible apply PG.wt_bl)) | ((with_reducible apply PG.wt_and)) | ((with_reducible apply PG.wt_or)) | ((with_reducible apply PG.wt_not)) | ((with_reducible apply PG.wt_yes)) | ((with_reducible apply PG.wt_truL); (case hget => rfl)) | ((with_reducible apply PG.wo_none)) | ((with_reducible apply PG.wo_some)) | ((with_reducible apply PG.wg_p0)) | ((with_reducible apply PG.wg_tup)) | ((with_reducible apply PG.wg_ps); (case hset => (repeat' (first | exact PG.SetR.h0 | exact PG.SetR.h1 | exact PG.SetR.hl | exact PG.SetR.hc (by assumption) | apply PG.SetR.s)))) | ((with_reducible apply PG.wg_set); (case hset => (repeat' (first | exact PG.SetR.h0 | exact PG.SetR.h1 | exact PG.SetR.hl | exact PG.SetR.hc (by assumption) | apply PG.SetR.s)))) | ((with_reducible apply PG.we_frz); (case hget => rfl); (case hset => (repeat' (first | exact PG.SetR.h0 | exact PG.SetR.h1 | exact PG.SetR.hl | exact PG.SetR.hc (by assumption) | apply PG.SetR.s)))) | ((with_reducible apply PG.setr_i); (case hset => (repeat' (first | exact PG.SetR.h0 | exact PG.SetR.h1 | exact PG.SetR.hl | exact PG.SetR.hc (by assumption) | apply PG.SetR.s)))) | ((with_reducible apply PG.setl_i); (case hset => (repeat' (first | exact PG.SetLR.h0 | exact PG.SetLR.h1 | exact PG.SetLR.hl | apply PG.SetLR.s)))) | ((with_reducible apply PG.put_i); (case hset => (repeat' (first | exact PG.PutR.h | apply PG.PutR.s)))) | ((with_reducible apply PG.pool_i); (case hget => rfl)) | ((with_reducible apply PG.bool_i)) | ((with_reducible apply PG.int_i)) | ((with_reducible apply PG.seqL_i)) | ((with_reducible apply PG.seqT_i)) | ((with_reducible apply PG.seqR_i)) | ((with_reducible apply PG.starT_i)) | ((with_reducible apply PG.starL_i)) | ((with_reducible apply PG.len_i); (case h => rfl)) | ((with_reducible apply PG.tup_i)) | ((with_reducible apply PG.yes_i)) | ((with_reducible apply PG.no_i)) | ((with_reducible apply PG.nyes_i)) | ((with_reducible apply PG.nno_i)) | ((with_reducible apply PG.wa_add)) | ((with_reducible apply PG.wa_sub)) | ((with_reducible apply PG.wa_lt)) | ((with_reducible apply PG.wa_le)) | ((with_reducible apply PG.wa_gt)) | ((with_reducible apply PG.wa_ge)) | ((with_reducible apply PG.wa_eqI)) | ((with_reducible apply PG.wa_neI)) | ((with_reducible apply PG.wa_neg)) | ((with_reducible apply PG.wa_lenL)) | ((with_reducible apply PG.wa_lenT)) | ((with_reducible apply PG.wa_int)) | ((with_reducible apply PG.wa_max)) | ((with_reducible apply PG.wa_min)) | ((with_reducible apply PG.wb_bool)) | ((with_reducible apply PG.wb_int)) | ((with_reducible apply PG.endP_ret)) | ((with_reducible apply PG.endP_retL)) | ((with_reducible apply PG.endN_ret)) | ((with_reducible apply PG.endL_ret)) | ((with_reducible apply PG.endL_retL)) | ((with_reducible apply PG.wa_binO)) | ((with_reducible apply PG.ch_le)) | ((with_reducible apply PG.ch_lt)) | ((with_reducible apply PG.ch_eq)) | ((with_reducible apply PG.wa_ix0); (case hget => rfl)) | ((with_reducible apply PG.wa_ix1); (case hget => rfl)) | ((with_reducible apply PG.wa_ix2); (case hget => rfl)) | ((with_reducible apply PG.wa_ix3); (case hget => rfl)) | ((with_reducible apply PG.wa_ix4); (case hget => rfl)) | ((with_reducible apply PG.wa_ix5); (case hget => rfl)) | ((with_reducible apply PG.wa_ix6); (case hget => rfl)) | ((with_reducible apply PG.wa_ix7); (case hget => rfl)) | ((with_reducible apply PG.wa_ix8); (case hget => rfl)) | ((with_reducible apply PG.wa_il0); (case hget => rfl)) | ((with_reducible apply PG.wa_il1); (case hget => rfl)) | ((with_reducible apply PG.wa_il2); (case hget => rfl)) | ((with_reducible apply PG.wa_ev1)) | ((with_reducible apply PG.wa_ev)) | ((with_reducible apply PG.wl_ev)) | ((with_reducible apply PG.wb_ev)) | ((with_reducible apply PG.wa_mod); (case h1 => omega)) | ((with_reducible apply PG.wa_div); (case h1 => omega); (case h2 => omega)) | ((with_reducible apply PG.wa_mulR); (case h1 => omega); (case h2 => omega)) | ((with_reducible apply PG.wa_mulL); (case h1 => omega); (case h2 => omega)) | ((with_reducible apply PG.wa_shr); (case h1 => omega)))
local macro_rules | `(tactic| array_get_dec) => `(tactic| first | ((with_reducible apply Pr_C.wp_draw); (case hp => assumption); (case h0 => omega); (case h1 => omega)) | ((with_reducible apply Pr_C.ls_i); (case hp => assumption)))

def allP (xs : List PyData) : Bool := (List.range xs.length).all fun i => insB (i : Nat) (xs.length : Nat) (xs.getD i .none)
def pgB : PyData → Bool
  | .tuple xs => (decide ((1 : Int) ≤ (xs.length : Nat)) && decide (((xs.length : Nat) : Int) ≤ 200)) && allP xs
  | _ => false
theorem tyneT {d : PyData} (h : Nd d) : dTyNe "tuple" d = some (.bool (!isT d)) := by
  cases d with
  | dict _ => obtain ⟨B, h⟩ := h; cases h
  | _ => simp [tyName, isT]
theorem wipe1 (a : Option Cell) : wipeR [a, none] [1] = [a, none] := rfl
theorem program_is {d : PyData} (g : G d) : F_is_program [d] = some (.bool (pgB d)) := by
  refine of_wa ?_
  unfold F_is_program; refine PG.wa_def rfl ?_; simp only [PG.rho0_eq, List.map_cons, List.map_nil, List.replicate_succ, List.replicate_zero, List.cons_append, List.nil_append]; unfold B_is_program
  (repeat array_get_dec)
  refine wa_eq (tyneT (gd_nd g)) ?_
  cases ht : isT d with
  | false =>
    (repeat array_get_dec)
    cases d <;> first | rfl | cases ht
  | true =>
    obtain ⟨xs, rfl⟩ := isT_tup ht
    have hl := (Gs.of_tup g).1.len
    (repeat array_get_dec)
    cases e1 : decide ((1 : Int) ≤ (xs.length : Nat)) with
    | false => (repeat array_get_dec); simp only [pgB, e1, Bool.false_and]
    | true =>
    (repeat array_get_dec)
    cases e2 : decide (((xs.length : Nat) : Int) ≤ 200) with
    | false => (repeat array_get_dec); simp only [pgB, e1, e2, Bool.false_and, Bool.and_false]
    | true =>
    (repeat array_get_dec)
    refine we_gen1 (fun i : Nat => PyData.int (i : Int)) (fun i => insB (i : Nat) (xs.length : Nat) (xs.getD i .none)) (List.range xs.length) ?_
    (repeat array_get_dec)
    refine r1_i (by simp only [in62, Bool.and_eq_true, decide_eq_true_eq]; omega) ?_
    refine ⟨by simp [rng], rfl, fun i hi => ?_, ?_⟩
    · have hi : i < xs.length := by simpa using hi
      obtain ⟨h1, h2⟩ := at_ok hi
      simp only [wipe1]
      unfold X_is_program_1
      (repeat array_get_dec)
      refine wa_eq h1 ?_
      (repeat array_get_dec)
      exact wa_eq (instruction_is (g_item g h2) _ _) ⟨rfl, rfl, rfl⟩
    · (repeat array_get_dec)
      simp only [pgB, e1, e2, Bool.true_and, allP]
      rfl
/-! ### the law's own -/
theorem law_decision_is {d : PyData} (g : G d) : F_law_is_decision [d] = some (.bool (dcB d)) := by
  refine of_wa ?_
  unfold F_law_is_decision; refine PG.wa_def rfl ?_; simp only [PG.rho0_eq, List.map_cons, List.map_nil, List.replicate_succ, List.replicate_zero, List.cons_append, List.nil_append]; unfold B_law_is_decision
  (repeat array_get_dec)
  refine wa_eq (isi_is (gd_nd g)) ?_
  cases ht : isT d with
  | false =>
    (repeat array_get_dec)
    cases d <;> first | rfl | cases ht
  | true =>
  obtain ⟨xs, rfl⟩ := isT_tup ht
  (repeat array_get_dec)
  cases xs with
  | nil =>
    rw [show decide (((([] : List PyData).length : Nat) : Int) = 0) = true from rfl]
    (repeat array_get_dec)
    rfl
  | cons x r =>
  rw [show decide ((((x :: r).length : Nat) : Int) = 0) = false from decide_eq_false (by simp; omega)]
  (repeat array_get_dec)
  refine wa_eq (isiS (gd_nd (g_item g (by simp)))) ?_
  cases hs : isS x with
  | false =>
    (repeat array_get_dec)
    cases x <;> first | rfl | cases hs
  | true =>
  obtain ⟨s, rfl⟩ := isS_str hs
  have hs : SeqAt.shaped (.str s) = true := g_shp (g_item g (by simp))
  (repeat array_get_dec)
  refine wa_eq (deq_str hs (by decide +kernel)) ?_
  cases e1 : decide (s = L "refuse") with
  | true =>
    (repeat array_get_dec)
    cases e2 : decide (((PyData.str s :: r).length : Int) = 2) with
    | false =>
      (repeat array_get_dec)
      simp only [dcB, e1, e2, if_true, Bool.false_and]
    | true =>
      (repeat array_get_dec)
      obtain ⟨h1, h2⟩ := at_ok (xs := .str s :: r) (k := 1) (by have := of_decide_eq_true e2; omega)
      refine wa_eq h1 ?_
      (repeat array_get_dec)
      refine wa_eq (lnumber_is (gd_nd (g_item g h2))) ?_
      (repeat array_get_dec)
      simp only [dcB, e1, e2, if_true, Bool.true_and]
  | false =>
    (repeat array_get_dec)
    cases e2 : decide (((PyData.str s :: r).length : Int) = 1) with
    | false =>
      (repeat array_get_dec)
      simp only [dcB, e1, e2, Bool.false_eq_true, if_false, Bool.and_false]
    | true =>
      (repeat array_get_dec)
      refine wa_eq (in_str [L "accept", L "drop"]) ?_
      (repeat array_get_dec)
      simp only [dcB, e1, e2, Bool.false_eq_true, if_false, Bool.and_true]
end Pr_gatewarden_k59_programs_told
end
section
set_option linter.all false
set_option maxRecDepth 100000
set_option Elab.async false
namespace Pr_gatewarden_k59_programs_told
open PySem PG Pr_C Pr_D Pr_N
local macro_rules | `(tactic| array_get_dec) => `(tactic| first | ((with_reducible apply PG.ws_set)) | ((with_reducible apply PG.ws_if)) | ((with_reducible apply PG.ws_ret)) | ((with_reducible apply PG.ws_setL)) | ((with_reducible apply PG.ws_expr)) | ((with_reducible apply PG.ws_nilc)) | ((with_reducible apply PG.ws_asc)) | ((with_reducible apply PG.ws_nil)) | ((with_reducible apply PG.ws_for)) | ((with_reducible apply PG.ws_asg)) | ((with_reducible apply PG.ws_par)) | ((with_reducible apply PG.ws_retL)) | ((with_reducible apply PG.ws_brk)) | ((with_reducible apply PG.ws_cont)) | ((with_reducible apply PG.ws_forn)) | ((with_reducible apply PG.ws_sto)) | ((with_reducible apply PG.ws_aug); (case hget => rfl)) | ((with_reducible apply PG.ws_app); (case hget => rfl)) | ((with_reducible apply PG.ws_retO); (case hget => rfl)) | ((with_reducible apply PG.we_name); (case hget => rfl)) | ((with_reducible apply PG.we_c)) | ((with_reducible apply PG.we_bin)) | ((with_reducible apply PG.we_un)) | ((with_reducible apply PG.we_call)) | ((with_reducible apply PG.we_callL); (case hget => rfl)) | ((with_reducible apply PG.we_tup)) | ((with_reducible apply PG.we_lst)) | ((with_reducible apply PG.we_if)) | ((with_reducible apply PG.we_ixL); (case hget => rfl)) | ((with_reducible apply PG.we_unL); (case hget => rfl)) | ((with_reducible apply PG.we_and)) | ((with_reducible apply PG.we_or)) | ((with_reducible apply PG.we_not)) | ((with_reducible apply PG.we_chain)) | ((with_reducible apply PG.we_slT)) | ((with_reducible apply PG.wn_cons)) | ((with_reducible apply PG.wn_nil)) | ((with_reducible apply PG.wn_star)) | ((with_reducible apply PG.wn_disp)) | ((with_reducible apply PG.wn_call)) | ((with_reducible apply PG.wn_sl)) | ((with_reducible apply PG.wn_its)) | ((with_reducible apply PG.wn_r1)) | ((with_reducible apply PG.wn_r2)) | ((with_reducible apply PG.wn_r3)) | ((with_reducible apply PG.wt_tru)) | ((with_reducible apply PG.wt_bl)) | ((with_reducible apply PG.wt_and)) | ((with_reducible apply PG.wt_or)) | ((with_reducible apply PG.wt_not)) | ((with_reducible apply PG.wt_yes)) | ((with_reducible apply PG.wt_truL); (case hget => rfl)) | ((with_reducible apply PG.wo_none)) | ((with_reducible apply PG.wo_some)) | ((with_reducible apply PG.wg_p0)) | ((with_reducible apply PG.wg_tup)) | ((with_reducible apply PG.wg_ps); (case hset => (repeat' (first | exact PG.SetR.h0 | exact PG.SetR.h1 | exact PG.SetR.hl | exact PG.SetR.hc (by assumption) | apply PG.SetR.s)))) | ((with_reducible apply PG.wg_set); (case hset => (repeat' (first | exact PG.SetR.h0 | exact PG.SetR.h1 | exact PG.SetR.hl | exact PG.SetR.hc (by assumption) | apply PG.SetR.s)))) | ((with_reducible apply PG.we_frz); (case hget => rfl); (case hset => (repeat' (first | exact PG.SetR.h0 | exact PG.SetR.h1 | exact PG.SetR.hl | exact PG.SetR.hc (by assumption) | apply PG.SetR.s)))) | ((with_reducible apply PG.setr_i); (case hset => (repeat' (first | exact PG.SetR.h0 | exact PG.SetR.h1 | exact PG.SetR.hl | exact PG.SetR.hc (by assumption) | apply PG.SetR.s)))) | ((with_reducible apply PG.setl_i); (case hset => (repeat' (first | exact PG.SetLR.h0 | exact PG.SetLR.h1 | exact PG.SetLR.hl | apply PG.SetLR.s)))) | ((with_reducible apply PG.put_i); (case hset => (repeat' (first | exact PG.PutR.h | apply PG.PutR.s)))) | ((with_reducible apply PG.pool_i); (case hget => rfl)) | ((with_reducible apply PG.bool_i)) | ((with_reducible apply PG.int_i)) | ((with_reducible apply PG.seqL_i)) | ((with_reducible apply PG.seqT_i)) | ((with_reducible apply PG.seqR_i)) | ((with_reducible apply PG.starT_i)) | ((with_reducible apply PG.starL_i)) | ((with_reducible apply PG.len_i); (case h => rfl)) | ((with_reducible apply PG.tup_i)) | ((with_reducible apply PG.yes_i)) | ((with_reducible apply PG.no_i)) | ((with_reducible apply PG.nyes_i)) | ((with_reducible apply PG.nno_i)) | ((with_reducible apply PG.wa_add)) | ((with_reducible apply PG.wa_sub)) | ((with_reducible apply PG.wa_lt)) | ((with_reducible apply PG.wa_le)) | ((with_reducible apply PG.wa_gt)) | ((with_reducible apply PG.wa_ge)) | ((with_reducible apply PG.wa_eqI)) | ((with_reducible apply PG.wa_neI)) | ((with_reducible apply PG.wa_neg)) | ((with_reducible apply PG.wa_lenL)) | ((with_reducible apply PG.wa_lenT)) | ((with_reducible apply PG.wa_int)) | ((with_reducible apply PG.wa_max)) | ((with_reducible apply PG.wa_min)) | ((with_reducible apply PG.wb_bool)) | ((with_reducible apply PG.wb_int)) | ((with_reducible apply PG.endP_ret)) | ((with_reducible apply PG.endP_retL)) | ((with_reducible apply PG.endN_ret)) | ((with_reducible apply PG.endL_ret)) | ((with_reducible apply PG.endL_retL)) | ((with_reducible apply PG.wa_binO)) | ((with_reducible apply PG.ch_le)) | ((with_reducible apply PG.ch_lt)) | ((with_reducible apply PG.ch_eq)) | ((with_reducible apply PG.wa_ix0); (case hget => rfl)) | ((with_reducible apply PG.wa_ix1); (case hget => rfl)) | ((with_reducible apply PG.wa_ix2); (case hget => rfl)) | ((with_reducible apply PG.wa_ix3); (case hget => rfl)) | ((with_reducible apply PG.wa_ix4); (case hget => rfl)) | ((with_reducible apply PG.wa_ix5); (case hget => rfl)) | ((with_reducible apply PG.wa_ix6); (case hget => rfl)) | ((with_reducible apply PG.wa_ix7); (case hget => rfl)) | ((with_reducible apply PG.wa_ix8); (case hget => rfl)) | ((with_reducible apply PG.wa_il0); (case hget => rfl)) | ((with_reducible apply PG.wa_il1); (case hget => rfl)) | ((with_reducible apply PG.wa_il2); (case hget => rfl)) | ((with_reducible apply PG.wa_ev1)) | ((with_reducible apply PG.wa_ev)) | ((with_reducible apply PG.wl_ev)) | ((with_reducible apply PG.wb_ev)) | ((with_reducible apply PG.wa_mod); (case h1 => omega)) | ((with_reducible apply PG.wa_div); (case h1 => omega); (case h2 => omega)) | ((with_reducible apply PG.wa_mulR); (case h1 => omega); (case h2 => omega)) | ((with_reducible apply PG.wa_mulL); (case h1 => omega); (case h2 => omega)) | ((with_reducible apply PG.wa_shr); (case h1 => omega)))
local macro_rules | `(tactic| array_get_dec) => `(tactic| first | ((with_reducible apply Pr_C.wp_draw); (case hp => assumption); (case h0 => omega); (case h1 => omega)) | ((with_reducible apply Pr_C.ls_i); (case hp => assumption)))

theorem short_ins {s : Str} {xs : List PyData} {k n : Int} (h : xs.length < 3) (h2 : decide (s = L "answer") = false) : insS s xs k n = false := by
  have e : decide (((xs.length : Nat) : Int) < 3) = true := decide_eq_true (by omega)
  simp only [insS, h2, e, Bool.true_or, if_true, Bool.false_eq_true, if_false]
theorem any4 (s a b c d : Str) : anyS s [a, b, c, d] = anyS s [a, b, d, c] := by
  simp only [anyS, List.any_cons, List.any_nil, Bool.or_false]
  cases decide (a = s) <;> cases decide (b = s) <;> cases decide (c = s) <;> cases decide (d = s) <;> rfl
theorem wipe3 (a b c : Option Cell) : wipeR [a, b, c, none] [3] = [a, b, c, none] := rfl
theorem put_not {s : Str} (h : anyS s [L "put", L "mask"] = true) : decide (s = L "less") = false := by
  refine decide_eq_false fun e => ?_
  subst e
  have : anyS (L "less") [L "put", L "mask"] = false := by decide +kernel
  rw [this] at h
  cases h
theorem nb_more {k n : Int} {x : PyData} (hk : 0 ≤ k) (h : nb 0 (n - 1) x = false) : nb (k + 1) (n - 1) x = false := by
  cases x with
  | int i =>
    simp only [nb] at h ⊢
    by_cases c : i ≤ n - 1
    · rw [decide_eq_true c, Bool.and_true] at h
      have := of_decide_eq_false h
      rw [decide_eq_false (by omega)]
      rfl
    · rw [decide_eq_false c, Bool.and_false]
  | _ => rfl
theorem none_left {xs : List PyData} {f : PyData → Bool} : decide ((((xs.filter fun x => !f x).map id).length : Int) = 0) = xs.all f := by
  rw [List.map_id, Bool.eq_iff_iff, decide_eq_true_eq, List.all_eq_true]
  constructor
  · intro h x hx
    have h0 : (List.filter (fun x => !f x) xs).length = 0 := by omega
    have := List.filter_eq_nil_iff.mp (List.length_eq_zero_iff.mp h0) x hx
    simpa using this
  · intro h
    rw [List.filter_eq_nil_iff.mpr fun x hx => by rw [h x hx]; simp]
    rfl
theorem law_instruction_is {d : PyData} (g : G d) (k n : Int) (hk : 0 ≤ k) : F_law_is_instruction [d, .int k, .int n] = some (.bool (insB k n d)) := by
  refine of_wa ?_
  unfold F_law_is_instruction; refine PG.wa_def rfl ?_; simp only [PG.rho0_eq, List.map_cons, List.map_nil, List.replicate_succ, List.replicate_zero, List.cons_append, List.nil_append]; unfold B_law_is_instruction
  (repeat array_get_dec)
  refine wa_eq (isi_is (gd_nd g)) ?_
  cases ht : isT d with
  | false =>
    (repeat array_get_dec)
    cases d <;> first | rfl | cases ht
  | true =>
  obtain ⟨xs, rfl⟩ := isT_tup ht
  (repeat array_get_dec)
  cases e0 : decide (((xs.length : Nat) : Int) < 2) with
  | true =>
    (repeat array_get_dec)
    have hl := of_decide_eq_true e0
    cases xs with
    | nil => rfl
    | cons x r =>
      cases x with
      | str s =>
        simp only [insB]
        by_cases hs : s = L "answer"
        · have e : decide ((((PyData.str s :: r).length : Nat) : Int) = 2) = false := decide_eq_false (by omega)
          simp only [insS, e, Bool.false_and, decide_eq_true hs, if_true]
        · rw [short_ins (by omega) (decide_eq_false hs)]
      | _ => rfl
  | false =>
  (repeat array_get_dec)
  have hl2 := of_decide_eq_false e0
  cases xs with
  | nil => simp at hl2
  | cons x r =>
  (repeat array_get_dec)
  refine wa_eq (isiS (gd_nd (g_item g (by simp)))) ?_
  cases hs : isS x with
  | false =>
    (repeat array_get_dec)
    cases x <;> first | rfl | cases hs
  | true =>
  obtain ⟨s, rfl⟩ := isS_str hs
  have hs : SeqAt.shaped (.str s) = true := g_shp (g_item g (by simp))
  have go := fun k h => at_ok (xs := .str s :: r) (k := k) h
  have nd : ∀ k, k < (PyData.str s :: r).length → Nd ((PyData.str s :: r).getD k .none) := fun k h => gd_nd (g_item g (go k h).2)
  have hz : ∀ P : PyData → Prop, P (.str s) → WA (dIx (.tuple (.str s :: r)) (.int 0)) P := fun P h => ⟨_, (at_ok (xs := .str s :: r) (k := 0) (by simp)).1, h⟩
  simp only [insB]
  generalize hxs : (PyData.str s :: r : List PyData) = xs at *
  (repeat array_get_dec)
  refine hz _ ?_
  (repeat array_get_dec)
  refine wa_eq (deq_str hs (by decide +kernel)) ?_
  cases e1 : decide (s = L "answer") with
  | true =>
    (repeat array_get_dec)
    cases e2 : decide (((xs.length : Nat) : Int) = 2) with
    | false => (repeat array_get_dec); simp only [insS, e1, e2, if_true, Bool.false_and]
    | true =>
      (repeat array_get_dec)
      have hl := of_decide_eq_true e2
      refine wa_eq (go 1 (by omega)).1 ?_
      (repeat array_get_dec)
      refine wa_eq (law_decision_is (g_item g (go 1 (by omega)).2)) ?_
      (repeat array_get_dec)
      simp only [insS, e1, e2, if_true, Bool.true_and]
  | false =>
  (repeat array_get_dec)
  refine wa_eq (go 1 (by omega)).1 ?_
  (repeat array_get_dec)
  refine wa_eq (lnumber_is (nd 1 (by omega))) ?_
  cases e4 : nb 0 3 (xs.getD 1 .none) with
  | false => (repeat array_get_dec); simp only [insS, e1, e4, Bool.not_false, Bool.or_true, if_true, Bool.false_eq_true, if_false]
  | true =>
  (repeat array_get_dec)
  refine hz _ ?_
  (repeat array_get_dec)
  refine wa_eq (in_str [L "byte", L "word"]) ?_
  have e34 : 3 ≤ xs.length → (decide (((xs.length : Nat) : Int) < 3) || !nb 0 3 (xs.getD 1 .none)) = false := fun h => by
    rw [e4, decide_eq_false (by omega)]
    rfl
  cases e5 : anyS s [L "byte", L "word"] with
  | true =>
    (repeat array_get_dec)
    cases e6 : decide (((xs.length : Nat) : Int) = 4) with
    | false =>
      (repeat array_get_dec)
      by_cases h3 : xs.length < 3
      · rw [short_ins h3 e1]
      · simp only [insS, e1, e34 (by omega), e5, e6, if_true, Bool.false_eq_true, if_false, Bool.false_and]
    | true =>
    (repeat array_get_dec)
    have hl4 := of_decide_eq_true e6
    have ei := e34 (by omega)
    refine wa_eq (go 2 (by omega)).1 ?_
    (repeat array_get_dec)
    refine wa_eq (isiS (nd 2 (by omega))) ?_
    cases e7 : isS (xs.getD 2 .none) with
    | false =>
      (repeat array_get_dec)
      have : oneB [L "outer", L "inner"] (xs.getD 2 .none) = false := by cases h : xs.getD 2 .none <;> first | rfl | (rw [h] at e7; cases e7)
      simp only [insS, e1, ei, e5, e6, this, if_true, Bool.false_eq_true, if_false, Bool.false_and, Bool.true_and]
    | true =>
    obtain ⟨t, ht⟩ := isS_str e7
    (repeat array_get_dec)
    refine wa_eq ((go 2 (by omega)).1.trans (by rw [ht])) ?_
    (repeat array_get_dec)
    refine wa_eq (in_str [L "outer", L "inner"]) ?_
    cases e8 : anyS t [L "outer", L "inner"] with
    | false => (repeat array_get_dec); simp only [insS, e1, ei, e5, e6, ht, oneB, e8, if_true, Bool.false_eq_true, if_false, Bool.false_and, Bool.true_and]
    | true =>
    (repeat array_get_dec)
    refine wa_eq (go 3 (by omega)).1 ?_
    (repeat array_get_dec)
    refine wa_eq (lnumber_is (nd 3 (by omega))) ?_
    (repeat array_get_dec)
    simp only [insS, e1, ei, e5, e6, ht, oneB, e8, if_true, Bool.false_eq_true, if_false, Bool.true_and]
  | false =>
  (repeat array_get_dec)
  refine hz _ ?_
  (repeat array_get_dec)
  refine wa_eq (deq_str hs (by decide +kernel)) ?_
  cases e6 : decide (s = L "special") with
  | true =>
    (repeat array_get_dec)
    cases e7 : decide (((xs.length : Nat) : Int) = 3) with
    | false =>
      (repeat array_get_dec)
      by_cases h3 : xs.length < 3
      · rw [short_ins h3 e1]
      · simp only [insS, e1, e34 (by omega), e5, e6, e7, if_true, Bool.false_eq_true, if_false, Bool.false_and]
    | true =>
    (repeat array_get_dec)
    have hl4 := of_decide_eq_true e7
    have ei := e34 (by omega)
    refine wa_eq (go 2 (by omega)).1 ?_
    (repeat array_get_dec)
    refine wa_eq (isiS (nd 2 (by omega))) ?_
    cases e8 : isS (xs.getD 2 .none) with
    | false =>
      (repeat array_get_dec)
      have : oneB [L "interface", L "length", L "side", L "talk"] (xs.getD 2 .none) = false := by cases h : xs.getD 2 .none <;> first | rfl | (rw [h] at e8; cases e8)
      simp only [insS, e1, ei, e5, e6, e7, this, if_true, Bool.false_eq_true, if_false, Bool.true_and]
    | true =>
    obtain ⟨t, ht⟩ := isS_str e8
    (repeat array_get_dec)
    refine wa_eq ((go 2 (by omega)).1.trans (by rw [ht])) ?_
    (repeat array_get_dec)
    refine wa_eq (in_str [L "interface", L "length", L "talk", L "side"]) ?_
    (repeat array_get_dec)
    rw [any4]
    simp only [insS, e1, ei, e5, e6, e7, ht, oneB, if_true, Bool.false_eq_true, if_false, Bool.true_and]
  | false =>
  (repeat array_get_dec)
  refine hz _ ?_
  (repeat array_get_dec)
  refine wa_eq (in_str [L "put", L "mask"]) ?_
  cases e9 : anyS s [L "put", L "mask"] with
  | true =>
    have e8 := put_not e9
    (repeat array_get_dec)
    cases e7 : decide (((xs.length : Nat) : Int) = 3) with
    | false =>
      (repeat array_get_dec)
      by_cases h3 : xs.length < 3
      · rw [short_ins h3 e1]
      · simp only [insS, e1, e34 (by omega), e5, e6, e7, e8, e9, if_true, Bool.false_eq_true, if_false, Bool.and_false, ite_self]
    | true =>
    (repeat array_get_dec)
    have hl4 := of_decide_eq_true e7
    refine wa_eq (go 2 (by omega)).1 ?_
    (repeat array_get_dec)
    refine wa_eq (lnumber_is (nd 2 (by omega))) ?_
    (repeat array_get_dec)
    cases e10 : nb 0 65535 (xs.getD 2 .none) <;> simp only [insS, e1, e34 (by omega), e5, e6, e7, e8, e9, e10, if_true, Bool.false_eq_true, if_false, Bool.and_true, Bool.not_false, Bool.not_true]
  | false =>
  (repeat array_get_dec)
  refine hz _ ?_
  (repeat array_get_dec)
  refine wa_eq (dne_str hs (by decide +kernel)) ?_
  cases e8 : decide (s = L "less") with
  | false =>
    (repeat array_get_dec)
    by_cases h3 : xs.length < 3
    · rw [short_ins h3 e1]
    · simp only [insS, e1, e34 (by omega), e5, e6, e8, e9, Bool.false_eq_true, if_false, Bool.false_and, ite_self]
  | true =>
  (repeat array_get_dec)
  cases e7 : decide (((xs.length : Nat) : Int) = 5) with
  | false =>
    (repeat array_get_dec)
    by_cases h3 : xs.length < 3
    · rw [short_ins h3 e1]
    · simp only [insS, e1, e34 (by omega), e5, e6, e7, e8, e9, Bool.false_eq_true, if_false, if_true, Bool.false_and, ite_self]
  | true =>
  (repeat array_get_dec)
  have hl4 := of_decide_eq_true e7
  have ei := e34 (by omega)
  refine wa_eq (go 2 (by omega)).1 ?_
  (repeat array_get_dec)
  refine wa_eq (lnumber_is (nd 2 (by omega))) ?_
  cases e10 : nb 0 65535 (xs.getD 2 .none) with
  | false => (repeat array_get_dec); simp only [insS, e1, ei, e5, e6, e7, e8, e10, Bool.false_eq_true, if_false, if_true, Bool.not_false]
  | true =>
  (repeat array_get_dec)
  refine wn_map id (fun x => !nb (k + 1) (n - 1) x) id (xs.drop 3) ?_
  (repeat array_get_dec)
  refine ⟨by rw [cut3, List.map_id], by simp; omega, rfl, fun x hx => ?_, ?_⟩
  · simp only [wipe3, id]
    have gx := g_item g (List.mem_of_mem_drop hx)
    unfold X_law_is_instruction_1
    (repeat array_get_dec)
    refine wa_eq (lnumber_is (gd_nd gx)) ?_
    cases e11 : nb 0 (n - 1) x with
    | false =>
      (repeat array_get_dec)
      rw [nb_more hk e11]
      refine ⟨rfl, fun _ => ?_, fun z => (nomatch z)⟩
      unfold X_law_is_instruction_2
      (repeat array_get_dec)
      exact ⟨rfl, rfl, rfl⟩
    | true =>
      obtain ⟨i, rfl, i0, i1⟩ := nb_int e11
      (repeat array_get_dec)
      refine ⟨?_, fun _ => ?_, fun _ => ⟨rfl, rfl⟩⟩
      · simp only [nb]
        rw [decide_eq_true i1, Bool.and_true]
        by_cases c : i ≤ k
        · rw [decide_eq_true c, decide_eq_false (by omega)]; rfl
        · rw [decide_eq_false c, decide_eq_true (by omega)]; rfl
      unfold X_law_is_instruction_2
      (repeat array_get_dec)
      exact ⟨rfl, rfl, rfl⟩
  · (repeat array_get_dec)
    rw [none_left]
    simp only [insS, e1, ei, e5, e6, e7, e8, e10, Bool.false_eq_true, if_false, if_true, Bool.not_true, Bool.true_and]
end Pr_gatewarden_k59_programs_told
end
section
set_option linter.all false
set_option maxRecDepth 100000
set_option Elab.async false
namespace Pr_gatewarden_k59_programs_told
open PySem PG Pr_C Pr_D Pr_N
local macro_rules | `(tactic| array_get_dec) => `(tactic| first | ((with_reducible apply PG.ws_set)) | ((with_reducible apply PG.ws_if)) | ((with_reducible apply PG.ws_ret)) | ((with_reducible apply PG.ws_setL)) | ((with_reducible apply PG.ws_expr)) | ((with_reducible apply PG.ws_nilc)) | ((with_reducible apply PG.ws_asc)) | ((with_reducible apply PG.ws_nil)) | ((with_reducible apply PG.ws_for)) | ((with_reducible apply PG.ws_asg)) | ((with_reducible apply PG.ws_par)) | ((with_reducible apply PG.ws_retL)) | ((with_reducible apply PG.ws_brk)) | ((with_reducible apply PG.ws_cont)) | ((with_reducible apply PG.ws_forn)) | ((with_reducible apply PG.ws_sto)) | ((with_reducible apply PG.ws_aug); (case hget => rfl)) | ((with_reducible apply PG.ws_app); (case hget => rfl)) | ((with_reducible apply PG.ws_retO); (case hget => rfl)) | ((with_reducible apply PG.we_name); (case hget => rfl)) | ((with_reducible apply PG.we_c)) | ((with_reducible apply PG.we_bin)) | ((with_reducible apply PG.we_un)) | ((with_reducible apply PG.we_call)) | ((with_reducible apply PG.we_callL); (case hget => rfl)) | ((with_reducible apply PG.we_tup)) | ((with_reducible apply PG.we_lst)) | ((with_reducible apply PG.we_if)) | ((with_reducible apply PG.we_ixL); (case hget => rfl)) | ((with_reducible apply PG.we_unL); (case hget => rfl)) | ((with_reducible apply PG.we_and)) | ((with_reducible apply PG.we_or)) | ((with_reducible apply PG.we_not)) | ((with_reducible apply PG.we_chain)) | ((with_reducible apply PG.we_slT)) | ((with_reducible apply PG.wn_cons)) | ((with_reducible apply PG.wn_nil)) | ((with_reducible apply PG.wn_star)) | ((with_reducible apply PG.wn_disp)) | ((with_reducible apply PG.wn_call)) | ((with_reducible apply PG.wn_sl)) | ((with_reducible apply PG.wn_its)) | ((with_reducible apply PG.wn_r1)) | ((with_reducible apply PG.wn_r2)) | ((with_reducible apply PG.wn_r3)) | ((with_reducible apply PG.wt_tru)) | ((with_reducible apply PG.wt_bl)) | ((with_reducible apply PG.wt_and)) | ((with_reducible apply PG.wt_or)) | ((with_reducible apply PG.wt_not)) | ((with_reducible apply PG.wt_yes)) | ((with_reducible apply PG.wt_truL); (case hget => rfl)) | ((with_reducible apply PG.wo_none)) | ((with_reducible apply PG.wo_some)) | ((with_reducible apply PG.wg_p0)) | ((with_reducible apply PG.wg_tup)) | ((with_reducible apply PG.wg_ps); (case hset => (repeat' (first | exact PG.SetR.h0 | exact PG.SetR.h1 | exact PG.SetR.hl | exact PG.SetR.hc (by assumption) | apply PG.SetR.s)))) | ((with_reducible apply PG.wg_set); (case hset => (repeat' (first | exact PG.SetR.h0 | exact PG.SetR.h1 | exact PG.SetR.hl | exact PG.SetR.hc (by assumption) | apply PG.SetR.s)))) | ((with_reducible apply PG.we_frz); (case hget => rfl); (case hset => (repeat' (first | exact PG.SetR.h0 | exact PG.SetR.h1 | exact PG.SetR.hl | exact PG.SetR.hc (by assumption) | apply PG.SetR.s)))) | ((with_reducible apply PG.setr_i); (case hset => (repeat' (first | exact PG.SetR.h0 | exact PG.SetR.h1 | exact PG.SetR.hl | exact PG.SetR.hc (by assumption) | apply PG.SetR.s)))) | ((with_reducible apply PG.setl_i); (case hset => (repeat' (first | exact PG.SetLR.h0 | exact PG.SetLR.h1 | exact PG.SetLR.hl | apply PG.SetLR.s)))) | ((with_reducible apply PG.put_i); (case hset => (repeat' (first | exact PG.PutR.h | apply PG.PutR.s)))) | ((with_reducible apply PG.pool_i); (case hget => rfl)) | ((with_reducible apply PG.bool_i)) | ((with_reducible apply PG.int_i)) | ((with_reducible apply PG.seqL_i)) | ((with_reducible apply PG.seqT_i)) | ((with_reducible apply PG.seqR_i)) | ((with_reducible apply PG.starT_i)) | ((with_reducible apply PG.starL_i)) | ((with_reducible apply PG.len_i); (case h => rfl)) | ((with_reducible apply PG.tup_i)) | ((with_reducible apply PG.yes_i)) | ((with_reducible apply PG.no_i)) | ((with_reducible apply PG.nyes_i)) | ((with_reducible apply PG.nno_i)) | ((with_reducible apply PG.wa_add)) | ((with_reducible apply PG.wa_sub)) | ((with_reducible apply PG.wa_lt)) | ((with_reducible apply PG.wa_le)) | ((with_reducible apply PG.wa_gt)) | ((with_reducible apply PG.wa_ge)) | ((with_reducible apply PG.wa_eqI)) | ((with_reducible apply PG.wa_neI)) | ((with_reducible apply PG.wa_neg)) | ((with_reducible apply PG.wa_lenL)) | ((with_reducible apply PG.wa_lenT)) | ((with_reducible apply PG.wa_int)) | ((with_reducible apply PG.wa_max)) | ((with_reducible apply PG.wa_min)) | ((with_reducible apply PG.wb_bool)) | ((with_reducible apply PG.wb_int)) | ((with_reducible apply PG.endP_ret)) | ((with_reducible apply PG.endP_retL)) | ((with_reducible apply PG.endN_ret)) | ((with_reducible apply PG.endL_ret)) | ((with_reducible apply PG.endL_retL)) | ((with_reducible apply PG.wa_binO)) | ((with_reducible apply PG.ch_le)) | ((with_reducible apply PG.ch_lt)) | ((with_reducible apply PG.ch_eq)) | ((with_reducible apply PG.wa_ix0); (case hget => rfl)) | ((with_reducible apply PG.wa_ix1); (case hget => rfl)) | ((with_reducible apply PG.wa_ix2); (case hget => rfl)) | ((with_reducible apply PG.wa_ix3); (case hget => rfl)) | ((with_reducible apply PG.wa_ix4); (case hget => rfl)) | ((with_reducible apply PG.wa_ix5); (case hget => rfl)) | ((with_reducible apply PG.wa_ix6); (case hget => rfl)) | ((with_reducible apply PG.wa_ix7); (case hget => rfl)) | ((with_reducible apply PG.wa_ix8); (case hget => rfl)) | ((with_reducible apply PG.wa_il0); (case hget => rfl)) | ((with_reducible apply PG.wa_il1); (case hget => rfl)) | ((with_reducible apply PG.wa_il2); (case hget => rfl)) | ((with_reducible apply PG.wa_ev1)) | ((with_reducible apply PG.wa_ev)) | ((with_reducible apply PG.wl_ev)) | ((with_reducible apply PG.wb_ev)) | ((with_reducible apply PG.wa_mod); (case h1 => omega)) | ((with_reducible apply PG.wa_div); (case h1 => omega); (case h2 => omega)) | ((with_reducible apply PG.wa_mulR); (case h1 => omega); (case h2 => omega)) | ((with_reducible apply PG.wa_mulL); (case h1 => omega); (case h2 => omega)) | ((with_reducible apply PG.wa_shr); (case h1 => omega)))
local macro_rules | `(tactic| array_get_dec) => `(tactic| first | ((with_reducible apply Pr_C.wp_draw); (case hp => assumption); (case h0 => omega); (case h1 => omega)) | ((with_reducible apply Pr_C.ls_i); (case hp => assumption)))

theorem law_program_is {d : PyData} (g : G d) : F_law_is_program [d] = some (.bool (pgB d)) := by
  refine of_wa ?_
  unfold F_law_is_program; refine PG.wa_def rfl ?_; simp only [PG.rho0_eq, List.map_cons, List.map_nil, List.replicate_succ, List.replicate_zero, List.cons_append, List.nil_append]; unfold B_law_is_program
  (repeat array_get_dec)
  refine wa_eq (isi_is (gd_nd g)) ?_
  cases ht : isT d with
  | false =>
    (repeat array_get_dec)
    cases d <;> first | rfl | cases ht
  | true =>
  obtain ⟨xs, rfl⟩ := isT_tup ht
  have hl := (Gs.of_tup g).1.len
  (repeat array_get_dec)
  cases e1 : decide (((xs.length : Nat) : Int) < 1) with
  | true =>
    (repeat array_get_dec)
    have := of_decide_eq_true e1
    have e : decide ((1 : Int) ≤ (xs.length : Nat)) = false := decide_eq_false (by omega)
    simp only [pgB, e, Bool.false_and]
  | false =>
  have h1 := of_decide_eq_false e1
  have f1 : decide ((1 : Int) ≤ (xs.length : Nat)) = true := decide_eq_true (by omega)
  (repeat array_get_dec)
  cases e2 : decide ((200 : Int) < (xs.length : Nat)) with
  | true =>
    (repeat array_get_dec)
    have := of_decide_eq_true e2
    have e : decide (((xs.length : Nat) : Int) ≤ 200) = false := decide_eq_false (by omega)
    simp only [pgB, e, Bool.and_false, Bool.false_and]
  | false =>
  have h2 := of_decide_eq_false e2
  have f2 : decide (((xs.length : Nat) : Int) ≤ 200) = true := decide_eq_true (by omega)
  (repeat array_get_dec)
  refine wn_map (fun i : Nat => PyData.int (i : Int)) (fun i => !insB (i : Nat) (xs.length : Nat) (xs.getD i .none)) (fun i : Nat => PyData.int (i : Int)) (List.range xs.length) ?_
  (repeat array_get_dec)
  refine r1_i (by simp only [in62, Bool.and_eq_true, decide_eq_true_eq]; omega) ?_
  refine ⟨by simp [rng], by simp; omega, rfl, fun i hi => ?_, ?_⟩
  · have hi : i < xs.length := by simpa using hi
    obtain ⟨h1, h2⟩ := at_ok hi
    simp only [wipe1]
    unfold X_law_is_program_1
    (repeat array_get_dec)
    refine wa_eq h1 ?_
    (repeat array_get_dec)
    refine wa_eq (law_instruction_is (g_item g h2) _ _ (by omega)) ?_
    (repeat array_get_dec)
    refine ⟨rfl, fun _ => ?_, fun _ => ⟨rfl, rfl⟩⟩
    unfold X_law_is_program_2
    (repeat array_get_dec)
    exact ⟨rfl, rfl, rfl⟩
  · (repeat array_get_dec)
    simp only [pgB, f1, f2, Bool.true_and]
    have key : decide ((((List.filter (fun i => !insB (i : Nat) (xs.length : Nat) (xs.getD i .none)) (List.range xs.length)).length : Nat) : Int) = 0) = allP xs := by
      rw [Bool.eq_iff_iff, decide_eq_true_eq]
      unfold allP
      rw [List.all_eq_true]
      constructor
      · intro h x hx
        have h0 : (List.filter (fun i => !insB (i : Nat) (xs.length : Nat) (xs.getD i .none)) (List.range xs.length)).length = 0 := by omega
        have := List.filter_eq_nil_iff.mp (List.length_eq_zero_iff.mp h0) x hx
        simpa using this
      · intro h
        rw [List.filter_eq_nil_iff.mpr fun x hx => by rw [h x hx]; simp]
        rfl
    rw [← key]
    simp only [List.length_map]
/-! ### bent, booled, listed: made of whole numbers, texts and tuples -/
def sh (x : Str) : Bool := PyData.strOk x && decide (x.length ≤ 16)
inductive It2 : PyData → Prop
  | int (i : Int) : It2 (.int i)
  | str {x : Str} : sh x = true → It2 (.str x)
  | tup {xs : List PyData} : (∀ x ∈ xs, It2 x) → It2 (.tuple xs)
theorem cutS_ok {x : Str} (h : sh x = true) (lo hi : Option Int) : okS (L2.cutS x lo hi) = true := by
  unfold sh at h
  rw [Bool.and_eq_true, decide_eq_true_eq] at h
  have hsub : ∀ c ∈ (L2.cutS x lo hi).cps.toList, c ∈ x.cps.toList := fun c hc => List.mem_of_mem_drop (List.mem_of_mem_take (by simpa [L2.cutS] using hc))
  have hlen : (L2.cutS x lo hi).length ≤ x.length := by
    show (L2.cutS x lo hi).cps.size ≤ x.cps.size
    simp only [L2.cutS, List.size_toArray, List.length_take, List.length_drop, Array.length_toList]
    omega
  unfold okS
  rw [Bool.and_eq_true, decide_eq_true_eq]
  refine ⟨?_, by omega⟩
  have h1 := h.1
  unfold PyData.strOk at h1 ⊢
  rw [← Array.all_toList, List.all_eq_true] at h1 ⊢
  exact fun c hc => h1 c (hsub c hc)
theorem app_ok {x y : Str} (h : sh x = true) (hy : okS y = true) (hl : y.length ≤ 4) : okS (x ++ y) = true := by
  unfold sh at h
  rw [Bool.and_eq_true, decide_eq_true_eq] at h
  unfold okS at hy ⊢
  rw [Bool.and_eq_true, decide_eq_true_eq] at hy ⊢
  have el : (x ++ y).length = x.length + y.length := by
    show (x.cps ++ y.cps).size = _
    rw [Array.size_append]
    rfl
  refine ⟨?_, by omega⟩
  have h1 := h.1
  have h2 := hy.1
  unfold PyData.strOk at h1 h2 ⊢
  show (x.cps ++ y.cps).all _ = true
  rw [Array.all_append, h1, h2]
  rfl
theorem sh_okS {x : Str} (h : sh x = true) : okS x = true := by
  unfold sh at h
  rw [Bool.and_eq_true, decide_eq_true_eq] at h
  unfold okS
  rw [Bool.and_eq_true, decide_eq_true_eq]
  exact ⟨h.1, by omega⟩
end Pr_gatewarden_k59_programs_told
end
section
set_option linter.all false
set_option maxRecDepth 100000
set_option Elab.async false
namespace Pr_gatewarden_k59_programs_told
open PySem PG Pr_C Pr_D Pr_N
theorem lenL (x : Str) (h : sh x = true) : x.length ≤ 16 := by
  unfold sh at h
  rw [Bool.and_eq_true, decide_eq_true_eq] at h
  exact h.2
theorem l1a : (Str.ofString "a").length = 1 := by decide +kernel
theorem l1b : (Str.ofString "A").length = 1 := by decide +kernel
theorem l1c : (Str.ofString " ").length = 1 := by decide +kernel
local macro_rules | `(tactic| array_get_dec) => `(tactic| first | ((with_reducible apply PG.ws_set)) | ((with_reducible apply PG.ws_if)) | ((with_reducible apply PG.ws_ret)) | ((with_reducible apply PG.ws_setL)) | ((with_reducible apply PG.ws_expr)) | ((with_reducible apply PG.ws_nilc)) | ((with_reducible apply PG.ws_asc)) | ((with_reducible apply PG.ws_nil)) | ((with_reducible apply PG.ws_for)) | ((with_reducible apply PG.ws_asg)) | ((with_reducible apply PG.ws_par)) | ((with_reducible apply PG.ws_retL)) | ((with_reducible apply PG.ws_brk)) | ((with_reducible apply PG.ws_cont)) | ((with_reducible apply PG.ws_forn)) | ((with_reducible apply PG.ws_sto)) | ((with_reducible apply PG.ws_aug); (case hget => rfl)) | ((with_reducible apply PG.ws_app); (case hget => rfl)) | ((with_reducible apply PG.ws_retO); (case hget => rfl)) | ((with_reducible apply PG.we_name); (case hget => rfl)) | ((with_reducible apply PG.we_c)) | ((with_reducible apply PG.we_bin)) | ((with_reducible apply PG.we_un)) | ((with_reducible apply PG.we_call)) | ((with_reducible apply PG.we_callL); (case hget => rfl)) | ((with_reducible apply PG.we_tup)) | ((with_reducible apply PG.we_lst)) | ((with_reducible apply PG.we_if)) | ((with_reducible apply PG.we_ixL); (case hget => rfl)) | ((with_reducible apply PG.we_unL); (case hget => rfl)) | ((with_reducible apply PG.we_and)) | ((with_reducible apply PG.we_or)) | ((with_reducible apply PG.we_not)) | ((with_reducible apply PG.we_chain)) | ((with_reducible apply PG.we_slT)) | ((with_reducible apply PG.wn_cons)) | ((with_reducible apply PG.wn_nil)) | ((with_reducible apply PG.wn_star)) | ((with_reducible apply PG.wn_disp)) | ((with_reducible apply PG.wn_call)) | ((with_reducible apply PG.wn_sl)) | ((with_reducible apply PG.wn_its)) | ((with_reducible apply PG.wn_r1)) | ((with_reducible apply PG.wn_r2)) | ((with_reducible apply PG.wn_r3)) | ((with_reducible apply PG.wt_tru)) | ((with_reducible apply PG.wt_bl)) | ((with_reducible apply PG.wt_and)) | ((with_reducible apply PG.wt_or)) | ((with_reducible apply PG.wt_not)) | ((with_reducible apply PG.wt_yes)) | ((with_reducible apply PG.wt_truL); (case hget => rfl)) | ((with_reducible apply PG.wo_none)) | ((with_reducible apply PG.wo_some)) | ((with_reducible apply PG.wg_p0)) | ((with_reducible apply PG.wg_tup)) | ((with_reducible apply PG.wg_ps); (case hset => (repeat' (first | exact PG.SetR.h0 | exact PG.SetR.h1 | exact PG.SetR.hl | exact PG.SetR.hc (by assumption) | apply PG.SetR.s)))) | ((with_reducible apply PG.wg_set); (case hset => (repeat' (first | exact PG.SetR.h0 | exact PG.SetR.h1 | exact PG.SetR.hl | exact PG.SetR.hc (by assumption) | apply PG.SetR.s)))) | ((with_reducible apply PG.we_frz); (case hget => rfl); (case hset => (repeat' (first | exact PG.SetR.h0 | exact PG.SetR.h1 | exact PG.SetR.hl | exact PG.SetR.hc (by assumption) | apply PG.SetR.s)))) | ((with_reducible apply PG.setr_i); (case hset => (repeat' (first | exact PG.SetR.h0 | exact PG.SetR.h1 | exact PG.SetR.hl | exact PG.SetR.hc (by assumption) | apply PG.SetR.s)))) | ((with_reducible apply PG.setl_i); (case hset => (repeat' (first | exact PG.SetLR.h0 | exact PG.SetLR.h1 | exact PG.SetLR.hl | apply PG.SetLR.s)))) | ((with_reducible apply PG.put_i); (case hset => (repeat' (first | exact PG.PutR.h | apply PG.PutR.s)))) | ((with_reducible apply PG.pool_i); (case hget => rfl)) | ((with_reducible apply PG.bool_i)) | ((with_reducible apply PG.int_i)) | ((with_reducible apply PG.seqL_i)) | ((with_reducible apply PG.seqT_i)) | ((with_reducible apply PG.seqR_i)) | ((with_reducible apply PG.starT_i)) | ((with_reducible apply PG.starL_i)) | ((with_reducible apply PG.len_i); (case h => rfl)) | ((with_reducible apply PG.tup_i)) | ((with_reducible apply PG.yes_i)) | ((with_reducible apply PG.no_i)) | ((with_reducible apply PG.nyes_i)) | ((with_reducible apply PG.nno_i)) | ((with_reducible apply PG.wa_add)) | ((with_reducible apply PG.wa_sub)) | ((with_reducible apply PG.wa_lt)) | ((with_reducible apply PG.wa_le)) | ((with_reducible apply PG.wa_gt)) | ((with_reducible apply PG.wa_ge)) | ((with_reducible apply PG.wa_eqI)) | ((with_reducible apply PG.wa_neI)) | ((with_reducible apply PG.wa_neg)) | ((with_reducible apply PG.wa_lenL)) | ((with_reducible apply PG.wa_lenT)) | ((with_reducible apply PG.wa_int)) | ((with_reducible apply PG.wa_max)) | ((with_reducible apply PG.wa_min)) | ((with_reducible apply PG.wb_bool)) | ((with_reducible apply PG.wb_int)) | ((with_reducible apply PG.endP_ret)) | ((with_reducible apply PG.endP_retL)) | ((with_reducible apply PG.endN_ret)) | ((with_reducible apply PG.endL_ret)) | ((with_reducible apply PG.endL_retL)) | ((with_reducible apply PG.wa_binO)) | ((with_reducible apply PG.ch_le)) | ((with_reducible apply PG.ch_lt)) | ((with_reducible apply PG.ch_eq)) | ((with_reducible apply PG.wa_ix0); (case hget => rfl)) | ((with_reducible apply PG.wa_ix1); (case hget => rfl)) | ((with_reducible apply PG.wa_ix2); (case hget => rfl)) | ((with_reducible apply PG.wa_ix3); (case hget => rfl)) | ((with_reducible apply PG.wa_ix4); (case hget => rfl)) | ((with_reducible apply PG.wa_ix5); (case hget => rfl)) | ((with_reducible apply PG.wa_ix6); (case hget => rfl)) | ((with_reducible apply PG.wa_ix7); (case hget => rfl)) | ((with_reducible apply PG.wa_ix8); (case hget => rfl)) | ((with_reducible apply PG.wa_il0); (case hget => rfl)) | ((with_reducible apply PG.wa_il1); (case hget => rfl)) | ((with_reducible apply PG.wa_il2); (case hget => rfl)) | ((with_reducible apply PG.wa_ev1)) | ((with_reducible apply PG.wa_ev)) | ((with_reducible apply PG.wl_ev)) | ((with_reducible apply PG.wb_ev)) | ((with_reducible apply PG.wa_mod); (case h1 => omega)) | ((with_reducible apply PG.wa_div); (case h1 => omega); (case h2 => omega)) | ((with_reducible apply PG.wa_mulR); (case h1 => omega); (case h2 => omega)) | ((with_reducible apply PG.wa_mulL); (case h1 => omega); (case h2 => omega)) | ((with_reducible apply PG.wa_shr); (case h1 => omega)))
local macro_rules | `(tactic| array_get_dec) => `(tactic| first | ((with_reducible apply Pr_C.wp_draw); (case hp => assumption); (case h0 => omega); (case h1 => omega)) | ((with_reducible apply Pr_C.ls_i); (case hp => assumption)))

local macro_rules | `(tactic| array_get_dec) => `(tactic| first | ((with_reducible apply PG.we_slX)) | ((with_reducible apply PG.slx_t)) | ((with_reducible apply PG.slx_s); (case hl => (omega))) | ((with_reducible apply PG.wa_addS); (case hl => (first | (rw [l1a]; omega) | (rw [l1b]; omega) | (rw [l1c]; omega)))))

theorem bent_ls2 (B : Int) (W : Nat) (hB : 0 ≤ B) (hW1 : 1 ≤ W) (hW : W ≤ 100000) : ∀ (n D : Nat) (v : PyData), It2 v → Gd B D W v → D < n → LS (F_law_bent n) [v] (Gd (B + 2) (D + 1) (3 * W * (D + 1) + 30))
  | 0, D, v, _, _, h => absurd h (Nat.not_lt_zero _)
  | n + 1, D, v, it, g, h => by
    have hR : W + 30 ≤ 3 * W * (D + 1) + 30 := by
      have : 3 * W * 1 ≤ 3 * W * (D + 1) := Nat.mul_le_mul_left _ (by omega)
      omega
    have hR3 : 3 * W + 30 ≤ 3 * W * (D + 1) + 30 := by
      have : 3 * W * 1 ≤ 3 * W * (D + 1) := Nat.mul_le_mul_left _ (by omega)
      omega
    intro p hp
    rw [F_law_bent]
    refine PG.wp_def rfl ?_
    simp only [PG.rhoL_eq, List.map_cons, List.map_nil, List.replicate_succ, List.replicate_zero, List.cons_append, List.nil_append]
    unfold B_law_bent
    cases it with
    | int i =>
      have gi := g.ok
      simp only [okd, Bool.and_eq_true, decide_eq_true_eq] at gi
      (repeat array_get_dec); intro v1 p1 k1 a1 b1; (repeat array_get_dec)
      (first | (with_reducible apply PG.dec_i) | (with_reducible apply PG.decn_i) | (with_reducible apply PG.bit_i)) <;> intro h
      · (repeat array_get_dec); intro v2 p2 k2 a2 b2; (repeat array_get_dec)
        refine wa_pick (Gd (B + 2) (D + 1) (3 * W * (D + 1) + 30)) a2 (by simpa using b2) (odd_pick hB (by omega)) ?_
        intro x hx; (repeat array_get_dec)
        exact hx
      (repeat array_get_dec); intro v2 p2 k2 a2 b2; (repeat array_get_dec)
      refine wa_pickI [1, -1, 2, 0] (fun z => -1 ≤ z ∧ z ≤ 2) a2 (by simpa using b2) (by simp) ?_
      intro z hz; (repeat array_get_dec)
      exact .int (by omega) (by omega) (by omega)
    | @str x hx =>
      have hxl := lenL x hx
      (repeat array_get_dec); intro v1 p1 k1 a1 b1; (repeat array_get_dec)
      (first | (with_reducible apply PG.dec_i) | (with_reducible apply PG.decn_i) | (with_reducible apply PG.bit_i)) <;> intro h
      · (repeat array_get_dec); intro v2 p2 k2 a2 b2; (repeat array_get_dec)
        refine wa_pick (Gd (B + 2) (D + 1) (3 * W * (D + 1) + 30)) a2 (by simpa using b2) (odd_pick hB (by omega)) ?_
        intro x hx; (repeat array_get_dec)
        exact hx
      (repeat array_get_dec)
      intro v2 p2 k2 a2 b2; (repeat array_get_dec)
      refine wa_pick (Gd (B + 2) (D + 1) (3 * W * (D + 1) + 30)) a2 (by simpa using b2) ?_ ?_
      · intro y hy
        have key : ∀ z : Str, okS z = true → Gd (B + 2) (D + 1) (3 * W * (D + 1) + 30) (.str z) := fun z hz => ⟨by simpa only [okd] using hz, by simp [PyData.depth], by simp only [wt]; omega⟩
        simp only [List.mem_cons, List.not_mem_nil, or_false] at hy
        rcases hy with rfl | rfl | rfl | rfl | rfl
        · exact key _ (app_ok hx (by decide +kernel) (by rw [l1a]; decide))
        · exact key _ (cutS_ok hx _ _)
        · exact key _ (app_ok hx (by decide +kernel) (by rw [l1b]; decide))
        · exact key _ (app_ok hx (by decide +kernel) (by rw [l1c]; decide))
        · exact key _ (cutS_ok hx _ _)
      intro y hy; (repeat array_get_dec)
      exact hy
    | @tup xs hx =>
      cases D with
      | zero =>
        have := g.dp
        simp [PyData.depth] at this
      | succ D =>
      obtain ⟨gs, hw⟩ := Gs.of_tup g
      have hl := gs.len
      refine ws_if_key (fun p' => [some (.l true p'.d), some (.v (.tuple xs)), none, none, none, none]) ?_ ?_
      · intro p hp
        (repeat array_get_dec); intro v1 p1 k1 a1 b1; (repeat array_get_dec)
        (first | (with_reducible apply PG.dec_i) | (with_reducible apply PG.decn_i) | (with_reducible apply PG.bit_i)) <;> intro h
        · (repeat array_get_dec); intro v2 p2 k2 a2 b2; (repeat array_get_dec)
          refine wa_pick (Gd (B + 2) (D + 1 + 1) (3 * W * (D + 1 + 1) + 30)) a2 (by simpa using b2) (odd_pick hB (by omega)) ?_
          intro x hx; (repeat array_get_dec)
          exact hx
        (repeat array_get_dec)
        (first | (with_reducible apply PG.dec_i) | (with_reducible apply PG.decn_i) | (with_reducible apply PG.bit_i)) <;> intro h2
        · (repeat array_get_dec)
          (first | (with_reducible apply PG.dec_i) | (with_reducible apply PG.decn_i) | (with_reducible apply PG.bit_i)) <;> intro h3
          · (repeat array_get_dec)
            exact (Gs.tup (Gs.app (Gs.one (g.mono (by omega) (Nat.le_refl _) (Nat.le_refl _))) (Gs.one (Gd.int (W := 1) (by omega) (by omega) (Nat.le_refl _))))).mono (Int.le_refl _) (Nat.le_refl _) (by omega)
          · (repeat array_get_dec)
            exact (Gs.tup (B := B + 2) (D := D + 1) (W := 0) .nil).mono (Int.le_refl _) (Nat.le_refl _) (by omega)
        (repeat array_get_dec); intro v2 p2 k2 a2 b2; (repeat array_get_dec)
        (first | (with_reducible apply PG.dec_i) | (with_reducible apply PG.decn_i) | (with_reducible apply PG.bit_i)) <;> intro h3
        · (repeat array_get_dec)
          refine wa_addT (by have := @cut_len xs none (some v2); have := @cut_len xs (some (v2 + 1)) none; omega) ?_
          (repeat array_get_dec)
          exact (Gs.tup (Gs.app gs.cut gs.cut)).mono (by omega) (by omega) (by omega)
        (repeat array_get_dec)
        (first | (with_reducible apply PG.dec_i) | (with_reducible apply PG.decn_i) | (with_reducible apply PG.bit_i)) <;> intro h4
        · (repeat array_get_dec)
          refine wa_at' a2 (by simpa using b2) fun x hx => ?_
          (repeat array_get_dec)
          refine wa_addT (by have := @cut_len xs none (some v2); simp; omega) ?_
          (repeat array_get_dec)
          refine wa_addT (by have := @cut_len xs none (some v2); have := @cut_len xs (some v2) none; simp; omega) ?_
          (repeat array_get_dec)
          exact (Gs.tup (Gs.app (Gs.app gs.cut (Gs.one (gs.mem hx))) gs.cut)).mono (by omega) (by omega) (by omega)
        (repeat array_get_dec)
        (first | (with_reducible apply PG.dec_i) | (with_reducible apply PG.decn_i) | (with_reducible apply PG.bit_i)) <;> intro h5
        · (repeat array_get_dec)
          exact (Gs.lst gs).mono (by omega) (by omega) (by omega)
        (repeat array_get_dec); intro v3 p3 k3 a3 b3; (repeat array_get_dec)
        refine wa_at' a3 (by simpa using b3) fun x hx => ?_
        (repeat array_get_dec)
        refine ⟨v2, v2.toNat, xs, rfl, ixOf_nat a2 b2, ?_⟩
        (repeat array_get_dec)
        refine wa_at' a2 (by simpa using b2) fun y hy => ?_
        (repeat array_get_dec)
        refine ⟨v3, v3.toNat, xs.set v2.toNat x, rfl, ixOf_nat a3 (by simpa using b3), ?_⟩
        (repeat array_get_dec)
        exact (Gs.tup (Gs.set (Gs.set gs (gs.mem hx)) (gs.mem hy))).mono (by omega) (by omega) (by omega)
      · (repeat array_get_dec)
        (first | (with_reducible apply PG.dec_i) | (with_reducible apply PG.decn_i) | (with_reducible apply PG.bit_i)) <;> intro h
        · (repeat array_get_dec); intro v1 p1 k1 a1 b1; (repeat array_get_dec)
          (first | (with_reducible apply PG.dec_i) | (with_reducible apply PG.decn_i) | (with_reducible apply PG.bit_i)) <;> intro h1
          · (repeat array_get_dec); intro v2 p2 k2 a2 b2; (repeat array_get_dec)
            refine wa_at' a2 (by simpa using b2) fun x hm => ?_
            (repeat array_get_dec)
            refine wp_ls (bent_ls2 B W hB hW1 hW n D x (hx x hm) ((gs.mem hm).mono (Int.le_refl _) (Nat.le_refl _) (by omega)) (by omega)) k2 ?_
            intro z p3 k3 gz
            (repeat array_get_dec)
            refine wa_addT (by have := @cut_len xs none (some v2); simp; omega) ?_
            (repeat array_get_dec)
            refine wa_addT (by have := @cut_len xs none (some v2); have := @cut_len xs (some (v2 + 1)) none; simp; omega) ?_
            (repeat array_get_dec)
            have e : 3 * W * (D + 1 + 1) = 3 * W * (D + 1) + 3 * W := Nat.mul_succ _ _
            have gs' : Gs (B + 2) (D + 1) (W - 1) xs := gs.mono (by omega) (by omega) (Nat.le_refl _)
            exact (Gs.tup (Gs.app (Gs.app gs'.cut (Gs.one gz)) gs'.cut)).mono (Int.le_refl _) (Nat.le_refl _) (by omega)
          · first | exact ⟨p1, k1, rfl⟩ | exact PG.no_i ⟨p1, k1, rfl⟩
        · exact PG.no_i ⟨p, hp, rfl⟩
theorem booled_ok2 (B : Int) : ∀ (n D : Nat) (v : PyData), It2 v → ∀ W, Gd B D W v → W ≤ 100000 → D < n → ∃ z, F_law_booled n [v] = some z ∧ Gd B D W z
  | 0, D, v, _, _, _, _, h => absurd h (Nat.not_lt_zero _)
  | n + 1, D, v, it, W, g, hW, h => by
    cases it with
    | int i =>
      by_cases c0 : i = 0
      · subst c0
        exact ⟨.bool false, by simp [F_law_booled, B_law_booled, defP, F_law_is_integer, B_law_is_integer, isTy, isN, tyName, atD, ixOf], ⟨rfl, Nat.zero_le _, g.w⟩⟩
      by_cases c1 : i = 1
      · subst c1
        exact ⟨.bool true, by simp [F_law_booled, B_law_booled, defP, F_law_is_integer, B_law_is_integer, isTy, isN, tyName, atD, ixOf], ⟨rfl, Nat.zero_le _, g.w⟩⟩
      refine ⟨.int i, ?_, g⟩
      by_cases c2 : 0 ≤ i
      · have c3 : ¬ i < 2 := by omega
        simp [F_law_booled, B_law_booled, defP, F_law_is_integer, B_law_is_integer, isTy, isN, tyName, atD, ixOf, c2, c3]
      · simp [F_law_booled, B_law_booled, defP, F_law_is_integer, B_law_is_integer, isTy, isN, tyName, atD, ixOf, c2]
    | @str x hx =>
      exact ⟨.str x, by simp [F_law_booled, B_law_booled, defP, F_law_is_integer, B_law_is_integer, isTy, isN, tyName], g⟩
    | @tup xs hx =>
      cases D with
      | zero =>
        have := g.dp
        simp [PyData.depth] at this
      | succ D =>
      obtain ⟨gs, hw⟩ := Gs.of_tup g
      have hl := gs.len
      have ih : ∀ y ∈ xs, ∃ z, F_law_booled n [y] = some z ∧ Gd B D (wt y) z := fun y hy => booled_ok2 B n D y (hx y hy) (wt y) ⟨(gs.ok y hy).1, (gs.ok y hy).2, Nat.le_refl _⟩ (by have := wtA_mem hy; have := gs.w; omega) (by omega)
      let m : PyData → PyData := fun y => (F_law_booled n [y]).getD .none
      have hm : ∀ y ∈ xs, F_law_booled n [y] = some (m y) := fun y hy => by
        obtain ⟨z, e, _⟩ := ih y hy
        simp [m, e]
      have gm : ∀ y ∈ xs, Gd B D (wt y) (m y) := fun y hy => by
        obtain ⟨z, e, gz⟩ := ih y hy
        simpa [m, e] using gz
      have gt : Gs B D (W - 1) (xs.map m) := by
        refine ⟨fun z hz => ?_, ?_⟩
        · obtain ⟨y, hy, rfl⟩ := List.mem_map.mp hz
          exact ⟨(gm y hy).ok, (gm y hy).dp⟩
        · have key : ∀ ys : List PyData, (∀ y ∈ ys, y ∈ xs) → wtA (ys.map m) ≤ wtA ys := by
            intro ys
            induction ys with
            | nil => intro _; exact Nat.le_refl _
            | cons y ys ih2 =>
              intro hs
              have a := (gm y (hs y (by simp))).w
              have b := ih2 fun z hz => hs z (by simp [hz])
              simp only [List.map_cons, wtA]
              omega
          exact Nat.le_trans (key xs fun _ h => h) gs.w
      refine ⟨.tuple (xs.map m), ?_, gt.tup.mono (Int.le_refl _) (Nat.le_refl _) (by omega)⟩
      refine of_wa ?_
      rw [F_law_booled]
      refine PG.wa_def rfl ?_
      simp only [PG.rho0_eq, List.map_cons, List.map_nil, List.replicate_succ, List.replicate_zero, List.cons_append, List.nil_append]
      unfold B_law_booled
      (repeat array_get_dec)
      refine map_we (R := F_law_booled n) (m := m) (fun y => ?_) (by omega) hm rfl ?_
      · simp [X_law_booled_1] <;> (split <;> rename_i h2 <;> simp [h2])
      · (repeat array_get_dec)
        all_goals rfl
end Pr_gatewarden_k59_programs_told
end
section
set_option linter.all false
set_option maxRecDepth 100000
set_option Elab.async false
namespace Pr_gatewarden_k59_programs_told
open PySem PG Pr_C Pr_D Pr_N
local macro_rules | `(tactic| array_get_dec) => `(tactic| first | ((with_reducible apply PG.ws_set)) | ((with_reducible apply PG.ws_if)) | ((with_reducible apply PG.ws_ret)) | ((with_reducible apply PG.ws_setL)) | ((with_reducible apply PG.ws_expr)) | ((with_reducible apply PG.ws_nilc)) | ((with_reducible apply PG.ws_asc)) | ((with_reducible apply PG.ws_nil)) | ((with_reducible apply PG.ws_for)) | ((with_reducible apply PG.ws_asg)) | ((with_reducible apply PG.ws_par)) | ((with_reducible apply PG.ws_retL)) | ((with_reducible apply PG.ws_brk)) | ((with_reducible apply PG.ws_cont)) | ((with_reducible apply PG.ws_forn)) | ((with_reducible apply PG.ws_sto)) | ((with_reducible apply PG.ws_aug); (case hget => rfl)) | ((with_reducible apply PG.ws_app); (case hget => rfl)) | ((with_reducible apply PG.ws_retO); (case hget => rfl)) | ((with_reducible apply PG.we_name); (case hget => rfl)) | ((with_reducible apply PG.we_c)) | ((with_reducible apply PG.we_bin)) | ((with_reducible apply PG.we_un)) | ((with_reducible apply PG.we_call)) | ((with_reducible apply PG.we_callL); (case hget => rfl)) | ((with_reducible apply PG.we_tup)) | ((with_reducible apply PG.we_lst)) | ((with_reducible apply PG.we_if)) | ((with_reducible apply PG.we_ixL); (case hget => rfl)) | ((with_reducible apply PG.we_unL); (case hget => rfl)) | ((with_reducible apply PG.we_and)) | ((with_reducible apply PG.we_or)) | ((with_reducible apply PG.we_not)) | ((with_reducible apply PG.we_chain)) | ((with_reducible apply PG.we_slT)) | ((with_reducible apply PG.wn_cons)) | ((with_reducible apply PG.wn_nil)) | ((with_reducible apply PG.wn_star)) | ((with_reducible apply PG.wn_disp)) | ((with_reducible apply PG.wn_call)) | ((with_reducible apply PG.wn_sl)) | ((with_reducible apply PG.wn_its)) | ((with_reducible apply PG.wn_r1)) | ((with_reducible apply PG.wn_r2)) | ((with_reducible apply PG.wn_r3)) | ((with_reducible apply PG.wt_tru)) | ((with_reducible apply PG.wt_bl)) | ((with_reducible apply PG.wt_and)) | ((with_reducible apply PG.wt_or)) | ((with_reducible apply PG.wt_not)) | ((with_reducible apply PG.wt_yes)) | ((with_reducible apply PG.wt_truL); (case hget => rfl)) | ((with_reducible apply PG.wo_none)) | ((with_reducible apply PG.wo_some)) | ((with_reducible apply PG.wg_p0)) | ((with_reducible apply PG.wg_tup)) | ((with_reducible apply PG.wg_ps); (case hset => (repeat' (first | exact PG.SetR.h0 | exact PG.SetR.h1 | exact PG.SetR.hl | exact PG.SetR.hc (by assumption) | apply PG.SetR.s)))) | ((with_reducible apply PG.wg_set); (case hset => (repeat' (first | exact PG.SetR.h0 | exact PG.SetR.h1 | exact PG.SetR.hl | exact PG.SetR.hc (by assumption) | apply PG.SetR.s)))) | ((with_reducible apply PG.we_frz); (case hget => rfl); (case hset => (repeat' (first | exact PG.SetR.h0 | exact PG.SetR.h1 | exact PG.SetR.hl | exact PG.SetR.hc (by assumption) | apply PG.SetR.s)))) | ((with_reducible apply PG.setr_i); (case hset => (repeat' (first | exact PG.SetR.h0 | exact PG.SetR.h1 | exact PG.SetR.hl | exact PG.SetR.hc (by assumption) | apply PG.SetR.s)))) | ((with_reducible apply PG.setl_i); (case hset => (repeat' (first | exact PG.SetLR.h0 | exact PG.SetLR.h1 | exact PG.SetLR.hl | apply PG.SetLR.s)))) | ((with_reducible apply PG.put_i); (case hset => (repeat' (first | exact PG.PutR.h | apply PG.PutR.s)))) | ((with_reducible apply PG.pool_i); (case hget => rfl)) | ((with_reducible apply PG.bool_i)) | ((with_reducible apply PG.int_i)) | ((with_reducible apply PG.seqL_i)) | ((with_reducible apply PG.seqT_i)) | ((with_reducible apply PG.seqR_i)) | ((with_reducible apply PG.starT_i)) | ((with_reducible apply PG.starL_i)) | ((with_reducible apply PG.len_i); (case h => rfl)) | ((with_reducible apply PG.tup_i)) | ((with_reducible apply PG.yes_i)) | ((with_reducible apply PG.no_i)) | ((with_reducible apply PG.nyes_i)) | ((with_reducible apply PG.nno_i)) | ((with_reducible apply PG.wa_add)) | ((with_reducible apply PG.wa_sub)) | ((with_reducible apply PG.wa_lt)) | ((with_reducible apply PG.wa_le)) | ((with_reducible apply PG.wa_gt)) | ((with_reducible apply PG.wa_ge)) | ((with_reducible apply PG.wa_eqI)) | ((with_reducible apply PG.wa_neI)) | ((with_reducible apply PG.wa_neg)) | ((with_reducible apply PG.wa_lenL)) | ((with_reducible apply PG.wa_lenT)) | ((with_reducible apply PG.wa_int)) | ((with_reducible apply PG.wa_max)) | ((with_reducible apply PG.wa_min)) | ((with_reducible apply PG.wb_bool)) | ((with_reducible apply PG.wb_int)) | ((with_reducible apply PG.endP_ret)) | ((with_reducible apply PG.endP_retL)) | ((with_reducible apply PG.endN_ret)) | ((with_reducible apply PG.endL_ret)) | ((with_reducible apply PG.endL_retL)) | ((with_reducible apply PG.wa_binO)) | ((with_reducible apply PG.ch_le)) | ((with_reducible apply PG.ch_lt)) | ((with_reducible apply PG.ch_eq)) | ((with_reducible apply PG.wa_ix0); (case hget => rfl)) | ((with_reducible apply PG.wa_ix1); (case hget => rfl)) | ((with_reducible apply PG.wa_ix2); (case hget => rfl)) | ((with_reducible apply PG.wa_ix3); (case hget => rfl)) | ((with_reducible apply PG.wa_ix4); (case hget => rfl)) | ((with_reducible apply PG.wa_ix5); (case hget => rfl)) | ((with_reducible apply PG.wa_ix6); (case hget => rfl)) | ((with_reducible apply PG.wa_ix7); (case hget => rfl)) | ((with_reducible apply PG.wa_ix8); (case hget => rfl)) | ((with_reducible apply PG.wa_il0); (case hget => rfl)) | ((with_reducible apply PG.wa_il1); (case hget => rfl)) | ((with_reducible apply PG.wa_il2); (case hget => rfl)) | ((with_reducible apply PG.wa_ev1)) | ((with_reducible apply PG.wa_ev)) | ((with_reducible apply PG.wl_ev)) | ((with_reducible apply PG.wb_ev)) | ((with_reducible apply PG.wa_mod); (case h1 => omega)) | ((with_reducible apply PG.wa_div); (case h1 => omega); (case h2 => omega)) | ((with_reducible apply PG.wa_mulR); (case h1 => omega); (case h2 => omega)) | ((with_reducible apply PG.wa_mulL); (case h1 => omega); (case h2 => omega)) | ((with_reducible apply PG.wa_shr); (case h1 => omega)))
local macro_rules | `(tactic| array_get_dec) => `(tactic| first | ((with_reducible apply Pr_C.wp_draw); (case hp => assumption); (case h0 => omega); (case h1 => omega)) | ((with_reducible apply Pr_C.ls_i); (case hp => assumption)))

/-- a small part -/
structure Pt (W : Nat) (D : Nat) (d : PyData) : Prop where
  it : It2 d
  g : Gd 65536 D W d
theorem Pt.int {i : Int} (h0 : 0 ≤ i) (h1 : i ≤ 65536) {D : Nat} : Pt 1 D (.int i) := ⟨.int i, Gd.int (by omega) h1 (Nat.le_refl _)⟩
theorem Pt.str {x : Str} (h : sh x = true) {D : Nat} : Pt 1 D (.str x) := ⟨.str h, ⟨by simpa only [okd] using sh_okS h, by simp [PyData.depth], by simp [wt]⟩⟩
structure Pts (W : Nat) (D : Nat) (xs : List PyData) : Prop where
  it : ∀ x ∈ xs, It2 x
  g : Gs 65536 D W xs
theorem Pts.nil {D : Nat} : Pts 0 D [] := ⟨fun x hx => (nomatch hx), .nil⟩
theorem Pts.cons {W V D : Nat} {x : PyData} {xs : List PyData} (h : Pt W D x) (k : Pts V D xs) : Pts (W + V) D (x :: xs) :=
  ⟨fun y hy => by
    rcases List.mem_cons.mp hy with rfl | hy
    · exact h.it
    · exact k.it y hy, Gs.app (Gs.one h.g) k.g⟩
theorem Pts.tup {W D : Nat} {xs : List PyData} (h : Pts W D xs) : Pt (W + 1) (D + 1) (.tuple xs) := ⟨.tup h.it, h.g.tup⟩
theorem Pt.mono {W V D E : Nat} {d : PyData} (h : Pt W D d) (a : W ≤ V) (b : D ≤ E) : Pt V E d := ⟨h.it, h.g.mono (Int.le_refl _) b a⟩
theorem decision_ls : LS F_law_decision [] (Pt 3 1) := by
  intro p hp
  unfold F_law_decision; refine PG.wp_def rfl ?_; simp only [PG.rhoL_eq, List.map_cons, List.map_nil, List.replicate_succ, List.replicate_zero, List.cons_append, List.nil_append]; unfold B_law_decision
  (repeat array_get_dec); intro v p1 k1 a1 b1; (repeat array_get_dec); intro v2 p2 k2 a2 b2; (repeat array_get_dec)
  refine wa_pick (Pt 3 1) a2 (by simpa using b2) ?_ ?_
  · intro x hx
    simp only [List.mem_cons, List.not_mem_nil, or_false] at hx
    rcases hx with rfl | rfl | rfl | rfl
    · exact (Pts.cons (Pt.str (by decide +kernel)) (Pts.nil (D := 0))).tup.mono (by decide) (by decide)
    · exact (Pts.cons (Pt.str (by decide +kernel)) (Pts.nil (D := 0))).tup.mono (by decide) (by decide)
    · exact (Pts.cons (Pt.str (by decide +kernel)) (Pts.nil (D := 0))).tup.mono (by decide) (by decide)
    · exact (Pts.cons (Pt.str (by decide +kernel)) (Pts.cons (Pt.int a1 (by omega)) (Pts.nil (D := 0)))).tup.mono (by decide) (by decide)
  · intro x hx; (repeat array_get_dec)
    exact hx
theorem instruction_ls (k n : Int) (h0 : 0 ≤ k) (h1 : k < n) (h2 : n ≤ 200) : LS F_law_instruction [.int k, .int n] (Pt 6 2) := by
  intro p hp
  unfold F_law_instruction; refine PG.wp_def rfl ?_; simp only [PG.rhoL_eq, List.map_cons, List.map_nil, List.replicate_succ, List.replicate_zero, List.cons_append, List.nil_append]; unfold B_law_instruction
  (repeat array_get_dec); intro v p1 k1 a1 b1; (repeat array_get_dec)
  refine wa_pickI [0, 1, 0, 1, 2, 3] (fun z => 0 ≤ z ∧ z ≤ 3) a1 (by simpa using b1) (by simp) ?_
  intro sl hsl; (repeat array_get_dec); intro v2 p2 k2 a2 b2; (repeat array_get_dec)
  refine ⟨fun _ => ?_, fun hz => ?_⟩
  · (repeat array_get_dec)
    refine wp_ls decision_ls k2 ?_
    intro z p3 k3 hz
    (repeat array_get_dec)
    exact (Pts.cons (Pt.str (by decide +kernel)) (Pts.cons hz (Pts.nil (D := 1)))).tup.mono (by decide) (by decide)
  · (repeat array_get_dec)
    (first | (with_reducible apply PG.dec_i) | (with_reducible apply PG.decn_i) | (with_reducible apply PG.bit_i)) <;> intro hl
    · (repeat array_get_dec)
      refine wp_ls decision_ls k2 ?_
      intro z p3 k3 hz
      (repeat array_get_dec)
      exact (Pts.cons (Pt.str (by decide +kernel)) (Pts.cons hz (Pts.nil (D := 1)))).tup.mono (by decide) (by decide)
    (repeat array_get_dec)
    (first | (with_reducible apply PG.dec_i) | (with_reducible apply PG.decn_i) | (with_reducible apply PG.bit_i)) <;> intro t1
    · (repeat array_get_dec); intro v3 p3 k3 a3 b3; (repeat array_get_dec)
      refine wa_pick (Pt 1 0) a3 (by simpa using b3) (by intro x hx; simp only [List.mem_cons, List.not_mem_nil, or_false] at hx; rcases hx with rfl | rfl <;> exact Pt.str (by decide +kernel)) ?_
      intro x hx; (repeat array_get_dec); intro v4 p4 k4 a4 b4; (repeat array_get_dec); intro v5 p5 k5 a5 b5; (repeat array_get_dec); intro v6 p6 k6 a6 b6; (repeat array_get_dec)
      refine wa_pickI [0, 1, 4, 8, 9, 11, 2, 5, 12, v4, v5] (fun z => 0 ≤ z ∧ z ≤ 90) a6 (by simpa using b6) (by simp; omega) ?_
      intro y hy; (repeat array_get_dec)
      exact (Pts.cons (Pt.str (by decide +kernel)) (Pts.cons (Pt.int hsl.1 (by omega)) (Pts.cons hx (Pts.cons (Pt.int hy.1 (by omega)) (Pts.nil (D := 0)))))).tup.mono (by decide) (by decide)
    (repeat array_get_dec)
    (first | (with_reducible apply PG.dec_i) | (with_reducible apply PG.decn_i) | (with_reducible apply PG.bit_i)) <;> intro t2
    · (repeat array_get_dec); intro v3 p3 k3 a3 b3; (repeat array_get_dec)
      refine wa_pick (Pt 1 0) a3 (by simpa using b3) (by intro x hx; simp only [List.mem_cons, List.not_mem_nil, or_false] at hx; rcases hx with rfl | rfl <;> exact Pt.str (by decide +kernel)) ?_
      intro x hx; (repeat array_get_dec); intro v4 p4 k4 a4 b4; (repeat array_get_dec); intro v6 p6 k6 a6 b6; (repeat array_get_dec)
      refine wa_pickI [8, 10, 0, 2, v4] (fun z => 0 ≤ z ∧ z ≤ 90) a6 (by simpa using b6) (by simp; omega) ?_
      intro y hy; (repeat array_get_dec)
      exact (Pts.cons (Pt.str (by decide +kernel)) (Pts.cons (Pt.int hsl.1 (by omega)) (Pts.cons hx (Pts.cons (Pt.int hy.1 (by omega)) (Pts.nil (D := 0)))))).tup.mono (by decide) (by decide)
    (repeat array_get_dec)
    (first | (with_reducible apply PG.dec_i) | (with_reducible apply PG.decn_i) | (with_reducible apply PG.bit_i)) <;> intro t3
    · (repeat array_get_dec); intro v3 p3 k3 a3 b3; (repeat array_get_dec)
      refine wa_pick (Pt 1 0) a3 (by simpa using b3) (by intro x hx; simp only [List.mem_cons, List.not_mem_nil, or_false] at hx; rcases hx with rfl | rfl | rfl | rfl <;> exact Pt.str (by decide +kernel)) ?_
      intro x hx; (repeat array_get_dec)
      exact (Pts.cons (Pt.str (by decide +kernel)) (Pts.cons (Pt.int hsl.1 (by omega)) (Pts.cons hx (Pts.nil (D := 0))))).tup.mono (by decide) (by decide)
    (repeat array_get_dec)
    (first | (with_reducible apply PG.dec_i) | (with_reducible apply PG.decn_i) | (with_reducible apply PG.bit_i)) <;> intro t4
    · (repeat array_get_dec); intro v3 p3 k3 a3 b3; (repeat array_get_dec); intro v4 p4 k4 a4 b4; (repeat array_get_dec)
      refine wa_pickI [1, 255, 7, 65280, 65535] (fun z => 0 ≤ z ∧ z ≤ 65535) a4 (by simpa using b4) (by simp) ?_
      intro y hy; (repeat array_get_dec); intro v5 p5 k5 a5 b5; (repeat array_get_dec)
      refine wa_pick (Pt 4 1) a5 (by simpa using b5) ?_ ?_
      · intro x hx
        simp only [List.mem_cons, List.not_mem_nil, or_false] at hx
        rcases hx with rfl | rfl
        · exact (Pts.cons (Pt.str (by decide +kernel)) (Pts.cons (Pt.int hsl.1 (by omega)) (Pts.cons (Pt.int a3 (by omega)) (Pts.nil (D := 0))))).tup
        · exact (Pts.cons (Pt.str (by decide +kernel)) (Pts.cons (Pt.int hsl.1 (by omega)) (Pts.cons (Pt.int hy.1 (by omega)) (Pts.nil (D := 0))))).tup
      · intro x hx; (repeat array_get_dec)
        exact hx.mono (by decide) (by decide)
    (repeat array_get_dec); intro v3 p3 k3 a3 b3; (repeat array_get_dec); intro v4 p4 k4 a4 b4; (repeat array_get_dec)
    refine wa_pickI [1, 6, 17, 18, 20, 80, 256, v3] (fun z => 0 ≤ z ∧ z ≤ 65535) a4 (by simpa using b4) (by simp; omega) ?_
    intro y hy; (repeat array_get_dec); intro v5 p5 k5 a5 b5; (repeat array_get_dec); intro v6 p6 k6 a6 b6; (repeat array_get_dec)
    exact (Pts.cons (Pt.str (by decide +kernel)) (Pts.cons (Pt.int hsl.1 (by omega)) (Pts.cons (Pt.int hy.1 (by omega)) (Pts.cons (Pt.int (by omega) (by omega)) (Pts.cons (Pt.int (by omega) (by omega)) (Pts.nil (D := 0))))))).tup.mono (by decide) (by decide)
end Pr_gatewarden_k59_programs_told
end
section
set_option linter.all false
set_option maxRecDepth 100000
set_option Elab.async false
namespace Pr_gatewarden_k59_programs_told
open PySem PG Pr_C Pr_D Pr_N
local macro_rules | `(tactic| array_get_dec) => `(tactic| first | ((with_reducible apply PG.ws_set)) | ((with_reducible apply PG.ws_if)) | ((with_reducible apply PG.ws_ret)) | ((with_reducible apply PG.ws_setL)) | ((with_reducible apply PG.ws_expr)) | ((with_reducible apply PG.ws_nilc)) | ((with_reducible apply PG.ws_asc)) | ((with_reducible apply PG.ws_nil)) | ((with_reducible apply PG.ws_for)) | ((with_reducible apply PG.ws_asg)) | ((with_reducible apply PG.ws_par)) | ((with_reducible apply PG.ws_retL)) | ((with_reducible apply PG.ws_brk)) | ((with_reducible apply PG.ws_cont)) | ((with_reducible apply PG.ws_forn)) | ((with_reducible apply PG.ws_sto)) | ((with_reducible apply PG.ws_aug); (case hget => rfl)) | ((with_reducible apply PG.ws_app); (case hget => rfl)) | ((with_reducible apply PG.ws_retO); (case hget => rfl)) | ((with_reducible apply PG.we_name); (case hget => rfl)) | ((with_reducible apply PG.we_c)) | ((with_reducible apply PG.we_bin)) | ((with_reducible apply PG.we_un)) | ((with_reducible apply PG.we_call)) | ((with_reducible apply PG.we_callL); (case hget => rfl)) | ((with_reducible apply PG.we_tup)) | ((with_reducible apply PG.we_lst)) | ((with_reducible apply PG.we_if)) | ((with_reducible apply PG.we_ixL); (case hget => rfl)) | ((with_reducible apply PG.we_unL); (case hget => rfl)) | ((with_reducible apply PG.we_and)) | ((with_reducible apply PG.we_or)) | ((with_reducible apply PG.we_not)) | ((with_reducible apply PG.we_chain)) | ((with_reducible apply PG.we_slT)) | ((with_reducible apply PG.wn_cons)) | ((with_reducible apply PG.wn_nil)) | ((with_reducible apply PG.wn_star)) | ((with_reducible apply PG.wn_disp)) | ((with_reducible apply PG.wn_call)) | ((with_reducible apply PG.wn_sl)) | ((with_reducible apply PG.wn_its)) | ((with_reducible apply PG.wn_r1)) | ((with_reducible apply PG.wn_r2)) | ((with_reducible apply PG.wn_r3)) | ((with_reducible apply PG.wt_tru)) | ((with_reducible apply PG.wt_bl)) | ((with_reducible apply PG.wt_and)) | ((with_reducible apply PG.wt_or)) | ((with_reducible apply PG.wt_not)) | ((with_reducible apply PG.wt_yes)) | ((with_reducible apply PG.wt_truL); (case hget => rfl)) | ((with_reducible apply PG.wo_none)) | ((with_reducible apply PG.wo_some)) | ((with_reducible apply PG.wg_p0)) | ((with_reducible apply PG.wg_tup)) | ((with_reducible apply PG.wg_ps); (case hset => (repeat' (first | exact PG.SetR.h0 | exact PG.SetR.h1 | exact PG.SetR.hl | exact PG.SetR.hc (by assumption) | apply PG.SetR.s)))) | ((with_reducible apply PG.wg_set); (case hset => (repeat' (first | exact PG.SetR.h0 | exact PG.SetR.h1 | exact PG.SetR.hl | exact PG.SetR.hc (by assumption) | apply PG.SetR.s)))) | ((with_reducible apply PG.we_frz); (case hget => rfl); (case hset => (repeat' (first | exact PG.SetR.h0 | exact PG.SetR.h1 | exact PG.SetR.hl | exact PG.SetR.hc (by assumption) | apply PG.SetR.s)))) | ((with_reducible apply PG.setr_i); (case hset => (repeat' (first | exact PG.SetR.h0 | exact PG.SetR.h1 | exact PG.SetR.hl | exact PG.SetR.hc (by assumption) | apply PG.SetR.s)))) | ((with_reducible apply PG.setl_i); (case hset => (repeat' (first | exact PG.SetLR.h0 | exact PG.SetLR.h1 | exact PG.SetLR.hl | apply PG.SetLR.s)))) | ((with_reducible apply PG.put_i); (case hset => (repeat' (first | exact PG.PutR.h | apply PG.PutR.s)))) | ((with_reducible apply PG.pool_i); (case hget => rfl)) | ((with_reducible apply PG.bool_i)) | ((with_reducible apply PG.int_i)) | ((with_reducible apply PG.seqL_i)) | ((with_reducible apply PG.seqT_i)) | ((with_reducible apply PG.seqR_i)) | ((with_reducible apply PG.starT_i)) | ((with_reducible apply PG.starL_i)) | ((with_reducible apply PG.len_i); (case h => rfl)) | ((with_reducible apply PG.tup_i)) | ((with_reducible apply PG.yes_i)) | ((with_reducible apply PG.no_i)) | ((with_reducible apply PG.nyes_i)) | ((with_reducible apply PG.nno_i)) | ((with_reducible apply PG.wa_add)) | ((with_reducible apply PG.wa_sub)) | ((with_reducible apply PG.wa_lt)) | ((with_reducible apply PG.wa_le)) | ((with_reducible apply PG.wa_gt)) | ((with_reducible apply PG.wa_ge)) | ((with_reducible apply PG.wa_eqI)) | ((with_reducible apply PG.wa_neI)) | ((with_reducible apply PG.wa_neg)) | ((with_reducible apply PG.wa_lenL)) | ((with_reducible apply PG.wa_lenT)) | ((with_reducible apply PG.wa_int)) | ((with_reducible apply PG.wa_max)) | ((with_reducible apply PG.wa_min)) | ((with_reducible apply PG.wb_bool)) | ((with_reducible apply PG.wb_int)) | ((with_reducible apply PG.endP_ret)) | ((with_reducible apply PG.endP_retL)) | ((with_reducible apply PG.endN_ret)) | ((with_reducible apply PG.endL_ret)) | ((with_reducible apply PG.endL_retL)) | ((with_reducible apply PG.wa_binO)) | ((with_reducible apply PG.ch_le)) | ((with_reducible apply PG.ch_lt)) | ((with_reducible apply PG.ch_eq)) | ((with_reducible apply PG.wa_ix0); (case hget => rfl)) | ((with_reducible apply PG.wa_ix1); (case hget => rfl)) | ((with_reducible apply PG.wa_ix2); (case hget => rfl)) | ((with_reducible apply PG.wa_ix3); (case hget => rfl)) | ((with_reducible apply PG.wa_ix4); (case hget => rfl)) | ((with_reducible apply PG.wa_ix5); (case hget => rfl)) | ((with_reducible apply PG.wa_ix6); (case hget => rfl)) | ((with_reducible apply PG.wa_ix7); (case hget => rfl)) | ((with_reducible apply PG.wa_ix8); (case hget => rfl)) | ((with_reducible apply PG.wa_il0); (case hget => rfl)) | ((with_reducible apply PG.wa_il1); (case hget => rfl)) | ((with_reducible apply PG.wa_il2); (case hget => rfl)) | ((with_reducible apply PG.wa_ev1)) | ((with_reducible apply PG.wa_ev)) | ((with_reducible apply PG.wl_ev)) | ((with_reducible apply PG.wb_ev)) | ((with_reducible apply PG.wa_mod); (case h1 => omega)) | ((with_reducible apply PG.wa_div); (case h1 => omega); (case h2 => omega)) | ((with_reducible apply PG.wa_mulR); (case h1 => omega); (case h2 => omega)) | ((with_reducible apply PG.wa_mulL); (case h1 => omega); (case h2 => omega)) | ((with_reducible apply PG.wa_shr); (case h1 => omega)))
local macro_rules | `(tactic| array_get_dec) => `(tactic| first | ((with_reducible apply Pr_C.wp_draw); (case hp => assumption); (case h0 => omega); (case h1 => omega)) | ((with_reducible apply Pr_C.ls_i); (case hp => assumption)))

theorem Pts.snoc {W V D : Nat} {x : PyData} {xs : List PyData} (h : Pts W D xs) (k : Pt V D x) : Pts (W + V) D (xs ++ [x]) :=
  ⟨fun y hy => by
    rcases List.mem_append.mp hy with hy | hy
    · exact h.it y hy
    · simp at hy; subst hy; exact k.it, Gs.app h.g (Gs.one k.g)⟩
theorem Pts.cut {W D : Nat} {xs : List PyData} (h : Pts W D xs) (lo hi : Option Int) : Pts W D (cutD xs lo hi) := ⟨fun y hy => h.it y (cut_sub y hy), h.g.cut⟩
theorem turn_p {n most : Int} {k : Int} (h0 : 0 ≤ k) (h1 : k < n) (h2 : n ≤ 12) (p : Pool) (hp : p.ok) (xs : List PyData) (hx : Pts (6 * k.toNat) 2 xs) :
    WS X_law_program_1 [some (.l true p.d), some (.v (.int most)), some (.v (.int n)), some (.l false xs), some (.v (.int k))] fun o ρ => o = .next ∧ ∃ (p' : Pool) (z : PyData), ρ = [some (.l true p'.d), some (.v (.int most)), some (.v (.int n)), some (.l false (xs ++ [z])), some (.v (.int k))] ∧ p'.ok ∧ Pt 6 2 z := by
  have hxl := hx.g.len
  unfold X_law_program_1
  (repeat array_get_dec)
  refine ⟨fun hk => ?_, fun hk => ?_⟩
  · (repeat array_get_dec)
    (first | (with_reducible apply PG.dec_i) | (with_reducible apply PG.decn_i) | (with_reducible apply PG.bit_i)) <;> intro h3
    · (repeat array_get_dec); intro v2 p2 k2 a2 b2; (repeat array_get_dec)
      have hk2 := of_decide_eq_true hk
      refine wa_pick (Pt 6 2) a2 (by simpa using b2) ?_ ?_
      · intro x hx
        simp only [List.mem_cons, List.not_mem_nil, or_false] at hx
        rcases hx with rfl | rfl | rfl | rfl
        · exact (Pts.cons (Pt.str (by decide +kernel)) (Pts.cons (Pt.int h0 (by omega)) (Pts.cons (Pt.str (by decide +kernel)) (Pts.nil (D := 0))))).tup.mono (by decide) (by decide)
        · exact (Pts.cons (Pt.str (by decide +kernel)) (Pts.cons (Pt.int h0 (by omega)) (Pts.cons (Pt.str (by decide +kernel)) (Pts.cons (Pt.int (by decide) (by decide)) (Pts.nil (D := 0)))))).tup.mono (by decide) (by decide)
        · exact (Pts.cons (Pt.str (by decide +kernel)) (Pts.cons (Pt.int h0 (by omega)) (Pts.cons (Pt.str (by decide +kernel)) (Pts.cons (Pt.int (by decide) (by decide)) (Pts.nil (D := 0)))))).tup.mono (by decide) (by decide)
        · exact (Pts.cons (Pt.str (by decide +kernel)) (Pts.cons (Pt.int h0 (by omega)) (Pts.cons (Pt.str (by decide +kernel)) (Pts.nil (D := 0))))).tup.mono (by decide) (by decide)
      · intro z hz; (repeat array_get_dec)
        refine ⟨xs, by omega, ?_⟩
        (repeat array_get_dec)
        exact ⟨rfl, p2, z, rfl, k2, hz⟩
    · (repeat array_get_dec)
      refine wp_ls (instruction_ls k n h0 h1 (by omega)) (by assumption) ?_
      intro z p2 k2 hz
      (repeat array_get_dec)
      refine ⟨xs, by omega, ?_⟩
      (repeat array_get_dec)
      exact ⟨rfl, p2, z, rfl, k2, hz⟩
  · (repeat array_get_dec)
    refine wp_ls (instruction_ls k n h0 h1 (by omega)) (by assumption) ?_
    intro z p2 k2 hz
    (repeat array_get_dec)
    refine ⟨xs, by omega, ?_⟩
    (repeat array_get_dec)
    exact ⟨rfl, p2, z, rfl, k2, hz⟩
theorem we_frz2v {i : Nat} {d : PyData} {ρ : Rho} {Q : PyData → Rho → Prop} (hget : ρ[i]? = some (some (.v d))) (q : Q d ρ) : WE (eFrz2 i) ρ Q := ⟨d, ρ, by simp [hget], q⟩
theorem we_frz2l {i : Nat} {ds : List PyData} {ρ ρ' : Rho} {Q : PyData → Rho → Prop} (hget : ρ[i]? = some (some (.l false ds))) (hset : SetR i (.list ds) ρ ρ') (q : Q (.list ds) ρ') : WE (eFrz2 i) ρ Q := by
  refine ⟨.list ds, ρ.set i (some (.v (.list ds))), by simp [hget], ?_⟩
  have h := hset.eq
  unfold setV at h
  rw [hget] at h
  simp at h
  rw [h]
  exact q
theorem rng_succ (lo : Int) (n : Nat) : rng lo (n + 1) = .int lo :: rng (lo + 1) n := by
  simp only [rng, List.range_succ_eq_map, List.map_cons, List.map_map]
  congr 1
  · simp
  · refine List.map_congr_left fun k _ => ?_
    simp only [Function.comp]
    congr 1
    omega
theorem g_pts {xs : List PyData} (h : Pts 72 2 xs) : G (.tuple xs) := h.tup.g.mono (by decide) (by decide) (by decide)
local macro_rules | `(tactic| array_get_dec) => `(tactic| first | ((with_reducible apply we_frz2v); (case hget => rfl)) | ((with_reducible apply we_frz2l); (case hget => rfl); (case hset => (repeat' (first | exact PG.SetR.h0 | exact PG.SetR.h1 | exact PG.SetR.hl | exact PG.SetR.hc (by assumption) | apply PG.SetR.s)))))

theorem program_ls (most : Int) (h0 : 1 ≤ most) (h1 : most ≤ 12) : LS F_law_program [.int most] fun d => ∃ xs, d = .tuple xs ∧ xs.length ≤ 12 ∧ Pts 72 2 xs := by
  intro p hp
  unfold F_law_program; refine PG.wp_def rfl ?_; simp only [PG.rhoL_eq, List.map_cons, List.map_nil, List.replicate_succ, List.replicate_zero, List.cons_append, List.nil_append]; unfold B_law_program
  (repeat array_get_dec); intro v p1 k1 a1 b1; (repeat array_get_dec)
  refine r1_i (by simp only [in62, Bool.and_eq_true, decide_eq_true_eq]; omega) ?_
  refine ws_forI (fun ds ρ => ∃ (p' : Pool) (xs : List PyData) (k : Nat) (c4 : Option Cell), ρ = [some (.l true p'.d), some (.v (.int most)), some (.v (.int (1 + v))), some (.l false xs), c4] ∧ p'.ok ∧ xs.length = k ∧ Pts (6 * k) 2 xs ∧ PlainC c4 ∧ ds = rng (k : Int) ((1 + v).toNat - k) ∧ k ≤ (1 + v).toNat) _
    ⟨p1, [], 0, none, rfl, k1, rfl, Pts.nil, .inl rfl, rfl, by omega⟩ ?_ ?_
  · rintro d ds ρ ⟨p', xs, k, c4, rfl, kp, hl, hx, q4, hd, hk⟩
    have hn : (1 + v).toNat - k ≠ 0 := fun e => by
      rw [e] at hd
      simp [rng] at hd
    obtain ⟨m, hm⟩ := Nat.exists_eq_succ_of_ne_zero hn
    rw [hm, Nat.succ_eq_add_one, rng_succ] at hd
    injection hd with hd1 hd2
    subst hd1 hd2
    (repeat array_get_dec)
    obtain ⟨o, ρ2, e2, rfl, p2, z, rfl, k2, hz⟩ := turn_p (n := 1 + v) (most := most) (k := (k : Int)) (by omega) (by omega) (by omega) p' kp xs (by simpa using hx)
    refine ⟨_, _, e2, rfl, p2, xs ++ [z], k + 1, _, rfl, k2, by simp [hl], hx.snoc hz, .inr ⟨_, rfl⟩, ?_, by omega⟩
    rw [show (1 + v).toNat - (k + 1) = m by omega]
    rfl
  · rintro ρ1 ⟨p', xs, k, c4, rfl, kp, hl, hx, q4, hd, hk⟩
    have hx : Pts 72 2 xs := ⟨hx.it, hx.g.mono (Int.le_refl _) (Nat.le_refl _) (by omega)⟩
    have hl : xs.length ≤ 12 := by omega
    have hc : (cutD xs none (some (-1))).length ≤ 12 := Nat.le_trans cut_len hl
    refine ws_meet (fun r => ∃ (p' : Pool) (ys : List PyData) (c : Option Cell), p'.ok ∧ ys.length ≤ 12 ∧ Pts 72 2 ys ∧ (c = some (.l false ys) ∨ c = some (.v (.list ys))) ∧ r = [some (.l true p'.d), some (.v (.int most)), some (.v (.int (1 + v))), c, c4]) ?_ ?_
    · rintro r ⟨p', ys, c, kp, hy, hp, hc, rfl⟩
      rcases hc with rfl | rfl <;>
        ((repeat array_get_dec)
         exact ⟨hy, hp⟩)
    · (repeat array_get_dec)
      (first | (with_reducible apply PG.dec_i) | (with_reducible apply PG.decn_i) | (with_reducible apply PG.bit_i)) <;> intro h2
      · (repeat array_get_dec); intro v2 p2 k2 a2 b2; (repeat array_get_dec)
        (first | (with_reducible apply PG.dec_i) | (with_reducible apply PG.decn_i) | (with_reducible apply PG.bit_i)) <;> intro h3
        · (repeat array_get_dec)
          refine ⟨xs, .inl rfl, ?_⟩
          (repeat array_get_dec)
          refine wa_eq (law_program_is (g_pts (hx.cut none (some (-1))))) ?_
          cases pgB (.tuple (cutD xs none (some (-1)))) with
          | true =>
            (repeat array_get_dec)
            refine ⟨xs, .inl rfl, ?_⟩
            (repeat array_get_dec)
            exact ⟨rfl, p2, _, _, k2, hc, hx.cut none (some (-1)), .inl rfl, rfl⟩
          | false =>
            (repeat array_get_dec)
            exact ⟨rfl, p2, _, _, k2, hl, hx, .inr rfl, rfl⟩
        · (repeat array_get_dec)
          exact ⟨rfl, p2, _, _, k2, hl, hx, .inl rfl, rfl⟩
      · (repeat array_get_dec)
        exact ⟨rfl, p', _, _, kp, hl, hx, .inl rfl, rfl⟩
end Pr_gatewarden_k59_programs_told
end
section
set_option linter.all false
set_option maxRecDepth 100000
set_option Elab.async false
namespace Pr_gatewarden_k59_programs_told
open PySem PG Pr_C Pr_D Pr_N
local macro_rules | `(tactic| array_get_dec) => `(tactic| first | ((with_reducible apply PG.ws_set)) | ((with_reducible apply PG.ws_if)) | ((with_reducible apply PG.ws_ret)) | ((with_reducible apply PG.ws_setL)) | ((with_reducible apply PG.ws_expr)) | ((with_reducible apply PG.ws_nilc)) | ((with_reducible apply PG.ws_asc)) | ((with_reducible apply PG.ws_nil)) | ((with_reducible apply PG.ws_for)) | ((with_reducible apply PG.ws_asg)) | ((with_reducible apply PG.ws_par)) | ((with_reducible apply PG.ws_retL)) | ((with_reducible apply PG.ws_brk)) | ((with_reducible apply PG.ws_cont)) | ((with_reducible apply PG.ws_forn)) | ((with_reducible apply PG.ws_sto)) | ((with_reducible apply PG.ws_aug); (case hget => rfl)) | ((with_reducible apply PG.ws_app); (case hget => rfl)) | ((with_reducible apply PG.ws_retO); (case hget => rfl)) | ((with_reducible apply PG.we_name); (case hget => rfl)) | ((with_reducible apply PG.we_c)) | ((with_reducible apply PG.we_bin)) | ((with_reducible apply PG.we_un)) | ((with_reducible apply PG.we_call)) | ((with_reducible apply PG.we_callL); (case hget => rfl)) | ((with_reducible apply PG.we_tup)) | ((with_reducible apply PG.we_lst)) | ((with_reducible apply PG.we_if)) | ((with_reducible apply PG.we_ixL); (case hget => rfl)) | ((with_reducible apply PG.we_unL); (case hget => rfl)) | ((with_reducible apply PG.we_and)) | ((with_reducible apply PG.we_or)) | ((with_reducible apply PG.we_not)) | ((with_reducible apply PG.we_chain)) | ((with_reducible apply PG.we_slT)) | ((with_reducible apply PG.wn_cons)) | ((with_reducible apply PG.wn_nil)) | ((with_reducible apply PG.wn_star)) | ((with_reducible apply PG.wn_disp)) | ((with_reducible apply PG.wn_call)) | ((with_reducible apply PG.wn_sl)) | ((with_reducible apply PG.wn_its)) | ((with_reducible apply PG.wn_r1)) | ((with_reducible apply PG.wn_r2)) | ((with_reducible apply PG.wn_r3)) | ((with_reducible apply PG.wt_tru)) | ((with_reducible apply PG.wt_bl)) | ((with_reducible apply PG.wt_and)) | ((with_reducible apply PG.wt_or)) | ((with_reducible apply PG.wt_not)) | ((with_reducible apply PG.wt_yes)) | ((with_reducible apply PG.wt_truL); (case hget => rfl)) | ((with_reducible apply PG.wo_none)) | ((with_reducible apply PG.wo_some)) | ((with_reducible apply PG.wg_p0)) | ((with_reducible apply PG.wg_tup)) | ((with_reducible apply PG.wg_ps); (case hset => (repeat' (first | exact PG.SetR.h0 | exact PG.SetR.h1 | exact PG.SetR.hl | exact PG.SetR.hc (by assumption) | apply PG.SetR.s)))) | ((with_reducible apply PG.wg_set); (case hset => (repeat' (first | exact PG.SetR.h0 | exact PG.SetR.h1 | exact PG.SetR.hl | exact PG.SetR.hc (by assumption) | apply PG.SetR.s)))) | ((with_reducible apply PG.we_frz); (case hget => rfl); (case hset => (repeat' (first | exact PG.SetR.h0 | exact PG.SetR.h1 | exact PG.SetR.hl | exact PG.SetR.hc (by assumption) | apply PG.SetR.s)))) | ((with_reducible apply PG.setr_i); (case hset => (repeat' (first | exact PG.SetR.h0 | exact PG.SetR.h1 | exact PG.SetR.hl | exact PG.SetR.hc (by assumption) | apply PG.SetR.s)))) | ((with_reducible apply PG.setl_i); (case hset => (repeat' (first | exact PG.SetLR.h0 | exact PG.SetLR.h1 | exact PG.SetLR.hl | apply PG.SetLR.s)))) | ((with_reducible apply PG.put_i); (case hset => (repeat' (first | exact PG.PutR.h | apply PG.PutR.s)))) | ((with_reducible apply PG.pool_i); (case hget => rfl)) | ((with_reducible apply PG.bool_i)) | ((with_reducible apply PG.int_i)) | ((with_reducible apply PG.seqL_i)) | ((with_reducible apply PG.seqT_i)) | ((with_reducible apply PG.seqR_i)) | ((with_reducible apply PG.starT_i)) | ((with_reducible apply PG.starL_i)) | ((with_reducible apply PG.len_i); (case h => rfl)) | ((with_reducible apply PG.tup_i)) | ((with_reducible apply PG.yes_i)) | ((with_reducible apply PG.no_i)) | ((with_reducible apply PG.nyes_i)) | ((with_reducible apply PG.nno_i)) | ((with_reducible apply PG.wa_add)) | ((with_reducible apply PG.wa_sub)) | ((with_reducible apply PG.wa_lt)) | ((with_reducible apply PG.wa_le)) | ((with_reducible apply PG.wa_gt)) | ((with_reducible apply PG.wa_ge)) | ((with_reducible apply PG.wa_eqI)) | ((with_reducible apply PG.wa_neI)) | ((with_reducible apply PG.wa_neg)) | ((with_reducible apply PG.wa_lenL)) | ((with_reducible apply PG.wa_lenT)) | ((with_reducible apply PG.wa_int)) | ((with_reducible apply PG.wa_max)) | ((with_reducible apply PG.wa_min)) | ((with_reducible apply PG.wb_bool)) | ((with_reducible apply PG.wb_int)) | ((with_reducible apply PG.endP_ret)) | ((with_reducible apply PG.endP_retL)) | ((with_reducible apply PG.endN_ret)) | ((with_reducible apply PG.endL_ret)) | ((with_reducible apply PG.endL_retL)) | ((with_reducible apply PG.wa_binO)) | ((with_reducible apply PG.ch_le)) | ((with_reducible apply PG.ch_lt)) | ((with_reducible apply PG.ch_eq)) | ((with_reducible apply PG.wa_ix0); (case hget => rfl)) | ((with_reducible apply PG.wa_ix1); (case hget => rfl)) | ((with_reducible apply PG.wa_ix2); (case hget => rfl)) | ((with_reducible apply PG.wa_ix3); (case hget => rfl)) | ((with_reducible apply PG.wa_ix4); (case hget => rfl)) | ((with_reducible apply PG.wa_ix5); (case hget => rfl)) | ((with_reducible apply PG.wa_ix6); (case hget => rfl)) | ((with_reducible apply PG.wa_ix7); (case hget => rfl)) | ((with_reducible apply PG.wa_ix8); (case hget => rfl)) | ((with_reducible apply PG.wa_il0); (case hget => rfl)) | ((with_reducible apply PG.wa_il1); (case hget => rfl)) | ((with_reducible apply PG.wa_il2); (case hget => rfl)) | ((with_reducible apply PG.wa_ev1)) | ((with_reducible apply PG.wa_ev)) | ((with_reducible apply PG.wl_ev)) | ((with_reducible apply PG.wb_ev)) | ((with_reducible apply PG.wa_mod); (case h1 => omega)) | ((with_reducible apply PG.wa_div); (case h1 => omega); (case h2 => omega)) | ((with_reducible apply PG.wa_mulR); (case h1 => omega); (case h2 => omega)) | ((with_reducible apply PG.wa_mulL); (case h1 => omega); (case h2 => omega)) | ((with_reducible apply PG.wa_shr); (case h1 => omega)))
local macro_rules | `(tactic| array_get_dec) => `(tactic| first | ((with_reducible apply Pr_C.wp_draw); (case hp => assumption); (case h0 => omega); (case h1 => omega)) | ((with_reducible apply Pr_C.ls_i); (case hp => assumption)))

local macro_rules | `(tactic| array_get_dec) => `(tactic| first | ((with_reducible apply PG.wa_addT); (case hl => (first | exact Nat.le_of_ble_eq_true rfl | (simp; omega)))) | ((with_reducible apply PG.wa_addL); (case hl => (first | exact Nat.le_of_ble_eq_true rfl | (simp; omega)))))

theorem wa_same {d : PyData} {Q : PyData → Prop} (h : F_law_same 40 [d, d] = some (.bool true)) (q : Q (.bool true)) : WA (F_law_same 40 [d, d]) Q := ⟨_, h, q⟩
theorem turn (x0 x1 x2 x3 x4 x5 x9 x10 c7 c8 : Option Cell) (d : PyData) (g : G d) (q7 : PlainC c7) (q8 : PlainC c8) :
    WS X_law_4 [x0, x1, x2, x3, x4, x5, some (.v d), c7, c8, x9, x10] fun o ρ2 => o = .next ∧ ∃ c7 c8, ρ2 = [x0, x1, x2, x3, x4, x5, some (.v d), c7, c8, x9, x10] ∧ PlainC c7 ∧ PlainC c8 := by
  unfold X_law_4
  have hr : o1of dRepr [d] = some (.str d.shown) := g.repr (by decide) (by decide) (by decide)
  (repeat array_get_dec)
  refine wa_eq (law_program_is g) ?_
  (repeat array_get_dec)
  refine wa_eq hr ?_
  (repeat array_get_dec)
  refine wa_eq (program_is g) ?_
  (repeat array_get_dec)
  refine wa_same (same_bool 39 _) ?_
  (repeat array_get_dec)
  refine wa_eq hr ?_
  (repeat array_get_dec)
  refine wa_neS ?_
  (repeat array_get_dec)
  exact ⟨rfl, _, _, rfl, .inr ⟨_, rfl⟩, .inr ⟨_, rfl⟩⟩
theorem comp8 (S c3 c4 c5 c6 c7 c8 : Option Cell) (p : Pool) (hp : p.ok) (xs0 : List PyData) (hx : Pts 72 2 xs0) (P : List PyData → Rho → Prop)
    (q : ∀ (xs : List PyData) (p' : Pool), p'.ok → xs.length = 8 → (∀ x ∈ xs, G x) → P xs [S, some (.l false p'.d), some (.v (.tuple xs0)), c3, c4, c5, c6, c7, c8, none, none]) :
    WN (nComp (itR1 (nCons (eC (.int 8)) nNil)) (gSet 10) tYesF X_law_3 [10]) [S, some (.l false p.d), some (.v (.tuple xs0)), c3, c4, c5, c6, c7, c8, none, none] P := by
  refine wn_compI (fun ds acc ρ => ∃ p' : Pool, ρ = [S, some (.l false p'.d), some (.v (.tuple xs0)), c3, c4, c5, c6, c7, c8, none, none] ∧ p'.ok ∧ acc.length + ds.length = 8 ∧ ∀ x ∈ acc, G x) ?_
  (repeat array_get_dec)
  refine r1_i (by decide) ?_
  refine ⟨rfl, ⟨p, rfl, hp, rfl, by simp⟩, ?_, ?_⟩
  · rintro d ds acc ρ ⟨p', rfl, kp, hl, hg'⟩
    unfold X_law_3
    (repeat array_get_dec)
    refine wp_ls (bent_ls2 65536 73 (by decide) (by decide) (by decide) 40 3 _ hx.tup.it hx.tup.g (by decide)) kp ?_
    intro y p2 k2 gy
    (repeat array_get_dec)
    refine ⟨rfl, by simp at hl; omega, p2, rfl, k2, by simp at hl ⊢; omega, ?_⟩
    intro x hx
    rcases List.mem_append.mp hx with hx | hx
    · exact hg' x hx
    · simp at hx
      subst hx
      exact gy.mono (by decide) (by decide) (by decide)
  · rintro acc ρ ⟨p', rfl, kp, hl, hg'⟩
    exact q acc p' kp (by simpa using hl) hg'
def lst : PyData → PyData
  | .tuple ys => .list ys
  | x => x
theorem wt_lst (y : PyData) : wt (lst y) = wt y := by cases y <;> rfl
theorem gd_lst {B : Int} {D W : Nat} {y : PyData} (g : Gd B D W y) : Gd B D W (lst y) := by
  cases y with
  | tuple ys =>
    obtain ⟨h1, h2, h3⟩ := g
    exact ⟨by simpa [lst, okd] using h1, by simpa [lst, PyData.depth] using h2, by rw [wt_lst]; exact h3⟩
  | _ => exact g
theorem gs_lst {B : Int} {D W : Nat} {xs : List PyData} (g : Gs B D W xs) : Gs B D W (xs.map lst) := by
  refine ⟨fun x hx => ?_, ?_⟩
  · obtain ⟨y, hy, rfl⟩ := List.mem_map.mp hx
    have := gd_lst (W := wt y) ⟨(g.ok y hy).1, (g.ok y hy).2, Nat.le_refl _⟩
    exact ⟨this.ok, this.dp⟩
  · have key : ∀ ys : List PyData, wtA (ys.map lst) = wtA ys := by
      intro ys
      induction ys with
      | nil => rfl
      | cons y ys ih => simp only [List.map_cons, wtA, wt_lst, ih]
    rw [key]
    exact g.w
theorem wipe2 (x y : Option Cell) : wipeR [x, y, none] [2] = [x, y, none] := rfl
theorem listed_ok {xs : List PyData} (hx : Pts 72 2 xs) : F_law_listed 40 [.tuple xs, .int 1] = some (.tuple (xs.map lst)) := by
  have hl := hx.g.len
  have e0 : ∀ y, It2 y → F_law_listed 39 [y, .int 0] = some (lst y) := fun y hy => by
    cases hy <;> simp [F_law_listed, defP, B_law_listed, isTy, isN, tyName, dEq, lst]
  generalize hF : F_law_listed 39 = F at e0
  refine of_wa ?_
  show WA (defP (B_law_listed (F_law_listed 39)) 2 1 _) _
  rw [hF]
  refine PG.wa_def rfl ?_
  simp only [PG.rho0_eq, List.map_cons, List.map_nil, List.replicate_succ, List.replicate_zero, List.cons_append, List.nil_append]
  unfold B_law_listed
  (repeat array_get_dec)
  rw [show decide ((1 : Int) = 0) = false from rfl]
  (repeat array_get_dec)
  refine wn_map id (fun _ => true) lst xs ?_
  (repeat array_get_dec)
  refine ⟨by simp, by omega, rfl, fun x hm => ?_, ?_⟩
  · simp only [id, wipe2]
    unfold X_law_listed_1
    (repeat array_get_dec)
    refine ⟨rfl, fun _ => ?_, fun z => (nomatch z)⟩
    (repeat array_get_dec)
    refine wa_eq (e0 x (hx.it x hm)) ?_
    exact ⟨rfl, rfl, rfl⟩
  · (repeat array_get_dec)
    rw [List.filter_eq_self.mpr (by simp)]
/-- what is odd -/
def oddL : List PyData := [.tuple [.str (Str.ofString "byte"), .int 0, .str (Str.ofString "outer"), .int 1500],
  .tuple [.str (Str.ofString "byte"), .int 0, .str (Str.ofString "outer"), .int 1501],
  .tuple [.str (Str.ofString "byte"), .int 4, .str (Str.ofString "outer"), .int 0],
  .tuple [.str (Str.ofString "byte"), .int 3, .str (Str.ofString "inner"), .int 0],
  .tuple [.str (Str.ofString "word"), .int 0, .str (Str.ofString "middle"), .int 0],
  .tuple [.str (Str.ofString "word"), .int 0, .str (Str.ofString "outer")],
  .tuple [.str (Str.ofString "special"), .int 0, .str (Str.ofString "talk")],
  .tuple [.str (Str.ofString "special"), .int 0, .str (Str.ofString "kind")],
  .tuple [.str (Str.ofString "special"), .int 0, .none],
  .tuple [.str (Str.ofString "put"), .int 0, .int 65535],
  .tuple [.str (Str.ofString "put"), .int 0, .int 65536],
  .tuple [.str (Str.ofString "put"), .int 0, .int (-1)],
  .tuple [.str (Str.ofString "mask"), .int 0, .bool true],
  .tuple [.str (Str.ofString "mask"), .bool false, .int 1],
  .tuple [.str (Str.ofString "mask"), .int 3, .int 0],
  .tuple [.str (Str.ofString "less"), .int 0, .int 65535, .int 1, .int 1],
  .tuple [.str (Str.ofString "less"), .int 0, .int 65536, .int 1, .int 1],
  .tuple [.str (Str.ofString "less"), .int 0, .int 5, .int 0, .int 1],
  .tuple [.str (Str.ofString "less"), .int 0, .int 5, .int 1, .int 2],
  .tuple [.str (Str.ofString "less"), .int 0, .int 5, .int 1],
  .tuple [.str (Str.ofString "less"), .int 0, .int 5, .int 1, .int 1, .int 1],
  .tuple [.str (Str.ofString "less"), .int 0, .int 5, .bool true, .int 1],
  .tuple [.str (Str.ofString "answer"), .tuple [.str (Str.ofString "back")]],
  .tuple [.str (Str.ofString "answer"), .tuple [.str (Str.ofString "refuse"), .int 256]],
  .tuple [.str (Str.ofString "answer")],
  .tuple [.str (Str.ofString "answer"), .tuple [.str (Str.ofString "drop")], .int 0],
  .tuple [.str (Str.ofString "halt"), .int 0],
  .tuple [],
  .none,
  .list [.str (Str.ofString "put"), .int 0, .int 1],
  .tuple [.none, .int 0, .int 1]]
def endV : PyData := .tuple [.str (Str.ofString "answer"), .tuple [.str (Str.ofString "drop")]]
theorem odd_ok : ∀ x ∈ oddL, Gd 70000 3 10 x := fun x hx => by
  have h : (oddL.all fun d => okd 70000 d && (Nat.ble d.depth 3 && Nat.ble (wt d) 10)) = true := by decide +kernel
  have := List.all_eq_true.mp h x hx
  simp only [Bool.and_eq_true] at this
  exact ⟨this.1, Nat.le_of_ble_eq_true this.2.1, Nat.le_of_ble_eq_true this.2.2⟩
theorem end_ok : Gd 70000 2 4 endV := ⟨by decide +kernel, by decide +kernel, by decide +kernel⟩
theorem rep_t (e : PyData) (n : Nat) (h : n ≤ 1000) : dRepT (.tuple [e]) (.int (n : Nat)) = some (.tuple (List.replicate n e)) := by
  have e2 : (List.replicate n [e]).flatten = List.replicate n e := by
    induction n with
    | zero => rfl
    | succ n ih => rw [List.replicate_succ, List.replicate_succ, List.flatten_cons, ih (by omega)]; rfl
  unfold dRepT
  dsimp only
  rw [if_pos ⟨by omega, by omega, by simp; omega⟩, Int.toNat_natCast, e2]
theorem gs_rep {B : Int} {D W : Nat} {e : PyData} (g : Gd B D W e) (n : Nat) : Gs B D (W * n) (List.replicate n e) := by
  induction n with
  | zero => exact Gs.nil
  | succ n ih => rw [List.replicate_succ, Nat.mul_succ, Nat.add_comm]; exact Gs.app (Gs.one g) ih
theorem wipe9 (a b c d e f g h i j : Option Cell) : wipeR [a, b, c, d, e, f, g, h, i, none, j] [9] = [a, b, c, d, e, f, g, h, i, none, j] := rfl
theorem rest9 (a b c d e f g h i x j : Option Cell) : restR [a, b, c, d, e, f, g, h, i, x, j] (wipeR [a, b, c, d, e, f, g, h, i, x, j] [9]) [9] = [a, b, c, d, e, f, g, h, i, x, j] := rfl
theorem law_true (ns : List Int) (h : ns.length ≤ 63) : F_law [RO (ns.map PyData.int)] = some (.bool true) := by
  obtain ⟨p, e, hp⟩ := pool_ok ns h
  refine of_wa ?_
  unfold F_law; refine PG.wa_def rfl ?_; simp only [PG.rho0_eq, List.map_cons, List.map_nil, List.replicate_succ, List.replicate_zero, List.cons_append, List.nil_append]; unfold B_law
  (repeat array_get_dec)
  refine wl_eq e ?_
  (repeat array_get_dec)
  refine wp_ls (program_ls 12 (by decide) (by decide)) hp ?_
  rintro z p1 k1 ⟨xs, rfl, hl, hx⟩
  have gp : Gd 65536 3 73 (.tuple xs) := hx.tup.g
  (repeat array_get_dec)
  obtain ⟨zb, eb, gb⟩ := booled_ok2 65536 40 3 _ hx.tup.it 73 gp (by decide) (by decide)
  refine wa_eq eb ?_
  (repeat array_get_dec)
  refine wa_eq (listed_ok hx) ?_
  (repeat array_get_dec)
  show WA _ fun z => WN _ [_, _, _, _, some (.v (.list oddL)), none, none, none, none, none, none] _
  refine wa_eq (rep_t endV 200 (by decide)) ?_
  (repeat array_get_dec)
  refine wa_eq (rep_t endV 201 (by decide)) ?_
  (repeat array_get_dec)
  refine wa_addT (by have := @cut_len xs none (some (-1)); simp; omega) ?_
  (repeat array_get_dec)
  refine wn_map id (fun _ => true) (fun x => .tuple [x, endV]) oddL ?_
  (repeat array_get_dec)
  refine ⟨by simp, by decide, rfl, fun x hm => ?_, ?_⟩
  · simp only [id, wipe9]
    refine ⟨_, rfl, true, _, rfl, rfl, fun _ => ?_, fun z => (nomatch z)⟩
    unfold X_law_1
    (repeat array_get_dec)
    exact ⟨rfl, rfl, rfl⟩
  · rw [List.filter_eq_self.mpr (by simp), rest9]
    (repeat array_get_dec)
    refine wn_map id (fun _ => true) (fun x => .tuple [x]) oddL ?_
    (repeat array_get_dec)
    refine ⟨by simp, by decide, rfl, fun x hm => ?_, ?_⟩
    · simp only [id, wipe9]
      refine ⟨_, rfl, true, _, rfl, rfl, fun _ => ?_, fun z => (nomatch z)⟩
      unfold X_law_2
      (repeat array_get_dec)
      exact ⟨rfl, rfl, rfl⟩
    · rw [List.filter_eq_self.mpr (by simp), rest9]
      have ol : oddL.length = 31 := rfl
      (repeat array_get_dec)
      refine comp8 _ _ _ _ _ _ _ p1 k1 xs hx _ ?_
      intro ys p2 k2 hys hg
      (repeat array_get_dec)
      refine ws_forI (fun ds ρ => ∃ (T : PyData) (c6 c7 c8 : Option Cell), ρ = [some (.v (RO (ns.map PyData.int))), some (.l false p2.d), some (.v (.tuple xs)), some (.v endV), some (.v (.list oddL)), some (.v T), c6, c7, c8, none, none] ∧ PlainC c6 ∧ PlainC c7 ∧ PlainC c8 ∧ ∀ d ∈ ds, G d) _ ⟨_, none, none, none, rfl, .inl rfl, .inl rfl, .inl rfl, ?_⟩ ?_ ?_
      · intro d hd
        have gs : Gs 70000 2 72 xs := hx.g.mono (by decide) (Nat.le_refl _) (Nat.le_refl _)
        simp only [List.mem_append] at hd
        rcases hd with (((hd | hd) | hd) | hd) | hd
        · simp only [List.mem_cons, List.not_mem_nil, or_false] at hd
          rcases hd with rfl | rfl | rfl | rfl | rfl | rfl | rfl | rfl
          · exact gs.tup.mono (by decide) (by decide) (by decide)
          · exact gs.lst.mono (by decide) (by decide) (by decide)
          · exact gb.mono (by decide) (by decide) (by decide)
          · exact (gs_lst gs).tup.mono (by decide) (by decide) (by decide)
          · exact ⟨rfl, by decide, by decide⟩
          · exact (gs_rep end_ok 200).tup.mono (by decide) (by decide) (by decide)
          · exact (gs_rep end_ok 201).tup.mono (by decide) (by decide) (by decide)
          · exact (Gs.tup (Gs.app gs (Gs.one (W := 1) (x := .none) ⟨rfl, by decide, by decide⟩))).mono (by decide) (by decide) (by decide)
        · simp only [List.mem_cons, List.not_mem_nil, or_false] at hd
          subst hd
          have gl : Pt 6 1 (.tuple [.str (Str.ofString "less"), .int 0, .int 1, .int (xs.length : Nat), .int (xs.length : Nat)]) :=
            (Pts.cons (Pt.str (by decide +kernel)) (Pts.cons (Pt.int (by decide) (by decide)) (Pts.cons (Pt.int (by decide) (by decide)) (Pts.cons (Pt.int (by omega) (by omega)) (Pts.cons (Pt.int (by omega) (by omega)) (Pts.nil (D := 0))))))).tup
          exact (Gs.tup (Gs.app gs.cut (Gs.one (gl.g.mono (C := 70000) (E := 2) (V := 6) (by decide) (by decide) (by decide))))).mono (by decide) (by decide) (by decide)
        · obtain ⟨x, hm, rfl⟩ := List.mem_map.mp hd
          exact (Gs.tup (Gs.app (Gs.one (odd_ok x hm)) (Gs.one (end_ok.mono (Int.le_refl _) (by decide) (Nat.le_refl _))))).mono (by decide) (by decide) (by decide)
        · obtain ⟨x, hm, rfl⟩ := List.mem_map.mp hd
          exact (Gs.tup (Gs.one (odd_ok x hm))).mono (by decide) (by decide) (by decide)
        · exact hg d hd
      · rintro d ds ρ ⟨T, c6, c7, c8, rfl, q6, q7, q8, hd⟩
        (repeat array_get_dec)
        obtain ⟨o, ρ2, e2, rfl, d7, d8, rfl, w7, w8⟩ := turn (some (.v (RO (ns.map PyData.int)))) (some (.l false p2.d)) (some (.v (.tuple xs))) (some (.v endV)) (some (.v (.list oddL))) (some (.v T)) none none c7 c8 d (hd d (by simp)) q7 q8
        exact ⟨_, _, e2, rfl, T, _, d7, d8, rfl, .inr ⟨_, rfl⟩, w7, w8, fun x hx => hd x (by simp [hx])⟩
      · rintro ρ1 ⟨T, c6, c7, c8, rfl, q6, q7, q8, _⟩
        (repeat array_get_dec)
        rfl
end Pr_gatewarden_k59_programs_told
end
open PySem PySem.W PyProof.Rows
set_option maxRecDepth 100000 in
set_option maxHeartbeats 0 in
theorem PySem.Challenge.cw_gatewarden_k59_programs_told_holds : PySem.Challenge.rw_gatewarden_k59_programs_told.Holds := by
  w_on; o_law; k_head; (case hw => w_witness2)
  k_fill
  refine PG.walkt_of (l := PySem.Challenge.rw_gatewarden_k59_programs_told) (n := 63) (k := 44) (x := "script") (sp := fun w => PG.spP _ 1 Pr_gatewarden_k59_programs_told.F_law) rfl (by decide) rfl ⟨rfl, by decide, by decide⟩ (fun w h Y => PySem.W.kIn_of Y) ?F (fun _ _ a ns hl ht hS => PG.law_spT ht hS (Pr_gatewarden_k59_programs_told.law_true ns hl))
  case F =>
    intro w mg fa h KX G hmg
    refine ⟨by kernel_rfl, ?_⟩
    refine' Pr_gatewarden_k59_programs_told.all_mk KX G hmg ?a_is_number ?l_is_number ?c_is_number ?k_is_number ?a_first_text ?l_first_text ?c_first_text ?k_first_text ?a_is_decision ?l_is_decision ?c_is_decision ?k_is_decision ?a_is_one_of ?l_is_one_of ?c_is_one_of ?k_is_one_of ?a_is_instruction ?l_is_instruction ?c_is_instruction ?k_is_instruction ?x_is_instruction ?p_is_instruction ?a_is_program ?l_is_program ?c_is_program ?k_is_program ?x_is_program ?p_is_program ?a_law_same ?l_law_same ?c_law_same ?k_law_same ?a_law_is_integer ?l_law_is_integer ?c_law_is_integer ?k_law_is_integer ?a_law_pool ?l_law_pool ?c_law_pool ?k_law_pool ?a_law_spread ?l_law_spread ?c_law_spread ?k_law_spread ?a_law_draw ?l_law_draw ?c_law_draw ?k_law_draw ?a_law_bent ?l_law_bent ?c_law_bent ?k_law_bent ?a_law_booled ?l_law_booled ?c_law_booled ?k_law_booled ?a_law_listed ?l_law_listed ?c_law_listed ?k_law_listed ?a_law_is_number ?l_law_is_number ?c_law_is_number ?k_law_is_number ?a_law_decision ?l_law_decision ?c_law_decision ?k_law_decision ?a_law_is_decision ?l_law_is_decision ?c_law_is_decision ?k_law_is_decision ?a_law_is_instruction ?l_law_is_instruction ?c_law_is_instruction ?k_law_is_instruction ?a_law_is_program ?l_law_is_program ?c_law_is_program ?k_law_is_program ?a_law_instruction ?l_law_instruction ?c_law_instruction ?k_law_instruction ?a_law_program ?l_law_program ?c_law_program ?k_law_program ?a_law ?l_law ?c_law ?k_law ?z_all ?z_bool ?z_int ?z_isinstance ?z_len ?z_list ?z_range ?z_repr ?z_str ?z_tuple ?z_type ?c_CODE_TOP ?c_GREATEST_LENGTH ?c_MOST_HELD ?c_MOST_INSTRUCTIONS ?c_NUMBER_TOP ?g_BASES ?at_BASES ?ok_BASES ?g_SPECIALS ?at_SPECIALS ?ok_SPECIALS
    (case a_is_number => k_is); (case l_is_number => k_is); (case c_is_number => k_is); (case k_is_number => k_is); (case a_first_text => k_is); (case l_first_text => k_is); (case c_first_text => k_is); (case k_first_text => k_is); (case a_is_decision => k_is); (case l_is_decision => k_is); (case c_is_decision => k_is); (case k_is_decision => k_is); (case a_is_one_of => k_is); (case l_is_one_of => k_is); (case c_is_one_of => k_is); (case k_is_one_of => k_is); (case a_is_instruction => k_is); (case l_is_instruction => k_is); (case c_is_instruction => k_is); (case k_is_instruction => k_is); (case x_is_instruction => k_is); (case p_is_instruction => rfl); (case a_is_program => k_is); (case l_is_program => k_is); (case c_is_program => k_is); (case k_is_program => k_is); (case x_is_program => k_is); (case p_is_program => rfl); (case a_law_same => k_is); (case l_law_same => k_is); (case c_law_same => k_is); (case k_law_same => k_is); (case a_law_is_integer => k_is); (case l_law_is_integer => k_is); (case c_law_is_integer => k_is); (case k_law_is_integer => k_is); (case a_law_pool => k_is); (case l_law_pool => k_is); (case c_law_pool => k_is); (case k_law_pool => k_is); (case a_law_spread => k_is); (case l_law_spread => k_is); (case c_law_spread => k_is); (case k_law_spread => k_is); (case a_law_draw => k_is); (case l_law_draw => k_is); (case c_law_draw => k_is); (case k_law_draw => k_is); (case a_law_bent => k_is); (case l_law_bent => k_is); (case c_law_bent => k_is); (case k_law_bent => k_is); (case a_law_booled => k_is); (case l_law_booled => k_is); (case c_law_booled => k_is); (case k_law_booled => k_is); (case a_law_listed => k_is); (case l_law_listed => k_is); (case c_law_listed => k_is); (case k_law_listed => k_is); (case a_law_is_number => k_is); (case l_law_is_number => k_is); (case c_law_is_number => k_is); (case k_law_is_number => k_is); (case a_law_decision => k_is); (case l_law_decision => k_is); (case c_law_decision => k_is); (case k_law_decision => k_is); (case a_law_is_decision => k_is); (case l_law_is_decision => k_is); (case c_law_is_decision => k_is); (case k_law_is_decision => k_is); (case a_law_is_instruction => k_is); (case l_law_is_instruction => k_is); (case c_law_is_instruction => k_is); (case k_law_is_instruction => k_is); (case a_law_is_program => k_is); (case l_law_is_program => k_is); (case c_law_is_program => k_is); (case k_law_is_program => k_is); (case a_law_instruction => k_is); (case l_law_instruction => k_is); (case c_law_instruction => k_is); (case k_law_instruction => k_is); (case a_law_program => k_is); (case l_law_program => k_is); (case c_law_program => k_is); (case k_law_program => k_is); (case a_law => k_is); (case l_law => k_is); (case c_law => k_is); (case k_law => k_is); (case z_all => k_is); (case z_bool => k_is); (case z_int => k_is); (case z_isinstance => k_is); (case z_len => k_is); (case z_list => k_is); (case z_range => k_is); (case z_repr => k_is); (case z_str => k_is); (case z_tuple => k_is); (case z_type => k_is); (case c_CODE_TOP => k_is); (case c_GREATEST_LENGTH => k_is); (case c_MOST_HELD => k_is); (case c_MOST_INSTRUCTIONS => k_is); (case c_NUMBER_TOP => k_is); (case g_BASES => k_is); (case at_BASES => k_is); (case ok_BASES => first | rfl | decide); (case g_SPECIALS => k_is); (case at_SPECIALS => k_is); (case ok_SPECIALS => first | rfl | decide)
