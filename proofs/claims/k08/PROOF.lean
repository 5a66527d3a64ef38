import PyProof.Rows.All
import Wide.All
import OpenK.AllK
import Wide.FinOn
import HandS.ForMost
import HandS.IsInst
import HandS.More
import HandS.Flow
import HandS.Wide
import HandS.TupAny
import HandS.Strs
import HandS.SetFor
import HandS.Sort
import HandS.SortRule
import HandS.Iter
import HandS.Star
import KE.KTupSum
import HandS.Dict
import HandS.Style
import PyProof.TypeEq
import PyProof.InstEq
import HandS.Deep
import HandS.Ends
import PyProof.ReprRoads
import PyProof.ReprLen
import HandS.TupMul
import HandS.Conv
import HandS.SortOrd
import PyProof.TupleOfSeq
import HandS.TryOnly
import KE.KRevSl
import HandS.SortKw
import PySem.Challenge.RW_gatewarden_k08_whole_exchanges_undo_them
set_option Elab.async false
set_option linter.all false
set_option maxRecDepth 100000
section
set_option Elab.async false
set_option linter.all false
set_option maxRecDepth 100000
namespace PG
open PySem PySem.Spec PyProof.Rows L2

abbrev D := PyData

/-! ### data and values -/
def KLst (K : PySem.W.Frag) (a : Addr) (xs : List V) : Prop := ∃ (o : Obj) (its : Array Value) (n : Nat), K.lookup a = some o ∧ o.cls = .type "list" ∧ o.dict = none ∧ o.data = .seq its n ∧ its.size ≤ sizeLine ∧ Vals xs its.toList
def KTup (K : PySem.W.Frag) (a : Addr) (xs : List V) : Prop := ∃ (o : Obj) (its : Array Value) (n : Nat), K.lookup a = some o ∧ o.cls = .type "tuple" ∧ o.data = .seq its n ∧ its.size ≤ sizeLine ∧ Vals xs its.toList
def LAt (K : PySem.W.Frag) (A : Addr → Prop) (H : Hp) (a : Addr) (xs : List V) : Prop := H a = some (.lst xs) ∧ ¬ A a
def WAt (K : PySem.W.Frag) (A : Addr → Prop) (H : Hp) (a : Addr) (xs : List V) : Prop := (Rd H a (.lst xs) ∧ ¬ A a) ∨ KLst K a xs
def TAt (K : PySem.W.Frag) (A : Addr → Prop) (H : Hp) (a : Addr) (xs : List V) : Prop := (Rd H a (.tup xs) ∧ ¬ A a) ∨ KTup K a xs
theorem LAt.sq {K : PySem.W.Frag} {A : Addr → Prop} {H : Hp} {a : Addr} {xs : List V} (h : LAt K A H a xs) : SqL K H a xs := .inl (.inl h.1)
theorem WAt.sq {K : PySem.W.Frag} {A : Addr → Prop} {H : Hp} {a : Addr} {xs : List V} (h : WAt K A H a xs) : SqL K H a xs := h.elim (fun x => .inl x.1) .inr
inductive FlatA : List V → List PyData → Prop
  | nil : FlatA [] []
  | int (i : Int) {vs : List V} {ds : List PyData} : FlatA vs ds → FlatA (.int i :: vs) (.int i :: ds)
  | str (x : Str) {vs : List V} {ds : List PyData} : FlatA vs ds → FlatA (.str x :: vs) (.str x :: ds)
theorem TAt.sq {K : PySem.W.Frag} {A : Addr → Prop} {H : Hp} {a : Addr} {xs : List V} (h : TAt K A H a xs) : SqT K H a xs := h.elim (fun x => .inl x.1) .inr

mutual
inductive Rp (K : PySem.W.Frag) (A : Addr → Prop) (H : Hp) : V → PyData → Prop
  | non : Rp K A H .non .none
  | bl (b : Bool) : Rp K A H (.bl b) (.bool b)
  | int (i : Int) : Rp K A H (.int i) (.int i)
  | str (x : Str) : Rp K A H (.str x) (.str x)
  | lst {a : Addr} {xs : List V} {ds : List PyData} : LAt K A H a xs → RpA K A H xs ds → Rp K A H (.ref a) (.list ds)
  | tup {a : Addr} {xs : List V} {ds : List PyData} : TAt K A H a xs → RpA K A H xs ds → Rp K A H (.ref a) (.tuple ds)
  | ro {a : Addr} {xs : List V} {ds : List PyData} : WAt K A H a xs → FlatA xs ds → Rp K A H (.ref a) (.dict [(.list ds, .none)])
inductive RpA (K : PySem.W.Frag) (A : Addr → Prop) (H : Hp) : List V → List PyData → Prop
  | nil : RpA K A H [] []
  | cons {v : V} {vs : List V} {d : PyData} {ds : List PyData} : Rp K A H v d → RpA K A H vs ds → RpA K A H (v :: vs) (d :: ds)
end

/-- what stood apart from A stands, apart from A' -/
def Mv (A : Addr → Prop) (H : Hp) (A' : Addr → Prop) (H' : Hp) : Prop := ∀ a o, H a = some o → ¬ A a → H' a = some o ∧ ¬ A' a
theorem Mv.trans {A B C : Addr → Prop} {H H1 H2 : Hp} (m : Mv A H B H1) (n : Mv B H1 C H2) : Mv A H C H2 := fun a o h k => by
  obtain ⟨h1, k1⟩ := m a o h k
  exact n a o h1 k1
theorem Mv.refl {A : Addr → Prop} {H : Hp} : Mv A H A H := fun _ _ h k => ⟨h, k⟩
section
variable {K : PySem.W.Frag} {A A' : Addr → Prop} {H H' : Hp}
theorem Mv.rd (m : Mv A H A' H') {a : Addr} {u : HO} (h : Rd H a u) (k : ¬ A a) : Rd H' a u ∧ ¬ A' a := by
  rcases h with h | ⟨o, h⟩
  · exact ⟨.inl (m a _ h k).1, (m a _ h k).2⟩
  · exact ⟨.inr ⟨o, (m a _ h k).1⟩, (m a _ h k).2⟩
theorem LAt.move (m : Mv A H A' H') {a : Addr} {xs : List V} (h : LAt K A H a xs) : LAt K A' H' a xs := m a _ h.1 h.2
theorem WAt.move (m : Mv A H A' H') {a : Addr} {xs : List V} (h : WAt K A H a xs) : WAt K A' H' a xs := h.elim (fun x => .inl (m.rd x.1 x.2)) .inr
theorem FlatA.rp : ∀ {vs : List V} {ds : List PyData}, FlatA vs ds → RpA K A H vs ds
  | _, _, .nil => .nil
  | _, _, .int i f => .cons (.int i) f.rp
  | _, _, .str x f => .cons (.str x) f.rp
theorem TAt.move (m : Mv A H A' H') {a : Addr} {xs : List V} (h : TAt K A H a xs) : TAt K A' H' a xs := h.elim (fun x => .inl (m.rd x.1 x.2)) .inr
mutual
theorem Rp.move (m : Mv A H A' H') : ∀ (d : PyData) (v : V), Rp K A H v d → Rp K A' H' v d
  | .none, _, h => by cases h; exact .non
  | .bool b, _, h => by cases h; exact .bl b
  | .int i, _, h => by cases h; exact .int i
  | .str x, _, h => by cases h; exact .str x
  | .list ds, _, h => by
    cases h with
    | lst l r => exact .lst (l.move m) (RpA.move m ds _ r)
  | .tuple ds, _, h => by
    cases h with
    | tup l r => exact .tup (l.move m) (RpA.move m ds _ r)
  | .dict _, _, h => by
    cases h with
    | ro w f => exact .ro (w.move m) f
theorem RpA.move (m : Mv A H A' H') : ∀ (ds : List PyData) (vs : List V), RpA K A H vs ds → RpA K A' H' vs ds
  | [], _, h => by cases h; exact .nil
  | d :: ds, _, h => by
    cases h with
    | cons h1 h2 => exact .cons (Rp.move m d _ h1) (RpA.move m ds _ h2)
end
theorem Rp.mv {v : V} {d : PyData} (h : Rp K A H v d) (m : Mv A H A' H') : Rp K A' H' v d := Rp.move m d v h
theorem RpA.mv {vs : List V} {ds : List PyData} (h : RpA K A H vs ds) (m : Mv A H A' H') : RpA K A' H' vs ds := RpA.move m ds vs h
mutual
theorem Rp.dp : ∀ (d : PyData) (v : V), Rp K A H v d → d.canLay0 = true → Dp K H v d
  | .none, _, h, _ => by cases h; exact .non
  | .bool b, _, h, _ => by cases h; exact .bl b
  | .int i, _, h, _ => by cases h; exact .int i
  | .str x, _, h, _ => by cases h; exact .str x
  | .list ds, _, h, s => by
    cases h with
    | lst l r => exact .lst l.sq (RpA.dp ds _ r (by simpa [PyData.canLay0] using s))
  | .tuple ds, _, h, s => by
    cases h with
    | tup l r => exact .tup l.sq (RpA.dp ds _ r (by simpa [PyData.canLay0] using s))
  | .dict _, _, h, s => by simp [PyData.canLay0] at s
theorem RpA.dp : ∀ (ds : List PyData) (vs : List V), RpA K A H vs ds → PyData.canLayAll0 ds = true → DpAll K H vs ds
  | [], _, h, _ => by cases h; exact .nil
  | d :: ds, _, h, s => by
    cases h with
    | cons h1 h2 =>
      simp only [PyData.canLayAll0, Bool.and_eq_true] at s
      exact .cons (Rp.dp d _ h1 s.1) (RpA.dp ds _ h2 s.2)
end
theorem RpA.length : ∀ {vs : List V} {ds : List PyData}, RpA K A H vs ds → vs.length = ds.length
  | _, [], h => by cases h; rfl
  | _, _ :: ds, h => by
    cases h with
    | cons h1 h2 => simp [RpA.length h2]
theorem RpA.get : ∀ {vs : List V} {ds : List PyData} {i : Nat} {d : PyData}, RpA K A H vs ds → ds[i]? = some d → ∃ v, vs[i]? = some v ∧ Rp K A H v d
  | _, [], _, _, h, e => by simp at e
  | _, _ :: ds, 0, _, h, e => by
    cases h with
    | cons h1 h2 => simp at e; subst e; exact ⟨_, rfl, h1⟩
  | _, _ :: ds, i + 1, _, h, e => by
    cases h with
    | cons h1 h2 =>
      obtain ⟨v, h3, h4⟩ := RpA.get (i := i) h2 (by simpa using e)
      exact ⟨v, by simpa using h3, h4⟩
theorem RpA.getV : ∀ {vs : List V} {ds : List PyData} {i : Nat} {v : V}, RpA K A H vs ds → vs[i]? = some v → ∃ d, ds[i]? = some d ∧ Rp K A H v d
  | [], _, _, _, h, e => by simp at e
  | _ :: _, [], _, _, h, e => by cases h
  | _ :: _, _ :: ds, 0, _, h, e => by
    cases h with
    | cons h1 h2 => simp at e; subst e; exact ⟨_, rfl, h1⟩
  | _ :: vs, _ :: ds, i + 1, _, h, e => by
    cases h with
    | cons h1 h2 =>
      obtain ⟨v, h3, h4⟩ := RpA.getV (i := i) h2 (by simpa using e)
      exact ⟨v, by simpa using h3, h4⟩
theorem RpA.app : ∀ {vs ws : List V} {ds es : List PyData}, RpA K A H vs ds → RpA K A H ws es → RpA K A H (vs ++ ws) (ds ++ es)
  | _, _, [], _, h, k => by cases h; exact k
  | _, _, _ :: ds, _, h, k => by
    cases h with
    | cons h1 h2 => exact .cons h1 (RpA.app h2 k)
theorem RpA.set : ∀ {vs : List V} {ds : List PyData} {v : V} {d : PyData} (i : Nat), RpA K A H vs ds → Rp K A H v d → RpA K A H (vs.set i v) (ds.set i d)
  | _, [], _, _, _, h, _ => by cases h; exact .nil
  | _, _ :: ds, _, _, 0, h, k => by
    cases h with
    | cons h1 h2 => exact .cons k h2
  | _, _ :: ds, _, _, i + 1, h, k => by
    cases h with
    | cons h1 h2 => exact .cons h1 (RpA.set i h2 k)
theorem RpA.take : ∀ {vs : List V} {ds : List PyData} (i : Nat), RpA K A H vs ds → RpA K A H (vs.take i) (ds.take i)
  | _, _, 0, h => by simp; exact .nil
  | _, [], _ + 1, h => by cases h; exact .nil
  | _, _ :: ds, i + 1, h => by
    cases h with
    | cons h1 h2 => exact .cons h1 (RpA.take i h2)
theorem RpA.drop : ∀ {vs : List V} {ds : List PyData} (i : Nat), RpA K A H vs ds → RpA K A H (vs.drop i) (ds.drop i)
  | _, _, 0, h => by simpa using h
  | _, [], _ + 1, h => by cases h; exact .nil
  | _, _ :: ds, i + 1, h => by
    cases h with
    | cons h1 h2 => exact RpA.drop i h2
theorem RpA.ints : ∀ {vs : List V} {ns : List Int}, RpA K A H vs (ns.map PyData.int) → vs = ns.map V.int
  | _, [], h => by cases h; rfl
  | _, _ :: ns, h => by
    cases h with
    | cons h1 h2 => cases h1; simp [RpA.ints h2]
theorem RpA.ofInts : ∀ (ns : List Int), RpA K A H (ns.map V.int) (ns.map PyData.int)
  | [] => .nil
  | n :: ns => .cons (.int n) (RpA.ofInts ns)
end

/-! ### slots -/
inductive Cell where
  | v (d : PyData)
  | l (p : Bool) (ds : List PyData)
abbrev Rho := List (Option Cell)
structure Act where
  A : Addr → Prop
  H0 : Hp
  pn : Nat → Option Addr
def Act.plus (c : Act) (a : Addr) : Act := { c with A := fun b => c.A b ∨ b = a }
def Own (ρ : Rho) (σ : L2.St) (a : Addr) : Prop := ∃ (i : Nat) (p : Bool) (ds : List PyData), ρ[i]? = some (some (Cell.l p ds)) ∧ σ[i]? = some (some (V.ref a))
def Av (c : Act) (ρ : Rho) (σ : L2.St) (a : Addr) : Prop := c.A a ∨ Own ρ σ a
structure Rel (K : PySem.W.Frag) (c : Act) (ρ : Rho) (σ : L2.St) (H : Hp) : Prop where
  len : ρ.length = σ.length
  val : ∀ (i : Nat) (d : PyData), ρ[i]? = some (some (.v d)) → ∃ v, σ[i]? = some (some v) ∧ Rp K (Av c ρ σ) H v d
  lst : ∀ (i : Nat) (p : Bool) (ds : List PyData), ρ[i]? = some (some (.l p ds)) → ∃ a vs, σ[i]? = some (some (.ref a)) ∧ H a = some (.lst vs) ∧ RpA K (Av c ρ σ) H vs ds ∧ (p = false → c.H0 a = none ∧ ¬ c.A a)
  dis : ∀ (i j : Nat) (p q : Bool) (ds es : List PyData) (a : Addr), ρ[i]? = some (some (.l p ds)) → ρ[j]? = some (some (.l q es)) → σ[i]? = some (some (.ref a)) → σ[j]? = some (some (.ref a)) → i = j
  pin : ∀ (i : Nat) (a : Addr), c.pn i = some a ↔ ∃ (ds : List PyData), ρ[i]? = some (some (.l true ds)) ∧ σ[i]? = some (some (V.ref a))
  pA : ∀ (i : Nat) (a : Addr), c.pn i = some a → c.A a
  old : ∀ (a : Addr) (o : HO), c.H0 a = some o → (∀ i, c.pn i ≠ some a) → H a = some o
  av : ∀ a, c.A a → H a ≠ none
abbrev Stp (c : Act) (ρ : Rho) (σ : L2.St) (H : Hp) (ρ' : Rho) (σ' : L2.St) (H' : Hp) : Prop := Mv (Av c ρ σ) H (Av c ρ' σ') H'
section
variable {K : PySem.W.Frag} {c : Act} {ρ ρ' : Rho} {σ σ' : L2.St} {H H' : Hp}
theorem Rel.own (R : Rel K c ρ σ H) {a : Addr} (h : Own ρ σ a) : ∃ vs, H a = some (.lst vs) := by
  obtain ⟨i, p, ds, h1, h2⟩ := h
  obtain ⟨b, vs, e1, e2, _⟩ := R.lst i p ds h1
  rw [h2] at e1
  cases e1
  exact ⟨vs, e2⟩
theorem Rel.avS (R : Rel K c ρ σ H) {a : Addr} (h : Av c ρ σ a) : H a ≠ none := by
  rcases h with h | h
  · exact R.av a h
  · obtain ⟨vs, e⟩ := R.own h
    rw [e]
    exact fun z => nomatch z
theorem Rel.noAv (R : Rel K c ρ σ H) {a : Addr} (h : H a = none) : ¬ Av c ρ σ a := fun z => R.avS z h
/-- the heap grows -/
theorem Rel.mvG (R : Rel K c ρ σ H) (k : ∀ a o, H a = some o → H' a = some o) : Mv (Av c ρ σ) H (Av c ρ σ) H' := fun a o h n => ⟨k a o h, n⟩
theorem Rel.grow (R : Rel K c ρ σ H) (k : ∀ a o, H a = some o → H' a = some o) : Rel K c ρ σ H' where
  len := R.len
  val := fun i d h => by
    obtain ⟨v, e, r⟩ := R.val i d h
    exact ⟨v, e, r.mv (R.mvG k)⟩
  lst := fun i p ds h => by
    obtain ⟨a, vs, e, e2, r, q⟩ := R.lst i p ds h
    exact ⟨a, vs, e, k _ _ e2, r.mv (R.mvG k), q⟩
  dis := R.dis
  pin := R.pin
  pA := R.pA
  old := fun a o h n => k _ _ (R.old a o h n)
  av := fun a h => by
    cases e : H a with
    | none => exact absurd e (R.av a h)
    | some o => rw [k a o e]; exact fun z => nomatch z
theorem kp_upd {p : Addr} {o : HO} (h : H p = none) : ∀ b x, H b = some x → upd H p o b = some x := fun b x e => by
  rw [upd_ne (ne_of_none e h)]
  exact e
/-- the heap grows, p among the new, kept apart -/
theorem Rel.mvP (R : Rel K c ρ σ H) {p : Addr} (h : H p = none) (k : ∀ a o, H a = some o → H' a = some o) : Mv (Av c ρ σ) H (Av (c.plus p) ρ σ) H' := fun a x e n => ⟨k a x e, fun z => by
    rcases z with (z | z) | z
    · exact n (.inl z)
    · subst z; rw [h] at e; cases e
    · exact n (.inr z)⟩
theorem Rel.plus (R : Rel K c ρ σ H) {p : Addr} (h : H p = none) (k : ∀ a o, H a = some o → H' a = some o) (hp : H' p ≠ none) : Rel K (c.plus p) ρ σ H' := by
  have m := R.mvP h k
  have R1 := R.grow k
  refine ⟨R.len, fun i d e => ?_, fun i p ds e => ?_, R.dis, R.pin, fun i a e => .inl (R.pA i a e), R1.old, fun a z => ?_⟩
  · obtain ⟨v, e1, r⟩ := R.val i d e
    exact ⟨v, e1, r.mv m⟩
  · obtain ⟨a, vs, e1, e2, r, q⟩ := R.lst i p ds e
    exact ⟨a, vs, e1, k _ _ e2, r.mv m, fun z => ⟨(q z).1, fun y => y.elim (q z).2 fun w => by subst w; rw [h] at e2; cases e2⟩⟩
  · rcases z with z | z
    · exact R1.av a z
    · subst z; exact hp
theorem Rel.fresh0 (R : Rel K c ρ σ H) {p : Addr} (h : H p = none) : c.H0 p = none := by
  cases e : c.H0 p with
  | none => rfl
  | some o =>
    have := R.old p o e fun i z => R.av p (R.pA i p z) h
    rw [h] at this
    cases this
theorem mv_unplus {p : Addr} : Mv (Av (c.plus p) ρ σ) H (Av c ρ σ) H := fun a o e n => ⟨e, fun z => n (z.elim (fun x => .inl (.inl x)) .inr)⟩
theorem Rel.unplus {p : Addr} (R : Rel K (c.plus p) ρ σ H) (pA : ∀ (i : Nat) (a : Addr), c.pn i = some a → c.A a) : Rel K c ρ σ H :=
  ⟨R.len, fun i d e => by
    obtain ⟨v, e1, r⟩ := R.val i d e
    exact ⟨v, e1, r.mv mv_unplus⟩, fun i p ds e => by
    obtain ⟨a, vs, e1, e2, r, q⟩ := R.lst i p ds e
    exact ⟨a, vs, e1, e2, r.mv mv_unplus, fun z => ⟨(q z).1, fun y => (q z).2 (.inl y)⟩⟩, R.dis, R.pin, pA, R.old, fun a z => R.av a (.inl z)⟩
theorem get_set {α : Type} {l : List α} {i j : Nat} {x : α} (h : i < l.length) : (l.set i x)[j]? = if i = j then some x else l[j]? := by
  rw [List.getElem?_set]
  by_cases e : i = j
  · subst e; simp [h]
  · simp [e]
theorem lt_of_get {α : Type} {l : List α} {i : Nat} {x : α} (h : l[i]? = some x) : i < l.length := by
  rcases Nat.lt_or_ge i l.length with h1 | h1
  · exact h1
  · rw [List.getElem?_eq_none h1] at h; cases h
/-- an owned list is written -/
theorem Rel.write (R : Rel K c ρ σ H) {i : Nat} {p : Bool} {ds ds' : List PyData} {a : Addr} {vs' : List V} (hi : ρ[i]? = some (some (.l p ds))) (ha : σ[i]? = some (some (.ref a)))
    (hw : H' a = some (.lst vs')) (kw : ∀ b o, b ≠ a → H b = some o → H' b = some o) (r : RpA K (Av c ρ σ) H' vs' ds') : Rel K c (ρ.set i (some (.l p ds'))) σ H' ∧ Stp c ρ σ H (ρ.set i (some (.l p ds'))) σ H' := by
  have hl := lt_of_get hi
  have gs : ∀ j, (ρ.set i (some (Cell.l p ds')))[j]? = if i = j then some (some (Cell.l p ds')) else ρ[j]? := fun j => get_set hl
  have own : ∀ b, Own (ρ.set i (some (.l p ds'))) σ b → Own ρ σ b := fun b ⟨j, q, es, h1, h2⟩ => by
    rw [gs] at h1
    by_cases e : i = j
    · subst e; exact ⟨i, p, ds, hi, h2⟩
    · rw [if_neg e] at h1; exact ⟨j, q, es, h1, h2⟩
  have aown : Own ρ σ a := ⟨i, p, ds, hi, ha⟩
  have mv : Stp c ρ σ H (ρ.set i (some (.l p ds'))) σ H' := fun b o e n => by
    have nb : b ≠ a := fun z => n (by subst z; exact .inr aown)
    exact ⟨kw b o nb e, fun z => n (z.elim .inl fun x => .inr (own b x))⟩
  refine ⟨⟨by rw [List.length_set]; exact R.len, fun j d e => ?_, fun j q es e => ?_, fun j k q q' es es' b h1 h2 h3 h4 => ?_, fun j b => ?_, R.pA, fun b o e n => ?_, fun b e => ?_⟩, mv⟩
  · rw [gs] at e
    by_cases e1 : i = j
    · rw [if_pos e1] at e; cases e
    · rw [if_neg e1] at e
      obtain ⟨v, h1, h2⟩ := R.val j d e
      exact ⟨v, h1, h2.mv mv⟩
  · rw [gs] at e
    by_cases e1 : i = j
    · rw [if_pos e1] at e
      cases e
      subst e1
      obtain ⟨b, vs, h1, h2, h3, h4⟩ := R.lst i p ds hi
      rw [ha] at h1
      cases h1
      exact ⟨a, vs', ha, hw, r.mv fun b o e n => ⟨e, fun z => n (z.elim .inl fun x => .inr (own b x))⟩, h4⟩
    · rw [if_neg e1] at e
      obtain ⟨b, vs, h1, h2, h3, h4⟩ := R.lst j q es e
      have nb : b ≠ a := fun z => e1 (by subst z; exact R.dis i j p q ds es b hi e ha h1)
      exact ⟨b, vs, h1, kw _ _ nb h2, h3.mv mv, h4⟩
  · rw [gs] at h1 h2
    by_cases e1 : i = j
    · by_cases e2 : i = k
      · omega
      · rw [if_neg e2] at h2
        subst e1
        exact R.dis i k p q' ds es' b hi h2 h3 h4
    · rw [if_neg e1] at h1
      by_cases e2 : i = k
      · subst e2
        exact R.dis j i q p es ds b h1 hi h3 h4
      · rw [if_neg e2] at h2
        exact R.dis j k q q' es es' b h1 h2 h3 h4
  · rw [R.pin]
    constructor
    · rintro ⟨es, h1, h2⟩
      by_cases e : i = j
      · subst e
        rw [hi] at h1
        cases h1
        exact ⟨ds', by rw [gs, if_pos rfl], h2⟩
      · exact ⟨es, by rw [gs, if_neg e]; exact h1, h2⟩
    · rintro ⟨es, h1, h2⟩
      rw [gs] at h1
      by_cases e : i = j
      · subst e
        rw [if_pos rfl] at h1
        cases h1
        exact ⟨ds, hi, h2⟩
      · rw [if_neg e] at h1
        exact ⟨es, h1, h2⟩
  · have nb : b ≠ a := fun z => by
      subst z
      obtain ⟨b', vs, h1, h2, h3, h4⟩ := R.lst i p ds hi
      rw [ha] at h1
      cases h1
      cases p with
      | false => rw [(h4 rfl).1] at e; cases e
      | true => exact n i ((R.pin i b).mpr ⟨ds, hi, ha⟩)
    exact kw b o nb (R.old b o e n)
  · by_cases z : b = a
    · subst z; rw [hw]; exact fun z => nomatch z
    · cases e2 : H b with
      | none => exact absurd e2 (R.av b e)
      | some o => rw [kw b o z e2]; exact fun z => nomatch z
/-- an owned list of the call's own becomes a value -/
theorem Rel.freeze (R : Rel K c ρ σ H) {i : Nat} {ds : List PyData} {a : Addr} (hi : ρ[i]? = some (some (.l false ds))) (ha : σ[i]? = some (some (.ref a))) :
    Rel K c (ρ.set i (some (.v (.list ds)))) σ H ∧ Rp K (Av c (ρ.set i (some (.v (.list ds)))) σ) H (.ref a) (.list ds) ∧ Stp c ρ σ H (ρ.set i (some (.v (.list ds)))) σ H := by
  have hl := lt_of_get hi
  have gs : ∀ j, (ρ.set i (some (Cell.v (.list ds))))[j]? = if i = j then some (some (Cell.v (.list ds))) else ρ[j]? := fun j => get_set hl
  have own : ∀ b, Own (ρ.set i (some (.v (.list ds)))) σ b → Own ρ σ b := fun b ⟨j, q, es, h1, h2⟩ => by
    rw [gs] at h1
    by_cases e : i = j
    · rw [if_pos e] at h1; cases h1
    · rw [if_neg e] at h1; exact ⟨j, q, es, h1, h2⟩
  have nA : ¬ c.A a := by
    obtain ⟨b, vs, h1, h2, h3, h4⟩ := R.lst i false ds hi
    rw [ha] at h1
    cases h1
    exact (h4 rfl).2
  have nown : ¬ Own (ρ.set i (some (.v (.list ds)))) σ a := fun ⟨j, q, es, h1, h2⟩ => by
    rw [gs] at h1
    by_cases e : i = j
    · rw [if_pos e] at h1; cases h1
    · rw [if_neg e] at h1; exact e (R.dis i j false q ds es a hi h1 ha h2)
  have mv : Stp c ρ σ H (ρ.set i (some (.v (.list ds)))) σ H := fun b o e n => ⟨e, fun z => n (z.elim .inl fun x => .inr (own b x))⟩
  have rp : Rp K (Av c (ρ.set i (some (.v (.list ds)))) σ) H (.ref a) (.list ds) := by
    obtain ⟨b, vs, h1, h2, h3, h4⟩ := R.lst i false ds hi
    rw [ha] at h1
    cases h1
    exact .lst ⟨h2, fun z => z.elim nA nown⟩ (h3.mv mv)
  refine ⟨⟨by rw [List.length_set]; exact R.len, fun j d e => ?_, fun j q es e => ?_, fun j k q q' es es' b h1 h2 h3 h4 => ?_, fun j b => ?_, R.pA, R.old, R.av⟩, rp, mv⟩
  · rw [gs] at e
    by_cases e1 : i = j
    · rw [if_pos e1] at e
      cases e
      subst e1
      exact ⟨.ref a, ha, rp⟩
    · rw [if_neg e1] at e
      obtain ⟨v, h1, h2⟩ := R.val j d e
      exact ⟨v, h1, h2.mv mv⟩
  · rw [gs] at e
    by_cases e1 : i = j
    · rw [if_pos e1] at e; cases e
    · rw [if_neg e1] at e
      obtain ⟨b, vs, h1, h2, h3, h4⟩ := R.lst j q es e
      exact ⟨b, vs, h1, h2, h3.mv mv, h4⟩
  · rw [gs] at h1 h2
    by_cases e1 : i = j
    · rw [if_pos e1] at h1; cases h1
    · by_cases e2 : i = k
      · rw [if_pos e2] at h2; cases h2
      · rw [if_neg e1] at h1
        rw [if_neg e2] at h2
        exact R.dis j k q q' es es' b h1 h2 h3 h4
  · rw [R.pin]
    constructor
    · rintro ⟨es, h1, h2⟩
      by_cases e : i = j
      · subst e; rw [hi] at h1; cases h1
      · exact ⟨es, by rw [gs, if_neg e]; exact h1, h2⟩
    · rintro ⟨es, h1, h2⟩
      rw [gs] at h1
      by_cases e : i = j
      · rw [if_pos e] at h1; cases h1
      · rw [if_neg e] at h1; exact ⟨es, h1, h2⟩
end
end PG
end
section
set_option Elab.async false
set_option linter.all false
set_option maxRecDepth 100000
namespace PG
open PySem PySem.Spec PyProof.Rows L2

/-! ### what a program's parts do, on data -/
abbrev EF := Rho → Option (PyData × Rho)
abbrev NF := Rho → Option (List PyData × Rho)
abbrev TF := Rho → Option (Bool × Rho)
inductive Out where
  | next
  | brk
  | cont
  | ret (d : PyData)
  | retL (ds : List PyData)
abbrev SF := Rho → Option (Out × Rho)
abbrev GF := PyData → Rho → Option Rho

/-! expressions -/
@[simp] def eName (i : Nat) : EF := fun ρ => match ρ[i]? with
  | some (some (.v d)) => some (d, ρ)
  | _ => none
@[simp] def eFrz (i : Nat) : EF := fun ρ => match ρ[i]? with
  | some (some (.l false ds)) => some (.list ds, ρ.set i (some (.v (.list ds))))
  | _ => none
@[simp] def eC (d : PyData) : EF := fun ρ => some (d, ρ)
@[simp] def eUn (o : PyData → Option PyData) (f : EF) : EF := fun ρ => match f ρ with
  | some (x, ρ1) => (match o x with
    | some z => some (z, ρ1)
    | none => none)
  | none => none
@[simp] def eBin (o : PyData → PyData → Option PyData) (f g : EF) : EF := fun ρ => match f ρ with
  | some (x, ρ1) => (match g ρ1 with
    | some (y, ρ2) => (match o x y with
      | some z => some (z, ρ2)
      | none => none)
    | none => none)
  | none => none
@[simp] def eTest (f : TF) : EF := fun ρ => match f ρ with
  | some (b, ρ1) => some (.bool b, ρ1)
  | none => none
@[simp] def eIf (t : TF) (f g : EF) : EF := fun ρ => match t ρ with
  | some (true, ρ1) => f ρ1
  | some (false, ρ1) => g ρ1
  | none => none
@[simp] def nNil : NF := fun ρ => some ([], ρ)
@[simp] def nCons (f : EF) (g : NF) : NF := fun ρ => match f ρ with
  | some (x, ρ1) => (match g ρ1 with
    | some (xs, ρ2) => some (x :: xs, ρ2)
    | none => none)
  | none => none
@[simp] def eTup (f : NF) : EF := fun ρ => match f ρ with
  | some (xs, ρ1) => if xs.length ≤ 16777216 then some (.tuple xs, ρ1) else none
  | none => none
@[simp] def nDisp (f : NF) : NF := fun ρ => match f ρ with
  | some (xs, ρ1) => if xs.length ≤ 16777216 then some (xs, ρ1) else none
  | none => none
@[simp] def eLst (f : NF) : EF := fun ρ => match f ρ with
  | some (xs, ρ1) => some (.list xs, ρ1)
  | none => none
/-- a call of a def that changes nothing -/
@[simp] def eCall (F : List PyData → Option PyData) (f : NF) : EF := fun ρ => match f ρ with
  | some (xs, ρ1) => (match F xs with
    | some z => some (z, ρ1)
    | none => none)
  | none => none
/-- .. that hands back a new list -/
@[simp] def nCall (F : List PyData → Option (List PyData)) (f : NF) : NF := fun ρ => match f ρ with
  | some (xs, ρ1) => (match F xs with
    | some z => some (z, ρ1)
    | none => none)
  | none => none
/-- .. that changes the list at slot i, its first argument -/
@[simp] def eCallL (F : List PyData → List PyData → Option (PyData × List PyData)) (i : Nat) (f : NF) : EF := fun ρ => match ρ[i]? with
  | some (some (.l _ _)) => (match f ρ with
    | some (xs, ρ1) => (match ρ1[i]? with
      | some (some (.l p ps)) => (match F ps xs with
        | some (z, ps') => some (z, ρ1.set i (some (.l p ps')))
        | none => none)
      | _ => none)
    | none => none)
  | _ => none
/-- .. and hands back a new list -/
@[simp] def nCallL (F : List PyData → List PyData → Option (List PyData × List PyData)) (i : Nat) (f : NF) : NF := fun ρ => match ρ[i]? with
  | some (some (.l _ _)) => (match f ρ with
    | some (xs, ρ1) => (match ρ1[i]? with
      | some (some (.l p ps)) => (match F ps xs with
        | some (z, ps') => some (z, ρ1.set i (some (.l p ps')))
        | none => none)
      | _ => none)
    | none => none)
  | _ => none
/-- xs[e] of an owned list -/
@[simp] def eIxL (o : PyData → PyData → Option PyData) (i : Nat) (g : EF) : EF := fun ρ => match ρ[i]? with
  | some (some (.l _ _)) => (match g ρ with
    | some (y, ρ1) => (match ρ1[i]? with
      | some (some (.l _ ps)) => (match o (.list ps) y with
        | some z => some (z, ρ1)
        | none => none)
      | _ => none)
    | none => none)
  | _ => none
@[simp] def eUnL (o : PyData → Option PyData) (i : Nat) : EF := fun ρ => match ρ[i]? with
  | some (some (.l _ ps)) => (match o (.list ps) with
    | some z => some (z, ρ)
    | none => none)
  | _ => none

/-! tests -/
@[simp] def truth : PyData → Option Bool
  | .none => some false
  | .bool b => some b
  | .int i => some (i != 0)
  | .str x => if x.length ≤ 16777216 then some ((x.length : Int) != 0) else none
  | .list xs => some (!xs.isEmpty)
  | .tuple xs => some (!xs.isEmpty)
  | .dict _ => none
@[simp] def tTru (f : EF) : TF := fun ρ => match f ρ with
  | some (x, ρ1) => (match truth x with
    | some b => some (b, ρ1)
    | none => none)
  | none => none
def asB : PyData → Option Bool
  | .bool b => some b
  | _ => none
@[simp] def tBl (f : EF) : TF := fun ρ => match f ρ with
  | some (.bool b, ρ1) => some (b, ρ1)
  | _ => none
@[simp] def tAnd' (f g : TF) : TF := fun ρ => match f ρ with
  | some (true, ρ1) => g ρ1
  | some (false, ρ1) => some (false, ρ1)
  | none => none
@[simp] def tOr' (f g : TF) : TF := fun ρ => match f ρ with
  | some (true, ρ1) => some (true, ρ1)
  | some (false, ρ1) => g ρ1
  | none => none
@[simp] def tNot' (f : TF) : TF := fun ρ => match f ρ with
  | some (b, ρ1) => some (!b, ρ1)
  | none => none
/-- and, or as values -/
@[simp] def eAnd (f g : EF) : EF := fun ρ => match f ρ with
  | some (x, ρ1) => (match truth x with
    | some true => g ρ1
    | some false => some (x, ρ1)
    | none => none)
  | none => none
@[simp] def eOr (f g : EF) : EF := fun ρ => match f ρ with
  | some (x, ρ1) => (match truth x with
    | some true => some (x, ρ1)
    | some false => g ρ1
    | none => none)
  | none => none
@[simp] def eNot (f : EF) : EF := fun ρ => match f ρ with
  | some (x, ρ1) => (match truth x with
    | some b => some (.bool (!b), ρ1)
    | none => none)
  | none => none
/-- a < b < c of ints -/
@[simp] def eChain (o o' : PyData → PyData → Option PyData) (f g h : EF) : EF := fun ρ => match f ρ with
  | some (x, ρ1) => (match g ρ1 with
    | some (y, ρ2) => (match o x y with
      | some (.bool true) => (match h ρ2 with
        | some (z, ρ3) => (match o' y z with
          | some (.bool b) => some (.bool b, ρ3)
          | _ => none)
        | none => none)
      | some (.bool false) => some (.bool false, ρ2)
      | _ => none)
    | none => none)
  | none => none

/-! statements -/
@[simp] def setV (i : Nat) (d : PyData) (ρ : Rho) : Option Rho := match ρ[i]? with
  | none => none
  | some (some (.l true _)) => none
  | _ => some (ρ.set i (some (.v d)))
@[simp] def setL (i : Nat) (ds : List PyData) (ρ : Rho) : Option Rho := match ρ[i]? with
  | none => none
  | some (some (.l true _)) => none
  | _ => some (ρ.set i (some (.l false ds)))
@[simp] def sSet (i : Nat) (f : EF) : SF := fun ρ => match f ρ with
  | some (d, ρ1) => (match setV i d ρ1 with
    | some ρ2 => some (.next, ρ2)
    | none => none)
  | none => none
@[simp] def sSetL (i : Nat) (f : NF) : SF := fun ρ => match f ρ with
  | some (ds, ρ1) => (match setL i ds ρ1 with
    | some ρ2 => some (.next, ρ2)
    | none => none)
  | none => none
@[simp] def sSeq (f g : SF) : SF := fun ρ => match f ρ with
  | some (.next, ρ1) => g ρ1
  | r => r
@[simp] def sNil : SF := fun ρ => some (.next, ρ)
@[simp] def sIf (t : TF) (f g : SF) : SF := fun ρ => match t ρ with
  | some (true, ρ1) => f ρ1
  | some (false, ρ1) => g ρ1
  | none => none
@[simp] def sRet (f : EF) : SF := fun ρ => match f ρ with
  | some (d, ρ1) => some (.ret d, ρ1)
  | none => none
@[simp] def sRetL (f : NF) : SF := fun ρ => match f ρ with
  | some (ds, ρ1) => some (.retL ds, ρ1)
  | none => none
/-- return of an owned list's name -/
@[simp] def sRetO (i : Nat) : SF := fun ρ => match ρ[i]? with
  | some (some (.l false ds)) => some (.retL ds, ρ)
  | _ => none
@[simp] def sExpr (f : EF) : SF := fun ρ => match f ρ with
  | some (_, ρ1) => some (.next, ρ1)
  | none => none
@[simp] def sBrk : SF := fun ρ => some (.brk, ρ)
@[simp] def sCont : SF := fun ρ => some (.cont, ρ)
/-- xs.append(e) of an owned list -/
@[simp] def sApp (i : Nat) (f : EF) : SF := fun ρ => match ρ[i]? with
  | some (some (.l _ _)) => (match f ρ with
    | some (d, ρ1) => (match ρ1[i]? with
      | some (some (.l p ds)) => if ds.length < 16777216 then some (.next, ρ1.set i (some (.l p (ds ++ [d])))) else none
      | _ => none)
    | none => none)
  | _ => none
def ixOf (n : Nat) (i : Int) : Option Nat := if 0 ≤ i then (if i < n then some i.toNat else none) else if -(n : Int) ≤ i then some (i + n).toNat else none
/-- xs[e] = f of an owned list -/
@[simp] def sSto (i : Nat) (g f : EF) : SF := fun ρ => match f ρ with
  | some (d, ρ1) => (match ρ1[i]? with
    | some (some (.l _ _)) => (match g ρ1 with
      | some (.int k, ρ2) => (match ρ2[i]? with
        | some (some (.l p ds)) => (match ixOf ds.length k with
          | some j => some (.next, ρ2.set i (some (.l p (ds.set j d))))
          | none => none)
        | _ => none)
      | _ => none)
    | _ => none)
  | none => none
def forL (g : GF) (b : SF) : List PyData → SF
  | [], ρ => some (.next, ρ)
  | d :: ds, ρ => match g d ρ with
    | none => none
    | some ρ1 => match b ρ1 with
      | some (.next, ρ2) => forL g b ds ρ2
      | some (.cont, ρ2) => forL g b ds ρ2
      | some (.brk, ρ2) => some (.next, ρ2)
      | r => r
def sFor (it : NF) (g : GF) (b : SF) : SF := fun ρ => match it ρ with
  | some (ds, ρ1) => forL g b ds ρ1
  | none => none
def whl (t : TF) (b : SF) : Nat → SF
  | 0, _ => none
  | n + 1, ρ => match t ρ with
    | some (true, ρ1) => (match b ρ1 with
      | some (.next, ρ2) => whl t b n ρ2
      | some (.cont, ρ2) => whl t b n ρ2
      | some (.brk, ρ2) => some (.next, ρ2)
      | r => r)
    | some (false, ρ1) => some (.next, ρ1)
    | none => none
def sWhile (n : Rho → Nat) (t : TF) (b : SF) : SF := fun ρ => whl t b (n ρ) ρ
/-- targets -/
@[simp] def gSet (i : Nat) : GF := fun d ρ => setV i d ρ
@[simp] def gPairs : List Nat → List PyData → Rho → Option Rho
  | [], [], ρ => some ρ
  | i :: is, d :: ds, ρ => (match setV i d ρ with
    | some ρ1 => gPairs is ds ρ1
    | none => none)
  | _, _, _ => none
@[simp] def gTupS (is : List Nat) : GF := fun d ρ => match d with
  | .tuple ds => gPairs is ds ρ
  | _ => none
@[simp] def sAsg (f : EF) (g : GF) : SF := fun ρ => match f ρ with
  | some (d, ρ1) => (match g d ρ1 with
    | some ρ2 => some (.next, ρ2)
    | none => none)
  | none => none
/-- comprehensions -/
def wipeR (ρ : Rho) : List Nat → Rho
  | [] => ρ
  | v :: vs => (wipeR ρ vs).set v none
def plainAt (ρ : Rho) (vs : List Nat) : Bool := vs.all fun v => match ρ[v]? with
  | some none => true
  | some (some (.v _)) => true
  | _ => false
def compL (g : GF) (t : TF) (e : EF) (vs : List Nat) : List PyData → List PyData → Rho → Option (List PyData × Rho)
  | [], acc, ρ => some (acc, ρ)
  | d :: ds, acc, ρ => match g d ρ with
    | none => none
    | some ρ1 => match t ρ1 with
      | none => none
      | some (false, ρ2) => if plainAt ρ2 vs then compL g t e vs ds acc (wipeR ρ2 vs) else none
      | some (true, ρ2) => match e ρ2 with
        | none => none
        | some (y, ρ3) => if plainAt ρ3 vs && decide (acc.length < 16777216) then compL g t e vs ds (acc ++ [y]) (wipeR ρ3 vs) else none
def restR (ρ0 ρ : Rho) : List Nat → Rho
  | [] => ρ
  | v :: vs => (restR ρ0 ρ vs).set v (ρ0[v]?.getD none)
def nComp (it : NF) (g : GF) (t : TF) (e : EF) (vs : List Nat) : NF := fun ρ => match it ρ with
  | some (ds, ρ1) => if plainAt ρ1 vs then (match compL g t e vs ds [] (wipeR ρ1 vs) with
    | some (out, ρ2) => some (out, restR ρ1 ρ2 vs)
    | none => none) else none
  | none => none
@[simp] def tYesF : TF := fun ρ => some (true, ρ)

/-! operations on data -/
@[simp] def dAdd : PyData → PyData → Option PyData
  | .int i, .int j => some (.int (i + j))
  | .list xs, .list ys => if xs.length + ys.length ≤ 16777216 then some (.list (xs ++ ys)) else none
  | .tuple xs, .tuple ys => if xs.length + ys.length ≤ 16777216 then some (.tuple (xs ++ ys)) else none
  | .str x, .str y => if x.length + y.length ≤ 16777216 then some (.str (x ++ y)) else none
  | _, _ => none
@[simp] def dI2 (C : Int → Int → Bool) (g : Int → Int → PyData) : PyData → PyData → Option PyData
  | .int i, .int j => if C i j then some (g i j) else none
  | _, _ => none
@[simp] def cT : Int → Int → Bool := fun _ _ => true
@[simp] def dSub := dI2 cT fun i j => .int (i - j)
@[simp] def dMul := dI2 (fun i j => (decide (-18446744073709551616 < i) && decide (i < 18446744073709551616)) || (decide (-18446744073709551616 < j) && decide (j < 18446744073709551616))) fun i j => .int (i * j)
@[simp] def dDiv := dI2 (fun _ j => decide (0 < j) && decide (j < 18446744073709551616)) fun i j => .int (i / j)
@[simp] def dMod := dI2 (fun _ j => decide (0 < j)) fun i j => .int (i % j)
@[simp] def dShr := dI2 (fun _ j => decide (0 ≤ j)) fun i j => .int (i / 2 ^ j.toNat)
@[simp] def dLt := dI2 cT fun i j => .bool (decide (i < j))
@[simp] def dLe := dI2 cT fun i j => .bool (decide (i ≤ j))
@[simp] def dGt := dI2 cT fun i j => .bool (decide (j < i))
@[simp] def dGe := dI2 cT fun i j => .bool (decide (j ≤ i))
def dEq : PyData → PyData → Option PyData
  | .int i, .int j => some (.bool (decide (i = j)))
  | x, y => if SeqAt.shaped x && SeqAt.shaped y then some (.bool (PyData.eqv x y)) else none
def dNe : PyData → PyData → Option PyData
  | .int i, .int j => some (.bool (!decide (i = j)))
  | x, y => if SeqAt.shaped x && SeqAt.shaped y then some (.bool (!PyData.eqv x y)) else none
@[simp] def dNeg : PyData → Option PyData
  | .int i => some (.int (-i))
  | _ => none
@[simp] def isNone : PyData → Bool
  | .none => true
  | _ => false
@[simp] def dIsN : PyData → Option PyData := fun x => some (.bool (isNone x))
@[simp] def dNotN : PyData → Option PyData := fun x => some (.bool (!isNone x))
def atD (xs : List PyData) (i : Int) : Option PyData := (ixOf xs.length i).bind fun j => xs[j]?
/-- lists that are read only: the script's, the module's -/
def RO (ds : List PyData) : PyData := .dict [(.list ds, .none)]
@[simp] def dIx : PyData → PyData → Option PyData
  | .list xs, .int i => atD xs i
  | .tuple xs, .int i => atD xs i
  | .dict [(.list xs, .none)], .int i => atD xs i
  | _, _ => none
@[simp] def dLen : PyData → Option PyData
  | .list xs => some (.int xs.length)
  | .tuple xs => some (.int xs.length)
  | .dict [(.list xs, .none)] => some (.int xs.length)
  | .str x => if x.length ≤ 16777216 then some (.int x.length) else none
  | _ => none
def sIxD (n d : Nat) : Option Int → Nat
  | none => d
  | some v => if v < 0 then (v + (n : Int)).toNat else min v.toNat n
def cutD (xs : List PyData) (lo hi : Option Int) : List PyData := (xs.drop (sIxD xs.length 0 lo)).take (sIxD xs.length xs.length hi - sIxD xs.length 0 lo)
end PG
end
section
set_option Elab.async false
set_option linter.all false
set_option maxRecDepth 100000
namespace PG
open PySem PySem.Spec PyProof.Rows L2

/-! ### readings by data -/
def tE (K : PySem.W.Frag) (f : EF) : TE := fun σ H Q => ∃ (c : Act) (ρ : Rho) (d : PyData) (ρ' : Rho), Rel K c ρ σ H ∧ f ρ = some (d, ρ') ∧
  ∀ v H', Rel K c ρ' σ H' → Rp K (Av c ρ' σ) H' v d → Stp c ρ σ H ρ' σ H' → Q v H'
def tT (K : PySem.W.Frag) (f : TF) : TT := fun σ H Q => ∃ (c : Act) (ρ : Rho) (b : Bool) (ρ' : Rho), Rel K c ρ σ H ∧ f ρ = some (b, ρ') ∧
  ∀ H', Rel K c ρ' σ H' → Stp c ρ σ H ρ' σ H' → Q b H'
def tA (K : PySem.W.Frag) (f : NF) : TA := fun σ H Q => ∃ (c : Act) (ρ : Rho) (ds : List PyData) (ρ' : Rho), Rel K c ρ σ H ∧ f ρ = some (ds, ρ') ∧
  ∀ vs H', Rel K c ρ' σ H' → RpA K (Av c ρ' σ) H' vs ds → Stp c ρ σ H ρ' σ H' → Q vs H'
/-- a new list -/
def tN (K : PySem.W.Frag) (f : NF) : TE := fun σ H Q => ∃ (c : Act) (ρ : Rho) (ds : List PyData) (ρ' : Rho), Rel K c ρ σ H ∧ f ρ = some (ds, ρ') ∧
  ∀ a vs H', Rel K (c.plus a) ρ' σ H' → H' a = some (.lst vs) → RpA K (Av (c.plus a) ρ' σ) H' vs ds → ¬ Av c ρ' σ a → c.H0 a = none → (¬ Av c ρ σ a → H a = none) → Stp c ρ σ H ρ' σ H' → Q (.ref a) H'

section
variable {X : Cx} {e a b : Expr} {pos : Pos} {f g h : EF} {tf tg : TF} {n m : NF}
theorem pe_of {t t' : TE} (h : PE X e t) (k : ∀ σ H Q, t' σ H Q → t σ H Q) : PE X e t' := ⟨fun pins s σ H Q I q => h.run pins s σ H Q I (k σ H Q q)⟩
theorem pt_of {t t' : TT} (h : PT X e t) (k : ∀ σ H Q, t' σ H Q → t σ H Q) : PT X e t' := ⟨fun pins s σ H Q I q => h.run pins s σ H Q I (k σ H Q q)⟩
theorem pw_of {t t' : TT} (h : PW X e t) (k : ∀ σ H Q, t' σ H Q → t σ H Q) : PW X e t' := ⟨fun wh pins s σ H Q I q => h.run wh pins s σ H Q I (k σ H Q q)⟩
theorem pa_of {es : List Expr} {t t' : TA} (h : PA X es t) (k : ∀ σ H Q, t' σ H Q → t σ H Q) : PA X es t' := ⟨fun p pins s σ H Q I q => h.run p pins s σ H Q I (k σ H Q q)⟩
theorem ps_of {st : Stmt} {t t' : TS} (h : PS X st t) (k : ∀ D σ H, t' D σ H → t D σ H) : PS X st t' := ⟨fun pins s σ H D I q => h.run pins s σ H D I (k D σ H q)⟩
theorem pss_of {st : List Stmt} {t t' : TS} (h : PSs X st t) (k : ∀ D σ H, t' D σ H → t D σ H) : PSs X st t' := ⟨fun pins s σ H D I q => h.run pins s σ H D I (k D σ H q)⟩

/-! names, constants -/
theorem ev_name {i : Nat} (h : PE X e (tVar i)) : PE X e (tE X.K (eName i)) := pe_of h fun σ H Q ⟨c, ρ, d, ρ', R, e, q⟩ => by
  unfold eName at e
  split at e
  · rename_i d' hd
    cases e
    obtain ⟨v, h1, h2⟩ := R.val i d hd
    exact ⟨v, h1, q v H R h2 Mv.refl⟩
  · cases e
theorem ev_c {v : V} {d : PyData} (h : PE X e (tC v)) (r : ∀ A H, Rp X.K A H v d) : PE X e (tE X.K (eC d)) := pe_of h fun σ H Q ⟨c, ρ, d', ρ', R, e, q⟩ => by
  cases e
  exact q v H R (r _ _) Mv.refl
theorem ev_int {i : Int} {j} : PE X (.Constant (.int i) j pos) (tE X.K (eC (.int i))) := ev_c pe_int fun _ _ => .int i
theorem ev_bool {b : Bool} {j} : PE X (.Constant (.bool b) j pos) (tE X.K (eC (.bool b))) := ev_c pe_bl fun _ _ => .bl b
theorem ev_none {j} : PE X (.Constant .none j pos) (tE X.K (eC .none)) := ev_c pe_non fun _ _ => .non
theorem ev_str {x : Str} {j} : PE X (.Constant (.str x) j pos) (tE X.K (eC (.str x))) := ev_c pe_str fun _ _ => .str x
/-- an owned list as a value: from here on it is read only -/
theorem ev_frz {i : Nat} (h : PE X e (tVar i)) : PE X e (tE X.K (eFrz i)) := pe_of h fun σ H Q ⟨c, ρ, d', ρ', R, e, q⟩ => by
  unfold eFrz at e
  split at e
  · rename_i ds hd
    cases e
    obtain ⟨a, vs, h1, _⟩ := R.lst i false ds hd
    obtain ⟨R', r', m'⟩ := R.freeze hd h1
    exact ⟨.ref a, h1, q _ H R' r' m'⟩
  · cases e

/-! ### operations -/
def OpS (K : PySem.W.Frag) (r : R2) (o : PyData → PyData → Option PyData) : Prop := ∀ (c : Act) (ρ : Rho) (σ : L2.St) (H : Hp) (v1 v2 : V) (x y d : PyData) (Q : VK), Rel K c ρ σ H → Rp K (Av c ρ σ) H v1 x → Rp K (Av c ρ σ) H v2 y → o x y = some d →
  (∀ v H', Rel K c ρ σ H' → Rp K (Av c ρ σ) H' v d → (∀ a o, H a = some o → H' a = some o) → Q v H') → r v1 v2 H Q
def UnS (K : PySem.W.Frag) (r : V → Hp → VK → Prop) (o : PyData → Option PyData) : Prop := ∀ (c : Act) (ρ : Rho) (σ : L2.St) (H : Hp) (v1 : V) (x d : PyData) (Q : VK), Rel K c ρ σ H → Rp K (Av c ρ σ) H v1 x → o x = some d →
  (∀ v H', Rel K c ρ σ H' → Rp K (Av c ρ σ) H' v d → (∀ a o, H a = some o → H' a = some o) → Q v H') → r v1 H Q
theorem bin_inv {o : PyData → PyData → Option PyData} {ρ ρ' : Rho} {d : PyData} (h : eBin o f g ρ = some (d, ρ')) : ∃ x ρ1 y, f ρ = some (x, ρ1) ∧ g ρ1 = some (y, ρ') ∧ o x y = some d := by
  unfold eBin at h
  split at h
  · rename_i x ρ1 h1
    split at h
    · rename_i y ρ2 h2
      split at h
      · rename_i z h3
        cases h
        exact ⟨x, ρ1, y, h1, h2, h3⟩
      · cases h
    · cases h
  · cases h
theorem un_inv' {o : PyData → Option PyData} {ρ ρ' : Rho} {d : PyData} (h : eUn o f ρ = some (d, ρ')) : ∃ x, f ρ = some (x, ρ') ∧ o x = some d := by
  unfold eUn at h
  split at h
  · rename_i x ρ1 h1
    split at h
    · rename_i z h3
      cases h
      exact ⟨x, h1, h3⟩
    · cases h
  · cases h
theorem rd_bin {K : PySem.W.Frag} {r : R2} {o : PyData → PyData → Option PyData} (s : OpS K r o) : ∀ σ H Q, tE K (eBin o f g) σ H Q → tOp r (tE K f) (tE K g) σ H Q := fun σ H Q ⟨c, ρ, d, ρ', R, e, q⟩ => by
  obtain ⟨x, ρ1, y, h1, h2, h3⟩ := bin_inv e
  refine ⟨c, ρ, x, ρ1, R, h1, fun v1 H1 R1 r1 m1 => ⟨c, ρ1, y, ρ', R1, h2, fun v2 H2 R2 r2 m2 => ?_⟩⟩
  exact s c ρ' σ H2 v1 v2 x y d Q R2 (r1.mv m2) r2 h3 fun v H' R' r' k => q v H' R' r' ((m1.trans m2).trans (R2.mvG k))
theorem ev_op {op : Operator} {r : R2} {o : PyData → PyData → Option PyData} (ho : OpR X (binaryOp op) r) (s : OpS X.K r o) (ha : PE X a (tE X.K f)) (hb : PE X b (tE X.K g)) : PE X (.BinOp a op b pos) (tE X.K (eBin o f g)) :=
  pe_of (pe_op ho ha hb) (rd_bin s)
theorem ev_cmp {op : CmpOp} {r : R2} {o : PyData → PyData → Option PyData} (ho : OpR X (compareOp op) r) (s : OpS X.K r o) (ha : PE X a (tE X.K f)) (hb : PE X b (tE X.K g)) (hm : behindInMarks op b = false) : PE X (.Compare a [op] [b] pos) (tE X.K (eBin o f g)) :=
  pe_of (pe_cmpR ho ha hb hm) (rd_bin s)
theorem ev_ix {r : R2} {o : PyData → PyData → Option PyData} (hr : IxR X r) (s : OpS X.K r o) (ha : PE X a (tE X.K f)) (hb : PE X b (tE X.K g)) (hs : PlainIx b) : PE X (.Subscript a b pos) (tE X.K (eBin o f g)) :=
  pe_of (pe_ix hr ha hb hs) (rd_bin s)
theorem bl_inv {ρ ρ' : Rho} {b : Bool} (h : tBl f ρ = some (b, ρ')) : f ρ = some (.bool b, ρ') := by
  unfold tBl at h
  split at h
  · rename_i b' ρ1 h1
    cases h
    exact h1
  · cases h
theorem rd_bl {K : PySem.W.Frag} {t : TE} (k : ∀ σ H Q, tE K f σ H Q → t σ H Q) : ∀ σ H Q, tT K (tBl f) σ H Q → tTest t σ H Q := fun σ H Q ⟨c, ρ, d, ρ', R, e, q⟩ =>
  k σ H _ ⟨c, ρ, .bool d, ρ', R, bl_inv e, fun v H' R' r' m => by cases r'; exact ⟨d, rfl, q H' R' m⟩⟩
theorem et_cmp {op : CmpOp} {r : R2} {o : PyData → PyData → Option PyData} (ho : OpR X (compareOp op) r) (s : OpS X.K r o) (ha : PE X a (tE X.K f)) (hb : PE X b (tE X.K g)) (hm : behindInMarks op b = false) : PT X (.Compare a [op] [b] pos) (tT X.K (tBl (eBin o f g))) :=
  pt_of (pt_cmpR ho ha hb hm) (rd_bl (rd_bin s))
theorem rd_un {K : PySem.W.Frag} {r : V → Hp → VK → Prop} {o : PyData → Option PyData} (s : UnS K r o) : ∀ σ H Q, tE K (eUn o f) σ H Q → tUn r (tE K f) σ H Q := fun σ H Q ⟨c, ρ, d, ρ', R, e, q⟩ => by
  obtain ⟨x, h1, h3⟩ := un_inv' e
  exact ⟨c, ρ, x, ρ', R, h1, fun v1 H1 R1 r1 m1 => s c ρ' σ H1 v1 x d Q R1 r1 h3 fun v H' R' r' k => q v H' R' r' (m1.trans (R1.mvG k))⟩
theorem ev_un {op : UnaryOp} {r : V → Hp → VK → Prop} {o : PyData → Option PyData} (ho : UnR X (unaryOp op) r) (s : UnS X.K r o) (ha : PE X a (tE X.K f)) : PE X (.UnaryOp op a pos) (tE X.K (eUn o f)) :=
  pe_of (pe_un ho ha) (rd_un s)
theorem os_same {K : PySem.W.Frag} {c : Act} {ρ : Rho} {σ : L2.St} {H : Hp} {Q : VK} {v : V} {d : PyData} (R : Rel K c ρ σ H) (q : ∀ v H', Rel K c ρ σ H' → Rp K (Av c ρ σ) H' v d → (∀ a o, H a = some o → H' a = some o) → Q v H') (r : Rp K (Av c ρ σ) H v d) : Q v H :=
  q v H R r fun _ _ h => h
theorem os_i2 {K : PySem.W.Frag} {C : Int → Int → Bool} {C' : Int → Int → Prop} {g : Int → Int → PyData} {g' : Int → Int → V} (hC : ∀ i j, C i j = true → C' i j) (hg : ∀ A H i j, Rp K A H (g' i j) (g i j)) : OpS K (rI C' g') (dI2 C g) := by
  intro c ρ σ H v1 v2 x y d Q R r1 r2 ho q
  unfold dI2 at ho
  split at ho
  · rename_i i j
    split at ho
    · rename_i hc
      cases ho
      cases r1
      cases r2
      exact ⟨i, j, rfl, rfl, hC i j hc, os_same R q (hg _ _ _ _)⟩
    · cases ho
  · cases ho
theorem os_i20 {K : PySem.W.Frag} {g : Int → Int → PyData} {g' : Int → Int → V} (hg : ∀ A H i j, Rp K A H (g' i j) (g i j)) : OpS K (rI0 g') (dI2 cT g) := by
  intro c ρ σ H v1 v2 x y d Q R r1 r2 ho q
  unfold dI2 at ho
  split at ho
  · rename_i i j
    split at ho
    · cases ho
      cases r1
      cases r2
      exact ⟨i, j, rfl, rfl, os_same R q (hg _ _ _ _)⟩
    · cases ho
  · cases ho
theorem sl16 : sizeLine = 16777216 := sizeLine_eq
theorem os_sub {K : PySem.W.Frag} : OpS K (rI0 fun i j => .int (i - j)) dSub := os_i20 fun _ _ _ _ => .int _
theorem os_lt {K : PySem.W.Frag} : OpS K (rI0 fun i j => .bl (decide (i < j))) dLt := os_i20 fun _ _ _ _ => .bl _
theorem os_le {K : PySem.W.Frag} : OpS K (rI0 fun i j => .bl (decide (i ≤ j))) dLe := os_i20 fun _ _ _ _ => .bl _
theorem os_gt {K : PySem.W.Frag} : OpS K (rI0 fun i j => .bl (decide (j < i))) dGt := os_i20 fun _ _ _ _ => .bl _
theorem os_ge {K : PySem.W.Frag} : OpS K (rI0 fun i j => .bl (decide (j ≤ i))) dGe := os_i20 fun _ _ _ _ => .bl _
theorem os_mul {K : PySem.W.Frag} : OpS K (rI CMul fun i j => .int (i * j)) dMul := os_i2 (fun i j h => by
  simp only [Bool.or_eq_true, Bool.and_eq_true, decide_eq_true_eq] at h
  exact h) fun _ _ _ _ => .int _
theorem os_div {K : PySem.W.Frag} : OpS K (rI CDivW fun i j => .int (i / j)) dDiv := os_i2 (fun i j h => by
  simp only [Bool.and_eq_true, decide_eq_true_eq] at h
  exact wide_div (b := 64) h.1 (by omega) (by decide) (by decide)) fun _ _ _ _ => .int _
theorem os_mod {K : PySem.W.Frag} : OpS K (rI (fun _ j => 0 < j) fun i j => .int (i % j)) dMod := os_i2 (fun i j h => by
  simpa using h) fun _ _ _ _ => .int _
theorem os_shr {K : PySem.W.Frag} : OpS K (rI (fun _ j => 0 ≤ j) fun i j => .int (i / 2 ^ j.toNat)) dShr := os_i2 (fun i j h => by
  simpa using h) fun _ _ _ _ => .int _
theorem Rel.alloc {K : PySem.W.Frag} {c : Act} {ρ : Rho} {σ : L2.St} {H : Hp} (R : Rel K c ρ σ H) {p : Addr} {o : HO} (hp : H p = none) : Rel K c ρ σ (upd H p o) ∧ (∀ a x, H a = some x → upd H p o a = some x) := ⟨R.grow (kp_upd hp), kp_upd hp⟩
theorem Rel.newTup {K : PySem.W.Frag} {c : Act} {ρ : Rho} {σ : L2.St} {H : Hp} (R : Rel K c ρ σ H) {p : Addr} {xs : List V} {ds : List PyData} (hp : H p = none) (r : RpA K (Av c ρ σ) H xs ds) : Rp K (Av c ρ σ) (upd H p (.tup xs)) (.ref p) (.tuple ds) :=
  .tup (.inl ⟨.inl upd_same, R.noAv hp⟩) (r.mv (R.mvG (kp_upd hp)))
theorem Rel.newLst {K : PySem.W.Frag} {c : Act} {ρ : Rho} {σ : L2.St} {H : Hp} (R : Rel K c ρ σ H) {p : Addr} {xs : List V} {ds : List PyData} (hp : H p = none) (r : RpA K (Av c ρ σ) H xs ds) : Rp K (Av c ρ σ) (upd H p (.lst xs)) (.ref p) (.list ds) :=
  .lst ⟨upd_same, R.noAv hp⟩ (r.mv (R.mvG (kp_upd hp)))
/-- + -/
theorem op_addD : OpR X (binaryOp .Add) (fun x y H Q => rI0 (fun i j => .int (i + j)) x y H Q ∨ rCat x y H Q ∨ rCatA X.K x y H Q ∨ ∃ i j, x = .str i ∧ y = .str j ∧ i.length + j.length ≤ sizeLine ∧ Q (.str (i ++ j)) H) :=
  op_add.or (op_cat.or (op_catA.or op_add_str))
theorem RpA.nil_iff {K : PySem.W.Frag} {A : Addr → Prop} {H : Hp} {vs : List V} {ds : List PyData} (h : RpA K A H vs ds) : vs = [] ↔ ds = [] := by cases h <;> simp
theorem os_add {K : PySem.W.Frag} : OpS K (fun x y H Q => rI0 (fun i j => .int (i + j)) x y H Q ∨ rCat x y H Q ∨ rCatA K x y H Q ∨ ∃ i j, x = .str i ∧ y = .str j ∧ i.length + j.length ≤ sizeLine ∧ Q (.str (i ++ j)) H) dAdd := by
  intro c ρ σ H v1 v2 x y d Q R r1 r2 ho q
  unfold dAdd at ho
  split at ho
  · cases ho
    cases r1
    cases r2
    exact .inl ⟨_, _, rfl, rfl, os_same R q (.int _)⟩
  · split at ho
    · rename_i hl
      cases ho
      cases r1 with
      | lst l1 a1 =>
        cases r2 with
        | lst l2 a2 =>
          refine .inr (.inl ⟨_, _, _, _, rfl, rfl, l1.1, l2.1, by rw [a1.length, a2.length, sl16]; exact hl, fun p hp => ?_⟩)
          exact q _ _ (R.alloc hp).1 (R.newLst hp (a1.app a2)) (R.alloc hp).2
    · cases ho
  · split at ho
    · rename_i hl
      cases ho
      cases r1 with
      | tup l1 a1 =>
        cases r2 with
        | tup l2 a2 =>
          refine .inr (.inr (.inl ⟨_, _, _, _, rfl, rfl, l1.sq, l2.sq, by rw [a1.length, a2.length, sl16]; exact hl, fun z => ?_, fun _ z => ?_, fun _ _ p hp => ?_⟩))
          · have e := a1.nil_iff.mp z
            subst e
            exact os_same R q (.tup l2 a2)
          · have e := a2.nil_iff.mp z
            subst e
            rw [List.append_nil] at q
            exact os_same R q (.tup l1 a1)
          · exact q _ _ (R.alloc hp).1 (R.newTup hp (a1.app a2)) (R.alloc hp).2
    · cases ho
  · split at ho
    · rename_i hl
      cases ho
      cases r1
      cases r2
      exact .inr (.inr (.inr ⟨_, _, rfl, rfl, by rw [sl16]; exact hl, os_same R q (.str _)⟩))
    · cases ho
  · cases ho
/-- == and != -/
theorem dp_of {K : PySem.W.Frag} {A : Addr → Prop} {H : Hp} {v : V} {d : PyData} (r : Rp K A H v d) (s : SeqAt.shaped d = true) : Dp K H v d := Rp.dp d v r (SeqAt.canLay_of_shaped s)
theorem os_eq {K : PySem.W.Frag} : OpS K (rEqD K) dEq := by
  intro c ρ σ H v1 v2 x y d Q R r1 r2 ho q
  unfold dEq at ho
  split at ho
  · rename_i i j
    cases ho
    refine ⟨.int i, .int j, dp_of r1 rfl, dp_of r2 rfl, rfl, rfl, ?_⟩
    have e : PyData.eqv (.int i) (.int j) = decide (i = j) := by simp [PyData.eqv, Bool.beq_eq_decide_eq]
    rw [e]
    exact os_same R q (.bl _)
  · split at ho
    · rename_i hs
      cases ho
      simp only [Bool.and_eq_true] at hs
      exact ⟨x, y, dp_of r1 hs.1, dp_of r2 hs.2, hs.1, hs.2, os_same R q (.bl _)⟩
    · cases ho
theorem os_ne {K : PySem.W.Frag} : OpS K (rNeD K) dNe := by
  intro c ρ σ H v1 v2 x y d Q R r1 r2 ho q
  unfold dNe at ho
  split at ho
  · rename_i i j
    cases ho
    refine ⟨.int i, .int j, dp_of r1 rfl, dp_of r2 rfl, rfl, rfl, ?_⟩
    have e : PyData.eqv (.int i) (.int j) = decide (i = j) := by simp [PyData.eqv, Bool.beq_eq_decide_eq]
    rw [e]
    exact os_same R q (.bl _)
  · split at ho
    · rename_i hs
      cases ho
      simp only [Bool.and_eq_true] at hs
      exact ⟨x, y, dp_of r1 hs.1, dp_of r2 hs.2, hs.1, hs.2, os_same R q (.bl _)⟩
    · cases ho
/-- is None -/
theorem none_iff {K : PySem.W.Frag} {A : Addr → Prop} {H : Hp} {v : V} {d : PyData} (r : Rp K A H v d) : decide (v = V.non) = isNone d := by
  cases r <;> simp [isNone]
theorem rd_isN {K : PySem.W.Frag} : ∀ σ H Q, tE K (eUn dIsN f) σ H Q → tIsN (tE K f) σ H Q := fun σ H Q ⟨c, ρ, d, ρ', R, e, q⟩ => by
  obtain ⟨x, h1, h3⟩ := un_inv' e
  cases h3
  exact ⟨c, ρ, x, ρ', R, h1, fun v1 H1 R1 r1 m1 => by
    show Q (.bl (decide (v1 = V.non))) H1
    rw [none_iff r1]
    exact q _ H1 R1 (.bl _) m1⟩
theorem rd_notN {K : PySem.W.Frag} : ∀ σ H Q, tE K (eUn dNotN f) σ H Q → tNotN (tE K f) σ H Q := fun σ H Q ⟨c, ρ, d, ρ', R, e, q⟩ => by
  obtain ⟨x, h1, h3⟩ := un_inv' e
  cases h3
  exact ⟨c, ρ, x, ρ', R, h1, fun v1 H1 R1 r1 m1 => by
    show Q (.bl (!decide (v1 = V.non))) H1
    rw [none_iff r1]
    exact q _ H1 R1 (.bl _) m1⟩
theorem pt_ofPC {op : CmpOp} {t : TE} (h : PC X op a b t) (h1 : behindInMarks op b = false := by first | exact nobehind _ (by decide) (by decide) | rfl) : PT X (.Compare a [op] [b] pos) (tB t) := pt_cmp h h1
theorem rd_blB {K : PySem.W.Frag} {t : TE} (k : ∀ σ H Q, tE K f σ H Q → t σ H Q) : ∀ σ H Q, tT K (tBl f) σ H Q → tB t σ H Q := fun σ H Q ⟨c, ρ, d, ρ', R, e, q⟩ =>
  k σ H _ ⟨c, ρ, .bool d, ρ', R, bl_inv e, fun v H' R' r' m => by cases r'; exact ⟨d, rfl, q H' R' m⟩⟩
theorem ev_isN {j pos'} (ha : PE X a (tE X.K f)) : PE X (.Compare a [.Is] [.Constant .none j pos'] pos) (tE X.K (eUn dIsN f)) := pe_of (pe_cmp (pc_isN ha)) rd_isN
theorem ev_notN {j pos'} (ha : PE X a (tE X.K f)) : PE X (.Compare a [.IsNot] [.Constant .none j pos'] pos) (tE X.K (eUn dNotN f)) := pe_of (pe_cmp (pc_notN ha)) rd_notN
theorem et_isN {j pos'} (ha : PE X a (tE X.K f)) : PT X (.Compare a [.Is] [.Constant .none j pos'] pos) (tT X.K (tBl (eUn dIsN f))) := pt_of (pt_cmp (pc_isN ha)) (rd_blB rd_isN)
theorem et_notN {j pos'} (ha : PE X a (tE X.K f)) : PT X (.Compare a [.IsNot] [.Constant .none j pos'] pos) (tT X.K (tBl (eUn dNotN f))) := pt_of (pt_cmp (pc_notN ha)) (rd_blB rd_notN)
theorem us_neg {K : PySem.W.Frag} : UnS K (rU fun i => .int (-i)) dNeg := by
  intro c ρ σ H v1 x d Q R r1 ho q
  unfold dNeg at ho
  split at ho
  · cases ho
    cases r1
    exact ⟨_, rfl, os_same R q (.int _)⟩
  · cases ho
/-- an item -/
theorem ix_at {xs : List PyData} {vs : List V} {i : Int} {d : PyData} {K : PySem.W.Frag} {A : Addr → Prop} {H : Hp} (r : RpA K A H vs xs) (h : atD xs i = some d) : ∃ v, atI vs i = some v ∧ Rp K A H v d := by
  unfold atD at h
  unfold atI
  rw [r.length]
  cases e : ixOf xs.length i with
  | none => rw [e] at h; cases h
  | some j =>
    rw [e] at h
    have e' : ixN xs.length i = some j := e
    rw [e']
    exact r.get h
theorem os_ix {K : PySem.W.Frag} : OpS K (rIx K) dIx := by
  intro c ρ σ H v1 v2 x y d Q R r1 r2 ho q
  unfold dIx at ho
  split at ho
  · cases r2
    cases r1 with
    | lst l a =>
      obtain ⟨v, h1, h2⟩ := ix_at a ho
      exact .inl ⟨_, _, _, v, rfl, rfl, l.sq, h1, os_same R q h2⟩
  · cases r2
    cases r1 with
    | tup l a =>
      obtain ⟨v, h1, h2⟩ := ix_at a ho
      exact .inr (.inl ⟨_, _, _, v, rfl, rfl, l.sq, h1, os_same R q h2⟩)
  · cases r2
    cases r1 with
    | ro l a =>
      obtain ⟨v, h1, h2⟩ := ix_at (K := K) (A := Av c ρ σ) (H := H) a.rp ho
      exact .inl ⟨_, _, _, v, rfl, rfl, l.sq, h1, os_same R q h2⟩
  · cases ho
end
end PG
end
section
set_option Elab.async false
set_option linter.all false
set_option maxRecDepth 100000
namespace PG
open PySem PySem.Spec PyProof.Rows L2

section
variable {K : PySem.W.Frag} {c : Act} {ρ ρ' : Rho} {σ σ' : L2.St} {H H' : Hp}
theorem setV_inv {i : Nat} {d : PyData} (h : setV i d ρ = some ρ') : i < ρ.length ∧ (∀ ds, ρ[i]? ≠ some (some (.l true ds))) ∧ ρ' = ρ.set i (some (.v d)) := by
  unfold setV at h
  split at h
  · cases h
  · cases h
  · rename_i h1 h2
    cases h
    refine ⟨?_, fun ds z => h2 ds z, rfl⟩
    rcases Nat.lt_or_ge i ρ.length with h3 | h3
    · exact h3
    · exact absurd (List.getElem?_eq_none h3) h1
theorem setL_inv {i : Nat} {d : List PyData} (h : setL i d ρ = some ρ') : i < ρ.length ∧ (∀ ds, ρ[i]? ≠ some (some (.l true ds))) ∧ ρ' = ρ.set i (some (.l false d)) := by
  unfold setL at h
  split at h
  · cases h
  · cases h
  · rename_i h1 h2
    cases h
    refine ⟨?_, fun ds z => h2 ds z, rfl⟩
    rcases Nat.lt_or_ge i ρ.length with h3 | h3
    · exact h3
    · exact absurd (List.getElem?_eq_none h3) h1
theorem Rel.assign (R : Rel K c ρ σ H) {i : Nat} {d : PyData} {v : V} (h : setV i d ρ = some ρ') (r : Rp K (Av c ρ σ) H v d) :
    Rel K c ρ' (σ.set i (some v)) H ∧ Stp c ρ σ H ρ' (σ.set i (some v)) H := by
  obtain ⟨hl, np, rfl⟩ := setV_inv h
  have hl' : i < σ.length := by rw [← R.len]; exact hl
  have gs : ∀ j, (ρ.set i (some (Cell.v d)))[j]? = if i = j then some (some (Cell.v d)) else ρ[j]? := fun j => get_set hl
  have gv : ∀ j, (σ.set i (some v))[j]? = if i = j then some (some v) else σ[j]? := fun j => get_set hl'
  have own : ∀ b, Own (ρ.set i (some (.v d))) (σ.set i (some v)) b → Own ρ σ b := fun b ⟨j, q, es, h1, h2⟩ => by
    rw [gs] at h1
    rw [gv] at h2
    by_cases e : i = j
    · rw [if_pos e] at h1; cases h1
    · rw [if_neg e] at h1 h2; exact ⟨j, q, es, h1, h2⟩
  have mv : Stp c ρ σ H (ρ.set i (some (.v d))) (σ.set i (some v)) H := fun b o e n => ⟨e, fun z => n (z.elim .inl fun x => .inr (own b x))⟩
  refine ⟨⟨by rw [List.length_set, List.length_set]; exact R.len, fun j d' e => ?_, fun j q es e => ?_, fun j k q q' es es' b h1 h2 h3 h4 => ?_, fun j b => ?_, R.pA, R.old, R.av⟩, mv⟩
  · rw [gs] at e
    rw [gv]
    by_cases e1 : i = j
    · rw [if_pos e1] at e
      cases e
      exact ⟨v, by rw [if_pos e1], r.mv mv⟩
    · rw [if_neg e1] at e
      obtain ⟨u, h1, h2⟩ := R.val j d' e
      exact ⟨u, by rw [if_neg e1]; exact h1, h2.mv mv⟩
  · rw [gs] at e
    rw [gv]
    by_cases e1 : i = j
    · rw [if_pos e1] at e; cases e
    · rw [if_neg e1] at e
      obtain ⟨b, vs, h1, h2, h3, h4⟩ := R.lst j q es e
      exact ⟨b, vs, by rw [if_neg e1]; exact h1, h2, h3.mv mv, h4⟩
  · rw [gs] at h1 h2
    rw [gv] at h3 h4
    by_cases e1 : i = j
    · rw [if_pos e1] at h1; cases h1
    · by_cases e2 : i = k
      · rw [if_pos e2] at h2; cases h2
      · rw [if_neg e1] at h1 h3
        rw [if_neg e2] at h2 h4
        exact R.dis j k q q' es es' b h1 h2 h3 h4
  · rw [R.pin, gs, gv]
    by_cases e : i = j
    · subst e
      rw [if_pos rfl, if_pos rfl]
      constructor
      · rintro ⟨es, h1, h2⟩; exact absurd h1 (np es)
      · rintro ⟨es, h1, h2⟩; cases h1
    · rw [if_neg e, if_neg e]
theorem Rel.assignL {a : Addr} (R : Rel K (c.plus a) ρ σ H) {i : Nat} {ds : List PyData} {vs : List V} (h : setL i ds ρ = some ρ') (ha : H a = some (.lst vs)) (r : RpA K (Av (c.plus a) ρ σ) H vs ds)
    (h0 : c.H0 a = none) (na : ¬ Av c ρ σ a) (pA : ∀ i a, c.pn i = some a → c.A a) :
    Rel K c ρ' (σ.set i (some (.ref a))) H ∧ Mv (Av (c.plus a) ρ σ) H (Av c ρ' (σ.set i (some (.ref a)))) H := by
  obtain ⟨hl, np, rfl⟩ := setL_inv h
  have hl' : i < σ.length := by rw [← R.len]; exact hl
  have gs : ∀ j, (ρ.set i (some (Cell.l false ds)))[j]? = if i = j then some (some (Cell.l false ds)) else ρ[j]? := fun j => get_set hl
  have gv : ∀ j, (σ.set i (some (V.ref a)))[j]? = if i = j then some (some (V.ref a)) else σ[j]? := fun j => get_set hl'
  have own : ∀ b, Own (ρ.set i (some (.l false ds))) (σ.set i (some (.ref a))) b → b = a ∨ Own ρ σ b := fun b ⟨j, q, es, h1, h2⟩ => by
    rw [gs] at h1
    rw [gv] at h2
    by_cases e : i = j
    · rw [if_pos e] at h2; cases h2; exact .inl rfl
    · rw [if_neg e] at h1 h2; exact .inr ⟨j, q, es, h1, h2⟩
  have mv : Mv (Av (c.plus a) ρ σ) H (Av c (ρ.set i (some (.l false ds))) (σ.set i (some (.ref a)))) H := fun b o e n => ⟨e, fun z => n (z.elim (fun x => .inl (.inl x)) fun x => (own b x).elim (fun w => .inl (.inr w)) .inr)⟩
  have nown : ∀ (j : Nat) (q : Bool) (es : List PyData), ρ[j]? = some (some (.l q es)) → σ[j]? ≠ some (some (.ref a)) := fun j q es h1 h2 => na (.inr ⟨j, q, es, h1, h2⟩)
  refine ⟨⟨by rw [List.length_set, List.length_set]; exact R.len, fun j d' e => ?_, fun j q es e => ?_, fun j k q q' es es' b h1 h2 h3 h4 => ?_, fun j b => ?_, pA, R.old, fun b z => R.av b (.inl z)⟩, mv⟩
  · rw [gs] at e
    rw [gv]
    by_cases e1 : i = j
    · rw [if_pos e1] at e; cases e
    · rw [if_neg e1] at e
      obtain ⟨u, h1, h2⟩ := R.val j d' e
      exact ⟨u, by rw [if_neg e1]; exact h1, h2.mv mv⟩
  · rw [gs] at e
    rw [gv]
    by_cases e1 : i = j
    · rw [if_pos e1] at e
      cases e
      exact ⟨a, vs, by rw [if_pos e1], ha, r.mv mv, fun _ => ⟨h0, fun z => na (.inl z)⟩⟩
    · rw [if_neg e1] at e
      obtain ⟨b, vs, h1, h2, h3, h4⟩ := R.lst j q es e
      exact ⟨b, vs, by rw [if_neg e1]; exact h1, h2, h3.mv mv, fun z => ⟨(h4 z).1, fun y => (h4 z).2 (.inl y)⟩⟩
  · rw [gs] at h1 h2
    rw [gv] at h3 h4
    by_cases e1 : i = j
    · by_cases e2 : i = k
      · omega
      · rw [if_neg e2] at h2 h4
        rw [if_pos e1] at h3
        cases h3
        exact absurd h4 (nown k q' es' h2)
    · rw [if_neg e1] at h1 h3
      by_cases e2 : i = k
      · rw [if_pos e2] at h4
        cases h4
        exact absurd h3 (nown j q es h1)
      · rw [if_neg e2] at h2 h4
        exact R.dis j k q q' es es' b h1 h2 h3 h4
  · rw [show c.pn j = some b ↔ _ from R.pin j b, gs, gv]
    by_cases e : i = j
    · subst e
      rw [if_pos rfl, if_pos rfl]
      constructor
      · rintro ⟨es, h1, h2⟩; exact absurd h1 (np es)
      · rintro ⟨es, h1, h2⟩; cases h1
    · rw [if_neg e, if_neg e]
end

section
variable {X : Cx} {e a b : Expr} {pos : Pos} {f g h : EF} {tf tg : TF} {n m : NF} {es : List Expr}
/-! ### argument lists, displays -/
theorem so {α β : Type} {a c : α} {b d : β} (h : some (a, b) = some (c, d)) : a = c ∧ b = d := by
  cases h; exact ⟨rfl, rfl⟩
theorem ea_nil : PA X [] (tA X.K nNil) := pa_of pa_nil fun σ H Q ⟨c, ρ, ds, ρ', R, e, q⟩ => by
  cases e
  exact q [] H R .nil Mv.refl
theorem ncons_inv {ρ ρ' : Rho} {ds : List PyData} (h : nCons f n ρ = some (ds, ρ')) : ∃ x ρ1 xs, f ρ = some (x, ρ1) ∧ n ρ1 = some (xs, ρ') ∧ ds = x :: xs := by
  unfold nCons at h
  split at h
  · rename_i x ρ1 h1
    split at h
    · rename_i xs ρ2 h2
      cases h
      exact ⟨x, ρ1, xs, h1, h2, rfl⟩
    · cases h
  · cases h
theorem ea_cons (ha : PE X a (tE X.K f)) (hr : PA X es (tA X.K n)) (hs : starEach (a :: es) X.env = (false, eval a X.env) :: starEach es X.env := by rfl) : PA X (a :: es) (tA X.K (nCons f n)) :=
  pa_of (pa_cons ha hr hs) fun σ H Q ⟨c, ρ, ds, ρ', R, e, q⟩ => by
    obtain ⟨x, ρ1, xs, h1, h2, rfl⟩ := ncons_inv e
    exact ⟨c, ρ, x, ρ1, R, h1, fun v H1 R1 r1 m1 => ⟨c, ρ1, xs, ρ', R1, h2, fun vs H2 R2 r2 m2 => q _ H2 R2 (.cons (r1.mv m2) r2) (m1.trans m2)⟩⟩
theorem ev_tup {x1} (h : PA X es (tA X.K n)) : PE X (.Tuple es x1 pos) (tE X.K (eTup n)) := pe_of (pe_tup h) fun σ H Q ⟨c, ρ, d, ρ', R, e, q⟩ => by
  unfold eTup at e
  split at e
  · rename_i xs ρ1 h1
    split at e
    · rename_i hl
      obtain ⟨e1, e2⟩ := so e
      subst e1 e2
      refine ⟨c, ρ, xs, ρ1, R, h1, fun vs H1 R1 r1 m1 => ⟨by rw [r1.length, sl16]; exact hl, fun p hp => ?_⟩⟩
      exact q _ _ (R1.alloc hp).1 (R1.newTup hp r1) (m1.trans (R1.mvG (kp_upd hp)))
    · cases e
  · cases e
theorem avOf {K : PySem.W.Frag} {c : Act} {ρ ρ' : Rho} {σ σ' : L2.St} {H H' : Hp} {p : Addr} (m : Stp c ρ σ H ρ' σ' H') (hp : H' p = none) : ¬ Av c ρ σ p → H p = none := fun n => by
  cases e : H p with
  | none => rfl
  | some o => rw [(m p o e n).1] at hp; cases hp
theorem en_lst (h : PA X es (tA X.K n)) : PE X (.List es pos) (tN X.K (nDisp n)) := pe_of (pe_lst h) fun σ H Q ⟨c, ρ, ds, ρ', R, e, q⟩ => by
  unfold nDisp at e
  split at e
  · rename_i xs ρ1 h1
    split at e
    · rename_i hl
      obtain ⟨e1, e2⟩ := so e
      subst e1 e2
      refine ⟨c, ρ, xs, ρ1, R, h1, fun vs H1 R1 r1 m1 => ⟨by rw [r1.length, sl16]; exact hl, fun p hp => ?_⟩⟩
      exact q p vs _ (R1.plus hp (kp_upd hp) (by rw [upd_same]; exact fun z => nomatch z)) upd_same (r1.mv (R1.mvP hp (kp_upd hp))) (R1.noAv hp) (R1.fresh0 hp) (avOf (K := X.K) m1 hp) (m1.trans (R1.mvG (kp_upd hp)))
    · cases e
  · cases e
/-- a new list, as a value -/
theorem ev_new (h : PE X e (tN X.K n)) : PE X e (tE X.K (eLst n)) := pe_of h fun σ H Q ⟨c, ρ, d, ρ', R, e, q⟩ => by
  unfold eLst at e
  split at e
  · rename_i xs ρ1 h1
    obtain ⟨e1, e2⟩ := so e
    subst e1 e2
    refine ⟨c, ρ, xs, ρ1, R, h1, fun a vs H' R' ha r' na h0 nw m => ?_⟩
    have R2 := R'.unplus R.pA
    exact q _ _ R2 (.lst ⟨ha, na⟩ (r'.mv mv_unplus)) m
  · cases e

/-! ### calls -/
def spP (K : PySem.W.Frag) (k : Nat) (F : List PyData → Option PyData) : Sp := fun vs H Q _ => vs.length = k ∧ ∃ (A : Addr → Prop) (ds : List PyData) (r : PyData), RpA K A H vs ds ∧ (∀ a, A a → H a ≠ none) ∧ F ds = some r ∧
  ∀ v H', (∀ a o, H a = some o → H' a = some o) → Rp K A H' v r → Q v H'
def spN (K : PySem.W.Frag) (k : Nat) (F : List PyData → Option (List PyData)) : Sp := fun vs H Q _ => vs.length = k ∧ ∃ (A : Addr → Prop) (ds : List PyData) (r : List PyData), RpA K A H vs ds ∧ (∀ a, A a → H a ≠ none) ∧ F ds = some r ∧
  ∀ a us H', (∀ a o, H a = some o → H' a = some o) → H a = none → H' a = some (.lst us) → RpA K (fun b => A b ∨ b = a) H' us r → Q (.ref a) H'
def spL (K : PySem.W.Frag) (k : Nat) (F : List PyData → List PyData → Option (PyData × List PyData)) : Sp := fun vs H Q _ => vs.length = k + 1 ∧ ∃ (A : Addr → Prop) (a : Addr) (us ws : List V) (ps ds : List PyData) (r : PyData) (ps' : List PyData),
  vs = .ref a :: ws ∧ H a = some (.lst us) ∧ RpA K A H us ps ∧ A a ∧ RpA K A H ws ds ∧ (∀ a, A a → H a ≠ none) ∧ F ps ds = some (r, ps') ∧
  ∀ v H' us', (∀ b o, b ≠ a → H b = some o → H' b = some o) → H' a = some (.lst us') → RpA K A H' us' ps' → Rp K A H' v r → Q v H'
variable {F1 : List PyData → Option PyData} {F2 : List PyData → Option (List PyData)} {F3 : List PyData → List PyData → Option (PyData × List PyData)} {k j : Nat} {fa : Addr} {fd : FuncData} {ps : List Str} {x : Str} {p : Pos}
theorem rd_call {E : XK} (hk : ∀ ρ ds ρ', n ρ = some (ds, ρ') → ds.length = k) : ∀ σ H Q, tE X.K (eCall F1 n) σ H Q → tCall (spP X.K k F1) [] E (tA X.K n) σ H Q := fun σ H Q ⟨c, ρ, d, ρ', R, e, q⟩ => by
  unfold eCall at e
  split at e
  · rename_i xs ρ1 h1
    split at e
    · rename_i z h2
      obtain ⟨e1, e2⟩ := so e
      subst e1 e2
      refine ⟨c, ρ, xs, ρ1, R, h1, fun vs H1 R1 r1 m1 => ?_⟩
      show spP X.K k F1 (vs ++ []) H1 Q E
      rw [List.append_nil]
      refine ⟨by rw [r1.length]; exact hk _ _ _ h1, Av c ρ1 σ, xs, z, r1, fun a ha => R1.avS ha, h2, fun v H' kp r => ?_⟩
      exact q v H' (R1.grow kp) r (m1.trans (R1.mvG kp))
    · cases e
  · cases e
theorem ev_call (F : FnOk X.prog X.w X.K X.mg X.base CX0 j fa fd ps (spP X.K k F1)) (hr : Room j X.A) (hg : Gl X x) (hm : X.mg x = some (.ref fa)) (hkp : PySem.W.keepIn X.K (.ref fa) = true) (hb : L2.Binds X.K fd ps [])
    (ha : PA X (e :: es) (tA X.K n)) (hk : ∀ ρ ds ρ', n ρ = some (ds, ρ') → ds.length = k) (hdb : (x == ("__debug__" : Str)) = false := by decide) (he : starEach (e :: es) X.env = (false, eval e X.env) :: starEach es X.env := by rfl) (hpl : (backTo pos (starEach es X.env)).any (·.1) = false := by rfl) :
    PE X (.Call (.Name x p) (e :: es) [] pos) (tE X.K (eCall F1 n)) :=
  pe_of (pe_call F hr hg hm hkp hb .nil pass0 ha hdb he hpl) (rd_call hk)
theorem ev_call0 (F : FnOk X.prog X.w X.K X.mg X.base CX0 j fa fd ps (spP X.K 0 F1)) (hr : Room j X.A) (hg : Gl X x) (hm : X.mg x = some (.ref fa)) (hkp : PySem.W.keepIn X.K (.ref fa) = true) (hb : L2.Binds X.K fd ps [])
    (hdb : (x == ("__debug__" : Str)) = false := by decide) : PE X (.Call (.Name x p) [] [] pos) (tE X.K (eCall F1 nNil)) :=
  pe_of (pe_call0 F hr hg hm hkp hb .nil pass0 hdb) fun σ H Q ⟨c, ρ, d, ρ', R, e, q⟩ => by
    unfold eCall nNil at e
    simp only at e
    split at e
    · rename_i z h2
      obtain ⟨e1, e2⟩ := so e
      subst e1 e2
      exact ⟨rfl, Av c ρ σ, [], z, .nil, fun a ha => R.avS ha, h2, fun v H' kp r => q v H' (R.grow kp) r (R.mvG kp)⟩
    · cases e
theorem en_call (F : FnOk X.prog X.w X.K X.mg X.base CX0 j fa fd ps (spN X.K k F2)) (hr : Room j X.A) (hg : Gl X x) (hm : X.mg x = some (.ref fa)) (hkp : PySem.W.keepIn X.K (.ref fa) = true) (hb : L2.Binds X.K fd ps [])
    (ha : PA X (e :: es) (tA X.K n)) (hk : ∀ ρ ds ρ', n ρ = some (ds, ρ') → ds.length = k) (hdb : (x == ("__debug__" : Str)) = false := by decide) (he : starEach (e :: es) X.env = (false, eval e X.env) :: starEach es X.env := by rfl) (hpl : (backTo pos (starEach es X.env)).any (·.1) = false := by rfl) :
    PE X (.Call (.Name x p) (e :: es) [] pos) (tN X.K (nCall F2 n)) :=
  pe_of (pe_call F hr hg hm hkp hb .nil pass0 ha hdb he hpl) fun σ H Q ⟨c, ρ, d, ρ', R, e, q⟩ => by
    unfold nCall at e
    split at e
    · rename_i xs ρ1 h1
      split at e
      · rename_i z h2
        obtain ⟨e1, e2⟩ := so e
        subst e1 e2
        refine ⟨c, ρ, xs, ρ1, R, h1, fun vs H1 R1 r1 m1 => ?_⟩
        show spN X.K k F2 (vs ++ []) H1 Q E0
        rw [List.append_nil]
        refine ⟨by rw [r1.length]; exact hk _ _ _ h1, Av c ρ1 σ, xs, z, r1, fun a ha => R1.avS ha, h2, fun a us H' kp hn hl r => ?_⟩
        refine q a us H' (R1.plus hn kp (by rw [hl]; exact fun z => nomatch z)) hl (r.mv fun b o e n => ⟨e, fun z => n ?_⟩) (R1.noAv hn) (R1.fresh0 hn) (avOf (K := X.K) m1 hn) (m1.trans (R1.mvG kp))
        rcases z with (z | z) | z
        · exact .inl (.inl z)
        · exact .inr z
        · exact .inl (.inr z)
      · cases e
    · cases e
theorem callL_inv {i : Nat} {ρ ρ' : Rho} {d : PyData} (e : eCallL F3 i n ρ = some (d, ρ')) : ∃ p0 l0 xs ρ1 pp pl ps', ρ[i]? = some (some (.l p0 l0)) ∧ n ρ = some (xs, ρ1) ∧ ρ1[i]? = some (some (.l pp pl)) ∧ F3 pl xs = some (d, ps') ∧ ρ' = ρ1.set i (some (.l pp ps')) := by
  unfold eCallL at e
  split at e
  · rename_i p0 l0 h0
    split at e
    · rename_i xs ρ1 h1
      split at e
      · rename_i pp pl h2
        split at e
        · rename_i z ps' h3
          obtain ⟨e1, e2⟩ := so e
          subst e1 e2
          exact ⟨p0, l0, xs, ρ1, pp, pl, ps', h0, h1, h2, h3, rfl⟩
        · cases e
      · cases e
    · cases e
  · cases e
/-- f(pool, ..): the owned list at slot i may change -/
theorem rd_callL {i : Nat} {E : XK} (hk : ∀ ρ ds ρ', n ρ = some (ds, ρ') → ds.length = k) : ∀ σ H Q, tE X.K (eCallL F3 i n) σ H Q → tCall (spL X.K k F3) [] E (tCons (tVar i) (tA X.K n)) σ H Q := fun σ H Q ⟨c, ρ, d, ρ', R, e, q⟩ => by
  obtain ⟨p0, l0, xs, ρ1, pp, pl, ps', h0, h1, h2, h3, rfl⟩ := callL_inv e
  obtain ⟨a, us0, g1, _⟩ := R.lst i p0 l0 h0
  refine ⟨.ref a, g1, c, ρ, xs, ρ1, R, h1, fun vs H1 R1 r1 m1 => ?_⟩
  obtain ⟨a', us, g1', g2, g3, _⟩ := R1.lst i pp pl h2
  rw [g1] at g1'
  cases g1'
  show spL X.K k F3 (.ref a :: vs ++ []) H1 Q E
  rw [List.append_nil]
  refine ⟨by rw [List.length_cons, r1.length, hk _ _ _ h1], Av c ρ1 σ, a, us, vs, pl, xs, d, ps', rfl, g2, g3, .inr ⟨i, pp, pl, h2, g1⟩, r1, fun b hb => R1.avS hb, h3, fun v H' us' kp hl r2 r3 => ?_⟩
  obtain ⟨R2, m2⟩ := R1.write h2 g1 hl kp r2
  have m3 : Mv (Av c ρ1 σ) H' (Av c (ρ1.set i (some (.l pp ps'))) σ) H' := fun b o e n => ⟨e, fun z => n (z.elim .inl fun ⟨jj, q', es', w1, w2⟩ => .inr (by
    rw [get_set (lt_of_get h2)] at w1
    by_cases ee : i = jj
    · subst ee; exact ⟨i, pp, pl, h2, w2⟩
    · rw [if_neg ee] at w1; exact ⟨jj, q', es', w1, w2⟩))⟩
  exact q v H' R2 (r3.mv m3) (m1.trans m2)
theorem ev_callL {i : Nat} (F : FnOk X.prog X.w X.K X.mg X.base CX0 j fa fd ps (spL X.K k F3)) (hr : Room j X.A) (hg : Gl X x) (hm : X.mg x = some (.ref fa)) (hkp : PySem.W.keepIn X.K (.ref fa) = true) (hb : L2.Binds X.K fd ps [])
    (hv : PE X e (tVar i)) (ha : PA X es (tA X.K n)) (hk : ∀ ρ ds ρ', n ρ = some (ds, ρ') → ds.length = k) (hdb : (x == ("__debug__" : Str)) = false := by decide) (he : starEach (e :: es) X.env = (false, eval e X.env) :: starEach es X.env := by rfl) (hpl : (backTo pos (starEach es X.env)).any (·.1) = false := by rfl) :
    PE X (.Call (.Name x p) (e :: es) [] pos) (tE X.K (eCallL F3 i n)) :=
  pe_of (pe_call F hr hg hm hkp hb .nil pass0 (pa_cons hv ha he) hdb he hpl) (rd_callL hk)
theorem nlen_nil : ∀ ρ ds ρ', nNil ρ = some (ds, ρ') → ds.length = 0 := fun ρ ds ρ' h => by cases h; rfl
theorem nlen_cons (h : ∀ ρ ds ρ', n ρ = some (ds, ρ') → ds.length = k) : ∀ ρ ds ρ', nCons f n ρ = some (ds, ρ') → ds.length = k + 1 := fun ρ ds ρ' e => by
  obtain ⟨x, ρ1, xs, h1, h2, rfl⟩ := ncons_inv e
  rw [List.length_cons, h _ _ _ h2]
end
end PG
end
section
set_option Elab.async false
set_option linter.all false
set_option maxRecDepth 100000
namespace PG
open PySem PySem.Spec PyProof.Rows L2
section
variable {X : Cx} {e a b : Expr} {pos : Pos} {f g h : EF} {tf tg : TF} {n m : NF} {es : List Expr}
/-! ### tests -/
theorem tru_of {K : PySem.W.Frag} {A : Addr → Prop} {H : Hp} {v : V} {d : PyData} {k : Bool} (r : Rp K A H v d) (h : truth d = some k) : TruV K v H k := by
  cases r with
  | non => cases h; rfl
  | bl b => cases h; rfl
  | int i => cases h; rfl
  | str x =>
    unfold truth at h
    simp only at h
    split at h
    · rename_i hl
      cases h
      exact ⟨by rw [sl16]; exact hl, rfl⟩
    · cases h
  | @lst p xs ds l r =>
    cases h
    refine .inl ⟨xs, l.sq, ?_⟩
    cases r <;> rfl
  | @tup p xs ds l r =>
    cases h
    refine .inr (.inl ⟨xs, l.sq, ?_⟩)
    cases r <;> rfl
  | ro => cases h
theorem tru_inv {ρ ρ' : Rho} {b : Bool} (h : tTru f ρ = some (b, ρ')) : ∃ x, f ρ = some (x, ρ') ∧ truth x = some b := by
  unfold tTru at h
  split at h
  · rename_i x ρ1 h1
    split at h
    · rename_i b' h2
      obtain ⟨e1, e2⟩ := so h
      subst e1 e2
      exact ⟨x, h1, h2⟩
    · cases h
  · cases h
theorem et_tru (ha : PE X a (tE X.K f)) (he : ∀ whole, isTrue a X.env whole = (do let v ← whole; standAt a.pos; holding [v] (truthy v)) := by intro _; rfl) : PT X a (tT X.K (tTru f)) :=
  pt_of (pt_truth ha he) fun σ H Q ⟨c, ρ, d, ρ', R, e, q⟩ => by
    obtain ⟨x, h1, h2⟩ := tru_inv e
    exact ⟨c, ρ, x, ρ', R, h1, fun v H' R' r' m => ⟨d, tru_of r' h2, q H' R' m⟩⟩
theorem tnot_inv {ρ ρ' : Rho} {b : Bool} (h : tNot' tf ρ = some (b, ρ')) : ∃ b', tf ρ = some (b', ρ') ∧ b = !b' := by
  unfold tNot' at h
  split at h
  · rename_i b' ρ1 h1
    obtain ⟨e1, e2⟩ := so h
    subst e2
    exact ⟨b', h1, e1.symm⟩
  · cases h
theorem et_not (ha : PT X a (tT X.K tf)) : PT X (.UnaryOp .Not a pos) (tT X.K (tNot' tf)) := pt_of (pt_not ha) fun σ H Q ⟨c, ρ, d, ρ', R, e, q⟩ => by
  obtain ⟨b', h1, rfl⟩ := tnot_inv e
  exact ⟨c, ρ, b', ρ', R, h1, fun H' R' m => q H' R' m⟩
theorem rd_and {K : PySem.W.Frag} : ∀ σ H Q, tT K (tAnd' tf tg) σ H Q → tAnd (tT K tf) (tT K tg) σ H Q := fun σ H Q ⟨c, ρ, d, ρ', R, e, q⟩ => by
  unfold tAnd' at e
  split at e
  · rename_i ρ1 h1
    exact ⟨c, ρ, true, ρ1, R, h1, fun H' R' m => iteT ⟨c, ρ1, d, ρ', R', e, fun H2 R2 m2 => q H2 R2 (m.trans m2)⟩⟩
  · rename_i ρ1 h1
    obtain ⟨e1, e2⟩ := so e
    subst e1 e2
    exact ⟨c, ρ, false, ρ1, R, h1, fun H' R' m => iteF (q H' R' m)⟩
  · cases e
theorem rd_or {K : PySem.W.Frag} : ∀ σ H Q, tT K (tOr' tf tg) σ H Q → tOr (tT K tf) (tT K tg) σ H Q := fun σ H Q ⟨c, ρ, d, ρ', R, e, q⟩ => by
  unfold tOr' at e
  split at e
  · rename_i ρ1 h1
    obtain ⟨e1, e2⟩ := so e
    subst e1 e2
    exact ⟨c, ρ, true, ρ1, R, h1, fun H' R' m => iteT (q H' R' m)⟩
  · rename_i ρ1 h1
    exact ⟨c, ρ, false, ρ1, R, h1, fun H' R' m => iteF ⟨c, ρ1, d, ρ', R', e, fun H2 R2 m2 => q H2 R2 (m.trans m2)⟩⟩
  · cases e
theorem ew_and1 (ha : PT X a (tT X.K tf)) : PW X (.BoolOp .And [a] pos) (tT X.K tf) := pw_and1 ha
theorem ew_or1 (ha : PT X a (tT X.K tf)) : PW X (.BoolOp .Or [a] pos) (tT X.K tf) := pw_or1 ha
theorem ew_and {rest : List Expr} (ha : PT X a (tT X.K tf)) (hb : PW X (.BoolOp .And (b :: rest) pos) (tT X.K tg)) : PW X (.BoolOp .And (a :: b :: rest) pos) (tT X.K (tAnd' tf tg)) := pw_of (pw_and ha hb) rd_and
theorem ew_or {rest : List Expr} (ha : PT X a (tT X.K tf)) (hb : PW X (.BoolOp .Or (b :: rest) pos) (tT X.K tg)) : PW X (.BoolOp .Or (a :: b :: rest) pos) (tT X.K (tOr' tf tg)) := pw_of (pw_or ha hb) rd_or
/-- and, or, not as values -/
theorem ev_one {op} (ha : PE X a (tE X.K f)) : PE X (.BoolOp op [a] pos) (tE X.K f) := pe_one ha
theorem ev_and {rest : List Expr} (ha : PE X a (tE X.K f)) (hb : PE X (.BoolOp .And (b :: rest) pos) (tE X.K g)) : PE X (.BoolOp .And (a :: b :: rest) pos) (tE X.K (eAnd f g)) :=
  pe_of (pe_andT ha hb) fun σ H Q ⟨c, ρ, d, ρ', R, e, q⟩ => by
    unfold eAnd at e
    split at e
    · rename_i x ρ1 h1
      split at e
      · rename_i h2
        exact ⟨c, ρ, x, ρ1, R, h1, fun v H' R' r' m => ⟨true, tru_of r' h2, iteT ⟨c, ρ1, d, ρ', R', e, fun v2 H2 R2 r2 m2 => q v2 H2 R2 r2 (m.trans m2)⟩⟩⟩
      · rename_i h2
        obtain ⟨e1, e2⟩ := so e
        subst e1 e2
        exact ⟨c, ρ, x, ρ1, R, h1, fun v H' R' r' m => ⟨false, tru_of r' h2, iteF (q v H' R' r' m)⟩⟩
      · cases e
    · cases e
theorem ev_or {rest : List Expr} (ha : PE X a (tE X.K f)) (hb : PE X (.BoolOp .Or (b :: rest) pos) (tE X.K g)) : PE X (.BoolOp .Or (a :: b :: rest) pos) (tE X.K (eOr f g)) :=
  pe_of (pe_orT ha hb) fun σ H Q ⟨c, ρ, d, ρ', R, e, q⟩ => by
    unfold eOr at e
    split at e
    · rename_i x ρ1 h1
      split at e
      · rename_i h2
        obtain ⟨e1, e2⟩ := so e
        subst e1 e2
        exact ⟨c, ρ, x, ρ1, R, h1, fun v H' R' r' m => ⟨true, tru_of r' h2, iteT (q v H' R' r' m)⟩⟩
      · rename_i h2
        exact ⟨c, ρ, x, ρ1, R, h1, fun v H' R' r' m => ⟨false, tru_of r' h2, iteF ⟨c, ρ1, d, ρ', R', e, fun v2 H2 R2 r2 m2 => q v2 H2 R2 r2 (m.trans m2)⟩⟩⟩
      · cases e
    · cases e
theorem ev_not (ha : PE X a (tE X.K f)) : PE X (.UnaryOp .Not a pos) (tE X.K (eNot f)) := pe_of (pe_notT ha) fun σ H Q ⟨c, ρ, d, ρ', R, e, q⟩ => by
  unfold eNot at e
  split at e
  · rename_i x ρ1 h1
    split at e
    · rename_i k h2
      obtain ⟨e1, e2⟩ := so e
      subst e1 e2
      exact ⟨c, ρ, x, ρ1, R, h1, fun v H' R' r' m => ⟨k, tru_of r' h2, q _ H' R' (.bl _) m⟩⟩
    · cases e
  · cases e
theorem ev_if {cnd : Expr} (hc : PT X cnd (tT X.K tf)) (ha : PE X a (tE X.K f)) (hb : PE X b (tE X.K g)) : PE X (.IfExp cnd a b pos) (tE X.K (eIf tf f g)) := pe_of (pe_ifExp hc ha hb) fun σ H Q ⟨c, ρ, d, ρ', R, e, q⟩ => by
  unfold eIf at e
  split at e
  · rename_i ρ1 h1
    exact ⟨c, ρ, true, ρ1, R, h1, fun H' R' m => iteT ⟨c, ρ1, d, ρ', R', e, fun v2 H2 R2 r2 m2 => q v2 H2 R2 r2 (m.trans m2)⟩⟩
  · rename_i ρ1 h1
    exact ⟨c, ρ, false, ρ1, R, h1, fun H' R' m => iteF ⟨c, ρ1, d, ρ', R', e, fun v2 H2 R2 r2 m2 => q v2 H2 R2 r2 (m.trans m2)⟩⟩
  · cases e
theorem chain_inv {o o' : PyData → PyData → Option PyData} {ρ ρ' : Rho} {d : PyData} (e : eChain o o' f g h ρ = some (d, ρ')) : ∃ x ρ1 y ρ2 k, f ρ = some (x, ρ1) ∧ g ρ1 = some (y, ρ2) ∧ o x y = some (.bool k) ∧
    ((k = true ∧ ∃ z b, h ρ2 = some (z, ρ') ∧ o' y z = some (.bool b) ∧ d = .bool b) ∨ (k = false ∧ d = .bool false ∧ ρ' = ρ2)) := by
  unfold eChain at e
  split at e
  · rename_i x ρ1 h1
    split at e
    · rename_i y ρ2 h2
      split at e
      · rename_i h3
        split at e
        · rename_i z ρ3 h4
          split at e
          · rename_i b h5
            obtain ⟨e1, e2⟩ := so e
            subst e1 e2
            exact ⟨x, ρ1, y, ρ2, true, h1, h2, h3, .inl ⟨rfl, z, b, h4, h5, rfl⟩⟩
          · cases e
        · cases e
      · rename_i h3
        obtain ⟨e1, e2⟩ := so e
        subst e1 e2
        exact ⟨x, ρ1, y, ρ2, false, h1, h2, h3, .inr ⟨rfl, rfl, rfl⟩⟩
      · cases e
    · cases e
  · cases e
theorem rd_chain {K : PySem.W.Frag} {r r' : R2} {o o' : PyData → PyData → Option PyData} (s : OpS K r o) (s' : OpS K r' o') : ∀ σ H Q, tE K (eChain o o' f g h) σ H Q → tChain r r' (tE K f) (tE K g) (tE K h) σ H Q := fun σ H Q ⟨c, ρ, d, ρ', R, e, q⟩ => by
  obtain ⟨x, ρ1, y, ρ2, k, h1, h2, h3, h4⟩ := chain_inv e
  refine ⟨c, ρ, x, ρ1, R, h1, fun v1 H1 R1 r1 m1 => ⟨c, ρ1, y, ρ2, R1, h2, fun v2 H2 R2 r2 m2 => ?_⟩⟩
  refine s c ρ2 σ H2 v1 v2 x y _ _ R2 (r1.mv m2) r2 h3 fun v H3 R3 r3 k3 => ?_
  cases r3
  have m3 := (m1.trans m2).trans (R2.mvG k3)
  refine ⟨k, rfl, ?_⟩
  rcases h4 with ⟨rfl, z, b, h5, h6, rfl⟩ | ⟨rfl, rfl, rfl⟩
  · rw [if_pos rfl]
    refine ⟨c, ρ2, z, ρ', R3, h5, fun v4 H4 R4 r4 m4 => ?_⟩
    exact s' c ρ' σ H4 v2 v4 y z _ _ R4 ((r2.mv (R2.mvG k3)).mv m4) r4 h6 fun v5 H5 R5 r5 k5 => q v5 H5 R5 r5 ((m3.trans m4).trans (R4.mvG k5))
  · rw [if_neg Bool.false_ne_true]
    exact q _ H3 R3 (.bl _) m3
theorem ev_chain {cx : Expr} {op op' : CmpOp} {r r' : R2} {o o' : PyData → PyData → Option PyData} (ho : OpR X (compareOp op) r) (s : OpS X.K r o) (ho' : OpR X (compareOp op') r') (s' : OpS X.K r' o') (ha : PE X a (tE X.K f)) (hb : PE X b (tE X.K g)) (hc : PE X cx (tE X.K h))
    (hm : lastMarks [op, op'] [b, cx] = false := by with_unfolding_all rfl) : PE X (.Compare a [op, op'] [b, cx] pos) (tE X.K (eChain o o' f g h)) := pe_of (pe_chain ho ho' ha hb hc hm) (rd_chain s s')
theorem et_chain {cx : Expr} {op op' : CmpOp} {r r' : R2} {o o' : PyData → PyData → Option PyData} (ho : OpR X (compareOp op) r) (s : OpS X.K r o) (ho' : OpR X (compareOp op') r') (s' : OpS X.K r' o') (ha : PE X a (tE X.K f)) (hb : PE X b (tE X.K g)) (hc : PE X cx (tE X.K h))
    (hm : lastMarks [op, op'] [b, cx] = false := by with_unfolding_all rfl) : PT X (.Compare a [op, op'] [b, cx] pos) (tT X.K (tBl (eChain o o' f g h))) := by
  refine pt_of (pt_chain ho ho' ha hb hc hm) ?_
  exact rd_bl (rd_chain s s')

/-! ### built-in functions -/
def FnS (K : PySem.W.Frag) (r : List V → Hp → VK → Prop) (o : List PyData → Option PyData) : Prop := ∀ (c : Act) (ρ : Rho) (σ : L2.St) (H : Hp) (vs : List V) (ds : List PyData) (d : PyData) (Q : VK), Rel K c ρ σ H → RpA K (Av c ρ σ) H vs ds → o ds = some d →
  (∀ v H', Rel K c ρ σ H' → Rp K (Av c ρ σ) H' v d → (∀ a o, H a = some o → H' a = some o) → Q v H') → r vs H Q
def FnN (K : PySem.W.Frag) (r : List V → Hp → VK → Prop) (o : List PyData → Option (List PyData)) : Prop := ∀ (c : Act) (ρ : Rho) (σ : L2.St) (H : Hp) (vs : List V) (ds ys : List PyData) (Q : VK), Rel K c ρ σ H → RpA K (Av c ρ σ) H vs ds → o ds = some ys →
  (∀ p us, H p = none → RpA K (Av c ρ σ) H us ys → Q (.ref p) (upd H p (.lst us))) → r vs H Q
theorem rd_fn {K : PySem.W.Frag} {r : List V → Hp → VK → Prop} {o : List PyData → Option PyData} (s : FnS K r o) : ∀ σ H Q, tE K (eCall o n) σ H Q → tCB r (tA K n) σ H Q := fun σ H Q ⟨c, ρ, d, ρ', R, e, q⟩ => by
  unfold eCall at e
  split at e
  · rename_i xs ρ1 h1
    split at e
    · rename_i z h2
      obtain ⟨e1, e2⟩ := so e
      subst e1 e2
      exact ⟨c, ρ, xs, ρ1, R, h1, fun vs H1 R1 r1 m1 => s c ρ1 σ H1 vs xs z Q R1 r1 h2 fun v H' R' r' k => q v H' R' r' (m1.trans (R1.mvG k))⟩
    · cases e
  · cases e
theorem rd_fnN {K : PySem.W.Frag} {r : List V → Hp → VK → Prop} {o : List PyData → Option (List PyData)} (s : FnN K r o) : ∀ σ H Q, tN K (nCall o n) σ H Q → tCB r (tA K n) σ H Q := fun σ H Q ⟨c, ρ, d, ρ', R, e, q⟩ => by
  unfold nCall at e
  split at e
  · rename_i xs ρ1 h1
    split at e
    · rename_i z h2
      obtain ⟨e1, e2⟩ := so e
      subst e1 e2
      refine ⟨c, ρ, xs, ρ1, R, h1, fun vs H1 R1 r1 m1 => s c ρ1 σ H1 vs xs z Q R1 r1 h2 fun p us hp r' => ?_⟩
      exact q p us _ (R1.plus hp (kp_upd hp) (by rw [upd_same]; exact fun z => nomatch z)) upd_same (r'.mv (R1.mvP hp (kp_upd hp))) (R1.noAv hp) (R1.fresh0 hp) (avOf (K := K) m1 hp) (m1.trans (R1.mvG (kp_upd hp)))
    · cases e
  · cases e
variable {x : Str} {p : Pos} {id : String} {r : List V → Hp → VK → Prop} {o1 : List PyData → Option PyData} {o2 : List PyData → Option (List PyData)}
theorem ev_fn (hc : CallR X (.builtin id) r) (s : FnS X.K r o1) (hg : Gl X x) (hm : X.mg x = none) (hv : bootBuiltins x = some (.builtin id)) (ha : PA X (e :: es) (tA X.K n)) (hn : x ≠ "__name__" := by decide) (hdb : (x == ("__debug__" : Str)) = false := by decide)
    (he : starEach (e :: es) X.env = (false, eval e X.env) :: starEach es X.env := by rfl) (hpl : (backTo pos (starEach es X.env)).any (·.1) = false := by rfl) : PE X (.Call (.Name x p) (e :: es) [] pos) (tE X.K (eCall o1 n)) :=
  pe_of (pe_callB hc hg hm hv ha hn hdb he hpl) (rd_fn s)
theorem ev_fnT (hc : CallR X (.type id) r) (s : FnS X.K r o1) (hg : Gl X x) (hm : X.mg x = none) (hv : bootBuiltins x = some (.type id)) (ha : PA X (e :: es) (tA X.K n)) (hn : x ≠ "__name__" := by decide) (hdb : (x == ("__debug__" : Str)) = false := by decide)
    (he : starEach (e :: es) X.env = (false, eval e X.env) :: starEach es X.env := by rfl) (hpl : (backTo pos (starEach es X.env)).any (·.1) = false := by rfl) : PE X (.Call (.Name x p) (e :: es) [] pos) (tE X.K (eCall o1 n)) :=
  pe_of (pe_callTy hc hg hm hv ha hn hdb he hpl) (rd_fn s)
theorem en_fn (hc : CallR X (.builtin id) r) (s : FnN X.K r o2) (hg : Gl X x) (hm : X.mg x = none) (hv : bootBuiltins x = some (.builtin id)) (ha : PA X (e :: es) (tA X.K n)) (hn : x ≠ "__name__" := by decide) (hdb : (x == ("__debug__" : Str)) = false := by decide)
    (he : starEach (e :: es) X.env = (false, eval e X.env) :: starEach es X.env := by rfl) (hpl : (backTo pos (starEach es X.env)).any (·.1) = false := by rfl) : PE X (.Call (.Name x p) (e :: es) [] pos) (tN X.K (nCall o2 n)) :=
  pe_of (pe_callB hc hg hm hv ha hn hdb he hpl) (rd_fnN s)
theorem en_fnT (hc : CallR X (.type id) r) (s : FnN X.K r o2) (hg : Gl X x) (hm : X.mg x = none) (hv : bootBuiltins x = some (.type id)) (ha : PA X (e :: es) (tA X.K n)) (hn : x ≠ "__name__" := by decide) (hdb : (x == ("__debug__" : Str)) = false := by decide)
    (he : starEach (e :: es) X.env = (false, eval e X.env) :: starEach es X.env := by rfl) (hpl : (backTo pos (starEach es X.env)).any (·.1) = false := by rfl) : PE X (.Call (.Name x p) (e :: es) [] pos) (tN X.K (nCall o2 n)) :=
  pe_of (pe_callTy hc hg hm hv ha hn hdb he hpl) (rd_fnN s)
@[simp] def o1of (o : PyData → Option PyData) : List PyData → Option PyData
  | [x] => o x
  | _ => none
@[simp] def o2of (o : PyData → PyData → Option PyData) : List PyData → Option PyData
  | [x, y] => o x y
  | _ => none
@[simp] def dAbs : PyData → Option PyData
  | .int i => some (.int (if i < 0 then -i else i))
  | _ => none
@[simp] def dInt : PyData → Option PyData
  | .int i => some (.int i)
  | _ => none
@[simp] def dMax := dI2 cT fun i j => .int (if j > i then j else i)
@[simp] def dMin := dI2 cT fun i j => .int (if j < i then j else i)
@[simp] def dTupOf : PyData → Option PyData
  | .list xs => some (.tuple xs)
  | .tuple xs => some (.tuple xs)
  | .dict [(.list xs, .none)] => some (.tuple xs)
  | _ => none
@[simp] def dLstOf : PyData → Option (List PyData)
  | .list xs => some xs
  | .tuple xs => some xs
  | .dict [(.list xs, .none)] => some xs
  | _ => none
@[simp] def n1of (o : PyData → Option (List PyData)) : List PyData → Option (List PyData)
  | [x] => o x
  | _ => none
theorem rpa1 {K : PySem.W.Frag} {A : Addr → Prop} {H : Hp} {vs : List V} {d : PyData} (r : RpA K A H vs [d]) : ∃ v, vs = [v] ∧ Rp K A H v d := by
  cases r with
  | cons h t => cases t; exact ⟨_, rfl, h⟩
theorem rpa2 {K : PySem.W.Frag} {A : Addr → Prop} {H : Hp} {vs : List V} {d d' : PyData} (r : RpA K A H vs [d, d']) : ∃ v v', vs = [v, v'] ∧ Rp K A H v d ∧ Rp K A H v' d' := by
  cases r with
  | cons h t =>
    obtain ⟨v', rfl, h'⟩ := rpa1 t
    exact ⟨_, v', rfl, h, h'⟩
theorem o1_inv {o : PyData → Option PyData} {ds : List PyData} {d : PyData} (h : o1of o ds = some d) : ∃ x, ds = [x] ∧ o x = some d := by
  unfold o1of at h
  split at h
  · exact ⟨_, rfl, h⟩
  · cases h
theorem o2_inv {o : PyData → PyData → Option PyData} {ds : List PyData} {d : PyData} (h : o2of o ds = some d) : ∃ x y, ds = [x, y] ∧ o x y = some d := by
  unfold o2of at h
  split at h
  · exact ⟨_, _, rfl, h⟩
  · cases h
theorem n1_inv {o : PyData → Option (List PyData)} {ds : List PyData} {d : List PyData} (h : n1of o ds = some d) : ∃ x, ds = [x] ∧ o x = some d := by
  unfold n1of at h
  split at h
  · exact ⟨_, rfl, h⟩
  · cases h
theorem fs_len {K : PySem.W.Frag} : FnS K (fun xs H Q => (∃ p ys, xs = [.ref p] ∧ (SqL K H p ys ∨ SqT K H p ys) ∧ Q (.int ys.length) H) ∨ ∃ z, xs = [.str z] ∧ z.length ≤ sizeLine ∧ Q (.int z.length) H) (o1of dLen) := by
  intro c ρ σ H vs ds d Q R r ho q
  obtain ⟨x, rfl, h2⟩ := o1_inv ho
  obtain ⟨v, rfl, w1⟩ := rpa1 r
  unfold dLen at h2
  split at h2
  · cases h2
    cases w1 with
    | lst l a => exact .inl ⟨_, _, rfl, .inl l.sq, by rw [a.length]; exact os_same R q (.int _)⟩
  · cases h2
    cases w1 with
    | tup l a => exact .inl ⟨_, _, rfl, .inr l.sq, by rw [a.length]; exact os_same R q (.int _)⟩
  · cases h2
    cases w1 with
    | ro l a => exact .inl ⟨_, _, rfl, .inl l.sq, by rw [(a.rp (K := K) (A := Av c ρ σ) (H := H)).length]; exact os_same R q (.int _)⟩
  · split at h2
    · rename_i hl
      cases h2
      cases w1
      exact .inr ⟨_, rfl, by rw [sl16]; exact hl, os_same R q (.int _)⟩
    · cases h2
  · cases h2
theorem cl_len : CallR X (.builtin "len") (fun xs H Q => (∃ p ys, xs = [.ref p] ∧ (SqL X.K H p ys ∨ SqT X.K H p ys) ∧ Q (.int ys.length) H) ∨ ∃ z, xs = [.str z] ∧ z.length ≤ sizeLine ∧ Q (.int z.length) H) := call_len_seq.or call_len_str
theorem fs_abs {K : PySem.W.Frag} : FnS K (fun xs H Q => ∃ i, xs = [.int i] ∧ Q (.int (if i < 0 then -i else i)) H) (o1of dAbs) := by
  intro c ρ σ H vs ds d Q R r ho q
  obtain ⟨x, rfl, h2⟩ := o1_inv ho
  obtain ⟨v, rfl, w1⟩ := rpa1 r
  unfold dAbs at h2
  split at h2
  · cases h2
    cases w1
    exact ⟨_, rfl, os_same R q (.int _)⟩
  · cases h2
theorem fs_int {K : PySem.W.Frag} : FnS K (fun xs H Q => (∃ i, xs = [.int i] ∧ Q (.int i) H) ∨ ∃ k, xs = [.bl k] ∧ Q (.int (if k then 1 else 0)) H) (o1of dInt) := by
  intro c ρ σ H vs ds d Q R r ho q
  obtain ⟨x, rfl, h2⟩ := o1_inv ho
  obtain ⟨v, rfl, w1⟩ := rpa1 r
  unfold dInt at h2
  split at h2
  · cases h2
    cases w1
    exact .inl ⟨_, rfl, os_same R q (.int _)⟩
  · cases h2
theorem fs_max {K : PySem.W.Frag} : FnS K (fun xs H Q => ∃ i j, xs = [.int i, .int j] ∧ Q (.int (if j > i then j else i)) H) (o2of dMax) := by
  intro c ρ σ H vs ds d Q R r ho q
  obtain ⟨x, y, rfl, h2⟩ := o2_inv ho
  obtain ⟨v, v', rfl, w1, w2⟩ := rpa2 r
  unfold dMax dI2 cT at h2
  split at h2
  · cases h2
    cases w1
    cases w2
    exact ⟨_, _, rfl, os_same R q (.int _)⟩
  · cases h2
theorem fs_min {K : PySem.W.Frag} : FnS K (fun xs H Q => ∃ i j, xs = [.int i, .int j] ∧ Q (.int (if j < i then j else i)) H) (o2of dMin) := by
  intro c ρ σ H vs ds d Q R r ho q
  obtain ⟨x, y, rfl, h2⟩ := o2_inv ho
  obtain ⟨v, v', rfl, w1, w2⟩ := rpa2 r
  unfold dMin dI2 cT at h2
  split at h2
  · cases h2
    cases w1
    cases w2
    exact ⟨_, _, rfl, os_same R q (.int _)⟩
  · cases h2
theorem fs_tup {K : PySem.W.Frag} : FnS K (fun xs H Q => ∃ p ys, xs = [.ref p] ∧ ((SqL K H p ys ∧ ∀ l, H l = none → Q (.ref l) (upd H l (.tup ys))) ∨ (SqT K H p ys ∧ Q (.ref p) H))) (o1of dTupOf) := by
  intro c ρ σ H vs ds d Q R r ho q
  obtain ⟨x, rfl, h2⟩ := o1_inv ho
  obtain ⟨v, rfl, w1⟩ := rpa1 r
  unfold dTupOf at h2
  split at h2
  · cases h2
    cases w1 with
    | lst l a => exact ⟨_, _, rfl, .inl ⟨l.sq, fun p hp => q _ _ (R.alloc hp).1 (R.newTup hp a) (R.alloc hp).2⟩⟩
  · cases h2
    cases w1 with
    | tup l a => exact ⟨_, _, rfl, .inr ⟨l.sq, os_same R q (.tup l a)⟩⟩
  · cases h2
    cases w1 with
    | ro l a => exact ⟨_, _, rfl, .inl ⟨l.sq, fun p hp => q _ _ (R.alloc hp).1 (R.newTup hp a.rp) (R.alloc hp).2⟩⟩
  · cases h2
theorem fn_list {K : PySem.W.Frag} : FnN K (fun xs H Q => ∃ p ys, xs = [.ref p] ∧ (SqL K H p ys ∨ SqT K H p ys) ∧ ∀ l, H l = none → Q (.ref l) (upd H l (.lst ys))) (n1of dLstOf) := by
  intro c ρ σ H vs ds d Q R r ho q
  obtain ⟨x, rfl, h2⟩ := n1_inv ho
  obtain ⟨v, rfl, w1⟩ := rpa1 r
  unfold dLstOf at h2
  split at h2
  · cases h2
    cases w1 with
    | lst l a => exact ⟨_, _, rfl, .inl l.sq, fun p hp => q p _ hp a⟩
  · cases h2
    cases w1 with
    | tup l a => exact ⟨_, _, rfl, .inr l.sq, fun p hp => q p _ hp a⟩
  · cases h2
    cases w1 with
    | ro l a => exact ⟨_, _, rfl, .inl l.sq, fun p hp => q p _ hp a.rp⟩
  · cases h2
/-! isinstance -/
def tyName : PyData → String
  | .none => "NoneType"
  | .bool _ => "bool"
  | .int _ => "int"
  | .str _ => "str"
  | .list _ => "list"
  | .tuple _ => "tuple"
  | .dict _ => "?"
def isN (T n : String) : Bool := decide (n = T) || (decide (T = "int") && decide (n = "bool"))
def isTy (T : String) (d : PyData) : Bool := isN T (tyName d)
@[simp] def dIsi (T : String) : PyData → Option PyData := fun x => match x with
  | .dict _ => none
  | x => some (.bool (isTy T x))
theorem tyx_of {K : PySem.W.Frag} {A : Addr → Prop} {H : Hp} {v : V} {d : PyData} (r : Rp K A H v d) (h : ∀ kvs, d ≠ .dict kvs) : TyX K H v (.type (tyName d)) := by
  cases r with
  | non => exact .base .non
  | bl b => exact .base (.bl b)
  | int i => exact .base (.int i)
  | str x => exact .base (.str x)
  | lst l a => exact .base (.lst l.1)
  | tup l a =>
    rcases l with ⟨l | ⟨o, l⟩, _⟩ | ⟨o, its, n, hk, hc, _⟩
    · exact .base (.tup l)
    · exact .fTuple l
    · exact .kTuple hk hc
  | ro l a => exact absurd rfl (h _)
theorem kitB_all : ∀ n ∈ ["NoneType", "bool", "int", "str", "list", "tuple"], ∀ T ∈ ["int", "bool", "str", "list", "tuple"], kitB n T = some (isN T n) := by decide +kernel
theorem tyName_mem (d : PyData) (h : ∀ kvs, d ≠ .dict kvs) : tyName d ∈ ["NoneType", "bool", "int", "str", "list", "tuple"] := by
  cases d <;> first
    | exact absurd rfl (h _)
    | simp [tyName]
theorem kitB_ty {T : String} (hT : T ∈ ["int", "bool", "str", "list", "tuple"]) (d : PyData) (h : ∀ kvs, d ≠ .dict kvs) : kitB (tyName d) T = some (isTy T d) := kitB_all _ (tyName_mem d h) T hT
theorem ev_isi {T : String} (hT : T ∈ ["int", "bool", "str", "list", "tuple"]) (hg : Gl X "isinstance") (hm : X.mg "isinstance" = none) (ha : PE X a (tE X.K f)) (hb : PE X b (tC (.ty T)))
    (he : starEach [a, b] X.env = (false, eval a X.env) :: starEach [b] X.env := by rfl) (he2 : starEach [b] X.env = (false, eval b X.env) :: starEach [] X.env := by rfl) (hpl : (backTo pos (starEach [b] X.env)).any (·.1) = false := by rfl) :
    PE X (.Call (.Name "isinstance" p) [a, b] [] pos) (tE X.K (eUn (dIsi T) f)) :=
  pe_of (pe_callB call_isi hg hm (by rfl) (pa_cons ha (pa_cons hb pa_nil he2) he) (by decide) (by decide) he hpl) fun σ H Q ⟨c, ρ, d, ρ', R, e, q⟩ => by
    obtain ⟨x, h1, h3⟩ := un_inv' e
    refine ⟨c, ρ, x, ρ', R, h1, fun v1 H1 R1 r1 m1 => ?_⟩
    have nd : ∀ kvs, x ≠ .dict kvs := fun kvs z => by subst z; cases h3
    have hd : d = .bool (isTy T x) := by
      unfold dIsi at h3
      split at h3
      · cases h3
      · exact (Option.some.inj h3).symm
    subst hd
    exact ⟨v1, .ty T, _, _, isTy T x, rfl, .ty T, tyx_of r1 nd, kit_ty (kitB_ty hT x nd), q _ H1 R1 (.bl _) m1⟩
end
end PG
end
section
set_option Elab.async false
set_option linter.all false
set_option maxRecDepth 100000
namespace PG
open PySem PySem.Spec PyProof.Rows L2

/-! ### statements -/
def sPost (K : PySem.W.Frag) (c : Act) (ρ : Rho) (σ : L2.St) (H : Hp) (E : Ends) (ρ' : Rho) : Out → Prop
  | .next => ∀ σ' H', Rel K c ρ' σ' H' → Stp c ρ σ H ρ' σ' H' → E.nx σ' H'
  | .brk => ∀ σ' H', Rel K c ρ' σ' H' → Stp c ρ σ H ρ' σ' H' → E.bk σ' H'
  | .cont => ∀ σ' H', Rel K c ρ' σ' H' → Stp c ρ σ H ρ' σ' H' → E.ct σ' H'
  | .ret d => ∀ v σ' H', Rel K c ρ' σ' H' → Rp K c.A H' v d → E.rt v H'
  | .retL ds => ∀ a vs σ' H', Rel K c ρ' σ' H' → H' a = some (.lst vs) → RpA K (fun b => c.A b ∨ b = a) H' vs ds → c.H0 a = none → E.rt (.ref a) H'
def tS (K : PySem.W.Frag) (F : SF) : TS := fun E σ H => ∃ (c : Act) (ρ : Rho) (o : Out) (ρ' : Rho), Rel K c ρ σ H ∧ F ρ = some (o, ρ') ∧ sPost K c ρ σ H E ρ' o
def tG (K : PySem.W.Frag) (G : GF) (is : List Nat) : TG := fun v σ H Q => ∃ (c : Act) (ρ : Rho) (d : PyData) (ρ' : Rho), Rel K c ρ σ H ∧ Rp K (Av c ρ σ) H v d ∧ G d ρ = some ρ' ∧
  ∀ σ', Rel K c ρ' σ' H → Stp c ρ σ H ρ' σ' H → σ'.length = σ.length → (∀ j, j ∉ is → σ'[j]? = σ[j]?) → Q σ' H

section
variable {X : Cx} {e a b : Expr} {pos : Pos} {f g h : EF} {tf tg : TF} {n m : NF} {es : List Expr} {st : Stmt} {sts : List Stmt} {F G' : SF}
theorem sPost.pre {K : PySem.W.Frag} {c : Act} {ρ ρ1 ρ' : Rho} {σ σ1 : L2.St} {H H1 : Hp} {E : Ends} {o : Out} (m : Stp c ρ σ H ρ1 σ1 H1) (p : sPost K c ρ σ H E ρ' o) : sPost K c ρ1 σ1 H1 E ρ' o := by
  cases o with
  | next => exact fun σ' H' R' m' => p σ' H' R' (m.trans m')
  | brk => exact fun σ' H' R' m' => p σ' H' R' (m.trans m')
  | cont => exact fun σ' H' R' m' => p σ' H' R' (m.trans m')
  | ret d => exact p
  | retL ds => exact p
theorem es_nil : PSs X [] (tS X.K sNil) := pss_of pss_nil fun E σ H ⟨c, ρ, o, ρ', R, e, q⟩ => by
  cases e
  exact q σ H R Mv.refl
theorem es_cons (h1 : PS X st (tS X.K F)) (h2 : PSs X sts (tS X.K G')) : PSs X (st :: sts) (tS X.K (sSeq F G')) := pss_of (pss_cons h1 h2) fun E σ H ⟨c, ρ, o, ρ', R, e, q⟩ => by
  unfold sSeq at e
  split at e
  · rename_i ρ1 e1
    exact ⟨c, ρ, .next, ρ1, R, e1, fun σ1 H1 R1 m1 => ⟨c, ρ1, o, ρ', R1, e, q.pre m1⟩⟩
  · rename_i hn
    refine ⟨c, ρ, o, ρ', R, e, ?_⟩
    cases o with
    | next => exact absurd e (hn ρ')
    | brk => exact q
    | cont => exact q
    | ret d => exact q
    | retL ds => exact q
theorem es_one (h1 : PS X st (tS X.K F)) : PSs X [st] (tS X.K F) := pss_of (pss_one h1) fun E σ H q => q
theorem es_if {A B : List Stmt} (hc : PT X e (tT X.K tf)) (ha : PSs X A (tS X.K F)) (hb : PSs X B (tS X.K G')) : PS X (.If e A B pos) (tS X.K (sIf tf F G')) := ps_of (ps_if hc ha hb) fun E σ H ⟨c, ρ, o, ρ', R, e, q⟩ => by
  unfold sIf at e
  split at e
  · rename_i ρ1 h1
    exact ⟨c, ρ, true, ρ1, R, h1, fun H' R' m => iteT ⟨c, ρ1, o, ρ', R', e, q.pre m⟩⟩
  · rename_i ρ1 h1
    exact ⟨c, ρ, false, ρ1, R, h1, fun H' R' m => iteF ⟨c, ρ1, o, ρ', R', e, q.pre m⟩⟩
  · cases e
theorem av_sub {c : Act} {ρ : Rho} {σ : L2.St} {H : Hp} : Mv (Av c ρ σ) H c.A H := fun a o e n => ⟨e, fun z => n (.inl z)⟩
theorem es_ret (he : PE X e (tE X.K f)) : PS X (.Return (some e) pos) (tS X.K (sRet f)) := ps_of (ps_ret he) fun E σ H ⟨c, ρ, o, ρ', R, e, q⟩ => by
  unfold sRet at e
  split at e
  · rename_i d ρ1 h1
    obtain ⟨e1, e2⟩ := so e
    subst e1 e2
    exact ⟨c, ρ, d, ρ1, R, h1, fun v H' R' r' m => q v σ H' R' (r'.mv av_sub)⟩
  · cases e
theorem es_retN : PS X (.Return none pos) (tS X.K (sRet (eC .none))) := ps_of ps_retN fun E σ H ⟨c, ρ, o, ρ', R, e, q⟩ => by
  cases e
  exact q .non σ H R .non
theorem es_retL (he : PE X e (tN X.K n)) : PS X (.Return (some e) pos) (tS X.K (sRetL n)) := ps_of (ps_ret he) fun E σ H ⟨c, ρ, o, ρ', R, e, q⟩ => by
  unfold sRetL at e
  split at e
  · rename_i d ρ1 h1
    obtain ⟨e1, e2⟩ := so e
    subst e1 e2
    exact ⟨c, ρ, d, ρ1, R, h1, fun a vs H' R' ha r' na h0 nw m => q a vs σ H' (R'.unplus R.pA) ha (r'.mv av_sub) h0⟩
  · cases e
theorem es_retO {i : Nat} (hv : PE X e (tVar i)) : PS X (.Return (some e) pos) (tS X.K (sRetO i)) := ps_of (ps_ret hv) fun E σ H ⟨c, ρ, o, ρ', R, e, q⟩ => by
  unfold sRetO at e
  split at e
  · rename_i ds h1
    obtain ⟨e1, e2⟩ := so e
    subst e1 e2
    obtain ⟨a, vs, g1, g2, g3, g4⟩ := R.lst i false ds h1
    refine ⟨.ref a, g1, q a vs σ H R g2 (g3.mv fun b o e n => ⟨e, fun z => n ?_⟩) (g4 rfl).1⟩
    rcases z with z | z
    · exact .inl z
    · subst z; exact .inr ⟨i, false, ds, h1, g1⟩
  · cases e
theorem es_expr (he : PE X e (tE X.K f)) (hs : swapsWith e none pos.line X.env = pure false := by rfl) : PS X (.Expr e pos) (tS X.K (sExpr f)) := ps_of (ps_expr he hs) fun E σ H ⟨c, ρ, o, ρ', R, e, q⟩ => by
  unfold sExpr at e
  split at e
  · rename_i d ρ1 h1
    obtain ⟨e1, e2⟩ := so e
    subst e1 e2
    exact ⟨c, ρ, d, ρ1, R, h1, fun v H' R' r' m => q σ H' R' m⟩
  · cases e
theorem es_pass : PS X (.Pass pos) (tS X.K sNil) := ps_of ps_pass fun E σ H ⟨c, ρ, o, ρ', R, e, q⟩ => by
  cases e
  exact q σ H R Mv.refl
theorem es_brk : PS X (.Break pos) (tS X.K sBrk) := ps_of ps_break fun E σ H ⟨c, ρ, o, ρ', R, e, q⟩ => by
  cases e
  exact q σ H R Mv.refl
theorem es_cont : PS X (.Continue pos) (tS X.K sCont) := ps_of ps_continue fun E σ H ⟨c, ρ, o, ρ', R, e, q⟩ => by
  cases e
  exact q σ H R Mv.refl
theorem es_doc {x j} {pos'} : PS X (.Expr (.Constant (.str x) j pos) pos') (tS X.K sNil) := ps_of ps_doc fun E σ H ⟨c, ρ, o, ρ', R, e, q⟩ => by
  cases e
  exact q σ H R Mv.refl
/-! assignments -/
theorem es_set {i : Nat} {x : Str} {pos' : Pos} (hN : X.N.Nodup) (hi : X.N[i]? = some x) (hx : Loc X.env.scope x) (he : PE X e (tE X.K f)) (hs : swapsWith e (some (.Name x pos')) pos.line X.env = pure false := by rfl)
    (hf : X.fn x = true ∨ X.env.scope.names.lookup x = some .local := by first | exact .inl rfl | exact .inr rfl | assumption) : PS X (.Assign [.Name x pos'] e pos) (tS X.K (sSet i f)) :=
  ps_of (ps_set hN hi hx he hs hf) fun E σ H ⟨c, ρ, o, ρ', R, e, q⟩ => by
    unfold sSet at e
    split at e
    · rename_i d ρ1 h1
      split at e
      · rename_i ρ2 h2
        obtain ⟨e1, e2⟩ := so e
        subst e1 e2
        refine ⟨c, ρ, d, ρ1, R, h1, fun v H' R' r' m => ?_⟩
        obtain ⟨R2, m2⟩ := R'.assign h2 r'
        exact q _ H' R2 (m.trans m2)
      · cases e
    · cases e
theorem es_setL {i : Nat} {x : Str} {pos' : Pos} (hN : X.N.Nodup) (hi : X.N[i]? = some x) (hx : Loc X.env.scope x) (he : PE X e (tN X.K n)) (hs : swapsWith e (some (.Name x pos')) pos.line X.env = pure false := by rfl)
    (hf : X.fn x = true ∨ X.env.scope.names.lookup x = some .local := by first | exact .inl rfl | exact .inr rfl | assumption) : PS X (.Assign [.Name x pos'] e pos) (tS X.K (sSetL i n)) :=
  ps_of (ps_set hN hi hx he hs hf) fun E σ H ⟨c, ρ, o, ρ', R, e, q⟩ => by
    unfold sSetL at e
    split at e
    · rename_i d ρ1 h1
      split at e
      · rename_i ρ2 h2
        obtain ⟨e1, e2⟩ := so e
        subst e1 e2
        refine ⟨c, ρ, d, ρ1, R, h1, fun a vs H' R' ha r' na h0 nw m => ?_⟩
        obtain ⟨R2, m2⟩ := R'.assignL h2 ha r' h0 na R.pA
        refine q _ H' R2 fun b o eb nb => ?_
        obtain ⟨w1, w2⟩ := m b o eb nb
        have nba : b ≠ a := fun z => by subst z; rw [nw nb] at eb; cases eb
        exact m2 b o w1 fun z => z.elim (fun y => y.elim (fun y => w2 (.inl y)) nba) fun y => w2 (.inr y)
      · cases e
    · cases e
theorem es_asg {tgt : Expr} {G : GF} {is : List Nat} (he : PE X e (tE X.K f)) (hg : PG X tgt (tG X.K G is)) (hs : swapsWithSole [tgt] e pos.line X.env = pure false := by rfl) (hw : swappedStores [tgt] e X.env = pure none := by rfl)
    (h1 : (assignEach [tgt] X.env).map (·.2) = [assign tgt X.env] := by rfl) : PS X (.Assign [tgt] e pos) (tS X.K (sAsg f G)) :=
  ps_of (ps_asg he hg hs hw h1) fun E σ H ⟨c, ρ, o, ρ', R, e, q⟩ => by
    unfold sAsg at e
    split at e
    · rename_i d ρ1 h1
      split at e
      · rename_i ρ2 h2
        obtain ⟨e1, e2⟩ := so e
        subst e1 e2
        exact ⟨c, ρ, d, ρ1, R, h1, fun v H' R' r' m => ⟨c, ρ1, d, ρ2, R', r', h2, fun σ' R2 m2 _ _ => q σ' H' R2 (m.trans m2)⟩⟩
      · cases e
    · cases e
/-! targets -/
theorem pg_of {tgt : Expr} {t t' : TG} (h : PG X tgt t) (k : ∀ v σ H Q, t' v σ H Q → t v σ H Q) : PG X tgt t' := ⟨fun pins s σ H v u Q I r q => h.run pins s σ H v u Q I r (k v σ H Q q)⟩
theorem eg_name {i : Nat} {x : Str} (hN : X.N.Nodup) (hi : X.N[i]? = some x) (hx : Loc X.env.scope x) (hf : X.fn x = true ∨ X.env.scope.names.lookup x = some .local := by first | exact .inl rfl | exact .inr rfl | assumption) : PG X (.Name x pos) (tG X.K (gSet i) [i]) :=
  pg_of (pg_name hN hi hx hf) fun v σ H Q ⟨c, ρ, d, ρ', R, r, e, q⟩ => by
    obtain ⟨R2, m2⟩ := R.assign e r
    refine q _ R2 m2 (List.length_set ..) fun j hj => ?_
    rw [List.getElem?_set_ne (fun z => hj (by simp [z]))]
def gsPairs (is : List Nat) : TGs := match is with
  | [] => gNil
  | i :: r => gCons (gName i) (gsPairs r)
theorem rd_pairs {K : PySem.W.Frag} {c : Act} {H : Hp} : ∀ (is : List Nat) (vs : List V) (ds : List PyData) (ρ ρ' : Rho) (σ : L2.St) (Q : L2.St → Hp → Prop), Rel K c ρ σ H → RpA K (Av c ρ σ) H vs ds → gPairs is ds ρ = some ρ' →
    (∀ σ', Rel K c ρ' σ' H → Stp c ρ σ H ρ' σ' H → σ'.length = σ.length → (∀ j, j ∉ is → σ'[j]? = σ[j]?) → Q σ' H) → gsPairs is vs σ H Q
  | [], vs, [], ρ, ρ', σ, Q, R, r, e, q => by
    cases r
    cases e
    exact ⟨rfl, q σ R Mv.refl rfl fun _ _ => rfl⟩
  | [], vs, _ :: _, ρ, ρ', σ, Q, R, r, e, q => by cases e
  | _ :: _, vs, [], ρ, ρ', σ, Q, R, r, e, q => by cases e
  | i :: is, _, d :: ds, ρ, ρ', σ, Q, R, r, e, q => by
    cases r with
    | @cons v vs _ _ h1 h2 =>
      unfold gPairs at e
      split at e
      · rename_i ρ1 e1
        obtain ⟨R2, m2⟩ := R.assign e1 h1
        refine ⟨v, vs, rfl, rd_pairs is vs ds ρ1 ρ' _ Q R2 (h2.mv m2) e fun σ' R' m' l' k' => ?_⟩
        refine q σ' R' (m2.trans m') (by rw [l', List.length_set]) fun j hj => ?_
        rw [k' j (fun z => hj (List.mem_cons_of_mem _ z)), List.getElem?_set_ne (fun z => hj (by simp [z]))]
      · cases e
theorem gpairs_len : ∀ (is : List Nat) (ds : List PyData) (ρ ρ' : Rho), gPairs is ds ρ = some ρ' → ds.length = is.length
  | [], [], _, _, _ => rfl
  | [], _ :: _, _, _, e => by cases e
  | _ :: _, [], _, _, e => by cases e
  | i :: is, d :: ds, ρ, ρ', e => by
    unfold gPairs at e
    split at e
    · rename_i ρ1 e1
      rw [List.length_cons, List.length_cons, gpairs_len is ds ρ1 ρ' e]
    · cases e
theorem eg_tup {k : Nat} {is : List Nat} (hc : X.calm = true) (h : PGs X es (gsPairs is)) (hn : (assignEach es X.env).length = is.length := by rfl) (hst : (assignEach es X.env).findIdx? (·.1) = none := by rfl) : PG X (.Tuple es k pos) (tG X.K (gTupS is) is) :=
  pg_of (pg_tup hc h hn hst) fun v σ H Q ⟨c, ρ, d, ρ', R, r, e, q⟩ => by
    unfold gTupS at e
    split at e
    · rename_i ds
      cases r with
      | @tup p xs _ l al =>
        exact ⟨p, xs, rfl, l.sq, by rw [al.length, gpairs_len _ _ _ _ e], rd_pairs is xs ds ρ ρ' σ Q R al e q⟩
    · cases e
/-! owned lists -/
theorem es_app {i : Nat} {apos cpos : Pos} (hv : PE X a (tVar i)) (he : PE X e (tE X.K f)) (hbase : attributeBase a "append" X.env (eval a X.env) = eval a X.env := by rfl)
    (hfew : ((backTo cpos (starEach [e] X.env)).all (fun x => !x.1) && (backToKw cpos (keywordEach [] X.env)).all (fun x => x.1.isSome)
      && decide ([e].length + ([] : List Keyword).length + (if ([] : List Keyword).isEmpty then 0 else 1) < 30)) = true := by rfl)
    (hline : (apos.endLine == cpos.line) = true := by rfl) (hs : starEach [e] X.env = (false, eval e X.env) :: starEach [] X.env := by rfl) (hplain : (backTo cpos (starEach [] X.env)).any (·.1) = false := by rfl)
    (hsw : swapsWith (.Call (.Attribute a "append" apos) [e] [] cpos) none pos.line X.env = pure false := by rfl) :
    PS X (.Expr (.Call (.Attribute a "append" apos) [e] [] cpos) pos) (tS X.K (sApp i f)) :=
  ps_of (ps_expr (pe_bm PySem.F.plainAttrs_list PySem.F.slot_list_append PySem.F.type_list_append mt_append hv (pa_cons he pa_nil hs) hbase hfew hline hs hplain) hsw) fun E σ H ⟨c, ρ, o, ρ', R, e, q⟩ => by
    unfold sApp at e
    split at e
    · rename_i p0 l0 h0
      split at e
      · rename_i d ρ1 h1
        split at e
        · rename_i p ds h2
          split at e
          · rename_i hl
            obtain ⟨e1, e2⟩ := so e
            subst e1 e2
            obtain ⟨a, us0, g1, g2, _⟩ := R.lst i p0 l0 h0
            refine ⟨.ref a, g1, .inl ⟨rfl, us0, .inl (.inl g2)⟩, c, ρ, d, ρ1, R, h1, fun v H1 R1 r1 m1 => ?_⟩
            obtain ⟨a', us, g1', g2', g3, _⟩ := R1.lst i p ds h2
            rw [g1] at g1'
            cases g1'
            refine ⟨a, us, v, rfl, rfl, g2', by rw [g3.length, sl16]; exact hl, ?_⟩
            have own : Av c ρ1 σ a := .inr ⟨i, p, ds, h2, g1⟩
            have mw : Mv (Av c ρ1 σ) H1 (Av c ρ1 σ) (upd H1 a (.lst (us ++ [v]))) := fun b o e n => ⟨by rw [upd_ne (fun z => n (by subst z; exact own))]; exact e, n⟩
            obtain ⟨R2, m2⟩ := R1.write (ds' := ds ++ [d]) h2 g1 upd_same (fun b o nb eb => by rw [upd_ne nb]; exact eb) ((g3.app (.cons r1 .nil)).mv mw)
            exact q σ _ R2 (m1.trans m2)
          · cases e
        · cases e
      · cases e
    · cases e
theorem es_sto {i : Nat} {tpos : Pos} (hv : PE X a (tVar i)) (hi : PE X b (tE X.K g)) (he : PE X e (tE X.K f))
    (ha : ∀ v, assign (.Subscript a b tpos) X.env v = (do
      let ov ← holding [v] (eval a X.env)
      let iv ← holding [v, ov] (eval b X.env)
      standAt tpos
      holding [v, ov, iv] (setItem ov iv v)
      release [v, ov, iv] []) := by intro _; rfl) (hs : swapsWithSole [.Subscript a b tpos] e pos.line X.env = pure false := by rfl) (hw : swappedStores [.Subscript a b tpos] e X.env = pure none := by rfl)
    (h1 : (assignEach [.Subscript a b tpos] X.env).map (·.2) = [assign (.Subscript a b tpos) X.env] := by rfl) : PS X (.Assign [.Subscript a b tpos] e pos) (tS X.K (sSto i g f)) :=
  ps_of (ps_asg he (pg_sub hv hi set_list ha) hs hw h1) fun E σ H ⟨c, ρ, o, ρ', R, e, q⟩ => by
    unfold sSto at e
    split at e
    · rename_i d ρ1 h1
      split at e
      · rename_i p0 l0 h0
        split at e
        · rename_i k ρ2 h2
          split at e
          · rename_i p ds h3
            split at e
            · rename_i j hj
              obtain ⟨e1, e2⟩ := so e
              subst e1 e2
              refine ⟨c, ρ, d, ρ1, R, h1, fun v H1 R1 r1 m1 => ?_⟩
              obtain ⟨a, us0, g1, g2, _⟩ := R1.lst i p0 l0 h0
              refine ⟨.ref a, g1, c, ρ1, .int k, ρ2, R1, h2, fun vk H2 R2 rk m2 => ?_⟩
              cases rk
              obtain ⟨a', us, g1', g2', g3, _⟩ := R2.lst i p ds h3
              rw [g1] at g1'
              cases g1'
              refine ⟨a, us, k, j, rfl, rfl, g2', by rw [g3.length]; exact hj, ?_⟩
              have own : Av c ρ2 σ a := .inr ⟨i, p, ds, h3, g1⟩
              have mw : Mv (Av c ρ2 σ) H2 (Av c ρ2 σ) (upd H2 a (.lst (us.set j v))) := fun b o e n => ⟨by rw [upd_ne (fun z => n (by subst z; exact own))]; exact e, n⟩
              obtain ⟨R3, m3⟩ := R2.write (ds' := ds.set j d) h3 g1 upd_same (fun b o nb eb => by rw [upd_ne nb]; exact eb) ((g3.set j (r1.mv m2)).mv mw)
              exact q σ _ R3 ((m1.trans m2).trans m3)
            · cases e
          · cases e
        · cases e
      · cases e
    · cases e
/-- reading an owned list -/
theorem ev_ixL {r : R2} {o : PyData → PyData → Option PyData} {i : Nat} (hr : IxR X r) (s : OpS X.K r o) (hv : PE X a (tVar i)) (hb : PE X b (tE X.K g)) (hs : PlainIx b)
    (so2 : ∀ ds y z, o (.list ds) y = some z → ∃ k, y = .int k ∧ atD ds k = some z) (hr2 : ∀ x y H Q, rIxL X.K x y H Q → r x y H Q) : PE X (.Subscript a b pos) (tE X.K (eIxL o i g)) :=
  pe_of (pe_ix hr hv hb hs) fun σ H Q ⟨c, ρ, d, ρ', R, e, q⟩ => by
    unfold eIxL at e
    split at e
    · rename_i p0 l0 h0
      split at e
      · rename_i y ρ1 h1
        split at e
        · rename_i p ds h2
          split at e
          · rename_i z h3
            obtain ⟨e1, e2⟩ := so e
            subst e1 e2
            obtain ⟨a, us0, g1, g2, _⟩ := R.lst i p0 l0 h0
            refine ⟨.ref a, g1, c, ρ, y, ρ1, R, h1, fun v H1 R1 r1 m1 => ?_⟩
            obtain ⟨a', us, g1', g2', g3, _⟩ := R1.lst i p ds h2
            rw [g1] at g1'
            cases g1'
            obtain ⟨k, rfl, hk⟩ := so2 ds y z h3
            cases r1
            obtain ⟨v, w1, w2⟩ := ix_at g3 hk
            exact hr2 _ _ _ _ ⟨a, us, k, v, rfl, rfl, .inl (.inl g2'), w1, q v H1 R1 w2 m1⟩
          · cases e
        · cases e
      · cases e
    · cases e
theorem ev_ixO {i : Nat} (hv : PE X a (tVar i)) (hb : PE X b (tE X.K g)) (hs : PlainIx b) : PE X (.Subscript a b pos) (tE X.K (eIxL dIx i g)) :=
  ev_ixL ix_seq os_ix hv hb hs (fun ds y z h => by
    unfold dIx at h
    split at h <;> first
      | (rename_i hh; cases hh; exact ⟨_, rfl, h⟩)
      | (rename_i hh _; cases hh; exact ⟨_, rfl, h⟩)
      | (rename_i hh; cases hh; done)
      | cases h) fun x y H Q h => .inl h

/-! ### loops -/
def JOk (K : PySem.W.Frag) (c : Act) (ρ1 : Rho) (σ1 : L2.St) (H1 : Hp) (J : It) (ds : List PyData) : Prop := ∀ (c' : Act) (ρi : Rho) (σi : L2.St) (Hi : Hp), Mv (Av c ρ1 σ1) H1 (Av c' ρi σi) Hi →
  (∀ (i : Nat) (d : PyData), ds[i]? = some d → J.go i Hi ∧ ∀ x H', J.yld i Hi x H' → H' = Hi ∧ Rp K (Av c' ρi σi) Hi x d) ∧ J.stop ds.length Hi
def tI (K : PySem.W.Frag) (f : NF) : TI := fun σ H R => ∃ (c : Act) (ρ : Rho) (ds : List PyData) (ρ' : Rho), Rel K c ρ σ H ∧ f ρ = some (ds, ρ') ∧
  ∀ J H1, Rel K c ρ' σ H1 → Stp c ρ σ H ρ' σ H1 → JOk K c ρ' σ H1 J ds → R J H1
theorem pi_of {tgt : Expr} {t t' : TI} (h : PI X tgt e t) (k : ∀ σ H R, t' σ H R → t σ H R) : PI X tgt e t' := ⟨fun pins s σ H R I q => h.run pins s σ H R I (k σ H R q)⟩
theorem jok_list {K : PySem.W.Frag} {c : Act} {ρ : Rho} {σ : L2.St} {H : Hp} {p : Addr} {xs : List V} {ds : List PyData} (l : WAt K (Av c ρ σ) H p xs) (r : RpA K (Av c ρ σ) H xs ds) : JOk K c ρ σ H (Itl K p) ds := fun c' ρi σi Hi m => by
  have l2 := (l.move m).sq
  have r2 := r.mv m
  refine ⟨fun i d hd => ?_, ⟨xs, l2, by rw [r2.length]; exact Nat.le_refl _⟩⟩
  obtain ⟨v, h1, h2⟩ := r2.get hd
  exact ⟨⟨xs, v, l2, h1⟩, fun x H' y => ⟨y.1, by
    have := y.2 xs l2
    rw [h1] at this
    cases this
    exact h2⟩⟩
theorem jok_tup {K : PySem.W.Frag} {c : Act} {ρ : Rho} {σ : L2.St} {H : Hp} {p : Addr} {xs : List V} {ds : List PyData} (l : TAt K (Av c ρ σ) H p xs) (r : RpA K (Av c ρ σ) H xs ds) : JOk K c ρ σ H (Itt K p) ds := fun c' ρi σi Hi m => by
  have l2 := (l.move m).sq
  have r2 := r.mv m
  refine ⟨fun i d hd => ?_, ⟨xs, l2, by rw [r2.length]; exact Nat.le_refl _⟩⟩
  obtain ⟨v, h1, h2⟩ := r2.get hd
  exact ⟨⟨xs, v, l2, h1⟩, fun x H' y => ⟨y.1, by
    have := y.2 xs l2
    rw [h1] at this
    cases this
    exact h2⟩⟩
def itL (f : EF) : NF := fun ρ => match f ρ with
  | some (.list xs, ρ1) => some (xs, ρ1)
  | some (.dict [(.list xs, .none)], ρ1) => some (xs, ρ1)
  | _ => none
def itT (f : EF) : NF := fun ρ => match f ρ with
  | some (.tuple xs, ρ1) => some (xs, ρ1)
  | _ => none
theorem ei_list {tgt : Expr} (he : PE X e (tE X.K f)) : PI X tgt e (tI X.K (itL f)) := pi_of (pi_list he) fun σ H R ⟨c, ρ, ds, ρ', R0, e, q⟩ => by
  unfold itL at e
  split at e
  · rename_i xs ρ1 h1
    obtain ⟨e1, e2⟩ := so e
    subst e1 e2
    refine ⟨c, ρ, _, ρ1, R0, h1, fun v H1 R1 r1 m1 => ?_⟩
    cases r1 with
    | lst l a => exact ⟨_, rfl, ⟨_, l.sq⟩, q _ H1 R1 m1 (jok_list (.inl ⟨.inl l.1, l.2⟩) a)⟩
  · rename_i xs ρ1 h1
    obtain ⟨e1, e2⟩ := so e
    subst e1 e2
    refine ⟨c, ρ, _, ρ1, R0, h1, fun v H1 R1 r1 m1 => ?_⟩
    cases r1 with
    | ro l a => exact ⟨_, rfl, ⟨_, l.sq⟩, q _ H1 R1 m1 (jok_list l a.rp)⟩
  · cases e
theorem ei_tup {tgt : Expr} (he : PE X e (tE X.K f)) : PI X tgt e (tI X.K (itT f)) := pi_of (pi_tup he) fun σ H R ⟨c, ρ, ds, ρ', R0, e, q⟩ => by
  unfold itT at e
  split at e
  · rename_i xs ρ1 h1
    obtain ⟨e1, e2⟩ := so e
    subst e1 e2
    refine ⟨c, ρ, _, ρ1, R0, h1, fun v H1 R1 r1 m1 => ?_⟩
    cases r1 with
    | tup l a => exact ⟨_, rfl, ⟨_, l.sq⟩, q _ H1 R1 m1 (jok_tup l a)⟩
  · cases e
/-- range -/
def rng (lo : Int) (n : Nat) : List PyData := (List.range n).map fun k => .int (lo + (k : Nat))
theorem jok_rng {K : PySem.W.Frag} {c : Act} {ρ : Rho} {σ : L2.St} {H : Hp} (lo : Int) (n : Nat) : JOk K c ρ σ H (Itr lo n) (rng lo n) := fun c' ρi σi Hi m => by
  refine ⟨fun i d hd => ?_, ?_⟩
  · unfold rng at hd
    rw [List.getElem?_map] at hd
    rcases Nat.lt_or_ge i n with h | h
    · rw [List.getElem?_range h] at hd
      cases hd
      exact ⟨h, fun x H' y => ⟨y.1, by rw [y.2]; exact .int _⟩⟩
    · rw [List.getElem?_eq_none (by simpa using h)] at hd
      cases hd
  · show n ≤ (rng lo n).length
    unfold rng
    rw [List.length_map, List.length_range]
    exact Nat.le_refl _
def in62 (i : Int) : Bool := decide (-4611686018427387904 ≤ i) && decide (i < 4611686018427387904)
def itR1 (f : NF) : NF := fun ρ => match f ρ with
  | some ([.int j], ρ1) => if in62 j then some (rng 0 j.toNat, ρ1) else none
  | _ => none
def itR2 (f : NF) : NF := fun ρ => match f ρ with
  | some ([.int i, .int j], ρ1) => if in62 i && in62 j then some (rng i (j - i).toNat, ρ1) else none
  | _ => none
theorem in62_iff {i : Int} (h : in62 i = true) : -(2 ^ 62) ≤ i ∧ i < 2 ^ 62 := by
  simp only [in62, Bool.and_eq_true, decide_eq_true_eq] at h
  exact ⟨by omega, by omega⟩
theorem ei_rng1 {tgt : Expr} {p : Pos} (hg : Gl X "range") (hm : X.mg "range" = none) (ha : PA X [a] (tA X.K n)) (hs : starEach [a] X.env = [(false, eval a X.env)] := by rfl) : PI X tgt (.Call (.Name "range" p) [a] [] pos) (tI X.K (itR1 n)) :=
  pi_of (pi_range1 hg hm ha hs) fun σ H R ⟨c, ρ, ds, ρ', R0, e, q⟩ => by
    unfold itR1 at e
    split at e
    · rename_i j ρ1 h1
      split at e
      · rename_i hj
        obtain ⟨e1, e2⟩ := so e
        subst e1 e2
        refine ⟨c, ρ, _, ρ1, R0, h1, fun vs H1 R1 r1 m1 => ?_⟩
        obtain ⟨v, rfl, r2⟩ := rpa1 r1
        cases r2
        obtain ⟨w1, w2⟩ := in62_iff hj
        exact ⟨j, rfl, w1, w2, q _ H1 R1 m1 (jok_rng 0 _)⟩
      · cases e
    · cases e
theorem ei_rng2 {tgt : Expr} {p : Pos} (hg : Gl X "range") (hm : X.mg "range" = none) (ha : PA X [a, b] (tA X.K n)) (hs : starEach [a, b] X.env = [(false, eval a X.env), (false, eval b X.env)] := by rfl) (hs2 : starEach [b] X.env = [(false, eval b X.env)] := by rfl) :
    PI X tgt (.Call (.Name "range" p) [a, b] [] pos) (tI X.K (itR2 n)) :=
  pi_of (pi_range2 hg hm ha hs hs2) fun σ H R ⟨c, ρ, ds, ρ', R0, e, q⟩ => by
    unfold itR2 at e
    split at e
    · rename_i i j ρ1 h1
      split at e
      · rename_i hj
        obtain ⟨e1, e2⟩ := so e
        subst e1 e2
        simp only [Bool.and_eq_true] at hj
        refine ⟨c, ρ, _, ρ1, R0, h1, fun vs H1 R1 r1 m1 => ?_⟩
        obtain ⟨v, v', rfl, w1, w2⟩ := rpa2 r1
        cases w1
        cases w2
        obtain ⟨a1, a2⟩ := in62_iff hj.1
        obtain ⟨b1, b2⟩ := in62_iff hj.2
        exact ⟨i, j, rfl, ⟨a1, a2, b1, b2⟩, q _ H1 R1 m1 (jok_rng i _)⟩
      · cases e
    · cases e
theorem drop_cons {α : Type} {l : List α} {i : Nat} {d : α} {r : List α} (h : l.drop i = d :: r) : l[i]? = some d ∧ l.drop (i + 1) = r := by
  constructor
  · have := List.getElem?_drop (xs := l) (i := i) (j := 0)
    rw [h] at this
    simpa using this.symm
  · have := List.drop_drop (i := 1) (j := i) (l := l)
    rw [h] at this
    simpa [Nat.add_comm] using this.symm
theorem es_for {tgt iter : Expr} {body : List Stmt} {it : NF} {G : GF} {is : List Nat} (hp : PassesOwn (model X.prog X.w) X.A X.env X.xe) (hc : X.calm = true) (hi : PI X tgt iter (tI X.K it)) (hg : PG X tgt (tG X.K G is)) (hb : PSs X body (tS X.K F)) (hs : ∀ x, foldedSetIterable iter X.env x = pure x := by intro _; rfl) :
    PS X (.For tgt iter body [] pos) (tS X.K (sFor it G F)) := ps_of (ps_for hp hc hi hg hb hs) fun E σ H ⟨c, ρ, o, ρ', R, e, q⟩ => by
  unfold sFor at e
  split at e
  · rename_i ds ρ1 h1
    refine ⟨c, ρ, ds, ρ1, R, h1, fun J H1 R1 m1 jo => ?_⟩
    refine ⟨fun i m σi Hi => m = ds.length - i ∧ i ≤ ds.length ∧ ∃ ρi, Rel X.K c ρi σi Hi ∧ Stp c ρ1 σ H1 ρi σi Hi ∧ forL G F (ds.drop i) ρi = some (o, ρ'), ⟨ds.length, by simp, Nat.zero_le _, ρ1, R1, Mv.refl, e⟩, ?_⟩
    rintro i m σi Hi ⟨rfl, hi, ρi, Ri, mi, ei⟩
    obtain ⟨jg, js⟩ := jo c ρi σi Hi mi
    cases hd : ds.drop i with
    | nil =>
      rw [hd] at ei
      unfold forL at ei
      obtain ⟨e1, e2⟩ := so ei
      subst e1 e2
      have : i = ds.length := by
        have := congrArg List.length hd
        rw [List.length_drop, List.length_nil] at this
        omega
      subst this
      exact .inl ⟨js, q σi Hi Ri (m1.trans mi)⟩
    | cons d r =>
      obtain ⟨g1, g2⟩ := drop_cons hd
      rw [hd] at ei
      obtain ⟨k1, k2⟩ := jg i d g1
      have hlt := lt_of_get g1
      unfold forL at ei
      split at ei
      · cases ei
      · rename_i ρa ea
        refine .inr ⟨k1, fun σ' H' => ds.length - (i + 1) = ds.length - (i + 1) ∧ i + 1 ≤ ds.length ∧ ∃ ρi, Rel X.K c ρi σ' H' ∧ Stp c ρ1 σ H1 ρi σ' H' ∧ forL G F (ds.drop (i + 1)) ρi = some (o, ρ'), fun σ' H' z => ⟨ds.length - (i + 1), by omega, z⟩, fun x H' y => ?_⟩
        obtain ⟨rfl, rx⟩ := k2 x H' y
        refine ⟨c, ρi, d, ρa, Ri, rx, ea, fun σ2 Ra ma _ _ => ?_⟩
        rw [g2]
        have mm := mi.trans ma
        split at ei
        · rename_i ρb eb
          exact ⟨c, ρa, .next, ρb, Ra, eb, fun σ3 H3 R3 m3 => ⟨rfl, hlt, ρb, R3, mm.trans m3, ei⟩⟩
        · rename_i ρb eb
          exact ⟨c, ρa, .cont, ρb, Ra, eb, fun σ3 H3 R3 m3 => ⟨rfl, hlt, ρb, R3, mm.trans m3, ei⟩⟩
        · rename_i ρb eb
          obtain ⟨e1, e2⟩ := so ei
          subst e1 e2
          exact ⟨c, ρa, .brk, ρb, Ra, eb, fun σ3 H3 R3 m3 => q σ3 H3 R3 ((m1.trans mm).trans m3)⟩
        · rename_i hn1 hn2 hn3
          refine ⟨c, ρa, o, ρ', Ra, ei, ?_⟩
          cases o with
          | next => exact absurd ei (hn1 ρ')
          | brk => exact absurd ei (hn3 ρ')
          | cont => exact absurd ei (hn2 ρ')
          | ret d => exact q
          | retL d => exact q
  · cases e
theorem es_while {body : List Stmt} {mu : Rho → Nat} (hp : PassesOwn (model X.prog X.w) X.A X.env X.xe) (hc : PT X e (tT X.K tf)) (hb : PSs X body (tS X.K F)) : PS X (.While e body [] pos) (tS X.K (sWhile mu tf F)) :=
  ps_of (ps_while hp hc hb) fun E σ H ⟨c, ρ, o, ρ', R, e, q⟩ => by
    refine ⟨fun m σi Hi => ∃ ρi, Rel X.K c ρi σi Hi ∧ Stp c ρ σ H ρi σi Hi ∧ whl tf F m ρi = some (o, ρ'), ⟨mu ρ, ρ, R, Mv.refl, e⟩, ?_⟩
    rintro m σi Hi ⟨ρi, Ri, mi, ei⟩
    cases m with
    | zero => cases ei
    | succ m =>
      unfold whl at ei
      split at ei
      · rename_i ρa ea
        refine ⟨c, ρi, true, ρa, Ri, ea, fun H1 R1 m1 => iteT ?_⟩
        refine ⟨fun σ' H' => ∃ ρi, Rel X.K c ρi σ' H' ∧ Stp c ρ σ H ρi σ' H' ∧ whl tf F m ρi = some (o, ρ'), fun σ' H' z => ⟨m, Nat.lt_succ_self m, z⟩, ?_⟩
        have mm := mi.trans m1
        split at ei
        · rename_i ρb eb
          exact ⟨c, ρa, .next, ρb, R1, eb, fun σ3 H3 R3 m3 => ⟨ρb, R3, mm.trans m3, ei⟩⟩
        · rename_i ρb eb
          exact ⟨c, ρa, .cont, ρb, R1, eb, fun σ3 H3 R3 m3 => ⟨ρb, R3, mm.trans m3, ei⟩⟩
        · rename_i ρb eb
          obtain ⟨e1, e2⟩ := so ei
          subst e1 e2
          exact ⟨c, ρa, .brk, ρb, R1, eb, fun σ3 H3 R3 m3 => q σ3 H3 R3 (mm.trans m3)⟩
        · rename_i hn1 hn2 hn3
          refine ⟨c, ρa, o, ρ', R1, ei, ?_⟩
          cases o with
          | next => exact absurd ei (hn1 ρ')
          | brk => exact absurd ei (hn3 ρ')
          | cont => exact absurd ei (hn2 ρ')
          | ret d => exact q
          | retL d => exact q
      · rename_i ρa ea
        obtain ⟨e1, e2⟩ := so ei
        subst e1 e2
        exact ⟨c, ρi, false, ρa, Ri, ea, fun H1 R1 m1 => iteF (q σi H1 R1 (mi.trans m1))⟩
      · cases ei
end
end PG
end
section
set_option Elab.async false
set_option linter.all false
set_option maxRecDepth 100000
namespace PG
open PySem PySem.Spec PyProof.Rows L2

/-! ### slots forgotten and given back -/
section
variable {K : PySem.W.Frag} {c : Act} {ρ ρ' : Rho} {σ σ' : L2.St} {H H' : Hp}
theorem Rel.clear (R : Rel K c ρ σ H) {v : Nat} (hp : ρ[v]? = some none ∨ ∃ d, ρ[v]? = some (some (Cell.v d))) : Rel K c (ρ.set v none) (σ.set v none) H ∧ Stp c ρ σ H (ρ.set v none) (σ.set v none) H := by
  have hl : v < ρ.length := by
    rcases hp with h | ⟨d, h⟩ <;> exact lt_of_get h
  have nl : ∀ p ds, ρ[v]? ≠ some (some (Cell.l p ds)) := fun p ds z => by
    rcases hp with h | ⟨d, h⟩ <;> (rw [h] at z; cases z)
  have hl' : v < σ.length := by rw [← R.len]; exact hl
  have gs : ∀ j, (ρ.set v none)[j]? = if v = j then some none else ρ[j]? := fun j => get_set hl
  have gv : ∀ j, (σ.set v none)[j]? = if v = j then some none else σ[j]? := fun j => get_set hl'
  have own : ∀ b, Own (ρ.set v none) (σ.set v none) b → Own ρ σ b := fun b ⟨j, q, es, h1, h2⟩ => by
    rw [gs] at h1
    rw [gv] at h2
    by_cases e : v = j
    · rw [if_pos e] at h1; cases h1
    · rw [if_neg e] at h1 h2; exact ⟨j, q, es, h1, h2⟩
  have mv : Stp c ρ σ H (ρ.set v none) (σ.set v none) H := fun b o e n => ⟨e, fun z => n (z.elim .inl fun x => .inr (own b x))⟩
  refine ⟨⟨by rw [List.length_set, List.length_set]; exact R.len, fun j d' e => ?_, fun j q es e => ?_, fun j k q q' es es' b h1 h2 h3 h4 => ?_, fun j b => ?_, R.pA, R.old, R.av⟩, mv⟩
  · rw [gs] at e
    rw [gv]
    by_cases e1 : v = j
    · rw [if_pos e1] at e; cases e
    · rw [if_neg e1] at e
      obtain ⟨u, h1, h2⟩ := R.val j d' e
      exact ⟨u, by rw [if_neg e1]; exact h1, h2.mv mv⟩
  · rw [gs] at e
    rw [gv]
    by_cases e1 : v = j
    · rw [if_pos e1] at e; cases e
    · rw [if_neg e1] at e
      obtain ⟨b, vs, h1, h2, h3, h4⟩ := R.lst j q es e
      exact ⟨b, vs, by rw [if_neg e1]; exact h1, h2, h3.mv mv, h4⟩
  · rw [gs] at h1 h2
    rw [gv] at h3 h4
    by_cases e1 : v = j
    · rw [if_pos e1] at h1; cases h1
    · by_cases e2 : v = k
      · rw [if_pos e2] at h2; cases h2
      · rw [if_neg e1] at h1 h3
        rw [if_neg e2] at h2 h4
        exact R.dis j k q q' es es' b h1 h2 h3 h4
  · rw [R.pin, gs, gv]
    by_cases e : v = j
    · subst e
      rw [if_pos rfl, if_pos rfl]
      constructor
      · rintro ⟨es, h1, h2⟩; exact absurd h1 (nl true es)
      · rintro ⟨es, h1, h2⟩; cases h1
    · rw [if_neg e, if_neg e]
theorem wipeR_len (ρ : Rho) : ∀ vs : List Nat, (wipeR ρ vs).length = ρ.length
  | [] => rfl
  | v :: vs => by unfold wipeR; rw [List.length_set, wipeR_len ρ vs]
theorem wipeR_get (ρ : Rho) : ∀ (vs : List Nat) (j : Nat), (wipeR ρ vs)[j]? = if j ∈ vs ∧ j < ρ.length then some none else ρ[j]?
  | [], j => by simp [wipeR]
  | v :: vs, j => by
    unfold wipeR
    rw [List.getElem?_set, wipeR_len, wipeR_get ρ vs j]
    by_cases e : v = j
    · subst e
      by_cases h : v < ρ.length
      · simp [h]
      · simp [h]
    · simp [e, Ne.symm e]
theorem wipe_get (σ : L2.St) : ∀ (vs : List Nat) (j : Nat), (wipe σ vs)[j]? = if j ∈ vs ∧ j < σ.length then some none else σ[j]?
  | [], j => by simp [wipe]
  | v :: vs, j => by
    unfold wipe
    rw [List.getElem?_set, wipe_length, wipe_get σ vs j]
    by_cases e : v = j
    · subst e
      by_cases h : v < σ.length
      · simp [h]
      · simp [h]
    · simp [e, Ne.symm e]
theorem plain_iff {vs : List Nat} : plainAt ρ vs = true ↔ ∀ v ∈ vs, ρ[v]? = some none ∨ ∃ d, ρ[v]? = some (some (Cell.v d)) := by
  unfold plainAt
  rw [List.all_eq_true]
  refine ⟨fun h v hv => ?_, fun h v hv => ?_⟩
  · have := h v hv
    split at this
    · exact .inl (by assumption)
    · rename_i d hd; exact .inr ⟨d, hd⟩
    · cases this
  · rcases h v hv with e | ⟨d, e⟩ <;> simp [e]
theorem Rel.wipe (R : Rel K c ρ σ H) : ∀ {vs : List Nat}, plainAt ρ vs = true → Rel K c (wipeR ρ vs) (L2.wipe σ vs) H ∧ Stp c ρ σ H (wipeR ρ vs) (L2.wipe σ vs) H
  | [], _ => ⟨R, Mv.refl⟩
  | v :: vs, h => by
    have hv := plain_iff.mp h
    obtain ⟨R1, m1⟩ := Rel.wipe R (vs := vs) (plain_iff.mpr fun u hu => hv u (List.mem_cons_of_mem _ hu))
    have hp : (wipeR ρ vs)[v]? = some none ∨ ∃ d, (wipeR ρ vs)[v]? = some (some (Cell.v d)) := by
      rw [wipeR_get]
      by_cases e : v ∈ vs ∧ v < ρ.length
      · rw [if_pos e]; exact .inl rfl
      · rw [if_neg e]; exact hv v List.mem_cons_self
    obtain ⟨R2, m2⟩ := R1.clear hp
    exact ⟨R2, m1.trans m2⟩
theorem plain_wipe {vs : List Nat} (h : plainAt ρ vs = true) : plainAt (wipeR ρ vs) vs = true := plain_iff.mpr fun v hv => by
  rw [wipeR_get, if_pos ⟨hv, by rcases plain_iff.mp h v hv with e | ⟨d, e⟩ <;> exact lt_of_get e⟩]
  exact .inl rfl
theorem restR_len (ρ0 ρ : Rho) : ∀ vs : List Nat, (restR ρ0 ρ vs).length = ρ.length
  | [] => rfl
  | v :: vs => by unfold restR; rw [List.length_set, restR_len ρ0 ρ vs]
theorem restR_get (ρ0 ρ : Rho) : ∀ (vs : List Nat) (j : Nat), (restR ρ0 ρ vs)[j]? = if j ∈ vs ∧ j < ρ.length then some (ρ0[j]?.getD none) else ρ[j]?
  | [], j => by simp [restR]
  | v :: vs, j => by
    unfold restR
    rw [List.getElem?_set, restR_len, restR_get ρ0 ρ vs j]
    by_cases e : v = j
    · subst e
      by_cases h : v < ρ.length
      · simp [h]
      · simp [h]
    · simp [e, Ne.symm e]
theorem Rel.rest {c' : Act} {ρ1 ρ2 : Rho} {H1 Hi : Hp} {vs : List Nat} (R1 : Rel K c ρ1 σ H1) (R2 : Rel K c' ρ2 (L2.wipe σ vs) Hi) (m : Mv (Av c ρ1 σ) H1 (Av c' ρ2 (L2.wipe σ vs)) Hi) (h1 : plainAt ρ1 vs = true) (h2 : plainAt ρ2 vs = true) :
    Rel K c' (restR ρ1 ρ2 vs) σ Hi ∧ (∀ b, Own (restR ρ1 ρ2 vs) σ b ↔ Own ρ2 (L2.wipe σ vs) b) := by
  have l1 := R1.len
  have l2 : ρ2.length = σ.length := by rw [R2.len, wipe_length]
  have p1 := plain_iff.mp h1
  have p2 := plain_iff.mp h2
  have inlen : ∀ j ∈ vs, j < ρ2.length := fun j hj => by rcases p2 j hj with e | ⟨d, e⟩ <;> exact lt_of_get e
  have gin : ∀ j, j ∈ vs → (restR ρ1 ρ2 vs)[j]? = ρ1[j]? := fun j hj => by
    rw [restR_get, if_pos ⟨hj, inlen j hj⟩]
    rcases p1 j hj with e | ⟨d, e⟩ <;> rw [e] <;> rfl
  have gout : ∀ j, j ∉ vs → (restR ρ1 ρ2 vs)[j]? = ρ2[j]? := fun j hj => by rw [restR_get, if_neg fun z => hj z.1]
  have sout : ∀ j, j ∉ vs → (L2.wipe σ vs)[j]? = σ[j]? := fun j hj => by rw [wipe_get, if_neg fun z => hj z.1]
  have nl1 : ∀ j ∈ vs, ∀ p ds, ρ1[j]? ≠ some (some (Cell.l p ds)) := fun j hj p ds z => by
    rcases p1 j hj with h | ⟨d, h⟩ <;> (rw [h] at z; cases z)
  have nl2 : ∀ j ∈ vs, ∀ p ds, ρ2[j]? ≠ some (some (Cell.l p ds)) := fun j hj p ds z => by
    rcases p2 j hj with h | ⟨d, h⟩ <;> (rw [h] at z; cases z)
  have own : ∀ b, Own (restR ρ1 ρ2 vs) σ b ↔ Own ρ2 (L2.wipe σ vs) b := fun b => by
    constructor
    · rintro ⟨j, q, es, g1, g2⟩
      by_cases hj : j ∈ vs
      · rw [gin j hj] at g1; exact absurd g1 (nl1 j hj q es)
      · exact ⟨j, q, es, by rw [← gout j hj]; exact g1, by rw [sout j hj]; exact g2⟩
    · rintro ⟨j, q, es, g1, g2⟩
      by_cases hj : j ∈ vs
      · exact absurd g1 (nl2 j hj q es)
      · exact ⟨j, q, es, by rw [gout j hj]; exact g1, by rw [← sout j hj]; exact g2⟩
  have mv : Mv (Av c' ρ2 (L2.wipe σ vs)) Hi (Av c' (restR ρ1 ρ2 vs) σ) Hi := fun a o e n => ⟨e, fun z => n (z.elim .inl fun y => .inr ((own a).mp y))⟩
  refine ⟨⟨by rw [restR_len]; exact l2, fun j d e => ?_, fun j q es e => ?_, fun j k q q' es es' b g1 g2 g3 g4 => ?_, fun j b => ?_, R2.pA, R2.old, R2.av⟩, own⟩
  · by_cases hj : j ∈ vs
    · rw [gin j hj] at e
      obtain ⟨v, w1, w2⟩ := R1.val j d e
      exact ⟨v, w1, (w2.mv m).mv mv⟩
    · rw [gout j hj] at e
      obtain ⟨v, w1, w2⟩ := R2.val j d e
      exact ⟨v, by rw [← sout j hj]; exact w1, w2.mv mv⟩
  · by_cases hj : j ∈ vs
    · rw [gin j hj] at e; exact absurd e (nl1 j hj q es)
    · rw [gout j hj] at e
      obtain ⟨b, us, w1, w2, w3, w4⟩ := R2.lst j q es e
      exact ⟨b, us, by rw [← sout j hj]; exact w1, w2, w3.mv mv, w4⟩
  · by_cases hj : j ∈ vs
    · rw [gin j hj] at g1; exact absurd g1 (nl1 j hj _ _)
    · by_cases hk : k ∈ vs
      · rw [gin k hk] at g2; exact absurd g2 (nl1 k hk _ _)
      · rw [gout j hj] at g1
        rw [gout k hk] at g2
        exact R2.dis j k q q' es es' b g1 g2 (by rw [sout j hj]; exact g3) (by rw [sout k hk]; exact g4)
  · rw [R2.pin]
    by_cases hj : j ∈ vs
    · constructor
      · rintro ⟨es, g1, _⟩; exact absurd g1 (nl2 j hj _ _)
      · rintro ⟨es, g1, _⟩; rw [gin j hj] at g1; exact absurd g1 (nl1 j hj _ _)
    · rw [gout j hj, sout j hj]
/-- a list kept apart is written -/
theorem Rel.scratch (R : Rel K c ρ σ H) {p : Addr} {o : HO} (hA : c.A p) (hn : ∀ i, c.pn i ≠ some p) (h0 : c.H0 p = none) : Rel K c ρ σ (upd H p o) ∧ Stp c ρ σ H ρ σ (upd H p o) := by
  have mv : Stp c ρ σ H ρ σ (upd H p o) := fun b x e n => ⟨by rw [upd_ne fun z => n (by subst z; exact .inl hA)]; exact e, n⟩
  refine ⟨⟨R.len, fun j d e => ?_, fun j q es e => ?_, R.dis, R.pin, R.pA, fun b x e n => ?_, fun b hb => ?_⟩, mv⟩
  · obtain ⟨v, w1, w2⟩ := R.val j d e
    exact ⟨v, w1, w2.mv mv⟩
  · obtain ⟨b, us, w1, w2, w3, w4⟩ := R.lst j q es e
    have nb : b ≠ p := fun z => by
      subst z
      cases q with
      | false => exact (w4 rfl).2 hA
      | true => exact hn j ((R.pin j b).mpr ⟨es, e, w1⟩)
    exact ⟨b, us, w1, by rw [upd_ne nb]; exact w2, w3.mv mv, w4⟩
  · have nb : b ≠ p := fun z => by subst z; rw [h0] at e; cases e
    rw [upd_ne nb]
    exact R.old b x e n
  · by_cases z : b = p
    · subst z; rw [upd_same]; exact fun z => nomatch z
    · rw [upd_ne z]; exact R.av b hb
def Act.mem (c : Act) (p : Addr) (o : HO) : Act := { c with H0 := upd c.H0 p o }
theorem Rel.memo (R : Rel K c ρ σ H) {p : Addr} {o : HO} (hA : c.A p) (h : H p = some o) : Rel K (c.mem p o) ρ σ H :=
  ⟨R.len, R.val, fun j q es e => by
    obtain ⟨b, us, w1, w2, w3, w4⟩ := R.lst j q es e
    refine ⟨b, us, w1, w2, w3, fun z => ⟨?_, (w4 z).2⟩⟩
    show upd c.H0 p o b = none
    rw [upd_ne fun y => (w4 z).2 (by subst y; exact hA)]
    exact (w4 z).1, R.dis, R.pin, R.pA, fun b x e n => by
    by_cases z : b = p
    · subst z
      have e' : upd c.H0 b o b = some x := e
      rw [upd_same] at e'
      cases e'
      exact h
    · exact R.old b x (by
        have e' : upd c.H0 p o b = some x := e
        rw [upd_ne z] at e'
        exact e') n, R.av⟩
theorem Rel.unmemo {p : Addr} {o : HO} (R : Rel K (c.mem p o) ρ σ H) (h0 : c.H0 p = none) (hn : ∀ i, c.pn i ≠ some p) : Rel K c ρ σ H ∧ H p = some o := by
  refine ⟨⟨R.len, R.val, fun j q es e => ?_, R.dis, R.pin, R.pA, fun b x e n => ?_, R.av⟩, R.old p o upd_same hn⟩
  · obtain ⟨b, us, w1, w2, w3, w4⟩ := R.lst j q es e
    refine ⟨b, us, w1, w2, w3, fun z => ⟨?_, (w4 z).2⟩⟩
    have e1 : upd c.H0 p o b = none := (w4 z).1
    by_cases y : b = p
    · subst y; exact h0
    · rw [upd_ne y] at e1; exact e1
  · refine R.old b x ?_ n
    show upd c.H0 p o b = some x
    rw [upd_ne fun z => by subst z; rw [h0] at e; cases e]
    exact e
end
section
variable {X : Cx} {e a b : Expr} {pos : Pos} {f g h : EF} {tf tg : TF} {n m : NF} {es : List Expr}
theorem ptst_nil : PTs X [] (tT X.K tYesF) := ⟨fun pins s σ H Q I q => pts_nil.run pins s σ H Q I (by
  obtain ⟨c, ρ, b, ρ', R, e, q⟩ := q
  cases e
  exact q H R Mv.refl)⟩
theorem ptst_one (h : PT X a (tT X.K tf)) : PTs X [a] (tT X.K tf) := pts_one h
/-- a comprehension's reading -/
theorem rd_comp {K : PySem.W.Frag} {it : NF} {G : GF} {is vs : List Nat} (his : ∀ j ∈ is, j ∈ vs) : ∀ σ H Q, tN K (nComp it G tf f vs) σ H Q → tLc (tI K it) (tG K G is) (tT K tf) (tE K f) vs σ H Q := fun σ H Q ⟨c, ρ, ds, ρ', R, e, q⟩ => by
  unfold nComp at e
  split at e
  · rename_i ds0 ρ1 h1
    split at e
    · rename_i hp
      split at e
      · rename_i out ρ2 h2
        obtain ⟨e1, e2⟩ := so e
        subst e1 e2
        refine ⟨c, ρ, ds0, ρ1, R, h1, fun J H1 R1 m1 jo => fun Dd hD => ?_⟩
        have hn : ∀ i, c.pn i ≠ some Dd := fun i z => R1.av Dd (R1.pA i Dd z) hD
        have h0 : c.H0 Dd = none := R1.fresh0 hD
        obtain ⟨Rw, mw⟩ := R1.wipe hp
        have Rw' : Rel K (c.plus Dd) (wipeR ρ1 vs) (wipe σ vs) (upd H1 Dd (.lst [])) := Rw.plus hD (kp_upd hD) (by rw [upd_same]; exact fun z => nomatch z)
        have mw' : Mv (Av c ρ1 σ) H1 (Av (c.plus Dd) (wipeR ρ1 vs) (wipe σ vs)) (upd H1 Dd (.lst [])) := mw.trans (Rw.mvP hD (kp_upd hD))
        refine ⟨fun i m Hi => m = ds0.length - i ∧ i ≤ ds0.length ∧ ∃ ρi acc us, plainAt ρi vs = true ∧ Rel K (c.plus Dd) ρi (wipe σ vs) Hi ∧ Hi Dd = some (.lst us) ∧ RpA K (Av (c.plus Dd) ρi (wipe σ vs)) Hi us acc ∧
          Mv (Av c ρ1 σ) H1 (Av (c.plus Dd) ρi (wipe σ vs)) Hi ∧ compL G tf f vs (ds0.drop i) acc ρi = some (out, ρ2),
          ⟨ds0.length, by simp, Nat.zero_le _, wipeR ρ1 vs, [], [], plain_wipe hp, Rw', upd_same, .nil, mw', h2⟩, ?_⟩
        rintro i m Hi ⟨rfl, hi, ρi, acc, us, hpi, Ri, hDi, ri, mi, ei⟩
        obtain ⟨jg, js⟩ := jo _ _ _ Hi mi
        cases hd : ds0.drop i with
        | nil =>
          rw [hd] at ei
          unfold compL at ei
          obtain ⟨e1, e2⟩ := so ei
          subst e1 e2
          have : i = ds0.length := by
            have := congrArg List.length hd
            rw [List.length_drop, List.length_nil] at this
            omega
          subst this
          obtain ⟨Rr, own⟩ := R1.rest Ri mi hp hpi
          have mo : Mv (Av (c.plus Dd) ρi (wipe σ vs)) Hi (Av (c.plus Dd) (restR ρ1 ρi vs) σ) Hi := fun b o eb nb => ⟨eb, fun z => nb (z.elim .inl fun y => .inr ((own b).mp y))⟩
          have mt : Mv (Av c ρ1 σ) H1 (Av c (restR ρ1 ρi vs) σ) Hi := (mi.trans mo).trans mv_unplus
          refine .inl ⟨js, q Dd us Hi Rr hDi (ri.mv mo) (fun z => ?_) h0 (avOf (K := K) m1 hD) (m1.trans mt)⟩
          rcases z with z | z
          · exact R1.av Dd z hD
          · obtain ⟨j, p, es, w1, w2⟩ := (own Dd).mp z
            obtain ⟨b, us', g1, g2, g3, g4⟩ := Ri.lst j p es w1
            rw [w2] at g1
            cases g1
            cases p with
            | false => exact (g4 rfl).2 (.inr rfl)
            | true => exact hn j ((Ri.pin j Dd).mpr ⟨es, w1, w2⟩)
        | cons d r =>
          obtain ⟨g1, g2⟩ := drop_cons hd
          rw [hd] at ei
          obtain ⟨k1, k2⟩ := jg i d g1
          have hlt := lt_of_get g1
          unfold compL at ei
          split at ei
          · cases ei
          · rename_i ρa ea
            refine .inr ⟨k1, fun H' => ds0.length - (i + 1) = ds0.length - (i + 1) ∧ i + 1 ≤ ds0.length ∧ ∃ ρi acc us, plainAt ρi vs = true ∧ Rel K (c.plus Dd) ρi (wipe σ vs) H' ∧ H' Dd = some (.lst us) ∧ RpA K (Av (c.plus Dd) ρi (wipe σ vs)) H' us acc ∧
              Mv (Av c ρ1 σ) H1 (Av (c.plus Dd) ρi (wipe σ vs)) H' ∧ compL G tf f vs (ds0.drop (i + 1)) acc ρi = some (out, ρ2), fun H' z => ⟨ds0.length - (i + 1), by omega, z⟩, fun x H' y => ?_⟩
            obtain ⟨rfl, rx⟩ := k2 x H' y
            refine ⟨c.plus Dd, ρi, d, ρa, Ri, rx, ea, fun σ2 Ra ma hl hk => ?_⟩
            have hw : wipe σ2 vs = wipe σ vs := by
              apply List.ext_getElem?
              intro j
              rw [wipe_get, wipe_get]
              rw [hl, wipe_length]
              by_cases hj : j ∈ vs
              · by_cases hj2 : j < σ.length
                · rw [if_pos ⟨hj, hj2⟩, if_pos ⟨hj, hj2⟩]
                · rw [if_neg fun z => hj2 z.2, if_neg fun z => hj2 z.2, List.getElem?_eq_none (by rw [hl, wipe_length]; omega), List.getElem?_eq_none (by omega)]
              · rw [if_neg fun z => hj z.1, if_neg fun z => hj z.1, hk j fun z => hj (his j z), wipe_get, if_neg fun z => hj z.1]
            refine ⟨hw, ?_⟩
            have hA : (c.plus Dd).A Dd := .inr rfl
            have Ra' := Ra.memo hA hDi
            split at ei
            · cases ei
            · rename_i ρb eb
              split at ei
              · rename_i hpb
                refine ⟨_, ρa, false, ρb, Ra', eb, fun H3 R3 m3 => iteF ?_⟩
                obtain ⟨R3', hD3⟩ := R3.unmemo h0 hn
                obtain ⟨R4, m4⟩ := R3'.wipe hpb
                rw [hw] at R4 m4
                have mm := ma.trans (Mv.trans m3 m4)
                exact ⟨rfl, hlt, wipeR ρb vs, acc, us, plain_wipe hpb, R4, hD3, ri.mv mm, mi.trans mm, by rw [g2]; exact ei⟩
              · cases ei
            · rename_i ρb eb
              split at ei
              · cases ei
              · rename_i y ρc ec
                split at ei
                · rename_i hpc
                  simp only [Bool.and_eq_true, decide_eq_true_eq] at hpc
                  refine ⟨_, ρa, true, ρb, Ra', eb, fun H3 R3 m3 => iteT ?_⟩
                  refine ⟨_, ρb, y, ρc, R3, ec, fun v H4 R4 r4 m4 => ?_⟩
                  obtain ⟨R4', hD4⟩ := R4.unmemo h0 hn
                  obtain ⟨R5, m5⟩ := R4'.wipe hpc.1
                  rw [hw] at R5 m5
                  obtain ⟨R6, m6⟩ := R5.scratch (o := .lst (us ++ [v])) hA hn h0
                  have mm := ma.trans (Mv.trans m3 (Mv.trans m4 (Mv.trans m5 m6)))
                  refine ⟨us, hD4, by rw [ri.length, sl16]; exact hpc.2, rfl, hlt, wipeR ρc vs, acc ++ [y], us ++ [v], plain_wipe hpc.1, R6, upd_same, (ri.mv mm).app (.cons (r4.mv (Mv.trans m5 m6)) .nil), mi.trans mm, by rw [g2]; exact ei⟩
                · cases ei
      · cases e
    · cases e
  · cases e
theorem en_comp {elt tgt iter : Expr} {ifs : List Expr} {scope : Scope} {own : List (Str × Nat)} {it : NF} {G : GF} {is : List Nat} (hc : X.calm = true) (hN : X.N.Nodup) (hi : PI X tgt iter (tI X.K it)) (ok : BlkOk X.N X.env.scope scope own)
    (hg : ∀ (s : Shared) (H : Hp) (C : Addr) (cl : List (Str × Addr)) (fp : List Addr), PG (X.blk s H scope (compEnvC scope cl C X.env) fp) tgt (tG X.K G is)) (ht : ∀ (s : Shared) (H : Hp) (C : Addr) (cl : List (Str × Addr)) (fp : List Addr), PTs (X.blk s H scope (compEnvC scope cl C X.env) fp) ifs (tT X.K tf))
    (he : ∀ (s : Shared) (H : Hp) (C : Addr) (cl : List (Str × Addr)) (fp : List Addr), PE (X.blk s H scope (compEnvC scope cl C X.env) fp) elt (tE X.K f)) (his : ∀ j ∈ is, j ∈ own.map (·.2) := by decide) (hs : ∀ x, foldedSetIterable iter X.env x = pure x := by intro _; rfl) :
    PE X (.ListComp elt [⟨tgt, iter, ifs, 0⟩] scope pos) (tN X.K (nComp it G tf f (own.map (·.2)))) := pe_of (pe_lc hc hN hi ok hg ht he hs) (rd_comp his)
end
end PG
end
section
set_option Elab.async false
set_option linter.all false
set_option maxRecDepth 100000
namespace PG
open PySem PySem.Spec PyProof.Rows L2
section
variable {X : Cx} {e a b : Expr} {pos : Pos} {f g h : EF} {tf tg : TF} {n m : NF} {es : List Expr} {F G' : SF}
theorem rd_setV {K : PySem.W.Frag} {i : Nat} {t : TE} (k : ∀ σ H Q, tE K f σ H Q → t σ H Q) : ∀ E σ H, tS K (sSet i f) E σ H → tAsg t (gName i) E σ H := fun E σ H ⟨c, ρ, o, ρ', R, e, q⟩ => by
    unfold sSet at e
    split at e
    · rename_i d ρ1 h1
      split at e
      · rename_i ρ2 h2
        obtain ⟨e1, e2⟩ := so e
        subst e1 e2
        refine k _ _ _ ⟨c, ρ, d, ρ1, R, h1, fun v H' R' r' m => ?_⟩
        obtain ⟨R2, m2⟩ := R'.assign h2 r'
        exact q _ H' R2 (m.trans m2)
      · cases e
    · cases e
theorem rd_setL {K : PySem.W.Frag} {i : Nat} {t : TE} (k : ∀ σ H Q, tN K n σ H Q → t σ H Q) : ∀ E σ H, tS K (sSetL i n) E σ H → tAsg t (gName i) E σ H := fun E σ H ⟨c, ρ, o, ρ', R, e, q⟩ => by
    unfold sSetL at e
    split at e
    · rename_i d ρ1 h1
      split at e
      · rename_i ρ2 h2
        obtain ⟨e1, e2⟩ := so e
        subst e1 e2
        refine k _ _ _ ⟨c, ρ, d, ρ1, R, h1, fun a vs H' R' ha r' na h0 nw m => ?_⟩
        obtain ⟨R2, m2⟩ := R'.assignL h2 ha r' h0 na R.pA
        refine q _ H' R2 fun b o eb nb => ?_
        obtain ⟨w1, w2⟩ := m b o eb nb
        have nba : b ≠ a := fun z => by subst z; rw [nw nb] at eb; cases eb
        exact m2 b o w1 fun z => z.elim (fun y => y.elim (fun y => w2 (.inl y)) nba) fun y => w2 (.inr y)
      · cases e
    · cases e
theorem rd_newE {K : PySem.W.Frag} {t : TE} (k : ∀ σ H Q, tN K n σ H Q → t σ H Q) : ∀ σ H Q, tE K (eLst n) σ H Q → t σ H Q := fun σ H Q ⟨c, ρ, d, ρ', R, e, q⟩ => by
  unfold eLst at e
  split at e
  · rename_i xs ρ1 h1
    obtain ⟨e1, e2⟩ := so e
    subst e1 e2
    refine k _ _ _ ⟨c, ρ, xs, ρ1, R, h1, fun a vs H' R' ha r' na h0 nw m => ?_⟩
    have R2 := R'.unplus R.pA
    exact q _ _ R2 (.lst ⟨ha, na⟩ (r'.mv mv_unplus)) m
  · cases e
section
variable {i : Nat} {y : Str} {py : Pos} {elt tgt iter : Expr} {ifs : List Expr} {scope : Scope} {own : List (Str × Nat)} {spos : Pos} {it : NF} {G : GF} {is : List Nat}
theorem es_setLcV (hc : X.calm = true) (hN : X.N.Nodup) (hy : X.N[i]? = some y) (hyl : X.env.scope.names.lookup y = some .local)
    (hsw : swapsWith (.ListComp elt [⟨tgt, iter, ifs, 0⟩] scope pos) (some (.Name y py)) spos.line X.env = pure true) (hi : PI X tgt iter (tI X.K it)) (ok : BlkOk X.N X.env.scope scope own)
    (hg : ∀ (s : Shared) (H : Hp) (C : Addr) (cl : List (Str × Addr)) (fp : List Addr), PG (X.blk s H scope (compEnvC scope cl C X.env) fp) tgt (tG X.K G is)) (ht : ∀ (s : Shared) (H : Hp) (C : Addr) (cl : List (Str × Addr)) (fp : List Addr), PTs (X.blk s H scope (compEnvC scope cl C X.env) fp) ifs (tT X.K tf))
    (he : ∀ (s : Shared) (H : Hp) (C : Addr) (cl : List (Str × Addr)) (fp : List Addr), PE (X.blk s H scope (compEnvC scope cl C X.env) fp) elt (tE X.K f)) (his : ∀ j ∈ is, j ∈ own.map (·.2) := by decide) (hs : ∀ x, foldedSetIterable iter X.env x = pure x := by intro _; rfl) :
    PS X (.Assign [.Name y py] (.ListComp elt [⟨tgt, iter, ifs, 0⟩] scope pos) spos) (tS X.K (sSet i (eLst (nComp it G tf f (own.map (·.2)))))) :=
  ps_of (ps_setLc hc hN hy hyl hsw hi ok hg ht he hs) (rd_setV (rd_newE (rd_comp his)))
theorem es_setLcL (hc : X.calm = true) (hN : X.N.Nodup) (hy : X.N[i]? = some y) (hyl : X.env.scope.names.lookup y = some .local)
    (hsw : swapsWith (.ListComp elt [⟨tgt, iter, ifs, 0⟩] scope pos) (some (.Name y py)) spos.line X.env = pure true) (hi : PI X tgt iter (tI X.K it)) (ok : BlkOk X.N X.env.scope scope own)
    (hg : ∀ (s : Shared) (H : Hp) (C : Addr) (cl : List (Str × Addr)) (fp : List Addr), PG (X.blk s H scope (compEnvC scope cl C X.env) fp) tgt (tG X.K G is)) (ht : ∀ (s : Shared) (H : Hp) (C : Addr) (cl : List (Str × Addr)) (fp : List Addr), PTs (X.blk s H scope (compEnvC scope cl C X.env) fp) ifs (tT X.K tf))
    (he : ∀ (s : Shared) (H : Hp) (C : Addr) (cl : List (Str × Addr)) (fp : List Addr), PE (X.blk s H scope (compEnvC scope cl C X.env) fp) elt (tE X.K f)) (his : ∀ j ∈ is, j ∈ own.map (·.2) := by decide) (hs : ∀ x, foldedSetIterable iter X.env x = pure x := by intro _; rfl) :
    PS X (.Assign [.Name y py] (.ListComp elt [⟨tgt, iter, ifs, 0⟩] scope pos) spos) (tS X.K (sSetL i (nComp it G tf f (own.map (·.2))))) :=
  ps_of (ps_setLc hc hN hy hyl hsw hi ok hg ht he hs) (rd_setL (rd_comp his))
end

/-! ### defs -/
@[simp] def rho0 (ds : List PyData) (m : Nat) : Rho := ds.map (fun d => some (Cell.v d)) ++ List.replicate m none
@[simp] def rhoL (ps ds : List PyData) (m : Nat) : Rho := some (Cell.l true ps) :: (ds.map (fun d => some (Cell.v d)) ++ List.replicate m none)
@[simp] def endP : Option (Out × Rho) → Option PyData
  | some (.ret d, _) => some d
  | some (.retL ds, _) => some (.list ds)
  | some (.next, _) => some .none
  | _ => none
@[simp] def endN : Option (Out × Rho) → Option (List PyData)
  | some (.retL ds, _) => some ds
  | _ => none
@[simp] def pool0 (ρ : Rho) : Option (List PyData) := match ρ with
  | some (.l true ps) :: _ => some ps
  | _ => none
@[simp] def endL : Option (Out × Rho) → Option (PyData × List PyData)
  | some (.ret d, ρ) => (match pool0 ρ with
    | some ps => some (d, ps)
    | none => none)
  | some (.retL ds, ρ) => (match pool0 ρ with
    | some ps => some (.list ds, ps)
    | none => none)
  | some (.next, ρ) => (match pool0 ρ with
    | some ps => some (.none, ps)
    | none => none)
  | _ => none
def defP (b : SF) (k m : Nat) : List PyData → Option PyData := fun ds => if ds.length = k then endP (b (rho0 ds m)) else none
def defN (b : SF) (k m : Nat) : List PyData → Option (List PyData) := fun ds => if ds.length = k then endN (b (rho0 ds m)) else none
def defL (b : SF) (k m : Nat) : List PyData → List PyData → Option (PyData × List PyData) := fun ps ds => if ds.length = k then endL (b (rhoL ps ds m)) else none
theorem rho0_get {ds : List PyData} {m i : Nat} {cl : Cell} (h : (rho0 ds m)[i]? = some (some cl)) : ∃ d, ds[i]? = some d ∧ cl = .v d := by
  unfold rho0 at h
  rw [List.getElem?_append] at h
  split at h
  · rw [List.getElem?_map] at h
    cases e : ds[i]? with
    | none => rw [e] at h; cases h
    | some d => rw [e] at h; cases h; exact ⟨d, rfl, rfl⟩
  · rw [List.getElem?_replicate] at h
    split at h <;> cases h
theorem start_get {N : List Str} {vs : List V} {i : Nat} {v : V} (h : vs[i]? = some v) : (L2.start N vs)[i]? = some (some v) := by
  unfold L2.start
  rw [List.getElem?_append_left (by rw [List.length_map]; exact lt_of_get h), List.getElem?_map, h]
  rfl
theorem rel_start {K : PySem.W.Frag} {A : Addr → Prop} {H : Hp} {N : List Str} {vs : List V} {ds : List PyData} {m : Nat} (r : RpA K A H vs ds) (hA : ∀ a, A a → H a ≠ none) (hN : vs.length + m = N.length) :
    Rel K ⟨A, H, fun _ => none⟩ (rho0 ds m) (L2.start N vs) H := by
  have nown : ∀ b, ¬ Own (rho0 ds m) (L2.start N vs) b := fun b ⟨i, p, es, h1, _⟩ => by
    obtain ⟨d, _, z⟩ := rho0_get h1
    cases z
  refine ⟨?_, fun i d h => ?_, fun i p es h => ?_, fun i j p q es es' b h1 => ?_, fun i b => ?_, (fun i b h => nomatch h), fun b o h _ => h, hA⟩
  · unfold rho0 L2.start
    rw [List.length_append, List.length_append, List.length_map, List.length_map, List.length_replicate, List.length_replicate, r.length]
    rw [r.length] at hN
    omega
  · obtain ⟨d', h1, h2⟩ := rho0_get h
    cases h2
    obtain ⟨v, h3, h4⟩ := r.get h1
    exact ⟨v, start_get h3, h4.mv fun b o e n => ⟨e, fun z => z.elim n (nown b)⟩⟩
  · obtain ⟨d', h1, h2⟩ := rho0_get h
    cases h2
  · obtain ⟨d', _, h2⟩ := rho0_get h1
    cases h2
  · constructor
    · intro h; cases h
    · rintro ⟨es, h1, _⟩
      obtain ⟨d', _, h2⟩ := rho0_get h1
      cases h2
theorem rhoL_get {ps ds : List PyData} {m i : Nat} {cl : Cell} (h : (rhoL ps ds m)[i]? = some (some cl)) : (i = 0 ∧ cl = .l true ps) ∨ ∃ j d, i = j + 1 ∧ ds[j]? = some d ∧ cl = .v d := by
  cases i with
  | zero =>
    unfold rhoL at h
    simp at h
    exact .inl ⟨rfl, h.symm⟩
  | succ j =>
    have h' : (rho0 ds m)[j]? = some (some cl) := by
      unfold rhoL at h
      simpa [rho0] using h
    obtain ⟨d, h1, h2⟩ := rho0_get h'
    exact .inr ⟨j, d, rfl, h1, h2⟩
theorem rel_startL {K : PySem.W.Frag} {A : Addr → Prop} {H : Hp} {N : List Str} {a : Addr} {us ws : List V} {ps ds : List PyData} {m : Nat} (ha : H a = some (.lst us)) (rp : RpA K A H us ps) (hAa : A a) (r : RpA K A H ws ds) (hA : ∀ a, A a → H a ≠ none) (hN : ws.length + 1 + m = N.length) :
    Rel K ⟨A, H, fun i => if i = 0 then some a else none⟩ (rhoL ps ds m) (L2.start N (.ref a :: ws)) H := by
  have g0 : (L2.start N (.ref a :: ws))[0]? = some (some (V.ref a)) := start_get rfl
  have own : ∀ b, Own (rhoL ps ds m) (L2.start N (.ref a :: ws)) b → A b := fun b ⟨i, p, es, h1, h2⟩ => by
    rcases rhoL_get h1 with ⟨rfl, z⟩ | ⟨j, d, _, _, z⟩
    · rw [g0] at h2; cases h2; exact hAa
    · cases z
  have mv : Mv A H (Av ⟨A, H, fun i => if i = 0 then some a else none⟩ (rhoL ps ds m) (L2.start N (.ref a :: ws))) H := fun b o e n => ⟨e, fun z => z.elim n fun y => n (own b y)⟩
  refine ⟨?_, fun i d h => ?_, fun i p es h => ?_, fun i j p q es es' b h1 h2 h3 h4 => ?_, fun i b => ?_, fun i b h => ?_, fun b o h _ => h, hA⟩
  · unfold rhoL L2.start
    simp only [List.length_append, List.length_map, List.length_replicate, List.length_cons, r.length]
    rw [r.length] at hN
    omega
  · rcases rhoL_get h with ⟨_, z⟩ | ⟨j, d', rfl, h1, z⟩
    · cases z
    · cases z
      obtain ⟨v, h3, h4⟩ := r.get h1
      exact ⟨v, start_get (by simpa using h3), h4.mv mv⟩
  · rcases rhoL_get h with ⟨rfl, z⟩ | ⟨j, d', rfl, h1, z⟩
    · cases z
      exact ⟨a, us, g0, ha, rp.mv mv, fun z => nomatch z⟩
    · cases z
  · rcases rhoL_get h1 with ⟨rfl, _⟩ | ⟨_, _, _, _, z⟩
    · rcases rhoL_get h2 with ⟨rfl, _⟩ | ⟨_, _, _, _, z⟩
      · rfl
      · cases z
    · cases z
  · show (if i = 0 then some a else none) = some b ↔ _
    by_cases hi : i = 0
    · subst hi
      rw [if_pos rfl]
      constructor
      · intro h; cases h; exact ⟨ps, rfl, g0⟩
      · rintro ⟨es, h1, h2⟩; rw [g0] at h2; cases h2; rfl
    · rw [if_neg hi]
      constructor
      · intro h; cases h
      · rintro ⟨es, h1, h2⟩
        rcases rhoL_get h1 with ⟨rfl, _⟩ | ⟨_, _, _, _, z⟩
        · exact absurd rfl hi
        · cases z
  · have h' : (if i = 0 then some a else none) = some b := h
    by_cases hi : i = 0
    · rw [if_pos hi] at h'; cases h'; exact hAa
    · rw [if_neg hi] at h'; cases h'
end
section
variable {P : Program} {w : World} {K : PySem.W.Frag} {mg : Str → Option Value} {base : Heap} {x qual : Str} {st : Stmt} {fa : Addr} {fd : FuncData} {N ps : List Str} {j k m : Nat} {b : SF}
theorem ok_P (F : L2.Fun K x qual st fa fd) (S : FnScope N ps (defScope st)) (hk : ps.length = k) (hm : k + m = N.length)
    (hb : ∀ (cdv : Value) (A : Around) (outer : List Env) (s : Shared) (H : Hp) (E : XK), Room j (A.deeper (envOfC qual (defScope st) s.heap.objs.size fa cdv)) → PSs (cxOf CX0 P w K mg base N qual (defScope st) fa cdv A outer s H E).nox (defBody st) (tS K b)) :
    FnOk P w K mg base CX0 (j + 1) fa fd ps (spP K k (defP b k m)) := by
  refine F.ok S (fun vs H Q E h => h.1.trans hk.symm) fun cdv A outer s H vs Q E hr h => ?_
  obtain ⟨hl, A', ds, r, ra, hA, e, q⟩ := h
  refine ⟨_, hb cdv A outer s H E hr, ?_⟩
  have R := rel_start (m := m) (N := N) ra hA (by omega)
  unfold defP at e
  split at e
  · cases eb : b (rho0 ds m) with
    | none => rw [eb] at e; cases e
    | some z =>
      obtain ⟨o, ρ'⟩ := z
      rw [eb] at e
      have kp : ∀ σ' H', Rel K ⟨A', H, fun _ => none⟩ ρ' σ' H' → ∀ a o, H a = some o → H' a = some o := fun σ' H' R' a o h => R'.old a o h fun i z => nomatch z
      refine ⟨_, rho0 ds m, o, ρ', R, eb, ?_⟩
      cases o with
      | next => cases e; exact fun σ' H' R' _ => q .non H' (kp σ' H' R') .non
      | brk => cases e
      | cont => cases e
      | ret d => cases e; exact fun v σ' H' R' r' => q v H' (kp σ' H' R') r'
      | retL ds => cases e; exact fun a vs σ' H' R' ha r' h0 => q (.ref a) H' (kp σ' H' R') (.lst ⟨ha, fun z => hA a z h0⟩ (r'.mv fun b o e n => ⟨e, fun z => n (.inl z)⟩))
  · cases e
theorem ok_N (F : L2.Fun K x qual st fa fd) (S : FnScope N ps (defScope st)) (hk : ps.length = k) (hm : k + m = N.length)
    (hb : ∀ (cdv : Value) (A : Around) (outer : List Env) (s : Shared) (H : Hp) (E : XK), Room j (A.deeper (envOfC qual (defScope st) s.heap.objs.size fa cdv)) → PSs (cxOf CX0 P w K mg base N qual (defScope st) fa cdv A outer s H E).nox (defBody st) (tS K b)) :
    FnOk P w K mg base CX0 (j + 1) fa fd ps (spN K k (defN b k m)) := by
  refine F.ok S (fun vs H Q E h => h.1.trans hk.symm) fun cdv A outer s H vs Q E hr h => ?_
  obtain ⟨hl, A', ds, r, ra, hA, e, q⟩ := h
  refine ⟨_, hb cdv A outer s H E hr, ?_⟩
  have R := rel_start (m := m) (N := N) ra hA (by omega)
  unfold defN at e
  split at e
  · cases eb : b (rho0 ds m) with
    | none => rw [eb] at e; cases e
    | some z =>
      obtain ⟨o, ρ'⟩ := z
      rw [eb] at e
      have kp : ∀ σ' H', Rel K ⟨A', H, fun _ => none⟩ ρ' σ' H' → ∀ a o, H a = some o → H' a = some o := fun σ' H' R' a o h => R'.old a o h fun i z => nomatch z
      refine ⟨_, rho0 ds m, o, ρ', R, eb, ?_⟩
      cases o with
      | next => cases e
      | brk => cases e
      | cont => cases e
      | ret d => cases e
      | retL ds => cases e; exact fun a vs σ' H' R' ha r' h0 => q a vs H' (kp σ' H' R') h0 ha r'
  · cases e
theorem pool_get {ρ : Rho} {ps' : List PyData} (h : pool0 ρ = some ps') : ρ[0]? = some (some (.l true ps')) := by
  unfold pool0 at h
  split at h
  · cases h; rfl
  · cases h
theorem ok_L (F : L2.Fun K x qual st fa fd) (S : FnScope N ps (defScope st)) (hk : ps.length = k + 1) (hm : k + 1 + m = N.length)
    (hb : ∀ (cdv : Value) (A : Around) (outer : List Env) (s : Shared) (H : Hp) (E : XK), Room j (A.deeper (envOfC qual (defScope st) s.heap.objs.size fa cdv)) → PSs (cxOf CX0 P w K mg base N qual (defScope st) fa cdv A outer s H E).nox (defBody st) (tS K b)) :
    FnOk P w K mg base CX0 (j + 1) fa fd ps (spL K k (defL b k m)) := by
  refine F.ok S (fun vs H Q E h => h.1.trans hk.symm) fun cdv A outer s H vs Q E hr h => ?_
  obtain ⟨hl, A', a, us, ws, pl, ds, r, pl', rfl, ha, rp, hAa, ra, hA, e, q⟩ := h
  refine ⟨_, hb cdv A outer s H E hr, ?_⟩
  have hws : ws.length = k := by simpa using hl
  have R := rel_startL (m := m) (N := N) ha rp hAa ra hA (by omega)
  unfold defL at e
  split at e
  · cases eb : b (rhoL pl ds m) with
    | none => rw [eb] at e; cases e
    | some z =>
      obtain ⟨o, ρ'⟩ := z
      rw [eb] at e
      have fin : ∀ (ps2 : List PyData), pool0 ρ' = some ps2 → ∀ σ' H', Rel K ⟨A', H, fun i => if i = 0 then some a else none⟩ ρ' σ' H' → (∀ b o, b ≠ a → H b = some o → H' b = some o) ∧ ∃ us', H' a = some (.lst us') ∧ RpA K A' H' us' ps2 := fun ps2 hp σ' H' R' => by
        refine ⟨fun b o nb h => R'.old b o h fun i z => ?_, ?_⟩
        · have z' : (if i = 0 then some a else none) = some b := z
          by_cases hi : i = 0
          · rw [if_pos hi] at z'; cases z'; exact nb rfl
          · rw [if_neg hi] at z'; cases z'
        · obtain ⟨a', us', g1, g2, g3, _⟩ := R'.lst 0 true ps2 (pool_get hp)
          obtain ⟨es, w1, w2⟩ := (R'.pin 0 a).mp rfl
          rw [g1] at w2
          cases w2
          exact ⟨us', g2, g3.mv av_sub⟩
      refine ⟨_, rhoL pl ds m, o, ρ', R, eb, ?_⟩
      cases o with
      | next =>
        intro σ' H' R' _
        cases hp : pool0 ρ' with
        | none => simp only [endL, hp] at e; cases e
        | some ps2 =>
          simp only [endL, hp] at e
          cases e
          obtain ⟨h1, us', h2, h3⟩ := fin _ hp σ' H' R'
          exact q .non H' us' h1 h2 h3 .non
      | brk => cases e
      | cont => cases e
      | ret d =>
        intro v σ' H' R' r'
        cases hp : pool0 ρ' with
        | none => simp only [endL, hp] at e; cases e
        | some ps2 =>
          simp only [endL, hp] at e
          cases e
          obtain ⟨h1, us', h2, h3⟩ := fin _ hp σ' H' R'
          exact q v H' us' h1 h2 h3 r'
      | retL es =>
        intro a2 vs σ' H' R' ha2 r' h0
        cases hp : pool0 ρ' with
        | none => simp only [endL, hp] at e; cases e
        | some ps2 =>
          simp only [endL, hp] at e
          cases e
          obtain ⟨h1, us', h2, h3⟩ := fin _ hp σ' H' R'
          exact q (.ref a2) H' us' h1 h2 h3 (.lst ⟨ha2, fun z => hA a2 z h0⟩ (r'.mv fun b o e n => ⟨e, fun z => n (.inl z)⟩))
  · cases e
/-- the law itself -/
theorem law_sp {F1 : List PyData → Option PyData} {K : PySem.W.Frag} {H : Hp} {a : Addr} {ns : List Int} (hS : SqL K H a (ns.map V.int)) (hF : F1 [RO (ns.map PyData.int)] = some (.bool true)) :
    spP K 1 F1 [.ref a] H (fun v _ => v = .bl true) fun _ _ _ => False := by
  refine ⟨rfl, fun _ => False, [RO (ns.map PyData.int)], .bool true, .cons (.ro (xs := ns.map V.int) ?_ ?_) .nil, fun _ z => z.elim, hF, fun v H' _ r => by cases r; rfl⟩
  · rcases hS with h | h
    · exact .inl ⟨h, id⟩
    · exact .inr h
  · clear hS hF
    induction ns with
    | nil => exact .nil
    | cons i ns ih => exact .int i ih
end
end PG
end
section
set_option Elab.async false
set_option linter.all false
set_option maxRecDepth 100000
namespace PG
open PySem PySem.Spec PyProof.Rows L2
/-! ### set(xs) of a list of ints -/
abbrev sObj (w : World) : Obj := { cls := .type "set", dict := none, data := .set #[] 0 (.fresh 0 0 (!w.params.followText "set-order")) }
section
variable {P : Program} {w : World} {A : Around} {E : Value → Shared → Prop} {s : Shared}
set_option maxHeartbeats 4000000 in
theorem setOfList {l : Addr} {items : Array Value} (ns : List Int) {Q : Value → Shared → Prop} (hh : A.handled = none) (hl : s.heap.IsList l items) (hit : IntsAre items.toList ns) (hb : ns.length + 1 < scanBound)
    (h : ∀ (h' : Heap) (tk c : Nat), SetR w h' s.heap.objs.size (fun j => decide (j ∈ ns)) c → c ≤ ns.length → (∀ b o, s.heap.get? b = some o → h'.get? b = some o) → Q (.ref s.heap.objs.size) { s with heap := h', toks := tk }) :
    wpAny (model P w) A (call (.type "set") [.ref l]) Q E s := by
  have hisz : items.size = ns.length := by simpa using IntsAre.length hit
  obtain ⟨c, tl, hmro⟩ := F.called_set.mro
  have h3 := F.called_set.made
  have h4 := F.called_set.sub
  apply wpAny_call
  apply codeAny_of_tree
  show wpAny _ _ (callAny (.type "set") _) _ _ _
  apply wpAny_pure
  refine ⟨Code.quiet_builtin _ (by decide +kernel), codeAny_builtin F.entry_type_call ?_⟩
  rw [Around.under_plain (weight_type_call_type "set" [.ref l] []) rfl]
  have h1 := F.called_set.notType
  have h2 := F.called_set.canCreate
  have hct := F.typeCall_set_1 (.ref l)
  repeat (any_goals (first | assumption | wp_step))
  refine codeAny_mono (code_set_led1 (.ref l) (E := E) (Q₁ := fun u s1 => u = .ref s.heap.objs.size ∧ s1 = { s with heap := s.heap.push (sObj w) }) ⟨rfl, rfl⟩) fun r s1 hr => ?_
  cases r with
  | error e => exact hr
  | ok fl =>
    cases fl with
    | ret u =>
      obtain ⟨rfl, rfl⟩ := hr
      have gS : (s.heap.push (sObj w)).get? s.heap.objs.size = some (sObj w) := Heap.get?_push_size _ rfl
      have gT : Shared.TypeIs { s with heap := s.heap.push (sObj w) } (.ref s.heap.objs.size) "set" := ⟨_, gS, rfl⟩
      have i1 := F.called_set.init.lookup
      have i2 := F.called_set.init.bind (.ref s.heap.objs.size)
      repeat (any_goals (first | assumption | wp_step))
      refine codeAny_mono (codeAny_call_builtin (R := wants (fun r s2 => r = .none ∧ ∃ h' tk c, s2 = { s with heap := h', toks := tk } ∧ SetR w h' s.heap.objs.size (fun j => decide (j ∈ ns)) c ∧ c ≤ ns.length ∧
          (∀ b o, s.heap.get? b = some o → h'.get? b = some o)) E) F.called_set.init.plain F.entry_set_init (check_set_init_1 gT ?_)) fun r2 s2 hr2 => ?_
      · obtain ⟨⟨oc, od, dt, sl⟩, hol, hcl, nl, hdl⟩ := hl
        simp only at hcl hdl
        subst hcl hdl
        have hol' : (s.heap.push (sObj w)).get? l = some { cls := .type "list", dict := od, data := .seq items nl, slots := sl } := Heap.get?_push_of_some _ hol
        have k1 := F.sub_list_set
        have k2 := F.sub_list_frozenset
        have k3 : (Value.type "list" == Value.type "dict") = false := by decide
        have hl1 : (s.heap.push (sObj w)).IsList l items := ⟨_, hol', rfl, nl, rfl⟩
        unfold Builtin.«set.__init__» noKeywords Builtin.Frozenset.updateFrom
        generalize hPI : pyIter = PI
        wp_walk
        subst hPI
        apply wpAny_pyIter_list hl1
        refine wpAny_bind (wpAny_runValue ?_)
        have lS : l < s.heap.objs.size := Heap.lt_size hol
        have a3 : A.in1.in1.in1.handled = none := by simp [hh]
        have nI : l ≠ (s.heap.push (sObj w)).objs.size := by
          rw [Heap.size_push]
          exact Nat.ne_of_lt (Nat.lt_succ_of_lt lS)
        have nS : s.heap.objs.size ∉ [(s.heap.push (sObj w)).objs.size, l] := by
          rw [Heap.size_push]
          simp only [List.mem_cons, List.not_mem_nil, or_false, not_or]
          exact ⟨Nat.ne_of_lt (Nat.lt_succ_self _), Nat.ne_of_gt lS⟩
        have hv : ∀ (i : Nat) (v : Value), items[i]? = some v → ∃ k t, ns[i]? = some k ∧ v = .int k t := fun i v hv => by
          have hi : i < ns.length := by rw [← hisz]; exact (Array.getElem?_eq_some_iff.mp hv).1
          obtain ⟨t, e⟩ := PyProof.Rows.IntsAre.int_at hit i v (by rw [Array.getElem?_toList]; exact hv)
          exact ⟨ns[i], t, List.getElem?_eq_getElem hi, by rw [e, List.getD_eq_getElem?_getD, List.getElem?_eq_getElem hi] <;> rfl⟩
        refine set_update_ints ((Walks.list a3 _ l nI items).toS) s.heap.objs.size nS ns hisz hb hv (items.size - 0) 0 _ (by omega) (Nat.zero_le _) ⟨⟨_, Heap.get?_push_size _ rfl, rfl, rfl⟩, (hl1.push _)⟩ ?g0 ?g1
        case g0 => exact ⟨0, Nat.le_refl 0, setR_new_at (Heap.get?_push_of_some _ gS)⟩
        case g1 =>
          intro s' c' hm hc' hS'
          obtain ⟨h', g2, d', tk', os'⟩ := s'
          obtain rfl : g2 = s.gens := hm.gens
          obtain rfl : d' = s.drawn := hm.drawn
          obtain rfl : os' = s.os := hm.os
          show wpAny _ _ _ _ _ _
          apply wpAny_pure
          show wpAny _ _ (ret Value.none) _ _ _
          rw [hisz] at hc'
          refine wpAny_pure ⟨rfl, h', tk', c', rfl, hS', hc', fun b o e => ?_⟩
          have hb0 : b < s.heap.objs.size := Heap.lt_size e
          refine hm.heap b o ?_ (Heap.get?_push_of_some _ (Heap.get?_push_of_some _ e))
          simp only [List.mem_cons, List.not_mem_nil, or_false, not_or, Heap.size_push]
          exact ⟨Nat.ne_of_lt hb0, Nat.ne_of_lt (Nat.lt_succ_of_lt hb0)⟩
      · cases r2 with
        | error e => exact hr2
        | ok fl2 =>
          cases fl2 with
          | ret z =>
            obtain ⟨rfl, h', tk, c', rfl, q1, q2, q3⟩ := hr2
            repeat (any_goals (first | assumption | wp_step))
            exact h h' tk c' q1 q2 q3
          | _ => exact hr2
    | _ => exact hr
end
section
variable {X : Cx} {e a b : Expr} {pos : Pos} {f g h : EF} {tf tg : TF} {n m : NF} {es : List Expr}
/-! ### sorted(set(xs)) -/
def intsOf : List PyData → Option (List Int)
  | [] => some []
  | .int i :: r => (match intsOf r with
    | some l => some (i :: l)
    | none => none)
  | _ :: _ => none
theorem intsOf_map : ∀ {ds : List PyData} {ns : List Int}, intsOf ds = some ns → ds = ns.map PyData.int
  | [], ns, h => by cases h; rfl
  | d :: r, ns, h => by
    unfold intsOf at h
    split at h
    · rename_i hh; cases hh
    · rename_i i r' hh
      cases hh
      split at h
      · rename_i l hl
        cases h
        rw [intsOf_map hl]
        rfl
      · cases h
    · cases h
/-- the members, ascending, each once -/
def insI (k : Int) : List Int → List Int
  | [] => [k]
  | x :: r => if k < x then k :: x :: r else if k = x then x :: r else x :: insI k r
def sortI : List Int → List Int
  | [] => []
  | k :: r => insI k (sortI r)
theorem mem_insI (k j : Int) : ∀ l : List Int, j ∈ insI k l ↔ j = k ∨ j ∈ l
  | [] => by simp [insI]
  | x :: r => by
    unfold insI
    by_cases h1 : k < x
    · rw [if_pos h1]; simp
    · rw [if_neg h1]
      by_cases h2 : k = x
      · rw [if_pos h2]
        subst h2
        simp
      · rw [if_neg h2, List.mem_cons, mem_insI k j r, List.mem_cons]
        constructor
        · rintro (h | h | h)
          · exact .inr (.inl h)
          · exact .inl h
          · exact .inr (.inr h)
        · rintro (h | h | h)
          · exact .inr (.inl h)
          · exact .inl h
          · exact .inr (.inr h)
theorem mem_sortI (j : Int) : ∀ l : List Int, j ∈ sortI l ↔ j ∈ l
  | [] => by simp [sortI]
  | k :: r => by
    unfold sortI
    rw [mem_insI, mem_sortI j r, List.mem_cons]
theorem pw_insI (k : Int) : ∀ l : List Int, l.Pairwise (· < ·) → (insI k l).Pairwise (· < ·)
  | [], _ => by simp [insI]
  | x :: r, h => by
    unfold insI
    obtain ⟨h1, h2⟩ := List.pairwise_cons.mp h
    by_cases c1 : k < x
    · rw [if_pos c1]
      refine List.pairwise_cons.mpr ⟨fun y hy => ?_, h⟩
      rcases List.mem_cons.mp hy with e | e
      · omega
      · have := h1 y e; omega
    · rw [if_neg c1]
      by_cases c2 : k = x
      · rw [if_pos c2]; exact h
      · rw [if_neg c2]
        refine List.pairwise_cons.mpr ⟨fun y hy => ?_, pw_insI k r h2⟩
        rcases (mem_insI k y r).mp hy with e | e
        · omega
        · exact h1 y e
theorem pw_sortI : ∀ l : List Int, (sortI l).Pairwise (· < ·)
  | [] => by simp [sortI]
  | k :: r => pw_insI k _ (pw_sortI r)
theorem len_insI (k : Int) : ∀ l : List Int, (insI k l).length ≤ l.length + 1
  | [] => by simp [insI]
  | x :: r => by
    unfold insI
    by_cases c1 : k < x
    · rw [if_pos c1]; simp
    · rw [if_neg c1]
      by_cases c2 : k = x
      · rw [if_pos c2]; simp
      · rw [if_neg c2]; simp; exact len_insI k r
theorem len_sortI : ∀ l : List Int, (sortI l).length ≤ l.length
  | [] => by simp [sortI]
  | k :: r => by
    have h1 := len_insI k (sortI r)
    have h2 := len_sortI r
    unfold sortI
    simp only [List.length_cons]
    omega
/-- two ascending lists with the same members are one -/
theorem pw_eq : ∀ {l m : List Int}, l.Pairwise (· < ·) → m.Pairwise (· < ·) → (∀ k, k ∈ l ↔ k ∈ m) → l = m
  | [], [], _, _, _ => rfl
  | [], y :: m, _, _, h => by have := (h y).mpr (by simp); simp at this
  | x :: l, [], _, _, h => by have := (h x).mp (by simp); simp at this
  | x :: l, y :: m, hl, hm, h => by
    obtain ⟨l1, l2⟩ := List.pairwise_cons.mp hl
    obtain ⟨m1, m2⟩ := List.pairwise_cons.mp hm
    have e : x = y := by
      rcases List.mem_cons.mp ((h x).mp (by simp)) with e | e
      · exact e
      · rcases List.mem_cons.mp ((h y).mpr (by simp)) with e2 | e2
        · exact e2.symm
        · have a1 := m1 x e
          have a2 := l1 y e2
          omega
    subst e
    rw [pw_eq l2 m2 fun k => ?_]
    constructor
    · intro hk
      rcases List.mem_cons.mp ((h k).mp (List.mem_cons_of_mem _ hk)) with e | e
      · subst e; exact absurd (l1 k hk) (Int.lt_irrefl _)
      · exact e
    · intro hk
      rcases List.mem_cons.mp ((h k).mpr (List.mem_cons_of_mem _ hk)) with e | e
      · subst e; exact absurd (m1 k hk) (Int.lt_irrefl _)
      · exact e
/-- sorted(set(xs)): fewer than 64 items -/
def dSortSet : PyData → Option (List PyData)
  | .list ds => (match intsOf ds with
    | some ns => if ns.length < 64 then some ((sortI ns).map PyData.int) else none
    | none => none)
  | _ => none
def rSetLI (K : PySem.W.Frag) (w : World) : List V → Hp → VK → Prop := fun xs H Q => ∃ (l : Addr) (ns : List Int), xs = [.ref l] ∧ SqL K H l (ns.map V.int) ∧ ns.length < 64 ∧
  ∀ p c, c ≤ ns.length → H p = none → Q (.ref p) (upd H p (SetO w p (fun j => decide (j ∈ ns)) c))
theorem cr_setLI (hc : X.calm = true) : CallR X (.type "set") (rSetLI X.K X.w) := by
  intro pins s σ H xs us Q I r hq
  obtain ⟨l, ns, rfl, hl, hn, q⟩ := hq
  obtain ⟨u, rfl, ru⟩ := vals1 r
  cases ru
  obtain ⟨its, rv, pl, hz⟩ := I.list hl
  refine setOfList ns (I.ok.hd hc) pl.isList (by simpa using intsAre_of rv) (by unfold scanBound; omega) fun h' tk c R1 hc' k => ?_
  have hf : H s.heap.objs.size = none := I.hok.fresh (Nat.le_refl _)
  exact ⟨.ref _, _, I.laid (t' := tk) k (Nat.le_refl _) (setO_new R1), rfl, q _ c hc' hf⟩
theorem en_sortSet {p1 p2 q1 : Pos} (hc : X.calm = true) (hg : Gl X "sorted") (hm : X.mg "sorted" = none) (hg2 : Gl X "set") (hm2 : X.mg "set" = none) (ha : PE X a (tE X.K f))
    (na : starEach [a] X.env = (false, eval a X.env) :: starEach [] X.env := by rfl) (ns1 : starEach [.Call (.Name "set" p2) [a] [] q1] X.env = (false, eval (.Call (.Name "set" p2) [a] [] q1) X.env) :: starEach [] X.env := by rfl) :
    PE X (.Call (.Name "sorted" p1) [.Call (.Name "set" p2) [a] [] q1] [] pos) (tN X.K (nCall (n1of dSortSet) (nCons f nNil))) :=
  pe_of (pe_callB (cr_sortedSet hc) hg hm (by decide +kernel) (pa_cons (pe_callTy (cr_setLI hc) hg2 hm2 PyProof.Rows.boot_set (pa_cons ha pa_nil na) (he := na)) pa_nil ns1) (he := ns1)) fun σ H Q ⟨c, ρ, d, ρ', R, e, q⟩ => by
    unfold nCall at e
    split at e
    · rename_i xs ρ1 h1
      split at e
      · rename_i z h2
        obtain ⟨e1, e2⟩ := so e
        subst e1 e2
        obtain ⟨x, ρ2, xs', w1, w2, rfl⟩ := ncons_inv h1
        cases w2
        obtain ⟨y, hy, h3⟩ := n1_inv h2
        cases hy
        unfold dSortSet at h3
        split at h3
        · rename_i ds
          split at h3
          · rename_i ns hns
            split at h3
            · rename_i hlen
              cases h3
              refine ⟨c, ρ, _, ρ1, R, w1, fun v H1 R1 r1 m1 => ?_⟩
              cases r1 with
              | @lst p xs _ l al =>
                have hds := intsOf_map hns
                subst hds
                have hxs := al.ints
                subst hxs
                refine ⟨p, ns, rfl, l.sq, hlen, fun p2 cc hcc hp2 => ?_⟩
                refine ⟨p2, _, cc, rfl, upd_same, by omega, fun ms p3 o1 o2 o3 hp3 => ?_⟩
                have hms : ms = sortI ns := pw_eq o1 (pw_sortI ns) fun k => by rw [o2, mem_sortI]; simp
                subst hms
                have g1 : ∀ a o, H1 a = some o → upd (upd H1 p2 (SetO X.w p2 (fun j => decide (j ∈ ns)) cc)) p3 (.lst ((sortI ns).map V.int)) a = some o := fun b o eb => kp_upd hp3 b o (kp_upd hp2 b o eb)
                have n3 : H1 p3 = none := by
                  cases e3 : H1 p3 with
                  | none => rfl
                  | some o =>
                    have := kp_upd (o := SetO X.w p2 (fun j => decide (j ∈ ns)) cc) hp2 p3 o e3
                    rw [this] at hp3
                    cases hp3
                refine q p3 _ _ (R1.plus n3 g1 (by rw [upd_same]; exact fun z => nomatch z)) upd_same (RpA.ofInts _) (R1.noAv n3) (R1.fresh0 n3) (avOf (K := X.K) m1 n3) (m1.trans (R1.mvG g1))
            · cases h3
          · cases h3
        · cases h3
      · cases e
    · cases e
end
end PG
end
section
set_option Elab.async false
set_option linter.all false
set_option maxRecDepth 100000
namespace PG
open PySem PySem.Spec PyProof.Rows L2
section
variable {X : Cx} {e a b : Expr} {pos : Pos} {f g h : EF} {tf tg : TF} {n m : NF} {es : List Expr}
/-! ### owned lists, read -/
theorem unl_inv {o : PyData → Option PyData} {i : Nat} {ρ ρ' : Rho} {d : PyData} (h : eUnL o i ρ = some (d, ρ')) : ∃ p ds, ρ[i]? = some (some (Cell.l p ds)) ∧ o (.list ds) = some d ∧ ρ' = ρ := by
  unfold eUnL at h
  split at h
  · rename_i p ds h1
    split at h
    · rename_i z h2
      obtain ⟨e1, e2⟩ := so h
      subst e1 e2
      exact ⟨p, ds, h1, h2, rfl⟩
    · cases h
  · cases h
theorem ev_lenO {i : Nat} {p : Pos} (hv : PE X a (tVar i)) (hg : Gl X "len") (hm : X.mg "len" = none) (na : starEach [a] X.env = (false, eval a X.env) :: starEach [] X.env := by rfl) : PE X (.Call (.Name "len" p) [a] [] pos) (tE X.K (eUnL dLen i)) :=
  pe_of (pe_callB call_len_seq hg hm PySem.boot_len (pa_cons hv pa_nil na) (he := na)) fun σ H Q ⟨c, ρ, d, ρ', R, e, q⟩ => by
    obtain ⟨pp, ds, h1, h2, rfl⟩ := unl_inv e
    obtain ⟨l, us, g1, g2, g3, _⟩ := R.lst i pp ds h1
    cases h2
    exact ⟨.ref l, g1, l, us, rfl, .inl (.inl (.inl g2)), by rw [g3.length]; exact q _ H R (.int _) Mv.refl⟩
theorem ev_tupO {i : Nat} {p : Pos} (hv : PE X a (tVar i)) (hg : Gl X "tuple") (hm : X.mg "tuple" = none) (na : starEach [a] X.env = (false, eval a X.env) :: starEach [] X.env := by rfl) : PE X (.Call (.Name "tuple" p) [a] [] pos) (tE X.K (eUnL dTupOf i)) :=
  pe_of (pe_callTy call_tuple_of hg hm PyProof.Rows.boot_tuple (pa_cons hv pa_nil na) (he := na)) fun σ H Q ⟨c, ρ, d, ρ', R, e, q⟩ => by
    obtain ⟨pp, ds, h1, h2, rfl⟩ := unl_inv e
    obtain ⟨l, us, g1, g2, g3, _⟩ := R.lst i pp ds h1
    cases h2
    exact ⟨.ref l, g1, l, us, rfl, .inl ⟨.inl (.inl g2), fun p hp => q _ _ (R.alloc hp).1 (R.newTup hp g3) (R.mvG (kp_upd hp))⟩⟩
@[simp] def tTruL (i : Nat) : TF := fun ρ => match ρ[i]? with
  | some (some (.l _ ds)) => some (!ds.isEmpty, ρ)
  | _ => none
theorem et_truO {i : Nat} (hv : PE X a (tVar i)) (he : ∀ whole, isTrue a X.env whole = (do let v ← whole; standAt a.pos; holding [v] (truthy v)) := by intro _; rfl) : PT X a (tT X.K (tTruL i)) :=
  pt_of (pt_truth hv he) fun σ H Q ⟨c, ρ, d, ρ', R, e, q⟩ => by
    unfold tTruL at e
    split at e
    · rename_i pp ds h1
      obtain ⟨e1, e2⟩ := so e
      subst e1 e2
      obtain ⟨l, us, g1, g2, g3, _⟩ := R.lst i pp ds h1
      refine ⟨.ref l, g1, _, .inl ⟨us, .inl (.inl g2), ?_⟩, q H R Mv.refl⟩
      cases g3 <;> rfl
    · cases e
/-! x op= e -/
@[simp] def sAug (i : Nat) (o : PyData → PyData → Option PyData) (f : EF) : SF := fun ρ => match ρ[i]? with
  | some (some (.v x)) => (match f ρ with
    | some (y, ρ1) => (match o x y with
      | some z => (match setV i z ρ1 with
        | some ρ2 => some (.next, ρ2)
        | none => none)
      | none => none)
    | none => none)
  | _ => none
theorem pip_of {X : Cx} {op : Operator} {r : R2} (ho : OpR X (inplaceOp op) r) : PIp X op r := fun pins s σ H x y v u Q I r1 r2 q => ho pins s σ H x y v u Q I r1 r2 q
theorem es_aug {i : Nat} {x : Str} {op : Operator} {r : R2} {o : PyData → PyData → Option PyData} {pos' : Pos} (hN : X.N.Nodup) (hi : X.N[i]? = some x) (hx : Loc X.env.scope x) (ho : OpR X (inplaceOp op) r) (s : OpS X.K r o) (he : PE X e (tE X.K f))
    (hf : X.fn x = true ∨ X.env.scope.names.lookup x = some .local := by first | exact .inl rfl | exact .inr rfl | assumption) : PS X (.AugAssign (.Name x pos') op e pos) (tS X.K (sAug i o f)) :=
  ps_of (ps_aug hN hi hx he (pip_of ho) hf) fun E σ H ⟨c, ρ, ot, ρ', R, e, q⟩ => by
    unfold sAug at e
    split at e
    · rename_i x h0
      split at e
      · rename_i y ρ1 h1
        split at e
        · rename_i z h2
          split at e
          · rename_i ρ2 h3
            obtain ⟨e1, e2⟩ := so e
            subst e1 e2
            obtain ⟨v, g1, g2⟩ := R.val i x h0
            refine ⟨v, g1, c, ρ, y, ρ1, R, h1, fun u H1 R1 r1 m1 => ?_⟩
            refine s c ρ1 σ H1 v u x y z _ R1 (g2.mv m1) r1 h2 fun w H2 R2 r2 k2 => ?_
            obtain ⟨R3, m3⟩ := R2.assign h3 r2
            exact q _ H2 R3 ((m1.trans (R1.mvG k2)).trans m3)
          · cases e
        · cases e
      · cases e
    · cases e
theorem iop_addD : OpR X (inplaceOp .Add) (rI0 fun i j => .int (i + j)) := iop_add
@[simp] def dAddI := dI2 cT fun i j => .int (i + j)
theorem os_addI {K : PySem.W.Frag} : OpS K (rI0 fun i j => .int (i + j)) dAddI := os_i20 fun _ _ _ _ => .int _
/-! iterating a list or a tuple -/
@[simp] def itS (f : EF) : NF := fun ρ => match f ρ with
  | some (.list xs, ρ1) => some (xs, ρ1)
  | some (.tuple xs, ρ1) => some (xs, ρ1)
  | some (.dict [(.list xs, .none)], ρ1) => some (xs, ρ1)
  | _ => none
theorem ei_seq {tgt : Expr} (he : PE X e (tE X.K f)) : PI X tgt e (tI X.K (itS f)) := ⟨fun pins s σ H R I hq => by
  obtain ⟨c, ρ, ds, ρ', R0, e1, q⟩ := hq
  unfold itS at e1
  split at e1
  · rename_i xs ρ1 h1
    exact (ei_list he).run pins s σ H R I ⟨c, ρ, ds, ρ', R0, by unfold itL; rw [h1]; exact e1, q⟩
  · rename_i xs ρ1 h1
    exact (ei_tup he).run pins s σ H R I ⟨c, ρ, ds, ρ', R0, by unfold itT; rw [h1]; exact e1, q⟩
  · rename_i xs ρ1 h1
    exact (ei_list he).run pins s σ H R I ⟨c, ρ, ds, ρ', R0, by unfold itL; rw [h1]; exact e1, q⟩
  · cases e1⟩
/-! ### slices -/
@[simp] def oE : Option EF → Rho → Option (Option Int × Rho)
  | none, ρ => some (none, ρ)
  | some g, ρ => (match g ρ with
    | some (.int i, ρ1) => some (some i, ρ1)
    | _ => none)
def tO (K : PySem.W.Frag) (g : Option EF) : TO := fun σ H Q => ∃ (c : Act) (ρ : Rho) (o : Option Int) (ρ' : Rho), Rel K c ρ σ H ∧ oE g ρ = some (o, ρ') ∧ ∀ H', Rel K c ρ' σ H' → Stp c ρ σ H ρ' σ H' → Q o H'
theorem po_of {e : Option Expr} {t t' : TO} (h : PO X e t) (k : ∀ σ H Q, t' σ H Q → t σ H Q) : PO X e t' := ⟨fun pins s σ H Q I q => h.run pins s σ H Q I (k σ H Q q)⟩
theorem eo_none : PO X none (tO X.K none) := po_of po_none fun σ H Q ⟨c, ρ, o, ρ', R, e, q⟩ => by
  cases e
  exact q H R Mv.refl
theorem eo_some (h : PE X a (tE X.K g)) : PO X (some a) (tO X.K (some g)) := po_of (po_some h) fun σ H Q ⟨c, ρ, o, ρ', R, e, q⟩ => by
  unfold oE at e
  simp only at e
  split at e
  · rename_i i ρ1 h1
    obtain ⟨e1, e2⟩ := so e
    subst e1 e2
    exact ⟨c, ρ, _, ρ1, R, h1, fun v H' R' r' m => by cases r'; exact ⟨i, rfl, q H' R' m⟩⟩
  · cases e
@[simp] def nSl (f : EF) (lo hi : Option EF) : NF := fun ρ => match f ρ with
  | some (.list xs, ρ1) => (match oE lo ρ1 with
    | some (l, ρ2) => (match oE hi ρ2 with
      | some (u, ρ3) => some (cutD xs l u, ρ3)
      | none => none)
    | none => none)
  | some (.dict [(.list xs, .none)], ρ1) => (match oE lo ρ1 with
    | some (l, ρ2) => (match oE hi ρ2 with
      | some (u, ρ3) => some (cutD xs l u, ρ3)
      | none => none)
    | none => none)
  | _ => none
@[simp] def eSlT (f : EF) (lo hi : Option EF) : EF := fun ρ => match f ρ with
  | some (.tuple xs, ρ1) => (match oE lo ρ1 with
    | some (l, ρ2) => (match oE hi ρ2 with
      | some (u, ρ3) => some (.tuple (cutD xs l u), ρ3)
      | none => none)
    | none => none)
  | _ => none
theorem cut_rp {K : PySem.W.Frag} {A : Addr → Prop} {H : Hp} {vs : List V} {ds : List PyData} (r : RpA K A H vs ds) (l u : Option Int) : RpA K A H (cutV vs l u) (cutD ds l u) := by
  have e1 : ∀ n d o, sIxD n d o = HT.sIx n d o := fun n d o => by cases o <;> rfl
  unfold cutV cutD
  rw [r.length, e1, e1]
  exact (r.drop _).take _
theorem en_sl {lo hi : Option Expr} {l u : Option EF} {p2 : Pos} (ha : PE X a (tE X.K f)) (hl : PO X lo (tO X.K l)) (hu : PO X hi (tO X.K u)) : PE X (.Subscript a (.Slice lo hi none p2) pos) (tN X.K (nSl f l u)) :=
  pe_of (pe_slice sl_list ha hl hu) fun σ H Q ⟨c, ρ, d, ρ', R, e, q⟩ => by
    unfold nSl at e
    split at e
    · rename_i xs ρ1 h1
      split at e
      · rename_i l' ρ2 h2
        split at e
        · rename_i u' ρ3 h3
          obtain ⟨e1, e2⟩ := so e
          subst e1 e2
          refine ⟨c, ρ, _, ρ1, R, h1, fun v H1 R1 r1 m1 => ⟨c, ρ1, l', ρ2, R1, h2, fun H2 R2 m2 => ⟨c, ρ2, u', ρ3, R2, h3, fun H3 R3 m3 => ?_⟩⟩⟩
          cases r1.mv (m2.trans m3) with
          | @lst p us _ ll al =>
            refine ⟨p, us, rfl, ll.sq, fun p2 hp => ?_⟩
            exact q p2 _ _ (R3.plus hp (kp_upd hp) (by rw [upd_same]; exact fun z => nomatch z)) upd_same ((cut_rp al l' u').mv (R3.mvP hp (kp_upd hp))) (R3.noAv hp) (R3.fresh0 hp) (avOf (K := X.K) ((m1.trans m2).trans m3) hp) (((m1.trans m2).trans m3).trans (R3.mvG (kp_upd hp)))
        · cases e
      · cases e
    · rename_i xs ρ1 h1
      split at e
      · rename_i l' ρ2 h2
        split at e
        · rename_i u' ρ3 h3
          obtain ⟨e1, e2⟩ := so e
          subst e1 e2
          refine ⟨c, ρ, _, ρ1, R, h1, fun v H1 R1 r1 m1 => ⟨c, ρ1, l', ρ2, R1, h2, fun H2 R2 m2 => ⟨c, ρ2, u', ρ3, R2, h3, fun H3 R3 m3 => ?_⟩⟩⟩
          cases r1.mv (m2.trans m3) with
          | @ro p us _ ll al =>
            refine ⟨p, us, rfl, ll.sq, fun p2 hp => ?_⟩
            exact q p2 _ _ (R3.plus hp (kp_upd hp) (by rw [upd_same]; exact fun z => nomatch z)) upd_same ((cut_rp al.rp l' u').mv (R3.mvP hp (kp_upd hp))) (R3.noAv hp) (R3.fresh0 hp) (avOf (K := X.K) ((m1.trans m2).trans m3) hp) (((m1.trans m2).trans m3).trans (R3.mvG (kp_upd hp)))
        · cases e
      · cases e
    · cases e
theorem cut_whole {n lo hi : Nat} {xs : List PyData} (h1 : lo = 0) (h2 : hi = xs.length) : (xs.drop lo).take (hi - lo) = xs := by
  subst h1 h2
  simp
theorem ev_slT {lo hi : Option Expr} {l u : Option EF} {p2 : Pos} (ha : PE X a (tE X.K f)) (hl : PO X lo (tO X.K l)) (hu : PO X hi (tO X.K u)) : PE X (.Subscript a (.Slice lo hi none p2) pos) (tE X.K (eSlT f l u)) :=
  pe_of (pe_slice sl_tupA ha hl hu) fun σ H Q ⟨c, ρ, d, ρ', R, e, q⟩ => by
    unfold eSlT at e
    split at e
    · rename_i xs ρ1 h1
      split at e
      · rename_i l' ρ2 h2
        split at e
        · rename_i u' ρ3 h3
          obtain ⟨e1, e2⟩ := so e
          subst e1 e2
          refine ⟨c, ρ, _, ρ1, R, h1, fun v H1 R1 r1 m1 => ⟨c, ρ1, l', ρ2, R1, h2, fun H2 R2 m2 => ⟨c, ρ2, u', ρ3, R2, h3, fun H3 R3 m3 => ?_⟩⟩⟩
          cases r1.mv (m2.trans m3) with
          | @tup p us _ ll al =>
            have mm := (m1.trans m2).trans m3
            refine ⟨p, us, rfl, ll.sq, fun hw => ?_, fun hw p2 hp => ?_⟩
            · have ec : cutD xs l' u' = xs := by
                have e1 : ∀ n d o, sIxD n d o = HT.sIx n d o := fun n d o => by cases o <;> rfl
                unfold cutD
                rw [← al.length, e1, e1, hw.1, hw.2, al.length]
                simp
              rw [ec] at q
              exact q _ H3 R3 (.tup ll al) mm
            · exact q _ _ (R3.alloc hp).1 (R3.newTup hp (cut_rp al l' u')) (mm.trans (R3.mvG (kp_upd hp)))
        · cases e
      · cases e
    · cases e
end
/-- long enough -/
def FUEL : Nat := 1000000
theorem whl_mono {t : TF} {b : SF} : ∀ (k n : Nat) (ρ : Rho) (r : Out × Rho), whl t b k ρ = some r → k ≤ n → whl t b n ρ = some r
  | 0, _, _, _, h, _ => by cases h
  | k + 1, 0, _, _, _, h => by omega
  | k + 1, n + 1, ρ, r, h, hl => by
    unfold whl at h ⊢
    split at h
    · rename_i ρ1 h1
      split at h
      · rename_i ρ2 h2
        exact whl_mono k n ρ2 r h (by omega)
      · rename_i ρ2 h2
        exact whl_mono k n ρ2 r h (by omega)
      · rename_i ρ2 h2
        exact h
      · rename_i n1 n2 n3
        exact h
    · exact h
    · cases h
end PG
end
section
set_option Elab.async false
set_option linter.all false
set_option maxRecDepth 100000
namespace PG
open PySem PySem.Spec PyProof.Rows L2
section
variable {X : Cx} {e a b : Expr} {pos : Pos} {f g h : EF} {tf tg : TF} {n m : NF} {es : List Expr}
/-! ### sum of ints -/
@[simp] def dSum : PyData → Option PyData
  | .list ds => (match intsOf ds with
    | some ns => some (.int ns.sum)
    | none => none)
  | .tuple ds => (match intsOf ds with
    | some ns => some (.int ns.sum)
    | none => none)
  | _ => none
def rSumA (K : PySem.W.Frag) : List V → Hp → VK → Prop := fun vs H Q => ∃ (a : Addr) (ns : List Int), vs = [V.ref a] ∧ (SqL K H a (ns.map V.int) ∨ SqT K H a (ns.map V.int)) ∧ Q (.int ns.sum) H
theorem cr_sumA (hc : X.calm = true) : CallR X (.builtin "sum") (rSumA X.K) := by
  intro pins s σ H vs us Q I r hq
  obtain ⟨l, ns, rfl, hl, q⟩ := hq
  rcases hl with hl | hl
  · exact cr_sum hc pins s σ H _ us Q I r ⟨l, ns, rfl, hl, q⟩
  · obtain ⟨u, rfl, ru⟩ := vals1 r
    cases ru
    obtain ⟨its, rv, pt, hz⟩ := I.tuple hl
    have hi : IntsAre its ns := intsAre_of rv
    obtain ⟨xs, ex⟩ := hi.allInts.items
    have hn : numsOf (intItems xs).toList = ns := by rw [← ex]; exact hi.numsOf
    rw [nums_intItems] at hn
    have pt' : s.heap.IsTuple l (intItems xs) := by rw [← ex]; exact pt
    refine PySem.W.ktm_sumG (I.ok.hd hc) pt' fun h' tk t' hk => ?_
    refine ⟨.int ns.sum, H, I.kept hk, ⟨t', ?_⟩, q⟩
    rw [preSum_eq, List.take_of_length_le (by simp), hn]
theorem fs_sum {K : PySem.W.Frag} : FnS K (rSumA K) (o1of dSum) := by
  intro c ρ σ H vs ds d Q R r ho q
  obtain ⟨x, rfl, h2⟩ := o1_inv ho
  obtain ⟨v, rfl, w1⟩ := rpa1 r
  unfold dSum at h2
  split at h2
  · split at h2
    · rename_i ns hn
      cases h2
      have hds := intsOf_map hn
      subst hds
      cases w1 with
      | lst l al =>
        have hx := al.ints
        subst hx
        exact ⟨_, ns, rfl, .inl l.sq, os_same R q (.int _)⟩
    · cases h2
  · split at h2
    · rename_i ns hn
      cases h2
      have hds := intsOf_map hn
      subst hds
      cases w1 with
      | tup l al =>
        have hx := al.ints
        subst hx
        exact ⟨_, ns, rfl, .inr l.sq, os_same R q (.int _)⟩
    · cases h2
  · cases h2
/-! ### (*xs, ..) -/
@[simp] def nStar (f : EF) (g : NF) : NF := fun ρ => match f ρ with
  | some (.list xs, ρ1) => (match g ρ1 with
    | some (ys, ρ2) => some (xs ++ ys, ρ2)
    | none => none)
  | some (.tuple xs, ρ1) => (match g ρ1 with
    | some (ys, ρ2) => some (xs ++ ys, ρ2)
    | none => none)
  | _ => none
theorem ea_star {p : Pos} (ha : PE X a (tE X.K f)) (hr : PA X es (tA X.K n)) (hs : starEach (.Starred a p :: es) X.env = (true, eval a X.env) :: starEach es X.env := by rfl) : PA X (.Starred a p :: es) (tA X.K (nStar f n)) :=
  pa_of (StX.pa_star ha hr hs) fun σ H Q ⟨c, ρ, ds, ρ', R, e, q⟩ => by
    unfold nStar at e
    split at e
    · rename_i xs ρ1 h1
      split at e
      · rename_i ys ρ2 h2
        obtain ⟨e1, e2⟩ := so e
        subst e1 e2
        refine ⟨c, ρ, _, ρ1, R, h1, fun v H1 R1 r1 m1 => ?_⟩
        cases r1 with
        | lst l al => exact ⟨_, _, rfl, .inr l.sq, c, ρ1, ys, ρ2, R1, h2, fun vs H2 R2 r2 m2 => q _ H2 R2 ((al.mv m2).app r2) (m1.trans m2)⟩
      · cases e
    · rename_i xs ρ1 h1
      split at e
      · rename_i ys ρ2 h2
        obtain ⟨e1, e2⟩ := so e
        subst e1 e2
        refine ⟨c, ρ, _, ρ1, R, h1, fun v H1 R1 r1 m1 => ?_⟩
        cases r1 with
        | tup l al => exact ⟨_, _, rfl, .inl l.sq, c, ρ1, ys, ρ2, R1, h2, fun vs H2 R2 r2 m2 => q _ H2 R2 ((al.mv m2).app r2) (m1.trans m2)⟩
      · cases e
    · cases e
/-! ### [..] * n -/
@[simp] def dRep : PyData → PyData → Option PyData
  | .list xs, .int k => if -9223372036854775808 ≤ k ∧ k < 9223372036854775808 ∧ xs.length * k.toNat ≤ 16777216 then some (.list (List.replicate k.toNat xs).flatten) else none
  | _, _ => none
theorem rpa_rep {K : PySem.W.Frag} {A : Addr → Prop} {H : Hp} {vs : List V} {ds : List PyData} (r : RpA K A H vs ds) : ∀ k : Nat, RpA K A H (List.replicate k vs).flatten (List.replicate k ds).flatten
  | 0 => .nil
  | k + 1 => by
    rw [List.replicate_succ, List.replicate_succ, List.flatten_cons, List.flatten_cons]
    exact r.app (rpa_rep r k)
theorem os_rep {K : PySem.W.Frag} : OpS K rRep dRep := by
  intro c ρ σ H v1 v2 x y d Q R r1 r2 ho q
  unfold dRep at ho
  split at ho
  · split at ho
    · rename_i hk
      cases ho
      cases r2
      cases r1 with
      | lst l al =>
        refine ⟨_, _, _, rfl, rfl, l.1, by omega, by omega, by rw [al.length, sl16]; exact hk.2.2, fun p hp => ?_⟩
        exact q _ _ (R.alloc hp).1 (R.newLst hp (rpa_rep al _)) (R.alloc hp).2
    · cases ho
  · cases ho
/-! ### range(0, n, c) -/
def stp (c : Int) (n : Nat) : List PyData := (List.range n).map fun k => .int (0 + (k : Nat) * c)
@[simp] def itR3 (f : NF) : NF := fun ρ => match f ρ with
  | some ([.int i, .int j, .int c], ρ1) => if i = 0 ∧ c = 2 ∧ 0 ≤ j ∧ j ≤ 16777216 then some (stp 2 ((j + 1) / 2).toNat, ρ1) else none
  | _ => none
theorem jok_stp {K : PySem.W.Frag} {c : Act} {ρ : Rho} {σ : L2.St} {H : Hp} (cc : Int) (n : Nat) : JOk K c ρ σ H (Itc 0 cc n) (stp cc n) := fun c' ρi σi Hi m => by
  refine ⟨fun i d hd => ?_, ?_⟩
  · unfold stp at hd
    rw [List.getElem?_map] at hd
    rcases Nat.lt_or_ge i n with h | h
    · rw [List.getElem?_range h] at hd
      cases hd
      exact ⟨h, fun x H' y => ⟨y.1, by rw [y.2]; exact .int _⟩⟩
    · rw [List.getElem?_eq_none (by simpa using h)] at hd
      cases hd
  · show n ≤ (stp cc n).length
    unfold stp
    rw [List.length_map, List.length_range]
    exact Nat.le_refl _
theorem rgc2 {j : Int} (h0 : 0 ≤ j) (h1 : j ≤ 16777216) : RgC 0 j 2 ((j + 1) / 2).toNat := by
  have e : Builtin.Range.rangeSize 0 j 2 = (((j + 1) / 2).toNat : Int) := by
    unfold Builtin.Range.rangeSize
    rw [if_pos (by decide)]
    split <;> omega
  refine ⟨by decide, by decide, ?_, e⟩
  unfold Builtin.Range.small
  rw [e]
  simp only [Builtin.Range.rangeFitsLong, Bool.and_eq_true, Bool.or_eq_true, decide_eq_true_eq, beq_iff_eq, show (2 : Int) > 0 by decide, if_true]
  omega
theorem ei_rng3 {tgt e3 : Expr} {p : Pos} (hg : Gl X "range") (hm : X.mg "range" = none) (ha : PA X [a, b, e3] (tA X.K n)) (hs : starEach [a, b, e3] X.env = (false, eval a X.env) :: starEach [b, e3] X.env := by rfl)
    (hpl : (backTo pos (starEach [b, e3] X.env)).any (·.1) = false := by rfl) : PI X tgt (.Call (.Name "range" p) [a, b, e3] [] pos) (tI X.K (itR3 n)) :=
  pi_of (pi_range3 hg hm ha hs hpl) fun σ H R ⟨c, ρ, ds, ρ', R0, e, q⟩ => by
    unfold itR3 at e
    split at e
    · rename_i i j k ρ1 h1
      split at e
      · rename_i hj
        obtain ⟨e1, e2⟩ := so e
        subst e1 e2
        obtain ⟨rfl, rfl, j0, j1⟩ := hj
        refine ⟨c, ρ, _, ρ1, R0, h1, fun vs H1 R1 r1 m1 => ?_⟩
        cases r1 with
        | cons w1 t1 =>
          obtain ⟨v, v', rfl, w2, w3⟩ := rpa2 t1
          cases w1
          cases w2
          cases w3
          exact ⟨0, j, 2, _, rfl, rgc2 j0 j1, q _ H1 R1 m1 (jok_stp 2 _)⟩
      · cases e
    · cases e
end
@[simp] theorem isTy_int_none  : isTy "int" .none = false := by simp [isTy, isN, tyName]
@[simp] theorem isTy_int_bool (b : Bool) : isTy "int" (.bool b) = true := by simp [isTy, isN, tyName]
@[simp] theorem isTy_int_int (i : Int) : isTy "int" (.int i) = true := by simp [isTy, isN, tyName]
@[simp] theorem isTy_int_str (x : Str) : isTy "int" (.str x) = false := by simp [isTy, isN, tyName]
@[simp] theorem isTy_int_list (xs : List PyData) : isTy "int" (.list xs) = false := by simp [isTy, isN, tyName]
@[simp] theorem isTy_int_tuple (xs : List PyData) : isTy "int" (.tuple xs) = false := by simp [isTy, isN, tyName]
@[simp] theorem isTy_bool_none  : isTy "bool" .none = false := by simp [isTy, isN, tyName]
@[simp] theorem isTy_bool_bool (b : Bool) : isTy "bool" (.bool b) = true := by simp [isTy, isN, tyName]
@[simp] theorem isTy_bool_int (i : Int) : isTy "bool" (.int i) = false := by simp [isTy, isN, tyName]
@[simp] theorem isTy_bool_str (x : Str) : isTy "bool" (.str x) = false := by simp [isTy, isN, tyName]
@[simp] theorem isTy_bool_list (xs : List PyData) : isTy "bool" (.list xs) = false := by simp [isTy, isN, tyName]
@[simp] theorem isTy_bool_tuple (xs : List PyData) : isTy "bool" (.tuple xs) = false := by simp [isTy, isN, tyName]
@[simp] theorem isTy_str_none  : isTy "str" .none = false := by simp [isTy, isN, tyName]
@[simp] theorem isTy_str_bool (b : Bool) : isTy "str" (.bool b) = false := by simp [isTy, isN, tyName]
@[simp] theorem isTy_str_int (i : Int) : isTy "str" (.int i) = false := by simp [isTy, isN, tyName]
@[simp] theorem isTy_str_str (x : Str) : isTy "str" (.str x) = true := by simp [isTy, isN, tyName]
@[simp] theorem isTy_str_list (xs : List PyData) : isTy "str" (.list xs) = false := by simp [isTy, isN, tyName]
@[simp] theorem isTy_str_tuple (xs : List PyData) : isTy "str" (.tuple xs) = false := by simp [isTy, isN, tyName]
@[simp] theorem isTy_list_none  : isTy "list" .none = false := by simp [isTy, isN, tyName]
@[simp] theorem isTy_list_bool (b : Bool) : isTy "list" (.bool b) = false := by simp [isTy, isN, tyName]
@[simp] theorem isTy_list_int (i : Int) : isTy "list" (.int i) = false := by simp [isTy, isN, tyName]
@[simp] theorem isTy_list_str (x : Str) : isTy "list" (.str x) = false := by simp [isTy, isN, tyName]
@[simp] theorem isTy_list_list (xs : List PyData) : isTy "list" (.list xs) = true := by simp [isTy, isN, tyName]
@[simp] theorem isTy_list_tuple (xs : List PyData) : isTy "list" (.tuple xs) = false := by simp [isTy, isN, tyName]
@[simp] theorem isTy_tuple_none  : isTy "tuple" .none = false := by simp [isTy, isN, tyName]
@[simp] theorem isTy_tuple_bool (b : Bool) : isTy "tuple" (.bool b) = false := by simp [isTy, isN, tyName]
@[simp] theorem isTy_tuple_int (i : Int) : isTy "tuple" (.int i) = false := by simp [isTy, isN, tyName]
@[simp] theorem isTy_tuple_str (x : Str) : isTy "tuple" (.str x) = false := by simp [isTy, isN, tyName]
@[simp] theorem isTy_tuple_list (xs : List PyData) : isTy "tuple" (.list xs) = false := by simp [isTy, isN, tyName]
@[simp] theorem isTy_tuple_tuple (xs : List PyData) : isTy "tuple" (.tuple xs) = true := by simp [isTy, isN, tyName]
@[simp] theorem dEq_ii (i j : Int) : dEq (.int i) (.int j) = some (.bool (decide (i = j))) := rfl
@[simp] theorem dNe_ii (i j : Int) : dNe (.int i) (.int j) = some (.bool (!decide (i = j))) := rfl
@[simp] theorem dEq_bb (a b : Bool) : dEq (.bool a) (.bool b) = some (.bool (a == b)) := rfl
@[simp] theorem dNe_bb (a b : Bool) : dNe (.bool a) (.bool b) = some (.bool (!(a == b))) := rfl
theorem dEq_self : ∀ {d : PyData}, SeqAt.shaped d = true → PyData.eqv d d = true → dEq d d = some (.bool true)
  | .int i, _, _ => by simp
  | .none, _, _ => rfl
  | .bool b, _, _ => by simp
  | .str x, h, e => by simp [dEq, h, e]
  | .list xs, h, e => by simp [dEq, h, e]
  | .tuple xs, h, e => by simp [dEq, h, e]
  | .dict xs, h, e => by simp [dEq, h, e]
end PG
end
section
set_option Elab.async false
set_option linter.all false
set_option maxRecDepth 100000
namespace PG
open PySem PySem.Spec PyProof.Rows L2
section
variable {X : Cx} {e a b : Expr} {pos : Pos} {f g h : EF} {n m : NF} {es : List Expr}
/-! ### sorted(xs), pairs of whole numbers -/
def sPairs (K : PySem.W.Frag) : List V → Hp → VK → Prop := fun vs H Q => ∃ (a : Addr) (xs : List V) (k : V → Int × Int), vs = [V.ref a] ∧ SqL K H a xs ∧ (∀ x ∈ xs, ∃ t, x = V.ref t ∧ SqT K H t [.int (k x).1, .int (k x).2]) ∧
  ∀ ys p, SrtO.Srtd (ltP k) ys → SrtO.Stb (ltP k) ys xs → H p = none → Q (.ref p) (upd H p (.lst ys))
theorem cr_sPairs : CallR X (.builtin "sorted") (sPairs X.K) := by
  intro pins s σ H vs us Q I r h
  obtain ⟨a, xs, k, rfl, hs, hx, q⟩ := h
  obtain ⟨its, rv, hl, hz⟩ := I.list hs
  obtain ⟨u, rfl, ru⟩ := vals1 r
  obtain rfl : u = Value.ref a := ru
  obtain ⟨e1, e2⟩ := refs_back rv fun x m => by
    obtain ⟨t, e, _⟩ := hx x m
    exact ⟨t, e⟩
  refine SrtO.sorted_pairsO (k := fun u => k (backV u)) hl.isList (by rw [← rv.length]; exact hz) (fun v hv => ?_) fun h' d out h1 h2 kp hd hn => ?_
  · obtain ⟨t, rfl⟩ := e2 v hv
    have hm : V.ref t ∈ xs := by rw [e1]; exact List.mem_map.mpr ⟨_, hv, rfl⟩
    obtain ⟨t', e, ht⟩ := hx _ hm
    cases e
    obtain ⟨its2, r2, ⟨o, ho, hc, n, hd⟩, _⟩ := I.tuple ht
    obtain ⟨u1, u2, rfl, ri, rj⟩ := vals2 r2
    obtain ⟨t1, rfl⟩ := ri
    obtain ⟨t2, rfl⟩ := rj
    exact ⟨t, o, t1, t2, n, rfl, ho, hc, hd⟩
  · have h3 : ∀ u ∈ out, ∃ a, u = Value.ref a := fun u hu => e2 u (h2.perm.mem_iff.mp hu)
    obtain ⟨n, hn⟩ := hn
    have hb : SrtO.Stb (ltP k) (out.map backV) xs := by
      rw [e1]
      exact SrtO.Stb.map (ltP_swo k) backV h2
    refine ⟨.ref d, upd H d (.lst (out.map backV)), I.laid (t' := s.toks) kp hd ⟨?_, out, n, vals_back h3, hn⟩, rfl, q _ d (SrtO.srtd_map h1) hb (I.hok.fresh hd)⟩
    rw [hb.len]
    exact hz
/-- the pairs, by their first and then by their second number -/
def insP (k : Int × Int) : List (Int × Int) → List (Int × Int)
  | [] => [k]
  | j :: r => if SrtO.lexB j k then j :: insP k r else k :: j :: r
def sortP : List (Int × Int) → List (Int × Int)
  | [] => []
  | k :: r => insP k (sortP r)
theorem perm_insP (k : Int × Int) : ∀ l, (insP k l).Perm (k :: l)
  | [] => List.Perm.refl _
  | j :: r => by
    unfold insP
    split
    · exact ((perm_insP k r).cons j).trans (List.Perm.swap k j r)
    · exact List.Perm.refl _
theorem perm_sortP : ∀ l, (sortP l).Perm l
  | [] => List.Perm.refl _
  | k :: r => (perm_insP k _).trans ((perm_sortP r).cons k)
/-- sorted: no later one is before an earlier one -/
def SrtP (l : List (Int × Int)) : Prop := l.Pairwise fun x y => SrtO.lexB y x = false
theorem srt_insP (k : Int × Int) : ∀ l, SrtP l → SrtP (insP k l)
  | [], _ => by simp [SrtP, insP]
  | j :: r, h => by
    obtain ⟨h1, h2⟩ := List.pairwise_cons.mp h
    unfold insP
    split
    · rename_i c
      refine List.pairwise_cons.mpr ⟨fun x hx => ?_, srt_insP k r h2⟩
      rcases List.mem_cons.mp ((perm_insP k r).mem_iff.mp hx) with rfl | hx
      · have := SrtO.lexB_iff.mp c
        refine SrtO.lexB_no.mpr ?_
        omega
      · exact h1 x hx
    · rename_i c
      have c' : SrtO.lexB j k = false := by simpa using c
      refine List.pairwise_cons.mpr ⟨fun x hx => ?_, h⟩
      rcases List.mem_cons.mp hx with rfl | hx
      · exact c'
      · have a := SrtO.lexB_no.mp c'
        have b := SrtO.lexB_no.mp (h1 x hx)
        refine SrtO.lexB_no.mpr ?_
        omega
theorem srt_sortP : ∀ l, SrtP (sortP l)
  | [] => by simp [SrtP, sortP]
  | k :: r => srt_insP k _ (srt_sortP r)
theorem srt_uniq : ∀ {l m : List (Int × Int)}, SrtP l → SrtP m → l.Perm m → l = m
  | [], m, _, _, h => (List.Perm.eq_nil h.symm).symm
  | x :: l, [], _, _, h => absurd h.length_eq (by simp)
  | x :: l, y :: m, hl, hm, h => by
    obtain ⟨l1, l2⟩ := List.pairwise_cons.mp hl
    obtain ⟨m1, m2⟩ := List.pairwise_cons.mp hm
    have e : x = y := by
      rcases List.mem_cons.mp (h.mem_iff.mp (List.mem_cons_self (a := x) (l := l))) with e | hx
      · exact e
      · rcases List.mem_cons.mp (h.mem_iff.mpr (List.mem_cons_self (a := y) (l := m))) with e | hy
        · exact e.symm
        · have a := SrtO.lexB_no.mp (m1 x hx)
          have b := SrtO.lexB_no.mp (l1 y hy)
          exact Prod.ext (by omega) (by omega)
    subst e
    rw [srt_uniq l2 m2 h.cons_inv]
def pairOf : PyData → Option (Int × Int)
  | .tuple [.int i, .int j] => some (i, j)
  | _ => none
def pairsOf : List PyData → Option (List (Int × Int))
  | [] => some []
  | d :: r => (match pairOf d, pairsOf r with
    | some p, some l => some (p :: l)
    | _, _ => none)
def prD (x : Int × Int) : PyData := .tuple [.int x.1, .int x.2]
theorem pairOf_eq {d : PyData} {p : Int × Int} (h : pairOf d = some p) : d = prD p := by
  unfold pairOf at h
  split at h
  · cases h; rfl
  · cases h
theorem pairsOf_eq : ∀ {ds : List PyData} {l : List (Int × Int)}, pairsOf ds = some l → ds = l.map prD
  | [], l, h => by cases h; rfl
  | d :: r, l, h => by
    unfold pairsOf at h
    split at h
    · rename_i p l' h1 h2
      cases h
      rw [pairOf_eq h1, pairsOf_eq h2]
      rfl
    · cases h
def dSortP : PyData → Option (List PyData)
  | .list ds => (match pairsOf ds with
    | some l => some ((sortP l).map prD)
    | none => none)
  | _ => none
/-- what a value is, as a pair -/
theorem rp_pair {K : PySem.W.Frag} {A : Addr → Prop} {H : Hp} {v : V} {p : Int × Int} (h : Rp K A H v (prD p)) : ∃ t, v = V.ref t ∧ SqT K H t [.int p.1, .int p.2] := by
  cases h with
  | @tup t xs _ l al =>
    have e := RpA.ints (ns := [p.1, p.2]) al
    subst e
    exact ⟨t, rfl, l.sq⟩
def pairsAt (K : PySem.W.Frag) (H : Hp) : List V → List (Int × Int) → Prop
  | [], [] => True
  | v :: vs, p :: l => (∃ t, v = V.ref t ∧ SqT K H t [.int p.1, .int p.2]) ∧ pairsAt K H vs l
  | _, _ => False
def sPairs2 (K : PySem.W.Frag) : List V → Hp → VK → Prop := fun vs H Q => ∃ (a : Addr) (xs : List V) (ps : List (Int × Int)), vs = [V.ref a] ∧ SqL K H a xs ∧ pairsAt K H xs ps ∧
  ∀ ys p (k : V → Int × Int), ps = xs.map k → SrtO.Srtd (ltP k) ys → SrtO.Stb (ltP k) ys xs → H p = none → Q (.ref p) (upd H p (.lst ys))
theorem pairsAt_map {K : PySem.W.Frag} {H : Hp} (k : V → Int × Int) (hk : ∀ t p, SqT K H t [.int p.1, .int p.2] → k (.ref t) = p) : ∀ {vs : List V} {l : List (Int × Int)}, pairsAt K H vs l → l = vs.map k ∧ ∀ x ∈ vs, ∃ t, x = V.ref t ∧ SqT K H t [.int (k x).1, .int (k x).2]
  | [], [], _ => ⟨rfl, by simp⟩
  | [], p :: l, h => by cases h
  | v :: vs, [], h => by cases h
  | v :: vs, p :: l, h => by
    obtain ⟨⟨t, rfl, ht⟩, h2⟩ := h
    obtain ⟨e, he⟩ := pairsAt_map k hk h2
    have hp := hk t p ht
    refine ⟨by rw [List.map_cons, hp, ← e], fun x hx => ?_⟩
    rcases List.mem_cons.mp hx with rfl | hx
    · rw [hp]
      exact ⟨t, rfl, ht⟩
    · exact he x hx
open Classical in
noncomputable def keyOf (K : PySem.W.Frag) (H : Hp) : V → Int × Int
  | .ref t => if h : ∃ p : Int × Int, SqT K H t [.int p.1, .int p.2] then h.choose else (0, 0)
  | _ => (0, 0)
theorem cr_sPairs2 : CallR X (.builtin "sorted") (sPairs2 X.K) := by
  intro pins s σ H vs us Q I r h
  obtain ⟨a, xs, ps, hv, hs, hx, q⟩ := h
  have hk : ∀ t p, SqT X.K H t [.int p.1, .int p.2] → keyOf X.K H (.ref t) = p := by
    intro t p hp
    have ex : ∃ p : Int × Int, SqT X.K H t [.int p.1, .int p.2] := ⟨p, hp⟩
    have e := I.tuple_inj hp ex.choose_spec
    simp only [List.cons.injEq, V.int.injEq, and_true] at e
    have e2 : keyOf X.K H (.ref t) = ex.choose := by
      unfold keyOf
      exact dif_pos ex
    rw [e2]
    exact (Prod.ext e.1 e.2).symm
  obtain ⟨e1, e2⟩ := pairsAt_map _ hk hx
  exact cr_sPairs pins s σ H vs us Q I r ⟨a, xs, keyOf X.K H, hv, hs, e2, fun ys p h1 h2 h3 => q ys p _ e1 h1 h2 h3⟩
theorem pairsAt_of {K : PySem.W.Frag} {A : Addr → Prop} {H : Hp} : ∀ {vs : List V} {l : List (Int × Int)}, RpA K A H vs (l.map prD) → pairsAt K H vs l
  | [], [], _ => trivial
  | [], p :: l, h => by cases h
  | v :: vs, [], h => by cases h
  | v :: vs, p :: l, h => by
    cases h with
    | cons h1 h2 => exact ⟨rp_pair h1, pairsAt_of h2⟩
theorem rpa_mem {K : PySem.W.Frag} {A : Addr → Prop} {H : Hp} (k : V → Int × Int) : ∀ {xs : List V}, RpA K A H xs ((xs.map k).map prD) → ∀ x ∈ xs, Rp K A H x (prD (k x))
  | [], _, x, hx => by cases hx
  | y :: ys, h, x, hx => by
    cases h with
    | cons h1 h2 =>
      rcases List.mem_cons.mp hx with rfl | hx
      · exact h1
      · exact rpa_mem k h2 x hx
theorem rpa_of_mem {K : PySem.W.Frag} {A : Addr → Prop} {H : Hp} (k : V → Int × Int) : ∀ {ys : List V}, (∀ y ∈ ys, Rp K A H y (prD (k y))) → RpA K A H ys ((ys.map k).map prD)
  | [], _ => .nil
  | y :: ys, h => .cons (h y (by simp)) (rpa_of_mem k fun z hz => h z (by simp [hz]))
theorem fn_sortP {K : PySem.W.Frag} : FnN K (sPairs2 K) (n1of dSortP) := by
  intro c ρ σ H vs ds ys Q R r ho q
  obtain ⟨x, rfl, h2⟩ := n1_inv ho
  obtain ⟨v, rfl, w1⟩ := rpa1 r
  unfold dSortP at h2
  split at h2
  · rename_i ds
    split at h2
    · rename_i l hl
      cases h2
      have e := pairsOf_eq hl
      subst e
      cases w1 with
      | @lst p xs _ la al =>
        refine ⟨p, xs, l, rfl, la.sq, pairsAt_of al, fun zs p2 k hk h1 h3 hp => q p2 zs hp ?_⟩
        have e1 : zs.map k = sortP l := by
          refine srt_uniq (SrtO.srtd_map (lt := SrtO.lexB) (f := k) h1) (srt_sortP l) ?_
          rw [hk]
          exact (h3.perm.map k).trans (perm_sortP _).symm
        rw [← e1]
        refine rpa_of_mem k fun y hy => ?_
        rw [hk] at al
        exact rpa_mem k al y (h3.perm.mem_iff.mp hy)
    · cases h2
  · cases h2
end
end PG
end
section
set_option Elab.async false
set_option linter.all false
set_option maxRecDepth 100000
namespace PG
open PySem PySem.Spec PyProof.Rows L2
/-! ### a table of the module with whole-number keys and values -/
def entOk : List DictEntry → List (Int × Int) → Bool
  | [], [] => true
  | e :: r, p :: t => decide (e.hash = hashInt p.1) && Value.isInt p.1 e.key && Value.isInt p.2 e.val && entOk r t
  | _, _ => false
structure ITab (K : PySem.W.Frag) (d : Addr) (tab : List (Int × Int)) : Prop where
  at_ : ∃ es n, K.lookup d = some ⟨.type "dict", none, .dict es n, #[]⟩ ∧ entOk es.toList tab = true
  low : (d == sysModules) = false
def getI (tab : List (Int × Int)) (i : Int) : Option Int := (tab.find? fun p => decide (p.1 = i)).map (·.2)
@[simp] def dGetT (tab : List (Int × Int)) : PyData → PyData → Option PyData
  | .int i, y => some (match getI tab i with
    | some v => .int v
    | none => y)
  | _, _ => none
theorem entOk_cons {e : DictEntry} {r : List DictEntry} {p : Int × Int} {t : List (Int × Int)} (h : entOk (e :: r) (p :: t) = true) : e.hash = hashInt p.1 ∧ Value.isInt p.1 e.key = true ∧ Value.isInt p.2 e.val = true ∧ entOk r t = true := by
  simp only [entOk, Bool.and_eq_true, decide_eq_true_eq] at h
  exact ⟨h.1.1.1, h.1.1.2, h.1.2, h.2⟩
theorem entOk_keys {P : Program} {w : World} : ∀ {es : List DictEntry} {tab : List (Int × Int)}, entOk es tab = true → ∀ e ∈ es, ∃ k, (mixKind P w).is k e.key = true ∧ e.hash = (mixKind P w).hash k
  | [], [], _, e, he => by cases he
  | [], _ :: _, h, _, _ => by cases h
  | _ :: _, [], h, _, _ => by cases h
  | e :: r, p :: t, h, x, hx => by
    obtain ⟨h1, h2, h3, h4⟩ := entOk_cons h
    rcases List.mem_cons.mp hx with rfl | hx
    · exact ⟨.inl p.1, h2, h1⟩
    · exact entOk_keys h4 x hx
theorem entOk_find {P : Program} {w : World} : ∀ {es : List DictEntry} {tab : List (Int × Int)} (i : Int), entOk es tab = true →
    match getI tab i with
    | some v => ∃ t, (es.find? fun e => (mixKind P w).is (.inl i) e.key).map (·.val) = some (Value.int v t)
    | none => (es.find? fun e => (mixKind P w).is (.inl i) e.key).map (·.val) = none
  | [], [], i, _ => rfl
  | [], _ :: _, _, h => by cases h
  | _ :: _, [], _, h => by cases h
  | e :: r, p :: t, i, h => by
    obtain ⟨h1, h2, h3, h4⟩ := entOk_cons h
    have ih := entOk_find (P := P) (w := w) i h4
    obtain ⟨tk, ek⟩ := Value.isInt_shape h2
    obtain ⟨tv, ev⟩ := Value.isInt_shape h3
    unfold getI at ih ⊢
    by_cases c : p.1 = i
    · have e1 : (mixKind P w).is (.inl i) e.key = true := by rw [ek, ← c]; exact mixKind_int P w p.1 tk
      rw [List.find?_cons_of_pos (by simpa using c), List.find?_cons_of_pos (p := fun e : DictEntry => (mixKind P w).is (.inl i) e.key) e1]
      exact ⟨tv, by rw [Option.map_some, ev]⟩
    · have e1 : ¬ (mixKind P w).is (.inl i) e.key = true := by
        rw [ek]
        intro z
        have z' : Value.isInt i (Value.int p.1 tk) = true := z
        obtain ⟨t2, e2⟩ := Value.isInt_shape z'
        cases e2
        exact c rfl
      rw [List.find?_cons_of_neg (by simpa using c), List.find?_cons_of_neg (p := fun e : DictEntry => (mixKind P w).is (.inl i) e.key) e1]
      exact ih
section
variable {X : Cx} {d : Addr} {tab : List (Int × Int)} {o e e2 : Expr} {apos cpos : Pos} {f g : EF}
theorem itab_map (D : ITab X.K d tab) {pins : List (Addr × Obj)} {σ : L2.St} {H : Hp} {s : Shared} (I : L2.Inv X pins σ H s) : ∃ m : Key → Option Value, s.heap.MapOf (mixKind X.prog X.w) d m ∧ ∀ i : Int, (match getI tab i with
    | some v => ∃ t, m (.inl i) = some (Value.int v t)
    | none => m (.inl i) = none) := by
  obtain ⟨es, n, hl, hk⟩ := D.at_
  refine ⟨fun k => findBy (mixKind X.prog X.w).is es k, ⟨_, es, n, I.kIn _ _ hl, ⟨rfl, rfl, rfl⟩, rfl, fun x hx => entOk_keys hk x (Array.mem_toList_iff.mpr hx), fun _ => rfl⟩, fun i => ?_⟩
  have h := entOk_find (P := X.prog) (w := X.w) i hk
  obtain ⟨l⟩ := es
  have q : findBy (mixKind X.prog X.w).is (Array.mk l) (.inl i) = (l.find? fun e => (mixKind X.prog X.w).is (.inl i) e.key).map (·.val) := by
    unfold findBy
    rw [List.find?_toArray]
  dsimp only
  rw [q]
  exact h
def rGetT (tab : List (Int × Int)) : V → V → Hp → VK → Prop := fun y z H Q => ∃ i : Int, y = .int i ∧ Q (match getI tab i with
  | some v => .int v
  | none => z) H
theorem pe_kget2 {ty tx : TE} (D : ITab X.K d tab) (ho : PE X o (tC (.ref d))) (he : PE X e ty) (hf : PE X e2 tx) (m : M2 X o "get" apos e e2 cpos) : PE X (.Call (.Attribute o "get" apos) [e, e2] [] cpos) (fun σ H Q => ty σ H fun y H2 => tx σ H2 fun z H3 => rGetT tab y z H3 Q) := by
  refine ⟨fun pins s σ H Q I h => ?_⟩
  refine wpAny_Call_method m.base m.few m.line PySem.F.plainAttrs_dict PySem.F.slot_dict_get PySem.F.type_dict_get (thn (ho.run pins s σ H (fun x H1 => x = .ref d ∧ ty σ H1 fun y H2 => tx σ H2 fun z H3 => rGetT tab y z H3 Q) I ⟨rfl, h⟩) fun u s1 ⟨x, H1, I1, rx, ex, q1⟩ => ?_)
  subst ex
  obtain rfl : u = Value.ref d := rx
  obtain ⟨mf, hm, _⟩ := itab_map D I1
  refine ⟨hm.typeIs, fun b q => ?_, ?_⟩
  · cases q
    obtain ⟨ob, _, _, h1, h2, _⟩ := hm
    exact ⟨ob, h1, h2.2.1⟩
  rw [m.trees]
  refine Calls.callWith_builtin rfl (Calls.evalArgs_plain (Calls.spliced_cons (thn (he.run pins s1 σ H1 _ I1 q1) fun iv s2 ⟨y, H2, I2, ry, q2⟩ =>
    Calls.spliced_cons (thn (hf.run pins s2 σ H2 _ I2 q2) fun fv s3 ⟨z, H3, I3, rz, i, ei, q3⟩ => Calls.spliced_nil ?_))))
  subst ei
  obtain ⟨mf, hm, hmi⟩ := itab_map D I3
  obtain ⟨t, rfl⟩ := ry
  refine call_meetsIn PySem.F.slot_dict_get hm.typeIs PySem.F.entry_dict_get (PySem.F.args_dict_get_3 _ _ _) (meets_dict_get_default (mixKind X.prog X.w) d (mixKind_int X.prog X.w i t) D.low fv) ⟨_, hm, ?_⟩
  have hi := hmi i
  refine ⟨_, H3, I3.tok _, ?_, q3⟩
  cases hg : getI tab i with
  | some v =>
    rw [hg] at hi
    obtain ⟨t2, e2⟩ := hi
    rw [e2]
    exact ⟨t2, rfl⟩
  | none =>
    rw [hg] at hi
    rw [hi]
    exact rz
theorem os_getT {K : PySem.W.Frag} : OpS K (rGetT tab) (dGetT tab) := by
  intro c ρ σ H v1 v2 x y d Q R r1 r2 ho q
  match x, ho, r1 with
  | .int i, ho, r1 =>
    cases ho
    cases r1
    refine ⟨i, rfl, q _ _ R ?_ fun _ _ h => h⟩
    cases getI tab i with
    | some v => exact .int v
    | none => exact r2
theorem ev_kget2 (D : ITab X.K d tab) (ho : PE X o (tC (.ref d))) (he : PE X e (tE X.K f)) (hf : PE X e2 (tE X.K g)) (m : M2 X o "get" apos e e2 cpos) : PE X (.Call (.Attribute o "get" apos) [e, e2] [] cpos) (tE X.K (eBin (dGetT tab) f g)) :=
  pe_of (pe_kget2 D ho he hf m) (rd_bin os_getT)
end
end PG
end
section
set_option Elab.async false
set_option linter.all false
set_option maxRecDepth 100000
namespace PG
open PySem PySem.Spec PyProof.Rows L2
/-! ### x in xs, whole numbers; a table of the module: k in T, T[k] -/
def isInI (i : Int) (ns : List Int) : Bool := ns.any fun y => y == i
def inD (i : Int) (ds : List PyData) : Option Bool := match intsOf ds with
  | some ns => some (isInI i ns)
  | none => none
@[simp] def dIn : PyData → PyData → Option PyData
  | .int i, .list ds => (inD i ds).map fun b => .bool b
  | .int i, .tuple ds => (inD i ds).map fun b => .bool b
  | _, _ => none
@[simp] def dNotIn : PyData → PyData → Option PyData
  | .int i, .list ds => (inD i ds).map fun b => .bool (!b)
  | .int i, .tuple ds => (inD i ds).map fun b => .bool (!b)
  | _, _ => none
theorem inV_ints (i : Int) : ∀ ns : List Int, inV (.int i) (ns.map V.int) = isInI i ns
  | [] => rfl
  | k :: r => by
    have ih := inV_ints i r
    unfold inV isInI at ih ⊢
    rw [List.map_cons, List.any_cons, List.any_cons, ih]
    rfl
theorem flat_ints : ∀ ns : List Int, (ns.map V.int).all flatV = true
  | [] => rfl
  | k :: r => by
    have ih := flat_ints r
    simp only [List.map_cons, List.all_cons, ih, flatV, Bool.true_and]
theorem inD_inv {i : Int} {ds : List PyData} {b : Bool} (h : inD i ds = some b) : ∃ ns : List Int, ds = ns.map PyData.int ∧ b = isInI i ns := by
  unfold inD at h
  split at h
  · rename_i ns hn
    cases h
    exact ⟨ns, intsOf_map hn, rfl⟩
  · cases h
theorem os_in {K : PySem.W.Frag} : OpS K (rIn K false) dIn := by
  intro c ρ σ H v1 v2 x y d Q R r1 r2 ho q
  match x, y, ho, r1, r2 with
  | .int i, .list ds, ho, r1, r2 =>
    obtain ⟨b, hb, rfl⟩ := Option.map_eq_some_iff.mp ho
    obtain ⟨ns, rfl, rfl⟩ := inD_inv hb
    cases r1
    cases r2 with
    | @lst p xs _ l al =>
      have e := al.ints
      subst e
      exact ⟨p, _, rfl, .inl l.sq, rfl, flat_ints ns, by rw [inV_ints]; exact q _ _ R (.bl _) fun _ _ h => h⟩
  | .int i, .tuple ds, ho, r1, r2 =>
    obtain ⟨b, hb, rfl⟩ := Option.map_eq_some_iff.mp ho
    obtain ⟨ns, rfl, rfl⟩ := inD_inv hb
    cases r1
    cases r2 with
    | @tup p xs _ l al =>
      have e := al.ints
      subst e
      exact ⟨p, _, rfl, .inr l.sq, rfl, flat_ints ns, by rw [inV_ints]; exact q _ _ R (.bl _) fun _ _ h => h⟩
theorem os_notIn {K : PySem.W.Frag} : OpS K (rIn K true) dNotIn := by
  intro c ρ σ H v1 v2 x y d Q R r1 r2 ho q
  match x, y, ho, r1, r2 with
  | .int i, .list ds, ho, r1, r2 =>
    obtain ⟨b, hb, rfl⟩ := Option.map_eq_some_iff.mp ho
    obtain ⟨ns, rfl, rfl⟩ := inD_inv hb
    cases r1
    cases r2 with
    | @lst p xs _ l al =>
      have e := al.ints
      subst e
      exact ⟨p, _, rfl, .inl l.sq, rfl, flat_ints ns, by rw [inV_ints]; exact q _ _ R (.bl _) fun _ _ h => h⟩
  | .int i, .tuple ds, ho, r1, r2 =>
    obtain ⟨b, hb, rfl⟩ := Option.map_eq_some_iff.mp ho
    obtain ⟨ns, rfl, rfl⟩ := inD_inv hb
    cases r1
    cases r2 with
    | @tup p xs _ l al =>
      have e := al.ints
      subst e
      exact ⟨p, _, rfl, .inr l.sq, rfl, flat_ints ns, by rw [inV_ints]; exact q _ _ R (.bl _) fun _ _ h => h⟩
section
variable {X : Cx} {d : Addr} {tab : List (Int × Int)} {a b : Expr} {pos : Pos} {f g : EF}
@[simp] def dInT (tab : List (Int × Int)) : PyData → Option PyData
  | .int i => some (.bool (getI tab i).isSome)
  | _ => none
@[simp] def dNotInT (tab : List (Int × Int)) : PyData → Option PyData
  | .int i => some (.bool (!(getI tab i).isSome))
  | _ => none
@[simp] def dIxT (tab : List (Int × Int)) : PyData → Option PyData
  | .int i => (getI tab i).map PyData.int
  | _ => none
theorem map_isSome {m : Option Value} {g : Option Int} (h : match g with
    | some v => ∃ t, m = some (Value.int v t)
    | none => m = none) : m.isSome = g.isSome := by
  cases g with
  | some v => obtain ⟨t, e⟩ := h; rw [e]; rfl
  | none =>
    have h : m = none := h
    rw [h]
    rfl
theorem op_inT (D : ITab X.K d tab) : OpR X (compareOp .In) (fun x y H Q => ∃ i : Int, x = .int i ∧ y = .ref d ∧ Q (.bl (getI tab i).isSome) H) := by
  intro pins s σ H x y v u Q I rx ry h
  obtain ⟨i, rfl, rfl, q⟩ := h
  obtain ⟨t, rfl⟩ := rx
  cases ry
  obtain ⟨mf, hm, hi⟩ := itab_map D I
  refine wpAny_in_of (mixKind_int X.prog X.w i t) D.low hm ?_
  rw [map_isSome (hi i)]
  exact ⟨.bl _, H, I.tok _, rfl, q⟩
theorem op_notInT (D : ITab X.K d tab) : OpR X (compareOp .NotIn) (fun x y H Q => ∃ i : Int, x = .int i ∧ y = .ref d ∧ Q (.bl (!(getI tab i).isSome)) H) := by
  intro pins s σ H x y v u Q I rx ry h
  obtain ⟨i, rfl, rfl, q⟩ := h
  obtain ⟨t, rfl⟩ := rx
  cases ry
  obtain ⟨mf, hm, hi⟩ := itab_map D I
  refine wpAny_notIn_of (mixKind_int X.prog X.w i t) D.low hm ?_
  rw [map_isSome (hi i)]
  exact ⟨.bl _, H, I.tok _, rfl, q⟩
theorem ix_T (D : ITab X.K d tab) : IxR X (fun x y H Q => ∃ (i v : Int), x = .ref d ∧ y = .int i ∧ getI tab i = some v ∧ Q (.int v) H) := by
  intro value slice pins s σ H x y v u Q I rx ry h hs
  obtain ⟨i, w, rfl, rfl, e, q⟩ := h
  cases rx
  obtain ⟨t, rfl⟩ := ry
  obtain ⟨mf, hm, hi⟩ := itab_map D I
  have hi := hi i
  rw [e] at hi
  obtain ⟨t2, e2⟩ := hi
  exact tail_any hm.typeIs slot_dict_getitem.lookup (wpAny_getItem_of (mixKind_int X.prog X.w i t) hm e2 ⟨.int w, H, I.tok _, ⟨t2, rfl⟩, q⟩) hs
theorem un_inv {o : PyData → Option PyData} {ρ ρ' : Rho} {z : PyData} (h : eUn o f ρ = some (z, ρ')) : ∃ x, f ρ = some (x, ρ') ∧ o x = some z := by
  unfold eUn at h
  split at h
  · rename_i x ρ1 h1
    split at h
    · rename_i w h2
      cases h
      exact ⟨x, h1, h2⟩
    · cases h
  · cases h
theorem ev_inT (D : ITab X.K d tab) (ha : PE X a (tE X.K f)) (hb : PE X b (tC (.ref d))) (hm : behindInMarks .In b = false) : PE X (.Compare a [.In] [b] pos) (tE X.K (eUn (dInT tab) f)) :=
  pe_of (pe_cmpR (op_inT D) ha hb hm) fun σ H Q ⟨c, ρ, z, ρ', R, e, q⟩ => by
    obtain ⟨x, h1, h2⟩ := un_inv e
    refine ⟨c, ρ, x, ρ', R, h1, fun v1 H1 R1 r1 m1 => ?_⟩
    match x, h2, r1 with
    | .int i, h2, r1 =>
      cases h2
      cases r1
      exact ⟨i, rfl, rfl, q _ H1 R1 (.bl _) m1⟩
theorem ev_notInT (D : ITab X.K d tab) (ha : PE X a (tE X.K f)) (hb : PE X b (tC (.ref d))) (hm : behindInMarks .NotIn b = false) : PE X (.Compare a [.NotIn] [b] pos) (tE X.K (eUn (dNotInT tab) f)) :=
  pe_of (pe_cmpR (op_notInT D) ha hb hm) fun σ H Q ⟨c, ρ, z, ρ', R, e, q⟩ => by
    obtain ⟨x, h1, h2⟩ := un_inv e
    refine ⟨c, ρ, x, ρ', R, h1, fun v1 H1 R1 r1 m1 => ?_⟩
    match x, h2, r1 with
    | .int i, h2, r1 =>
      cases h2
      cases r1
      exact ⟨i, rfl, rfl, q _ H1 R1 (.bl _) m1⟩
theorem ev_ixT (D : ITab X.K d tab) (ha : PE X a (tC (.ref d))) (hb : PE X b (tE X.K f)) (hs : PlainIx b) : PE X (.Subscript a b pos) (tE X.K (eUn (dIxT tab) f)) :=
  pe_of (pe_ix (ix_T D) ha hb hs) fun σ H Q ⟨c, ρ, z, ρ', R, e, q⟩ => by
    obtain ⟨x, h1, h2⟩ := un_inv e
    refine ⟨c, ρ, x, ρ', R, h1, fun v1 H1 R1 r1 m1 => ?_⟩
    match x, h2, r1 with
    | .int i, h2, r1 =>
      obtain ⟨w, hw, rfl⟩ := Option.map_eq_some_iff.mp h2
      cases r1
      exact ⟨i, w, rfl, rfl, hw, q _ H1 R1 (.int _) m1⟩
end
end PG
end
section
set_option Elab.async false
set_option linter.all false
set_option maxRecDepth 100000
namespace PG
open PySem PySem.Spec PyProof.Rows L2
/-! ### a, b = x, y and a, b, c = x, y, z: no tuple is made -/
@[simp] def sPar (is : List Nat) (f : NF) : SF := fun ρ => match f ρ with
  | some (ds, ρ1) => (match gPairs is ds ρ1 with
    | some ρ2 => some (.next, ρ2)
    | none => none)
  | none => none
theorem par_inv {is : List Nat} {f : NF} {ρ ρ' : Rho} {o : Out} (h : sPar is f ρ = some (o, ρ')) : ∃ ds ρ1, f ρ = some (ds, ρ1) ∧ gPairs is ds ρ1 = some ρ' ∧ o = .next := by
  unfold sPar at h
  split at h
  · rename_i ds ρ1 h1
    split at h
    · rename_i ρ2 h2
      cases h
      exact ⟨ds, ρ1, h1, h2, rfl⟩
    · cases h
  · cases h
theorem pairs_cons {i : Nat} {is : List Nat} {ds : List PyData} {ρ ρ' : Rho} (h : gPairs (i :: is) ds ρ = some ρ') : ∃ d r ρ1, ds = d :: r ∧ setV i d ρ = some ρ1 ∧ gPairs is r ρ1 = some ρ' := by
  cases ds with
  | nil => cases h
  | cons d r =>
    unfold gPairs at h
    split at h
    · rename_i ρ1 h1
      exact ⟨d, r, ρ1, rfl, h1, h⟩
    · cases h
theorem pairs_nil {ds : List PyData} {ρ ρ' : Rho} (h : gPairs [] ds ρ = some ρ') : ds = [] ∧ ρ = ρ' := by
  cases ds with
  | nil => cases h; exact ⟨rfl, rfl⟩
  | cons d r => cases h
section
variable {X : Cx} {a b c' : Expr} {pos : Pos} {n : NF}
theorem es_par {i j : Nat} {x y : Str} {px py pt : Pos} {kt k2 pt2} (hc : X.calm = true) (hN : X.N.Nodup) (hi : X.N[i]? = some x) (hj : X.N[j]? = some y) (hij : i ≠ j)
    (hx : X.env.scope.names.lookup x = some .local) (hy : X.env.scope.names.lookup y = some .local) (ha : PA X [a, b] (tA X.K n))
    (hw : swappedStores [.Tuple [.Name x px, .Name y py] kt pt] (.Tuple [a, b] k2 pt2) X.env = pure (some [x, y]))
    (hs : swapsWithSole [.Tuple [.Name x px, .Name y py] kt pt] (.Tuple [a, b] k2 pt2) pos.line X.env = pure false := by rfl) :
    PS X (.Assign [.Tuple [.Name x px, .Name y py] kt pt] (.Tuple [a, b] k2 pt2) pos) (tS X.K (sPar [i, j] n)) :=
  ps_of (ps_par hc hN hi hj hij hx hy ha hw hs) fun E σ H ⟨c, ρ, o, ρ', R, e, q⟩ => by
    obtain ⟨ds, ρ1, h1, h2, rfl⟩ := par_inv e
    obtain ⟨d1, r1, ρ2, rfl, g1, h2⟩ := pairs_cons h2
    obtain ⟨d2, r2, ρ3, rfl, g2, h2⟩ := pairs_cons h2
    obtain ⟨rfl, rfl⟩ := pairs_nil h2
    refine ⟨c, ρ, _, ρ1, R, h1, fun vs H1 R1 r1 m1 => ?_⟩
    obtain ⟨v, w, rfl, rv, rw'⟩ := rpa2 r1
    obtain ⟨R2, m2⟩ := R1.assign g1 rv
    obtain ⟨R3, m3⟩ := R2.assign g2 (rw'.mv m2)
    exact ⟨v, w, rfl, q _ H1 R3 ((m1.trans m2).trans m3)⟩
theorem rpa3 {K : PySem.W.Frag} {A : Addr → Prop} {H : Hp} {vs : List V} {d1 d2 d3 : PyData} (r : RpA K A H vs [d1, d2, d3]) : ∃ u v w, vs = [u, v, w] ∧ Rp K A H u d1 ∧ Rp K A H v d2 ∧ Rp K A H w d3 := by
  cases r with
  | cons h t =>
    obtain ⟨v, w, rfl, hv, hw⟩ := rpa2 t
    exact ⟨_, v, w, rfl, h, hv, hw⟩
theorem es_par3 {i j l : Nat} {x y z : Str} {px py pz pt : Pos} {kt k2 pt2} (hc : X.calm = true) (hN : X.N.Nodup) (hi : X.N[i]? = some x) (hj : X.N[j]? = some y) (hl : X.N[l]? = some z) (hij : i ≠ j) (hil : i ≠ l) (hjl : j ≠ l)
    (hx : X.env.scope.names.lookup x = some .local) (hy : X.env.scope.names.lookup y = some .local) (hz : X.env.scope.names.lookup z = some .local) (ha : PA X [a, b, c'] (tA X.K n))
    (hw : swappedStores [.Tuple [.Name x px, .Name y py, .Name z pz] kt pt] (.Tuple [a, b, c'] k2 pt2) X.env = pure (some [x, y, z]))
    (hs : swapsWithSole [.Tuple [.Name x px, .Name y py, .Name z pz] kt pt] (.Tuple [a, b, c'] k2 pt2) pos.line X.env = pure false := by rfl) :
    PS X (.Assign [.Tuple [.Name x px, .Name y py, .Name z pz] kt pt] (.Tuple [a, b, c'] k2 pt2) pos) (tS X.K (sPar [i, j, l] n)) :=
  ps_of (ps_par3 hc hN hi hj hl hij hil hjl hx hy hz ha hw hs) fun E σ H ⟨c, ρ, o, ρ', R, e, q⟩ => by
    obtain ⟨ds, ρ1, h1, h2, rfl⟩ := par_inv e
    obtain ⟨d1, r1, ρ2, rfl, g1, h2⟩ := pairs_cons h2
    obtain ⟨d2, r2, ρ3, rfl, g2, h2⟩ := pairs_cons h2
    obtain ⟨d3, r3, ρ4, rfl, g3, h2⟩ := pairs_cons h2
    obtain ⟨rfl, rfl⟩ := pairs_nil h2
    refine ⟨c, ρ, _, ρ1, R, h1, fun vs H1 R1 r1 m1 => ?_⟩
    obtain ⟨u, v, w, rfl, ru, rv, rw'⟩ := rpa3 r1
    obtain ⟨R2, m2⟩ := R1.assign g1 ru
    obtain ⟨R3, m3⟩ := R2.assign g2 (rv.mv m2)
    obtain ⟨R4, m4⟩ := R3.assign g3 (rw'.mv (m2.trans m3))
    exact ⟨u, v, w, rfl, q _ H1 R4 (((m1.trans m2).trans m3).trans m4)⟩
end
section
variable {X : Cx} {d : Addr} {tab : List (Int × Int)} {a b : Expr} {pos : Pos} {f : EF}
theorem et_inT (D : ITab X.K d tab) (ha : PE X a (tE X.K f)) (hb : PE X b (tC (.ref d))) (hm : behindInMarks .In b = false) : PT X (.Compare a [.In] [b] pos) (tT X.K (tBl (eUn (dInT tab) f))) :=
  pt_of (pt_cmpR (op_inT D) ha hb hm) fun σ H Q ⟨c, ρ, z, ρ', R, e, q⟩ => by
    obtain ⟨x, h1, h2⟩ := un_inv (bl_inv e)
    refine ⟨c, ρ, x, ρ', R, h1, fun v1 H1 R1 r1 m1 => ?_⟩
    match x, h2, r1 with
    | .int i, h2, r1 =>
      cases h2
      cases r1
      exact ⟨i, rfl, rfl, _, rfl, q H1 R1 m1⟩
theorem et_notInT (D : ITab X.K d tab) (ha : PE X a (tE X.K f)) (hb : PE X b (tC (.ref d))) (hm : behindInMarks .NotIn b = false) : PT X (.Compare a [.NotIn] [b] pos) (tT X.K (tBl (eUn (dNotInT tab) f))) :=
  pt_of (pt_cmpR (op_notInT D) ha hb hm) fun σ H Q ⟨c, ρ, z, ρ', R, e, q⟩ => by
    obtain ⟨x, h1, h2⟩ := un_inv (bl_inv e)
    refine ⟨c, ρ, x, ρ', R, h1, fun v1 H1 R1 r1 m1 => ?_⟩
    match x, h2, r1 with
    | .int i, h2, r1 =>
      cases h2
      cases r1
      exact ⟨i, rfl, rfl, _, rfl, q H1 R1 m1⟩
end
end PG
end
section
set_option Elab.async false
set_option linter.all false
set_option maxRecDepth 100000
namespace PG
open PySem PySem.Spec PyProof.Rows L2
/-! ### type(x) == T -/
def six : List String := ["NoneType", "bool", "int", "str", "list", "tuple"]
theorem meta_six : ∀ n ∈ six, ∀ s' : Shared, s'.TypeIs (.type n) "type" := by
  intro n hn s'
  simp only [six, List.mem_cons, List.not_mem_nil, or_false] at hn
  rcases hn with rfl | rfl | rfl | rfl | rfl | rfl
  · exact TypeEq.meta_NoneType s'
  · exact TypeEq.meta_bool s'
  · exact TypeEq.meta_int s'
  · exact TypeEq.meta_str s'
  · exact TypeEq.meta_list s'
  · exact TypeEq.meta_tuple s'
section
variable {X : Cx} {a b : Expr} {pos : Pos} {p : Pos} {f : EF}
theorem op_eqTy : OpR X (compareOp .Eq) (fun x y H Q => ∃ m n, x = .ty m ∧ y = .ty n ∧ m ∈ six ∧ n ∈ six ∧ Q (.bl (decide (m = n))) H) := by
  intro pins s σ H x y v u Q I rx ry h
  obtain ⟨m, n, rfl, rfl, hm, hn, q⟩ := h
  cases (show v = Value.type m from rx)
  cases (show u = Value.type n from ry)
  by_cases e : m = n
  · subst e
    rw [decide_eq_true rfl] at q
    exact TypeEq.eq_type_same (meta_six m hm) ⟨.bl true, H, I, rfl, q⟩
  · rw [decide_eq_false e] at q
    exact TypeEq.eq_type_other (meta_six m hm) (meta_six n hn) (by rw [ty_beq, decide_eq_false e]) ⟨.bl false, H, I, rfl, q⟩
@[simp] def dTyIs (T : String) : PyData → Option PyData
  | .dict _ => none
  | x => some (.bool (decide (tyName x = T)))
theorem tyB_of {K : PySem.W.Frag} {A : Addr → Prop} {H : Hp} {v : V} {d : PyData} (r : Rp K A H v d) (h : ∀ kvs, d ≠ .dict kvs) : TyB K H v (tyName d) := by
  cases r with
  | non => exact .non
  | bl b => exact .bl b
  | int i => exact .int i
  | str x => exact .str x
  | lst l a => exact .lst l.sq
  | tup l a => exact .tup l.sq
  | ro l a => exact absurd rfl (h _)
theorem tyIs_inv {T : String} {x d : PyData} (h : dTyIs T x = some d) : (∀ kvs, x ≠ .dict kvs) ∧ d = .bool (decide (tyName x = T)) := by
  cases x <;> first
    | (cases h; done)
    | exact ⟨(fun kvs z => by cases z), (Option.some.inj h).symm⟩
theorem tyName_six {d : PyData} (h : ∀ kvs, d ≠ .dict kvs) : tyName d ∈ six := tyName_mem d h
theorem rd_ty {T : String} (hT : T ∈ six) {K : PySem.W.Frag} : ∀ σ H Q, tE K (eUn (dTyIs T) f) σ H Q → tOp (fun x y H Q => ∃ m n, x = .ty m ∧ y = .ty n ∧ m ∈ six ∧ n ∈ six ∧ Q (.bl (decide (m = n))) H) (fun σ H Q => tE K f σ H fun v H1 => rTyp K [v] H1 Q) (tC (.ty T)) σ H Q := fun σ H Q ⟨c, ρ, d, ρ', R, e, q⟩ => by
  obtain ⟨x, h1, h3⟩ := un_inv e
  obtain ⟨nd, rfl⟩ := tyIs_inv h3
  exact ⟨c, ρ, x, ρ', R, h1, fun v1 H1 R1 r1 m1 => ⟨v1, _, rfl, tyB_of r1 nd, _, _, rfl, rfl, tyName_six nd, hT, q _ H1 R1 (.bl _) m1⟩⟩
theorem pe_type1 {te : TE} (hg : Gl X "type") (hm : X.mg "type" = none) (ha : PE X a te) (he : starEach [a] X.env = (false, eval a X.env) :: starEach [] X.env := by rfl) (hpl : (backTo pos (starEach [] X.env)).any (·.1) = false := by rfl) :
    PE X (.Call (.Name "type" p) [a] [] pos) (fun σ H Q => te σ H fun v H1 => rTyp X.K [v] H1 Q) :=
  pe_of (pe_callTy call_type1 hg hm (by rfl) (pa_cons ha pa_nil he) (by decide) (by decide) he hpl) fun σ H Q h => h
theorem ev_tyEq {T : String} {pos2 : Pos} (hT : T ∈ six) (hg : Gl X "type") (hm : X.mg "type" = none) (ha : PE X a (tE X.K f)) (hb : PE X b (tC (.ty T))) (hk : behindInMarks .Eq b = false)
    (he : starEach [a] X.env = (false, eval a X.env) :: starEach [] X.env := by rfl) (hpl : (backTo pos (starEach [] X.env)).any (·.1) = false := by rfl) :
    PE X (.Compare (.Call (.Name "type" p) [a] [] pos) [.Eq] [b] pos2) (tE X.K (eUn (dTyIs T) f)) :=
  pe_of (pe_cmpR op_eqTy (pe_type1 hg hm ha he hpl) hb hk) (rd_ty hT)
theorem et_tyEq {T : String} {pos2 : Pos} (hT : T ∈ six) (hg : Gl X "type") (hm : X.mg "type" = none) (ha : PE X a (tE X.K f)) (hb : PE X b (tC (.ty T))) (hk : behindInMarks .Eq b = false)
    (he : starEach [a] X.env = (false, eval a X.env) :: starEach [] X.env := by rfl) (hpl : (backTo pos (starEach [] X.env)).any (·.1) = false := by rfl) :
    PT X (.Compare (.Call (.Name "type" p) [a] [] pos) [.Eq] [b] pos2) (tT X.K (tBl (eUn (dTyIs T) f))) :=
  pt_of (pt_cmpR op_eqTy (pe_type1 hg hm ha he hpl) hb hk) (rd_bl (rd_ty hT))
end
end PG
end
section
set_option Elab.async false
set_option linter.all false
set_option maxRecDepth 100000
namespace PG
open PySem PySem.Spec PyProof.Rows L2
/-! ### type(x) != T -/
theorem slotNeTy : Slot "type" (cmpInfo .NotEq).2.1 "object.__ne__" :=
  .of (owner := "object") (n := "__ne__") (by rw [typeLookup_type, builtinLookup_eq_fast]; kernel_rfl) (by decide +kernel) (by decide +kernel) (by decide +kernel)
    (by first | exact .inl (by decide +kernel) | exact .inr (by decide +kernel)) (by rw [isSubtype_type]; kernel_rfl)
section
variable {prog : Program} {w : World} {A : Around} {E : Value → Shared → Prop} {s : Shared}
theorem spEq_same {m : String} {Q : Option Value → Shared → Prop} (hm : ∀ s' : Shared, s'.TypeIs (.type m) "type") (q : Q (some (.bool true)) s) : wpAny (model prog w) A (callSpecialIfBound? (.type m) "__eq__" [.type m]) Q E s :=
  wpAny_callSpecialIfBound?_slot (name := (cmpInfo .Eq).2.1) (hm _) TypeEq.slot_type_eq (call_gives TypeEq.slot_type_eq (hm _) F.entry_object_eq (F.args_object_eq_2 _ _) (TypeEq.object_eq_same rfl (by simp)) q)
theorem spEq_other {m n : String} {Q : Option Value → Shared → Prop} (hm : ∀ s' : Shared, s'.TypeIs (.type m) "type") (hne : (Value.type m == Value.type n) = false) (q : Q (some .notImplemented) s) :
    wpAny (model prog w) A (callSpecialIfBound? (.type m) "__eq__" [.type n]) Q E s :=
  wpAny_callSpecialIfBound?_slot (name := (cmpInfo .Eq).2.1) (hm _) TypeEq.slot_type_eq (call_gives TypeEq.slot_type_eq (hm _) F.entry_object_eq (F.args_object_eq_2 _ _) (TypeEq.object_eq_other rfl hne) q)
theorem neTy_in_same {m : String} {Q : Fin → Shared → Prop} (hm : ∀ s' : Shared, s'.TypeIs (.type m) "type") (hu : A.units < cLine) (q : Q (.done (.ret (.bool false))) s) :
    wpAny (model prog w) A (Builtin.«object.__ne__» ⟨[.type m, .type m], []⟩) Q E s := by
  unfold Builtin.«object.__ne__»
  repeat (first | with_reducible refine wpAny_cRoomFor hu ?_ | with_reducible refine spEq_same hm ?_ | wp_step)
  exact q
theorem neTy_in_other {m n : String} {Q : Fin → Shared → Prop} (hm : ∀ s' : Shared, s'.TypeIs (.type m) "type") (hne : (Value.type m == Value.type n) = false) (hu : A.units < cLine) (q : Q (.done (.ret .notImplemented)) s) :
    wpAny (model prog w) A (Builtin.«object.__ne__» ⟨[.type m, .type n], []⟩) Q E s := by
  unfold Builtin.«object.__ne__»
  repeat (first | with_reducible refine wpAny_cRoomFor hu ?_ | with_reducible refine spEq_other hm hne ?_ | wp_step)
  exact q
theorem callNe_same {m : String} {Q : Value → Shared → Prop} (hm : ∀ s' : Shared, s'.TypeIs (.type m) "type") (hu : A.units + 1 < cLine) (q : Q (.bool false) s) : wpAny (model prog w) A (call (.builtin "object.__ne__") [.type m, .type m]) Q E s :=
  wpAny_call (codeAny_call_builtin slotNeTy.plain F.cmpEntry_ne (slotNeTy.check _ _ _ _ _ _ _ _ (hm _) (F.cmpArgs_ne _ _) (neTy_in_same (A := A.in1) hm hu q)))
theorem callNe_other {m n : String} {Q : Value → Shared → Prop} (hm : ∀ s' : Shared, s'.TypeIs (.type m) "type") (hne : (Value.type m == Value.type n) = false) (hu : A.units + 1 < cLine) (q : Q .notImplemented s) :
    wpAny (model prog w) A (call (.builtin "object.__ne__") [.type m, .type n]) Q E s :=
  wpAny_call (codeAny_call_builtin slotNeTy.plain F.cmpEntry_ne (slotNeTy.check _ _ _ _ _ _ _ _ (hm _) (F.cmpArgs_ne _ _) (neTy_in_other (A := A.in1) hm hne hu q)))
theorem ne_type_same {m : String} {Q : Value → Shared → Prop} (hm : ∀ s' : Shared, s'.TypeIs (.type m) "type") (hu : A.units + 1 < cLine) (q : Q (.bool false) s) : wpAny (model prog w) A (compareOp .NotEq (.type m) (.type m)) Q E s := by
  show wpAny _ A (richCompare .NotEq _ _) Q E s
  exact wpAny_richCompare_same (T := "type") (hm s) (hm s) slotNeTy (callNe_same hm hu ⟨(by intro e; cases e), q⟩)
theorem ne_type_other {m n : String} {Q : Value → Shared → Prop} (hm : ∀ s' : Shared, s'.TypeIs (.type m) "type") (hn : ∀ s' : Shared, s'.TypeIs (.type n) "type") (hne : (Value.type m == Value.type n) = false) (hne2 : (Value.type n == Value.type m) = false) (hu : A.units + 1 < cLine) (q : Q (.bool true) s) :
    wpAny (model prog w) A (compareOp .NotEq (.type m) (.type n)) Q E s := by
  have hu0 : A.units < cLine := by omega
  have k1 : ∀ {s : Shared} {Q : Option Value → Shared → Prop}, Q none s → wpAny (model prog w) A (tryCompare (.type m) "__ne__" (.type n)) Q E s := fun {s Q} q =>
    wpAny_tryCompare_declines (name := (cmpInfo .NotEq).2.1) (hm _) slotNeTy (callNe_other hm hne hu ⟨rfl, q⟩)
  have k2 : ∀ {s : Shared} {Q : Option Value → Shared → Prop}, Q none s → wpAny (model prog w) A (tryCompare (.type n) "__ne__" (.type m)) Q E s := fun {s Q} q =>
    wpAny_tryCompare_declines (name := (cmpInfo .NotEq).2.1) (hn _) slotNeTy (callNe_other hn hne2 hu ⟨rfl, q⟩)
  have hk : isSame (.type m) (.type n) = pure false := by rw [isSame_plain rfl, hne]
  show wpAny _ A (richCompare .NotEq _ _) Q E s
  simp only [richCompare, cmpInfo_NotEq, (hm s).oneThing_none]
  repeat (first | with_reducible refine wpAny_cRoomFor hu0 ?_ | with_reducible refine wpAny_typeOf (hm _) ?_ | with_reducible refine wpAny_typeOf (hn _) ?_ | with_reducible refine k1 ?_ | with_reducible refine k2 ?_ | with_reducible refine wpAny_of_eq hk ?_ | wp_step)
  exact q
end
section
variable {X : Cx} {a b : Expr} {pos : Pos} {p : Pos} {f : EF}
def rTyNe : R2 := fun x y H Q => ∃ m n, x = .ty m ∧ y = .ty n ∧ m ∈ six ∧ n ∈ six ∧ Q (.bl (!decide (m = n))) H
theorem op_neTy (hu : X.A.units + 64 < cLine) : OpR X (compareOp .NotEq) rTyNe := by
  intro pins s σ H x y v u Q I rx ry h
  obtain ⟨m, n, rfl, rfl, hm, hn, q⟩ := h
  cases (show v = Value.type m from rx)
  cases (show u = Value.type n from ry)
  by_cases e : m = n
  · subst e
    rw [decide_eq_true rfl] at q
    exact ne_type_same (meta_six m hm) (by omega) ⟨.bl false, H, I, rfl, q⟩
  · rw [decide_eq_false e] at q
    exact ne_type_other (meta_six m hm) (meta_six n hn) (by rw [ty_beq, decide_eq_false e]) (by rw [ty_beq, decide_eq_false fun z => e z.symm]) (by omega) ⟨.bl true, H, I, rfl, q⟩
@[simp] def dTyNe (T : String) : PyData → Option PyData
  | .dict _ => none
  | x => some (.bool (!decide (tyName x = T)))
theorem tyNe_inv {T : String} {x d : PyData} (h : dTyNe T x = some d) : (∀ kvs, x ≠ .dict kvs) ∧ d = .bool (!decide (tyName x = T)) := by
  cases x <;> first | (cases h; done) | exact ⟨(fun kvs z => by cases z), (Option.some.inj h).symm⟩
theorem rd_tyNe {T : String} (hT : T ∈ six) {K : PySem.W.Frag} : ∀ σ H Q, tE K (eUn (dTyNe T) f) σ H Q → tOp rTyNe (fun σ H Q => tE K f σ H fun v H1 => rTyp K [v] H1 Q) (tC (.ty T)) σ H Q := fun σ H Q ⟨c, ρ, d, ρ', R, e, q⟩ => by
  obtain ⟨x, h1, h3⟩ := un_inv e
  obtain ⟨nd, rfl⟩ := tyNe_inv h3
  exact ⟨c, ρ, x, ρ', R, h1, fun v1 H1 R1 r1 m1 => ⟨v1, _, rfl, tyB_of r1 nd, _, _, rfl, rfl, tyName_six nd, hT, q _ H1 R1 (.bl _) m1⟩⟩
theorem ev_tyNe {T : String} {pos2 : Pos} (hu : X.A.units + 64 < cLine) (hT : T ∈ six) (hg : Gl X "type") (hm : X.mg "type" = none) (ha : PE X a (tE X.K f)) (hb : PE X b (tC (.ty T))) (hk : behindInMarks .NotEq b = false)
    (he : starEach [a] X.env = (false, eval a X.env) :: starEach [] X.env := by rfl) (hpl : (backTo pos (starEach [] X.env)).any (·.1) = false := by rfl) :
    PE X (.Compare (.Call (.Name "type" p) [a] [] pos) [.NotEq] [b] pos2) (tE X.K (eUn (dTyNe T) f)) :=
  pe_of (pe_cmpR (op_neTy hu) (pe_type1 hg hm ha he hpl) hb hk) (rd_tyNe hT)
theorem et_tyNe {T : String} {pos2 : Pos} (hu : X.A.units + 64 < cLine) (hT : T ∈ six) (hg : Gl X "type") (hm : X.mg "type" = none) (ha : PE X a (tE X.K f)) (hb : PE X b (tC (.ty T))) (hk : behindInMarks .NotEq b = false)
    (he : starEach [a] X.env = (false, eval a X.env) :: starEach [] X.env := by rfl) (hpl : (backTo pos (starEach [] X.env)).any (·.1) = false := by rfl) :
    PT X (.Compare (.Call (.Name "type" p) [a] [] pos) [.NotEq] [b] pos2) (tT X.K (tBl (eUn (dTyNe T) f))) :=
  pt_of (pt_cmpR (op_neTy hu) (pe_type1 hg hm ha he hpl) hb hk) (rd_bl (rd_tyNe hT))
/-! ### x in an owned list -/
@[simp] def eBinO (o : PyData → PyData → Option PyData) (f : EF) (i : Nat) : EF := fun ρ => match f ρ with
  | some (x, ρ1) => (match ρ1[i]? with
    | some (some (.l _ ps)) => (match o x (.list ps) with
      | some z => some (z, ρ1)
      | none => none)
    | _ => none)
  | none => none
theorem binO_inv {o : PyData → PyData → Option PyData} {i : Nat} {ρ ρ' : Rho} {z : PyData} (h : eBinO o f i ρ = some (z, ρ')) : ∃ x p ps, f ρ = some (x, ρ') ∧ ρ'[i]? = some (some (.l p ps)) ∧ o x (.list ps) = some z := by
  unfold eBinO at h
  split at h
  · rename_i x ρ1 h1
    split at h
    · rename_i p ps h2
      split at h
      · rename_i z' h3
        cases h
        exact ⟨x, p, ps, h1, h2, h3⟩
      · cases h
    · cases h
  · cases h
theorem rd_inO {i : Nat} {neg : Bool} {o : PyData → PyData → Option PyData} (ho : ∀ x ps d, o x (.list ps) = some d → ∃ j ns, x = .int j ∧ ps = ns.map PyData.int ∧ d = .bool (if neg then !isInI j ns else isInI j ns)) {K : PySem.W.Frag} :
    ∀ σ H Q, tE K (eBinO o f i) σ H Q → tOp (rIn K neg) (tE K f) (tVar i) σ H Q := fun σ H Q ⟨c, ρ, d, ρ', R, e, q⟩ => by
  obtain ⟨x, p, ps, h1, h2, h3⟩ := binO_inv e
  obtain ⟨j, ns, rfl, rfl, rfl⟩ := ho _ _ _ h3
  refine ⟨c, ρ, _, ρ', R, h1, fun v1 H1 R1 r1 m1 => ?_⟩
  obtain ⟨l, us, g1, g2, g3, _⟩ := R1.lst i p _ h2
  have e3 := g3.ints
  subst e3
  cases r1
  exact ⟨.ref l, g1, l, _, rfl, .inl (.inl (.inl g2)), rfl, flat_ints ns, by rw [inV_ints]; exact q _ H1 R1 (.bl _) m1⟩
theorem inL_inv {x d : PyData} {ps : List PyData} (h : dIn x (.list ps) = some d) : ∃ j ns, x = .int j ∧ ps = ns.map PyData.int ∧ d = .bool (if false then !isInI j ns else isInI j ns) := by
  cases x <;> first
    | (cases h; done)
    | (rename_i j
       obtain ⟨b, hb, rfl⟩ := Option.map_eq_some_iff.mp h
       obtain ⟨ns, rfl, rfl⟩ := inD_inv hb
       exact ⟨j, ns, rfl, rfl, rfl⟩)
theorem notInL_inv {x d : PyData} {ps : List PyData} (h : dNotIn x (.list ps) = some d) : ∃ j ns, x = .int j ∧ ps = ns.map PyData.int ∧ d = .bool (if true then !isInI j ns else isInI j ns) := by
  cases x <;> first
    | (cases h; done)
    | (rename_i j
       obtain ⟨b, hb, rfl⟩ := Option.map_eq_some_iff.mp h
       obtain ⟨ns, rfl, rfl⟩ := inD_inv hb
       exact ⟨j, ns, rfl, rfl, rfl⟩)
theorem ev_inO {i : Nat} (ho : OpR X (compareOp .In) (rIn X.K false)) (ha : PE X a (tE X.K f)) (hv : PE X b (tVar i)) (hm : behindInMarks .In b = false) : PE X (.Compare a [.In] [b] pos) (tE X.K (eBinO dIn f i)) := pe_of (pe_cmpR ho ha hv hm) (rd_inO fun _ _ _ h => inL_inv h)
theorem et_inO {i : Nat} (ho : OpR X (compareOp .In) (rIn X.K false)) (ha : PE X a (tE X.K f)) (hv : PE X b (tVar i)) (hm : behindInMarks .In b = false) : PT X (.Compare a [.In] [b] pos) (tT X.K (tBl (eBinO dIn f i))) := pt_of (pt_cmpR ho ha hv hm) (rd_bl (rd_inO fun _ _ _ h => inL_inv h))
theorem ev_notInO {i : Nat} (ho : OpR X (compareOp .NotIn) (rIn X.K true)) (ha : PE X a (tE X.K f)) (hv : PE X b (tVar i)) (hm : behindInMarks .NotIn b = false) : PE X (.Compare a [.NotIn] [b] pos) (tE X.K (eBinO dNotIn f i)) := pe_of (pe_cmpR ho ha hv hm) (rd_inO fun _ _ _ h => notInL_inv h)
theorem et_notInO {i : Nat} (ho : OpR X (compareOp .NotIn) (rIn X.K true)) (ha : PE X a (tE X.K f)) (hv : PE X b (tVar i)) (hm : behindInMarks .NotIn b = false) : PT X (.Compare a [.NotIn] [b] pos) (tT X.K (tBl (eBinO dNotIn f i))) := pt_of (pt_cmpR ho ha hv hm) (rd_bl (rd_inO fun _ _ _ h => notInL_inv h))
end
end PG
end
section
set_option Elab.async false
set_option linter.all false
set_option maxRecDepth 100000
namespace PG
open PySem PySem.Spec PyProof.Rows L2
/-! ### x in xs: flat items, or data in a list -/
def flatD : PyData → Bool
  | .none => true
  | .bool _ => true
  | .int _ => true
  | .str _ => true
  | _ => false
def memD (x : PyData) (ds : List PyData) : Bool := ds.any fun z => PyData.eqv z x
def dMem (neg : Bool) (x : PyData) : PyData → Option PyData
  | .list ds => if (flatD x && ds.all flatD) || (SeqAt.shaped x && SeqAt.shaped (.list ds)) then some (.bool (if neg then !memD x ds else memD x ds)) else none
  | .tuple ds => if flatD x && ds.all flatD then some (.bool (if neg then !memD x ds else memD x ds)) else none
  | _ => none
def dIn2 : PyData → PyData → Option PyData := dMem false
def dNotIn2 : PyData → PyData → Option PyData := dMem true
section
variable {K : PySem.W.Frag} {A : Addr → Prop} {H : Hp}
theorem flat_rp {v : V} {d : PyData} (r : Rp K A H v d) (h : flatD d = true) : flatV v = true := by cases r <;> first | rfl | cases h
theorem eqv_rp {v u : V} {d e : PyData} (r : Rp K A H v d) (q : Rp K A H u e) (h : flatD d = true) (k : flatD e = true) : eqV v u = PyData.eqv d e := by
  cases r <;> cases q <;> first | (cases h; done) | (cases k; done) | (simp [eqV, PyData.eqv]; done) | (simp [eqV, PyData.eqv, BEq.comm])
theorem flat_rpA : ∀ {vs : List V} {ds : List PyData}, RpA K A H vs ds → ds.all flatD = true → vs.all flatV = true
  | _, [], r, _ => by cases r; rfl
  | _, d :: ds, r, h => by
    cases r with
    | cons r1 r2 =>
      simp only [List.all_cons, Bool.and_eq_true] at h ⊢
      exact ⟨flat_rp r1 h.1, flat_rpA r2 h.2⟩
theorem mem_rpA {u : V} {x : PyData} (q : Rp K A H u x) (hx : flatD x = true) : ∀ {vs : List V} {ds : List PyData}, RpA K A H vs ds → ds.all flatD = true → inV u vs = memD x ds
  | _, [], r, _ => by cases r; rfl
  | _, d :: ds, r, h => by
    cases r with
    | cons r1 r2 =>
      simp only [List.all_cons, Bool.and_eq_true] at h
      have ih := mem_rpA q hx r2 h.2
      unfold inV memD at ih ⊢
      rw [List.any_cons, List.any_cons, ih, eqv_rp r1 q h.1 hx]
end
theorem u65 {A : Around} {k : Nat} (r : Room k A) : A.units + 65 < cLine := by have := r.un; omega
def rMem (K : PySem.W.Frag) : R2 := fun x y H Q => rIn K false x y H Q ∨ rInD K x y H Q
def rNotMem (K : PySem.W.Frag) : R2 := fun x y H Q => rIn K true x y H Q ∨ rNotInD K x y H Q
section
variable {X : Cx} {a b : Expr} {pos : Pos} {f : EF}
theorem op_mem (hu : X.A.units + 65 < cLine) : OpR X (compareOp .In) (rMem X.K) := fun pins s σ H x y v u Q I rx ry h => h.elim (op_in_seq pins s σ H x y v u Q I rx ry) (op_inD hu pins s σ H x y v u Q I rx ry)
theorem op_notMem (hu : X.A.units + 65 < cLine) : OpR X (compareOp .NotIn) (rNotMem X.K) := fun pins s σ H x y v u Q I rx ry h => h.elim (op_notIn_seq pins s σ H x y v u Q I rx ry) (op_notInD hu pins s σ H x y v u Q I rx ry)
end
section
variable {K : PySem.W.Frag}
theorem mem_list {neg : Bool} {x d : PyData} {ds : List PyData} (h : dMem neg x (.list ds) = some d) : d = .bool (if neg then !memD x ds else memD x ds) ∧ ((flatD x = true ∧ ds.all flatD = true) ∨ (SeqAt.shaped x = true ∧ SeqAt.shaped (.list ds) = true)) := by
  unfold dMem at h
  simp only at h
  split at h
  · rename_i hc
    cases h
    simp only [Bool.or_eq_true, Bool.and_eq_true] at hc
    exact ⟨rfl, hc⟩
  · cases h
theorem mem_tup {neg : Bool} {x d : PyData} {ds : List PyData} (h : dMem neg x (.tuple ds) = some d) : d = .bool (if neg then !memD x ds else memD x ds) ∧ flatD x = true ∧ ds.all flatD = true := by
  unfold dMem at h
  simp only at h
  split at h
  · rename_i hc
    cases h
    simp only [Bool.and_eq_true] at hc
    exact ⟨rfl, hc⟩
  · cases h
/-- the list at l holds us, which are ds -/
theorem mem_at {A : Addr → Prop} {H : Hp} {neg : Bool} {v : V} {x d : PyData} {l : Addr} {us : List V} {ds : List PyData} {Q : VK} (r1 : Rp K A H v x) (q2 : SqL K H l us) (q3 : RpA K A H us ds) (h : dMem neg x (.list ds) = some d) (q : ∀ b, d = .bool b → Q (.bl b) H) :
    rIn K neg v (.ref l) H Q ∨ (if neg then rNotInD K else rInD K) v (.ref l) H Q := by
  obtain ⟨rfl, hc⟩ := mem_list h
  rcases hc with ⟨h1, h2⟩ | ⟨h1, h2⟩
  · refine .inl ⟨l, us, rfl, .inl q2, flat_rp r1 h1, flat_rpA q3 h2, ?_⟩
    rw [mem_rpA r1 h1 q3 h2]
    exact q _ rfl
  · refine .inr ?_
    have d1 := Rp.dp _ _ r1 (SeqAt.canLay_of_shaped h1)
    have d2 : Dp K H (.ref l) (.list ds) := .lst q2 (RpA.dp _ _ q3 (SeqAt.canLay_of_shaped h2))
    cases neg with
    | true => exact ⟨x, ds, d1, d2, h1, h2, q _ rfl⟩
    | false => exact ⟨x, ds, d1, d2, h1, h2, q _ rfl⟩
theorem os_mem : OpS K (rMem K) dIn2 := by
  intro c ρ σ H v1 v2 x y d Q R r1 r2 ho q
  cases y with
  | list ds =>
    cases r2 with
    | lst l al => exact mem_at (neg := false) r1 l.sq al ho fun b e => by subst e; exact q _ _ R (.bl _) fun _ _ h => h
  | tuple ds =>
    cases r2 with
    | tup l al =>
      obtain ⟨rfl, h1, h2⟩ := mem_tup ho
      refine .inl ⟨_, _, rfl, .inr l.sq, flat_rp r1 h1, flat_rpA al h2, ?_⟩
      rw [mem_rpA r1 h1 al h2]
      exact q _ _ R (.bl _) fun _ _ h => h
  | _ => cases ho
theorem os_notMem : OpS K (rNotMem K) dNotIn2 := by
  intro c ρ σ H v1 v2 x y d Q R r1 r2 ho q
  cases y with
  | list ds =>
    cases r2 with
    | lst l al => exact mem_at (neg := true) r1 l.sq al ho fun b e => by subst e; exact q _ _ R (.bl _) fun _ _ h => h
  | tuple ds =>
    cases r2 with
    | tup l al =>
      obtain ⟨rfl, h1, h2⟩ := mem_tup ho
      refine .inl ⟨_, _, rfl, .inr l.sq, flat_rp r1 h1, flat_rpA al h2, ?_⟩
      rw [mem_rpA r1 h1 al h2]
      exact q _ _ R (.bl _) fun _ _ h => h
  | _ => cases ho
end
section
variable {X : Cx} {a b : Expr} {pos : Pos} {f : EF}
theorem rd_memO {i : Nat} {neg : Bool} {K : PySem.W.Frag} : ∀ σ H Q, tE K (eBinO (dMem neg) f i) σ H Q → tOp (fun x y H Q => rIn K neg x y H Q ∨ (if neg then rNotInD K else rInD K) x y H Q) (tE K f) (tVar i) σ H Q := fun σ H Q ⟨c, ρ, d, ρ', R, e, q⟩ => by
  obtain ⟨x, p, ps, h1, h2, h3⟩ := binO_inv e
  refine ⟨c, ρ, _, ρ', R, h1, fun v1 H1 R1 r1 m1 => ?_⟩
  obtain ⟨l, us, g1, g2, g3, _⟩ := R1.lst i p _ h2
  exact ⟨.ref l, g1, mem_at r1 (.inl (.inl g2)) g3 h3 fun b e => by subst e; exact q _ H1 R1 (.bl _) m1⟩
theorem ev_memO {i : Nat} (hu : X.A.units + 65 < cLine) (ha : PE X a (tE X.K f)) (hv : PE X b (tVar i)) (hm : behindInMarks .In b = false) : PE X (.Compare a [.In] [b] pos) (tE X.K (eBinO dIn2 f i)) := pe_of (pe_cmpR (op_mem hu) ha hv hm) (rd_memO (neg := false))
theorem et_memO {i : Nat} (hu : X.A.units + 65 < cLine) (ha : PE X a (tE X.K f)) (hv : PE X b (tVar i)) (hm : behindInMarks .In b = false) : PT X (.Compare a [.In] [b] pos) (tT X.K (tBl (eBinO dIn2 f i))) := pt_of (pt_cmpR (op_mem hu) ha hv hm) (rd_bl (rd_memO (neg := false)))
theorem ev_notMemO {i : Nat} (hu : X.A.units + 65 < cLine) (ha : PE X a (tE X.K f)) (hv : PE X b (tVar i)) (hm : behindInMarks .NotIn b = false) : PE X (.Compare a [.NotIn] [b] pos) (tE X.K (eBinO dNotIn2 f i)) := pe_of (pe_cmpR (op_notMem hu) ha hv hm) (rd_memO (neg := true))
theorem et_notMemO {i : Nat} (hu : X.A.units + 65 < cLine) (ha : PE X a (tE X.K f)) (hv : PE X b (tVar i)) (hm : behindInMarks .NotIn b = false) : PT X (.Compare a [.NotIn] [b] pos) (tT X.K (tBl (eBinO dNotIn2 f i))) := pt_of (pt_cmpR (op_notMem hu) ha hv hm) (rd_bl (rd_memO (neg := true)))
end
end PG
end
section
set_option Elab.async false
set_option linter.all false
set_option maxRecDepth 100000
namespace PG
open PySem PySem.Spec PyProof.Rows L2
/-! ### repr(x): asked where no text of an object is being made (the law's own body) -/
/-- a def's promise, where nothing of that kind is under way -/
structure FnQ (P : Program) (w : World) (K : PySem.W.Frag) (mg : Str → Option Value) (bas : Heap) (k : Nat) (fa : Addr) (fd : FuncData) (ps : List Str) (sp : Sp) : Prop where
  arity : ∀ vs H Q E, sp vs H Q E → vs.length = ps.length
  does : ∀ (B : Around) (up : List Env) (s : Shared) (H : Hp) (ar : Args) (us : List Value) (vs : List V) (Q : VK) (E : XK), B.guards = some [] → Room k B → Env0 P w K mg bas B up s H → BindsTo s fd ar (ps.zip us) → Vals vs us → sp vs H Q E →
    codeAny (model P w) B (.call (.ref fa) ar) (CR CX0 up P w H s Q E) s
theorem guards_deeper {B : Around} {env : Env} (h : B.guards = some []) : (B.deeper env).guards = some [] := by
  first | exact h | (simp [Around.deeper, h])
section
variable {P : Program} {w : World} {K : PySem.W.Frag} {mg : Str → Option Value} {bas : Heap}
theorem fnq_of {k : Nat} {fa : Addr} {nm ql : Str} {pr : Arguments} {bd : List Stmt} {sc : Scope} {dV kV doc pm cdv ct oc : Value} {an od : Option Addr} {sl : Array (Option Value)} {N ps : List Str} {sp : Sp}
    (hl : K.lookup fa = some ⟨oc, od, .func (PySem.W.fnOf nm ql pr bd sc dV kV doc pm an cdv ct), sl⟩) (hc : PySem.W.codeIn K cdv ql = true) (S : FnScope N ps sc) (har : ∀ vs H Q E, sp vs H Q E → vs.length = ps.length)
    (hbd : ∀ (B : Around) (up : List Env) (s : Shared) (H : Hp) (vs : List V) (Q : VK) (E : XK), (B.deeper (envOfC ql sc s.heap.objs.size fa cdv)).guards = some [] → Room k (B.deeper (envOfC ql sc s.heap.objs.size fa cdv)) → sp vs H Q E →
      ∃ t, PSs (cxOf CX0 P w K mg bas N ql sc fa cdv B up s H E) bd t ∧ t { nx := fun _ H' => Q .non H', rt := Q } (start N vs) H) :
    FnQ P w K mg bas (k + 1) fa (PySem.W.fnOf nm ql pr bd sc dV kV doc pm an cdv ct) ps sp := by
  refine ⟨har, fun B up s H ar us vs Q E hgd room en hbind rv want => ?_⟩
  have many := har _ _ _ _ want
  have kin : K.In s.heap := en.mod.kin.keeps fun b o e => (en.bs b o e).1
  have nolim : s.heap.NoLimit := en.mod.nolimit.keeps fun b o e => (en.bs b o e).1
  have kinds : ∀ y ∈ ps.zip us, sc.names.lookup y.1 = some .local ∨ (sc.names.lookup y.1 = some .cell ∧ ((cellsFrom (s.heap.objs.size + 1) sc.names []).lookup y.1).isSome = true) := fun y hy => by
    obtain ⟨n, v⟩ := y
    rcases S.par n (List.of_mem_zip hy).1 with q | q
    · exact .inl q
    · exact .inr ⟨q, PySem.W.cellsFrom_some _ _ _ (.inl q)⟩
  refine codeAny_call_function room.depth (kin _ _ hl) rfl S.co S.gen rfl (PySem.W.codeRec_of kin hc) (hbind _ _ _ _ ?_)
  refine wpAny_newFunctionEnv_cells S.kind kinds fun env henv s1 x => ?_
  subst henv
  refine ⟨nolim.keeps x.toInCall.keep, codeAny_func ?_⟩
  obtain ⟨t, tp, tq⟩ := hbd B up s H vs Q E (guards_deeper hgd) (room.deeper _) want
  have inv : Inv (cxOf CX0 P w K mg bas N ql sc fa cdv B up s H E) [] (start N vs) H s1 := inv_start S room.hd en many rv x
  refine wpAny_mono (tp.run [] s1 (start N vs) H _ inv tq) (fun fl s' hs => ?_) fun e s' hs => hs
  cases fl with
  | ret u => exact let ⟨v, σ', H', J, rv', q⟩ := hs; ⟨v, H', J.os, J.bare, J.base, J.hok, rv', q⟩
  | next => exact let ⟨σ', H', J, q⟩ := hs; ⟨.non, H', J.os, J.bare, J.base, J.hok, rfl, q⟩
  | brk => exact let ⟨_, _, _, q⟩ := hs; False.elim q
  | cont => exact let ⟨_, _, _, q⟩ := hs; False.elim q
/-- a def on data, in such a place -/
theorem okq_P {x qual : Str} {st : Stmt} {fa : Addr} {fd : FuncData} {N ps : List Str} {j k m : Nat} {b : SF} (F : L2.Fun K x qual st fa fd) (S : FnScope N ps (defScope st)) (hk : ps.length = k) (hm : k + m = N.length)
    (hb : ∀ (cdv : Value) (A : Around) (outer : List Env) (s : Shared) (H : Hp) (E : XK), (A.deeper (envOfC qual (defScope st) s.heap.objs.size fa cdv)).guards = some [] → Room j (A.deeper (envOfC qual (defScope st) s.heap.objs.size fa cdv)) → PSs (cxOf CX0 P w K mg bas N qual (defScope st) fa cdv A outer s H E).nox (defBody st) (tS K b)) :
    FnQ P w K mg bas (j + 1) fa fd ps (spP K k (defP b k m)) := by
  obtain ⟨oc, od, kV, doc, pm, an, cdv, ct, sl, rfl, lk, hcd⟩ := F.ex
  refine fnq_of lk hcd S (fun vs H Q E h => h.1.trans hk.symm) fun A outer s H vs Q E hg hr h => ?_
  obtain ⟨hl, A', ds, r, ra, hA, e, q⟩ := h
  refine ⟨_, (hb cdv A outer s H E hg hr).nox, ?_⟩
  have R := rel_start (m := m) (N := N) ra hA (by omega)
  unfold defP at e
  split at e
  · cases eb : b (rho0 ds m) with
    | none => rw [eb] at e; cases e
    | some z =>
      obtain ⟨o, ρ'⟩ := z
      rw [eb] at e
      have kp : ∀ σ' H', Rel K ⟨A', H, fun _ => none⟩ ρ' σ' H' → ∀ a o, H a = some o → H' a = some o := fun σ' H' R' a o h => R'.old a o h fun i z => nomatch z
      refine ⟨_, rho0 ds m, o, ρ', R, eb, ?_⟩
      cases o with
      | next => cases e; exact fun σ' H' R' _ => q .non H' (kp σ' H' R') .non
      | brk => cases e
      | cont => cases e
      | ret d => cases e; exact fun v σ' H' R' r' => q v H' (kp σ' H' R') r'
      | retL ds => cases e; exact fun a vs σ' H' R' ha r' h0 => q (.ref a) H' (kp σ' H' R') (.lst ⟨ha, fun z => hA a z h0⟩ (r'.mv fun b o e n => ⟨e, fun z => n (.inl z)⟩))
  · cases e
end
/-! the law's own call -/
theorem law_runs {P : Program} {w : World} {K : PySem.W.Frag} {mg mb : Str → Option Value} {k : Nat} {fa at_ : Addr} {fd : FuncData} {x : Str} {sp : Sp} {st : Shared} {us : List Value} {ns : List Int}
    (kin : K.In st.heap) (gns : st.heap.Ns mainGlobals mg) (bns : st.heap.Ns builtinsNs mb) (boot : ∀ y : Str, y ≠ "__name__" → mb y = bootBuiltins y) (nolim : st.heap.NoLimit) (nog : st.gens = #[])
    (hat : st.heap.get? at_ = some { cls := .type "list", data := .seq us.toArray }) (cells : IntsAre us ns) (short : ns.length ≤ sizeLine) (room : Room k callerA)
    (F : ∀ bas : Heap, K.In bas → bas.Ns mainGlobals mg → FnQ P w K mg bas k fa fd [x] sp) (binds : ∀ (s : Shared) (u : Value), BindsTo s fd ⟨[u], []⟩ [(x, u)])
    (want : ∀ H : Hp, Only H → SqL K H at_ (ns.map V.int) → sp [.ref at_] H (fun v _ => v = .bl true) fun _ _ _ => False) :
    codeAny (model P w) callerA (.call (.ref fa) ⟨[.ref at_], []⟩) (fun r s' => r = .ok (.ret (.bool true)) ∧ OldK st.heap s'.heap ∧ s'.os = st.os ∧ AllBare s'.gens) st := by
  have vals := vals_ints cells
  have many := cells.length
  have main : ∀ H : Hp, Only H → SqL K H at_ (ns.map V.int) → HOk P w H st.heap → (∀ b, H b ≠ none → b = at_) → (H at_ ≠ none → K.lookup at_ = none) →
      codeAny (model P w) callerA (.call (.ref fa) ⟨[.ref at_], []⟩) (fun r s' => r = .ok (.ret (.bool true)) ∧ OldK st.heap s'.heap ∧ s'.os = st.os ∧ AllBare s'.gens) st := by
    intro H only sq hok alone notK
    have low : ∀ {b : Addr} {o : Obj}, st.heap.get? b = some o → H b = none → (hidT st.heap H).get? b = some o := fun e n => hidT_get e n
    have dictNo : ∀ {b : Addr} {o : Obj} {es : Array DictEntry} {ep : Nat}, st.heap.get? b = some o → o.data = .dict es ep → H b = none := fun {b o es ep} e d => by
      cases q : H b with
      | none => rfl
      | some u =>
        obtain rfl := alone b (by rw [q]; simp)
        rw [hat] at e
        cases e
        exact nomatch (show Data.seq us.toArray _ = Data.dict es ep from d)
    have ns2 : ∀ {b : Addr} {m : Str → Option Value}, st.heap.Ns b m → (hidT st.heap H).Ns b m := fun {b m} h => by
      obtain ⟨o, es, ep, e, d, r⟩ := h
      exact ⟨o, es, ep, low e (dictNo e d), d, r⟩
    have kin2 : K.In (hidT st.heap H) := fun b o e => low (kin b o e) (by
      cases q : H b with
      | none => rfl
      | some u =>
        obtain rfl := alone b (by rw [q]; simp)
        rw [notK (by rw [q]; simp)] at e
        cases e)
    have md : Mod K mg (hidT st.heap H) := ⟨kin2, ns2 gns, ⟨mb, ns2 bns, boot⟩, by obtain ⟨mc, h1, h2⟩ := nolim; exact ⟨mc, ns2 h1, h2⟩⟩
    have en : Env0 P w K mg (hidT st.heap H) callerA [] st H := ⟨rfl, md, fun b o e => of_hidT e, Nat.le_of_eq (hidT_size _ _), trivial, (fun b hb => nomatch (show b ∈ ([] : List Addr) from hb)), hok, .of_eq nog⟩
    refine codeAny_mono ((F _ kin2 (ns2 gns)).does callerA [] st H ⟨[.ref at_], []⟩ [.ref at_] [.ref at_] _ _ rfl room en (binds st (.ref at_)) (.cons rfl .nil) (want H only sq)) fun r s' h => ?_
    cases r with
    | error e => exact absurd h (by intro z; exact z)
    | ok fl =>
      cases fl with
      | next => exact False.elim h
      | brk => exact False.elim h
      | cont => exact False.elim h
      | ret u =>
        obtain ⟨v, H', os, bare, un, hok', rv, q⟩ := h
        obtain rfl : v = .bl true := q
        obtain rfl : u = Value.bool true := rv
        refine ⟨rfl, OldK.of_keep fun b o e => ?_, os, bare⟩
        cases q : H b with
        | none => exact un.keep b o e q (by intro z; exact nomatch (show b ∈ ([] : List Addr) from z)) (by simp)
        | some u =>
          rcases only b with z | ⟨ob, xs, z⟩
          · rw [q] at z
            cases z
          · obtain ⟨e1, _⟩ := hok b _ z
            obtain ⟨e2, _⟩ := hok' b _ (un.frzs b ob _ z)
            rw [e] at e1
            cases e1
            exact e2
  cases hk : K.lookup at_ with
  | some o =>
    have e := kin at_ o hk
    rw [hat] at e
    cases e
    refine main (fun _ => none) (fun _ => .inl rfl) (.inr ⟨_, us.toArray, _, hk, rfl, rfl, rfl, by rw [List.size_toArray, many]; exact short, by simpa using vals⟩) (fun b u z => nomatch (show (none : Option HO) = some u from z)) (fun b z => absurd rfl z) fun z => absurd rfl z
  | none =>
    refine main (fun b => if b = at_ then some (.frz { cls := .type "list", data := .seq us.toArray } (.lst (ns.map V.int))) else none) (fun b => ?_) (.inl (.inr ⟨{ cls := .type "list", data := .seq us.toArray }, if_pos rfl⟩)) (fun b u z => ?_) (fun b z => ?_) fun _ => hk
    · rcases Classical.em (b = at_) with hb | hb
      · exact .inr ⟨_, _, if_pos hb⟩
      · exact .inl (if_neg hb)
    · rcases Classical.em (b = at_) with hb | hb
      · have z' := (if_pos hb).symm.trans z
        cases z'
        subst hb
        exact ⟨hat, by rw [List.length_map]; exact short, us, _, vals, hat⟩
      · exact nomatch (if_neg hb).symm.trans z
    · rcases Classical.em (b = at_) with hb | hb
      · exact hb
      · exact absurd (if_neg hb) z
theorem walkq_of {l : PySem.W.OpenLaw} {n k : Nat} {q : Program} {loose : List Str} {XP : (Str → Option Value) → Heap → Prop} {YP : World → Heap → Prop} {d : DefRec} {K : Params → PySem.W.Frag} {sp : World → Sp} {x : Str}
    (most : l.most = some n) (short : n ≤ sizeLine) (nodef : d.params.defaults = []) (room : Room k callerA) (hY : ∀ (w : World) (h : Heap), YP w h → (K w.params).In h)
    (F : ∀ (w : World) (mg : Str → Option Value) (fa : Addr) (h : Heap), (K w.params).In h → h.Ns mainGlobals mg → mg d.name = some (.ref fa) →
      ∃ fd : FuncData, (∀ (s : Shared) (u : Value), BindsTo s fd ⟨[u], []⟩ [(x, u)]) ∧ ∀ bas : Heap, (K w.params).In bas → bas.Ns mainGlobals mg → FnQ l.prog w (K w.params) mg bas k fa fd [x] (sp w))
    (want : ∀ (w : World) (H : Hp) (a : Addr) (ns : List Int), ns.length ≤ n → Only H → SqL (K w.params) H a (ns.map V.int) → sp w [.ref a] H (fun v _ => v = .bl true) fun _ _ _ => False) :
    PySem.W.WalkO q loose XP YP l.row.toRowW d [] (fun f vs => PySem.call f vs) := by
  refine Att.attach_call most nodef fun w s₀ st mg mb fa o pm cd doc a vs ns G Y ho hd hcd hmg hobj hints hlen hg => ?_
  have kin := hY w _ Y
  obtain ⟨fd, binds, hF⟩ := F w mg fa _ kin G.T.g hmg
  exact law_runs kin G.T.g G.T.b G.T.builtins G.T.nolimit hg hobj hints (Nat.le_trans hlen short) room hF binds fun H only sq => want w H a ns hlen only sq
/-! repr -/
def reprOk (d : PyData) : Bool := d.canLay0 && decide (d.depth ≤ 64) && d.showable && decide (d.shown.length ≤ 16777216)
def dRepr (d : PyData) : Option PyData := if reprOk d then some (.str d.shown) else none
mutual
theorem noDict0 : ∀ d : PyData, d.canLay0 = true → d.hasDict = false
  | .none, _ => rfl
  | .bool _, _ => rfl
  | .int _, _ => rfl
  | .str _, _ => rfl
  | .list xs, h => by simp only [PyData.canLay0] at h; simp only [PyData.hasDict]; exact noDictA xs h
  | .tuple xs, h => by simp only [PyData.canLay0] at h; simp only [PyData.hasDict]; exact noDictA xs h
  | .dict _, h => by simp [PyData.canLay0] at h
theorem noDictA : ∀ ds : List PyData, PyData.canLayAll0 ds = true → PyData.hasDictAll ds = false
  | [], _ => rfl
  | d :: ds, h => by
    simp only [PyData.canLayAll0, Bool.and_eq_true] at h
    simp only [PyData.hasDictAll, noDict0 d h.1, noDictA ds h.2, Bool.or_false]
end
section
variable {X : Cx} {a : Expr} {p pos : Pos} {f : EF}
def rRepr (K : PySem.W.Frag) : List V → Hp → VK → Prop := fun xs H Q => ∃ v d, xs = [v] ∧ Dp K H v d ∧ reprOk d = true ∧ Q (.str d.shown) H
theorem call_repr (hg : X.A.guards = some []) (hu : X.A.units + 66 < cLine) : CallR X (.builtin "repr") (rRepr X.K) := by
  intro pins s σ H xs us Q I r h
  obtain ⟨v, d, rfl, hd, ok, q⟩ := h
  obtain ⟨u, rfl, rv⟩ := vals1 r
  obtain ⟨as, rd⟩ := Dp.reads I d v u hd rv
  simp only [reprOk, Bool.and_eq_true, decide_eq_true_eq] at ok
  obtain ⟨⟨⟨h1, h2⟩, h3⟩, h4⟩ := ok
  have hz : d.shown.length ≤ sizeLine := by rw [sizeLine_eq]; exact h4
  have hsm : d.hasDict = true → sysModules ∉ as := fun z => by rw [noDict0 d h1] at z; cases z
  cases rd with
  | none => exact P.repr_of_none ⟨.str _, H, I.tok _, ⟨_, rfl⟩, q⟩
  | bool b => exact P.repr_of_bool ⟨.str _, H, I.tok _, ⟨_, rfl⟩, q⟩
  | int i t => exact P.repr_of_int (by simpa [PyData.showable] using h3) ⟨.str _, H, I.tok _, ⟨_, rfl⟩, q⟩
  | str x t => exact P.repr_of_str ⟨.str _, H, I.tok _, ⟨_, rfl⟩, q⟩ (by simpa only [PyData.shown] using hz)
  | list q1 q2 q3 q4 => exact repr_of_reads' (.list q1 q2 q3 q4) h3 hsm hg (by omega) (fun _ _ e => e) (fun h' u tk kp => ⟨.str _, H, I.kept kp, ⟨_, rfl⟩, q⟩) hz
  | tuple q1 q2 q3 q4 => exact repr_of_reads' (.tuple q1 q2 q3 q4) h3 hsm hg (by omega) (fun _ _ e => e) (fun h' u tk kp => ⟨.str _, H, I.kept kp, ⟨_, rfl⟩, q⟩) hz
  | dict _ _ _ _ _ => simp [PyData.canLay0] at h1
end
theorem fs_repr {K : PySem.W.Frag} : FnS K (rRepr K) (o1of dRepr) := by
  intro c ρ σ H vs ds d Q R r ho q
  obtain ⟨x, rfl, h2⟩ := o1_inv ho
  obtain ⟨v, rfl, w1⟩ := rpa1 r
  unfold dRepr at h2
  split at h2
  · rename_i hc
    cases h2
    have hl : x.canLay0 = true := by
      simp only [reprOk, Bool.and_eq_true] at hc
      exact hc.1.1.1
    exact ⟨v, x, rfl, Rp.dp _ _ w1 hl, hc, os_same R q (.str _)⟩
  · cases h2
theorem u66 {A : Around} {k : Nat} (r : Room k A) : A.units + 66 < cLine := by have := r.un; omega
/-! texts compared -/
@[simp] def dNeS : PyData → PyData → Option PyData
  | .str x, .str y => some (.bool (!decide (x = y)))
  | _, _ => none
@[simp] def dEqS : PyData → PyData → Option PyData
  | .str x, .str y => some (.bool (decide (x = y)))
  | _, _ => none
theorem os_neS {K : PySem.W.Frag} : OpS K rNe dNeS := by
  intro c ρ σ H v1 v2 x y d Q R r1 r2 ho q
  unfold dNeS at ho
  split at ho
  · cases ho
    cases r1
    cases r2
    refine ⟨rfl, ?_⟩
    rename_i a b
    have e : (decide (V.str a = V.str b)) = decide (a = b) := by
      rw [Bool.eq_iff_iff]
      simp
    rw [e]
    exact os_same R q (.bl _)
  · cases ho
theorem os_eqS {K : PySem.W.Frag} : OpS K rEq dEqS := by
  intro c ρ σ H v1 v2 x y d Q R r1 r2 ho q
  unfold dEqS at ho
  split at ho
  · cases ho
    cases r1
    cases r2
    refine ⟨rfl, ?_⟩
    rename_i a b
    have e : (decide (V.str a = V.str b)) = decide (a = b) := by
      rw [Bool.eq_iff_iff]
      simp
    rw [e]
    exact os_same R q (.bl _)
  · cases ho
end PG
end
section
set_option Elab.async false
set_option linter.all false
set_option maxRecDepth 100000
set_option maxHeartbeats 4000000
namespace PG
open PySem PySem.Spec PyProof.Rows L2
theorem tuple_mul1 (l : Addr) (items : Array Value) (n : Nat) (dd : Option Addr) (sl : Array (Option Value)) (x : Int) (u : Tok) (c0 : (decide (x < -(2 ^ 63)) || decide (x ≥ 2 ^ 63)) = false) (c1 : (items.isEmpty || x == 1) = true) :
    Meets (Builtin.«tuple.__mul__» ⟨[.ref l, .int x u], []⟩) (fun _ R s => s.heap.get? l = some { cls := .type "tuple", dict := dd, data := .seq items n, slots := sl } ∧
      R (.ok (.ret (Value.ref l))) s) :=
  .of_wp fun prog w A R s h => by
    obtain ⟨hp, g, d, tk, os⟩ := s
    obtain ⟨hl, h⟩ := h
    have f1 := AutoSeq1.idx_int
    wp_walk using wpAny_loadPart' hl
    repeat (first
      | (refine wpAny_ite_false (decide_eq_false (by rw [c0]; exact Bool.false_ne_true)) ?_; wp_walk using wpAny_loadPart' hl)
      | (refine wpAny_ite_true (decide_eq_true (by rw [c1])) ?_; wp_walk using wpAny_loadPart' hl))

    exact ⟨_, rfl, h⟩
theorem tuple_mul0 (l : Addr) (items : Array Value) (n : Nat) (dd : Option Addr) (sl : Array (Option Value)) (x : Int) (u : Tok) (c0 : (decide (x < -(2 ^ 63)) || decide (x ≥ 2 ^ 63)) = false) (c1 : (items.isEmpty || x == 1) = false) (c2 : (decide (x ≤ 0) || items.isEmpty) = true) :
    Meets (Builtin.«tuple.__mul__» ⟨[.ref l, .int x u], []⟩) (fun _ R s => s.heap.get? l = some { cls := .type "tuple", dict := dd, data := .seq items n, slots := sl } ∧
      R (.ok (.ret (Value.ref s.heap.objs.size))) { s with heap := s.heap.push { cls := Value.type "tuple", data := Data.seq #[] }, toks := s.toks }) :=
  .of_wp fun prog w A R s h => by
    obtain ⟨hp, g, d, tk, os⟩ := s
    obtain ⟨hl, h⟩ := h
    have f1 := AutoSeq1.idx_int
    wp_walk using wpAny_loadPart' hl
    repeat (first
      | (refine wpAny_ite_false (decide_eq_false (by rw [c0]; exact Bool.false_ne_true)) ?_; wp_walk using wpAny_loadPart' hl)
      | (refine wpAny_ite_false (decide_eq_false (by rw [c1]; exact Bool.false_ne_true)) ?_; wp_walk using wpAny_loadPart' hl)
      | (refine wpAny_ite_true (decide_eq_true (by rw [c2])) ?_; wp_walk using wpAny_loadPart' hl))

    exact ⟨_, rfl, h⟩

def rRepT2 (K : PySem.W.Frag) : R2 := fun x y H Q => ∃ l k xs, x = .ref l ∧ y = .int k ∧ SqT K H l xs ∧ -(2 ^ 63) ≤ k ∧ k < 2 ^ 63 ∧ xs.length * k.toNat ≤ sizeLine ∧ (xs = [] ∨ k = 1 → Q (.ref l) H) ∧
  ∀ p, H p = none → Q (.ref p) (upd H p (.tup (List.replicate k.toNat xs).flatten))
section
variable {X : Cx}
theorem op_repT2 : OpR X (binaryOp .Mult) (rRepT2 X.K) := by
  intro pins s σ H x y v u Q I rx ry h
  obtain ⟨l, k, xs, rfl, rfl, hT, h1, h2, hz, qs, q⟩ := h
  cases rx
  obtain ⟨t, rfl⟩ := ry
  obtain ⟨its, r, ⟨⟨cls, dd, data, sl⟩, ho, hc, n, hd⟩, hs⟩ := I.tuple hT
  simp only at hc hd
  subst hc hd
  have hle : its.length = xs.length := r.length.symm
  have hsz0 : its.toArray.size = xs.length := by rw [List.size_toArray, hle]
  have c0 : (decide (k < -(2 ^ 63)) || decide (k ≥ 2 ^ 63)) = false := by
    rw [decide_eq_false (by omega), decide_eq_false (by omega)] <;> rfl
  have go : ∀ {Qv : Value → Shared → Prop} {Sp : PySem.Spec} (M : Meets (Builtin.«tuple.__mul__» ⟨[.ref l, .int k t], []⟩) Sp), Sp X.A (wants Qv X.xe) s → wpAny (model X.prog X.w) X.A (binaryOp .Mult (.ref l) (.int k t)) Qv X.xe s := fun M hM =>
    wpAny_binaryOp_repeat_ref (T := "tuple") (U := "int") (by decide) ⟨_, ho, rfl⟩ (fun s' => typeIs_int s' k t) noFill_tuple_mul F.fills_int_mul F.slot_int_rmul repeat_tuple F.slot_int_index.lookup
    (call_meets F.slot_int_rmul (typeIs_int s k t) F.entry_int_rmul (F.args_int_rmul_2 _ _) (int_rmul_tuple k t l its.toArray n dd sl)
      ⟨ho, rfl, ⟨_, ho, rfl⟩, call_meets F.slot_tuple_mul ⟨_, ho, rfl⟩ F.entry_tuple_mul (F.args_tuple_mul_2 _ _) M hM⟩)
  have hi : its.toArray.isEmpty = xs.isEmpty := by
    cases its with
    | nil => rw [show xs = [] from List.eq_nil_of_length_eq_zero hle.symm]; rfl
    | cons a b =>
      cases xs with
      | nil => cases hle
      | cons _ _ => rfl
  by_cases c1 : (its.toArray.isEmpty || k == 1) = true
  · refine go (tuple_mul1 l its.toArray n dd sl k t c0 c1) ⟨ho, ?_⟩
    refine ⟨.ref l, H, I, rfl, qs ?_⟩
    rw [hi] at c1
    rcases Bool.or_eq_true_iff.mp c1 with c | c
    · exact .inl (List.isEmpty_iff.mp c)
    · exact .inr (by simpa using c)
  have c1 : (its.toArray.isEmpty || k == 1) = false := by simpa using c1
  have hne : its.toArray.isEmpty = false := by
    cases e : its.toArray.isEmpty with
    | false => rfl
    | true => rw [e] at c1; cases c1
  by_cases c2 : k ≤ 0
  · refine go (tuple_mul0 l its.toArray n dd sl k t c0 c1 (by rw [hne, decide_eq_true c2]; rfl)) ⟨ho, ?_⟩
    have e0 : k.toNat = 0 := by omega
    rw [e0] at q
    exact ⟨.ref s.heap.objs.size, _, I.laid (t' := s.toks) (o := .tup (List.replicate 0 xs).flatten) (fun b ob q => Heap.get?_push_of_some _ q) (Nat.le_refl _) ⟨by simp, [], .nil, IsTup.new _ _⟩, rfl, q _ (I.hok.fresh (Nat.le_refl _))⟩
  · have c2' : (decide (k ≤ 0) || its.toArray.isEmpty) = false := by rw [hne, decide_eq_false c2]; rfl
    have hm : ((its.toArray.size : Nat) : Int) * k ≤ (sizeLine : Nat) := by
      rw [hsz0]
      have : ((xs.length * k.toNat : Nat) : Int) ≤ (sizeLine : Nat) := by exact_mod_cast hz
      rw [Int.natCast_mul, show ((k.toNat : Nat) : Int) = k by omega] at this
      exact this
    have flen : (List.replicate k.toNat its).flatten.length ≤ sizeLine := by
      rw [PyProof.Rows.lm_len_rep_flat, hle, Nat.mul_comm]
      exact hz
    have c3 : ¬ ((its.toArray.size : Nat) : Int) * k > (2 ^ 63 - 1) / 8 := by
      rw [sizeLine_eq] at hm
      omega
    have c4 : Builtin.Tuple.tupleTooMany (((its.toArray.size : Nat) : Int) * k) = false := by
      unfold Builtin.Tuple.tupleTooMany
      exact decide_eq_false (by omega)
    refine go (tuple_mulW l its.toArray n dd sl k t c0 c1 c2' c3 c4 (by rw [size_rep, List.size_toArray]; exact flen)) ⟨ho, ?_⟩
    rw [size_rep]
    refine ⟨.ref s.heap.objs.size, _, I.laid (t' := s.toks) (o := .tup (List.replicate k.toNat xs).flatten) (fun b ob q => Heap.get?_push_of_some _ q) (Nat.le_refl _) ?_, rfl, q _ (I.hok.fresh (Nat.le_refl _))⟩
    exact ⟨by rw [PyProof.Rows.lm_len_rep_flat, Nat.mul_comm]; exact hz, _, r.rep k.toNat, IsTup.new _ _⟩
end
@[simp] def dRepT : PyData → PyData → Option PyData
  | .tuple xs, .int k => if -9223372036854775808 ≤ k ∧ k < 9223372036854775808 ∧ xs.length * k.toNat ≤ 16777216 then some (.tuple (List.replicate k.toNat xs).flatten) else none
  | _, _ => none
theorem os_repT {K : PySem.W.Frag} : OpS K (rRepT2 K) dRepT := by
  intro c ρ σ H v1 v2 x y d Q R r1 r2 ho q
  unfold dRepT at ho
  split at ho
  · rename_i ds k
    split at ho
    · rename_i hk
      cases ho
      cases r2
      cases r1 with
      | @tup a xs _ l al =>
        refine ⟨_, _, xs, rfl, rfl, l.sq, by omega, by omega, by rw [al.length, sl16]; exact hk.2.2, fun hs => ?_, fun p hp => ?_⟩
        · refine q _ _ R ?_ fun _ _ h => h
          have e : (List.replicate k.toNat ds).flatten = ds := by
            rcases hs with rfl | rfl
            · cases al
              simp
            · simp
          rw [e]
          exact .tup l al
        · exact q _ _ (R.alloc hp).1 (R.newTup hp (rpa_rep al _)) (R.alloc hp).2
    · cases ho
  · cases ho
end PG
end
section
set_option Elab.async false
set_option linter.all false
set_option maxRecDepth 100000
namespace PG
open PySem PySem.Spec PyProof.Rows L2
/-! ### a table of the module whose keys are tuples of whole numbers -/
def intsAt : List Value → List Int → Bool
  | [], [] => true
  | v :: r, i :: t => Value.isInt i v && intsAt r t
  | _, _ => false
def seqTop : Data → Option (List Value)
  | .seq its _ => some its.toList
  | _ => none
def keyAt (K : PySem.W.Frag) (v : Value) (ks : List Int) : Bool := match v with
  | .ref b => match K.lookup b with
    | some o => o.cls == Value.type "tuple" && (match seqTop o.data with
      | some its => intsAt its ks
      | none => false)
    | none => false
  | _ => false
def tupH (ks : List Int) : Int := reduceHash (Builtin.Tuple.tupleHashOf (ks.map hashInt))
def tentOk (K : PySem.W.Frag) : List DictEntry → List (List Int × Int) → Bool
  | [], [] => true
  | e :: r, p :: t => decide (e.hash = tupH p.1) && keyAt K e.key p.1 && Value.isInt p.2 e.val && tentOk K r t
  | _, _ => false
def inK (ks : List Int) : List Key := ks.map Sum.inl
structure TTab (K : PySem.W.Frag) (d : Addr) (tab : List (List Int × Int)) : Prop where
  at_ : ∃ es n, K.lookup d = some ⟨.type "dict", none, .dict es n, #[]⟩ ∧ tentOk K es.toList tab = true
  one : (tab.map fun p => inK p.1).Nodup
  low : (d == sysModules) = false
def getT (tab : List (List Int × Int)) (ks : List Int) : Option Int := (tab.find? fun p => decide (p.1 = ks)).map (·.2)
theorem inK_inj : ∀ {a b : List Int}, inK a = inK b → a = b
  | [], [], _ => rfl
  | [], _ :: _, h => by simp [inK] at h
  | _ :: _, [], h => by simp [inK] at h
  | x :: a, y :: b, h => by
    simp only [inK, List.map_cons, List.cons.injEq, Sum.inl.injEq] at h
    rw [h.1, inK_inj (a := a) (b := b) h.2]
theorem items_ints {P : Program} {w : World} : ∀ {vs : List Value} {ks : List Int}, intsAt vs ks = true → ItemsAre (mixKind P w) (inK ks) vs
  | [], [], _ => .nil
  | [], _ :: _, h => by cases h
  | _ :: _, [], h => by cases h
  | v :: vs, k :: ks, h => by
    simp only [intsAt, Bool.and_eq_true] at h
    exact .cons h.1 (items_ints h.2)
theorem keyAt_inv {P : Program} {w : World} {K : PySem.W.Frag} {v : Value} {ks : List Int} (h : keyAt K v ks = true) : ∃ b o its n, v = .ref b ∧ K.lookup b = some o ∧ o.cls = .type "tuple" ∧ o.data = .seq its n ∧ ItemsAre (mixKind P w) (inK ks) its.toList := by
  unfold keyAt at h
  split at h
  · rename_i b
    split at h
    · rename_i o ho
      rw [Bool.and_eq_true] at h
      obtain ⟨h1, h2⟩ := h
      split at h2
      · rename_i its hi
        unfold seqTop at hi
        split at hi
        · rename_i arr n hd
          cases hi
          exact ⟨b, o, arr, n, rfl, ho, eq_of_beq h1, hd, items_ints h2⟩
        · cases hi
      · cases h2
    · cases h
  · cases h
theorem tent_xs {P : Program} {w : World} {K : PySem.W.Frag} : ∀ {es : List DictEntry} {tab : List (List Int × Int)}, tentOk K es tab = true →
    ∃ xs : List (List Key × Addr × Value), es = xs.map (entryOfKey (tupleKind (mixKind P w))) ∧ xs.map (·.1) = tab.map (fun p => inK p.1) ∧
      (∀ x ∈ xs, ∃ o its n, K.lookup x.2.1 = some o ∧ o.cls = .type "tuple" ∧ o.data = .seq its n ∧ ItemsAre (mixKind P w) x.1 its.toList) ∧
      ∀ ks : List Int, match getT tab ks with
        | some v => ∃ t, (atKey xs (inK ks)).map (·.2) = some (Value.int v t)
        | none => (atKey xs (inK ks)).map (·.2) = none
  | [], [], _ => ⟨[], rfl, rfl, fun x hx => by simp at hx, fun ks => rfl⟩
  | [], _ :: _, h => by cases h
  | _ :: _, [], h => by cases h
  | e :: r, p :: t, h => by
    simp only [tentOk, Bool.and_eq_true, decide_eq_true_eq] at h
    obtain ⟨⟨⟨h1, h2⟩, h3⟩, h4⟩ := h
    obtain ⟨xs, q1, q2, q3, q4⟩ := tent_xs (P := P) (w := w) h4
    obtain ⟨b, o, its, n, ek, k1, k2, k3, k4⟩ := keyAt_inv (P := P) (w := w) h2
    obtain ⟨tv, ev⟩ := Value.isInt_shape h3
    refine ⟨(inK p.1, b, e.val) :: xs, ?_, ?_, ?_, ?_⟩
    · obtain ⟨eh, ekk, evv⟩ := e
      simp only at ek h1
      subst ek h1
      rw [List.map_cons, ← q1]
      congr 1
      show _ = DictEntry.mk (tupleKeyHash (mixKind P w) (inK p.1)) _ _
      congr 1
      unfold tupH tupleKeyHash inK
      rw [List.map_map]
      rfl
    · rw [List.map_cons, List.map_cons, q2]
    · intro x hx
      rcases List.mem_cons.mp hx with rfl | hx
      · exact ⟨o, its, n, k1, k2, k3, k4⟩
      · exact q3 x hx
    · intro ks
      have ih := q4 ks
      unfold getT atKey at ih ⊢
      by_cases c : p.1 = ks
      · rw [List.find?_cons_of_pos (by simpa using c), List.find?_cons_of_pos (by simp [c])]
        exact ⟨tv, by simp [ev]⟩
      · rw [List.find?_cons_of_neg (by simpa using c), List.find?_cons_of_neg (by simp; exact fun z => c (inK_inj z))]
        exact ih
section
variable {X : Cx} {d : Addr} {tab : List (List Int × Int)} {o e : Expr} {apos cpos : Pos} {f : EF}
theorem ttab_dict (D : TTab X.K d tab) {pins : List (Addr × Obj)} {σ : L2.St} {H : Hp} {s : Shared} (I : L2.Inv X pins σ H s) : ∃ xs, s.heap.DictOfH (tupleKind (mixKind X.prog X.w)) d xs ∧ ∀ ks : List Int, (match getT tab ks with
    | some v => ∃ t, (atKey xs (inK ks)).map (·.2) = some (Value.int v t)
    | none => (atKey xs (inK ks)).map (·.2) = none) := by
  obtain ⟨es, n, hl, hk⟩ := D.at_
  obtain ⟨xs, q1, q2, q3, q4⟩ := tent_xs (P := X.prog) (w := X.w) hk
  refine ⟨xs, ⟨_, es, n, I.kIn _ _ hl, ⟨rfl, rfl, rfl⟩, rfl, q1, fun x hx => ?_, by rw [q2]; exact D.one⟩, q4⟩
  obtain ⟨o, its, m, a1, a2, a3, a4⟩ := q3 x hx
  exact ⟨o, its, m, I.kIn _ _ a1, a2, a3, a4⟩
def rGetT1 (K : PySem.W.Frag) (tab : List (List Int × Int)) : V → Hp → VK → Prop := fun y H Q => ∃ (b : Addr) (ks : List Int), y = .ref b ∧ SqT K H b (ks.map V.int) ∧ Q (match getT tab ks with
  | some v => .int v
  | none => .non) H
theorem pe_tget1 {ty : TE} (hu : X.A.units + 1 < cLine) (D : TTab X.K d tab) (ho : PE X o (tC (.ref d))) (he : PE X e ty) (m : M1 X o "get" apos e cpos) : PE X (.Call (.Attribute o "get" apos) [e] [] cpos) (fun σ H Q => ty σ H fun y H2 => rGetT1 X.K tab y H2 Q) := by
  refine ⟨fun pins s σ H Q I h => ?_⟩
  refine wpAny_Call_method m.base m.few m.line PySem.F.plainAttrs_dict PySem.F.slot_dict_get PySem.F.type_dict_get (thn (ho.run pins s σ H (fun x H1 => x = .ref d ∧ ty σ H1 fun y H2 => rGetT1 X.K tab y H2 Q) I ⟨rfl, h⟩) fun u s1 ⟨x, H1, I1, rx, ex, q1⟩ => ?_)
  subst ex
  obtain rfl : u = Value.ref d := rx
  obtain ⟨xs, hm, _⟩ := ttab_dict D I1
  refine ⟨hm.typeIs, fun b q => ?_, ?_⟩
  · cases q
    obtain ⟨ob, _, _, h1, h2, _⟩ := hm
    exact ⟨ob, h1, h2.2.1⟩
  rw [m.trees]
  refine Calls.callWith_builtin rfl (Calls.evalArgs_plain (Calls.spliced_cons (thn (he.run pins s1 σ H1 _ I1 q1) fun iv s2 ⟨y, H2, I2, ry, b, ks, ey, hT, q2⟩ => Calls.spliced_nil ?_)))
  subst ey
  obtain rfl : iv = Value.ref b := ry
  obtain ⟨xs, hm, hi⟩ := ttab_dict D I2
  obtain ⟨its, r, ⟨o, ho, hc, n, hd⟩, _⟩ := I2.tuple hT
  have hkey : (tupleKind (mixKind X.prog X.w)).is s2.heap (inK ks) b := by
    refine ⟨o, its.toArray, n, ho, hc, hd, ?_⟩
    have e : ks.map V.int = (inK ks).map kV := by rw [inK, List.map_map]; rfl
    rw [e] at r
    simpa using items_are r
  refine call_meetsIn PySem.F.slot_dict_get hm.typeIs PySem.F.entry_dict_get (PySem.F.args_dict_get_2 _ _) (meetsH_dict_get (tupleKind (mixKind X.prog X.w)) d b D.low) ⟨tupleKind_room_in1 hu, inK ks, xs, hkey, hm, ?_⟩
  have hi := hi ks
  refine ⟨_, H2, I2.tok _, ?_, q2⟩
  cases hg : getT tab ks with
  | some v =>
    rw [hg] at hi
    obtain ⟨t2, e2⟩ := hi
    rw [e2]
    exact ⟨t2, rfl⟩
  | none =>
    rw [hg] at hi
    rw [hi]
    rfl
@[simp] def dGetT1 (tab : List (List Int × Int)) : PyData → Option PyData
  | .tuple ds => (match intsOf ds with
    | some ks => some (match getT tab ks with
      | some v => .int v
      | none => .none)
    | none => none)
  | _ => none
theorem ev_tget1 (hu : X.A.units + 1 < cLine) (D : TTab X.K d tab) (ho : PE X o (tC (.ref d))) (he : PE X e (tE X.K f)) (m : M1 X o "get" apos e cpos) : PE X (.Call (.Attribute o "get" apos) [e] [] cpos) (tE X.K (eUn (dGetT1 tab) f)) :=
  pe_of (pe_tget1 hu D ho he m) fun σ H Q ⟨c, ρ, z, ρ', R, e, q⟩ => by
    obtain ⟨x, h1, h2⟩ := un_inv e
    refine ⟨c, ρ, x, ρ', R, h1, fun v1 H1 R1 r1 m1 => ?_⟩
    match x, h2, r1 with
    | .tuple ds, h2, r1 =>
      unfold dGetT1 at h2
      dsimp only at h2
      split at h2
      · rename_i ks hks
        cases h2
        have := intsOf_map hks
        subst this
        cases r1 with
        | @tup a xs _ l al =>
          have e := al.ints
          subst e
          refine ⟨a, ks, rfl, l.sq, q _ H1 R1 ?_ m1⟩
          cases getT tab ks with
          | some v => exact .int v
          | none => exact .non
      · cases h2
/-! ### list(range(a, b)) -/
def nLstRg (f g : EF) : NF := fun ρ => match f ρ with
  | some (.int i, ρ1) => (match g ρ1 with
    | some (.int j, ρ2) => if -1000000 ≤ i ∧ i ≤ 1000000 ∧ -1000000 ≤ j ∧ j ≤ 1000000 then some (rng i (j - i).toNat, ρ2) else none
    | _ => none)
  | _ => none
theorem rpa_rg {K : PySem.W.Frag} {A : Addr → Prop} {H : Hp} (f : Nat → Int) : ∀ l : List Nat, RpA K A H (l.map fun i => V.int (f i)) (l.map fun i => PyData.int (f i))
  | [] => .nil
  | _ :: l => .cons (.int _) (rpa_rg f l)
theorem en_lstRg {a b : Expr} {g : EF} {p q1 : Pos} {pos pos2 : Pos} (hc : X.calm = true) (hg : Gl X "list") (hm : X.mg "list" = none) (hg2 : Gl X "range") (hm2 : X.mg "range" = none) (ha : PE X a (tE X.K f)) (hb : PE X b (tE X.K g))
    (na : starEach [Expr.Call (.Name "range" q1) [a, b] [] pos2] X.env = (false, eval (Expr.Call (.Name "range" q1) [a, b] [] pos2) X.env) :: starEach [] X.env := by rfl)
    (na2 : starEach [a, b] X.env = (false, eval a X.env) :: starEach [b] X.env := by rfl)
    (nb : starEach [b] X.env = (false, eval b X.env) :: starEach [] X.env := by rfl) (hp : (backTo pos2 (starEach [b] X.env)).any (·.1) = false := by rfl) :
    PE X (.Call (.Name "list" p) [.Call (.Name "range" q1) [a, b] [] pos2] [] pos) (tN X.K (nLstRg f g)) :=
  pe_of (pe_listRg hc hg hm (prg_2 hg2 hm2 ha hb na2 nb hp) na) fun σ H Q ⟨c, ρ, ds, ρ', R, e, q⟩ => by
    unfold nLstRg at e
    split at e
    · rename_i i ρ1 h1
      split at e
      · rename_i j ρ2 h2
        split at e
        · rename_i hl
          obtain ⟨e1, e2⟩ := so e
          subst e1 e2
          refine ⟨c, ρ, .int i, ρ1, R, h1, fun v1 H1 R1 r1 m1 => ⟨c, ρ1, .int j, ρ2, R1, h2, fun v2 H2 R2 r2 m2 => ?_⟩⟩
          cases r1
          cases r2
          refine ⟨i, j, rfl, rfl, ⟨by omega, by omega, by omega, by omega, by omega⟩, fun p hp => ?_⟩
          have m := m1.trans m2
          exact q p _ _ (R2.plus hp (kp_upd hp) (by rw [upd_same]; exact fun z => nomatch z)) upd_same (rpa_rg (fun k => i + (k : Nat)) _) (R2.noAv hp) (R2.fresh0 hp) (avOf (K := X.K) m hp) (m.trans (R2.mvG (kp_upd hp)))
        · cases e
      · cases e
    · cases e
end
/-! ### a list of the module, read only -/
def flatOk : List Value → List PyData → Bool
  | [], [] => true
  | v :: r, .int i :: t => Value.isInt i v && flatOk r t
  | v :: r, .str x :: t => Value.isStrOf x v && flatOk r t
  | _, _ => false
def flatV1 : PyData → V
  | .int i => .int i
  | .str x => .str x
  | _ => .non
structure ROTab (K : PySem.W.Frag) (d : Addr) (ds : List PyData) : Prop where
  at_ : ∃ its n, K.lookup d = some ⟨.type "list", none, .seq its n, #[]⟩ ∧ flatOk its.toList ds = true
  low : ds.length ≤ 1000
theorem flatA_of : ∀ {vs : List Value} {ds : List PyData}, flatOk vs ds = true → FlatA (ds.map flatV1) ds ∧ Vals (ds.map flatV1) vs ∧ vs.length = ds.length
  | [], [], _ => ⟨.nil, .nil, rfl⟩
  | [], _ :: _, h => by cases h
  | _ :: _, [], h => by cases h
  | v :: r, .int i :: t, h => by
    simp only [flatOk, Bool.and_eq_true] at h
    obtain ⟨a, b, c⟩ := flatA_of h.2
    exact ⟨.int i a, .cons (Value.isInt_shape h.1) b, by simp [c]⟩
  | v :: r, .str x :: t, h => by
    simp only [flatOk, Bool.and_eq_true] at h
    obtain ⟨a, b, c⟩ := flatA_of h.2
    exact ⟨.str x a, .cons (keyIs_rel (k := .inr x) h.1) b, by simp [c]⟩
theorem ROTab.ro {K : PySem.W.Frag} {d : Addr} {ds : List PyData} (D : ROTab K d ds) (A : Addr → Prop) (H : Hp) : Rp K A H (.ref d) (RO ds) := by
  obtain ⟨its, n, hl, hf⟩ := D.at_
  obtain ⟨a, b, c⟩ := flatA_of hf
  have := D.low
  exact .ro (.inr ⟨_, its, n, hl, rfl, rfl, rfl, by rw [← Array.length_toList, c, sl16]; omega, b⟩) a
theorem ev_ro {X : Cx} {d : Addr} {ds : List PyData} {e : Expr} (D : ROTab X.K d ds) (h : PE X e (tC (.ref d))) : PE X e (tE X.K (eC (RO ds))) := ev_c h fun A H => D.ro A H
theorem u1 {A : Around} {k : Nat} (r : Room k A) : A.units + 1 < cLine := by have := r.un; omega
end PG
end
section
set_option Elab.async false
set_option linter.all false
set_option maxRecDepth 100000
namespace PG
open PySem PySem.Spec PyProof.Rows L2
/-! ### t < u of tuples of whole numbers -/
@[simp] def dLtT : PyData → PyData → Option PyData
  | .tuple xs, .tuple ys => (match intsOf xs, intsOf ys with
    | some ns, some ms => some (.bool (HT.lexLt ns ms))
    | _, _ => none)
  | _, _ => none
theorem os_ltT {K : PySem.W.Frag} : OpS K (rLtT K) dLtT := by
  intro c ρ σ H v1 v2 x y d Q R r1 r2 ho q
  unfold dLtT at ho
  split at ho
  · rename_i xs ys
    split at ho
    · rename_i ns ms hn hm
      cases ho
      have e1 := intsOf_map hn
      have e2 := intsOf_map hm
      subst e1 e2
      cases r1 with
      | @tup a us _ l al =>
        cases r2 with
        | @tup b ws _ l2 al2 =>
          have e := al.ints
          have e' := al2.ints
          subst e e'
          exact ⟨a, b, ns, ms, rfl, rfl, l.sq, l2.sq, q _ _ R (.bl _) fun _ _ h => h⟩
    · cases ho
  · cases ho
/-! ### raise: nothing is said of it -/
def sRaise : SF := fun _ => none
theorem es_raise {X : Cx} {st : Stmt} : PS X st (tS X.K sRaise) := by
  refine ⟨fun pins s σ H D I h => ?_⟩
  obtain ⟨c, ρ, o, ρ', R, e, q⟩ := h
  cases e
end PG
end
section
set_option Elab.async false
set_option linter.all false
set_option maxRecDepth 100000
namespace PG
open PySem PySem.Spec PyProof.Rows L2
section
variable {prog : Program} {w : World} {A : Around} {E : Value → Shared → Prop} {s : Shared}
/-- sorted of a tuple whose items are pairs of whole numbers -/
theorem sorted_tup {l : Addr} {vs : List Value} {k : Value → Int × Int} {Q : Value → Shared → Prop} (hl : IsTup s.heap l vs.toArray) (hz : vs.length ≤ sizeLine) (hp : ∀ v ∈ vs, Srt.IsPair s.heap v (k v).1 (k v).2)
    (h : ∀ (h1 h' : Heap) (out : List Value), SrtO.Srtd (fun v u => SrtO.lexB (k v) (k u)) out → SrtO.Stb (fun v u => SrtO.lexB (k v) (k u)) out vs → (∀ b o, s.heap.get? b = some o → h1.get? b = some o) → (∀ b o, h1.get? b = some o → h'.get? b = some o) →
      (∃ n, h'.get? h1.objs.size = some (seqObj "list" out.toArray n)) → Q (.ref h1.objs.size) { s with heap := h' }) : wpAny (model prog w) A (call (.builtin "sorted") [.ref l]) Q E s := by
  obtain ⟨o, ho, hc, n, hd⟩ := hl
  apply Calls.call_function_entry kind_sorted plain_sorted entry_sorted (args_sorted1 _); unfold Builtin.«sorted»
  refine wpAny_bind (m := checkCount "sorted" 1 1 _) (wpAny_pure (wpAny_bind (wpAny_collect_seq (hsz := by rw [List.size_toArray]; exact hz) l (.inr rfl) ho hc hd fun h1 k1 => ?_)))
  rw [show vs.toArray.toList = vs by simp]
  refine wpAny_bind (wpAny_newList ?_ hz)
  have at2 : (h1.push (seqObj "list" vs.toArray 0)).get? h1.objs.size = some (seqObj "list" vs.toArray 0) := Heap.get?_push_size _ rfl
  have k2 : ∀ b o, s.heap.get? b = some o → b ≠ h1.objs.size ∧ (h1.push (seqObj "list" vs.toArray 0)).get? b = some o := fun b o q => ⟨Nat.ne_of_lt (Heap.lt_size (k1 b o q)), Heap.get?_push_of_some _ (k1 b o q)⟩
  show wpAny _ _ _ _ _ { s with heap := h1.push (seqObj "list" vs.toArray 0) }
  refine wpAny_bind (wpAny_holding (wpAny_call_entry slot_list_sort ⟨_, at2, rfl⟩ entry_list_sort (SrtO.list_sort_ord (SrtO.swo_lex k) at2 hz (fun h2 => ?_) fun out hs hb => ⟨_, rfl, ?_⟩) (args_list_sort _)))
  · exact SrtO.pairs_sortableO (s := { s with heap := h1.push (seqObj "list" vs.toArray 0) }) (by omega) (fun v hv => (hp v hv).keeps fun b o e _ => (k2 b o e).2) fun o e c => by
      have e2 : some o = some (seqObj "list" vs.toArray 0) := e.symm.trans at2
      cases e2
      exact absurd (Value.type.inj c) (by decide)
  · refine wpAny_pure ⟨_, rfl, h h1 _ out hs hb k1 (fun b o q => ?_) (sortedHeap_at at2)⟩
    have lt := Heap.lt_size q
    rw [sortedHeap_old (Nat.ne_of_lt lt) (by rw [size_push']; exact Nat.lt_succ_of_lt lt)]
    exact Heap.get?_push_of_some _ q
end
section
variable {X : Cx}
def sPairsT (K : PySem.W.Frag) : List V → Hp → VK → Prop := fun vs H Q => ∃ (a : Addr) (xs : List V) (ps : List (Int × Int)), vs = [V.ref a] ∧ SqT K H a xs ∧ pairsAt K H xs ps ∧
  ∀ ys p (k : V → Int × Int), ps = xs.map k → SrtO.Srtd (ltP k) ys → SrtO.Stb (ltP k) ys xs → H p = none → Q (.ref p) (upd H p (.lst ys))
theorem cr_sPairsT : CallR X (.builtin "sorted") (sPairsT X.K) := by
  intro pins s σ H vs us Q I r h
  obtain ⟨a, xs, ps, rfl, hs, hx, q⟩ := h
  have hk : ∀ t p, SqT X.K H t [.int p.1, .int p.2] → keyOf X.K H (.ref t) = p := by
    intro t p hp
    have ex : ∃ p : Int × Int, SqT X.K H t [.int p.1, .int p.2] := ⟨p, hp⟩
    have e := I.tuple_inj hp ex.choose_spec
    simp only [List.cons.injEq, V.int.injEq, and_true] at e
    have e2 : keyOf X.K H (.ref t) = ex.choose := by
      unfold keyOf
      exact dif_pos ex
    rw [e2]
    exact (Prod.ext e.1 e.2).symm
  obtain ⟨ep, hx⟩ := pairsAt_map _ hk hx
  generalize keyOf X.K H = k at ep hx
  obtain ⟨its, rv, hl, hz⟩ := I.tuple hs
  obtain ⟨u, rfl, ru⟩ := vals1 r
  obtain rfl : u = Value.ref a := ru
  obtain ⟨e1, e2⟩ := refs_back rv fun x m => by
    obtain ⟨t, e, _⟩ := hx x m
    exact ⟨t, e⟩
  refine sorted_tup (k := fun u => k (backV u)) hl (by rw [← rv.length]; exact hz) (fun v hv => ?_) fun hm h' out s1 s2 k1 k2 hn => ?_
  · obtain ⟨t, rfl⟩ := e2 v hv
    have hm : V.ref t ∈ xs := by rw [e1]; exact List.mem_map.mpr ⟨_, hv, rfl⟩
    obtain ⟨t', e, ht⟩ := hx _ hm
    cases e
    obtain ⟨its2, r2, ⟨o, ho, hc, n, hd⟩, _⟩ := I.tuple ht
    obtain ⟨u1, u2, rfl, ri, rj⟩ := vals2 r2
    obtain ⟨t1, rfl⟩ := ri
    obtain ⟨t2, rfl⟩ := rj
    exact ⟨t, o, t1, t2, n, rfl, ho, hc, hd⟩
  · have h3 : ∀ u ∈ out, ∃ a, u = Value.ref a := fun u hu => e2 u (s2.perm.mem_iff.mp hu)
    obtain ⟨n, hn⟩ := hn
    have hb : SrtO.Stb (ltP k) (out.map backV) xs := by
      rw [e1]
      exact SrtO.Stb.map (ltP_swo k) backV s2
    have I1 : Inv X pins σ H { s with heap := hm } := I.kept (t' := s.toks) k1
    refine ⟨.ref hm.objs.size, upd H hm.objs.size (.lst (out.map backV)), I1.laid (t' := s.toks) k2 (Nat.le_refl _) ⟨?_, out, n, vals_back h3, hn⟩, rfl, q _ _ k ep (SrtO.srtd_map s1) hb (I1.hok.fresh (Nat.le_refl _))⟩
    rw [hb.len]
    exact hz
def dSortPT : PyData → Option (List PyData)
  | .tuple ds => (match pairsOf ds with
    | some l => some ((sortP l).map prD)
    | none => none)
  | _ => none
theorem fn_sortPT {K : PySem.W.Frag} : FnN K (sPairsT K) (n1of dSortPT) := by
  intro c ρ σ H vs ds ys Q R r ho q
  obtain ⟨x, rfl, h2⟩ := n1_inv ho
  obtain ⟨v, rfl, w1⟩ := rpa1 r
  unfold dSortPT at h2
  split at h2
  · rename_i ds
    split at h2
    · rename_i l hl
      cases h2
      have e := pairsOf_eq hl
      subst e
      cases w1 with
      | @tup p xs _ la al =>
        refine ⟨p, xs, l, rfl, la.sq, pairsAt_of al, fun zs p2 k hk h1 h3 hp => q p2 zs hp ?_⟩
        have e1 : zs.map k = sortP l := by
          refine srt_uniq (SrtO.srtd_map (lt := SrtO.lexB) (f := k) h1) (srt_sortP l) ?_
          rw [hk]
          exact (h3.perm.map k).trans (perm_sortP _).symm
        rw [← e1]
        refine rpa_of_mem k fun y hy => ?_
        rw [hk] at al
        exact rpa_mem k al y (h3.perm.mem_iff.mp hy)
    · cases h2
  · cases h2
end
/-! a list unpacked into names -/
@[simp] def gLstS (is : List Nat) : GF := fun d ρ => match d with
  | .list ds => gPairs is ds ρ
  | _ => none
section
variable {X : Cx} {es : List Expr} {pos : Pos}
theorem eg_lst {k : Nat} {is : List Nat} (hc : X.calm = true) (h : PGs X es (gsPairs is)) (hn : (assignEach es X.env).length = is.length := by rfl) (hst : (assignEach es X.env).findIdx? (·.1) = none := by rfl) : PG X (.Tuple es k pos) (tG X.K (gLstS is) is) :=
  pg_of (pg_lst hc h hn hst) fun v σ H Q ⟨c, ρ, d, ρ', R, r, e, q⟩ => by
    unfold gLstS at e
    split at e
    · rename_i ds
      cases r with
      | @lst p xs _ l al =>
        exact ⟨p, xs, rfl, l.sq, by rw [al.length, gpairs_len _ _ _ _ e], rd_pairs is xs ds ρ ρ' σ Q R al e q⟩
    · cases e
end
end PG
end
section
set_option Elab.async false
set_option linter.all false
set_option maxRecDepth 100000
namespace PG
open PySem PySem.Spec PyProof.Rows L2
/-! ### an owned list + a list -/
@[simp] def eAddO (i : Nat) (g : EF) : EF := fun ρ => match ρ[i]? with
  | some (some (.l _ _)) => (match g ρ with
    | some (.list ds, ρ1) => (match ρ1[i]? with
      | some (some (.l _ es)) => if es.length + ds.length ≤ 16777216 then some (.list (es ++ ds), ρ1) else none
      | _ => none)
    | _ => none)
  | _ => none
section
variable {X : Cx} {a b e : Expr} {pos : Pos} {f g : EF} {n : NF} {es : List Expr}
theorem addO_inv {i : Nat} {ρ ρ' : Rho} {d : PyData} (h : eAddO i g ρ = some (d, ρ')) : ∃ p0 l0 ds p l, ρ[i]? = some (some (.l p0 l0)) ∧ g ρ = some (.list ds, ρ') ∧ ρ'[i]? = some (some (.l p l)) ∧ l.length + ds.length ≤ 16777216 ∧ d = .list (l ++ ds) := by
  unfold eAddO at h
  split at h
  · rename_i p0 l0 h0
    split at h
    · rename_i ds ρ1 h1
      split at h
      · rename_i p l h2
        split at h
        · rename_i hl
          obtain ⟨e1, e2⟩ := so h
          subst e1 e2
          exact ⟨p0, l0, ds, p, l, h0, h1, h2, hl, rfl⟩
        · cases h
      · cases h
    · cases h
  · cases h
theorem rd_addO {i : Nat} {K : PySem.W.Frag} : ∀ σ H Q, tE K (eAddO i g) σ H Q → tOp rCat (tVar i) (tE K g) σ H Q := fun σ H Q ⟨c, ρ, d, ρ', R, e, q⟩ => by
  obtain ⟨p0, l0, ds, p, l, h0, h1, h2, hl, rfl⟩ := addO_inv e
  obtain ⟨a0, us0, g1, _⟩ := R.lst i p0 l0 h0
  refine ⟨.ref a0, g1, c, ρ, .list ds, ρ', R, h1, fun v1 H1 R1 r1 m1 => ?_⟩
  obtain ⟨a1, us, g1', g2, g3, _⟩ := R1.lst i p l h2
  rw [g1] at g1'
  cases g1'
  cases r1 with
  | lst l2 a2 =>
    refine ⟨_, _, _, _, rfl, rfl, g2, l2.1, by rw [g3.length, a2.length, sl16]; exact hl, fun p hp => ?_⟩
    exact q _ _ (R1.alloc hp).1 (R1.newLst hp (g3.app a2)) (m1.trans (R1.mvG (R1.alloc hp).2))
theorem ev_addO {i : Nat} (hv : PE X a (tVar i)) (hb : PE X b (tE X.K g)) : PE X (.BinOp a .Add b pos) (tE X.K (eAddO i g)) := pe_of (pe_op op_cat hv hb) rd_addO
end

/-- an owned list as a value, or what was made a value before -/
@[simp] def eFrz2 (i : Nat) : EF := fun ρ => match ρ[i]? with
  | some (some (.l false ds)) => some (.list ds, ρ.set i (some (.v (.list ds))))
  | some (some (.v d)) => some (d, ρ)
  | _ => none
theorem ev_frz2 {X : Cx} {e : Expr} {i : Nat} (h : PE X e (tVar i)) : PE X e (tE X.K (eFrz2 i)) := pe_of h fun σ H Q ⟨c, ρ, d', ρ', R, e, q⟩ => by
  unfold eFrz2 at e
  split at e
  · rename_i ds hd
    cases e
    obtain ⟨a, vs, h1, _⟩ := R.lst i false ds hd
    obtain ⟨R', r', m'⟩ := R.freeze hd h1
    exact ⟨.ref a, h1, q _ H R' r' m'⟩
  · rename_i d hd
    cases e
    obtain ⟨v, h1, h2⟩ := R.val i d' hd
    exact ⟨v, h1, q v H R h2 Mv.refl⟩
  · cases e

/-! ### two lists of the caller's are lent -/
abbrev F2L := List PyData → List PyData → List PyData → Option (PyData × List PyData × List PyData)
def spM (K : PySem.W.Frag) (k : Nat) (F : F2L) : Sp := fun vs H Q _ => vs.length = k + 2 ∧ ∃ (A : Addr → Prop) (a b : Addr) (us us2 ws : List V) (ps qs ds : List PyData) (r : PyData) (ps' qs' : List PyData),
  vs = .ref a :: .ref b :: ws ∧ a ≠ b ∧ H a = some (.lst us) ∧ RpA K A H us ps ∧ A a ∧ H b = some (.lst us2) ∧ RpA K A H us2 qs ∧ A b ∧ RpA K A H ws ds ∧ (∀ a, A a → H a ≠ none) ∧ F ps qs ds = some (r, ps', qs') ∧
  ∀ v H' us' us2', (∀ c o, c ≠ a → c ≠ b → H c = some o → H' c = some o) → H' a = some (.lst us') → RpA K A H' us' ps' → H' b = some (.lst us2') → RpA K A H' us2' qs' → Rp K A H' v r → Q v H'
@[simp] def rhoM (ps qs ds : List PyData) (m : Nat) : Rho := some (Cell.l true ps) :: some (Cell.l true qs) :: (ds.map (fun d => some (Cell.v d)) ++ List.replicate m none)
@[simp] def pool1 (ρ : Rho) : Option (List PyData) := match ρ with
  | _ :: some (.l true ps) :: _ => some ps
  | _ => none
@[simp] def endM : Option (Out × Rho) → Option (PyData × List PyData × List PyData)
  | some (.ret d, ρ) => (match pool0 ρ, pool1 ρ with
    | some ps, some qs => some (d, ps, qs)
    | _, _ => none)
  | _ => none
def defM (b : SF) (k m : Nat) : F2L := fun ps qs ds => if ds.length = k then endM (b (rhoM ps qs ds m)) else none
theorem rhoM_get {ps qs ds : List PyData} {m i : Nat} {cl : Cell} (h : (rhoM ps qs ds m)[i]? = some (some cl)) : (i = 0 ∧ cl = .l true ps) ∨ (i = 1 ∧ cl = .l true qs) ∨ ∃ j d, i = j + 2 ∧ ds[j]? = some d ∧ cl = .v d := by
  cases i with
  | zero =>
    unfold rhoM at h
    simp at h
    exact .inl ⟨rfl, h.symm⟩
  | succ i =>
    cases i with
    | zero =>
      unfold rhoM at h
      simp at h
      exact .inr (.inl ⟨rfl, h.symm⟩)
    | succ j =>
      have h' : (rho0 ds m)[j]? = some (some cl) := by
        unfold rhoM at h
        simpa [rho0] using h
      obtain ⟨d, h1, h2⟩ := rho0_get h'
      exact .inr (.inr ⟨j, d, rfl, h1, h2⟩)
abbrev pn2 (a b : Addr) : Nat → Option Addr := fun i => if i = 0 then some a else if i = 1 then some b else none
theorem pn2_some {a b c : Addr} {i : Nat} (h : pn2 a b i = some c) : (i = 0 ∧ c = a) ∨ (i = 1 ∧ c = b) := by
  unfold pn2 at h
  split at h
  · rename_i e; cases h; exact .inl ⟨e, rfl⟩
  · split at h
    · rename_i e; cases h; exact .inr ⟨e, rfl⟩
    · cases h
theorem rel_startM {K : PySem.W.Frag} {A : Addr → Prop} {H : Hp} {N : List Str} {a b : Addr} {us us2 ws : List V} {ps qs ds : List PyData} {m : Nat} (nab : a ≠ b) (ha : H a = some (.lst us)) (rp : RpA K A H us ps) (hAa : A a) (hb : H b = some (.lst us2)) (rq : RpA K A H us2 qs) (hAb : A b) (r : RpA K A H ws ds) (hA : ∀ a, A a → H a ≠ none) (hN : ws.length + 2 + m = N.length) :
    Rel K ⟨A, H, pn2 a b⟩ (rhoM ps qs ds m) (L2.start N (.ref a :: .ref b :: ws)) H := by
  have g0 : (L2.start N (.ref a :: .ref b :: ws))[0]? = some (some (V.ref a)) := start_get rfl
  have g1 : (L2.start N (.ref a :: .ref b :: ws))[1]? = some (some (V.ref b)) := start_get rfl
  have own : ∀ c, Own (rhoM ps qs ds m) (L2.start N (.ref a :: .ref b :: ws)) c → A c := fun c ⟨i, p, es, h1, h2⟩ => by
    rcases rhoM_get h1 with ⟨rfl, z⟩ | ⟨rfl, z⟩ | ⟨j, d, _, _, z⟩
    · rw [g0] at h2; cases h2; exact hAa
    · rw [g1] at h2; cases h2; exact hAb
    · cases z
  have mv : Mv A H (Av ⟨A, H, pn2 a b⟩ (rhoM ps qs ds m) (L2.start N (.ref a :: .ref b :: ws))) H := fun c o e n => ⟨e, fun z => z.elim n fun y => n (own c y)⟩
  refine ⟨?_, fun i d h => ?_, fun i p es h => ?_, fun i j p q es es' c h1 h2 h3 h4 => ?_, fun i c => ?_, fun i c h => ?_, fun c o h _ => h, hA⟩
  · unfold rhoM L2.start
    simp only [List.length_append, List.length_map, List.length_replicate, List.length_cons, r.length]
    rw [r.length] at hN
    omega
  · rcases rhoM_get h with ⟨_, z⟩ | ⟨_, z⟩ | ⟨j, d', rfl, h1, z⟩
    · cases z
    · cases z
    · cases z
      obtain ⟨v, h3, h4⟩ := r.get h1
      exact ⟨v, start_get (by simpa using h3), h4.mv mv⟩
  · rcases rhoM_get h with ⟨rfl, z⟩ | ⟨rfl, z⟩ | ⟨j, d', rfl, h1, z⟩
    · cases z
      exact ⟨a, us, g0, ha, rp.mv mv, fun z => nomatch z⟩
    · cases z
      exact ⟨b, us2, g1, hb, rq.mv mv, fun z => nomatch z⟩
    · cases z
  · rcases rhoM_get h1 with ⟨rfl, _⟩ | ⟨rfl, _⟩ | ⟨_, _, _, _, z⟩
    · rcases rhoM_get h2 with ⟨rfl, _⟩ | ⟨rfl, _⟩ | ⟨_, _, _, _, z⟩
      · rfl
      · rw [g0] at h3; rw [g1] at h4; cases h3; cases h4; exact absurd rfl nab
      · cases z
    · rcases rhoM_get h2 with ⟨rfl, _⟩ | ⟨rfl, _⟩ | ⟨_, _, _, _, z⟩
      · rw [g1] at h3; rw [g0] at h4; cases h3; cases h4; exact absurd rfl nab
      · rfl
      · cases z
    · cases z
  · constructor
    · intro h
      rcases pn2_some h with ⟨rfl, rfl⟩ | ⟨rfl, rfl⟩
      · exact ⟨ps, rfl, g0⟩
      · exact ⟨qs, rfl, g1⟩
    · rintro ⟨es, h1, h2⟩
      rcases rhoM_get h1 with ⟨rfl, _⟩ | ⟨rfl, _⟩ | ⟨_, _, _, _, z⟩
      · rw [g0] at h2; cases h2; rfl
      · rw [g1] at h2; cases h2; rfl
      · cases z
  · rcases pn2_some h with ⟨rfl, rfl⟩ | ⟨rfl, rfl⟩
    · exact hAa
    · exact hAb
theorem pool1_get {ρ : Rho} {ps' : List PyData} (h : pool1 ρ = some ps') : ρ[1]? = some (some (.l true ps')) := by
  unfold pool1 at h
  split at h
  · cases h; rfl
  · cases h
section
variable {P : Program} {w : World} {K : PySem.W.Frag} {mg : Str → Option Value} {base : Heap} {x qual : Str} {st : Stmt} {fa : Addr} {fd : FuncData} {N ps : List Str} {j k m : Nat} {b : SF}
theorem ok_M (F : L2.Fun K x qual st fa fd) (S : FnScope N ps (defScope st)) (hk : ps.length = k + 2) (hm : k + 2 + m = N.length)
    (hb : ∀ (cdv : Value) (A : Around) (outer : List Env) (s : Shared) (H : Hp) (E : XK), Room j (A.deeper (envOfC qual (defScope st) s.heap.objs.size fa cdv)) → PSs (cxOf CX0 P w K mg base N qual (defScope st) fa cdv A outer s H E).nox (defBody st) (tS K b)) :
    FnOk P w K mg base CX0 (j + 1) fa fd ps (spM K k (defM b k m)) := by
  refine F.ok S (fun vs H Q E h => h.1.trans hk.symm) fun cdv A outer s H vs Q E hr h => ?_
  obtain ⟨hl, A', a, a2, us, us2, ws, pl, ql, ds, r, pl', ql', rfl, nab, ha, rp, hAa, ha2, rq, hAb, ra, hA, e, q⟩ := h
  refine ⟨_, hb cdv A outer s H E hr, ?_⟩
  have hws : ws.length = k := by simpa using hl
  have R := rel_startM (m := m) (N := N) nab ha rp hAa ha2 rq hAb ra hA (by omega)
  unfold defM at e
  split at e
  · cases eb : b (rhoM pl ql ds m) with
    | none => rw [eb] at e; cases e
    | some z =>
      obtain ⟨o, ρ'⟩ := z
      rw [eb] at e
      have at_ : ∀ (i : Nat) (cc : Addr) (ps2 : List PyData), pn2 a a2 i = some cc → ρ'[i]? = some (some (.l true ps2)) → ∀ σ' H', Rel K ⟨A', H, pn2 a a2⟩ ρ' σ' H' → ∃ us', H' cc = some (.lst us') ∧ RpA K A' H' us' ps2 := fun i cc ps2 hi hg σ' H' R' => by
        obtain ⟨a', us', g1, g2, g3, _⟩ := R'.lst i true ps2 hg
        obtain ⟨es, w1, w2⟩ := (R'.pin i cc).mp hi
        rw [g1] at w2
        cases w2
        exact ⟨us', g2, g3.mv av_sub⟩
      refine ⟨_, rhoM pl ql ds m, o, ρ', R, eb, ?_⟩
      cases o with
      | ret d =>
        intro v σ' H' R' r'
        cases hp : pool0 ρ' with
        | none => simp only [endM, hp] at e; cases e
        | some ps2 =>
          cases hq : pool1 ρ' with
          | none => simp only [endM, hp, hq] at e; cases e
          | some qs2 =>
            simp only [endM, hp, hq] at e
            cases e
            obtain ⟨us', h2, h3⟩ := at_ 0 a _ rfl (pool_get hp) σ' H' R'
            obtain ⟨us2', h4, h5⟩ := at_ 1 a2 _ rfl (pool1_get hq) σ' H' R'
            refine q v H' us' us2' (fun c o n1 n2 h => R'.old c o h fun i z => ?_) h2 h3 h4 h5 r'
            rcases pn2_some z with ⟨_, rfl⟩ | ⟨_, rfl⟩
            · exact n1 rfl
            · exact n2 rfl
      | next => cases e
      | brk => cases e
      | cont => cases e
      | retL ds => cases e
  · cases e
end
/-- f(pool, list, ..) -/
@[simp] def eCallM (F : F2L) (i i2 : Nat) (f : NF) : EF := fun ρ => match ρ[i]? with
  | some (some (.l _ _)) => (match ρ[i2]? with
    | some (some (.l _ _)) => (match f ρ with
      | some (xs, ρ1) => (match ρ1[i]? with
        | some (some (.l p ps)) => (match ρ1[i2]? with
          | some (some (.l p2 qs)) => if i = i2 then none else (match F ps qs xs with
            | some (z, ps', qs') => some (z, (ρ1.set i (some (.l p ps'))).set i2 (some (.l p2 qs')))
            | none => none)
          | _ => none)
        | _ => none)
      | none => none)
    | _ => none)
  | _ => none
section
variable {X : Cx} {e e2 : Expr} {es : List Expr} {pos p : Pos} {n : NF} {F4 : F2L} {k j : Nat} {fa : Addr} {fd : FuncData} {ps : List Str} {x : Str}
theorem callM_inv {i i2 : Nat} {ρ ρ' : Rho} {d : PyData} (e : eCallM F4 i i2 n ρ = some (d, ρ')) : ∃ p0 l0 q0 m0 xs ρ1 pp pl qp ql ps' qs', ρ[i]? = some (some (.l p0 l0)) ∧ ρ[i2]? = some (some (.l q0 m0)) ∧ n ρ = some (xs, ρ1) ∧ ρ1[i]? = some (some (.l pp pl)) ∧ ρ1[i2]? = some (some (.l qp ql)) ∧ i ≠ i2 ∧ F4 pl ql xs = some (d, ps', qs') ∧ ρ' = (ρ1.set i (some (.l pp ps'))).set i2 (some (.l qp qs')) := by
  unfold eCallM at e
  split at e
  · rename_i p0 l0 h0
    split at e
    · rename_i q0 m0 h0'
      split at e
      · rename_i xs ρ1 h1
        split at e
        · rename_i pp pl h2
          split at e
          · rename_i qp ql h2'
            split at e
            · cases e
            · rename_i ne
              split at e
              · rename_i z ps' qs' h3
                obtain ⟨e1, e2⟩ := so e
                subst e1 e2
                exact ⟨p0, l0, q0, m0, xs, ρ1, pp, pl, qp, ql, ps', qs', h0, h0', h1, h2, h2', ne, h3, rfl⟩
              · cases e
          · cases e
        · cases e
      · cases e
    · cases e
  · cases e
theorem rd_callM {i i2 : Nat} {E : XK} (hk : ∀ ρ ds ρ', n ρ = some (ds, ρ') → ds.length = k) : ∀ σ H Q, tE X.K (eCallM F4 i i2 n) σ H Q → tCall (spM X.K k F4) [] E (tCons (tVar i) (tCons (tVar i2) (tA X.K n))) σ H Q := fun σ H Q ⟨c, ρ, d, ρ', R, e, q⟩ => by
  obtain ⟨p0, l0, q0, m0, xs, ρ1, pp, pl, qp, ql, ps', qs', h0, h0', h1, h2, h2', ne, h3, rfl⟩ := callM_inv e
  obtain ⟨a, us0, g1, _⟩ := R.lst i p0 l0 h0
  obtain ⟨b, us0', k1, _⟩ := R.lst i2 q0 m0 h0'
  refine ⟨.ref a, g1, .ref b, k1, c, ρ, xs, ρ1, R, h1, fun vs H1 R1 r1 m1 => ?_⟩
  obtain ⟨a', us, g1', g2, g3, _⟩ := R1.lst i pp pl h2
  rw [g1] at g1'
  cases g1'
  obtain ⟨b', us2, k1', k2, k3, _⟩ := R1.lst i2 qp ql h2'
  rw [k1] at k1'
  cases k1'
  have nab : a ≠ b := fun z => ne (by subst z; exact R1.dis i i2 _ _ _ _ a h2 h2' g1 k1)
  show spM X.K k F4 (.ref a :: .ref b :: vs ++ []) H1 Q E
  rw [List.append_nil]
  refine ⟨by rw [List.length_cons, List.length_cons, r1.length, hk _ _ _ h1], Av c ρ1 σ, a, b, us, us2, vs, pl, ql, xs, d, ps', qs', rfl, nab, g2, g3, .inr ⟨i, pp, pl, h2, g1⟩, k2, k3, .inr ⟨i2, qp, ql, h2', k1⟩, r1, fun b hb => R1.avS hb, h3, fun v H' us' us2' kp hl r2 hl2 r3 r4 => ?_⟩
  let Hm : Hp := fun c => if c = b then H1 b else H' c
  have hm1 : ∀ c, c ≠ b → Hm c = H' c := fun c h => if_neg h
  have hm2 : Hm b = H1 b := if_pos rfl
  have mvm : Mv (Av c ρ1 σ) H' (Av c ρ1 σ) Hm := fun x o e nn => ⟨by rw [hm1 x fun z => nn (by subst z; exact .inr ⟨i2, qp, ql, h2', k1⟩)]; exact e, nn⟩
  obtain ⟨R2, m2⟩ := R1.write (H' := Hm) h2 g1 (by rw [hm1 a nab]; exact hl) (fun x o n1 hx => by
    by_cases xb : x = b
    · subst xb; rw [hm2]; exact hx
    · rw [hm1 x xb]; exact kp x o n1 xb hx) (r2.mv mvm)
  have h2s : (ρ1.set i (some (.l pp ps')))[i2]? = some (some (.l qp ql)) := by rw [get_set (lt_of_get h2), if_neg ne]; exact h2'
  have sub : ∀ x, Av c (ρ1.set i (some (.l pp ps'))) σ x → Av c ρ1 σ x := fun x z => z.elim .inl fun ⟨jj, q', es', w1, w2⟩ => .inr (by
    rw [get_set (lt_of_get h2)] at w1
    by_cases ee : i = jj
    · subst ee; exact ⟨i, pp, pl, h2, w2⟩
    · rw [if_neg ee] at w1; exact ⟨jj, q', es', w1, w2⟩)
  obtain ⟨R3, m3⟩ := R2.write (H' := H') h2s k1 hl2 (fun x o n1 hx => by rw [hm1 x n1] at hx; exact hx) (r3.mv fun x o e nn => ⟨e, fun z => nn (sub x z)⟩)
  have m4 : Mv (Av c ρ1 σ) H' (Av c ((ρ1.set i (some (.l pp ps'))).set i2 (some (.l qp qs'))) σ) H' := fun x o e nn => ⟨e, fun z => nn (sub x (z.elim .inl fun ⟨jj, q', es', w1, w2⟩ => .inr (by
    rw [get_set (lt_of_get h2s)] at w1
    by_cases ee : i2 = jj
    · subst ee; exact ⟨i2, qp, ql, h2s, w2⟩
    · rw [if_neg ee] at w1; exact ⟨jj, q', es', w1, w2⟩)))⟩
  exact q v H' R3 (r4.mv m4) (m1.trans (m2.trans m3))
theorem ev_callM {i i2 : Nat} (F : FnOk X.prog X.w X.K X.mg X.base CX0 j fa fd ps (spM X.K k F4)) (hr : Room j X.A) (hg : Gl X x) (hm : X.mg x = some (.ref fa)) (hkp : PySem.W.keepIn X.K (.ref fa) = true) (hb : L2.Binds X.K fd ps [])
    (hv : PE X e (tVar i)) (hv2 : PE X e2 (tVar i2)) (ha : PA X es (tA X.K n)) (hk : ∀ ρ ds ρ', n ρ = some (ds, ρ') → ds.length = k) (hdb : (x == ("__debug__" : Str)) = false := by decide) (he : starEach (e :: e2 :: es) X.env = (false, eval e X.env) :: starEach (e2 :: es) X.env := by rfl) (he2 : starEach (e2 :: es) X.env = (false, eval e2 X.env) :: starEach es X.env := by rfl) (hpl : (backTo pos (starEach (e2 :: es) X.env)).any (·.1) = false := by rfl) :
    PE X (.Call (.Name x p) (e :: e2 :: es) [] pos) (tE X.K (eCallM F4 i i2 n)) :=
  pe_of (pe_call F hr hg hm hkp hb .nil pass0 (pa_cons hv (pa_cons hv2 ha he2) he) hdb he hpl) (rd_callM hk)
end
end PG
end
section
set_option Elab.async false
set_option linter.all false
set_option maxRecDepth 100000
namespace PG
open PySem PySem.Spec PyProof.Rows L2
/-! ### xs.extend(t), t a tuple -/
theorem list_extend_tup (l : Addr) (items : Array Value) (n : Nat) (b : Addr) (items2 : Array Value) (hs0 : ¬(!items.isEmpty && Builtin.List.listTooLong (items.size + items2.size)) = true) (hs1 : items.size ≤ sizeLine) (hs2 : items.size + items2.size ≤ sizeLine + 1) :
    Meets (Builtin.«list.extend» ⟨[.ref l, .ref b], []⟩) (fun _ R s => s.heap.get? l = some { cls := .type "list", dict := none, data := .seq items n, slots := #[] } ∧ IsTup s.heap b items2 ∧ R (.ok (.ret Value.none)) { s with heap := s.heap.update l (Obj.mapSeq fun x => x ++ items2), toks := s.toks }) :=
  .of_wp fun prog w A R s h => by
    obtain ⟨hp, g, d, tk, os⟩ := s; obtain ⟨hl, hb, h⟩ := h
    obtain ⟨⟨cls, dict, data, slots⟩, hb, hc, n2, hd⟩ := hb
    cases hc
    cases hd
    have f2 := sub_tuple_tuple; have f3 := sub_list_list; have f4 := sub_tuple_list; have f5 := sub_list_tuple;
    have hz' : (items ++ items2).size ≤ sizeLine + 1 := by rw [Array.size_append]; exact hs2
    wp_walk using (wpAny_updateSeq hl rfl (hz := hs1) (_hz' := hz')), wpAny_loadPart' hl, wpAny_loadPart' hb; exact ⟨_, rfl, h⟩
def rExtT (K : PySem.W.Frag) : V → List V → Hp → VK → Prop := fun x vs H Q => ∃ l b xs zs, x = .ref l ∧ vs = [.ref b] ∧ H l = some (.lst xs) ∧ SqT K H b zs ∧ xs.length + zs.length ≤ sizeLine ∧ Q .non (upd H l (.lst (xs ++ zs)))
section
variable {X : Cx}
theorem mt_extendT : MtM X "list.extend" (rExtT X.K) := by
  intro pins s σ H x vs v us Q I rx rv h
  obtain ⟨l, b, xs, zs, rfl, rfl, hH, hB, hz, q⟩ := h
  cases rx
  obtain ⟨u, rfl, ru⟩ := rv.one
  cases ru
  obtain ⟨z, its, n, r, hl, e⟩ := I.lstM hH
  obtain ⟨its2, r2, e2, z2⟩ := I.tuple hB
  have hl2 := r2.length
  have hsz : its.toArray.size + its2.toArray.size ≤ sizeLine := by rw [List.size_toArray, List.size_toArray]; omega
  have hlong : ¬ (!its.toArray.isEmpty && Builtin.List.listTooLong (its.toArray.size + its2.toArray.size)) = true := by
    rw [notLongL hsz, Bool.and_false]
    exact Bool.false_ne_true
  refine call_meets PySem.F.slot_list_extend ⟨_, e, rfl⟩ PySem.F.entry_list_extend (PySem.F.args_list_extend_2 _ _)
    (list_extend_tup l its.toArray n b its2.toArray hlong (by rw [List.size_toArray]; omega) (by omega)) ⟨e, e2, ?_⟩
  refine ⟨.non, _, I.lset (its' := its ++ its2) (t' := s.toks) hH e (by simp) (r.append r2) ?_, rfl, q⟩
  rw [List.length_append]
  omega
end
@[simp] def sExt (i : Nat) (f : EF) : SF := fun ρ => match ρ[i]? with
  | some (some (.l _ _)) => (match f ρ with
    | some (.tuple ds, ρ1) => (match ρ1[i]? with
      | some (some (.l p es)) => if es.length + ds.length ≤ 16777216 then some (.next, ρ1.set i (some (.l p (es ++ ds)))) else none
      | _ => none)
    | _ => none)
  | _ => none
section
variable {X : Cx} {a e : Expr} {pos : Pos} {f : EF}
theorem es_ext {i : Nat} {apos cpos : Pos} (hv : PE X a (tVar i)) (he : PE X e (tE X.K f)) (hbase : attributeBase a "extend" X.env (eval a X.env) = eval a X.env := by rfl)
    (hfew : ((backTo cpos (starEach [e] X.env)).all (fun x => !x.1) && (backToKw cpos (keywordEach [] X.env)).all (fun x => x.1.isSome)
      && decide ([e].length + ([] : List Keyword).length + (if ([] : List Keyword).isEmpty then 0 else 1) < 30)) = true := by rfl)
    (hline : (apos.endLine == cpos.line) = true := by rfl) (hs : starEach [e] X.env = (false, eval e X.env) :: starEach [] X.env := by rfl) (hplain : (backTo cpos (starEach [] X.env)).any (·.1) = false := by rfl)
    (hsw : swapsWith (.Call (.Attribute a "extend" apos) [e] [] cpos) none pos.line X.env = pure false := by rfl) :
    PS X (.Expr (.Call (.Attribute a "extend" apos) [e] [] cpos) pos) (tS X.K (sExt i f)) :=
  ps_of (ps_expr (pe_bm PySem.F.plainAttrs_list PySem.F.slot_list_extend PySem.F.type_list_extend mt_extendT hv (pa_cons he pa_nil hs) hbase hfew hline hs hplain) hsw) fun E σ H ⟨c, ρ, o, ρ', R, e, q⟩ => by
    unfold sExt at e
    split at e
    · rename_i p0 l0 h0
      split at e
      · rename_i ds ρ1 h1
        split at e
        · rename_i p es h2
          split at e
          · rename_i hl
            obtain ⟨e1, e2⟩ := so e
            subst e1 e2
            obtain ⟨a, us0, g1, g2, _⟩ := R.lst i p0 l0 h0
            refine ⟨.ref a, g1, .inl ⟨rfl, us0, .inl (.inl g2)⟩, c, ρ, _, ρ1, R, h1, fun v H1 R1 r1 m1 => ?_⟩
            obtain ⟨a', us, g1', g2', g3, _⟩ := R1.lst i p es h2
            rw [g1] at g1'
            cases g1'
            cases r1 with
            | @tup b vs _ lb al =>
              refine ⟨a, b, us, vs, rfl, rfl, g2', lb.sq, by rw [g3.length, al.length, sl16]; exact hl, ?_⟩
              have own : Av c ρ1 σ a := .inr ⟨i, p, es, h2, g1⟩
              have mw : Mv (Av c ρ1 σ) H1 (Av c ρ1 σ) (upd H1 a (.lst (us ++ vs))) := fun b o e n => ⟨by rw [upd_ne (fun z => n (by subst z; exact own))]; exact e, n⟩
              obtain ⟨R2, m2⟩ := R1.write (ds' := es ++ ds) h2 g1 upd_same (fun b o nb eb => by rw [upd_ne nb]; exact eb) ((g3.app al).mv mw)
              exact q σ _ R2 (m1.trans m2)
          · cases e
        · cases e
      · cases e
    · cases e
end
/-! ### t[::-1], t a tuple -/
section
variable {prog : Program} {w : World} {A : Around} {E : Value → Shared → Prop} {s : Shared}
theorem sliceApplied_rev {sl : Addr} {vl vu vs : Value} {n : Nat} {Q : Int × Int × Nat → Shared → Prop} (hs : s.heap.IsSliceOf sl vl vu vs) (pl : IsPart vl none) (pu : IsPart vu none) (ps : IsPart vs (some (-1)))
    (h : Q ((n : Int) - 1, -1, n) s) : wpAny (model prog w) A (Builtin.Slice.sliceApplied (.ref sl) (pure (n : Int))) Q E s := by
  obtain ⟨os, hos, hcs, hds⟩ := id hs
  unfold Builtin.Slice.sliceApplied Builtin.Slice.sliceFields
  refine wpAny_bind (wpAny_bind (wpAny_field hos hds (x := vl) rfl (wpAny_bind (wpAny_field hos hds (x := vu) rfl (wpAny_bind (wpAny_field hos hds (x := vs) rfl (wpAny_pure ?_)))))))
  refine wpAny_bind (HT.slicePart_ ps ?_)
  show wpAny _ _ (if ((-1 : Int) == 0) = true then _ else _) _ _ s
  rw [if_neg (by decide)]
  refine wpAny_bind (HT.slicePart_ pl (wpAny_bind (HT.slicePart_ pu (wpAny_bind (wpAny_pure ?_)))))
  show wpAny _ _ (pure ((n : Int) - 1, (-1 : Int), Builtin.Slice.slicePlaces ((n : Int) - 1) (-1) (-1))) _ _ s
  have e : Builtin.Slice.slicePlaces ((n : Int) - 1) (-1) (-1) = n := by
    unfold Builtin.Slice.slicePlaces
    have h1 : ¬ ((-1 : Int) > 0) := by omega
    simp only [h1, if_false, Int.neg_neg, Int.ediv_one]
    split <;> omega
  rw [e]
  exact wpAny_pure h
theorem fm_congr {α β : Type} {f g : α → Option β} : ∀ {l : List α}, (∀ x ∈ l, f x = g x) → l.filterMap f = l.filterMap g
  | [], _ => rfl
  | x :: l, h => by
    rw [List.filterMap_cons, List.filterMap_cons, h x (by simp), fm_congr fun y hy => h y (by simp [hy])]
theorem fm_all : ∀ l : List Value, (List.range l.length).filterMap (fun k => l[k]?) = l
  | [] => rfl
  | x :: l => by
    rw [List.length_cons, List.range_succ_eq_map, List.filterMap_cons]
    simp only [List.getElem?_cons_zero]
    rw [List.filterMap_map]
    simp only [Function.comp_def, List.getElem?_cons_succ]
    rw [fm_all l]
theorem pick_rev (xs : Array Value) : ((List.range xs.size).filterMap fun (k : Nat) => xs[(((xs.size : Nat) : Int) - 1 + (k : Int) * -1).toNat]?) = xs.toList.reverse := by
  have e1 : ∀ k, k < xs.size → xs[(((xs.size : Nat) : Int) - 1 + (k : Int) * -1).toNat]? = xs.toList.reverse[k]? := fun k hk => by
    rw [show (((xs.size : Nat) : Int) - 1 + (k : Int) * -1).toNat = xs.size - 1 - k by omega, List.getElem?_reverse (by simpa using hk)]
    simp
  rw [fm_congr (g := fun k : Nat => xs.toList.reverse[k]?) fun k hk => e1 k (by simpa using hk)]
  have := fm_all xs.toList.reverse
  simpa using this
theorem getItem_tuple_rev {t sl : Addr} {items : Array Value} {vl vu vs : Value} {Q : Value → Shared → Prop} (ht : IsTup s.heap t items) (hs : s.heap.IsSliceOf sl vl vu vs) (pl : IsPart vl none) (pu : IsPart vu none) (ps : IsPart vs (some (-1)))
    (h : Q (.ref s.heap.objs.size) { s with heap := s.heap.push { cls := .type "tuple", data := .seq items.toList.reverse.toArray } })
    (hsz : items.size ≤ sizeLine) : wpAny (model prog w) A (getItem (.ref t) (.ref sl)) Q E s := by
  have htake : sizeOk (.seq items.toList.reverse.toArray) := by
    show items.toList.reverse.toArray.size ≤ sizeLine
    rw [List.size_toArray, List.length_reverse, Array.length_toList]
    exact hsz
  obtain ⟨os, hos, hcs, hds⟩ := id hs
  have hTs : s.TypeIs (.ref sl) "slice" := ⟨os, hos, hcs⟩
  unfold getItem
  try with_reducible refine wpAny_holding ?_
  first | refine wpAny_bind (wpAny_pure ?_) | skip
  refine wpAny_bind (wpAny_sequenceKey ht.typeIs (by decide) ?_)
  refine wpAny_bind (wpAny_callSpecial?_slot (name := Str.ofString "__getitem__") ht.typeIs PyProof.Rows.slot_tuple_getitem
    (wpAny_call_entry PyProof.Rows.slot_tuple_getitem ht.typeIs entry_tuple_getitem ?_ (args_tuple_getitem _ _)))
  show wpAny _ _ (Builtin.Tuple.tupleItemsOf (.ref t) >>= _) _ _ s
  refine wpAny_bind (tupleItemsOf_ ht ?_)
  refine wpAny_bind (wpAny_typeOf hTs ?_)
  rw [if_pos (by decide)]
  refine wpAny_bind (sliceApplied_rev hs pl pu ps ?_)
  have hno : ¬ (((((items.size : Nat) : Int) - 1) == 0 && (-1 : Int) == 1 && items.size == items.size) = true) := by
    intro q
    rw [Bool.and_eq_true, Bool.and_eq_true] at q
    exact absurd q.1.2 (by decide)
  show wpAny _ _ (if ((((items.size : Nat) : Int) - 1) == 0 && (-1 : Int) == 1 && items.size == items.size) = true then _ else _) _ _ s
  rw [if_neg hno, pick_rev]
  first
    | exact wpAny_bind (m := Builtin.Tuple.tupleExact _) (wpAny_newObj_type (wpAny_pure ⟨_, rfl, wpAny_pure h⟩) htake)
    | exact wpAny_bind (m := Builtin.Tuple.tupleExact _) (wpAny_newObj_type (wpAny_bind (wpAny_pure (wpAny_pure ⟨_, rfl, wpAny_pure h⟩))) htake)
    | exact wpAny_bind (wpAny_bind (m := Builtin.Tuple.tupleExact _) (wpAny_newObj_type (wpAny_pure (wpAny_pure ⟨_, rfl, wpAny_pure h⟩)) htake))
    | exact wpAny_bind (wpAny_bind (m := Builtin.Tuple.tupleExact _) (wpAny_newObj_type (wpAny_pure ⟨_, rfl, wpAny_pure h⟩) htake))
end
def tRevT (K : PySem.W.Frag) (te : TE) : TE := fun σ H Q => te σ H fun x H1 => ∃ a xs, x = .ref a ∧ SqT K H1 a xs ∧ ∀ p, H1 p = none → Q (.ref p) (upd H1 p (.tup xs.reverse))
@[simp] def eRevT (f : EF) : EF := fun ρ => match f ρ with
  | some (.tuple xs, ρ1) => some (.tuple xs.reverse, ρ1)
  | _ => none
section
variable {X : Cx} {e : Expr} {f : EF}
theorem pe_revT {te : TE} {k : Nat} {p1 p2 p3 pos : Pos} (he : PE X e te) : PE X (.Subscript e (.Slice none none (some (.UnaryOp .USub (.Constant (.int 1) k p1) p2)) p3) pos) (tRevT X.K te) := by
  refine ⟨fun pins s σ H Q I h => ?_⟩
  refine Subscript_ (thn (he.run pins s σ H _ I h) fun v s1 ⟨x, H1, I1, r1, q1⟩ => ?_)
  obtain ⟨a, xs, ex, hx, q⟩ := q1
  subst ex
  cases r1
  have hst : PO X (some (.UnaryOp .USub (.Constant (.int 1) k p1) p2)) (tPart (tUn (rU fun i => .int (-i)) (tC (.int 1)))) := po_some (pe_un un_neg pe_int)
  refine wpAny_Slice (thn (po_none.run pins s1 σ H1 (fun o H2 => o = none ∧ H2 = H1) I1 ⟨rfl, rfl⟩) fun vl s2 ⟨l, H2, I2, pl, el, e2⟩ => ?_)
  subst el e2
  refine thn (po_none.run pins s2 σ H2 (fun o H3 => o = none ∧ H3 = H2) I2 ⟨rfl, rfl⟩) fun vu s3 ⟨u, H3, I3, pu, eu, e3⟩ => ?_
  subst eu e3
  refine thn (hst.run pins s3 σ H3 (fun o H4 => o = some (-1) ∧ H4 = H3) I3 ⟨1, rfl, -1, rfl, rfl, rfl⟩) fun vs s4 ⟨o, H4, I4, ps, eo, e4⟩ => ?_
  subst eo e4
  have I5 : Inv X pins σ H4 { s4 with heap := s4.heap.push { cls := .type "slice", data := .fields #[vl, vu, vs] } } := I4.kept (t' := s4.toks) fun b ob q => Heap.get?_push_of_some _ q
  obtain ⟨its, r, ht, hz⟩ := I5.tuple hx
  have hlen := r.length
  show wpAny (model X.prog X.w) X.A (subscriptTail e (.Slice none none (some (.UnaryOp .USub (.Constant (.int 1) k p1) p2)) p3) (.ref a) (.ref s4.heap.objs.size)) (EP X pins σ Q) X.xe { s4 with heap := s4.heap.push { cls := .type "slice", data := .fields #[vl, vu, vs] } }
  refine tail_any (ops := [.ref a, .ref s4.heap.objs.size]) ht.typeIs (PyProof.Rows.slot_tuple_getitem.lookup) ?_ (by with_unfolding_all rfl)
  refine getItem_tuple_rev ht (Heap.IsSliceOf.new _ vl vu vs) pl pu ps ?_ (by rw [List.size_toArray]; omega)
  refine ⟨.ref _, _, I5.laid (t' := s4.toks) (o := .tup xs.reverse) (fun b ob q => Heap.get?_push_of_some _ q) (Nat.le_refl _) ?_, rfl, q _ (I5.hok.fresh (Nat.le_refl _))⟩
  refine ⟨by rw [List.length_reverse]; exact hz, _, r.reverse, ?_⟩
  exact IsTup.new _ _
theorem RpA.rev {K : PySem.W.Frag} {A : Addr → Prop} {H : Hp} : ∀ {vs : List V} {ds : List PyData}, RpA K A H vs ds → RpA K A H vs.reverse ds.reverse
  | _, _, .nil => .nil
  | _, _, .cons r rs => by
    rw [List.reverse_cons, List.reverse_cons]
    exact (RpA.rev rs).app (.cons r .nil)
theorem ev_revT {k : Nat} {p1 p2 p3 pos : Pos} (he : PE X e (tE X.K f)) : PE X (.Subscript e (.Slice none none (some (.UnaryOp .USub (.Constant (.int 1) k p1) p2)) p3) pos) (tE X.K (eRevT f)) :=
  pe_of (pe_revT he) fun σ H Q ⟨c, ρ, d, ρ', R, e, q⟩ => by
    unfold eRevT at e
    split at e
    · rename_i xs ρ1 h1
      obtain ⟨e1, e2⟩ := so e
      subst e1 e2
      refine ⟨c, ρ, _, ρ1, R, h1, fun v H1 R1 r1 m1 => ?_⟩
      cases r1 with
      | @tup p us _ ll al =>
        exact ⟨p, us, rfl, ll.sq, fun p2 hp => q _ _ (R1.alloc hp).1 (R1.newTup hp (RpA.rev al)) (m1.trans (R1.mvG (kp_upd hp)))⟩
    · cases e
end
end PG
end
section
set_option Elab.async false
set_option linter.all false
set_option maxRecDepth 100000
namespace PG
open PySem PySem.Spec PyProof.Rows L2
/-! ### a comprehension that walks an owned list -/
section
variable {X : Cx} {e a b : Expr} {pos : Pos} {f g h : EF} {tf tg : TF} {n m : NF} {es : List Expr}
theorem comp_core {K : PySem.W.Frag} {G : GF} {is vs : List Nat} (his : ∀ j ∈ is, j ∈ vs) {c : Act} {ρ1 ρ2 : Rho} {σ : L2.St} {H1 : Hp} {J : It} {ds0 out : List PyData} {Q : VK} (R1 : Rel K c ρ1 σ H1) (hp : plainAt ρ1 vs = true) (h2 : compL G tf f vs ds0 [] (wipeR ρ1 vs) = some (out, ρ2))
    (jo : ∀ (Dd : Addr) (ρi : Rho) (Hi : Hp), Rel K (c.plus Dd) ρi (wipe σ vs) Hi → Mv (Av c ρ1 σ) H1 (Av (c.plus Dd) ρi (wipe σ vs)) Hi →
      (∀ (i : Nat) (d : PyData), ds0[i]? = some d → J.go i Hi ∧ ∀ x H', J.yld i Hi x H' → H' = Hi ∧ Rp K (Av (c.plus Dd) ρi (wipe σ vs)) Hi x d) ∧ J.stop ds0.length Hi)
    (q : ∀ (a : Addr) (us : List V) (H' : Hp), Rel K (c.plus a) (restR ρ1 ρ2 vs) σ H' → H' a = some (.lst us) → RpA K (Av (c.plus a) (restR ρ1 ρ2 vs) σ) H' us out → ¬ Av c (restR ρ1 ρ2 vs) σ a → c.H0 a = none → H1 a = none → Mv (Av c ρ1 σ) H1 (Av (c.plus a) (restR ρ1 ρ2 vs) σ) H' → Q (.ref a) H') :
    ∀ D, H1 D = none → ∃ W : Nat → Nat → Hp → Prop, (∃ m, W 0 m (upd H1 D (.lst []))) ∧ ∀ i m H, W i m H →
      (J.stop i H ∧ Q (.ref D) H) ∨ (J.go i H ∧ ∃ Nx : Hp → Prop, (∀ H', Nx H' → ∃ m', m' < m ∧ W (i + 1) m' H') ∧ ∀ x H', J.yld i H x H' → tG K G is x (wipe σ vs) H' fun σ2 H2 => wipe σ2 vs = wipe σ vs ∧ tT K tf σ2 H2 fun b H3 =>
        if b = true then tE K f σ2 H3 fun y H4 => ∃ acc, H4 D = some (.lst acc) ∧ acc.length < sizeLine ∧ Nx (upd H4 D (.lst (acc ++ [y]))) else Nx H3) := by
  intro Dd hD
  have hn : ∀ i, c.pn i ≠ some Dd := fun i z => R1.av Dd (R1.pA i Dd z) hD
  have h0 : c.H0 Dd = none := R1.fresh0 hD
  obtain ⟨Rw, mw⟩ := R1.wipe hp
  have Rw' : Rel K (c.plus Dd) (wipeR ρ1 vs) (wipe σ vs) (upd H1 Dd (.lst [])) := Rw.plus hD (kp_upd hD) (by rw [upd_same]; exact fun z => nomatch z)
  have mw' : Mv (Av c ρ1 σ) H1 (Av (c.plus Dd) (wipeR ρ1 vs) (wipe σ vs)) (upd H1 Dd (.lst [])) := mw.trans (Rw.mvP hD (kp_upd hD))
  refine ⟨fun i m Hi => m = ds0.length - i ∧ i ≤ ds0.length ∧ ∃ ρi acc us, plainAt ρi vs = true ∧ Rel K (c.plus Dd) ρi (wipe σ vs) Hi ∧ Hi Dd = some (.lst us) ∧ RpA K (Av (c.plus Dd) ρi (wipe σ vs)) Hi us acc ∧
    Mv (Av c ρ1 σ) H1 (Av (c.plus Dd) ρi (wipe σ vs)) Hi ∧ compL G tf f vs (ds0.drop i) acc ρi = some (out, ρ2),
    ⟨ds0.length, by simp, Nat.zero_le _, wipeR ρ1 vs, [], [], plain_wipe hp, Rw', upd_same, .nil, mw', h2⟩, ?_⟩
  rintro i m Hi ⟨rfl, hi, ρi, acc, us, hpi, Ri, hDi, ri, mi, ei⟩
  obtain ⟨jg, js⟩ := jo Dd ρi Hi Ri mi
  cases hd : ds0.drop i with
  | nil =>
    rw [hd] at ei
    unfold compL at ei
    obtain ⟨e1, e2⟩ := so ei
    subst e1 e2
    have : i = ds0.length := by
      have := congrArg List.length hd
      rw [List.length_drop, List.length_nil] at this
      omega
    subst this
    obtain ⟨Rr, own⟩ := R1.rest Ri mi hp hpi
    have mo : Mv (Av (c.plus Dd) ρi (wipe σ vs)) Hi (Av (c.plus Dd) (restR ρ1 ρi vs) σ) Hi := fun b o eb nb => ⟨eb, fun z => nb (z.elim .inl fun y => .inr ((own b).mp y))⟩
    have mt : Mv (Av c ρ1 σ) H1 (Av c (restR ρ1 ρi vs) σ) Hi := (mi.trans mo).trans mv_unplus
    refine .inl ⟨js, q Dd us Hi Rr hDi (ri.mv mo) (fun z => ?_) h0 hD (mi.trans mo)⟩
    rcases z with z | z
    · exact R1.av Dd z hD
    · obtain ⟨j, p, es, w1, w2⟩ := (own Dd).mp z
      obtain ⟨b, us', g1, g2, g3, g4⟩ := Ri.lst j p es w1
      rw [w2] at g1
      cases g1
      cases p with
      | false => exact (g4 rfl).2 (.inr rfl)
      | true => exact hn j ((Ri.pin j Dd).mpr ⟨es, w1, w2⟩)
  | cons d r =>
    obtain ⟨g1, g2⟩ := drop_cons hd
    rw [hd] at ei
    obtain ⟨k1, k2⟩ := jg i d g1
    have hlt := lt_of_get g1
    unfold compL at ei
    split at ei
    · cases ei
    · rename_i ρa ea
      refine .inr ⟨k1, fun H' => ds0.length - (i + 1) = ds0.length - (i + 1) ∧ i + 1 ≤ ds0.length ∧ ∃ ρi acc us, plainAt ρi vs = true ∧ Rel K (c.plus Dd) ρi (wipe σ vs) H' ∧ H' Dd = some (.lst us) ∧ RpA K (Av (c.plus Dd) ρi (wipe σ vs)) H' us acc ∧
        Mv (Av c ρ1 σ) H1 (Av (c.plus Dd) ρi (wipe σ vs)) H' ∧ compL G tf f vs (ds0.drop (i + 1)) acc ρi = some (out, ρ2), fun H' z => ⟨ds0.length - (i + 1), by omega, z⟩, fun x H' y => ?_⟩
      obtain ⟨rfl, rx⟩ := k2 x H' y
      refine ⟨c.plus Dd, ρi, d, ρa, Ri, rx, ea, fun σ2 Ra ma hl hk => ?_⟩
      have hw : wipe σ2 vs = wipe σ vs := by
        apply List.ext_getElem?
        intro j
        rw [wipe_get, wipe_get]
        rw [hl, wipe_length]
        by_cases hj : j ∈ vs
        · by_cases hj2 : j < σ.length
          · rw [if_pos ⟨hj, hj2⟩, if_pos ⟨hj, hj2⟩]
          · rw [if_neg fun z => hj2 z.2, if_neg fun z => hj2 z.2, List.getElem?_eq_none (by rw [hl, wipe_length]; omega), List.getElem?_eq_none (by omega)]
        · rw [if_neg fun z => hj z.1, if_neg fun z => hj z.1, hk j fun z => hj (his j z), wipe_get, if_neg fun z => hj z.1]
      refine ⟨hw, ?_⟩
      have hA : (c.plus Dd).A Dd := .inr rfl
      have Ra' := Ra.memo hA hDi
      split at ei
      · cases ei
      · rename_i ρb eb
        split at ei
        · rename_i hpb
          refine ⟨_, ρa, false, ρb, Ra', eb, fun H3 R3 m3 => iteF ?_⟩
          obtain ⟨R3', hD3⟩ := R3.unmemo h0 hn
          obtain ⟨R4, m4⟩ := R3'.wipe hpb
          rw [hw] at R4 m4
          have mm := ma.trans (Mv.trans m3 m4)
          exact ⟨rfl, hlt, wipeR ρb vs, acc, us, plain_wipe hpb, R4, hD3, ri.mv mm, mi.trans mm, by rw [g2]; exact ei⟩
        · cases ei
      · rename_i ρb eb
        split at ei
        · cases ei
        · rename_i y ρc ec
          split at ei
          · rename_i hpc
            simp only [Bool.and_eq_true, decide_eq_true_eq] at hpc
            refine ⟨_, ρa, true, ρb, Ra', eb, fun H3 R3 m3 => iteT ?_⟩
            refine ⟨_, ρb, y, ρc, R3, ec, fun v H4 R4 r4 m4 => ?_⟩
            obtain ⟨R4', hD4⟩ := R4.unmemo h0 hn
            obtain ⟨R5, m5⟩ := R4'.wipe hpc.1
            rw [hw] at R5 m5
            obtain ⟨R6, m6⟩ := R5.scratch (o := .lst (us ++ [v])) hA hn h0
            have mm := ma.trans (Mv.trans m3 (Mv.trans m4 (Mv.trans m5 m6)))
            refine ⟨us, hD4, by rw [ri.length, sl16]; exact hpc.2, rfl, hlt, wipeR ρc vs, acc ++ [y], us ++ [v], plain_wipe hpc.1, R6, upd_same, (ri.mv mm).app (.cons (r4.mv (Mv.trans m5 m6)) .nil), mi.trans mm, by rw [g2]; exact ei⟩
          · cases ei
end
/-- the Act with one list more kept apart, as it stands -/
def Act.hide (c : Act) (b : Addr) (o : HO) : Act := { A := fun x => c.A x ∨ x = b, H0 := upd c.H0 b o, pn := c.pn }
section
variable {K : PySem.W.Frag} {c : Act} {ρ : Rho} {σ : L2.St} {H : Hp} {i : Nat} {ds : List PyData} {b : Addr} {us : List V}
theorem hide_av (hi : ρ[i]? = some (some (.l false ds))) (hb : σ[i]? = some (some (.ref b))) (x : Addr) : Av (c.hide b (.lst us)) (ρ.set i none) σ x ↔ Av c ρ σ x := by
  have hl := lt_of_get hi
  constructor
  · rintro (z | ⟨j, p, es, w1, w2⟩)
    · rcases z with z | z
      · exact .inl z
      · subst z; exact .inr ⟨i, _, _, hi, hb⟩
    · rw [get_set hl] at w1
      by_cases e : i = j
      · subst e; rw [if_pos rfl] at w1; cases w1
      · rw [if_neg e] at w1; exact .inr ⟨j, p, es, w1, w2⟩
  · rintro (z | ⟨j, p, es, w1, w2⟩)
    · exact .inl (.inl z)
    · by_cases e : i = j
      · subst e; rw [hb] at w2; cases w2; exact .inl (.inr rfl)
      · exact .inr ⟨j, p, es, by rw [get_set hl, if_neg e]; exact w1, w2⟩
theorem hide_mv (hi : ρ[i]? = some (some (.l false ds))) (hb : σ[i]? = some (some (.ref b))) : Mv (Av c ρ σ) H (Av (c.hide b (.lst us)) (ρ.set i none) σ) H := fun x o e n => ⟨e, fun z => n ((hide_av hi hb x).mp z)⟩
theorem Rel.hide (R : Rel K c ρ σ H) (hi : ρ[i]? = some (some (.l false ds))) (hb : σ[i]? = some (some (.ref b))) (hH : H b = some (.lst us)) : Rel K (c.hide b (.lst us)) (ρ.set i none) σ H := by
  have hl := lt_of_get hi
  have gs : ∀ j, (ρ.set i none)[j]? = if i = j then some none else ρ[j]? := fun j => get_set hl
  have mv := hide_mv (c := c) (H := H) (us := us) hi hb
  refine ⟨by rw [List.length_set]; exact R.len, fun j d e => ?_, fun j q es e => ?_, fun j k q q' es es' x h1 h2 h3 h4 => ?_, fun j x => ?_, fun j x e => .inl (R.pA j x e), fun x o e n => ?_, fun x e => ?_⟩
  · rw [gs] at e
    by_cases e1 : i = j
    · rw [if_pos e1] at e; cases e
    · rw [if_neg e1] at e
      obtain ⟨v, w1, w2⟩ := R.val j d e
      exact ⟨v, w1, w2.mv mv⟩
  · rw [gs] at e
    by_cases e1 : i = j
    · rw [if_pos e1] at e; cases e
    · rw [if_neg e1] at e
      obtain ⟨x, vs, w1, w2, w3, w4⟩ := R.lst j q es e
      have nx : x ≠ b := fun z => e1 (by subst z; exact R.dis i j _ _ _ _ x hi e hb w1)
      refine ⟨x, vs, w1, w2, w3.mv mv, fun z => ⟨?_, fun y => y.elim (w4 z).2 nx⟩⟩
      show upd c.H0 b (.lst us) x = none
      rw [upd_ne nx]
      exact (w4 z).1
  · rw [gs] at h1 h2
    by_cases e1 : i = j
    · rw [if_pos e1] at h1; cases h1
    · by_cases e2 : i = k
      · rw [if_pos e2] at h2; cases h2
      · rw [if_neg e1] at h1
        rw [if_neg e2] at h2
        exact R.dis j k q q' es es' x h1 h2 h3 h4
  · show c.pn j = some x ↔ _
    rw [R.pin, gs]
    by_cases e1 : i = j
    · subst e1
      rw [if_pos rfl, hi]
      constructor
      · rintro ⟨es, w, _⟩; cases w
      · rintro ⟨es, w, _⟩; cases w
    · rw [if_neg e1]
  · have e' : upd c.H0 b (.lst us) x = some o := e
    by_cases z : x = b
    · subst z; rw [upd_same] at e'; cases e'; exact hH
    · rw [upd_ne z] at e'; exact R.old x o e' n
  · rcases e with e | e
    · exact R.av x e
    · subst e; rw [hH]; exact fun z => nomatch z
/-- it is seen again -/
theorem Rel.seen {a : Addr} {H' : Hp} {ρ' : Rho} (R : Rel K c ρ σ H) (hi : ρ[i]? = some (some (.l false ds))) (hb : σ[i]? = some (some (.ref b))) (hH : H b = some (.lst us)) (ru : RpA K (Av c ρ σ) H us ds) (hc : c.H0 b = none ∧ ¬ c.A b)
    (ha : H a = none) (R' : Rel K ((c.hide b (.lst us)).plus a) ρ' σ H') (hn : ρ'[i]? = some none) (m : Mv (Av (c.hide b (.lst us)) (ρ.set i none) σ) H (Av ((c.hide b (.lst us)).plus a) ρ' σ) H') :
    Rel K (c.plus a) (ρ'.set i (some (.l false ds))) σ H' ∧ (∀ x, Av (c.plus a) (ρ'.set i (some (.l false ds))) σ x ↔ Av ((c.hide b (.lst us)).plus a) ρ' σ x) := by
  have hl := lt_of_get hn
  have gs : ∀ j, (ρ'.set i (some (Cell.l false ds)))[j]? = if i = j then some (some (Cell.l false ds)) else ρ'[j]? := fun j => get_set hl
  have av : ∀ x, Av (c.plus a) (ρ'.set i (some (.l false ds))) σ x ↔ Av ((c.hide b (.lst us)).plus a) ρ' σ x := fun x => by
    constructor
    · rintro (z | ⟨j, p, es, w1, w2⟩)
      · exact .inl (z.elim (fun y => .inl (.inl y)) .inr)
      · rw [gs] at w1
        by_cases e : i = j
        · subst e; rw [hb] at w2; cases w2; exact .inl (.inl (.inr rfl))
        · rw [if_neg e] at w1; exact .inr ⟨j, p, es, w1, w2⟩
    · rintro (z | ⟨j, p, es, w1, w2⟩)
      · rcases z with (z | z) | z
        · exact .inl (.inl z)
        · subst z; exact .inr ⟨i, false, ds, by rw [gs, if_pos rfl], hb⟩
        · exact .inl (.inr z)
      · have e : i ≠ j := fun z => by subst z; rw [hn] at w1; cases w1
        exact .inr ⟨j, p, es, by rw [gs, if_neg e]; exact w1, w2⟩
  have mv : Mv (Av ((c.hide b (.lst us)).plus a) ρ' σ) H' (Av (c.plus a) (ρ'.set i (some (.l false ds))) σ) H' := fun x o e n => ⟨e, fun z => n ((av x).mp z)⟩
  have hnp : ∀ j, c.pn j ≠ some b := fun j z => hc.2 (R.pA j b z)
  have hH' : H' b = some (.lst us) := R'.old b _ (show upd c.H0 b (.lst us) b = _ from upd_same) hnp
  have nba : b ≠ a := fun z => by subst z; rw [ha] at hH; cases hH
  refine ⟨⟨by rw [List.length_set]; exact R'.len, fun j d e => ?_, fun j q es e => ?_, fun j k q q' es es' x h1 h2 h3 h4 => ?_, fun j x => ?_, fun j x e => .inl (R.pA j x e), fun x o e n => ?_, fun x e => ?_⟩, av⟩
  · rw [gs] at e
    by_cases e1 : i = j
    · rw [if_pos e1] at e; cases e
    · rw [if_neg e1] at e
      obtain ⟨v, w1, w2⟩ := R'.val j d e
      exact ⟨v, w1, w2.mv mv⟩
  · rw [gs] at e
    by_cases e1 : i = j
    · rw [if_pos e1] at e
      cases e
      subst e1
      exact ⟨b, us, hb, hH', ((ru.mv (hide_mv hi hb)).mv m).mv mv, fun _ => ⟨hc.1, fun z => z.elim hc.2 nba⟩⟩
    · rw [if_neg e1] at e
      obtain ⟨x, vs, w1, w2, w3, w4⟩ := R'.lst j q es e
      refine ⟨x, vs, w1, w2, w3.mv mv, fun z => ?_⟩
      obtain ⟨y1, y2⟩ := w4 z
      have nx : x ≠ b := fun z => y2 (.inl (.inr z))
      have y1' : upd c.H0 b (.lst us) x = none := y1
      rw [upd_ne nx] at y1'
      exact ⟨y1', fun z => y2 (z.elim (fun z => .inl (.inl z)) .inr)⟩
  · have no : ∀ k q es, k ≠ i → ρ'[k]? = some (some (Cell.l q es)) → σ[k]? = some (some (.ref b)) → False := fun k q es nk w1 w2 => by
      obtain ⟨y, vs, v1, v2, v3, v4⟩ := R'.lst k q es w1
      rw [w2] at v1
      cases v1
      cases q with
      | false => exact (v4 rfl).2 (.inl (.inr rfl))
      | true => exact hnp k ((R'.pin k b).mpr ⟨es, w1, w2⟩)
    rw [gs] at h1 h2
    by_cases e1 : i = j
    · by_cases e2 : i = k
      · exact e1.symm.trans e2
      · rw [if_neg e2] at h2
        subst e1
        rw [hb] at h3
        cases h3
        exact (no k _ _ (fun z => e2 z.symm) h2 h4).elim
    · rw [if_neg e1] at h1
      by_cases e2 : i = k
      · subst e2
        rw [hb] at h4
        cases h4
        exact (no j _ _ (fun z => e1 z.symm) h1 h3).elim
      · rw [if_neg e2] at h2
        exact R'.dis j k q q' es es' x h1 h2 h3 h4
  · have r := R'.pin j x
    show c.pn j = some x ↔ _
    rw [gs]
    by_cases e1 : i = j
    · subst e1
      rw [if_pos rfl]
      constructor
      · intro z
        obtain ⟨es, w, _⟩ := r.mp z
        rw [hn] at w
        cases w
      · rintro ⟨es, w, _⟩; cases w
    · rw [if_neg e1]
      exact r
  · have nx : x ≠ b := fun z => by
      subst z
      have e' : c.H0 x = some o := e
      rw [hc.1] at e'
      cases e'
    exact R'.old x o (by show upd c.H0 b (.lst us) x = _; rw [upd_ne nx]; exact e) n
  · exact R'.av x (e.elim (fun z => .inl (.inl z)) .inr)
end
/-- [f for x in known if t], known an owned list: the parts don't see it -/
def nCompO (i : Nat) (g : GF) (t : TF) (e : EF) (vs : List Nat) : NF := fun ρ => match ρ[i]? with
  | some (some (.l false ds)) => if plainAt (ρ.set i none) vs then (match compL g t e vs ds [] (wipeR (ρ.set i none) vs) with
    | some (out, ρ2) => (match (restR (ρ.set i none) ρ2 vs)[i]? with
      | some none => some (out, (restR (ρ.set i none) ρ2 vs).set i (some (.l false ds)))
      | _ => none)
    | none => none) else none
  | _ => none
section
variable {X : Cx} {e a b : Expr} {pos : Pos} {f g h : EF} {tf tg : TF} {n m : NF} {es : List Expr}
theorem rd_compO {K : PySem.W.Frag} {i : Nat} {G : GF} {is vs : List Nat} (his : ∀ j ∈ is, j ∈ vs) : ∀ σ H Q, tN K (nCompO i G tf f vs) σ H Q → tLc (iList K (tVar i)) (tG K G is) (tT K tf) (tE K f) vs σ H Q := fun σ H Q ⟨c, ρ, out, ρ', R, e, q⟩ => by
  unfold nCompO at e
  split at e
  · rename_i ds h0
    split at e
    · rename_i hp
      split at e
      · rename_i out' ρ2 h2
        split at e
        · rename_i hn
          obtain ⟨e1, e2⟩ := so e
          subst e1 e2
          obtain ⟨b, us, g1, g2, g3, g4⟩ := R.lst i false ds h0
          have hc := g4 rfl
          have R1 := R.hide h0 g1 g2
          refine ⟨.ref b, g1, b, rfl, ⟨us, .inl (.inl g2)⟩, ?_⟩
          refine comp_core his R1 hp h2 (fun Dd ρi Hi Ri mi => ?_) fun a ws H' Rr ha ra na h00 hD mm => ?_
          · have hnp : ∀ j, (c.hide b (.lst us)).pn j ≠ some b := fun j z => hc.2 (R.pA j b z)
            have hHi : Hi b = some (.lst us) := Ri.old b _ (show upd c.H0 b (.lst us) b = _ from upd_same) hnp
            have rr := (g3.mv (hide_mv h0 g1)).mv mi
            refine ⟨fun k d hk => ?_, ⟨us, .inl (.inl hHi), by rw [rr.length]; exact Nat.le_refl _⟩⟩
            obtain ⟨v, w1, w2⟩ := rr.get hk
            exact ⟨⟨us, v, .inl (.inl hHi), w1⟩, fun x H' y => ⟨y.1, by
              have := y.2 us (.inl (.inl hHi))
              rw [w1] at this
              cases this
              exact w2⟩⟩
          · obtain ⟨R2, av⟩ := R.seen h0 g1 g2 g3 hc hD Rr hn mm
            have mv : Mv (Av ((c.hide b (.lst us)).plus a) (restR (ρ.set i none) ρ2 vs) σ) H' (Av (c.plus a) ((restR (ρ.set i none) ρ2 vs).set i (some (.l false ds))) σ) H' := fun x o e n => ⟨e, fun z => n ((av x).mp z)⟩
            have nab : a ≠ b := fun z => by subst z; rw [g2] at hD; cases hD
            refine q a ws H' R2 ha (ra.mv mv) (fun z => ?_) ?_ (fun _ => hD) (((hide_mv h0 g1).trans mm).trans (mv.trans mv_unplus))
            · have z' := (av a).mp (z.elim (fun y => .inl (.inl y)) .inr)
              rcases z with z | ⟨j, p, es, w1, w2⟩
              · exact na (.inl (.inl z))
              · rw [get_set (lt_of_get hn)] at w1
                by_cases e : i = j
                · subst e; rw [g1] at w2; cases w2; exact nab rfl
                · rw [if_neg e] at w1; exact na (.inr ⟨j, p, es, w1, w2⟩)
            · have h00' : upd c.H0 b (.lst us) a = none := h00
              rw [upd_ne nab] at h00'
              exact h00'
        · cases e
      · cases e
    · cases e
  · cases e
theorem en_compO {i : Nat} {elt tgt iter : Expr} {ifs : List Expr} {scope : Scope} {own : List (Str × Nat)} {G : GF} {is : List Nat} (hc : X.calm = true) (hN : X.N.Nodup) (hv : PE X iter (tVar i)) (ok : BlkOk X.N X.env.scope scope own)
    (hg : ∀ (s : Shared) (H : Hp) (C : Addr) (cl : List (Str × Addr)) (fp : List Addr), PG (X.blk s H scope (compEnvC scope cl C X.env) fp) tgt (tG X.K G is)) (ht : ∀ (s : Shared) (H : Hp) (C : Addr) (cl : List (Str × Addr)) (fp : List Addr), PTs (X.blk s H scope (compEnvC scope cl C X.env) fp) ifs (tT X.K tf))
    (he : ∀ (s : Shared) (H : Hp) (C : Addr) (cl : List (Str × Addr)) (fp : List Addr), PE (X.blk s H scope (compEnvC scope cl C X.env) fp) elt (tE X.K f)) (his : ∀ j ∈ is, j ∈ own.map (·.2) := by decide) (hs : ∀ x, foldedSetIterable iter X.env x = pure x := by intro _; rfl) :
    PE X (.ListComp elt [⟨tgt, iter, ifs, 0⟩] scope pos) (tN X.K (nCompO i G tf f (own.map (·.2)))) := pe_of (pe_lc hc hN (pi_list hv) ok hg ht he hs) (rd_compO his)
end
end PG
end
section
set_option Elab.async false
set_option linter.all false
set_option maxRecDepth 100000
namespace PG
open PySem PySem.Spec PyProof.Rows L2
/-! ### sorted(set(xs)), up to some thousands -/
section
variable {P : Program} {w : World} {A : Around} {E : Value → Shared → Prop} {s : Shared} {a : Addr}
theorem sorted_setA {S : Int → Bool} {n : Nat} {Q : Value → Shared → Prop} (R : SetR w s.heap a S n) (hh : A.handled = none) (h64 : n < 4096)
    (hQ : ∀ s' p (out : Array Value) (c : Nat) (ns : List Int), (∀ b o, s.heap.get? b = some o → s'.heap.get? b = some o) → s'.gens = s.gens → s'.os = s.os → s.heap.objs.size ≤ p →
      s'.heap.get? p = some (seqObj "list" out c) → IntsAre out.toList ns → ns.Pairwise (· < ·) → (∀ k, k ∈ ns ↔ S k = true) → ns.length = n → Q (.ref p) s') :
    wpAny (model P w) A (call (.builtin "sorted") [.ref a]) Q E s := by
  obtain ⟨o, es, ep, t, ho, hex, hd, g, nd, hm, hb, hf, hn, hr, hl⟩ := R
  refine Calls.call_function_entry kind_sorted plain_sorted entry_sorted (args_sorted1 _) ?_
  unfold Builtin.«sorted»
  refine wpAny_bind (m := checkCount "sorted" 1 1 _) (wpAny_pure ?_)
  refine wpAny_bind (collect_set (A := A.in1) hh ⟨o, ho, hex.1, hd⟩ hf hb hr hl fun s1 vs k1 hz g1 o1 pm => ?_)
  have hvl : vs.length = n := by rw [pm.length_eq, List.length_map, Array.length_toList]; exact hn
  have hI : IntsAre vs (vs.map Builtin.Re.reRawOf) := ints_of vs fun v hv => by
    obtain ⟨e, he, q⟩ := List.mem_map.mp (pm.mem_iff.mp hv)
    obtain ⟨k, tk, h1, _⟩ := g e he
    exact ⟨k, tk, by rw [← q]; exact h1⟩
  have pk : (vs.map Builtin.Re.reRawOf).Perm (es.toList.map L2.keyOf) := by
    have q := pm.map Builtin.Re.reRawOf
    rw [List.map_map] at q
    exact q
  have hsl : vs.length ≤ sizeLine := by rw [hvl, sizeLine_eq]; omega
  refine wpAny_bind (wpAny_newList ?_ hsl)
  have hoL : (s1.heap.push (seqObj "list" vs.toArray 0)).get? s1.heap.objs.size = some (seqObj "list" vs.toArray 0) := Heap.get?_push_size _ rfl
  refine wpAny_bind (wpAny_holding (wpAny_call_entry slot_list_sort ⟨_, hoL, rfl⟩ entry_list_sort (SrtO.list_sort_ord SrtO.swo_int hoL hsl (fun h2 => SrtO.ints_sortable hI h2) fun outl h1 h2 => ⟨_, rfl, ?_⟩) (args_list_sort _)))
  obtain ⟨ns', a1, a2, a3⟩ := SrtR.ints_outR (b := false) hI h1 h2
  obtain ⟨c, hc⟩ := sortedHeap_at (vs := vs) (out := outl.toArray) hoL
  have pn : ns'.Perm (es.toList.map L2.keyOf) := a2.trans pk
  have a1' : IntsAre outl.toArray.toList ns' := a1
  have a3' : ns'.Pairwise (· ≤ ·) := a3
  refine wpAny_pure ⟨_, rfl, hQ _ s1.heap.objs.size outl.toArray c ns' (fun b u e => ?_) g1 o1 hz hc a1' (lt_of_le_nodup ns' a3' (pn.nodup_iff.mpr nd)) (fun k => by rw [pn.mem_iff, ← hm k]) ?_⟩
  · have q := k1 b u e
    have hlt := Heap.lt_size q
    show (sortedHeap (s1.heap.push (seqObj "list" vs.toArray 0)) s1.heap.objs.size vs outl.toArray).get? b = some u
    rw [sortedHeap_old (Nat.ne_of_lt hlt) (by rw [size_push']; exact Nat.lt_succ_of_lt hlt)]
    exact Heap.get?_push_of_some _ q
  · rw [pn.length_eq, List.length_map, Array.length_toList]; exact hn
end
section
variable {X : Cx} {e a b : Expr} {pos : Pos} {f g h : EF} {tf tg : TF} {n m : NF} {es : List Expr}
def rSortedSetA (w : World) : List V → Hp → VK → Prop := fun vs H Q => ∃ (a : Addr) (S : Int → Bool) (n : Nat), vs = [V.ref a] ∧ H a = some (SetO w a S n) ∧ n < 4096 ∧
  ∀ (ns : List Int) (p : Addr), ns.Pairwise (· < ·) → (∀ k : Int, k ∈ ns ↔ S k = true) → ns.length = n → H p = none → Q (.ref p) (upd H p (.lst (ns.map V.int)))
theorem cr_sortedSetA (hc : X.calm = true) : CallR X (.builtin "sorted") (rSortedSetA X.w) := by
  intro pins s σ H vs us Q I r h
  obtain ⟨a, S, n, rfl, ha, h64, q⟩ := h
  have R := setO_get I ha
  rw [Vals.ref1 r]
  refine sorted_setA R (I.ok.hd hc) h64 fun s' p out c ns k g o hp hg hi hs hm hl => ?_
  have hlen : (ns.map V.int).length ≤ sizeLine := by rw [List.length_map, hl, sizeLine_eq]; omega
  have hn : H p = none := I.hok.fresh hp
  have J : Inv X pins σ (upd H p (.lst (ns.map V.int))) { s with heap := s'.heap, gens := s'.gens, drawn := s'.drawn, toks := s'.toks } :=
    I.call (ch := []) (Un.laid k hp hn) (I.hok.laid k hp ⟨hlen, out.toList, c, vals_of_ints hi, hg⟩) (by rw [g]; exact I.bare) (fun _ z => nomatch z)
  have e : s' = { s with heap := s'.heap, gens := s'.gens, drawn := s'.drawn, toks := s'.toks } := by
    cases s'
    cases s
    cases o
    rfl
  rw [e]
  exact ⟨.ref p, _, J, rfl, q ns p hs hm hl hn⟩
def rSetLIA (K : PySem.W.Frag) (w : World) : List V → Hp → VK → Prop := fun xs H Q => ∃ (l : Addr) (ns : List Int), xs = [.ref l] ∧ SqL K H l (ns.map V.int) ∧ ns.length < 4000 ∧
  ∀ p c, c ≤ ns.length → H p = none → Q (.ref p) (upd H p (SetO w p (fun j => decide (j ∈ ns)) c))
theorem cr_setLIA (hc : X.calm = true) : CallR X (.type "set") (rSetLIA X.K X.w) := by
  intro pins s σ H xs us Q I r hq
  obtain ⟨l, ns, rfl, hl, hn, q⟩ := hq
  obtain ⟨u, rfl, ru⟩ := vals1 r
  cases ru
  obtain ⟨its, rv, pl, hz⟩ := I.list hl
  refine setOfList ns (I.ok.hd hc) pl.isList (by simpa using intsAre_of rv) (by unfold scanBound; omega) fun h' tk c R1 hc' k => ?_
  have hf : H s.heap.objs.size = none := I.hok.fresh (Nat.le_refl _)
  exact ⟨.ref _, _, I.laid (t' := tk) k (Nat.le_refl _) (setO_new R1), rfl, q _ c hc' hf⟩
/-- sorted(set(xs)): fewer than 4000 items -/
def dSortSetA : PyData → Option (List PyData)
  | .list ds => (match intsOf ds with
    | some ns => if ns.length < 4000 then some ((sortI ns).map PyData.int) else none
    | none => none)
  | _ => none
theorem en_sortSetA {p1 p2 q1 : Pos} (hc : X.calm = true) (hg : Gl X "sorted") (hm : X.mg "sorted" = none) (hg2 : Gl X "set") (hm2 : X.mg "set" = none) (ha : PE X a (tE X.K f))
    (na : starEach [a] X.env = (false, eval a X.env) :: starEach [] X.env := by rfl) (ns1 : starEach [.Call (.Name "set" p2) [a] [] q1] X.env = (false, eval (.Call (.Name "set" p2) [a] [] q1) X.env) :: starEach [] X.env := by rfl) :
    PE X (.Call (.Name "sorted" p1) [.Call (.Name "set" p2) [a] [] q1] [] pos) (tN X.K (nCall (n1of dSortSetA) (nCons f nNil))) :=
  pe_of (pe_callB (cr_sortedSetA hc) hg hm (by decide +kernel) (pa_cons (pe_callTy (cr_setLIA hc) hg2 hm2 PyProof.Rows.boot_set (pa_cons ha pa_nil na) (he := na)) pa_nil ns1) (he := ns1)) fun σ H Q ⟨c, ρ, d, ρ', R, e, q⟩ => by
    unfold nCall at e
    split at e
    · rename_i xs ρ1 h1
      split at e
      · rename_i z h2
        obtain ⟨e1, e2⟩ := so e
        subst e1 e2
        obtain ⟨x, ρ2, xs', w1, w2, rfl⟩ := ncons_inv h1
        cases w2
        obtain ⟨y, hy, h3⟩ := n1_inv h2
        cases hy
        unfold dSortSetA at h3
        split at h3
        · rename_i ds
          split at h3
          · rename_i ns hns
            split at h3
            · rename_i hlen
              cases h3
              refine ⟨c, ρ, _, ρ1, R, w1, fun v H1 R1 r1 m1 => ?_⟩
              cases r1 with
              | @lst p xs _ l al =>
                have hds := intsOf_map hns
                subst hds
                have hxs := al.ints
                subst hxs
                refine ⟨p, ns, rfl, l.sq, hlen, fun p2 cc hcc hp2 => ?_⟩
                refine ⟨p2, _, cc, rfl, upd_same, by omega, fun ms p3 o1 o2 o3 hp3 => ?_⟩
                have hms : ms = sortI ns := pw_eq o1 (pw_sortI ns) fun k => by rw [o2, mem_sortI]; simp
                subst hms
                have g1 : ∀ a o, H1 a = some o → upd (upd H1 p2 (SetO X.w p2 (fun j => decide (j ∈ ns)) cc)) p3 (.lst ((sortI ns).map V.int)) a = some o := fun b o eb => kp_upd hp3 b o (kp_upd hp2 b o eb)
                have n3 : H1 p3 = none := by
                  cases e3 : H1 p3 with
                  | none => rfl
                  | some o =>
                    have := kp_upd (o := SetO X.w p2 (fun j => decide (j ∈ ns)) cc) hp2 p3 o e3
                    rw [this] at hp3
                    cases hp3
                refine q p3 _ _ (R1.plus n3 g1 (by rw [upd_same]; exact fun z => nomatch z)) upd_same (RpA.ofInts _) (R1.noAv n3) (R1.fresh0 n3) (avOf (K := X.K) m1 n3) (m1.trans (R1.mvG g1))
            · cases h3
          · cases h3
        · cases h3
      · cases e
    · cases e
end
end PG
end
section
set_option Elab.async false
set_option linter.all false
set_option maxRecDepth 100000
namespace PG
open PySem
/-! ### what is wanted of a part, and what it then wants of its own parts -/
def WS (f : SF) (ρ : Rho) (Q : Out → Rho → Prop) : Prop := ∃ o ρ', f ρ = some (o, ρ') ∧ Q o ρ'
def WE (f : EF) (ρ : Rho) (Q : PyData → Rho → Prop) : Prop := ∃ d ρ', f ρ = some (d, ρ') ∧ Q d ρ'
def WN (f : NF) (ρ : Rho) (Q : List PyData → Rho → Prop) : Prop := ∃ d ρ', f ρ = some (d, ρ') ∧ Q d ρ'
def WT (f : TF) (ρ : Rho) (Q : Bool → Rho → Prop) : Prop := ∃ d ρ', f ρ = some (d, ρ') ∧ Q d ρ'
def WO (f : Option EF) (ρ : Rho) (Q : Option Int → Rho → Prop) : Prop := ∃ d ρ', oE f ρ = some (d, ρ') ∧ Q d ρ'
def WG (g : GF) (d : PyData) (ρ : Rho) (Q : Rho → Prop) : Prop := ∃ ρ', g d ρ = some ρ' ∧ Q ρ'
/-- an answer is there, and it is as wanted -/
def WA (x : Option PyData) (Q : PyData → Prop) : Prop := ∃ z, x = some z ∧ Q z
def WL (x : Option (List PyData)) (Q : List PyData → Prop) : Prop := ∃ z, x = some z ∧ Q z
def WP (x : Option (PyData × List PyData)) (Q : PyData → List PyData → Prop) : Prop := ∃ z ps, x = some (z, ps) ∧ Q z ps
def WB (x : Option Bool) (Q : Bool → Prop) : Prop := ∃ z, x = some z ∧ Q z
theorem WA.mono {x : Option PyData} {Q R : PyData → Prop} (h : WA x Q) (k : ∀ z, Q z → R z) : WA x R := let ⟨z, e, q⟩ := h; ⟨z, e, k z q⟩
theorem WL.mono {x : Option (List PyData)} {Q R : List PyData → Prop} (h : WL x Q) (k : ∀ z, Q z → R z) : WL x R := let ⟨z, e, q⟩ := h; ⟨z, e, k z q⟩
theorem WP.mono {x : Option (PyData × List PyData)} {Q R : PyData → List PyData → Prop} (h : WP x Q) (k : ∀ z ps, Q z ps → R z ps) : WP x R := let ⟨z, ps, e, q⟩ := h; ⟨z, ps, e, k z ps q⟩
theorem WS.mono {f : SF} {ρ : Rho} {Q R : Out → Rho → Prop} (h : WS f ρ Q) (k : ∀ o ρ', Q o ρ' → R o ρ') : WS f ρ R := let ⟨o, r, e, q⟩ := h; ⟨o, r, e, k _ _ q⟩
theorem WE.mono {f : EF} {ρ : Rho} {Q R : PyData → Rho → Prop} (h : WE f ρ Q) (k : ∀ o ρ', Q o ρ' → R o ρ') : WE f ρ R := let ⟨o, r, e, q⟩ := h; ⟨o, r, e, k _ _ q⟩
theorem WN.mono {f : NF} {ρ : Rho} {Q R : List PyData → Rho → Prop} (h : WN f ρ Q) (k : ∀ o ρ', Q o ρ' → R o ρ') : WN f ρ R := let ⟨o, r, e, q⟩ := h; ⟨o, r, e, k _ _ q⟩
theorem WT.mono {f : TF} {ρ : Rho} {Q R : Bool → Rho → Prop} (h : WT f ρ Q) (k : ∀ o ρ', Q o ρ' → R o ρ') : WT f ρ R := let ⟨o, r, e, q⟩ := h; ⟨o, r, e, k _ _ q⟩
theorem wa_eq {x : Option PyData} {e : PyData} {Q : PyData → Prop} (h : x = some e) (q : Q e) : WA x Q := ⟨e, h, q⟩
theorem wl_eq {x : Option (List PyData)} {e : List PyData} {Q : List PyData → Prop} (h : x = some e) (q : Q e) : WL x Q := ⟨e, h, q⟩
theorem wp_eq {x : Option (PyData × List PyData)} {e : PyData} {ps : List PyData} {Q : PyData → List PyData → Prop} (h : x = some (e, ps)) (q : Q e ps) : WP x Q := ⟨e, ps, h, q⟩
theorem wb_eq {x : Option Bool} {e : Bool} {Q : Bool → Prop} (h : x = some e) (q : Q e) : WB x Q := ⟨e, h, q⟩
theorem of_wa {x : Option PyData} {e : PyData} (h : WA x (· = e)) : x = some e := by obtain ⟨z, h, rfl⟩ := h; exact h
theorem of_wl {x : Option (List PyData)} {e : List PyData} (h : WL x (· = e)) : x = some e := by obtain ⟨z, h, rfl⟩ := h; exact h

section
variable {ρ : Rho}
/-! slots that are stored -/
def PlainC (x : Option Cell) : Prop := x = none ∨ ∃ d, x = some (.v d)
inductive SetR : Nat → PyData → Rho → Rho → Prop
  | h0 {d : PyData} {r : Rho} : SetR 0 d (none :: r) (some (.v d) :: r)
  | h1 {d x : PyData} {r : Rho} : SetR 0 d (some (.v x) :: r) (some (.v d) :: r)
  | hl {d : PyData} {xs : List PyData} {r : Rho} : SetR 0 d (some (.l false xs) :: r) (some (.v d) :: r)
  | hc {d : PyData} {c : Option Cell} {r : Rho} : PlainC c → SetR 0 d (c :: r) (some (.v d) :: r)
  | s {i : Nat} {d : PyData} {c : Option Cell} {r r' : Rho} : SetR i d r r' → SetR (i + 1) d (c :: r) (c :: r')
inductive SetLR : Nat → List PyData → Rho → Rho → Prop
  | h0 {d : List PyData} {r : Rho} : SetLR 0 d (none :: r) (some (.l false d) :: r)
  | h1 {d : List PyData} {x : PyData} {r : Rho} : SetLR 0 d (some (.v x) :: r) (some (.l false d) :: r)
  | hl {d xs : List PyData} {r : Rho} : SetLR 0 d (some (.l false xs) :: r) (some (.l false d) :: r)
  | s {i : Nat} {d : List PyData} {c : Option Cell} {r r' : Rho} : SetLR i d r r' → SetLR (i + 1) d (c :: r) (c :: r')
/-- an owned list in its slot is another one -/
inductive PutR : Nat → List PyData → Rho → List PyData → Rho → Prop
  | h {p : Bool} {ds ds' : List PyData} {r : Rho} : PutR 0 ds (some (.l p ds) :: r) ds' (some (.l p ds') :: r)
  | s {i : Nat} {ds ds' : List PyData} {c : Option Cell} {r r' : Rho} : PutR i ds r ds' r' → PutR (i + 1) ds (c :: r) ds' (c :: r')
theorem SetR.eq : ∀ {i : Nat} {d : PyData} {r r' : Rho}, SetR i d r r' → setV i d r = some r'
  | _, _, _, _, .h0 => rfl
  | _, _, _, _, .h1 => rfl
  | _, _, _, _, .hl => rfl
  | _, _, _, _, .hc h => by rcases h with rfl | ⟨x, rfl⟩ <;> rfl
  | _, _, _, _, .s (i := i) (c := c) (r := r) h => by
    have := h.eq
    unfold setV at this ⊢
    rw [List.getElem?_cons_succ]
    split at this
    · cases this
    · cases this
    · rename_i x q1 q2
      cases e : r[i]? with
      | none => exact absurd e q1
      | some y =>
        cases y with
        | none => rw [e] at *; simp at this ⊢; exact this
        | some y =>
          cases y with
          | v y => rw [e] at *; simp at this ⊢; exact this
          | l p y =>
            cases p with
            | true => exact absurd e (q2 y)
            | false => rw [e] at *; simp at this ⊢; exact this
theorem SetLR.eq : ∀ {i : Nat} {d : List PyData} {r r' : Rho}, SetLR i d r r' → setL i d r = some r'
  | _, _, _, _, .h0 => rfl
  | _, _, _, _, .h1 => rfl
  | _, _, _, _, .hl => rfl
  | _, _, _, _, .s (i := i) (c := c) (r := r) h => by
    have := h.eq
    unfold setL at this ⊢
    rw [List.getElem?_cons_succ]
    split at this
    · cases this
    · cases this
    · rename_i x q1 q2
      cases e : r[i]? with
      | none => exact absurd e q1
      | some y =>
        cases y with
        | none => rw [e] at *; simp at this ⊢; exact this
        | some y =>
          cases y with
          | v y => rw [e] at *; simp at this ⊢; exact this
          | l p y =>
            cases p with
            | true => exact absurd e (q2 y)
            | false => rw [e] at *; simp at this ⊢; exact this
theorem PutR.get {i : Nat} {ds ds' : List PyData} {r r' : Rho} (h : PutR i ds r ds' r') : ∃ p, r[i]? = some (some (.l p ds)) ∧ r.set i (some (.l p ds')) = r' := by
  induction h with
  | h => exact ⟨_, rfl, rfl⟩
  | s h ih =>
    obtain ⟨p, e1, e2⟩ := ih
    exact ⟨p, by rw [List.getElem?_cons_succ]; exact e1, by rw [List.set_cons_succ, e2]⟩

/-! expressions -/
variable {Q : PyData → Rho → Prop} {f g h : EF} {n m : NF} {t u : TF}
theorem we_name {i : Nat} {d : PyData} (hget : ρ[i]? = some (some (.v d))) (q : Q d ρ) : WE (eName i) ρ Q := ⟨d, ρ, by simp [hget], q⟩
theorem we_frz {i : Nat} {ds : List PyData} {ρ' : Rho} (hget : ρ[i]? = some (some (.l false ds))) (hset : SetR i (.list ds) ρ ρ') (q : Q (.list ds) ρ') : WE (eFrz i) ρ Q := by
  refine ⟨.list ds, ρ', ?_, q⟩
  have := hset.eq
  simp only [setV, hget, Option.some.injEq] at this
  simp [hget, this]
theorem we_c {d : PyData} (q : Q d ρ) : WE (eC d) ρ Q := ⟨d, ρ, rfl, q⟩
theorem we_un {o : PyData → Option PyData} (w : WE f ρ fun x ρ1 => WA (o x) fun z => Q z ρ1) : WE (eUn o f) ρ Q := by
  obtain ⟨x, r, e, z, e2, q⟩ := w
  exact ⟨z, r, by simp [e, e2], q⟩
theorem we_bin {o : PyData → PyData → Option PyData} (w : WE f ρ fun x ρ1 => WE g ρ1 fun y ρ2 => WA (o x y) fun z => Q z ρ2) : WE (eBin o f g) ρ Q := by
  obtain ⟨x, r, e, y, r2, e2, z, e3, q⟩ := w
  exact ⟨z, r2, by simp [e, e2, e3], q⟩
theorem we_if (w : WT t ρ fun b ρ1 => (b = true → WE f ρ1 Q) ∧ (b = false → WE g ρ1 Q)) : WE (eIf t f g) ρ Q := by
  obtain ⟨b, r, e, q1, q2⟩ := w
  cases b with
  | true => obtain ⟨z, r2, e2, q⟩ := q1 rfl; exact ⟨z, r2, by simp [e, e2], q⟩
  | false => obtain ⟨z, r2, e2, q⟩ := q2 rfl; exact ⟨z, r2, by simp [e, e2], q⟩
theorem we_tup (w : WN n ρ fun xs ρ1 => xs.length ≤ 16777216 ∧ Q (.tuple xs) ρ1) : WE (eTup n) ρ Q := by
  obtain ⟨x, r, e, z, q⟩ := w
  exact ⟨_, r, by simp [e, z], q⟩
theorem we_lst (w : WN n ρ fun xs ρ1 => Q (.list xs) ρ1) : WE (eLst n) ρ Q := by
  obtain ⟨x, r, e, q⟩ := w
  exact ⟨_, r, by simp [e], q⟩
theorem we_call {F : List PyData → Option PyData} (w : WN n ρ fun xs ρ1 => WA (F xs) fun z => Q z ρ1) : WE (eCall F n) ρ Q := by
  obtain ⟨x, r, e, z, e2, q⟩ := w
  exact ⟨z, r, by simp [e, e2], q⟩
theorem PutR.uniq {i : Nat} {ds ds' : List PyData} {r r' : Rho} {p : Bool} {es : List PyData} (h : PutR i ds r ds' r') (e : r[i]? = some (some (.l p es))) : es = ds ∧ r.set i (some (.l p ds')) = r' := by
  obtain ⟨q, e1, e2⟩ := h.get
  rw [e1] at e
  cases e
  exact ⟨rfl, e2⟩
theorem we_callL {F : List PyData → List PyData → Option (PyData × List PyData)} {i : Nat} {p0 : Bool} {ps0 : List PyData} (hget : ρ[i]? = some (some (.l p0 ps0)))
    (w : WN n ρ fun xs ρ1 => ∃ p ps, ρ1[i]? = some (some (.l p ps)) ∧ WP (F ps xs) fun z ps' => ∃ ρ2, PutR i ps ρ1 ps' ρ2 ∧ Q z ρ2) : WE (eCallL F i n) ρ Q := by
  obtain ⟨x, r, e, p, ps, h1, z, ps', e2, r2, hp, q⟩ := w
  refine ⟨z, r2, ?_, q⟩
  simp [hget, e, h1, e2, (hp.uniq h1).2]
theorem wn_callL {F : List PyData → List PyData → Option (List PyData × List PyData)} {i : Nat} {p0 : Bool} {ps0 : List PyData} {R : List PyData → Rho → Prop} (hget : ρ[i]? = some (some (.l p0 ps0)))
    (w : WN n ρ fun xs ρ1 => ∃ p ps, ρ1[i]? = some (some (.l p ps)) ∧ ∃ z ps', F ps xs = some (z, ps') ∧ ∃ ρ2, PutR i ps ρ1 ps' ρ2 ∧ R z ρ2) : WN (nCallL F i n) ρ R := by
  obtain ⟨x, r, e, p, ps, h1, z, ps', e2, r2, hp, q⟩ := w
  refine ⟨z, r2, ?_, q⟩
  simp [hget, e, h1, e2, (hp.uniq h1).2]
theorem we_ixL {o : PyData → PyData → Option PyData} {i : Nat} {p0 : Bool} {ps0 : List PyData} (hget : ρ[i]? = some (some (.l p0 ps0))) (w : WE g ρ fun y ρ1 => ∃ p ps, ρ1[i]? = some (some (.l p ps)) ∧ WA (o (.list ps) y) fun z => Q z ρ1) : WE (eIxL o i g) ρ Q := by
  obtain ⟨x, r, e, p, ps, h1, z, e2, q⟩ := w
  exact ⟨z, r, by simp [hget, e, h1, e2], q⟩
theorem we_unL {o : PyData → Option PyData} {i : Nat} {p0 : Bool} {ps0 : List PyData} (hget : ρ[i]? = some (some (.l p0 ps0))) (w : WA (o (.list ps0)) fun z => Q z ρ) : WE (eUnL o i) ρ Q := by
  obtain ⟨z, e2, q⟩ := w
  exact ⟨z, ρ, by simp [hget, e2], q⟩
theorem we_and (w : WE f ρ fun x ρ1 => WB (truth x) fun b => (b = true → WE g ρ1 Q) ∧ (b = false → Q x ρ1)) : WE (eAnd f g) ρ Q := by
  obtain ⟨x, r, e, b, e2, q1, q2⟩ := w
  cases b with
  | true => obtain ⟨z, r2, e3, q⟩ := q1 rfl; exact ⟨z, r2, by simp [-truth, e, e2, e3], q⟩
  | false => exact ⟨x, r, by simp [-truth, e, e2], q2 rfl⟩
theorem we_or (w : WE f ρ fun x ρ1 => WB (truth x) fun b => (b = true → Q x ρ1) ∧ (b = false → WE g ρ1 Q)) : WE (eOr f g) ρ Q := by
  obtain ⟨x, r, e, b, e2, q1, q2⟩ := w
  cases b with
  | true => exact ⟨x, r, by simp [-truth, e, e2], q1 rfl⟩
  | false => obtain ⟨z, r2, e3, q⟩ := q2 rfl; exact ⟨z, r2, by simp [-truth, e, e2, e3], q⟩
theorem we_not (w : WE f ρ fun x ρ1 => WB (truth x) fun b => Q (.bool (!b)) ρ1) : WE (eNot f) ρ Q := by
  obtain ⟨x, r, e, b, e2, q⟩ := w
  exact ⟨_, r, by simp [-truth, e, e2], q⟩
theorem we_chain {o o' : PyData → PyData → Option PyData} (w : WE f ρ fun x ρ1 => WE g ρ1 fun y ρ2 => ∃ b, o x y = some (.bool b) ∧ (b = true → WE h ρ2 fun z ρ3 => ∃ c, o' y z = some (.bool c) ∧ Q (.bool c) ρ3) ∧ (b = false → Q (.bool false) ρ2)) : WE (eChain o o' f g h) ρ Q := by
  obtain ⟨x, r, e, y, r2, e2, b, e3, q1, q2⟩ := w
  cases b with
  | true => obtain ⟨z, r3, e4, c, e5, q⟩ := q1 rfl; exact ⟨_, r3, by simp [e, e2, e3, e4, e5], q⟩
  | false => exact ⟨_, r2, by simp [e, e2, e3], q2 rfl⟩
theorem we_slT {lo hi : Option EF} (w : WE f ρ fun x ρ1 => ∃ xs, x = .tuple xs ∧ WO lo ρ1 fun l ρ2 => WO hi ρ2 fun u ρ3 => Q (.tuple (cutD xs l u)) ρ3) : WE (eSlT f lo hi) ρ Q := by
  obtain ⟨x, r, e, xs, rfl, l, r2, e2, u, r3, e3, q⟩ := w
  exact ⟨_, r3, by simp [-oE, e, e2, e3], q⟩
theorem wo_none {Q : Option Int → Rho → Prop} (q : Q none ρ) : WO none ρ Q := ⟨_, _, rfl, q⟩
theorem wo_some {Q : Option Int → Rho → Prop} (w : WE f ρ fun x ρ1 => ∃ i, x = .int i ∧ Q (some i) ρ1) : WO (some f) ρ Q := by
  obtain ⟨x, r, e, i, rfl, q⟩ := w
  exact ⟨_, r, by simp [e], q⟩
/-! argument lists, new lists -/
variable {R : List PyData → Rho → Prop}
theorem wn_nil (q : R [] ρ) : WN nNil ρ R := ⟨_, _, rfl, q⟩
theorem wn_cons (w : WE f ρ fun x ρ1 => WN n ρ1 fun xs ρ2 => R (x :: xs) ρ2) : WN (nCons f n) ρ R := by
  obtain ⟨x, r, e, xs, r2, e2, q⟩ := w
  exact ⟨_, r2, by simp [e, e2], q⟩
theorem wn_star (w : WE f ρ fun x ρ1 => ∃ xs, (x = .list xs ∨ x = .tuple xs) ∧ WN n ρ1 fun ys ρ2 => R (xs ++ ys) ρ2) : WN (nStar f n) ρ R := by
  obtain ⟨x, r, e, xs, hx, ys, r2, e2, q⟩ := w
  refine ⟨_, r2, ?_, q⟩
  rcases hx with rfl | rfl <;> simp [e, e2]
theorem wn_disp (w : WN n ρ fun xs ρ1 => xs.length ≤ 16777216 ∧ R xs ρ1) : WN (nDisp n) ρ R := by
  obtain ⟨x, r, e, z, q⟩ := w
  exact ⟨_, r, by simp [e, z], q⟩
theorem wn_call {F : List PyData → Option (List PyData)} (w : WN n ρ fun xs ρ1 => WL (F xs) fun z => R z ρ1) : WN (nCall F n) ρ R := by
  obtain ⟨x, r, e, z, e2, q⟩ := w
  exact ⟨z, r, by simp [e, e2], q⟩
theorem wn_sl {lo hi : Option EF} (w : WE f ρ fun x ρ1 => ∃ xs, (x = .list xs ∨ x = RO xs) ∧ WO lo ρ1 fun l ρ2 => WO hi ρ2 fun u ρ3 => R (cutD xs l u) ρ3) : WN (nSl f lo hi) ρ R := by
  obtain ⟨x, r, e, xs, hx, l, r2, e2, u, r3, e3, q⟩ := w
  refine ⟨_, r3, ?_, q⟩
  rcases hx with rfl | rfl <;> simp [-oE, RO, e, e2, e3]
theorem wn_its (w : WE f ρ fun x ρ1 => ∃ xs, (x = .list xs ∨ x = .tuple xs ∨ x = RO xs) ∧ R xs ρ1) : WN (itS f) ρ R := by
  obtain ⟨x, r, e, xs, hx, q⟩ := w
  refine ⟨_, r, ?_, q⟩
  rcases hx with rfl | rfl | rfl <;> simp [RO, e]
theorem wn_r1 (w : WN n ρ fun xs ρ1 => ∃ j, xs = [.int j] ∧ in62 j = true ∧ R (rng 0 j.toNat) ρ1) : WN (itR1 n) ρ R := by
  obtain ⟨x, r, e, j, rfl, e2, q⟩ := w
  exact ⟨_, r, by simp [itR1, e, e2], q⟩
theorem wn_r2 (w : WN n ρ fun xs ρ1 => ∃ i j, xs = [.int i, .int j] ∧ in62 i = true ∧ in62 j = true ∧ R (rng i (j - i).toNat) ρ1) : WN (itR2 n) ρ R := by
  obtain ⟨x, r, e, i, j, rfl, e2, e3, q⟩ := w
  exact ⟨_, r, by simp [itR2, e, e2, e3], q⟩
theorem wn_r3 (w : WN n ρ fun xs ρ1 => ∃ j, xs = [.int 0, .int j, .int 2] ∧ 0 ≤ j ∧ j ≤ 16777216 ∧ R (stp 2 ((j + 1) / 2).toNat) ρ1) : WN (itR3 n) ρ R := by
  obtain ⟨x, r, e, j, rfl, e2, e3, q⟩ := w
  exact ⟨_, r, by simp [itR3, e, e2, e3], q⟩
/-! tests -/
variable {P : Bool → Rho → Prop}
theorem wt_tru (w : WE f ρ fun x ρ1 => WB (truth x) fun b => P b ρ1) : WT (tTru f) ρ P := by
  obtain ⟨x, r, e, b, e2, q⟩ := w
  exact ⟨b, r, by simp [-truth, e, e2], q⟩
theorem wt_bl (w : WE f ρ fun x ρ1 => ∃ b, x = .bool b ∧ P b ρ1) : WT (tBl f) ρ P := by
  obtain ⟨x, r, e, b, rfl, q⟩ := w
  exact ⟨b, r, by simp [e], q⟩
theorem wt_truL {i : Nat} {p : Bool} {ds : List PyData} (hget : ρ[i]? = some (some (.l p ds))) (q : P (!ds.isEmpty) ρ) : WT (tTruL i) ρ P := ⟨_, ρ, by simp [hget], q⟩
theorem wt_and (w : WT t ρ fun b ρ1 => (b = true → WT u ρ1 P) ∧ (b = false → P false ρ1)) : WT (tAnd' t u) ρ P := by
  obtain ⟨b, r, e, q1, q2⟩ := w
  cases b with
  | true => obtain ⟨z, r2, e2, q⟩ := q1 rfl; exact ⟨z, r2, by simp [e, e2], q⟩
  | false => exact ⟨_, r, by simp [e], q2 rfl⟩
theorem wt_or (w : WT t ρ fun b ρ1 => (b = true → P true ρ1) ∧ (b = false → WT u ρ1 P)) : WT (tOr' t u) ρ P := by
  obtain ⟨b, r, e, q1, q2⟩ := w
  cases b with
  | false => obtain ⟨z, r2, e2, q⟩ := q2 rfl; exact ⟨z, r2, by simp [e, e2], q⟩
  | true => exact ⟨_, r, by simp [e], q1 rfl⟩
theorem wt_not (w : WT t ρ fun b ρ1 => P (!b) ρ1) : WT (tNot' t) ρ P := by
  obtain ⟨b, r, e, q⟩ := w
  exact ⟨_, r, by simp [e], q⟩
theorem wt_yes (q : P true ρ) : WT tYesF ρ P := ⟨_, _, rfl, q⟩
/-! statements -/
variable {S : Out → Rho → Prop} {a b c : SF}
theorem ws_asc (w : WS (sSeq a (sSeq b c)) ρ S) : WS (sSeq (sSeq a b) c) ρ S := by
  obtain ⟨o, r, e, q⟩ := w
  refine ⟨o, r, ?_, q⟩
  simp only [sSeq] at e ⊢
  cases h : a ρ with
  | none => rw [h] at e; cases e
  | some x =>
    obtain ⟨oa, ra⟩ := x
    rw [h] at e
    cases oa <;> exact e
theorem ws_nilc (w : WS c ρ S) : WS (sSeq sNil c) ρ S := by
  obtain ⟨o, r, e, q⟩ := w
  exact ⟨o, r, by simpa using e, q⟩
theorem ws_nil (q : S .next ρ) : WS sNil ρ S := ⟨_, _, rfl, q⟩
theorem ws_set {i : Nat} (w : WE f ρ fun d ρ1 => ∃ ρ2, SetR i d ρ1 ρ2 ∧ WS c ρ2 S) : WS (sSeq (sSet i f) c) ρ S := by
  obtain ⟨d, r, e, r2, s, o, r3, e3, q⟩ := w
  exact ⟨o, r3, by simp [-setV, e, s.eq, e3], q⟩
theorem ws_setL {i : Nat} (w : WN n ρ fun d ρ1 => ∃ ρ2, SetLR i d ρ1 ρ2 ∧ WS c ρ2 S) : WS (sSeq (sSetL i n) c) ρ S := by
  obtain ⟨d, r, e, r2, s, o, r3, e3, q⟩ := w
  exact ⟨o, r3, by simp [-setL, e, s.eq, e3], q⟩
theorem ws_if (w : WT t ρ fun x ρ1 => (x = true → WS (sSeq a c) ρ1 S) ∧ (x = false → WS (sSeq b c) ρ1 S)) : WS (sSeq (sIf t a b) c) ρ S := by
  obtain ⟨x, r, e, q1, q2⟩ := w
  cases x with
  | true => obtain ⟨o, r2, e2, q⟩ := q1 rfl; exact ⟨o, r2, by simp only [sSeq, sIf, e] at e2 ⊢; exact e2, q⟩
  | false => obtain ⟨o, r2, e2, q⟩ := q2 rfl; exact ⟨o, r2, by simp only [sSeq, sIf, e] at e2 ⊢; exact e2, q⟩
theorem ws_ret (w : WE f ρ fun d ρ1 => S (.ret d) ρ1) : WS (sSeq (sRet f) c) ρ S := by
  obtain ⟨d, r, e, q⟩ := w
  exact ⟨_, r, by simp [e], q⟩
theorem ws_retL (w : WN n ρ fun d ρ1 => S (.retL d) ρ1) : WS (sSeq (sRetL n) c) ρ S := by
  obtain ⟨d, r, e, q⟩ := w
  exact ⟨_, r, by simp [e], q⟩
theorem ws_retO {i : Nat} {ds : List PyData} (hget : ρ[i]? = some (some (.l false ds))) (q : S (.retL ds) ρ) : WS (sSeq (sRetO i) c) ρ S := ⟨_, ρ, by simp [hget], q⟩
theorem ws_expr (w : WE f ρ fun d ρ1 => WS c ρ1 S) : WS (sSeq (sExpr f) c) ρ S := by
  obtain ⟨d, r, e, o, r2, e2, q⟩ := w
  exact ⟨o, r2, by simp [e, e2], q⟩
theorem ws_brk (q : S .brk ρ) : WS (sSeq sBrk c) ρ S := ⟨_, ρ, rfl, q⟩
theorem ws_cont (q : S .cont ρ) : WS (sSeq sCont c) ρ S := ⟨_, ρ, rfl, q⟩
theorem ws_app {i : Nat} {p0 : Bool} {ps0 : List PyData} (hget : ρ[i]? = some (some (.l p0 ps0))) (w : WE f ρ fun d ρ1 => ∃ ds, ds.length < 16777216 ∧ ∃ ρ2, PutR i ds ρ1 (ds ++ [d]) ρ2 ∧ WS c ρ2 S) : WS (sSeq (sApp i f) c) ρ S := by
  obtain ⟨d, r, e, ds, z, r2, s, o, r3, e3, q⟩ := w
  obtain ⟨p, g1, g2⟩ := s.get
  exact ⟨o, r3, by simp [hget, e, g1, z, g2, e3], q⟩
theorem ws_sto {i : Nat} (w : WE f ρ fun d ρ1 => ∃ p0 ps0, ρ1[i]? = some (some (.l p0 ps0)) ∧ WE g ρ1 fun k ρ2 => ∃ kk j ds, k = .int kk ∧ ixOf ds.length kk = some j ∧ ∃ ρ3, PutR i ds ρ2 (ds.set j d) ρ3 ∧ WS c ρ3 S) : WS (sSeq (sSto i g f) c) ρ S := by
  obtain ⟨d, r, e, p0, ps0, h1, k, r2, e2, kk, j, ds, rfl, ej, r3, s, o, r4, e4, q⟩ := w
  obtain ⟨p, g1, g2⟩ := s.get
  exact ⟨o, r4, by simp [e, h1, e2, g1, ej, g2, e4], q⟩
theorem ws_for {it : NF} {g : GF} (w : WN it ρ fun ds ρ1 => WS (sSeq (forL g b ds) c) ρ1 S) : WS (sSeq (sFor it g b) c) ρ S := by
  obtain ⟨ds, r, e, o, r2, e2, q⟩ := w
  exact ⟨o, r2, by simp only [sSeq, sFor, e] at e2 ⊢; exact e2, q⟩
theorem ws_asg {g : GF} (w : WE f ρ fun d ρ1 => WG g d ρ1 fun ρ2 => WS c ρ2 S) : WS (sSeq (sAsg f g) c) ρ S := by
  obtain ⟨d, r, e, r2, e2, o, r3, e3, q⟩ := w
  exact ⟨o, r3, by simp [e, e2, e3], q⟩
theorem ws_par {is : List Nat} (w : WN n ρ fun ds ρ1 => WG (fun _ => gPairs is ds) .none ρ1 fun ρ2 => WS c ρ2 S) : WS (sSeq (sPar is n) c) ρ S := by
  obtain ⟨d, r, e, r2, e2, o, r3, e3, q⟩ := w
  exact ⟨o, r3, by simp [e, e2, e3], q⟩
theorem ws_aug {i : Nat} {o : PyData → PyData → Option PyData} {x : PyData} (hget : ρ[i]? = some (some (.v x))) (w : WE f ρ fun y ρ1 => WA (o x y) fun z => ∃ ρ2, SetR i z ρ1 ρ2 ∧ WS c ρ2 S) : WS (sSeq (sAug i o f) c) ρ S := by
  obtain ⟨d, r, e, z, e2, r2, s, o, r3, e3, q⟩ := w
  exact ⟨o, r3, by simp [-setV, hget, e, e2, s.eq, e3], q⟩
/-! targets -/
variable {T : Rho → Prop}
theorem wg_set {i : Nat} {d : PyData} {ρ' : Rho} (hset : SetR i d ρ ρ') (q : T ρ') : WG (gSet i) d ρ T := ⟨_, hset.eq, q⟩
theorem wg_tup {is : List Nat} {ds : List PyData} (w : WG (fun _ => gPairs is ds) .none ρ T) : WG (gTupS is) (.tuple ds) ρ T := by
  obtain ⟨r, e, q⟩ := w
  exact ⟨r, by simpa using e, q⟩
theorem wg_p0 {x : PyData} (q : T ρ) : WG (fun _ => gPairs [] []) x ρ T := ⟨ρ, rfl, q⟩
theorem wg_ps {i : Nat} {is : List Nat} {d x : PyData} {ds : List PyData} {ρ' : Rho} (hset : SetR i d ρ ρ') (w : WG (fun _ => gPairs is ds) x ρ' T) : WG (fun _ => gPairs (i :: is) (d :: ds)) x ρ T := by
  obtain ⟨r, e, q⟩ := w
  exact ⟨r, by simp only [gPairs, hset.eq]; exact e, q⟩
/-! the loop over known items -/
theorem ws_forn {g : GF} (w : WS c ρ S) : WS (sSeq (forL g b []) c) ρ S := by
  obtain ⟨o, r, e, q⟩ := w
  exact ⟨o, r, by simpa [forL] using e, q⟩
/-- behind one turn -/
def Turn (g : GF) (b c : SF) (ds : List PyData) (S : Out → Rho → Prop) : Out → Rho → Prop
  | .next, ρ => WS (sSeq (forL g b ds) c) ρ S
  | .cont, ρ => WS (sSeq (forL g b ds) c) ρ S
  | .brk, ρ => WS c ρ S
  | o, ρ => S o ρ
theorem ws_forc {g : GF} {d : PyData} {ds : List PyData} (w : WG g d ρ fun ρ1 => WS b ρ1 (Turn g b c ds S)) : WS (sSeq (forL g b (d :: ds)) c) ρ S := by
  obtain ⟨r, e, o, r2, e2, q⟩ := w
  cases o with
  | next => obtain ⟨o, r3, e3, q⟩ := q; exact ⟨o, r3, by simp only [sSeq, forL, e, e2] at e3 ⊢; exact e3, q⟩
  | cont => obtain ⟨o, r3, e3, q⟩ := q; exact ⟨o, r3, by simp only [sSeq, forL, e, e2] at e3 ⊢; exact e3, q⟩
  | brk => obtain ⟨o, r3, e3, q⟩ := q; exact ⟨o, r3, by simp only [sSeq, forL, e, e2] at e3 ⊢; exact e3, q⟩
  | ret d => exact ⟨_, r2, by simp only [sSeq, forL, e, e2], q⟩
  | retL d => exact ⟨_, r2, by simp only [sSeq, forL, e, e2], q⟩
/-- the loop by an invariant: what is left, the state -/
theorem ws_inv {g : GF} (I : List PyData → Rho → Prop) : ∀ (ds : List PyData) (ρ : Rho), I ds ρ →
    (∀ d r ρ, I (d :: r) ρ → WG g d ρ fun ρ1 => WS b ρ1 fun o ρ2 => match o with
      | .next => I r ρ2
      | .cont => I r ρ2
      | .brk => WS c ρ2 S
      | o => S o ρ2) → (∀ ρ, I [] ρ → WS c ρ S) → WS (sSeq (forL g b ds) c) ρ S
  | [], ρ, h, _, hd => ws_forn (hd ρ h)
  | d :: r, ρ, h, hs, hd => by
    obtain ⟨r1, e1, o, r2, e2, q⟩ := hs d r ρ h
    refine ws_forc ⟨r1, e1, o, r2, e2, ?_⟩
    cases o with
    | next => exact ws_inv I r r2 q hs hd
    | cont => exact ws_inv I r r2 q hs hd
    | brk => exact q
    | ret d => exact q
    | retL d => exact q
/-! comprehensions -/
/-- a comprehension by an invariant: what is left, what is made, the state; its own slots are empty ahead of it -/
theorem wn_compI {it : NF} {g : GF} {e : EF} {vs : List Nat} (I : List PyData → List PyData → Rho → Prop)
    (w : WN it ρ fun ds ρ1 => plainAt ρ1 vs = true ∧ I ds [] (wipeR ρ1 vs) ∧
      (∀ d r acc ρ2, I (d :: r) acc ρ2 → WG g d ρ2 fun ρ3 => WT t ρ3 fun b ρ4 => (b = true → WE e ρ4 fun y ρ5 => plainAt ρ5 vs = true ∧ acc.length < 16777216 ∧ I r (acc ++ [y]) (wipeR ρ5 vs)) ∧ (b = false → plainAt ρ4 vs = true ∧ I r acc (wipeR ρ4 vs))) ∧
      ∀ acc ρ2, I [] acc ρ2 → R acc (restR ρ1 ρ2 vs)) : WN (nComp it g t e vs) ρ R := by
  obtain ⟨ds, r1, e1, hp, h0, hs, hd⟩ := w
  have key : ∀ (ds acc : List PyData) (ρ2 : Rho), I ds acc ρ2 → ∃ acc' ρ3, compL g t e vs ds acc ρ2 = some (acc', ρ3) ∧ I [] acc' ρ3 := by
    intro ds
    induction ds with
    | nil => intro acc ρ2 h; exact ⟨acc, ρ2, rfl, h⟩
    | cons d r ih =>
      intro acc ρ2 h
      obtain ⟨r3, f3, b, r4, f4, q1, q2⟩ := hs d r acc ρ2 h
      cases b with
      | true =>
        obtain ⟨y, r5, f5, p5, l5, i5⟩ := q1 rfl
        obtain ⟨acc', r6, f6, i6⟩ := ih _ _ i5
        exact ⟨acc', r6, by rw [compL]; simp [f3, f4, f5, p5, l5, f6], i6⟩
      | false =>
        obtain ⟨p5, i5⟩ := q2 rfl
        obtain ⟨acc', r6, f6, i6⟩ := ih _ _ i5
        exact ⟨acc', r6, by rw [compL]; simp [f3, f4, p5, f6], i6⟩
  obtain ⟨acc', r3, e3, i3⟩ := key ds [] _ h0
  exact ⟨acc', _, by unfold nComp; simp only [e1, hp, if_true, e3], hd acc' r3 i3⟩
/-- one that changes nothing: an item x is kept if k x, and gives m x; its own slots are empty ahead of it -/
theorem wn_map {it : NF} {g : GF} {e : EF} {vs : List Nat} {α : Type} (en : α → PyData) (k : α → Bool) (m : α → PyData) (l : List α)
    (w : WN it ρ fun ds ρ1 => ds = l.map en ∧ l.length ≤ 16777216 ∧ plainAt ρ1 vs = true ∧
      (∀ x ∈ l, WG g (en x) (wipeR ρ1 vs) fun ρ3 => WT t ρ3 fun b ρ4 => b = k x ∧ (k x = true → WE e ρ4 fun y ρ5 => y = m x ∧ plainAt ρ5 vs = true ∧ wipeR ρ5 vs = wipeR ρ1 vs) ∧ (k x = false → plainAt ρ4 vs = true ∧ wipeR ρ4 vs = wipeR ρ1 vs)) ∧
      R ((l.filter k).map m) (restR ρ1 (wipeR ρ1 vs) vs)) : WN (nComp it g t e vs) ρ R := by
  obtain ⟨ds, r1, e1, rfl, hl, hp, hx, hd⟩ := w
  refine wn_compI (fun ds acc ρ2 => ∃ l2 l1, l = l1 ++ l2 ∧ ds = l2.map en ∧ acc = (l1.filter k).map m ∧ ρ2 = wipeR r1 vs) ⟨_, r1, e1, hp, ⟨l, [], rfl, rfl, rfl, rfl⟩, ?_, ?_⟩
  · rintro d r acc ρ2 ⟨l2, l1, el, ed, rfl, rfl⟩
    cases l2 with
    | nil => cases ed
    | cons x l2 =>
      simp only [List.map_cons, List.cons.injEq] at ed
      obtain ⟨rfl, rfl⟩ := ed
      obtain ⟨r3, f3, b, r4, f4, hb, q1, q2⟩ := hx x (by rw [el]; simp)
      refine ⟨r3, f3, b, r4, f4, fun hb1 => ?_, fun hb1 => ?_⟩
      · rw [hb] at hb1
        obtain ⟨y, r5, f5, rfl, p5, w5⟩ := q1 hb1
        refine ⟨_, r5, f5, p5, ?_, l2, l1 ++ [x], by simp [el], rfl, by simp [hb1], w5⟩
        have h1 := List.length_filter_le k l1
        have h2 : l1.length + (l2.length + 1) = l.length := by rw [el]; simp
        simp only [List.length_map]
        omega
      · rw [hb] at hb1
        obtain ⟨p5, w5⟩ := q2 hb1
        exact ⟨p5, l2, l1 ++ [x], by simp [el], rfl, by simp [hb1], w5⟩
  · rintro acc ρ2 ⟨l2, l1, el, ed, rfl, rfl⟩
    have : l2 = [] := by cases l2 with
      | nil => rfl
      | cons _ _ => cases ed
    subst this
    rw [List.append_nil] at el
    subst el
    exact hd
/-- one whose parts change nothing but its own slots: each item is kept if c, and gives m -/
theorem wn_comp {it : NF} {g : GF} {e : EF} {vs : List Nat} {α : Type} (en : α → PyData) (k : α → Bool) (m : α → PyData)
    (w : WN it ρ fun ds ρ1 => ∃ l : List α, ds = l.map en ∧ l.length ≤ 16777216 ∧ plainAt ρ1 vs = true ∧
      (∀ x ∈ l, ∃ ρ2, g (en x) (wipeR ρ1 vs) = some ρ2 ∧ t ρ2 = some (k x, ρ2) ∧ (k x = true → e ρ2 = some (m x, ρ2)) ∧ plainAt ρ2 vs = true ∧ wipeR ρ2 vs = wipeR ρ1 vs) ∧
      restR ρ1 (wipeR ρ1 vs) vs = ρ1 ∧ R ((l.filter k).map m) ρ1) : WN (nComp it g t e vs) ρ R := by
  obtain ⟨ds, r1, e1, l, rfl, hl, hp, hx, hr, q⟩ := w
  refine ⟨_, r1, ?_, q⟩
  have key : ∀ (l : List α) (acc : List PyData), acc.length + l.length ≤ 16777216 → (∀ x ∈ l, ∃ ρ2, g (en x) (wipeR r1 vs) = some ρ2 ∧ t ρ2 = some (k x, ρ2) ∧ (k x = true → e ρ2 = some (m x, ρ2)) ∧ plainAt ρ2 vs = true ∧ wipeR ρ2 vs = wipeR r1 vs) →
      compL g t e vs (l.map en) acc (wipeR r1 vs) = some (acc ++ (l.filter k).map m, wipeR r1 vs) := by
    intro l
    induction l with
    | nil => intro acc _ _; simp [compL]
    | cons x l ih =>
      intro acc ha hx
      obtain ⟨r2, f1, f2, f3, f4, f5⟩ := hx x (by simp)
      simp only [List.length_cons] at ha
      cases hk : k x with
      | false => rw [List.map_cons, compL]; simp [f1, f2, hk, f4, f5, ih acc (by omega) fun y hy => hx y (by simp [hy])]
      | true =>
        have := ih (acc ++ [m x]) (by simp; omega) fun y hy => hx y (by simp [hy])
        have hlt : acc.length < 16777216 := by omega
        rw [List.map_cons, compL]; simp [f1, f2, hk, f3 hk, f4, f5, this, hlt]
  have := key l [] (by simpa using hl) hx
  unfold nComp
  simp only [e1, hp, if_true, this, hr, List.nil_append]
end

theorem setr_i {i : Nat} {d : PyData} {ρ ρ' : Rho} {P : Rho → Prop} (hset : SetR i d ρ ρ') (q : P ρ') : ∃ ρ2, SetR i d ρ ρ2 ∧ P ρ2 := ⟨_, hset, q⟩
theorem setl_i {i : Nat} {d : List PyData} {ρ ρ' : Rho} {P : Rho → Prop} (hset : SetLR i d ρ ρ') (q : P ρ') : ∃ ρ2, SetLR i d ρ ρ2 ∧ P ρ2 := ⟨_, hset, q⟩
theorem put_i {i : Nat} {ds ds' : List PyData} {ρ ρ' : Rho} {P : Rho → Prop} (hset : PutR i ds ρ ds' ρ') (q : P ρ') : ∃ ρ2, PutR i ds ρ ds' ρ2 ∧ P ρ2 := ⟨_, hset, q⟩
theorem pool_i {ρ : Rho} {i : Nat} {p : Bool} {ps : List PyData} {P : List PyData → Prop} (hget : ρ[i]? = some (some (.l p ps))) (q : P ps) : ∃ p ps, ρ[i]? = some (some (.l p ps)) ∧ P ps := ⟨_, _, hget, q⟩
theorem bool_i {b : Bool} {P : Bool → Prop} (q : P b) : ∃ c, PyData.bool b = .bool c ∧ P c := ⟨_, rfl, q⟩
theorem int_i {b : Int} {P : Int → Prop} (q : P b) : ∃ c, PyData.int b = .int c ∧ P c := ⟨_, rfl, q⟩
theorem r1_i {j : Int} {P : Int → Prop} (h : in62 j = true) (q : P j) : ∃ i, [PyData.int j] = [.int i] ∧ in62 i = true ∧ P i := ⟨_, rfl, h, q⟩
theorem r2_i {j k : Int} {P : Int → Int → Prop} (h : in62 j = true) (h2 : in62 k = true) (q : P j k) : ∃ i l, [PyData.int j, PyData.int k] = [.int i, .int l] ∧ in62 i = true ∧ in62 l = true ∧ P i l := ⟨_, _, rfl, h, h2, q⟩
theorem seqL_i {xs : List PyData} {P : List PyData → Prop} (q : P xs) : ∃ ys, (PyData.list xs = .list ys ∨ PyData.list xs = .tuple ys ∨ PyData.list xs = RO ys) ∧ P ys := ⟨_, .inl rfl, q⟩
theorem seqT_i {xs : List PyData} {P : List PyData → Prop} (q : P xs) : ∃ ys, (PyData.tuple xs = .list ys ∨ PyData.tuple xs = .tuple ys ∨ PyData.tuple xs = RO ys) ∧ P ys := ⟨_, .inr (.inl rfl), q⟩
theorem seqR_i {xs : List PyData} {P : List PyData → Prop} (q : P xs) : ∃ ys, (RO xs = .list ys ∨ RO xs = .tuple ys ∨ RO xs = RO ys) ∧ P ys := ⟨_, .inr (.inr rfl), q⟩
theorem starT_i {xs : List PyData} {P : List PyData → Prop} (q : P xs) : ∃ ys, (PyData.tuple xs = .list ys ∨ PyData.tuple xs = .tuple ys) ∧ P ys := ⟨_, .inr rfl, q⟩
theorem starL_i {xs : List PyData} {P : List PyData → Prop} (q : P xs) : ∃ ys, (PyData.list xs = .list ys ∨ PyData.list xs = .tuple ys) ∧ P ys := ⟨_, .inl rfl, q⟩
theorem len_i {xs : List PyData} {P : Prop} (h : Nat.ble xs.length 16777216 = true) (q : P) : xs.length ≤ 16777216 ∧ P := ⟨Nat.le_of_ble_eq_true h, q⟩
theorem tup_i {xs : List PyData} {P : List PyData → Prop} (q : P xs) : ∃ ys, PyData.tuple xs = .tuple ys ∧ P ys := ⟨_, rfl, q⟩
theorem yes_i {A B : Prop} (q : A) : (true = true → A) ∧ (true = false → B) := ⟨fun _ => q, fun h => nomatch h⟩
theorem no_i {A B : Prop} (q : B) : (false = true → A) ∧ (false = false → B) := ⟨fun h => (nomatch h), fun _ => q⟩
theorem nyes_i {A B : Prop} (q : B) : ((!true) = true → A) ∧ ((!true) = false → B) := ⟨fun h => (nomatch h), fun _ => q⟩
theorem nno_i {A B : Prop} (q : A) : ((!false) = true → A) ∧ ((!false) = false → B) := ⟨fun _ => q, fun h => nomatch h⟩
theorem dec_i {p : Prop} [Decidable p] {A B : Prop} (q1 : p → A) (q2 : ¬ p → B) : (decide p = true → A) ∧ (decide p = false → B) := ⟨fun h => q1 (of_decide_eq_true h), fun h => q2 (of_decide_eq_false h)⟩
theorem decn_i {p : Prop} [Decidable p] {A B : Prop} (q1 : p → B) (q2 : ¬ p → A) : ((!decide p) = true → A) ∧ ((!decide p) = false → B) := ⟨fun h => q2 (by simpa using h), fun h => q1 (by simpa using h)⟩
theorem decy_i {p : Prop} [Decidable p] {A B : Prop} (h : p) (q : A) : (decide p = true → A) ∧ (decide p = false → B) := ⟨fun _ => q, fun k => absurd h (of_decide_eq_false k)⟩
theorem decno_i {p : Prop} [Decidable p] {A B : Prop} (h : ¬ p) (q : B) : (decide p = true → A) ∧ (decide p = false → B) := ⟨fun k => absurd (of_decide_eq_true k) h, fun _ => q⟩
theorem ndecy_i {p : Prop} [Decidable p] {A B : Prop} (h : ¬ p) (q : A) : ((!decide p) = true → A) ∧ ((!decide p) = false → B) := ⟨fun _ => q, fun k => absurd (by simpa using k) h⟩
theorem ndecno_i {p : Prop} [Decidable p] {A B : Prop} (h : p) (q : B) : ((!decide p) = true → A) ∧ ((!decide p) = false → B) := ⟨fun k => absurd h (by simpa using k), fun _ => q⟩
theorem bit_i {b : Bool} {A B : Prop} (q1 : b = true → A) (q2 : b = false → B) : (b = true → A) ∧ (b = false → B) := ⟨q1, q2⟩
/-! ### defs -/
def EndP (Q : PyData → Prop) : Out → Rho → Prop
  | .ret d, _ => Q d
  | .retL ds, _ => Q (.list ds)
  | .next, _ => Q .none
  | _, _ => False
def EndN (Q : List PyData → Prop) : Out → Rho → Prop
  | .retL ds, _ => Q ds
  | _, _ => False
def EndL (Q : PyData → List PyData → Prop) : Out → Rho → Prop
  | .ret d, ρ => ∃ ps, pool0 ρ = some ps ∧ Q d ps
  | .retL ds, ρ => ∃ ps, pool0 ρ = some ps ∧ Q (.list ds) ps
  | .next, ρ => ∃ ps, pool0 ρ = some ps ∧ Q .none ps
  | _, _ => False
theorem wa_def {b : SF} {k m : Nat} {ds : List PyData} {Q : PyData → Prop} (hl : ds.length = k) (w : WS b (rho0 ds m) (EndP Q)) : WA (defP b k m ds) Q := by
  obtain ⟨o, r, e, q⟩ := w
  cases o with
  | ret d => exact ⟨d, by simp only [defP, hl, if_true, e, endP], q⟩
  | retL d => exact ⟨_, by simp only [defP, hl, if_true, e, endP], q⟩
  | next => exact ⟨_, by simp only [defP, hl, if_true, e, endP], q⟩
  | brk => exact q.elim
  | cont => exact q.elim
theorem wl_def {b : SF} {k m : Nat} {ds : List PyData} {Q : List PyData → Prop} (hl : ds.length = k) (w : WS b (rho0 ds m) (EndN Q)) : WL (defN b k m ds) Q := by
  obtain ⟨o, r, e, q⟩ := w
  cases o with
  | retL d => exact ⟨_, by simp only [defN, hl, if_true, e, endN], q⟩
  | ret d => exact q.elim
  | next => exact q.elim
  | brk => exact q.elim
  | cont => exact q.elim
theorem wp_def {b : SF} {k m : Nat} {ps ds : List PyData} {Q : PyData → List PyData → Prop} (hl : ds.length = k) (w : WS b (rhoL ps ds m) (EndL Q)) : WP (defL b k m ps ds) Q := by
  obtain ⟨o, r, e, q⟩ := w
  cases o with
  | ret d => obtain ⟨ps', e2, q⟩ := q; exact ⟨d, ps', by simp only [defL, hl, if_true, e, endL, e2], q⟩
  | retL d => obtain ⟨ps', e2, q⟩ := q; exact ⟨_, ps', by simp only [defL, hl, if_true, e, endL, e2], q⟩
  | next => obtain ⟨ps', e2, q⟩ := q; exact ⟨_, ps', by simp only [defL, hl, if_true, e, endL, e2], q⟩
  | brk => exact q.elim
  | cont => exact q.elim
theorem endP_ret {d : PyData} {r : Rho} {Q : PyData → Prop} (q : Q d) : EndP Q (.ret d) r := q
theorem endP_retL {d : List PyData} {r : Rho} {Q : PyData → Prop} (q : Q (.list d)) : EndP Q (.retL d) r := q
theorem endN_ret {d : List PyData} {r : Rho} {Q : List PyData → Prop} (q : Q d) : EndN Q (.retL d) r := q
theorem endL_ret {d : PyData} {ps : List PyData} {r : Rho} {Q : PyData → List PyData → Prop} (q : Q d ps) : EndL Q (.ret d) (some (.l true ps) :: r) := ⟨ps, rfl, q⟩
theorem endL_retL {d : List PyData} {ps : List PyData} {r : Rho} {Q : PyData → List PyData → Prop} (q : Q (.list d) ps) : EndL Q (.retL d) (some (.l true ps) :: r) := ⟨ps, rfl, q⟩
theorem rho0_eq (ds : List PyData) (m : Nat) : rho0 ds m = ds.map (fun d => some (Cell.v d)) ++ List.replicate m none := rfl
theorem rhoL_eq (ps ds : List PyData) (m : Nat) : rhoL ps ds m = some (Cell.l true ps) :: (ds.map (fun d => some (Cell.v d)) ++ List.replicate m none) := rfl
/-! ### operations that ask something -/
theorem wa_add {i j : Int} {Q : PyData → Prop} (q : Q (.int (i + j))) : WA (dAdd (.int i) (.int j)) Q := ⟨_, rfl, q⟩
theorem wa_addL {xs ys : List PyData} {Q : PyData → Prop} (hl : xs.length + ys.length ≤ 16777216) (q : Q (.list (xs ++ ys))) : WA (dAdd (.list xs) (.list ys)) Q := ⟨_, if_pos hl, q⟩
theorem wa_addT {xs ys : List PyData} {Q : PyData → Prop} (hl : xs.length + ys.length ≤ 16777216) (q : Q (.tuple (xs ++ ys))) : WA (dAdd (.tuple xs) (.tuple ys)) Q := ⟨_, if_pos hl, q⟩
theorem wa_sub {i j : Int} {Q : PyData → Prop} (q : Q (.int (i - j))) : WA (dSub (.int i) (.int j)) Q := ⟨_, rfl, q⟩
theorem wa_mulR {i j : Int} {Q : PyData → Prop} (h1 : -18446744073709551616 < j) (h2 : j < 18446744073709551616) (q : Q (.int (i * j))) : WA (dMul (.int i) (.int j)) Q := ⟨_, by simp [h1, h2], q⟩
theorem wa_mulL {i j : Int} {Q : PyData → Prop} (h1 : -18446744073709551616 < i) (h2 : i < 18446744073709551616) (q : Q (.int (i * j))) : WA (dMul (.int i) (.int j)) Q := ⟨_, by simp [h1, h2], q⟩
theorem wa_div {i j : Int} {Q : PyData → Prop} (h1 : 0 < j) (h2 : j < 18446744073709551616) (q : Q (.int (i / j))) : WA (dDiv (.int i) (.int j)) Q := ⟨_, by simp [h1, h2], q⟩
theorem wa_mod {i j : Int} {Q : PyData → Prop} (h1 : 0 < j) (q : Q (.int (i % j))) : WA (dMod (.int i) (.int j)) Q := ⟨_, by simp [h1], q⟩
theorem wa_shr {i j : Int} {Q : PyData → Prop} (h1 : 0 ≤ j) (q : Q (.int (i / 2 ^ j.toNat))) : WA (dShr (.int i) (.int j)) Q := ⟨_, by simp [h1], q⟩
theorem wa_lt {i j : Int} {Q : PyData → Prop} (q : Q (.bool (decide (i < j)))) : WA (dLt (.int i) (.int j)) Q := ⟨_, rfl, q⟩
theorem wa_le {i j : Int} {Q : PyData → Prop} (q : Q (.bool (decide (i ≤ j)))) : WA (dLe (.int i) (.int j)) Q := ⟨_, rfl, q⟩
theorem wa_gt {i j : Int} {Q : PyData → Prop} (q : Q (.bool (decide (j < i)))) : WA (dGt (.int i) (.int j)) Q := ⟨_, rfl, q⟩
theorem wa_ge {i j : Int} {Q : PyData → Prop} (q : Q (.bool (decide (j ≤ i)))) : WA (dGe (.int i) (.int j)) Q := ⟨_, rfl, q⟩
theorem wa_eqI {i j : Int} {Q : PyData → Prop} (q : Q (.bool (decide (i = j)))) : WA (dEq (.int i) (.int j)) Q := ⟨_, rfl, q⟩
theorem wa_neI {i j : Int} {Q : PyData → Prop} (q : Q (.bool (!decide (i = j)))) : WA (dNe (.int i) (.int j)) Q := ⟨_, rfl, q⟩
theorem wa_ixT {xs : List PyData} {i : Int} {Q : PyData → Prop} (w : WA (atD xs i) Q) : WA (dIx (.tuple xs) (.int i)) Q := w
theorem wa_ixS {xs : List PyData} {i : Int} {Q : PyData → Prop} (w : WA (atD xs i) Q) : WA (dIx (.list xs) (.int i)) Q := w
theorem wa_at {xs : List PyData} {k : Nat} {Q : PyData → Prop} (h : k < xs.length) (q : Q xs[k]) : WA (atD xs (k : Int)) Q := by
  have h2 : (k : Int) < (xs.length : Int) := by omega
  exact ⟨xs[k], by simp [atD, ixOf, h2, h], q⟩
theorem wa_neg {i : Int} {Q : PyData → Prop} (q : Q (.int (-i))) : WA (dNeg (.int i)) Q := ⟨_, rfl, q⟩
theorem wa_lenL {xs : List PyData} {Q : PyData → Prop} (q : Q (.int xs.length)) : WA (o1of dLen [.list xs]) Q := ⟨_, rfl, q⟩
theorem wa_lenT {xs : List PyData} {Q : PyData → Prop} (q : Q (.int xs.length)) : WA (o1of dLen [.tuple xs]) Q := ⟨_, rfl, q⟩
theorem wa_int {i : Int} {Q : PyData → Prop} (q : Q (.int i)) : WA (o1of dInt [.int i]) Q := ⟨_, rfl, q⟩
theorem wa_max {i j : Int} {Q : PyData → Prop} (q : Q (.int (if j > i then j else i))) : WA (o2of dMax [.int i, .int j]) Q := ⟨_, rfl, q⟩
theorem wa_min {i j : Int} {Q : PyData → Prop} (q : Q (.int (if j < i then j else i))) : WA (o2of dMin [.int i, .int j]) Q := ⟨_, rfl, q⟩
theorem wb_bool {b : Bool} {Q : Bool → Prop} (q : Q b) : WB (truth (.bool b)) Q := ⟨b, rfl, q⟩
theorem wb_int {i : Int} {Q : Bool → Prop} (q : Q (i != 0)) : WB (truth (.int i)) Q := ⟨_, rfl, q⟩
end PG
end
section
set_option Elab.async false
set_option linter.all false
set_option maxRecDepth 100000
namespace PG
open PySem
/-! ### answers found by instances -/
class Ev1 (o : PyData → Option PyData) (x : PyData) (z : outParam PyData) : Prop where
  h : o x = some z
class Ev (F : List PyData → Option PyData) (xs : List PyData) (z : outParam PyData) : Prop where
  h : F xs = some z
class EvN (F : List PyData → Option (List PyData)) (xs : List PyData) (z : outParam (List PyData)) : Prop where
  h : F xs = some z
class EvB (x : PyData) (b : outParam Bool) : Prop where
  h : truth x = some b
theorem wa_ev1 {o : PyData → Option PyData} {x z : PyData} {Q : PyData → Prop} [e : Ev1 o x z] (q : Q z) : WA (o x) Q := ⟨z, e.h, q⟩
theorem wa_ev {F : List PyData → Option PyData} {xs : List PyData} {z : PyData} {Q : PyData → Prop} [e : Ev F xs z] (q : Q z) : WA (F xs) Q := ⟨z, e.h, q⟩
theorem wl_ev {F : List PyData → Option (List PyData)} {xs z : List PyData} {Q : List PyData → Prop} [e : EvN F xs z] (q : Q z) : WL (F xs) Q := ⟨z, e.h, q⟩
theorem wb_ev {x : PyData} {b : Bool} {Q : Bool → Prop} [e : EvB x b] (q : Q b) : WB (truth x) Q := ⟨b, e.h, q⟩
instance : Ev1 (dIsi "tuple") .none (.bool false) := ⟨by simp [isTy, isN, tyName]⟩
instance : Ev1 (dTyIs "tuple") .none (.bool false) := ⟨by simp [tyName]⟩
instance : Ev1 (dTyNe "tuple") .none (.bool true) := ⟨by simp [tyName]⟩
instance {b : Bool} : Ev1 (dIsi "tuple") (.bool b) (.bool false) := ⟨by simp [isTy, isN, tyName]⟩
instance {b : Bool} : Ev1 (dTyIs "tuple") (.bool b) (.bool false) := ⟨by simp [tyName]⟩
instance {b : Bool} : Ev1 (dTyNe "tuple") (.bool b) (.bool true) := ⟨by simp [tyName]⟩
instance {i : Int} : Ev1 (dIsi "tuple") (.int i) (.bool false) := ⟨by simp [isTy, isN, tyName]⟩
instance {i : Int} : Ev1 (dTyIs "tuple") (.int i) (.bool false) := ⟨by simp [tyName]⟩
instance {i : Int} : Ev1 (dTyNe "tuple") (.int i) (.bool true) := ⟨by simp [tyName]⟩
instance {x : Str} : Ev1 (dIsi "tuple") (.str x) (.bool false) := ⟨by simp [isTy, isN, tyName]⟩
instance {x : Str} : Ev1 (dTyIs "tuple") (.str x) (.bool false) := ⟨by simp [tyName]⟩
instance {x : Str} : Ev1 (dTyNe "tuple") (.str x) (.bool true) := ⟨by simp [tyName]⟩
instance {xs : List PyData} : Ev1 (dIsi "tuple") (.list xs) (.bool false) := ⟨by simp [isTy, isN, tyName]⟩
instance {xs : List PyData} : Ev1 (dTyIs "tuple") (.list xs) (.bool false) := ⟨by simp [tyName]⟩
instance {xs : List PyData} : Ev1 (dTyNe "tuple") (.list xs) (.bool true) := ⟨by simp [tyName]⟩
instance {xs : List PyData} : Ev1 (dIsi "tuple") (.tuple xs) (.bool true) := ⟨by simp [isTy, isN, tyName]⟩
instance {xs : List PyData} : Ev1 (dTyIs "tuple") (.tuple xs) (.bool true) := ⟨by simp [tyName]⟩
instance {xs : List PyData} : Ev1 (dTyNe "tuple") (.tuple xs) (.bool false) := ⟨by simp [tyName]⟩
instance : Ev1 (dIsi "list") .none (.bool false) := ⟨by simp [isTy, isN, tyName]⟩
instance : Ev1 (dTyIs "list") .none (.bool false) := ⟨by simp [tyName]⟩
instance : Ev1 (dTyNe "list") .none (.bool true) := ⟨by simp [tyName]⟩
instance {b : Bool} : Ev1 (dIsi "list") (.bool b) (.bool false) := ⟨by simp [isTy, isN, tyName]⟩
instance {b : Bool} : Ev1 (dTyIs "list") (.bool b) (.bool false) := ⟨by simp [tyName]⟩
instance {b : Bool} : Ev1 (dTyNe "list") (.bool b) (.bool true) := ⟨by simp [tyName]⟩
instance {i : Int} : Ev1 (dIsi "list") (.int i) (.bool false) := ⟨by simp [isTy, isN, tyName]⟩
instance {i : Int} : Ev1 (dTyIs "list") (.int i) (.bool false) := ⟨by simp [tyName]⟩
instance {i : Int} : Ev1 (dTyNe "list") (.int i) (.bool true) := ⟨by simp [tyName]⟩
instance {x : Str} : Ev1 (dIsi "list") (.str x) (.bool false) := ⟨by simp [isTy, isN, tyName]⟩
instance {x : Str} : Ev1 (dTyIs "list") (.str x) (.bool false) := ⟨by simp [tyName]⟩
instance {x : Str} : Ev1 (dTyNe "list") (.str x) (.bool true) := ⟨by simp [tyName]⟩
instance {xs : List PyData} : Ev1 (dIsi "list") (.list xs) (.bool true) := ⟨by simp [isTy, isN, tyName]⟩
instance {xs : List PyData} : Ev1 (dTyIs "list") (.list xs) (.bool true) := ⟨by simp [tyName]⟩
instance {xs : List PyData} : Ev1 (dTyNe "list") (.list xs) (.bool false) := ⟨by simp [tyName]⟩
instance {xs : List PyData} : Ev1 (dIsi "list") (.tuple xs) (.bool false) := ⟨by simp [isTy, isN, tyName]⟩
instance {xs : List PyData} : Ev1 (dTyIs "list") (.tuple xs) (.bool false) := ⟨by simp [tyName]⟩
instance {xs : List PyData} : Ev1 (dTyNe "list") (.tuple xs) (.bool true) := ⟨by simp [tyName]⟩
instance : Ev1 (dIsi "int") .none (.bool false) := ⟨by simp [isTy, isN, tyName]⟩
instance : Ev1 (dTyIs "int") .none (.bool false) := ⟨by simp [tyName]⟩
instance : Ev1 (dTyNe "int") .none (.bool true) := ⟨by simp [tyName]⟩
instance {b : Bool} : Ev1 (dIsi "int") (.bool b) (.bool true) := ⟨by simp [isTy, isN, tyName]⟩
instance {b : Bool} : Ev1 (dTyIs "int") (.bool b) (.bool false) := ⟨by simp [tyName]⟩
instance {b : Bool} : Ev1 (dTyNe "int") (.bool b) (.bool true) := ⟨by simp [tyName]⟩
instance {i : Int} : Ev1 (dIsi "int") (.int i) (.bool true) := ⟨by simp [isTy, isN, tyName]⟩
instance {i : Int} : Ev1 (dTyIs "int") (.int i) (.bool true) := ⟨by simp [tyName]⟩
instance {i : Int} : Ev1 (dTyNe "int") (.int i) (.bool false) := ⟨by simp [tyName]⟩
instance {x : Str} : Ev1 (dIsi "int") (.str x) (.bool false) := ⟨by simp [isTy, isN, tyName]⟩
instance {x : Str} : Ev1 (dTyIs "int") (.str x) (.bool false) := ⟨by simp [tyName]⟩
instance {x : Str} : Ev1 (dTyNe "int") (.str x) (.bool true) := ⟨by simp [tyName]⟩
instance {xs : List PyData} : Ev1 (dIsi "int") (.list xs) (.bool false) := ⟨by simp [isTy, isN, tyName]⟩
instance {xs : List PyData} : Ev1 (dTyIs "int") (.list xs) (.bool false) := ⟨by simp [tyName]⟩
instance {xs : List PyData} : Ev1 (dTyNe "int") (.list xs) (.bool true) := ⟨by simp [tyName]⟩
instance {xs : List PyData} : Ev1 (dIsi "int") (.tuple xs) (.bool false) := ⟨by simp [isTy, isN, tyName]⟩
instance {xs : List PyData} : Ev1 (dTyIs "int") (.tuple xs) (.bool false) := ⟨by simp [tyName]⟩
instance {xs : List PyData} : Ev1 (dTyNe "int") (.tuple xs) (.bool true) := ⟨by simp [tyName]⟩
instance : Ev1 (dIsi "bool") .none (.bool false) := ⟨by simp [isTy, isN, tyName]⟩
instance : Ev1 (dTyIs "bool") .none (.bool false) := ⟨by simp [tyName]⟩
instance : Ev1 (dTyNe "bool") .none (.bool true) := ⟨by simp [tyName]⟩
instance {b : Bool} : Ev1 (dIsi "bool") (.bool b) (.bool true) := ⟨by simp [isTy, isN, tyName]⟩
instance {b : Bool} : Ev1 (dTyIs "bool") (.bool b) (.bool true) := ⟨by simp [tyName]⟩
instance {b : Bool} : Ev1 (dTyNe "bool") (.bool b) (.bool false) := ⟨by simp [tyName]⟩
instance {i : Int} : Ev1 (dIsi "bool") (.int i) (.bool false) := ⟨by simp [isTy, isN, tyName]⟩
instance {i : Int} : Ev1 (dTyIs "bool") (.int i) (.bool false) := ⟨by simp [tyName]⟩
instance {i : Int} : Ev1 (dTyNe "bool") (.int i) (.bool true) := ⟨by simp [tyName]⟩
instance {x : Str} : Ev1 (dIsi "bool") (.str x) (.bool false) := ⟨by simp [isTy, isN, tyName]⟩
instance {x : Str} : Ev1 (dTyIs "bool") (.str x) (.bool false) := ⟨by simp [tyName]⟩
instance {x : Str} : Ev1 (dTyNe "bool") (.str x) (.bool true) := ⟨by simp [tyName]⟩
instance {xs : List PyData} : Ev1 (dIsi "bool") (.list xs) (.bool false) := ⟨by simp [isTy, isN, tyName]⟩
instance {xs : List PyData} : Ev1 (dTyIs "bool") (.list xs) (.bool false) := ⟨by simp [tyName]⟩
instance {xs : List PyData} : Ev1 (dTyNe "bool") (.list xs) (.bool true) := ⟨by simp [tyName]⟩
instance {xs : List PyData} : Ev1 (dIsi "bool") (.tuple xs) (.bool false) := ⟨by simp [isTy, isN, tyName]⟩
instance {xs : List PyData} : Ev1 (dTyIs "bool") (.tuple xs) (.bool false) := ⟨by simp [tyName]⟩
instance {xs : List PyData} : Ev1 (dTyNe "bool") (.tuple xs) (.bool true) := ⟨by simp [tyName]⟩
instance : Ev1 (dIsi "str") .none (.bool false) := ⟨by simp [isTy, isN, tyName]⟩
instance : Ev1 (dTyIs "str") .none (.bool false) := ⟨by simp [tyName]⟩
instance : Ev1 (dTyNe "str") .none (.bool true) := ⟨by simp [tyName]⟩
instance {b : Bool} : Ev1 (dIsi "str") (.bool b) (.bool false) := ⟨by simp [isTy, isN, tyName]⟩
instance {b : Bool} : Ev1 (dTyIs "str") (.bool b) (.bool false) := ⟨by simp [tyName]⟩
instance {b : Bool} : Ev1 (dTyNe "str") (.bool b) (.bool true) := ⟨by simp [tyName]⟩
instance {i : Int} : Ev1 (dIsi "str") (.int i) (.bool false) := ⟨by simp [isTy, isN, tyName]⟩
instance {i : Int} : Ev1 (dTyIs "str") (.int i) (.bool false) := ⟨by simp [tyName]⟩
instance {i : Int} : Ev1 (dTyNe "str") (.int i) (.bool true) := ⟨by simp [tyName]⟩
instance {x : Str} : Ev1 (dIsi "str") (.str x) (.bool true) := ⟨by simp [isTy, isN, tyName]⟩
instance {x : Str} : Ev1 (dTyIs "str") (.str x) (.bool true) := ⟨by simp [tyName]⟩
instance {x : Str} : Ev1 (dTyNe "str") (.str x) (.bool false) := ⟨by simp [tyName]⟩
instance {xs : List PyData} : Ev1 (dIsi "str") (.list xs) (.bool false) := ⟨by simp [isTy, isN, tyName]⟩
instance {xs : List PyData} : Ev1 (dTyIs "str") (.list xs) (.bool false) := ⟨by simp [tyName]⟩
instance {xs : List PyData} : Ev1 (dTyNe "str") (.list xs) (.bool true) := ⟨by simp [tyName]⟩
instance {xs : List PyData} : Ev1 (dIsi "str") (.tuple xs) (.bool false) := ⟨by simp [isTy, isN, tyName]⟩
instance {xs : List PyData} : Ev1 (dTyIs "str") (.tuple xs) (.bool false) := ⟨by simp [tyName]⟩
instance {xs : List PyData} : Ev1 (dTyNe "str") (.tuple xs) (.bool true) := ⟨by simp [tyName]⟩
instance : Ev1 dIsN .none (.bool true) := ⟨rfl⟩
instance : Ev1 dNotN .none (.bool false) := ⟨rfl⟩
instance {b : Bool} : Ev1 dIsN (.bool b) (.bool false) := ⟨rfl⟩
instance {b : Bool} : Ev1 dNotN (.bool b) (.bool true) := ⟨rfl⟩
instance {i : Int} : Ev1 dIsN (.int i) (.bool false) := ⟨rfl⟩
instance {i : Int} : Ev1 dNotN (.int i) (.bool true) := ⟨rfl⟩
instance {x : Str} : Ev1 dIsN (.str x) (.bool false) := ⟨rfl⟩
instance {x : Str} : Ev1 dNotN (.str x) (.bool true) := ⟨rfl⟩
instance {xs : List PyData} : Ev1 dIsN (.list xs) (.bool false) := ⟨rfl⟩
instance {xs : List PyData} : Ev1 dNotN (.list xs) (.bool true) := ⟨rfl⟩
instance {xs : List PyData} : Ev1 dIsN (.tuple xs) (.bool false) := ⟨rfl⟩
instance {xs : List PyData} : Ev1 dNotN (.tuple xs) (.bool true) := ⟨rfl⟩
instance : EvB .none false := ⟨rfl⟩
instance {xs : List PyData} : EvB (.list xs) (!xs.isEmpty) := ⟨rfl⟩
instance {xs : List PyData} : EvB (.tuple xs) (!xs.isEmpty) := ⟨rfl⟩
instance {xs : List PyData} : Ev (o1of dTupOf) [.list xs] (.tuple xs) := ⟨rfl⟩
instance {xs : List PyData} : Ev (o1of dTupOf) [.tuple xs] (.tuple xs) := ⟨rfl⟩
instance {xs : List PyData} : EvN (n1of dLstOf) [.list xs] xs := ⟨rfl⟩
instance {xs : List PyData} : EvN (n1of dLstOf) [.tuple xs] xs := ⟨rfl⟩
instance {xs : List PyData} : EvN (n1of dLstOf) [RO xs] xs := ⟨rfl⟩
instance {i : Int} : Ev (o1of dAbs) [.int i] (.int (if i < 0 then -i else i)) := ⟨rfl⟩
theorem ch_le {i j : Int} {P : Bool → Prop} (q : P (decide (i ≤ j))) : ∃ b, dLe (.int i) (.int j) = some (.bool b) ∧ P b := ⟨_, rfl, q⟩
theorem ch_lt {i j : Int} {P : Bool → Prop} (q : P (decide (i < j))) : ∃ b, dLt (.int i) (.int j) = some (.bool b) ∧ P b := ⟨_, rfl, q⟩
theorem ch_eq {i j : Int} {P : Bool → Prop} (q : P (decide (i = j))) : ∃ b, dEq (.int i) (.int j) = some (.bool b) ∧ P b := ⟨_, rfl, q⟩
theorem wa_binO {o : PyData → PyData → Option PyData} {f : EF} {i : Nat} {ρ : Rho} {Q : PyData → Rho → Prop} (w : WE f ρ fun x ρ1 => ∃ p ps, ρ1[i]? = some (some (.l p ps)) ∧ WA (o x (.list ps)) fun z => Q z ρ1) : WE (eBinO o f i) ρ Q := by
  obtain ⟨x, r, e, p, ps, h, z, e2, q⟩ := w
  exact ⟨z, r, by simp [e, h, e2], q⟩
/-- an item of a written tuple at a drawn place -/
theorem wa_pick {xs : List PyData} {v : Int} (P : PyData → Prop) {Q : PyData → Prop} (h0 : 0 ≤ v) (h1 : v < xs.length) (hP : ∀ x ∈ xs, P x) (q : ∀ x, P x → Q x) : WA (dIx (.tuple xs) (.int v)) Q := by
  have h2 : v.toNat < xs.length := by omega
  refine ⟨xs[v.toNat], ?_, q _ (hP _ (List.getElem_mem h2))⟩
  show atD xs v = _
  simp [atD, ixOf, h0, h1, h2]
theorem wa_pickI (ns : List Int) (P : Int → Prop) {v : Int} {Q : PyData → Prop} (h0 : 0 ≤ v) (h1 : v < ns.length) (hP : ∀ n ∈ ns, P n) (q : ∀ n, P n → Q (.int n)) : WA (dIx (.tuple (ns.map PyData.int)) (.int v)) Q :=
  wa_pick (fun d => ∃ n, d = .int n ∧ P n) h0 (by simpa using h1) (fun x hx => by
    obtain ⟨n, hn, rfl⟩ := List.mem_map.mp hx
    exact ⟨n, rfl, hP n hn⟩) (fun x ⟨n, e, hn⟩ => by subst e; exact q n hn)
/-- the item at a place that is written -/
theorem wa_ixn {xs : List PyData} {k : Nat} {d : PyData} {Q : PyData → Prop} (hget : xs[k]? = some d) (q : Q d) : WA (dIx (.tuple xs) (.int (k : Nat))) Q := by
  obtain ⟨h, e⟩ := List.getElem?_eq_some_iff.mp hget
  refine ⟨d, ?_, q⟩
  show atD xs _ = _
  have h2 : (k : Int) < (xs.length : Int) := by omega
  simp [atD, ixOf, h2, hget]
theorem wa_ixnL {xs : List PyData} {k : Nat} {d : PyData} {Q : PyData → Prop} (hget : xs[k]? = some d) (q : Q d) : WA (dIx (.list xs) (.int (k : Nat))) Q := wa_ixn (xs := xs) hget q
theorem wa_ix0 {xs : List PyData} {d : PyData} {Q : PyData → Prop} (hget : xs[0]? = some d) (q : Q d) : WA (dIx (.tuple xs) (.int 0)) Q := wa_ixn (k := 0) hget q
theorem wa_ix1 {xs : List PyData} {d : PyData} {Q : PyData → Prop} (hget : xs[1]? = some d) (q : Q d) : WA (dIx (.tuple xs) (.int 1)) Q := wa_ixn (k := 1) hget q
theorem wa_ix2 {xs : List PyData} {d : PyData} {Q : PyData → Prop} (hget : xs[2]? = some d) (q : Q d) : WA (dIx (.tuple xs) (.int 2)) Q := wa_ixn (k := 2) hget q
theorem wa_ix3 {xs : List PyData} {d : PyData} {Q : PyData → Prop} (hget : xs[3]? = some d) (q : Q d) : WA (dIx (.tuple xs) (.int 3)) Q := wa_ixn (k := 3) hget q
theorem wa_ix4 {xs : List PyData} {d : PyData} {Q : PyData → Prop} (hget : xs[4]? = some d) (q : Q d) : WA (dIx (.tuple xs) (.int 4)) Q := wa_ixn (k := 4) hget q
theorem wa_ix5 {xs : List PyData} {d : PyData} {Q : PyData → Prop} (hget : xs[5]? = some d) (q : Q d) : WA (dIx (.tuple xs) (.int 5)) Q := wa_ixn (k := 5) hget q
theorem wa_ix6 {xs : List PyData} {d : PyData} {Q : PyData → Prop} (hget : xs[6]? = some d) (q : Q d) : WA (dIx (.tuple xs) (.int 6)) Q := wa_ixn (k := 6) hget q
theorem wa_ix7 {xs : List PyData} {d : PyData} {Q : PyData → Prop} (hget : xs[7]? = some d) (q : Q d) : WA (dIx (.tuple xs) (.int 7)) Q := wa_ixn (k := 7) hget q
theorem wa_ix8 {xs : List PyData} {d : PyData} {Q : PyData → Prop} (hget : xs[8]? = some d) (q : Q d) : WA (dIx (.tuple xs) (.int 8)) Q := wa_ixn (k := 8) hget q
theorem wa_il0 {xs : List PyData} {d : PyData} {Q : PyData → Prop} (hget : xs[0]? = some d) (q : Q d) : WA (dIx (.list xs) (.int 0)) Q := wa_ixn (k := 0) hget q
theorem wa_il1 {xs : List PyData} {d : PyData} {Q : PyData → Prop} (hget : xs[1]? = some d) (q : Q d) : WA (dIx (.list xs) (.int 1)) Q := wa_ixn (k := 1) hget q
theorem wa_il2 {xs : List PyData} {d : PyData} {Q : PyData → Prop} (hget : xs[2]? = some d) (q : Q d) : WA (dIx (.list xs) (.int 2)) Q := wa_ixn (k := 2) hget q
end PG
end
section
set_option Elab.async false
set_option linter.all false
set_option maxRecDepth 100000
namespace PG
open PySem
instance {xs : List PyData} : Ev1 dLen (.list xs) (.int xs.length) := ⟨rfl⟩
instance {xs : List PyData} : Ev1 dLen (.tuple xs) (.int xs.length) := ⟨rfl⟩
instance {xs : List PyData} : Ev1 dTupOf (.list xs) (.tuple xs) := ⟨rfl⟩
instance {xs : List PyData} : Ev1 dTupOf (.tuple xs) (.tuple xs) := ⟨rfl⟩
theorem wa_neS {x : Str} {Q : PyData → Prop} (q : Q (.bool false)) : WA (dNeS (.str x) (.str x)) Q := ⟨_, by simp, q⟩
/-! ### while, by a measure -/
section
variable {ρ : Rho} {t : TF} {b c : SF} {S : Out → Rho → Prop}
theorem whl_run (I : Nat → Rho → Prop) (J : Rho → Prop) (step : ∀ m ρ, I m ρ → WT t ρ fun x ρ1 => (x = true → WS b ρ1 fun o ρ2 => o = .next ∧ ∃ m', m' < m ∧ I m' ρ2) ∧ (x = false → J ρ1)) :
    ∀ (m : Nat) (ρ : Rho), I m ρ → ∃ ρ', whl t b (m + 1) ρ = some (.next, ρ') ∧ J ρ' := by
  intro m
  induction m using Nat.strongRecOn with
  | _ m ih =>
    intro ρ h
    obtain ⟨x, ρ1, e1, q1, q2⟩ := step m ρ h
    cases x with
    | false => exact ⟨ρ1, by rw [whl]; simp only [e1], q2 rfl⟩
    | true =>
      obtain ⟨o, ρ2, e2, rfl, m', hm, h2⟩ := q1 rfl
      obtain ⟨ρ3, e3, j⟩ := ih m' hm ρ2 h2
      refine ⟨ρ3, ?_, j⟩
      rw [whl]
      simp only [e1, e2]
      exact whl_mono (m' + 1) m ρ2 _ e3 hm
theorem ws_while {n : Rho → Nat} (I : Nat → Rho → Prop) (J : Rho → Prop) (m : Nat) (hm : m < n ρ) (h : I m ρ)
    (step : ∀ m ρ, I m ρ → WT t ρ fun x ρ1 => (x = true → WS b ρ1 fun o ρ2 => o = .next ∧ ∃ m', m' < m ∧ I m' ρ2) ∧ (x = false → J ρ1))
    (q : ∀ ρ1, J ρ1 → WS c ρ1 S) : WS (sSeq (sWhile n t b) c) ρ S := by
  obtain ⟨ρ1, e, j⟩ := whl_run I J step m ρ h
  obtain ⟨o, ρ2, e2, q2⟩ := q ρ1 j
  refine ⟨o, ρ2, ?_, q2⟩
  have e3 := whl_mono (m + 1) (n ρ) ρ _ e hm
  have e4 : sWhile n t b ρ = some (.next, ρ1) := e3
  show sSeq (sWhile n t b) c ρ = _
  simp only [sSeq, e4]
  exact e2
/-- for, by an invariant over what is left -/
theorem ws_forI {g : GF} (I : List PyData → Rho → Prop) (ds : List PyData) (h : I ds ρ)
    (step : ∀ d r ρ, I (d :: r) ρ → WG g d ρ fun ρ1 => WS b ρ1 fun o ρ2 => o = .next ∧ I r ρ2)
    (q : ∀ ρ1, I [] ρ1 → WS c ρ1 S) : WS (sSeq (forL g b ds) c) ρ S := by
  have key : ∀ (ds : List PyData) (ρ : Rho), I ds ρ → ∃ ρ', forL g b ds ρ = some (.next, ρ') ∧ I [] ρ' := by
    intro ds
    induction ds with
    | nil => intro ρ h; exact ⟨ρ, rfl, h⟩
    | cons d r ih =>
      intro ρ h
      obtain ⟨ρ1, e1, o, ρ2, e2, rfl, h2⟩ := step d r ρ h
      obtain ⟨ρ3, e3, h3⟩ := ih ρ2 h2
      exact ⟨ρ3, by simp [forL, e1, e2, e3], h3⟩
  obtain ⟨ρ1, e, j⟩ := key ds ρ h
  obtain ⟨o, ρ2, e2, q2⟩ := q ρ1 j
  refine ⟨o, ρ2, ?_, q2⟩
  show sSeq (forL g b ds) c ρ = _
  simp only [sSeq, e]
  exact e2
end
end PG
end
section
set_option Elab.async false
set_option linter.all false
set_option maxRecDepth 100000
namespace Pr_C
open PySem PG
/-! what each def does, on data -/
def X_law_same_1 (R : List PyData → Option PyData) : TF :=
  (tNot' (tTru (eCall R (nCons (eBin dIx (eName 0) (eName 2)) (nCons (eBin dIx (eName 1) (eName 2)) nNil)))))
def X_law_same_2 (R : List PyData → Option PyData) : EF :=
  (eName 2)
def B_law_same (R : List PyData → Option PyData) : SF :=
  (sSeq (sIf (tOr' (tTru (eUn (dIsi "tuple") (eName 1))) (tTru (eUn (dIsi "list") (eName 1))))
  (sSeq (sIf (tOr' (tBl (eBin dNe (eUn (dIsi "tuple") (eName 1)) (eUn (dIsi "tuple") (eName 0)))) (tOr' (tBl (eBin dNe (eUn (dIsi "list") (eName 1)) (eUn (dIsi "list") (eName 0)))) (tBl (eBin dNe (eCall (o1of dLen) (nCons (eName 0) nNil)) (eCall (o1of dLen) (nCons (eName 1) nNil))))))
  (sSeq (sRet (eC (.bool false)))
  sNil)
  sNil)
  (sSeq (sRet (eBin dEq (eCall (o1of dLen) (nCons (eLst (nComp (itR1 (nCons (eCall (o1of dLen) (nCons (eName 1) nNil)) nNil)) (gSet 2) (X_law_same_1 R) (X_law_same_2 R) [2])) nNil)) (eC (.int 0))))
  sNil))
  sNil)
  (sSeq (sIf (tBl (eUn dIsN (eName 1)))
  (sSeq (sRet (eUn dIsN (eName 0)))
  sNil)
  sNil)
  (sSeq (sIf (tOr' (tTru (eUn (dIsi "bool") (eName 1))) (tTru (eUn (dIsi "bool") (eName 0))))
  (sSeq (sRet (eAnd (eUn (dIsi "bool") (eName 1)) (eAnd (eUn (dIsi "bool") (eName 0)) (eBin dEq (eName 0) (eName 1)))))
  sNil)
  sNil)
  (sSeq (sIf (tTru (eUn (dIsi "int") (eName 1)))
  (sSeq (sRet (eAnd (eUn (dIsi "int") (eName 0)) (eBin dEq (eName 0) (eName 1))))
  sNil)
  sNil)
  (sSeq (sRet (eAnd (eUn (dIsi "str") (eName 0)) (eBin dEq (eName 0) (eName 1))))
  sNil)))))
def F_law_same : Nat → List PyData → Option PyData
  | 0 => fun _ => none
  | n + 1 => defP (B_law_same (F_law_same n)) 2 1
def X_law_pool_1 : SF :=
  (sSeq (sSet 1 (eBin dMod (eCall (o1of dInt) (nCons (eBin dAdd (eBin dMul (eName 1) (eC (.int 31))) (eName 2)) nNil)) (eC (.int 1000003))))
  sNil)
def B_law_pool : SF :=
  (sSeq (sSet 1 (eC (.int 7)))
  (sSeq (sFor (itS (eLst (nSl (eName 0) none (some (eC (.int 63)))))) (gSet 2)
  X_law_pool_1)
  (sSeq (sRetL (nDisp (nCons (eLst (nCall (n1of dLstOf) (nCons (eName 0) nNil))) (nCons (eC (.int 0)) (nCons (eC (.int 0)) (nCons (eC (.int 0)) (nCons (eName 1) nNil)))))))
  sNil)))
def F_law_pool : List PyData → Option (List PyData) := defN B_law_pool 1 2
def X_law_spread_1 : SF :=
  (sSeq (sSet 1 (eBin dMod (eCall (o1of dInt) (nCons (eBin dAdd (eBin dAdd (eBin dMul (eName 1) (eC (.int 48271))) (eC (.int 12345))) (eName 3)) nNil)) (eC (.int 2147483647))))
  (sSeq (sSet 2 (eBin dAdd (eBin dMul (eName 2) (eC (.int 2147483647))) (eName 1)))
  sNil))
def B_law_spread : SF :=
  (sSeq (sSet 1 (eBin dMod (eCall (o1of dInt) (nCons (eName 0) nNil)) (eC (.int 2147483647))))
  (sSeq (sSet 2 (eC (.int 1)))
  (sSeq (sFor (itR1 (nCons (eC (.int 4)) nNil)) (gSet 3)
  X_law_spread_1)
  (sSeq (sRet (eName 2))
  sNil))))
def F_law_spread : List PyData → Option PyData := defP B_law_spread 1 3
def B_law_draw : SF :=
  (sSeq (sIf (tAnd' (tBl (eBin dLe (eIxL dIx 0 (eC (.int 2))) (eC (.int 0)))) (tBl (eBin dLt (eIxL dIx 0 (eC (.int 1))) (eCall (o1of dLen) (nCons (eIxL dIx 0 (eC (.int 0))) nNil)))))
  (sSeq (sSet 3 (eBin dIx (eIxL dIx 0 (eC (.int 0))) (eIxL dIx 0 (eC (.int 1)))))
  (sSeq (sSto 0 (eC (.int 1)) (eBin dAdd (eIxL dIx 0 (eC (.int 1))) (eC (.int 1))))
  (sSeq (sSto 0 (eC (.int 2)) (eName 3))
  (sSeq (sIf (tBl (eBin dLt (eName 3) (eC (.int 1000000000000000000))))
  (sSeq (sSto 0 (eC (.int 2)) (eCall F_law_spread (nCons (eName 3) nNil)))
  sNil)
  sNil)
  sNil))))
  sNil)
  (sSeq (sSto 0 (eC (.int 3)) (eBin dAdd (eIxL dIx 0 (eC (.int 3))) (eC (.int 1))))
  (sSeq (sIf (tBl (eBin dLe (eIxL dIx 0 (eC (.int 2))) (eC (.int 0))))
  (sSeq (sSet 4 (eBin dMod (eCall (o1of dInt) (nCons (eBin dAdd (eBin dAdd (eBin dMul (eIxL dIx 0 (eC (.int 4))) (eC (.int 48271))) (eBin dMul (eIxL dIx 0 (eC (.int 3))) (eC (.int 69621)))) (eC (.int 1))) nNil)) (eC (.int 2147483647))))
  (sSeq (sSet 4 (eBin dMod (eCall (o1of dInt) (nCons (eBin dAdd (eBin dMul (eName 4) (eC (.int 16807))) (eIxL dIx 0 (eC (.int 3)))) nNil)) (eC (.int 2147483629))))
  (sSeq (sRet (eBin dMod (eBin dDiv (eName 4) (eC (.int 5))) (eName 1)))
  sNil)))
  sNil)
  (sSeq (sSet 2 (eBin dMod (eCall (o1of dInt) (nCons (eIxL dIx 0 (eC (.int 2))) nNil)) (eName 1)))
  (sSeq (sSto 0 (eC (.int 2)) (eBin dDiv (eIxL dIx 0 (eC (.int 2))) (eName 1)))
  (sSeq (sRet (eName 2))
  sNil))))))
def F_law_draw : List PyData → List PyData → Option (PyData × List PyData) := defL B_law_draw 1 3
def X_law_has_1 : TF :=
  (tAnd' (tBl (eBin dLe (eBin dIx (eName 2) (eC (.int 0))) (eName 1))) (tBl (eBin dLe (eName 1) (eBin dIx (eName 2) (eC (.int 1))))))
def X_law_has_2 : EF :=
  (eName 2)
def B_law_has : SF :=
  (sSeq (sRet (eBin dGt (eCall (o1of dLen) (nCons (eLst (nComp (itS (eName 0)) (gSet 2) X_law_has_1 X_law_has_2 [2])) nNil)) (eC (.int 0))))
  sNil)
def F_law_has : List PyData → Option PyData := defP B_law_has 2 1
def X_law_union_1 : EF :=
  (eCall (o2of dMin) (nCons (eBin dIx (eName 5) (eC (.int 0))) (nCons (eBin dAdd (eName 1) (eC (.int 1))) nNil)))
def X_law_union_2 : EF :=
  (eCall (o2of dMin) (nCons (eBin dAdd (eBin dIx (eName 5) (eC (.int 1))) (eC (.int 1))) (nCons (eBin dAdd (eName 1) (eC (.int 1))) nNil)))
def X_law_union_3 : SF :=
  (sSeq (sIf (tTru (eCall F_law_has (nCons (eName 0) (nCons (eBin dIx (eName 2) (eName 4)) nNil))))
  (sSeq (sIf (tAnd' (tBl (eBin dGt (eUnL dLen 3) (eC (.int 0)))) (tBl (eBin dEq (eBin dAdd (eBin dIx (eIxL dIx 3 (eUn dNeg (eC (.int 1)))) (eC (.int 1))) (eC (.int 1))) (eBin dIx (eName 2) (eName 4)))))
  (sSeq (sSto 3 (eUn dNeg (eC (.int 1))) (eTup (nCons (eBin dIx (eIxL dIx 3 (eUn dNeg (eC (.int 1)))) (eC (.int 0))) (nCons (eBin dSub (eBin dIx (eName 2) (eBin dAdd (eName 4) (eC (.int 1)))) (eC (.int 1))) nNil))))
  sNil)
  (sSeq (sApp 3 (eTup (nCons (eBin dIx (eName 2) (eName 4)) (nCons (eBin dSub (eBin dIx (eName 2) (eBin dAdd (eName 4) (eC (.int 1)))) (eC (.int 1))) nNil))))
  sNil))
  sNil)
  sNil)
  sNil)
def B_law_union : SF :=
  (sSeq (sSet 2 (eLst (nCall (n1of dSortSet) (nCons (eBin dAdd (eBin dAdd (eLst (nDisp (nCons (eC (.int 0)) (nCons (eBin dAdd (eName 1) (eC (.int 1))) nNil)))) (eLst (nComp (itS (eName 0)) (gSet 5) tYesF X_law_union_1 [5]))) (eLst (nComp (itS (eName 0)) (gSet 5) tYesF X_law_union_2 [5]))) nNil))))
  (sSeq (sSetL 3 (nDisp nNil))
  (sSeq (sFor (itR1 (nCons (eBin dSub (eCall (o1of dLen) (nCons (eName 2) nNil)) (eC (.int 1))) nNil)) (gSet 4)
  X_law_union_3)
  (sSeq (sRet (eUnL dTupOf 3))
  sNil))))
def F_law_union : List PyData → Option PyData := defP B_law_union 2 4
def B_law_number : SF :=
  (sSeq (sSet 2 (eCallL F_law_draw 0 (nCons (eC (.int 4)) nNil)))
  (sSeq (sIf (tBl (eBin dEq (eName 2) (eC (.int 0))))
  (sSeq (sRet (eCallL F_law_draw 0 (nCons (eBin dAdd (eName 1) (eC (.int 1))) nNil)))
  sNil)
  sNil)
  (sSeq (sIf (tBl (eBin dEq (eName 2) (eC (.int 1))))
  (sSeq (sRet (eCall (o2of dMin) (nCons (eName 1) (nCons (eCallL F_law_draw 0 (nCons (eC (.int 12)) nNil)) nNil))))
  sNil)
  sNil)
  (sSeq (sIf (tBl (eBin dEq (eName 2) (eC (.int 2))))
  (sSeq (sRet (eCall (o2of dMax) (nCons (eC (.int 0)) (nCons (eBin dSub (eName 1) (eCallL F_law_draw 0 (nCons (eC (.int 12)) nNil))) nNil))))
  sNil)
  sNil)
  (sSeq (sRet (eCall (o2of dMin) (nCons (eName 1) (nCons (eBin dMul (eC (.int 256)) (eCallL F_law_draw 0 (nCons (eC (.int 256)) nNil))) nNil))))
  sNil)))))
def F_law_number : List PyData → List PyData → Option (PyData × List PyData) := defL B_law_number 1 1
def X_law_pairs_1 : SF :=
  (sSeq (sSet 5 (eCallL F_law_number 0 (nCons (eName 1) nNil)))
  (sSeq (sApp 3 (eTup (nCons (eName 5) (nCons (eCall (o2of dMin) (nCons (eName 1) (nCons (eBin dAdd (eName 5) (eBin dIx (eTup (nCons (eC (.int 0)) (nCons (eC (.int 1)) (nCons (eC (.int 3)) (nCons (eC (.int 255)) (nCons (eC (.int 5000)) nNil)))))) (eCallL F_law_draw 0 (nCons (eC (.int 5)) nNil)))) nNil))) nNil))))
  sNil))
def B_law_pairs : SF :=
  (sSeq (sSetL 3 (nDisp nNil))
  (sSeq (sFor (itR1 (nCons (eName 2) nNil)) (gSet 4)
  X_law_pairs_1)
  (sSeq (sRetO 3)
  sNil)))
def F_law_pairs : List PyData → List PyData → Option (PyData × List PyData) := defL B_law_pairs 2 3
def B_law_drawn_set : SF :=
  (sSeq (sRet (eCall F_law_union (nCons (eCallL F_law_pairs 0 (nCons (eName 1) (nCons (eCallL F_law_draw 0 (nCons (eBin dAdd (eName 2) (eC (.int 1))) nNil)) nNil))) (nCons (eName 1) nNil))))
  sNil)
def F_law_drawn_set : List PyData → List PyData → Option (PyData × List PyData) := defL B_law_drawn_set 2 0
def X_law_power_1 : SF :=
  (sSeq (sSet 1 (eBin dMul (eName 1) (eC (.int 2))))
  sNil)
def B_law_power : SF :=
  (sSeq (sSet 1 (eC (.int 1)))
  (sSeq (sFor (itR1 (nCons (eName 0) nNil)) (gSet 2)
  X_law_power_1)
  (sSeq (sRet (eName 1))
  sNil)))
def F_law_power : List PyData → Option PyData := defP B_law_power 1 2
def B_law_pick : SF :=
  (sSeq (sRet (eBin dIx (eName 1) (eCallL F_law_draw 0 (nCons (eCall (o1of dLen) (nCons (eName 1) nNil)) nNil))))
  sNil)
def F_law_pick : List PyData → List PyData → Option (PyData × List PyData) := defL B_law_pick 1 0
def B_law_is_integer : SF :=
  (sSeq (sRet (eAnd (eUn (dIsi "int") (eName 0)) (eNot (eUn (dIsi "bool") (eName 0)))))
  sNil)
def F_law_is_integer : List PyData → Option PyData := defP B_law_is_integer 1 0
end Pr_C
end
section
set_option linter.all false
set_option maxRecDepth 100000
set_option Elab.async false
namespace Pr_C
open PySem PG
/-! ### the pool -/
structure Pool where
  cells : List Int
  at_ : Int
  cur : Int
  n : Int
  salt : Int
def Pool.d (p : Pool) : List PyData := [.list (p.cells.map PyData.int), .int p.at_, .int p.cur, .int p.n, .int p.salt]
def Pool.ok (p : Pool) : Prop := 0 ≤ p.at_
@[simp] theorem ixOf_len (n : Nat) (i : Int) (h0 : 0 ≤ i) (h1 : i < n) : ixOf n i = some i.toNat := by simp [ixOf, h0, h1]
theorem rng4 : rng 0 4 = [.int 0, .int 1, .int 2, .int 3] := rfl
theorem spread_ok (c : Int) : ∃ t, F_law_spread [.int c] = some (.int t) := by
  simp [F_law_spread, defP, B_law_spread, X_law_spread_1, sFor, itR1, in62, rng4, forL]
theorem atD_at {cells : List Int} {i : Int} (h0 : 0 ≤ i) (h1 : i < cells.length) : ∃ c, atD (cells.map PyData.int) i = some (.int c) := by
  refine ⟨cells[i.toNat]'(by omega), ?_⟩
  simp [atD, ixOf, h0, h1]

def zed (salt n : Int) : Int := ((salt * 48271 + (n + 1) * 69621 + 1) % 2147483647 * 16807 + (n + 1)) % 2147483629 / 5
theorem draw_ok (p : Pool) (h : p.ok) (many : Int) (h0 : 0 < many) (h1 : many < 18446744073709551616) : ∃ (v : Int) (p' : Pool), F_law_draw p.d [.int many] = some (.int v, p'.d) ∧ p'.ok ∧ 0 ≤ v ∧ v < many := by
  obtain ⟨cells, a, cur, n, salt⟩ := p
  have hk : (0 : Int) ≤ a := h
  have hk1 : (0 : Int) ≤ a + 1 := by omega
  have e1 : ∀ x : Int, 0 ≤ x % many := fun x => Int.emod_nonneg _ (by omega)
  have e2 : ∀ x : Int, x % many < many := fun x => Int.emod_lt_of_pos _ h0
  by_cases c1 : cur ≤ 0
  · by_cases c2 : a < cells.length
    · obtain ⟨c, hc⟩ := atD_at hk c2
      by_cases c3 : c < 1000000000000000000
      · obtain ⟨t, ht⟩ := spread_ok c
        by_cases c4 : t ≤ 0
        · refine ⟨zed salt n % many, ⟨cells, a + 1, t, n + 1, salt⟩, ?_, hk1, e1 _, e2 _⟩
          simp [F_law_draw, B_law_draw, defL, Pool.d, zed, atD, ixOf, c1, c2, hk, ht, c3, c4, h0, h1] at hc ⊢
          simp [hc, ht, c3, c4, h0, h1]
        · refine ⟨t % many, ⟨cells, a + 1, t / many, n + 1, salt⟩, ?_, hk1, e1 _, e2 _⟩
          simp [F_law_draw, B_law_draw, defL, Pool.d, zed, atD, ixOf, c1, c2, hk, ht, c3, c4, h0, h1] at hc ⊢
          simp [hc, ht, c3, c4, h0, h1]
      · have c4 : ¬ c ≤ 0 := by omega
        refine ⟨c % many, ⟨cells, a + 1, c / many, n + 1, salt⟩, ?_, hk1, e1 _, e2 _⟩
        simp [F_law_draw, B_law_draw, defL, Pool.d, zed, atD, ixOf, c1, c2, hk, c3, c4, h0, h1] at hc ⊢
        simp [hc, c3, c4, h0, h1]
    · refine ⟨zed salt n % many, ⟨cells, a, cur, n + 1, salt⟩, ?_, hk, e1 _, e2 _⟩
      simp [F_law_draw, B_law_draw, defL, Pool.d, zed, atD, ixOf, c1, c2, h0, h1]
  · refine ⟨cur % many, ⟨cells, a, cur / many, n + 1, salt⟩, ?_, hk, e1 _, e2 _⟩
    simp [F_law_draw, B_law_draw, defL, Pool.d, zed, atD, ixOf, c1, h0, h1]

/-! ### loops -/
theorem forL_ind {g : GF} {b : SF} {P : List PyData → Rho → Prop} : ∀ (ds : List PyData) (ρ : Rho), P ds ρ → (∀ d r ρ, P (d :: r) ρ → ∃ ρ1 ρ2, g d ρ = some ρ1 ∧ b ρ1 = some (.next, ρ2) ∧ P r ρ2) → ∃ ρ', forL g b ds ρ = some (.next, ρ') ∧ P [] ρ'
  | [], ρ, h, _ => ⟨ρ, rfl, h⟩
  | d :: r, ρ, h, hs => by
    obtain ⟨ρ1, ρ2, e1, e2, h2⟩ := hs d r ρ h
    obtain ⟨ρ', e3, h3⟩ := forL_ind r ρ2 h2 hs
    exact ⟨ρ', by simp [forL, e1, e2, e3], h3⟩
/-- a comprehension that changes nothing -/
theorem compL_pure {g : GF} {t : TF} {e : EF} {vs : List Nat} {ρ : Rho} (c : PyData → Bool) (m : PyData → PyData) : ∀ (ds acc : List PyData), acc.length + ds.length ≤ 16777216 →
    (∀ d ∈ ds, ∃ ρ1, g d ρ = some ρ1 ∧ t ρ1 = some (c d, ρ1) ∧ (c d = true → e ρ1 = some (m d, ρ1)) ∧ plainAt ρ1 vs = true ∧ wipeR ρ1 vs = ρ) → compL g t e vs ds acc ρ = some (acc ++ (ds.filter c).map m, ρ)
  | [], acc, _, _ => by simp [compL]
  | d :: ds, acc, hl, h => by
    obtain ⟨ρ1, e1, e2, e3, e4, e5⟩ := h d (by simp)
    have hl' : acc.length + ds.length + 1 ≤ 16777216 := by simp only [List.length_cons] at hl; omega
    cases hc : c d with
    | false =>
      have ih := compL_pure c m ds acc (by omega) fun x hx => h x (by simp [hx])
      simp [compL, e1, e2, hc, e4, e5, ih]
    | true =>
      have ih := compL_pure c m ds (acc ++ [m d]) (by simp; omega) fun x hx => h x (by simp [hx])
      have hlt : acc.length < 16777216 := by omega
      simp [compL, e1, e2, e3 hc, hc, e4, e5, ih, hlt]
/-- .. that changes the state -/
theorem compL_ind {g : GF} {t : TF} {e : EF} {vs : List Nat} {P : List PyData → List PyData → Rho → Prop} : ∀ (ds acc : List PyData) (ρ : Rho), acc.length + ds.length ≤ 16777216 → P ds acc ρ →
    (∀ d r acc ρ, P (d :: r) acc ρ → ∃ ρ1 ρ2 y ρ3, g d ρ = some ρ1 ∧ t ρ1 = some (true, ρ2) ∧ e ρ2 = some (y, ρ3) ∧ plainAt ρ3 vs = true ∧ P r (acc ++ [y]) (wipeR ρ3 vs)) →
    ∃ out ρ', compL g t e vs ds acc ρ = some (out, ρ') ∧ P [] out ρ' ∧ out.length = acc.length + ds.length
  | [], acc, ρ, _, h, _ => ⟨acc, ρ, rfl, h, rfl⟩
  | d :: r, acc, ρ, hl, h, hs => by
    obtain ⟨ρ1, ρ2, y, ρ3, e1, e2, e3, e4, h2⟩ := hs d r acc ρ h
    simp only [List.length_cons] at hl
    obtain ⟨out, ρ', e5, h5, h6⟩ := compL_ind r (acc ++ [y]) _ (by simp; omega) h2 hs
    have hlt : acc.length < 16777216 := by omega
    exact ⟨out, ρ', by simp [compL, e1, e2, e3, e4, hlt, e5], h5, by rw [h6]; simp; omega⟩

/-! ### two data that are one -/
mutual
def dep : PyData → Nat
  | .list xs => depA xs + 1
  | .tuple xs => depA xs + 1
  | _ => 1
def depA : List PyData → Nat
  | [] => 0
  | x :: xs => max (dep x) (depA xs)
end
mutual
def nod : PyData → Bool
  | .list xs => nodA xs
  | .tuple xs => nodA xs
  | .dict _ => false
  | .str x => PyData.canLay0 (.str x)
  | _ => true
def nodA : List PyData → Bool
  | [] => true
  | x :: xs => nod x && nodA xs
end
theorem dep_mem : ∀ {xs : List PyData} {x : PyData}, x ∈ xs → dep x ≤ depA xs
  | y :: xs, x, h => by
    simp only [depA]
    rcases List.mem_cons.mp h with e | e
    · subst e; omega
    · have := dep_mem e; omega
theorem nod_mem : ∀ {xs : List PyData} {x : PyData}, nodA xs = true → x ∈ xs → nod x = true
  | y :: xs, x, h0, h => by
    simp only [nodA, Bool.and_eq_true] at h0
    rcases List.mem_cons.mp h with e | e
    · subst e; exact h0.1
    · exact nod_mem h0.2 e
theorem atD_nat {xs : List PyData} {k : Nat} (h : k < xs.length) : atD xs (k : Int) = some xs[k] := by
  have h2 : (k : Int) < (xs.length : Int) := by omega
  simp [atD, ixOf, h2, h]
theorem same_turn (n : Nat) (xs : List PyData) (d : PyData) (hix : ∀ i, dIx d (.int i) = atD xs i) (ih : ∀ x ∈ xs, F_law_same n [x, x] = some (.bool true)) (j : Nat) (hj' : j < xs.length) :
    X_law_same_1 (F_law_same n) [some (.v d), some (.v d), some (.v (.int (j : Nat)))] = some (false, [some (.v d), some (.v d), some (.v (.int (j : Nat)))]) := by
  have e1 : dIx d (.int (j : Nat)) = some xs[j] := by rw [hix, atD_nat hj']
  have e2 := ih xs[j] (List.getElem_mem hj')
  simp [X_law_same_1, -dIx, e1, e2]
theorem same_comp (n : Nat) (xs : List PyData) (d : PyData) (hix : ∀ i, dIx d (.int i) = atD xs i) (hl : xs.length < 16777216) (ih : ∀ x ∈ xs, F_law_same n [x, x] = some (.bool true)) :
    compL (gSet 2) (X_law_same_1 (F_law_same n)) (X_law_same_2 (F_law_same n)) [2] (rng 0 xs.length) [] [some (.v d), some (.v d), none] = some ([], [some (.v d), some (.v d), none]) := by
  have hr : (rng 0 xs.length).length = xs.length := by simp [rng]
  have this := compL_pure (g := gSet 2) (t := X_law_same_1 (F_law_same n)) (e := X_law_same_2 (F_law_same n)) (vs := [2]) (ρ := [some (.v d), some (.v d), none]) (fun _ => false) id (rng 0 xs.length) [] (by rw [hr, List.length_nil]; omega) fun k hk => by
        unfold rng at hk
        obtain ⟨j, hj, rfl⟩ := List.mem_map.mp hk
        have hj' : j < xs.length := by simpa using hj
        rw [Int.zero_add]
        exact ⟨[some (.v d), some (.v d), some (.v (.int (j : Nat)))], by simp, same_turn n xs d hix ih j hj', (fun z => by cases z), by simp [plainAt], by simp [wipeR]⟩
  have ef : (rng 0 xs.length).filter (fun _ => false) = [] := by simp [List.filter_eq_nil_iff]
  rw [this, ef]
  simp
theorem same_n (n : Nat) (xs : List PyData) (d : PyData) (hix : ∀ i, dIx d (.int i) = atD xs i) (hlen : dLen d = some (.int xs.length)) (hl : xs.length < 16777216) (ih : ∀ x ∈ xs, F_law_same n [x, x] = some (.bool true)) :
    nComp (itR1 (nCons (eCall (o1of dLen) (nCons (eName 1) nNil)) nNil)) (gSet 2) (X_law_same_1 (F_law_same n)) (X_law_same_2 (F_law_same n)) [2] [some (.v d), some (.v d), none] = some ([], [some (.v d), some (.v d), none]) := by
  have hin : in62 (xs.length : Int) = true := by
    simp only [in62, Bool.and_eq_true, decide_eq_true_eq]
    omega
  have h1 := same_comp n xs d hix hl ih
  simp [nComp, itR1, hlen, -dLen, hin, plainAt, wipeR, h1, restR]
theorem ix_lst (xs : List PyData) : ∀ i, dIx (.list xs) (.int i) = atD xs i := fun _ => rfl
theorem ix_tup' (xs : List PyData) : ∀ i, dIx (.tuple xs) (.int i) = atD xs i := fun _ => rfl
theorem len_lst (xs : List PyData) : dLen (.list xs) = some (.int xs.length) := rfl
theorem len_tup (xs : List PyData) : dLen (.tuple xs) = some (.int xs.length) := rfl
theorem same_end (f : NF) (d : PyData) (k2 : f [some (.v d), some (.v d), none] = some ([], [some (.v d), some (.v d), none])) :
    eBin dEq (eCall (o1of dLen) (nCons (eLst f) nNil)) (eC (.int 0)) [some (.v d), some (.v d), none] = some (.bool true, [some (.v d), some (.v d), none]) := by
  simp [k2]
theorem same_b5 (d : PyData) (hd : (∃ xs, d = .list xs) ∨ ∃ xs, d = .tuple xs) (B : SF) (g : EF) (h : g [some (.v d), some (.v d), none] = some (.bool true, [some (.v d), some (.v d), none])) :
 sSeq (sIf (tOr' (tTru (eUn (dIsi "tuple") (eName 1))) (tTru (eUn (dIsi "list") (eName 1))))
  (sSeq (sIf (tOr' (tBl (eBin dNe (eUn (dIsi "tuple") (eName 1)) (eUn (dIsi "tuple") (eName 0)))) (tOr' (tBl (eBin dNe (eUn (dIsi "list") (eName 1)) (eUn (dIsi "list") (eName 0)))) (tBl (eBin dNe (eCall (o1of dLen) (nCons (eName 0) nNil)) (eCall (o1of dLen) (nCons (eName 1) nNil))))))
  (sSeq (sRet (eC (.bool false)))
  sNil)
  sNil)
  (sSeq (sRet g)
  sNil))
  sNil) B [some (.v d), some (.v d), none] = some (.ret (.bool true), [some (.v d), some (.v d), none]) := by
  rcases hd with ⟨xs, rfl⟩ | ⟨xs, rfl⟩ <;> simp [h]
theorem same_last (b : SF) (d : PyData) (r : Rho) (h : b [some (.v d), some (.v d), none] = some (.ret (.bool true), r)) : defP b 2 1 [d, d] = some (.bool true) := by
  simp [defP, h]
theorem same_list (n : Nat) (xs : List PyData) (hl : xs.length < 16777216) (ih : ∀ x ∈ xs, F_law_same n [x, x] = some (.bool true)) : F_law_same (n + 1) [.list xs, .list xs] = some (.bool true) := by
  rw [F_law_same]
  refine same_last _ _ [some (.v (.list xs)), some (.v (.list xs)), none] ?_
  unfold B_law_same
  exact same_b5 _ (.inl ⟨xs, rfl⟩) _ _ (same_end _ _ (same_n n xs (.list xs) (ix_lst xs) (len_lst xs) hl ih))
theorem same_tup (n : Nat) (xs : List PyData) (hl : xs.length < 16777216) (ih : ∀ x ∈ xs, F_law_same n [x, x] = some (.bool true)) : F_law_same (n + 1) [.tuple xs, .tuple xs] = some (.bool true) := by
  rw [F_law_same]
  refine same_last _ _ [some (.v (.tuple xs)), some (.v (.tuple xs)), none] ?_
  unfold B_law_same
  exact same_b5 _ (.inr ⟨xs, rfl⟩) _ _ (same_end _ _ (same_n n xs (.tuple xs) (ix_tup' xs) (len_tup xs) hl ih))
theorem same_int (n : Nat) (i : Int) : F_law_same (n + 1) [.int i, .int i] = some (.bool true) := by
  simp [F_law_same, defP, B_law_same]
theorem same_bool (n : Nat) (i : Bool) : F_law_same (n + 1) [.bool i, .bool i] = some (.bool true) := by
  simp [F_law_same, defP, B_law_same]
theorem same_none (n : Nat) : F_law_same (n + 1) [.none, .none] = some (.bool true) := by
  simp [F_law_same, defP, B_law_same]
/-! ### pairs of ints -/
def pr (x : Int × Int) : PyData := .tuple [.int x.1, .int x.2]
def prs (l : List (Int × Int)) : List PyData := l.map pr
theorem same_pr (n : Nat) (x : Int × Int) : F_law_same (n + 2) [pr x, pr x] = some (.bool true) :=
  same_tup (n + 1) _ (by simp) fun y hy => by
    rcases List.mem_cons.mp hy with rfl | hy
    · exact same_int n _
    · rcases List.mem_cons.mp hy with rfl | hy
      · exact same_int n _
      · cases hy
theorem same_prsL (n : Nat) (l : List (Int × Int)) (hl : l.length < 16777216) : F_law_same (n + 3) [.list (prs l), .list (prs l)] = some (.bool true) :=
  same_list (n + 2) _ (by simpa [prs] using hl) fun y hy => by
    obtain ⟨x, _, rfl⟩ := List.mem_map.mp hy
    exact same_pr n x
theorem same_prsT (n : Nat) (l : List (Int × Int)) (hl : l.length < 16777216) : F_law_same (n + 3) [.tuple (prs l), .tuple (prs l)] = some (.bool true) :=
  same_tup (n + 2) _ (by simpa [prs] using hl) fun y hy => by
    obtain ⟨x, _, rfl⟩ := List.mem_map.mp hy
    exact same_pr n x
/-! ### drawn numbers -/
theorem number_ok (p : Pool) (h : p.ok) (top : Int) (h0 : 0 ≤ top) (h1 : top < 1000000000) : ∃ (v : Int) (p' : Pool), F_law_number p.d [.int top] = some (.int v, p'.d) ∧ p'.ok ∧ 0 ≤ v ∧ v ≤ top := by
  obtain ⟨t, p1, e1, k1, t0, t1⟩ := draw_ok p h 4 (by decide) (by decide)
  by_cases c0 : t = 0
  · subst c0
    obtain ⟨v, p2, e2, k2, v0, v1⟩ := draw_ok p1 k1 (top + 1) (by omega) (by omega)
    exact ⟨v, p2, by simp [F_law_number, B_law_number, defL, e1, e2], k2, v0, by omega⟩
  · by_cases c1 : t = 1
    · subst c1
      obtain ⟨v, p2, e2, k2, v0, v1⟩ := draw_ok p1 k1 12 (by decide) (by decide)
      exact ⟨if v < top then v else top, p2, by simp [F_law_number, B_law_number, defL, e1, e2], k2, by split <;> omega, by split <;> omega⟩
    · by_cases c2 : t = 2
      · subst c2
        obtain ⟨v, p2, e2, k2, v0, v1⟩ := draw_ok p1 k1 12 (by decide) (by decide)
        exact ⟨if top - v > 0 then top - v else 0, p2, by simp [F_law_number, B_law_number, defL, e1, e2], k2, by split <;> omega, by split <;> omega⟩
      · obtain ⟨v, p2, e2, k2, v0, v1⟩ := draw_ok p1 k1 256 (by decide) (by decide)
        exact ⟨if 256 * v < top then 256 * v else top, p2, by simp [F_law_number, B_law_number, defL, e1, e2, c0, c1, c2], k2, by split <;> omega, by split <;> omega⟩
/-! ### drawn pairs -/
def okPair (top : Int) (x : Int × Int) : Prop := 0 ≤ x.1 ∧ x.1 ≤ x.2 ∧ x.2 ≤ top
theorem rng_len (lo : Int) (n : Nat) : (rng lo n).length = n := by simp [rng]
theorem rng_mem {lo : Int} {n : Nat} {d : PyData} (h : d ∈ rng lo n) : ∃ k, k < n ∧ d = .int (lo + (k : Nat)) := by
  obtain ⟨k, hk, rfl⟩ := List.mem_map.mp h
  exact ⟨k, by simpa using hk, rfl⟩
theorem five_at {v : Int} (h0 : 0 ≤ v) (h1 : v < 5) : ∃ k : Int, 0 ≤ k ∧ k ≤ 5000 ∧ dIx (.tuple [.int 0, .int 1, .int 3, .int 255, .int 5000]) (.int v) = some (.int k) := by
  rcases (show v = 0 ∨ v = 1 ∨ v = 2 ∨ v = 3 ∨ v = 4 by omega) with rfl | rfl | rfl | rfl | rfl
  · exact ⟨0, by decide, by decide, rfl⟩
  · exact ⟨1, by decide, by decide, rfl⟩
  · exact ⟨3, by decide, by decide, rfl⟩
  · exact ⟨255, by decide, by decide, rfl⟩
  · exact ⟨5000, by decide, by decide, rfl⟩
def plainC (x : Option Cell) : Prop := x = none ∨ ∃ d, x = some (.v d)
theorem setV_at {ρ : Rho} {i : Nat} {d : PyData} {x : Option Cell} (h : ρ[i]? = some x) (hx : plainC x) : setV i d ρ = some (ρ.set i (some (.v d))) := by
  rcases hx with rfl | ⟨y, rfl⟩ <;> simp [h]
theorem pairs_ok (p : Pool) (h : p.ok) (top many : Int) (h0 : 0 ≤ top) (h1 : top < 1000000000) (m0 : 0 ≤ many) (m1 : many ≤ 1000) :
    ∃ (l : List (Int × Int)) (p' : Pool), F_law_pairs p.d [.int top, .int many] = some (.list (prs l), p'.d) ∧ p'.ok ∧ (∀ x ∈ l, okPair top x) ∧ l.length = many.toNat := by
  have hin : in62 many = true := by simp only [in62, Bool.and_eq_true, decide_eq_true_eq]; omega
  obtain ⟨ρ', e, l, p', x4, x5, rfl, k, ol, ll, _, _⟩ := forL_ind (g := gSet 4) (b := X_law_pairs_1) (P := fun ds ρ => ∃ (l : List (Int × Int)) (p' : Pool) (x4 x5 : Option Cell), ρ = [some (.l true p'.d), some (.v (.int top)), some (.v (.int many)), some (.l false (prs l)), x4, x5] ∧ p'.ok ∧ (∀ x ∈ l, okPair top x) ∧ l.length + ds.length = many.toNat ∧ plainC x4 ∧ plainC x5)
    (rng 0 many.toNat) [some (.l true p.d), some (.v (.int top)), some (.v (.int many)), some (.l false []), none, none] ⟨[], p, none, none, rfl, h, by simp, by simp [rng_len], .inl rfl, .inl rfl⟩ (by
      rintro d r ρ ⟨l, p', x4, x5, rfl, k, ol, ll, q4, q5⟩
      obtain ⟨v, p1, e1, k1, v0, v1⟩ := number_ok p' k top h0 h1
      obtain ⟨t, p2, e2, k2, t0, t1⟩ := draw_ok p1 k1 5 (by decide) (by decide)
      obtain ⟨c, c0, c1, e3⟩ := five_at t0 t1
      have hl : l.length < 16777216 := by simp only [List.length_cons] at ll; omega
      refine ⟨[some (.l true p'.d), some (.v (.int top)), some (.v (.int many)), some (.l false (prs l)), some (.v d), x5], _, ?_, ?_, l ++ [(v, if v + c < top then v + c else top)], p2, some (.v d), some (.v (.int v)), rfl, k2, ?_, ?_, .inr ⟨_, rfl⟩, .inr ⟨_, rfl⟩⟩
      · rcases q4 with rfl | ⟨y, rfl⟩ <;> simp
      · rcases q5 with rfl | ⟨y, rfl⟩ <;> simp [X_law_pairs_1, e1, e2, -dIx, e3, hl, prs, pr]
      · intro x hx
        rcases List.mem_append.mp hx with hx | hx
        · exact ol x hx
        · simp only [List.mem_singleton] at hx
          subst hx
          refine ⟨v0, ?_, ?_⟩
          · show v ≤ if v + c < top then v + c else top
            split <;> omega
          · show (if v + c < top then v + c else top) ≤ top
            split <;> omega
      · simp only [List.length_append, List.length_cons, List.length_nil] at ll ⊢
        omega)
  refine ⟨l, p', ?_, k, ol, by simpa using ll⟩
  simp [F_law_pairs, B_law_pairs, defL, sFor, itR1, hin, e]
end Pr_C
end
section
set_option Elab.async false
set_option linter.all false
set_option maxRecDepth 100000
namespace Pr_C
open PySem PG
abbrev IL (e : List Int) : List PyData := e.map PyData.int
theorem wp_draw {p : Pool} {n : Int} {Q : PyData → List PyData → Prop} (hp : p.ok) (h0 : 0 < n) (h1 : n < 18446744073709551616) (q : ∀ (v : Int) (p' : Pool), p'.ok → 0 ≤ v → v < n → Q (.int v) p'.d) : WP (F_law_draw p.d [.int n]) Q := by
  obtain ⟨v, p', e, k, a, b⟩ := draw_ok p hp n h0 h1
  exact ⟨_, _, e, q v p' k a b⟩
/-- what a def that draws gives, whatever the pool holds -/
def LS (F : List PyData → List PyData → Option (PyData × List PyData)) (xs : List PyData) (R : PyData → Prop) : Prop := ∀ p : Pool, p.ok → WP (F p.d xs) fun z ps => ∃ p' : Pool, p'.ok ∧ ps = p'.d ∧ R z
theorem wp_ls {F : List PyData → List PyData → Option (PyData × List PyData)} {xs : List PyData} {R : PyData → Prop} {p : Pool} {Q : PyData → List PyData → Prop} (h : LS F xs R) (hp : p.ok) (q : ∀ (z : PyData) (p' : Pool), p'.ok → R z → Q z p'.d) : WP (F p.d xs) Q :=
  (h p hp).mono fun z ps ⟨p', k, e, r⟩ => by subst e; exact q z p' k r
theorem ls_i {p : Pool} {Q : Prop} (hp : p.ok) (q : Q) : ∃ p' : Pool, p'.ok ∧ p.d = p'.d ∧ Q := ⟨p, hp, rfl, q⟩
local macro_rules | `(tactic| array_get_dec) => `(tactic| first | ((with_reducible apply PG.ws_set)) | ((with_reducible apply PG.ws_if)) | ((with_reducible apply PG.ws_ret)) | ((with_reducible apply PG.ws_setL)) | ((with_reducible apply PG.ws_expr)) | ((with_reducible apply PG.ws_nilc)) | ((with_reducible apply PG.ws_asc)) | ((with_reducible apply PG.ws_nil)) | ((with_reducible apply PG.ws_for)) | ((with_reducible apply PG.ws_asg)) | ((with_reducible apply PG.ws_par)) | ((with_reducible apply PG.ws_retL)) | ((with_reducible apply PG.ws_brk)) | ((with_reducible apply PG.ws_cont)) | ((with_reducible apply PG.ws_forn)) | ((with_reducible apply PG.ws_sto)) | ((with_reducible apply PG.ws_aug); (case hget => rfl)) | ((with_reducible apply PG.ws_app); (case hget => rfl)) | ((with_reducible apply PG.ws_retO); (case hget => rfl)) | ((with_reducible apply PG.we_name); (case hget => rfl)) | ((with_reducible apply PG.we_c)) | ((with_reducible apply PG.we_bin)) | ((with_reducible apply PG.we_un)) | ((with_reducible apply PG.we_call)) | ((with_reducible apply PG.we_callL); (case hget => rfl)) | ((with_reducible apply PG.we_tup)) | ((with_reducible apply PG.we_lst)) | ((with_reducible apply PG.we_if)) | ((with_reducible apply PG.we_ixL); (case hget => rfl)) | ((with_reducible apply PG.we_unL); (case hget => rfl)) | ((with_reducible apply PG.we_and)) | ((with_reducible apply PG.we_or)) | ((with_reducible apply PG.we_not)) | ((with_reducible apply PG.we_chain)) | ((with_reducible apply PG.we_slT)) | ((with_reducible apply PG.wn_cons)) | ((with_reducible apply PG.wn_nil)) | ((with_reducible apply PG.wn_star)) | ((with_reducible apply PG.wn_disp)) | ((with_reducible apply PG.wn_call)) | ((with_reducible apply PG.wn_sl)) | ((with_reducible apply PG.wn_its)) | ((with_reducible apply PG.wn_r1)) | ((with_reducible apply PG.wn_r2)) | ((with_reducible apply PG.wn_r3)) | ((with_reducible apply PG.wt_tru)) | ((with_reducible apply PG.wt_bl)) | ((with_reducible apply PG.wt_and)) | ((with_reducible apply PG.wt_or)) | ((with_reducible apply PG.wt_not)) | ((with_reducible apply PG.wt_yes)) | ((with_reducible apply PG.wt_truL); (case hget => rfl)) | ((with_reducible apply PG.wo_none)) | ((with_reducible apply PG.wo_some)) | ((with_reducible apply PG.wg_p0)) | ((with_reducible apply PG.wg_tup)) | ((with_reducible apply PG.wg_ps); (case hset => (repeat' (first | exact PG.SetR.h0 | exact PG.SetR.h1 | exact PG.SetR.hl | exact PG.SetR.hc (by assumption) | apply PG.SetR.s)))) | ((with_reducible apply PG.wg_set); (case hset => (repeat' (first | exact PG.SetR.h0 | exact PG.SetR.h1 | exact PG.SetR.hl | exact PG.SetR.hc (by assumption) | apply PG.SetR.s)))) | ((with_reducible apply PG.we_frz); (case hget => rfl); (case hset => (repeat' (first | exact PG.SetR.h0 | exact PG.SetR.h1 | exact PG.SetR.hl | exact PG.SetR.hc (by assumption) | apply PG.SetR.s)))) | ((with_reducible apply PG.setr_i); (case hset => (repeat' (first | exact PG.SetR.h0 | exact PG.SetR.h1 | exact PG.SetR.hl | exact PG.SetR.hc (by assumption) | apply PG.SetR.s)))) | ((with_reducible apply PG.setl_i); (case hset => (repeat' (first | exact PG.SetLR.h0 | exact PG.SetLR.h1 | exact PG.SetLR.hl | apply PG.SetLR.s)))) | ((with_reducible apply PG.put_i); (case hset => (repeat' (first | exact PG.PutR.h | apply PG.PutR.s)))) | ((with_reducible apply PG.pool_i); (case hget => rfl)) | ((with_reducible apply PG.bool_i)) | ((with_reducible apply PG.int_i)) | ((with_reducible apply PG.seqL_i)) | ((with_reducible apply PG.seqT_i)) | ((with_reducible apply PG.seqR_i)) | ((with_reducible apply PG.starT_i)) | ((with_reducible apply PG.starL_i)) | ((with_reducible apply PG.len_i); (case h => rfl)) | ((with_reducible apply PG.tup_i)) | ((with_reducible apply PG.yes_i)) | ((with_reducible apply PG.no_i)) | ((with_reducible apply PG.nyes_i)) | ((with_reducible apply PG.nno_i)) | ((with_reducible apply PG.wa_add)) | ((with_reducible apply PG.wa_sub)) | ((with_reducible apply PG.wa_lt)) | ((with_reducible apply PG.wa_le)) | ((with_reducible apply PG.wa_gt)) | ((with_reducible apply PG.wa_ge)) | ((with_reducible apply PG.wa_eqI)) | ((with_reducible apply PG.wa_neI)) | ((with_reducible apply PG.wa_neg)) | ((with_reducible apply PG.wa_lenL)) | ((with_reducible apply PG.wa_lenT)) | ((with_reducible apply PG.wa_int)) | ((with_reducible apply PG.wa_max)) | ((with_reducible apply PG.wa_min)) | ((with_reducible apply PG.wb_bool)) | ((with_reducible apply PG.wb_int)) | ((with_reducible apply PG.endP_ret)) | ((with_reducible apply PG.endP_retL)) | ((with_reducible apply PG.endN_ret)) | ((with_reducible apply PG.endL_ret)) | ((with_reducible apply PG.endL_retL)) | ((with_reducible apply PG.wa_binO)) | ((with_reducible apply PG.ch_le)) | ((with_reducible apply PG.ch_lt)) | ((with_reducible apply PG.ch_eq)) | ((with_reducible apply PG.wa_ix0); (case hget => rfl)) | ((with_reducible apply PG.wa_ix1); (case hget => rfl)) | ((with_reducible apply PG.wa_ix2); (case hget => rfl)) | ((with_reducible apply PG.wa_ix3); (case hget => rfl)) | ((with_reducible apply PG.wa_ix4); (case hget => rfl)) | ((with_reducible apply PG.wa_ix5); (case hget => rfl)) | ((with_reducible apply PG.wa_ix6); (case hget => rfl)) | ((with_reducible apply PG.wa_ix7); (case hget => rfl)) | ((with_reducible apply PG.wa_ix8); (case hget => rfl)) | ((with_reducible apply PG.wa_il0); (case hget => rfl)) | ((with_reducible apply PG.wa_il1); (case hget => rfl)) | ((with_reducible apply PG.wa_il2); (case hget => rfl)) | ((with_reducible apply PG.wa_ev1)) | ((with_reducible apply PG.wa_ev)) | ((with_reducible apply PG.wl_ev)) | ((with_reducible apply PG.wb_ev)) | ((with_reducible apply PG.wa_mod); (case h1 => omega)) | ((with_reducible apply PG.wa_div); (case h1 => omega); (case h2 => omega)) | ((with_reducible apply PG.wa_mulR); (case h1 => omega); (case h2 => omega)) | ((with_reducible apply PG.wa_mulL); (case h1 => omega); (case h2 => omega)) | ((with_reducible apply PG.wa_shr); (case h1 => omega)))
local macro_rules | `(tactic| array_get_dec) => `(tactic| first | ((with_reducible apply Pr_C.wp_draw); (case hp => assumption); (case h0 => omega); (case h1 => omega)) | ((with_reducible apply Pr_C.ls_i); (case hp => assumption)))

theorem number_ls (top : Int) (h0 : 0 ≤ top) (h1 : top < 1000000000) : LS F_law_number [.int top] fun d => ∃ v, d = .int v ∧ 0 ≤ v ∧ v ≤ top := by
  intro p hp
  unfold F_law_number; refine PG.wp_def rfl ?_; simp only [PG.rhoL_eq, List.map_cons, List.map_nil, List.replicate_succ, List.replicate_zero, List.cons_append, List.nil_append]; unfold B_law_number
  (repeat array_get_dec); intro v1 p1 k1 a1 b1; (repeat array_get_dec)
  (first | (with_reducible apply PG.dec_i) | (with_reducible apply PG.decn_i) | (with_reducible apply PG.bit_i)) <;> intro h
  · (repeat array_get_dec); intro v2 p2 k2 a2 b2; (repeat array_get_dec); (refine ⟨?_, ?_⟩ <;> (try split) <;> omega)
  (repeat array_get_dec); (first | (with_reducible apply PG.dec_i) | (with_reducible apply PG.decn_i) | (with_reducible apply PG.bit_i)) <;> intro h
  · (repeat array_get_dec); intro v2 p2 k2 a2 b2; (repeat array_get_dec); (refine ⟨?_, ?_⟩ <;> (try split) <;> omega)
  (repeat array_get_dec); (first | (with_reducible apply PG.dec_i) | (with_reducible apply PG.decn_i) | (with_reducible apply PG.bit_i)) <;> intro h
  · (repeat array_get_dec); intro v2 p2 k2 a2 b2; (repeat array_get_dec); (refine ⟨?_, ?_⟩ <;> (try split) <;> omega)
  (repeat array_get_dec); intro v2 p2 k2 a2 b2; (repeat array_get_dec); (refine ⟨?_, ?_⟩ <;> (try split) <;> omega)
end Pr_C
end
section
set_option linter.all false
set_option maxRecDepth 100000
set_option Elab.async false
namespace Pr_C
open PySem PG
/-! ### loops over a range -/
theorem forL_rng {g : GF} {b : SF} {P : Nat → Rho → Prop} (n : Nat) (ρ : Rho) (h0 : P 0 ρ) (hs : ∀ k ρ, k < n → P k ρ → ∃ ρ1 ρ2, g (.int (k : Nat)) ρ = some ρ1 ∧ b ρ1 = some (.next, ρ2) ∧ P (k + 1) ρ2) : ∃ ρ', forL g b (rng 0 n) ρ = some (.next, ρ') ∧ P n ρ' := by
  obtain ⟨ρ', e, k, hk, hd, hp⟩ := forL_ind (g := g) (b := b) (P := fun ds ρ => ∃ k, k ≤ n ∧ ds = (rng 0 n).drop k ∧ P k ρ) (rng 0 n) ρ ⟨0, by omega, rfl, h0⟩ (by
    rintro d r ρ ⟨k, hk, hd, hp⟩
    have hl := congrArg List.length hd
    simp only [List.length_cons, List.length_drop, rng_len] at hl
    have hk' : k < (rng 0 n).length := by rw [rng_len]; omega
    rw [List.drop_eq_getElem_cons hk'] at hd
    obtain ⟨rfl, rfl⟩ := List.cons.inj hd
    have hx : (rng 0 n)[k] = .int (k : Nat) := by simp [rng]
    obtain ⟨ρ1, ρ2, e1, e2, h2⟩ := hs k ρ (by omega) hp
    exact ⟨ρ1, ρ2, by rw [hx]; exact e1, e2, k + 1, by omega, rfl, h2⟩)
  have hl := congrArg List.length hd
  simp only [List.length_nil, List.length_drop, rng_len] at hl
  have : k = n := by omega
  subst this
  exact ⟨ρ', e, hp⟩
/-! ### the pool -/
theorem pool_ok (ns : List Int) (h : ns.length ≤ 63) : ∃ p : Pool, F_law_pool [RO (ns.map PyData.int)] = some p.d ∧ p.ok := by
  obtain ⟨ρ', e, s, x2, rfl, _, _⟩ := forL_ind (g := gSet 2) (b := X_law_pool_1) (P := fun ds ρ => ∃ (s : Int) (x2 : Option Cell), ρ = [some (.v (RO (ns.map PyData.int))), some (.v (.int s)), x2] ∧ plainC x2 ∧ ∀ d ∈ ds, ∃ i : Int, d = .int i)
    (cutD (ns.map PyData.int) none (some 63)) [some (.v (RO (ns.map PyData.int))), some (.v (.int 7)), none] ⟨7, none, rfl, .inl rfl, by
      intro d hd
      have := List.mem_of_mem_drop (List.mem_of_mem_take hd)
      obtain ⟨i, _, rfl⟩ := List.mem_map.mp this
      exact ⟨i, rfl⟩⟩ (by
      rintro d r ρ ⟨s, x2, rfl, q2, hd⟩
      obtain ⟨i, rfl⟩ := hd d (by simp)
      refine ⟨[some (.v (RO (ns.map PyData.int))), some (.v (.int s)), some (.v (.int i))], [some (.v (RO (ns.map PyData.int))), some (.v (.int ((s * 31 + i) % 1000003))), some (.v (.int i))], ?_, ?_, _, _, rfl, .inr ⟨_, rfl⟩, fun d h => hd d (by simp [h])⟩
      · rcases q2 with rfl | ⟨y, rfl⟩ <;> simp
      · simp [X_law_pool_1])
  refine ⟨⟨ns, 0, 0, 0, s⟩, ?_, by simp [Pool.ok]⟩
  simp only [RO] at e ⊢
  simp [F_law_pool, B_law_pool, defN, sFor, e, Pool.d]
/-! ### has -/
def hasP (l : List (Int × Int)) (x : Int) : Bool := l.any fun p => decide (p.1 ≤ x) && decide (x ≤ p.2)
def cHas (x : Int) : PyData → Bool
  | .tuple [.int a, .int b] => decide (a ≤ x) && decide (x ≤ b)
  | _ => false
@[simp] theorem dIx_p0 (a b : PyData) : dIx (.tuple [a, b]) (.int 0) = some a := rfl
@[simp] theorem dIx_p1 (a b : PyData) : dIx (.tuple [a, b]) (.int 1) = some b := rfl
theorem has_filter (l : List (Int × Int)) (c : PyData → Bool) (c' : Int × Int → Bool) (h : ∀ p, c (pr p) = c' p) : decide ((0 : Int) < (((prs l).filter c).length : Nat)) = l.any c' := by
  induction l with
  | nil => rfl
  | cons p l ih =>
    simp only [prs, List.map_cons, List.filter_cons, List.any_cons] at ih ⊢
    rw [h p]
    cases c' p
    · simp only [Bool.false_eq_true, if_false, Bool.false_or]; exact ih
    · simp only [if_true, Bool.true_or, decide_eq_true_eq, List.length_cons]; omega
theorem has_ok (l : List (Int × Int)) (d : PyData) (x : Int) (hd : d = .list (prs l) ∨ d = .tuple (prs l)) (hl : l.length ≤ 16777216) : F_law_has [d, .int x] = some (.bool (hasP l x)) := by
  have hit : itS (eName 0) [some (.v d), some (.v (.int x)), none] = some (prs l, [some (.v d), some (.v (.int x)), none]) := by rcases hd with rfl | rfl <;> rfl
  have hc := compL_pure (g := gSet 2) (t := X_law_has_1) (e := X_law_has_2) (vs := [2]) (ρ := [some (.v d), some (.v (.int x)), none]) (cHas x) id (prs l) [] (by simpa [prs] using hl) (by
    intro y hy
    obtain ⟨p, _, rfl⟩ := List.mem_map.mp hy
    refine ⟨[some (.v d), some (.v (.int x)), some (.v (pr p))], by simp, ?_, by simp [X_law_has_2], by simp [plainAt], by simp [wipeR]⟩
    simp only [pr, X_law_has_1, cHas]
    by_cases c1 : p.1 ≤ x <;> simp [-dIx, c1])
  have hn : nComp (itS (eName 0)) (gSet 2) X_law_has_1 X_law_has_2 [2] [some (.v d), some (.v (.int x)), none] = some ((prs l).filter (cHas x), [some (.v d), some (.v (.int x)), none]) := by
    unfold nComp
    rw [hit]
    simp [plainAt, wipeR, restR, hc]
  have hf := has_filter l (cHas x) (fun p => decide (p.1 ≤ x) && decide (x ≤ p.2)) (fun p => rfl)
  simp only [F_law_has, B_law_has, defP]
  simp [hn, -Int.natCast_pos] at hf ⊢
  rw [hasP, ← hf]
/-! ### unions -/
theorem intsOf_ints : ∀ ns : List Int, intsOf (ns.map PyData.int) = some ns
  | [] => rfl
  | k :: r => by simp [intsOf, intsOf_ints r]
theorem dSortSet_ints (ns : List Int) (h : ns.length < 64) : dSortSet (.list (ns.map PyData.int)) = some ((sortI ns).map PyData.int) := by
  simp [dSortSet, intsOf_ints, h]
theorem atD_ints (ns : List Int) (k : Nat) (h : k < ns.length) : dIx (.list (ns.map PyData.int)) (.int (k : Nat)) = some (.int ns[k]) := by
  show atD _ _ = _
  rw [atD_nat (by simpa using h)]
  simp
theorem ixOf_last (xs : List PyData) (y : PyData) : ixOf (xs ++ [y]).length (-1) = some xs.length := by
  have h : (-1 : Int) + ((xs ++ [y]).length : Int) = xs.length := by simp; omega
  have h0 : ¬ (0 : Int) ≤ -1 := by decide
  have h1 : -((xs ++ [y]).length : Int) ≤ -1 := by simp; omega
  unfold ixOf
  rw [if_neg h0, if_pos h1, h]
  simp
theorem atD_last (xs : List PyData) (y : PyData) : dIx (.list (xs ++ [y])) (.int (-1)) = some y := by
  show atD _ _ = _
  unfold atD
  rw [ixOf_last]
  simp
def mn1 (top : Int) : PyData → PyData
  | .tuple [.int a, .int b] => .int (if top + 1 < a then top + 1 else a)
  | _ => .none
def mn2 (top : Int) : PyData → PyData
  | .tuple [.int a, .int b] => .int (if top + 1 < b + 1 then top + 1 else b + 1)
  | _ => .none
def edges (l : List (Int × Int)) (top : Int) : List Int := [0, top + 1] ++ l.map (fun p => if top + 1 < p.1 then top + 1 else p.1) ++ l.map (fun p => if top + 1 < p.2 + 1 then top + 1 else p.2 + 1)
theorem map_true (xs : List PyData) : xs.filter (fun _ => true) = xs := by simp
theorem comp_u1 (l : List (Int × Int)) (top : Int) (hl : l.length ≤ 30) : nComp (itS (eName 0)) (gSet 5) tYesF X_law_union_1 [5] [some (.v (.list (prs l))), some (.v (.int top)), none, none, none, none] = some (l.map (fun p => PyData.int (if top + 1 < p.1 then top + 1 else p.1)), [some (.v (.list (prs l))), some (.v (.int top)), none, none, none, none]) := by
  have hc := compL_pure (g := gSet 5) (t := tYesF) (e := X_law_union_1) (vs := [5]) (ρ := [some (.v (.list (prs l))), some (.v (.int top)), none, none, none, none]) (fun _ => true) (mn1 top) (prs l) [] (by simp [prs]; omega) (by
    intro y hy
    obtain ⟨p, _, rfl⟩ := List.mem_map.mp hy
    exact ⟨[some (.v (.list (prs l))), some (.v (.int top)), none, none, none, some (.v (pr p))], by simp, by simp, by simp [X_law_union_1, pr, mn1, -dIx], by simp [plainAt], by simp [wipeR]⟩)
  rw [map_true] at hc
  have e : (prs l).map (mn1 top) = l.map (fun p => PyData.int (if top + 1 < p.1 then top + 1 else p.1)) := by simp [prs, pr, mn1]
  rw [e] at hc
  unfold nComp
  simp [plainAt, wipeR, restR] at hc ⊢
  simp [hc]
theorem comp_u2 (l : List (Int × Int)) (top : Int) (hl : l.length ≤ 30) : nComp (itS (eName 0)) (gSet 5) tYesF X_law_union_2 [5] [some (.v (.list (prs l))), some (.v (.int top)), none, none, none, none] = some (l.map (fun p => PyData.int (if top + 1 < p.2 + 1 then top + 1 else p.2 + 1)), [some (.v (.list (prs l))), some (.v (.int top)), none, none, none, none]) := by
  have hc := compL_pure (g := gSet 5) (t := tYesF) (e := X_law_union_2) (vs := [5]) (ρ := [some (.v (.list (prs l))), some (.v (.int top)), none, none, none, none]) (fun _ => true) (mn2 top) (prs l) [] (by simp [prs]; omega) (by
    intro y hy
    obtain ⟨p, _, rfl⟩ := List.mem_map.mp hy
    exact ⟨[some (.v (.list (prs l))), some (.v (.int top)), none, none, none, some (.v (pr p))], by simp, by simp, by simp [X_law_union_2, pr, mn2, -dIx], by simp [plainAt], by simp [wipeR]⟩)
  rw [map_true] at hc
  have e : (prs l).map (mn2 top) = l.map (fun p => PyData.int (if top + 1 < p.2 + 1 then top + 1 else p.2 + 1)) := by simp [prs, pr, mn2]
  rw [e] at hc
  unfold nComp
  simp [plainAt, wipeR, restR] at hc ⊢
  simp [hc]
/-- one edge -/
theorem turn_no (L : PyData) (E F : List PyData) (top : Int) (k : PyData) (e0 : PyData) (h0 : dIx (.list E) k = some e0) (hh : F_law_has [L, e0] = some (.bool false)) :
    X_law_union_3 [some (.v L), some (.v (.int top)), some (.v (.list E)), some (.l false F), some (.v k), none] = some (.next, [some (.v L), some (.v (.int top)), some (.v (.list E)), some (.l false F), some (.v k), none]) := by
  simp [X_law_union_3, -dIx, h0, hh]
theorem turn_new (L : PyData) (E F : List PyData) (top k e0 e1 : Int) (h0 : dIx (.list E) (.int k) = some (.int e0)) (h1 : dIx (.list E) (.int (k + 1)) = some (.int e1)) (hh : F_law_has [L, .int e0] = some (.bool true)) (hf : F.length < 16777216) (hn : F = [] ∨ ∃ G a b, F = G ++ [.tuple [.int a, .int b]] ∧ b + 1 ≠ e0) :
    X_law_union_3 [some (.v L), some (.v (.int top)), some (.v (.list E)), some (.l false F), some (.v (.int k)), none] = some (.next, [some (.v L), some (.v (.int top)), some (.v (.list E)), some (.l false (F ++ [.tuple [.int e0, .int (e1 - 1)]])), some (.v (.int k)), none]) := by
  rcases hn with rfl | ⟨G, a, b, rfl, hne⟩
  · simp [X_law_union_3, -dIx, h0, h1, hh]
  · have hl := atD_last G (.tuple [.int a, .int b])
    have hp : (0 : Int) < ((G ++ [PyData.tuple [.int a, .int b]]).length : Int) := by simp
    generalize G ++ [PyData.tuple [.int a, .int b]] = F at *
    have hp' : 0 < F.length := by omega
    simp [X_law_union_3, -dIx, h0, h1, hh, hl, hne, hf, hp']
theorem turn_join (L : PyData) (E G : List PyData) (top k e0 e1 a b : Int) (h0 : dIx (.list E) (.int k) = some (.int e0)) (h1 : dIx (.list E) (.int (k + 1)) = some (.int e1)) (hh : F_law_has [L, .int e0] = some (.bool true)) (hne : b + 1 = e0) :
    X_law_union_3 [some (.v L), some (.v (.int top)), some (.v (.list E)), some (.l false (G ++ [.tuple [.int a, .int b]])), some (.v (.int k)), none] = some (.next, [some (.v L), some (.v (.int top)), some (.v (.list E)), some (.l false (G ++ [.tuple [.int a, .int (e1 - 1)]])), some (.v (.int k)), none]) := by
  have hl := atD_last G (.tuple [.int a, .int b])
  have hi := ixOf_last G (.tuple [.int a, .int b])
  have hs : (G ++ [PyData.tuple [.int a, .int b]]).set G.length (.tuple [.int a, .int (e1 - 1)]) = G ++ [.tuple [.int a, .int (e1 - 1)]] := by simp
  have hp : (0 : Int) < ((G ++ [PyData.tuple [.int a, .int b]]).length : Int) := by simp
  generalize G ++ [PyData.tuple [.int a, .int b]] = F at *
  have hp' : 0 < F.length := by omega
  simp [X_law_union_3, -dIx, h0, h1, hh, hl, hne, hi, hs, hp']
/-- a set as the document has it, but for the gaps -/
def PwS (l : List (Int × Int)) : Prop := l.Pairwise fun x y => x.2 < y.1
theorem pw_snoc {l : List (Int × Int)} {y : Int × Int} (h : PwS l) (hy : ∀ x ∈ l, x.2 < y.1) : PwS (l ++ [y]) := by
  unfold PwS
  rw [List.pairwise_append]
  exact ⟨h, by simp, fun x hx z hz => by simp only [List.mem_singleton] at hz; subst hz; exact hy x hx⟩
theorem pw_left {l m : List (Int × Int)} (h : PwS (l ++ m)) : PwS l := (List.pairwise_append.mp h).1
def Fin (L : PyData) (E : List PyData) (top k B : Int) (n : Nat) (r : List (Int × Int)) (r' : List (Int × Int)) : Prop := (∀ x ∈ r', okPair top x) ∧ PwS r' ∧ r'.length ≤ n ∧ (∀ x ∈ r', x.2 < B) ∧ X_law_union_3 [some (.v L), some (.v (.int top)), some (.v (.list E)), some (.l false (prs r)), some (.v (.int k)), none] = some (.next, [some (.v L), some (.v (.int top)), some (.v (.list E)), some (.l false (prs r')), some (.v (.int k)), none])
theorem union_loop (L : PyData) (l : List (Int × Int)) (hL : L = .list (prs l)) (hl : l.length ≤ 16777216) (top : Int) (E : List Int) (hE : E.Pairwise (· < ·)) (hlen : E.length ≤ 64) (hb : ∀ e ∈ E, 0 ≤ e ∧ e ≤ top + 1) :
    ∃ (r : List (Int × Int)) (x4 : Option Cell), forL (gSet 4) X_law_union_3 (rng 0 (E.length - 1)) [some (.v L), some (.v (.int top)), some (.v (.list (E.map PyData.int))), some (.l false []), none, none] = some (.next, [some (.v L), some (.v (.int top)), some (.v (.list (E.map PyData.int))), some (.l false (prs r)), x4, none]) ∧ (∀ x ∈ r, okPair top x) ∧ PwS r ∧ r.length ≤ 64 := by
  obtain ⟨ρ', e, r, x4, rfl, q4, o, w, c, _⟩ := forL_rng (g := gSet 4) (b := X_law_union_3) (P := fun k ρ => ∃ (r : List (Int × Int)) (x4 : Option Cell), ρ = [some (.v L), some (.v (.int top)), some (.v (.list (E.map PyData.int))), some (.l false (prs r)), x4, none] ∧ plainC x4 ∧ (∀ x ∈ r, okPair top x) ∧ PwS r ∧ r.length ≤ k ∧ ∀ e, E[k]? = some e → ∀ x ∈ r, x.2 < e)
    (E.length - 1) [some (.v L), some (.v (.int top)), some (.v (.list (E.map PyData.int))), some (.l false []), none, none] ⟨[], none, rfl, .inl rfl, by simp, by simp [PwS], by simp, by simp⟩ (by
      rintro k ρ hk ⟨r, x4, rfl, q4, o, w, c, he⟩
      have k0 : k < E.length := by omega
      have k1 : k + 1 < E.length := by omega
      have hlt : E[k] < E[k + 1] := List.pairwise_iff_getElem.mp hE k (k + 1) k0 k1 (by omega)
      have b0 := hb E[k] (List.getElem_mem k0)
      have b1 := hb E[k + 1] (List.getElem_mem k1)
      have a0 := atD_ints E k k0
      have a1 := atD_ints E (k + 1) k1
      have he := he E[k] (by simp [k0])
      have hs : ∀ e, E[k + 1]? = some e → e = E[k + 1] := fun e h => by simpa [k1, eq_comm] using h
      generalize hA : E[k] = A at *
      generalize hB : E[k + 1] = B at *
      have hg : ∀ (d : PyData), gSet 4 d [some (.v L), some (.v (.int top)), some (.v (.list (E.map PyData.int))), some (.l false (prs r)), x4, none] = some [some (.v L), some (.v (.int top)), some (.v (.list (E.map PyData.int))), some (.l false (prs r)), some (.v d), none] := by
        intro d
        rcases q4 with rfl | ⟨y, rfl⟩ <;> rfl
      have hh := has_ok l L A (.inl hL) hl
      cases hc : hasP l A with
      | false =>
        rw [hc] at hh
        exact ⟨_, _, hg _, turn_no _ _ _ _ _ _ a0 hh, r, _, rfl, .inr ⟨_, rfl⟩, o, w, by omega, fun e h x hx => by rw [hs e h]; have := he x hx; omega⟩
      | true =>
        rw [hc] at hh
        suffices hfin : ∃ r', Fin L (E.map PyData.int) top (k : Nat) B (k + 1) r r' by
          obtain ⟨r', o', w', c', h', e'⟩ := hfin
          exact ⟨_, _, hg _, e', r', _, rfl, .inr ⟨_, rfl⟩, o', w', c', fun e h x hx => by rw [hs e h]; exact h' x hx⟩
        have hfl : (prs r).length < 16777216 := by simp [prs]; omega
        have app : (r = [] ∨ ∃ G a b, r = G ++ [(a, b)] ∧ b + 1 ≠ A) → ∃ r', Fin L (E.map PyData.int) top (k : Nat) B (k + 1) r r' := fun hn => ⟨r ++ [(A, B - 1)], (by
            intro x hx
            rcases List.mem_append.mp hx with hx | hx
            · exact o x hx
            · simp only [List.mem_singleton] at hx
              subst hx
              exact ⟨b0.1, by show A ≤ B - 1; omega, by show B - 1 ≤ top; omega⟩), (pw_snoc w he), (by simp; omega), (by
            intro x hx
            rcases List.mem_append.mp hx with hx | hx
            · have := he x hx; omega
            · simp only [List.mem_singleton] at hx
              subst hx
              show B - 1 < B
              omega), (by
            have e2 : prs (r ++ [(A, B - 1)]) = prs r ++ [.tuple [.int A, .int (B - 1)]] := by simp [prs, pr]
            rw [e2]
            refine turn_new _ _ _ _ _ _ _ a0 a1 hh hfl ?_
            rcases hn with rfl | ⟨G, a, b, rfl, hne⟩
            · exact .inl rfl
            · exact .inr ⟨prs G, a, b, by simp [prs, pr], hne⟩)⟩
        rcases List.eq_nil_or_concat r with rfl | ⟨G, ⟨a, b⟩, rfl⟩
        · exact app (.inl rfl)
        · by_cases hne : b + 1 = A
          · refine ⟨G ++ [(a, B - 1)], ?_, ?_, ?_, ?_, ?_⟩
            · intro x hx
              rcases List.mem_append.mp hx with hx | hx
              · exact o x (by simp [hx])
              · simp only [List.mem_singleton] at hx
                subst hx
                obtain ⟨o1, o2, o3⟩ := o (a, b) (by simp)
                simp only at o1 o2 o3
                exact ⟨o1, by show a ≤ B - 1; omega, by show B - 1 ≤ top; omega⟩
            · have w2 := w
              simp only [List.concat_eq_append] at w2
              refine pw_snoc (pw_left w2) fun x hx => ?_
              exact (List.pairwise_append.mp w2).2.2 x hx (a, b) (by simp)
            · simp at c ⊢; omega
            · intro x hx
              rcases List.mem_append.mp hx with hx | hx
              · have := he x (by simp [hx]); omega
              · simp only [List.mem_singleton] at hx
                subst hx
                show B - 1 < B
                omega
            · have e2 : prs (G.concat (a, b)) = prs G ++ [.tuple [.int a, .int b]] := by simp [prs, pr]
              have e3 : prs (G ++ [(a, B - 1)]) = prs G ++ [.tuple [.int a, .int (B - 1)]] := by simp [prs, pr]
              rw [e2, e3]
              exact turn_join _ _ _ _ _ _ _ _ _ a0 a1 hh hne
          · exact app (.inr ⟨G, a, b, by simp, hne⟩))
  exact ⟨r, x4, e, o, w, by omega⟩
theorem union_ok (l : List (Int × Int)) (top : Int) (h0 : 0 ≤ top) (h1 : top < 1000000000) (hl : l.length ≤ 30) (hok : ∀ x ∈ l, okPair top x) :
    ∃ r : List (Int × Int), F_law_union [.list (prs l), .int top] = some (.tuple (prs r)) ∧ (∀ x ∈ r, okPair top x) ∧ PwS r ∧ r.length ≤ 64 := by
  have hb : ∀ e ∈ sortI (edges l top), 0 ≤ e ∧ e ≤ top + 1 := by
    intro e he
    rw [mem_sortI] at he
    simp only [edges, List.mem_append, List.mem_cons, List.not_mem_nil, or_false, List.mem_map] at he
    rcases he with ((rfl | rfl) | ⟨p, hp, rfl⟩) | ⟨p, hp, rfl⟩
    · omega
    · omega
    · obtain ⟨o1, o2, o3⟩ := hok p hp
      split <;> omega
    · obtain ⟨o1, o2, o3⟩ := hok p hp
      split <;> omega
  have hln : (edges l top).length = 2 + l.length + l.length := by simp [edges]; omega
  have hls := len_sortI (edges l top)
  have hne : 0 < (sortI (edges l top)).length := List.length_pos_of_mem ((mem_sortI 0 _).mpr (by simp [edges]))
  obtain ⟨r, x4, e, o, w, c⟩ := union_loop (.list (prs l)) l rfl (by omega) top (sortI (edges l top)) (pw_sortI _) (by omega) hb
  refine ⟨r, ?_, o, w, c⟩
  have g1 := comp_u1 l top hl
  have g2 := comp_u2 l top hl
  have g3 := dSortSet_ints (edges l top) (by omega)
  have g4 : (edges l top).map PyData.int = .int 0 :: .int (top + 1) :: (l.map (fun p => PyData.int (if top + 1 < p.1 then top + 1 else p.1)) ++ l.map (fun p => PyData.int (if top + 1 < p.2 + 1 then top + 1 else p.2 + 1))) := by
    simp only [edges, List.map_append, List.map_cons, List.map_nil, List.map_map, List.cons_append, List.nil_append]
    rfl
  rw [g4] at g3
  generalize sortI (edges l top) = E at *
  have g5 : in62 ((E.length : Int) - 1) = true := by simp only [in62, Bool.and_eq_true, decide_eq_true_eq]; omega
  have g6 : ((E.length : Int) - 1).toNat = E.length - 1 := by omega
  have m1 : (l.map (fun p => PyData.int (if top + 1 < p.1 then top + 1 else p.1))).length = l.length := by simp
  have m2 : (l.map (fun p => PyData.int (if top + 1 < p.2 + 1 then top + 1 else p.2 + 1))).length = l.length := by simp
  generalize l.map (fun p => PyData.int (if top + 1 < p.1 then top + 1 else p.1)) = M1 at *
  generalize l.map (fun p => PyData.int (if top + 1 < p.2 + 1 then top + 1 else p.2 + 1)) = M2 at *
  have s1 : 2 + M1.length ≤ 16777216 := by omega
  have s2 : M1.length + 1 + 1 + M2.length ≤ 16777216 := by omega
  simp only [F_law_union, B_law_union, defP]
  simp [g1, g2, g3, s1, s2, sFor, itR1, g5, g6, e]
/-! ### drawn sets -/
theorem drawn_gen (A B : List PyData → List PyData → Option (PyData × List PyData)) (U : List PyData → Option PyData) (pd p1 p2 : List PyData) (top many : Int) (v d r : PyData) (e1 : A pd [.int (many + 1)] = some (v, p1)) (e2 : B p1 [.int top, v] = some (d, p2)) (e3 : U [d, .int top] = some r) :
    defL (sSeq (sRet (eCall U (nCons (eCallL B 0 (nCons (eName 1) (nCons (eCallL A 0 (nCons (eBin dAdd (eName 2) (eC (.int 1))) nNil)) nNil))) (nCons (eName 1) nNil)))) sNil) 2 0 pd [.int top, .int many] = some (r, p2) := by
  simp [defL, e1, e2, e3]
theorem drawn_set_ok (p : Pool) (h : p.ok) (top many : Int) (h0 : 0 ≤ top) (h1 : top < 1000000000) (m0 : 0 ≤ many) (m1 : many ≤ 30) :
    ∃ (r : List (Int × Int)) (p' : Pool), F_law_drawn_set p.d [.int top, .int many] = some (.tuple (prs r), p'.d) ∧ p'.ok ∧ (∀ x ∈ r, okPair top x) ∧ PwS r ∧ r.length ≤ 64 := by
  obtain ⟨v, p1, e1, k1, v0, v1⟩ := draw_ok p h (many + 1) (by omega) (by omega)
  obtain ⟨l, p2, e2, k2, ol, ll⟩ := pairs_ok p1 k1 top v h0 h1 v0 (by omega)
  obtain ⟨r, e3, o, w, c⟩ := union_ok l top h0 h1 (by omega) ol
  exact ⟨r, p2, drawn_gen F_law_draw F_law_pairs F_law_union _ _ _ _ _ _ _ _ e1 e2 e3, k2, o, w, c⟩
theorem sFor_of {it : NF} {g : GF} {b : SF} {ρ ρ1 : Rho} {ds : List PyData} (h : it ρ = some (ds, ρ1)) : sFor it g b ρ = forL g b ds ρ1 := by
  unfold sFor
  rw [h]
theorem power_step (a c : PyData) (s : Int) : X_law_power_1 [some (.v a), some (.v (.int s)), some (.v c)] = some (.next, [some (.v a), some (.v (.int (s * 2))), some (.v c)]) := by
  simp [X_law_power_1]
theorem power_end (d : Int) (n : Int) (s : Int) (x2 : Option Cell) (it : NF) (g : GF) (b : SF) (e : sFor it g b [some (.v (.int n)), some (.v (.int 1)), none] = some (.next, [some (.v (.int n)), some (.v (.int s)), x2])) :
    defP (sSeq (sSet 1 (eC (.int 1))) (sSeq (sFor it g b) (sSeq (sRet (eName 1)) sNil))) 1 2 [.int n] = some (.int s) := by
  simp [defP, e]
theorem power_it (n : Nat) (h : n ≤ 62) (a b : Option Cell) : itR1 (nCons (eName 0) nNil) [some (.v (.int (n : Nat))), a, b] = some (rng 0 n, [some (.v (.int (n : Nat))), a, b]) := by
  have hin : in62 (n : Int) = true := by simp only [in62, Bool.and_eq_true, decide_eq_true_eq]; omega
  simp [itR1, hin]
theorem power_ok (n : Nat) (h : n ≤ 62) : F_law_power [.int (n : Nat)] = some (.int (2 ^ n)) := by
  obtain ⟨ρ', e, x2, hr, _⟩ := forL_rng (g := gSet 2) (b := X_law_power_1) (P := fun k ρ => ∃ x2, ρ = [some (.v (.int (n : Nat))), some (.v (.int (2 ^ k))), x2] ∧ plainC x2) n [some (.v (.int (n : Nat))), some (.v (.int 1)), none] ⟨none, rfl, .inl rfl⟩ (by
    rintro k ρ hk ⟨x2, rfl, q⟩
    refine ⟨[some (.v (.int (n : Nat))), some (.v (.int (2 ^ k))), some (.v (.int (k : Nat)))], _, ?_, power_step _ _ _, _, by rw [Int.pow_succ], .inr ⟨_, rfl⟩⟩
    · rcases q with rfl | ⟨y, rfl⟩ <;> simp)
  subst hr
  have k := power_end 0 (n : Int) (2 ^ n) x2 (itR1 (nCons (eName 0) nNil)) (gSet 2) X_law_power_1 ((sFor_of (power_it n h _ _)).trans e)
  unfold F_law_power B_law_power
  exact k
end Pr_C
end
section
set_option linter.all false
set_option maxRecDepth 100000
set_option Elab.async false
namespace Pr_C
open PySem PG
/-! ### sets, as the document has them -/
def Mem (r : List (Int × Int)) (n : Int) : Prop := ∃ x ∈ r, x.1 ≤ n ∧ n ≤ x.2
def Can (r : List (Int × Int)) : Prop := r.Pairwise (fun x y => x.2 + 1 < y.1) ∧ ∀ x ∈ r, x.1 ≤ x.2
theorem mem_cons {x : Int × Int} {r : List (Int × Int)} {n : Int} : Mem (x :: r) n ↔ (x.1 ≤ n ∧ n ≤ x.2) ∨ Mem r n := by
  constructor
  · rintro ⟨y, hy, h⟩
    rcases List.mem_cons.mp hy with rfl | hy
    · exact .inl h
    · exact .inr ⟨y, hy, h⟩
  · rintro (h | ⟨y, hy, h⟩)
    · exact ⟨x, by simp, h⟩
    · exact ⟨y, by simp [hy], h⟩
theorem mem_app {r s : List (Int × Int)} {n : Int} : Mem (r ++ s) n ↔ Mem r n ∨ Mem s n := by
  constructor
  · rintro ⟨y, hy, h⟩
    rcases List.mem_append.mp hy with hy | hy
    · exact .inl ⟨y, hy, h⟩
    · exact .inr ⟨y, hy, h⟩
  · rintro (⟨y, hy, h⟩ | ⟨y, hy, h⟩)
    · exact ⟨y, by simp [hy], h⟩
    · exact ⟨y, by simp [hy], h⟩
theorem mem_one {x : Int × Int} {n : Int} : Mem [x] n ↔ x.1 ≤ n ∧ n ≤ x.2 := by
  rw [mem_cons]
  exact ⟨fun h => h.elim id (fun ⟨_, h, _⟩ => by cases h), fun h => Or.inl h⟩
theorem mem_nil {n : Int} : ¬ Mem [] n := fun ⟨_, h, _⟩ => by cases h
theorem can_tail {x : Int × Int} {r : List (Int × Int)} (h : Can (x :: r)) : x.1 ≤ x.2 ∧ Can r ∧ ∀ n, Mem r n → x.2 + 1 < n := by
  obtain ⟨h1, h2⟩ := h
  obtain ⟨h3, h4⟩ := List.pairwise_cons.mp h1
  refine ⟨h2 x (by simp), ⟨h4, fun y hy => h2 y (by simp [hy])⟩, ?_⟩
  rintro n ⟨y, hy, h5, h6⟩
  have := h3 y hy
  omega
theorem can_uniq : ∀ {r s : List (Int × Int)}, Can r → Can s → (∀ n, Mem r n ↔ Mem s n) → r = s
  | [], [], _, _, _ => rfl
  | [], y :: s, _, hs, h => absurd ((h y.1).mpr ⟨y, by simp, Int.le_refl _, hs.2 y (by simp)⟩) mem_nil
  | x :: r, [], hr, _, h => absurd ((h x.1).mp ⟨x, by simp, Int.le_refl _, hr.2 x (by simp)⟩) mem_nil
  | x :: r, y :: s, hr, hs, h => by
    obtain ⟨x0, r1, r2⟩ := can_tail hr
    obtain ⟨y0, s1, s2⟩ := can_tail hs
    have a1 := mem_cons.mp ((h x.1).mp (mem_cons.mpr (.inl ⟨Int.le_refl _, x0⟩)))
    have a2 := mem_cons.mp ((h y.1).mpr (mem_cons.mpr (.inl ⟨Int.le_refl _, y0⟩)))
    have e1 : x.1 = y.1 := by
      have b1 : y.1 ≤ x.1 := a1.elim (fun k => k.1) fun k => by have := s2 _ k; omega
      have b2 : x.1 ≤ y.1 := a2.elim (fun k => k.1) fun k => by have := r2 _ k; omega
      omega
    have b1 : ¬ x.2 < y.2 := by
      intro c
      have := mem_cons.mp ((h (x.2 + 1)).mpr (mem_cons.mpr (.inl ⟨by omega, by omega⟩)))
      rcases this with k | k
      · omega
      · have := r2 _ k; omega
    have b2 : ¬ y.2 < x.2 := by
      intro c
      have := mem_cons.mp ((h (y.2 + 1)).mp (mem_cons.mpr (.inl ⟨by omega, by omega⟩)))
      rcases this with k | k
      · omega
      · have := s2 _ k; omega
    have e : x = y := Prod.ext e1 (by omega)
    subst e
    rw [can_uniq r1 s1 fun n => ?_]
    constructor
    · intro k
      have := r2 n k
      rcases mem_cons.mp ((h n).mp (mem_cons.mpr (.inr k))) with q | q
      · omega
      · exact q
    · intro k
      have := s2 n k
      rcases mem_cons.mp ((h n).mpr (mem_cons.mpr (.inr k))) with q | q
      · omega
      · exact q
theorem can_snoc {r : List (Int × Int)} {y : Int × Int} (h : Can r) (hy : y.1 ≤ y.2) (hl : ∀ x ∈ r, x.2 + 1 < y.1) : Can (r ++ [y]) := by
  refine ⟨?_, fun x hx => ?_⟩
  · rw [List.pairwise_append]
    exact ⟨h.1, by simp, fun x hx z hz => by simp only [List.mem_singleton] at hz; subst hz; exact hl x hx⟩
  · rcases List.mem_append.mp hx with hx | hx
    · exact h.2 x hx
    · simp only [List.mem_singleton] at hx
      subst hx
      exact hy
theorem can_left {l m : List (Int × Int)} (h : Can (l ++ m)) : Can l := ⟨(List.pairwise_append.mp h.1).1, fun x hx => h.2 x (by simp [hx])⟩
theorem can_last {l : List (Int × Int)} {y : Int × Int} (h : Can (l ++ [y])) : ∀ x ∈ l, x.2 + 1 < y.1 := fun x hx => (List.pairwise_append.mp h.1).2.2 x hx y (by simp)
theorem hasP_iff (l : List (Int × Int)) (n : Int) : hasP l n = true ↔ Mem l n := by
  unfold hasP Mem
  rw [List.any_eq_true]
  simp only [Bool.and_eq_true, decide_eq_true_eq]
/-! ### unions -/
def Fin2 (L : PyData) (E : List PyData) (top k B : Int) (n : Nat) (l r : List (Int × Int)) (r' : List (Int × Int)) : Prop := Can r' ∧ r'.length ≤ n ∧ (∀ x ∈ r', x.2 < B) ∧ (∀ m, Mem r' m ↔ Mem l m ∧ m < B) ∧ X_law_union_3 [some (.v L), some (.v (.int top)), some (.v (.list E)), some (.l false (prs r)), some (.v (.int k)), none] = some (.next, [some (.v L), some (.v (.int top)), some (.v (.list E)), some (.l false (prs r')), some (.v (.int k)), none])
theorem union_loop2 (L : PyData) (l : List (Int × Int)) (hL : L = .list (prs l)) (hl : l.length ≤ 16777216) (top : Int) (E : List Int) (hE : E.Pairwise (· < ·)) (hlen : E.length ≤ 64) (hlow : ∀ e, E[0]? = some e → ∀ m, Mem l m → e ≤ m)
    (hp : ∀ p ∈ l, p.1 ≤ p.2 ∧ p.1 ∈ E ∧ p.2 + 1 ∈ E) :
    ∃ (r : List (Int × Int)) (x4 : Option Cell), forL (gSet 4) X_law_union_3 (rng 0 (E.length - 1)) [some (.v L), some (.v (.int top)), some (.v (.list (E.map PyData.int))), some (.l false []), none, none] = some (.next, [some (.v L), some (.v (.int top)), some (.v (.list (E.map PyData.int))), some (.l false (prs r)), x4, none]) ∧ Can r ∧ r.length ≤ 64 ∧ (∀ e, E[E.length - 1]? = some e → ∀ m, Mem r m ↔ Mem l m ∧ m < e) := by
  obtain ⟨ρ', e, r, x4, rfl, q4, w, c, _, hm⟩ := forL_rng (g := gSet 4) (b := X_law_union_3) (P := fun k ρ => ∃ (r : List (Int × Int)) (x4 : Option Cell), ρ = [some (.v L), some (.v (.int top)), some (.v (.list (E.map PyData.int))), some (.l false (prs r)), x4, none] ∧ plainC x4 ∧ Can r ∧ r.length ≤ k ∧ (∀ e, E[k]? = some e → ∀ x ∈ r, x.2 < e) ∧ (∀ e, E[k]? = some e → ∀ m, Mem r m ↔ Mem l m ∧ m < e))
    (E.length - 1) [some (.v L), some (.v (.int top)), some (.v (.list (E.map PyData.int))), some (.l false []), none, none] ⟨[], none, rfl, .inl rfl, ⟨by simp, by simp⟩, by simp, by simp, fun e he m => ⟨fun h => absurd h mem_nil, fun h => by have := hlow e he m h.1; omega⟩⟩ (by
      rintro k ρ hk ⟨r, x4, rfl, q4, w, c, he, hm⟩
      have k0 : k < E.length := by omega
      have k1 : k + 1 < E.length := by omega
      have hlt : E[k] < E[k + 1] := List.pairwise_iff_getElem.mp hE k (k + 1) k0 k1 (by omega)
      have cons : ∀ x ∈ E, E[k] < x → E[k + 1] ≤ x := by
        intro x hx hlx
        obtain ⟨j, hj, rfl⟩ := List.getElem_of_mem hx
        rcases Nat.lt_trichotomy j (k + 1) with h | h | h
        · rcases Nat.lt_or_ge j k with h' | h'
          · have := List.pairwise_iff_getElem.mp hE j k hj k0 h'; omega
          · have : j = k := by omega
            subst this; omega
        · subst h; exact Int.le_refl _
        · have := List.pairwise_iff_getElem.mp hE (k + 1) j k1 hj h; omega
      have a0 := atD_ints E k k0
      have a1 := atD_ints E (k + 1) k1
      have he := he E[k] (by simp [k0])
      have hm := hm E[k] (by simp [k0])
      have hs : ∀ e, E[k + 1]? = some e → e = E[k + 1] := fun e h => by simpa [k1, eq_comm] using h
      generalize hA : E[k] = A at *
      generalize hB : E[k + 1] = B at *
      have const : ∀ m, A ≤ m → m < B → (Mem l m ↔ Mem l A) := by
        intro m h1 h2
        constructor
        · rintro ⟨p, hpl, h3, h4⟩
          obtain ⟨g1, g2, g3⟩ := hp p hpl
          refine ⟨p, hpl, ?_, by omega⟩
          by_cases hc : A < p.1
          · have := cons _ g2 hc; omega
          · omega
        · rintro ⟨p, hpl, h3, h4⟩
          obtain ⟨g1, g2, g3⟩ := hp p hpl
          have := cons _ g3 (by omega)
          exact ⟨p, hpl, by omega, by omega⟩
      have hg : ∀ (d : PyData), gSet 4 d [some (.v L), some (.v (.int top)), some (.v (.list (E.map PyData.int))), some (.l false (prs r)), x4, none] = some [some (.v L), some (.v (.int top)), some (.v (.list (E.map PyData.int))), some (.l false (prs r)), some (.v d), none] := by
        intro d
        rcases q4 with rfl | ⟨y, rfl⟩ <;> rfl
      have hh := has_ok l L A (.inl hL) hl
      have hiff := hasP_iff l A
      cases hc : hasP l A with
      | false =>
        rw [hc] at hh hiff
        have hno : ¬ Mem l A := fun h => by cases hiff.mpr h
        refine ⟨_, _, hg _, turn_no _ _ _ _ _ _ a0 hh, r, _, rfl, .inr ⟨_, rfl⟩, w, by omega, fun e h x hx => by rw [hs e h]; have := he x hx; omega, fun e h m => ?_⟩
        rw [hs e h, hm m]
        constructor
        · rintro ⟨h1, h2⟩; exact ⟨h1, by omega⟩
        · rintro ⟨h1, h2⟩
          refine ⟨h1, ?_⟩
          by_cases hq : m < A
          · exact hq
          · exact absurd ((const m (by omega) h2).mp h1) hno
      | true =>
        rw [hc] at hh hiff
        have hyes : Mem l A := hiff.mp rfl
        suffices hfin : ∃ r', Fin2 L (E.map PyData.int) top (k : Nat) B (k + 1) l r r' by
          obtain ⟨r', w', c', h', m', e'⟩ := hfin
          exact ⟨_, _, hg _, e', r', _, rfl, .inr ⟨_, rfl⟩, w', c', fun e h x hx => by rw [hs e h]; exact h' x hx, fun e h => by rw [hs e h]; exact m'⟩
        have hfl : (prs r).length < 16777216 := by simp [prs]; omega
        have app : (∀ x ∈ r, x.2 + 1 < A) → (r = [] ∨ ∃ G a b, r = G ++ [(a, b)] ∧ b + 1 ≠ A) → ∃ r', Fin2 L (E.map PyData.int) top (k : Nat) B (k + 1) l r r' := fun hgap hn => ⟨r ++ [(A, B - 1)], can_snoc w (by show A ≤ B - 1; omega) hgap, (by simp; omega), (by
            intro x hx
            rcases List.mem_append.mp hx with hx | hx
            · have := he x hx; omega
            · simp only [List.mem_singleton] at hx
              subst hx
              show B - 1 < B
              omega), (by
            intro m
            rw [mem_app, mem_one, hm m]
            constructor
            · rintro (⟨h1, h2⟩ | ⟨h1, h2⟩)
              · exact ⟨h1, by omega⟩
              · have h1 : A ≤ m := h1
                have h2 : m ≤ B - 1 := h2
                exact ⟨(const m h1 (by omega)).mpr hyes, by omega⟩
            · rintro ⟨h1, h2⟩
              by_cases hq : m < A
              · exact .inl ⟨h1, hq⟩
              · exact .inr ⟨by show A ≤ m; omega, by show m ≤ B - 1; omega⟩), (by
            have e2 : prs (r ++ [(A, B - 1)]) = prs r ++ [.tuple [.int A, .int (B - 1)]] := by simp [prs, pr]
            rw [e2]
            refine turn_new _ _ _ _ _ _ _ a0 a1 hh hfl ?_
            rcases hn with rfl | ⟨G, a, b, rfl, hne⟩
            · exact .inl rfl
            · exact .inr ⟨prs G, a, b, by simp [prs, pr], hne⟩)⟩
        rcases List.eq_nil_or_concat r with rfl | ⟨G, ⟨a, b⟩, hG⟩
        · exact app (by simp) (.inl rfl)
        · rw [List.concat_eq_append] at hG
          subst hG
          have hb := he (a, b) (by simp)
          have hab := w.2 (a, b) (by simp)
          have hlast := can_last w
          by_cases hne : b + 1 = A
          · refine ⟨G ++ [(a, B - 1)], can_snoc (can_left w) (by show a ≤ B - 1; simp only at hab; omega) hlast, ?_, ?_, ?_, ?_⟩
            · simp at c ⊢; omega
            · intro x hx
              rcases List.mem_append.mp hx with hx | hx
              · have := he x (by simp [hx]); omega
              · simp only [List.mem_singleton] at hx
                subst hx
                show B - 1 < B
                omega
            · intro m
              have hm := hm m
              rw [mem_app, mem_one] at hm
              rw [mem_app, mem_one]
              simp only at hab hb hm ⊢
              constructor
              · rintro (h1 | ⟨h1, h2⟩)
                · have := hm.mp (.inl h1)
                  exact ⟨this.1, by omega⟩
                · by_cases hq : m < A
                  · have := hm.mp (.inr ⟨h1, by omega⟩)
                    exact ⟨this.1, by omega⟩
                  · exact ⟨(const m (by omega) (by omega)).mpr hyes, by omega⟩
              · rintro ⟨h1, h2⟩
                by_cases hq : m < A
                · rcases hm.mpr ⟨h1, hq⟩ with q | q
                  · exact .inl q
                  · exact .inr ⟨q.1, by omega⟩
                · exact .inr ⟨by omega, by omega⟩
            · have e2 : prs (G ++ [(a, b)]) = prs G ++ [.tuple [.int a, .int b]] := by simp [prs, pr]
              have e3 : prs (G ++ [(a, B - 1)]) = prs G ++ [.tuple [.int a, .int (B - 1)]] := by simp [prs, pr]
              rw [e2, e3]
              exact turn_join _ _ _ _ _ _ _ _ _ a0 a1 hh hne
          · refine app (fun x hx => ?_) (.inr ⟨G, a, b, rfl, hne⟩)
            rcases List.mem_append.mp hx with hx | hx
            · have := hlast x hx
              simp only at this hab hb
              omega
            · simp only [List.mem_singleton] at hx
              subst hx
              simp only at hb ⊢
              omega)
  refine ⟨r, x4, e, w, by omega, hm⟩
theorem union_ok2 (l : List (Int × Int)) (top : Int) (h0 : 0 ≤ top) (h1 : top < 1000000000) (hl : l.length ≤ 30) (hok : ∀ x ∈ l, okPair top x) :
    ∃ r : List (Int × Int), F_law_union [.list (prs l), .int top] = some (.tuple (prs r)) ∧ Can r ∧ r.length ≤ 64 ∧ ∀ m, Mem r m ↔ Mem l m := by
  have hb : ∀ e ∈ sortI (edges l top), 0 ≤ e ∧ e ≤ top + 1 := by
    intro e he
    rw [mem_sortI] at he
    simp only [edges, List.mem_append, List.mem_cons, List.not_mem_nil, or_false, List.mem_map] at he
    rcases he with ((rfl | rfl) | ⟨p, hp, rfl⟩) | ⟨p, hp, rfl⟩
    · omega
    · omega
    · obtain ⟨o1, o2, o3⟩ := hok p hp
      split <;> omega
    · obtain ⟨o1, o2, o3⟩ := hok p hp
      split <;> omega
  have hin : ∀ p ∈ l, p.1 ≤ p.2 ∧ p.1 ∈ sortI (edges l top) ∧ p.2 + 1 ∈ sortI (edges l top) := by
    intro p hp
    obtain ⟨o1, o2, o3⟩ := hok p hp
    refine ⟨o2, ?_, ?_⟩
    · rw [mem_sortI]
      simp only [edges, List.mem_append, List.mem_map]
      exact .inl (.inr ⟨p, hp, if_neg (by omega)⟩)
    · rw [mem_sortI]
      simp only [edges, List.mem_append, List.mem_map]
      exact .inr ⟨p, hp, if_neg (by omega)⟩
  have htop : top + 1 ∈ sortI (edges l top) := (mem_sortI _ _).mpr (by simp [edges])
  have hln : (edges l top).length = 2 + l.length + l.length := by simp [edges]; omega
  have hls := len_sortI (edges l top)
  have hne : 0 < (sortI (edges l top)).length := List.length_pos_of_mem ((mem_sortI 0 _).mpr (by simp [edges]))
  obtain ⟨r, x4, e, w, c, hm⟩ := union_loop2 (.list (prs l)) l rfl (by omega) top (sortI (edges l top)) (pw_sortI _) (by omega) (by
    rintro e he m ⟨p, hp, h2, h3⟩
    have hz : (0 : Int) ∈ sortI (edges l top) := (mem_sortI 0 _).mpr (by simp [edges])
    have o1 := (hok p hp).1
    obtain ⟨j, hj, hj0⟩ := List.getElem_of_mem hz
    have he' : (sortI (edges l top))[0] = e := by simpa [hne] using he
    rcases Nat.eq_zero_or_pos j with rfl | hjp
    · omega
    · have := List.pairwise_iff_getElem.mp (pw_sortI (edges l top)) 0 j hne hj hjp
      omega) hin
  have hfin : ∀ m, Mem r m ↔ Mem l m := by
    intro m
    have hlast : (sortI (edges l top))[(sortI (edges l top)).length - 1]? = some (top + 1) := by
      obtain ⟨j, hj, hj0⟩ := List.getElem_of_mem htop
      have hk : (sortI (edges l top)).length - 1 < (sortI (edges l top)).length := by omega
      rw [List.getElem?_eq_getElem hk]
      have b1 := hb _ (List.getElem_mem hk)
      rcases Nat.lt_or_ge j ((sortI (edges l top)).length - 1) with h | h
      · have := List.pairwise_iff_getElem.mp (pw_sortI (edges l top)) j _ hj hk h
        omega
      · have : j = (sortI (edges l top)).length - 1 := by omega
        subst this
        rw [hj0]
    rw [hm _ hlast m]
    constructor
    · exact fun h => h.1
    · intro h
      refine ⟨h, ?_⟩
      obtain ⟨p, hp, h2, h3⟩ := h
      have := (hok p hp).2.2
      omega
  refine ⟨r, ?_, w, c, hfin⟩
  clear hfin hm hin hb htop
  have g1 := comp_u1 l top hl
  have g2 := comp_u2 l top hl
  have g3 := dSortSet_ints (edges l top) (by omega)
  have g4 : (edges l top).map PyData.int = .int 0 :: .int (top + 1) :: (l.map (fun p => PyData.int (if top + 1 < p.1 then top + 1 else p.1)) ++ l.map (fun p => PyData.int (if top + 1 < p.2 + 1 then top + 1 else p.2 + 1))) := by
    simp only [edges, List.map_append, List.map_cons, List.map_nil, List.map_map, List.cons_append, List.nil_append]
    rfl
  rw [g4] at g3
  generalize sortI (edges l top) = E at *
  have g5 : in62 ((E.length : Int) - 1) = true := by simp only [in62, Bool.and_eq_true, decide_eq_true_eq]; omega
  have g6 : ((E.length : Int) - 1).toNat = E.length - 1 := by omega
  have m1 : (l.map (fun p => PyData.int (if top + 1 < p.1 then top + 1 else p.1))).length = l.length := by simp
  have m2 : (l.map (fun p => PyData.int (if top + 1 < p.2 + 1 then top + 1 else p.2 + 1))).length = l.length := by simp
  generalize l.map (fun p => PyData.int (if top + 1 < p.1 then top + 1 else p.1)) = M1 at *
  generalize l.map (fun p => PyData.int (if top + 1 < p.2 + 1 then top + 1 else p.2 + 1)) = M2 at *
  have s1 : 2 + M1.length ≤ 16777216 := by omega
  have s2 : M1.length + 1 + 1 + M2.length ≤ 16777216 := by omega
  simp only [F_law_union, B_law_union, defP]
  simp [g1, g2, g3, s1, s2, sFor, itR1, g5, g6, e]
end Pr_C
end
section
set_option Elab.async false
set_option linter.all false
set_option maxRecDepth 100000
namespace Pr_D
open PySem PG Pr_C
/-! what each def does, on data -/
def B_is_tuple : SF :=
  (sSeq (sRet (eAnd (eUn (dTyIs "tuple") (eName 0)) (eBin dEq (eCall (o1of dLen) (nCons (eName 0) nNil)) (eName 1))))
  sNil)
def F_is_tuple : List PyData → Option PyData := defP B_is_tuple 2 0
def B_law_bent (R : List PyData → List PyData → Option (PyData × List PyData)) : SF :=
  (sSeq (sIf (tAnd' (tTru (eUn (dIsi "tuple") (eName 1))) (tAnd' (tBl (eBin dGt (eCall (o1of dLen) (nCons (eName 1) nNil)) (eC (.int 0)))) (tBl (eBin dGt (eCallL F_law_draw 0 (nCons (eC (.int 3)) nNil)) (eC (.int 0))))))
  (sSeq (sSet 3 (eCallL F_law_draw 0 (nCons (eCall (o1of dLen) (nCons (eName 1) nNil)) nNil)))
  (sSeq (sRet (eBin dAdd (eBin dAdd (eSlT (eName 1) none (some (eName 3))) (eTup (nCons (eCallL R 0 (nCons (eBin dIx (eName 1) (eName 3)) nNil)) nNil))) (eSlT (eName 1) (some (eBin dAdd (eName 3) (eC (.int 1)))) none)))
  sNil))
  sNil)
  (sSeq (sSet 2 (eCallL F_law_draw 0 (nCons (eC (.int 9)) nNil)))
  (sSeq (sIf (tBl (eBin dEq (eName 2) (eC (.int 0))))
  (sSeq (sRet (eBin dIx (eTup (nCons (eC (.str (Str.ofString "x"))) (nCons (eC (.bool true)) (nCons (eTup nNil) (nCons (eC (.int 0)) (nCons (eUn dNeg (eC (.int 1))) (nCons (eC .none) (nCons (eC (.bool false)) (nCons (eLst (nDisp nNil)) nNil))))))))) (eCallL F_law_draw 0 (nCons (eC (.int 8)) nNil))))
  sNil)
  sNil)
  (sSeq (sIf (tTru (eCall F_law_is_integer (nCons (eName 1) nNil)))
  (sSeq (sRet (eBin dAdd (eName 1) (eBin dIx (eTup (nCons (eC (.int 1)) (nCons (eUn dNeg (eC (.int 1))) (nCons (eC (.int 2)) (nCons (eC (.int 0)) nNil))))) (eCallL F_law_draw 0 (nCons (eC (.int 4)) nNil)))))
  sNil)
  sNil)
  (sSeq (sIf (tTru (eUn (dIsi "str") (eName 1)))
  (sSeq (sRet (eBin dIx (eTup (nCons (eBin dAdd (eName 1) (eC (.str (Str.ofString "a")))) (nCons (eSlT (eName 1) (some (eC (.int 1))) none) (nCons (eBin dAdd (eName 1) (eC (.str (Str.ofString "A")))) (nCons (eBin dAdd (eName 1) (eC (.str (Str.ofString " ")))) (nCons (eSlT (eName 1) none (some (eC (.int 1)))) nNil)))))) (eCallL F_law_draw 0 (nCons (eC (.int 5)) nNil))))
  sNil)
  sNil)
  (sSeq (sIf (tOr' (tNot' (tTru (eUn (dIsi "tuple") (eName 1)))) (tBl (eBin dEq (eCall (o1of dLen) (nCons (eName 1) nNil)) (eC (.int 0)))))
  (sSeq (sRet (eIf (tBl (eBin dLt (eName 2) (eC (.int 5)))) (eTup (nCons (eName 1) (nCons (eC (.int 0)) nNil))) (eTup nNil)))
  sNil)
  sNil)
  (sSeq (sSet 3 (eCallL F_law_draw 0 (nCons (eCall (o1of dLen) (nCons (eName 1) nNil)) nNil)))
  (sSeq (sIf (tBl (eBin dLt (eName 2) (eC (.int 3))))
  (sSeq (sRet (eBin dAdd (eSlT (eName 1) none (some (eName 3))) (eSlT (eName 1) (some (eBin dAdd (eName 3) (eC (.int 1)))) none)))
  sNil)
  sNil)
  (sSeq (sIf (tBl (eBin dLt (eName 2) (eC (.int 5))))
  (sSeq (sRet (eBin dAdd (eBin dAdd (eSlT (eName 1) none (some (eName 3))) (eTup (nCons (eBin dIx (eName 1) (eName 3)) nNil))) (eSlT (eName 1) (some (eName 3)) none)))
  sNil)
  sNil)
  (sSeq (sIf (tBl (eBin dEq (eName 2) (eC (.int 5))))
  (sSeq (sRet (eLst (nCall (n1of dLstOf) (nCons (eName 1) nNil))))
  sNil)
  sNil)
  (sSeq (sSet 4 (eCallL F_law_draw 0 (nCons (eCall (o1of dLen) (nCons (eName 1) nNil)) nNil)))
  (sSeq (sSetL 5 (nCall (n1of dLstOf) (nCons (eName 1) nNil)))
  (sSeq (sSto 5 (eName 3) (eBin dIx (eName 1) (eName 4)))
  (sSeq (sSto 5 (eName 4) (eBin dIx (eName 1) (eName 3)))
  (sSeq (sRet (eUnL dTupOf 5))
  sNil)))))))))))))))
def F_law_bent : Nat → List PyData → List PyData → Option (PyData × List PyData)
  | 0 => fun _ _ => none
  | n + 1 => defL (B_law_bent (F_law_bent n)) 1 4
def X_law_booled_1 (R : List PyData → Option PyData) : EF :=
  (eCall R (nCons (eName 1) nNil))
def B_law_booled (R : List PyData → Option PyData) : SF :=
  (sSeq (sIf (tTru (eUn (dIsi "tuple") (eName 0)))
  (sSeq (sRet (eCall (o1of dTupOf) (nCons (eLst (nComp (itS (eName 0)) (gSet 1) tYesF (X_law_booled_1 R) [1])) nNil)))
  sNil)
  sNil)
  (sSeq (sRet (eIf (tAnd' (tTru (eCall F_law_is_integer (nCons (eName 0) nNil))) (tAnd' (tBl (eBin dLe (eC (.int 0)) (eName 0))) (tBl (eBin dLt (eName 0) (eC (.int 2)))))) (eBin dIx (eTup (nCons (eC (.bool false)) (nCons (eC (.bool true)) nNil))) (eName 0)) (eName 0)))
  sNil))
def F_law_booled : Nat → List PyData → Option PyData
  | 0 => fun _ => none
  | n + 1 => defP (B_law_booled (F_law_booled n)) 1 1
def B_is_number : SF :=
  (sSeq (sRet (eAnd (eUn (dTyIs "int") (eName 0)) (eChain dLe dLe (eName 1) (eName 0) (eName 2))))
  sNil)
def F_is_number : List PyData → Option PyData := defP B_is_number 3 0
def B_is_address : SF :=
  (sSeq (sRet (eCall F_is_number (nCons (eName 0) (nCons (eC (.int 0)) (nCons (eC (.int 65535)) nNil)))))
  sNil)
def F_is_address : List PyData → Option PyData := defP B_is_address 1 0
def B_law_is_number : SF :=
  (sSeq (sRet (eAnd (eCall F_law_is_integer (nCons (eName 0) nNil)) (eAnd (eBin dLe (eC (.int 0)) (eName 0)) (eBin dLe (eName 0) (eName 1)))))
  sNil)
def F_law_is_number : List PyData → Option PyData := defP B_law_is_number 2 0
end Pr_D
end
section
set_option linter.all false
set_option maxRecDepth 100000
set_option Elab.async false
namespace Pr_D
open PySem PG Pr_C
/-! ### data of which the text is short -/
def okS (x : Str) : Bool := PyData.strOk x && decide (x.length ≤ 20)
mutual
def okd (B : Int) : PyData → Bool
  | .none => true
  | .bool _ => true
  | .int i => decide (-B ≤ i) && decide (i ≤ B)
  | .str x => okS x
  | .list xs => okA B xs
  | .tuple xs => okA B xs
  | .dict _ => false
def okA (B : Int) : List PyData → Bool
  | [] => true
  | x :: xs => okd B x && okA B xs
end
mutual
def wt : PyData → Nat
  | .list xs => wtA xs + 1
  | .tuple xs => wtA xs + 1
  | _ => 1
def wtA : List PyData → Nat
  | [] => 0
  | x :: xs => wt x + wtA xs
end
theorem okA_mem {B : Int} : ∀ {xs : List PyData}, okA B xs = true ↔ ∀ x ∈ xs, okd B x = true
  | [] => by simp [okA]
  | x :: xs => by simp [okA, okA_mem (xs := xs)]
theorem wtA_app : ∀ (xs ys : List PyData), wtA (xs ++ ys) = wtA xs + wtA ys
  | [], ys => by simp [wtA]
  | x :: xs, ys => by simp only [List.cons_append, wtA, wtA_app xs ys]; omega
theorem wt_pos : ∀ d : PyData, 1 ≤ wt d
  | .none => Nat.le_refl _
  | .bool _ => Nat.le_refl _
  | .int _ => Nat.le_refl _
  | .str _ => Nat.le_refl _
  | .list xs => by simp only [wt]; omega
  | .tuple xs => by simp only [wt]; omega
  | .dict _ => Nat.le_refl _
theorem wtA_len : ∀ xs : List PyData, xs.length ≤ wtA xs
  | [] => Nat.le_refl _
  | x :: xs => by
    have := wtA_len xs
    have := wt_pos x
    simp only [List.length_cons, wtA]
    omega
theorem wtA_mem : ∀ {xs : List PyData} {x : PyData}, x ∈ xs → wt x ≤ wtA xs
  | y :: ys, x, h => by
    simp only [wtA]
    rcases List.mem_cons.mp h with rfl | h
    · omega
    · have := wtA_mem h; omega
theorem wtA_take (xs : List PyData) (n : Nat) : wtA (xs.take n) ≤ wtA xs := by
  have h := wtA_app (xs.take n) (xs.drop n)
  rw [List.take_append_drop] at h
  omega
theorem wtA_drop (xs : List PyData) (n : Nat) : wtA (xs.drop n) ≤ wtA xs := by
  have h := wtA_app (xs.take n) (xs.drop n)
  rw [List.take_append_drop] at h
  omega
theorem wtA_set : ∀ (xs : List PyData) (i : Nat) (y : PyData), wtA (xs.set i y) ≤ wtA xs + wt y
  | [], i, y => by simp [wtA]
  | x :: xs, 0, y => by simp only [List.set_cons_zero, wtA]; omega
  | x :: xs, i + 1, y => by
    have := wtA_set xs i y
    simp only [List.set_cons_succ, wtA]
    omega
theorem okS_leaf {x : Str} (h : okS x = true) : PyData.strOk x = true ∧ (x.cps.toList.all fun c => decide (c < 16 ^ 8)) = true ∧ x.cps.size ≤ 20 := by
  unfold okS at h
  rw [Bool.and_eq_true, decide_eq_true_eq] at h
  refine ⟨h.1, ?_, h.2⟩
  have h1 := h.1
  unfold PyData.strOk at h1
  rw [Array.all_eq_true] at h1
  rw [List.all_eq_true]
  intro c hc
  obtain ⟨i, hi, rfl⟩ := List.mem_iff_getElem.mp hc
  have := h1 i (by simpa using hi)
  simp only [decide_eq_true_eq] at this ⊢
  simp only [Array.getElem_toList]
  omega
mutual
theorem ok_lay {B : Int} (hB : B ≤ 1000000000000) : ∀ d : PyData, okd B d = true → d.canLay0 = true ∧ d.showable = true ∧ d.leavesShort 25 = true ∧ d.weight + 1 ≤ 62 * wt d
  | .none, _ => ⟨rfl, rfl, rfl, by simp [PyData.weight, wt]⟩
  | .bool _, _ => ⟨rfl, rfl, rfl, by simp [PyData.weight, wt]⟩
  | .int i, h => by
    simp only [okd, Bool.and_eq_true, decide_eq_true_eq] at h
    have h1 : i.natAbs < 2 ^ 60 := by omega
    have h2 : i.natAbs.log2 < 60 := by
      by_cases hz : i.natAbs = 0
      · rw [hz]; decide
      · exact (Nat.log2_lt hz).mpr h1
    refine ⟨rfl, by simp only [PyData.showable, decide_eq_true_eq]; omega, ?_, ?_⟩
    · have h3 := int_text_length_le10 (a := i) (k := 20) (by decide) (by omega)
      simp only [PyData.leavesShort, decide_eq_true_eq]
      show (Str.ofString (toString i)).length ≤ 25
      rw [ofString_length]
      omega
    · simp only [PyData.weight, wt]
      split <;> omega
  | .str x, h => by
    have h := okS_leaf h
    exact ⟨h.1, rfl, h.2.1, by simp only [PyData.weight, wt]; omega⟩
  | .list xs, h => by
    obtain ⟨h1, h2, h3, h4⟩ := ok_layA hB xs h
    exact ⟨h1, h2, h3, by simp only [PyData.weight, wt]; omega⟩
  | .tuple xs, h => by
    obtain ⟨h1, h2, h3, h4⟩ := ok_layA hB xs h
    exact ⟨h1, h2, h3, by simp only [PyData.weight, wt]; omega⟩
  | .dict _, h => by cases h
theorem ok_layA {B : Int} (hB : B ≤ 1000000000000) : ∀ xs : List PyData, okA B xs = true → PyData.canLayAll0 xs = true ∧ PyData.showableAll xs = true ∧ PyData.leavesShortAll 25 xs = true ∧ PyData.weightAll xs ≤ 62 * wtA xs
  | [], _ => ⟨rfl, rfl, rfl, by simp [PyData.weightAll, wtA]⟩
  | x :: xs, h => by
    simp only [okA, Bool.and_eq_true] at h
    obtain ⟨a1, a2, a3, a4⟩ := ok_lay hB x h.1
    obtain ⟨b1, b2, b3, b4⟩ := ok_layA hB xs h.2
    refine ⟨by simp [PyData.canLayAll0, a1, b1], by simp [PyData.showableAll, a2, b2], by simp [PyData.leavesShortAll, a3, b3], ?_⟩
    simp only [PyData.weightAll, wtA]
    omega
end
/-- what can be shown -/
structure Gd (B : Int) (D W : Nat) (d : PyData) : Prop where
  ok : okd B d = true
  dp : d.depth ≤ D
  w : wt d ≤ W
theorem Gd.repr {B : Int} {D W : Nat} {d : PyData} (g : Gd B D W d) (hB : B ≤ 1000000000000) (hD : D ≤ 60) (hW : W ≤ 9000) : dRepr d = some (.str d.shown) := by
  obtain ⟨h1, h2, h3, h4⟩ := ok_lay hB d g.ok
  have h5 := PyData.shown_le 25 (by decide) d h3
  have h6 := g.w
  have h7 := g.dp
  have h8 : d.shown.length ≤ 16777216 := by
    have : (25 + 2) * d.weight ≤ (25 + 2) * (62 * 9000) := Nat.mul_le_mul_left _ (by omega)
    omega
  unfold dRepr reprOk
  rw [if_pos]
  simp only [h1, h2, Bool.and_eq_true, decide_eq_true_eq]
  exact ⟨⟨⟨trivial, by omega⟩, trivial⟩, h8⟩
end Pr_D
end
section
set_option linter.all false
set_option maxRecDepth 100000
set_option Elab.async false
namespace Pr_D
open PySem PG Pr_C
theorem cut_sub {xs : List PyData} {lo hi : Option Int} : ∀ x ∈ cutD xs lo hi, x ∈ xs := fun x hx => List.mem_of_mem_drop (List.mem_of_mem_take hx)
theorem cut_wt {xs : List PyData} {lo hi : Option Int} : wtA (cutD xs lo hi) ≤ wtA xs := Nat.le_trans (wtA_take _ _) (wtA_drop _ _)
theorem cut_len {xs : List PyData} {lo hi : Option Int} : (cutD xs lo hi).length ≤ xs.length := by
  unfold cutD
  simp only [List.length_take, List.length_drop]
  omega
theorem depthAll_le {D : Nat} : ∀ {xs : List PyData}, PyData.depthAll xs ≤ D ↔ ∀ x ∈ xs, x.depth ≤ D
  | [] => by simp [PyData.depthAll]
  | x :: xs => by
    have := depthAll_le (D := D) (xs := xs)
    simp only [PyData.depthAll, List.mem_cons, forall_eq_or_imp, Nat.max_le, this]
/-- the items of a sequence that can be shown -/
structure Gs (B : Int) (D W : Nat) (xs : List PyData) : Prop where
  ok : ∀ x ∈ xs, okd B x = true ∧ x.depth ≤ D
  w : wtA xs ≤ W
theorem Gs.tup {B : Int} {D W : Nat} {xs : List PyData} (g : Gs B D W xs) : Gd B (D + 1) (W + 1) (.tuple xs) :=
  ⟨by simp only [okd]; exact okA_mem.mpr fun x hx => (g.ok x hx).1, by simp only [PyData.depth]; exact Nat.succ_le_succ (depthAll_le.mpr fun x hx => (g.ok x hx).2), by simp only [wt]; have := g.w; omega⟩
theorem Gs.lst {B : Int} {D W : Nat} {xs : List PyData} (g : Gs B D W xs) : Gd B (D + 1) (W + 1) (.list xs) :=
  ⟨by simp only [okd]; exact okA_mem.mpr fun x hx => (g.ok x hx).1, by simp only [PyData.depth]; exact Nat.succ_le_succ (depthAll_le.mpr fun x hx => (g.ok x hx).2), by simp only [wt]; have := g.w; omega⟩
theorem Gs.of_tup {B : Int} {D W : Nat} {xs : List PyData} (g : Gd B (D + 1) W (.tuple xs)) : Gs B D (W - 1) xs ∧ 1 ≤ W := by
  obtain ⟨h1, h2, h3⟩ := g
  simp only [okd] at h1
  simp only [PyData.depth] at h2
  simp only [wt] at h3
  exact ⟨⟨fun x hx => ⟨okA_mem.mp h1 x hx, depthAll_le.mp (Nat.le_of_succ_le_succ h2) x hx⟩, by omega⟩, by omega⟩
theorem Gs.app {B : Int} {D W V : Nat} {xs ys : List PyData} (g : Gs B D W xs) (h : Gs B D V ys) : Gs B D (W + V) (xs ++ ys) :=
  ⟨fun x hx => (List.mem_append.mp hx).elim (g.ok x) (h.ok x), by rw [wtA_app]; have := g.w; have := h.w; omega⟩
theorem Gs.one {B : Int} {D W : Nat} {x : PyData} (g : Gd B D W x) : Gs B D W [x] := ⟨fun y hy => by simp at hy; subst hy; exact ⟨g.ok, g.dp⟩, by simp only [wtA]; have := g.w; omega⟩
theorem Gs.cut {B : Int} {D W : Nat} {xs : List PyData} {lo hi : Option Int} (g : Gs B D W xs) : Gs B D W (cutD xs lo hi) := ⟨fun x hx => g.ok x (cut_sub x hx), Nat.le_trans cut_wt g.w⟩
theorem Gs.nil {B : Int} {D W : Nat} : Gs B D W [] := ⟨fun x hx => (nomatch hx), Nat.zero_le _⟩
theorem Gs.mem {B : Int} {D W : Nat} {xs : List PyData} {x : PyData} (g : Gs B D W xs) (h : x ∈ xs) : Gd B D W x := ⟨(g.ok x h).1, (g.ok x h).2, Nat.le_trans (wtA_mem h) g.w⟩
theorem Gs.set {B : Int} {D W V : Nat} {xs : List PyData} {i : Nat} {y : PyData} (g : Gs B D W xs) (h : Gd B D V y) : Gs B D (W + V) (xs.set i y) :=
  ⟨fun x hx => by
    rcases List.mem_or_eq_of_mem_set hx with hx | rfl
    · exact g.ok x hx
    · exact ⟨h.ok, h.dp⟩, Nat.le_trans (wtA_set _ _ _) (Nat.add_le_add g.w h.w)⟩
theorem Gs.len {B : Int} {D W : Nat} {xs : List PyData} (g : Gs B D W xs) : xs.length ≤ W := Nat.le_trans (wtA_len xs) g.w
mutual
theorem okd_mono {B C : Int} (h : B ≤ C) : ∀ d : PyData, okd B d = true → okd C d = true
  | .none, _ => rfl
  | .bool _, _ => rfl
  | .int i, g => by simp only [okd, Bool.and_eq_true, decide_eq_true_eq] at g ⊢; omega
  | .str _, g => g
  | .list xs, g => by simp only [okd] at g ⊢; exact okA_mono h xs g
  | .tuple xs, g => by simp only [okd] at g ⊢; exact okA_mono h xs g
  | .dict _, g => by cases g
theorem okA_mono {B C : Int} (h : B ≤ C) : ∀ xs : List PyData, okA B xs = true → okA C xs = true
  | [], _ => rfl
  | x :: xs, g => by
    simp only [okA, Bool.and_eq_true] at g ⊢
    exact ⟨okd_mono h x g.1, okA_mono h xs g.2⟩
end
theorem Gd.mono {B C : Int} {D E W V : Nat} {d : PyData} (g : Gd B D W d) (h1 : B ≤ C) (h2 : D ≤ E) (h3 : W ≤ V) : Gd C E V d := ⟨okd_mono h1 d g.ok, Nat.le_trans g.dp h2, Nat.le_trans g.w h3⟩
theorem Gs.mono {B C : Int} {D E W V : Nat} {d : List PyData} (g : Gs B D W d) (h1 : B ≤ C) (h2 : D ≤ E) (h3 : W ≤ V) : Gs C E V d := ⟨fun x hx => ⟨okd_mono h1 x (g.ok x hx).1, Nat.le_trans (g.ok x hx).2 h2⟩, Nat.le_trans g.w h3⟩
theorem Gd.int {B : Int} {D W : Nat} {i : Int} (h0 : -B ≤ i) (h1 : i ≤ B) (hW : 1 ≤ W) : Gd B D W (.int i) := ⟨by simp [okd, h0, h1], Nat.zero_le _, hW⟩
/-- made of whole numbers and tuples alone -/
inductive It : PyData → Prop
  | int (i : Int) : It (.int i)
  | tup {xs : List PyData} : (∀ x ∈ xs, It x) → It (.tuple xs)
theorem ixOf_nat {n : Nat} {v : Int} (h0 : 0 ≤ v) (h1 : v < n) : ixOf n v = some v.toNat := by simp [ixOf, h0, h1]
theorem wa_at' {xs : List PyData} {v : Int} {Q : PyData → Prop} (h0 : 0 ≤ v) (h1 : v < xs.length) (q : ∀ x ∈ xs, Q x) : WA (dIx (.tuple xs) (.int v)) Q := wa_pick (fun x => x ∈ xs) h0 h1 (fun x hx => hx) (fun x hx => q x hx)
instance : Ev F_law_is_integer [.none] (.bool false) := ⟨rfl⟩
instance {i : Int} : Ev F_law_is_integer [.int i] (.bool true) := ⟨rfl⟩
instance {b : Bool} : Ev F_law_is_integer [.bool b] (.bool false) := ⟨rfl⟩
instance {x : Str} : Ev F_law_is_integer [.str x] (.bool false) := ⟨rfl⟩
instance {xs : List PyData} : Ev F_law_is_integer [.list xs] (.bool false) := ⟨rfl⟩
instance {xs : List PyData} : Ev F_law_is_integer [.tuple xs] (.bool false) := ⟨rfl⟩
local macro_rules | `(tactic| array_get_dec) => `(tactic| first | ((with_reducible apply PG.ws_set)) | ((with_reducible apply PG.ws_if)) | ((with_reducible apply PG.ws_ret)) | ((with_reducible apply PG.ws_setL)) | ((with_reducible apply PG.ws_expr)) | ((with_reducible apply PG.ws_nilc)) | ((with_reducible apply PG.ws_asc)) | ((with_reducible apply PG.ws_nil)) | ((with_reducible apply PG.ws_for)) | ((with_reducible apply PG.ws_asg)) | ((with_reducible apply PG.ws_par)) | ((with_reducible apply PG.ws_retL)) | ((with_reducible apply PG.ws_brk)) | ((with_reducible apply PG.ws_cont)) | ((with_reducible apply PG.ws_forn)) | ((with_reducible apply PG.ws_sto)) | ((with_reducible apply PG.ws_aug); (case hget => rfl)) | ((with_reducible apply PG.ws_app); (case hget => rfl)) | ((with_reducible apply PG.ws_retO); (case hget => rfl)) | ((with_reducible apply PG.we_name); (case hget => rfl)) | ((with_reducible apply PG.we_c)) | ((with_reducible apply PG.we_bin)) | ((with_reducible apply PG.we_un)) | ((with_reducible apply PG.we_call)) | ((with_reducible apply PG.we_callL); (case hget => rfl)) | ((with_reducible apply PG.we_tup)) | ((with_reducible apply PG.we_lst)) | ((with_reducible apply PG.we_if)) | ((with_reducible apply PG.we_ixL); (case hget => rfl)) | ((with_reducible apply PG.we_unL); (case hget => rfl)) | ((with_reducible apply PG.we_and)) | ((with_reducible apply PG.we_or)) | ((with_reducible apply PG.we_not)) | ((with_reducible apply PG.we_chain)) | ((with_reducible apply PG.we_slT)) | ((with_reducible apply PG.wn_cons)) | ((with_reducible apply PG.wn_nil)) | ((with_reducible apply PG.wn_star)) | ((with_reducible apply PG.wn_disp)) | ((with_reducible apply PG.wn_call)) | ((with_reducible apply PG.wn_sl)) | ((with_reducible apply PG.wn_its)) | ((with_reducible apply PG.wn_r1)) | ((with_reducible apply PG.wn_r2)) | ((with_reducible apply PG.wn_r3)) | ((with_reducible apply PG.wt_tru)) | ((with_reducible apply PG.wt_bl)) | ((with_reducible apply PG.wt_and)) | ((with_reducible apply PG.wt_or)) | ((with_reducible apply PG.wt_not)) | ((with_reducible apply PG.wt_yes)) | ((with_reducible apply PG.wt_truL); (case hget => rfl)) | ((with_reducible apply PG.wo_none)) | ((with_reducible apply PG.wo_some)) | ((with_reducible apply PG.wg_p0)) | ((with_reducible apply PG.wg_tup)) | ((with_reducible apply PG.wg_ps); (case hset => (repeat' (first | exact PG.SetR.h0 | exact PG.SetR.h1 | exact PG.SetR.hl | exact PG.SetR.hc (by assumption) | apply PG.SetR.s)))) | ((with_reducible apply PG.wg_set); (case hset => (repeat' (first | exact PG.SetR.h0 | exact PG.SetR.h1 | exact PG.SetR.hl | exact PG.SetR.hc (by assumption) | apply PG.SetR.s)))) | ((with_reducible apply PG.we_frz); (case hget => rfl); (case hset => (repeat' (first | exact PG.SetR.h0 | exact PG.SetR.h1 | exact PG.SetR.hl | exact PG.SetR.hc (by assumption) | apply PG.SetR.s)))) | ((with_reducible apply PG.setr_i); (case hset => (repeat' (first | exact PG.SetR.h0 | exact PG.SetR.h1 | exact PG.SetR.hl | exact PG.SetR.hc (by assumption) | apply PG.SetR.s)))) | ((with_reducible apply PG.setl_i); (case hset => (repeat' (first | exact PG.SetLR.h0 | exact PG.SetLR.h1 | exact PG.SetLR.hl | apply PG.SetLR.s)))) | ((with_reducible apply PG.put_i); (case hset => (repeat' (first | exact PG.PutR.h | apply PG.PutR.s)))) | ((with_reducible apply PG.pool_i); (case hget => rfl)) | ((with_reducible apply PG.bool_i)) | ((with_reducible apply PG.int_i)) | ((with_reducible apply PG.seqL_i)) | ((with_reducible apply PG.seqT_i)) | ((with_reducible apply PG.seqR_i)) | ((with_reducible apply PG.starT_i)) | ((with_reducible apply PG.starL_i)) | ((with_reducible apply PG.len_i); (case h => rfl)) | ((with_reducible apply PG.tup_i)) | ((with_reducible apply PG.yes_i)) | ((with_reducible apply PG.no_i)) | ((with_reducible apply PG.nyes_i)) | ((with_reducible apply PG.nno_i)) | ((with_reducible apply PG.wa_add)) | ((with_reducible apply PG.wa_sub)) | ((with_reducible apply PG.wa_lt)) | ((with_reducible apply PG.wa_le)) | ((with_reducible apply PG.wa_gt)) | ((with_reducible apply PG.wa_ge)) | ((with_reducible apply PG.wa_eqI)) | ((with_reducible apply PG.wa_neI)) | ((with_reducible apply PG.wa_neg)) | ((with_reducible apply PG.wa_lenL)) | ((with_reducible apply PG.wa_lenT)) | ((with_reducible apply PG.wa_int)) | ((with_reducible apply PG.wa_max)) | ((with_reducible apply PG.wa_min)) | ((with_reducible apply PG.wb_bool)) | ((with_reducible apply PG.wb_int)) | ((with_reducible apply PG.endP_ret)) | ((with_reducible apply PG.endP_retL)) | ((with_reducible apply PG.endN_ret)) | ((with_reducible apply PG.endL_ret)) | ((with_reducible apply PG.endL_retL)) | ((with_reducible apply PG.wa_binO)) | ((with_reducible apply PG.ch_le)) | ((with_reducible apply PG.ch_lt)) | ((with_reducible apply PG.ch_eq)) | ((with_reducible apply PG.wa_ix0); (case hget => rfl)) | ((with_reducible apply PG.wa_ix1); (case hget => rfl)) | ((with_reducible apply PG.wa_ix2); (case hget => rfl)) | ((with_reducible apply PG.wa_ix3); (case hget => rfl)) | ((with_reducible apply PG.wa_ix4); (case hget => rfl)) | ((with_reducible apply PG.wa_ix5); (case hget => rfl)) | ((with_reducible apply PG.wa_ix6); (case hget => rfl)) | ((with_reducible apply PG.wa_ix7); (case hget => rfl)) | ((with_reducible apply PG.wa_ix8); (case hget => rfl)) | ((with_reducible apply PG.wa_il0); (case hget => rfl)) | ((with_reducible apply PG.wa_il1); (case hget => rfl)) | ((with_reducible apply PG.wa_il2); (case hget => rfl)) | ((with_reducible apply PG.wa_ev1)) | ((with_reducible apply PG.wa_ev)) | ((with_reducible apply PG.wl_ev)) | ((with_reducible apply PG.wb_ev)) | ((with_reducible apply PG.wa_mod); (case h1 => omega)) | ((with_reducible apply PG.wa_div); (case h1 => omega); (case h2 => omega)) | ((with_reducible apply PG.wa_mulR); (case h1 => omega); (case h2 => omega)) | ((with_reducible apply PG.wa_mulL); (case h1 => omega); (case h2 => omega)) | ((with_reducible apply PG.wa_shr); (case h1 => omega)))
local macro_rules | `(tactic| array_get_dec) => `(tactic| first | ((with_reducible apply Pr_C.wp_draw); (case hp => assumption); (case h0 => omega); (case h1 => omega)) | ((with_reducible apply Pr_C.ls_i); (case hp => assumption)))

theorem odd_pick {B : Int} {D W : Nat} (hB : 0 ≤ B) (hW : 1 ≤ W) : ∀ x ∈ [PyData.str (Str.ofString "x"), .bool true, .tuple [], .int 0, .int (-1), .none, .bool false, .list []], Gd (B + 2) (D + 1) W x := by
  intro x hx
  simp only [List.mem_cons, List.not_mem_nil, or_false] at hx
  rcases hx with rfl | rfl | rfl | rfl | rfl | rfl | rfl | rfl
  · exact ⟨by show okS (Str.ofString "x") = true; decide +kernel, by simp [PyData.depth], by simpa [wt] using hW⟩
  · exact ⟨rfl, by simp [PyData.depth], by simpa [wt] using hW⟩
  · exact ⟨rfl, by simp [PyData.depth, PyData.depthAll], by simpa [wt, wtA] using hW⟩
  · exact .int (by omega) (by omega) hW
  · exact .int (by omega) (by omega) hW
  · exact ⟨rfl, by simp [PyData.depth], by simpa [wt] using hW⟩
  · exact ⟨rfl, by simp [PyData.depth], by simpa [wt] using hW⟩
  · exact ⟨rfl, by simp [PyData.depth, PyData.depthAll], by simpa [wt, wtA] using hW⟩
theorem ws_if_key {t : TF} {a c : SF} {ρ : Rho} {S : Out → Rho → Prop} (st : Pool → Rho) (key : ∀ p' : Pool, p'.ok → WS c (st p') S)
    (w : WT t ρ fun x ρ1 => (x = true → WS (sSeq a c) ρ1 S) ∧ (x = false → ∃ p' : Pool, p'.ok ∧ ρ1 = st p')) : WS (sSeq (sIf t a sNil) c) ρ S := by
  obtain ⟨x, ρ1, e, q1, q2⟩ := w
  refine ws_if ⟨x, ρ1, e, q1, fun h => ?_⟩
  obtain ⟨p', k, rfl⟩ := q2 h
  exact ws_nilc (key p' k)
theorem bent_ls (B : Int) (W : Nat) (hB : 0 ≤ B) (hW1 : 1 ≤ W) (hW : W ≤ 100000) : ∀ (n D : Nat) (v : PyData), It v → Gd B D W v → D < n → LS (F_law_bent n) [v] (Gd (B + 2) (D + 1) (3 * W * (D + 1) + 30))
  | 0, D, v, _, _, h => absurd h (Nat.not_lt_zero _)
  | n + 1, D, v, it, g, h => by
    have hR : W + 30 ≤ 3 * W * (D + 1) + 30 := by
      have : 3 * W * 1 ≤ 3 * W * (D + 1) := Nat.mul_le_mul_left _ (by omega)
      omega
    have hR3 : 3 * W + 30 ≤ 3 * W * (D + 1) + 30 := by
      have : 3 * W * 1 ≤ 3 * W * (D + 1) := Nat.mul_le_mul_left _ (by omega)
      omega
    intro p hp
    rw [F_law_bent]
    refine PG.wp_def rfl ?_
    simp only [PG.rhoL_eq, List.map_cons, List.map_nil, List.replicate_succ, List.replicate_zero, List.cons_append, List.nil_append]
    unfold B_law_bent
    cases it with
    | int i =>
      have gi := g.ok
      simp only [okd, Bool.and_eq_true, decide_eq_true_eq] at gi
      (repeat array_get_dec); intro v1 p1 k1 a1 b1; (repeat array_get_dec)
      (first | (with_reducible apply PG.dec_i) | (with_reducible apply PG.decn_i) | (with_reducible apply PG.bit_i)) <;> intro h
      · (repeat array_get_dec); intro v2 p2 k2 a2 b2; (repeat array_get_dec)
        refine wa_pick (Gd (B + 2) (D + 1) (3 * W * (D + 1) + 30)) a2 (by simpa using b2) (odd_pick hB (by omega)) ?_
        intro x hx; (repeat array_get_dec)
        exact hx
      (repeat array_get_dec); intro v2 p2 k2 a2 b2; (repeat array_get_dec)
      refine wa_pickI [1, -1, 2, 0] (fun z => -1 ≤ z ∧ z ≤ 2) a2 (by simpa using b2) (by simp) ?_
      intro z hz; (repeat array_get_dec)
      exact .int (by omega) (by omega) (by omega)
    | @tup xs hx =>
      cases D with
      | zero =>
        have := g.dp
        simp [PyData.depth] at this
      | succ D =>
      obtain ⟨gs, hw⟩ := Gs.of_tup g
      have hl := gs.len
      refine ws_if_key (fun p' => [some (.l true p'.d), some (.v (.tuple xs)), none, none, none, none]) ?_ ?_
      · intro p hp
        (repeat array_get_dec); intro v1 p1 k1 a1 b1; (repeat array_get_dec)
        (first | (with_reducible apply PG.dec_i) | (with_reducible apply PG.decn_i) | (with_reducible apply PG.bit_i)) <;> intro h
        · (repeat array_get_dec); intro v2 p2 k2 a2 b2; (repeat array_get_dec)
          refine wa_pick (Gd (B + 2) (D + 1 + 1) (3 * W * (D + 1 + 1) + 30)) a2 (by simpa using b2) (odd_pick hB (by omega)) ?_
          intro x hx; (repeat array_get_dec)
          exact hx
        (repeat array_get_dec)
        (first | (with_reducible apply PG.dec_i) | (with_reducible apply PG.decn_i) | (with_reducible apply PG.bit_i)) <;> intro h2
        · (repeat array_get_dec)
          (first | (with_reducible apply PG.dec_i) | (with_reducible apply PG.decn_i) | (with_reducible apply PG.bit_i)) <;> intro h3
          · (repeat array_get_dec)
            exact (Gs.tup (Gs.app (Gs.one (g.mono (by omega) (Nat.le_refl _) (Nat.le_refl _))) (Gs.one (Gd.int (W := 1) (by omega) (by omega) (Nat.le_refl _))))).mono (Int.le_refl _) (Nat.le_refl _) (by omega)
          · (repeat array_get_dec)
            exact (Gs.tup (B := B + 2) (D := D + 1) (W := 0) .nil).mono (Int.le_refl _) (Nat.le_refl _) (by omega)
        (repeat array_get_dec); intro v2 p2 k2 a2 b2; (repeat array_get_dec)
        (first | (with_reducible apply PG.dec_i) | (with_reducible apply PG.decn_i) | (with_reducible apply PG.bit_i)) <;> intro h3
        · (repeat array_get_dec)
          refine wa_addT (by have := @cut_len xs none (some v2); have := @cut_len xs (some (v2 + 1)) none; omega) ?_
          (repeat array_get_dec)
          exact (Gs.tup (Gs.app gs.cut gs.cut)).mono (by omega) (by omega) (by omega)
        (repeat array_get_dec)
        (first | (with_reducible apply PG.dec_i) | (with_reducible apply PG.decn_i) | (with_reducible apply PG.bit_i)) <;> intro h4
        · (repeat array_get_dec)
          refine wa_at' a2 (by simpa using b2) fun x hx => ?_
          (repeat array_get_dec)
          refine wa_addT (by have := @cut_len xs none (some v2); simp; omega) ?_
          (repeat array_get_dec)
          refine wa_addT (by have := @cut_len xs none (some v2); have := @cut_len xs (some v2) none; simp; omega) ?_
          (repeat array_get_dec)
          exact (Gs.tup (Gs.app (Gs.app gs.cut (Gs.one (gs.mem hx))) gs.cut)).mono (by omega) (by omega) (by omega)
        (repeat array_get_dec)
        (first | (with_reducible apply PG.dec_i) | (with_reducible apply PG.decn_i) | (with_reducible apply PG.bit_i)) <;> intro h5
        · (repeat array_get_dec)
          exact (Gs.lst gs).mono (by omega) (by omega) (by omega)
        (repeat array_get_dec); intro v3 p3 k3 a3 b3; (repeat array_get_dec)
        refine wa_at' a3 (by simpa using b3) fun x hx => ?_
        (repeat array_get_dec)
        refine ⟨v2, v2.toNat, xs, rfl, ixOf_nat a2 b2, ?_⟩
        (repeat array_get_dec)
        refine wa_at' a2 (by simpa using b2) fun y hy => ?_
        (repeat array_get_dec)
        refine ⟨v3, v3.toNat, xs.set v2.toNat x, rfl, ixOf_nat a3 (by simpa using b3), ?_⟩
        (repeat array_get_dec)
        exact (Gs.tup (Gs.set (Gs.set gs (gs.mem hx)) (gs.mem hy))).mono (by omega) (by omega) (by omega)
      · (repeat array_get_dec)
        (first | (with_reducible apply PG.dec_i) | (with_reducible apply PG.decn_i) | (with_reducible apply PG.bit_i)) <;> intro h
        · (repeat array_get_dec); intro v1 p1 k1 a1 b1; (repeat array_get_dec)
          (first | (with_reducible apply PG.dec_i) | (with_reducible apply PG.decn_i) | (with_reducible apply PG.bit_i)) <;> intro h1
          · (repeat array_get_dec); intro v2 p2 k2 a2 b2; (repeat array_get_dec)
            refine wa_at' a2 (by simpa using b2) fun x hm => ?_
            (repeat array_get_dec)
            refine wp_ls (bent_ls B W hB hW1 hW n D x (hx x hm) ((gs.mem hm).mono (Int.le_refl _) (Nat.le_refl _) (by omega)) (by omega)) k2 ?_
            intro z p3 k3 gz
            (repeat array_get_dec)
            refine wa_addT (by have := @cut_len xs none (some v2); simp; omega) ?_
            (repeat array_get_dec)
            refine wa_addT (by have := @cut_len xs none (some v2); have := @cut_len xs (some (v2 + 1)) none; simp; omega) ?_
            (repeat array_get_dec)
            have e : 3 * W * (D + 1 + 1) = 3 * W * (D + 1) + 3 * W := Nat.mul_succ _ _
            have gs' : Gs (B + 2) (D + 1) (W - 1) xs := gs.mono (by omega) (by omega) (Nat.le_refl _)
            exact (Gs.tup (Gs.app (Gs.app gs'.cut (Gs.one gz)) gs'.cut)).mono (Int.le_refl _) (Nat.le_refl _) (by omega)
          · first | exact ⟨p1, k1, rfl⟩ | exact PG.no_i ⟨p1, k1, rfl⟩
        · exact PG.no_i ⟨p, hp, rfl⟩
end Pr_D
end
section
set_option linter.all false
set_option maxRecDepth 100000
set_option Elab.async false
namespace Pr_D
open PySem PG Pr_C
local macro_rules | `(tactic| array_get_dec) => `(tactic| first | ((with_reducible apply PG.ws_set)) | ((with_reducible apply PG.ws_if)) | ((with_reducible apply PG.ws_ret)) | ((with_reducible apply PG.ws_setL)) | ((with_reducible apply PG.ws_expr)) | ((with_reducible apply PG.ws_nilc)) | ((with_reducible apply PG.ws_asc)) | ((with_reducible apply PG.ws_nil)) | ((with_reducible apply PG.ws_for)) | ((with_reducible apply PG.ws_asg)) | ((with_reducible apply PG.ws_par)) | ((with_reducible apply PG.ws_retL)) | ((with_reducible apply PG.ws_brk)) | ((with_reducible apply PG.ws_cont)) | ((with_reducible apply PG.ws_forn)) | ((with_reducible apply PG.ws_sto)) | ((with_reducible apply PG.ws_aug); (case hget => rfl)) | ((with_reducible apply PG.ws_app); (case hget => rfl)) | ((with_reducible apply PG.ws_retO); (case hget => rfl)) | ((with_reducible apply PG.we_name); (case hget => rfl)) | ((with_reducible apply PG.we_c)) | ((with_reducible apply PG.we_bin)) | ((with_reducible apply PG.we_un)) | ((with_reducible apply PG.we_call)) | ((with_reducible apply PG.we_callL); (case hget => rfl)) | ((with_reducible apply PG.we_tup)) | ((with_reducible apply PG.we_lst)) | ((with_reducible apply PG.we_if)) | ((with_reducible apply PG.we_ixL); (case hget => rfl)) | ((with_reducible apply PG.we_unL); (case hget => rfl)) | ((with_reducible apply PG.we_and)) | ((with_reducible apply PG.we_or)) | ((with_reducible apply PG.we_not)) | ((with_reducible apply PG.we_chain)) | ((with_reducible apply PG.we_slT)) | ((with_reducible apply PG.wn_cons)) | ((with_reducible apply PG.wn_nil)) | ((with_reducible apply PG.wn_star)) | ((with_reducible apply PG.wn_disp)) | ((with_reducible apply PG.wn_call)) | ((with_reducible apply PG.wn_sl)) | ((with_reducible apply PG.wn_its)) | ((with_reducible apply PG.wn_r1)) | ((with_reducible apply PG.wn_r2)) | ((with_reducible apply PG.wn_r3)) | ((with_reducible apply PG.wt_tru)) | ((with_reducible apply PG.wt_bl)) | ((with_reducible apply PG.wt_and)) | ((with_reducible apply PG.wt_or)) | ((with_reducible apply PG.wt_not)) | ((with_reducible apply PG.wt_yes)) | ((with_reducible apply PG.wt_truL); (case hget => rfl)) | ((with_reducible apply PG.wo_none)) | ((with_reducible apply PG.wo_some)) | ((with_reducible apply PG.wg_p0)) | ((with_reducible apply PG.wg_tup)) | ((with_reducible apply PG.wg_ps); (case hset => (repeat' (first | exact PG.SetR.h0 | exact PG.SetR.h1 | exact PG.SetR.hl | exact PG.SetR.hc (by assumption) | apply PG.SetR.s)))) | ((with_reducible apply PG.wg_set); (case hset => (repeat' (first | exact PG.SetR.h0 | exact PG.SetR.h1 | exact PG.SetR.hl | exact PG.SetR.hc (by assumption) | apply PG.SetR.s)))) | ((with_reducible apply PG.we_frz); (case hget => rfl); (case hset => (repeat' (first | exact PG.SetR.h0 | exact PG.SetR.h1 | exact PG.SetR.hl | exact PG.SetR.hc (by assumption) | apply PG.SetR.s)))) | ((with_reducible apply PG.setr_i); (case hset => (repeat' (first | exact PG.SetR.h0 | exact PG.SetR.h1 | exact PG.SetR.hl | exact PG.SetR.hc (by assumption) | apply PG.SetR.s)))) | ((with_reducible apply PG.setl_i); (case hset => (repeat' (first | exact PG.SetLR.h0 | exact PG.SetLR.h1 | exact PG.SetLR.hl | apply PG.SetLR.s)))) | ((with_reducible apply PG.put_i); (case hset => (repeat' (first | exact PG.PutR.h | apply PG.PutR.s)))) | ((with_reducible apply PG.pool_i); (case hget => rfl)) | ((with_reducible apply PG.bool_i)) | ((with_reducible apply PG.int_i)) | ((with_reducible apply PG.seqL_i)) | ((with_reducible apply PG.seqT_i)) | ((with_reducible apply PG.seqR_i)) | ((with_reducible apply PG.starT_i)) | ((with_reducible apply PG.starL_i)) | ((with_reducible apply PG.len_i); (case h => rfl)) | ((with_reducible apply PG.tup_i)) | ((with_reducible apply PG.yes_i)) | ((with_reducible apply PG.no_i)) | ((with_reducible apply PG.nyes_i)) | ((with_reducible apply PG.nno_i)) | ((with_reducible apply PG.wa_add)) | ((with_reducible apply PG.wa_sub)) | ((with_reducible apply PG.wa_lt)) | ((with_reducible apply PG.wa_le)) | ((with_reducible apply PG.wa_gt)) | ((with_reducible apply PG.wa_ge)) | ((with_reducible apply PG.wa_eqI)) | ((with_reducible apply PG.wa_neI)) | ((with_reducible apply PG.wa_neg)) | ((with_reducible apply PG.wa_lenL)) | ((with_reducible apply PG.wa_lenT)) | ((with_reducible apply PG.wa_int)) | ((with_reducible apply PG.wa_max)) | ((with_reducible apply PG.wa_min)) | ((with_reducible apply PG.wb_bool)) | ((with_reducible apply PG.wb_int)) | ((with_reducible apply PG.endP_ret)) | ((with_reducible apply PG.endP_retL)) | ((with_reducible apply PG.endN_ret)) | ((with_reducible apply PG.endL_ret)) | ((with_reducible apply PG.endL_retL)) | ((with_reducible apply PG.wa_binO)) | ((with_reducible apply PG.ch_le)) | ((with_reducible apply PG.ch_lt)) | ((with_reducible apply PG.ch_eq)) | ((with_reducible apply PG.wa_ix0); (case hget => rfl)) | ((with_reducible apply PG.wa_ix1); (case hget => rfl)) | ((with_reducible apply PG.wa_ix2); (case hget => rfl)) | ((with_reducible apply PG.wa_ix3); (case hget => rfl)) | ((with_reducible apply PG.wa_ix4); (case hget => rfl)) | ((with_reducible apply PG.wa_ix5); (case hget => rfl)) | ((with_reducible apply PG.wa_ix6); (case hget => rfl)) | ((with_reducible apply PG.wa_ix7); (case hget => rfl)) | ((with_reducible apply PG.wa_ix8); (case hget => rfl)) | ((with_reducible apply PG.wa_il0); (case hget => rfl)) | ((with_reducible apply PG.wa_il1); (case hget => rfl)) | ((with_reducible apply PG.wa_il2); (case hget => rfl)) | ((with_reducible apply PG.wa_ev1)) | ((with_reducible apply PG.wa_ev)) | ((with_reducible apply PG.wl_ev)) | ((with_reducible apply PG.wb_ev)) | ((with_reducible apply PG.wa_mod); (case h1 => omega)) | ((with_reducible apply PG.wa_div); (case h1 => omega); (case h2 => omega)) | ((with_reducible apply PG.wa_mulR); (case h1 => omega); (case h2 => omega)) | ((with_reducible apply PG.wa_mulL); (case h1 => omega); (case h2 => omega)) | ((with_reducible apply PG.wa_shr); (case h1 => omega)))
local macro_rules | `(tactic| array_get_dec) => `(tactic| first | ((with_reducible apply Pr_C.wp_draw); (case hp => assumption); (case h0 => omega); (case h1 => omega)) | ((with_reducible apply Pr_C.ls_i); (case hp => assumption)))

theorem wipe1 (x : Option Cell) : wipeR [x, none] [1] = [x, none] := rfl
/-- the items of a tuple, each given to a def -/
theorem map_we {x : PyData} {xs : List PyData} {R : List PyData → Option PyData} {X : EF} {m : PyData → PyData} {P : List PyData → Rho → Prop} (hX : ∀ y, X [some (.v x), some (.v y)] = match R [y] with
    | some z => some (z, [some (.v x), some (.v y)])
    | none => none) (hl : xs.length ≤ 16777216) (hx : ∀ y ∈ xs, R [y] = some (m y)) (hd : x = .tuple xs) (q : P (xs.map m) [some (.v x), none]) :
    WN (nComp (itS (eName 0)) (gSet 1) tYesF X [1]) [some (.v x), none] P := by
  subst hd
  refine wn_map id (fun _ => true) m xs ?_
  (repeat array_get_dec)
  refine ⟨by simp, hl, rfl, fun y hy => ?_, ?_⟩
  · simp only [wipe1, id]
    (repeat array_get_dec)
    refine ⟨rfl, fun _ => ?_, fun z => (nomatch z)⟩
    exact ⟨m y, _, by rw [hX, hx y hy], rfl, rfl, rfl⟩
  · rw [List.filter_eq_self.mpr (by simp)]
    exact q
theorem booled_ok (B : Int) : ∀ (n D : Nat) (v : PyData), It v → ∀ W, Gd B D W v → W ≤ 100000 → D < n → ∃ z, F_law_booled n [v] = some z ∧ Gd B D W z
  | 0, D, v, _, _, _, _, h => absurd h (Nat.not_lt_zero _)
  | n + 1, D, v, it, W, g, hW, h => by
    cases it with
    | int i =>
      by_cases c0 : i = 0
      · subst c0
        exact ⟨.bool false, by simp [F_law_booled, B_law_booled, defP, F_law_is_integer, B_law_is_integer, isTy, isN, tyName, atD, ixOf], ⟨rfl, Nat.zero_le _, g.w⟩⟩
      by_cases c1 : i = 1
      · subst c1
        exact ⟨.bool true, by simp [F_law_booled, B_law_booled, defP, F_law_is_integer, B_law_is_integer, isTy, isN, tyName, atD, ixOf], ⟨rfl, Nat.zero_le _, g.w⟩⟩
      refine ⟨.int i, ?_, g⟩
      by_cases c2 : 0 ≤ i
      · have c3 : ¬ i < 2 := by omega
        simp [F_law_booled, B_law_booled, defP, F_law_is_integer, B_law_is_integer, isTy, isN, tyName, atD, ixOf, c2, c3]
      · simp [F_law_booled, B_law_booled, defP, F_law_is_integer, B_law_is_integer, isTy, isN, tyName, atD, ixOf, c2]
    | @tup xs hx =>
      cases D with
      | zero =>
        have := g.dp
        simp [PyData.depth] at this
      | succ D =>
      obtain ⟨gs, hw⟩ := Gs.of_tup g
      have hl := gs.len
      have ih : ∀ y ∈ xs, ∃ z, F_law_booled n [y] = some z ∧ Gd B D (wt y) z := fun y hy => booled_ok B n D y (hx y hy) (wt y) ⟨(gs.ok y hy).1, (gs.ok y hy).2, Nat.le_refl _⟩ (by have := wtA_mem hy; have := gs.w; omega) (by omega)
      let m : PyData → PyData := fun y => (F_law_booled n [y]).getD .none
      have hm : ∀ y ∈ xs, F_law_booled n [y] = some (m y) := fun y hy => by
        obtain ⟨z, e, _⟩ := ih y hy
        simp [m, e]
      have gm : ∀ y ∈ xs, Gd B D (wt y) (m y) := fun y hy => by
        obtain ⟨z, e, gz⟩ := ih y hy
        simpa [m, e] using gz
      have gt : Gs B D (W - 1) (xs.map m) := by
        refine ⟨fun z hz => ?_, ?_⟩
        · obtain ⟨y, hy, rfl⟩ := List.mem_map.mp hz
          exact ⟨(gm y hy).ok, (gm y hy).dp⟩
        · have key : ∀ ys : List PyData, (∀ y ∈ ys, y ∈ xs) → wtA (ys.map m) ≤ wtA ys := by
            intro ys
            induction ys with
            | nil => intro _; exact Nat.le_refl _
            | cons y ys ih2 =>
              intro hs
              have a := (gm y (hs y (by simp))).w
              have b := ih2 fun z hz => hs z (by simp [hz])
              simp only [List.map_cons, wtA]
              omega
          exact Nat.le_trans (key xs fun _ h => h) gs.w
      refine ⟨.tuple (xs.map m), ?_, gt.tup.mono (Int.le_refl _) (Nat.le_refl _) (by omega)⟩
      refine of_wa ?_
      rw [F_law_booled]
      refine PG.wa_def rfl ?_
      simp only [PG.rho0_eq, List.map_cons, List.map_nil, List.replicate_succ, List.replicate_zero, List.cons_append, List.nil_append]
      unfold B_law_booled
      (repeat array_get_dec)
      refine map_we (R := F_law_booled n) (m := m) (fun y => ?_) (by omega) hm rfl ?_
      · simp [X_law_booled_1] <;> (split <;> rename_i h2 <;> simp [h2])
      · (repeat array_get_dec)
        all_goals rfl
end Pr_D
end
section
set_option Elab.async false
set_option linter.all false
set_option maxRecDepth 100000
namespace Pr_X
open PySem PG Pr_C Pr_D
/-! what each def does, on data -/
def B_size : SF :=
  (sSeq (sRet (eBin dShr (eC (.int 65536)) (eName 0)))
  sNil)
def F_size : List PyData → Option PyData := defP B_size 1 0
def B_is_prefix : SF :=
  (sSeq (sIf (tNot' (tTru (eCall F_is_tuple (nCons (eName 0) (nCons (eC (.int 2)) nNil)))))
  (sSeq (sRet (eC (.bool false)))
  sNil)
  sNil)
  (sSeq (sAsg (eName 0) (gTupS [1, 2]))
  (sSeq (sRet (eAnd (eCall F_is_address (nCons (eName 1) nNil)) (eAnd (eCall F_is_number (nCons (eName 2) (nCons (eC (.int 0)) (nCons (eC (.int 16)) nNil)))) (eBin dEq (eBin dMod (eName 1) (eCall F_size (nCons (eName 2) nNil))) (eC (.int 0))))))
  sNil)))
def F_is_prefix : List PyData → Option PyData := defP B_is_prefix 1 2
def B_held : SF :=
  (sSeq (sAsg (eName 0) (gTupS [1, 2]))
  (sSeq (sRet (eTup (nCons (eTup (nCons (eName 1) (nCons (eBin dSub (eBin dAdd (eName 1) (eCall F_size (nCons (eName 2) nNil))) (eC (.int 1))) nNil))) nNil)))
  sNil))
def F_held : List PyData → Option PyData := defP B_held 1 2
def B_holds : SF :=
  (sSeq (sAsg (eName 0) (gTupS [2, 3]))
  (sSeq (sRet (eChain dLe dLt (eName 2) (eName 1) (eBin dAdd (eName 2) (eCall F_size (nCons (eName 3) nNil)))))
  sNil))
def F_holds : List PyData → Option PyData := defP B_holds 2 2
def X_longest_1 : SF :=
  (sSeq (sIf (tAnd' (tTru (eCall F_holds (nCons (eName 3) (nCons (eName 1) nNil)))) (tOr' (tBl (eUn dIsN (eName 2))) (tBl (eBin dGt (eBin dIx (eName 3) (eC (.int 1))) (eBin dIx (eName 2) (eC (.int 1)))))))
  (sSeq (sSet 2 (eName 3))
  sNil)
  sNil)
  sNil)
def B_longest : SF :=
  (sSeq (sSet 2 (eC .none))
  (sSeq (sFor (itS (eName 0)) (gSet 3)
  X_longest_1)
  (sSeq (sRet (eName 2))
  sNil)))
def F_longest : List PyData → Option PyData := defP B_longest 2 2
def B_law_prefix : SF :=
  (sSeq (sSet 1 (eCallL F_law_draw 0 (nCons (eC (.int 17)) nNil)))
  (sSeq (sRet (eTup (nCons (eBin dMul (eCallL F_law_draw 0 (nCons (eCall F_law_power (nCons (eName 1) nNil)) nNil)) (eCall F_law_power (nCons (eBin dSub (eC (.int 16)) (eName 1)) nNil))) (nCons (eName 1) nNil))))
  sNil))
def F_law_prefix : List PyData → List PyData → Option (PyData × List PyData) := defL B_law_prefix 0 1
def B_law_is_prefix : SF :=
  (sSeq (sIf (tOr' (tNot' (tTru (eUn (dIsi "tuple") (eName 0)))) (tOr' (tBl (eBin dNe (eCall (o1of dLen) (nCons (eName 0) nNil)) (eC (.int 2)))) (tOr' (tNot' (tTru (eCall F_law_is_integer (nCons (eBin dIx (eName 0) (eC (.int 0))) nNil)))) (tNot' (tTru (eCall F_law_is_integer (nCons (eBin dIx (eName 0) (eC (.int 1))) nNil)))))))
  (sSeq (sRet (eC (.bool false)))
  sNil)
  sNil)
  (sSeq (sIf (tOr' (tBl (eBin dLt (eBin dIx (eName 0) (eC (.int 1))) (eC (.int 0)))) (tOr' (tBl (eBin dGt (eBin dIx (eName 0) (eC (.int 1))) (eC (.int 16)))) (tOr' (tBl (eBin dLt (eBin dIx (eName 0) (eC (.int 0))) (eC (.int 0)))) (tBl (eBin dGt (eBin dIx (eName 0) (eC (.int 0))) (eC (.int 65535)))))))
  (sSeq (sRet (eC (.bool false)))
  sNil)
  sNil)
  (sSeq (sRet (eBin dEq (eBin dMod (eCall (o1of dInt) (nCons (eBin dIx (eName 0) (eC (.int 0))) nNil)) (eCall F_law_power (nCons (eBin dSub (eC (.int 16)) (eBin dIx (eName 0) (eC (.int 1)))) nNil))) (eC (.int 0))))
  sNil)))
def F_law_is_prefix : List PyData → Option PyData := defP B_law_is_prefix 1 0
def B_law_last : SF :=
  (sSeq (sRet (eBin dSub (eBin dAdd (eBin dIx (eName 0) (eC (.int 0))) (eCall F_law_power (nCons (eBin dSub (eC (.int 16)) (eBin dIx (eName 0) (eC (.int 1)))) nNil))) (eC (.int 1))))
  sNil)
def F_law_last : List PyData → Option PyData := defP B_law_last 1 0
def X_ways_1 : EF :=
  (eTup (nCons (eName 2) (nCons (eName 1) nNil)))
def B_ways : SF :=
  (sSeq (sRet (eBin dAdd (eLst (nCall (n1of dLstOf) (nCons (eName 0) nNil))) (eLst (nComp (itS (eName 0)) (gTupS [1, 2]) tYesF X_ways_1 [1, 2]))))
  sNil)
def F_ways : List PyData → Option PyData := defP B_ways 1 2
def X_exchanged_1 : SF :=
  (sSeq (sIf (tTru (eCall F_holds (nCons (eName 2) (nCons (eName 1) nNil))))
  (sSeq (sRet (eBin dAdd (eBin dSub (eName 1) (eBin dIx (eName 2) (eC (.int 0)))) (eBin dIx (eName 3) (eC (.int 0)))))
  sNil)
  sNil)
  sNil)
def B_exchanged : SF :=
  (sSeq (sFor (itS (eCall F_ways (nCons (eName 0) nNil))) (gTupS [2, 3])
  X_exchanged_1)
  (sSeq (sRet (eName 1))
  sNil))
def F_exchanged : List PyData → Option PyData := defP B_exchanged 2 2
def X_law_swap_1 : SF :=
  (sSeq (sIf (tAnd' (tBl (eBin dLe (eBin dIx (eBin dIx (eName 2) (eName 3)) (eC (.int 0))) (eName 1))) (tBl (eBin dLe (eName 1) (eCall F_law_last (nCons (eBin dIx (eName 2) (eName 3)) nNil)))))
  (sSeq (sRet (eBin dAdd (eBin dSub (eName 1) (eBin dIx (eBin dIx (eName 2) (eName 3)) (eC (.int 0)))) (eBin dIx (eBin dIx (eName 2) (eBin dSub (eC (.int 1)) (eName 3))) (eC (.int 0)))))
  sNil)
  sNil)
  sNil)
def X_law_swap_2 : SF :=
  (sSeq (sFor (itS (eTup (nCons (eC (.int 0)) (nCons (eC (.int 1)) nNil)))) (gSet 3)
  X_law_swap_1)
  sNil)
def B_law_swap : SF :=
  (sSeq (sFor (itS (eName 0)) (gSet 2)
  X_law_swap_2)
  (sSeq (sRet (eName 1))
  sNil))
def F_law_swap : List PyData → Option PyData := defP B_law_swap 2 2
end Pr_X
end
section
set_option linter.all false
set_option maxRecDepth 100000
set_option Elab.async false
namespace Pr_X
open PySem PG Pr_C Pr_D
/-! ### prefixes -/
def sz (l : Int) : Int := 2 ^ (16 - l).toNat
def okX (x : Int × Int) : Prop := 0 ≤ x.1 ∧ x.1 ≤ 65535 ∧ 0 ≤ x.2 ∧ x.2 ≤ 16
theorem pw17 : ∀ n : Nat, n < 17 → (1 : Int) ≤ 2 ^ n ∧ (2 : Int) ^ n ≤ 65536 ∧ (65536 : Int) / 2 ^ n = 2 ^ (16 - n) ∧ (2 : Int) ^ n * 2 ^ (16 - n) = 65536 := by decide
theorem sz_to {l : Int} (h0 : 0 ≤ l) (h1 : l ≤ 16) : sz l = 2 ^ (16 - l.toNat) := by
  unfold sz
  rw [show (16 - l).toNat = 16 - l.toNat by omega]
theorem sz_bd {l : Int} (h0 : 0 ≤ l) (h1 : l ≤ 16) : 1 ≤ sz l ∧ sz l ≤ 65536 := by
  rw [sz_to h0 h1]
  have := pw17 (16 - l.toNat) (by omega)
  exact ⟨this.1, this.2.1⟩
theorem sz_mul {l : Int} (h0 : 0 ≤ l) (h1 : l ≤ 16) : (2 : Int) ^ l.toNat * sz l = 65536 := by
  rw [sz_to h0 h1]
  exact (pw17 l.toNat (by omega)).2.2.2
theorem wa_power {l : Int} {Q : PyData → Prop} (h0 : 0 ≤ l) (h1 : l ≤ 16) (q : ∀ a : Int, a = 2 ^ l.toNat → 1 ≤ a → a ≤ 65536 → Q (.int a)) : WA (F_law_power [.int l]) Q := by
  have e := power_ok l.toNat (by omega)
  rw [show ((l.toNat : Nat) : Int) = l by omega] at e
  have := pw17 l.toNat (by omega)
  exact ⟨_, e, q _ rfl this.1 this.2.1⟩
local macro_rules | `(tactic| array_get_dec) => `(tactic| first | ((with_reducible apply PG.ws_set)) | ((with_reducible apply PG.ws_if)) | ((with_reducible apply PG.ws_ret)) | ((with_reducible apply PG.ws_setL)) | ((with_reducible apply PG.ws_expr)) | ((with_reducible apply PG.ws_nilc)) | ((with_reducible apply PG.ws_asc)) | ((with_reducible apply PG.ws_nil)) | ((with_reducible apply PG.ws_for)) | ((with_reducible apply PG.ws_asg)) | ((with_reducible apply PG.ws_par)) | ((with_reducible apply PG.ws_retL)) | ((with_reducible apply PG.ws_brk)) | ((with_reducible apply PG.ws_cont)) | ((with_reducible apply PG.ws_forn)) | ((with_reducible apply PG.ws_sto)) | ((with_reducible apply PG.ws_aug); (case hget => rfl)) | ((with_reducible apply PG.ws_app); (case hget => rfl)) | ((with_reducible apply PG.ws_retO); (case hget => rfl)) | ((with_reducible apply PG.we_name); (case hget => rfl)) | ((with_reducible apply PG.we_c)) | ((with_reducible apply PG.we_bin)) | ((with_reducible apply PG.we_un)) | ((with_reducible apply PG.we_call)) | ((with_reducible apply PG.we_callL); (case hget => rfl)) | ((with_reducible apply PG.we_tup)) | ((with_reducible apply PG.we_lst)) | ((with_reducible apply PG.we_if)) | ((with_reducible apply PG.we_ixL); (case hget => rfl)) | ((with_reducible apply PG.we_unL); (case hget => rfl)) | ((with_reducible apply PG.we_and)) | ((with_reducible apply PG.we_or)) | ((with_reducible apply PG.we_not)) | ((with_reducible apply PG.we_chain)) | ((with_reducible apply PG.we_slT)) | ((with_reducible apply PG.wn_cons)) | ((with_reducible apply PG.wn_nil)) | ((with_reducible apply PG.wn_star)) | ((with_reducible apply PG.wn_disp)) | ((with_reducible apply PG.wn_call)) | ((with_reducible apply PG.wn_sl)) | ((with_reducible apply PG.wn_its)) | ((with_reducible apply PG.wn_r1)) | ((with_reducible apply PG.wn_r2)) | ((with_reducible apply PG.wn_r3)) | ((with_reducible apply PG.wt_tru)) | ((with_reducible apply PG.wt_bl)) | ((with_reducible apply PG.wt_and)) | ((with_reducible apply PG.wt_or)) | ((with_reducible apply PG.wt_not)) | ((with_reducible apply PG.wt_yes)) | ((with_reducible apply PG.wt_truL); (case hget => rfl)) | ((with_reducible apply PG.wo_none)) | ((with_reducible apply PG.wo_some)) | ((with_reducible apply PG.wg_p0)) | ((with_reducible apply PG.wg_tup)) | ((with_reducible apply PG.wg_ps); (case hset => (repeat' (first | exact PG.SetR.h0 | exact PG.SetR.h1 | exact PG.SetR.hl | exact PG.SetR.hc (by assumption) | apply PG.SetR.s)))) | ((with_reducible apply PG.wg_set); (case hset => (repeat' (first | exact PG.SetR.h0 | exact PG.SetR.h1 | exact PG.SetR.hl | exact PG.SetR.hc (by assumption) | apply PG.SetR.s)))) | ((with_reducible apply PG.we_frz); (case hget => rfl); (case hset => (repeat' (first | exact PG.SetR.h0 | exact PG.SetR.h1 | exact PG.SetR.hl | exact PG.SetR.hc (by assumption) | apply PG.SetR.s)))) | ((with_reducible apply PG.setr_i); (case hset => (repeat' (first | exact PG.SetR.h0 | exact PG.SetR.h1 | exact PG.SetR.hl | exact PG.SetR.hc (by assumption) | apply PG.SetR.s)))) | ((with_reducible apply PG.setl_i); (case hset => (repeat' (first | exact PG.SetLR.h0 | exact PG.SetLR.h1 | exact PG.SetLR.hl | apply PG.SetLR.s)))) | ((with_reducible apply PG.put_i); (case hset => (repeat' (first | exact PG.PutR.h | apply PG.PutR.s)))) | ((with_reducible apply PG.pool_i); (case hget => rfl)) | ((with_reducible apply PG.bool_i)) | ((with_reducible apply PG.int_i)) | ((with_reducible apply PG.seqL_i)) | ((with_reducible apply PG.seqT_i)) | ((with_reducible apply PG.seqR_i)) | ((with_reducible apply PG.starT_i)) | ((with_reducible apply PG.starL_i)) | ((with_reducible apply PG.len_i); (case h => rfl)) | ((with_reducible apply PG.tup_i)) | ((with_reducible apply PG.yes_i)) | ((with_reducible apply PG.no_i)) | ((with_reducible apply PG.nyes_i)) | ((with_reducible apply PG.nno_i)) | ((with_reducible apply PG.wa_add)) | ((with_reducible apply PG.wa_sub)) | ((with_reducible apply PG.wa_lt)) | ((with_reducible apply PG.wa_le)) | ((with_reducible apply PG.wa_gt)) | ((with_reducible apply PG.wa_ge)) | ((with_reducible apply PG.wa_eqI)) | ((with_reducible apply PG.wa_neI)) | ((with_reducible apply PG.wa_neg)) | ((with_reducible apply PG.wa_lenL)) | ((with_reducible apply PG.wa_lenT)) | ((with_reducible apply PG.wa_int)) | ((with_reducible apply PG.wa_max)) | ((with_reducible apply PG.wa_min)) | ((with_reducible apply PG.wb_bool)) | ((with_reducible apply PG.wb_int)) | ((with_reducible apply PG.endP_ret)) | ((with_reducible apply PG.endP_retL)) | ((with_reducible apply PG.endN_ret)) | ((with_reducible apply PG.endL_ret)) | ((with_reducible apply PG.endL_retL)) | ((with_reducible apply PG.wa_binO)) | ((with_reducible apply PG.ch_le)) | ((with_reducible apply PG.ch_lt)) | ((with_reducible apply PG.ch_eq)) | ((with_reducible apply PG.wa_ix0); (case hget => rfl)) | ((with_reducible apply PG.wa_ix1); (case hget => rfl)) | ((with_reducible apply PG.wa_ix2); (case hget => rfl)) | ((with_reducible apply PG.wa_ix3); (case hget => rfl)) | ((with_reducible apply PG.wa_ix4); (case hget => rfl)) | ((with_reducible apply PG.wa_ix5); (case hget => rfl)) | ((with_reducible apply PG.wa_ix6); (case hget => rfl)) | ((with_reducible apply PG.wa_ix7); (case hget => rfl)) | ((with_reducible apply PG.wa_ix8); (case hget => rfl)) | ((with_reducible apply PG.wa_il0); (case hget => rfl)) | ((with_reducible apply PG.wa_il1); (case hget => rfl)) | ((with_reducible apply PG.wa_il2); (case hget => rfl)) | ((with_reducible apply PG.wa_ev1)) | ((with_reducible apply PG.wa_ev)) | ((with_reducible apply PG.wl_ev)) | ((with_reducible apply PG.wb_ev)) | ((with_reducible apply PG.wa_mod); (case h1 => omega)) | ((with_reducible apply PG.wa_div); (case h1 => omega); (case h2 => omega)) | ((with_reducible apply PG.wa_mulR); (case h1 => omega); (case h2 => omega)) | ((with_reducible apply PG.wa_mulL); (case h1 => omega); (case h2 => omega)) | ((with_reducible apply PG.wa_shr); (case h1 => omega)))
local macro_rules | `(tactic| array_get_dec) => `(tactic| first | ((with_reducible apply Pr_C.wp_draw); (case hp => assumption); (case h0 => omega); (case h1 => omega)) | ((with_reducible apply Pr_C.ls_i); (case hp => assumption)))

theorem wa_size {l : Int} {Q : PyData → Prop} (h0 : 0 ≤ l) (h1 : l ≤ 16) (q : Q (.int (sz l))) : WA (F_size [.int l]) Q := by
  refine wa_eq ?_ q
  refine of_wa ?_
  unfold F_size; refine PG.wa_def rfl ?_; simp only [PG.rho0_eq, List.map_cons, List.map_nil, List.replicate_succ, List.replicate_zero, List.cons_append, List.nil_append]; unfold B_size
  (repeat array_get_dec)
  rw [sz_to h0 h1, (pw17 l.toNat (by omega)).2.2.1]
local macro_rules | `(tactic| array_get_dec) => `(tactic| first | ((with_reducible apply wa_size); (case h0 => omega); (case h1 => omega)) | ((with_reducible apply wa_power); (case h0 => omega); (case h1 => omega)))

theorem prefix_ls : LS F_law_prefix [] fun d => ∃ x, d = pr x ∧ okX x := by
  intro p hp
  unfold F_law_prefix; refine PG.wp_def rfl ?_; simp only [PG.rhoL_eq, List.map_cons, List.map_nil, List.replicate_succ, List.replicate_zero, List.cons_append, List.nil_append]; unfold B_law_prefix
  (repeat array_get_dec); intro l p1 k1 a1 b1; (repeat array_get_dec)
  intro a ea a2 b2; (repeat array_get_dec)
  intro v p3 k3 a3 b3; (repeat array_get_dec)
  intro c ec a4 b4; (repeat array_get_dec)
  have hc : c = sz l := ec
  have hm := sz_mul a1 (by omega)
  rw [← hc, ← ea] at hm
  have h1 : v * c ≤ (a - 1) * c := Int.mul_le_mul_of_nonneg_right (by omega) (by omega)
  have h0 : 0 ≤ v * c := Int.mul_nonneg a3 (by omega)
  rw [Int.sub_mul] at h1
  first | exact ⟨(v * c, l), rfl, h0, by simp only; omega, a1, by simp only; omega⟩ | skip
theorem wp_prefix {p : Pool} {Q : PyData → List PyData → Prop} (hp : p.ok) (q : ∀ (b l : Int) (p' : Pool), p'.ok → okX (b, l) → Q (.tuple [.int b, .int l]) p'.d) : WP (F_law_prefix p.d []) Q :=
  wp_ls prefix_ls hp fun z p' hp' ⟨x, e, a⟩ => by subst e; exact q x.1 x.2 p' hp' a
def hld (a : Int) (x : Int × Int) : Bool := decide (x.1 ≤ a) && decide (a < x.1 + sz x.2)
theorem holds_ok {b l a : Int} (h0 : 0 ≤ l) (h1 : l ≤ 16) : F_holds [.tuple [.int b, .int l], .int a] = some (.bool (hld a (b, l))) := by
  refine of_wa ?_
  unfold F_holds; refine PG.wa_def rfl ?_; simp only [PG.rho0_eq, List.map_cons, List.map_nil, List.replicate_succ, List.replicate_zero, List.cons_append, List.nil_append]; unfold B_holds
  (repeat array_get_dec)
  unfold hld
  (first | (with_reducible apply PG.dec_i) | (with_reducible apply PG.decn_i) | (with_reducible apply PG.bit_i)) <;> intro h
  · (repeat array_get_dec)
    simp [h]
  · (repeat array_get_dec)
    simp [h]
theorem last_ok {b l : Int} (h0 : 0 ≤ l) (h1 : l ≤ 16) : F_law_last [.tuple [.int b, .int l]] = some (.int (b + sz l - 1)) := by
  refine of_wa ?_
  unfold F_law_last; refine PG.wa_def rfl ?_; simp only [PG.rho0_eq, List.map_cons, List.map_nil, List.replicate_succ, List.replicate_zero, List.cons_append, List.nil_append]; unfold B_law_last
  (repeat array_get_dec)
  intro a ea _ _
  (repeat array_get_dec)
  rw [ea]
  rfl
theorem held_ok {b l : Int} (h0 : 0 ≤ l) (h1 : l ≤ 16) : F_held [.tuple [.int b, .int l]] = some (.tuple [.tuple [.int b, .int (b + sz l - 1)]]) := by
  refine of_wa ?_
  unfold F_held; refine PG.wa_def rfl ?_; simp only [PG.rho0_eq, List.map_cons, List.map_nil, List.replicate_succ, List.replicate_zero, List.cons_append, List.nil_append]; unfold B_held
  (repeat array_get_dec)
  rfl
def bst : Option (Int × Int) → Int × Int → Option (Int × Int)
  | none, x => some x
  | some y, x => if y.2 < x.2 then some x else some y
def oD : Option (Int × Int) → PyData
  | none => .none
  | some x => pr x
def lng (l : List (Int × Int)) (a : Int) : Option (Int × Int) := (l.filter (hld a)).foldl bst none
theorem turn_lng (L : PyData) (a : Int) (b : Option (Int × Int)) (x : Int × Int) (ox : okX x) :
    WS X_longest_1 [some (.v L), some (.v (.int a)), some (.v (oD b)), some (.v (pr x))] fun o ρ2 => o = .next ∧ ρ2 = [some (.v L), some (.v (.int a)), some (.v (oD (if hld a x then bst b x else b))), some (.v (pr x))] := by
  unfold X_longest_1 pr
  obtain ⟨o1, o2, o3, o4⟩ := ox
  (repeat array_get_dec)
  refine wa_eq (holds_ok o3 o4) ?_
  (repeat array_get_dec)
  cases hh : hld a (x.1, x.2) with
  | false =>
    (repeat array_get_dec)
    refine ⟨rfl, ?_⟩
    simp [hh, pr]
  | true =>
    (repeat array_get_dec)
    cases b with
    | none =>
      refine wa_eq (e := .bool true) rfl ?_
      (repeat array_get_dec)
      refine ⟨rfl, ?_⟩
      simp [hh, oD, bst, pr]
    | some y =>
      have eo : oD (some y) = .tuple [.int y.1, .int y.2] := rfl
      rw [eo]
      refine wa_eq (e := .bool false) rfl ?_
      (repeat array_get_dec)
      (first | (with_reducible apply PG.dec_i) | (with_reducible apply PG.decn_i) | (with_reducible apply PG.bit_i)) <;> intro h
      · (repeat array_get_dec)
        refine ⟨rfl, ?_⟩
        simp [hh, oD, bst, pr, h]
      · (repeat array_get_dec)
        refine ⟨rfl, ?_⟩
        simp [hh, oD, bst, pr, h]
theorem longest_ok (l : List (Int × Int)) (a : Int) (ho : ∀ x ∈ l, okX x) : F_longest [.list (prs l), .int a] = some (oD (lng l a)) := by
  refine of_wa ?_
  unfold F_longest; refine PG.wa_def rfl ?_; simp only [PG.rho0_eq, List.map_cons, List.map_nil, List.replicate_succ, List.replicate_zero, List.cons_append, List.nil_append]; unfold B_longest
  (repeat array_get_dec)
  refine ws_forI (fun ds ρ => ∃ (rest : List (Int × Int)) (b : Option (Int × Int)) (c3 : Option Cell), ds = prs rest ∧ (rest.filter (hld a)).foldl bst b = lng l a ∧ (∀ x ∈ rest, okX x) ∧ PlainC c3 ∧ ρ = [some (.v (.list (prs l))), some (.v (.int a)), some (.v (oD b)), c3]) _ ⟨l, none, none, rfl, rfl, ho, .inl rfl, rfl⟩ ?_ ?_
  · rintro d ds ρ ⟨rest, b, c3, e, hf, hr, q3, rfl⟩
    cases rest with
    | nil => cases e
    | cons x rest =>
      cases e
      (repeat array_get_dec)
      obtain ⟨o, ρ2, e2, rfl, rfl⟩ := turn_lng (.list (prs l)) a b x (hr x (by simp))
      refine ⟨_, _, e2, rfl, rest, _, _, rfl, ?_, fun y hy => hr y (by simp [hy]), .inr ⟨_, rfl⟩, rfl⟩
      rw [← hf, List.filter_cons]
      split <;> rfl
  · rintro ρ1 ⟨rest, b, c3, e, hf, hr, q3, rfl⟩
    cases rest with
    | cons x rest => cases e
    | nil =>
      (repeat array_get_dec)
      rw [← hf]
      rfl
end Pr_X
end
section
set_option linter.all false
set_option maxRecDepth 100000
set_option Elab.async false
namespace Pr_X
open PySem PG Pr_C Pr_D
/-! ### a prefix, told -/
def Nd (d : PyData) : Prop := ∃ B, okd B d = true
def isI : PyData → Bool
  | .int _ => true
  | _ => false
theorem integer_is {a : PyData} (h : Nd a) : F_law_is_integer [a] = some (.bool (isI a)) := by
  cases a with
  | dict _ => obtain ⟨B, h⟩ := h; cases h
  | _ => rfl
theorem isI_int {a : PyData} (h : isI a = true) : ∃ i, a = .int i := by
  cases a with
  | int i => exact ⟨i, rfl⟩
  | _ => cases h
theorem nd_tup {xs : List PyData} (h : Nd (.tuple xs)) : ∀ x ∈ xs, Nd x := fun x hx => by
  obtain ⟨B, h⟩ := h
  simp only [okd] at h
  exact ⟨B, okA_mem.mp h x hx⟩
theorem is_tuple_no {d : PyData} {k : Int} (h : Nd d) (hn : ∀ xs, d ≠ .tuple xs) : F_is_tuple [d, .int k] = some (.bool false) := by
  cases d with
  | dict _ => obtain ⟨B, h⟩ := h; cases h
  | tuple xs => exact absurd rfl (hn xs)
  | _ => simp [F_is_tuple, B_is_tuple, defP, tyName]
theorem is_tuple_len {xs : List PyData} {k : Int} : F_is_tuple [.tuple xs, .int k] = some (.bool (decide ((xs.length : Int) = k))) := by
  simp [F_is_tuple, B_is_tuple, defP, tyName, dEq]
theorem isi_no {d : PyData} (h : Nd d) (hn : ∀ xs, d ≠ .tuple xs) : dIsi "tuple" d = some (.bool false) := by
  cases d with
  | dict _ => obtain ⟨B, h⟩ := h; cases h
  | tuple xs => exact absurd rfl (hn xs)
  | _ => simp [isTy, isN, tyName]
theorem two_of {xs : List PyData} (h : xs.length = 2) : ∃ a b, xs = [a, b] := by
  match xs, h with
  | [a, b], _ => exact ⟨a, b, rfl⟩
theorem number_no {a : PyData} {lo hi : Int} (h : Nd a) (hi' : isI a = false) : F_is_number [a, .int lo, .int hi] = some (.bool false) := by
  cases a with
  | dict _ => obtain ⟨B, h⟩ := h; cases h
  | int i => cases hi'
  | _ => simp [F_is_number, B_is_number, defP, tyName]
theorem number_int {i lo hi : Int} : F_is_number [.int i, .int lo, .int hi] = some (.bool (decide (lo ≤ i) && decide (i ≤ hi))) := by
  by_cases h : lo ≤ i <;> simp [F_is_number, B_is_number, defP, tyName, dLe, h]
theorem address_no {a : PyData} (h : Nd a) (hi' : isI a = false) : F_is_address [a] = some (.bool false) := by
  have := number_no (lo := 0) (hi := 65535) h hi'
  simp [F_is_address, B_is_address, defP, this]
theorem address_int {i : Int} : F_is_address [.int i] = some (.bool (decide (0 ≤ i) && decide (i ≤ 65535))) := by
  have := number_int (i := i) (lo := 0) (hi := 65535)
  simp [F_is_address, B_is_address, defP, this]
def isP : PyData → Bool
  | .tuple [.int b, .int l] => (decide (0 ≤ b) && decide (b ≤ 65535)) && ((decide (0 ≤ l) && decide (l ≤ 16)) && decide (b % sz l = 0))
  | _ => false
theorem isP_no {d : PyData} (hn : ∀ xs, d ≠ .tuple xs) : isP d = false := by
  unfold isP
  split
  · exact absurd rfl (hn _)
  · rfl
theorem isP_len {xs : List PyData} (h : xs.length ≠ 2) : isP (.tuple xs) = false := by
  unfold isP
  split
  · rename_i a b e
    cases e
    exact absurd rfl h
  · rfl
theorem isP_ab {a b : PyData} (h : (isI a && isI b) = false) : isP (.tuple [a, b]) = false := by
  unfold isP
  split
  · rename_i i j e
    cases e
    cases h
  · rfl
theorem isP_ii {a b : Int} : isP (.tuple [.int a, .int b]) = ((decide (0 ≤ a) && decide (a ≤ 65535)) && ((decide (0 ≤ b) && decide (b ≤ 16)) && decide (a % sz b = 0))) := rfl
local macro_rules | `(tactic| array_get_dec) => `(tactic| first | ((with_reducible apply PG.ws_set)) | ((with_reducible apply PG.ws_if)) | ((with_reducible apply PG.ws_ret)) | ((with_reducible apply PG.ws_setL)) | ((with_reducible apply PG.ws_expr)) | ((with_reducible apply PG.ws_nilc)) | ((with_reducible apply PG.ws_asc)) | ((with_reducible apply PG.ws_nil)) | ((with_reducible apply PG.ws_for)) | ((with_reducible apply PG.ws_asg)) | ((with_reducible apply PG.ws_par)) | ((with_reducible apply PG.ws_retL)) | ((with_reducible apply PG.ws_brk)) | ((with_reducible apply PG.ws_cont)) | ((with_reducible apply PG.ws_forn)) | ((with_reducible apply PG.ws_sto)) | ((with_reducible apply PG.ws_aug); (case hget => rfl)) | ((with_reducible apply PG.ws_app); (case hget => rfl)) | ((with_reducible apply PG.ws_retO); (case hget => rfl)) | ((with_reducible apply PG.we_name); (case hget => rfl)) | ((with_reducible apply PG.we_c)) | ((with_reducible apply PG.we_bin)) | ((with_reducible apply PG.we_un)) | ((with_reducible apply PG.we_call)) | ((with_reducible apply PG.we_callL); (case hget => rfl)) | ((with_reducible apply PG.we_tup)) | ((with_reducible apply PG.we_lst)) | ((with_reducible apply PG.we_if)) | ((with_reducible apply PG.we_ixL); (case hget => rfl)) | ((with_reducible apply PG.we_unL); (case hget => rfl)) | ((with_reducible apply PG.we_and)) | ((with_reducible apply PG.we_or)) | ((with_reducible apply PG.we_not)) | ((with_reducible apply PG.we_chain)) | ((with_reducible apply PG.we_slT)) | ((with_reducible apply PG.wn_cons)) | ((with_reducible apply PG.wn_nil)) | ((with_reducible apply PG.wn_star)) | ((with_reducible apply PG.wn_disp)) | ((with_reducible apply PG.wn_call)) | ((with_reducible apply PG.wn_sl)) | ((with_reducible apply PG.wn_its)) | ((with_reducible apply PG.wn_r1)) | ((with_reducible apply PG.wn_r2)) | ((with_reducible apply PG.wn_r3)) | ((with_reducible apply PG.wt_tru)) | ((with_reducible apply PG.wt_bl)) | ((with_reducible apply PG.wt_and)) | ((with_reducible apply PG.wt_or)) | ((with_reducible apply PG.wt_not)) | ((with_reducible apply PG.wt_yes)) | ((with_reducible apply PG.wt_truL); (case hget => rfl)) | ((with_reducible apply PG.wo_none)) | ((with_reducible apply PG.wo_some)) | ((with_reducible apply PG.wg_p0)) | ((with_reducible apply PG.wg_tup)) | ((with_reducible apply PG.wg_ps); (case hset => (repeat' (first | exact PG.SetR.h0 | exact PG.SetR.h1 | exact PG.SetR.hl | exact PG.SetR.hc (by assumption) | apply PG.SetR.s)))) | ((with_reducible apply PG.wg_set); (case hset => (repeat' (first | exact PG.SetR.h0 | exact PG.SetR.h1 | exact PG.SetR.hl | exact PG.SetR.hc (by assumption) | apply PG.SetR.s)))) | ((with_reducible apply PG.we_frz); (case hget => rfl); (case hset => (repeat' (first | exact PG.SetR.h0 | exact PG.SetR.h1 | exact PG.SetR.hl | exact PG.SetR.hc (by assumption) | apply PG.SetR.s)))) | ((with_reducible apply PG.setr_i); (case hset => (repeat' (first | exact PG.SetR.h0 | exact PG.SetR.h1 | exact PG.SetR.hl | exact PG.SetR.hc (by assumption) | apply PG.SetR.s)))) | ((with_reducible apply PG.setl_i); (case hset => (repeat' (first | exact PG.SetLR.h0 | exact PG.SetLR.h1 | exact PG.SetLR.hl | apply PG.SetLR.s)))) | ((with_reducible apply PG.put_i); (case hset => (repeat' (first | exact PG.PutR.h | apply PG.PutR.s)))) | ((with_reducible apply PG.pool_i); (case hget => rfl)) | ((with_reducible apply PG.bool_i)) | ((with_reducible apply PG.int_i)) | ((with_reducible apply PG.seqL_i)) | ((with_reducible apply PG.seqT_i)) | ((with_reducible apply PG.seqR_i)) | ((with_reducible apply PG.starT_i)) | ((with_reducible apply PG.starL_i)) | ((with_reducible apply PG.len_i); (case h => rfl)) | ((with_reducible apply PG.tup_i)) | ((with_reducible apply PG.yes_i)) | ((with_reducible apply PG.no_i)) | ((with_reducible apply PG.nyes_i)) | ((with_reducible apply PG.nno_i)) | ((with_reducible apply PG.wa_add)) | ((with_reducible apply PG.wa_sub)) | ((with_reducible apply PG.wa_lt)) | ((with_reducible apply PG.wa_le)) | ((with_reducible apply PG.wa_gt)) | ((with_reducible apply PG.wa_ge)) | ((with_reducible apply PG.wa_eqI)) | ((with_reducible apply PG.wa_neI)) | ((with_reducible apply PG.wa_neg)) | ((with_reducible apply PG.wa_lenL)) | ((with_reducible apply PG.wa_lenT)) | ((with_reducible apply PG.wa_int)) | ((with_reducible apply PG.wa_max)) | ((with_reducible apply PG.wa_min)) | ((with_reducible apply PG.wb_bool)) | ((with_reducible apply PG.wb_int)) | ((with_reducible apply PG.endP_ret)) | ((with_reducible apply PG.endP_retL)) | ((with_reducible apply PG.endN_ret)) | ((with_reducible apply PG.endL_ret)) | ((with_reducible apply PG.endL_retL)) | ((with_reducible apply PG.wa_binO)) | ((with_reducible apply PG.ch_le)) | ((with_reducible apply PG.ch_lt)) | ((with_reducible apply PG.ch_eq)) | ((with_reducible apply PG.wa_ix0); (case hget => rfl)) | ((with_reducible apply PG.wa_ix1); (case hget => rfl)) | ((with_reducible apply PG.wa_ix2); (case hget => rfl)) | ((with_reducible apply PG.wa_ix3); (case hget => rfl)) | ((with_reducible apply PG.wa_ix4); (case hget => rfl)) | ((with_reducible apply PG.wa_ix5); (case hget => rfl)) | ((with_reducible apply PG.wa_ix6); (case hget => rfl)) | ((with_reducible apply PG.wa_ix7); (case hget => rfl)) | ((with_reducible apply PG.wa_ix8); (case hget => rfl)) | ((with_reducible apply PG.wa_il0); (case hget => rfl)) | ((with_reducible apply PG.wa_il1); (case hget => rfl)) | ((with_reducible apply PG.wa_il2); (case hget => rfl)) | ((with_reducible apply PG.wa_ev1)) | ((with_reducible apply PG.wa_ev)) | ((with_reducible apply PG.wl_ev)) | ((with_reducible apply PG.wb_ev)) | ((with_reducible apply PG.wa_mod); (case h1 => omega)) | ((with_reducible apply PG.wa_div); (case h1 => omega); (case h2 => omega)) | ((with_reducible apply PG.wa_mulR); (case h1 => omega); (case h2 => omega)) | ((with_reducible apply PG.wa_mulL); (case h1 => omega); (case h2 => omega)) | ((with_reducible apply PG.wa_shr); (case h1 => omega)))
local macro_rules | `(tactic| array_get_dec) => `(tactic| first | ((with_reducible apply Pr_C.wp_draw); (case hp => assumption); (case h0 => omega); (case h1 => omega)) | ((with_reducible apply Pr_C.ls_i); (case hp => assumption)))

local macro_rules | `(tactic| array_get_dec) => `(tactic| first | ((with_reducible apply wa_size); (case h0 => omega); (case h1 => omega)) | ((with_reducible apply wa_power); (case h0 => omega); (case h1 => omega)))

theorem is_prefix_ok (d : PyData) (hd : Nd d) : F_is_prefix [d] = some (.bool (isP d)) := by
  refine of_wa ?_
  unfold F_is_prefix; refine PG.wa_def rfl ?_; simp only [PG.rho0_eq, List.map_cons, List.map_nil, List.replicate_succ, List.replicate_zero, List.cons_append, List.nil_append]; unfold B_is_prefix
  by_cases ht : ∃ xs, d = .tuple xs
  · obtain ⟨xs, rfl⟩ := ht
    (repeat array_get_dec)
    refine wa_eq is_tuple_len ?_
    (repeat array_get_dec)
    by_cases hl : xs.length = 2
    · obtain ⟨a, b, rfl⟩ := two_of hl
      have na := nd_tup hd a (by simp)
      have nb := nd_tup hd b (by simp)
      (first | ((with_reducible apply PG.decy_i); (case h => omega)) | ((with_reducible apply PG.decno_i); (case h => omega)) | ((with_reducible apply PG.ndecy_i); (case h => omega)) | ((with_reducible apply PG.ndecno_i); (case h => omega)))
      (repeat array_get_dec)
      cases ha : isI a with
      | false =>
        rw [isP_ab (by simp [ha])]
        refine wa_eq (address_no na ha) ?_
        (repeat array_get_dec)
        all_goals rfl
      | true =>
        obtain ⟨i, rfl⟩ := isI_int ha
        refine wa_eq address_int ?_
        (repeat array_get_dec)
        cases hb : isI b with
        | false =>
          rw [isP_ab (by simp [hb])]
          refine ⟨fun _ => ?_, fun h => by rw [h]; (repeat array_get_dec); rfl⟩
          (repeat array_get_dec)
          refine wa_eq (number_no nb hb) ?_
          (repeat array_get_dec)
          all_goals rfl
        | true =>
          obtain ⟨j, rfl⟩ := isI_int hb
          rw [isP_ii]
          refine ⟨fun h => ?_, fun h => by rw [h]; (repeat array_get_dec); rfl⟩
          rw [h]
          (repeat array_get_dec)
          refine wa_eq number_int ?_
          (repeat array_get_dec)
          refine ⟨fun h2 => ?_, fun h2 => by rw [h2]; (repeat array_get_dec); rfl⟩
          rw [h2]
          simp only [Bool.and_eq_true, decide_eq_true_eq] at h h2
          have := sz_bd h2.1 h2.2
          (repeat array_get_dec)
          simp
    · rw [isP_len hl]
      (first | ((with_reducible apply PG.decy_i); (case h => omega)) | ((with_reducible apply PG.decno_i); (case h => omega)) | ((with_reducible apply PG.ndecy_i); (case h => omega)) | ((with_reducible apply PG.ndecno_i); (case h => omega)))
      (repeat array_get_dec)
      all_goals rfl
  · have hn : ∀ xs, d ≠ .tuple xs := fun xs e => ht ⟨xs, e⟩
    rw [isP_no hn]
    (repeat array_get_dec)
    refine wa_eq (is_tuple_no hd hn) ?_
    (repeat array_get_dec)
    all_goals rfl
theorem law_is_prefix_ok (d : PyData) (hd : Nd d) : F_law_is_prefix [d] = some (.bool (isP d)) := by
  refine of_wa ?_
  unfold F_law_is_prefix; refine PG.wa_def rfl ?_; simp only [PG.rho0_eq, List.map_cons, List.map_nil, List.replicate_succ, List.replicate_zero, List.cons_append, List.nil_append]; unfold B_law_is_prefix
  by_cases ht : ∃ xs, d = .tuple xs
  · obtain ⟨xs, rfl⟩ := ht
    (repeat array_get_dec)
    by_cases hl : xs.length = 2
    · obtain ⟨a, b, rfl⟩ := two_of hl
      have na := nd_tup hd a (by simp)
      have nb := nd_tup hd b (by simp)
      (first | ((with_reducible apply PG.decy_i); (case h => omega)) | ((with_reducible apply PG.decno_i); (case h => omega)) | ((with_reducible apply PG.ndecy_i); (case h => omega)) | ((with_reducible apply PG.ndecno_i); (case h => omega)))
      (repeat array_get_dec)
      refine wa_eq (integer_is na) ?_
      (repeat array_get_dec)
      cases ha : isI a with
      | false =>
        rw [isP_ab (by simp [ha])]
        (repeat array_get_dec)
        all_goals rfl
      | true =>
        obtain ⟨i, rfl⟩ := isI_int ha
        (repeat array_get_dec)
        refine wa_eq (integer_is nb) ?_
        (repeat array_get_dec)
        cases hb : isI b with
        | false =>
          rw [isP_ab (by simp [hb])]
          (repeat array_get_dec)
          all_goals rfl
        | true =>
          obtain ⟨j, rfl⟩ := isI_int hb
          rw [isP_ii]
          (repeat array_get_dec)
          (first | (with_reducible apply PG.dec_i) | (with_reducible apply PG.decn_i) | (with_reducible apply PG.bit_i)) <;> intro h1
          · (repeat array_get_dec)
            have : ¬ 0 ≤ j := by omega
            simp [this]
          (repeat array_get_dec)
          (first | (with_reducible apply PG.dec_i) | (with_reducible apply PG.decn_i) | (with_reducible apply PG.bit_i)) <;> intro h2
          · (repeat array_get_dec)
            have : ¬ j ≤ 16 := by omega
            simp [this]
          (repeat array_get_dec)
          (first | (with_reducible apply PG.dec_i) | (with_reducible apply PG.decn_i) | (with_reducible apply PG.bit_i)) <;> intro h3
          · (repeat array_get_dec)
            have : ¬ 0 ≤ i := by omega
            simp [this]
          (repeat array_get_dec)
          (first | (with_reducible apply PG.dec_i) | (with_reducible apply PG.decn_i) | (with_reducible apply PG.bit_i)) <;> intro h4
          · (repeat array_get_dec)
            have : ¬ i ≤ 65535 := by omega
            simp [this]
          (repeat array_get_dec)
          intro c ec c0 c1
          (repeat array_get_dec)
          have e1 : 0 ≤ i := by omega
          have e2 : i ≤ 65535 := by omega
          have e3 : 0 ≤ j := by omega
          have e4 : j ≤ 16 := by omega
          rw [ec]
          simp only [e1, e2, e3, e4, sz, decide_true, Bool.true_and]
          exact congrArg PyData.bool (decide_eq_decide.mpr Iff.rfl)
    · rw [isP_len hl]
      (first | ((with_reducible apply PG.decy_i); (case h => omega)) | ((with_reducible apply PG.decno_i); (case h => omega)) | ((with_reducible apply PG.ndecy_i); (case h => omega)) | ((with_reducible apply PG.ndecno_i); (case h => omega)))
      (repeat array_get_dec)
      all_goals rfl
  · have hn : ∀ xs, d ≠ .tuple xs := fun xs e => ht ⟨xs, e⟩
    rw [isP_no hn]
    (repeat array_get_dec)
    refine wa_eq (isi_no hd hn) ?_
    (repeat array_get_dec)
    all_goals rfl
end Pr_X
end
section
set_option Elab.async false
set_option linter.all false
set_option maxRecDepth 100000
namespace Pr_gatewarden_k08_whole_exchanges_undo_them
open PySem PG Pr_C Pr_X
/-! what each def does, on data -/
def X_set_of_1 : SF :=
  (sSeq (sIf (tBl (eBin dGt (eName 2) (eName 3)))
  (sSeq sCont
  sNil)
  sNil)
  (sSeq (sIf (tAnd' (tTruL 1) (tBl (eBin dLe (eName 2) (eBin dAdd (eBin dIx (eIxL dIx 1 (eUn dNeg (eC (.int 1)))) (eC (.int 1))) (eC (.int 1))))))
  (sSeq (sSto 1 (eUn dNeg (eC (.int 1))) (eTup (nCons (eBin dIx (eIxL dIx 1 (eUn dNeg (eC (.int 1)))) (eC (.int 0))) (nCons (eCall (o2of dMax) (nCons (eName 3) (nCons (eBin dIx (eIxL dIx 1 (eUn dNeg (eC (.int 1)))) (eC (.int 1))) nNil))) nNil))))
  sNil)
  (sSeq (sApp 1 (eTup (nCons (eName 2) (nCons (eName 3) nNil))))
  sNil))
  sNil))
def B_set_of : SF :=
  (sSeq (sSetL 1 (nDisp nNil))
  (sSeq (sFor (itS (eLst (nCall (n1of dSortP) (nCons (eName 0) nNil)))) (gTupS [2, 3])
  X_set_of_1)
  (sSeq (sRet (eUnL dTupOf 1))
  sNil)))
def F_set_of : List PyData → Option PyData := defP B_set_of 1 3
def X_both_1 : TF :=
  (tAnd' (tBl (eBin dLt (eName 3) (eCall (o1of dLen) (nCons (eName 0) nNil)))) (tBl (eBin dLt (eName 4) (eCall (o1of dLen) (nCons (eName 1) nNil)))))
def X_both_2 : SF :=
  (sSeq (sSet 5 (eCall (o2of dMax) (nCons (eBin dIx (eBin dIx (eName 0) (eName 3)) (eC (.int 0))) (nCons (eBin dIx (eBin dIx (eName 1) (eName 4)) (eC (.int 0))) nNil))))
  (sSeq (sSet 6 (eCall (o2of dMin) (nCons (eBin dIx (eBin dIx (eName 0) (eName 3)) (eC (.int 1))) (nCons (eBin dIx (eBin dIx (eName 1) (eName 4)) (eC (.int 1))) nNil))))
  (sSeq (sIf (tBl (eBin dLe (eName 5) (eName 6)))
  (sSeq (sApp 2 (eTup (nCons (eName 5) (nCons (eName 6) nNil))))
  sNil)
  sNil)
  (sSeq (sIf (tBl (eBin dLt (eBin dIx (eBin dIx (eName 0) (eName 3)) (eC (.int 1))) (eBin dIx (eBin dIx (eName 1) (eName 4)) (eC (.int 1)))))
  (sSeq (sAug 3 dAddI (eC (.int 1)))
  sNil)
  (sSeq (sAug 4 dAddI (eC (.int 1)))
  sNil))
  sNil))))
def B_both : SF :=
  (sSeq (sSetL 2 (nDisp nNil))
  (sSeq (sAsg (eTup (nCons (eC (.int 0)) (nCons (eC (.int 0)) nNil))) (gTupS [3, 4]))
  (sSeq (sWhile (fun _ => FUEL) X_both_1
  X_both_2)
  (sSeq (sRet (eUnL dTupOf 2))
  sNil))))
def F_both : List PyData → Option PyData := defP B_both 2 5
def B_either : SF :=
  (sSeq (sRet (eCall F_set_of (nCons (eBin dAdd (eLst (nCall (n1of dLstOf) (nCons (eName 0) nNil))) (eLst (nCall (n1of dLstOf) (nCons (eName 1) nNil)))) nNil)))
  sNil)
def F_either : List PyData → Option PyData := defP B_either 2 0
def X_outside_1 : SF :=
  (sSeq (sIf (tBl (eBin dGt (eName 4) (eName 1)))
  (sSeq sBrk
  sNil)
  sNil)
  (sSeq (sIf (tBl (eBin dLt (eName 3) (eName 4)))
  (sSeq (sApp 2 (eTup (nCons (eName 3) (nCons (eBin dSub (eName 4) (eC (.int 1))) nNil))))
  sNil)
  sNil)
  (sSeq (sSet 3 (eBin dAdd (eName 5) (eC (.int 1))))
  sNil)))
def B_outside : SF :=
  (sSeq (sSetL 2 (nDisp nNil))
  (sSeq (sSet 3 (eC (.int 0)))
  (sSeq (sFor (itS (eName 0)) (gTupS [4, 5])
  X_outside_1)
  (sSeq (sIf (tBl (eBin dLe (eName 3) (eName 1)))
  (sSeq (sApp 2 (eTup (nCons (eName 3) (nCons (eName 1) nNil))))
  sNil)
  sNil)
  (sSeq (sRet (eUnL dTupOf 2))
  sNil)))))
def F_outside : List PyData → Option PyData := defP B_outside 2 4
def B_without : SF :=
  (sSeq (sIf (tNot' (tTru (eName 0)))
  (sSeq (sRet (eTup nNil))
  sNil)
  sNil)
  (sSeq (sRet (eCall F_both (nCons (eName 0) (nCons (eCall F_outside (nCons (eName 1) (nCons (eBin dIx (eBin dIx (eName 0) (eUn dNeg (eC (.int 1)))) (eC (.int 1))) nNil))) nNil))))
  sNil))
def F_without : List PyData → Option PyData := defP B_without 2 0
def X_exchanged_set_1 : EF :=
  (eTup (nCons (eBin dAdd (eName 8) (eName 7)) (nCons (eBin dAdd (eName 9) (eName 7)) nNil)))
def X_exchanged_set_2 : SF :=
  (sSeq (sSet 6 (eCall F_both (nCons (eName 1) (nCons (eCall F_held (nCons (eName 4) nNil)) nNil))))
  (sSeq (sSet 2 (eCall F_without (nCons (eName 2) (nCons (eName 6) nNil))))
  (sSeq (sSet 7 (eBin dSub (eBin dIx (eName 5) (eC (.int 0))) (eBin dIx (eName 4) (eC (.int 0)))))
  (sSeq (sSet 3 (eCall F_either (nCons (eName 3) (nCons (eCall F_set_of (nCons (eLst (nComp (itS (eName 6)) (gTupS [8, 9]) tYesF X_exchanged_set_1 [8, 9])) nNil)) nNil))))
  sNil))))
def B_exchanged_set : SF :=
  (sSeq (sSet 2 (eName 1))
  (sSeq (sSet 3 (eTup nNil))
  (sSeq (sFor (itS (eCall F_ways (nCons (eName 0) nNil))) (gTupS [4, 5])
  X_exchanged_set_2)
  (sSeq (sRet (eCall F_either (nCons (eName 2) (nCons (eName 3) nNil))))
  sNil))))
def F_exchanged_set : List PyData → Option PyData := defP B_exchanged_set 2 8
def X_law_union_1 : EF :=
  (eCall (o2of dMin) (nCons (eBin dIx (eName 5) (eC (.int 0))) (nCons (eBin dAdd (eName 1) (eC (.int 1))) nNil)))
def X_law_union_2 : EF :=
  (eCall (o2of dMin) (nCons (eBin dAdd (eBin dIx (eName 5) (eC (.int 1))) (eC (.int 1))) (nCons (eBin dAdd (eName 1) (eC (.int 1))) nNil)))
def X_law_union_3 : SF :=
  (sSeq (sIf (tTru (eCall F_law_has (nCons (eName 0) (nCons (eBin dIx (eName 2) (eName 4)) nNil))))
  (sSeq (sIf (tAnd' (tBl (eBin dGt (eUnL dLen 3) (eC (.int 0)))) (tBl (eBin dEq (eBin dAdd (eBin dIx (eIxL dIx 3 (eUn dNeg (eC (.int 1)))) (eC (.int 1))) (eC (.int 1))) (eBin dIx (eName 2) (eName 4)))))
  (sSeq (sSto 3 (eUn dNeg (eC (.int 1))) (eTup (nCons (eBin dIx (eIxL dIx 3 (eUn dNeg (eC (.int 1)))) (eC (.int 0))) (nCons (eBin dSub (eBin dIx (eName 2) (eBin dAdd (eName 4) (eC (.int 1)))) (eC (.int 1))) nNil))))
  sNil)
  (sSeq (sApp 3 (eTup (nCons (eBin dIx (eName 2) (eName 4)) (nCons (eBin dSub (eBin dIx (eName 2) (eBin dAdd (eName 4) (eC (.int 1)))) (eC (.int 1))) nNil))))
  sNil))
  sNil)
  sNil)
  sNil)
def B_law_union : SF :=
  (sSeq (sSet 2 (eLst (nCall (n1of dSortSetA) (nCons (eBin dAdd (eBin dAdd (eLst (nDisp (nCons (eC (.int 0)) (nCons (eBin dAdd (eName 1) (eC (.int 1))) nNil)))) (eLst (nComp (itS (eName 0)) (gSet 5) tYesF X_law_union_1 [5]))) (eLst (nComp (itS (eName 0)) (gSet 5) tYesF X_law_union_2 [5]))) nNil))))
  (sSeq (sSetL 3 (nDisp nNil))
  (sSeq (sFor (itR1 (nCons (eBin dSub (eCall (o1of dLen) (nCons (eName 2) nNil)) (eC (.int 1))) nNil)) (gSet 4)
  X_law_union_3)
  (sSeq (sRet (eUnL dTupOf 3))
  sNil))))
def F_law_union : List PyData → Option PyData := defP B_law_union 2 4
def B_law_drawn_set : SF :=
  (sSeq (sRet (eCall F_law_union (nCons (eCallL F_law_pairs 0 (nCons (eName 1) (nCons (eCallL F_law_draw 0 (nCons (eBin dAdd (eName 2) (eC (.int 1))) nNil)) nNil))) (nCons (eName 1) nNil))))
  sNil)
def F_law_drawn_set : List PyData → List PyData → Option (PyData × List PyData) := defL B_law_drawn_set 2 0
def B_law_apart : SF :=
  (sSeq (sRet (eOr (eBin dLt (eCall F_law_last (nCons (eName 0) nNil)) (eBin dIx (eName 1) (eC (.int 0)))) (eBin dLt (eCall F_law_last (nCons (eName 1) nNil)) (eBin dIx (eName 0) (eC (.int 0))))))
  sNil)
def F_law_apart : List PyData → Option PyData := defP B_law_apart 2 0
def X_law_is_exchange_1 : TF :=
  (tNot' (tTru (eCall F_law_apart (nCons (eName 3) (nCons (eName 4) nNil)))))
def X_law_is_exchange_2 : EF :=
  (eName 4)
def X_law_is_exchange_3 : SF :=
  (sSeq (sIf (tBl (eBin dGt (eCall (o1of dLen) (nCons (eLst (nCompO 1 (gSet 4) X_law_is_exchange_1 X_law_is_exchange_2 [4])) nNil)) (eC (.int 0))))
  (sSeq (sRet (eC (.bool false)))
  sNil)
  sNil)
  (sSeq (sApp 1 (eName 3))
  sNil))
def X_law_is_exchange_4 : SF :=
  (sSeq (sIf (tOr' (tNot' (tTru (eUn (dIsi "tuple") (eName 2)))) (tOr' (tBl (eBin dNe (eCall (o1of dLen) (nCons (eName 2) nNil)) (eC (.int 2)))) (tOr' (tNot' (tTru (eCall F_law_is_prefix (nCons (eBin dIx (eName 2) (eC (.int 0))) nNil)))) (tNot' (tTru (eCall F_law_is_prefix (nCons (eBin dIx (eName 2) (eC (.int 1))) nNil)))))))
  (sSeq (sRet (eC (.bool false)))
  sNil)
  sNil)
  (sSeq (sIf (tBl (eBin dNe (eBin dIx (eBin dIx (eName 2) (eC (.int 0))) (eC (.int 1))) (eBin dIx (eBin dIx (eName 2) (eC (.int 1))) (eC (.int 1)))))
  (sSeq (sRet (eC (.bool false)))
  sNil)
  sNil)
  (sSeq (sFor (itS (eName 2)) (gSet 3)
  X_law_is_exchange_3)
  sNil)))
def B_law_is_exchange : SF :=
  (sSeq (sIf (tNot' (tTru (eUn (dIsi "tuple") (eName 0))))
  (sSeq (sRet (eC (.bool false)))
  sNil)
  sNil)
  (sSeq (sSetL 1 (nDisp nNil))
  (sSeq (sFor (itS (eName 0)) (gSet 2)
  X_law_is_exchange_4)
  (sSeq (sRet (eC (.bool true)))
  sNil))))
def F_law_is_exchange : List PyData → Option PyData := defP B_law_is_exchange 1 4
def X_law_exchange_1 : SF :=
  (sSeq (sSet 4 (eCallL F_law_prefix 0 nNil))
  (sSeq (sSet 5 (eTup (nCons (eBin dMul (eCallL F_law_draw 0 (nCons (eCall F_law_power (nCons (eBin dIx (eName 4) (eC (.int 1))) nNil)) nNil)) (eCall F_law_power (nCons (eBin dSub (eC (.int 16)) (eBin dIx (eName 4) (eC (.int 1)))) nNil))) (nCons (eBin dIx (eName 4) (eC (.int 1))) nNil))))
  (sSeq (sIf (tTru (eCall F_law_is_exchange (nCons (eCall (o1of dTupOf) (nCons (eAddO 2 (eLst (nDisp (nCons (eTup (nCons (eName 4) (nCons (eName 5) nNil))) nNil)))) nNil)) nNil)))
  (sSeq (sApp 2 (eTup (nCons (eName 4) (nCons (eName 5) nNil))))
  sNil)
  sNil)
  sNil)))
def B_law_exchange : SF :=
  (sSeq (sSetL 2 (nDisp nNil))
  (sSeq (sFor (itR1 (nCons (eCallL F_law_draw 0 (nCons (eBin dAdd (eName 1) (eC (.int 1))) nNil)) nNil)) (gSet 3)
  X_law_exchange_1)
  (sSeq (sRet (eUnL dTupOf 2))
  sNil)))
def F_law_exchange : List PyData → List PyData → Option (PyData × List PyData) := defL B_law_exchange 1 4
def X_law_great_exchange_1 : EF :=
  (eTup (nCons (eTup (nCons (eBin dAdd (eName 2) (eBin dMul (eC (.int 4)) (eName 3))) (nCons (eC (.int 15)) nNil))) (nCons (eTup (nCons (eBin dAdd (eBin dAdd (eName 2) (eBin dMul (eC (.int 4)) (eName 3))) (eC (.int 2))) (nCons (eC (.int 15)) nNil))) nNil)))
def B_law_great_exchange : SF :=
  (sSeq (sIf (tBl (eBin dGt (eCallL F_law_draw 0 (nCons (eC (.int 3)) nNil)) (eC (.int 0))))
  (sSeq (sRet (eCallL F_law_exchange 0 (nCons (eName 1) nNil)))
  sNil)
  sNil)
  (sSeq (sSet 2 (eBin dMul (eC (.int 4)) (eCallL F_law_draw 0 (nCons (eC (.int 16000)) nNil))))
  (sSeq (sRet (eCall (o1of dTupOf) (nCons (eLst (nComp (itR1 (nCons (eBin dAdd (eC (.int 6)) (eCallL F_law_draw 0 (nCons (eC (.int 4)) nNil))) nNil)) (gSet 3) tYesF X_law_great_exchange_1 [3])) nNil)))
  sNil)))
def F_law_great_exchange : List PyData → List PyData → Option (PyData × List PyData) := defL B_law_great_exchange 1 2
def X_law_1 : SF :=
  (sSeq (sSet 4 (eBin dAdd (eName 4) (eLst (nDisp (nCons (eBin dIx (eName 12) (eC (.int 0))) (nCons (eCall F_law_last (nCons (eName 12) nNil)) (nCons (eCall (o2of dMin) (nCons (eC (.int 65535)) (nCons (eBin dAdd (eCall F_law_last (nCons (eName 12) nNil)) (eC (.int 1))) nNil))) (nCons (eCall (o2of dMax) (nCons (eC (.int 0)) (nCons (eBin dSub (eBin dIx (eName 12) (eC (.int 0))) (eC (.int 1))) nNil))) nNil))))))))
  sNil)
def X_law_2 : SF :=
  (sSeq (sFor (itS (eName 5)) (gSet 12)
  X_law_1)
  sNil)
def X_law_3 : SF :=
  (sSeq (sSet 11 (eCall F_exchanged (nCons (eName 2) (nCons (eName 6) nNil))))
  (sSeq (sIf (tOr' (tNot' (tTru (eCall (F_law_same 40) (nCons (eName 11) (nCons (eCall F_law_swap (nCons (eName 2) (nCons (eName 6) nNil))) nNil))))) (tNot' (tTru (eCall (F_law_same 40) (nCons (eCall F_exchanged (nCons (eName 2) (nCons (eName 11) nNil))) (nCons (eName 6) nNil))))))
  (sSeq (sRet (eC (.bool false)))
  sNil)
  sNil)
  sNil))
def X_law_4 : EF :=
  (eBin dIx (eName 5) (eC (.int 0)))
def X_law_5 : EF :=
  (eBin dAdd (eBin dIx (eName 5) (eC (.int 1))) (eC (.int 1)))
def X_law_6 : SF :=
  (sSeq (sSet 13 (eBin dIx (eName 7) (eName 9)))
  (sSeq (sIf (tAnd' (tTru (eCall F_law_has (nCons (eName 3) (nCons (eName 13) nNil)))) (tBl (eBin dLe (eName 13) (eC (.int 65535)))))
  (sSeq (sSet 14 (eCall F_law_swap (nCons (eName 2) (nCons (eName 13) nNil))))
  (sSeq (sApp 8 (eTup (nCons (eName 14) (nCons (eBin dSub (eBin dSub (eBin dAdd (eName 14) (eBin dIx (eName 7) (eBin dAdd (eName 9) (eC (.int 1))))) (eC (.int 1))) (eName 13)) nNil))))
  sNil))
  sNil)
  sNil))
def B_law : SF :=
  (sSeq (sSetL 1 (nCall F_law_pool (nCons (eName 0) nNil)))
  (sSeq (sSet 2 (eCallL F_law_great_exchange 1 (nCons (eC (.int 4)) nNil)))
  (sSeq (sSet 3 (eCallL F_law_drawn_set 1 (nCons (eC (.int 65535)) (nCons (eC (.int 3)) nNil))))
  (sSeq (sSet 4 (eLst (nDisp (nCons (eCallL F_law_number 1 (nCons (eC (.int 65535)) nNil)) nNil))))
  (sSeq (sFor (itS (eName 2)) (gSet 5)
  X_law_2)
  (sSeq (sFor (itS (eName 4)) (gSet 6)
  X_law_3)
  (sSeq (sSet 7 (eLst (nCall (n1of dSortSetA) (nCons (eBin dAdd (eBin dAdd (eBin dAdd (eName 4) (eLst (nDisp (nCons (eC (.int 0)) (nCons (eC (.int 65536)) nNil))))) (eLst (nComp (itS (eName 3)) (gSet 5) tYesF X_law_4 [5]))) (eLst (nComp (itS (eName 3)) (gSet 5) tYesF X_law_5 [5]))) nNil))))
  (sSeq (sSetL 8 (nDisp nNil))
  (sSeq (sFor (itR1 (nCons (eBin dSub (eCall (o1of dLen) (nCons (eName 7) nNil)) (eC (.int 1))) nNil)) (gSet 9)
  X_law_6)
  (sSeq (sSet 10 (eCall F_law_union (nCons (eFrz2 8) (nCons (eC (.int 65535)) nNil))))
  (sSeq (sSet 11 (eCall F_exchanged_set (nCons (eName 2) (nCons (eName 3) nNil))))
  (sSeq (sRet (eAnd (eCall (F_law_same 40) (nCons (eName 11) (nCons (eName 10) nNil))) (eCall (F_law_same 40) (nCons (eCall F_exchanged_set (nCons (eName 2) (nCons (eName 11) nNil))) (nCons (eName 3) nNil)))))
  sNil))))))))))))
def F_law : List PyData → Option PyData := defP B_law 1 14
end Pr_gatewarden_k08_whole_exchanges_undo_them
end
section
set_option Elab.async false
set_option linter.all false
set_option maxRecDepth 100000
set_option maxHeartbeats 4000000
namespace Pr_gatewarden_k08_whole_exchanges_undo_them
open PySem PySem.Spec PyProof.Rows L2 PG Pr_C Pr_X
/-! the linked text does it -/
def topS (i : Nat) : Stmt := PySem.Challenge.pw_gatewarden_k08_whole_exchanges_undo_them.main.body.getD i (.Pass ⟨0, 0, 0, 0⟩)
abbrev s_set_of : Stmt := topS 1
theorem sc_set_of : FnScope ["pairs", "found", "low", "high"] ["pairs"] (defScope s_set_of) := ⟨rfl, rfl, rfl, by decide +kernel, rfl, by decide +kernel, by decide +kernel⟩
abbrev s_both : Stmt := topS 2
theorem sc_both : FnScope ["a", "b", "found", "i", "k", "low", "high"] ["a", "b"] (defScope s_both) := ⟨rfl, rfl, rfl, by decide +kernel, rfl, by decide +kernel, by decide +kernel⟩
abbrev s_either : Stmt := topS 3
theorem sc_either : FnScope ["a", "b"] ["a", "b"] (defScope s_either) := ⟨rfl, rfl, rfl, by decide +kernel, rfl, by decide +kernel, by decide +kernel⟩
abbrev s_outside : Stmt := topS 5
theorem sc_outside : FnScope ["a", "top", "found", "start", "low", "high"] ["a", "top"] (defScope s_outside) := ⟨rfl, rfl, rfl, by decide +kernel, rfl, by decide +kernel, by decide +kernel⟩
abbrev s_without : Stmt := topS 4
theorem sc_without : FnScope ["a", "b"] ["a", "b"] (defScope s_without) := ⟨rfl, rfl, rfl, by decide +kernel, rfl, by decide +kernel, by decide +kernel⟩
abbrev s_size : Stmt := topS 7
theorem sc_size : FnScope ["length"] ["length"] (defScope s_size) := ⟨rfl, rfl, rfl, by decide +kernel, rfl, by decide +kernel, by decide +kernel⟩
abbrev s_held : Stmt := topS 8
theorem sc_held : FnScope ["prefix", "base", "length"] ["prefix"] (defScope s_held) := ⟨rfl, rfl, rfl, by decide +kernel, rfl, by decide +kernel, by decide +kernel⟩
abbrev s_holds : Stmt := topS 9
theorem sc_holds : FnScope ["prefix", "address", "base", "length"] ["prefix", "address"] (defScope s_holds) := ⟨rfl, rfl, rfl, by decide +kernel, rfl, by decide +kernel, by decide +kernel⟩
abbrev s_ways : Stmt := topS 10
theorem sc_ways : FnScope ["exchange", "one", "other"] ["exchange"] (defScope s_ways) := ⟨rfl, rfl, rfl, by decide +kernel, rfl, by decide +kernel, by decide +kernel⟩
abbrev s_exchanged : Stmt := topS 11
theorem sc_exchanged : FnScope ["exchange", "address", "one", "other"] ["exchange", "address"] (defScope s_exchanged) := ⟨rfl, rfl, rfl, by decide +kernel, rfl, by decide +kernel, by decide +kernel⟩
abbrev s_exchanged_set : Stmt := topS 12
theorem sc_exchanged_set : FnScope ["exchange", "a", "rest", "moved", "one", "other", "part", "shift", "low", "high"] ["exchange", "a"] (defScope s_exchanged_set) := ⟨rfl, rfl, rfl, by decide +kernel, rfl, by decide +kernel, by decide +kernel⟩
abbrev s_law_same : Stmt := topS 14
theorem sc_law_same : FnScope ["actual", "due", "k"] ["actual", "due"] (defScope s_law_same) := ⟨rfl, rfl, rfl, by decide +kernel, rfl, by decide +kernel, by decide +kernel⟩
abbrev s_law_is_integer : Stmt := topS 15
theorem sc_law_is_integer : FnScope ["actual"] ["actual"] (defScope s_law_is_integer) := ⟨rfl, rfl, rfl, by decide +kernel, rfl, by decide +kernel, by decide +kernel⟩
abbrev s_law_pool : Stmt := topS 16
theorem sc_law_pool : FnScope ["script", "salt", "cell"] ["script"] (defScope s_law_pool) := ⟨rfl, rfl, rfl, by decide +kernel, rfl, by decide +kernel, by decide +kernel⟩
abbrev s_law_spread : Stmt := topS 17
theorem sc_law_spread : FnScope ["cell", "mixed", "total", "k"] ["cell"] (defScope s_law_spread) := ⟨rfl, rfl, rfl, by decide +kernel, rfl, by decide +kernel, by decide +kernel⟩
abbrev s_law_draw : Stmt := topS 18
theorem sc_law_draw : FnScope ["pool", "many", "value", "cell", "mixed"] ["pool", "many"] (defScope s_law_draw) := ⟨rfl, rfl, rfl, by decide +kernel, rfl, by decide +kernel, by decide +kernel⟩
abbrev s_law_has : Stmt := topS 19
theorem sc_law_has : FnScope ["numbers", "number", "pair"] ["numbers", "number"] (defScope s_law_has) := ⟨rfl, rfl, rfl, by decide +kernel, rfl, by decide +kernel, by decide +kernel⟩
abbrev s_law_union : Stmt := topS 20
theorem sc_law_union : FnScope ["pairs", "top", "edges", "found", "k", "pair"] ["pairs", "top"] (defScope s_law_union) := ⟨rfl, rfl, rfl, by decide +kernel, rfl, by decide +kernel, by decide +kernel⟩
abbrev s_law_number : Stmt := topS 21
theorem sc_law_number : FnScope ["pool", "top", "turn"] ["pool", "top"] (defScope s_law_number) := ⟨rfl, rfl, rfl, by decide +kernel, rfl, by decide +kernel, by decide +kernel⟩
abbrev s_law_pairs : Stmt := topS 22
theorem sc_law_pairs : FnScope ["pool", "top", "many", "found", "k", "low"] ["pool", "top", "many"] (defScope s_law_pairs) := ⟨rfl, rfl, rfl, by decide +kernel, rfl, by decide +kernel, by decide +kernel⟩
abbrev s_law_drawn_set : Stmt := topS 23
theorem sc_law_drawn_set : FnScope ["pool", "top", "many"] ["pool", "top", "many"] (defScope s_law_drawn_set) := ⟨rfl, rfl, rfl, by decide +kernel, rfl, by decide +kernel, by decide +kernel⟩
abbrev s_law_power : Stmt := topS 24
theorem sc_law_power : FnScope ["many", "value", "k"] ["many"] (defScope s_law_power) := ⟨rfl, rfl, rfl, by decide +kernel, rfl, by decide +kernel, by decide +kernel⟩
abbrev s_law_prefix : Stmt := topS 25
theorem sc_law_prefix : FnScope ["pool", "length"] ["pool"] (defScope s_law_prefix) := ⟨rfl, rfl, rfl, by decide +kernel, rfl, by decide +kernel, by decide +kernel⟩
abbrev s_law_is_prefix : Stmt := topS 26
theorem sc_law_is_prefix : FnScope ["value"] ["value"] (defScope s_law_is_prefix) := ⟨rfl, rfl, rfl, by decide +kernel, rfl, by decide +kernel, by decide +kernel⟩
abbrev s_law_last : Stmt := topS 27
theorem sc_law_last : FnScope ["prefix"] ["prefix"] (defScope s_law_last) := ⟨rfl, rfl, rfl, by decide +kernel, rfl, by decide +kernel, by decide +kernel⟩
abbrev s_law_apart : Stmt := topS 28
theorem sc_law_apart : FnScope ["one", "two"] ["one", "two"] (defScope s_law_apart) := ⟨rfl, rfl, rfl, by decide +kernel, rfl, by decide +kernel, by decide +kernel⟩
abbrev s_law_is_exchange : Stmt := topS 29
theorem sc_law_is_exchange : FnScope ["value", "known", "pair", "prefix", "other"] ["value"] (defScope s_law_is_exchange) := ⟨rfl, rfl, rfl, by decide +kernel, rfl, by decide +kernel, by decide +kernel⟩
abbrev s_law_exchange : Stmt := topS 30
theorem sc_law_exchange : FnScope ["pool", "most", "found", "k", "one", "two"] ["pool", "most"] (defScope s_law_exchange) := ⟨rfl, rfl, rfl, by decide +kernel, rfl, by decide +kernel, by decide +kernel⟩
abbrev s_law_swap : Stmt := topS 31
theorem sc_law_swap : FnScope ["exchange", "address", "pair", "k"] ["exchange", "address"] (defScope s_law_swap) := ⟨rfl, rfl, rfl, by decide +kernel, rfl, by decide +kernel, by decide +kernel⟩
abbrev s_law_great_exchange : Stmt := topS 32
theorem sc_law_great_exchange : FnScope ["pool", "most", "base", "k"] ["pool", "most"] (defScope s_law_great_exchange) := ⟨rfl, rfl, rfl, by decide +kernel, rfl, by decide +kernel, by decide +kernel⟩
abbrev s_law : Stmt := topS 33
theorem sc_law : FnScope ["script", "pool", "exchange", "numbers", "edges", "pair", "address", "cuts", "pieces", "k", "due", "told", "prefix", "low", "start"] ["script"] (defScope s_law) := ⟨rfl, rfl, rfl, by decide +kernel, rfl, by decide +kernel, by decide +kernel⟩
structure Tx (K : PySem.W.Frag) (mg : Str → Option Value) where
  a_set_of : Addr
  fd_set_of : FuncData
  F_set_of : L2.Fun K "set_of" "set_of" s_set_of a_set_of fd_set_of
  b_set_of : L2.Binds K fd_set_of ["pairs"] []
  g_set_of : mg "set_of" = some (.ref a_set_of)
  a_both : Addr
  fd_both : FuncData
  F_both : L2.Fun K "both" "both" s_both a_both fd_both
  b_both : L2.Binds K fd_both ["a", "b"] []
  g_both : mg "both" = some (.ref a_both)
  a_either : Addr
  fd_either : FuncData
  F_either : L2.Fun K "either" "either" s_either a_either fd_either
  b_either : L2.Binds K fd_either ["a", "b"] []
  g_either : mg "either" = some (.ref a_either)
  a_outside : Addr
  fd_outside : FuncData
  F_outside : L2.Fun K "outside" "outside" s_outside a_outside fd_outside
  b_outside : L2.Binds K fd_outside ["a", "top"] []
  g_outside : mg "outside" = some (.ref a_outside)
  a_without : Addr
  fd_without : FuncData
  F_without : L2.Fun K "without" "without" s_without a_without fd_without
  b_without : L2.Binds K fd_without ["a", "b"] []
  g_without : mg "without" = some (.ref a_without)
  a_size : Addr
  fd_size : FuncData
  F_size : L2.Fun K "_size" "_size" s_size a_size fd_size
  b_size : L2.Binds K fd_size ["length"] []
  g_size : mg "_size" = some (.ref a_size)
  a_held : Addr
  fd_held : FuncData
  F_held : L2.Fun K "held" "held" s_held a_held fd_held
  b_held : L2.Binds K fd_held ["prefix"] []
  g_held : mg "held" = some (.ref a_held)
  a_holds : Addr
  fd_holds : FuncData
  F_holds : L2.Fun K "_holds" "_holds" s_holds a_holds fd_holds
  b_holds : L2.Binds K fd_holds ["prefix", "address"] []
  g_holds : mg "_holds" = some (.ref a_holds)
  a_ways : Addr
  fd_ways : FuncData
  F_ways : L2.Fun K "_ways" "_ways" s_ways a_ways fd_ways
  b_ways : L2.Binds K fd_ways ["exchange"] []
  g_ways : mg "_ways" = some (.ref a_ways)
  a_exchanged : Addr
  fd_exchanged : FuncData
  F_exchanged : L2.Fun K "exchanged" "exchanged" s_exchanged a_exchanged fd_exchanged
  b_exchanged : L2.Binds K fd_exchanged ["exchange", "address"] []
  g_exchanged : mg "exchanged" = some (.ref a_exchanged)
  a_exchanged_set : Addr
  fd_exchanged_set : FuncData
  F_exchanged_set : L2.Fun K "exchanged_set" "exchanged_set" s_exchanged_set a_exchanged_set fd_exchanged_set
  b_exchanged_set : L2.Binds K fd_exchanged_set ["exchange", "a"] []
  g_exchanged_set : mg "exchanged_set" = some (.ref a_exchanged_set)
  a_law_same : Addr
  fd_law_same : FuncData
  F_law_same : L2.Fun K "_law_same" "_law_same" s_law_same a_law_same fd_law_same
  b_law_same : L2.Binds K fd_law_same ["actual", "due"] []
  g_law_same : mg "_law_same" = some (.ref a_law_same)
  a_law_is_integer : Addr
  fd_law_is_integer : FuncData
  F_law_is_integer : L2.Fun K "_law_is_integer" "_law_is_integer" s_law_is_integer a_law_is_integer fd_law_is_integer
  b_law_is_integer : L2.Binds K fd_law_is_integer ["actual"] []
  g_law_is_integer : mg "_law_is_integer" = some (.ref a_law_is_integer)
  a_law_pool : Addr
  fd_law_pool : FuncData
  F_law_pool : L2.Fun K "_law_pool" "_law_pool" s_law_pool a_law_pool fd_law_pool
  b_law_pool : L2.Binds K fd_law_pool ["script"] []
  g_law_pool : mg "_law_pool" = some (.ref a_law_pool)
  a_law_spread : Addr
  fd_law_spread : FuncData
  F_law_spread : L2.Fun K "_law_spread" "_law_spread" s_law_spread a_law_spread fd_law_spread
  b_law_spread : L2.Binds K fd_law_spread ["cell"] []
  g_law_spread : mg "_law_spread" = some (.ref a_law_spread)
  a_law_draw : Addr
  fd_law_draw : FuncData
  F_law_draw : L2.Fun K "_law_draw" "_law_draw" s_law_draw a_law_draw fd_law_draw
  b_law_draw : L2.Binds K fd_law_draw ["pool", "many"] []
  g_law_draw : mg "_law_draw" = some (.ref a_law_draw)
  a_law_has : Addr
  fd_law_has : FuncData
  F_law_has : L2.Fun K "_law_has" "_law_has" s_law_has a_law_has fd_law_has
  b_law_has : L2.Binds K fd_law_has ["numbers", "number"] []
  g_law_has : mg "_law_has" = some (.ref a_law_has)
  a_law_union : Addr
  fd_law_union : FuncData
  F_law_union : L2.Fun K "_law_union" "_law_union" s_law_union a_law_union fd_law_union
  b_law_union : L2.Binds K fd_law_union ["pairs", "top"] []
  g_law_union : mg "_law_union" = some (.ref a_law_union)
  a_law_number : Addr
  fd_law_number : FuncData
  F_law_number : L2.Fun K "_law_number" "_law_number" s_law_number a_law_number fd_law_number
  b_law_number : L2.Binds K fd_law_number ["pool", "top"] []
  g_law_number : mg "_law_number" = some (.ref a_law_number)
  a_law_pairs : Addr
  fd_law_pairs : FuncData
  F_law_pairs : L2.Fun K "_law_pairs" "_law_pairs" s_law_pairs a_law_pairs fd_law_pairs
  b_law_pairs : L2.Binds K fd_law_pairs ["pool", "top", "many"] []
  g_law_pairs : mg "_law_pairs" = some (.ref a_law_pairs)
  a_law_drawn_set : Addr
  fd_law_drawn_set : FuncData
  F_law_drawn_set : L2.Fun K "_law_drawn_set" "_law_drawn_set" s_law_drawn_set a_law_drawn_set fd_law_drawn_set
  b_law_drawn_set : L2.Binds K fd_law_drawn_set ["pool", "top", "many"] []
  g_law_drawn_set : mg "_law_drawn_set" = some (.ref a_law_drawn_set)
  a_law_power : Addr
  fd_law_power : FuncData
  F_law_power : L2.Fun K "_law_power" "_law_power" s_law_power a_law_power fd_law_power
  b_law_power : L2.Binds K fd_law_power ["many"] []
  g_law_power : mg "_law_power" = some (.ref a_law_power)
  a_law_prefix : Addr
  fd_law_prefix : FuncData
  F_law_prefix : L2.Fun K "_law_prefix" "_law_prefix" s_law_prefix a_law_prefix fd_law_prefix
  b_law_prefix : L2.Binds K fd_law_prefix ["pool"] []
  g_law_prefix : mg "_law_prefix" = some (.ref a_law_prefix)
  a_law_is_prefix : Addr
  fd_law_is_prefix : FuncData
  F_law_is_prefix : L2.Fun K "_law_is_prefix" "_law_is_prefix" s_law_is_prefix a_law_is_prefix fd_law_is_prefix
  b_law_is_prefix : L2.Binds K fd_law_is_prefix ["value"] []
  g_law_is_prefix : mg "_law_is_prefix" = some (.ref a_law_is_prefix)
  a_law_last : Addr
  fd_law_last : FuncData
  F_law_last : L2.Fun K "_law_last" "_law_last" s_law_last a_law_last fd_law_last
  b_law_last : L2.Binds K fd_law_last ["prefix"] []
  g_law_last : mg "_law_last" = some (.ref a_law_last)
  a_law_apart : Addr
  fd_law_apart : FuncData
  F_law_apart : L2.Fun K "_law_apart" "_law_apart" s_law_apart a_law_apart fd_law_apart
  b_law_apart : L2.Binds K fd_law_apart ["one", "two"] []
  g_law_apart : mg "_law_apart" = some (.ref a_law_apart)
  a_law_is_exchange : Addr
  fd_law_is_exchange : FuncData
  F_law_is_exchange : L2.Fun K "_law_is_exchange" "_law_is_exchange" s_law_is_exchange a_law_is_exchange fd_law_is_exchange
  b_law_is_exchange : L2.Binds K fd_law_is_exchange ["value"] []
  g_law_is_exchange : mg "_law_is_exchange" = some (.ref a_law_is_exchange)
  a_law_exchange : Addr
  fd_law_exchange : FuncData
  F_law_exchange : L2.Fun K "_law_exchange" "_law_exchange" s_law_exchange a_law_exchange fd_law_exchange
  b_law_exchange : L2.Binds K fd_law_exchange ["pool", "most"] []
  g_law_exchange : mg "_law_exchange" = some (.ref a_law_exchange)
  a_law_swap : Addr
  fd_law_swap : FuncData
  F_law_swap : L2.Fun K "_law_swap" "_law_swap" s_law_swap a_law_swap fd_law_swap
  b_law_swap : L2.Binds K fd_law_swap ["exchange", "address"] []
  g_law_swap : mg "_law_swap" = some (.ref a_law_swap)
  a_law_great_exchange : Addr
  fd_law_great_exchange : FuncData
  F_law_great_exchange : L2.Fun K "_law_great_exchange" "_law_great_exchange" s_law_great_exchange a_law_great_exchange fd_law_great_exchange
  b_law_great_exchange : L2.Binds K fd_law_great_exchange ["pool", "most"] []
  g_law_great_exchange : mg "_law_great_exchange" = some (.ref a_law_great_exchange)
  a_law : Addr
  fd_law : FuncData
  F_law : L2.Fun K "law" "law" s_law a_law fd_law
  b_law : L2.Binds K fd_law ["script"] []
  g_law : mg "law" = some (.ref a_law)
  z_bool : mg "bool" = none
  z_int : mg "int" = none
  z_isinstance : mg "isinstance" = none
  z_len : mg "len" = none
  z_list : mg "list" = none
  z_max : mg "max" = none
  z_min : mg "min" = none
  z_range : mg "range" = none
  z_set : mg "set" = none
  z_sorted : mg "sorted" = none
  z_str : mg "str" = none
  z_tuple : mg "tuple" = none
section
variable {P : Program} {w : World} {K : PySem.W.Frag} {mg : Str → Option Value} {base : Heap}
theorem ok_set_of (T : Tx K mg) : FnOk P w K mg base CX0 1 T.a_set_of T.fd_set_of ["pairs"] (spP K 1 F_set_of) :=
  ok_P T.F_set_of sc_set_of rfl rfl fun cdv A outer s H E hr =>
  (es_cons (es_setL sc_set_of.nd (i := 1) rfl (by first | exact Or.inl rfl | exact Or.inr rfl) (en_lst ea_nil))
  (es_cons (es_for PassesOwn.never rfl (ei_seq (ev_new (en_fn cr_sPairs2 fn_sortP (by rfl) T.z_sorted (by decide +kernel) (ea_cons (ev_name (pv 0)) ea_nil)))) (eg_tup (is := [2, 3]) rfl (pgs_cons (pg_name sc_set_of.nd (i := 2) rfl (by first | exact Or.inl rfl | exact Or.inr rfl)) (pgs_cons (pg_name sc_set_of.nd (i := 3) rfl (by first | exact Or.inl rfl | exact Or.inr rfl)) pgs_nil)))
  (es_cons (es_if (et_cmp op_gt os_gt (ev_name (pv 2)) (ev_name (pv 3)) (nomark _))
  (es_cons es_cont
  es_nil)
  es_nil)
  (es_cons (es_if (ew_and (et_truO (pv 1)) (ew_and1 (et_cmp op_le os_le (ev_name (pv 2)) (ev_op op_addD os_add (ev_ix ix_seq os_ix (ev_ixO (pv 1) (ev_un un_neg us_neg ev_int) (fun _ _ => rfl)) ev_int (fun _ _ => rfl)) ev_int) (nomark _)))).pt
  (es_cons (es_sto (pv 1) (ev_un un_neg us_neg ev_int) (ev_tup (ea_cons (ev_ix ix_seq os_ix (ev_ixO (pv 1) (ev_un un_neg us_neg ev_int) (fun _ _ => rfl)) ev_int (fun _ _ => rfl)) (ea_cons (ev_fn (call_max2 rfl) fs_max (by rfl) T.z_max (by decide +kernel) (ea_cons (ev_name (pv 3)) (ea_cons (ev_ix ix_seq os_ix (ev_ixO (pv 1) (ev_un un_neg us_neg ev_int) (fun _ _ => rfl)) ev_int (fun _ _ => rfl)) ea_nil))) ea_nil))))
  es_nil)
  (es_cons (es_app (pv 1) (ev_tup (ea_cons (ev_name (pv 2)) (ea_cons (ev_name (pv 3)) ea_nil))))
  es_nil))
  es_nil)))
  (es_cons (es_ret (ev_tupO (pv 1) (by rfl) T.z_tuple))
  es_nil)))
theorem ok_both (T : Tx K mg) : FnOk P w K mg base CX0 1 T.a_both T.fd_both ["a", "b"] (spP K 2 F_both) :=
  ok_P T.F_both sc_both rfl rfl fun cdv A outer s H E hr =>
  (es_cons (es_setL sc_both.nd (i := 2) rfl (by first | exact Or.inl rfl | exact Or.inr rfl) (en_lst ea_nil))
  (es_cons (es_asg (ev_tup (ea_cons ev_int (ea_cons ev_int ea_nil))) (eg_tup (is := [3, 4]) rfl (pgs_cons (pg_name sc_both.nd (i := 3) rfl (by first | exact Or.inl rfl | exact Or.inr rfl)) (pgs_cons (pg_name sc_both.nd (i := 4) rfl (by first | exact Or.inl rfl | exact Or.inr rfl)) pgs_nil))))
  (es_cons (es_while PassesOwn.never (ew_and (et_cmp op_lt os_lt (ev_name (pv 3)) (ev_fn cl_len fs_len (by rfl) T.z_len PySem.boot_len (ea_cons (ev_name (pv 0)) ea_nil)) (nomark _)) (ew_and1 (et_cmp op_lt os_lt (ev_name (pv 4)) (ev_fn cl_len fs_len (by rfl) T.z_len PySem.boot_len (ea_cons (ev_name (pv 1)) ea_nil)) (nomark _)))).pt
  (es_cons (es_set sc_both.nd (i := 5) rfl (by first | exact Or.inl rfl | exact Or.inr rfl) (ev_fn (call_max2 rfl) fs_max (by rfl) T.z_max (by decide +kernel) (ea_cons (ev_ix ix_seq os_ix (ev_ix ix_seq os_ix (ev_name (pv 0)) (ev_name (pv 3)) (fun _ _ => rfl)) ev_int (fun _ _ => rfl)) (ea_cons (ev_ix ix_seq os_ix (ev_ix ix_seq os_ix (ev_name (pv 1)) (ev_name (pv 4)) (fun _ _ => rfl)) ev_int (fun _ _ => rfl)) ea_nil))))
  (es_cons (es_set sc_both.nd (i := 6) rfl (by first | exact Or.inl rfl | exact Or.inr rfl) (ev_fn (call_min2 rfl) fs_min (by rfl) T.z_min (by decide +kernel) (ea_cons (ev_ix ix_seq os_ix (ev_ix ix_seq os_ix (ev_name (pv 0)) (ev_name (pv 3)) (fun _ _ => rfl)) ev_int (fun _ _ => rfl)) (ea_cons (ev_ix ix_seq os_ix (ev_ix ix_seq os_ix (ev_name (pv 1)) (ev_name (pv 4)) (fun _ _ => rfl)) ev_int (fun _ _ => rfl)) ea_nil))))
  (es_cons (es_if (et_cmp op_le os_le (ev_name (pv 5)) (ev_name (pv 6)) (nomark _))
  (es_cons (es_app (pv 2) (ev_tup (ea_cons (ev_name (pv 5)) (ea_cons (ev_name (pv 6)) ea_nil))))
  es_nil)
  es_nil)
  (es_cons (es_if (et_cmp op_lt os_lt (ev_ix ix_seq os_ix (ev_ix ix_seq os_ix (ev_name (pv 0)) (ev_name (pv 3)) (fun _ _ => rfl)) ev_int (fun _ _ => rfl)) (ev_ix ix_seq os_ix (ev_ix ix_seq os_ix (ev_name (pv 1)) (ev_name (pv 4)) (fun _ _ => rfl)) ev_int (fun _ _ => rfl)) (nomark _))
  (es_cons (es_aug sc_both.nd (i := 3) rfl (by first | exact Or.inl rfl | exact Or.inr rfl) iop_add os_addI ev_int)
  es_nil)
  (es_cons (es_aug sc_both.nd (i := 4) rfl (by first | exact Or.inl rfl | exact Or.inr rfl) iop_add os_addI ev_int)
  es_nil))
  es_nil)))))
  (es_cons (es_ret (ev_tupO (pv 2) (by rfl) T.z_tuple))
  es_nil))))
theorem ok_either (T : Tx K mg) : FnOk P w K mg base CX0 2 T.a_either T.fd_either ["a", "b"] (spP K 2 F_either) :=
  ok_P T.F_either sc_either rfl rfl fun cdv A outer s H E hr =>
  (es_cons (es_ret (ev_call (ok_set_of T) (hr.mono (by decide)) (by rfl) T.g_set_of T.F_set_of.kp T.b_set_of (ea_cons (ev_op op_addD os_add (ev_new (en_fnT call_list_of fn_list (by rfl) T.z_list PyProof.Rows.boot_list (ea_cons (ev_name (pv 0)) ea_nil))) (ev_new (en_fnT call_list_of fn_list (by rfl) T.z_list PyProof.Rows.boot_list (ea_cons (ev_name (pv 1)) ea_nil)))) ea_nil) (nlen_cons nlen_nil)))
  es_nil)
theorem ok_outside (T : Tx K mg) : FnOk P w K mg base CX0 1 T.a_outside T.fd_outside ["a", "top"] (spP K 2 F_outside) :=
  ok_P T.F_outside sc_outside rfl rfl fun cdv A outer s H E hr =>
  (es_cons (es_setL sc_outside.nd (i := 2) rfl (by first | exact Or.inl rfl | exact Or.inr rfl) (en_lst ea_nil))
  (es_cons (es_set sc_outside.nd (i := 3) rfl (by first | exact Or.inl rfl | exact Or.inr rfl) ev_int)
  (es_cons (es_for PassesOwn.never rfl (ei_seq (ev_name (pv 0))) (eg_tup (is := [4, 5]) rfl (pgs_cons (pg_name sc_outside.nd (i := 4) rfl (by first | exact Or.inl rfl | exact Or.inr rfl)) (pgs_cons (pg_name sc_outside.nd (i := 5) rfl (by first | exact Or.inl rfl | exact Or.inr rfl)) pgs_nil)))
  (es_cons (es_if (et_cmp op_gt os_gt (ev_name (pv 4)) (ev_name (pv 1)) (nomark _))
  (es_cons es_brk
  es_nil)
  es_nil)
  (es_cons (es_if (et_cmp op_lt os_lt (ev_name (pv 3)) (ev_name (pv 4)) (nomark _))
  (es_cons (es_app (pv 2) (ev_tup (ea_cons (ev_name (pv 3)) (ea_cons (ev_op op_sub os_sub (ev_name (pv 4)) ev_int) ea_nil))))
  es_nil)
  es_nil)
  (es_cons (es_set sc_outside.nd (i := 3) rfl (by first | exact Or.inl rfl | exact Or.inr rfl) (ev_op op_addD os_add (ev_name (pv 5)) ev_int))
  es_nil))))
  (es_cons (es_if (et_cmp op_le os_le (ev_name (pv 3)) (ev_name (pv 1)) (nomark _))
  (es_cons (es_app (pv 2) (ev_tup (ea_cons (ev_name (pv 3)) (ea_cons (ev_name (pv 1)) ea_nil))))
  es_nil)
  es_nil)
  (es_cons (es_ret (ev_tupO (pv 2) (by rfl) T.z_tuple))
  es_nil)))))
theorem ok_without (T : Tx K mg) : FnOk P w K mg base CX0 2 T.a_without T.fd_without ["a", "b"] (spP K 2 F_without) :=
  ok_P T.F_without sc_without rfl rfl fun cdv A outer s H E hr =>
  (es_cons (es_if (et_not (et_tru (ev_name (pv 0))))
  (es_cons (es_ret (ev_tup ea_nil))
  es_nil)
  es_nil)
  (es_cons (es_ret (ev_call (ok_both T) (hr.mono (by decide)) (by rfl) T.g_both T.F_both.kp T.b_both (ea_cons (ev_name (pv 0)) (ea_cons (ev_call (ok_outside T) (hr.mono (by decide)) (by rfl) T.g_outside T.F_outside.kp T.b_outside (ea_cons (ev_name (pv 1)) (ea_cons (ev_ix ix_seq os_ix (ev_ix ix_seq os_ix (ev_name (pv 0)) (ev_un un_neg us_neg ev_int) (fun _ _ => rfl)) ev_int (fun _ _ => rfl)) ea_nil)) (nlen_cons (nlen_cons nlen_nil))) ea_nil)) (nlen_cons (nlen_cons nlen_nil))))
  es_nil))
theorem ok_size (T : Tx K mg) : FnOk P w K mg base CX0 1 T.a_size T.fd_size ["length"] (spP K 1 F_size) :=
  ok_P T.F_size sc_size rfl rfl fun cdv A outer s H E hr =>
  (es_cons (es_ret (ev_op op_shr os_shr ev_int (ev_name (pv 0))))
  es_nil)
theorem ok_held (T : Tx K mg) : FnOk P w K mg base CX0 2 T.a_held T.fd_held ["prefix"] (spP K 1 F_held) :=
  ok_P T.F_held sc_held rfl rfl fun cdv A outer s H E hr =>
  (es_cons (es_asg (ev_name (pv 0)) (eg_tup (is := [1, 2]) rfl (pgs_cons (pg_name sc_held.nd (i := 1) rfl (by first | exact Or.inl rfl | exact Or.inr rfl)) (pgs_cons (pg_name sc_held.nd (i := 2) rfl (by first | exact Or.inl rfl | exact Or.inr rfl)) pgs_nil))))
  (es_cons (es_ret (ev_tup (ea_cons (ev_tup (ea_cons (ev_name (pv 1)) (ea_cons (ev_op op_sub os_sub (ev_op op_addD os_add (ev_name (pv 1)) (ev_call (ok_size T) (hr.mono (by decide)) (by rfl) T.g_size T.F_size.kp T.b_size (ea_cons (ev_name (pv 2)) ea_nil) (nlen_cons nlen_nil))) ev_int) ea_nil))) ea_nil)))
  es_nil))
theorem ok_holds (T : Tx K mg) : FnOk P w K mg base CX0 2 T.a_holds T.fd_holds ["prefix", "address"] (spP K 2 F_holds) :=
  ok_P T.F_holds sc_holds rfl rfl fun cdv A outer s H E hr =>
  (es_cons (es_asg (ev_name (pv 0)) (eg_tup (is := [2, 3]) rfl (pgs_cons (pg_name sc_holds.nd (i := 2) rfl (by first | exact Or.inl rfl | exact Or.inr rfl)) (pgs_cons (pg_name sc_holds.nd (i := 3) rfl (by first | exact Or.inl rfl | exact Or.inr rfl)) pgs_nil))))
  (es_cons (es_ret (ev_chain op_le os_le op_lt os_lt (ev_name (pv 2)) (ev_name (pv 1)) (ev_op op_addD os_add (ev_name (pv 2)) (ev_call (ok_size T) (hr.mono (by decide)) (by rfl) T.g_size T.F_size.kp T.b_size (ea_cons (ev_name (pv 3)) ea_nil) (nlen_cons nlen_nil)))))
  es_nil))
theorem ok_ways (T : Tx K mg) : FnOk P w K mg base CX0 1 T.a_ways T.fd_ways ["exchange"] (spP K 1 F_ways) :=
  ok_P T.F_ways sc_ways rfl rfl fun cdv A outer s H E hr =>
  (es_cons (es_ret (ev_op op_addD os_add (ev_new (en_fnT call_list_of fn_list (by rfl) T.z_list PyProof.Rows.boot_list (ea_cons (ev_name (pv 0)) ea_nil))) (ev_new (en_comp rfl sc_ways.nd (own := [("one", 1), ("other", 2)]) (ei_seq (ev_name (pv 0))) (blkOk_by (N := ["exchange", "one", "other"]) (sc := defScope s_ways) (by decide +kernel)) (fun _ _ _ _ _ => (eg_tup (is := [1, 2]) rfl (pgs_cons (pg_name sc_ways.nd (i := 1) rfl (by first | exact Or.inl rfl | exact Or.inr rfl)) (pgs_cons (pg_name sc_ways.nd (i := 2) rfl (by first | exact Or.inl rfl | exact Or.inr rfl)) pgs_nil)))) (fun _ _ _ _ _ => ptst_nil) (fun _ _ _ _ _ => (ev_tup (ea_cons (ev_name (pv 2)) (ea_cons (ev_name (pv 1)) ea_nil))))))))
  es_nil)
theorem ok_exchanged (T : Tx K mg) : FnOk P w K mg base CX0 3 T.a_exchanged T.fd_exchanged ["exchange", "address"] (spP K 2 F_exchanged) :=
  ok_P T.F_exchanged sc_exchanged rfl rfl fun cdv A outer s H E hr =>
  (es_cons (es_for PassesOwn.never rfl (ei_seq (ev_call (ok_ways T) (hr.mono (by decide)) (by rfl) T.g_ways T.F_ways.kp T.b_ways (ea_cons (ev_name (pv 0)) ea_nil) (nlen_cons nlen_nil))) (eg_tup (is := [2, 3]) rfl (pgs_cons (pg_name sc_exchanged.nd (i := 2) rfl (by first | exact Or.inl rfl | exact Or.inr rfl)) (pgs_cons (pg_name sc_exchanged.nd (i := 3) rfl (by first | exact Or.inl rfl | exact Or.inr rfl)) pgs_nil)))
  (es_cons (es_if (et_tru (ev_call (ok_holds T) (hr.mono (by decide)) (by rfl) T.g_holds T.F_holds.kp T.b_holds (ea_cons (ev_name (pv 2)) (ea_cons (ev_name (pv 1)) ea_nil)) (nlen_cons (nlen_cons nlen_nil))))
  (es_cons (es_ret (ev_op op_addD os_add (ev_op op_sub os_sub (ev_name (pv 1)) (ev_ix ix_seq os_ix (ev_name (pv 2)) ev_int (fun _ _ => rfl))) (ev_ix ix_seq os_ix (ev_name (pv 3)) ev_int (fun _ _ => rfl))))
  es_nil)
  es_nil)
  es_nil))
  (es_cons (es_ret (ev_name (pv 1)))
  es_nil))
theorem ok_exchanged_set (T : Tx K mg) : FnOk P w K mg base CX0 3 T.a_exchanged_set T.fd_exchanged_set ["exchange", "a"] (spP K 2 F_exchanged_set) :=
  ok_P T.F_exchanged_set sc_exchanged_set rfl rfl fun cdv A outer s H E hr =>
  (es_cons (es_set sc_exchanged_set.nd (i := 2) rfl (by first | exact Or.inl rfl | exact Or.inr rfl) (ev_name (pv 1)))
  (es_cons (es_set sc_exchanged_set.nd (i := 3) rfl (by first | exact Or.inl rfl | exact Or.inr rfl) (ev_tup ea_nil))
  (es_cons (es_for PassesOwn.never rfl (ei_seq (ev_call (ok_ways T) (hr.mono (by decide)) (by rfl) T.g_ways T.F_ways.kp T.b_ways (ea_cons (ev_name (pv 0)) ea_nil) (nlen_cons nlen_nil))) (eg_tup (is := [4, 5]) rfl (pgs_cons (pg_name sc_exchanged_set.nd (i := 4) rfl (by first | exact Or.inl rfl | exact Or.inr rfl)) (pgs_cons (pg_name sc_exchanged_set.nd (i := 5) rfl (by first | exact Or.inl rfl | exact Or.inr rfl)) pgs_nil)))
  (es_cons (es_set sc_exchanged_set.nd (i := 6) rfl (by first | exact Or.inl rfl | exact Or.inr rfl) (ev_call (ok_both T) (hr.mono (by decide)) (by rfl) T.g_both T.F_both.kp T.b_both (ea_cons (ev_name (pv 1)) (ea_cons (ev_call (ok_held T) (hr.mono (by decide)) (by rfl) T.g_held T.F_held.kp T.b_held (ea_cons (ev_name (pv 4)) ea_nil) (nlen_cons nlen_nil)) ea_nil)) (nlen_cons (nlen_cons nlen_nil))))
  (es_cons (es_set sc_exchanged_set.nd (i := 2) rfl (by first | exact Or.inl rfl | exact Or.inr rfl) (ev_call (ok_without T) (hr.mono (by decide)) (by rfl) T.g_without T.F_without.kp T.b_without (ea_cons (ev_name (pv 2)) (ea_cons (ev_name (pv 6)) ea_nil)) (nlen_cons (nlen_cons nlen_nil))))
  (es_cons (es_set sc_exchanged_set.nd (i := 7) rfl (by first | exact Or.inl rfl | exact Or.inr rfl) (ev_op op_sub os_sub (ev_ix ix_seq os_ix (ev_name (pv 5)) ev_int (fun _ _ => rfl)) (ev_ix ix_seq os_ix (ev_name (pv 4)) ev_int (fun _ _ => rfl))))
  (es_cons (es_set sc_exchanged_set.nd (i := 3) rfl (by first | exact Or.inl rfl | exact Or.inr rfl) (ev_call (ok_either T) (hr.mono (by decide)) (by rfl) T.g_either T.F_either.kp T.b_either (ea_cons (ev_name (pv 3)) (ea_cons (ev_call (ok_set_of T) (hr.mono (by decide)) (by rfl) T.g_set_of T.F_set_of.kp T.b_set_of (ea_cons (ev_new (en_comp rfl sc_exchanged_set.nd (own := [("low", 8), ("high", 9)]) (ei_seq (ev_name (pv 6))) (blkOk_by (N := ["exchange", "a", "rest", "moved", "one", "other", "part", "shift", "low", "high"]) (sc := defScope s_exchanged_set) (by decide +kernel)) (fun _ _ _ _ _ => (eg_tup (is := [8, 9]) rfl (pgs_cons (pg_name sc_exchanged_set.nd (i := 8) rfl (by first | exact Or.inl rfl | exact Or.inr rfl)) (pgs_cons (pg_name sc_exchanged_set.nd (i := 9) rfl (by first | exact Or.inl rfl | exact Or.inr rfl)) pgs_nil)))) (fun _ _ _ _ _ => ptst_nil) (fun _ _ _ _ _ => (ev_tup (ea_cons (ev_op op_addD os_add (ev_name (pv 8)) (ev_name (pv 7))) (ea_cons (ev_op op_addD os_add (ev_name (pv 9)) (ev_name (pv 7))) ea_nil)))))) ea_nil) (nlen_cons nlen_nil)) ea_nil)) (nlen_cons (nlen_cons nlen_nil))))
  es_nil)))))
  (es_cons (es_ret (ev_call (ok_either T) (hr.mono (by decide)) (by rfl) T.g_either T.F_either.kp T.b_either (ea_cons (ev_name (pv 2)) (ea_cons (ev_name (pv 3)) ea_nil)) (nlen_cons (nlen_cons nlen_nil))))
  es_nil))))
theorem ok_law_same (T : Tx K mg) : ∀ r : Nat, FnOk P w K mg base CX0 (0 + r) T.a_law_same T.fd_law_same ["actual", "due"] (spP K 2 (F_law_same r))
  | 0 => ⟨fun vs H Q E h => h.1, fun A outer s H args us vs Q E _ _ _ _ h => by obtain ⟨_, h⟩ := h; obtain ⟨_, _, _, _, _, e, _⟩ := h; cases e⟩
  | r + 1 => ok_P T.F_law_same sc_law_same rfl rfl fun cdv A outer s H E hr =>
  have HR := ok_law_same T r
  (es_cons (es_if (ew_or (et_tru (ev_isi (T := "tuple") (by decide) (by rfl) T.z_isinstance (ev_name (pv 1)) (pe_bltn (by rfl) T.z_tuple (by decide +kernel) rfl))) (ew_or1 (et_tru (ev_isi (T := "list") (by decide) (by rfl) T.z_isinstance (ev_name (pv 1)) (pe_bltn (by rfl) T.z_list (by decide +kernel) rfl))))).pt
  (es_cons (es_if (ew_or (et_cmp (op_neD hr.units) os_ne (ev_isi (T := "tuple") (by decide) (by rfl) T.z_isinstance (ev_name (pv 1)) (pe_bltn (by rfl) T.z_tuple (by decide +kernel) rfl)) (ev_isi (T := "tuple") (by decide) (by rfl) T.z_isinstance (ev_name (pv 0)) (pe_bltn (by rfl) T.z_tuple (by decide +kernel) rfl)) (nomark _)) (ew_or (et_cmp (op_neD hr.units) os_ne (ev_isi (T := "list") (by decide) (by rfl) T.z_isinstance (ev_name (pv 1)) (pe_bltn (by rfl) T.z_list (by decide +kernel) rfl)) (ev_isi (T := "list") (by decide) (by rfl) T.z_isinstance (ev_name (pv 0)) (pe_bltn (by rfl) T.z_list (by decide +kernel) rfl)) (nomark _)) (ew_or1 (et_cmp (op_neD hr.units) os_ne (ev_fn cl_len fs_len (by rfl) T.z_len PySem.boot_len (ea_cons (ev_name (pv 0)) ea_nil)) (ev_fn cl_len fs_len (by rfl) T.z_len PySem.boot_len (ea_cons (ev_name (pv 1)) ea_nil)) (nomark _))))).pt
  (es_cons (es_ret ev_bool)
  es_nil)
  es_nil)
  (es_cons (es_ret (ev_cmp (op_eqD hr.units) os_eq (ev_fn cl_len fs_len (by rfl) T.z_len PySem.boot_len (ea_cons (ev_new (en_comp rfl sc_law_same.nd (own := [("k", 2)]) (ei_rng1 (by rfl) T.z_range (ea_cons (ev_fn cl_len fs_len (by rfl) T.z_len PySem.boot_len (ea_cons (ev_name (pv 1)) ea_nil)) ea_nil)) (blkOk_by (N := ["actual", "due", "k"]) (sc := defScope s_law_same) (by decide +kernel)) (fun _ _ _ _ _ => (eg_name sc_law_same.nd (i := 2) rfl (by first | exact Or.inl rfl | exact Or.inr rfl))) (fun _ _ _ _ _ => (ptst_one (et_not (et_tru (ev_call HR hr (by rfl) T.g_law_same T.F_law_same.kp T.b_law_same (ea_cons (ev_ix ix_seq os_ix (ev_name (pv 0)) (ev_name (pv 2)) (fun _ _ => rfl)) (ea_cons (ev_ix ix_seq os_ix (ev_name (pv 1)) (ev_name (pv 2)) (fun _ _ => rfl)) ea_nil)) (nlen_cons (nlen_cons nlen_nil))))))) (fun _ _ _ _ _ => (ev_name (pv 2))))) ea_nil)) ev_int (nomark _)))
  es_nil))
  es_nil)
  (es_cons (es_if (et_isN (ev_name (pv 1)))
  (es_cons (es_ret (ev_isN (ev_name (pv 0))))
  es_nil)
  es_nil)
  (es_cons (es_if (ew_or (et_tru (ev_isi (T := "bool") (by decide) (by rfl) T.z_isinstance (ev_name (pv 1)) (pe_bltn (by rfl) T.z_bool (by decide +kernel) rfl))) (ew_or1 (et_tru (ev_isi (T := "bool") (by decide) (by rfl) T.z_isinstance (ev_name (pv 0)) (pe_bltn (by rfl) T.z_bool (by decide +kernel) rfl))))).pt
  (es_cons (es_ret (ev_and (ev_isi (T := "bool") (by decide) (by rfl) T.z_isinstance (ev_name (pv 1)) (pe_bltn (by rfl) T.z_bool (by decide +kernel) rfl)) (ev_and (ev_isi (T := "bool") (by decide) (by rfl) T.z_isinstance (ev_name (pv 0)) (pe_bltn (by rfl) T.z_bool (by decide +kernel) rfl)) (ev_one (ev_cmp (op_eqD hr.units) os_eq (ev_name (pv 0)) (ev_name (pv 1)) (nomark _))))))
  es_nil)
  es_nil)
  (es_cons (es_if (et_tru (ev_isi (T := "int") (by decide) (by rfl) T.z_isinstance (ev_name (pv 1)) (pe_bltn (by rfl) T.z_int (by decide +kernel) rfl)))
  (es_cons (es_ret (ev_and (ev_isi (T := "int") (by decide) (by rfl) T.z_isinstance (ev_name (pv 0)) (pe_bltn (by rfl) T.z_int (by decide +kernel) rfl)) (ev_one (ev_cmp (op_eqD hr.units) os_eq (ev_name (pv 0)) (ev_name (pv 1)) (nomark _)))))
  es_nil)
  es_nil)
  (es_cons (es_ret (ev_and (ev_isi (T := "str") (by decide) (by rfl) T.z_isinstance (ev_name (pv 0)) (pe_bltn (by rfl) T.z_str (by decide +kernel) rfl)) (ev_one (ev_cmp (op_eqD hr.units) os_eq (ev_name (pv 0)) (ev_name (pv 1)) (nomark _)))))
  es_nil)))))
theorem ok_law_is_integer (T : Tx K mg) : FnOk P w K mg base CX0 1 T.a_law_is_integer T.fd_law_is_integer ["actual"] (spP K 1 F_law_is_integer) :=
  ok_P T.F_law_is_integer sc_law_is_integer rfl rfl fun cdv A outer s H E hr =>
  (es_cons (es_ret (ev_and (ev_isi (T := "int") (by decide) (by rfl) T.z_isinstance (ev_name (pv 0)) (pe_bltn (by rfl) T.z_int (by decide +kernel) rfl)) (ev_one (ev_not (ev_isi (T := "bool") (by decide) (by rfl) T.z_isinstance (ev_name (pv 0)) (pe_bltn (by rfl) T.z_bool (by decide +kernel) rfl))))))
  es_nil)
theorem ok_law_pool (T : Tx K mg) : FnOk P w K mg base CX0 1 T.a_law_pool T.fd_law_pool ["script"] (spN K 1 F_law_pool) :=
  ok_N T.F_law_pool sc_law_pool rfl rfl fun cdv A outer s H E hr =>
  (es_cons (es_set sc_law_pool.nd (i := 1) rfl (by first | exact Or.inl rfl | exact Or.inr rfl) ev_int)
  (es_cons (es_for PassesOwn.never rfl (ei_seq (ev_new (en_sl (ev_name (pv 0)) eo_none (eo_some ev_int)))) (eg_name sc_law_pool.nd (i := 2) rfl (by first | exact Or.inl rfl | exact Or.inr rfl))
  (es_cons (es_set sc_law_pool.nd (i := 1) rfl (by first | exact Or.inl rfl | exact Or.inr rfl) (ev_op op_mod os_mod (ev_fnT call_int1 fs_int (by rfl) T.z_int PyProof.Rows.boot_int (ea_cons (ev_op op_addD os_add (ev_op op_mul os_mul (ev_name (pv 1)) ev_int) (ev_name (pv 2))) ea_nil)) ev_int))
  es_nil))
  (es_cons (es_retL (en_lst (ea_cons (ev_new (en_fnT call_list_of fn_list (by rfl) T.z_list PyProof.Rows.boot_list (ea_cons (ev_name (pv 0)) ea_nil))) (ea_cons ev_int (ea_cons ev_int (ea_cons ev_int (ea_cons (ev_name (pv 1)) ea_nil)))))))
  es_nil)))
theorem ok_law_spread (T : Tx K mg) : FnOk P w K mg base CX0 1 T.a_law_spread T.fd_law_spread ["cell"] (spP K 1 F_law_spread) :=
  ok_P T.F_law_spread sc_law_spread rfl rfl fun cdv A outer s H E hr =>
  (es_cons (es_set sc_law_spread.nd (i := 1) rfl (by first | exact Or.inl rfl | exact Or.inr rfl) (ev_op op_mod os_mod (ev_fnT call_int1 fs_int (by rfl) T.z_int PyProof.Rows.boot_int (ea_cons (ev_name (pv 0)) ea_nil)) ev_int))
  (es_cons (es_set sc_law_spread.nd (i := 2) rfl (by first | exact Or.inl rfl | exact Or.inr rfl) ev_int)
  (es_cons (es_for PassesOwn.never rfl (ei_rng1 (by rfl) T.z_range (ea_cons ev_int ea_nil)) (eg_name sc_law_spread.nd (i := 3) rfl (by first | exact Or.inl rfl | exact Or.inr rfl))
  (es_cons (es_set sc_law_spread.nd (i := 1) rfl (by first | exact Or.inl rfl | exact Or.inr rfl) (ev_op op_mod os_mod (ev_fnT call_int1 fs_int (by rfl) T.z_int PyProof.Rows.boot_int (ea_cons (ev_op op_addD os_add (ev_op op_addD os_add (ev_op op_mul os_mul (ev_name (pv 1)) ev_int) ev_int) (ev_name (pv 3))) ea_nil)) ev_int))
  (es_cons (es_set sc_law_spread.nd (i := 2) rfl (by first | exact Or.inl rfl | exact Or.inr rfl) (ev_op op_addD os_add (ev_op op_mul os_mul (ev_name (pv 2)) ev_int) (ev_name (pv 1))))
  es_nil)))
  (es_cons (es_ret (ev_name (pv 2)))
  es_nil))))
theorem ok_law_draw (T : Tx K mg) : FnOk P w K mg base CX0 2 T.a_law_draw T.fd_law_draw ["pool", "many"] (spL K 1 F_law_draw) :=
  ok_L T.F_law_draw sc_law_draw rfl rfl fun cdv A outer s H E hr =>
  (es_cons (es_if (ew_and (et_cmp op_le os_le (ev_ixO (pv 0) ev_int (fun _ _ => rfl)) ev_int (nomark _)) (ew_and1 (et_cmp op_lt os_lt (ev_ixO (pv 0) ev_int (fun _ _ => rfl)) (ev_fn cl_len fs_len (by rfl) T.z_len PySem.boot_len (ea_cons (ev_ixO (pv 0) ev_int (fun _ _ => rfl)) ea_nil)) (nomark _)))).pt
  (es_cons (es_set sc_law_draw.nd (i := 3) rfl (by first | exact Or.inl rfl | exact Or.inr rfl) (ev_ix ix_seq os_ix (ev_ixO (pv 0) ev_int (fun _ _ => rfl)) (ev_ixO (pv 0) ev_int (fun _ _ => rfl)) (fun _ _ => rfl)))
  (es_cons (es_sto (pv 0) ev_int (ev_op op_addD os_add (ev_ixO (pv 0) ev_int (fun _ _ => rfl)) ev_int))
  (es_cons (es_sto (pv 0) ev_int (ev_name (pv 3)))
  (es_cons (es_if (et_cmp op_lt os_lt (ev_name (pv 3)) ev_int (nomark _))
  (es_cons (es_sto (pv 0) ev_int (ev_call (ok_law_spread T) (hr.mono (by decide)) (by rfl) T.g_law_spread T.F_law_spread.kp T.b_law_spread (ea_cons (ev_name (pv 3)) ea_nil) (nlen_cons nlen_nil)))
  es_nil)
  es_nil)
  es_nil))))
  es_nil)
  (es_cons (es_sto (pv 0) ev_int (ev_op op_addD os_add (ev_ixO (pv 0) ev_int (fun _ _ => rfl)) ev_int))
  (es_cons (es_if (et_cmp op_le os_le (ev_ixO (pv 0) ev_int (fun _ _ => rfl)) ev_int (nomark _))
  (es_cons (es_set sc_law_draw.nd (i := 4) rfl (by first | exact Or.inl rfl | exact Or.inr rfl) (ev_op op_mod os_mod (ev_fnT call_int1 fs_int (by rfl) T.z_int PyProof.Rows.boot_int (ea_cons (ev_op op_addD os_add (ev_op op_addD os_add (ev_op op_mul os_mul (ev_ixO (pv 0) ev_int (fun _ _ => rfl)) ev_int) (ev_op op_mul os_mul (ev_ixO (pv 0) ev_int (fun _ _ => rfl)) ev_int)) ev_int) ea_nil)) ev_int))
  (es_cons (es_set sc_law_draw.nd (i := 4) rfl (by first | exact Or.inl rfl | exact Or.inr rfl) (ev_op op_mod os_mod (ev_fnT call_int1 fs_int (by rfl) T.z_int PyProof.Rows.boot_int (ea_cons (ev_op op_addD os_add (ev_op op_mul os_mul (ev_name (pv 4)) ev_int) (ev_ixO (pv 0) ev_int (fun _ _ => rfl))) ea_nil)) ev_int))
  (es_cons (es_ret (ev_op op_mod os_mod (ev_op op_fdivW os_div (ev_name (pv 4)) ev_int) (ev_name (pv 1))))
  es_nil)))
  es_nil)
  (es_cons (es_set sc_law_draw.nd (i := 2) rfl (by first | exact Or.inl rfl | exact Or.inr rfl) (ev_op op_mod os_mod (ev_fnT call_int1 fs_int (by rfl) T.z_int PyProof.Rows.boot_int (ea_cons (ev_ixO (pv 0) ev_int (fun _ _ => rfl)) ea_nil)) (ev_name (pv 1))))
  (es_cons (es_sto (pv 0) ev_int (ev_op op_fdivW os_div (ev_ixO (pv 0) ev_int (fun _ _ => rfl)) (ev_name (pv 1))))
  (es_cons (es_ret (ev_name (pv 2)))
  es_nil))))))
theorem ok_law_has (T : Tx K mg) : FnOk P w K mg base CX0 1 T.a_law_has T.fd_law_has ["numbers", "number"] (spP K 2 F_law_has) :=
  ok_P T.F_law_has sc_law_has rfl rfl fun cdv A outer s H E hr =>
  (es_cons (es_ret (ev_cmp op_gt os_gt (ev_fn cl_len fs_len (by rfl) T.z_len PySem.boot_len (ea_cons (ev_new (en_comp rfl sc_law_has.nd (own := [("pair", 2)]) (ei_seq (ev_name (pv 0))) (blkOk_by (N := ["numbers", "number", "pair"]) (sc := defScope s_law_has) (by decide +kernel)) (fun _ _ _ _ _ => (eg_name sc_law_has.nd (i := 2) rfl (by first | exact Or.inl rfl | exact Or.inr rfl))) (fun _ _ _ _ _ => (ptst_one (ew_and (et_cmp op_le os_le (ev_ix ix_seq os_ix (ev_name (pv 2)) ev_int (fun _ _ => rfl)) (ev_name (pv 1)) (nomark _)) (ew_and1 (et_cmp op_le os_le (ev_name (pv 1)) (ev_ix ix_seq os_ix (ev_name (pv 2)) ev_int (fun _ _ => rfl)) (nomark _)))).pt)) (fun _ _ _ _ _ => (ev_name (pv 2))))) ea_nil)) ev_int (nomark _)))
  es_nil)
theorem ok_law_union (T : Tx K mg) : FnOk P w K mg base CX0 2 T.a_law_union T.fd_law_union ["pairs", "top"] (spP K 2 F_law_union) :=
  ok_P T.F_law_union sc_law_union rfl rfl fun cdv A outer s H E hr =>
  (es_cons (es_set sc_law_union.nd (i := 2) rfl (by first | exact Or.inl rfl | exact Or.inr rfl) (ev_new (en_sortSetA rfl (by rfl) T.z_sorted (by rfl) T.z_set (ev_op op_addD os_add (ev_op op_addD os_add (ev_new (en_lst (ea_cons ev_int (ea_cons (ev_op op_addD os_add (ev_name (pv 1)) ev_int) ea_nil)))) (ev_new (en_comp rfl sc_law_union.nd (own := [("pair", 5)]) (ei_seq (ev_name (pv 0))) (blkOk_by (N := ["pairs", "top", "edges", "found", "k", "pair"]) (sc := defScope s_law_union) (by decide +kernel)) (fun _ _ _ _ _ => (eg_name sc_law_union.nd (i := 5) rfl (by first | exact Or.inl rfl | exact Or.inr rfl))) (fun _ _ _ _ _ => ptst_nil) (fun _ _ _ _ _ => (ev_fn (call_min2 rfl) fs_min (by rfl) T.z_min (by decide +kernel) (ea_cons (ev_ix ix_seq os_ix (ev_name (pv 5)) ev_int (fun _ _ => rfl)) (ea_cons (ev_op op_addD os_add (ev_name (pv 1)) ev_int) ea_nil))))))) (ev_new (en_comp rfl sc_law_union.nd (own := [("pair", 5)]) (ei_seq (ev_name (pv 0))) (blkOk_by (N := ["pairs", "top", "edges", "found", "k", "pair"]) (sc := defScope s_law_union) (by decide +kernel)) (fun _ _ _ _ _ => (eg_name sc_law_union.nd (i := 5) rfl (by first | exact Or.inl rfl | exact Or.inr rfl))) (fun _ _ _ _ _ => ptst_nil) (fun _ _ _ _ _ => (ev_fn (call_min2 rfl) fs_min (by rfl) T.z_min (by decide +kernel) (ea_cons (ev_op op_addD os_add (ev_ix ix_seq os_ix (ev_name (pv 5)) ev_int (fun _ _ => rfl)) ev_int) (ea_cons (ev_op op_addD os_add (ev_name (pv 1)) ev_int) ea_nil))))))))))
  (es_cons (es_setL sc_law_union.nd (i := 3) rfl (by first | exact Or.inl rfl | exact Or.inr rfl) (en_lst ea_nil))
  (es_cons (es_for PassesOwn.never rfl (ei_rng1 (by rfl) T.z_range (ea_cons (ev_op op_sub os_sub (ev_fn cl_len fs_len (by rfl) T.z_len PySem.boot_len (ea_cons (ev_name (pv 2)) ea_nil)) ev_int) ea_nil)) (eg_name sc_law_union.nd (i := 4) rfl (by first | exact Or.inl rfl | exact Or.inr rfl))
  (es_cons (es_if (et_tru (ev_call (ok_law_has T) (hr.mono (by decide)) (by rfl) T.g_law_has T.F_law_has.kp T.b_law_has (ea_cons (ev_name (pv 0)) (ea_cons (ev_ix ix_seq os_ix (ev_name (pv 2)) (ev_name (pv 4)) (fun _ _ => rfl)) ea_nil)) (nlen_cons (nlen_cons nlen_nil))))
  (es_cons (es_if (ew_and (et_cmp op_gt os_gt (ev_lenO (pv 3) (by rfl) T.z_len) ev_int (nomark _)) (ew_and1 (et_cmp (op_eqD hr.units) os_eq (ev_op op_addD os_add (ev_ix ix_seq os_ix (ev_ixO (pv 3) (ev_un un_neg us_neg ev_int) (fun _ _ => rfl)) ev_int (fun _ _ => rfl)) ev_int) (ev_ix ix_seq os_ix (ev_name (pv 2)) (ev_name (pv 4)) (fun _ _ => rfl)) (nomark _)))).pt
  (es_cons (es_sto (pv 3) (ev_un un_neg us_neg ev_int) (ev_tup (ea_cons (ev_ix ix_seq os_ix (ev_ixO (pv 3) (ev_un un_neg us_neg ev_int) (fun _ _ => rfl)) ev_int (fun _ _ => rfl)) (ea_cons (ev_op op_sub os_sub (ev_ix ix_seq os_ix (ev_name (pv 2)) (ev_op op_addD os_add (ev_name (pv 4)) ev_int) (fun _ _ => rfl)) ev_int) ea_nil))))
  es_nil)
  (es_cons (es_app (pv 3) (ev_tup (ea_cons (ev_ix ix_seq os_ix (ev_name (pv 2)) (ev_name (pv 4)) (fun _ _ => rfl)) (ea_cons (ev_op op_sub os_sub (ev_ix ix_seq os_ix (ev_name (pv 2)) (ev_op op_addD os_add (ev_name (pv 4)) ev_int) (fun _ _ => rfl)) ev_int) ea_nil))))
  es_nil))
  es_nil)
  es_nil)
  es_nil))
  (es_cons (es_ret (ev_tupO (pv 3) (by rfl) T.z_tuple))
  es_nil))))
theorem ok_law_number (T : Tx K mg) : FnOk P w K mg base CX0 3 T.a_law_number T.fd_law_number ["pool", "top"] (spL K 1 F_law_number) :=
  ok_L T.F_law_number sc_law_number rfl rfl fun cdv A outer s H E hr =>
  (es_cons (es_set sc_law_number.nd (i := 2) rfl (by first | exact Or.inl rfl | exact Or.inr rfl) (ev_callL (ok_law_draw T) (hr.mono (by decide)) (by rfl) T.g_law_draw T.F_law_draw.kp T.b_law_draw (pv 0) (ea_cons ev_int ea_nil) (nlen_cons nlen_nil)))
  (es_cons (es_if (et_cmp (op_eqD hr.units) os_eq (ev_name (pv 2)) ev_int (nomark _))
  (es_cons (es_ret (ev_callL (ok_law_draw T) (hr.mono (by decide)) (by rfl) T.g_law_draw T.F_law_draw.kp T.b_law_draw (pv 0) (ea_cons (ev_op op_addD os_add (ev_name (pv 1)) ev_int) ea_nil) (nlen_cons nlen_nil)))
  es_nil)
  es_nil)
  (es_cons (es_if (et_cmp (op_eqD hr.units) os_eq (ev_name (pv 2)) ev_int (nomark _))
  (es_cons (es_ret (ev_fn (call_min2 rfl) fs_min (by rfl) T.z_min (by decide +kernel) (ea_cons (ev_name (pv 1)) (ea_cons (ev_callL (ok_law_draw T) (hr.mono (by decide)) (by rfl) T.g_law_draw T.F_law_draw.kp T.b_law_draw (pv 0) (ea_cons ev_int ea_nil) (nlen_cons nlen_nil)) ea_nil))))
  es_nil)
  es_nil)
  (es_cons (es_if (et_cmp (op_eqD hr.units) os_eq (ev_name (pv 2)) ev_int (nomark _))
  (es_cons (es_ret (ev_fn (call_max2 rfl) fs_max (by rfl) T.z_max (by decide +kernel) (ea_cons ev_int (ea_cons (ev_op op_sub os_sub (ev_name (pv 1)) (ev_callL (ok_law_draw T) (hr.mono (by decide)) (by rfl) T.g_law_draw T.F_law_draw.kp T.b_law_draw (pv 0) (ea_cons ev_int ea_nil) (nlen_cons nlen_nil))) ea_nil))))
  es_nil)
  es_nil)
  (es_cons (es_ret (ev_fn (call_min2 rfl) fs_min (by rfl) T.z_min (by decide +kernel) (ea_cons (ev_name (pv 1)) (ea_cons (ev_op op_mul os_mul ev_int (ev_callL (ok_law_draw T) (hr.mono (by decide)) (by rfl) T.g_law_draw T.F_law_draw.kp T.b_law_draw (pv 0) (ea_cons ev_int ea_nil) (nlen_cons nlen_nil))) ea_nil))))
  es_nil)))))
theorem ok_law_pairs (T : Tx K mg) : FnOk P w K mg base CX0 4 T.a_law_pairs T.fd_law_pairs ["pool", "top", "many"] (spL K 2 F_law_pairs) :=
  ok_L T.F_law_pairs sc_law_pairs rfl rfl fun cdv A outer s H E hr =>
  (es_cons (es_setL sc_law_pairs.nd (i := 3) rfl (by first | exact Or.inl rfl | exact Or.inr rfl) (en_lst ea_nil))
  (es_cons (es_for PassesOwn.never rfl (ei_rng1 (by rfl) T.z_range (ea_cons (ev_name (pv 2)) ea_nil)) (eg_name sc_law_pairs.nd (i := 4) rfl (by first | exact Or.inl rfl | exact Or.inr rfl))
  (es_cons (es_set sc_law_pairs.nd (i := 5) rfl (by first | exact Or.inl rfl | exact Or.inr rfl) (ev_callL (ok_law_number T) (hr.mono (by decide)) (by rfl) T.g_law_number T.F_law_number.kp T.b_law_number (pv 0) (ea_cons (ev_name (pv 1)) ea_nil) (nlen_cons nlen_nil)))
  (es_cons (es_app (pv 3) (ev_tup (ea_cons (ev_name (pv 5)) (ea_cons (ev_fn (call_min2 rfl) fs_min (by rfl) T.z_min (by decide +kernel) (ea_cons (ev_name (pv 1)) (ea_cons (ev_op op_addD os_add (ev_name (pv 5)) (ev_ix ix_seq os_ix (ev_tup (ea_cons ev_int (ea_cons ev_int (ea_cons ev_int (ea_cons ev_int (ea_cons ev_int ea_nil)))))) (ev_callL (ok_law_draw T) (hr.mono (by decide)) (by rfl) T.g_law_draw T.F_law_draw.kp T.b_law_draw (pv 0) (ea_cons ev_int ea_nil) (nlen_cons nlen_nil)) (fun _ _ => rfl))) ea_nil))) ea_nil))))
  es_nil)))
  (es_cons (es_retO (pv 3))
  es_nil)))
theorem ok_law_drawn_set (T : Tx K mg) : FnOk P w K mg base CX0 5 T.a_law_drawn_set T.fd_law_drawn_set ["pool", "top", "many"] (spL K 2 F_law_drawn_set) :=
  ok_L T.F_law_drawn_set sc_law_drawn_set rfl rfl fun cdv A outer s H E hr =>
  (es_cons (es_ret (ev_call (ok_law_union T) (hr.mono (by decide)) (by rfl) T.g_law_union T.F_law_union.kp T.b_law_union (ea_cons (ev_callL (ok_law_pairs T) (hr.mono (by decide)) (by rfl) T.g_law_pairs T.F_law_pairs.kp T.b_law_pairs (pv 0) (ea_cons (ev_name (pv 1)) (ea_cons (ev_callL (ok_law_draw T) (hr.mono (by decide)) (by rfl) T.g_law_draw T.F_law_draw.kp T.b_law_draw (pv 0) (ea_cons (ev_op op_addD os_add (ev_name (pv 2)) ev_int) ea_nil) (nlen_cons nlen_nil)) ea_nil)) (nlen_cons (nlen_cons nlen_nil))) (ea_cons (ev_name (pv 1)) ea_nil)) (nlen_cons (nlen_cons nlen_nil))))
  es_nil)
theorem ok_law_power (T : Tx K mg) : FnOk P w K mg base CX0 1 T.a_law_power T.fd_law_power ["many"] (spP K 1 F_law_power) :=
  ok_P T.F_law_power sc_law_power rfl rfl fun cdv A outer s H E hr =>
  (es_cons (es_set sc_law_power.nd (i := 1) rfl (by first | exact Or.inl rfl | exact Or.inr rfl) ev_int)
  (es_cons (es_for PassesOwn.never rfl (ei_rng1 (by rfl) T.z_range (ea_cons (ev_name (pv 0)) ea_nil)) (eg_name sc_law_power.nd (i := 2) rfl (by first | exact Or.inl rfl | exact Or.inr rfl))
  (es_cons (es_set sc_law_power.nd (i := 1) rfl (by first | exact Or.inl rfl | exact Or.inr rfl) (ev_op op_mul os_mul (ev_name (pv 1)) ev_int))
  es_nil))
  (es_cons (es_ret (ev_name (pv 1)))
  es_nil)))
theorem ok_law_prefix (T : Tx K mg) : FnOk P w K mg base CX0 3 T.a_law_prefix T.fd_law_prefix ["pool"] (spL K 0 F_law_prefix) :=
  ok_L T.F_law_prefix sc_law_prefix rfl rfl fun cdv A outer s H E hr =>
  (es_cons (es_set sc_law_prefix.nd (i := 1) rfl (by first | exact Or.inl rfl | exact Or.inr rfl) (ev_callL (ok_law_draw T) (hr.mono (by decide)) (by rfl) T.g_law_draw T.F_law_draw.kp T.b_law_draw (pv 0) (ea_cons ev_int ea_nil) (nlen_cons nlen_nil)))
  (es_cons (es_ret (ev_tup (ea_cons (ev_op op_mul os_mul (ev_callL (ok_law_draw T) (hr.mono (by decide)) (by rfl) T.g_law_draw T.F_law_draw.kp T.b_law_draw (pv 0) (ea_cons (ev_call (ok_law_power T) (hr.mono (by decide)) (by rfl) T.g_law_power T.F_law_power.kp T.b_law_power (ea_cons (ev_name (pv 1)) ea_nil) (nlen_cons nlen_nil)) ea_nil) (nlen_cons nlen_nil)) (ev_call (ok_law_power T) (hr.mono (by decide)) (by rfl) T.g_law_power T.F_law_power.kp T.b_law_power (ea_cons (ev_op op_sub os_sub ev_int (ev_name (pv 1))) ea_nil) (nlen_cons nlen_nil))) (ea_cons (ev_name (pv 1)) ea_nil))))
  es_nil))
theorem ok_law_is_prefix (T : Tx K mg) : FnOk P w K mg base CX0 2 T.a_law_is_prefix T.fd_law_is_prefix ["value"] (spP K 1 F_law_is_prefix) :=
  ok_P T.F_law_is_prefix sc_law_is_prefix rfl rfl fun cdv A outer s H E hr =>
  (es_cons (es_if (ew_or (et_not (et_tru (ev_isi (T := "tuple") (by decide) (by rfl) T.z_isinstance (ev_name (pv 0)) (pe_bltn (by rfl) T.z_tuple (by decide +kernel) rfl)))) (ew_or (et_cmp (op_neD hr.units) os_ne (ev_fn cl_len fs_len (by rfl) T.z_len PySem.boot_len (ea_cons (ev_name (pv 0)) ea_nil)) ev_int (nomark _)) (ew_or (et_not (et_tru (ev_call (ok_law_is_integer T) (hr.mono (by decide)) (by rfl) T.g_law_is_integer T.F_law_is_integer.kp T.b_law_is_integer (ea_cons (ev_ix ix_seq os_ix (ev_name (pv 0)) ev_int (fun _ _ => rfl)) ea_nil) (nlen_cons nlen_nil)))) (ew_or1 (et_not (et_tru (ev_call (ok_law_is_integer T) (hr.mono (by decide)) (by rfl) T.g_law_is_integer T.F_law_is_integer.kp T.b_law_is_integer (ea_cons (ev_ix ix_seq os_ix (ev_name (pv 0)) ev_int (fun _ _ => rfl)) ea_nil) (nlen_cons nlen_nil)))))))).pt
  (es_cons (es_ret ev_bool)
  es_nil)
  es_nil)
  (es_cons (es_if (ew_or (et_cmp op_lt os_lt (ev_ix ix_seq os_ix (ev_name (pv 0)) ev_int (fun _ _ => rfl)) ev_int (nomark _)) (ew_or (et_cmp op_gt os_gt (ev_ix ix_seq os_ix (ev_name (pv 0)) ev_int (fun _ _ => rfl)) ev_int (nomark _)) (ew_or (et_cmp op_lt os_lt (ev_ix ix_seq os_ix (ev_name (pv 0)) ev_int (fun _ _ => rfl)) ev_int (nomark _)) (ew_or1 (et_cmp op_gt os_gt (ev_ix ix_seq os_ix (ev_name (pv 0)) ev_int (fun _ _ => rfl)) ev_int (nomark _)))))).pt
  (es_cons (es_ret ev_bool)
  es_nil)
  es_nil)
  (es_cons (es_ret (ev_cmp (op_eqD hr.units) os_eq (ev_op op_mod os_mod (ev_fnT call_int1 fs_int (by rfl) T.z_int PyProof.Rows.boot_int (ea_cons (ev_ix ix_seq os_ix (ev_name (pv 0)) ev_int (fun _ _ => rfl)) ea_nil)) (ev_call (ok_law_power T) (hr.mono (by decide)) (by rfl) T.g_law_power T.F_law_power.kp T.b_law_power (ea_cons (ev_op op_sub os_sub ev_int (ev_ix ix_seq os_ix (ev_name (pv 0)) ev_int (fun _ _ => rfl))) ea_nil) (nlen_cons nlen_nil))) ev_int (nomark _)))
  es_nil)))
theorem ok_law_last (T : Tx K mg) : FnOk P w K mg base CX0 2 T.a_law_last T.fd_law_last ["prefix"] (spP K 1 F_law_last) :=
  ok_P T.F_law_last sc_law_last rfl rfl fun cdv A outer s H E hr =>
  (es_cons (es_ret (ev_op op_sub os_sub (ev_op op_addD os_add (ev_ix ix_seq os_ix (ev_name (pv 0)) ev_int (fun _ _ => rfl)) (ev_call (ok_law_power T) (hr.mono (by decide)) (by rfl) T.g_law_power T.F_law_power.kp T.b_law_power (ea_cons (ev_op op_sub os_sub ev_int (ev_ix ix_seq os_ix (ev_name (pv 0)) ev_int (fun _ _ => rfl))) ea_nil) (nlen_cons nlen_nil))) ev_int))
  es_nil)
theorem ok_law_apart (T : Tx K mg) : FnOk P w K mg base CX0 3 T.a_law_apart T.fd_law_apart ["one", "two"] (spP K 2 F_law_apart) :=
  ok_P T.F_law_apart sc_law_apart rfl rfl fun cdv A outer s H E hr =>
  (es_cons (es_ret (ev_or (ev_cmp op_lt os_lt (ev_call (ok_law_last T) (hr.mono (by decide)) (by rfl) T.g_law_last T.F_law_last.kp T.b_law_last (ea_cons (ev_name (pv 0)) ea_nil) (nlen_cons nlen_nil)) (ev_ix ix_seq os_ix (ev_name (pv 1)) ev_int (fun _ _ => rfl)) (nomark _)) (ev_one (ev_cmp op_lt os_lt (ev_call (ok_law_last T) (hr.mono (by decide)) (by rfl) T.g_law_last T.F_law_last.kp T.b_law_last (ea_cons (ev_name (pv 1)) ea_nil) (nlen_cons nlen_nil)) (ev_ix ix_seq os_ix (ev_name (pv 0)) ev_int (fun _ _ => rfl)) (nomark _)))))
  es_nil)
theorem ok_law_is_exchange (T : Tx K mg) : FnOk P w K mg base CX0 4 T.a_law_is_exchange T.fd_law_is_exchange ["value"] (spP K 1 F_law_is_exchange) :=
  ok_P T.F_law_is_exchange sc_law_is_exchange rfl rfl fun cdv A outer s H E hr =>
  (es_cons (es_if (et_not (et_tru (ev_isi (T := "tuple") (by decide) (by rfl) T.z_isinstance (ev_name (pv 0)) (pe_bltn (by rfl) T.z_tuple (by decide +kernel) rfl))))
  (es_cons (es_ret ev_bool)
  es_nil)
  es_nil)
  (es_cons (es_setL sc_law_is_exchange.nd (i := 1) rfl (by first | exact Or.inl rfl | exact Or.inr rfl) (en_lst ea_nil))
  (es_cons (es_for PassesOwn.never rfl (ei_seq (ev_name (pv 0))) (eg_name sc_law_is_exchange.nd (i := 2) rfl (by first | exact Or.inl rfl | exact Or.inr rfl))
  (es_cons (es_if (ew_or (et_not (et_tru (ev_isi (T := "tuple") (by decide) (by rfl) T.z_isinstance (ev_name (pv 2)) (pe_bltn (by rfl) T.z_tuple (by decide +kernel) rfl)))) (ew_or (et_cmp (op_neD hr.units) os_ne (ev_fn cl_len fs_len (by rfl) T.z_len PySem.boot_len (ea_cons (ev_name (pv 2)) ea_nil)) ev_int (nomark _)) (ew_or (et_not (et_tru (ev_call (ok_law_is_prefix T) (hr.mono (by decide)) (by rfl) T.g_law_is_prefix T.F_law_is_prefix.kp T.b_law_is_prefix (ea_cons (ev_ix ix_seq os_ix (ev_name (pv 2)) ev_int (fun _ _ => rfl)) ea_nil) (nlen_cons nlen_nil)))) (ew_or1 (et_not (et_tru (ev_call (ok_law_is_prefix T) (hr.mono (by decide)) (by rfl) T.g_law_is_prefix T.F_law_is_prefix.kp T.b_law_is_prefix (ea_cons (ev_ix ix_seq os_ix (ev_name (pv 2)) ev_int (fun _ _ => rfl)) ea_nil) (nlen_cons nlen_nil)))))))).pt
  (es_cons (es_ret ev_bool)
  es_nil)
  es_nil)
  (es_cons (es_if (et_cmp (op_neD hr.units) os_ne (ev_ix ix_seq os_ix (ev_ix ix_seq os_ix (ev_name (pv 2)) ev_int (fun _ _ => rfl)) ev_int (fun _ _ => rfl)) (ev_ix ix_seq os_ix (ev_ix ix_seq os_ix (ev_name (pv 2)) ev_int (fun _ _ => rfl)) ev_int (fun _ _ => rfl)) (nomark _))
  (es_cons (es_ret ev_bool)
  es_nil)
  es_nil)
  (es_cons (es_for PassesOwn.never rfl (ei_seq (ev_name (pv 2))) (eg_name sc_law_is_exchange.nd (i := 3) rfl (by first | exact Or.inl rfl | exact Or.inr rfl))
  (es_cons (es_if (et_cmp op_gt os_gt (ev_fn cl_len fs_len (by rfl) T.z_len PySem.boot_len (ea_cons (ev_new (en_compO rfl sc_law_is_exchange.nd (own := [("other", 4)]) (pv 1) (blkOk_by (N := ["value", "known", "pair", "prefix", "other"]) (sc := defScope s_law_is_exchange) (by decide +kernel)) (fun _ _ _ _ _ => (eg_name sc_law_is_exchange.nd (i := 4) rfl (by first | exact Or.inl rfl | exact Or.inr rfl))) (fun _ _ _ _ _ => (ptst_one (et_not (et_tru (ev_call (ok_law_apart T) (hr.mono (by decide)) (by rfl) T.g_law_apart T.F_law_apart.kp T.b_law_apart (ea_cons (ev_name (pv 3)) (ea_cons (ev_name (pv 4)) ea_nil)) (nlen_cons (nlen_cons nlen_nil))))))) (fun _ _ _ _ _ => (ev_name (pv 4))))) ea_nil)) ev_int (nomark _))
  (es_cons (es_ret ev_bool)
  es_nil)
  es_nil)
  (es_cons (es_app (pv 1) (ev_name (pv 3)))
  es_nil)))
  es_nil))))
  (es_cons (es_ret ev_bool)
  es_nil))))
theorem ok_law_exchange (T : Tx K mg) : FnOk P w K mg base CX0 5 T.a_law_exchange T.fd_law_exchange ["pool", "most"] (spL K 1 F_law_exchange) :=
  ok_L T.F_law_exchange sc_law_exchange rfl rfl fun cdv A outer s H E hr =>
  (es_cons (es_setL sc_law_exchange.nd (i := 2) rfl (by first | exact Or.inl rfl | exact Or.inr rfl) (en_lst ea_nil))
  (es_cons (es_for PassesOwn.never rfl (ei_rng1 (by rfl) T.z_range (ea_cons (ev_callL (ok_law_draw T) (hr.mono (by decide)) (by rfl) T.g_law_draw T.F_law_draw.kp T.b_law_draw (pv 0) (ea_cons (ev_op op_addD os_add (ev_name (pv 1)) ev_int) ea_nil) (nlen_cons nlen_nil)) ea_nil)) (eg_name sc_law_exchange.nd (i := 3) rfl (by first | exact Or.inl rfl | exact Or.inr rfl))
  (es_cons (es_set sc_law_exchange.nd (i := 4) rfl (by first | exact Or.inl rfl | exact Or.inr rfl) (ev_callL (ok_law_prefix T) (hr.mono (by decide)) (by rfl) T.g_law_prefix T.F_law_prefix.kp T.b_law_prefix (pv 0) ea_nil nlen_nil))
  (es_cons (es_set sc_law_exchange.nd (i := 5) rfl (by first | exact Or.inl rfl | exact Or.inr rfl) (ev_tup (ea_cons (ev_op op_mul os_mul (ev_callL (ok_law_draw T) (hr.mono (by decide)) (by rfl) T.g_law_draw T.F_law_draw.kp T.b_law_draw (pv 0) (ea_cons (ev_call (ok_law_power T) (hr.mono (by decide)) (by rfl) T.g_law_power T.F_law_power.kp T.b_law_power (ea_cons (ev_ix ix_seq os_ix (ev_name (pv 4)) ev_int (fun _ _ => rfl)) ea_nil) (nlen_cons nlen_nil)) ea_nil) (nlen_cons nlen_nil)) (ev_call (ok_law_power T) (hr.mono (by decide)) (by rfl) T.g_law_power T.F_law_power.kp T.b_law_power (ea_cons (ev_op op_sub os_sub ev_int (ev_ix ix_seq os_ix (ev_name (pv 4)) ev_int (fun _ _ => rfl))) ea_nil) (nlen_cons nlen_nil))) (ea_cons (ev_ix ix_seq os_ix (ev_name (pv 4)) ev_int (fun _ _ => rfl)) ea_nil))))
  (es_cons (es_if (et_tru (ev_call (ok_law_is_exchange T) (hr.mono (by decide)) (by rfl) T.g_law_is_exchange T.F_law_is_exchange.kp T.b_law_is_exchange (ea_cons (ev_fnT call_tuple_of fs_tup (by rfl) T.z_tuple PyProof.Rows.boot_tuple (ea_cons (ev_addO (pv 2) (ev_new (en_lst (ea_cons (ev_tup (ea_cons (ev_name (pv 4)) (ea_cons (ev_name (pv 5)) ea_nil))) ea_nil)))) ea_nil)) ea_nil) (nlen_cons nlen_nil)))
  (es_cons (es_app (pv 2) (ev_tup (ea_cons (ev_name (pv 4)) (ea_cons (ev_name (pv 5)) ea_nil))))
  es_nil)
  es_nil)
  es_nil))))
  (es_cons (es_ret (ev_tupO (pv 2) (by rfl) T.z_tuple))
  es_nil)))
theorem ok_law_swap (T : Tx K mg) : FnOk P w K mg base CX0 3 T.a_law_swap T.fd_law_swap ["exchange", "address"] (spP K 2 F_law_swap) :=
  ok_P T.F_law_swap sc_law_swap rfl rfl fun cdv A outer s H E hr =>
  (es_cons (es_for PassesOwn.never rfl (ei_seq (ev_name (pv 0))) (eg_name sc_law_swap.nd (i := 2) rfl (by first | exact Or.inl rfl | exact Or.inr rfl))
  (es_cons (es_for PassesOwn.never rfl (ei_seq (ev_tup (ea_cons ev_int (ea_cons ev_int ea_nil)))) (eg_name sc_law_swap.nd (i := 3) rfl (by first | exact Or.inl rfl | exact Or.inr rfl))
  (es_cons (es_if (ew_and (et_cmp op_le os_le (ev_ix ix_seq os_ix (ev_ix ix_seq os_ix (ev_name (pv 2)) (ev_name (pv 3)) (fun _ _ => rfl)) ev_int (fun _ _ => rfl)) (ev_name (pv 1)) (nomark _)) (ew_and1 (et_cmp op_le os_le (ev_name (pv 1)) (ev_call (ok_law_last T) (hr.mono (by decide)) (by rfl) T.g_law_last T.F_law_last.kp T.b_law_last (ea_cons (ev_ix ix_seq os_ix (ev_name (pv 2)) (ev_name (pv 3)) (fun _ _ => rfl)) ea_nil) (nlen_cons nlen_nil)) (nomark _)))).pt
  (es_cons (es_ret (ev_op op_addD os_add (ev_op op_sub os_sub (ev_name (pv 1)) (ev_ix ix_seq os_ix (ev_ix ix_seq os_ix (ev_name (pv 2)) (ev_name (pv 3)) (fun _ _ => rfl)) ev_int (fun _ _ => rfl))) (ev_ix ix_seq os_ix (ev_ix ix_seq os_ix (ev_name (pv 2)) (ev_op op_sub os_sub ev_int (ev_name (pv 3))) (fun _ _ => rfl)) ev_int (fun _ _ => rfl))))
  es_nil)
  es_nil)
  es_nil))
  es_nil))
  (es_cons (es_ret (ev_name (pv 1)))
  es_nil))
theorem ok_law_great_exchange (T : Tx K mg) : FnOk P w K mg base CX0 6 T.a_law_great_exchange T.fd_law_great_exchange ["pool", "most"] (spL K 1 F_law_great_exchange) :=
  ok_L T.F_law_great_exchange sc_law_great_exchange rfl rfl fun cdv A outer s H E hr =>
  (es_cons (es_if (et_cmp op_gt os_gt (ev_callL (ok_law_draw T) (hr.mono (by decide)) (by rfl) T.g_law_draw T.F_law_draw.kp T.b_law_draw (pv 0) (ea_cons ev_int ea_nil) (nlen_cons nlen_nil)) ev_int (nomark _))
  (es_cons (es_ret (ev_callL (ok_law_exchange T) (hr.mono (by decide)) (by rfl) T.g_law_exchange T.F_law_exchange.kp T.b_law_exchange (pv 0) (ea_cons (ev_name (pv 1)) ea_nil) (nlen_cons nlen_nil)))
  es_nil)
  es_nil)
  (es_cons (es_set sc_law_great_exchange.nd (i := 2) rfl (by first | exact Or.inl rfl | exact Or.inr rfl) (ev_op op_mul os_mul ev_int (ev_callL (ok_law_draw T) (hr.mono (by decide)) (by rfl) T.g_law_draw T.F_law_draw.kp T.b_law_draw (pv 0) (ea_cons ev_int ea_nil) (nlen_cons nlen_nil))))
  (es_cons (es_ret (ev_fnT call_tuple_of fs_tup (by rfl) T.z_tuple PyProof.Rows.boot_tuple (ea_cons (ev_new (en_comp rfl sc_law_great_exchange.nd (own := [("k", 3)]) (ei_rng1 (by rfl) T.z_range (ea_cons (ev_op op_addD os_add ev_int (ev_callL (ok_law_draw T) (hr.mono (by decide)) (by rfl) T.g_law_draw T.F_law_draw.kp T.b_law_draw (pv 0) (ea_cons ev_int ea_nil) (nlen_cons nlen_nil))) ea_nil)) (blkOk_by (N := ["pool", "most", "base", "k"]) (sc := defScope s_law_great_exchange) (by decide +kernel)) (fun _ _ _ _ _ => (eg_name sc_law_great_exchange.nd (i := 3) rfl (by first | exact Or.inl rfl | exact Or.inr rfl))) (fun _ _ _ _ _ => ptst_nil) (fun _ _ _ _ _ => (ev_tup (ea_cons (ev_tup (ea_cons (ev_op op_addD os_add (ev_name (pv 2)) (ev_op op_mul os_mul ev_int (ev_name (pv 3)))) (ea_cons ev_int ea_nil))) (ea_cons (ev_tup (ea_cons (ev_op op_addD os_add (ev_op op_addD os_add (ev_name (pv 2)) (ev_op op_mul os_mul ev_int (ev_name (pv 3)))) ev_int) (ea_cons ev_int ea_nil))) ea_nil)))))) ea_nil)))
  es_nil)))
theorem ok_law (T : Tx K mg) : FnOk P w K mg base CX0 42 T.a_law T.fd_law ["script"] (spP K 1 F_law) :=
  ok_P T.F_law sc_law rfl rfl fun cdv A outer s H E hr =>
  (es_cons (es_setL sc_law.nd (i := 1) rfl (by first | exact Or.inl rfl | exact Or.inr rfl) (en_call (ok_law_pool T) (hr.mono (by decide)) (by rfl) T.g_law_pool T.F_law_pool.kp T.b_law_pool (ea_cons (ev_name (pv 0)) ea_nil) (nlen_cons nlen_nil)))
  (es_cons (es_set sc_law.nd (i := 2) rfl (by first | exact Or.inl rfl | exact Or.inr rfl) (ev_callL (ok_law_great_exchange T) (hr.mono (by decide)) (by rfl) T.g_law_great_exchange T.F_law_great_exchange.kp T.b_law_great_exchange (pv 1) (ea_cons ev_int ea_nil) (nlen_cons nlen_nil)))
  (es_cons (es_set sc_law.nd (i := 3) rfl (by first | exact Or.inl rfl | exact Or.inr rfl) (ev_callL (ok_law_drawn_set T) (hr.mono (by decide)) (by rfl) T.g_law_drawn_set T.F_law_drawn_set.kp T.b_law_drawn_set (pv 1) (ea_cons ev_int (ea_cons ev_int ea_nil)) (nlen_cons (nlen_cons nlen_nil))))
  (es_cons (es_set sc_law.nd (i := 4) rfl (by first | exact Or.inl rfl | exact Or.inr rfl) (ev_new (en_lst (ea_cons (ev_callL (ok_law_number T) (hr.mono (by decide)) (by rfl) T.g_law_number T.F_law_number.kp T.b_law_number (pv 1) (ea_cons ev_int ea_nil) (nlen_cons nlen_nil)) ea_nil))))
  (es_cons (es_for PassesOwn.never rfl (ei_seq (ev_name (pv 2))) (eg_name sc_law.nd (i := 5) rfl (by first | exact Or.inl rfl | exact Or.inr rfl))
  (es_cons (es_for PassesOwn.never rfl (ei_seq (ev_name (pv 5))) (eg_name sc_law.nd (i := 12) rfl (by first | exact Or.inl rfl | exact Or.inr rfl))
  (es_cons (es_set sc_law.nd (i := 4) rfl (by first | exact Or.inl rfl | exact Or.inr rfl) (ev_op op_addD os_add (ev_name (pv 4)) (ev_new (en_lst (ea_cons (ev_ix ix_seq os_ix (ev_name (pv 12)) ev_int (fun _ _ => rfl)) (ea_cons (ev_call (ok_law_last T) (hr.mono (by decide)) (by rfl) T.g_law_last T.F_law_last.kp T.b_law_last (ea_cons (ev_name (pv 12)) ea_nil) (nlen_cons nlen_nil)) (ea_cons (ev_fn (call_min2 rfl) fs_min (by rfl) T.z_min (by decide +kernel) (ea_cons ev_int (ea_cons (ev_op op_addD os_add (ev_call (ok_law_last T) (hr.mono (by decide)) (by rfl) T.g_law_last T.F_law_last.kp T.b_law_last (ea_cons (ev_name (pv 12)) ea_nil) (nlen_cons nlen_nil)) ev_int) ea_nil))) (ea_cons (ev_fn (call_max2 rfl) fs_max (by rfl) T.z_max (by decide +kernel) (ea_cons ev_int (ea_cons (ev_op op_sub os_sub (ev_ix ix_seq os_ix (ev_name (pv 12)) ev_int (fun _ _ => rfl)) ev_int) ea_nil))) ea_nil))))))))
  es_nil))
  es_nil))
  (es_cons (es_for PassesOwn.never rfl (ei_seq (ev_name (pv 4))) (eg_name sc_law.nd (i := 6) rfl (by first | exact Or.inl rfl | exact Or.inr rfl))
  (es_cons (es_set sc_law.nd (i := 11) rfl (by first | exact Or.inl rfl | exact Or.inr rfl) (ev_call (ok_exchanged T) (hr.mono (by decide)) (by rfl) T.g_exchanged T.F_exchanged.kp T.b_exchanged (ea_cons (ev_name (pv 2)) (ea_cons (ev_name (pv 6)) ea_nil)) (nlen_cons (nlen_cons nlen_nil))))
  (es_cons (es_if (ew_or (et_not (et_tru (ev_call (ok_law_same T 40) (hr.mono (by decide)) (by rfl) T.g_law_same T.F_law_same.kp T.b_law_same (ea_cons (ev_name (pv 11)) (ea_cons (ev_call (ok_law_swap T) (hr.mono (by decide)) (by rfl) T.g_law_swap T.F_law_swap.kp T.b_law_swap (ea_cons (ev_name (pv 2)) (ea_cons (ev_name (pv 6)) ea_nil)) (nlen_cons (nlen_cons nlen_nil))) ea_nil)) (nlen_cons (nlen_cons nlen_nil))))) (ew_or1 (et_not (et_tru (ev_call (ok_law_same T 40) (hr.mono (by decide)) (by rfl) T.g_law_same T.F_law_same.kp T.b_law_same (ea_cons (ev_call (ok_exchanged T) (hr.mono (by decide)) (by rfl) T.g_exchanged T.F_exchanged.kp T.b_exchanged (ea_cons (ev_name (pv 2)) (ea_cons (ev_name (pv 11)) ea_nil)) (nlen_cons (nlen_cons nlen_nil))) (ea_cons (ev_name (pv 6)) ea_nil)) (nlen_cons (nlen_cons nlen_nil))))))).pt
  (es_cons (es_ret ev_bool)
  es_nil)
  es_nil)
  es_nil)))
  (es_cons (es_set sc_law.nd (i := 7) rfl (by first | exact Or.inl rfl | exact Or.inr rfl) (ev_new (en_sortSetA rfl (by rfl) T.z_sorted (by rfl) T.z_set (ev_op op_addD os_add (ev_op op_addD os_add (ev_op op_addD os_add (ev_name (pv 4)) (ev_new (en_lst (ea_cons ev_int (ea_cons ev_int ea_nil))))) (ev_new (en_comp rfl sc_law.nd (own := [("pair", 5)]) (ei_seq (ev_name (pv 3))) (blkOk_by (N := ["script", "pool", "exchange", "numbers", "edges", "pair", "address", "cuts", "pieces", "k", "due", "told", "prefix", "low", "start"]) (sc := defScope s_law) (by decide +kernel)) (fun _ _ _ _ _ => (eg_name sc_law.nd (i := 5) rfl (by first | exact Or.inl rfl | exact Or.inr rfl))) (fun _ _ _ _ _ => ptst_nil) (fun _ _ _ _ _ => (ev_ix ix_seq os_ix (ev_name (pv 5)) ev_int (fun _ _ => rfl)))))) (ev_new (en_comp rfl sc_law.nd (own := [("pair", 5)]) (ei_seq (ev_name (pv 3))) (blkOk_by (N := ["script", "pool", "exchange", "numbers", "edges", "pair", "address", "cuts", "pieces", "k", "due", "told", "prefix", "low", "start"]) (sc := defScope s_law) (by decide +kernel)) (fun _ _ _ _ _ => (eg_name sc_law.nd (i := 5) rfl (by first | exact Or.inl rfl | exact Or.inr rfl))) (fun _ _ _ _ _ => ptst_nil) (fun _ _ _ _ _ => (ev_op op_addD os_add (ev_ix ix_seq os_ix (ev_name (pv 5)) ev_int (fun _ _ => rfl)) ev_int))))))))
  (es_cons (es_setL sc_law.nd (i := 8) rfl (by first | exact Or.inl rfl | exact Or.inr rfl) (en_lst ea_nil))
  (es_cons (es_for PassesOwn.never rfl (ei_rng1 (by rfl) T.z_range (ea_cons (ev_op op_sub os_sub (ev_fn cl_len fs_len (by rfl) T.z_len PySem.boot_len (ea_cons (ev_name (pv 7)) ea_nil)) ev_int) ea_nil)) (eg_name sc_law.nd (i := 9) rfl (by first | exact Or.inl rfl | exact Or.inr rfl))
  (es_cons (es_set sc_law.nd (i := 13) rfl (by first | exact Or.inl rfl | exact Or.inr rfl) (ev_ix ix_seq os_ix (ev_name (pv 7)) (ev_name (pv 9)) (fun _ _ => rfl)))
  (es_cons (es_if (ew_and (et_tru (ev_call (ok_law_has T) (hr.mono (by decide)) (by rfl) T.g_law_has T.F_law_has.kp T.b_law_has (ea_cons (ev_name (pv 3)) (ea_cons (ev_name (pv 13)) ea_nil)) (nlen_cons (nlen_cons nlen_nil)))) (ew_and1 (et_cmp op_le os_le (ev_name (pv 13)) ev_int (nomark _)))).pt
  (es_cons (es_set sc_law.nd (i := 14) rfl (by first | exact Or.inl rfl | exact Or.inr rfl) (ev_call (ok_law_swap T) (hr.mono (by decide)) (by rfl) T.g_law_swap T.F_law_swap.kp T.b_law_swap (ea_cons (ev_name (pv 2)) (ea_cons (ev_name (pv 13)) ea_nil)) (nlen_cons (nlen_cons nlen_nil))))
  (es_cons (es_app (pv 8) (ev_tup (ea_cons (ev_name (pv 14)) (ea_cons (ev_op op_sub os_sub (ev_op op_sub os_sub (ev_op op_addD os_add (ev_name (pv 14)) (ev_ix ix_seq os_ix (ev_name (pv 7)) (ev_op op_addD os_add (ev_name (pv 9)) ev_int) (fun _ _ => rfl))) ev_int) (ev_name (pv 13))) ea_nil))))
  es_nil))
  es_nil)
  es_nil)))
  (es_cons (es_set sc_law.nd (i := 10) rfl (by first | exact Or.inl rfl | exact Or.inr rfl) (ev_call (ok_law_union T) (hr.mono (by decide)) (by rfl) T.g_law_union T.F_law_union.kp T.b_law_union (ea_cons (ev_frz2 (pv 8)) (ea_cons ev_int ea_nil)) (nlen_cons (nlen_cons nlen_nil))))
  (es_cons (es_set sc_law.nd (i := 11) rfl (by first | exact Or.inl rfl | exact Or.inr rfl) (ev_call (ok_exchanged_set T) (hr.mono (by decide)) (by rfl) T.g_exchanged_set T.F_exchanged_set.kp T.b_exchanged_set (ea_cons (ev_name (pv 2)) (ea_cons (ev_name (pv 3)) ea_nil)) (nlen_cons (nlen_cons nlen_nil))))
  (es_cons (es_ret (ev_and (ev_call (ok_law_same T 40) (hr.mono (by decide)) (by rfl) T.g_law_same T.F_law_same.kp T.b_law_same (ea_cons (ev_name (pv 11)) (ea_cons (ev_name (pv 10)) ea_nil)) (nlen_cons (nlen_cons nlen_nil))) (ev_one (ev_call (ok_law_same T 40) (hr.mono (by decide)) (by rfl) T.g_law_same T.F_law_same.kp T.b_law_same (ea_cons (ev_call (ok_exchanged_set T) (hr.mono (by decide)) (by rfl) T.g_exchanged_set T.F_exchanged_set.kp T.b_exchanged_set (ea_cons (ev_name (pv 2)) (ea_cons (ev_name (pv 11)) ea_nil)) (nlen_cons (nlen_cons nlen_nil))) (ea_cons (ev_name (pv 3)) ea_nil)) (nlen_cons (nlen_cons nlen_nil))))))
  es_nil))))))))))))
end

theorem all_mk {l : PySem.W.OpenLaw} {w : World} {K : PySem.W.Frag} {h : Heap} {mg : Str → Option Value} {fa : Addr} (X : K.In h) (G : h.Ns mainGlobals mg) (hfa : mg "law" = some (.ref fa))
    {f_set_of : Addr} {od_set_of an_set_of : Option Addr} {sl_set_of : Array (Option Value)} {oc_set_of kV_set_of dc_set_of pm_set_of cd_set_of ct_set_of : Value}
    {f_both : Addr} {od_both an_both : Option Addr} {sl_both : Array (Option Value)} {oc_both kV_both dc_both pm_both cd_both ct_both : Value}
    {f_either : Addr} {od_either an_either : Option Addr} {sl_either : Array (Option Value)} {oc_either kV_either dc_either pm_either cd_either ct_either : Value}
    {f_outside : Addr} {od_outside an_outside : Option Addr} {sl_outside : Array (Option Value)} {oc_outside kV_outside dc_outside pm_outside cd_outside ct_outside : Value}
    {f_without : Addr} {od_without an_without : Option Addr} {sl_without : Array (Option Value)} {oc_without kV_without dc_without pm_without cd_without ct_without : Value}
    {f_size : Addr} {od_size an_size : Option Addr} {sl_size : Array (Option Value)} {oc_size kV_size dc_size pm_size cd_size ct_size : Value}
    {f_held : Addr} {od_held an_held : Option Addr} {sl_held : Array (Option Value)} {oc_held kV_held dc_held pm_held cd_held ct_held : Value}
    {f_holds : Addr} {od_holds an_holds : Option Addr} {sl_holds : Array (Option Value)} {oc_holds kV_holds dc_holds pm_holds cd_holds ct_holds : Value}
    {f_ways : Addr} {od_ways an_ways : Option Addr} {sl_ways : Array (Option Value)} {oc_ways kV_ways dc_ways pm_ways cd_ways ct_ways : Value}
    {f_exchanged : Addr} {od_exchanged an_exchanged : Option Addr} {sl_exchanged : Array (Option Value)} {oc_exchanged kV_exchanged dc_exchanged pm_exchanged cd_exchanged ct_exchanged : Value}
    {f_exchanged_set : Addr} {od_exchanged_set an_exchanged_set : Option Addr} {sl_exchanged_set : Array (Option Value)} {oc_exchanged_set kV_exchanged_set dc_exchanged_set pm_exchanged_set cd_exchanged_set ct_exchanged_set : Value}
    {f_law_same : Addr} {od_law_same an_law_same : Option Addr} {sl_law_same : Array (Option Value)} {oc_law_same kV_law_same dc_law_same pm_law_same cd_law_same ct_law_same : Value}
    {f_law_is_integer : Addr} {od_law_is_integer an_law_is_integer : Option Addr} {sl_law_is_integer : Array (Option Value)} {oc_law_is_integer kV_law_is_integer dc_law_is_integer pm_law_is_integer cd_law_is_integer ct_law_is_integer : Value}
    {f_law_pool : Addr} {od_law_pool an_law_pool : Option Addr} {sl_law_pool : Array (Option Value)} {oc_law_pool kV_law_pool dc_law_pool pm_law_pool cd_law_pool ct_law_pool : Value}
    {f_law_spread : Addr} {od_law_spread an_law_spread : Option Addr} {sl_law_spread : Array (Option Value)} {oc_law_spread kV_law_spread dc_law_spread pm_law_spread cd_law_spread ct_law_spread : Value}
    {f_law_draw : Addr} {od_law_draw an_law_draw : Option Addr} {sl_law_draw : Array (Option Value)} {oc_law_draw kV_law_draw dc_law_draw pm_law_draw cd_law_draw ct_law_draw : Value}
    {f_law_has : Addr} {od_law_has an_law_has : Option Addr} {sl_law_has : Array (Option Value)} {oc_law_has kV_law_has dc_law_has pm_law_has cd_law_has ct_law_has : Value}
    {f_law_union : Addr} {od_law_union an_law_union : Option Addr} {sl_law_union : Array (Option Value)} {oc_law_union kV_law_union dc_law_union pm_law_union cd_law_union ct_law_union : Value}
    {f_law_number : Addr} {od_law_number an_law_number : Option Addr} {sl_law_number : Array (Option Value)} {oc_law_number kV_law_number dc_law_number pm_law_number cd_law_number ct_law_number : Value}
    {f_law_pairs : Addr} {od_law_pairs an_law_pairs : Option Addr} {sl_law_pairs : Array (Option Value)} {oc_law_pairs kV_law_pairs dc_law_pairs pm_law_pairs cd_law_pairs ct_law_pairs : Value}
    {f_law_drawn_set : Addr} {od_law_drawn_set an_law_drawn_set : Option Addr} {sl_law_drawn_set : Array (Option Value)} {oc_law_drawn_set kV_law_drawn_set dc_law_drawn_set pm_law_drawn_set cd_law_drawn_set ct_law_drawn_set : Value}
    {f_law_power : Addr} {od_law_power an_law_power : Option Addr} {sl_law_power : Array (Option Value)} {oc_law_power kV_law_power dc_law_power pm_law_power cd_law_power ct_law_power : Value}
    {f_law_prefix : Addr} {od_law_prefix an_law_prefix : Option Addr} {sl_law_prefix : Array (Option Value)} {oc_law_prefix kV_law_prefix dc_law_prefix pm_law_prefix cd_law_prefix ct_law_prefix : Value}
    {f_law_is_prefix : Addr} {od_law_is_prefix an_law_is_prefix : Option Addr} {sl_law_is_prefix : Array (Option Value)} {oc_law_is_prefix kV_law_is_prefix dc_law_is_prefix pm_law_is_prefix cd_law_is_prefix ct_law_is_prefix : Value}
    {f_law_last : Addr} {od_law_last an_law_last : Option Addr} {sl_law_last : Array (Option Value)} {oc_law_last kV_law_last dc_law_last pm_law_last cd_law_last ct_law_last : Value}
    {f_law_apart : Addr} {od_law_apart an_law_apart : Option Addr} {sl_law_apart : Array (Option Value)} {oc_law_apart kV_law_apart dc_law_apart pm_law_apart cd_law_apart ct_law_apart : Value}
    {f_law_is_exchange : Addr} {od_law_is_exchange an_law_is_exchange : Option Addr} {sl_law_is_exchange : Array (Option Value)} {oc_law_is_exchange kV_law_is_exchange dc_law_is_exchange pm_law_is_exchange cd_law_is_exchange ct_law_is_exchange : Value}
    {f_law_exchange : Addr} {od_law_exchange an_law_exchange : Option Addr} {sl_law_exchange : Array (Option Value)} {oc_law_exchange kV_law_exchange dc_law_exchange pm_law_exchange cd_law_exchange ct_law_exchange : Value}
    {f_law_swap : Addr} {od_law_swap an_law_swap : Option Addr} {sl_law_swap : Array (Option Value)} {oc_law_swap kV_law_swap dc_law_swap pm_law_swap cd_law_swap ct_law_swap : Value}
    {f_law_great_exchange : Addr} {od_law_great_exchange an_law_great_exchange : Option Addr} {sl_law_great_exchange : Array (Option Value)} {oc_law_great_exchange kV_law_great_exchange dc_law_great_exchange pm_law_great_exchange cd_law_great_exchange ct_law_great_exchange : Value}
    {f_law : Addr} {od_law an_law : Option Addr} {sl_law : Array (Option Value)} {oc_law kV_law dc_law pm_law cd_law ct_law : Value}
    (a_set_of : PySem.W.nsIn K mainGlobals "set_of" = some (some (.ref f_set_of))) (l_set_of : K.lookup f_set_of = some ⟨oc_set_of, od_set_of, .func (PySem.W.fnOf "set_of" "set_of" (defArgs s_set_of) (defBody s_set_of) (defScope s_set_of) .none kV_set_of dc_set_of pm_set_of an_set_of cd_set_of ct_set_of), sl_set_of⟩) (c_set_of : PySem.W.codeIn K cd_set_of "set_of" = true) (k_set_of : PySem.W.keepIn K (.ref f_set_of) = true)
    (a_both : PySem.W.nsIn K mainGlobals "both" = some (some (.ref f_both))) (l_both : K.lookup f_both = some ⟨oc_both, od_both, .func (PySem.W.fnOf "both" "both" (defArgs s_both) (defBody s_both) (defScope s_both) .none kV_both dc_both pm_both an_both cd_both ct_both), sl_both⟩) (c_both : PySem.W.codeIn K cd_both "both" = true) (k_both : PySem.W.keepIn K (.ref f_both) = true)
    (a_either : PySem.W.nsIn K mainGlobals "either" = some (some (.ref f_either))) (l_either : K.lookup f_either = some ⟨oc_either, od_either, .func (PySem.W.fnOf "either" "either" (defArgs s_either) (defBody s_either) (defScope s_either) .none kV_either dc_either pm_either an_either cd_either ct_either), sl_either⟩) (c_either : PySem.W.codeIn K cd_either "either" = true) (k_either : PySem.W.keepIn K (.ref f_either) = true)
    (a_outside : PySem.W.nsIn K mainGlobals "outside" = some (some (.ref f_outside))) (l_outside : K.lookup f_outside = some ⟨oc_outside, od_outside, .func (PySem.W.fnOf "outside" "outside" (defArgs s_outside) (defBody s_outside) (defScope s_outside) .none kV_outside dc_outside pm_outside an_outside cd_outside ct_outside), sl_outside⟩) (c_outside : PySem.W.codeIn K cd_outside "outside" = true) (k_outside : PySem.W.keepIn K (.ref f_outside) = true)
    (a_without : PySem.W.nsIn K mainGlobals "without" = some (some (.ref f_without))) (l_without : K.lookup f_without = some ⟨oc_without, od_without, .func (PySem.W.fnOf "without" "without" (defArgs s_without) (defBody s_without) (defScope s_without) .none kV_without dc_without pm_without an_without cd_without ct_without), sl_without⟩) (c_without : PySem.W.codeIn K cd_without "without" = true) (k_without : PySem.W.keepIn K (.ref f_without) = true)
    (a_size : PySem.W.nsIn K mainGlobals "_size" = some (some (.ref f_size))) (l_size : K.lookup f_size = some ⟨oc_size, od_size, .func (PySem.W.fnOf "_size" "_size" (defArgs s_size) (defBody s_size) (defScope s_size) .none kV_size dc_size pm_size an_size cd_size ct_size), sl_size⟩) (c_size : PySem.W.codeIn K cd_size "_size" = true) (k_size : PySem.W.keepIn K (.ref f_size) = true)
    (a_held : PySem.W.nsIn K mainGlobals "held" = some (some (.ref f_held))) (l_held : K.lookup f_held = some ⟨oc_held, od_held, .func (PySem.W.fnOf "held" "held" (defArgs s_held) (defBody s_held) (defScope s_held) .none kV_held dc_held pm_held an_held cd_held ct_held), sl_held⟩) (c_held : PySem.W.codeIn K cd_held "held" = true) (k_held : PySem.W.keepIn K (.ref f_held) = true)
    (a_holds : PySem.W.nsIn K mainGlobals "_holds" = some (some (.ref f_holds))) (l_holds : K.lookup f_holds = some ⟨oc_holds, od_holds, .func (PySem.W.fnOf "_holds" "_holds" (defArgs s_holds) (defBody s_holds) (defScope s_holds) .none kV_holds dc_holds pm_holds an_holds cd_holds ct_holds), sl_holds⟩) (c_holds : PySem.W.codeIn K cd_holds "_holds" = true) (k_holds : PySem.W.keepIn K (.ref f_holds) = true)
    (a_ways : PySem.W.nsIn K mainGlobals "_ways" = some (some (.ref f_ways))) (l_ways : K.lookup f_ways = some ⟨oc_ways, od_ways, .func (PySem.W.fnOf "_ways" "_ways" (defArgs s_ways) (defBody s_ways) (defScope s_ways) .none kV_ways dc_ways pm_ways an_ways cd_ways ct_ways), sl_ways⟩) (c_ways : PySem.W.codeIn K cd_ways "_ways" = true) (k_ways : PySem.W.keepIn K (.ref f_ways) = true)
    (a_exchanged : PySem.W.nsIn K mainGlobals "exchanged" = some (some (.ref f_exchanged))) (l_exchanged : K.lookup f_exchanged = some ⟨oc_exchanged, od_exchanged, .func (PySem.W.fnOf "exchanged" "exchanged" (defArgs s_exchanged) (defBody s_exchanged) (defScope s_exchanged) .none kV_exchanged dc_exchanged pm_exchanged an_exchanged cd_exchanged ct_exchanged), sl_exchanged⟩) (c_exchanged : PySem.W.codeIn K cd_exchanged "exchanged" = true) (k_exchanged : PySem.W.keepIn K (.ref f_exchanged) = true)
    (a_exchanged_set : PySem.W.nsIn K mainGlobals "exchanged_set" = some (some (.ref f_exchanged_set))) (l_exchanged_set : K.lookup f_exchanged_set = some ⟨oc_exchanged_set, od_exchanged_set, .func (PySem.W.fnOf "exchanged_set" "exchanged_set" (defArgs s_exchanged_set) (defBody s_exchanged_set) (defScope s_exchanged_set) .none kV_exchanged_set dc_exchanged_set pm_exchanged_set an_exchanged_set cd_exchanged_set ct_exchanged_set), sl_exchanged_set⟩) (c_exchanged_set : PySem.W.codeIn K cd_exchanged_set "exchanged_set" = true) (k_exchanged_set : PySem.W.keepIn K (.ref f_exchanged_set) = true)
    (a_law_same : PySem.W.nsIn K mainGlobals "_law_same" = some (some (.ref f_law_same))) (l_law_same : K.lookup f_law_same = some ⟨oc_law_same, od_law_same, .func (PySem.W.fnOf "_law_same" "_law_same" (defArgs s_law_same) (defBody s_law_same) (defScope s_law_same) .none kV_law_same dc_law_same pm_law_same an_law_same cd_law_same ct_law_same), sl_law_same⟩) (c_law_same : PySem.W.codeIn K cd_law_same "_law_same" = true) (k_law_same : PySem.W.keepIn K (.ref f_law_same) = true)
    (a_law_is_integer : PySem.W.nsIn K mainGlobals "_law_is_integer" = some (some (.ref f_law_is_integer))) (l_law_is_integer : K.lookup f_law_is_integer = some ⟨oc_law_is_integer, od_law_is_integer, .func (PySem.W.fnOf "_law_is_integer" "_law_is_integer" (defArgs s_law_is_integer) (defBody s_law_is_integer) (defScope s_law_is_integer) .none kV_law_is_integer dc_law_is_integer pm_law_is_integer an_law_is_integer cd_law_is_integer ct_law_is_integer), sl_law_is_integer⟩) (c_law_is_integer : PySem.W.codeIn K cd_law_is_integer "_law_is_integer" = true) (k_law_is_integer : PySem.W.keepIn K (.ref f_law_is_integer) = true)
    (a_law_pool : PySem.W.nsIn K mainGlobals "_law_pool" = some (some (.ref f_law_pool))) (l_law_pool : K.lookup f_law_pool = some ⟨oc_law_pool, od_law_pool, .func (PySem.W.fnOf "_law_pool" "_law_pool" (defArgs s_law_pool) (defBody s_law_pool) (defScope s_law_pool) .none kV_law_pool dc_law_pool pm_law_pool an_law_pool cd_law_pool ct_law_pool), sl_law_pool⟩) (c_law_pool : PySem.W.codeIn K cd_law_pool "_law_pool" = true) (k_law_pool : PySem.W.keepIn K (.ref f_law_pool) = true)
    (a_law_spread : PySem.W.nsIn K mainGlobals "_law_spread" = some (some (.ref f_law_spread))) (l_law_spread : K.lookup f_law_spread = some ⟨oc_law_spread, od_law_spread, .func (PySem.W.fnOf "_law_spread" "_law_spread" (defArgs s_law_spread) (defBody s_law_spread) (defScope s_law_spread) .none kV_law_spread dc_law_spread pm_law_spread an_law_spread cd_law_spread ct_law_spread), sl_law_spread⟩) (c_law_spread : PySem.W.codeIn K cd_law_spread "_law_spread" = true) (k_law_spread : PySem.W.keepIn K (.ref f_law_spread) = true)
    (a_law_draw : PySem.W.nsIn K mainGlobals "_law_draw" = some (some (.ref f_law_draw))) (l_law_draw : K.lookup f_law_draw = some ⟨oc_law_draw, od_law_draw, .func (PySem.W.fnOf "_law_draw" "_law_draw" (defArgs s_law_draw) (defBody s_law_draw) (defScope s_law_draw) .none kV_law_draw dc_law_draw pm_law_draw an_law_draw cd_law_draw ct_law_draw), sl_law_draw⟩) (c_law_draw : PySem.W.codeIn K cd_law_draw "_law_draw" = true) (k_law_draw : PySem.W.keepIn K (.ref f_law_draw) = true)
    (a_law_has : PySem.W.nsIn K mainGlobals "_law_has" = some (some (.ref f_law_has))) (l_law_has : K.lookup f_law_has = some ⟨oc_law_has, od_law_has, .func (PySem.W.fnOf "_law_has" "_law_has" (defArgs s_law_has) (defBody s_law_has) (defScope s_law_has) .none kV_law_has dc_law_has pm_law_has an_law_has cd_law_has ct_law_has), sl_law_has⟩) (c_law_has : PySem.W.codeIn K cd_law_has "_law_has" = true) (k_law_has : PySem.W.keepIn K (.ref f_law_has) = true)
    (a_law_union : PySem.W.nsIn K mainGlobals "_law_union" = some (some (.ref f_law_union))) (l_law_union : K.lookup f_law_union = some ⟨oc_law_union, od_law_union, .func (PySem.W.fnOf "_law_union" "_law_union" (defArgs s_law_union) (defBody s_law_union) (defScope s_law_union) .none kV_law_union dc_law_union pm_law_union an_law_union cd_law_union ct_law_union), sl_law_union⟩) (c_law_union : PySem.W.codeIn K cd_law_union "_law_union" = true) (k_law_union : PySem.W.keepIn K (.ref f_law_union) = true)
    (a_law_number : PySem.W.nsIn K mainGlobals "_law_number" = some (some (.ref f_law_number))) (l_law_number : K.lookup f_law_number = some ⟨oc_law_number, od_law_number, .func (PySem.W.fnOf "_law_number" "_law_number" (defArgs s_law_number) (defBody s_law_number) (defScope s_law_number) .none kV_law_number dc_law_number pm_law_number an_law_number cd_law_number ct_law_number), sl_law_number⟩) (c_law_number : PySem.W.codeIn K cd_law_number "_law_number" = true) (k_law_number : PySem.W.keepIn K (.ref f_law_number) = true)
    (a_law_pairs : PySem.W.nsIn K mainGlobals "_law_pairs" = some (some (.ref f_law_pairs))) (l_law_pairs : K.lookup f_law_pairs = some ⟨oc_law_pairs, od_law_pairs, .func (PySem.W.fnOf "_law_pairs" "_law_pairs" (defArgs s_law_pairs) (defBody s_law_pairs) (defScope s_law_pairs) .none kV_law_pairs dc_law_pairs pm_law_pairs an_law_pairs cd_law_pairs ct_law_pairs), sl_law_pairs⟩) (c_law_pairs : PySem.W.codeIn K cd_law_pairs "_law_pairs" = true) (k_law_pairs : PySem.W.keepIn K (.ref f_law_pairs) = true)
    (a_law_drawn_set : PySem.W.nsIn K mainGlobals "_law_drawn_set" = some (some (.ref f_law_drawn_set))) (l_law_drawn_set : K.lookup f_law_drawn_set = some ⟨oc_law_drawn_set, od_law_drawn_set, .func (PySem.W.fnOf "_law_drawn_set" "_law_drawn_set" (defArgs s_law_drawn_set) (defBody s_law_drawn_set) (defScope s_law_drawn_set) .none kV_law_drawn_set dc_law_drawn_set pm_law_drawn_set an_law_drawn_set cd_law_drawn_set ct_law_drawn_set), sl_law_drawn_set⟩) (c_law_drawn_set : PySem.W.codeIn K cd_law_drawn_set "_law_drawn_set" = true) (k_law_drawn_set : PySem.W.keepIn K (.ref f_law_drawn_set) = true)
    (a_law_power : PySem.W.nsIn K mainGlobals "_law_power" = some (some (.ref f_law_power))) (l_law_power : K.lookup f_law_power = some ⟨oc_law_power, od_law_power, .func (PySem.W.fnOf "_law_power" "_law_power" (defArgs s_law_power) (defBody s_law_power) (defScope s_law_power) .none kV_law_power dc_law_power pm_law_power an_law_power cd_law_power ct_law_power), sl_law_power⟩) (c_law_power : PySem.W.codeIn K cd_law_power "_law_power" = true) (k_law_power : PySem.W.keepIn K (.ref f_law_power) = true)
    (a_law_prefix : PySem.W.nsIn K mainGlobals "_law_prefix" = some (some (.ref f_law_prefix))) (l_law_prefix : K.lookup f_law_prefix = some ⟨oc_law_prefix, od_law_prefix, .func (PySem.W.fnOf "_law_prefix" "_law_prefix" (defArgs s_law_prefix) (defBody s_law_prefix) (defScope s_law_prefix) .none kV_law_prefix dc_law_prefix pm_law_prefix an_law_prefix cd_law_prefix ct_law_prefix), sl_law_prefix⟩) (c_law_prefix : PySem.W.codeIn K cd_law_prefix "_law_prefix" = true) (k_law_prefix : PySem.W.keepIn K (.ref f_law_prefix) = true)
    (a_law_is_prefix : PySem.W.nsIn K mainGlobals "_law_is_prefix" = some (some (.ref f_law_is_prefix))) (l_law_is_prefix : K.lookup f_law_is_prefix = some ⟨oc_law_is_prefix, od_law_is_prefix, .func (PySem.W.fnOf "_law_is_prefix" "_law_is_prefix" (defArgs s_law_is_prefix) (defBody s_law_is_prefix) (defScope s_law_is_prefix) .none kV_law_is_prefix dc_law_is_prefix pm_law_is_prefix an_law_is_prefix cd_law_is_prefix ct_law_is_prefix), sl_law_is_prefix⟩) (c_law_is_prefix : PySem.W.codeIn K cd_law_is_prefix "_law_is_prefix" = true) (k_law_is_prefix : PySem.W.keepIn K (.ref f_law_is_prefix) = true)
    (a_law_last : PySem.W.nsIn K mainGlobals "_law_last" = some (some (.ref f_law_last))) (l_law_last : K.lookup f_law_last = some ⟨oc_law_last, od_law_last, .func (PySem.W.fnOf "_law_last" "_law_last" (defArgs s_law_last) (defBody s_law_last) (defScope s_law_last) .none kV_law_last dc_law_last pm_law_last an_law_last cd_law_last ct_law_last), sl_law_last⟩) (c_law_last : PySem.W.codeIn K cd_law_last "_law_last" = true) (k_law_last : PySem.W.keepIn K (.ref f_law_last) = true)
    (a_law_apart : PySem.W.nsIn K mainGlobals "_law_apart" = some (some (.ref f_law_apart))) (l_law_apart : K.lookup f_law_apart = some ⟨oc_law_apart, od_law_apart, .func (PySem.W.fnOf "_law_apart" "_law_apart" (defArgs s_law_apart) (defBody s_law_apart) (defScope s_law_apart) .none kV_law_apart dc_law_apart pm_law_apart an_law_apart cd_law_apart ct_law_apart), sl_law_apart⟩) (c_law_apart : PySem.W.codeIn K cd_law_apart "_law_apart" = true) (k_law_apart : PySem.W.keepIn K (.ref f_law_apart) = true)
    (a_law_is_exchange : PySem.W.nsIn K mainGlobals "_law_is_exchange" = some (some (.ref f_law_is_exchange))) (l_law_is_exchange : K.lookup f_law_is_exchange = some ⟨oc_law_is_exchange, od_law_is_exchange, .func (PySem.W.fnOf "_law_is_exchange" "_law_is_exchange" (defArgs s_law_is_exchange) (defBody s_law_is_exchange) (defScope s_law_is_exchange) .none kV_law_is_exchange dc_law_is_exchange pm_law_is_exchange an_law_is_exchange cd_law_is_exchange ct_law_is_exchange), sl_law_is_exchange⟩) (c_law_is_exchange : PySem.W.codeIn K cd_law_is_exchange "_law_is_exchange" = true) (k_law_is_exchange : PySem.W.keepIn K (.ref f_law_is_exchange) = true)
    (a_law_exchange : PySem.W.nsIn K mainGlobals "_law_exchange" = some (some (.ref f_law_exchange))) (l_law_exchange : K.lookup f_law_exchange = some ⟨oc_law_exchange, od_law_exchange, .func (PySem.W.fnOf "_law_exchange" "_law_exchange" (defArgs s_law_exchange) (defBody s_law_exchange) (defScope s_law_exchange) .none kV_law_exchange dc_law_exchange pm_law_exchange an_law_exchange cd_law_exchange ct_law_exchange), sl_law_exchange⟩) (c_law_exchange : PySem.W.codeIn K cd_law_exchange "_law_exchange" = true) (k_law_exchange : PySem.W.keepIn K (.ref f_law_exchange) = true)
    (a_law_swap : PySem.W.nsIn K mainGlobals "_law_swap" = some (some (.ref f_law_swap))) (l_law_swap : K.lookup f_law_swap = some ⟨oc_law_swap, od_law_swap, .func (PySem.W.fnOf "_law_swap" "_law_swap" (defArgs s_law_swap) (defBody s_law_swap) (defScope s_law_swap) .none kV_law_swap dc_law_swap pm_law_swap an_law_swap cd_law_swap ct_law_swap), sl_law_swap⟩) (c_law_swap : PySem.W.codeIn K cd_law_swap "_law_swap" = true) (k_law_swap : PySem.W.keepIn K (.ref f_law_swap) = true)
    (a_law_great_exchange : PySem.W.nsIn K mainGlobals "_law_great_exchange" = some (some (.ref f_law_great_exchange))) (l_law_great_exchange : K.lookup f_law_great_exchange = some ⟨oc_law_great_exchange, od_law_great_exchange, .func (PySem.W.fnOf "_law_great_exchange" "_law_great_exchange" (defArgs s_law_great_exchange) (defBody s_law_great_exchange) (defScope s_law_great_exchange) .none kV_law_great_exchange dc_law_great_exchange pm_law_great_exchange an_law_great_exchange cd_law_great_exchange ct_law_great_exchange), sl_law_great_exchange⟩) (c_law_great_exchange : PySem.W.codeIn K cd_law_great_exchange "_law_great_exchange" = true) (k_law_great_exchange : PySem.W.keepIn K (.ref f_law_great_exchange) = true)
    (a_law : PySem.W.nsIn K mainGlobals "law" = some (some (.ref f_law))) (l_law : K.lookup f_law = some ⟨oc_law, od_law, .func (PySem.W.fnOf "law" "law" (defArgs s_law) (defBody s_law) (defScope s_law) .none kV_law dc_law pm_law an_law cd_law ct_law), sl_law⟩) (c_law : PySem.W.codeIn K cd_law "law" = true) (k_law : PySem.W.keepIn K (.ref f_law) = true)
    (z_bool : PySem.W.nsIn K mainGlobals "bool" = some none)
    (z_int : PySem.W.nsIn K mainGlobals "int" = some none)
    (z_isinstance : PySem.W.nsIn K mainGlobals "isinstance" = some none)
    (z_len : PySem.W.nsIn K mainGlobals "len" = some none)
    (z_list : PySem.W.nsIn K mainGlobals "list" = some none)
    (z_max : PySem.W.nsIn K mainGlobals "max" = some none)
    (z_min : PySem.W.nsIn K mainGlobals "min" = some none)
    (z_range : PySem.W.nsIn K mainGlobals "range" = some none)
    (z_set : PySem.W.nsIn K mainGlobals "set" = some none)
    (z_sorted : PySem.W.nsIn K mainGlobals "sorted" = some none)
    (z_str : PySem.W.nsIn K mainGlobals "str" = some none)
    (z_tuple : PySem.W.nsIn K mainGlobals "tuple" = some none) :
    ∃ fd : FuncData, (∀ (s : Shared) (v : Value), BindsTo s fd ⟨[v], []⟩ [("script", v)]) ∧ ∀ base : Heap, K.In base → base.Ns mainGlobals mg → FnOk l.prog w K mg base CX0 42 fa fd ["script"] (spP K 1 F_law) := by
  have e := hfa.symm.trans (PySem.W.mg_of X G a_law)
  cases e
  let T : Tx K mg := { a_set_of := f_set_of, fd_set_of := _, F_set_of := fun_mk (st := s_set_of) l_set_of c_set_of k_set_of, b_set_of := (fun_mk (st := s_set_of) l_set_of c_set_of k_set_of).binds (ps := ["pairs"]) fun _ _ _ _ _ _ us hl => match us, hl with | [_], _ => rfl, g_set_of := PySem.W.mg_of X G a_set_of, a_both := f_both, fd_both := _, F_both := fun_mk (st := s_both) l_both c_both k_both, b_both := (fun_mk (st := s_both) l_both c_both k_both).binds (ps := ["a", "b"]) fun _ _ _ _ _ _ us hl => match us, hl with | [_, _], _ => rfl, g_both := PySem.W.mg_of X G a_both, a_either := f_either, fd_either := _, F_either := fun_mk (st := s_either) l_either c_either k_either, b_either := (fun_mk (st := s_either) l_either c_either k_either).binds (ps := ["a", "b"]) fun _ _ _ _ _ _ us hl => match us, hl with | [_, _], _ => rfl, g_either := PySem.W.mg_of X G a_either, a_outside := f_outside, fd_outside := _, F_outside := fun_mk (st := s_outside) l_outside c_outside k_outside, b_outside := (fun_mk (st := s_outside) l_outside c_outside k_outside).binds (ps := ["a", "top"]) fun _ _ _ _ _ _ us hl => match us, hl with | [_, _], _ => rfl, g_outside := PySem.W.mg_of X G a_outside, a_without := f_without, fd_without := _, F_without := fun_mk (st := s_without) l_without c_without k_without, b_without := (fun_mk (st := s_without) l_without c_without k_without).binds (ps := ["a", "b"]) fun _ _ _ _ _ _ us hl => match us, hl with | [_, _], _ => rfl, g_without := PySem.W.mg_of X G a_without, a_size := f_size, fd_size := _, F_size := fun_mk (st := s_size) l_size c_size k_size, b_size := (fun_mk (st := s_size) l_size c_size k_size).binds (ps := ["length"]) fun _ _ _ _ _ _ us hl => match us, hl with | [_], _ => rfl, g_size := PySem.W.mg_of X G a_size, a_held := f_held, fd_held := _, F_held := fun_mk (st := s_held) l_held c_held k_held, b_held := (fun_mk (st := s_held) l_held c_held k_held).binds (ps := ["prefix"]) fun _ _ _ _ _ _ us hl => match us, hl with | [_], _ => rfl, g_held := PySem.W.mg_of X G a_held, a_holds := f_holds, fd_holds := _, F_holds := fun_mk (st := s_holds) l_holds c_holds k_holds, b_holds := (fun_mk (st := s_holds) l_holds c_holds k_holds).binds (ps := ["prefix", "address"]) fun _ _ _ _ _ _ us hl => match us, hl with | [_, _], _ => rfl, g_holds := PySem.W.mg_of X G a_holds, a_ways := f_ways, fd_ways := _, F_ways := fun_mk (st := s_ways) l_ways c_ways k_ways, b_ways := (fun_mk (st := s_ways) l_ways c_ways k_ways).binds (ps := ["exchange"]) fun _ _ _ _ _ _ us hl => match us, hl with | [_], _ => rfl, g_ways := PySem.W.mg_of X G a_ways, a_exchanged := f_exchanged, fd_exchanged := _, F_exchanged := fun_mk (st := s_exchanged) l_exchanged c_exchanged k_exchanged, b_exchanged := (fun_mk (st := s_exchanged) l_exchanged c_exchanged k_exchanged).binds (ps := ["exchange", "address"]) fun _ _ _ _ _ _ us hl => match us, hl with | [_, _], _ => rfl, g_exchanged := PySem.W.mg_of X G a_exchanged, a_exchanged_set := f_exchanged_set, fd_exchanged_set := _, F_exchanged_set := fun_mk (st := s_exchanged_set) l_exchanged_set c_exchanged_set k_exchanged_set, b_exchanged_set := (fun_mk (st := s_exchanged_set) l_exchanged_set c_exchanged_set k_exchanged_set).binds (ps := ["exchange", "a"]) fun _ _ _ _ _ _ us hl => match us, hl with | [_, _], _ => rfl, g_exchanged_set := PySem.W.mg_of X G a_exchanged_set, a_law_same := f_law_same, fd_law_same := _, F_law_same := fun_mk (st := s_law_same) l_law_same c_law_same k_law_same, b_law_same := (fun_mk (st := s_law_same) l_law_same c_law_same k_law_same).binds (ps := ["actual", "due"]) fun _ _ _ _ _ _ us hl => match us, hl with | [_, _], _ => rfl, g_law_same := PySem.W.mg_of X G a_law_same, a_law_is_integer := f_law_is_integer, fd_law_is_integer := _, F_law_is_integer := fun_mk (st := s_law_is_integer) l_law_is_integer c_law_is_integer k_law_is_integer, b_law_is_integer := (fun_mk (st := s_law_is_integer) l_law_is_integer c_law_is_integer k_law_is_integer).binds (ps := ["actual"]) fun _ _ _ _ _ _ us hl => match us, hl with | [_], _ => rfl, g_law_is_integer := PySem.W.mg_of X G a_law_is_integer, a_law_pool := f_law_pool, fd_law_pool := _, F_law_pool := fun_mk (st := s_law_pool) l_law_pool c_law_pool k_law_pool, b_law_pool := (fun_mk (st := s_law_pool) l_law_pool c_law_pool k_law_pool).binds (ps := ["script"]) fun _ _ _ _ _ _ us hl => match us, hl with | [_], _ => rfl, g_law_pool := PySem.W.mg_of X G a_law_pool, a_law_spread := f_law_spread, fd_law_spread := _, F_law_spread := fun_mk (st := s_law_spread) l_law_spread c_law_spread k_law_spread, b_law_spread := (fun_mk (st := s_law_spread) l_law_spread c_law_spread k_law_spread).binds (ps := ["cell"]) fun _ _ _ _ _ _ us hl => match us, hl with | [_], _ => rfl, g_law_spread := PySem.W.mg_of X G a_law_spread, a_law_draw := f_law_draw, fd_law_draw := _, F_law_draw := fun_mk (st := s_law_draw) l_law_draw c_law_draw k_law_draw, b_law_draw := (fun_mk (st := s_law_draw) l_law_draw c_law_draw k_law_draw).binds (ps := ["pool", "many"]) fun _ _ _ _ _ _ us hl => match us, hl with | [_, _], _ => rfl, g_law_draw := PySem.W.mg_of X G a_law_draw, a_law_has := f_law_has, fd_law_has := _, F_law_has := fun_mk (st := s_law_has) l_law_has c_law_has k_law_has, b_law_has := (fun_mk (st := s_law_has) l_law_has c_law_has k_law_has).binds (ps := ["numbers", "number"]) fun _ _ _ _ _ _ us hl => match us, hl with | [_, _], _ => rfl, g_law_has := PySem.W.mg_of X G a_law_has, a_law_union := f_law_union, fd_law_union := _, F_law_union := fun_mk (st := s_law_union) l_law_union c_law_union k_law_union, b_law_union := (fun_mk (st := s_law_union) l_law_union c_law_union k_law_union).binds (ps := ["pairs", "top"]) fun _ _ _ _ _ _ us hl => match us, hl with | [_, _], _ => rfl, g_law_union := PySem.W.mg_of X G a_law_union, a_law_number := f_law_number, fd_law_number := _, F_law_number := fun_mk (st := s_law_number) l_law_number c_law_number k_law_number, b_law_number := (fun_mk (st := s_law_number) l_law_number c_law_number k_law_number).binds (ps := ["pool", "top"]) fun _ _ _ _ _ _ us hl => match us, hl with | [_, _], _ => rfl, g_law_number := PySem.W.mg_of X G a_law_number, a_law_pairs := f_law_pairs, fd_law_pairs := _, F_law_pairs := fun_mk (st := s_law_pairs) l_law_pairs c_law_pairs k_law_pairs, b_law_pairs := (fun_mk (st := s_law_pairs) l_law_pairs c_law_pairs k_law_pairs).binds (ps := ["pool", "top", "many"]) fun _ _ _ _ _ _ us hl => match us, hl with | [_, _, _], _ => rfl, g_law_pairs := PySem.W.mg_of X G a_law_pairs, a_law_drawn_set := f_law_drawn_set, fd_law_drawn_set := _, F_law_drawn_set := fun_mk (st := s_law_drawn_set) l_law_drawn_set c_law_drawn_set k_law_drawn_set, b_law_drawn_set := (fun_mk (st := s_law_drawn_set) l_law_drawn_set c_law_drawn_set k_law_drawn_set).binds (ps := ["pool", "top", "many"]) fun _ _ _ _ _ _ us hl => match us, hl with | [_, _, _], _ => rfl, g_law_drawn_set := PySem.W.mg_of X G a_law_drawn_set, a_law_power := f_law_power, fd_law_power := _, F_law_power := fun_mk (st := s_law_power) l_law_power c_law_power k_law_power, b_law_power := (fun_mk (st := s_law_power) l_law_power c_law_power k_law_power).binds (ps := ["many"]) fun _ _ _ _ _ _ us hl => match us, hl with | [_], _ => rfl, g_law_power := PySem.W.mg_of X G a_law_power, a_law_prefix := f_law_prefix, fd_law_prefix := _, F_law_prefix := fun_mk (st := s_law_prefix) l_law_prefix c_law_prefix k_law_prefix, b_law_prefix := (fun_mk (st := s_law_prefix) l_law_prefix c_law_prefix k_law_prefix).binds (ps := ["pool"]) fun _ _ _ _ _ _ us hl => match us, hl with | [_], _ => rfl, g_law_prefix := PySem.W.mg_of X G a_law_prefix, a_law_is_prefix := f_law_is_prefix, fd_law_is_prefix := _, F_law_is_prefix := fun_mk (st := s_law_is_prefix) l_law_is_prefix c_law_is_prefix k_law_is_prefix, b_law_is_prefix := (fun_mk (st := s_law_is_prefix) l_law_is_prefix c_law_is_prefix k_law_is_prefix).binds (ps := ["value"]) fun _ _ _ _ _ _ us hl => match us, hl with | [_], _ => rfl, g_law_is_prefix := PySem.W.mg_of X G a_law_is_prefix, a_law_last := f_law_last, fd_law_last := _, F_law_last := fun_mk (st := s_law_last) l_law_last c_law_last k_law_last, b_law_last := (fun_mk (st := s_law_last) l_law_last c_law_last k_law_last).binds (ps := ["prefix"]) fun _ _ _ _ _ _ us hl => match us, hl with | [_], _ => rfl, g_law_last := PySem.W.mg_of X G a_law_last, a_law_apart := f_law_apart, fd_law_apart := _, F_law_apart := fun_mk (st := s_law_apart) l_law_apart c_law_apart k_law_apart, b_law_apart := (fun_mk (st := s_law_apart) l_law_apart c_law_apart k_law_apart).binds (ps := ["one", "two"]) fun _ _ _ _ _ _ us hl => match us, hl with | [_, _], _ => rfl, g_law_apart := PySem.W.mg_of X G a_law_apart, a_law_is_exchange := f_law_is_exchange, fd_law_is_exchange := _, F_law_is_exchange := fun_mk (st := s_law_is_exchange) l_law_is_exchange c_law_is_exchange k_law_is_exchange, b_law_is_exchange := (fun_mk (st := s_law_is_exchange) l_law_is_exchange c_law_is_exchange k_law_is_exchange).binds (ps := ["value"]) fun _ _ _ _ _ _ us hl => match us, hl with | [_], _ => rfl, g_law_is_exchange := PySem.W.mg_of X G a_law_is_exchange, a_law_exchange := f_law_exchange, fd_law_exchange := _, F_law_exchange := fun_mk (st := s_law_exchange) l_law_exchange c_law_exchange k_law_exchange, b_law_exchange := (fun_mk (st := s_law_exchange) l_law_exchange c_law_exchange k_law_exchange).binds (ps := ["pool", "most"]) fun _ _ _ _ _ _ us hl => match us, hl with | [_, _], _ => rfl, g_law_exchange := PySem.W.mg_of X G a_law_exchange, a_law_swap := f_law_swap, fd_law_swap := _, F_law_swap := fun_mk (st := s_law_swap) l_law_swap c_law_swap k_law_swap, b_law_swap := (fun_mk (st := s_law_swap) l_law_swap c_law_swap k_law_swap).binds (ps := ["exchange", "address"]) fun _ _ _ _ _ _ us hl => match us, hl with | [_, _], _ => rfl, g_law_swap := PySem.W.mg_of X G a_law_swap, a_law_great_exchange := f_law_great_exchange, fd_law_great_exchange := _, F_law_great_exchange := fun_mk (st := s_law_great_exchange) l_law_great_exchange c_law_great_exchange k_law_great_exchange, b_law_great_exchange := (fun_mk (st := s_law_great_exchange) l_law_great_exchange c_law_great_exchange k_law_great_exchange).binds (ps := ["pool", "most"]) fun _ _ _ _ _ _ us hl => match us, hl with | [_, _], _ => rfl, g_law_great_exchange := PySem.W.mg_of X G a_law_great_exchange, a_law := fa, fd_law := _, F_law := fun_mk (st := s_law) l_law c_law k_law, b_law := (fun_mk (st := s_law) l_law c_law k_law).binds (ps := ["script"]) fun _ _ _ _ _ _ us hl => match us, hl with | [_], _ => rfl, g_law := PySem.W.mg_of X G a_law, z_bool := PySem.W.mg_none_of X G z_bool, z_int := PySem.W.mg_none_of X G z_int, z_isinstance := PySem.W.mg_none_of X G z_isinstance, z_len := PySem.W.mg_none_of X G z_len, z_list := PySem.W.mg_none_of X G z_list, z_max := PySem.W.mg_none_of X G z_max, z_min := PySem.W.mg_none_of X G z_min, z_range := PySem.W.mg_none_of X G z_range, z_set := PySem.W.mg_none_of X G z_set, z_sorted := PySem.W.mg_none_of X G z_sorted, z_str := PySem.W.mg_none_of X G z_str, z_tuple := PySem.W.mg_none_of X G z_tuple }
  exact ⟨PySem.W.fnOf "law" "law" (defArgs s_law) (defBody s_law) (defScope s_law) .none kV_law dc_law pm_law an_law cd_law ct_law, fun s v => .of_eq rfl, fun base _ _ => ok_law T⟩
end Pr_gatewarden_k08_whole_exchanges_undo_them
end
section
set_option linter.all false
set_option maxRecDepth 100000
set_option Elab.async false
namespace Pr_gatewarden_k08_whole_exchanges_undo_them
open PySem PG Pr_C Pr_D Pr_X
/-! ### apart, in pairs and one behind the other -/
def lst (x : Int × Int) : Int := x.1 + sz x.2 - 1
def apart (x y : Int × Int) : Bool := decide (lst x < y.1) || decide (lst y < x.1)
theorem apart_comm (x y : Int × Int) : apart x y = apart y x := Bool.or_comm _ _
def PW : List (Int × Int) → Bool
  | [] => true
  | x :: r => r.all (apart x) && PW r
theorem mem_ins {k y : Int × Int} : ∀ {l : List (Int × Int)}, y ∈ insP k l ↔ y = k ∨ y ∈ l := fun {l} => by
  rw [(perm_insP k l).mem_iff, List.mem_cons]
theorem all_ins (p : Int × Int → Bool) (k : Int × Int) (l : List (Int × Int)) : (insP k l).all p = (p k && l.all p) := by
  rw [Bool.eq_iff_iff, Bool.and_eq_true, List.all_eq_true, List.all_eq_true]
  constructor
  · intro h
    exact ⟨h k (mem_ins.mpr (.inl rfl)), fun y hy => h y (mem_ins.mpr (.inr hy))⟩
  · rintro ⟨h1, h2⟩ y hy
    rcases mem_ins.mp hy with rfl | hy
    · exact h1
    · exact h2 y hy
theorem pw_ins (k : Int × Int) : ∀ l, PW (insP k l) = PW (k :: l)
  | [] => rfl
  | j :: r => by
    unfold insP
    split
    · have ih := pw_ins k r
      simp only [PW] at ih
      simp only [PW, all_ins, ih, List.all_cons, apart_comm k j]
      cases apart j k <;> cases r.all (apart j) <;> cases r.all (apart k) <;> cases PW r <;> rfl
    · rfl
theorem pw_sort : ∀ l, PW (sortP l) = PW l
  | [] => rfl
  | k :: r => by
    unfold sortP
    rw [pw_ins]
    simp only [PW, pw_sort r]
    congr 1
    rw [Bool.eq_iff_iff, List.all_eq_true, List.all_eq_true]
    exact ⟨fun h y hy => h y ((perm_sortP r).mem_iff.mpr hy), fun h y hy => h y ((perm_sortP r).mem_iff.mp hy)⟩
def Asc : List (Int × Int) → Prop
  | [] => True
  | x :: r => (∀ y ∈ r, x.1 ≤ y.1) ∧ Asc r
theorem lexB_true {j k : Int × Int} (h : SrtO.lexB j k = true) : j.1 ≤ k.1 := by
  rw [SrtO.lexB_iff] at h
  omega
theorem lexB_false {j k : Int × Int} (h : ¬ SrtO.lexB j k = true) : k.1 ≤ j.1 := by
  rw [SrtO.lexB_iff] at h
  omega
theorem asc_ins (k : Int × Int) : ∀ l, Asc l → Asc (insP k l)
  | [], _ => ⟨fun y hy => (nomatch hy), trivial⟩
  | j :: r, h => by
    unfold insP
    split
    · rename_i hb
      refine ⟨fun y hy => ?_, asc_ins k r h.2⟩
      rcases mem_ins.mp hy with rfl | hy
      · exact lexB_true hb
      · exact h.1 y hy
    · rename_i hb
      refine ⟨fun y hy => ?_, h⟩
      have := lexB_false hb
      rcases List.mem_cons.mp hy with rfl | hy
      · exact this
      · exact Int.le_trans this (h.1 y hy)
theorem asc_sort : ∀ l, Asc (sortP l)
  | [] => trivial
  | k :: r => asc_ins k _ (asc_sort r)
def ovl : Int → List (Int × Int) → Bool
  | _, [] => false
  | e, x :: r => if x.1 < e then true else ovl (x.1 + sz x.2) r
theorem ovl_iff : ∀ (l : List (Int × Int)) (e : Int), Asc l → (∀ x ∈ l, okX x) → (ovl e l = false ↔ (∀ y ∈ l, e ≤ y.1) ∧ PW l = true)
  | [], e, _, _ => by simp [ovl, PW]
  | x :: r, e, ha, ho => by
    have ih := ovl_iff r (x.1 + sz x.2) ha.2 fun y hy => ho y (by simp [hy])
    obtain ⟨_, _, o3, o4⟩ := ho x (by simp)
    have hs := sz_bd o3 o4
    have key : (∀ y ∈ r, x.1 + sz x.2 ≤ y.1) ↔ r.all (apart x) = true := by
      rw [List.all_eq_true]
      refine ⟨fun h y hy => ?_, fun h y hy => ?_⟩
      · have := h y hy
        unfold apart lst
        simp only [Bool.or_eq_true, decide_eq_true_eq]
        omega
      · have h1 := h y hy
        have h2 := ha.1 y hy
        obtain ⟨_, _, p3, p4⟩ := ho y (by simp [hy])
        have := sz_bd p3 p4
        unfold apart lst at h1
        simp only [Bool.or_eq_true, decide_eq_true_eq] at h1
        omega
    unfold ovl PW
    by_cases h : x.1 < e
    · simp only [h, if_true, Bool.true_eq_false, false_iff, not_and]
      intro h2
      have := h2 x (by simp)
      omega
    · rw [if_neg h, ih, Bool.and_eq_true, ← key]
      constructor
      · rintro ⟨h1, h2⟩
        refine ⟨fun y hy => ?_, h1, h2⟩
        rcases List.mem_cons.mp hy with rfl | hy
        · omega
        · have := ha.1 y hy; omega
      · rintro ⟨_, h1, h2⟩
        exact ⟨h1, h2⟩
theorem ovl_sort (l : List (Int × Int)) (ho : ∀ x ∈ l, okX x) : ovl 0 (sortP l) = !PW l := by
  have hm : ∀ x ∈ sortP l, okX x := fun x hx => ho x ((perm_sortP l).mem_iff.mp hx)
  have := ovl_iff (sortP l) 0 (asc_sort l) hm
  rw [pw_sort] at this
  cases hp : PW l with
  | true => exact this.mpr ⟨fun y hy => (hm y hy).1, hp⟩
  | false =>
    cases ho : ovl 0 (sortP l) with
    | true => rfl
    | false => rw [(this.mp ho).2] at hp; cases hp
/-! ### what is told of an exchange -/
def asX : PyData → Option ((Int × Int) × (Int × Int))
  | .tuple [.tuple [.int a, .int b], .tuple [.int c, .int e]] => if isP (.tuple [.int a, .int b]) && isP (.tuple [.int c, .int e]) && decide (b = e) then some ((a, b), (c, e)) else none
  | _ => none
def stepP (kn : List (Int × Int)) (d : PyData) : Option (List (Int × Int)) := match asX d with
  | some (x, y) => some (kn ++ [x, y])
  | none => none
def stepL (kn : List (Int × Int)) (d : PyData) : Option (List (Int × Int)) := match asX d with
  | some (x, y) => if kn.all (fun z => apart x z) && (kn ++ [x]).all (fun z => apart y z) then some (kn ++ [x, y]) else none
  | none => none
def runO {α : Type} (step : α → PyData → Option α) : α → List PyData → Option α
  | a, [] => some a
  | a, d :: ds => match step a d with
    | some a' => runO step a' ds
    | none => none
theorem pw_app (l m : List (Int × Int)) : PW (l ++ m) = (PW l && PW m && l.all fun x => m.all (apart x)) := by
  induction l with
  | nil => simp [PW]
  | cons x l ih =>
    simp only [List.cons_append, PW, List.all_append, ih, List.all_cons]
    cases l.all (apart x) <;> cases m.all (apart x) <;> cases PW l <;> cases PW m <;> simp
theorem pw_two (kn : List (Int × Int)) (x y : Int × Int) : PW (kn ++ [x, y]) = (PW kn && (kn.all (fun z => apart x z) && (kn ++ [x]).all (fun z => apart y z))) := by
  have e1 : kn.all (fun x_1 => [x, y].all (apart x_1)) = (kn.all (fun z => apart x z) && kn.all (fun z => apart y z)) := by
    induction kn with
    | nil => rfl
    | cons k kn ih =>
      simp only [List.all_cons, List.all_nil, Bool.and_true] at ih ⊢
      rw [ih, apart_comm k x, apart_comm k y]
      cases apart x k <;> cases apart y k <;> simp
  rw [pw_app, e1]
  have e2 : PW [x, y] = apart y x := by simp [PW, apart_comm x y]
  rw [e2, List.all_append]
  simp only [List.all_cons, List.all_nil, Bool.and_true]
  cases PW kn <;> cases apart y x <;> cases kn.all (fun z => apart x z) <;> cases kn.all (fun z => apart y z) <;> rfl
theorem run_ext : ∀ (ds : List PyData) (kn kn' : List (Int × Int)), runO stepP kn ds = some kn' → ∃ t, kn' = kn ++ t
  | [], kn, kn', h => by cases h; exact ⟨[], by simp⟩
  | d :: ds, kn, kn', h => by
    unfold runO at h
    split at h
    · rename_i k2 e
      obtain ⟨t, rfl⟩ := run_ext ds k2 kn' h
      unfold stepP at e
      split at e
      · cases e; exact ⟨_, List.append_assoc _ _ _⟩
      · cases e
    · cases h
theorem run_eq : ∀ (ds : List PyData) (kn : List (Int × Int)), PW kn = true → (runO stepL kn ds).isSome = (match runO stepP kn ds with
    | some k => PW k
    | none => false)
  | [], kn, h => by simp [runO, h]
  | d :: ds, kn, h => by
    cases e : asX d with
    | none =>
      have eL : stepL kn d = none := by unfold stepL; rw [e]
      have eP : stepP kn d = none := by unfold stepP; rw [e]
      simp only [runO, eL, eP]
      rfl
    | some xy =>
      obtain ⟨x, y⟩ := xy
      have eP : stepP kn d = some (kn ++ [x, y]) := by unfold stepP; rw [e]
      cases hc : (kn.all (fun z => apart x z) && (kn ++ [x]).all (fun z => apart y z)) with
      | true =>
        have eL : stepL kn d = some (kn ++ [x, y]) := by
          unfold stepL
          rw [e]
          exact if_pos hc
        simp only [runO, eL, eP]
        exact run_eq ds _ (by rw [pw_two, h, hc]; rfl)
      | false =>
        have eL : stepL kn d = none := by
          unfold stepL
          rw [e]
          exact if_neg (by rw [hc]; simp)
        have hw : PW (kn ++ [x, y]) = false := by rw [pw_two, hc]; simp
        simp only [runO, eL, eP]
        cases er : runO stepP (kn ++ [x, y]) ds with
        | none => rfl
        | some k =>
          obtain ⟨t, rfl⟩ := run_ext ds _ _ er
          show false = PW (kn ++ [x, y] ++ t)
          rw [pw_app, hw]
          rfl
def isX : PyData → Bool
  | .tuple ds => (runO stepL [] ds).isSome
  | _ => false
theorem isX_no {d : PyData} (hn : ∀ xs, d ≠ .tuple xs) : isX d = false := by
  unfold isX
  split
  · exact absurd rfl (hn _)
  · rfl
theorem asX_some {d : PyData} {x y : Int × Int} (h : asX d = some (x, y)) : d = .tuple [pr x, pr y] ∧ isP (pr x) = true ∧ isP (pr y) = true ∧ x.2 = y.2 := by
  unfold asX at h
  split at h
  · split at h
    · rename_i hc
      cases h
      simp only [Bool.and_eq_true, decide_eq_true_eq] at hc
      exact ⟨rfl, hc.1.1, hc.1.2, hc.2⟩
    · cases h
  · cases h
theorem isP_ok {x : Int × Int} (h : isP (pr x) = true) : okX x := by
  unfold pr at h
  rw [isP_ii] at h
  simp only [Bool.and_eq_true, decide_eq_true_eq] at h
  exact ⟨h.1.1, h.1.2, h.2.1.1, h.2.1.2⟩
theorem isP_some {d : PyData} (h : isP d = true) : ∃ x, d = pr x := by
  unfold isP at h
  split at h
  · rename_i a b
    exact ⟨(a, b), rfl⟩
  · cases h
theorem asX_len {xs : List PyData} (h : xs.length ≠ 2) : asX (.tuple xs) = none := by
  unfold asX
  split
  · rename_i e
    cases e
    exact absurd rfl h
  · rfl
theorem asX_no {d : PyData} (hn : ∀ xs, d ≠ .tuple xs) : asX d = none := by
  unfold asX
  split
  · exact absurd rfl (hn _)
  · rfl
theorem asX_p {p q : PyData} (h : (isP p && isP q) = false) : asX (.tuple [p, q]) = none := by
  unfold asX
  split
  · rename_i e
    cases e
    rw [h]
    rfl
  · rfl
theorem asX_xy {x y : Int × Int} (h1 : isP (pr x) = true) (h2 : isP (pr y) = true) : asX (.tuple [pr x, pr y]) = if x.2 = y.2 then some (x, y) else none := by
  show (if isP (pr x) && isP (pr y) && decide (x.2 = y.2) then some (x, y) else none) = _
  rw [h1, h2]
  by_cases h : x.2 = y.2 <;> simp [h]
theorem ws_forF {α : Type} {g : GF} {b c : SF} {ρ : Rho} {S : Out → Rho → Prop} (step : α → PyData → Option α) (r : PyData) (I : List PyData → α → Rho → Prop)
    (hs : ∀ a d ds ρ, I (d :: ds) a ρ → WG g d ρ fun ρ1 => WS b ρ1 fun o ρ2 => match step a d with
      | some a' => o = .next ∧ I ds a' ρ2
      | none => o = .ret r)
    (ds : List PyData) (a : α) (h : I ds a ρ) (q1 : ∀ a', runO step a ds = some a' → ∀ ρ1, I [] a' ρ1 → WS c ρ1 S) (q2 : runO step a ds = none → ∀ ρ1, S (.ret r) ρ1) : WS (sSeq (forL g b ds) c) ρ S := by
  have key : ∀ (ds : List PyData) (a : α) (ρ : Rho), I ds a ρ → match runO step a ds with
      | some a' => ∃ ρ', forL g b ds ρ = some (.next, ρ') ∧ I [] a' ρ'
      | none => ∃ ρ', forL g b ds ρ = some (.ret r, ρ') := by
    intro ds
    induction ds with
    | nil => intro a ρ h; exact ⟨ρ, rfl, h⟩
    | cons d ds ih =>
      intro a ρ h
      obtain ⟨ρ1, e1, o, ρ2, e2, m⟩ := hs a d ds ρ h
      unfold runO
      cases e : step a d with
      | none =>
        rw [e] at m
        subst m
        exact ⟨ρ2, by simp [forL, e1, e2]⟩
      | some a' =>
        rw [e] at m
        obtain ⟨rfl, h2⟩ := m
        have ih := ih a' ρ2 h2
        dsimp only
        cases er : runO step a' ds with
        | none =>
          rw [er] at ih
          obtain ⟨ρ', e3⟩ := ih
          exact ⟨ρ', by simp [forL, e1, e2, e3]⟩
        | some a2 =>
          rw [er] at ih
          obtain ⟨ρ', e3, h3⟩ := ih
          exact ⟨ρ', by simp [forL, e1, e2, e3], h3⟩
  have k := key ds a ρ h
  cases er : runO step a ds with
  | none =>
    rw [er] at k
    obtain ⟨ρ1, e⟩ := k
    exact ⟨_, ρ1, by simp [e], q2 er ρ1⟩
  | some a' =>
    rw [er] at k
    obtain ⟨ρ1, e, h1⟩ := k
    obtain ⟨o, ρ2, e2, s⟩ := q1 a' er ρ1 h1
    exact ⟨o, ρ2, by simp [e, e2], s⟩
theorem ws_ext {i : Nat} {f : EF} {c : SF} {ρ : Rho} {S : Out → Rho → Prop} {p0 : Bool} {ps0 : List PyData} (hget : ρ[i]? = some (some (.l p0 ps0)))
    (w : WE f ρ fun d ρ1 => ∃ ds es, d = .tuple ds ∧ es.length + ds.length ≤ 16777216 ∧ ∃ ρ2, PutR i es ρ1 (es ++ ds) ρ2 ∧ WS c ρ2 S) : WS (sSeq (sExt i f) c) ρ S := by
  obtain ⟨d, ρ1, e, ds, es, rfl, hl, ρ2, hp, o, ρ3, e3, s⟩ := w
  obtain ⟨p, hg, hr⟩ := PutR.get hp
  exact ⟨o, ρ3, by simp [hget, e, hg, hl, hr, e3], s⟩
theorem we_addO {i : Nat} {g : EF} {ρ : Rho} {Q : PyData → Rho → Prop} {p0 : Bool} {ps0 : List PyData} (hget : ρ[i]? = some (some (.l p0 ps0)))
    (w : WE g ρ fun y ρ1 => ∃ ds, y = .list ds ∧ ∃ p l, ρ1[i]? = some (some (.l p l)) ∧ l.length + ds.length ≤ 16777216 ∧ Q (.list (l ++ ds)) ρ1) : WE (eAddO i g) ρ Q := by
  obtain ⟨y, ρ1, e, ds, rfl, p, l, hg, hl, q⟩ := w
  exact ⟨_, ρ1, by simp [hget, e, hg, hl], q⟩
theorem we_frz2v {i : Nat} {d : PyData} {ρ : Rho} {Q : PyData → Rho → Prop} (hget : ρ[i]? = some (some (.v d))) (q : Q d ρ) : WE (eFrz2 i) ρ Q := ⟨d, ρ, by simp [hget], q⟩
theorem we_frz2l {i : Nat} {ds : List PyData} {ρ ρ' : Rho} {Q : PyData → Rho → Prop} (hget : ρ[i]? = some (some (.l false ds))) (hset : SetR i (.list ds) ρ ρ') (q : Q (.list ds) ρ') : WE (eFrz2 i) ρ Q := by
  refine ⟨.list ds, ρ.set i (some (.v (.list ds))), by simp [hget], ?_⟩
  have h := hset.eq
  unfold setV at h
  rw [hget] at h
  simp at h
  rw [h]
  exact q
theorem pairsOf_prs : ∀ l : List (Int × Int), pairsOf (prs l) = some l
  | [] => rfl
  | p :: l => by
    have e : prs (p :: l) = pr p :: prs l := rfl
    rw [e]
    unfold pairsOf
    rw [pairsOf_prs l]
    rfl
theorem dSortP_prs (l : List (Int × Int)) : dSortP (.list (prs l)) = some (prs (sortP l)) := by
  simp only [dSortP, pairsOf_prs l]
  rfl
theorem prs_app (l m : List (Int × Int)) : prs (l ++ m) = prs l ++ prs m := List.map_append
theorem prs_len (qs : List (Int × Int)) : (prs qs).length = qs.length := List.length_map _
local macro_rules | `(tactic| array_get_dec) => `(tactic| first | ((with_reducible apply PG.ws_set)) | ((with_reducible apply PG.ws_if)) | ((with_reducible apply PG.ws_ret)) | ((with_reducible apply PG.ws_setL)) | ((with_reducible apply PG.ws_expr)) | ((with_reducible apply PG.ws_nilc)) | ((with_reducible apply PG.ws_asc)) | ((with_reducible apply PG.ws_nil)) | ((with_reducible apply PG.ws_for)) | ((with_reducible apply PG.ws_asg)) | ((with_reducible apply PG.ws_par)) | ((with_reducible apply PG.ws_retL)) | ((with_reducible apply PG.ws_brk)) | ((with_reducible apply PG.ws_cont)) | ((with_reducible apply PG.ws_forn)) | ((with_reducible apply PG.ws_sto)) | ((with_reducible apply PG.ws_aug); (case hget => rfl)) | ((with_reducible apply PG.ws_app); (case hget => rfl)) | ((with_reducible apply PG.ws_retO); (case hget => rfl)) | ((with_reducible apply PG.we_name); (case hget => rfl)) | ((with_reducible apply PG.we_c)) | ((with_reducible apply PG.we_bin)) | ((with_reducible apply PG.we_un)) | ((with_reducible apply PG.we_call)) | ((with_reducible apply PG.we_callL); (case hget => rfl)) | ((with_reducible apply PG.we_tup)) | ((with_reducible apply PG.we_lst)) | ((with_reducible apply PG.we_if)) | ((with_reducible apply PG.we_ixL); (case hget => rfl)) | ((with_reducible apply PG.we_unL); (case hget => rfl)) | ((with_reducible apply PG.we_and)) | ((with_reducible apply PG.we_or)) | ((with_reducible apply PG.we_not)) | ((with_reducible apply PG.we_chain)) | ((with_reducible apply PG.we_slT)) | ((with_reducible apply PG.wn_cons)) | ((with_reducible apply PG.wn_nil)) | ((with_reducible apply PG.wn_star)) | ((with_reducible apply PG.wn_disp)) | ((with_reducible apply PG.wn_call)) | ((with_reducible apply PG.wn_sl)) | ((with_reducible apply PG.wn_its)) | ((with_reducible apply PG.wn_r1)) | ((with_reducible apply PG.wn_r2)) | ((with_reducible apply PG.wn_r3)) | ((with_reducible apply PG.wt_tru)) | ((with_reducible apply PG.wt_bl)) | ((with_reducible apply PG.wt_and)) | ((with_reducible apply PG.wt_or)) | ((with_reducible apply PG.wt_not)) | ((with_reducible apply PG.wt_yes)) | ((with_reducible apply PG.wt_truL); (case hget => rfl)) | ((with_reducible apply PG.wo_none)) | ((with_reducible apply PG.wo_some)) | ((with_reducible apply PG.wg_p0)) | ((with_reducible apply PG.wg_tup)) | ((with_reducible apply PG.wg_ps); (case hset => (repeat' (first | exact PG.SetR.h0 | exact PG.SetR.h1 | exact PG.SetR.hl | exact PG.SetR.hc (by assumption) | apply PG.SetR.s)))) | ((with_reducible apply PG.wg_set); (case hset => (repeat' (first | exact PG.SetR.h0 | exact PG.SetR.h1 | exact PG.SetR.hl | exact PG.SetR.hc (by assumption) | apply PG.SetR.s)))) | ((with_reducible apply PG.we_frz); (case hget => rfl); (case hset => (repeat' (first | exact PG.SetR.h0 | exact PG.SetR.h1 | exact PG.SetR.hl | exact PG.SetR.hc (by assumption) | apply PG.SetR.s)))) | ((with_reducible apply PG.setr_i); (case hset => (repeat' (first | exact PG.SetR.h0 | exact PG.SetR.h1 | exact PG.SetR.hl | exact PG.SetR.hc (by assumption) | apply PG.SetR.s)))) | ((with_reducible apply PG.setl_i); (case hset => (repeat' (first | exact PG.SetLR.h0 | exact PG.SetLR.h1 | exact PG.SetLR.hl | apply PG.SetLR.s)))) | ((with_reducible apply PG.put_i); (case hset => (repeat' (first | exact PG.PutR.h | apply PG.PutR.s)))) | ((with_reducible apply PG.pool_i); (case hget => rfl)) | ((with_reducible apply PG.bool_i)) | ((with_reducible apply PG.int_i)) | ((with_reducible apply PG.seqL_i)) | ((with_reducible apply PG.seqT_i)) | ((with_reducible apply PG.seqR_i)) | ((with_reducible apply PG.starT_i)) | ((with_reducible apply PG.starL_i)) | ((with_reducible apply PG.len_i); (case h => rfl)) | ((with_reducible apply PG.tup_i)) | ((with_reducible apply PG.yes_i)) | ((with_reducible apply PG.no_i)) | ((with_reducible apply PG.nyes_i)) | ((with_reducible apply PG.nno_i)) | ((with_reducible apply PG.wa_add)) | ((with_reducible apply PG.wa_sub)) | ((with_reducible apply PG.wa_lt)) | ((with_reducible apply PG.wa_le)) | ((with_reducible apply PG.wa_gt)) | ((with_reducible apply PG.wa_ge)) | ((with_reducible apply PG.wa_eqI)) | ((with_reducible apply PG.wa_neI)) | ((with_reducible apply PG.wa_neg)) | ((with_reducible apply PG.wa_lenL)) | ((with_reducible apply PG.wa_lenT)) | ((with_reducible apply PG.wa_int)) | ((with_reducible apply PG.wa_max)) | ((with_reducible apply PG.wa_min)) | ((with_reducible apply PG.wb_bool)) | ((with_reducible apply PG.wb_int)) | ((with_reducible apply PG.endP_ret)) | ((with_reducible apply PG.endP_retL)) | ((with_reducible apply PG.endN_ret)) | ((with_reducible apply PG.endL_ret)) | ((with_reducible apply PG.endL_retL)) | ((with_reducible apply PG.wa_binO)) | ((with_reducible apply PG.ch_le)) | ((with_reducible apply PG.ch_lt)) | ((with_reducible apply PG.ch_eq)) | ((with_reducible apply PG.wa_ix0); (case hget => rfl)) | ((with_reducible apply PG.wa_ix1); (case hget => rfl)) | ((with_reducible apply PG.wa_ix2); (case hget => rfl)) | ((with_reducible apply PG.wa_ix3); (case hget => rfl)) | ((with_reducible apply PG.wa_ix4); (case hget => rfl)) | ((with_reducible apply PG.wa_ix5); (case hget => rfl)) | ((with_reducible apply PG.wa_ix6); (case hget => rfl)) | ((with_reducible apply PG.wa_ix7); (case hget => rfl)) | ((with_reducible apply PG.wa_ix8); (case hget => rfl)) | ((with_reducible apply PG.wa_il0); (case hget => rfl)) | ((with_reducible apply PG.wa_il1); (case hget => rfl)) | ((with_reducible apply PG.wa_il2); (case hget => rfl)) | ((with_reducible apply PG.wa_ev1)) | ((with_reducible apply PG.wa_ev)) | ((with_reducible apply PG.wl_ev)) | ((with_reducible apply PG.wb_ev)) | ((with_reducible apply PG.wa_mod); (case h1 => omega)) | ((with_reducible apply PG.wa_div); (case h1 => omega); (case h2 => omega)) | ((with_reducible apply PG.wa_mulR); (case h1 => omega); (case h2 => omega)) | ((with_reducible apply PG.wa_mulL); (case h1 => omega); (case h2 => omega)) | ((with_reducible apply PG.wa_shr); (case h1 => omega)))
local macro_rules | `(tactic| array_get_dec) => `(tactic| first | ((with_reducible apply Pr_C.wp_draw); (case hp => assumption); (case h0 => omega); (case h1 => omega)) | ((with_reducible apply Pr_C.ls_i); (case hp => assumption)))

local macro_rules | `(tactic| array_get_dec) => `(tactic| first | ((with_reducible apply Pr_X.wa_size); (case h0 => omega); (case h1 => omega)) | ((with_reducible apply we_frz2v); (case hget => rfl)) | ((with_reducible apply we_frz2l); (case hget => rfl); (case hset => (repeat' (first | exact PG.SetR.h0 | exact PG.SetR.h1 | exact PG.SetR.hl | exact PG.SetR.hc (by assumption) | apply PG.SetR.s)))) | ((with_reducible apply ws_ext); (case hget => rfl)) | ((with_reducible apply we_addO); (case hget => rfl)))

/-! the program's -/
local macro_rules | `(tactic| array_get_dec) => `(tactic| first | ((with_reducible apply PG.ws_set)) | ((with_reducible apply PG.ws_if)) | ((with_reducible apply PG.ws_ret)) | ((with_reducible apply PG.ws_setL)) | ((with_reducible apply PG.ws_expr)) | ((with_reducible apply PG.ws_nilc)) | ((with_reducible apply PG.ws_asc)) | ((with_reducible apply PG.ws_nil)) | ((with_reducible apply PG.ws_for)) | ((with_reducible apply PG.ws_asg)) | ((with_reducible apply PG.ws_par)) | ((with_reducible apply PG.ws_retL)) | ((with_reducible apply PG.ws_brk)) | ((with_reducible apply PG.ws_cont)) | ((with_reducible apply PG.ws_forn)) | ((with_reducible apply PG.ws_sto)) | ((with_reducible apply PG.ws_aug); (case hget => rfl)) | ((with_reducible apply PG.ws_app); (case hget => rfl)) | ((with_reducible apply PG.ws_retO); (case hget => rfl)) | ((with_reducible apply PG.we_name); (case hget => rfl)) | ((with_reducible apply PG.we_c)) | ((with_reducible apply PG.we_bin)) | ((with_reducible apply PG.we_un)) | ((with_reducible apply PG.we_call)) | ((with_reducible apply PG.we_callL); (case hget => rfl)) | ((with_reducible apply PG.we_tup)) | ((with_reducible apply PG.we_lst)) | ((with_reducible apply PG.we_if)) | ((with_reducible apply PG.we_ixL); (case hget => rfl)) | ((with_reducible apply PG.we_unL); (case hget => rfl)) | ((with_reducible apply PG.we_and)) | ((with_reducible apply PG.we_or)) | ((with_reducible apply PG.we_not)) | ((with_reducible apply PG.we_chain)) | ((with_reducible apply PG.we_slT)) | ((with_reducible apply PG.wn_cons)) | ((with_reducible apply PG.wn_nil)) | ((with_reducible apply PG.wn_star)) | ((with_reducible apply PG.wn_disp)) | ((with_reducible apply PG.wn_call)) | ((with_reducible apply PG.wn_sl)) | ((with_reducible apply PG.wn_its)) | ((with_reducible apply PG.wn_r1)) | ((with_reducible apply PG.wn_r2)) | ((with_reducible apply PG.wn_r3)) | ((with_reducible apply PG.wt_tru)) | ((with_reducible apply PG.wt_bl)) | ((with_reducible apply PG.wt_and)) | ((with_reducible apply PG.wt_or)) | ((with_reducible apply PG.wt_not)) | ((with_reducible apply PG.wt_yes)) | ((with_reducible apply PG.wt_truL); (case hget => rfl)) | ((with_reducible apply PG.wo_none)) | ((with_reducible apply PG.wo_some)) | ((with_reducible apply PG.wg_p0)) | ((with_reducible apply PG.wg_tup)) | ((with_reducible apply PG.wg_ps); (case hset => (repeat' (first | exact PG.SetR.h0 | exact PG.SetR.h1 | exact PG.SetR.hl | exact PG.SetR.hc (by assumption) | apply PG.SetR.s)))) | ((with_reducible apply PG.wg_set); (case hset => (repeat' (first | exact PG.SetR.h0 | exact PG.SetR.h1 | exact PG.SetR.hl | exact PG.SetR.hc (by assumption) | apply PG.SetR.s)))) | ((with_reducible apply PG.we_frz); (case hget => rfl); (case hset => (repeat' (first | exact PG.SetR.h0 | exact PG.SetR.h1 | exact PG.SetR.hl | exact PG.SetR.hc (by assumption) | apply PG.SetR.s)))) | ((with_reducible apply PG.setr_i); (case hset => (repeat' (first | exact PG.SetR.h0 | exact PG.SetR.h1 | exact PG.SetR.hl | exact PG.SetR.hc (by assumption) | apply PG.SetR.s)))) | ((with_reducible apply PG.setl_i); (case hset => (repeat' (first | exact PG.SetLR.h0 | exact PG.SetLR.h1 | exact PG.SetLR.hl | apply PG.SetLR.s)))) | ((with_reducible apply PG.put_i); (case hset => (repeat' (first | exact PG.PutR.h | apply PG.PutR.s)))) | ((with_reducible apply PG.pool_i); (case hget => rfl)) | ((with_reducible apply PG.bool_i)) | ((with_reducible apply PG.int_i)) | ((with_reducible apply PG.seqL_i)) | ((with_reducible apply PG.seqT_i)) | ((with_reducible apply PG.seqR_i)) | ((with_reducible apply PG.starT_i)) | ((with_reducible apply PG.starL_i)) | ((with_reducible apply PG.len_i); (case h => rfl)) | ((with_reducible apply PG.tup_i)) | ((with_reducible apply PG.yes_i)) | ((with_reducible apply PG.no_i)) | ((with_reducible apply PG.nyes_i)) | ((with_reducible apply PG.nno_i)) | ((with_reducible apply PG.wa_add)) | ((with_reducible apply PG.wa_sub)) | ((with_reducible apply PG.wa_lt)) | ((with_reducible apply PG.wa_le)) | ((with_reducible apply PG.wa_gt)) | ((with_reducible apply PG.wa_ge)) | ((with_reducible apply PG.wa_eqI)) | ((with_reducible apply PG.wa_neI)) | ((with_reducible apply PG.wa_neg)) | ((with_reducible apply PG.wa_lenL)) | ((with_reducible apply PG.wa_lenT)) | ((with_reducible apply PG.wa_int)) | ((with_reducible apply PG.wa_max)) | ((with_reducible apply PG.wa_min)) | ((with_reducible apply PG.wb_bool)) | ((with_reducible apply PG.wb_int)) | ((with_reducible apply PG.endP_ret)) | ((with_reducible apply PG.endP_retL)) | ((with_reducible apply PG.endN_ret)) | ((with_reducible apply PG.endL_ret)) | ((with_reducible apply PG.endL_retL)) | ((with_reducible apply PG.wa_binO)) | ((with_reducible apply PG.ch_le)) | ((with_reducible apply PG.ch_lt)) | ((with_reducible apply PG.ch_eq)) | ((with_reducible apply PG.wa_ix0); (case hget => rfl)) | ((with_reducible apply PG.wa_ix1); (case hget => rfl)) | ((with_reducible apply PG.wa_ix2); (case hget => rfl)) | ((with_reducible apply PG.wa_ix3); (case hget => rfl)) | ((with_reducible apply PG.wa_ix4); (case hget => rfl)) | ((with_reducible apply PG.wa_ix5); (case hget => rfl)) | ((with_reducible apply PG.wa_ix6); (case hget => rfl)) | ((with_reducible apply PG.wa_ix7); (case hget => rfl)) | ((with_reducible apply PG.wa_ix8); (case hget => rfl)) | ((with_reducible apply PG.wa_il0); (case hget => rfl)) | ((with_reducible apply PG.wa_il1); (case hget => rfl)) | ((with_reducible apply PG.wa_il2); (case hget => rfl)) | ((with_reducible apply PG.wa_ev1)) | ((with_reducible apply PG.wa_ev)) | ((with_reducible apply PG.wl_ev)) | ((with_reducible apply PG.wb_ev)) | ((with_reducible apply PG.wa_mod); (case h1 => omega)) | ((with_reducible apply PG.wa_div); (case h1 => omega); (case h2 => omega)) | ((with_reducible apply PG.wa_mulR); (case h1 => omega); (case h2 => omega)) | ((with_reducible apply PG.wa_mulL); (case h1 => omega); (case h2 => omega)) | ((with_reducible apply PG.wa_shr); (case h1 => omega)))
local macro_rules | `(tactic| array_get_dec) => `(tactic| first | ((with_reducible apply Pr_C.wp_draw); (case hp => assumption); (case h0 => omega); (case h1 => omega)) | ((with_reducible apply Pr_C.ls_i); (case hp => assumption)))

local macro_rules | `(tactic| array_get_dec) => `(tactic| first | ((with_reducible apply Pr_X.wa_size); (case h0 => omega); (case h1 => omega)) | ((with_reducible apply we_frz2v); (case hget => rfl)) | ((with_reducible apply we_frz2l); (case hget => rfl); (case hset => (repeat' (first | exact PG.SetR.h0 | exact PG.SetR.h1 | exact PG.SetR.hl | exact PG.SetR.hc (by assumption) | apply PG.SetR.s)))) | ((with_reducible apply ws_ext); (case hget => rfl)) | ((with_reducible apply we_addO); (case hget => rfl)))

/-! the law's -/
theorem apart_ok {x y : Int × Int} (hx : okX x) (hy : okX y) : F_law_apart [pr x, pr y] = some (.bool (apart x y)) := by
  obtain ⟨_, _, x3, x4⟩ := hx
  obtain ⟨_, _, y3, y4⟩ := hy
  refine of_wa ?_
  unfold pr
  unfold F_law_apart; refine PG.wa_def rfl ?_; simp only [PG.rho0_eq, List.map_cons, List.map_nil, List.replicate_succ, List.replicate_zero, List.cons_append, List.nil_append]; unfold B_law_apart
  (repeat array_get_dec)
  refine wa_eq (last_ok x3 x4) ?_
  (repeat array_get_dec)
  (first | (with_reducible apply PG.dec_i) | (with_reducible apply PG.decn_i) | (with_reducible apply PG.bit_i)) <;> intro h
  · (repeat array_get_dec)
    simp [apart, lst, h]
  · (repeat array_get_dec)
    refine wa_eq (last_ok y3 y4) ?_
    (repeat array_get_dec)
    simp [apart, lst, h] <;> exact decide_eq_decide.mpr Iff.rfl
def farD (x : Int × Int) : PyData → Bool
  | .tuple [.int a, .int b] => !apart x (a, b)
  | _ => false
theorem known_ok (V P c4 : Option Cell) (kn : List (Int × Int)) (x : Int × Int) (hx : okX x) (ho : ∀ z ∈ kn, okX z) (hl : kn.length ≤ 1000000) (q4 : PlainC c4) :
    nCompO 1 (gSet 4) X_law_is_exchange_1 X_law_is_exchange_2 [4] [V, some (.l false (prs kn)), P, some (.v (pr x)), c4] = some ((prs kn).filter (farD x), [V, some (.l false (prs kn)), P, some (.v (pr x)), c4]) := by
  have h := compL_pure (g := gSet 4) (t := X_law_is_exchange_1) (e := X_law_is_exchange_2) (vs := [4]) (ρ := [V, none, P, some (.v (pr x)), none]) (farD x) id (prs kn) [] (by rw [prs_len]; simp; omega) (fun d hd => by
    obtain ⟨z, hz, rfl⟩ := List.mem_map.mp hd
    refine ⟨[V, none, P, some (.v (pr x)), some (.v (pr z))], rfl, ?_, fun _ => rfl, rfl, rfl⟩
    have e := apart_ok hx (ho z hz)
    have e2 : farD x (pr z) = !apart x z := rfl
    rw [e2]
    simp [X_law_is_exchange_1, e])
  have hp : plainAt ([V, some (Cell.l false (prs kn)), P, some (.v (pr x)), c4].set 1 none) [4] = true := by rcases q4 with rfl | ⟨d, rfl⟩ <;> rfl
  have hw : wipeR ([V, some (Cell.l false (prs kn)), P, some (.v (pr x)), c4].set 1 none) [4] = [V, none, P, some (.v (pr x)), none] := rfl
  unfold nCompO
  show (if plainAt ([V, some (Cell.l false (prs kn)), P, some (.v (pr x)), c4].set 1 none) [4] = true then _ else none) = _
  rw [if_pos hp, hw, h]
  simp only [List.nil_append, List.map_id]
  rfl
theorem far_all (x : Int × Int) (kn : List (Int × Int)) : ((0 : Int) < (((prs kn).filter (farD x)).length : Nat)) ↔ ¬ kn.all (apart x) = true := by
  induction kn with
  | nil => simp [prs]
  | cons k kn ih =>
    have e : prs (k :: kn) = pr k :: prs kn := rfl
    have e2 : farD x (pr k) = !apart x k := rfl
    rw [e, List.filter_cons, e2]
    cases h : apart x k with
    | true => simpa [h] using ih
    | false => simp [h] <;> omega
theorem we_lstN {n : NF} {ρ ρ' : Rho} {xs : List PyData} {Q : PyData → Rho → Prop} (h : n ρ = some (xs, ρ')) (q : Q (.list xs) ρ') : WE (eLst n) ρ Q := ⟨_, ρ', by simp [h], q⟩
theorem turnL3 (V P c4 : Option Cell) (kn : List (Int × Int)) (x : Int × Int) (hx : okX x) (ho : ∀ z ∈ kn, okX z) (hl : kn.length ≤ 1000000) (q4 : PlainC c4) :
    WS X_law_is_exchange_3 [V, some (.l false (prs kn)), P, some (.v (pr x)), c4] fun o ρ2 => if kn.all (apart x) then o = .next ∧ ρ2 = [V, some (.l false (prs (kn ++ [x]))), P, some (.v (pr x)), c4] else o = .ret (.bool false) := by
  unfold X_law_is_exchange_3
  refine ws_if (wt_bl (we_bin (we_call (wn_cons (we_lstN (known_ok V P c4 kn x hx ho hl q4) ?_)))))
  (repeat array_get_dec)
  by_cases h : kn.all (apart x) = true
  · have h2 : ¬ ((0 : Int) < (((prs kn).filter (farD x)).length : Nat)) := fun z => (far_all x kn).mp z h
    refine PG.decno_i h2 ?_
    (repeat array_get_dec)
    refine ⟨prs kn, by rw [prs_len]; omega, ?_⟩
    (repeat array_get_dec)
    rw [if_pos h]
    refine ⟨rfl, ?_⟩
    simp [prs]
  · have h2 := (far_all x kn).mpr h
    refine PG.decy_i h2 ?_
    (repeat array_get_dec)
    rw [if_neg h]
theorem turnL4 (V c3 c4 : Option Cell) (kn : List (Int × Int)) (d : PyData) (hd : Nd d) (ho : ∀ z ∈ kn, okX z) (hl : kn.length ≤ 900000) (q3 : PlainC c3) (q4 : PlainC c4) :
    WS X_law_is_exchange_4 [V, some (.l false (prs kn)), some (.v d), c3, c4] fun o ρ2 => match stepL kn d with
      | some kn' => o = .next ∧ ∃ c3, ρ2 = [V, some (.l false (prs kn')), some (.v d), c3, c4] ∧ PlainC c3
      | none => o = .ret (.bool false) := by
  unfold X_law_is_exchange_4
  by_cases ht : ∃ xs, d = .tuple xs
  · obtain ⟨xs, rfl⟩ := ht
    (repeat array_get_dec)
    by_cases h2 : xs.length = 2
    · obtain ⟨p, q, rfl⟩ := two_of h2
      have np := nd_tup hd p (by simp)
      have nq := nd_tup hd q (by simp)
      (first | ((with_reducible apply PG.decy_i); (case h => omega)) | ((with_reducible apply PG.decno_i); (case h => omega)) | ((with_reducible apply PG.ndecy_i); (case h => omega)) | ((with_reducible apply PG.ndecno_i); (case h => omega)))
      (repeat array_get_dec)
      refine wa_eq (law_is_prefix_ok p np) ?_
      (repeat array_get_dec)
      cases hp : isP p with
      | false =>
        have e : stepL kn (.tuple [p, q]) = none := by unfold stepL; rw [asX_p (by simp [hp])]
        rw [e]
        (repeat array_get_dec)
        all_goals rfl
      | true =>
        (repeat array_get_dec)
        refine wa_eq (law_is_prefix_ok q nq) ?_
        (repeat array_get_dec)
        cases hq : isP q with
        | false =>
          have e : stepL kn (.tuple [p, q]) = none := by unfold stepL; rw [asX_p (by simp [hp, hq])]
          rw [e]
          (repeat array_get_dec)
          all_goals rfl
        | true =>
          obtain ⟨x, rfl⟩ := isP_some hp
          obtain ⟨y, rfl⟩ := isP_some hq
          have ox := isP_ok hp
          have oy := isP_ok hq
          have ex := asX_xy hp hq
          have e1 : pr x = .tuple [.int x.1, .int x.2] := rfl
          have e2 : pr y = .tuple [.int y.1, .int y.2] := rfl
          have e3 : stepL kn (.tuple [pr x, pr y]) = if x.2 = y.2 then (if kn.all (fun z => apart x z) && (kn ++ [x]).all (fun z => apart y z) then some (kn ++ [x, y]) else none) else none := by
            unfold stepL
            rw [ex]
            by_cases h : x.2 = y.2 <;> simp [h]
          rw [e3]
          rw [e1, e2]
          (repeat array_get_dec)
          (first | (with_reducible apply PG.dec_i) | (with_reducible apply PG.decn_i) | (with_reducible apply PG.bit_i)) <;> intro h
          · rw [if_pos h]
            (repeat array_get_dec)
            refine ws_forc ?_
            (repeat array_get_dec)
            obtain ⟨o, ρ2, es, m⟩ := turnL3 V (some (.v (.tuple [.tuple [.int x.1, .int x.2], .tuple [.int y.1, .int y.2]]))) c4 kn x ox ho (by omega) q4
            refine ⟨o, ρ2, es, ?_⟩
            by_cases ha : kn.all (apart x) = true
            · rw [if_pos ha] at m
              obtain ⟨rfl, rfl⟩ := m
              refine ws_forc ?_
              (repeat array_get_dec)
              have ho2 : ∀ z ∈ kn ++ [x], okX z := fun z hz => by
                rcases List.mem_append.mp hz with hz | hz
                · exact ho z hz
                · simp at hz; subst hz; exact ox
              obtain ⟨o, ρ2, es, m⟩ := turnL3 V (some (.v (.tuple [.tuple [.int x.1, .int x.2], .tuple [.int y.1, .int y.2]]))) c4 (kn ++ [x]) y oy ho2 (by simp; omega) q4
              refine ⟨o, ρ2, es, ?_⟩
              by_cases hb : (kn ++ [x]).all (apart y) = true
              · rw [if_pos hb] at m
                obtain ⟨rfl, rfl⟩ := m
                refine ws_forn ?_
                (repeat array_get_dec)
                rw [if_pos (by rw [Bool.and_eq_true]; exact ⟨ha, hb⟩)]
                refine ⟨rfl, some (.v (pr y)), ?_, .inr ⟨_, rfl⟩⟩
                simp
              · rw [if_neg hb] at m
                subst m
                show _
                rw [if_neg (by rw [Bool.and_eq_true]; exact fun z => hb z.2)]
                rfl
            · rw [if_neg ha] at m
              subst m
              show _
              rw [if_neg (by rw [Bool.and_eq_true]; exact fun z => ha z.1)]
              rfl
          · rw [if_neg h]
            (repeat array_get_dec)
            all_goals rfl
    · have e : stepL kn (.tuple xs) = none := by unfold stepL; rw [asX_len h2]
      rw [e]
      (first | ((with_reducible apply PG.decy_i); (case h => omega)) | ((with_reducible apply PG.decno_i); (case h => omega)) | ((with_reducible apply PG.ndecy_i); (case h => omega)) | ((with_reducible apply PG.ndecno_i); (case h => omega)))
      (repeat array_get_dec)
      all_goals rfl
  · have hn : ∀ xs, d ≠ .tuple xs := fun xs e => ht ⟨xs, e⟩
    have e : stepL kn d = none := by unfold stepL; rw [asX_no hn]
    rw [e]
    (repeat array_get_dec)
    refine wa_eq (isi_no hd hn) ?_
    (repeat array_get_dec)
    all_goals rfl
theorem law_is_exchange_ok (d : PyData) (hd : Nd d) (hl : ∀ xs, d = .tuple xs → xs.length ≤ 400000) : F_law_is_exchange [d] = some (.bool (isX d)) := by
  refine of_wa ?_
  unfold F_law_is_exchange; refine PG.wa_def rfl ?_; simp only [PG.rho0_eq, List.map_cons, List.map_nil, List.replicate_succ, List.replicate_zero, List.cons_append, List.nil_append]; unfold B_law_is_exchange
  by_cases ht : ∃ xs, d = .tuple xs
  · obtain ⟨xs, rfl⟩ := ht
    have hl := hl xs rfl
    (repeat array_get_dec)
    refine ws_forF stepL (.bool false) (fun ds kn ρ => ∃ c2 c3 : Option Cell, ρ = [some (.v (.tuple xs)), some (.l false (prs kn)), c2, c3, none] ∧ PlainC c2 ∧ PlainC c3 ∧ (∀ x ∈ kn, okX x) ∧ kn.length + 2 * ds.length ≤ 800000 ∧ ∀ d ∈ ds, Nd d) ?_ _ [] ⟨none, none, rfl, .inl rfl, .inl rfl, by simp, by simp; omega, nd_tup hd⟩ ?_ ?_
    · rintro kn d ds ρ ⟨c2, c3, rfl, q2, q3, ho, hk, hn⟩
      simp only [List.length_cons] at hk
      (repeat array_get_dec)
      obtain ⟨o, ρ2, e, m⟩ := turnL4 (some (.v (.tuple xs))) c3 none kn d (hn d (by simp)) ho (by omega) q3 (.inl rfl)
      refine ⟨o, ρ2, e, ?_⟩
      cases es : stepL kn d with
      | none => rw [es] at m; exact m
      | some k2 =>
        rw [es] at m
        obtain ⟨rfl, d3, rfl, w3⟩ := m
        unfold stepL at es
        split at es
        · rename_i x y ea
          split at es
          · cases es
            obtain ⟨_, h1, h2, _⟩ := asX_some ea
            refine ⟨rfl, _, _, rfl, .inr ⟨_, rfl⟩, w3, ?_, by simp; omega, fun z hz => hn z (by simp [hz])⟩
            intro z hz
            simp only [List.mem_append, List.mem_cons, List.not_mem_nil, or_false] at hz
            rcases hz with hz | rfl | rfl
            · exact ho z hz
            · exact isP_ok h1
            · exact isP_ok h2
          · cases es
        · cases es
    · rintro kn er ρ1 ⟨c2, c3, rfl, _⟩
      (repeat array_get_dec)
      rw [show isX (.tuple xs) = (runO stepL [] xs).isSome from rfl, er]
      rfl
    · intro er ρ1
      show PyData.bool false = .bool (isX (.tuple xs))
      rw [show isX (.tuple xs) = (runO stepL [] xs).isSome from rfl, er]
      rfl
  · have hn : ∀ xs, d ≠ .tuple xs := fun xs e => ht ⟨xs, e⟩
    rw [isX_no hn]
    (repeat array_get_dec)
    refine wa_eq (isi_no hd hn) ?_
    (repeat array_get_dec)
    all_goals rfl
/-! ### the drawn exchange -/
def exD (e : (Int × Int) × (Int × Int)) : PyData := .tuple [pr e.1, pr e.2]
def okE (e : (Int × Int) × (Int × Int)) : Prop := okX e.1 ∧ okX e.2
def exs (l : List ((Int × Int) × (Int × Int))) : List PyData := l.map exD
theorem exs_len (l : List ((Int × Int) × (Int × Int))) : (exs l).length = l.length := List.length_map _
theorem gd_ex {e : (Int × Int) × (Int × Int)} (h : okE e) : Gd 65536 2 7 (exD e) := by
  obtain ⟨⟨a1, a2, a3, a4⟩, b1, b2, b3, b4⟩ := h
  refine ⟨?_, by simp [exD, pr, PyData.depth, PyData.depthAll], by simp [exD, pr, wt, wtA]⟩
  simp only [exD, pr, okd, okA, Bool.and_eq_true, decide_eq_true_eq]
  exact ⟨⟨⟨by omega, by omega⟩, ⟨by omega, by omega⟩, trivial⟩, ⟨⟨by omega, by omega⟩, ⟨by omega, by omega⟩, trivial⟩, trivial⟩
theorem gs_exs {l : List ((Int × Int) × (Int × Int))} (h : ∀ e ∈ l, okE e) : Gs 65536 2 (7 * l.length) (exs l) := by
  refine ⟨fun x hx => ?_, ?_⟩
  · obtain ⟨e, he, rfl⟩ := List.mem_map.mp hx
    have := gd_ex (h e he)
    exact ⟨this.ok, this.dp⟩
  · clear h
    induction l with
    | nil => exact Nat.zero_le _
    | cons e l ih =>
      show wt (exD e) + wtA (exs l) ≤ _
      have : wt (exD e) = 7 := by simp [exD, pr, wt, wtA]
      simp only [List.length_cons]
      omega
theorem it_pr (x : Int × Int) : It (pr x) := .tup fun z hz => by
  simp only [List.mem_cons, List.not_mem_nil, or_false] at hz
  rcases hz with rfl | rfl <;> exact .int _
theorem it_exs (l : List ((Int × Int) × (Int × Int))) : It (.tuple (exs l)) := .tup fun z hz => by
  obtain ⟨e, _, rfl⟩ := List.mem_map.mp hz
  exact .tup fun y hy => by
    simp only [List.mem_cons, List.not_mem_nil, or_false] at hy
    rcases hy with rfl | rfl <;> exact it_pr _
theorem law_ex_eval {l : List ((Int × Int) × (Int × Int))} (h : ∀ e ∈ l, okE e) (hl : l.length ≤ 400000) : F_law_is_exchange [.tuple (exs l)] = some (.bool (isX (.tuple (exs l)))) :=
  law_is_exchange_ok _ ⟨65536, (gs_exs h).tup.ok⟩ fun xs e => by cases e; rw [exs_len]; exact hl
local macro_rules | `(tactic| array_get_dec) => `(tactic| first | ((with_reducible apply PG.ws_set)) | ((with_reducible apply PG.ws_if)) | ((with_reducible apply PG.ws_ret)) | ((with_reducible apply PG.ws_setL)) | ((with_reducible apply PG.ws_expr)) | ((with_reducible apply PG.ws_nilc)) | ((with_reducible apply PG.ws_asc)) | ((with_reducible apply PG.ws_nil)) | ((with_reducible apply PG.ws_for)) | ((with_reducible apply PG.ws_asg)) | ((with_reducible apply PG.ws_par)) | ((with_reducible apply PG.ws_retL)) | ((with_reducible apply PG.ws_brk)) | ((with_reducible apply PG.ws_cont)) | ((with_reducible apply PG.ws_forn)) | ((with_reducible apply PG.ws_sto)) | ((with_reducible apply PG.ws_aug); (case hget => rfl)) | ((with_reducible apply PG.ws_app); (case hget => rfl)) | ((with_reducible apply PG.ws_retO); (case hget => rfl)) | ((with_reducible apply PG.we_name); (case hget => rfl)) | ((with_reducible apply PG.we_c)) | ((with_reducible apply PG.we_bin)) | ((with_reducible apply PG.we_un)) | ((with_reducible apply PG.we_call)) | ((with_reducible apply PG.we_callL); (case hget => rfl)) | ((with_reducible apply PG.we_tup)) | ((with_reducible apply PG.we_lst)) | ((with_reducible apply PG.we_if)) | ((with_reducible apply PG.we_ixL); (case hget => rfl)) | ((with_reducible apply PG.we_unL); (case hget => rfl)) | ((with_reducible apply PG.we_and)) | ((with_reducible apply PG.we_or)) | ((with_reducible apply PG.we_not)) | ((with_reducible apply PG.we_chain)) | ((with_reducible apply PG.we_slT)) | ((with_reducible apply PG.wn_cons)) | ((with_reducible apply PG.wn_nil)) | ((with_reducible apply PG.wn_star)) | ((with_reducible apply PG.wn_disp)) | ((with_reducible apply PG.wn_call)) | ((with_reducible apply PG.wn_sl)) | ((with_reducible apply PG.wn_its)) | ((with_reducible apply PG.wn_r1)) | ((with_reducible apply PG.wn_r2)) | ((with_reducible apply PG.wn_r3)) | ((with_reducible apply PG.wt_tru)) | ((with_reducible apply PG.wt_bl)) | ((with_reducible apply PG.wt_and)) | ((with_reducible apply PG.wt_or)) | ((with_reducible apply PG.wt_not)) | ((with_reducible apply PG.wt_yes)) | ((with_reducible apply PG.wt_truL); (case hget => rfl)) | ((with_reducible apply PG.wo_none)) | ((with_reducible apply PG.wo_some)) | ((with_reducible apply PG.wg_p0)) | ((with_reducible apply PG.wg_tup)) | ((with_reducible apply PG.wg_ps); (case hset => (repeat' (first | exact PG.SetR.h0 | exact PG.SetR.h1 | exact PG.SetR.hl | exact PG.SetR.hc (by assumption) | apply PG.SetR.s)))) | ((with_reducible apply PG.wg_set); (case hset => (repeat' (first | exact PG.SetR.h0 | exact PG.SetR.h1 | exact PG.SetR.hl | exact PG.SetR.hc (by assumption) | apply PG.SetR.s)))) | ((with_reducible apply PG.we_frz); (case hget => rfl); (case hset => (repeat' (first | exact PG.SetR.h0 | exact PG.SetR.h1 | exact PG.SetR.hl | exact PG.SetR.hc (by assumption) | apply PG.SetR.s)))) | ((with_reducible apply PG.setr_i); (case hset => (repeat' (first | exact PG.SetR.h0 | exact PG.SetR.h1 | exact PG.SetR.hl | exact PG.SetR.hc (by assumption) | apply PG.SetR.s)))) | ((with_reducible apply PG.setl_i); (case hset => (repeat' (first | exact PG.SetLR.h0 | exact PG.SetLR.h1 | exact PG.SetLR.hl | apply PG.SetLR.s)))) | ((with_reducible apply PG.put_i); (case hset => (repeat' (first | exact PG.PutR.h | apply PG.PutR.s)))) | ((with_reducible apply PG.pool_i); (case hget => rfl)) | ((with_reducible apply PG.bool_i)) | ((with_reducible apply PG.int_i)) | ((with_reducible apply PG.seqL_i)) | ((with_reducible apply PG.seqT_i)) | ((with_reducible apply PG.seqR_i)) | ((with_reducible apply PG.starT_i)) | ((with_reducible apply PG.starL_i)) | ((with_reducible apply PG.len_i); (case h => rfl)) | ((with_reducible apply PG.tup_i)) | ((with_reducible apply PG.yes_i)) | ((with_reducible apply PG.no_i)) | ((with_reducible apply PG.nyes_i)) | ((with_reducible apply PG.nno_i)) | ((with_reducible apply PG.wa_add)) | ((with_reducible apply PG.wa_sub)) | ((with_reducible apply PG.wa_lt)) | ((with_reducible apply PG.wa_le)) | ((with_reducible apply PG.wa_gt)) | ((with_reducible apply PG.wa_ge)) | ((with_reducible apply PG.wa_eqI)) | ((with_reducible apply PG.wa_neI)) | ((with_reducible apply PG.wa_neg)) | ((with_reducible apply PG.wa_lenL)) | ((with_reducible apply PG.wa_lenT)) | ((with_reducible apply PG.wa_int)) | ((with_reducible apply PG.wa_max)) | ((with_reducible apply PG.wa_min)) | ((with_reducible apply PG.wb_bool)) | ((with_reducible apply PG.wb_int)) | ((with_reducible apply PG.endP_ret)) | ((with_reducible apply PG.endP_retL)) | ((with_reducible apply PG.endN_ret)) | ((with_reducible apply PG.endL_ret)) | ((with_reducible apply PG.endL_retL)) | ((with_reducible apply PG.wa_binO)) | ((with_reducible apply PG.ch_le)) | ((with_reducible apply PG.ch_lt)) | ((with_reducible apply PG.ch_eq)) | ((with_reducible apply PG.wa_ix0); (case hget => rfl)) | ((with_reducible apply PG.wa_ix1); (case hget => rfl)) | ((with_reducible apply PG.wa_ix2); (case hget => rfl)) | ((with_reducible apply PG.wa_ix3); (case hget => rfl)) | ((with_reducible apply PG.wa_ix4); (case hget => rfl)) | ((with_reducible apply PG.wa_ix5); (case hget => rfl)) | ((with_reducible apply PG.wa_ix6); (case hget => rfl)) | ((with_reducible apply PG.wa_ix7); (case hget => rfl)) | ((with_reducible apply PG.wa_ix8); (case hget => rfl)) | ((with_reducible apply PG.wa_il0); (case hget => rfl)) | ((with_reducible apply PG.wa_il1); (case hget => rfl)) | ((with_reducible apply PG.wa_il2); (case hget => rfl)) | ((with_reducible apply PG.wa_ev1)) | ((with_reducible apply PG.wa_ev)) | ((with_reducible apply PG.wl_ev)) | ((with_reducible apply PG.wb_ev)) | ((with_reducible apply PG.wa_mod); (case h1 => omega)) | ((with_reducible apply PG.wa_div); (case h1 => omega); (case h2 => omega)) | ((with_reducible apply PG.wa_mulR); (case h1 => omega); (case h2 => omega)) | ((with_reducible apply PG.wa_mulL); (case h1 => omega); (case h2 => omega)) | ((with_reducible apply PG.wa_shr); (case h1 => omega)))
local macro_rules | `(tactic| array_get_dec) => `(tactic| first | ((with_reducible apply Pr_C.wp_draw); (case hp => assumption); (case h0 => omega); (case h1 => omega)) | ((with_reducible apply Pr_C.ls_i); (case hp => assumption)))

local macro_rules | `(tactic| array_get_dec) => `(tactic| first | ((with_reducible apply Pr_X.wa_size); (case h0 => omega); (case h1 => omega)) | ((with_reducible apply Pr_X.wa_power); (case h0 => omega); (case h1 => omega)) | ((with_reducible apply Pr_X.wp_prefix); (case hp => assumption)) | ((with_reducible apply we_frz2v); (case hget => rfl)) | ((with_reducible apply we_frz2l); (case hget => rfl); (case hset => (repeat' (first | exact PG.SetR.h0 | exact PG.SetR.h1 | exact PG.SetR.hl | exact PG.SetR.hc (by assumption) | apply PG.SetR.s)))) | ((with_reducible apply we_addO); (case hget => rfl)))

theorem turn_ex (most : PyData) (c3 c4 c5 : Option Cell) (p : Pool) (hp : p.ok) (l : List ((Int × Int) × (Int × Int))) (h : ∀ e ∈ l, okE e) (hl : l.length ≤ 1000) (q4 : PlainC c4) (q5 : PlainC c5) :
    WS X_law_exchange_1 [some (.l true p.d), some (.v most), some (.l false (exs l)), c3, c4, c5] fun o ρ2 => o = .next ∧ ∃ (p' : Pool) (l' : List ((Int × Int) × (Int × Int))) (c4 c5 : Option Cell),
      ρ2 = [some (.l true p'.d), some (.v most), some (.l false (exs l')), c3, c4, c5] ∧ p'.ok ∧ (∀ e ∈ l', okE e) ∧ l'.length ≤ l.length + 1 ∧ PlainC c4 ∧ PlainC c5 := by
  unfold X_law_exchange_1
  (repeat array_get_dec)
  intro b s p1 k1 hx
  have hx' := hx
  obtain ⟨h1, h2, h3, h4⟩ := hx'
  simp only at h1 h2 h3 h4
  (repeat array_get_dec)
  intro a ea a1 a2
  (repeat array_get_dec)
  intro v p2 k2 v1 v2
  (repeat array_get_dec)
  intro c ec c1 c2
  (repeat array_get_dec)
  have hc : c = sz s := ec
  have hm := sz_mul h3 h4
  rw [← hc, ← ea] at hm
  have g1 : v * c ≤ (a - 1) * c := Int.mul_le_mul_of_nonneg_right (by omega) (by omega)
  have g0 : 0 ≤ v * c := Int.mul_nonneg v1 (by omega)
  rw [Int.sub_mul] at g1
  have ok2 : okE ((b, s), (v * c, s)) := ⟨hx, g0, by simp only; omega, h3, h4⟩
  have hn : ∀ e ∈ l ++ [((b, s), (v * c, s))], okE e := fun e he => by
    rcases List.mem_append.mp he with he | he
    · exact h e he
    · simp at he; subst he; exact ok2
  refine ⟨_, rfl, false, exs l, rfl, by rw [exs_len]; simp; omega, ?_⟩
  (repeat array_get_dec)
  have e2 : exs l ++ [PyData.tuple [PyData.tuple [PyData.int b, PyData.int s], PyData.tuple [PyData.int (v * c), PyData.int s]]] = exs (l ++ [((b, s), (v * c, s))]) := by simp [exs, exD, pr]
  rw [e2]
  refine wa_eq (law_ex_eval hn (by simp; omega)) ?_
  (repeat array_get_dec)
  refine ⟨fun _ => ?_, fun _ => ?_⟩
  · (repeat array_get_dec)
    refine ⟨exs l, by rw [exs_len]; omega, ?_⟩
    (repeat array_get_dec)
    refine ⟨rfl, p2, _, _, _, by rw [e2], k2, hn, by simp, .inr ⟨_, rfl⟩, .inr ⟨_, rfl⟩⟩
  · (repeat array_get_dec)
    exact ⟨rfl, p2, l, _, _, rfl, k2, h, by omega, .inr ⟨_, rfl⟩, .inr ⟨_, rfl⟩⟩
theorem ex_ls : LS F_law_exchange [.int 4] fun d => ∃ l, d = .tuple (exs l) ∧ (∀ e ∈ l, okE e) ∧ l.length ≤ 9 := by
  intro p hp
  unfold F_law_exchange; refine PG.wp_def rfl ?_; simp only [PG.rhoL_eq, List.map_cons, List.map_nil, List.replicate_succ, List.replicate_zero, List.cons_append, List.nil_append]; unfold B_law_exchange
  (repeat array_get_dec)
  intro v p1 k1 a1 b1
  (repeat array_get_dec)
  refine r1_i (by simp only [in62, Bool.and_eq_true, decide_eq_true_eq]; omega) ?_
  refine ws_forI (fun ds ρ => ∃ (p' : Pool) (l : List ((Int × Int) × (Int × Int))) (c3 c4 c5 : Option Cell), ρ = [some (.l true p'.d), some (.v (.int 4)), some (.l false (exs l)), c3, c4, c5] ∧ p'.ok ∧ (∀ e ∈ l, okE e) ∧ l.length + ds.length ≤ 5 ∧ PlainC c3 ∧ PlainC c4 ∧ PlainC c5) _
    ⟨p1, [], none, none, none, rfl, k1, by simp, by simp [rng_len]; omega, .inl rfl, .inl rfl, .inl rfl⟩ ?_ ?_
  · rintro d ds ρ ⟨p', l, c3, c4, c5, rfl, kp, ho, hl, q3, q4, q5⟩
    simp only [List.length_cons] at hl
    (repeat array_get_dec)
    obtain ⟨o, ρ2, e2, rfl, p3, l3, d4, d5, rfl, k3, ho3, hl3, w4, w5⟩ := turn_ex (.int 4) (some (.v d)) c4 c5 p' kp l ho (by omega) q4 q5
    exact ⟨_, _, e2, rfl, p3, l3, _, _, _, rfl, k3, ho3, by omega, .inr ⟨_, rfl⟩, w4, w5⟩
  · rintro ρ1 ⟨p', l, c3, c4, c5, rfl, kp, ho, hl, q3, q4, q5⟩
    simp only [List.length_nil, Nat.add_zero] at hl
    (repeat array_get_dec)
    exact ⟨l, rfl, ho, by omega⟩
theorem wipe3 (a b c : Option Cell) (d : Option Cell) : wipeR [a, b, c, d] [3] = [a, b, c, none] := rfl
theorem great_ls : LS F_law_great_exchange [.int 4] fun d => ∃ l, d = .tuple (exs l) ∧ (∀ e ∈ l, okE e) ∧ l.length ≤ 9 := by
  intro p hp
  unfold F_law_great_exchange; refine PG.wp_def rfl ?_; simp only [PG.rhoL_eq, List.map_cons, List.map_nil, List.replicate_succ, List.replicate_zero, List.cons_append, List.nil_append]; unfold B_law_great_exchange
  (repeat array_get_dec)
  intro v p1 k1 a1 b1
  (repeat array_get_dec)
  (first | (with_reducible apply PG.dec_i) | (with_reducible apply PG.decn_i) | (with_reducible apply PG.bit_i)) <;> intro h
  · (repeat array_get_dec)
    refine wp_ls ex_ls k1 ?_
    intro z p2 k2 hz
    (repeat array_get_dec)
    exact hz
  (repeat array_get_dec)
  intro v2 p2 k2 a2 b2
  (repeat array_get_dec)
  refine wn_comp (fun k : Nat => PyData.int (k : Int)) (fun _ => true) (fun k : Nat => exD ((4 * v2 + 4 * (k : Int), 15), (4 * v2 + 4 * (k : Int) + 2, 15))) ?_
  (repeat array_get_dec)
  intro v3 p3 k3 a3 b3
  (repeat array_get_dec)
  refine r1_i (by simp only [in62, Bool.and_eq_true, decide_eq_true_eq]; omega) ?_
  refine ⟨List.range (6 + v3).toNat, by simp [rng], by simp; omega, rfl, fun k hk => ?_, rfl, ?_⟩
  · simp only [wipe3]
    refine ⟨[some (.l true p3.d), some (.v (.int 4)), some (.v (.int (4 * v2))), some (.v (.int (k : Int)))], rfl, rfl, fun _ => ?_, rfl, rfl⟩
    simp [X_law_great_exchange_1, exD, pr]
  · rw [List.filter_eq_self.mpr (by simp)]
    (repeat array_get_dec)
    refine ⟨(List.range (6 + v3).toNat).map fun k : Nat => ((4 * v2 + 4 * (k : Int), 15), (4 * v2 + 4 * (k : Int) + 2, 15)), by simp [exs], fun e he => ?_, by simp; omega⟩
    obtain ⟨k, hk, rfl⟩ := List.mem_map.mp he
    have hk : k < (6 + v3).toNat := by simpa using hk
    refine ⟨⟨?_, ?_, ?_, ?_⟩, ?_, ?_, ?_, ?_⟩ <;> simp only <;> omega
/-! ### listed -/
end Pr_gatewarden_k08_whole_exchanges_undo_them
end
section
set_option linter.all false
set_option maxRecDepth 100000
set_option Elab.async false
namespace Pr_gatewarden_k08_whole_exchanges_undo_them
open PySem PG Pr_C Pr_D Pr_X
abbrev Ex := (Int × Int) × (Int × Int)
def prefs (l : List Ex) : List (Int × Int) := l.flatMap fun e => [e.1, e.2]
def vE (e : Ex) : Bool := isP (pr e.1) && isP (pr e.2) && decide (e.1.2 = e.2.2)
theorem asX_ex (e : Ex) : asX (exD e) = if vE e = true then some (e.1, e.2) else none := rfl
theorem run_exs : ∀ (l : List Ex) (kn : List (Int × Int)), runO stepP kn (exs l) = if l.all vE = true then some (kn ++ prefs l) else none
  | [], kn => by simp [exs, runO, prefs]
  | e :: l, kn => by
    have e1 : exs (e :: l) = exD e :: exs l := rfl
    have e2 : prefs (e :: l) = e.1 :: e.2 :: prefs l := rfl
    rw [e1, List.all_cons, e2]
    cases hv : vE e with
    | true =>
      have es : stepP kn (exD e) = some (kn ++ [e.1, e.2]) := by
        unfold stepP
        rw [asX_ex, hv]
        rfl
      simp only [runO, es, run_exs l, Bool.true_and, List.append_assoc, List.cons_append, List.nil_append]
    | false =>
      have es : stepP kn (exD e) = none := by
        unfold stepP
        rw [asX_ex, hv]
        rfl
      simp [runO, es]
theorem isX_iff (l : List Ex) : isX (.tuple (exs l)) = (l.all vE && PW (prefs l)) := by
  show (runO stepL [] (exs l)).isSome = _
  rw [run_eq _ [] rfl, run_exs]
  cases l.all vE <;> simp
/-! ### the drawn exchange is one -/
def gr (v : Int) (n : Nat) : List Ex := (List.range n).map fun k : Nat => ((4 * v + 4 * (k : Int), 15), (4 * v + 4 * (k : Int) + 2, 15))
theorem gr_succ (v : Int) (n : Nat) : gr v (n + 1) = gr v n ++ [((4 * v + 4 * (n : Int), 15), (4 * v + 4 * (n : Int) + 2, 15))] := by
  simp [gr, List.range_succ]
theorem prefs_app (l m : List Ex) : prefs (l ++ m) = prefs l ++ prefs m := by simp [prefs]
theorem sz15 : sz 15 = 2 := by decide
theorem gr_low (v : Int) : ∀ (n : Nat), ∀ x ∈ prefs (gr v n), lst x < 4 * v + 4 * (n : Int)
  | 0, x, h => by simp [gr, prefs] at h
  | n + 1, x, h => by
    rw [gr_succ, prefs_app] at h
    rcases List.mem_append.mp h with h | h
    · have := gr_low v n x h
      omega
    · simp only [prefs, List.flatMap_cons, List.flatMap_nil, List.append_nil, List.mem_cons, List.not_mem_nil, or_false] at h
      rcases h with rfl | rfl <;> simp only [lst, sz15] <;> omega
theorem gr_pw (v : Int) : ∀ n, PW (prefs (gr v n)) = true
  | 0 => rfl
  | n + 1 => by
    rw [gr_succ, prefs_app]
    have e : prefs [((4 * v + 4 * (n : Int), (15 : Int)), (4 * v + 4 * (n : Int) + 2, (15 : Int)))] = [(4 * v + 4 * (n : Int), 15), (4 * v + 4 * (n : Int) + 2, 15)] := rfl
    rw [e, pw_app, gr_pw v n]
    have h1 : PW [(4 * v + 4 * (n : Int), (15 : Int)), (4 * v + 4 * (n : Int) + 2, 15)] = true := by
      simp only [PW, List.all_cons, List.all_nil, Bool.and_true, apart, lst, sz15, Bool.or_eq_true, decide_eq_true_eq]
      omega
    rw [h1]
    simp only [Bool.true_and]
    rw [List.all_eq_true]
    intro x hx
    have := gr_low v n x hx
    simp only [List.all_cons, List.all_nil, Bool.and_true, Bool.and_eq_true, apart, Bool.or_eq_true, decide_eq_true_eq]
    omega
theorem gr_ok (v : Int) (n : Nat) (h0 : 0 ≤ v) (h1 : 4 * v + 4 * (n : Int) ≤ 65536) : (gr v n).all vE = true := by
  rw [List.all_eq_true]
  intro e he
  obtain ⟨k, hk, rfl⟩ := List.mem_map.mp he
  have hk : k < n := by simpa using hk
  simp only [vE, pr, isP_ii, sz15, Bool.and_eq_true, decide_eq_true_eq]
  refine ⟨⟨⟨⟨?_, ?_⟩, ⟨?_, ?_⟩, ?_⟩, ⟨?_, ?_⟩, ⟨?_, ?_⟩, ?_⟩, ?_⟩ <;> first | omega | trivial
local macro_rules | `(tactic| array_get_dec) => `(tactic| first | ((with_reducible apply PG.ws_set)) | ((with_reducible apply PG.ws_if)) | ((with_reducible apply PG.ws_ret)) | ((with_reducible apply PG.ws_setL)) | ((with_reducible apply PG.ws_expr)) | ((with_reducible apply PG.ws_nilc)) | ((with_reducible apply PG.ws_asc)) | ((with_reducible apply PG.ws_nil)) | ((with_reducible apply PG.ws_for)) | ((with_reducible apply PG.ws_asg)) | ((with_reducible apply PG.ws_par)) | ((with_reducible apply PG.ws_retL)) | ((with_reducible apply PG.ws_brk)) | ((with_reducible apply PG.ws_cont)) | ((with_reducible apply PG.ws_forn)) | ((with_reducible apply PG.ws_sto)) | ((with_reducible apply PG.ws_aug); (case hget => rfl)) | ((with_reducible apply PG.ws_app); (case hget => rfl)) | ((with_reducible apply PG.ws_retO); (case hget => rfl)) | ((with_reducible apply PG.we_name); (case hget => rfl)) | ((with_reducible apply PG.we_c)) | ((with_reducible apply PG.we_bin)) | ((with_reducible apply PG.we_un)) | ((with_reducible apply PG.we_call)) | ((with_reducible apply PG.we_callL); (case hget => rfl)) | ((with_reducible apply PG.we_tup)) | ((with_reducible apply PG.we_lst)) | ((with_reducible apply PG.we_if)) | ((with_reducible apply PG.we_ixL); (case hget => rfl)) | ((with_reducible apply PG.we_unL); (case hget => rfl)) | ((with_reducible apply PG.we_and)) | ((with_reducible apply PG.we_or)) | ((with_reducible apply PG.we_not)) | ((with_reducible apply PG.we_chain)) | ((with_reducible apply PG.we_slT)) | ((with_reducible apply PG.wn_cons)) | ((with_reducible apply PG.wn_nil)) | ((with_reducible apply PG.wn_star)) | ((with_reducible apply PG.wn_disp)) | ((with_reducible apply PG.wn_call)) | ((with_reducible apply PG.wn_sl)) | ((with_reducible apply PG.wn_its)) | ((with_reducible apply PG.wn_r1)) | ((with_reducible apply PG.wn_r2)) | ((with_reducible apply PG.wn_r3)) | ((with_reducible apply PG.wt_tru)) | ((with_reducible apply PG.wt_bl)) | ((with_reducible apply PG.wt_and)) | ((with_reducible apply PG.wt_or)) | ((with_reducible apply PG.wt_not)) | ((with_reducible apply PG.wt_yes)) | ((with_reducible apply PG.wt_truL); (case hget => rfl)) | ((with_reducible apply PG.wo_none)) | ((with_reducible apply PG.wo_some)) | ((with_reducible apply PG.wg_p0)) | ((with_reducible apply PG.wg_tup)) | ((with_reducible apply PG.wg_ps); (case hset => (repeat' (first | exact PG.SetR.h0 | exact PG.SetR.h1 | exact PG.SetR.hl | exact PG.SetR.hc (by assumption) | apply PG.SetR.s)))) | ((with_reducible apply PG.wg_set); (case hset => (repeat' (first | exact PG.SetR.h0 | exact PG.SetR.h1 | exact PG.SetR.hl | exact PG.SetR.hc (by assumption) | apply PG.SetR.s)))) | ((with_reducible apply PG.we_frz); (case hget => rfl); (case hset => (repeat' (first | exact PG.SetR.h0 | exact PG.SetR.h1 | exact PG.SetR.hl | exact PG.SetR.hc (by assumption) | apply PG.SetR.s)))) | ((with_reducible apply PG.setr_i); (case hset => (repeat' (first | exact PG.SetR.h0 | exact PG.SetR.h1 | exact PG.SetR.hl | exact PG.SetR.hc (by assumption) | apply PG.SetR.s)))) | ((with_reducible apply PG.setl_i); (case hset => (repeat' (first | exact PG.SetLR.h0 | exact PG.SetLR.h1 | exact PG.SetLR.hl | apply PG.SetLR.s)))) | ((with_reducible apply PG.put_i); (case hset => (repeat' (first | exact PG.PutR.h | apply PG.PutR.s)))) | ((with_reducible apply PG.pool_i); (case hget => rfl)) | ((with_reducible apply PG.bool_i)) | ((with_reducible apply PG.int_i)) | ((with_reducible apply PG.seqL_i)) | ((with_reducible apply PG.seqT_i)) | ((with_reducible apply PG.seqR_i)) | ((with_reducible apply PG.starT_i)) | ((with_reducible apply PG.starL_i)) | ((with_reducible apply PG.len_i); (case h => rfl)) | ((with_reducible apply PG.tup_i)) | ((with_reducible apply PG.yes_i)) | ((with_reducible apply PG.no_i)) | ((with_reducible apply PG.nyes_i)) | ((with_reducible apply PG.nno_i)) | ((with_reducible apply PG.wa_add)) | ((with_reducible apply PG.wa_sub)) | ((with_reducible apply PG.wa_lt)) | ((with_reducible apply PG.wa_le)) | ((with_reducible apply PG.wa_gt)) | ((with_reducible apply PG.wa_ge)) | ((with_reducible apply PG.wa_eqI)) | ((with_reducible apply PG.wa_neI)) | ((with_reducible apply PG.wa_neg)) | ((with_reducible apply PG.wa_lenL)) | ((with_reducible apply PG.wa_lenT)) | ((with_reducible apply PG.wa_int)) | ((with_reducible apply PG.wa_max)) | ((with_reducible apply PG.wa_min)) | ((with_reducible apply PG.wb_bool)) | ((with_reducible apply PG.wb_int)) | ((with_reducible apply PG.endP_ret)) | ((with_reducible apply PG.endP_retL)) | ((with_reducible apply PG.endN_ret)) | ((with_reducible apply PG.endL_ret)) | ((with_reducible apply PG.endL_retL)) | ((with_reducible apply PG.wa_binO)) | ((with_reducible apply PG.ch_le)) | ((with_reducible apply PG.ch_lt)) | ((with_reducible apply PG.ch_eq)) | ((with_reducible apply PG.wa_ix0); (case hget => rfl)) | ((with_reducible apply PG.wa_ix1); (case hget => rfl)) | ((with_reducible apply PG.wa_ix2); (case hget => rfl)) | ((with_reducible apply PG.wa_ix3); (case hget => rfl)) | ((with_reducible apply PG.wa_ix4); (case hget => rfl)) | ((with_reducible apply PG.wa_ix5); (case hget => rfl)) | ((with_reducible apply PG.wa_ix6); (case hget => rfl)) | ((with_reducible apply PG.wa_ix7); (case hget => rfl)) | ((with_reducible apply PG.wa_ix8); (case hget => rfl)) | ((with_reducible apply PG.wa_il0); (case hget => rfl)) | ((with_reducible apply PG.wa_il1); (case hget => rfl)) | ((with_reducible apply PG.wa_il2); (case hget => rfl)) | ((with_reducible apply PG.wa_ev1)) | ((with_reducible apply PG.wa_ev)) | ((with_reducible apply PG.wl_ev)) | ((with_reducible apply PG.wb_ev)) | ((with_reducible apply PG.wa_mod); (case h1 => omega)) | ((with_reducible apply PG.wa_div); (case h1 => omega); (case h2 => omega)) | ((with_reducible apply PG.wa_mulR); (case h1 => omega); (case h2 => omega)) | ((with_reducible apply PG.wa_mulL); (case h1 => omega); (case h2 => omega)) | ((with_reducible apply PG.wa_shr); (case h1 => omega)))
local macro_rules | `(tactic| array_get_dec) => `(tactic| first | ((with_reducible apply Pr_C.wp_draw); (case hp => assumption); (case h0 => omega); (case h1 => omega)) | ((with_reducible apply Pr_C.ls_i); (case hp => assumption)))

local macro_rules | `(tactic| array_get_dec) => `(tactic| first | ((with_reducible apply Pr_X.wa_size); (case h0 => omega); (case h1 => omega)) | ((with_reducible apply Pr_X.wa_power); (case h0 => omega); (case h1 => omega)) | ((with_reducible apply Pr_X.wp_prefix); (case hp => assumption)) | ((with_reducible apply we_frz2v); (case hget => rfl)) | ((with_reducible apply we_frz2l); (case hget => rfl); (case hset => (repeat' (first | exact PG.SetR.h0 | exact PG.SetR.h1 | exact PG.SetR.hl | exact PG.SetR.hc (by assumption) | apply PG.SetR.s)))) | ((with_reducible apply we_addO); (case hget => rfl)))

theorem turn_ex2 (most : PyData) (c3 c4 c5 : Option Cell) (p : Pool) (hp : p.ok) (l : List Ex) (h : ∀ e ∈ l, okE e) (hX : isX (.tuple (exs l)) = true) (hl : l.length ≤ 1000) (q4 : PlainC c4) (q5 : PlainC c5) :
    WS X_law_exchange_1 [some (.l true p.d), some (.v most), some (.l false (exs l)), c3, c4, c5] fun o ρ2 => o = .next ∧ ∃ (p' : Pool) (l' : List Ex) (c4 c5 : Option Cell),
      ρ2 = [some (.l true p'.d), some (.v most), some (.l false (exs l')), c3, c4, c5] ∧ p'.ok ∧ (∀ e ∈ l', okE e) ∧ isX (.tuple (exs l')) = true ∧ l'.length ≤ l.length + 1 ∧ PlainC c4 ∧ PlainC c5 := by
  unfold X_law_exchange_1
  (repeat array_get_dec)
  intro b s p1 k1 hx
  have hx' := hx
  obtain ⟨h1, h2, h3, h4⟩ := hx'
  simp only at h1 h2 h3 h4
  (repeat array_get_dec)
  intro a ea a1 a2
  (repeat array_get_dec)
  intro v p2 k2 v1 v2
  (repeat array_get_dec)
  intro c ec c1 c2
  (repeat array_get_dec)
  have hc : c = sz s := ec
  have hm := sz_mul h3 h4
  rw [← hc, ← ea] at hm
  have g1 : v * c ≤ (a - 1) * c := Int.mul_le_mul_of_nonneg_right (by omega) (by omega)
  have g0 : 0 ≤ v * c := Int.mul_nonneg v1 (by omega)
  rw [Int.sub_mul] at g1
  have ok2 : okE ((b, s), (v * c, s)) := ⟨hx, g0, by simp only; omega, h3, h4⟩
  have hn : ∀ e ∈ l ++ [((b, s), (v * c, s))], okE e := fun e he => by
    rcases List.mem_append.mp he with he | he
    · exact h e he
    · simp at he; subst he; exact ok2
  refine ⟨_, rfl, false, exs l, rfl, by rw [exs_len]; simp; omega, ?_⟩
  (repeat array_get_dec)
  have e2 : exs l ++ [PyData.tuple [PyData.tuple [PyData.int b, PyData.int s], PyData.tuple [PyData.int (v * c), PyData.int s]]] = exs (l ++ [((b, s), (v * c, s))]) := by simp [exs, exD, pr]
  rw [e2]
  refine wa_eq (law_ex_eval hn (by simp; omega)) ?_
  (repeat array_get_dec)
  refine ⟨fun hX2 => ?_, fun _ => ?_⟩
  · (repeat array_get_dec)
    refine ⟨exs l, by rw [exs_len]; omega, ?_⟩
    (repeat array_get_dec)
    refine ⟨rfl, p2, _, _, _, by rw [e2], k2, hn, hX2, by simp, .inr ⟨_, rfl⟩, .inr ⟨_, rfl⟩⟩
  · (repeat array_get_dec)
    exact ⟨rfl, p2, l, _, _, rfl, k2, h, hX, by omega, .inr ⟨_, rfl⟩, .inr ⟨_, rfl⟩⟩
theorem ex_ls2 : LS F_law_exchange [.int 4] fun d => ∃ l : List Ex, d = .tuple (exs l) ∧ (∀ e ∈ l, okE e) ∧ l.length ≤ 9 ∧ isX (.tuple (exs l)) = true := by
  intro p hp
  unfold F_law_exchange; refine PG.wp_def rfl ?_; simp only [PG.rhoL_eq, List.map_cons, List.map_nil, List.replicate_succ, List.replicate_zero, List.cons_append, List.nil_append]; unfold B_law_exchange
  (repeat array_get_dec)
  intro v p1 k1 a1 b1
  (repeat array_get_dec)
  refine r1_i (by simp only [in62, Bool.and_eq_true, decide_eq_true_eq]; omega) ?_
  refine ws_forI (fun ds ρ => ∃ (p' : Pool) (l : List Ex) (c3 c4 c5 : Option Cell), ρ = [some (.l true p'.d), some (.v (.int 4)), some (.l false (exs l)), c3, c4, c5] ∧ p'.ok ∧ (∀ e ∈ l, okE e) ∧ isX (.tuple (exs l)) = true ∧ l.length + ds.length ≤ 5 ∧ PlainC c3 ∧ PlainC c4 ∧ PlainC c5) _
    ⟨p1, [], none, none, none, rfl, k1, by simp, rfl, by simp [rng_len]; omega, .inl rfl, .inl rfl, .inl rfl⟩ ?_ ?_
  · rintro d ds ρ ⟨p', l, c3, c4, c5, rfl, kp, ho, hX, hl, q3, q4, q5⟩
    simp only [List.length_cons] at hl
    (repeat array_get_dec)
    obtain ⟨o, ρ2, e2, rfl, p3, l3, d4, d5, rfl, k3, ho3, hX3, hl3, w4, w5⟩ := turn_ex2 (.int 4) (some (.v d)) c4 c5 p' kp l ho hX (by omega) q4 q5
    exact ⟨_, _, e2, rfl, p3, l3, _, _, _, rfl, k3, ho3, hX3, by omega, .inr ⟨_, rfl⟩, w4, w5⟩
  · rintro ρ1 ⟨p', l, c3, c4, c5, rfl, kp, ho, hX, hl, q3, q4, q5⟩
    simp only [List.length_nil, Nat.add_zero] at hl
    (repeat array_get_dec)
    exact ⟨l, rfl, ho, by omega, hX⟩
theorem great_ls2 : LS F_law_great_exchange [.int 4] fun d => ∃ l : List Ex, d = .tuple (exs l) ∧ (∀ e ∈ l, okE e) ∧ l.length ≤ 9 ∧ isX (.tuple (exs l)) = true := by
  intro p hp
  unfold F_law_great_exchange; refine PG.wp_def rfl ?_; simp only [PG.rhoL_eq, List.map_cons, List.map_nil, List.replicate_succ, List.replicate_zero, List.cons_append, List.nil_append]; unfold B_law_great_exchange
  (repeat array_get_dec)
  intro v p1 k1 a1 b1
  (repeat array_get_dec)
  (first | (with_reducible apply PG.dec_i) | (with_reducible apply PG.decn_i) | (with_reducible apply PG.bit_i)) <;> intro h
  · (repeat array_get_dec)
    refine wp_ls ex_ls2 k1 ?_
    intro z p2 k2 hz
    (repeat array_get_dec)
    exact hz
  (repeat array_get_dec)
  intro v2 p2 k2 a2 b2
  (repeat array_get_dec)
  refine wn_comp (fun k : Nat => PyData.int (k : Int)) (fun _ => true) (fun k : Nat => exD ((4 * v2 + 4 * (k : Int), 15), (4 * v2 + 4 * (k : Int) + 2, 15))) ?_
  (repeat array_get_dec)
  intro v3 p3 k3 a3 b3
  (repeat array_get_dec)
  refine r1_i (by simp only [in62, Bool.and_eq_true, decide_eq_true_eq]; omega) ?_
  refine ⟨List.range (6 + v3).toNat, by simp [rng], by simp; omega, rfl, fun k hk => ?_, rfl, ?_⟩
  · simp only [wipe3]
    refine ⟨[some (.l true p3.d), some (.v (.int 4)), some (.v (.int (4 * v2))), some (.v (.int (k : Int)))], rfl, rfl, fun _ => ?_, rfl, rfl⟩
    simp [X_law_great_exchange_1, exD, pr]
  · rw [List.filter_eq_self.mpr (by simp)]
    (repeat array_get_dec)
    refine ⟨gr v2 (6 + v3).toNat, by simp [exs, gr], fun e he => ?_, by simp [gr]; omega, ?_⟩
    · obtain ⟨k, hk, rfl⟩ := List.mem_map.mp he
      have hk : k < (6 + v3).toNat := by simpa using hk
      refine ⟨⟨?_, ?_, ?_, ?_⟩, ?_, ?_, ?_, ?_⟩ <;> simp only <;> omega
    · rw [isX_iff, gr_ok v2 _ a2 (by omega), gr_pw]
      rfl
end Pr_gatewarden_k08_whole_exchanges_undo_them
end
section
set_option linter.all false
set_option maxRecDepth 100000
set_option Elab.async false
namespace Pr_gatewarden_k08_whole_exchanges_undo_them
open PySem PG Pr_C Pr_D Pr_X
/-! ### an address exchanged -/
theorem ws_find {g : GF} {b c : SF} {ρ : Rho} {S : Out → Rho → Prop} (fnd : PyData → Option PyData) (I : List PyData → Rho → Prop)
    (hs : ∀ d ds ρ, I (d :: ds) ρ → WG g d ρ fun ρ1 => WS b ρ1 fun o ρ2 => match fnd d with
      | some r => o = .ret r
      | none => o = .next ∧ I ds ρ2)
    (ds : List PyData) (h : I ds ρ) (q1 : ds.findSome? fnd = none → ∀ ρ1, I [] ρ1 → WS c ρ1 S) (q2 : ∀ r, ds.findSome? fnd = some r → ∀ ρ1, S (.ret r) ρ1) : WS (sSeq (forL g b ds) c) ρ S := by
  have key : ∀ (ds : List PyData) (ρ : Rho), I ds ρ → match ds.findSome? fnd with
      | some r => ∃ ρ', forL g b ds ρ = some (.ret r, ρ')
      | none => ∃ ρ', forL g b ds ρ = some (.next, ρ') ∧ I [] ρ' := by
    intro ds
    induction ds with
    | nil => intro ρ h; exact ⟨ρ, rfl, h⟩
    | cons d ds ih =>
      intro ρ h
      obtain ⟨ρ1, e1, o, ρ2, e2, m⟩ := hs d ds ρ h
      rw [List.findSome?_cons]
      cases e : fnd d with
      | some r =>
        rw [e] at m
        subst m
        exact ⟨ρ2, by simp [forL, e1, e2]⟩
      | none =>
        rw [e] at m
        obtain ⟨rfl, h2⟩ := m
        have ih := ih ρ2 h2
        dsimp only
        cases er : ds.findSome? fnd with
        | none =>
          rw [er] at ih
          obtain ⟨ρ', e3, h3⟩ := ih
          exact ⟨ρ', by simp [forL, e1, e2, e3], h3⟩
        | some r =>
          rw [er] at ih
          obtain ⟨ρ', e3⟩ := ih
          exact ⟨ρ', by simp [forL, e1, e2, e3]⟩
  have k := key ds ρ h
  cases er : ds.findSome? fnd with
  | none =>
    rw [er] at k
    obtain ⟨ρ1, e, h1⟩ := k
    obtain ⟨o, ρ2, e2, s⟩ := q1 er ρ1 h1
    exact ⟨o, ρ2, by simp [e, e2], s⟩
  | some r =>
    rw [er] at k
    obtain ⟨ρ1, e⟩ := k
    exact ⟨_, ρ1, by simp [e], q2 r er ρ1⟩
theorem hld_iff (a : Int) (x : Int × Int) : hld a x = true ↔ x.1 ≤ a ∧ a < x.1 + sz x.2 := by
  unfold hld
  rw [Bool.and_eq_true, decide_eq_true_eq, decide_eq_true_eq]
def one (a : Int) (e : Ex) : Option Int := if hld a e.1 = true then some (a - e.1.1 + e.2.1) else none
def both2 (a : Int) (e : Ex) : Option Int := if hld a e.1 = true then some (a - e.1.1 + e.2.1) else if hld a e.2 = true then some (a - e.2.1 + e.1.1) else none
def swp (l : List Ex) (a : Int) : Int := (l.findSome? (both2 a)).getD a
def swX (e : Ex) : Ex := (e.2, e.1)
def exOf : PyData → Ex
  | .tuple [.tuple [.int a, .int b], .tuple [.int c, .int e]] => ((a, b), (c, e))
  | _ => ((0, 0), (0, 0))
theorem exOf_ex (e : Ex) : exOf (exD e) = e := rfl
def fD (f : Ex → Option Int) (d : PyData) : Option PyData := (f (exOf d)).map PyData.int
theorem find_ex (f : Ex → Option Int) : ∀ l : List Ex, (exs l).findSome? (fD f) = (l.findSome? f).map PyData.int
  | [] => rfl
  | e :: l => by
    have e1 : exs (e :: l) = exD e :: exs l := rfl
    have e2 : fD f (exD e) = (f e).map PyData.int := rfl
    rw [e1, List.findSome?_cons, List.findSome?_cons, e2]
    cases f e with
    | none => exact find_ex f l
    | some r => rfl
local macro_rules | `(tactic| array_get_dec) => `(tactic| first | ((with_reducible apply PG.ws_set)) | ((with_reducible apply PG.ws_if)) | ((with_reducible apply PG.ws_ret)) | ((with_reducible apply PG.ws_setL)) | ((with_reducible apply PG.ws_expr)) | ((with_reducible apply PG.ws_nilc)) | ((with_reducible apply PG.ws_asc)) | ((with_reducible apply PG.ws_nil)) | ((with_reducible apply PG.ws_for)) | ((with_reducible apply PG.ws_asg)) | ((with_reducible apply PG.ws_par)) | ((with_reducible apply PG.ws_retL)) | ((with_reducible apply PG.ws_brk)) | ((with_reducible apply PG.ws_cont)) | ((with_reducible apply PG.ws_forn)) | ((with_reducible apply PG.ws_sto)) | ((with_reducible apply PG.ws_aug); (case hget => rfl)) | ((with_reducible apply PG.ws_app); (case hget => rfl)) | ((with_reducible apply PG.ws_retO); (case hget => rfl)) | ((with_reducible apply PG.we_name); (case hget => rfl)) | ((with_reducible apply PG.we_c)) | ((with_reducible apply PG.we_bin)) | ((with_reducible apply PG.we_un)) | ((with_reducible apply PG.we_call)) | ((with_reducible apply PG.we_callL); (case hget => rfl)) | ((with_reducible apply PG.we_tup)) | ((with_reducible apply PG.we_lst)) | ((with_reducible apply PG.we_if)) | ((with_reducible apply PG.we_ixL); (case hget => rfl)) | ((with_reducible apply PG.we_unL); (case hget => rfl)) | ((with_reducible apply PG.we_and)) | ((with_reducible apply PG.we_or)) | ((with_reducible apply PG.we_not)) | ((with_reducible apply PG.we_chain)) | ((with_reducible apply PG.we_slT)) | ((with_reducible apply PG.wn_cons)) | ((with_reducible apply PG.wn_nil)) | ((with_reducible apply PG.wn_star)) | ((with_reducible apply PG.wn_disp)) | ((with_reducible apply PG.wn_call)) | ((with_reducible apply PG.wn_sl)) | ((with_reducible apply PG.wn_its)) | ((with_reducible apply PG.wn_r1)) | ((with_reducible apply PG.wn_r2)) | ((with_reducible apply PG.wn_r3)) | ((with_reducible apply PG.wt_tru)) | ((with_reducible apply PG.wt_bl)) | ((with_reducible apply PG.wt_and)) | ((with_reducible apply PG.wt_or)) | ((with_reducible apply PG.wt_not)) | ((with_reducible apply PG.wt_yes)) | ((with_reducible apply PG.wt_truL); (case hget => rfl)) | ((with_reducible apply PG.wo_none)) | ((with_reducible apply PG.wo_some)) | ((with_reducible apply PG.wg_p0)) | ((with_reducible apply PG.wg_tup)) | ((with_reducible apply PG.wg_ps); (case hset => (repeat' (first | exact PG.SetR.h0 | exact PG.SetR.h1 | exact PG.SetR.hl | exact PG.SetR.hc (by assumption) | apply PG.SetR.s)))) | ((with_reducible apply PG.wg_set); (case hset => (repeat' (first | exact PG.SetR.h0 | exact PG.SetR.h1 | exact PG.SetR.hl | exact PG.SetR.hc (by assumption) | apply PG.SetR.s)))) | ((with_reducible apply PG.we_frz); (case hget => rfl); (case hset => (repeat' (first | exact PG.SetR.h0 | exact PG.SetR.h1 | exact PG.SetR.hl | exact PG.SetR.hc (by assumption) | apply PG.SetR.s)))) | ((with_reducible apply PG.setr_i); (case hset => (repeat' (first | exact PG.SetR.h0 | exact PG.SetR.h1 | exact PG.SetR.hl | exact PG.SetR.hc (by assumption) | apply PG.SetR.s)))) | ((with_reducible apply PG.setl_i); (case hset => (repeat' (first | exact PG.SetLR.h0 | exact PG.SetLR.h1 | exact PG.SetLR.hl | apply PG.SetLR.s)))) | ((with_reducible apply PG.put_i); (case hset => (repeat' (first | exact PG.PutR.h | apply PG.PutR.s)))) | ((with_reducible apply PG.pool_i); (case hget => rfl)) | ((with_reducible apply PG.bool_i)) | ((with_reducible apply PG.int_i)) | ((with_reducible apply PG.seqL_i)) | ((with_reducible apply PG.seqT_i)) | ((with_reducible apply PG.seqR_i)) | ((with_reducible apply PG.starT_i)) | ((with_reducible apply PG.starL_i)) | ((with_reducible apply PG.len_i); (case h => rfl)) | ((with_reducible apply PG.tup_i)) | ((with_reducible apply PG.yes_i)) | ((with_reducible apply PG.no_i)) | ((with_reducible apply PG.nyes_i)) | ((with_reducible apply PG.nno_i)) | ((with_reducible apply PG.wa_add)) | ((with_reducible apply PG.wa_sub)) | ((with_reducible apply PG.wa_lt)) | ((with_reducible apply PG.wa_le)) | ((with_reducible apply PG.wa_gt)) | ((with_reducible apply PG.wa_ge)) | ((with_reducible apply PG.wa_eqI)) | ((with_reducible apply PG.wa_neI)) | ((with_reducible apply PG.wa_neg)) | ((with_reducible apply PG.wa_lenL)) | ((with_reducible apply PG.wa_lenT)) | ((with_reducible apply PG.wa_int)) | ((with_reducible apply PG.wa_max)) | ((with_reducible apply PG.wa_min)) | ((with_reducible apply PG.wb_bool)) | ((with_reducible apply PG.wb_int)) | ((with_reducible apply PG.endP_ret)) | ((with_reducible apply PG.endP_retL)) | ((with_reducible apply PG.endN_ret)) | ((with_reducible apply PG.endL_ret)) | ((with_reducible apply PG.endL_retL)) | ((with_reducible apply PG.wa_binO)) | ((with_reducible apply PG.ch_le)) | ((with_reducible apply PG.ch_lt)) | ((with_reducible apply PG.ch_eq)) | ((with_reducible apply PG.wa_ix0); (case hget => rfl)) | ((with_reducible apply PG.wa_ix1); (case hget => rfl)) | ((with_reducible apply PG.wa_ix2); (case hget => rfl)) | ((with_reducible apply PG.wa_ix3); (case hget => rfl)) | ((with_reducible apply PG.wa_ix4); (case hget => rfl)) | ((with_reducible apply PG.wa_ix5); (case hget => rfl)) | ((with_reducible apply PG.wa_ix6); (case hget => rfl)) | ((with_reducible apply PG.wa_ix7); (case hget => rfl)) | ((with_reducible apply PG.wa_ix8); (case hget => rfl)) | ((with_reducible apply PG.wa_il0); (case hget => rfl)) | ((with_reducible apply PG.wa_il1); (case hget => rfl)) | ((with_reducible apply PG.wa_il2); (case hget => rfl)) | ((with_reducible apply PG.wa_ev1)) | ((with_reducible apply PG.wa_ev)) | ((with_reducible apply PG.wl_ev)) | ((with_reducible apply PG.wb_ev)) | ((with_reducible apply PG.wa_mod); (case h1 => omega)) | ((with_reducible apply PG.wa_div); (case h1 => omega); (case h2 => omega)) | ((with_reducible apply PG.wa_mulR); (case h1 => omega); (case h2 => omega)) | ((with_reducible apply PG.wa_mulL); (case h1 => omega); (case h2 => omega)) | ((with_reducible apply PG.wa_shr); (case h1 => omega)))
local macro_rules | `(tactic| array_get_dec) => `(tactic| first | ((with_reducible apply Pr_C.wp_draw); (case hp => assumption); (case h0 => omega); (case h1 => omega)) | ((with_reducible apply Pr_C.ls_i); (case hp => assumption)))

local macro_rules | `(tactic| array_get_dec) => `(tactic| first | ((with_reducible apply Pr_X.wa_size); (case h0 => omega); (case h1 => omega)))

theorem ways_ok (l : List Ex) (hl : l.length ≤ 1000) : F_ways [.tuple (exs l)] = some (.list (exs (l ++ l.map swX))) := by
  refine of_wa ?_
  unfold F_ways; refine PG.wa_def rfl ?_; simp only [PG.rho0_eq, List.map_cons, List.map_nil, List.replicate_succ, List.replicate_zero, List.cons_append, List.nil_append]; unfold B_ways
  (repeat array_get_dec)
  refine wn_map exD (fun _ => true) (fun e => exD (swX e)) l ?_
  (repeat array_get_dec)
  refine ⟨rfl, by omega, rfl, fun e he => ?_, ?_⟩
  · have w : wipeR [some (Cell.v (.tuple (exs l))), none, none] [1, 2] = [some (Cell.v (.tuple (exs l))), none, none] := rfl
    simp only [w]
    unfold exD
    (repeat array_get_dec)
    refine ⟨rfl, fun _ => ?_, fun z => (nomatch z)⟩
    unfold X_ways_1
    (repeat array_get_dec)
    exact ⟨rfl, rfl, rfl⟩
  · rw [List.filter_eq_self.mpr (by simp)]
    (repeat array_get_dec)
    refine wa_addL (by rw [exs_len]; simp; omega) ?_
    (repeat array_get_dec)
    simp [exs]
theorem exchanged_ok (l : List Ex) (a : Int) (ho : ∀ e ∈ l, okE e) (hl : l.length ≤ 1000) : F_exchanged [.tuple (exs l), .int a] = some (.int (((l ++ l.map swX).findSome? (one a)).getD a)) := by
  refine of_wa ?_
  unfold F_exchanged; refine PG.wa_def rfl ?_; simp only [PG.rho0_eq, List.map_cons, List.map_nil, List.replicate_succ, List.replicate_zero, List.cons_append, List.nil_append]; unfold B_exchanged
  (repeat array_get_dec)
  refine wa_eq (ways_ok l hl) ?_
  (repeat array_get_dec)
  have hf := find_ex (one a) (l ++ l.map swX)
  have ho2 : ∀ e ∈ l ++ l.map swX, okE e := fun e he => by
    rcases List.mem_append.mp he with he | he
    · exact ho e he
    · obtain ⟨e2, h2, rfl⟩ := List.mem_map.mp he
      exact ⟨(ho e2 h2).2, (ho e2 h2).1⟩
  refine ws_find (fD (one a)) (fun ds ρ => ∃ c2 c3 : Option Cell, ρ = [some (.v (.tuple (exs l))), some (.v (.int a)), c2, c3] ∧ PlainC c2 ∧ PlainC c3 ∧ ∀ d ∈ ds, ∃ e, d = exD e ∧ okE e) ?_ _ ⟨none, none, rfl, .inl rfl, .inl rfl, ?_⟩ ?_ ?_
  · rintro d ds ρ ⟨c2, c3, rfl, q2, q3, hd⟩
    obtain ⟨e, rfl, ok⟩ := hd d (by simp)
    have e2 : fD (one a) (exD e) = (one a e).map PyData.int := rfl
    rw [e2]
    unfold exD pr X_exchanged_1
    (repeat array_get_dec)
    refine wa_eq (holds_ok ok.1.2.2.1 ok.1.2.2.2) ?_
    (repeat array_get_dec)
    cases hh : hld a (e.1.1, e.1.2) with
    | true =>
      (repeat array_get_dec)
      simp [one, hh]
    | false =>
      (repeat array_get_dec)
      have : one a e = none := by simp [one, hh]
      rw [this]
      exact ⟨rfl, _, _, rfl, .inr ⟨_, rfl⟩, .inr ⟨_, rfl⟩, fun y hy => hd y (by simp [hy])⟩
  · intro d hd
    obtain ⟨e, he, rfl⟩ := List.mem_map.mp hd
    exact ⟨e, rfl, ho2 e he⟩
  · rintro er ρ1 ⟨c2, c3, rfl, _⟩
    rw [hf] at er
    (repeat array_get_dec)
    rw [Option.map_eq_none_iff.mp er]
    rfl
  · intro r er ρ1
    rw [hf] at er
    obtain ⟨z, hz, rfl⟩ := Option.map_eq_some_iff.mp er
    show PyData.int z = _
    rw [hz]
    rfl
theorem turn_sw (E0 : Option Cell) (a : Int) (e : Ex) (ok : okE e) (c3 : Option Cell) (q3 : PlainC c3) :
    WS X_law_swap_2 [E0, some (.v (.int a)), some (.v (exD e)), c3] fun o ρ2 => match fD (both2 a) (exD e) with
      | some r => o = .ret r
      | none => o = .next ∧ ∃ c3, ρ2 = [E0, some (.v (.int a)), some (.v (exD e)), c3] ∧ PlainC c3 := by
  have e2 : fD (both2 a) (exD e) = (both2 a e).map PyData.int := rfl
  rw [e2]
  obtain ⟨⟨a1, a2, a3, a4⟩, b1, b2, b3, b4⟩ := ok
  unfold X_law_swap_2 exD pr
  have h1 := hld_iff a e.1
  have h2 := hld_iff a e.2
  (repeat array_get_dec)
  refine ws_forc ?_
  (repeat array_get_dec)
  unfold X_law_swap_1
  by_cases c1 : hld a e.1 = true
  · have e3 : both2 a e = some (a - e.1.1 + e.2.1) := by simp [both2, c1]
    rw [e3]
    obtain ⟨k1, k2⟩ := h1.mp c1
    (repeat array_get_dec)
    (first | ((with_reducible apply PG.decy_i); (case h => omega)) | ((with_reducible apply PG.decno_i); (case h => omega)) | ((with_reducible apply PG.ndecy_i); (case h => omega)) | ((with_reducible apply PG.ndecno_i); (case h => omega)))
    (repeat array_get_dec)
    refine wa_eq (last_ok a3 a4) ?_
    (repeat array_get_dec)
    (first | ((with_reducible apply PG.decy_i); (case h => omega)) | ((with_reducible apply PG.decno_i); (case h => omega)) | ((with_reducible apply PG.ndecy_i); (case h => omega)) | ((with_reducible apply PG.ndecno_i); (case h => omega)))
    (repeat array_get_dec)
    refine wa_eq (e := .tuple [.int e.2.1, .int e.2.2]) rfl ?_
    (repeat array_get_dec)
    rfl
  · have k : e.1.1 ≤ a → ¬ a ≤ e.1.1 + sz e.1.2 - 1 := fun z y => c1 (h1.mpr ⟨z, by omega⟩)
    have next : WS (sSeq (forL (gSet 3) X_law_swap_1 [PyData.int 1]) sNil) [E0, some (.v (.int a)), some (.v (.tuple [.tuple [.int e.1.1, .int e.1.2], .tuple [.int e.2.1, .int e.2.2]])), some (.v (.int 0))] fun o ρ2 => match (both2 a e).map PyData.int with
        | some r => o = .ret r
        | none => o = .next ∧ ∃ c3, ρ2 = [E0, some (.v (.int a)), some (.v (.tuple [.tuple [.int e.1.1, .int e.1.2], .tuple [.int e.2.1, .int e.2.2]])), c3] ∧ PlainC c3 := by
      refine ws_forc ?_
      (repeat array_get_dec)
      unfold X_law_swap_1
      by_cases c2 : hld a e.2 = true
      · have e3 : both2 a e = some (a - e.2.1 + e.1.1) := by simp [both2, c1, c2]
        rw [e3]
        obtain ⟨k1, k2⟩ := h2.mp c2
        (repeat array_get_dec)
        (first | ((with_reducible apply PG.decy_i); (case h => omega)) | ((with_reducible apply PG.decno_i); (case h => omega)) | ((with_reducible apply PG.ndecy_i); (case h => omega)) | ((with_reducible apply PG.ndecno_i); (case h => omega)))
        (repeat array_get_dec)
        refine wa_eq (last_ok b3 b4) ?_
        (repeat array_get_dec)
        (first | ((with_reducible apply PG.decy_i); (case h => omega)) | ((with_reducible apply PG.decno_i); (case h => omega)) | ((with_reducible apply PG.ndecy_i); (case h => omega)) | ((with_reducible apply PG.ndecno_i); (case h => omega)))
        (repeat array_get_dec)
        refine wa_eq (e := .tuple [.int e.1.1, .int e.1.2]) rfl ?_
        (repeat array_get_dec)
        rfl
      · have e3 : both2 a e = none := by simp [both2, c1, c2]
        rw [e3]
        have k' : e.2.1 ≤ a → ¬ a ≤ e.2.1 + sz e.2.2 - 1 := fun z y => c2 (h2.mpr ⟨z, by omega⟩)
        (repeat array_get_dec)
        (first | (with_reducible apply PG.dec_i) | (with_reducible apply PG.decn_i) | (with_reducible apply PG.bit_i)) <;> intro h
        · (repeat array_get_dec)
          refine wa_eq (last_ok b3 b4) ?_
          (repeat array_get_dec)
          have := k' h
          (first | ((with_reducible apply PG.decy_i); (case h => omega)) | ((with_reducible apply PG.decno_i); (case h => omega)) | ((with_reducible apply PG.ndecy_i); (case h => omega)) | ((with_reducible apply PG.ndecno_i); (case h => omega)))
          (repeat array_get_dec)
          refine ws_forn ?_
          (repeat array_get_dec)
          exact ⟨rfl, _, rfl, .inr ⟨_, rfl⟩⟩
        · (repeat array_get_dec)
          refine ws_forn ?_
          (repeat array_get_dec)
          exact ⟨rfl, _, rfl, .inr ⟨_, rfl⟩⟩
    (repeat array_get_dec)
    (first | (with_reducible apply PG.dec_i) | (with_reducible apply PG.decn_i) | (with_reducible apply PG.bit_i)) <;> intro h
    · (repeat array_get_dec)
      refine wa_eq (last_ok a3 a4) ?_
      (repeat array_get_dec)
      have := k h
      (first | ((with_reducible apply PG.decy_i); (case h => omega)) | ((with_reducible apply PG.decno_i); (case h => omega)) | ((with_reducible apply PG.ndecy_i); (case h => omega)) | ((with_reducible apply PG.ndecno_i); (case h => omega)))
      (repeat array_get_dec)
      exact next
    · (repeat array_get_dec)
      exact next
end Pr_gatewarden_k08_whole_exchanges_undo_them
end
section
set_option linter.all false
set_option maxRecDepth 100000
set_option Elab.async false
namespace Pr_gatewarden_k08_whole_exchanges_undo_them
open PySem PG Pr_C Pr_D Pr_X
local macro_rules | `(tactic| array_get_dec) => `(tactic| first | ((with_reducible apply PG.ws_set)) | ((with_reducible apply PG.ws_if)) | ((with_reducible apply PG.ws_ret)) | ((with_reducible apply PG.ws_setL)) | ((with_reducible apply PG.ws_expr)) | ((with_reducible apply PG.ws_nilc)) | ((with_reducible apply PG.ws_asc)) | ((with_reducible apply PG.ws_nil)) | ((with_reducible apply PG.ws_for)) | ((with_reducible apply PG.ws_asg)) | ((with_reducible apply PG.ws_par)) | ((with_reducible apply PG.ws_retL)) | ((with_reducible apply PG.ws_brk)) | ((with_reducible apply PG.ws_cont)) | ((with_reducible apply PG.ws_forn)) | ((with_reducible apply PG.ws_sto)) | ((with_reducible apply PG.ws_aug); (case hget => rfl)) | ((with_reducible apply PG.ws_app); (case hget => rfl)) | ((with_reducible apply PG.ws_retO); (case hget => rfl)) | ((with_reducible apply PG.we_name); (case hget => rfl)) | ((with_reducible apply PG.we_c)) | ((with_reducible apply PG.we_bin)) | ((with_reducible apply PG.we_un)) | ((with_reducible apply PG.we_call)) | ((with_reducible apply PG.we_callL); (case hget => rfl)) | ((with_reducible apply PG.we_tup)) | ((with_reducible apply PG.we_lst)) | ((with_reducible apply PG.we_if)) | ((with_reducible apply PG.we_ixL); (case hget => rfl)) | ((with_reducible apply PG.we_unL); (case hget => rfl)) | ((with_reducible apply PG.we_and)) | ((with_reducible apply PG.we_or)) | ((with_reducible apply PG.we_not)) | ((with_reducible apply PG.we_chain)) | ((with_reducible apply PG.we_slT)) | ((with_reducible apply PG.wn_cons)) | ((with_reducible apply PG.wn_nil)) | ((with_reducible apply PG.wn_star)) | ((with_reducible apply PG.wn_disp)) | ((with_reducible apply PG.wn_call)) | ((with_reducible apply PG.wn_sl)) | ((with_reducible apply PG.wn_its)) | ((with_reducible apply PG.wn_r1)) | ((with_reducible apply PG.wn_r2)) | ((with_reducible apply PG.wn_r3)) | ((with_reducible apply PG.wt_tru)) | ((with_reducible apply PG.wt_bl)) | ((with_reducible apply PG.wt_and)) | ((with_reducible apply PG.wt_or)) | ((with_reducible apply PG.wt_not)) | ((with_reducible apply PG.wt_yes)) | ((with_reducible apply PG.wt_truL); (case hget => rfl)) | ((with_reducible apply PG.wo_none)) | ((with_reducible apply PG.wo_some)) | ((with_reducible apply PG.wg_p0)) | ((with_reducible apply PG.wg_tup)) | ((with_reducible apply PG.wg_ps); (case hset => (repeat' (first | exact PG.SetR.h0 | exact PG.SetR.h1 | exact PG.SetR.hl | exact PG.SetR.hc (by assumption) | apply PG.SetR.s)))) | ((with_reducible apply PG.wg_set); (case hset => (repeat' (first | exact PG.SetR.h0 | exact PG.SetR.h1 | exact PG.SetR.hl | exact PG.SetR.hc (by assumption) | apply PG.SetR.s)))) | ((with_reducible apply PG.we_frz); (case hget => rfl); (case hset => (repeat' (first | exact PG.SetR.h0 | exact PG.SetR.h1 | exact PG.SetR.hl | exact PG.SetR.hc (by assumption) | apply PG.SetR.s)))) | ((with_reducible apply PG.setr_i); (case hset => (repeat' (first | exact PG.SetR.h0 | exact PG.SetR.h1 | exact PG.SetR.hl | exact PG.SetR.hc (by assumption) | apply PG.SetR.s)))) | ((with_reducible apply PG.setl_i); (case hset => (repeat' (first | exact PG.SetLR.h0 | exact PG.SetLR.h1 | exact PG.SetLR.hl | apply PG.SetLR.s)))) | ((with_reducible apply PG.put_i); (case hset => (repeat' (first | exact PG.PutR.h | apply PG.PutR.s)))) | ((with_reducible apply PG.pool_i); (case hget => rfl)) | ((with_reducible apply PG.bool_i)) | ((with_reducible apply PG.int_i)) | ((with_reducible apply PG.seqL_i)) | ((with_reducible apply PG.seqT_i)) | ((with_reducible apply PG.seqR_i)) | ((with_reducible apply PG.starT_i)) | ((with_reducible apply PG.starL_i)) | ((with_reducible apply PG.len_i); (case h => rfl)) | ((with_reducible apply PG.tup_i)) | ((with_reducible apply PG.yes_i)) | ((with_reducible apply PG.no_i)) | ((with_reducible apply PG.nyes_i)) | ((with_reducible apply PG.nno_i)) | ((with_reducible apply PG.wa_add)) | ((with_reducible apply PG.wa_sub)) | ((with_reducible apply PG.wa_lt)) | ((with_reducible apply PG.wa_le)) | ((with_reducible apply PG.wa_gt)) | ((with_reducible apply PG.wa_ge)) | ((with_reducible apply PG.wa_eqI)) | ((with_reducible apply PG.wa_neI)) | ((with_reducible apply PG.wa_neg)) | ((with_reducible apply PG.wa_lenL)) | ((with_reducible apply PG.wa_lenT)) | ((with_reducible apply PG.wa_int)) | ((with_reducible apply PG.wa_max)) | ((with_reducible apply PG.wa_min)) | ((with_reducible apply PG.wb_bool)) | ((with_reducible apply PG.wb_int)) | ((with_reducible apply PG.endP_ret)) | ((with_reducible apply PG.endP_retL)) | ((with_reducible apply PG.endN_ret)) | ((with_reducible apply PG.endL_ret)) | ((with_reducible apply PG.endL_retL)) | ((with_reducible apply PG.wa_binO)) | ((with_reducible apply PG.ch_le)) | ((with_reducible apply PG.ch_lt)) | ((with_reducible apply PG.ch_eq)) | ((with_reducible apply PG.wa_ix0); (case hget => rfl)) | ((with_reducible apply PG.wa_ix1); (case hget => rfl)) | ((with_reducible apply PG.wa_ix2); (case hget => rfl)) | ((with_reducible apply PG.wa_ix3); (case hget => rfl)) | ((with_reducible apply PG.wa_ix4); (case hget => rfl)) | ((with_reducible apply PG.wa_ix5); (case hget => rfl)) | ((with_reducible apply PG.wa_ix6); (case hget => rfl)) | ((with_reducible apply PG.wa_ix7); (case hget => rfl)) | ((with_reducible apply PG.wa_ix8); (case hget => rfl)) | ((with_reducible apply PG.wa_il0); (case hget => rfl)) | ((with_reducible apply PG.wa_il1); (case hget => rfl)) | ((with_reducible apply PG.wa_il2); (case hget => rfl)) | ((with_reducible apply PG.wa_ev1)) | ((with_reducible apply PG.wa_ev)) | ((with_reducible apply PG.wl_ev)) | ((with_reducible apply PG.wb_ev)) | ((with_reducible apply PG.wa_mod); (case h1 => omega)) | ((with_reducible apply PG.wa_div); (case h1 => omega); (case h2 => omega)) | ((with_reducible apply PG.wa_mulR); (case h1 => omega); (case h2 => omega)) | ((with_reducible apply PG.wa_mulL); (case h1 => omega); (case h2 => omega)) | ((with_reducible apply PG.wa_shr); (case h1 => omega)))
local macro_rules | `(tactic| array_get_dec) => `(tactic| first | ((with_reducible apply Pr_C.wp_draw); (case hp => assumption); (case h0 => omega); (case h1 => omega)) | ((with_reducible apply Pr_C.ls_i); (case hp => assumption)))

theorem law_swap_ok (l : List Ex) (a : Int) (ho : ∀ e ∈ l, okE e) : F_law_swap [.tuple (exs l), .int a] = some (.int (swp l a)) := by
  refine of_wa ?_
  unfold F_law_swap; refine PG.wa_def rfl ?_; simp only [PG.rho0_eq, List.map_cons, List.map_nil, List.replicate_succ, List.replicate_zero, List.cons_append, List.nil_append]; unfold B_law_swap
  (repeat array_get_dec)
  have hf := find_ex (both2 a) l
  refine ws_find (fD (both2 a)) (fun ds ρ => ∃ c2 c3 : Option Cell, ρ = [some (.v (.tuple (exs l))), some (.v (.int a)), c2, c3] ∧ PlainC c2 ∧ PlainC c3 ∧ ∀ d ∈ ds, ∃ e, d = exD e ∧ okE e) ?_ _ ⟨none, none, rfl, .inl rfl, .inl rfl, ?_⟩ ?_ ?_
  · rintro d ds ρ ⟨c2, c3, rfl, q2, q3, hd⟩
    obtain ⟨e, rfl, ok⟩ := hd d (by simp)
    (repeat array_get_dec)
    obtain ⟨o, ρ2, e2, m⟩ := turn_sw (some (.v (.tuple (exs l)))) a e ok c3 q3
    refine ⟨o, ρ2, e2, ?_⟩
    cases ef : fD (both2 a) (exD e) with
    | some r => rw [ef] at m; exact m
    | none =>
      rw [ef] at m
      obtain ⟨rfl, d3, rfl, w3⟩ := m
      exact ⟨rfl, _, _, rfl, .inr ⟨_, rfl⟩, w3, fun y hy => hd y (by simp [hy])⟩
  · intro d hd
    obtain ⟨e, he, rfl⟩ := List.mem_map.mp hd
    exact ⟨e, rfl, ho e he⟩
  · rintro er ρ1 ⟨c2, c3, rfl, _⟩
    rw [hf] at er
    (repeat array_get_dec)
    simp [swp, Option.map_eq_none_iff.mp er]
  · intro r er ρ1
    rw [hf] at er
    obtain ⟨z, hz, rfl⟩ := Option.map_eq_some_iff.mp er
    show PyData.int z = _
    simp [swp, hz]
/-! ### there and back -/
theorem hld_apart {a : Int} {x y : Int × Int} (h : apart x y = true) (hx : hld a x = true) : hld a y = false := by
  cases hy : hld a y with
  | false => rfl
  | true =>
    have h1 := (hld_iff a x).mp hx
    have h2 := (hld_iff a y).mp hy
    unfold apart lst at h
    simp only [Bool.or_eq_true, decide_eq_true_eq] at h
    omega
theorem pw_ex {e : Ex} {l : List Ex} (h : PW (prefs (e :: l)) = true) : apart e.1 e.2 = true ∧ (∀ x ∈ prefs l, apart e.1 x = true ∧ apart e.2 x = true) ∧ PW (prefs l) = true := by
  have e1 : prefs (e :: l) = e.1 :: e.2 :: prefs l := rfl
  rw [e1] at h
  simp only [PW, List.all_cons, Bool.and_eq_true, List.all_eq_true] at h
  exact ⟨h.1.1, fun x hx => ⟨h.1.2 x hx, h.2.1 x hx⟩, h.2.2⟩
theorem mem_prefs {e : Ex} {l : List Ex} (h : e ∈ l) : e.1 ∈ prefs l ∧ e.2 ∈ prefs l := by
  unfold prefs
  exact ⟨List.mem_flatMap.mpr ⟨e, h, by simp⟩, List.mem_flatMap.mpr ⟨e, h, by simp⟩⟩
theorem swp_cons (e : Ex) (l : List Ex) (a : Int) : swp (e :: l) a = match both2 a e with
    | some r => r
    | none => swp l a := by
  unfold swp
  rw [List.findSome?_cons]
  cases both2 a e <;> rfl
theorem swp_one {a : Int} {e : Ex} : ∀ {l : List Ex}, PW (prefs l) = true → e ∈ l → hld a e.1 = true → swp l a = a - e.1.1 + e.2.1
  | [], _, h, _ => by cases h
  | e' :: l, hp, he, hh => by
    obtain ⟨h1, h2, h3⟩ := pw_ex hp
    rw [swp_cons]
    rcases List.mem_cons.mp he with rfl | he
    · simp [both2, hh]
    · have m := h2 _ (mem_prefs he).1
      have k1 := hld_apart (a := a) (by rw [apart_comm]; exact m.1) hh
      have k2 := hld_apart (a := a) (by rw [apart_comm]; exact m.2) hh
      simp [both2, k1, k2, swp_one h3 he hh]
theorem swp_two {a : Int} {e : Ex} : ∀ {l : List Ex}, PW (prefs l) = true → e ∈ l → hld a e.2 = true → swp l a = a - e.2.1 + e.1.1
  | [], _, h, _ => by cases h
  | e' :: l, hp, he, hh => by
    obtain ⟨h1, h2, h3⟩ := pw_ex hp
    rw [swp_cons]
    rcases List.mem_cons.mp he with rfl | he
    · have k := hld_apart (a := a) (by rw [apart_comm]; exact h1) hh
      simp [both2, k, hh]
    · have m := h2 _ (mem_prefs he).2
      have k1 := hld_apart (a := a) (by rw [apart_comm]; exact m.1) hh
      have k2 := hld_apart (a := a) (by rw [apart_comm]; exact m.2) hh
      simp [both2, k1, k2, swp_two h3 he hh]
theorem swp_none {a : Int} : ∀ {l : List Ex}, (∀ e ∈ l, hld a e.1 = false ∧ hld a e.2 = false) → swp l a = a
  | [], _ => rfl
  | e :: l, h => by
    rw [swp_cons]
    have k := h e (by simp)
    have ih := swp_none (l := l) (a := a) fun e' h' => h e' (List.mem_cons_of_mem _ h')
    simp [both2, k.1, k.2, ih]
theorem swp_cases (l : List Ex) (a : Int) : (∃ e ∈ l, hld a e.1 = true) ∨ (∃ e ∈ l, hld a e.2 = true) ∨ ∀ e ∈ l, hld a e.1 = false ∧ hld a e.2 = false := by
  by_cases h1 : ∃ e ∈ l, hld a e.1 = true
  · exact .inl h1
  · by_cases h2 : ∃ e ∈ l, hld a e.2 = true
    · exact .inr (.inl h2)
    · refine .inr (.inr fun e he => ⟨?_, ?_⟩)
      · cases h : hld a e.1 with
        | false => rfl
        | true => exact absurd ⟨e, he, h⟩ h1
      · cases h : hld a e.2 with
        | false => rfl
        | true => exact absurd ⟨e, he, h⟩ h2
theorem swp_back {l : List Ex} {a : Int} (hp : PW (prefs l) = true) (hs : ∀ e ∈ l, e.1.2 = e.2.2) : swp l (swp l a) = a := by
  rcases swp_cases l a with ⟨e, he, hh⟩ | ⟨e, he, hh⟩ | h
  · rw [swp_one hp he hh]
    have k := (hld_iff a e.1).mp hh
    have k2 : hld (a - e.1.1 + e.2.1) e.2 = true := (hld_iff _ _).mpr (by rw [← hs e he]; omega)
    rw [swp_two hp he k2]
    omega
  · rw [swp_two hp he hh]
    have k := (hld_iff a e.2).mp hh
    have k2 : hld (a - e.2.1 + e.1.1) e.1 = true := (hld_iff _ _).mpr (by rw [hs e he]; omega)
    rw [swp_one hp he k2]
    omega
  · rw [swp_none h, swp_none h]
theorem one_none {a : Int} : ∀ {l : List Ex}, (∀ e ∈ l, hld a e.1 = false) → l.findSome? (one a) = none
  | [], _ => rfl
  | e :: l, h => by
    rw [List.findSome?_cons]
    have k := h e (by simp)
    simp only [one, k, Bool.false_eq_true, if_false]
    exact one_none fun e' h' => h e' (by simp [h'])
theorem one_some {a : Int} {e : Ex} : ∀ {l : List Ex}, PW (prefs l) = true → e ∈ l → hld a e.1 = true → l.findSome? (one a) = some (a - e.1.1 + e.2.1)
  | [], _, h, _ => by cases h
  | e' :: l, hp, he, hh => by
    obtain ⟨h1, h2, h3⟩ := pw_ex hp
    rw [List.findSome?_cons]
    rcases List.mem_cons.mp he with rfl | he
    · simp [one, hh]
    · have m := h2 _ (mem_prefs he).1
      have k1 := hld_apart (a := a) (by rw [apart_comm]; exact m.1) hh
      simp only [one, k1, Bool.false_eq_true, if_false]
      exact one_some h3 he hh
theorem one_swap {a : Int} {e : Ex} : ∀ {l : List Ex}, PW (prefs l) = true → e ∈ l → hld a e.2 = true → (l.map swX).findSome? (one a) = some (a - e.2.1 + e.1.1)
  | [], _, h, _ => by cases h
  | e' :: l, hp, he, hh => by
    obtain ⟨h1, h2, h3⟩ := pw_ex hp
    rw [List.map_cons, List.findSome?_cons]
    rcases List.mem_cons.mp he with rfl | he
    · simp [one, swX, hh]
    · have m := h2 _ (mem_prefs he).2
      have k2 := hld_apart (a := a) (by rw [apart_comm]; exact m.2) hh
      simp only [one, swX, k2, Bool.false_eq_true, if_false]
      exact one_swap h3 he hh
theorem first_none {a : Int} {e : Ex} : ∀ {l : List Ex}, PW (prefs l) = true → e ∈ l → hld a e.2 = true → ∀ e' ∈ l, hld a e'.1 = false
  | [], _, h, _ => by cases h
  | e0 :: l, hp, he, hh => by
    obtain ⟨h1, h2, h3⟩ := pw_ex hp
    intro e' he'
    rcases List.mem_cons.mp he with z | hm
    · rcases List.mem_cons.mp he' with y | hm'
      · subst y; subst z; exact hld_apart (by rw [apart_comm]; exact h1) hh
      · subst z; exact hld_apart (h2 _ (mem_prefs hm').1).2 hh
    · rcases List.mem_cons.mp he' with y | hm'
      · subst y; exact hld_apart (by rw [apart_comm]; exact (h2 _ (mem_prefs hm).2).1) hh
      · exact first_none h3 hm hh e' hm'
/-- the program's is the law's -/
theorem exchanged_swp (l : List Ex) (a : Int) (ho : ∀ e ∈ l, okE e) (hl : l.length ≤ 1000) (hp : PW (prefs l) = true) : F_exchanged [.tuple (exs l), .int a] = some (.int (swp l a)) := by
  rw [exchanged_ok l a ho hl, List.findSome?_append]
  rcases swp_cases l a with ⟨e, he, hh⟩ | ⟨e, he, hh⟩ | h
  · rw [swp_one hp he hh, one_some hp he hh]
    rfl
  · rw [swp_two hp he hh, one_none (first_none hp he hh), one_swap hp he hh]
    rfl
  · rw [swp_none h, one_none fun e he => (h e he).1, one_none fun e he => by
      obtain ⟨e2, h2, rfl⟩ := List.mem_map.mp he
      exact (h e2 h2).2]
    rfl
end Pr_gatewarden_k08_whole_exchanges_undo_them
end
section
set_option linter.all false
set_option maxRecDepth 100000
set_option Elab.async false
namespace Pr_gatewarden_k08_whole_exchanges_undo_them
open PySem PG Pr_C Pr_D Pr_X
/-! ### the union of many pieces: C_q and C_u over dSortSetA -/
theorem dSortSetA_ints (ns : List Int) (h : ns.length < 4000) : dSortSetA (.list (ns.map PyData.int)) = some ((sortI ns).map PyData.int) := by
  simp [dSortSetA, intsOf_ints, h]
theorem comp_u1 (l : List (Int × Int)) (top : Int) (hl : l.length ≤ 1000) : nComp (itS (eName 0)) (gSet 5) tYesF X_law_union_1 [5] [some (.v (.list (prs l))), some (.v (.int top)), none, none, none, none] = some (l.map (fun p => PyData.int (if top + 1 < p.1 then top + 1 else p.1)), [some (.v (.list (prs l))), some (.v (.int top)), none, none, none, none]) := by
  have hc := compL_pure (g := gSet 5) (t := tYesF) (e := X_law_union_1) (vs := [5]) (ρ := [some (.v (.list (prs l))), some (.v (.int top)), none, none, none, none]) (fun _ => true) (mn1 top) (prs l) [] (by simp [prs]; omega) (by
    intro y hy
    obtain ⟨p, _, rfl⟩ := List.mem_map.mp hy
    exact ⟨[some (.v (.list (prs l))), some (.v (.int top)), none, none, none, some (.v (pr p))], by simp, by simp, by simp [X_law_union_1, pr, mn1, -dIx], by simp [plainAt], by simp [wipeR]⟩)
  rw [map_true] at hc
  have e : (prs l).map (mn1 top) = l.map (fun p => PyData.int (if top + 1 < p.1 then top + 1 else p.1)) := by simp [prs, pr, mn1]
  rw [e] at hc
  unfold nComp
  simp [plainAt, wipeR, restR] at hc ⊢
  simp [hc]
theorem comp_u2 (l : List (Int × Int)) (top : Int) (hl : l.length ≤ 1000) : nComp (itS (eName 0)) (gSet 5) tYesF X_law_union_2 [5] [some (.v (.list (prs l))), some (.v (.int top)), none, none, none, none] = some (l.map (fun p => PyData.int (if top + 1 < p.2 + 1 then top + 1 else p.2 + 1)), [some (.v (.list (prs l))), some (.v (.int top)), none, none, none, none]) := by
  have hc := compL_pure (g := gSet 5) (t := tYesF) (e := X_law_union_2) (vs := [5]) (ρ := [some (.v (.list (prs l))), some (.v (.int top)), none, none, none, none]) (fun _ => true) (mn2 top) (prs l) [] (by simp [prs]; omega) (by
    intro y hy
    obtain ⟨p, _, rfl⟩ := List.mem_map.mp hy
    exact ⟨[some (.v (.list (prs l))), some (.v (.int top)), none, none, none, some (.v (pr p))], by simp, by simp, by simp [X_law_union_2, pr, mn2, -dIx], by simp [plainAt], by simp [wipeR]⟩)
  rw [map_true] at hc
  have e : (prs l).map (mn2 top) = l.map (fun p => PyData.int (if top + 1 < p.2 + 1 then top + 1 else p.2 + 1)) := by simp [prs, pr, mn2]
  rw [e] at hc
  unfold nComp
  simp [plainAt, wipeR, restR] at hc ⊢
  simp [hc]
theorem turn_no (L : PyData) (E F : List PyData) (top : Int) (k : PyData) (e0 : PyData) (h0 : dIx (.list E) k = some e0) (hh : F_law_has [L, e0] = some (.bool false)) :
    X_law_union_3 [some (.v L), some (.v (.int top)), some (.v (.list E)), some (.l false F), some (.v k), none] = some (.next, [some (.v L), some (.v (.int top)), some (.v (.list E)), some (.l false F), some (.v k), none]) := by
  simp [X_law_union_3, -dIx, h0, hh]
theorem turn_new (L : PyData) (E F : List PyData) (top k e0 e1 : Int) (h0 : dIx (.list E) (.int k) = some (.int e0)) (h1 : dIx (.list E) (.int (k + 1)) = some (.int e1)) (hh : F_law_has [L, .int e0] = some (.bool true)) (hf : F.length < 16777216) (hn : F = [] ∨ ∃ G a b, F = G ++ [.tuple [.int a, .int b]] ∧ b + 1 ≠ e0) :
    X_law_union_3 [some (.v L), some (.v (.int top)), some (.v (.list E)), some (.l false F), some (.v (.int k)), none] = some (.next, [some (.v L), some (.v (.int top)), some (.v (.list E)), some (.l false (F ++ [.tuple [.int e0, .int (e1 - 1)]])), some (.v (.int k)), none]) := by
  rcases hn with rfl | ⟨G, a, b, rfl, hne⟩
  · simp [X_law_union_3, -dIx, h0, h1, hh]
  · have hl := atD_last G (.tuple [.int a, .int b])
    have hp : (0 : Int) < ((G ++ [PyData.tuple [.int a, .int b]]).length : Int) := by simp
    generalize G ++ [PyData.tuple [.int a, .int b]] = F at *
    have hp' : 0 < F.length := by omega
    simp [X_law_union_3, -dIx, h0, h1, hh, hl, hne, hf, hp']
theorem turn_join (L : PyData) (E G : List PyData) (top k e0 e1 a b : Int) (h0 : dIx (.list E) (.int k) = some (.int e0)) (h1 : dIx (.list E) (.int (k + 1)) = some (.int e1)) (hh : F_law_has [L, .int e0] = some (.bool true)) (hne : b + 1 = e0) :
    X_law_union_3 [some (.v L), some (.v (.int top)), some (.v (.list E)), some (.l false (G ++ [.tuple [.int a, .int b]])), some (.v (.int k)), none] = some (.next, [some (.v L), some (.v (.int top)), some (.v (.list E)), some (.l false (G ++ [.tuple [.int a, .int (e1 - 1)]])), some (.v (.int k)), none]) := by
  have hl := atD_last G (.tuple [.int a, .int b])
  have hi := ixOf_last G (.tuple [.int a, .int b])
  have hs : (G ++ [PyData.tuple [.int a, .int b]]).set G.length (.tuple [.int a, .int (e1 - 1)]) = G ++ [.tuple [.int a, .int (e1 - 1)]] := by simp
  have hp : (0 : Int) < ((G ++ [PyData.tuple [.int a, .int b]]).length : Int) := by simp
  generalize G ++ [PyData.tuple [.int a, .int b]] = F at *
  have hp' : 0 < F.length := by omega
  simp [X_law_union_3, -dIx, h0, h1, hh, hl, hne, hi, hs, hp']
theorem union_loop2 (L : PyData) (l : List (Int × Int)) (hL : L = .list (prs l)) (hl : l.length ≤ 16777216) (top : Int) (E : List Int) (hE : E.Pairwise (· < ·)) (hlen : E.length ≤ 4000) (hlow : ∀ e, E[0]? = some e → ∀ m, Mem l m → e ≤ m)
    (hp : ∀ p ∈ l, p.1 ≤ p.2 ∧ p.1 ∈ E ∧ p.2 + 1 ∈ E) :
    ∃ (r : List (Int × Int)) (x4 : Option Cell), forL (gSet 4) X_law_union_3 (rng 0 (E.length - 1)) [some (.v L), some (.v (.int top)), some (.v (.list (E.map PyData.int))), some (.l false []), none, none] = some (.next, [some (.v L), some (.v (.int top)), some (.v (.list (E.map PyData.int))), some (.l false (prs r)), x4, none]) ∧ Can r ∧ r.length ≤ E.length ∧ (∀ e, E[E.length - 1]? = some e → ∀ m, Mem r m ↔ Mem l m ∧ m < e) := by
  obtain ⟨ρ', e, r, x4, rfl, q4, w, c, _, hm⟩ := forL_rng (g := gSet 4) (b := X_law_union_3) (P := fun k ρ => ∃ (r : List (Int × Int)) (x4 : Option Cell), ρ = [some (.v L), some (.v (.int top)), some (.v (.list (E.map PyData.int))), some (.l false (prs r)), x4, none] ∧ plainC x4 ∧ Can r ∧ r.length ≤ k ∧ (∀ e, E[k]? = some e → ∀ x ∈ r, x.2 < e) ∧ (∀ e, E[k]? = some e → ∀ m, Mem r m ↔ Mem l m ∧ m < e))
    (E.length - 1) [some (.v L), some (.v (.int top)), some (.v (.list (E.map PyData.int))), some (.l false []), none, none] ⟨[], none, rfl, .inl rfl, ⟨by simp, by simp⟩, by simp, by simp, fun e he m => ⟨fun h => absurd h mem_nil, fun h => by have := hlow e he m h.1; omega⟩⟩ (by
      rintro k ρ hk ⟨r, x4, rfl, q4, w, c, he, hm⟩
      have k0 : k < E.length := by omega
      have k1 : k + 1 < E.length := by omega
      have hlt : E[k] < E[k + 1] := List.pairwise_iff_getElem.mp hE k (k + 1) k0 k1 (by omega)
      have cons : ∀ x ∈ E, E[k] < x → E[k + 1] ≤ x := by
        intro x hx hlx
        obtain ⟨j, hj, rfl⟩ := List.getElem_of_mem hx
        rcases Nat.lt_trichotomy j (k + 1) with h | h | h
        · rcases Nat.lt_or_ge j k with h' | h'
          · have := List.pairwise_iff_getElem.mp hE j k hj k0 h'; omega
          · have : j = k := by omega
            subst this; omega
        · subst h; exact Int.le_refl _
        · have := List.pairwise_iff_getElem.mp hE (k + 1) j k1 hj h; omega
      have a0 := atD_ints E k k0
      have a1 := atD_ints E (k + 1) k1
      have he := he E[k] (by simp [k0])
      have hm := hm E[k] (by simp [k0])
      have hs : ∀ e, E[k + 1]? = some e → e = E[k + 1] := fun e h => by simpa [k1, eq_comm] using h
      generalize hA : E[k] = A at *
      generalize hB : E[k + 1] = B at *
      have const : ∀ m, A ≤ m → m < B → (Mem l m ↔ Mem l A) := by
        intro m h1 h2
        constructor
        · rintro ⟨p, hpl, h3, h4⟩
          obtain ⟨g1, g2, g3⟩ := hp p hpl
          refine ⟨p, hpl, ?_, by omega⟩
          by_cases hc : A < p.1
          · have := cons _ g2 hc; omega
          · omega
        · rintro ⟨p, hpl, h3, h4⟩
          obtain ⟨g1, g2, g3⟩ := hp p hpl
          have := cons _ g3 (by omega)
          exact ⟨p, hpl, by omega, by omega⟩
      have hg : ∀ (d : PyData), gSet 4 d [some (.v L), some (.v (.int top)), some (.v (.list (E.map PyData.int))), some (.l false (prs r)), x4, none] = some [some (.v L), some (.v (.int top)), some (.v (.list (E.map PyData.int))), some (.l false (prs r)), some (.v d), none] := by
        intro d
        rcases q4 with rfl | ⟨y, rfl⟩ <;> rfl
      have hh := has_ok l L A (.inl hL) hl
      have hiff := hasP_iff l A
      cases hc : hasP l A with
      | false =>
        rw [hc] at hh hiff
        have hno : ¬ Mem l A := fun h => by cases hiff.mpr h
        refine ⟨_, _, hg _, turn_no _ _ _ _ _ _ a0 hh, r, _, rfl, .inr ⟨_, rfl⟩, w, by omega, fun e h x hx => by rw [hs e h]; have := he x hx; omega, fun e h m => ?_⟩
        rw [hs e h, hm m]
        constructor
        · rintro ⟨h1, h2⟩; exact ⟨h1, by omega⟩
        · rintro ⟨h1, h2⟩
          refine ⟨h1, ?_⟩
          by_cases hq : m < A
          · exact hq
          · exact absurd ((const m (by omega) h2).mp h1) hno
      | true =>
        rw [hc] at hh hiff
        have hyes : Mem l A := hiff.mp rfl
        suffices hfin : ∃ r', Fin2 L (E.map PyData.int) top (k : Nat) B (k + 1) l r r' by
          obtain ⟨r', w', c', h', m', e'⟩ := hfin
          exact ⟨_, _, hg _, e', r', _, rfl, .inr ⟨_, rfl⟩, w', c', fun e h x hx => by rw [hs e h]; exact h' x hx, fun e h => by rw [hs e h]; exact m'⟩
        have hfl : (prs r).length < 16777216 := by simp [prs]; omega
        have app : (∀ x ∈ r, x.2 + 1 < A) → (r = [] ∨ ∃ G a b, r = G ++ [(a, b)] ∧ b + 1 ≠ A) → ∃ r', Fin2 L (E.map PyData.int) top (k : Nat) B (k + 1) l r r' := fun hgap hn => ⟨r ++ [(A, B - 1)], can_snoc w (by show A ≤ B - 1; omega) hgap, (by simp; omega), (by
            intro x hx
            rcases List.mem_append.mp hx with hx | hx
            · have := he x hx; omega
            · simp only [List.mem_singleton] at hx
              subst hx
              show B - 1 < B
              omega), (by
            intro m
            rw [mem_app, mem_one, hm m]
            constructor
            · rintro (⟨h1, h2⟩ | ⟨h1, h2⟩)
              · exact ⟨h1, by omega⟩
              · have h1 : A ≤ m := h1
                have h2 : m ≤ B - 1 := h2
                exact ⟨(const m h1 (by omega)).mpr hyes, by omega⟩
            · rintro ⟨h1, h2⟩
              by_cases hq : m < A
              · exact .inl ⟨h1, hq⟩
              · exact .inr ⟨by show A ≤ m; omega, by show m ≤ B - 1; omega⟩), (by
            have e2 : prs (r ++ [(A, B - 1)]) = prs r ++ [.tuple [.int A, .int (B - 1)]] := by simp [prs, pr]
            rw [e2]
            refine turn_new _ _ _ _ _ _ _ a0 a1 hh hfl ?_
            rcases hn with rfl | ⟨G, a, b, rfl, hne⟩
            · exact .inl rfl
            · exact .inr ⟨prs G, a, b, by simp [prs, pr], hne⟩)⟩
        rcases List.eq_nil_or_concat r with rfl | ⟨G, ⟨a, b⟩, hG⟩
        · exact app (by simp) (.inl rfl)
        · rw [List.concat_eq_append] at hG
          subst hG
          have hb := he (a, b) (by simp)
          have hab := w.2 (a, b) (by simp)
          have hlast := can_last w
          by_cases hne : b + 1 = A
          · refine ⟨G ++ [(a, B - 1)], can_snoc (can_left w) (by show a ≤ B - 1; simp only at hab; omega) hlast, ?_, ?_, ?_, ?_⟩
            · simp at c ⊢; omega
            · intro x hx
              rcases List.mem_append.mp hx with hx | hx
              · have := he x (by simp [hx]); omega
              · simp only [List.mem_singleton] at hx
                subst hx
                show B - 1 < B
                omega
            · intro m
              have hm := hm m
              rw [mem_app, mem_one] at hm
              rw [mem_app, mem_one]
              simp only at hab hb hm ⊢
              constructor
              · rintro (h1 | ⟨h1, h2⟩)
                · have := hm.mp (.inl h1)
                  exact ⟨this.1, by omega⟩
                · by_cases hq : m < A
                  · have := hm.mp (.inr ⟨h1, by omega⟩)
                    exact ⟨this.1, by omega⟩
                  · exact ⟨(const m (by omega) (by omega)).mpr hyes, by omega⟩
              · rintro ⟨h1, h2⟩
                by_cases hq : m < A
                · rcases hm.mpr ⟨h1, hq⟩ with q | q
                  · exact .inl q
                  · exact .inr ⟨q.1, by omega⟩
                · exact .inr ⟨by omega, by omega⟩
            · have e2 : prs (G ++ [(a, b)]) = prs G ++ [.tuple [.int a, .int b]] := by simp [prs, pr]
              have e3 : prs (G ++ [(a, B - 1)]) = prs G ++ [.tuple [.int a, .int (B - 1)]] := by simp [prs, pr]
              rw [e2, e3]
              exact turn_join _ _ _ _ _ _ _ _ _ a0 a1 hh hne
          · refine app (fun x hx => ?_) (.inr ⟨G, a, b, rfl, hne⟩)
            rcases List.mem_append.mp hx with hx | hx
            · have := hlast x hx
              simp only at this hab hb
              omega
            · simp only [List.mem_singleton] at hx
              subst hx
              simp only at hb ⊢
              omega)
  refine ⟨r, x4, e, w, by omega, hm⟩
theorem union_ok2 (l : List (Int × Int)) (top : Int) (h0 : 0 ≤ top) (h1 : top < 1000000000) (hl : l.length ≤ 1000) (hok : ∀ x ∈ l, okPair top x) :
    ∃ r : List (Int × Int), F_law_union [.list (prs l), .int top] = some (.tuple (prs r)) ∧ Can r ∧ r.length ≤ 2 * l.length + 2 ∧ ∀ m, Mem r m ↔ Mem l m := by
  have hb : ∀ e ∈ sortI (edges l top), 0 ≤ e ∧ e ≤ top + 1 := by
    intro e he
    rw [mem_sortI] at he
    simp only [edges, List.mem_append, List.mem_cons, List.not_mem_nil, or_false, List.mem_map] at he
    rcases he with ((rfl | rfl) | ⟨p, hp, rfl⟩) | ⟨p, hp, rfl⟩
    · omega
    · omega
    · obtain ⟨o1, o2, o3⟩ := hok p hp
      split <;> omega
    · obtain ⟨o1, o2, o3⟩ := hok p hp
      split <;> omega
  have hin : ∀ p ∈ l, p.1 ≤ p.2 ∧ p.1 ∈ sortI (edges l top) ∧ p.2 + 1 ∈ sortI (edges l top) := by
    intro p hp
    obtain ⟨o1, o2, o3⟩ := hok p hp
    refine ⟨o2, ?_, ?_⟩
    · rw [mem_sortI]
      simp only [edges, List.mem_append, List.mem_map]
      exact .inl (.inr ⟨p, hp, if_neg (by omega)⟩)
    · rw [mem_sortI]
      simp only [edges, List.mem_append, List.mem_map]
      exact .inr ⟨p, hp, if_neg (by omega)⟩
  have htop : top + 1 ∈ sortI (edges l top) := (mem_sortI _ _).mpr (by simp [edges])
  have hln : (edges l top).length = 2 + l.length + l.length := by simp [edges]; omega
  have hls := len_sortI (edges l top)
  have hne : 0 < (sortI (edges l top)).length := List.length_pos_of_mem ((mem_sortI 0 _).mpr (by simp [edges]))
  obtain ⟨r, x4, e, w, c, hm⟩ := union_loop2 (.list (prs l)) l rfl (by omega) top (sortI (edges l top)) (pw_sortI _) (by omega) (by
    rintro e he m ⟨p, hp, h2, h3⟩
    have hz : (0 : Int) ∈ sortI (edges l top) := (mem_sortI 0 _).mpr (by simp [edges])
    have o1 := (hok p hp).1
    obtain ⟨j, hj, hj0⟩ := List.getElem_of_mem hz
    have he' : (sortI (edges l top))[0] = e := by simpa [hne] using he
    rcases Nat.eq_zero_or_pos j with rfl | hjp
    · omega
    · have := List.pairwise_iff_getElem.mp (pw_sortI (edges l top)) 0 j hne hj hjp
      omega) hin
  have hfin : ∀ m, Mem r m ↔ Mem l m := by
    intro m
    have hlast : (sortI (edges l top))[(sortI (edges l top)).length - 1]? = some (top + 1) := by
      obtain ⟨j, hj, hj0⟩ := List.getElem_of_mem htop
      have hk : (sortI (edges l top)).length - 1 < (sortI (edges l top)).length := by omega
      rw [List.getElem?_eq_getElem hk]
      have b1 := hb _ (List.getElem_mem hk)
      rcases Nat.lt_or_ge j ((sortI (edges l top)).length - 1) with h | h
      · have := List.pairwise_iff_getElem.mp (pw_sortI (edges l top)) j _ hj hk h
        omega
      · have : j = (sortI (edges l top)).length - 1 := by omega
        subst this
        rw [hj0]
    rw [hm _ hlast m]
    constructor
    · exact fun h => h.1
    · intro h
      refine ⟨h, ?_⟩
      obtain ⟨p, hp, h2, h3⟩ := h
      have := (hok p hp).2.2
      omega
  refine ⟨r, ?_, w, by have := len_sortI (edges l top); omega, hfin⟩
  clear hfin hm hin hb htop
  have g1 := comp_u1 l top hl
  have g2 := comp_u2 l top hl
  have g3 := dSortSetA_ints (edges l top) (by omega)
  have g4 : (edges l top).map PyData.int = .int 0 :: .int (top + 1) :: (l.map (fun p => PyData.int (if top + 1 < p.1 then top + 1 else p.1)) ++ l.map (fun p => PyData.int (if top + 1 < p.2 + 1 then top + 1 else p.2 + 1))) := by
    simp only [edges, List.map_append, List.map_cons, List.map_nil, List.map_map, List.cons_append, List.nil_append]
    rfl
  rw [g4] at g3
  generalize sortI (edges l top) = E at *
  have g5 : in62 ((E.length : Int) - 1) = true := by simp only [in62, Bool.and_eq_true, decide_eq_true_eq]; omega
  have g6 : ((E.length : Int) - 1).toNat = E.length - 1 := by omega
  have m1 : (l.map (fun p => PyData.int (if top + 1 < p.1 then top + 1 else p.1))).length = l.length := by simp
  have m2 : (l.map (fun p => PyData.int (if top + 1 < p.2 + 1 then top + 1 else p.2 + 1))).length = l.length := by simp
  generalize l.map (fun p => PyData.int (if top + 1 < p.1 then top + 1 else p.1)) = M1 at *
  generalize l.map (fun p => PyData.int (if top + 1 < p.2 + 1 then top + 1 else p.2 + 1)) = M2 at *
  have s1 : 2 + M1.length ≤ 16777216 := by omega
  have s2 : M1.length + 1 + 1 + M2.length ≤ 16777216 := by omega
  simp only [F_law_union, B_law_union, defP]
  simp [g1, g2, g3, s1, s2, sFor, itR1, g5, g6, e]
end Pr_gatewarden_k08_whole_exchanges_undo_them
end
section
set_option linter.all false
set_option maxRecDepth 100000
set_option Elab.async false
namespace Pr_gatewarden_k08_whole_exchanges_undo_them
open PySem PG Pr_C Pr_D Pr_X
/-! ### set_of, as K02_p has it -/
theorem eBin_of {o : PyData → PyData → Option PyData} {f g : EF} {ρ ρ1 ρ2 : Rho} {x y z : PyData} (h1 : f ρ = some (x, ρ1)) (h2 : g ρ1 = some (y, ρ2)) (h3 : o x y = some z) : eBin o f g ρ = some (z, ρ2) := by
  simp only [eBin, h1, h2, h3]
theorem sSet_ok {f : EF} {i : Nat} {ρ ρ1 : Rho} {d : PyData} {x : Option Cell} (h : f ρ = some (d, ρ1)) (hx : ρ1[i]? = some x) (hp : plainC x) : sSet i f ρ = some (.next, ρ1.set i (some (.v d))) := by
  rcases hp with rfl | ⟨y, rfl⟩ <;> simp [h, hx]
theorem sSeq_ok {f g : SF} {ρ ρ1 : Rho} (h : f ρ = some (.next, ρ1)) : sSeq f g ρ = g ρ1 := by
  simp [h]
theorem forL_cons {g : GF} {b : SF} {d : PyData} {r : List PyData} {ρ ρ1 ρ2 : Rho} (h1 : g d ρ = some ρ1) (h2 : b ρ1 = some (.next, ρ2)) : forL g b (d :: r) ρ = forL g b r ρ2 := by
  simp [forL, h1, h2]
theorem forL_cont {g : GF} {b : SF} {d : PyData} {r : List PyData} {ρ ρ1 ρ2 : Rho} (h1 : g d ρ = some ρ1) (h2 : b ρ1 = some (.cont, ρ2)) : forL g b (d :: r) ρ = forL g b r ρ2 := by
  simp [forL, h1, h2]
theorem so_skip (A : Option Cell) (F : List PyData) (lo hi : Int) (h : hi < lo) : X_set_of_1 [A, some (.l false F), some (.v (.int lo)), some (.v (.int hi))] = some (.cont, [A, some (.l false F), some (.v (.int lo)), some (.v (.int hi))]) := by
  simp [X_set_of_1, h]
theorem so_first (A : Option Cell) (lo hi : Int) (h : ¬ hi < lo) : X_set_of_1 [A, some (.l false []), some (.v (.int lo)), some (.v (.int hi))] = some (.next, [A, some (.l false [.tuple [.int lo, .int hi]]), some (.v (.int lo)), some (.v (.int hi))]) := by
  simp [X_set_of_1, h]
theorem so_app (A : Option Cell) (G : List PyData) (a b lo hi : Int) (h : ¬ hi < lo) (hb : ¬ lo ≤ b + 1) (hl : (G ++ [PyData.tuple [.int a, .int b]]).length < 16777216) :
    X_set_of_1 [A, some (.l false (G ++ [.tuple [.int a, .int b]])), some (.v (.int lo)), some (.v (.int hi))] = some (.next, [A, some (.l false (G ++ [.tuple [.int a, .int b]] ++ [.tuple [.int lo, .int hi]])), some (.v (.int lo)), some (.v (.int hi))]) := by
  have e1 := atD_last G (.tuple [.int a, .int b])
  have e2 : (G ++ [PyData.tuple [.int a, .int b]]).isEmpty = false := by simp
  generalize G ++ [PyData.tuple [.int a, .int b]] = F at *
  simp only [X_set_of_1]
  simp [-dIx, -List.isEmpty_eq_false_iff, h, hb, e1, e2, hl]
theorem so_join (A : Option Cell) (G : List PyData) (a b lo hi : Int) (h : ¬ hi < lo) (hb : lo ≤ b + 1) :
    X_set_of_1 [A, some (.l false (G ++ [.tuple [.int a, .int b]])), some (.v (.int lo)), some (.v (.int hi))] = some (.next, [A, some (.l false (G ++ [.tuple [.int a, .int (if b > hi then b else hi)]])), some (.v (.int lo)), some (.v (.int hi))]) := by
  have e1 := atD_last G (.tuple [.int a, .int b])
  have e2 : (G ++ [PyData.tuple [.int a, .int b]]).isEmpty = false := by simp
  have e3 := ixOf_last G (.tuple [.int a, .int b])
  have e4 : ∀ y, (G ++ [PyData.tuple [.int a, .int b]]).set G.length y = G ++ [y] := by intro y; simp
  generalize G ++ [PyData.tuple [.int a, .int b]] = F at *
  simp only [X_set_of_1]
  simp [-dIx, -List.isEmpty_eq_false_iff, h, hb, e1, e2, e3, e4]
theorem so_tgt (A : Option Cell) (F : List PyData) (p : Int × Int) (c2 c3 : Option Cell) (h2 : plainC c2) (h3 : plainC c3) : gTupS [2, 3] (pr p) [A, some (.l false F), c2, c3] = some [A, some (.l false F), some (.v (.int p.1)), some (.v (.int p.2))] := by
  rcases h2 with rfl | ⟨y, rfl⟩ <;> rcases h3 with rfl | ⟨z, rfl⟩ <;> simp [pr]
theorem so_for (A : Option Cell) : ∀ (m r : List (Int × Int)) (c2 c3 : Option Cell), plainC c2 → plainC c3 → Can r → SrtP m → (∀ x ∈ r, ∀ p ∈ m, x.1 ≤ p.1) → r.length + m.length ≤ 1000000 →
    ∃ (r' : List (Int × Int)) (c2' c3' : Option Cell), forL (gTupS [2, 3]) X_set_of_1 (prs m) [A, some (.l false (prs r)), c2, c3] = some (.next, [A, some (.l false (prs r')), c2', c3']) ∧ Can r' ∧ (∀ n, Mem r' n ↔ Mem r n ∨ Mem m n)
  | [], r, c2, c3, _, _, hr, _, _, _ => ⟨r, c2, c3, rfl, hr, fun n => ⟨.inl, fun h => h.elim id fun h => absurd h mem_nil⟩⟩
  | p :: m, r, c2, c3, h2, h3, hr, hs, hle, hl => by
    obtain ⟨s1, s2⟩ := List.pairwise_cons.mp hs
    simp only [List.length_cons] at hl
    have e4 : prs (p :: m) = pr p :: prs m := rfl
    have hlow : ∀ q ∈ m, p.1 ≤ q.1 := by
      intro q hq
      have := SrtO.lexB_no.mp (s1 q hq)
      omega
    rw [e4]
    by_cases c : p.2 < p.1
    · obtain ⟨r', c2', c3', e, k1, k2⟩ := so_for A m r (some (.v (.int p.1))) (some (.v (.int p.2))) (.inr ⟨_, rfl⟩) (.inr ⟨_, rfl⟩) hr s2 (fun x hx q hq => hle x hx q (by simp [hq])) (by omega)
      refine ⟨r', c2', c3', (forL_cont (b := X_set_of_1) (so_tgt A _ p c2 c3 h2 h3) (so_skip A _ _ _ c)).trans e, k1, fun n => ?_⟩
      rw [k2 n, Pr_C.mem_cons]
      constructor
      · rintro (h | h)
        · exact .inl h
        · exact .inr (.inr h)
      · rintro (h | h | h)
        · exact .inl h
        · omega
        · exact .inr h
    · rcases List.eq_nil_or_concat r with rfl | ⟨G, ⟨a, b⟩, hG⟩
      · obtain ⟨r', c2', c3', e, k1, k2⟩ := so_for A m [p] (some (.v (.int p.1))) (some (.v (.int p.2))) (.inr ⟨_, rfl⟩) (.inr ⟨_, rfl⟩) ⟨by simp, fun x hx => by simp only [List.mem_singleton] at hx; subst hx; omega⟩ s2 (fun x hx q hq => by simp only [List.mem_singleton] at hx; subst hx; exact hlow q hq) (by simp; omega)
        refine ⟨r', c2', c3', (forL_cons (b := X_set_of_1) (so_tgt A _ p c2 c3 h2 h3) (so_first A _ _ c)).trans e, k1, fun n => ?_⟩
        rw [k2 n, mem_one, Pr_C.mem_cons]
        constructor
        · exact fun h => .inr h
        · rintro (h | h)
          · exact absurd h mem_nil
          · exact h
      · rw [List.concat_eq_append] at hG
        subst hG
        have ep : prs (G ++ [(a, b)]) = prs G ++ [.tuple [.int a, .int b]] := by simp [prs, pr]
        have hab := hr.2 (a, b) (by simp)
        have hap := hle (a, b) (by simp) p (by simp)
        have hlast := can_last hr
        simp only at hab hap hlast
        rw [ep]
        simp only [List.length_append, List.length_cons, List.length_nil] at hl
        by_cases g : p.1 ≤ b + 1
        · have w : Can (G ++ [(a, if b > p.2 then b else p.2)]) := can_snoc (can_left hr) (by show a ≤ if b > p.2 then b else p.2; split <;> omega) hlast
          obtain ⟨r', c2', c3', e, k1, k2⟩ := so_for A m (G ++ [(a, if b > p.2 then b else p.2)]) (some (.v (.int p.1))) (some (.v (.int p.2))) (.inr ⟨_, rfl⟩) (.inr ⟨_, rfl⟩) w s2 (fun x hx q hq => by
            rcases List.mem_append.mp hx with hx | hx
            · exact hle x (by simp [hx]) q (by simp [hq])
            · simp only [List.mem_singleton] at hx
              subst hx
              exact hle (a, b) (by simp) q (by simp [hq])) (by simp; omega)
          have ep2 : prs (G ++ [(a, if b > p.2 then b else p.2)]) = prs G ++ [.tuple [.int a, .int (if b > p.2 then b else p.2)]] := by simp [prs, pr]
          rw [ep2] at e
          refine ⟨r', c2', c3', (forL_cons (b := X_set_of_1) (so_tgt A _ p c2 c3 h2 h3) (so_join A _ _ _ _ _ c g)).trans e, k1, fun n => ?_⟩
          rw [k2 n, mem_app, mem_app, mem_one, mem_one, Pr_C.mem_cons]
          simp only
          constructor
          · rintro ((h | ⟨h, h'⟩) | h)
            · exact .inl (.inl h)
            · by_cases q : n ≤ b
              · exact .inl (.inr ⟨h, q⟩)
              · refine .inr (.inl ⟨by omega, ?_⟩)
                split at h' <;> omega
            · exact .inr (.inr h)
          · rintro ((h | ⟨h, h'⟩) | ⟨h, h'⟩ | h)
            · exact .inl (.inl h)
            · exact .inl (.inr ⟨h, by split <;> omega⟩)
            · exact .inl (.inr ⟨by omega, by split <;> omega⟩)
            · exact .inr h
        · have w : Can (G ++ [(a, b)] ++ [p]) := can_snoc hr (by omega) fun x hx => by
            rcases List.mem_append.mp hx with hx | hx
            · have := hlast x hx; omega
            · simp only [List.mem_singleton] at hx
              subst hx
              show b + 1 < p.1
              omega
          obtain ⟨r', c2', c3', e, k1, k2⟩ := so_for A m (G ++ [(a, b)] ++ [p]) (some (.v (.int p.1))) (some (.v (.int p.2))) (.inr ⟨_, rfl⟩) (.inr ⟨_, rfl⟩) w s2 (fun x hx q hq => by
            rcases List.mem_append.mp hx with hx | hx
            · exact hle x hx q (by simp [hq])
            · simp only [List.mem_singleton] at hx
              subst hx
              exact hlow q hq) (by simp; omega)
          have ep2 : prs (G ++ [(a, b)] ++ [p]) = prs G ++ [.tuple [.int a, .int b]] ++ [.tuple [.int p.1, .int p.2]] := by simp [prs, pr]
          rw [ep2] at e
          refine ⟨r', c2', c3', (forL_cons (b := X_set_of_1) (so_tgt A _ p c2 c3 h2 h3) (so_app A _ _ _ _ _ c g (by simp [prs]; omega))).trans e, k1, fun n => ?_⟩
          rw [k2 n, mem_app, mem_one, Pr_C.mem_cons]
          constructor
          · rintro ((h | h) | h)
            · exact .inl h
            · exact .inr (.inl h)
            · exact .inr (.inr h)
          · rintro (h | h | h)
            · exact .inl (.inl h)
            · exact .inl (.inr h)
            · exact .inr h
theorem so_gen (S : PyData → Option (List PyData)) (g : GF) (b : SF) (d : PyData) (ds F : List PyData) (c2 c3 : Option Cell) (h0 : S d = some ds) (h : forL g b ds [some (.v d), some (.l false []), none, none] = some (.next, [some (.v d), some (.l false F), c2, c3])) :
    defP (sSeq (sSetL 1 (nDisp nNil)) (sSeq (sFor (itS (eLst (nCall (n1of S) (nCons (eName 0) nNil)))) g b) (sSeq (sRet (eUnL dTupOf 1)) sNil))) 1 3 [d] = some (.tuple F) := by
  simp [defP, sFor, h0, h]
theorem set_of_ok (l : List (Int × Int)) (hl : l.length ≤ 1000000) : ∃ r, F_set_of [.list (prs l)] = some (.tuple (prs r)) ∧ Can r ∧ ∀ n, Mem r n ↔ Mem l n := by
  have hp := perm_sortP l
  obtain ⟨r, c2, c3, e, k1, k2⟩ := so_for (some (.v (.list (prs l)))) (sortP l) [] none none (.inl rfl) (.inl rfl) ⟨by simp, by simp⟩ (srt_sortP l) (by simp) (by simp [hp.length_eq]; omega)
  refine ⟨r, so_gen dSortP (gTupS [2, 3]) X_set_of_1 _ _ _ c2 c3 (dSortP_prs l) e, k1, fun n => ?_⟩
  rw [k2 n]
  constructor
  · rintro (h | ⟨x, hx, h⟩)
    · exact absurd h mem_nil
    · exact ⟨x, hp.mem_iff.mp hx, h⟩
  · rintro ⟨x, hx, h⟩
    exact .inr ⟨x, hp.mem_iff.mpr hx, h⟩
end Pr_gatewarden_k08_whole_exchanges_undo_them
end
section
set_option linter.all false
set_option maxRecDepth 100000
set_option Elab.async false
namespace Pr_gatewarden_k08_whole_exchanges_undo_them
open PySem PG Pr_C Pr_D Pr_X
/-! ### both -/
def mxI (i j : Int) : Int := if i < j then j else i
def mnI (i j : Int) : Int := if j < i then j else i
theorem mx_le {i j m : Int} : mxI i j ≤ m ↔ i ≤ m ∧ j ≤ m := by
  unfold mxI
  split <;> omega
theorem le_mn {i j m : Int} : m ≤ mnI i j ↔ m ≤ i ∧ m ≤ j := by
  unfold mnI
  split <;> omega
def bothF : Nat → List (Int × Int) → List (Int × Int) → List (Int × Int)
  | 0, _, _ => []
  | _ + 1, [], _ => []
  | _ + 1, _ :: _, [] => []
  | n + 1, x :: a, y :: b => (if mxI x.1 y.1 ≤ mnI x.2 y.2 then [(mxI x.1 y.1, mnI x.2 y.2)] else []) ++ (if x.2 < y.2 then bothF n a (y :: b) else bothF n (x :: a) b)
theorem mem_low {r : List (Int × Int)} {x : Int × Int} {n : Int} (h : Can (x :: r)) (m : Mem r n) : x.2 + 1 < n := (can_tail h).2.2 n m
theorem bothF_mem : ∀ (n : Nat) (a b : List (Int × Int)), Can a → Can b → a.length + b.length < n → ∀ m, Mem (bothF n a b) m ↔ Mem a m ∧ Mem b m
  | 0, a, b, _, _, h, m => absurd h (Nat.not_lt_zero _)
  | n + 1, [], b, _, _, _, m => by
    show Mem [] m ↔ _
    exact ⟨fun h => absurd h mem_nil, fun h => absurd h.1 mem_nil⟩
  | n + 1, x :: a, [], _, _, _, m => by
    show Mem [] m ↔ _
    exact ⟨fun h => absurd h mem_nil, fun h => absurd h.2 mem_nil⟩
  | n + 1, x :: a, y :: b, ca, cb, hl, m => by
    simp only [List.length_cons] at hl
    obtain ⟨hx, ca2, la⟩ := can_tail ca
    obtain ⟨hy, cb2, lb⟩ := can_tail cb
    have e : Mem (if mxI x.1 y.1 ≤ mnI x.2 y.2 then [(mxI x.1 y.1, mnI x.2 y.2)] else []) m ↔ (x.1 ≤ m ∧ m ≤ x.2) ∧ (y.1 ≤ m ∧ m ≤ y.2) := by
      by_cases hc : mxI x.1 y.1 ≤ mnI x.2 y.2
      · rw [if_pos hc, mem_one]
        simp only [mx_le, le_mn]
        omega
      · rw [if_neg hc]
        refine ⟨fun h => absurd h mem_nil, fun h => ?_⟩
        have h1 : mxI x.1 y.1 ≤ m := mx_le.mpr ⟨h.1.1, h.2.1⟩
        have h2 : m ≤ mnI x.2 y.2 := le_mn.mpr ⟨h.1.2, h.2.2⟩
        omega
    unfold bothF
    rw [mem_app, e, mem_cons, mem_cons]
    by_cases h : x.2 < y.2
    · rw [if_pos h, bothF_mem n a (y :: b) ca2 cb (by simp only [List.length_cons]; omega), mem_cons]
      constructor
      · rintro (⟨h1, h2⟩ | ⟨h1, h2⟩)
        · exact ⟨.inl h1, .inl h2⟩
        · exact ⟨.inr h1, h2⟩
      · rintro ⟨h1 | h1, h2⟩
        · rcases h2 with h2 | h2
          · exact .inl ⟨h1, h2⟩
          · have := lb m h2; omega
        · exact .inr ⟨h1, h2⟩
    · rw [if_neg h, bothF_mem n (x :: a) b ca cb2 (by simp only [List.length_cons]; omega), mem_cons]
      constructor
      · rintro (⟨h1, h2⟩ | ⟨h1, h2⟩)
        · exact ⟨.inl h1, .inl h2⟩
        · exact ⟨h1, .inr h2⟩
      · rintro ⟨h1, h2 | h2⟩
        · rcases h1 with h1 | h1
          · exact .inl ⟨h1, h2⟩
          · have := la m h1; omega
        · exact .inr ⟨h1, h2⟩
theorem can_cons {x : Int × Int} {r : List (Int × Int)} (hx : x.1 ≤ x.2) (h : Can r) (hg : ∀ y ∈ r, x.2 + 1 < y.1) : Can (x :: r) :=
  ⟨List.pairwise_cons.mpr ⟨hg, h.1⟩, fun y hy => by
    rcases List.mem_cons.mp hy with rfl | hy
    · exact hx
    · exact h.2 y hy⟩
theorem mem_self {r : List (Int × Int)} {q : Int × Int} (h : Can r) (hq : q ∈ r) : Mem r q.1 := ⟨q, hq, Int.le_refl _, h.2 q hq⟩
theorem bothF_can : ∀ (n : Nat) (a b : List (Int × Int)), Can a → Can b → a.length + b.length < n → Can (bothF n a b)
  | 0, a, b, _, _, h => absurd h (Nat.not_lt_zero _)
  | n + 1, [], b, _, _, _ => ⟨List.Pairwise.nil, fun x hx => (nomatch hx)⟩
  | n + 1, x :: a, [], _, _, _ => ⟨List.Pairwise.nil, fun x hx => (nomatch hx)⟩
  | n + 1, x :: a, y :: b, ca, cb, hl => by
    simp only [List.length_cons] at hl
    obtain ⟨hx, ca2, la⟩ := can_tail ca
    obtain ⟨hy, cb2, lb⟩ := can_tail cb
    have k1 : mnI x.2 y.2 ≤ x.2 ∧ mnI x.2 y.2 ≤ y.2 := le_mn.mp (Int.le_refl _)
    have key : Can (if x.2 < y.2 then bothF n a (y :: b) else bothF n (x :: a) b) ∧ ∀ q ∈ (if x.2 < y.2 then bothF n a (y :: b) else bothF n (x :: a) b), mnI x.2 y.2 + 1 < q.1 := by
      by_cases h : x.2 < y.2
      · rw [if_pos h]
        have c := bothF_can n a (y :: b) ca2 cb (by simp only [List.length_cons]; omega)
        refine ⟨c, fun q hq => ?_⟩
        have m := ((bothF_mem n a (y :: b) ca2 cb (by simp only [List.length_cons]; omega) q.1).mp (mem_self c hq)).1
        have := la _ m
        omega
      · rw [if_neg h]
        have c := bothF_can n (x :: a) b ca cb2 (by simp only [List.length_cons]; omega)
        refine ⟨c, fun q hq => ?_⟩
        have m := ((bothF_mem n (x :: a) b ca cb2 (by simp only [List.length_cons]; omega) q.1).mp (mem_self c hq)).2
        have := lb _ m
        omega
    unfold bothF
    by_cases hc : mxI x.1 y.1 ≤ mnI x.2 y.2
    · rw [if_pos hc]
      exact can_cons hc key.1 key.2
    · rw [if_neg hc]
      exact key.1
theorem bothF_len : ∀ (n : Nat) (a b : List (Int × Int)), (bothF n a b).length ≤ a.length + b.length
  | 0, a, b => Nat.zero_le _
  | n + 1, [], b => Nat.zero_le _
  | n + 1, x :: a, [] => Nat.zero_le _
  | n + 1, x :: a, y :: b => by
    unfold bothF
    rw [List.length_append]
    have h1 : (if mxI x.1 y.1 ≤ mnI x.2 y.2 then [(mxI x.1 y.1, mnI x.2 y.2)] else []).length ≤ 1 := by split <;> simp
    have h2 : (if x.2 < y.2 then bothF n a (y :: b) else bothF n (x :: a) b).length ≤ a.length + b.length + 1 := by
      split
      · have := bothF_len n a (y :: b)
        simp only [List.length_cons] at this
        omega
      · have := bothF_len n (x :: a) b
        simp only [List.length_cons] at this
        omega
    simp only [List.length_cons]
    omega
theorem ws_if_m {t : TF} {a b c : SF} {ρ : Rho} {S : Out → Rho → Prop} (I : Rho → Prop) (key : ∀ r, I r → WS c r S) (w : WT t ρ fun x ρ1 => (x = true → WS a ρ1 fun o r => o = .next ∧ I r) ∧ (x = false → WS b ρ1 fun o r => o = .next ∧ I r)) : WS (sSeq (sIf t a b) c) ρ S := by
  obtain ⟨x, ρ1, e, q1, q2⟩ := w
  refine ws_if ⟨x, ρ1, e, fun h => ?_, fun h => ?_⟩
  · obtain ⟨o, r, e2, rfl, hi⟩ := q1 h
    obtain ⟨o3, r3, e3, s⟩ := key r hi
    exact ⟨o3, r3, by simp [e2, e3], s⟩
  · obtain ⟨o, r, e2, rfl, hi⟩ := q2 h
    obtain ⟨o3, r3, e3, s⟩ := key r hi
    exact ⟨o3, r3, by simp [e2, e3], s⟩
local macro_rules | `(tactic| array_get_dec) => `(tactic| first | ((with_reducible apply PG.ws_set)) | ((with_reducible apply PG.ws_if)) | ((with_reducible apply PG.ws_ret)) | ((with_reducible apply PG.ws_setL)) | ((with_reducible apply PG.ws_expr)) | ((with_reducible apply PG.ws_nilc)) | ((with_reducible apply PG.ws_asc)) | ((with_reducible apply PG.ws_nil)) | ((with_reducible apply PG.ws_for)) | ((with_reducible apply PG.ws_asg)) | ((with_reducible apply PG.ws_par)) | ((with_reducible apply PG.ws_retL)) | ((with_reducible apply PG.ws_brk)) | ((with_reducible apply PG.ws_cont)) | ((with_reducible apply PG.ws_forn)) | ((with_reducible apply PG.ws_sto)) | ((with_reducible apply PG.ws_aug); (case hget => rfl)) | ((with_reducible apply PG.ws_app); (case hget => rfl)) | ((with_reducible apply PG.ws_retO); (case hget => rfl)) | ((with_reducible apply PG.we_name); (case hget => rfl)) | ((with_reducible apply PG.we_c)) | ((with_reducible apply PG.we_bin)) | ((with_reducible apply PG.we_un)) | ((with_reducible apply PG.we_call)) | ((with_reducible apply PG.we_callL); (case hget => rfl)) | ((with_reducible apply PG.we_tup)) | ((with_reducible apply PG.we_lst)) | ((with_reducible apply PG.we_if)) | ((with_reducible apply PG.we_ixL); (case hget => rfl)) | ((with_reducible apply PG.we_unL); (case hget => rfl)) | ((with_reducible apply PG.we_and)) | ((with_reducible apply PG.we_or)) | ((with_reducible apply PG.we_not)) | ((with_reducible apply PG.we_chain)) | ((with_reducible apply PG.we_slT)) | ((with_reducible apply PG.wn_cons)) | ((with_reducible apply PG.wn_nil)) | ((with_reducible apply PG.wn_star)) | ((with_reducible apply PG.wn_disp)) | ((with_reducible apply PG.wn_call)) | ((with_reducible apply PG.wn_sl)) | ((with_reducible apply PG.wn_its)) | ((with_reducible apply PG.wn_r1)) | ((with_reducible apply PG.wn_r2)) | ((with_reducible apply PG.wn_r3)) | ((with_reducible apply PG.wt_tru)) | ((with_reducible apply PG.wt_bl)) | ((with_reducible apply PG.wt_and)) | ((with_reducible apply PG.wt_or)) | ((with_reducible apply PG.wt_not)) | ((with_reducible apply PG.wt_yes)) | ((with_reducible apply PG.wt_truL); (case hget => rfl)) | ((with_reducible apply PG.wo_none)) | ((with_reducible apply PG.wo_some)) | ((with_reducible apply PG.wg_p0)) | ((with_reducible apply PG.wg_tup)) | ((with_reducible apply PG.wg_ps); (case hset => (repeat' (first | exact PG.SetR.h0 | exact PG.SetR.h1 | exact PG.SetR.hl | exact PG.SetR.hc (by assumption) | apply PG.SetR.s)))) | ((with_reducible apply PG.wg_set); (case hset => (repeat' (first | exact PG.SetR.h0 | exact PG.SetR.h1 | exact PG.SetR.hl | exact PG.SetR.hc (by assumption) | apply PG.SetR.s)))) | ((with_reducible apply PG.we_frz); (case hget => rfl); (case hset => (repeat' (first | exact PG.SetR.h0 | exact PG.SetR.h1 | exact PG.SetR.hl | exact PG.SetR.hc (by assumption) | apply PG.SetR.s)))) | ((with_reducible apply PG.setr_i); (case hset => (repeat' (first | exact PG.SetR.h0 | exact PG.SetR.h1 | exact PG.SetR.hl | exact PG.SetR.hc (by assumption) | apply PG.SetR.s)))) | ((with_reducible apply PG.setl_i); (case hset => (repeat' (first | exact PG.SetLR.h0 | exact PG.SetLR.h1 | exact PG.SetLR.hl | apply PG.SetLR.s)))) | ((with_reducible apply PG.put_i); (case hset => (repeat' (first | exact PG.PutR.h | apply PG.PutR.s)))) | ((with_reducible apply PG.pool_i); (case hget => rfl)) | ((with_reducible apply PG.bool_i)) | ((with_reducible apply PG.int_i)) | ((with_reducible apply PG.seqL_i)) | ((with_reducible apply PG.seqT_i)) | ((with_reducible apply PG.seqR_i)) | ((with_reducible apply PG.starT_i)) | ((with_reducible apply PG.starL_i)) | ((with_reducible apply PG.len_i); (case h => rfl)) | ((with_reducible apply PG.tup_i)) | ((with_reducible apply PG.yes_i)) | ((with_reducible apply PG.no_i)) | ((with_reducible apply PG.nyes_i)) | ((with_reducible apply PG.nno_i)) | ((with_reducible apply PG.wa_add)) | ((with_reducible apply PG.wa_sub)) | ((with_reducible apply PG.wa_lt)) | ((with_reducible apply PG.wa_le)) | ((with_reducible apply PG.wa_gt)) | ((with_reducible apply PG.wa_ge)) | ((with_reducible apply PG.wa_eqI)) | ((with_reducible apply PG.wa_neI)) | ((with_reducible apply PG.wa_neg)) | ((with_reducible apply PG.wa_lenL)) | ((with_reducible apply PG.wa_lenT)) | ((with_reducible apply PG.wa_int)) | ((with_reducible apply PG.wa_max)) | ((with_reducible apply PG.wa_min)) | ((with_reducible apply PG.wb_bool)) | ((with_reducible apply PG.wb_int)) | ((with_reducible apply PG.endP_ret)) | ((with_reducible apply PG.endP_retL)) | ((with_reducible apply PG.endN_ret)) | ((with_reducible apply PG.endL_ret)) | ((with_reducible apply PG.endL_retL)) | ((with_reducible apply PG.wa_binO)) | ((with_reducible apply PG.ch_le)) | ((with_reducible apply PG.ch_lt)) | ((with_reducible apply PG.ch_eq)) | ((with_reducible apply PG.wa_ix0); (case hget => rfl)) | ((with_reducible apply PG.wa_ix1); (case hget => rfl)) | ((with_reducible apply PG.wa_ix2); (case hget => rfl)) | ((with_reducible apply PG.wa_ix3); (case hget => rfl)) | ((with_reducible apply PG.wa_ix4); (case hget => rfl)) | ((with_reducible apply PG.wa_ix5); (case hget => rfl)) | ((with_reducible apply PG.wa_ix6); (case hget => rfl)) | ((with_reducible apply PG.wa_ix7); (case hget => rfl)) | ((with_reducible apply PG.wa_ix8); (case hget => rfl)) | ((with_reducible apply PG.wa_il0); (case hget => rfl)) | ((with_reducible apply PG.wa_il1); (case hget => rfl)) | ((with_reducible apply PG.wa_il2); (case hget => rfl)) | ((with_reducible apply PG.wa_ev1)) | ((with_reducible apply PG.wa_ev)) | ((with_reducible apply PG.wl_ev)) | ((with_reducible apply PG.wb_ev)) | ((with_reducible apply PG.wa_mod); (case h1 => omega)) | ((with_reducible apply PG.wa_div); (case h1 => omega); (case h2 => omega)) | ((with_reducible apply PG.wa_mulR); (case h1 => omega); (case h2 => omega)) | ((with_reducible apply PG.wa_mulL); (case h1 => omega); (case h2 => omega)) | ((with_reducible apply PG.wa_shr); (case h1 => omega)))
local macro_rules | `(tactic| array_get_dec) => `(tactic| first | ((with_reducible apply Pr_C.wp_draw); (case hp => assumption); (case h0 => omega); (case h1 => omega)) | ((with_reducible apply Pr_C.ls_i); (case hp => assumption)))

theorem wa_prs {r : List (Int × Int)} {k : Nat} {Q : PyData → Prop} {p : Int × Int} (h : r[k]? = some p) (q : Q (.tuple [.int p.1, .int p.2])) : WA (dIx (.tuple (prs r)) (.int (k : Int))) Q := by
  have hk := (List.getElem?_eq_some_iff.mp h)
  obtain ⟨hl, e⟩ := hk
  refine ⟨_, ?_, q⟩
  show atD _ _ = _
  rw [atD_nat (by simpa [prs] using hl)]
  simp [prs, e, pr]
theorem bothF_cons (n : Nat) (x y : Int × Int) (a b : List (Int × Int)) : bothF (n + 1) (x :: a) (y :: b) = (if mxI x.1 y.1 ≤ mnI x.2 y.2 then [(mxI x.1 y.1, mnI x.2 y.2)] else []) ++ (if x.2 < y.2 then bothF n a (y :: b) else bothF n (x :: a) b) := rfl
theorem tail_b {a b : List (Int × Int)} {i k : Nat} {x y : Int × Int} (ea : a[i]? = some x) (eb : b[k]? = some y) (r : List (Int × Int)) (u v : PyData) :
    WS (sSeq (sIf (tBl (eBin dLt (eBin dIx (eBin dIx (eName 0) (eName 3)) (eC (PyData.int 1))) (eBin dIx (eBin dIx (eName 1) (eName 4)) (eC (PyData.int 1))))) (sSeq (sAug 3 dAddI (eC (PyData.int 1))) sNil) (sSeq (sAug 4 dAddI (eC (PyData.int 1))) sNil)) sNil)
      [some (.v (.tuple (prs a))), some (.v (.tuple (prs b))), some (.l false (prs r)), some (.v (.int (i : Int))), some (.v (.int (k : Int))), some (.v u), some (.v v)]
      fun o ρ2 => o = .next ∧ ρ2 = (if x.2 < y.2 then [some (.v (.tuple (prs a))), some (.v (.tuple (prs b))), some (.l false (prs r)), some (.v (.int ((i + 1 : Nat) : Int))), some (.v (.int (k : Int))), some (.v u), some (.v v)]
        else [some (.v (.tuple (prs a))), some (.v (.tuple (prs b))), some (.l false (prs r)), some (.v (.int (i : Int))), some (.v (.int ((k + 1 : Nat) : Int))), some (.v u), some (.v v)]) := by
  (repeat array_get_dec)
  refine wa_prs ea ?_
  (repeat array_get_dec)
  refine wa_prs eb ?_
  (repeat array_get_dec)
  (first | (with_reducible apply PG.dec_i) | (with_reducible apply PG.decn_i) | (with_reducible apply PG.bit_i)) <;> intro h
  · (repeat array_get_dec)
    refine wa_eq (e := .int ((i : Int) + 1)) rfl ?_
    (repeat array_get_dec)
    rw [if_pos h]
    exact ⟨rfl, rfl⟩
  · (repeat array_get_dec)
    refine wa_eq (e := .int ((k : Int) + 1)) rfl ?_
    (repeat array_get_dec)
    rw [if_neg h]
    exact ⟨rfl, rfl⟩
theorem both_ok (a b : List (Int × Int)) (ha : a.length ≤ 400000) (hb : b.length ≤ 400000) : F_both [.tuple (prs a), .tuple (prs b)] = some (.tuple (prs (bothF (a.length + b.length + 1) a b))) := by
  refine of_wa ?_
  unfold F_both; refine PG.wa_def rfl ?_; simp only [PG.rho0_eq, List.map_cons, List.map_nil, List.replicate_succ, List.replicate_zero, List.cons_append, List.nil_append]; unfold B_both
  (repeat array_get_dec)
  refine ws_while (fun m ρ => ∃ (i k : Nat) (r : List (Int × Int)) (c5 c6 : Option Cell), ρ = [some (.v (.tuple (prs a))), some (.v (.tuple (prs b))), some (.l false (prs r)), some (.v (.int (i : Int))), some (.v (.int (k : Int))), c5, c6] ∧ PlainC c5 ∧ PlainC c6 ∧ i ≤ a.length ∧ k ≤ b.length ∧ m + i + k = a.length + b.length ∧ r.length ≤ i + k ∧ r ++ bothF (m + 1) (a.drop i) (b.drop k) = bothF (a.length + b.length + 1) a b)
    (fun ρ => ∃ (x3 x4 c5 c6 : Option Cell), ρ = [some (.v (.tuple (prs a))), some (.v (.tuple (prs b))), some (.l false (prs (bothF (a.length + b.length + 1) a b))), x3, x4, c5, c6])
    (a.length + b.length) (by show a.length + b.length < FUEL; unfold FUEL; omega) ⟨0, 0, [], none, none, rfl, .inl rfl, .inl rfl, Nat.zero_le _, Nat.zero_le _, by omega, by simp, by simp⟩ ?_ ?_
  · rintro m ρ ⟨i, k, r, c5, c6, rfl, q5, q6, hi, hk, hm, hr, he⟩
    have la : ((prs a).length : Int) = a.length := by simp [prs]
    have lb : ((prs b).length : Int) = b.length := by simp [prs]
    unfold X_both_1
    (repeat array_get_dec)
    have done : ¬ (i < a.length ∧ k < b.length) → r = bothF (a.length + b.length + 1) a b := fun hn => by
      rw [← he]
      by_cases h : i < a.length
      · have hk2 : b.drop k = [] := List.drop_eq_nil_of_le (by omega)
        rw [hk2]
        cases a.drop i <;> simp [bothF]
      · have hi2 : a.drop i = [] := List.drop_eq_nil_of_le (by omega)
        rw [hi2]
        simp [bothF]
    (first | (with_reducible apply PG.dec_i) | (with_reducible apply PG.decn_i) | (with_reducible apply PG.bit_i)) <;> intro h1
    · (repeat array_get_dec)
      refine ⟨fun h2 => ?_, fun h2 => ?_⟩
      · have h2 : (k : Int) < (prs b).length := of_decide_eq_true h2
        have hia : i < a.length := by omega
        have hkb : k < b.length := by omega
        obtain ⟨m, rfl⟩ : ∃ m', m = m' + 1 := ⟨m - 1, by omega⟩
        have ea : a[i]? = some a[i] := List.getElem?_eq_getElem hia
        have eb : b[k]? = some b[k] := List.getElem?_eq_getElem hkb
        rw [List.drop_eq_getElem_cons hia, List.drop_eq_getElem_cons hkb] at he
        generalize a[i] = x at ea he
        generalize b[k] = y at eb he
        rw [bothF_cons] at he
        unfold X_both_2
        (repeat array_get_dec)
        refine wa_prs ea ?_
        (repeat array_get_dec)
        refine wa_prs eb ?_
        (repeat array_get_dec)
        refine wa_prs ea ?_
        (repeat array_get_dec)
        refine wa_prs eb ?_
        (repeat array_get_dec)
        have fin : ∀ r2 : List (Int × Int), r2 = r ++ (if mxI x.1 y.1 ≤ mnI x.2 y.2 then [(mxI x.1 y.1, mnI x.2 y.2)] else []) → WS (sSeq (sIf (tBl (eBin dLt (eBin dIx (eBin dIx (eName 0) (eName 3)) (eC (PyData.int 1))) (eBin dIx (eBin dIx (eName 1) (eName 4)) (eC (PyData.int 1))))) (sSeq (sAug 3 dAddI (eC (PyData.int 1))) sNil) (sSeq (sAug 4 dAddI (eC (PyData.int 1))) sNil)) sNil)
            [some (.v (.tuple (prs a))), some (.v (.tuple (prs b))), some (.l false (prs r2)), some (.v (.int (i : Int))), some (.v (.int (k : Int))), some (.v (.int (mxI x.1 y.1))), some (.v (.int (mnI x.2 y.2)))]
            fun o ρ2 => o = .next ∧ ∃ m', m' < m + 1 ∧ ∃ (i k : Nat) (r : List (Int × Int)) (c5 c6 : Option Cell), ρ2 = [some (.v (.tuple (prs a))), some (.v (.tuple (prs b))), some (.l false (prs r)), some (.v (.int (i : Int))), some (.v (.int (k : Int))), c5, c6] ∧ PlainC c5 ∧ PlainC c6 ∧ i ≤ a.length ∧ k ≤ b.length ∧ m' + i + k = a.length + b.length ∧ r.length ≤ i + k ∧ r ++ bothF (m' + 1) (a.drop i) (b.drop k) = bothF (a.length + b.length + 1) a b := by
          intro r2 hr2
          have hl2 : r2.length ≤ r.length + 1 := by rw [hr2, List.length_append]; split <;> simp
          refine (tail_b ea eb r2 _ _).mono fun o ρ2 ⟨e1, e2⟩ => ⟨e1, m, Nat.lt_succ_self m, ?_⟩
          by_cases hxy : x.2 < y.2
          · rw [if_pos hxy] at e2 he
            refine ⟨i + 1, k, r2, _, _, e2, .inr ⟨_, rfl⟩, .inr ⟨_, rfl⟩, by omega, by omega, by omega, by omega, ?_⟩
            rw [← he, hr2, List.drop_eq_getElem_cons hkb, List.append_assoc]
            have : b[k] = y := by rw [List.getElem?_eq_getElem hkb] at eb; exact Option.some.inj eb
            rw [this]
          · rw [if_neg hxy] at e2 he
            refine ⟨i, k + 1, r2, _, _, e2, .inr ⟨_, rfl⟩, .inr ⟨_, rfl⟩, by omega, by omega, by omega, by omega, ?_⟩
            rw [← he, hr2, List.drop_eq_getElem_cons hia, List.append_assoc]
            have : a[i] = x := by rw [List.getElem?_eq_getElem hia] at ea; exact Option.some.inj ea
            rw [this]
        (first | (with_reducible apply PG.dec_i) | (with_reducible apply PG.decn_i) | (with_reducible apply PG.bit_i)) <;> intro hc
        · (repeat array_get_dec)
          refine ⟨prs r, by simp [prs]; omega, ?_⟩
          array_get_dec
          array_get_dec
          have hc' : mxI x.1 y.1 ≤ mnI x.2 y.2 := hc
          have e0 : prs r ++ [PyData.tuple [PyData.int (if y.1 > x.1 then y.1 else x.1), PyData.int (if y.2 < x.2 then y.2 else x.2)]] = prs (r ++ [(mxI x.1 y.1, mnI x.2 y.2)]) := by simp [prs, pr, mxI, mnI]
          rw [e0]
          exact fin _ (by rw [if_pos hc'])
        · array_get_dec
          have hc' : ¬ mxI x.1 y.1 ≤ mnI x.2 y.2 := hc
          exact fin _ (by rw [if_neg hc', List.append_nil])
      · have h2 : ¬ (k : Int) < (prs b).length := of_decide_eq_false h2
        rw [← done (by omega)]
        exact ⟨_, _, _, _, rfl⟩
    · refine ⟨fun z => (nomatch z), fun _ => ?_⟩
      rw [← done (by omega)]
      exact ⟨_, _, _, _, rfl⟩
  · rintro ρ1 ⟨x3, x4, c5, c6, rfl⟩
    (repeat array_get_dec)
    rfl
end Pr_gatewarden_k08_whole_exchanges_undo_them
end
section
set_option linter.all false
set_option maxRecDepth 100000
set_option Elab.async false
namespace Pr_gatewarden_k08_whole_exchanges_undo_them
open PySem PG Pr_C Pr_D Pr_X
/-! ### outside, without -/
def endF (s top : Int) : List (Int × Int) := if s ≤ top then [(s, top)] else []
def outF (s : Int) : List (Int × Int) → Int → List (Int × Int)
  | [], top => endF s top
  | x :: b, top => if top < x.1 then endF s top else (if s < x.1 then [(s, x.1 - 1)] else []) ++ outF (x.2 + 1) b top
theorem outF_mem : ∀ (b : List (Int × Int)) (s top : Int), Can b → (∀ x ∈ b, s ≤ x.1) → ∀ m, Mem (outF s b top) m ↔ (s ≤ m ∧ m ≤ top) ∧ ¬ Mem b m
  | [], s, top, _, _, m => by
    unfold outF endF
    by_cases h : s ≤ top
    · rw [if_pos h, mem_one]
      exact ⟨fun z => ⟨z, mem_nil⟩, fun z => z.1⟩
    · rw [if_neg h]
      exact ⟨fun z => absurd z mem_nil, fun z => by omega⟩
  | x :: b, s, top, cb, hs, m => by
    obtain ⟨hx, cb2, lb⟩ := can_tail cb
    have h0 := hs x (by simp)
    unfold outF
    by_cases h : top < x.1
    · rw [if_pos h]
      unfold endF
      have hn : m ≤ top → ¬ Mem (x :: b) m := fun hm z => by
        rcases mem_cons.mp z with z | z
        · omega
        · have := lb m z; omega
      by_cases h2 : s ≤ top
      · rw [if_pos h2, mem_one]
        exact ⟨fun z => ⟨z, hn z.2⟩, fun z => z.1⟩
      · rw [if_neg h2]
        exact ⟨fun z => absurd z mem_nil, fun z => by omega⟩
    · rw [if_neg h, mem_app, outF_mem b (x.2 + 1) top cb2 (fun y hy => by have := lb _ (mem_self cb2 hy); omega) m, mem_cons]
      have e : Mem (if s < x.1 then [(s, x.1 - 1)] else []) m ↔ s ≤ m ∧ m ≤ x.1 - 1 := by
        by_cases h2 : s < x.1
        · rw [if_pos h2, mem_one]
        · rw [if_neg h2]
          exact ⟨fun z => absurd z mem_nil, fun z => by omega⟩
      rw [e]
      constructor
      · rintro (⟨h1, h2⟩ | ⟨⟨h1, h2⟩, h3⟩)
        · refine ⟨⟨h1, by omega⟩, fun z => ?_⟩
          rcases z with z | z
          · omega
          · have := lb m z; omega
        · exact ⟨⟨by omega, h2⟩, fun z => z.elim (fun y => by omega) h3⟩
      · rintro ⟨⟨h1, h2⟩, h3⟩
        by_cases h4 : m ≤ x.1 - 1
        · exact .inl ⟨h1, h4⟩
        · refine .inr ⟨⟨?_, h2⟩, fun z => h3 (.inr z)⟩
          by_cases h5 : m ≤ x.2
          · exact absurd (.inl ⟨by omega, h5⟩) h3
          · omega
theorem outF_can : ∀ (b : List (Int × Int)) (s top : Int), Can b → (∀ x ∈ b, s ≤ x.1) → Can (outF s b top)
  | [], s, top, _, _ => by
    unfold outF endF
    by_cases h : s ≤ top
    · rw [if_pos h]; exact can_cons h ⟨List.Pairwise.nil, fun x hx => (nomatch hx)⟩ fun y hy => (nomatch hy)
    · rw [if_neg h]; exact ⟨List.Pairwise.nil, fun x hx => (nomatch hx)⟩
  | x :: b, s, top, cb, hs => by
    obtain ⟨hx, cb2, lb⟩ := can_tail cb
    unfold outF
    by_cases h : top < x.1
    · rw [if_pos h]
      unfold endF
      by_cases h : s ≤ top
      · rw [if_pos h]; exact can_cons h ⟨List.Pairwise.nil, fun x hx => (nomatch hx)⟩ fun y hy => (nomatch hy)
      · rw [if_neg h]; exact ⟨List.Pairwise.nil, fun x hx => (nomatch hx)⟩
    · rw [if_neg h]
      have hb : ∀ y ∈ b, x.2 + 1 ≤ y.1 := fun y hy => by have := lb _ (mem_self cb2 hy); omega
      have c := outF_can b (x.2 + 1) top cb2 hb
      by_cases h2 : s < x.1
      · rw [if_pos h2]
        refine can_cons (by show s ≤ x.1 - 1; omega) c fun y hy => ?_
        have := ((outF_mem b (x.2 + 1) top cb2 hb y.1).mp (mem_self c hy)).1.1
        show x.1 - 1 + 1 < y.1
        omega
      · rw [if_neg h2]
        exact c
theorem outF_len : ∀ (b : List (Int × Int)) (s top : Int), (outF s b top).length ≤ b.length + 1
  | [], s, top => by unfold outF endF; split <;> simp
  | x :: b, s, top => by
    unfold outF
    have h1 := outF_len b (x.2 + 1) top
    split
    · unfold endF; split <;> simp
    · rw [List.length_append, List.length_cons]
      have h2 : (if s < x.1 then [(s, x.1 - 1)] else []).length ≤ 1 := by split <;> simp
      omega
local macro_rules | `(tactic| array_get_dec) => `(tactic| first | ((with_reducible apply PG.ws_set)) | ((with_reducible apply PG.ws_if)) | ((with_reducible apply PG.ws_ret)) | ((with_reducible apply PG.ws_setL)) | ((with_reducible apply PG.ws_expr)) | ((with_reducible apply PG.ws_nilc)) | ((with_reducible apply PG.ws_asc)) | ((with_reducible apply PG.ws_nil)) | ((with_reducible apply PG.ws_for)) | ((with_reducible apply PG.ws_asg)) | ((with_reducible apply PG.ws_par)) | ((with_reducible apply PG.ws_retL)) | ((with_reducible apply PG.ws_brk)) | ((with_reducible apply PG.ws_cont)) | ((with_reducible apply PG.ws_forn)) | ((with_reducible apply PG.ws_sto)) | ((with_reducible apply PG.ws_aug); (case hget => rfl)) | ((with_reducible apply PG.ws_app); (case hget => rfl)) | ((with_reducible apply PG.ws_retO); (case hget => rfl)) | ((with_reducible apply PG.we_name); (case hget => rfl)) | ((with_reducible apply PG.we_c)) | ((with_reducible apply PG.we_bin)) | ((with_reducible apply PG.we_un)) | ((with_reducible apply PG.we_call)) | ((with_reducible apply PG.we_callL); (case hget => rfl)) | ((with_reducible apply PG.we_tup)) | ((with_reducible apply PG.we_lst)) | ((with_reducible apply PG.we_if)) | ((with_reducible apply PG.we_ixL); (case hget => rfl)) | ((with_reducible apply PG.we_unL); (case hget => rfl)) | ((with_reducible apply PG.we_and)) | ((with_reducible apply PG.we_or)) | ((with_reducible apply PG.we_not)) | ((with_reducible apply PG.we_chain)) | ((with_reducible apply PG.we_slT)) | ((with_reducible apply PG.wn_cons)) | ((with_reducible apply PG.wn_nil)) | ((with_reducible apply PG.wn_star)) | ((with_reducible apply PG.wn_disp)) | ((with_reducible apply PG.wn_call)) | ((with_reducible apply PG.wn_sl)) | ((with_reducible apply PG.wn_its)) | ((with_reducible apply PG.wn_r1)) | ((with_reducible apply PG.wn_r2)) | ((with_reducible apply PG.wn_r3)) | ((with_reducible apply PG.wt_tru)) | ((with_reducible apply PG.wt_bl)) | ((with_reducible apply PG.wt_and)) | ((with_reducible apply PG.wt_or)) | ((with_reducible apply PG.wt_not)) | ((with_reducible apply PG.wt_yes)) | ((with_reducible apply PG.wt_truL); (case hget => rfl)) | ((with_reducible apply PG.wo_none)) | ((with_reducible apply PG.wo_some)) | ((with_reducible apply PG.wg_p0)) | ((with_reducible apply PG.wg_tup)) | ((with_reducible apply PG.wg_ps); (case hset => (repeat' (first | exact PG.SetR.h0 | exact PG.SetR.h1 | exact PG.SetR.hl | exact PG.SetR.hc (by assumption) | apply PG.SetR.s)))) | ((with_reducible apply PG.wg_set); (case hset => (repeat' (first | exact PG.SetR.h0 | exact PG.SetR.h1 | exact PG.SetR.hl | exact PG.SetR.hc (by assumption) | apply PG.SetR.s)))) | ((with_reducible apply PG.we_frz); (case hget => rfl); (case hset => (repeat' (first | exact PG.SetR.h0 | exact PG.SetR.h1 | exact PG.SetR.hl | exact PG.SetR.hc (by assumption) | apply PG.SetR.s)))) | ((with_reducible apply PG.setr_i); (case hset => (repeat' (first | exact PG.SetR.h0 | exact PG.SetR.h1 | exact PG.SetR.hl | exact PG.SetR.hc (by assumption) | apply PG.SetR.s)))) | ((with_reducible apply PG.setl_i); (case hset => (repeat' (first | exact PG.SetLR.h0 | exact PG.SetLR.h1 | exact PG.SetLR.hl | apply PG.SetLR.s)))) | ((with_reducible apply PG.put_i); (case hset => (repeat' (first | exact PG.PutR.h | apply PG.PutR.s)))) | ((with_reducible apply PG.pool_i); (case hget => rfl)) | ((with_reducible apply PG.bool_i)) | ((with_reducible apply PG.int_i)) | ((with_reducible apply PG.seqL_i)) | ((with_reducible apply PG.seqT_i)) | ((with_reducible apply PG.seqR_i)) | ((with_reducible apply PG.starT_i)) | ((with_reducible apply PG.starL_i)) | ((with_reducible apply PG.len_i); (case h => rfl)) | ((with_reducible apply PG.tup_i)) | ((with_reducible apply PG.yes_i)) | ((with_reducible apply PG.no_i)) | ((with_reducible apply PG.nyes_i)) | ((with_reducible apply PG.nno_i)) | ((with_reducible apply PG.wa_add)) | ((with_reducible apply PG.wa_sub)) | ((with_reducible apply PG.wa_lt)) | ((with_reducible apply PG.wa_le)) | ((with_reducible apply PG.wa_gt)) | ((with_reducible apply PG.wa_ge)) | ((with_reducible apply PG.wa_eqI)) | ((with_reducible apply PG.wa_neI)) | ((with_reducible apply PG.wa_neg)) | ((with_reducible apply PG.wa_lenL)) | ((with_reducible apply PG.wa_lenT)) | ((with_reducible apply PG.wa_int)) | ((with_reducible apply PG.wa_max)) | ((with_reducible apply PG.wa_min)) | ((with_reducible apply PG.wb_bool)) | ((with_reducible apply PG.wb_int)) | ((with_reducible apply PG.endP_ret)) | ((with_reducible apply PG.endP_retL)) | ((with_reducible apply PG.endN_ret)) | ((with_reducible apply PG.endL_ret)) | ((with_reducible apply PG.endL_retL)) | ((with_reducible apply PG.wa_binO)) | ((with_reducible apply PG.ch_le)) | ((with_reducible apply PG.ch_lt)) | ((with_reducible apply PG.ch_eq)) | ((with_reducible apply PG.wa_ix0); (case hget => rfl)) | ((with_reducible apply PG.wa_ix1); (case hget => rfl)) | ((with_reducible apply PG.wa_ix2); (case hget => rfl)) | ((with_reducible apply PG.wa_ix3); (case hget => rfl)) | ((with_reducible apply PG.wa_ix4); (case hget => rfl)) | ((with_reducible apply PG.wa_ix5); (case hget => rfl)) | ((with_reducible apply PG.wa_ix6); (case hget => rfl)) | ((with_reducible apply PG.wa_ix7); (case hget => rfl)) | ((with_reducible apply PG.wa_ix8); (case hget => rfl)) | ((with_reducible apply PG.wa_il0); (case hget => rfl)) | ((with_reducible apply PG.wa_il1); (case hget => rfl)) | ((with_reducible apply PG.wa_il2); (case hget => rfl)) | ((with_reducible apply PG.wa_ev1)) | ((with_reducible apply PG.wa_ev)) | ((with_reducible apply PG.wl_ev)) | ((with_reducible apply PG.wb_ev)) | ((with_reducible apply PG.wa_mod); (case h1 => omega)) | ((with_reducible apply PG.wa_div); (case h1 => omega); (case h2 => omega)) | ((with_reducible apply PG.wa_mulR); (case h1 => omega); (case h2 => omega)) | ((with_reducible apply PG.wa_mulL); (case h1 => omega); (case h2 => omega)) | ((with_reducible apply PG.wa_shr); (case h1 => omega)))
local macro_rules | `(tactic| array_get_dec) => `(tactic| first | ((with_reducible apply Pr_C.wp_draw); (case hp => assumption); (case h0 => omega); (case h1 => omega)) | ((with_reducible apply Pr_C.ls_i); (case hp => assumption)))

theorem outF_cons (s : Int) (x : Int × Int) (b : List (Int × Int)) (top : Int) : outF s (x :: b) top = if top < x.1 then endF s top else (if s < x.1 then [(s, x.1 - 1)] else []) ++ outF (x.2 + 1) b top := rfl
theorem outside_ok (b : List (Int × Int)) (top : Int) (hl : b.length ≤ 400000) : F_outside [.tuple (prs b), .int top] = some (.tuple (prs (outF 0 b top))) := by
  refine of_wa ?_
  unfold F_outside; refine PG.wa_def rfl ?_; simp only [PG.rho0_eq, List.map_cons, List.map_nil, List.replicate_succ, List.replicate_zero, List.cons_append, List.nil_append]; unfold B_outside
  have fin : ∀ (r : List (Int × Int)) (s : Int) (c4 c5 : Option Cell), r.length ≤ 400001 → r ++ endF s top = outF 0 b top →
      WS (sSeq (sIf (tBl (eBin dLe (eName 3) (eName 1))) (sSeq (sApp 2 (eTup (nCons (eName 3) (nCons (eName 1) nNil)))) sNil) sNil) (sSeq (sRet (eUnL dTupOf 2)) sNil))
        [some (.v (.tuple (prs b))), some (.v (.int top)), some (.l false (prs r)), some (.v (.int s)), c4, c5] (EndP fun x => x = .tuple (prs (outF 0 b top))) := by
    intro r s c4 c5 hr he
    (repeat array_get_dec)
    (first | (with_reducible apply PG.dec_i) | (with_reducible apply PG.decn_i) | (with_reducible apply PG.bit_i)) <;> intro h
    · (repeat array_get_dec)
      refine ⟨prs r, by simp [prs]; omega, ?_⟩
      (repeat array_get_dec)
      rw [← he, endF, if_pos h]
      simp [prs, pr]
    · (repeat array_get_dec)
      rw [← he, endF, if_neg h, List.append_nil]
  (repeat array_get_dec)
  refine ws_inv (fun ds ρ => ∃ (rest r : List (Int × Int)) (s : Int) (c4 c5 : Option Cell), ds = prs rest ∧ ρ = [some (.v (.tuple (prs b))), some (.v (.int top)), some (.l false (prs r)), some (.v (.int s)), c4, c5] ∧ PlainC c4 ∧ PlainC c5 ∧ r.length + rest.length ≤ b.length ∧ r ++ outF s rest top = outF 0 b top) _ _ ⟨b, [], 0, none, none, rfl, rfl, .inl rfl, .inl rfl, by simp, rfl⟩ ?_ ?_
  · rintro d ds ρ ⟨rest, r, s, c4, c5, e, rfl, q4, q5, hr, he⟩
    cases rest with
    | nil => cases e
    | cons x rest =>
      have e1 : prs (x :: rest) = pr x :: prs rest := rfl
      rw [e1] at e
      obtain ⟨rfl, rfl⟩ := List.cons.inj e
      simp only [List.length_cons] at hr
      rw [outF_cons] at he
      unfold pr X_outside_1
      (repeat array_get_dec)
      (first | (with_reducible apply PG.dec_i) | (with_reducible apply PG.decn_i) | (with_reducible apply PG.bit_i)) <;> intro h
      · array_get_dec
        array_get_dec
        rw [if_pos h] at he
        exact fin r s _ _ (by omega) he
      · rw [if_neg h] at he
        (repeat array_get_dec)
        (first | (with_reducible apply PG.dec_i) | (with_reducible apply PG.decn_i) | (with_reducible apply PG.bit_i)) <;> intro h2
        · rw [if_pos h2] at he
          (repeat array_get_dec)
          refine ⟨prs r, by simp [prs]; omega, ?_⟩
          (repeat array_get_dec)
          refine ⟨rest, r ++ [(s, x.1 - 1)], x.2 + 1, some (.v (.int x.1)), some (.v (.int x.2)), rfl, ?_, .inr ⟨_, rfl⟩, .inr ⟨_, rfl⟩, by simp; omega, by rw [← he, List.append_assoc]⟩
          simp [prs, pr]
        · rw [if_neg h2, List.nil_append] at he
          (repeat array_get_dec)
          exact ⟨rest, r, x.2 + 1, _, _, rfl, rfl, .inr ⟨_, rfl⟩, .inr ⟨_, rfl⟩, by omega, he⟩
  · rintro ρ ⟨rest, r, s, c4, c5, e, rfl, q4, q5, hr, he⟩
    cases rest with
    | cons x rest => cases e
    | nil => exact fin r s c4 c5 (by omega) he
end Pr_gatewarden_k08_whole_exchanges_undo_them
end
section
set_option linter.all false
set_option maxRecDepth 100000
set_option Elab.async false
namespace Pr_gatewarden_k08_whole_exchanges_undo_them
open PySem PG Pr_C Pr_D Pr_X
theorem atT_last (xs : List PyData) (y : PyData) : dIx (.tuple (xs ++ [y])) (.int (-1)) = some y := atD_last xs y
theorem mem_le_last {G : List (Int × Int)} {y : Int × Int} {m : Int} (h : Can (G ++ [y])) (hm : Mem (G ++ [y]) m) : m ≤ y.2 := by
  rcases mem_app.mp hm with hm | hm
  · obtain ⟨x, hx, h1, h2⟩ := hm
    have := can_last h x hx
    have := h.2 y (by simp)
    omega
  · exact (mem_one.mp hm).2
local macro_rules | `(tactic| array_get_dec) => `(tactic| first | ((with_reducible apply PG.ws_set)) | ((with_reducible apply PG.ws_if)) | ((with_reducible apply PG.ws_ret)) | ((with_reducible apply PG.ws_setL)) | ((with_reducible apply PG.ws_expr)) | ((with_reducible apply PG.ws_nilc)) | ((with_reducible apply PG.ws_asc)) | ((with_reducible apply PG.ws_nil)) | ((with_reducible apply PG.ws_for)) | ((with_reducible apply PG.ws_asg)) | ((with_reducible apply PG.ws_par)) | ((with_reducible apply PG.ws_retL)) | ((with_reducible apply PG.ws_brk)) | ((with_reducible apply PG.ws_cont)) | ((with_reducible apply PG.ws_forn)) | ((with_reducible apply PG.ws_sto)) | ((with_reducible apply PG.ws_aug); (case hget => rfl)) | ((with_reducible apply PG.ws_app); (case hget => rfl)) | ((with_reducible apply PG.ws_retO); (case hget => rfl)) | ((with_reducible apply PG.we_name); (case hget => rfl)) | ((with_reducible apply PG.we_c)) | ((with_reducible apply PG.we_bin)) | ((with_reducible apply PG.we_un)) | ((with_reducible apply PG.we_call)) | ((with_reducible apply PG.we_callL); (case hget => rfl)) | ((with_reducible apply PG.we_tup)) | ((with_reducible apply PG.we_lst)) | ((with_reducible apply PG.we_if)) | ((with_reducible apply PG.we_ixL); (case hget => rfl)) | ((with_reducible apply PG.we_unL); (case hget => rfl)) | ((with_reducible apply PG.we_and)) | ((with_reducible apply PG.we_or)) | ((with_reducible apply PG.we_not)) | ((with_reducible apply PG.we_chain)) | ((with_reducible apply PG.we_slT)) | ((with_reducible apply PG.wn_cons)) | ((with_reducible apply PG.wn_nil)) | ((with_reducible apply PG.wn_star)) | ((with_reducible apply PG.wn_disp)) | ((with_reducible apply PG.wn_call)) | ((with_reducible apply PG.wn_sl)) | ((with_reducible apply PG.wn_its)) | ((with_reducible apply PG.wn_r1)) | ((with_reducible apply PG.wn_r2)) | ((with_reducible apply PG.wn_r3)) | ((with_reducible apply PG.wt_tru)) | ((with_reducible apply PG.wt_bl)) | ((with_reducible apply PG.wt_and)) | ((with_reducible apply PG.wt_or)) | ((with_reducible apply PG.wt_not)) | ((with_reducible apply PG.wt_yes)) | ((with_reducible apply PG.wt_truL); (case hget => rfl)) | ((with_reducible apply PG.wo_none)) | ((with_reducible apply PG.wo_some)) | ((with_reducible apply PG.wg_p0)) | ((with_reducible apply PG.wg_tup)) | ((with_reducible apply PG.wg_ps); (case hset => (repeat' (first | exact PG.SetR.h0 | exact PG.SetR.h1 | exact PG.SetR.hl | exact PG.SetR.hc (by assumption) | apply PG.SetR.s)))) | ((with_reducible apply PG.wg_set); (case hset => (repeat' (first | exact PG.SetR.h0 | exact PG.SetR.h1 | exact PG.SetR.hl | exact PG.SetR.hc (by assumption) | apply PG.SetR.s)))) | ((with_reducible apply PG.we_frz); (case hget => rfl); (case hset => (repeat' (first | exact PG.SetR.h0 | exact PG.SetR.h1 | exact PG.SetR.hl | exact PG.SetR.hc (by assumption) | apply PG.SetR.s)))) | ((with_reducible apply PG.setr_i); (case hset => (repeat' (first | exact PG.SetR.h0 | exact PG.SetR.h1 | exact PG.SetR.hl | exact PG.SetR.hc (by assumption) | apply PG.SetR.s)))) | ((with_reducible apply PG.setl_i); (case hset => (repeat' (first | exact PG.SetLR.h0 | exact PG.SetLR.h1 | exact PG.SetLR.hl | apply PG.SetLR.s)))) | ((with_reducible apply PG.put_i); (case hset => (repeat' (first | exact PG.PutR.h | apply PG.PutR.s)))) | ((with_reducible apply PG.pool_i); (case hget => rfl)) | ((with_reducible apply PG.bool_i)) | ((with_reducible apply PG.int_i)) | ((with_reducible apply PG.seqL_i)) | ((with_reducible apply PG.seqT_i)) | ((with_reducible apply PG.seqR_i)) | ((with_reducible apply PG.starT_i)) | ((with_reducible apply PG.starL_i)) | ((with_reducible apply PG.len_i); (case h => rfl)) | ((with_reducible apply PG.tup_i)) | ((with_reducible apply PG.yes_i)) | ((with_reducible apply PG.no_i)) | ((with_reducible apply PG.nyes_i)) | ((with_reducible apply PG.nno_i)) | ((with_reducible apply PG.wa_add)) | ((with_reducible apply PG.wa_sub)) | ((with_reducible apply PG.wa_lt)) | ((with_reducible apply PG.wa_le)) | ((with_reducible apply PG.wa_gt)) | ((with_reducible apply PG.wa_ge)) | ((with_reducible apply PG.wa_eqI)) | ((with_reducible apply PG.wa_neI)) | ((with_reducible apply PG.wa_neg)) | ((with_reducible apply PG.wa_lenL)) | ((with_reducible apply PG.wa_lenT)) | ((with_reducible apply PG.wa_int)) | ((with_reducible apply PG.wa_max)) | ((with_reducible apply PG.wa_min)) | ((with_reducible apply PG.wb_bool)) | ((with_reducible apply PG.wb_int)) | ((with_reducible apply PG.endP_ret)) | ((with_reducible apply PG.endP_retL)) | ((with_reducible apply PG.endN_ret)) | ((with_reducible apply PG.endL_ret)) | ((with_reducible apply PG.endL_retL)) | ((with_reducible apply PG.wa_binO)) | ((with_reducible apply PG.ch_le)) | ((with_reducible apply PG.ch_lt)) | ((with_reducible apply PG.ch_eq)) | ((with_reducible apply PG.wa_ix0); (case hget => rfl)) | ((with_reducible apply PG.wa_ix1); (case hget => rfl)) | ((with_reducible apply PG.wa_ix2); (case hget => rfl)) | ((with_reducible apply PG.wa_ix3); (case hget => rfl)) | ((with_reducible apply PG.wa_ix4); (case hget => rfl)) | ((with_reducible apply PG.wa_ix5); (case hget => rfl)) | ((with_reducible apply PG.wa_ix6); (case hget => rfl)) | ((with_reducible apply PG.wa_ix7); (case hget => rfl)) | ((with_reducible apply PG.wa_ix8); (case hget => rfl)) | ((with_reducible apply PG.wa_il0); (case hget => rfl)) | ((with_reducible apply PG.wa_il1); (case hget => rfl)) | ((with_reducible apply PG.wa_il2); (case hget => rfl)) | ((with_reducible apply PG.wa_ev1)) | ((with_reducible apply PG.wa_ev)) | ((with_reducible apply PG.wl_ev)) | ((with_reducible apply PG.wb_ev)) | ((with_reducible apply PG.wa_mod); (case h1 => omega)) | ((with_reducible apply PG.wa_div); (case h1 => omega); (case h2 => omega)) | ((with_reducible apply PG.wa_mulR); (case h1 => omega); (case h2 => omega)) | ((with_reducible apply PG.wa_mulL); (case h1 => omega); (case h2 => omega)) | ((with_reducible apply PG.wa_shr); (case h1 => omega)))
local macro_rules | `(tactic| array_get_dec) => `(tactic| first | ((with_reducible apply Pr_C.wp_draw); (case hp => assumption); (case h0 => omega); (case h1 => omega)) | ((with_reducible apply Pr_C.ls_i); (case hp => assumption)))

theorem without_ok (a b : List (Int × Int)) (ca : Can a) (cb : Can b) (ha0 : ∀ x ∈ a, 0 ≤ x.1) (hb0 : ∀ x ∈ b, 0 ≤ x.1) (ha : a.length ≤ 200000) (hb : b.length ≤ 100000) :
    ∃ r, F_without [.tuple (prs a), .tuple (prs b)] = some (.tuple (prs r)) ∧ Can r ∧ r.length ≤ a.length + b.length + 1 ∧ ∀ m, Mem r m ↔ Mem a m ∧ ¬ Mem b m := by
  rcases List.eq_nil_or_concat a with rfl | ⟨G, y, rfl⟩
  · refine ⟨[], ?_, ⟨List.Pairwise.nil, fun x hx => (nomatch hx)⟩, by simp, fun m => ⟨fun z => absurd z mem_nil, fun z => z.1⟩⟩
    simp [F_without, B_without, defP, prs]
  · rw [List.concat_eq_append] at *
    have ob := outF_len b 0 y.2
    have co := outF_can b 0 y.2 cb hb0
    refine ⟨bothF ((G ++ [y]).length + (outF 0 b y.2).length + 1) (G ++ [y]) (outF 0 b y.2), ?_, bothF_can _ _ _ ca co (by omega), ?_, fun m => ?_⟩
    · refine of_wa ?_
      unfold F_without; refine PG.wa_def rfl ?_; simp only [PG.rho0_eq, List.map_cons, List.map_nil, List.replicate_succ, List.replicate_zero, List.cons_append, List.nil_append]; unfold B_without
      have e1 : prs (G ++ [y]) = prs G ++ [.tuple [.int y.1, .int y.2]] := by simp [prs, pr]
      have hn : (!!(prs (G ++ [y])).isEmpty) = false := by rw [e1]; simp
      (repeat array_get_dec)
      rw [hn]
      (repeat array_get_dec)
      refine wa_eq (e := .tuple [.int y.1, .int y.2]) (by rw [e1]; exact atT_last _ _) ?_
      (repeat array_get_dec)
      refine wa_eq (outside_ok b y.2 (by omega)) ?_
      (repeat array_get_dec)
      refine wa_eq (both_ok _ _ (by omega) (by omega)) ?_
      (repeat array_get_dec)
      all_goals rfl
    · have := bothF_len ((G ++ [y]).length + (outF 0 b y.2).length + 1) (G ++ [y]) (outF 0 b y.2)
      omega
    · rw [bothF_mem _ _ _ ca co (by omega), outF_mem b 0 y.2 cb hb0]
      constructor
      · rintro ⟨h1, _, h2⟩
        exact ⟨h1, h2⟩
      · rintro ⟨h1, h2⟩
        refine ⟨h1, ⟨?_, mem_le_last ca h1⟩, h2⟩
        obtain ⟨x, hx, h3, _⟩ := h1
        have := ha0 x hx
        omega
end Pr_gatewarden_k08_whole_exchanges_undo_them
end
section
set_option linter.all false
set_option maxRecDepth 100000
set_option Elab.async false
namespace Pr_gatewarden_k08_whole_exchanges_undo_them
open PySem PG Pr_C Pr_D Pr_X
/-- within 0 .. N -/
def In (N : Int) (r : List (Int × Int)) : Prop := ∀ m, Mem r m → 0 ≤ m ∧ m ≤ N
theorem can_len : ∀ (r : List (Int × Int)) (s N : Int), Can r → (∀ m, Mem r m → s ≤ m ∧ m ≤ N) → s ≤ N + 1 → (r.length : Int) ≤ N + 1 - s
  | [], s, N, _, _, h => by simp; omega
  | x :: r, s, N, c, h, _ => by
    obtain ⟨hx, c2, l⟩ := can_tail c
    have h1 := h x.1 (mem_cons.mpr (.inl ⟨Int.le_refl _, hx⟩))
    have h2 := h x.2 (mem_cons.mpr (.inl ⟨hx, Int.le_refl _⟩))
    have ih := can_len r (x.2 + 1) N c2 (fun m hm => ⟨by have := l m hm; omega, (h m (mem_cons.mpr (.inr hm))).2⟩) (by omega)
    simp only [List.length_cons]
    omega
theorem in_len {r : List (Int × Int)} (c : Can r) (h : In 65535 r) : r.length ≤ 65536 := by
  have := can_len r 0 65535 c h (by decide)
  omega
theorem in_low {r : List (Int × Int)} (c : Can r) (h : In 65535 r) : ∀ x ∈ r, 0 ≤ x.1 := fun x hx => (h _ (mem_self c hx)).1
theorem isP_top {x : Int × Int} (h : isP (pr x) = true) : x.1 + sz x.2 ≤ 65536 := by
  unfold pr at h
  rw [isP_ii] at h
  simp only [Bool.and_eq_true, decide_eq_true_eq] at h
  obtain ⟨⟨h1, h2⟩, ⟨h3, h4⟩, h5⟩ := h
  have hm := sz_mul h3 h4
  have hb := sz_bd h3 h4
  have e : x.1 = sz x.2 * (x.1 / sz x.2) := by
    have := Int.mul_ediv_add_emod x.1 (sz x.2)
    rw [h5] at this
    omega
  have hq : x.1 / sz x.2 < 2 ^ x.2.toNat := by
    refine Int.ediv_lt_of_lt_mul (by omega) ?_
    rw [hm]
    omega
  have h6 : sz x.2 * (x.1 / sz x.2 + 1) ≤ sz x.2 * 2 ^ x.2.toNat := Int.mul_le_mul_of_nonneg_left (by omega) (by omega)
  rw [Int.mul_add, Int.mul_one, ← e, Int.mul_comm (sz x.2), hm] at h6
  exact h6
local macro_rules | `(tactic| array_get_dec) => `(tactic| first | ((with_reducible apply PG.ws_set)) | ((with_reducible apply PG.ws_if)) | ((with_reducible apply PG.ws_ret)) | ((with_reducible apply PG.ws_setL)) | ((with_reducible apply PG.ws_expr)) | ((with_reducible apply PG.ws_nilc)) | ((with_reducible apply PG.ws_asc)) | ((with_reducible apply PG.ws_nil)) | ((with_reducible apply PG.ws_for)) | ((with_reducible apply PG.ws_asg)) | ((with_reducible apply PG.ws_par)) | ((with_reducible apply PG.ws_retL)) | ((with_reducible apply PG.ws_brk)) | ((with_reducible apply PG.ws_cont)) | ((with_reducible apply PG.ws_forn)) | ((with_reducible apply PG.ws_sto)) | ((with_reducible apply PG.ws_aug); (case hget => rfl)) | ((with_reducible apply PG.ws_app); (case hget => rfl)) | ((with_reducible apply PG.ws_retO); (case hget => rfl)) | ((with_reducible apply PG.we_name); (case hget => rfl)) | ((with_reducible apply PG.we_c)) | ((with_reducible apply PG.we_bin)) | ((with_reducible apply PG.we_un)) | ((with_reducible apply PG.we_call)) | ((with_reducible apply PG.we_callL); (case hget => rfl)) | ((with_reducible apply PG.we_tup)) | ((with_reducible apply PG.we_lst)) | ((with_reducible apply PG.we_if)) | ((with_reducible apply PG.we_ixL); (case hget => rfl)) | ((with_reducible apply PG.we_unL); (case hget => rfl)) | ((with_reducible apply PG.we_and)) | ((with_reducible apply PG.we_or)) | ((with_reducible apply PG.we_not)) | ((with_reducible apply PG.we_chain)) | ((with_reducible apply PG.we_slT)) | ((with_reducible apply PG.wn_cons)) | ((with_reducible apply PG.wn_nil)) | ((with_reducible apply PG.wn_star)) | ((with_reducible apply PG.wn_disp)) | ((with_reducible apply PG.wn_call)) | ((with_reducible apply PG.wn_sl)) | ((with_reducible apply PG.wn_its)) | ((with_reducible apply PG.wn_r1)) | ((with_reducible apply PG.wn_r2)) | ((with_reducible apply PG.wn_r3)) | ((with_reducible apply PG.wt_tru)) | ((with_reducible apply PG.wt_bl)) | ((with_reducible apply PG.wt_and)) | ((with_reducible apply PG.wt_or)) | ((with_reducible apply PG.wt_not)) | ((with_reducible apply PG.wt_yes)) | ((with_reducible apply PG.wt_truL); (case hget => rfl)) | ((with_reducible apply PG.wo_none)) | ((with_reducible apply PG.wo_some)) | ((with_reducible apply PG.wg_p0)) | ((with_reducible apply PG.wg_tup)) | ((with_reducible apply PG.wg_ps); (case hset => (repeat' (first | exact PG.SetR.h0 | exact PG.SetR.h1 | exact PG.SetR.hl | exact PG.SetR.hc (by assumption) | apply PG.SetR.s)))) | ((with_reducible apply PG.wg_set); (case hset => (repeat' (first | exact PG.SetR.h0 | exact PG.SetR.h1 | exact PG.SetR.hl | exact PG.SetR.hc (by assumption) | apply PG.SetR.s)))) | ((with_reducible apply PG.we_frz); (case hget => rfl); (case hset => (repeat' (first | exact PG.SetR.h0 | exact PG.SetR.h1 | exact PG.SetR.hl | exact PG.SetR.hc (by assumption) | apply PG.SetR.s)))) | ((with_reducible apply PG.setr_i); (case hset => (repeat' (first | exact PG.SetR.h0 | exact PG.SetR.h1 | exact PG.SetR.hl | exact PG.SetR.hc (by assumption) | apply PG.SetR.s)))) | ((with_reducible apply PG.setl_i); (case hset => (repeat' (first | exact PG.SetLR.h0 | exact PG.SetLR.h1 | exact PG.SetLR.hl | apply PG.SetLR.s)))) | ((with_reducible apply PG.put_i); (case hset => (repeat' (first | exact PG.PutR.h | apply PG.PutR.s)))) | ((with_reducible apply PG.pool_i); (case hget => rfl)) | ((with_reducible apply PG.bool_i)) | ((with_reducible apply PG.int_i)) | ((with_reducible apply PG.seqL_i)) | ((with_reducible apply PG.seqT_i)) | ((with_reducible apply PG.seqR_i)) | ((with_reducible apply PG.starT_i)) | ((with_reducible apply PG.starL_i)) | ((with_reducible apply PG.len_i); (case h => rfl)) | ((with_reducible apply PG.tup_i)) | ((with_reducible apply PG.yes_i)) | ((with_reducible apply PG.no_i)) | ((with_reducible apply PG.nyes_i)) | ((with_reducible apply PG.nno_i)) | ((with_reducible apply PG.wa_add)) | ((with_reducible apply PG.wa_sub)) | ((with_reducible apply PG.wa_lt)) | ((with_reducible apply PG.wa_le)) | ((with_reducible apply PG.wa_gt)) | ((with_reducible apply PG.wa_ge)) | ((with_reducible apply PG.wa_eqI)) | ((with_reducible apply PG.wa_neI)) | ((with_reducible apply PG.wa_neg)) | ((with_reducible apply PG.wa_lenL)) | ((with_reducible apply PG.wa_lenT)) | ((with_reducible apply PG.wa_int)) | ((with_reducible apply PG.wa_max)) | ((with_reducible apply PG.wa_min)) | ((with_reducible apply PG.wb_bool)) | ((with_reducible apply PG.wb_int)) | ((with_reducible apply PG.endP_ret)) | ((with_reducible apply PG.endP_retL)) | ((with_reducible apply PG.endN_ret)) | ((with_reducible apply PG.endL_ret)) | ((with_reducible apply PG.endL_retL)) | ((with_reducible apply PG.wa_binO)) | ((with_reducible apply PG.ch_le)) | ((with_reducible apply PG.ch_lt)) | ((with_reducible apply PG.ch_eq)) | ((with_reducible apply PG.wa_ix0); (case hget => rfl)) | ((with_reducible apply PG.wa_ix1); (case hget => rfl)) | ((with_reducible apply PG.wa_ix2); (case hget => rfl)) | ((with_reducible apply PG.wa_ix3); (case hget => rfl)) | ((with_reducible apply PG.wa_ix4); (case hget => rfl)) | ((with_reducible apply PG.wa_ix5); (case hget => rfl)) | ((with_reducible apply PG.wa_ix6); (case hget => rfl)) | ((with_reducible apply PG.wa_ix7); (case hget => rfl)) | ((with_reducible apply PG.wa_ix8); (case hget => rfl)) | ((with_reducible apply PG.wa_il0); (case hget => rfl)) | ((with_reducible apply PG.wa_il1); (case hget => rfl)) | ((with_reducible apply PG.wa_il2); (case hget => rfl)) | ((with_reducible apply PG.wa_ev1)) | ((with_reducible apply PG.wa_ev)) | ((with_reducible apply PG.wl_ev)) | ((with_reducible apply PG.wb_ev)) | ((with_reducible apply PG.wa_mod); (case h1 => omega)) | ((with_reducible apply PG.wa_div); (case h1 => omega); (case h2 => omega)) | ((with_reducible apply PG.wa_mulR); (case h1 => omega); (case h2 => omega)) | ((with_reducible apply PG.wa_mulL); (case h1 => omega); (case h2 => omega)) | ((with_reducible apply PG.wa_shr); (case h1 => omega)))
local macro_rules | `(tactic| array_get_dec) => `(tactic| first | ((with_reducible apply Pr_C.wp_draw); (case hp => assumption); (case h0 => omega); (case h1 => omega)) | ((with_reducible apply Pr_C.ls_i); (case hp => assumption)))

theorem either_ok (a b : List (Int × Int)) (ca : Can a) (cb : Can b) (ha : In 65535 a) (hb : In 65535 b) : ∃ r, F_either [.tuple (prs a), .tuple (prs b)] = some (.tuple (prs r)) ∧ Can r ∧ In 65535 r ∧ ∀ m, Mem r m ↔ Mem a m ∨ Mem b m := by
  have la := in_len ca ha
  have lb := in_len cb hb
  obtain ⟨r, e, c, m⟩ := set_of_ok (a ++ b) (by rw [List.length_append]; omega)
  have m2 : ∀ n, Mem r n ↔ Mem a n ∨ Mem b n := fun n => by rw [m, mem_app]
  refine ⟨r, ?_, c, fun n h => ((m2 n).mp h).elim (ha n) (hb n), m2⟩
  refine of_wa ?_
  unfold F_either; refine PG.wa_def rfl ?_; simp only [PG.rho0_eq, List.map_cons, List.map_nil, List.replicate_succ, List.replicate_zero, List.cons_append, List.nil_append]; unfold B_either
  (repeat array_get_dec)
  refine wa_addL (by simp [prs]; omega) ?_
  (repeat array_get_dec)
  have e2 : prs a ++ prs b = prs (a ++ b) := by simp [prs]
  rw [e2]
  refine wa_eq e ?_
  (repeat array_get_dec)
  all_goals rfl
end Pr_gatewarden_k08_whole_exchanges_undo_them
end
section
set_option linter.all false
set_option maxRecDepth 100000
set_option Elab.async false
namespace Pr_gatewarden_k08_whole_exchanges_undo_them
open PySem PG Pr_C Pr_D Pr_X
def sh (e : Ex) : Int := e.2.1 - e.1.1
/-- a pair of prefixes as the sets have it -/
def okW (e : Ex) : Prop := okE e ∧ e.1.1 + sz e.1.2 ≤ 65536 ∧ e.2.1 + sz e.2.2 ≤ 65536 ∧ e.1.2 = e.2.2
theorem mem_shift (k : Int) (r : List (Int × Int)) (m : Int) : Mem (r.map fun x => (x.1 + k, x.2 + k)) m ↔ Mem r (m - k) := by
  constructor
  · rintro ⟨x, hx, h1, h2⟩
    obtain ⟨y, hy, rfl⟩ := List.mem_map.mp hx
    exact ⟨y, hy, by simp only at h1; omega, by simp only at h2; omega⟩
  · rintro ⟨y, hy, h1, h2⟩
    exact ⟨_, List.mem_map.mpr ⟨y, hy, rfl⟩, by simp only; omega, by simp only; omega⟩
local macro_rules | `(tactic| array_get_dec) => `(tactic| first | ((with_reducible apply PG.ws_set)) | ((with_reducible apply PG.ws_if)) | ((with_reducible apply PG.ws_ret)) | ((with_reducible apply PG.ws_setL)) | ((with_reducible apply PG.ws_expr)) | ((with_reducible apply PG.ws_nilc)) | ((with_reducible apply PG.ws_asc)) | ((with_reducible apply PG.ws_nil)) | ((with_reducible apply PG.ws_for)) | ((with_reducible apply PG.ws_asg)) | ((with_reducible apply PG.ws_par)) | ((with_reducible apply PG.ws_retL)) | ((with_reducible apply PG.ws_brk)) | ((with_reducible apply PG.ws_cont)) | ((with_reducible apply PG.ws_forn)) | ((with_reducible apply PG.ws_sto)) | ((with_reducible apply PG.ws_aug); (case hget => rfl)) | ((with_reducible apply PG.ws_app); (case hget => rfl)) | ((with_reducible apply PG.ws_retO); (case hget => rfl)) | ((with_reducible apply PG.we_name); (case hget => rfl)) | ((with_reducible apply PG.we_c)) | ((with_reducible apply PG.we_bin)) | ((with_reducible apply PG.we_un)) | ((with_reducible apply PG.we_call)) | ((with_reducible apply PG.we_callL); (case hget => rfl)) | ((with_reducible apply PG.we_tup)) | ((with_reducible apply PG.we_lst)) | ((with_reducible apply PG.we_if)) | ((with_reducible apply PG.we_ixL); (case hget => rfl)) | ((with_reducible apply PG.we_unL); (case hget => rfl)) | ((with_reducible apply PG.we_and)) | ((with_reducible apply PG.we_or)) | ((with_reducible apply PG.we_not)) | ((with_reducible apply PG.we_chain)) | ((with_reducible apply PG.we_slT)) | ((with_reducible apply PG.wn_cons)) | ((with_reducible apply PG.wn_nil)) | ((with_reducible apply PG.wn_star)) | ((with_reducible apply PG.wn_disp)) | ((with_reducible apply PG.wn_call)) | ((with_reducible apply PG.wn_sl)) | ((with_reducible apply PG.wn_its)) | ((with_reducible apply PG.wn_r1)) | ((with_reducible apply PG.wn_r2)) | ((with_reducible apply PG.wn_r3)) | ((with_reducible apply PG.wt_tru)) | ((with_reducible apply PG.wt_bl)) | ((with_reducible apply PG.wt_and)) | ((with_reducible apply PG.wt_or)) | ((with_reducible apply PG.wt_not)) | ((with_reducible apply PG.wt_yes)) | ((with_reducible apply PG.wt_truL); (case hget => rfl)) | ((with_reducible apply PG.wo_none)) | ((with_reducible apply PG.wo_some)) | ((with_reducible apply PG.wg_p0)) | ((with_reducible apply PG.wg_tup)) | ((with_reducible apply PG.wg_ps); (case hset => (repeat' (first | exact PG.SetR.h0 | exact PG.SetR.h1 | exact PG.SetR.hl | exact PG.SetR.hc (by assumption) | apply PG.SetR.s)))) | ((with_reducible apply PG.wg_set); (case hset => (repeat' (first | exact PG.SetR.h0 | exact PG.SetR.h1 | exact PG.SetR.hl | exact PG.SetR.hc (by assumption) | apply PG.SetR.s)))) | ((with_reducible apply PG.we_frz); (case hget => rfl); (case hset => (repeat' (first | exact PG.SetR.h0 | exact PG.SetR.h1 | exact PG.SetR.hl | exact PG.SetR.hc (by assumption) | apply PG.SetR.s)))) | ((with_reducible apply PG.setr_i); (case hset => (repeat' (first | exact PG.SetR.h0 | exact PG.SetR.h1 | exact PG.SetR.hl | exact PG.SetR.hc (by assumption) | apply PG.SetR.s)))) | ((with_reducible apply PG.setl_i); (case hset => (repeat' (first | exact PG.SetLR.h0 | exact PG.SetLR.h1 | exact PG.SetLR.hl | apply PG.SetLR.s)))) | ((with_reducible apply PG.put_i); (case hset => (repeat' (first | exact PG.PutR.h | apply PG.PutR.s)))) | ((with_reducible apply PG.pool_i); (case hget => rfl)) | ((with_reducible apply PG.bool_i)) | ((with_reducible apply PG.int_i)) | ((with_reducible apply PG.seqL_i)) | ((with_reducible apply PG.seqT_i)) | ((with_reducible apply PG.seqR_i)) | ((with_reducible apply PG.starT_i)) | ((with_reducible apply PG.starL_i)) | ((with_reducible apply PG.len_i); (case h => rfl)) | ((with_reducible apply PG.tup_i)) | ((with_reducible apply PG.yes_i)) | ((with_reducible apply PG.no_i)) | ((with_reducible apply PG.nyes_i)) | ((with_reducible apply PG.nno_i)) | ((with_reducible apply PG.wa_add)) | ((with_reducible apply PG.wa_sub)) | ((with_reducible apply PG.wa_lt)) | ((with_reducible apply PG.wa_le)) | ((with_reducible apply PG.wa_gt)) | ((with_reducible apply PG.wa_ge)) | ((with_reducible apply PG.wa_eqI)) | ((with_reducible apply PG.wa_neI)) | ((with_reducible apply PG.wa_neg)) | ((with_reducible apply PG.wa_lenL)) | ((with_reducible apply PG.wa_lenT)) | ((with_reducible apply PG.wa_int)) | ((with_reducible apply PG.wa_max)) | ((with_reducible apply PG.wa_min)) | ((with_reducible apply PG.wb_bool)) | ((with_reducible apply PG.wb_int)) | ((with_reducible apply PG.endP_ret)) | ((with_reducible apply PG.endP_retL)) | ((with_reducible apply PG.endN_ret)) | ((with_reducible apply PG.endL_ret)) | ((with_reducible apply PG.endL_retL)) | ((with_reducible apply PG.wa_binO)) | ((with_reducible apply PG.ch_le)) | ((with_reducible apply PG.ch_lt)) | ((with_reducible apply PG.ch_eq)) | ((with_reducible apply PG.wa_ix0); (case hget => rfl)) | ((with_reducible apply PG.wa_ix1); (case hget => rfl)) | ((with_reducible apply PG.wa_ix2); (case hget => rfl)) | ((with_reducible apply PG.wa_ix3); (case hget => rfl)) | ((with_reducible apply PG.wa_ix4); (case hget => rfl)) | ((with_reducible apply PG.wa_ix5); (case hget => rfl)) | ((with_reducible apply PG.wa_ix6); (case hget => rfl)) | ((with_reducible apply PG.wa_ix7); (case hget => rfl)) | ((with_reducible apply PG.wa_ix8); (case hget => rfl)) | ((with_reducible apply PG.wa_il0); (case hget => rfl)) | ((with_reducible apply PG.wa_il1); (case hget => rfl)) | ((with_reducible apply PG.wa_il2); (case hget => rfl)) | ((with_reducible apply PG.wa_ev1)) | ((with_reducible apply PG.wa_ev)) | ((with_reducible apply PG.wl_ev)) | ((with_reducible apply PG.wb_ev)) | ((with_reducible apply PG.wa_mod); (case h1 => omega)) | ((with_reducible apply PG.wa_div); (case h1 => omega); (case h2 => omega)) | ((with_reducible apply PG.wa_mulR); (case h1 => omega); (case h2 => omega)) | ((with_reducible apply PG.wa_mulL); (case h1 => omega); (case h2 => omega)) | ((with_reducible apply PG.wa_shr); (case h1 => omega)))
local macro_rules | `(tactic| array_get_dec) => `(tactic| first | ((with_reducible apply Pr_C.wp_draw); (case hp => assumption); (case h0 => omega); (case h1 => omega)) | ((with_reducible apply Pr_C.ls_i); (case hp => assumption)))

theorem turn_es (E0 c6 c7 : Option Cell) (a rest moved : List (Int × Int)) (e : Ex) (ok : okW e) (ca : Can a) (ia : In 65535 a) (cr : Can rest) (ir : In 65535 rest) (cm : Can moved) (im : In 65535 moved) (q6 : PlainC c6) (q7 : PlainC c7) :
    WS X_exchanged_set_2 [E0, some (.v (.tuple (prs a))), some (.v (.tuple (prs rest))), some (.v (.tuple (prs moved))), some (.v (pr e.1)), some (.v (pr e.2)), c6, c7, none, none] fun o ρ2 => o = .next ∧ ∃ (rest' moved' : List (Int × Int)) (c6 c7 : Option Cell),
      ρ2 = [E0, some (.v (.tuple (prs a))), some (.v (.tuple (prs rest'))), some (.v (.tuple (prs moved'))), some (.v (pr e.1)), some (.v (pr e.2)), c6, c7, none, none] ∧ PlainC c6 ∧ PlainC c7 ∧ Can rest' ∧ In 65535 rest' ∧ Can moved' ∧ In 65535 moved' ∧
      (∀ m, Mem rest' m ↔ Mem rest m ∧ ¬ (Mem a m ∧ hld m e.1 = true)) ∧ ∀ m, Mem moved' m ↔ Mem moved m ∨ (Mem a (m - sh e) ∧ hld (m - sh e) e.1 = true) := by
  obtain ⟨⟨⟨a1, a2, a3, a4⟩, b1, b2, b3, b4⟩, t1, t2, hs⟩ := ok
  have hb := sz_bd a3 a4
  have hh : Can [(e.1.1, e.1.1 + sz e.1.2 - 1)] := can_cons (by show e.1.1 ≤ e.1.1 + sz e.1.2 - 1; omega) ⟨List.Pairwise.nil, fun x hx => (nomatch hx)⟩ fun y hy => (nomatch hy)
  have la := in_len ca ia
  have lr := in_len cr ir
  have hmem : ∀ m, Mem [(e.1.1, e.1.1 + sz e.1.2 - 1)] m ↔ hld m e.1 = true := fun m => by
    rw [mem_one, hld_iff]
    simp only
    omega
  generalize hP : bothF (a.length + [(e.1.1, e.1.1 + sz e.1.2 - 1)].length + 1) a [(e.1.1, e.1.1 + sz e.1.2 - 1)] = part
  have cp : Can part := by rw [← hP]; exact bothF_can _ _ _ ca hh (by omega)
  have mp : ∀ m, Mem part m ↔ Mem a m ∧ hld m e.1 = true := fun m => by rw [← hP, bothF_mem _ _ _ ca hh (by omega), hmem]
  have ip : In 65535 part := fun m h => ia m ((mp m).mp h).1
  have lp := in_len cp ip
  obtain ⟨rest', er, cr', lr', mr⟩ := without_ok rest part cr cp (in_low cr ir) (in_low cp ip) (by omega) (by omega)
  obtain ⟨sf, es, cs, ms⟩ := set_of_ok (part.map fun x => (x.1 + sh e, x.2 + sh e)) (by rw [List.length_map]; omega)
  have ms2 : ∀ m, Mem sf m ↔ Mem a (m - sh e) ∧ hld (m - sh e) e.1 = true := fun m => by rw [ms, mem_shift, mp]
  have is : In 65535 sf := fun m h => by
    have h2 := ((ms2 m).mp h).2
    rw [hld_iff] at h2
    unfold sh at h2
    rw [hs] at h2
    omega
  obtain ⟨moved', em, cm', im', mm⟩ := either_ok moved sf cm cs im is
  unfold X_exchanged_set_2 pr
  (repeat array_get_dec)
  refine wa_eq (held_ok a3 a4) ?_
  (repeat array_get_dec)
  have eb : F_both [.tuple (prs a), .tuple [.tuple [.int e.1.1, .int (e.1.1 + sz e.1.2 - 1)]]] = some (.tuple (prs part)) := by
    rw [← hP]
    exact both_ok a [(e.1.1, e.1.1 + sz e.1.2 - 1)] (by omega) (by simp)
  refine wa_eq eb ?_
  (repeat array_get_dec)
  refine wa_eq er ?_
  (repeat array_get_dec)
  refine wn_map pr (fun _ => true) (fun x => pr (x.1 + sh e, x.2 + sh e)) part ?_
  (repeat array_get_dec)
  refine ⟨rfl, by omega, rfl, fun x hx => ?_, ?_⟩
  · have w : ∀ A B C D E F G H : Option Cell, wipeR [A, B, C, D, E, F, G, H, none, none] [8, 9] = [A, B, C, D, E, F, G, H, none, none] := fun _ _ _ _ _ _ _ _ => rfl
    simp only [w]
    unfold pr
    (repeat array_get_dec)
    refine ⟨rfl, fun _ => ?_, fun z => (nomatch z)⟩
    unfold X_exchanged_set_1
    (repeat array_get_dec)
    exact ⟨rfl, rfl, rfl⟩
  · rw [List.filter_eq_self.mpr (by simp)]
    have e2 : part.map (fun x => pr (x.1 + sh e, x.2 + sh e)) = prs (part.map fun x => (x.1 + sh e, x.2 + sh e)) := by simp [prs]
    rw [e2]
    (repeat array_get_dec)
    refine wa_eq es ?_
    (repeat array_get_dec)
    refine wa_eq em ?_
    (repeat array_get_dec)
    refine ⟨rfl, rest', moved', _, _, rfl, .inr ⟨_, rfl⟩, .inr ⟨_, rfl⟩, cr', fun m h => ir m ((mr m).mp h).1, cm', im', fun m => ?_, fun m => ?_⟩
    · rw [mr, mp]
    · rw [mm, ms2]
end Pr_gatewarden_k08_whole_exchanges_undo_them
end
section
set_option linter.all false
set_option maxRecDepth 100000
set_option Elab.async false
namespace Pr_gatewarden_k08_whole_exchanges_undo_them
open PySem PG Pr_C Pr_D Pr_X
theorem okW_swap {e : Ex} (h : okW e) : okW (swX e) := ⟨⟨h.1.2, h.1.1⟩, h.2.2.1, h.2.1, h.2.2.2.symm⟩
theorem hld_shift {e : Ex} {m : Int} (h : okW e) : hld (m - sh e) e.1 = true ↔ hld m e.2 = true := by
  rw [hld_iff, hld_iff, h.2.2.2]
  unfold sh
  omega
theorem swp_way {l : List Ex} {e : Ex} {m : Int} (hp : PW (prefs l) = true) (ok : ∀ e ∈ l, okW e) (he : e ∈ l ++ l.map swX) (hh : hld m e.2 = true) : swp l m = m - sh e := by
  rcases List.mem_append.mp he with he | he
  · rw [swp_two hp he hh]
    unfold sh
    omega
  · obtain ⟨e0, h0, rfl⟩ := List.mem_map.mp he
    rw [swp_one hp h0 hh]
    unfold sh swX
    simp only
    omega
local macro_rules | `(tactic| array_get_dec) => `(tactic| first | ((with_reducible apply PG.ws_set)) | ((with_reducible apply PG.ws_if)) | ((with_reducible apply PG.ws_ret)) | ((with_reducible apply PG.ws_setL)) | ((with_reducible apply PG.ws_expr)) | ((with_reducible apply PG.ws_nilc)) | ((with_reducible apply PG.ws_asc)) | ((with_reducible apply PG.ws_nil)) | ((with_reducible apply PG.ws_for)) | ((with_reducible apply PG.ws_asg)) | ((with_reducible apply PG.ws_par)) | ((with_reducible apply PG.ws_retL)) | ((with_reducible apply PG.ws_brk)) | ((with_reducible apply PG.ws_cont)) | ((with_reducible apply PG.ws_forn)) | ((with_reducible apply PG.ws_sto)) | ((with_reducible apply PG.ws_aug); (case hget => rfl)) | ((with_reducible apply PG.ws_app); (case hget => rfl)) | ((with_reducible apply PG.ws_retO); (case hget => rfl)) | ((with_reducible apply PG.we_name); (case hget => rfl)) | ((with_reducible apply PG.we_c)) | ((with_reducible apply PG.we_bin)) | ((with_reducible apply PG.we_un)) | ((with_reducible apply PG.we_call)) | ((with_reducible apply PG.we_callL); (case hget => rfl)) | ((with_reducible apply PG.we_tup)) | ((with_reducible apply PG.we_lst)) | ((with_reducible apply PG.we_if)) | ((with_reducible apply PG.we_ixL); (case hget => rfl)) | ((with_reducible apply PG.we_unL); (case hget => rfl)) | ((with_reducible apply PG.we_and)) | ((with_reducible apply PG.we_or)) | ((with_reducible apply PG.we_not)) | ((with_reducible apply PG.we_chain)) | ((with_reducible apply PG.we_slT)) | ((with_reducible apply PG.wn_cons)) | ((with_reducible apply PG.wn_nil)) | ((with_reducible apply PG.wn_star)) | ((with_reducible apply PG.wn_disp)) | ((with_reducible apply PG.wn_call)) | ((with_reducible apply PG.wn_sl)) | ((with_reducible apply PG.wn_its)) | ((with_reducible apply PG.wn_r1)) | ((with_reducible apply PG.wn_r2)) | ((with_reducible apply PG.wn_r3)) | ((with_reducible apply PG.wt_tru)) | ((with_reducible apply PG.wt_bl)) | ((with_reducible apply PG.wt_and)) | ((with_reducible apply PG.wt_or)) | ((with_reducible apply PG.wt_not)) | ((with_reducible apply PG.wt_yes)) | ((with_reducible apply PG.wt_truL); (case hget => rfl)) | ((with_reducible apply PG.wo_none)) | ((with_reducible apply PG.wo_some)) | ((with_reducible apply PG.wg_p0)) | ((with_reducible apply PG.wg_tup)) | ((with_reducible apply PG.wg_ps); (case hset => (repeat' (first | exact PG.SetR.h0 | exact PG.SetR.h1 | exact PG.SetR.hl | exact PG.SetR.hc (by assumption) | apply PG.SetR.s)))) | ((with_reducible apply PG.wg_set); (case hset => (repeat' (first | exact PG.SetR.h0 | exact PG.SetR.h1 | exact PG.SetR.hl | exact PG.SetR.hc (by assumption) | apply PG.SetR.s)))) | ((with_reducible apply PG.we_frz); (case hget => rfl); (case hset => (repeat' (first | exact PG.SetR.h0 | exact PG.SetR.h1 | exact PG.SetR.hl | exact PG.SetR.hc (by assumption) | apply PG.SetR.s)))) | ((with_reducible apply PG.setr_i); (case hset => (repeat' (first | exact PG.SetR.h0 | exact PG.SetR.h1 | exact PG.SetR.hl | exact PG.SetR.hc (by assumption) | apply PG.SetR.s)))) | ((with_reducible apply PG.setl_i); (case hset => (repeat' (first | exact PG.SetLR.h0 | exact PG.SetLR.h1 | exact PG.SetLR.hl | apply PG.SetLR.s)))) | ((with_reducible apply PG.put_i); (case hset => (repeat' (first | exact PG.PutR.h | apply PG.PutR.s)))) | ((with_reducible apply PG.pool_i); (case hget => rfl)) | ((with_reducible apply PG.bool_i)) | ((with_reducible apply PG.int_i)) | ((with_reducible apply PG.seqL_i)) | ((with_reducible apply PG.seqT_i)) | ((with_reducible apply PG.seqR_i)) | ((with_reducible apply PG.starT_i)) | ((with_reducible apply PG.starL_i)) | ((with_reducible apply PG.len_i); (case h => rfl)) | ((with_reducible apply PG.tup_i)) | ((with_reducible apply PG.yes_i)) | ((with_reducible apply PG.no_i)) | ((with_reducible apply PG.nyes_i)) | ((with_reducible apply PG.nno_i)) | ((with_reducible apply PG.wa_add)) | ((with_reducible apply PG.wa_sub)) | ((with_reducible apply PG.wa_lt)) | ((with_reducible apply PG.wa_le)) | ((with_reducible apply PG.wa_gt)) | ((with_reducible apply PG.wa_ge)) | ((with_reducible apply PG.wa_eqI)) | ((with_reducible apply PG.wa_neI)) | ((with_reducible apply PG.wa_neg)) | ((with_reducible apply PG.wa_lenL)) | ((with_reducible apply PG.wa_lenT)) | ((with_reducible apply PG.wa_int)) | ((with_reducible apply PG.wa_max)) | ((with_reducible apply PG.wa_min)) | ((with_reducible apply PG.wb_bool)) | ((with_reducible apply PG.wb_int)) | ((with_reducible apply PG.endP_ret)) | ((with_reducible apply PG.endP_retL)) | ((with_reducible apply PG.endN_ret)) | ((with_reducible apply PG.endL_ret)) | ((with_reducible apply PG.endL_retL)) | ((with_reducible apply PG.wa_binO)) | ((with_reducible apply PG.ch_le)) | ((with_reducible apply PG.ch_lt)) | ((with_reducible apply PG.ch_eq)) | ((with_reducible apply PG.wa_ix0); (case hget => rfl)) | ((with_reducible apply PG.wa_ix1); (case hget => rfl)) | ((with_reducible apply PG.wa_ix2); (case hget => rfl)) | ((with_reducible apply PG.wa_ix3); (case hget => rfl)) | ((with_reducible apply PG.wa_ix4); (case hget => rfl)) | ((with_reducible apply PG.wa_ix5); (case hget => rfl)) | ((with_reducible apply PG.wa_ix6); (case hget => rfl)) | ((with_reducible apply PG.wa_ix7); (case hget => rfl)) | ((with_reducible apply PG.wa_ix8); (case hget => rfl)) | ((with_reducible apply PG.wa_il0); (case hget => rfl)) | ((with_reducible apply PG.wa_il1); (case hget => rfl)) | ((with_reducible apply PG.wa_il2); (case hget => rfl)) | ((with_reducible apply PG.wa_ev1)) | ((with_reducible apply PG.wa_ev)) | ((with_reducible apply PG.wl_ev)) | ((with_reducible apply PG.wb_ev)) | ((with_reducible apply PG.wa_mod); (case h1 => omega)) | ((with_reducible apply PG.wa_div); (case h1 => omega); (case h2 => omega)) | ((with_reducible apply PG.wa_mulR); (case h1 => omega); (case h2 => omega)) | ((with_reducible apply PG.wa_mulL); (case h1 => omega); (case h2 => omega)) | ((with_reducible apply PG.wa_shr); (case h1 => omega)))
local macro_rules | `(tactic| array_get_dec) => `(tactic| first | ((with_reducible apply Pr_C.wp_draw); (case hp => assumption); (case h0 => omega); (case h1 => omega)) | ((with_reducible apply Pr_C.ls_i); (case hp => assumption)))

theorem exs_ok (l : List Ex) (a : List (Int × Int)) (hl : l.length ≤ 1000) (hp : PW (prefs l) = true) (ok : ∀ e ∈ l, okW e) (ca : Can a) (ia : In 65535 a) :
    ∃ r, F_exchanged_set [.tuple (exs l), .tuple (prs a)] = some (.tuple (prs r)) ∧ Can r ∧ In 65535 r ∧ ∀ m, Mem r m ↔ Mem a (swp l m) := by
  have okw : ∀ e ∈ l ++ l.map swX, okW e := fun e he => by
    rcases List.mem_append.mp he with he | he
    · exact ok e he
    · obtain ⟨e0, h0, rfl⟩ := List.mem_map.mp he
      exact okW_swap (ok e0 h0)
  have nilc : Can ([] : List (Int × Int)) := ⟨List.Pairwise.nil, fun x hx => (nomatch hx)⟩
  have key : ∃ z, F_exchanged_set [.tuple (exs l), .tuple (prs a)] = some z ∧ ∃ r, z = .tuple (prs r) ∧ Can r ∧ In 65535 r ∧ ∀ m, Mem r m ↔ (Mem a m ∧ ∀ e ∈ l ++ l.map swX, ¬ hld m e.1 = true) ∨ ∃ e ∈ l ++ l.map swX, Mem a (m - sh e) ∧ hld (m - sh e) e.1 = true := by
    show WA (F_exchanged_set [.tuple (exs l), .tuple (prs a)]) _
    unfold F_exchanged_set; refine PG.wa_def rfl ?_; simp only [PG.rho0_eq, List.map_cons, List.map_nil, List.replicate_succ, List.replicate_zero, List.cons_append, List.nil_append]; unfold B_exchanged_set
    (repeat array_get_dec)
    refine wa_eq (ways_ok l hl) ?_
    (repeat array_get_dec)
    refine ws_forI (fun ds ρ => ∃ (P R : List Ex) (rest moved : List (Int × Int)) (c4 c5 c6 c7 : Option Cell), l ++ l.map swX = P ++ R ∧ ds = exs R ∧ ρ = [some (.v (.tuple (exs l))), some (.v (.tuple (prs a))), some (.v (.tuple (prs rest))), some (.v (.tuple (prs moved))), c4, c5, c6, c7, none, none] ∧ PlainC c4 ∧ PlainC c5 ∧ PlainC c6 ∧ PlainC c7 ∧ Can rest ∧ In 65535 rest ∧ Can moved ∧ In 65535 moved ∧
        (∀ m, Mem rest m ↔ Mem a m ∧ ∀ e ∈ P, ¬ hld m e.1 = true) ∧ ∀ m, Mem moved m ↔ ∃ e ∈ P, Mem a (m - sh e) ∧ hld (m - sh e) e.1 = true) _
      ⟨[], l ++ l.map swX, a, [], none, none, none, none, rfl, rfl, rfl, .inl rfl, .inl rfl, .inl rfl, .inl rfl, ca, ia, nilc, fun m h => absurd h mem_nil, fun m => by simp, fun m => ⟨fun h => absurd h mem_nil, fun ⟨e, he, _⟩ => (nomatch he)⟩⟩ ?_ ?_
    · rintro d ds ρ ⟨P, R, rest, moved, c4, c5, c6, c7, hW, e, rfl, q4, q5, q6, q7, cr, ir, cm, im, mr, mm⟩
      cases R with
      | nil => cases e
      | cons x R =>
        have e1 : exs (x :: R) = exD x :: exs R := rfl
        rw [e1] at e
        obtain ⟨rfl, rfl⟩ := List.cons.inj e
        have okx := okw x (by rw [hW]; simp)
        unfold exD
        (repeat array_get_dec)
        obtain ⟨o, ρ2, e2, rfl, rest', moved', d6, d7, rfl, w6, w7, cr', ir', cm', im', mr', mm'⟩ := turn_es (some (.v (.tuple (exs l)))) c6 c7 a rest moved x okx ca ia cr ir cm im q6 q7
        refine ⟨_, _, e2, rfl, P ++ [x], R, rest', moved', _, _, d6, d7, by rw [hW]; simp, rfl, rfl, .inr ⟨_, rfl⟩, .inr ⟨_, rfl⟩, w6, w7, cr', ir', cm', im', fun m => ?_, fun m => ?_⟩
        · rw [mr', mr]
          constructor
          · rintro ⟨⟨h1, h2⟩, h3⟩
            refine ⟨h1, fun e he => ?_⟩
            rcases List.mem_append.mp he with he | he
            · exact h2 e he
            · simp at he; subst he; exact fun z => h3 ⟨h1, z⟩
          · rintro ⟨h1, h2⟩
            exact ⟨⟨h1, fun e he => h2 e (by simp [he])⟩, fun z => h2 x (by simp) z.2⟩
        · rw [mm', mm]
          constructor
          · rintro (⟨e, he, h⟩ | h)
            · exact ⟨e, by simp [he], h⟩
            · exact ⟨x, by simp, h⟩
          · rintro ⟨e, he, h⟩
            rcases List.mem_append.mp he with he | he
            · exact .inl ⟨e, he, h⟩
            · simp at he; subst he; exact .inr h
    · rintro ρ1 ⟨P, R, rest, moved, c4, c5, c6, c7, hW, e, rfl, q4, q5, q6, q7, cr, ir, cm, im, mr, mm⟩
      cases R with
      | cons x R => cases e
      | nil =>
        rw [List.append_nil] at hW
        subst hW
        obtain ⟨r, er, c, i, mr2⟩ := either_ok rest moved cr cm ir im
        (repeat array_get_dec)
        refine wa_eq er ?_
        (repeat array_get_dec)
        exact ⟨r, rfl, c, i, fun m => by rw [mr2, mr, mm]⟩
  obtain ⟨z, ez, r, rfl, c, i, hm⟩ := key
  refine ⟨r, ez, c, i, fun m => ?_⟩
  rw [hm]
  constructor
  · rintro (⟨h1, h2⟩ | ⟨e, he, h1, h2⟩)
    · rw [swp_none fun e he => ⟨by simpa using h2 e (by simp [he]), by simpa [swX] using h2 (swX e) (by simp only [List.mem_append, List.mem_map]; exact .inr ⟨e, he, rfl⟩)⟩]
      exact h1
    · rw [swp_way hp ok he ((hld_shift (okw e he)).mp h2)]
      exact h1
  · intro h
    rcases swp_cases l m with ⟨e, he, hh⟩ | ⟨e, he, hh⟩ | hn
    · have hw : swX e ∈ l ++ l.map swX := by simp only [List.mem_append, List.mem_map]; exact .inr ⟨e, he, rfl⟩
      have k : hld m (swX e).2 = true := hh
      rw [swp_way hp ok hw k] at h
      exact .inr ⟨swX e, hw, h, (hld_shift (okw _ hw)).mpr k⟩
    · have hw : e ∈ l ++ l.map swX := by simp [he]
      rw [swp_way hp ok hw hh] at h
      exact .inr ⟨e, hw, h, (hld_shift (okw _ hw)).mpr hh⟩
    · rw [swp_none hn] at h
      refine .inl ⟨h, fun e he => ?_⟩
      rcases List.mem_append.mp he with he | he
      · simp [(hn e he).1]
      · obtain ⟨e0, h0, rfl⟩ := List.mem_map.mp he
        simp [swX, (hn e0 h0).2]
end Pr_gatewarden_k08_whole_exchanges_undo_them
end
section
set_option linter.all false
set_option maxRecDepth 100000
set_option Elab.async false
namespace Pr_gatewarden_k08_whole_exchanges_undo_them
open PySem PG Pr_C Pr_D Pr_X
/-! ### between two cuts -/
theorem swp_step {l : List Ex} {v c : Int} (h : ∀ x ∈ prefs l, hld v x = hld c x) : swp l v = swp l c + (v - c) := by
  induction l with
  | nil =>
    show v = c + (v - c)
    omega
  | cons e l ih =>
    have e2 : prefs (e :: l) = e.1 :: e.2 :: prefs l := rfl
    rw [e2] at h
    have h1 := h e.1 (by simp)
    have h2 := h e.2 (by simp)
    have ih := ih fun x hx => h x (by simp [hx])
    rw [swp_cons, swp_cons]
    unfold both2
    rw [h1, h2]
    by_cases k1 : hld c e.1 = true
    · rw [if_pos k1, if_pos k1]
      simp only
      omega
    · rw [if_neg k1, if_neg k1]
      by_cases k2 : hld c e.2 = true
      · rw [if_pos k2, if_pos k2]
        simp only
        omega
      · rw [if_neg k2, if_neg k2]
        exact ih
theorem cut_out {C : List Int} (hC : C.Pairwise (· < ·)) {k : Nat} (hk : k + 1 < C.length) {q : Int} (hq : q ∈ C) : q ≤ C[k] ∨ C[k + 1] ≤ q := by
  obtain ⟨j, hj, rfl⟩ := List.getElem_of_mem hq
  rcases Nat.lt_or_ge j k with h | h
  · have := List.pairwise_iff_getElem.mp hC j k hj (by omega) h
    exact .inl (by omega)
  · rcases Nat.lt_or_ge j (k + 1) with h2 | h2
    · have : j = k := by omega
      subst this
      exact .inl (Int.le_refl _)
    · rcases Nat.lt_or_ge (k + 1) j with h3 | h3
      · have := List.pairwise_iff_getElem.mp hC (k + 1) j hk hj h3
        exact .inr (by omega)
      · have : j = k + 1 := by omega
        subst this
        exact .inr (Int.le_refl _)
theorem hld_cut {C : List Int} (hC : C.Pairwise (· < ·)) {k : Nat} (hk : k + 1 < C.length) {x : Int × Int} (h1 : x.1 ∈ C) (h2 : x.1 + sz x.2 ∈ C) {v : Int} (v1 : C[k] ≤ v) (v2 : v < C[k + 1]) : hld v x = hld C[k] x := by
  have a := cut_out hC hk h1
  have b := cut_out hC hk h2
  rw [Bool.eq_iff_iff, hld_iff, hld_iff]
  omega
theorem mem_cut {C : List Int} (hC : C.Pairwise (· < ·)) {k : Nat} (hk : k + 1 < C.length) {N : List (Int × Int)} (h : ∀ y ∈ N, y.1 ∈ C ∧ y.2 + 1 ∈ C) {v : Int} (v1 : C[k] ≤ v) (v2 : v < C[k + 1]) : Mem N v ↔ Mem N C[k] := by
  constructor
  · rintro ⟨y, hy, h1, h2⟩
    have a := cut_out hC hk (h y hy).1
    have b := cut_out hC hk (h y hy).2
    exact ⟨y, hy, by omega, by omega⟩
  · rintro ⟨y, hy, h1, h2⟩
    have a := cut_out hC hk (h y hy).1
    have b := cut_out hC hk (h y hy).2
    exact ⟨y, hy, by omega, by omega⟩
theorem cut_in {C : List Int} {lo hi : Int} (h0 : lo ∈ C) (h1 : hi ∈ C) (hC : C.Pairwise (· < ·)) {m : Int} (m0 : lo ≤ m) (m1 : m < hi) : ∃ k, ∃ h : k + 1 < C.length, C[k] ≤ m ∧ m < C[k + 1] := by
  obtain ⟨i, hi', rfl⟩ := List.getElem_of_mem h0
  obtain ⟨j, hj, rfl⟩ := List.getElem_of_mem h1
  have key : ∀ d i, (hi : i < C.length) → i + d = j → C[i] ≤ m → ∃ k, ∃ h : k + 1 < C.length, C[k] ≤ m ∧ m < C[k + 1] := by
    intro d
    induction d with
    | zero =>
      intro i hi e hm
      have : i = j := by omega
      subst this
      omega
    | succ d ih =>
      intro i hi e hm
      have hi2 : i + 1 < C.length := by omega
      by_cases h : m < C[i + 1]
      · exact ⟨i, hi2, hm, h⟩
      · exact ih (i + 1) hi2 (by omega) (by omega)
  have hij : i ≤ j := by
    rcases Nat.lt_or_ge j i with h | h
    · have := List.pairwise_iff_getElem.mp hC j i hj hi' h
      omega
    · exact h
  exact key (j - i) i hi' (by omega) m0
theorem swp_in {l : List Ex} (hp : PW (prefs l) = true) (ok : ∀ e ∈ l, okW e) {a : Int} (h0 : 0 ≤ a) (h1 : a ≤ 65535) : 0 ≤ swp l a ∧ swp l a ≤ 65535 := by
  rcases swp_cases l a with ⟨e, he, hh⟩ | ⟨e, he, hh⟩ | h
  · rw [swp_one hp he hh]
    have k := (hld_iff _ _).mp hh
    obtain ⟨⟨⟨a1, a2, a3, a4⟩, b1, b2, b3, b4⟩, t1, t2, hs⟩ := ok e he
    rw [hs] at k
    omega
  · rw [swp_two hp he hh]
    have k := (hld_iff _ _).mp hh
    obtain ⟨⟨⟨a1, a2, a3, a4⟩, b1, b2, b3, b4⟩, t1, t2, hs⟩ := ok e he
    rw [← hs] at k
    omega
  · rw [swp_none h]
    exact ⟨h0, h1⟩
/-- the pieces of the numbers, each where it comes to lie -/
def pc (l : List Ex) (N : List (Int × Int)) (C : List Int) (k : Nat) : List (Int × Int) :=
  if hasP N (C.getD k 0) && decide (C.getD k 0 ≤ 65535) then [(swp l (C.getD k 0), swp l (C.getD k 0) + C.getD (k + 1) 0 - 1 - C.getD k 0)] else []
def pcs (l : List Ex) (N : List (Int × Int)) (C : List Int) (n : Nat) : List (Int × Int) := (List.range n).flatMap (pc l N C)
/-- what the cuts are -/
structure Cuts (l : List Ex) (N : List (Int × Int)) (C : List Int) : Prop where
  pw : C.Pairwise (· < ·)
  ex : ∀ x ∈ prefs l, x.1 ∈ C ∧ x.1 + sz x.2 ∈ C
  nu : ∀ y ∈ N, y.1 ∈ C ∧ y.2 + 1 ∈ C
  lo : (0 : Int) ∈ C
  hi : (65536 : Int) ∈ C
  bd : ∀ q ∈ C, 0 ≤ q ∧ q ≤ 65536
theorem getD_at {C : List Int} {k : Nat} (h : k < C.length) : C.getD k 0 = C[k] := by simp [List.getD, h]
theorem pcs_mem {l : List Ex} {N : List (Int × Int)} {C : List Int} (hp : PW (prefs l) = true) (ok : ∀ e ∈ l, okW e) (hN : In 65535 N) (c : Cuts l N C) (n : Int) : Mem (pcs l N C (C.length - 1)) n ↔ Mem N (swp l n) := by
  have hs : ∀ e ∈ l, e.1.2 = e.2.2 := fun e he => (ok e he).2.2.2
  have step : ∀ k (hk : k + 1 < C.length) v, C[k] ≤ v → v < C[k + 1] → swp l v = swp l C[k] + (v - C[k]) := fun k hk v h1 h2 => swp_step fun x hx => hld_cut c.pw hk (c.ex x hx).1 (c.ex x hx).2 h1 h2
  constructor
  · rintro ⟨y, hy, h1, h2⟩
    obtain ⟨k, hk, hy⟩ := List.mem_flatMap.mp hy
    have hk : k + 1 < C.length := by have := List.mem_range.mp hk; omega
    unfold pc at hy
    rw [getD_at (by omega : k < C.length), getD_at hk] at hy
    split at hy
    · rename_i hc
      simp only [Bool.and_eq_true, decide_eq_true_eq] at hc
      simp only [List.mem_cons, List.not_mem_nil, or_false] at hy
      rw [hy] at h1 h2
      simp only at h1 h2
      have e := step k hk (n - swp l C[k] + C[k]) (by omega) (by omega)
      have e2 : swp l (n - swp l C[k] + C[k]) = n := by omega
      have e3 : swp l n = n - swp l C[k] + C[k] := by rw [← swp_back (a := n - swp l C[k] + C[k]) hp hs, e2]
      rw [e3]
      exact (mem_cut c.pw hk c.nu (by omega) (by omega)).mpr ((hasP_iff N _).mp hc.1)
    · cases hy
  · intro h
    have hv := hN _ h
    obtain ⟨k, hk, k1, k2⟩ := cut_in c.lo c.hi c.pw hv.1 (by omega : swp l n < 65536)
    have e := step k hk (swp l n) k1 k2
    rw [swp_back hp hs] at e
    have hm := (mem_cut c.pw hk c.nu k1 k2).mp h
    refine ⟨(swp l C[k], swp l C[k] + C[k + 1] - 1 - C[k]), List.mem_flatMap.mpr ⟨k, List.mem_range.mpr (by omega), ?_⟩, by simp only; omega, by simp only; omega⟩
    unfold pc
    rw [getD_at (by omega : k < C.length), getD_at hk, if_pos]
    · simp
    · rw [Bool.and_eq_true, decide_eq_true_eq]
      exact ⟨(hasP_iff N _).mpr hm, by omega⟩
theorem pcs_ok {l : List Ex} {N : List (Int × Int)} {C : List Int} (hp : PW (prefs l) = true) (ok : ∀ e ∈ l, okW e) (c : Cuts l N C) : ∀ y ∈ pcs l N C (C.length - 1), okPair 65535 y := by
  intro y hy
  obtain ⟨k, hk, hy⟩ := List.mem_flatMap.mp hy
  have hk : k + 1 < C.length := by have := List.mem_range.mp hk; omega
  unfold pc at hy
  rw [getD_at (by omega : k < C.length), getD_at hk] at hy
  split at hy
  · rename_i hc
    simp only [Bool.and_eq_true, decide_eq_true_eq] at hc
    simp only [List.mem_cons, List.not_mem_nil, or_false] at hy
    subst hy
    have b0 := c.bd C[k] (List.getElem_mem _)
    have b1 := c.bd C[k + 1] (List.getElem_mem _)
    have lt := List.pairwise_iff_getElem.mp c.pw k (k + 1) (by omega) hk (by omega)
    have e : swp l (C[k + 1] - 1) = swp l C[k] + (C[k + 1] - 1 - C[k]) := swp_step fun x hx => hld_cut c.pw hk (c.ex x hx).1 (c.ex x hx).2 (by omega) (by omega)
    have r0 := swp_in hp ok b0.1 hc.2
    have r1 := swp_in hp ok (a := C[k + 1] - 1) (by omega) (by omega)
    refine ⟨r0.1, ?_, ?_⟩ <;> simp only <;> omega
  · cases hy
end Pr_gatewarden_k08_whole_exchanges_undo_them
end
section
set_option linter.all false
set_option maxRecDepth 100000
set_option Elab.async false
namespace Pr_gatewarden_k08_whole_exchanges_undo_them
open PySem PG Pr_C Pr_D Pr_X
theorem wp_pairs {p : Pool} {many : Int} {Q : PyData → List PyData → Prop} (hp : p.ok) (h0 : 0 ≤ many) (h1 : many ≤ 1000) (q : ∀ (l : List (Int × Int)) (p' : Pool), p'.ok → (∀ x ∈ l, okPair 65535 x) → l.length = many.toNat → Q (.list (prs l)) p'.d) : WP (F_law_pairs p.d [.int 65535, .int many]) Q := by
  obtain ⟨l, p', e, k, o, hl⟩ := pairs_ok p hp 65535 many (by decide) (by decide) h0 h1
  exact ⟨_, _, e, q l p' k o hl⟩
theorem wp_number {p : Pool} {top : Int} {Q : PyData → List PyData → Prop} (hp : p.ok) (h0 : 0 ≤ top) (h1 : top < 1000000000) (q : ∀ (v : Int) (p' : Pool), p'.ok → 0 ≤ v → v ≤ top → Q (.int v) p'.d) : WP (F_law_number p.d [.int top]) Q := by
  obtain ⟨v, p', e, k, a, b⟩ := number_ok p hp top h0 h1
  exact ⟨_, _, e, q v p' k a b⟩
local macro_rules | `(tactic| array_get_dec) => `(tactic| first | ((with_reducible apply PG.ws_set)) | ((with_reducible apply PG.ws_if)) | ((with_reducible apply PG.ws_ret)) | ((with_reducible apply PG.ws_setL)) | ((with_reducible apply PG.ws_expr)) | ((with_reducible apply PG.ws_nilc)) | ((with_reducible apply PG.ws_asc)) | ((with_reducible apply PG.ws_nil)) | ((with_reducible apply PG.ws_for)) | ((with_reducible apply PG.ws_asg)) | ((with_reducible apply PG.ws_par)) | ((with_reducible apply PG.ws_retL)) | ((with_reducible apply PG.ws_brk)) | ((with_reducible apply PG.ws_cont)) | ((with_reducible apply PG.ws_forn)) | ((with_reducible apply PG.ws_sto)) | ((with_reducible apply PG.ws_aug); (case hget => rfl)) | ((with_reducible apply PG.ws_app); (case hget => rfl)) | ((with_reducible apply PG.ws_retO); (case hget => rfl)) | ((with_reducible apply PG.we_name); (case hget => rfl)) | ((with_reducible apply PG.we_c)) | ((with_reducible apply PG.we_bin)) | ((with_reducible apply PG.we_un)) | ((with_reducible apply PG.we_call)) | ((with_reducible apply PG.we_callL); (case hget => rfl)) | ((with_reducible apply PG.we_tup)) | ((with_reducible apply PG.we_lst)) | ((with_reducible apply PG.we_if)) | ((with_reducible apply PG.we_ixL); (case hget => rfl)) | ((with_reducible apply PG.we_unL); (case hget => rfl)) | ((with_reducible apply PG.we_and)) | ((with_reducible apply PG.we_or)) | ((with_reducible apply PG.we_not)) | ((with_reducible apply PG.we_chain)) | ((with_reducible apply PG.we_slT)) | ((with_reducible apply PG.wn_cons)) | ((with_reducible apply PG.wn_nil)) | ((with_reducible apply PG.wn_star)) | ((with_reducible apply PG.wn_disp)) | ((with_reducible apply PG.wn_call)) | ((with_reducible apply PG.wn_sl)) | ((with_reducible apply PG.wn_its)) | ((with_reducible apply PG.wn_r1)) | ((with_reducible apply PG.wn_r2)) | ((with_reducible apply PG.wn_r3)) | ((with_reducible apply PG.wt_tru)) | ((with_reducible apply PG.wt_bl)) | ((with_reducible apply PG.wt_and)) | ((with_reducible apply PG.wt_or)) | ((with_reducible apply PG.wt_not)) | ((with_reducible apply PG.wt_yes)) | ((with_reducible apply PG.wt_truL); (case hget => rfl)) | ((with_reducible apply PG.wo_none)) | ((with_reducible apply PG.wo_some)) | ((with_reducible apply PG.wg_p0)) | ((with_reducible apply PG.wg_tup)) | ((with_reducible apply PG.wg_ps); (case hset => (repeat' (first | exact PG.SetR.h0 | exact PG.SetR.h1 | exact PG.SetR.hl | exact PG.SetR.hc (by assumption) | apply PG.SetR.s)))) | ((with_reducible apply PG.wg_set); (case hset => (repeat' (first | exact PG.SetR.h0 | exact PG.SetR.h1 | exact PG.SetR.hl | exact PG.SetR.hc (by assumption) | apply PG.SetR.s)))) | ((with_reducible apply PG.we_frz); (case hget => rfl); (case hset => (repeat' (first | exact PG.SetR.h0 | exact PG.SetR.h1 | exact PG.SetR.hl | exact PG.SetR.hc (by assumption) | apply PG.SetR.s)))) | ((with_reducible apply PG.setr_i); (case hset => (repeat' (first | exact PG.SetR.h0 | exact PG.SetR.h1 | exact PG.SetR.hl | exact PG.SetR.hc (by assumption) | apply PG.SetR.s)))) | ((with_reducible apply PG.setl_i); (case hset => (repeat' (first | exact PG.SetLR.h0 | exact PG.SetLR.h1 | exact PG.SetLR.hl | apply PG.SetLR.s)))) | ((with_reducible apply PG.put_i); (case hset => (repeat' (first | exact PG.PutR.h | apply PG.PutR.s)))) | ((with_reducible apply PG.pool_i); (case hget => rfl)) | ((with_reducible apply PG.bool_i)) | ((with_reducible apply PG.int_i)) | ((with_reducible apply PG.seqL_i)) | ((with_reducible apply PG.seqT_i)) | ((with_reducible apply PG.seqR_i)) | ((with_reducible apply PG.starT_i)) | ((with_reducible apply PG.starL_i)) | ((with_reducible apply PG.len_i); (case h => rfl)) | ((with_reducible apply PG.tup_i)) | ((with_reducible apply PG.yes_i)) | ((with_reducible apply PG.no_i)) | ((with_reducible apply PG.nyes_i)) | ((with_reducible apply PG.nno_i)) | ((with_reducible apply PG.wa_add)) | ((with_reducible apply PG.wa_sub)) | ((with_reducible apply PG.wa_lt)) | ((with_reducible apply PG.wa_le)) | ((with_reducible apply PG.wa_gt)) | ((with_reducible apply PG.wa_ge)) | ((with_reducible apply PG.wa_eqI)) | ((with_reducible apply PG.wa_neI)) | ((with_reducible apply PG.wa_neg)) | ((with_reducible apply PG.wa_lenL)) | ((with_reducible apply PG.wa_lenT)) | ((with_reducible apply PG.wa_int)) | ((with_reducible apply PG.wa_max)) | ((with_reducible apply PG.wa_min)) | ((with_reducible apply PG.wb_bool)) | ((with_reducible apply PG.wb_int)) | ((with_reducible apply PG.endP_ret)) | ((with_reducible apply PG.endP_retL)) | ((with_reducible apply PG.endN_ret)) | ((with_reducible apply PG.endL_ret)) | ((with_reducible apply PG.endL_retL)) | ((with_reducible apply PG.wa_binO)) | ((with_reducible apply PG.ch_le)) | ((with_reducible apply PG.ch_lt)) | ((with_reducible apply PG.ch_eq)) | ((with_reducible apply PG.wa_ix0); (case hget => rfl)) | ((with_reducible apply PG.wa_ix1); (case hget => rfl)) | ((with_reducible apply PG.wa_ix2); (case hget => rfl)) | ((with_reducible apply PG.wa_ix3); (case hget => rfl)) | ((with_reducible apply PG.wa_ix4); (case hget => rfl)) | ((with_reducible apply PG.wa_ix5); (case hget => rfl)) | ((with_reducible apply PG.wa_ix6); (case hget => rfl)) | ((with_reducible apply PG.wa_ix7); (case hget => rfl)) | ((with_reducible apply PG.wa_ix8); (case hget => rfl)) | ((with_reducible apply PG.wa_il0); (case hget => rfl)) | ((with_reducible apply PG.wa_il1); (case hget => rfl)) | ((with_reducible apply PG.wa_il2); (case hget => rfl)) | ((with_reducible apply PG.wa_ev1)) | ((with_reducible apply PG.wa_ev)) | ((with_reducible apply PG.wl_ev)) | ((with_reducible apply PG.wb_ev)) | ((with_reducible apply PG.wa_mod); (case h1 => omega)) | ((with_reducible apply PG.wa_div); (case h1 => omega); (case h2 => omega)) | ((with_reducible apply PG.wa_mulR); (case h1 => omega); (case h2 => omega)) | ((with_reducible apply PG.wa_mulL); (case h1 => omega); (case h2 => omega)) | ((with_reducible apply PG.wa_shr); (case h1 => omega)))
local macro_rules | `(tactic| array_get_dec) => `(tactic| first | ((with_reducible apply Pr_C.wp_draw); (case hp => assumption); (case h0 => omega); (case h1 => omega)) | ((with_reducible apply Pr_C.ls_i); (case hp => assumption)))

local macro_rules | `(tactic| array_get_dec) => `(tactic| first | ((with_reducible apply wp_pairs); (case hp => assumption); (case h0 => omega); (case h1 => omega)) | ((with_reducible apply wp_number); (case hp => assumption); (case h0 => omega); (case h1 => omega)) | ((with_reducible apply we_frz2v); (case hget => rfl)) | ((with_reducible apply we_frz2l); (case hget => rfl); (case hset => (repeat' (first | exact PG.SetR.h0 | exact PG.SetR.h1 | exact PG.SetR.hl | exact PG.SetR.hc (by assumption) | apply PG.SetR.s)))))

theorem drawn_ls : LS F_law_drawn_set [.int 65535, .int 3] fun d => ∃ r, d = .tuple (prs r) ∧ Can r ∧ In 65535 r ∧ r.length ≤ 8 := by
  intro p hp
  unfold F_law_drawn_set; refine PG.wp_def rfl ?_; simp only [PG.rhoL_eq, List.map_cons, List.map_nil, List.replicate_succ, List.replicate_zero, List.cons_append, List.nil_append]; unfold B_law_drawn_set
  (repeat array_get_dec)
  intro v p1 k1 a1 b1
  (repeat array_get_dec)
  intro l p2 k2 ho hl
  (repeat array_get_dec)
  obtain ⟨r, e, c, hr, m⟩ := union_ok2 l 65535 (by decide) (by decide) (by omega) ho
  refine wa_eq e ?_
  (repeat array_get_dec)
  refine ⟨r, rfl, c, fun n h => ?_, by omega⟩
  obtain ⟨x, hx, h1, h2⟩ := (m n).mp h
  have := ho x hx
  unfold okPair at this
  omega
/-! ### the edges -/
def edX (x : Int × Int) : List Int := [x.1, x.1 + sz x.2 - 1, (if x.1 + sz x.2 - 1 + 1 < 65535 then x.1 + sz x.2 - 1 + 1 else 65535), (if x.1 - 1 > 0 then x.1 - 1 else 0)]
def IL (e : List Int) : List PyData := e.map PyData.int
def S15 (c0 c1 c2 c3 : Option Cell) (E : List Int) (c5 c12 : Option Cell) : Rho := [c0, c1, c2, c3, some (.v (.list (IL E))), c5, none, none, none, none, none, none, c12, none, none]
theorem turn_ed (c0 c1 c2 c3 c5 : Option Cell) (E : List Int) (x : Int × Int) (ok : okX x) (hl : E.length ≤ 10000) :
    WS X_law_1 (S15 c0 c1 c2 c3 E c5 (some (.v (pr x)))) fun o ρ2 => o = .next ∧ ρ2 = S15 c0 c1 c2 c3 (E ++ edX x) c5 (some (.v (pr x))) := by
  obtain ⟨a1, a2, a3, a4⟩ := ok
  unfold X_law_1 S15 pr
  (repeat array_get_dec)
  refine wa_eq (last_ok a3 a4) ?_
  (repeat array_get_dec)
  refine wa_eq (last_ok a3 a4) ?_
  (repeat array_get_dec)
  refine wa_addL (by simp [IL]; omega) ?_
  (repeat array_get_dec)
  refine ⟨rfl, ?_⟩
  simp [IL, edX]
end Pr_gatewarden_k08_whole_exchanges_undo_them
end
section
set_option linter.all false
set_option maxRecDepth 100000
set_option Elab.async false
namespace Pr_gatewarden_k08_whole_exchanges_undo_them
open PySem PG Pr_C Pr_D Pr_X
local macro_rules | `(tactic| array_get_dec) => `(tactic| first | ((with_reducible apply PG.ws_set)) | ((with_reducible apply PG.ws_if)) | ((with_reducible apply PG.ws_ret)) | ((with_reducible apply PG.ws_setL)) | ((with_reducible apply PG.ws_expr)) | ((with_reducible apply PG.ws_nilc)) | ((with_reducible apply PG.ws_asc)) | ((with_reducible apply PG.ws_nil)) | ((with_reducible apply PG.ws_for)) | ((with_reducible apply PG.ws_asg)) | ((with_reducible apply PG.ws_par)) | ((with_reducible apply PG.ws_retL)) | ((with_reducible apply PG.ws_brk)) | ((with_reducible apply PG.ws_cont)) | ((with_reducible apply PG.ws_forn)) | ((with_reducible apply PG.ws_sto)) | ((with_reducible apply PG.ws_aug); (case hget => rfl)) | ((with_reducible apply PG.ws_app); (case hget => rfl)) | ((with_reducible apply PG.ws_retO); (case hget => rfl)) | ((with_reducible apply PG.we_name); (case hget => rfl)) | ((with_reducible apply PG.we_c)) | ((with_reducible apply PG.we_bin)) | ((with_reducible apply PG.we_un)) | ((with_reducible apply PG.we_call)) | ((with_reducible apply PG.we_callL); (case hget => rfl)) | ((with_reducible apply PG.we_tup)) | ((with_reducible apply PG.we_lst)) | ((with_reducible apply PG.we_if)) | ((with_reducible apply PG.we_ixL); (case hget => rfl)) | ((with_reducible apply PG.we_unL); (case hget => rfl)) | ((with_reducible apply PG.we_and)) | ((with_reducible apply PG.we_or)) | ((with_reducible apply PG.we_not)) | ((with_reducible apply PG.we_chain)) | ((with_reducible apply PG.we_slT)) | ((with_reducible apply PG.wn_cons)) | ((with_reducible apply PG.wn_nil)) | ((with_reducible apply PG.wn_star)) | ((with_reducible apply PG.wn_disp)) | ((with_reducible apply PG.wn_call)) | ((with_reducible apply PG.wn_sl)) | ((with_reducible apply PG.wn_its)) | ((with_reducible apply PG.wn_r1)) | ((with_reducible apply PG.wn_r2)) | ((with_reducible apply PG.wn_r3)) | ((with_reducible apply PG.wt_tru)) | ((with_reducible apply PG.wt_bl)) | ((with_reducible apply PG.wt_and)) | ((with_reducible apply PG.wt_or)) | ((with_reducible apply PG.wt_not)) | ((with_reducible apply PG.wt_yes)) | ((with_reducible apply PG.wt_truL); (case hget => rfl)) | ((with_reducible apply PG.wo_none)) | ((with_reducible apply PG.wo_some)) | ((with_reducible apply PG.wg_p0)) | ((with_reducible apply PG.wg_tup)) | ((with_reducible apply PG.wg_ps); (case hset => (repeat' (first | exact PG.SetR.h0 | exact PG.SetR.h1 | exact PG.SetR.hl | exact PG.SetR.hc (by assumption) | apply PG.SetR.s)))) | ((with_reducible apply PG.wg_set); (case hset => (repeat' (first | exact PG.SetR.h0 | exact PG.SetR.h1 | exact PG.SetR.hl | exact PG.SetR.hc (by assumption) | apply PG.SetR.s)))) | ((with_reducible apply PG.we_frz); (case hget => rfl); (case hset => (repeat' (first | exact PG.SetR.h0 | exact PG.SetR.h1 | exact PG.SetR.hl | exact PG.SetR.hc (by assumption) | apply PG.SetR.s)))) | ((with_reducible apply PG.setr_i); (case hset => (repeat' (first | exact PG.SetR.h0 | exact PG.SetR.h1 | exact PG.SetR.hl | exact PG.SetR.hc (by assumption) | apply PG.SetR.s)))) | ((with_reducible apply PG.setl_i); (case hset => (repeat' (first | exact PG.SetLR.h0 | exact PG.SetLR.h1 | exact PG.SetLR.hl | apply PG.SetLR.s)))) | ((with_reducible apply PG.put_i); (case hset => (repeat' (first | exact PG.PutR.h | apply PG.PutR.s)))) | ((with_reducible apply PG.pool_i); (case hget => rfl)) | ((with_reducible apply PG.bool_i)) | ((with_reducible apply PG.int_i)) | ((with_reducible apply PG.seqL_i)) | ((with_reducible apply PG.seqT_i)) | ((with_reducible apply PG.seqR_i)) | ((with_reducible apply PG.starT_i)) | ((with_reducible apply PG.starL_i)) | ((with_reducible apply PG.len_i); (case h => rfl)) | ((with_reducible apply PG.tup_i)) | ((with_reducible apply PG.yes_i)) | ((with_reducible apply PG.no_i)) | ((with_reducible apply PG.nyes_i)) | ((with_reducible apply PG.nno_i)) | ((with_reducible apply PG.wa_add)) | ((with_reducible apply PG.wa_sub)) | ((with_reducible apply PG.wa_lt)) | ((with_reducible apply PG.wa_le)) | ((with_reducible apply PG.wa_gt)) | ((with_reducible apply PG.wa_ge)) | ((with_reducible apply PG.wa_eqI)) | ((with_reducible apply PG.wa_neI)) | ((with_reducible apply PG.wa_neg)) | ((with_reducible apply PG.wa_lenL)) | ((with_reducible apply PG.wa_lenT)) | ((with_reducible apply PG.wa_int)) | ((with_reducible apply PG.wa_max)) | ((with_reducible apply PG.wa_min)) | ((with_reducible apply PG.wb_bool)) | ((with_reducible apply PG.wb_int)) | ((with_reducible apply PG.endP_ret)) | ((with_reducible apply PG.endP_retL)) | ((with_reducible apply PG.endN_ret)) | ((with_reducible apply PG.endL_ret)) | ((with_reducible apply PG.endL_retL)) | ((with_reducible apply PG.wa_binO)) | ((with_reducible apply PG.ch_le)) | ((with_reducible apply PG.ch_lt)) | ((with_reducible apply PG.ch_eq)) | ((with_reducible apply PG.wa_ix0); (case hget => rfl)) | ((with_reducible apply PG.wa_ix1); (case hget => rfl)) | ((with_reducible apply PG.wa_ix2); (case hget => rfl)) | ((with_reducible apply PG.wa_ix3); (case hget => rfl)) | ((with_reducible apply PG.wa_ix4); (case hget => rfl)) | ((with_reducible apply PG.wa_ix5); (case hget => rfl)) | ((with_reducible apply PG.wa_ix6); (case hget => rfl)) | ((with_reducible apply PG.wa_ix7); (case hget => rfl)) | ((with_reducible apply PG.wa_ix8); (case hget => rfl)) | ((with_reducible apply PG.wa_il0); (case hget => rfl)) | ((with_reducible apply PG.wa_il1); (case hget => rfl)) | ((with_reducible apply PG.wa_il2); (case hget => rfl)) | ((with_reducible apply PG.wa_ev1)) | ((with_reducible apply PG.wa_ev)) | ((with_reducible apply PG.wl_ev)) | ((with_reducible apply PG.wb_ev)) | ((with_reducible apply PG.wa_mod); (case h1 => omega)) | ((with_reducible apply PG.wa_div); (case h1 => omega); (case h2 => omega)) | ((with_reducible apply PG.wa_mulR); (case h1 => omega); (case h2 => omega)) | ((with_reducible apply PG.wa_mulL); (case h1 => omega); (case h2 => omega)) | ((with_reducible apply PG.wa_shr); (case h1 => omega)))
local macro_rules | `(tactic| array_get_dec) => `(tactic| first | ((with_reducible apply Pr_C.wp_draw); (case hp => assumption); (case h0 => omega); (case h1 => omega)) | ((with_reducible apply Pr_C.ls_i); (case hp => assumption)))

theorem turn_ed2 (c0 c1 c2 c3 c12 : Option Cell) (E : List Int) (e : Ex) (ok : okE e) (hl : E.length ≤ 9000) (q12 : PlainC c12) :
    WS X_law_2 (S15 c0 c1 c2 c3 E (some (.v (exD e))) c12) fun o ρ2 => o = .next ∧ ρ2 = S15 c0 c1 c2 c3 (E ++ edX e.1 ++ edX e.2) (some (.v (exD e))) (some (.v (pr e.2))) := by
  have l4 : ∀ x, (edX x).length = 4 := fun x => rfl
  unfold X_law_2 S15 exD
  (repeat array_get_dec)
  refine ws_forc ?_
  (repeat array_get_dec)
  obtain ⟨o, ρ2, e1, rfl, rfl⟩ := turn_ed c0 c1 c2 c3 (some (.v (.tuple [pr e.1, pr e.2]))) E e.1 ok.1 (by omega)
  refine ⟨_, _, e1, ?_⟩
  refine ws_forc ?_
  unfold S15
  (repeat array_get_dec)
  obtain ⟨o, ρ2, e2, rfl, rfl⟩ := turn_ed c0 c1 c2 c3 (some (.v (.tuple [pr e.1, pr e.2]))) (E ++ edX e.1) e.2 ok.2 (by rw [List.length_append, l4]; omega)
  refine ⟨_, _, e2, ?_⟩
  refine ws_forn ?_
  unfold S15
  (repeat array_get_dec)
  exact ⟨rfl, rfl⟩
/-! ### each edge there and back -/
theorem turn_ck (l : List Ex) (hp : PW (prefs l) = true) (ok : ∀ e ∈ l, okW e) (hl : l.length ≤ 1000) (c0 c1 c3 c4 c5 c7 c8 c9 c10 c11 c12 c13 c14 : Option Cell) (a : Int) (q11 : PlainC c11) :
    WS X_law_3 [c0, c1, some (.v (.tuple (exs l))), c3, c4, c5, some (.v (.int a)), c7, c8, c9, c10, c11, c12, c13, c14] fun o ρ2 => o = .next ∧ ∃ c11, ρ2 = [c0, c1, some (.v (.tuple (exs l))), c3, c4, c5, some (.v (.int a)), c7, c8, c9, c10, c11, c12, c13, c14] ∧ PlainC c11 := by
  have okE' : ∀ e ∈ l, okE e := fun e he => (ok e he).1
  have hs : ∀ e ∈ l, e.1.2 = e.2.2 := fun e he => (ok e he).2.2.2
  unfold X_law_3
  (repeat array_get_dec)
  refine wa_eq (exchanged_swp l a okE' hl hp) ?_
  (repeat array_get_dec)
  refine wa_eq (law_swap_ok l a okE') ?_
  (repeat array_get_dec)
  refine wa_eq (same_int 39 _) ?_
  (repeat array_get_dec)
  refine wa_eq (exchanged_swp l (swp l a) okE' hl hp) ?_
  rw [swp_back hp hs]
  (repeat array_get_dec)
  refine wa_eq (same_int 39 _) ?_
  (repeat array_get_dec)
  exact ⟨rfl, _, rfl, .inr ⟨_, rfl⟩⟩
/-! ### a piece -/
theorem turn_pc (l : List Ex) (ok : ∀ e ∈ l, okW e) (N : List (Int × Int)) (hN : N.length ≤ 1000) (C : List Int) (k : Nat) (hk : k + 1 < C.length) (P : List (Int × Int)) (hP : P.length ≤ 10000) (c0 c1 c4 c5 c6 c10 c11 c12 c13 c14 : Option Cell) (q13 : PlainC c13) (q14 : PlainC c14) :
    WS X_law_6 [c0, c1, some (.v (.tuple (exs l))), some (.v (.tuple (prs N))), c4, c5, c6, some (.v (.list (IL C))), some (.l false (prs P)), some (.v (.int (k : Int))), c10, c11, c12, c13, c14] fun o ρ2 => o = .next ∧ ∃ c13 c14, ρ2 = [c0, c1, some (.v (.tuple (exs l))), some (.v (.tuple (prs N))), c4, c5, c6, some (.v (.list (IL C))), some (.l false (prs (P ++ pc l N C k))), some (.v (.int (k : Int))), c10, c11, c12, c13, c14] ∧ PlainC c13 ∧ PlainC c14 := by
  have okE' : ∀ e ∈ l, okE e := fun e he => (ok e he).1
  have i0 : dIx (.list (IL C)) (.int (k : Int)) = some (.int C[k]) := atD_ints C k (by omega)
  have i1 : dIx (.list (IL C)) (.int ((k : Int) + 1)) = some (.int C[k + 1]) := atD_ints C (k + 1) hk
  unfold X_law_6 pc
  rw [getD_at (by omega : k < C.length), getD_at hk]
  (repeat array_get_dec)
  refine wa_eq i0 ?_
  (repeat array_get_dec)
  refine wa_eq (has_ok N (.tuple (prs N)) C[k] (.inr rfl) (by omega)) ?_
  (repeat array_get_dec)
  cases hh : hasP N C[k] with
  | false =>
    (repeat array_get_dec)
    refine ⟨rfl, some (.v (.int C[k])), c14, ?_, .inr ⟨_, rfl⟩, q14⟩
    simp
  | true =>
    (repeat array_get_dec)
    (first | (with_reducible apply PG.dec_i) | (with_reducible apply PG.decn_i) | (with_reducible apply PG.bit_i)) <;> intro h
    · (repeat array_get_dec)
      refine wa_eq (law_swap_ok l C[k] okE') ?_
      (repeat array_get_dec)
      refine wa_eq i1 ?_
      (repeat array_get_dec)
      refine ⟨prs P, by simp [prs]; omega, ?_⟩
      (repeat array_get_dec)
      refine ⟨rfl, some (.v (.int C[k])), some (.v (.int (swp l C[k]))), ?_, .inr ⟨_, rfl⟩, .inr ⟨_, rfl⟩⟩
      simp [prs, pr, h]
    · (repeat array_get_dec)
      refine ⟨rfl, some (.v (.int C[k])), c14, ?_, .inr ⟨_, rfl⟩, q14⟩
      simp [h]
end Pr_gatewarden_k08_whole_exchanges_undo_them
end
section
set_option linter.all false
set_option maxRecDepth 100000
set_option Elab.async false
namespace Pr_gatewarden_k08_whole_exchanges_undo_them
open PySem PG Pr_C Pr_D Pr_X
theorem pcs_succ (l : List Ex) (N : List (Int × Int)) (C : List Int) (n : Nat) : pcs l N C (n + 1) = pcs l N C n ++ pc l N C n := by
  simp [pcs, List.range_succ]
theorem pc_len (l : List Ex) (N : List (Int × Int)) (C : List Int) (k : Nat) : (pc l N C k).length ≤ 1 := by unfold pc; split <;> simp
theorem pcs_len (l : List Ex) (N : List (Int × Int)) (C : List Int) : ∀ n, (pcs l N C n).length ≤ n
  | 0 => by simp [pcs]
  | n + 1 => by
    rw [pcs_succ, List.length_append]
    have := pcs_len l N C n
    have := pc_len l N C n
    omega
local macro_rules | `(tactic| array_get_dec) => `(tactic| first | ((with_reducible apply PG.ws_set)) | ((with_reducible apply PG.ws_if)) | ((with_reducible apply PG.ws_ret)) | ((with_reducible apply PG.ws_setL)) | ((with_reducible apply PG.ws_expr)) | ((with_reducible apply PG.ws_nilc)) | ((with_reducible apply PG.ws_asc)) | ((with_reducible apply PG.ws_nil)) | ((with_reducible apply PG.ws_for)) | ((with_reducible apply PG.ws_asg)) | ((with_reducible apply PG.ws_par)) | ((with_reducible apply PG.ws_retL)) | ((with_reducible apply PG.ws_brk)) | ((with_reducible apply PG.ws_cont)) | ((with_reducible apply PG.ws_forn)) | ((with_reducible apply PG.ws_sto)) | ((with_reducible apply PG.ws_aug); (case hget => rfl)) | ((with_reducible apply PG.ws_app); (case hget => rfl)) | ((with_reducible apply PG.ws_retO); (case hget => rfl)) | ((with_reducible apply PG.we_name); (case hget => rfl)) | ((with_reducible apply PG.we_c)) | ((with_reducible apply PG.we_bin)) | ((with_reducible apply PG.we_un)) | ((with_reducible apply PG.we_call)) | ((with_reducible apply PG.we_callL); (case hget => rfl)) | ((with_reducible apply PG.we_tup)) | ((with_reducible apply PG.we_lst)) | ((with_reducible apply PG.we_if)) | ((with_reducible apply PG.we_ixL); (case hget => rfl)) | ((with_reducible apply PG.we_unL); (case hget => rfl)) | ((with_reducible apply PG.we_and)) | ((with_reducible apply PG.we_or)) | ((with_reducible apply PG.we_not)) | ((with_reducible apply PG.we_chain)) | ((with_reducible apply PG.we_slT)) | ((with_reducible apply PG.wn_cons)) | ((with_reducible apply PG.wn_nil)) | ((with_reducible apply PG.wn_star)) | ((with_reducible apply PG.wn_disp)) | ((with_reducible apply PG.wn_call)) | ((with_reducible apply PG.wn_sl)) | ((with_reducible apply PG.wn_its)) | ((with_reducible apply PG.wn_r1)) | ((with_reducible apply PG.wn_r2)) | ((with_reducible apply PG.wn_r3)) | ((with_reducible apply PG.wt_tru)) | ((with_reducible apply PG.wt_bl)) | ((with_reducible apply PG.wt_and)) | ((with_reducible apply PG.wt_or)) | ((with_reducible apply PG.wt_not)) | ((with_reducible apply PG.wt_yes)) | ((with_reducible apply PG.wt_truL); (case hget => rfl)) | ((with_reducible apply PG.wo_none)) | ((with_reducible apply PG.wo_some)) | ((with_reducible apply PG.wg_p0)) | ((with_reducible apply PG.wg_tup)) | ((with_reducible apply PG.wg_ps); (case hset => (repeat' (first | exact PG.SetR.h0 | exact PG.SetR.h1 | exact PG.SetR.hl | exact PG.SetR.hc (by assumption) | apply PG.SetR.s)))) | ((with_reducible apply PG.wg_set); (case hset => (repeat' (first | exact PG.SetR.h0 | exact PG.SetR.h1 | exact PG.SetR.hl | exact PG.SetR.hc (by assumption) | apply PG.SetR.s)))) | ((with_reducible apply PG.we_frz); (case hget => rfl); (case hset => (repeat' (first | exact PG.SetR.h0 | exact PG.SetR.h1 | exact PG.SetR.hl | exact PG.SetR.hc (by assumption) | apply PG.SetR.s)))) | ((with_reducible apply PG.setr_i); (case hset => (repeat' (first | exact PG.SetR.h0 | exact PG.SetR.h1 | exact PG.SetR.hl | exact PG.SetR.hc (by assumption) | apply PG.SetR.s)))) | ((with_reducible apply PG.setl_i); (case hset => (repeat' (first | exact PG.SetLR.h0 | exact PG.SetLR.h1 | exact PG.SetLR.hl | apply PG.SetLR.s)))) | ((with_reducible apply PG.put_i); (case hset => (repeat' (first | exact PG.PutR.h | apply PG.PutR.s)))) | ((with_reducible apply PG.pool_i); (case hget => rfl)) | ((with_reducible apply PG.bool_i)) | ((with_reducible apply PG.int_i)) | ((with_reducible apply PG.seqL_i)) | ((with_reducible apply PG.seqT_i)) | ((with_reducible apply PG.seqR_i)) | ((with_reducible apply PG.starT_i)) | ((with_reducible apply PG.starL_i)) | ((with_reducible apply PG.len_i); (case h => rfl)) | ((with_reducible apply PG.tup_i)) | ((with_reducible apply PG.yes_i)) | ((with_reducible apply PG.no_i)) | ((with_reducible apply PG.nyes_i)) | ((with_reducible apply PG.nno_i)) | ((with_reducible apply PG.wa_add)) | ((with_reducible apply PG.wa_sub)) | ((with_reducible apply PG.wa_lt)) | ((with_reducible apply PG.wa_le)) | ((with_reducible apply PG.wa_gt)) | ((with_reducible apply PG.wa_ge)) | ((with_reducible apply PG.wa_eqI)) | ((with_reducible apply PG.wa_neI)) | ((with_reducible apply PG.wa_neg)) | ((with_reducible apply PG.wa_lenL)) | ((with_reducible apply PG.wa_lenT)) | ((with_reducible apply PG.wa_int)) | ((with_reducible apply PG.wa_max)) | ((with_reducible apply PG.wa_min)) | ((with_reducible apply PG.wb_bool)) | ((with_reducible apply PG.wb_int)) | ((with_reducible apply PG.endP_ret)) | ((with_reducible apply PG.endP_retL)) | ((with_reducible apply PG.endN_ret)) | ((with_reducible apply PG.endL_ret)) | ((with_reducible apply PG.endL_retL)) | ((with_reducible apply PG.wa_binO)) | ((with_reducible apply PG.ch_le)) | ((with_reducible apply PG.ch_lt)) | ((with_reducible apply PG.ch_eq)) | ((with_reducible apply PG.wa_ix0); (case hget => rfl)) | ((with_reducible apply PG.wa_ix1); (case hget => rfl)) | ((with_reducible apply PG.wa_ix2); (case hget => rfl)) | ((with_reducible apply PG.wa_ix3); (case hget => rfl)) | ((with_reducible apply PG.wa_ix4); (case hget => rfl)) | ((with_reducible apply PG.wa_ix5); (case hget => rfl)) | ((with_reducible apply PG.wa_ix6); (case hget => rfl)) | ((with_reducible apply PG.wa_ix7); (case hget => rfl)) | ((with_reducible apply PG.wa_ix8); (case hget => rfl)) | ((with_reducible apply PG.wa_il0); (case hget => rfl)) | ((with_reducible apply PG.wa_il1); (case hget => rfl)) | ((with_reducible apply PG.wa_il2); (case hget => rfl)) | ((with_reducible apply PG.wa_ev1)) | ((with_reducible apply PG.wa_ev)) | ((with_reducible apply PG.wl_ev)) | ((with_reducible apply PG.wb_ev)) | ((with_reducible apply PG.wa_mod); (case h1 => omega)) | ((with_reducible apply PG.wa_div); (case h1 => omega); (case h2 => omega)) | ((with_reducible apply PG.wa_mulR); (case h1 => omega); (case h2 => omega)) | ((with_reducible apply PG.wa_mulL); (case h1 => omega); (case h2 => omega)) | ((with_reducible apply PG.wa_shr); (case h1 => omega)))
local macro_rules | `(tactic| array_get_dec) => `(tactic| first | ((with_reducible apply Pr_C.wp_draw); (case hp => assumption); (case h0 => omega); (case h1 => omega)) | ((with_reducible apply Pr_C.ls_i); (case hp => assumption)))

local macro_rules | `(tactic| array_get_dec) => `(tactic| first | ((with_reducible apply wp_number); (case hp => assumption); (case h0 => omega); (case h1 => omega)) | ((with_reducible apply we_frz2v); (case hget => rfl)) | ((with_reducible apply we_frz2l); (case hget => rfl); (case hset => (repeat' (first | exact PG.SetR.h0 | exact PG.SetR.h1 | exact PG.SetR.hl | exact PG.SetR.hc (by assumption) | apply PG.SetR.s)))))

/-- the last steps, the cuts once known -/
theorem tail_ok (l : List Ex) (hp : PW (prefs l) = true) (ok : ∀ e ∈ l, okW e) (hl : l.length ≤ 1000) (N : List (Int × Int)) (cN : Can N) (iN : In 65535 N) (hN : N.length ≤ 1000) (C : List Int) (hc : Cuts l N C) (hC : C.length ≤ 900)
    (c0 c1 c4 c5 c6 c9 c11 c12 : Option Cell) (q9 : PlainC c9) (q11 : PlainC c11) :
    WS (sSeq (sSetL 8 (nDisp nNil))
  (sSeq (sFor (itR1 (nCons (eBin dSub (eCall (o1of dLen) (nCons (eName 7) nNil)) (eC (.int 1))) nNil)) (gSet 9)
  X_law_6)
  (sSeq (sSet 10 (eCall F_law_union (nCons (eFrz2 8) (nCons (eC (.int 65535)) nNil))))
  (sSeq (sSet 11 (eCall F_exchanged_set (nCons (eName 2) (nCons (eName 3) nNil))))
  (sSeq (sRet (eAnd (eCall (F_law_same 40) (nCons (eName 11) (nCons (eName 10) nNil))) (eCall (F_law_same 40) (nCons (eCall F_exchanged_set (nCons (eName 2) (nCons (eName 11) nNil))) (nCons (eName 3) nNil)))))
  sNil)))))
      [c0, c1, some (.v (.tuple (exs l))), some (.v (.tuple (prs N))), c4, c5, c6, some (.v (.list (IL C))), none, c9, none, c11, c12, none, none] fun o ρ2 => o = .ret (.bool true) := by
  have c1' : 1 ≤ C.length := by
    have := List.length_pos_of_mem hc.lo
    omega
  have hs : ∀ e ∈ l, e.1.2 = e.2.2 := fun e he => (ok e he).2.2.2
  have lC : ((IL C).length : Int) = C.length := by simp [IL]
  (repeat array_get_dec)
  refine r1_i (by simp only [in62, Bool.and_eq_true, decide_eq_true_eq]; omega) ?_
  refine ws_forI (fun ds ρ => ∃ (k : Nat) (c9 c13 c14 : Option Cell), ds = (rng 0 (C.length - 1)).drop k ∧ k ≤ C.length - 1 ∧ ρ = [c0, c1, some (.v (.tuple (exs l))), some (.v (.tuple (prs N))), c4, c5, c6, some (.v (.list (IL C))), some (.l false (prs (pcs l N C k))), c9, none, c11, c12, c13, c14] ∧ PlainC c9 ∧ PlainC c13 ∧ PlainC c14) _
    ⟨0, c9, none, none, by rw [List.drop_zero, show (((IL C).length : Int) - 1).toNat = C.length - 1 by omega], by omega, rfl, q9, .inl rfl, .inl rfl⟩ ?_ ?_
  · rintro d ds ρ ⟨k, c9, c13, c14, e, hk, rfl, q9, q13, q14⟩
    have hk2 : k < (rng 0 (C.length - 1)).length := by
      rcases Nat.lt_or_ge k (rng 0 (C.length - 1)).length with h | h
      · exact h
      · rw [List.drop_eq_nil_of_le h] at e; cases e
    rw [List.drop_eq_getElem_cons hk2] at e
    obtain ⟨rfl, rfl⟩ := List.cons.inj e
    have hk3 : k + 1 < C.length := by simp [rng_len] at hk2; omega
    have ed : (rng 0 (C.length - 1))[k] = PyData.int (k : Int) := by simp [rng]
    rw [ed]
    (repeat array_get_dec)
    have lp := pcs_len l N C k
    obtain ⟨o, ρ2, e2, rfl, d13, d14, rfl, w13, w14⟩ := turn_pc l ok N hN C k hk3 (pcs l N C k) (by omega) c0 c1 c4 c5 c6 none c11 c12 c13 c14 q13 q14
    rw [← pcs_succ] at e2
    exact ⟨_, _, e2, rfl, k + 1, _, d13, d14, rfl, by omega, rfl, .inr ⟨_, rfl⟩, w13, w14⟩
  · rintro ρ1 ⟨k, c9, c13, c14, e, hk, rfl, q9, q13, q14⟩
    have hk2 : k = C.length - 1 := by
      have := congrArg List.length e
      simp [rng_len] at this
      omega
    subst hk2
    have lp := pcs_len l N C (C.length - 1)
    obtain ⟨due, ed, cd, _, md⟩ := union_ok2 (pcs l N C (C.length - 1)) 65535 (by decide) (by decide) (by omega) (pcs_ok hp ok hc)
    obtain ⟨told, et, ct, it, mt⟩ := exs_ok l N hl hp ok cN iN
    obtain ⟨back, eb, cb, ib, mb⟩ := exs_ok l told hl hp ok ct it
    have e1 : told = due := can_uniq ct cd fun n => by rw [mt, md, pcs_mem hp ok iN hc]
    have e2 : back = N := can_uniq cb cN fun n => by rw [mb, mt, swp_back hp hs]
    subst e1 e2
    have lt := in_len ct it
    have lb := in_len cb ib
    (repeat array_get_dec)
    refine wa_eq ed ?_
    (repeat array_get_dec)
    refine wa_eq et ?_
    (repeat array_get_dec)
    refine wa_eq (same_prsT 37 told (by omega)) ?_
    (repeat array_get_dec)
    refine wa_eq eb ?_
    (repeat array_get_dec)
    refine wa_eq (same_prsT 37 _ (by omega)) ?_
    (repeat array_get_dec)
    all_goals rfl
end Pr_gatewarden_k08_whole_exchanges_undo_them
end
section
set_option linter.all false
set_option maxRecDepth 100000
set_option Elab.async false
namespace Pr_gatewarden_k08_whole_exchanges_undo_them
open PySem PG Pr_C Pr_D Pr_X
def eds (l : List Ex) : List Int := l.flatMap fun e => edX e.1 ++ edX e.2
theorem eds_app (l m : List Ex) : eds (l ++ m) = eds l ++ eds m := by simp [eds]
theorem eds_len (l : List Ex) : (eds l).length = 8 * l.length := by
  induction l with
  | nil => rfl
  | cons e l ih =>
    have : eds (e :: l) = edX e.1 ++ edX e.2 ++ eds l := rfl
    rw [this, List.length_append, ih]
    have : (edX e.1 ++ edX e.2).length = 8 := rfl
    simp only [List.length_cons]
    omega
theorem eds_mem {l : List Ex} {x : Int × Int} (h : x ∈ prefs l) {q : Int} (hq : q ∈ edX x) : q ∈ eds l := by
  obtain ⟨e, he, hx⟩ := List.mem_flatMap.mp h
  simp only [List.mem_cons, List.not_mem_nil, or_false] at hx
  refine List.mem_flatMap.mpr ⟨e, he, List.mem_append.mpr ?_⟩
  rcases hx with rfl | rfl
  · exact .inl hq
  · exact .inr hq
def cutsL (v : Int) (l : List Ex) (N : List (Int × Int)) : List Int := [v] ++ eds l ++ [0, 65536] ++ N.map (fun y => y.1) ++ N.map (fun y => y.2 + 1)
theorem cuts_ok {l : List Ex} (ok : ∀ e ∈ l, okW e) {N : List (Int × Int)} (cN : Can N) (iN : In 65535 N) {v : Int} (v0 : 0 ≤ v) (v1 : v ≤ 65535) : Cuts l N (sortI (cutsL v l N)) := by
  have okp : ∀ x ∈ prefs l, okX x ∧ x.1 + sz x.2 ≤ 65536 := fun x hx => by
    obtain ⟨e, he, h⟩ := List.mem_flatMap.mp hx
    simp only [List.mem_cons, List.not_mem_nil, or_false] at h
    rcases h with rfl | rfl
    · exact ⟨(ok e he).1.1, (ok e he).2.1⟩
    · exact ⟨(ok e he).1.2, (ok e he).2.2.1⟩
  have hi : ∀ q, q ∈ cutsL v l N ↔ q = v ∨ q ∈ eds l ∨ q = 0 ∨ q = 65536 ∨ (∃ y ∈ N, y.1 = q) ∨ ∃ y ∈ N, y.2 + 1 = q := fun q => by
    simp only [cutsL, List.mem_append, List.mem_cons, List.not_mem_nil, or_false, List.mem_map]
    constructor
    · rintro ((((h | h) | h | h) | h) | h) <;> simp [h]
    · rintro (h | h | h | h | h | h) <;> simp [h]
  refine ⟨pw_sortI _, fun x hx => ?_, fun y hy => ?_, ?_, ?_, fun q hq => ?_⟩
  · obtain ⟨⟨a1, a2, a3, a4⟩, t⟩ := okp x hx
    rw [mem_sortI, mem_sortI, hi, hi]
    refine ⟨.inr (.inl (eds_mem hx (by simp [edX]))), ?_⟩
    by_cases h : x.1 + sz x.2 ≤ 65535
    · refine .inr (.inl (eds_mem hx ?_))
      have e : (if x.1 + sz x.2 - 1 + 1 < 65535 then x.1 + sz x.2 - 1 + 1 else 65535) = x.1 + sz x.2 := by split <;> omega
      unfold edX
      rw [e]
      simp
    · exact .inr (.inr (.inr (.inl (by omega))))
  · rw [mem_sortI, mem_sortI, hi, hi]
    exact ⟨.inr (.inr (.inr (.inr (.inl ⟨y, hy, rfl⟩)))), .inr (.inr (.inr (.inr (.inr ⟨y, hy, rfl⟩))))⟩
  · rw [mem_sortI, hi]; exact .inr (.inr (.inl rfl))
  · rw [mem_sortI, hi]; exact .inr (.inr (.inr (.inl rfl)))
  · rw [mem_sortI, hi] at hq
    rcases hq with rfl | h | rfl | rfl | ⟨y, hy, rfl⟩ | ⟨y, hy, rfl⟩
    · omega
    · obtain ⟨e, he, h⟩ := List.mem_flatMap.mp h
      have o := ok e he
      have s1 := sz_bd o.1.1.2.2.1 o.1.1.2.2.2
      have s2 := sz_bd o.1.2.2.2.1 o.1.2.2.2.2
      obtain ⟨⟨⟨a1, a2, a3, a4⟩, b1, b2, b3, b4⟩, t1, t2, hs⟩ := o
      simp only [edX, List.mem_append, List.mem_cons, List.not_mem_nil, or_false] at h
      rcases h with (rfl | rfl | rfl | rfl) | rfl | rfl | rfl | rfl <;> (try split) <;> omega
    · omega
    · omega
    · have := iN y.1 (mem_self cN hy); omega
    · have := iN y.2 ⟨y, hy, cN.2 y hy, Int.le_refl _⟩; omega
end Pr_gatewarden_k08_whole_exchanges_undo_them
end
section
set_option linter.all false
set_option maxRecDepth 100000
set_option Elab.async false
namespace Pr_gatewarden_k08_whole_exchanges_undo_them
open PySem PG Pr_C Pr_D Pr_X
local macro_rules | `(tactic| array_get_dec) => `(tactic| first | ((with_reducible apply PG.ws_set)) | ((with_reducible apply PG.ws_if)) | ((with_reducible apply PG.ws_ret)) | ((with_reducible apply PG.ws_setL)) | ((with_reducible apply PG.ws_expr)) | ((with_reducible apply PG.ws_nilc)) | ((with_reducible apply PG.ws_asc)) | ((with_reducible apply PG.ws_nil)) | ((with_reducible apply PG.ws_for)) | ((with_reducible apply PG.ws_asg)) | ((with_reducible apply PG.ws_par)) | ((with_reducible apply PG.ws_retL)) | ((with_reducible apply PG.ws_brk)) | ((with_reducible apply PG.ws_cont)) | ((with_reducible apply PG.ws_forn)) | ((with_reducible apply PG.ws_sto)) | ((with_reducible apply PG.ws_aug); (case hget => rfl)) | ((with_reducible apply PG.ws_app); (case hget => rfl)) | ((with_reducible apply PG.ws_retO); (case hget => rfl)) | ((with_reducible apply PG.we_name); (case hget => rfl)) | ((with_reducible apply PG.we_c)) | ((with_reducible apply PG.we_bin)) | ((with_reducible apply PG.we_un)) | ((with_reducible apply PG.we_call)) | ((with_reducible apply PG.we_callL); (case hget => rfl)) | ((with_reducible apply PG.we_tup)) | ((with_reducible apply PG.we_lst)) | ((with_reducible apply PG.we_if)) | ((with_reducible apply PG.we_ixL); (case hget => rfl)) | ((with_reducible apply PG.we_unL); (case hget => rfl)) | ((with_reducible apply PG.we_and)) | ((with_reducible apply PG.we_or)) | ((with_reducible apply PG.we_not)) | ((with_reducible apply PG.we_chain)) | ((with_reducible apply PG.we_slT)) | ((with_reducible apply PG.wn_cons)) | ((with_reducible apply PG.wn_nil)) | ((with_reducible apply PG.wn_star)) | ((with_reducible apply PG.wn_disp)) | ((with_reducible apply PG.wn_call)) | ((with_reducible apply PG.wn_sl)) | ((with_reducible apply PG.wn_its)) | ((with_reducible apply PG.wn_r1)) | ((with_reducible apply PG.wn_r2)) | ((with_reducible apply PG.wn_r3)) | ((with_reducible apply PG.wt_tru)) | ((with_reducible apply PG.wt_bl)) | ((with_reducible apply PG.wt_and)) | ((with_reducible apply PG.wt_or)) | ((with_reducible apply PG.wt_not)) | ((with_reducible apply PG.wt_yes)) | ((with_reducible apply PG.wt_truL); (case hget => rfl)) | ((with_reducible apply PG.wo_none)) | ((with_reducible apply PG.wo_some)) | ((with_reducible apply PG.wg_p0)) | ((with_reducible apply PG.wg_tup)) | ((with_reducible apply PG.wg_ps); (case hset => (repeat' (first | exact PG.SetR.h0 | exact PG.SetR.h1 | exact PG.SetR.hl | exact PG.SetR.hc (by assumption) | apply PG.SetR.s)))) | ((with_reducible apply PG.wg_set); (case hset => (repeat' (first | exact PG.SetR.h0 | exact PG.SetR.h1 | exact PG.SetR.hl | exact PG.SetR.hc (by assumption) | apply PG.SetR.s)))) | ((with_reducible apply PG.we_frz); (case hget => rfl); (case hset => (repeat' (first | exact PG.SetR.h0 | exact PG.SetR.h1 | exact PG.SetR.hl | exact PG.SetR.hc (by assumption) | apply PG.SetR.s)))) | ((with_reducible apply PG.setr_i); (case hset => (repeat' (first | exact PG.SetR.h0 | exact PG.SetR.h1 | exact PG.SetR.hl | exact PG.SetR.hc (by assumption) | apply PG.SetR.s)))) | ((with_reducible apply PG.setl_i); (case hset => (repeat' (first | exact PG.SetLR.h0 | exact PG.SetLR.h1 | exact PG.SetLR.hl | apply PG.SetLR.s)))) | ((with_reducible apply PG.put_i); (case hset => (repeat' (first | exact PG.PutR.h | apply PG.PutR.s)))) | ((with_reducible apply PG.pool_i); (case hget => rfl)) | ((with_reducible apply PG.bool_i)) | ((with_reducible apply PG.int_i)) | ((with_reducible apply PG.seqL_i)) | ((with_reducible apply PG.seqT_i)) | ((with_reducible apply PG.seqR_i)) | ((with_reducible apply PG.starT_i)) | ((with_reducible apply PG.starL_i)) | ((with_reducible apply PG.len_i); (case h => rfl)) | ((with_reducible apply PG.tup_i)) | ((with_reducible apply PG.yes_i)) | ((with_reducible apply PG.no_i)) | ((with_reducible apply PG.nyes_i)) | ((with_reducible apply PG.nno_i)) | ((with_reducible apply PG.wa_add)) | ((with_reducible apply PG.wa_sub)) | ((with_reducible apply PG.wa_lt)) | ((with_reducible apply PG.wa_le)) | ((with_reducible apply PG.wa_gt)) | ((with_reducible apply PG.wa_ge)) | ((with_reducible apply PG.wa_eqI)) | ((with_reducible apply PG.wa_neI)) | ((with_reducible apply PG.wa_neg)) | ((with_reducible apply PG.wa_lenL)) | ((with_reducible apply PG.wa_lenT)) | ((with_reducible apply PG.wa_int)) | ((with_reducible apply PG.wa_max)) | ((with_reducible apply PG.wa_min)) | ((with_reducible apply PG.wb_bool)) | ((with_reducible apply PG.wb_int)) | ((with_reducible apply PG.endP_ret)) | ((with_reducible apply PG.endP_retL)) | ((with_reducible apply PG.endN_ret)) | ((with_reducible apply PG.endL_ret)) | ((with_reducible apply PG.endL_retL)) | ((with_reducible apply PG.wa_binO)) | ((with_reducible apply PG.ch_le)) | ((with_reducible apply PG.ch_lt)) | ((with_reducible apply PG.ch_eq)) | ((with_reducible apply PG.wa_ix0); (case hget => rfl)) | ((with_reducible apply PG.wa_ix1); (case hget => rfl)) | ((with_reducible apply PG.wa_ix2); (case hget => rfl)) | ((with_reducible apply PG.wa_ix3); (case hget => rfl)) | ((with_reducible apply PG.wa_ix4); (case hget => rfl)) | ((with_reducible apply PG.wa_ix5); (case hget => rfl)) | ((with_reducible apply PG.wa_ix6); (case hget => rfl)) | ((with_reducible apply PG.wa_ix7); (case hget => rfl)) | ((with_reducible apply PG.wa_ix8); (case hget => rfl)) | ((with_reducible apply PG.wa_il0); (case hget => rfl)) | ((with_reducible apply PG.wa_il1); (case hget => rfl)) | ((with_reducible apply PG.wa_il2); (case hget => rfl)) | ((with_reducible apply PG.wa_ev1)) | ((with_reducible apply PG.wa_ev)) | ((with_reducible apply PG.wl_ev)) | ((with_reducible apply PG.wb_ev)) | ((with_reducible apply PG.wa_mod); (case h1 => omega)) | ((with_reducible apply PG.wa_div); (case h1 => omega); (case h2 => omega)) | ((with_reducible apply PG.wa_mulR); (case h1 => omega); (case h2 => omega)) | ((with_reducible apply PG.wa_mulL); (case h1 => omega); (case h2 => omega)) | ((with_reducible apply PG.wa_shr); (case h1 => omega)))
local macro_rules | `(tactic| array_get_dec) => `(tactic| first | ((with_reducible apply Pr_C.wp_draw); (case hp => assumption); (case h0 => omega); (case h1 => omega)) | ((with_reducible apply Pr_C.ls_i); (case hp => assumption)))

local macro_rules | `(tactic| array_get_dec) => `(tactic| first | ((with_reducible apply wp_number); (case hp => assumption); (case h0 => omega); (case h1 => omega)) | ((with_reducible apply we_frz2v); (case hget => rfl)) | ((with_reducible apply we_frz2l); (case hget => rfl); (case hset => (repeat' (first | exact PG.SetR.h0 | exact PG.SetR.h1 | exact PG.SetR.hl | exact PG.SetR.hc (by assumption) | apply PG.SetR.s)))))

theorem wipe5 (a b c d e f g h i j k l m n o : Option Cell) : wipeR [a, b, c, d, e, f, g, h, i, j, k, l, m, n, o] [5] = [a, b, c, d, e, none, g, h, i, j, k, l, m, n, o] := rfl
theorem plain5 {a b c d e f g h i j k l m n o : Option Cell} (q : PlainC f) : plainAt [a, b, c, d, e, f, g, h, i, j, k, l, m, n, o] [5] = true := by
  rcases q with rfl | ⟨d, rfl⟩ <;> rfl
theorem comp4 (N : List (Int × Int)) (hN : N.length ≤ 1000) (c0 c1 c2 c4 c5 c6 c7 c8 c9 c10 c11 c12 c13 c14 : Option Cell) (q5 : PlainC c5) (P : List PyData → Rho → Prop)
    (q : P (IL (N.map fun y => y.1)) [c0, c1, c2, some (.v (.tuple (prs N))), c4, c5, c6, c7, c8, c9, c10, c11, c12, c13, c14]) :
    WN (nComp (itS (eName 3)) (gSet 5) tYesF X_law_4 [5]) [c0, c1, c2, some (.v (.tuple (prs N))), c4, c5, c6, c7, c8, c9, c10, c11, c12, c13, c14] P := by
  refine wn_map pr (fun _ => true) (fun y => .int y.1) N ?_
  (repeat array_get_dec)
  refine ⟨rfl, by omega, plain5 q5, fun x hx => ?_, ?_⟩
  · simp only [wipe5]
    unfold pr
    (repeat array_get_dec)
    refine ⟨rfl, fun _ => ?_, fun z => (nomatch z)⟩
    unfold X_law_4
    (repeat array_get_dec)
    exact ⟨rfl, rfl, rfl⟩
  · rw [List.filter_eq_self.mpr (by simp)]
    have e : N.map (fun y => PyData.int y.1) = IL (N.map fun y => y.1) := by simp [IL]
    rw [e]
    exact q
theorem comp5 (N : List (Int × Int)) (hN : N.length ≤ 1000) (c0 c1 c2 c4 c5 c6 c7 c8 c9 c10 c11 c12 c13 c14 : Option Cell) (q5 : PlainC c5) (P : List PyData → Rho → Prop)
    (q : P (IL (N.map fun y => y.2 + 1)) [c0, c1, c2, some (.v (.tuple (prs N))), c4, c5, c6, c7, c8, c9, c10, c11, c12, c13, c14]) :
    WN (nComp (itS (eName 3)) (gSet 5) tYesF X_law_5 [5]) [c0, c1, c2, some (.v (.tuple (prs N))), c4, c5, c6, c7, c8, c9, c10, c11, c12, c13, c14] P := by
  refine wn_map pr (fun _ => true) (fun y => .int (y.2 + 1)) N ?_
  (repeat array_get_dec)
  refine ⟨rfl, by omega, plain5 q5, fun x hx => ?_, ?_⟩
  · simp only [wipe5]
    unfold pr
    (repeat array_get_dec)
    refine ⟨rfl, fun _ => ?_, fun z => (nomatch z)⟩
    unfold X_law_5
    (repeat array_get_dec)
    exact ⟨rfl, rfl, rfl⟩
  · rw [List.filter_eq_self.mpr (by simp)]
    have e : N.map (fun y => PyData.int (y.2 + 1)) = IL (N.map fun y => y.2 + 1) := by simp [IL]
    rw [e]
    exact q
theorem law_true (ns : List Int) (h : ns.length ≤ 63) : F_law [RO (ns.map PyData.int)] = some (.bool true) := by
  obtain ⟨p, e, hp⟩ := pool_ok ns h
  refine of_wa ?_
  unfold F_law; refine PG.wa_def rfl ?_; simp only [PG.rho0_eq, List.map_cons, List.map_nil, List.replicate_succ, List.replicate_zero, List.cons_append, List.nil_append]; unfold B_law
  (repeat array_get_dec)
  refine wl_eq e ?_
  (repeat array_get_dec)
  refine wp_ls great_ls2 hp ?_
  rintro z p1 k1 ⟨l, rfl, ho, hl, hX⟩
  rw [isX_iff, Bool.and_eq_true, List.all_eq_true] at hX
  obtain ⟨hv, pw⟩ := hX
  have ok : ∀ e ∈ l, okW e := fun e he => by
    have hv := hv e he
    unfold vE at hv
    simp only [Bool.and_eq_true, decide_eq_true_eq] at hv
    exact ⟨ho e he, isP_top hv.1.1, isP_top hv.1.2, hv.2⟩
  (repeat array_get_dec)
  refine wp_ls drawn_ls k1 ?_
  rintro z p2 k2 ⟨N, rfl, cN, iN, lN⟩
  (repeat array_get_dec)
  intro v p3 k3 v0 v1
  (repeat array_get_dec)
  refine ws_forI (fun ds ρ => ∃ (P R : List Ex) (c5 c12 : Option Cell), l = P ++ R ∧ ds = exs R ∧ ρ = S15 (some (.v (RO (ns.map PyData.int)))) (some (.l false p3.d)) (some (.v (.tuple (exs l)))) (some (.v (.tuple (prs N)))) ([v] ++ eds P) c5 c12 ∧ PlainC c5 ∧ PlainC c12) _
    ⟨[], l, none, none, rfl, rfl, rfl, .inl rfl, .inl rfl⟩ ?_ ?_
  · rintro d ds ρ ⟨P, R, c5, c12, hW, e, rfl, q5, q12⟩
    cases R with
    | nil => cases e
    | cons x R =>
      have e1 : exs (x :: R) = exD x :: exs R := rfl
      rw [e1] at e
      obtain ⟨rfl, rfl⟩ := List.cons.inj e
      have okx := ho x (by rw [hW]; simp)
      have lP : P.length ≤ 9 := by
        have := congrArg List.length hW
        simp only [List.length_append] at this
        omega
      have le := eds_len P
      unfold S15
      (repeat array_get_dec)
      obtain ⟨o, ρ2, e2, rfl, rfl⟩ := turn_ed2 (some (.v (RO (ns.map PyData.int)))) (some (.l false p3.d)) (some (.v (.tuple (exs l)))) (some (.v (.tuple (prs N)))) c12 ([v] ++ eds P) x okx (by simp; omega) q12
      refine ⟨_, _, e2, rfl, P ++ [x], R, some (.v (exD x)), some (.v (pr x.2)), by rw [hW]; simp, rfl, ?_, .inr ⟨_, rfl⟩, .inr ⟨_, rfl⟩⟩
      rw [eds_app]
      simp [S15, eds, IL]
  · rintro ρ1 ⟨P, R, c5, c12, hW, e, rfl, q5, q12⟩
    cases R with
    | cons x R => cases e
    | nil =>
      rw [List.append_nil] at hW
      subst hW
      have le := eds_len l
      unfold S15
      (repeat array_get_dec)
      refine ws_forI (fun ds ρ => ∃ (c6 c11 : Option Cell), ρ = [some (.v (RO (ns.map PyData.int))), some (.l false p3.d), some (.v (.tuple (exs l))), some (.v (.tuple (prs N))), some (.v (.list (IL ([v] ++ eds l)))), c5, c6, none, none, none, none, c11, c12, none, none] ∧ PlainC c6 ∧ PlainC c11 ∧ ∀ d ∈ ds, ∃ a, d = PyData.int a) _
        ⟨none, none, rfl, .inl rfl, .inl rfl, fun d hd => by obtain ⟨a, _, rfl⟩ := List.mem_map.mp hd; exact ⟨a, rfl⟩⟩ ?_ ?_
      · rintro d ds ρ ⟨c6, c11, rfl, q6, q11, hd⟩
        obtain ⟨a, rfl⟩ := hd d (by simp)
        (repeat array_get_dec)
        obtain ⟨o, ρ2, e2, rfl, d11, rfl, w11⟩ := turn_ck l pw ok (by omega) (some (.v (RO (ns.map PyData.int)))) (some (.l false p3.d)) (some (.v (.tuple (prs N)))) (some (.v (.list (IL ([v] ++ eds l))))) c5 none none none none c11 c12 none none a q11
        exact ⟨_, _, e2, rfl, _, d11, rfl, .inr ⟨_, rfl⟩, w11, fun y hy => hd y (by simp [hy])⟩
      · rintro ρ1 ⟨c6, c11, rfl, q6, q11, _⟩
        (repeat array_get_dec)
        refine wa_addL (by simp [IL]; omega) ?_
        (repeat array_get_dec)
        refine comp4 N (by omega) _ _ _ _ _ _ _ _ _ _ _ _ _ _ q5 _ ?_
        (repeat array_get_dec)
        refine wa_addL (by simp [IL]; omega) ?_
        (repeat array_get_dec)
        refine comp5 N (by omega) _ _ _ _ _ _ _ _ _ _ _ _ _ _ q5 _ ?_
        (repeat array_get_dec)
        refine wa_addL (by simp [IL]; omega) ?_
        (repeat array_get_dec)
        have lc : (cutsL v l N).length ≤ 200 := by simp [cutsL]; omega
        have ec : IL ([v] ++ eds l) ++ [PyData.int 0, PyData.int 65536] ++ IL (N.map fun y => y.1) ++ IL (N.map fun y => y.2 + 1) = (cutsL v l N).map PyData.int := by simp [IL, cutsL]
        rw [ec]
        have es := dSortSetA_ints (cutsL v l N) (by omega)
        refine wl_eq es ?_
        have hc := cuts_ok ok cN iN v0 v1
        have lcs : (sortI (cutsL v l N)).length ≤ 900 := by have := len_sortI (cutsL v l N); omega
        have T := tail_ok l pw ok (by omega) N cN iN (by omega) (sortI (cutsL v l N)) hc lcs (some (.v (RO (ns.map PyData.int)))) (some (.l false p3.d)) (some (.v (.list (IL ([v] ++ eds l))))) c5 c6 none c11 c12 (.inl rfl) q11
        array_get_dec
        exact T.mono fun o ρ' ho => by subst ho; rfl
end Pr_gatewarden_k08_whole_exchanges_undo_them
end
open PySem PySem.W PyProof.Rows
set_option maxRecDepth 100000 in
set_option maxHeartbeats 0 in
theorem PySem.Challenge.cw_gatewarden_k08_whole_exchanges_undo_them_holds : PySem.Challenge.rw_gatewarden_k08_whole_exchanges_undo_them.Holds := by
  w_on; o_law; k_head; (case hw => w_witness2)
  k_fill
  refine L2.walk_of (l := PySem.Challenge.rw_gatewarden_k08_whole_exchanges_undo_them) (n := 63) (k := 42) (x := "script") (CX := fun _ => L2.CX0) (sp := fun w => PG.spP _ 1 Pr_gatewarden_k08_whole_exchanges_undo_them.F_law) rfl (by decide) rfl ⟨rfl, by decide, by decide⟩ (fun w h Y => PySem.W.kIn_of Y) ?F (fun _ _ a ns hl _ hS => PG.law_sp hS (Pr_gatewarden_k08_whole_exchanges_undo_them.law_true ns hl)) (fun _ _ _ _ _ h => h)
  case F =>
    intro w mg fa h KX G hmg
    refine' Pr_gatewarden_k08_whole_exchanges_undo_them.all_mk KX G hmg ?a_set_of ?l_set_of ?c_set_of ?k_set_of ?a_both ?l_both ?c_both ?k_both ?a_either ?l_either ?c_either ?k_either ?a_outside ?l_outside ?c_outside ?k_outside ?a_without ?l_without ?c_without ?k_without ?a_size ?l_size ?c_size ?k_size ?a_held ?l_held ?c_held ?k_held ?a_holds ?l_holds ?c_holds ?k_holds ?a_ways ?l_ways ?c_ways ?k_ways ?a_exchanged ?l_exchanged ?c_exchanged ?k_exchanged ?a_exchanged_set ?l_exchanged_set ?c_exchanged_set ?k_exchanged_set ?a_law_same ?l_law_same ?c_law_same ?k_law_same ?a_law_is_integer ?l_law_is_integer ?c_law_is_integer ?k_law_is_integer ?a_law_pool ?l_law_pool ?c_law_pool ?k_law_pool ?a_law_spread ?l_law_spread ?c_law_spread ?k_law_spread ?a_law_draw ?l_law_draw ?c_law_draw ?k_law_draw ?a_law_has ?l_law_has ?c_law_has ?k_law_has ?a_law_union ?l_law_union ?c_law_union ?k_law_union ?a_law_number ?l_law_number ?c_law_number ?k_law_number ?a_law_pairs ?l_law_pairs ?c_law_pairs ?k_law_pairs ?a_law_drawn_set ?l_law_drawn_set ?c_law_drawn_set ?k_law_drawn_set ?a_law_power ?l_law_power ?c_law_power ?k_law_power ?a_law_prefix ?l_law_prefix ?c_law_prefix ?k_law_prefix ?a_law_is_prefix ?l_law_is_prefix ?c_law_is_prefix ?k_law_is_prefix ?a_law_last ?l_law_last ?c_law_last ?k_law_last ?a_law_apart ?l_law_apart ?c_law_apart ?k_law_apart ?a_law_is_exchange ?l_law_is_exchange ?c_law_is_exchange ?k_law_is_exchange ?a_law_exchange ?l_law_exchange ?c_law_exchange ?k_law_exchange ?a_law_swap ?l_law_swap ?c_law_swap ?k_law_swap ?a_law_great_exchange ?l_law_great_exchange ?c_law_great_exchange ?k_law_great_exchange ?a_law ?l_law ?c_law ?k_law ?z_bool ?z_int ?z_isinstance ?z_len ?z_list ?z_max ?z_min ?z_range ?z_set ?z_sorted ?z_str ?z_tuple
    (case a_set_of => k_is); (case l_set_of => k_is); (case c_set_of => k_is); (case k_set_of => k_is); (case a_both => k_is); (case l_both => k_is); (case c_both => k_is); (case k_both => k_is); (case a_either => k_is); (case l_either => k_is); (case c_either => k_is); (case k_either => k_is); (case a_outside => k_is); (case l_outside => k_is); (case c_outside => k_is); (case k_outside => k_is); (case a_without => k_is); (case l_without => k_is); (case c_without => k_is); (case k_without => k_is); (case a_size => k_is); (case l_size => k_is); (case c_size => k_is); (case k_size => k_is); (case a_held => k_is); (case l_held => k_is); (case c_held => k_is); (case k_held => k_is); (case a_holds => k_is); (case l_holds => k_is); (case c_holds => k_is); (case k_holds => k_is); (case a_ways => k_is); (case l_ways => k_is); (case c_ways => k_is); (case k_ways => k_is); (case a_exchanged => k_is); (case l_exchanged => k_is); (case c_exchanged => k_is); (case k_exchanged => k_is); (case a_exchanged_set => k_is); (case l_exchanged_set => k_is); (case c_exchanged_set => k_is); (case k_exchanged_set => k_is); (case a_law_same => k_is); (case l_law_same => k_is); (case c_law_same => k_is); (case k_law_same => k_is); (case a_law_is_integer => k_is); (case l_law_is_integer => k_is); (case c_law_is_integer => k_is); (case k_law_is_integer => k_is); (case a_law_pool => k_is); (case l_law_pool => k_is); (case c_law_pool => k_is); (case k_law_pool => k_is); (case a_law_spread => k_is); (case l_law_spread => k_is); (case c_law_spread => k_is); (case k_law_spread => k_is); (case a_law_draw => k_is); (case l_law_draw => k_is); (case c_law_draw => k_is); (case k_law_draw => k_is); (case a_law_has => k_is); (case l_law_has => k_is); (case c_law_has => k_is); (case k_law_has => k_is); (case a_law_union => k_is); (case l_law_union => k_is); (case c_law_union => k_is); (case k_law_union => k_is); (case a_law_number => k_is); (case l_law_number => k_is); (case c_law_number => k_is); (case k_law_number => k_is); (case a_law_pairs => k_is); (case l_law_pairs => k_is); (case c_law_pairs => k_is); (case k_law_pairs => k_is); (case a_law_drawn_set => k_is); (case l_law_drawn_set => k_is); (case c_law_drawn_set => k_is); (case k_law_drawn_set => k_is); (case a_law_power => k_is); (case l_law_power => k_is); (case c_law_power => k_is); (case k_law_power => k_is); (case a_law_prefix => k_is); (case l_law_prefix => k_is); (case c_law_prefix => k_is); (case k_law_prefix => k_is); (case a_law_is_prefix => k_is); (case l_law_is_prefix => k_is); (case c_law_is_prefix => k_is); (case k_law_is_prefix => k_is); (case a_law_last => k_is); (case l_law_last => k_is); (case c_law_last => k_is); (case k_law_last => k_is); (case a_law_apart => k_is); (case l_law_apart => k_is); (case c_law_apart => k_is); (case k_law_apart => k_is); (case a_law_is_exchange => k_is); (case l_law_is_exchange => k_is); (case c_law_is_exchange => k_is); (case k_law_is_exchange => k_is); (case a_law_exchange => k_is); (case l_law_exchange => k_is); (case c_law_exchange => k_is); (case k_law_exchange => k_is); (case a_law_swap => k_is); (case l_law_swap => k_is); (case c_law_swap => k_is); (case k_law_swap => k_is); (case a_law_great_exchange => k_is); (case l_law_great_exchange => k_is); (case c_law_great_exchange => k_is); (case k_law_great_exchange => k_is); (case a_law => k_is); (case l_law => k_is); (case c_law => k_is); (case k_law => k_is); (case z_bool => k_is); (case z_int => k_is); (case z_isinstance => k_is); (case z_len => k_is); (case z_list => k_is); (case z_max => k_is); (case z_min => k_is); (case z_range => k_is); (case z_set => k_is); (case z_sorted => k_is); (case z_str => k_is); (case z_tuple => k_is)
