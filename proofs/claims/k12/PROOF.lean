import PyProof.Rows.All
import Wide.All
import OpenK.AllK
import Wide.FinOn
import HandS.ForMost
import HandS.IsInst
import HandS.More
import HandS.Flow
import HandS.Wide
import HandS.TupAny
import HandS.Strs
import HandS.SetFor
import HandS.Sort
import HandS.SortRule
import HandS.Iter
import HandS.Star
import KE.KTupSum
import HandS.Dict
import HandS.Style
import PyProof.TypeEq
import PyProof.InstEq
import HandS.Deep
import HandS.Ends
import PyProof.ReprRoads
import PyProof.ReprLen
import HandS.TupMul
import HandS.Conv
import HandS.SortOrd
import PyProof.TupleOfSeq
import HandS.TryOnly
import PySem.Challenge.RW_gatewarden_k12_whole_packets_come_back
set_option Elab.async false
set_option linter.all false
set_option maxRecDepth 100000
section
set_option Elab.async false
set_option linter.all false
set_option maxRecDepth 100000
namespace PG
open PySem PySem.Spec PyProof.Rows L2

abbrev D := PyData

/-! ### data and values -/
def KLst (K : PySem.W.Frag) (a : Addr) (xs : List V) : Prop := ∃ (o : Obj) (its : Array Value) (n : Nat), K.lookup a = some o ∧ o.cls = .type "list" ∧ o.dict = none ∧ o.data = .seq its n ∧ its.size ≤ sizeLine ∧ Vals xs its.toList
def KTup (K : PySem.W.Frag) (a : Addr) (xs : List V) : Prop := ∃ (o : Obj) (its : Array Value) (n : Nat), K.lookup a = some o ∧ o.cls = .type "tuple" ∧ o.data = .seq its n ∧ its.size ≤ sizeLine ∧ Vals xs its.toList
def LAt (K : PySem.W.Frag) (A : Addr → Prop) (H : Hp) (a : Addr) (xs : List V) : Prop := H a = some (.lst xs) ∧ ¬ A a
def WAt (K : PySem.W.Frag) (A : Addr → Prop) (H : Hp) (a : Addr) (xs : List V) : Prop := (Rd H a (.lst xs) ∧ ¬ A a) ∨ KLst K a xs
def TAt (K : PySem.W.Frag) (A : Addr → Prop) (H : Hp) (a : Addr) (xs : List V) : Prop := (Rd H a (.tup xs) ∧ ¬ A a) ∨ KTup K a xs
theorem LAt.sq {K : PySem.W.Frag} {A : Addr → Prop} {H : Hp} {a : Addr} {xs : List V} (h : LAt K A H a xs) : SqL K H a xs := .inl (.inl h.1)
theorem WAt.sq {K : PySem.W.Frag} {A : Addr → Prop} {H : Hp} {a : Addr} {xs : List V} (h : WAt K A H a xs) : SqL K H a xs := h.elim (fun x => .inl x.1) .inr
inductive FlatA : List V → List PyData → Prop
  | nil : FlatA [] []
  | int (i : Int) {vs : List V} {ds : List PyData} : FlatA vs ds → FlatA (.int i :: vs) (.int i :: ds)
  | str (x : Str) {vs : List V} {ds : List PyData} : FlatA vs ds → FlatA (.str x :: vs) (.str x :: ds)
theorem TAt.sq {K : PySem.W.Frag} {A : Addr → Prop} {H : Hp} {a : Addr} {xs : List V} (h : TAt K A H a xs) : SqT K H a xs := h.elim (fun x => .inl x.1) .inr

mutual
inductive Rp (K : PySem.W.Frag) (A : Addr → Prop) (H : Hp) : V → PyData → Prop
  | non : Rp K A H .non .none
  | bl (b : Bool) : Rp K A H (.bl b) (.bool b)
  | int (i : Int) : Rp K A H (.int i) (.int i)
  | str (x : Str) : Rp K A H (.str x) (.str x)
  | lst {a : Addr} {xs : List V} {ds : List PyData} : LAt K A H a xs → RpA K A H xs ds → Rp K A H (.ref a) (.list ds)
  | tup {a : Addr} {xs : List V} {ds : List PyData} : TAt K A H a xs → RpA K A H xs ds → Rp K A H (.ref a) (.tuple ds)
  | ro {a : Addr} {xs : List V} {ds : List PyData} : WAt K A H a xs → FlatA xs ds → Rp K A H (.ref a) (.dict [(.list ds, .none)])
inductive RpA (K : PySem.W.Frag) (A : Addr → Prop) (H : Hp) : List V → List PyData → Prop
  | nil : RpA K A H [] []
  | cons {v : V} {vs : List V} {d : PyData} {ds : List PyData} : Rp K A H v d → RpA K A H vs ds → RpA K A H (v :: vs) (d :: ds)
end

/-- what stood apart from A stands, apart from A' -/
def Mv (A : Addr → Prop) (H : Hp) (A' : Addr → Prop) (H' : Hp) : Prop := ∀ a o, H a = some o → ¬ A a → H' a = some o ∧ ¬ A' a
theorem Mv.trans {A B C : Addr → Prop} {H H1 H2 : Hp} (m : Mv A H B H1) (n : Mv B H1 C H2) : Mv A H C H2 := fun a o h k => by
  obtain ⟨h1, k1⟩ := m a o h k
  exact n a o h1 k1
theorem Mv.refl {A : Addr → Prop} {H : Hp} : Mv A H A H := fun _ _ h k => ⟨h, k⟩
section
variable {K : PySem.W.Frag} {A A' : Addr → Prop} {H H' : Hp}
theorem Mv.rd (m : Mv A H A' H') {a : Addr} {u : HO} (h : Rd H a u) (k : ¬ A a) : Rd H' a u ∧ ¬ A' a := by
  rcases h with h | ⟨o, h⟩
  · exact ⟨.inl (m a _ h k).1, (m a _ h k).2⟩
  · exact ⟨.inr ⟨o, (m a _ h k).1⟩, (m a _ h k).2⟩
theorem LAt.move (m : Mv A H A' H') {a : Addr} {xs : List V} (h : LAt K A H a xs) : LAt K A' H' a xs := m a _ h.1 h.2
theorem WAt.move (m : Mv A H A' H') {a : Addr} {xs : List V} (h : WAt K A H a xs) : WAt K A' H' a xs := h.elim (fun x => .inl (m.rd x.1 x.2)) .inr
theorem FlatA.rp : ∀ {vs : List V} {ds : List PyData}, FlatA vs ds → RpA K A H vs ds
  | _, _, .nil => .nil
  | _, _, .int i f => .cons (.int i) f.rp
  | _, _, .str x f => .cons (.str x) f.rp
theorem TAt.move (m : Mv A H A' H') {a : Addr} {xs : List V} (h : TAt K A H a xs) : TAt K A' H' a xs := h.elim (fun x => .inl (m.rd x.1 x.2)) .inr
mutual
theorem Rp.move (m : Mv A H A' H') : ∀ (d : PyData) (v : V), Rp K A H v d → Rp K A' H' v d
  | .none, _, h => by cases h; exact .non
  | .bool b, _, h => by cases h; exact .bl b
  | .int i, _, h => by cases h; exact .int i
  | .str x, _, h => by cases h; exact .str x
  | .list ds, _, h => by
    cases h with
    | lst l r => exact .lst (l.move m) (RpA.move m ds _ r)
  | .tuple ds, _, h => by
    cases h with
    | tup l r => exact .tup (l.move m) (RpA.move m ds _ r)
  | .dict _, _, h => by
    cases h with
    | ro w f => exact .ro (w.move m) f
theorem RpA.move (m : Mv A H A' H') : ∀ (ds : List PyData) (vs : List V), RpA K A H vs ds → RpA K A' H' vs ds
  | [], _, h => by cases h; exact .nil
  | d :: ds, _, h => by
    cases h with
    | cons h1 h2 => exact .cons (Rp.move m d _ h1) (RpA.move m ds _ h2)
end
theorem Rp.mv {v : V} {d : PyData} (h : Rp K A H v d) (m : Mv A H A' H') : Rp K A' H' v d := Rp.move m d v h
theorem RpA.mv {vs : List V} {ds : List PyData} (h : RpA K A H vs ds) (m : Mv A H A' H') : RpA K A' H' vs ds := RpA.move m ds vs h
mutual
theorem Rp.dp : ∀ (d : PyData) (v : V), Rp K A H v d → d.canLay0 = true → Dp K H v d
  | .none, _, h, _ => by cases h; exact .non
  | .bool b, _, h, _ => by cases h; exact .bl b
  | .int i, _, h, _ => by cases h; exact .int i
  | .str x, _, h, _ => by cases h; exact .str x
  | .list ds, _, h, s => by
    cases h with
    | lst l r => exact .lst l.sq (RpA.dp ds _ r (by simpa [PyData.canLay0] using s))
  | .tuple ds, _, h, s => by
    cases h with
    | tup l r => exact .tup l.sq (RpA.dp ds _ r (by simpa [PyData.canLay0] using s))
  | .dict _, _, h, s => by simp [PyData.canLay0] at s
theorem RpA.dp : ∀ (ds : List PyData) (vs : List V), RpA K A H vs ds → PyData.canLayAll0 ds = true → DpAll K H vs ds
  | [], _, h, _ => by cases h; exact .nil
  | d :: ds, _, h, s => by
    cases h with
    | cons h1 h2 =>
      simp only [PyData.canLayAll0, Bool.and_eq_true] at s
      exact .cons (Rp.dp d _ h1 s.1) (RpA.dp ds _ h2 s.2)
end
theorem RpA.length : ∀ {vs : List V} {ds : List PyData}, RpA K A H vs ds → vs.length = ds.length
  | _, [], h => by cases h; rfl
  | _, _ :: ds, h => by
    cases h with
    | cons h1 h2 => simp [RpA.length h2]
theorem RpA.get : ∀ {vs : List V} {ds : List PyData} {i : Nat} {d : PyData}, RpA K A H vs ds → ds[i]? = some d → ∃ v, vs[i]? = some v ∧ Rp K A H v d
  | _, [], _, _, h, e => by simp at e
  | _, _ :: ds, 0, _, h, e => by
    cases h with
    | cons h1 h2 => simp at e; subst e; exact ⟨_, rfl, h1⟩
  | _, _ :: ds, i + 1, _, h, e => by
    cases h with
    | cons h1 h2 =>
      obtain ⟨v, h3, h4⟩ := RpA.get (i := i) h2 (by simpa using e)
      exact ⟨v, by simpa using h3, h4⟩
theorem RpA.getV : ∀ {vs : List V} {ds : List PyData} {i : Nat} {v : V}, RpA K A H vs ds → vs[i]? = some v → ∃ d, ds[i]? = some d ∧ Rp K A H v d
  | [], _, _, _, h, e => by simp at e
  | _ :: _, [], _, _, h, e => by cases h
  | _ :: _, _ :: ds, 0, _, h, e => by
    cases h with
    | cons h1 h2 => simp at e; subst e; exact ⟨_, rfl, h1⟩
  | _ :: vs, _ :: ds, i + 1, _, h, e => by
    cases h with
    | cons h1 h2 =>
      obtain ⟨v, h3, h4⟩ := RpA.getV (i := i) h2 (by simpa using e)
      exact ⟨v, by simpa using h3, h4⟩
theorem RpA.app : ∀ {vs ws : List V} {ds es : List PyData}, RpA K A H vs ds → RpA K A H ws es → RpA K A H (vs ++ ws) (ds ++ es)
  | _, _, [], _, h, k => by cases h; exact k
  | _, _, _ :: ds, _, h, k => by
    cases h with
    | cons h1 h2 => exact .cons h1 (RpA.app h2 k)
theorem RpA.set : ∀ {vs : List V} {ds : List PyData} {v : V} {d : PyData} (i : Nat), RpA K A H vs ds → Rp K A H v d → RpA K A H (vs.set i v) (ds.set i d)
  | _, [], _, _, _, h, _ => by cases h; exact .nil
  | _, _ :: ds, _, _, 0, h, k => by
    cases h with
    | cons h1 h2 => exact .cons k h2
  | _, _ :: ds, _, _, i + 1, h, k => by
    cases h with
    | cons h1 h2 => exact .cons h1 (RpA.set i h2 k)
theorem RpA.take : ∀ {vs : List V} {ds : List PyData} (i : Nat), RpA K A H vs ds → RpA K A H (vs.take i) (ds.take i)
  | _, _, 0, h => by simp; exact .nil
  | _, [], _ + 1, h => by cases h; exact .nil
  | _, _ :: ds, i + 1, h => by
    cases h with
    | cons h1 h2 => exact .cons h1 (RpA.take i h2)
theorem RpA.drop : ∀ {vs : List V} {ds : List PyData} (i : Nat), RpA K A H vs ds → RpA K A H (vs.drop i) (ds.drop i)
  | _, _, 0, h => by simpa using h
  | _, [], _ + 1, h => by cases h; exact .nil
  | _, _ :: ds, i + 1, h => by
    cases h with
    | cons h1 h2 => exact RpA.drop i h2
theorem RpA.ints : ∀ {vs : List V} {ns : List Int}, RpA K A H vs (ns.map PyData.int) → vs = ns.map V.int
  | _, [], h => by cases h; rfl
  | _, _ :: ns, h => by
    cases h with
    | cons h1 h2 => cases h1; simp [RpA.ints h2]
theorem RpA.ofInts : ∀ (ns : List Int), RpA K A H (ns.map V.int) (ns.map PyData.int)
  | [] => .nil
  | n :: ns => .cons (.int n) (RpA.ofInts ns)
end

/-! ### slots -/
inductive Cell where
  | v (d : PyData)
  | l (p : Bool) (ds : List PyData)
abbrev Rho := List (Option Cell)
structure Act where
  A : Addr → Prop
  H0 : Hp
  pn : Nat → Option Addr
def Act.plus (c : Act) (a : Addr) : Act := { c with A := fun b => c.A b ∨ b = a }
def Own (ρ : Rho) (σ : L2.St) (a : Addr) : Prop := ∃ (i : Nat) (p : Bool) (ds : List PyData), ρ[i]? = some (some (Cell.l p ds)) ∧ σ[i]? = some (some (V.ref a))
def Av (c : Act) (ρ : Rho) (σ : L2.St) (a : Addr) : Prop := c.A a ∨ Own ρ σ a
structure Rel (K : PySem.W.Frag) (c : Act) (ρ : Rho) (σ : L2.St) (H : Hp) : Prop where
  len : ρ.length = σ.length
  val : ∀ (i : Nat) (d : PyData), ρ[i]? = some (some (.v d)) → ∃ v, σ[i]? = some (some v) ∧ Rp K (Av c ρ σ) H v d
  lst : ∀ (i : Nat) (p : Bool) (ds : List PyData), ρ[i]? = some (some (.l p ds)) → ∃ a vs, σ[i]? = some (some (.ref a)) ∧ H a = some (.lst vs) ∧ RpA K (Av c ρ σ) H vs ds ∧ (p = false → c.H0 a = none ∧ ¬ c.A a)
  dis : ∀ (i j : Nat) (p q : Bool) (ds es : List PyData) (a : Addr), ρ[i]? = some (some (.l p ds)) → ρ[j]? = some (some (.l q es)) → σ[i]? = some (some (.ref a)) → σ[j]? = some (some (.ref a)) → i = j
  pin : ∀ (i : Nat) (a : Addr), c.pn i = some a ↔ ∃ (ds : List PyData), ρ[i]? = some (some (.l true ds)) ∧ σ[i]? = some (some (V.ref a))
  pA : ∀ (i : Nat) (a : Addr), c.pn i = some a → c.A a
  old : ∀ (a : Addr) (o : HO), c.H0 a = some o → (∀ i, c.pn i ≠ some a) → H a = some o
  av : ∀ a, c.A a → H a ≠ none
abbrev Stp (c : Act) (ρ : Rho) (σ : L2.St) (H : Hp) (ρ' : Rho) (σ' : L2.St) (H' : Hp) : Prop := Mv (Av c ρ σ) H (Av c ρ' σ') H'
section
variable {K : PySem.W.Frag} {c : Act} {ρ ρ' : Rho} {σ σ' : L2.St} {H H' : Hp}
theorem Rel.own (R : Rel K c ρ σ H) {a : Addr} (h : Own ρ σ a) : ∃ vs, H a = some (.lst vs) := by
  obtain ⟨i, p, ds, h1, h2⟩ := h
  obtain ⟨b, vs, e1, e2, _⟩ := R.lst i p ds h1
  rw [h2] at e1
  cases e1
  exact ⟨vs, e2⟩
theorem Rel.avS (R : Rel K c ρ σ H) {a : Addr} (h : Av c ρ σ a) : H a ≠ none := by
  rcases h with h | h
  · exact R.av a h
  · obtain ⟨vs, e⟩ := R.own h
    rw [e]
    exact fun z => nomatch z
theorem Rel.noAv (R : Rel K c ρ σ H) {a : Addr} (h : H a = none) : ¬ Av c ρ σ a := fun z => R.avS z h
/-- the heap grows -/
theorem Rel.mvG (R : Rel K c ρ σ H) (k : ∀ a o, H a = some o → H' a = some o) : Mv (Av c ρ σ) H (Av c ρ σ) H' := fun a o h n => ⟨k a o h, n⟩
theorem Rel.grow (R : Rel K c ρ σ H) (k : ∀ a o, H a = some o → H' a = some o) : Rel K c ρ σ H' where
  len := R.len
  val := fun i d h => by
    obtain ⟨v, e, r⟩ := R.val i d h
    exact ⟨v, e, r.mv (R.mvG k)⟩
  lst := fun i p ds h => by
    obtain ⟨a, vs, e, e2, r, q⟩ := R.lst i p ds h
    exact ⟨a, vs, e, k _ _ e2, r.mv (R.mvG k), q⟩
  dis := R.dis
  pin := R.pin
  pA := R.pA
  old := fun a o h n => k _ _ (R.old a o h n)
  av := fun a h => by
    cases e : H a with
    | none => exact absurd e (R.av a h)
    | some o => rw [k a o e]; exact fun z => nomatch z
theorem kp_upd {p : Addr} {o : HO} (h : H p = none) : ∀ b x, H b = some x → upd H p o b = some x := fun b x e => by
  rw [upd_ne (ne_of_none e h)]
  exact e
/-- the heap grows, p among the new, kept apart -/
theorem Rel.mvP (R : Rel K c ρ σ H) {p : Addr} (h : H p = none) (k : ∀ a o, H a = some o → H' a = some o) : Mv (Av c ρ σ) H (Av (c.plus p) ρ σ) H' := fun a x e n => ⟨k a x e, fun z => by
    rcases z with (z | z) | z
    · exact n (.inl z)
    · subst z; rw [h] at e; cases e
    · exact n (.inr z)⟩
theorem Rel.plus (R : Rel K c ρ σ H) {p : Addr} (h : H p = none) (k : ∀ a o, H a = some o → H' a = some o) (hp : H' p ≠ none) : Rel K (c.plus p) ρ σ H' := by
  have m := R.mvP h k
  have R1 := R.grow k
  refine ⟨R.len, fun i d e => ?_, fun i p ds e => ?_, R.dis, R.pin, fun i a e => .inl (R.pA i a e), R1.old, fun a z => ?_⟩
  · obtain ⟨v, e1, r⟩ := R.val i d e
    exact ⟨v, e1, r.mv m⟩
  · obtain ⟨a, vs, e1, e2, r, q⟩ := R.lst i p ds e
    exact ⟨a, vs, e1, k _ _ e2, r.mv m, fun z => ⟨(q z).1, fun y => y.elim (q z).2 fun w => by subst w; rw [h] at e2; cases e2⟩⟩
  · rcases z with z | z
    · exact R1.av a z
    · subst z; exact hp
theorem Rel.fresh0 (R : Rel K c ρ σ H) {p : Addr} (h : H p = none) : c.H0 p = none := by
  cases e : c.H0 p with
  | none => rfl
  | some o =>
    have := R.old p o e fun i z => R.av p (R.pA i p z) h
    rw [h] at this
    cases this
theorem mv_unplus {p : Addr} : Mv (Av (c.plus p) ρ σ) H (Av c ρ σ) H := fun a o e n => ⟨e, fun z => n (z.elim (fun x => .inl (.inl x)) .inr)⟩
theorem Rel.unplus {p : Addr} (R : Rel K (c.plus p) ρ σ H) (pA : ∀ (i : Nat) (a : Addr), c.pn i = some a → c.A a) : Rel K c ρ σ H :=
  ⟨R.len, fun i d e => by
    obtain ⟨v, e1, r⟩ := R.val i d e
    exact ⟨v, e1, r.mv mv_unplus⟩, fun i p ds e => by
    obtain ⟨a, vs, e1, e2, r, q⟩ := R.lst i p ds e
    exact ⟨a, vs, e1, e2, r.mv mv_unplus, fun z => ⟨(q z).1, fun y => (q z).2 (.inl y)⟩⟩, R.dis, R.pin, pA, R.old, fun a z => R.av a (.inl z)⟩
theorem get_set {α : Type} {l : List α} {i j : Nat} {x : α} (h : i < l.length) : (l.set i x)[j]? = if i = j then some x else l[j]? := by
  rw [List.getElem?_set]
  by_cases e : i = j
  · subst e; simp [h]
  · simp [e]
theorem lt_of_get {α : Type} {l : List α} {i : Nat} {x : α} (h : l[i]? = some x) : i < l.length := by
  rcases Nat.lt_or_ge i l.length with h1 | h1
  · exact h1
  · rw [List.getElem?_eq_none h1] at h; cases h
/-- an owned list is written -/
theorem Rel.write (R : Rel K c ρ σ H) {i : Nat} {p : Bool} {ds ds' : List PyData} {a : Addr} {vs' : List V} (hi : ρ[i]? = some (some (.l p ds))) (ha : σ[i]? = some (some (.ref a)))
    (hw : H' a = some (.lst vs')) (kw : ∀ b o, b ≠ a → H b = some o → H' b = some o) (r : RpA K (Av c ρ σ) H' vs' ds') : Rel K c (ρ.set i (some (.l p ds'))) σ H' ∧ Stp c ρ σ H (ρ.set i (some (.l p ds'))) σ H' := by
  have hl := lt_of_get hi
  have gs : ∀ j, (ρ.set i (some (Cell.l p ds')))[j]? = if i = j then some (some (Cell.l p ds')) else ρ[j]? := fun j => get_set hl
  have own : ∀ b, Own (ρ.set i (some (.l p ds'))) σ b → Own ρ σ b := fun b ⟨j, q, es, h1, h2⟩ => by
    rw [gs] at h1
    by_cases e : i = j
    · subst e; exact ⟨i, p, ds, hi, h2⟩
    · rw [if_neg e] at h1; exact ⟨j, q, es, h1, h2⟩
  have aown : Own ρ σ a := ⟨i, p, ds, hi, ha⟩
  have mv : Stp c ρ σ H (ρ.set i (some (.l p ds'))) σ H' := fun b o e n => by
    have nb : b ≠ a := fun z => n (by subst z; exact .inr aown)
    exact ⟨kw b o nb e, fun z => n (z.elim .inl fun x => .inr (own b x))⟩
  refine ⟨⟨by rw [List.length_set]; exact R.len, fun j d e => ?_, fun j q es e => ?_, fun j k q q' es es' b h1 h2 h3 h4 => ?_, fun j b => ?_, R.pA, fun b o e n => ?_, fun b e => ?_⟩, mv⟩
  · rw [gs] at e
    by_cases e1 : i = j
    · rw [if_pos e1] at e; cases e
    · rw [if_neg e1] at e
      obtain ⟨v, h1, h2⟩ := R.val j d e
      exact ⟨v, h1, h2.mv mv⟩
  · rw [gs] at e
    by_cases e1 : i = j
    · rw [if_pos e1] at e
      cases e
      subst e1
      obtain ⟨b, vs, h1, h2, h3, h4⟩ := R.lst i p ds hi
      rw [ha] at h1
      cases h1
      exact ⟨a, vs', ha, hw, r.mv fun b o e n => ⟨e, fun z => n (z.elim .inl fun x => .inr (own b x))⟩, h4⟩
    · rw [if_neg e1] at e
      obtain ⟨b, vs, h1, h2, h3, h4⟩ := R.lst j q es e
      have nb : b ≠ a := fun z => e1 (by subst z; exact R.dis i j p q ds es b hi e ha h1)
      exact ⟨b, vs, h1, kw _ _ nb h2, h3.mv mv, h4⟩
  · rw [gs] at h1 h2
    by_cases e1 : i = j
    · by_cases e2 : i = k
      · omega
      · rw [if_neg e2] at h2
        subst e1
        exact R.dis i k p q' ds es' b hi h2 h3 h4
    · rw [if_neg e1] at h1
      by_cases e2 : i = k
      · subst e2
        exact R.dis j i q p es ds b h1 hi h3 h4
      · rw [if_neg e2] at h2
        exact R.dis j k q q' es es' b h1 h2 h3 h4
  · rw [R.pin]
    constructor
    · rintro ⟨es, h1, h2⟩
      by_cases e : i = j
      · subst e
        rw [hi] at h1
        cases h1
        exact ⟨ds', by rw [gs, if_pos rfl], h2⟩
      · exact ⟨es, by rw [gs, if_neg e]; exact h1, h2⟩
    · rintro ⟨es, h1, h2⟩
      rw [gs] at h1
      by_cases e : i = j
      · subst e
        rw [if_pos rfl] at h1
        cases h1
        exact ⟨ds, hi, h2⟩
      · rw [if_neg e] at h1
        exact ⟨es, h1, h2⟩
  · have nb : b ≠ a := fun z => by
      subst z
      obtain ⟨b', vs, h1, h2, h3, h4⟩ := R.lst i p ds hi
      rw [ha] at h1
      cases h1
      cases p with
      | false => rw [(h4 rfl).1] at e; cases e
      | true => exact n i ((R.pin i b).mpr ⟨ds, hi, ha⟩)
    exact kw b o nb (R.old b o e n)
  · by_cases z : b = a
    · subst z; rw [hw]; exact fun z => nomatch z
    · cases e2 : H b with
      | none => exact absurd e2 (R.av b e)
      | some o => rw [kw b o z e2]; exact fun z => nomatch z
/-- an owned list of the call's own becomes a value -/
theorem Rel.freeze (R : Rel K c ρ σ H) {i : Nat} {ds : List PyData} {a : Addr} (hi : ρ[i]? = some (some (.l false ds))) (ha : σ[i]? = some (some (.ref a))) :
    Rel K c (ρ.set i (some (.v (.list ds)))) σ H ∧ Rp K (Av c (ρ.set i (some (.v (.list ds)))) σ) H (.ref a) (.list ds) ∧ Stp c ρ σ H (ρ.set i (some (.v (.list ds)))) σ H := by
  have hl := lt_of_get hi
  have gs : ∀ j, (ρ.set i (some (Cell.v (.list ds))))[j]? = if i = j then some (some (Cell.v (.list ds))) else ρ[j]? := fun j => get_set hl
  have own : ∀ b, Own (ρ.set i (some (.v (.list ds)))) σ b → Own ρ σ b := fun b ⟨j, q, es, h1, h2⟩ => by
    rw [gs] at h1
    by_cases e : i = j
    · rw [if_pos e] at h1; cases h1
    · rw [if_neg e] at h1; exact ⟨j, q, es, h1, h2⟩
  have nA : ¬ c.A a := by
    obtain ⟨b, vs, h1, h2, h3, h4⟩ := R.lst i false ds hi
    rw [ha] at h1
    cases h1
    exact (h4 rfl).2
  have nown : ¬ Own (ρ.set i (some (.v (.list ds)))) σ a := fun ⟨j, q, es, h1, h2⟩ => by
    rw [gs] at h1
    by_cases e : i = j
    · rw [if_pos e] at h1; cases h1
    · rw [if_neg e] at h1; exact e (R.dis i j false q ds es a hi h1 ha h2)
  have mv : Stp c ρ σ H (ρ.set i (some (.v (.list ds)))) σ H := fun b o e n => ⟨e, fun z => n (z.elim .inl fun x => .inr (own b x))⟩
  have rp : Rp K (Av c (ρ.set i (some (.v (.list ds)))) σ) H (.ref a) (.list ds) := by
    obtain ⟨b, vs, h1, h2, h3, h4⟩ := R.lst i false ds hi
    rw [ha] at h1
    cases h1
    exact .lst ⟨h2, fun z => z.elim nA nown⟩ (h3.mv mv)
  refine ⟨⟨by rw [List.length_set]; exact R.len, fun j d e => ?_, fun j q es e => ?_, fun j k q q' es es' b h1 h2 h3 h4 => ?_, fun j b => ?_, R.pA, R.old, R.av⟩, rp, mv⟩
  · rw [gs] at e
    by_cases e1 : i = j
    · rw [if_pos e1] at e
      cases e
      subst e1
      exact ⟨.ref a, ha, rp⟩
    · rw [if_neg e1] at e
      obtain ⟨v, h1, h2⟩ := R.val j d e
      exact ⟨v, h1, h2.mv mv⟩
  · rw [gs] at e
    by_cases e1 : i = j
    · rw [if_pos e1] at e; cases e
    · rw [if_neg e1] at e
      obtain ⟨b, vs, h1, h2, h3, h4⟩ := R.lst j q es e
      exact ⟨b, vs, h1, h2, h3.mv mv, h4⟩
  · rw [gs] at h1 h2
    by_cases e1 : i = j
    · rw [if_pos e1] at h1; cases h1
    · by_cases e2 : i = k
      · rw [if_pos e2] at h2; cases h2
      · rw [if_neg e1] at h1
        rw [if_neg e2] at h2
        exact R.dis j k q q' es es' b h1 h2 h3 h4
  · rw [R.pin]
    constructor
    · rintro ⟨es, h1, h2⟩
      by_cases e : i = j
      · subst e; rw [hi] at h1; cases h1
      · exact ⟨es, by rw [gs, if_neg e]; exact h1, h2⟩
    · rintro ⟨es, h1, h2⟩
      rw [gs] at h1
      by_cases e : i = j
      · rw [if_pos e] at h1; cases h1
      · rw [if_neg e] at h1; exact ⟨es, h1, h2⟩
end
end PG
end
section
set_option Elab.async false
set_option linter.all false
set_option maxRecDepth 100000
namespace PG
open PySem PySem.Spec PyProof.Rows L2

/-! ### what a program's parts do, on data -/
abbrev EF := Rho → Option (PyData × Rho)
abbrev NF := Rho → Option (List PyData × Rho)
abbrev TF := Rho → Option (Bool × Rho)
inductive Out where
  | next
  | brk
  | cont
  | ret (d : PyData)
  | retL (ds : List PyData)
abbrev SF := Rho → Option (Out × Rho)
abbrev GF := PyData → Rho → Option Rho

/-! expressions -/
@[simp] def eName (i : Nat) : EF := fun ρ => match ρ[i]? with
  | some (some (.v d)) => some (d, ρ)
  | _ => none
@[simp] def eFrz (i : Nat) : EF := fun ρ => match ρ[i]? with
  | some (some (.l false ds)) => some (.list ds, ρ.set i (some (.v (.list ds))))
  | _ => none
@[simp] def eC (d : PyData) : EF := fun ρ => some (d, ρ)
@[simp] def eUn (o : PyData → Option PyData) (f : EF) : EF := fun ρ => match f ρ with
  | some (x, ρ1) => (match o x with
    | some z => some (z, ρ1)
    | none => none)
  | none => none
@[simp] def eBin (o : PyData → PyData → Option PyData) (f g : EF) : EF := fun ρ => match f ρ with
  | some (x, ρ1) => (match g ρ1 with
    | some (y, ρ2) => (match o x y with
      | some z => some (z, ρ2)
      | none => none)
    | none => none)
  | none => none
@[simp] def eTest (f : TF) : EF := fun ρ => match f ρ with
  | some (b, ρ1) => some (.bool b, ρ1)
  | none => none
@[simp] def eIf (t : TF) (f g : EF) : EF := fun ρ => match t ρ with
  | some (true, ρ1) => f ρ1
  | some (false, ρ1) => g ρ1
  | none => none
@[simp] def nNil : NF := fun ρ => some ([], ρ)
@[simp] def nCons (f : EF) (g : NF) : NF := fun ρ => match f ρ with
  | some (x, ρ1) => (match g ρ1 with
    | some (xs, ρ2) => some (x :: xs, ρ2)
    | none => none)
  | none => none
@[simp] def eTup (f : NF) : EF := fun ρ => match f ρ with
  | some (xs, ρ1) => if xs.length ≤ 16777216 then some (.tuple xs, ρ1) else none
  | none => none
@[simp] def nDisp (f : NF) : NF := fun ρ => match f ρ with
  | some (xs, ρ1) => if xs.length ≤ 16777216 then some (xs, ρ1) else none
  | none => none
@[simp] def eLst (f : NF) : EF := fun ρ => match f ρ with
  | some (xs, ρ1) => some (.list xs, ρ1)
  | none => none
/-- a call of a def that changes nothing -/
@[simp] def eCall (F : List PyData → Option PyData) (f : NF) : EF := fun ρ => match f ρ with
  | some (xs, ρ1) => (match F xs with
    | some z => some (z, ρ1)
    | none => none)
  | none => none
/-- .. that hands back a new list -/
@[simp] def nCall (F : List PyData → Option (List PyData)) (f : NF) : NF := fun ρ => match f ρ with
  | some (xs, ρ1) => (match F xs with
    | some z => some (z, ρ1)
    | none => none)
  | none => none
/-- .. that changes the list at slot i, its first argument -/
@[simp] def eCallL (F : List PyData → List PyData → Option (PyData × List PyData)) (i : Nat) (f : NF) : EF := fun ρ => match ρ[i]? with
  | some (some (.l _ _)) => (match f ρ with
    | some (xs, ρ1) => (match ρ1[i]? with
      | some (some (.l p ps)) => (match F ps xs with
        | some (z, ps') => some (z, ρ1.set i (some (.l p ps')))
        | none => none)
      | _ => none)
    | none => none)
  | _ => none
/-- .. and hands back a new list -/
@[simp] def nCallL (F : List PyData → List PyData → Option (List PyData × List PyData)) (i : Nat) (f : NF) : NF := fun ρ => match ρ[i]? with
  | some (some (.l _ _)) => (match f ρ with
    | some (xs, ρ1) => (match ρ1[i]? with
      | some (some (.l p ps)) => (match F ps xs with
        | some (z, ps') => some (z, ρ1.set i (some (.l p ps')))
        | none => none)
      | _ => none)
    | none => none)
  | _ => none
/-- xs[e] of an owned list -/
@[simp] def eIxL (o : PyData → PyData → Option PyData) (i : Nat) (g : EF) : EF := fun ρ => match ρ[i]? with
  | some (some (.l _ _)) => (match g ρ with
    | some (y, ρ1) => (match ρ1[i]? with
      | some (some (.l _ ps)) => (match o (.list ps) y with
        | some z => some (z, ρ1)
        | none => none)
      | _ => none)
    | none => none)
  | _ => none
@[simp] def eUnL (o : PyData → Option PyData) (i : Nat) : EF := fun ρ => match ρ[i]? with
  | some (some (.l _ ps)) => (match o (.list ps) with
    | some z => some (z, ρ)
    | none => none)
  | _ => none

/-! tests -/
@[simp] def truth : PyData → Option Bool
  | .none => some false
  | .bool b => some b
  | .int i => some (i != 0)
  | .str x => if x.length ≤ 16777216 then some ((x.length : Int) != 0) else none
  | .list xs => some (!xs.isEmpty)
  | .tuple xs => some (!xs.isEmpty)
  | .dict _ => none
@[simp] def tTru (f : EF) : TF := fun ρ => match f ρ with
  | some (x, ρ1) => (match truth x with
    | some b => some (b, ρ1)
    | none => none)
  | none => none
def asB : PyData → Option Bool
  | .bool b => some b
  | _ => none
@[simp] def tBl (f : EF) : TF := fun ρ => match f ρ with
  | some (.bool b, ρ1) => some (b, ρ1)
  | _ => none
@[simp] def tAnd' (f g : TF) : TF := fun ρ => match f ρ with
  | some (true, ρ1) => g ρ1
  | some (false, ρ1) => some (false, ρ1)
  | none => none
@[simp] def tOr' (f g : TF) : TF := fun ρ => match f ρ with
  | some (true, ρ1) => some (true, ρ1)
  | some (false, ρ1) => g ρ1
  | none => none
@[simp] def tNot' (f : TF) : TF := fun ρ => match f ρ with
  | some (b, ρ1) => some (!b, ρ1)
  | none => none
/-- and, or as values -/
@[simp] def eAnd (f g : EF) : EF := fun ρ => match f ρ with
  | some (x, ρ1) => (match truth x with
    | some true => g ρ1
    | some false => some (x, ρ1)
    | none => none)
  | none => none
@[simp] def eOr (f g : EF) : EF := fun ρ => match f ρ with
  | some (x, ρ1) => (match truth x with
    | some true => some (x, ρ1)
    | some false => g ρ1
    | none => none)
  | none => none
@[simp] def eNot (f : EF) : EF := fun ρ => match f ρ with
  | some (x, ρ1) => (match truth x with
    | some b => some (.bool (!b), ρ1)
    | none => none)
  | none => none
/-- a < b < c of ints -/
@[simp] def eChain (o o' : PyData → PyData → Option PyData) (f g h : EF) : EF := fun ρ => match f ρ with
  | some (x, ρ1) => (match g ρ1 with
    | some (y, ρ2) => (match o x y with
      | some (.bool true) => (match h ρ2 with
        | some (z, ρ3) => (match o' y z with
          | some (.bool b) => some (.bool b, ρ3)
          | _ => none)
        | none => none)
      | some (.bool false) => some (.bool false, ρ2)
      | _ => none)
    | none => none)
  | none => none

/-! statements -/
@[simp] def setV (i : Nat) (d : PyData) (ρ : Rho) : Option Rho := match ρ[i]? with
  | none => none
  | some (some (.l true _)) => none
  | _ => some (ρ.set i (some (.v d)))
@[simp] def setL (i : Nat) (ds : List PyData) (ρ : Rho) : Option Rho := match ρ[i]? with
  | none => none
  | some (some (.l true _)) => none
  | _ => some (ρ.set i (some (.l false ds)))
@[simp] def sSet (i : Nat) (f : EF) : SF := fun ρ => match f ρ with
  | some (d, ρ1) => (match setV i d ρ1 with
    | some ρ2 => some (.next, ρ2)
    | none => none)
  | none => none
@[simp] def sSetL (i : Nat) (f : NF) : SF := fun ρ => match f ρ with
  | some (ds, ρ1) => (match setL i ds ρ1 with
    | some ρ2 => some (.next, ρ2)
    | none => none)
  | none => none
@[simp] def sSeq (f g : SF) : SF := fun ρ => match f ρ with
  | some (.next, ρ1) => g ρ1
  | r => r
@[simp] def sNil : SF := fun ρ => some (.next, ρ)
@[simp] def sIf (t : TF) (f g : SF) : SF := fun ρ => match t ρ with
  | some (true, ρ1) => f ρ1
  | some (false, ρ1) => g ρ1
  | none => none
@[simp] def sRet (f : EF) : SF := fun ρ => match f ρ with
  | some (d, ρ1) => some (.ret d, ρ1)
  | none => none
@[simp] def sRetL (f : NF) : SF := fun ρ => match f ρ with
  | some (ds, ρ1) => some (.retL ds, ρ1)
  | none => none
/-- return of an owned list's name -/
@[simp] def sRetO (i : Nat) : SF := fun ρ => match ρ[i]? with
  | some (some (.l false ds)) => some (.retL ds, ρ)
  | _ => none
@[simp] def sExpr (f : EF) : SF := fun ρ => match f ρ with
  | some (_, ρ1) => some (.next, ρ1)
  | none => none
@[simp] def sBrk : SF := fun ρ => some (.brk, ρ)
@[simp] def sCont : SF := fun ρ => some (.cont, ρ)
/-- xs.append(e) of an owned list -/
@[simp] def sApp (i : Nat) (f : EF) : SF := fun ρ => match ρ[i]? with
  | some (some (.l _ _)) => (match f ρ with
    | some (d, ρ1) => (match ρ1[i]? with
      | some (some (.l p ds)) => if ds.length < 16777216 then some (.next, ρ1.set i (some (.l p (ds ++ [d])))) else none
      | _ => none)
    | none => none)
  | _ => none
def ixOf (n : Nat) (i : Int) : Option Nat := if 0 ≤ i then (if i < n then some i.toNat else none) else if -(n : Int) ≤ i then some (i + n).toNat else none
/-- xs[e] = f of an owned list -/
@[simp] def sSto (i : Nat) (g f : EF) : SF := fun ρ => match f ρ with
  | some (d, ρ1) => (match ρ1[i]? with
    | some (some (.l _ _)) => (match g ρ1 with
      | some (.int k, ρ2) => (match ρ2[i]? with
        | some (some (.l p ds)) => (match ixOf ds.length k with
          | some j => some (.next, ρ2.set i (some (.l p (ds.set j d))))
          | none => none)
        | _ => none)
      | _ => none)
    | _ => none)
  | none => none
def forL (g : GF) (b : SF) : List PyData → SF
  | [], ρ => some (.next, ρ)
  | d :: ds, ρ => match g d ρ with
    | none => none
    | some ρ1 => match b ρ1 with
      | some (.next, ρ2) => forL g b ds ρ2
      | some (.cont, ρ2) => forL g b ds ρ2
      | some (.brk, ρ2) => some (.next, ρ2)
      | r => r
def sFor (it : NF) (g : GF) (b : SF) : SF := fun ρ => match it ρ with
  | some (ds, ρ1) => forL g b ds ρ1
  | none => none
def whl (t : TF) (b : SF) : Nat → SF
  | 0, _ => none
  | n + 1, ρ => match t ρ with
    | some (true, ρ1) => (match b ρ1 with
      | some (.next, ρ2) => whl t b n ρ2
      | some (.cont, ρ2) => whl t b n ρ2
      | some (.brk, ρ2) => some (.next, ρ2)
      | r => r)
    | some (false, ρ1) => some (.next, ρ1)
    | none => none
def sWhile (n : Rho → Nat) (t : TF) (b : SF) : SF := fun ρ => whl t b (n ρ) ρ
/-- targets -/
@[simp] def gSet (i : Nat) : GF := fun d ρ => setV i d ρ
@[simp] def gPairs : List Nat → List PyData → Rho → Option Rho
  | [], [], ρ => some ρ
  | i :: is, d :: ds, ρ => (match setV i d ρ with
    | some ρ1 => gPairs is ds ρ1
    | none => none)
  | _, _, _ => none
@[simp] def gTupS (is : List Nat) : GF := fun d ρ => match d with
  | .tuple ds => gPairs is ds ρ
  | _ => none
@[simp] def sAsg (f : EF) (g : GF) : SF := fun ρ => match f ρ with
  | some (d, ρ1) => (match g d ρ1 with
    | some ρ2 => some (.next, ρ2)
    | none => none)
  | none => none
/-- comprehensions -/
def wipeR (ρ : Rho) : List Nat → Rho
  | [] => ρ
  | v :: vs => (wipeR ρ vs).set v none
def plainAt (ρ : Rho) (vs : List Nat) : Bool := vs.all fun v => match ρ[v]? with
  | some none => true
  | some (some (.v _)) => true
  | _ => false
def compL (g : GF) (t : TF) (e : EF) (vs : List Nat) : List PyData → List PyData → Rho → Option (List PyData × Rho)
  | [], acc, ρ => some (acc, ρ)
  | d :: ds, acc, ρ => match g d ρ with
    | none => none
    | some ρ1 => match t ρ1 with
      | none => none
      | some (false, ρ2) => if plainAt ρ2 vs then compL g t e vs ds acc (wipeR ρ2 vs) else none
      | some (true, ρ2) => match e ρ2 with
        | none => none
        | some (y, ρ3) => if plainAt ρ3 vs && decide (acc.length < 16777216) then compL g t e vs ds (acc ++ [y]) (wipeR ρ3 vs) else none
def restR (ρ0 ρ : Rho) : List Nat → Rho
  | [] => ρ
  | v :: vs => (restR ρ0 ρ vs).set v (ρ0[v]?.getD none)
def nComp (it : NF) (g : GF) (t : TF) (e : EF) (vs : List Nat) : NF := fun ρ => match it ρ with
  | some (ds, ρ1) => if plainAt ρ1 vs then (match compL g t e vs ds [] (wipeR ρ1 vs) with
    | some (out, ρ2) => some (out, restR ρ1 ρ2 vs)
    | none => none) else none
  | none => none
@[simp] def tYesF : TF := fun ρ => some (true, ρ)

/-! operations on data -/
@[simp] def dAdd : PyData → PyData → Option PyData
  | .int i, .int j => some (.int (i + j))
  | .list xs, .list ys => if xs.length + ys.length ≤ 16777216 then some (.list (xs ++ ys)) else none
  | .tuple xs, .tuple ys => if xs.length + ys.length ≤ 16777216 then some (.tuple (xs ++ ys)) else none
  | .str x, .str y => if x.length + y.length ≤ 16777216 then some (.str (x ++ y)) else none
  | _, _ => none
@[simp] def dI2 (C : Int → Int → Bool) (g : Int → Int → PyData) : PyData → PyData → Option PyData
  | .int i, .int j => if C i j then some (g i j) else none
  | _, _ => none
@[simp] def cT : Int → Int → Bool := fun _ _ => true
@[simp] def dSub := dI2 cT fun i j => .int (i - j)
@[simp] def dMul := dI2 (fun i j => (decide (-18446744073709551616 < i) && decide (i < 18446744073709551616)) || (decide (-18446744073709551616 < j) && decide (j < 18446744073709551616))) fun i j => .int (i * j)
@[simp] def dDiv := dI2 (fun _ j => decide (0 < j) && decide (j < 18446744073709551616)) fun i j => .int (i / j)
@[simp] def dMod := dI2 (fun _ j => decide (0 < j)) fun i j => .int (i % j)
@[simp] def dShr := dI2 (fun _ j => decide (0 ≤ j)) fun i j => .int (i / 2 ^ j.toNat)
@[simp] def dLt := dI2 cT fun i j => .bool (decide (i < j))
@[simp] def dLe := dI2 cT fun i j => .bool (decide (i ≤ j))
@[simp] def dGt := dI2 cT fun i j => .bool (decide (j < i))
@[simp] def dGe := dI2 cT fun i j => .bool (decide (j ≤ i))
def dEq : PyData → PyData → Option PyData
  | .int i, .int j => some (.bool (decide (i = j)))
  | x, y => if SeqAt.shaped x && SeqAt.shaped y then some (.bool (PyData.eqv x y)) else none
def dNe : PyData → PyData → Option PyData
  | .int i, .int j => some (.bool (!decide (i = j)))
  | x, y => if SeqAt.shaped x && SeqAt.shaped y then some (.bool (!PyData.eqv x y)) else none
@[simp] def dNeg : PyData → Option PyData
  | .int i => some (.int (-i))
  | _ => none
@[simp] def isNone : PyData → Bool
  | .none => true
  | _ => false
@[simp] def dIsN : PyData → Option PyData := fun x => some (.bool (isNone x))
@[simp] def dNotN : PyData → Option PyData := fun x => some (.bool (!isNone x))
def atD (xs : List PyData) (i : Int) : Option PyData := (ixOf xs.length i).bind fun j => xs[j]?
/-- lists that are read only: the script's, the module's -/
def RO (ds : List PyData) : PyData := .dict [(.list ds, .none)]
@[simp] def dIx : PyData → PyData → Option PyData
  | .list xs, .int i => atD xs i
  | .tuple xs, .int i => atD xs i
  | .dict [(.list xs, .none)], .int i => atD xs i
  | _, _ => none
@[simp] def dLen : PyData → Option PyData
  | .list xs => some (.int xs.length)
  | .tuple xs => some (.int xs.length)
  | .dict [(.list xs, .none)] => some (.int xs.length)
  | .str x => if x.length ≤ 16777216 then some (.int x.length) else none
  | _ => none
def sIxD (n d : Nat) : Option Int → Nat
  | none => d
  | some v => if v < 0 then (v + (n : Int)).toNat else min v.toNat n
def cutD (xs : List PyData) (lo hi : Option Int) : List PyData := (xs.drop (sIxD xs.length 0 lo)).take (sIxD xs.length xs.length hi - sIxD xs.length 0 lo)
end PG
end
section
set_option Elab.async false
set_option linter.all false
set_option maxRecDepth 100000
namespace PG
open PySem PySem.Spec PyProof.Rows L2

/-! ### readings by data -/
def tE (K : PySem.W.Frag) (f : EF) : TE := fun σ H Q => ∃ (c : Act) (ρ : Rho) (d : PyData) (ρ' : Rho), Rel K c ρ σ H ∧ f ρ = some (d, ρ') ∧
  ∀ v H', Rel K c ρ' σ H' → Rp K (Av c ρ' σ) H' v d → Stp c ρ σ H ρ' σ H' → Q v H'
def tT (K : PySem.W.Frag) (f : TF) : TT := fun σ H Q => ∃ (c : Act) (ρ : Rho) (b : Bool) (ρ' : Rho), Rel K c ρ σ H ∧ f ρ = some (b, ρ') ∧
  ∀ H', Rel K c ρ' σ H' → Stp c ρ σ H ρ' σ H' → Q b H'
def tA (K : PySem.W.Frag) (f : NF) : TA := fun σ H Q => ∃ (c : Act) (ρ : Rho) (ds : List PyData) (ρ' : Rho), Rel K c ρ σ H ∧ f ρ = some (ds, ρ') ∧
  ∀ vs H', Rel K c ρ' σ H' → RpA K (Av c ρ' σ) H' vs ds → Stp c ρ σ H ρ' σ H' → Q vs H'
/-- a new list -/
def tN (K : PySem.W.Frag) (f : NF) : TE := fun σ H Q => ∃ (c : Act) (ρ : Rho) (ds : List PyData) (ρ' : Rho), Rel K c ρ σ H ∧ f ρ = some (ds, ρ') ∧
  ∀ a vs H', Rel K (c.plus a) ρ' σ H' → H' a = some (.lst vs) → RpA K (Av (c.plus a) ρ' σ) H' vs ds → ¬ Av c ρ' σ a → c.H0 a = none → (¬ Av c ρ σ a → H a = none) → Stp c ρ σ H ρ' σ H' → Q (.ref a) H'

section
variable {X : Cx} {e a b : Expr} {pos : Pos} {f g h : EF} {tf tg : TF} {n m : NF}
theorem pe_of {t t' : TE} (h : PE X e t) (k : ∀ σ H Q, t' σ H Q → t σ H Q) : PE X e t' := ⟨fun pins s σ H Q I q => h.run pins s σ H Q I (k σ H Q q)⟩
theorem pt_of {t t' : TT} (h : PT X e t) (k : ∀ σ H Q, t' σ H Q → t σ H Q) : PT X e t' := ⟨fun pins s σ H Q I q => h.run pins s σ H Q I (k σ H Q q)⟩
theorem pw_of {t t' : TT} (h : PW X e t) (k : ∀ σ H Q, t' σ H Q → t σ H Q) : PW X e t' := ⟨fun wh pins s σ H Q I q => h.run wh pins s σ H Q I (k σ H Q q)⟩
theorem pa_of {es : List Expr} {t t' : TA} (h : PA X es t) (k : ∀ σ H Q, t' σ H Q → t σ H Q) : PA X es t' := ⟨fun p pins s σ H Q I q => h.run p pins s σ H Q I (k σ H Q q)⟩
theorem ps_of {st : Stmt} {t t' : TS} (h : PS X st t) (k : ∀ D σ H, t' D σ H → t D σ H) : PS X st t' := ⟨fun pins s σ H D I q => h.run pins s σ H D I (k D σ H q)⟩
theorem pss_of {st : List Stmt} {t t' : TS} (h : PSs X st t) (k : ∀ D σ H, t' D σ H → t D σ H) : PSs X st t' := ⟨fun pins s σ H D I q => h.run pins s σ H D I (k D σ H q)⟩

/-! names, constants -/
theorem ev_name {i : Nat} (h : PE X e (tVar i)) : PE X e (tE X.K (eName i)) := pe_of h fun σ H Q ⟨c, ρ, d, ρ', R, e, q⟩ => by
  unfold eName at e
  split at e
  · rename_i d' hd
    cases e
    obtain ⟨v, h1, h2⟩ := R.val i d hd
    exact ⟨v, h1, q v H R h2 Mv.refl⟩
  · cases e
theorem ev_c {v : V} {d : PyData} (h : PE X e (tC v)) (r : ∀ A H, Rp X.K A H v d) : PE X e (tE X.K (eC d)) := pe_of h fun σ H Q ⟨c, ρ, d', ρ', R, e, q⟩ => by
  cases e
  exact q v H R (r _ _) Mv.refl
theorem ev_int {i : Int} {j} : PE X (.Constant (.int i) j pos) (tE X.K (eC (.int i))) := ev_c pe_int fun _ _ => .int i
theorem ev_bool {b : Bool} {j} : PE X (.Constant (.bool b) j pos) (tE X.K (eC (.bool b))) := ev_c pe_bl fun _ _ => .bl b
theorem ev_none {j} : PE X (.Constant .none j pos) (tE X.K (eC .none)) := ev_c pe_non fun _ _ => .non
theorem ev_str {x : Str} {j} : PE X (.Constant (.str x) j pos) (tE X.K (eC (.str x))) := ev_c pe_str fun _ _ => .str x
/-- an owned list as a value: from here on it is read only -/
theorem ev_frz {i : Nat} (h : PE X e (tVar i)) : PE X e (tE X.K (eFrz i)) := pe_of h fun σ H Q ⟨c, ρ, d', ρ', R, e, q⟩ => by
  unfold eFrz at e
  split at e
  · rename_i ds hd
    cases e
    obtain ⟨a, vs, h1, _⟩ := R.lst i false ds hd
    obtain ⟨R', r', m'⟩ := R.freeze hd h1
    exact ⟨.ref a, h1, q _ H R' r' m'⟩
  · cases e

/-! ### operations -/
def OpS (K : PySem.W.Frag) (r : R2) (o : PyData → PyData → Option PyData) : Prop := ∀ (c : Act) (ρ : Rho) (σ : L2.St) (H : Hp) (v1 v2 : V) (x y d : PyData) (Q : VK), Rel K c ρ σ H → Rp K (Av c ρ σ) H v1 x → Rp K (Av c ρ σ) H v2 y → o x y = some d →
  (∀ v H', Rel K c ρ σ H' → Rp K (Av c ρ σ) H' v d → (∀ a o, H a = some o → H' a = some o) → Q v H') → r v1 v2 H Q
def UnS (K : PySem.W.Frag) (r : V → Hp → VK → Prop) (o : PyData → Option PyData) : Prop := ∀ (c : Act) (ρ : Rho) (σ : L2.St) (H : Hp) (v1 : V) (x d : PyData) (Q : VK), Rel K c ρ σ H → Rp K (Av c ρ σ) H v1 x → o x = some d →
  (∀ v H', Rel K c ρ σ H' → Rp K (Av c ρ σ) H' v d → (∀ a o, H a = some o → H' a = some o) → Q v H') → r v1 H Q
theorem bin_inv {o : PyData → PyData → Option PyData} {ρ ρ' : Rho} {d : PyData} (h : eBin o f g ρ = some (d, ρ')) : ∃ x ρ1 y, f ρ = some (x, ρ1) ∧ g ρ1 = some (y, ρ') ∧ o x y = some d := by
  unfold eBin at h
  split at h
  · rename_i x ρ1 h1
    split at h
    · rename_i y ρ2 h2
      split at h
      · rename_i z h3
        cases h
        exact ⟨x, ρ1, y, h1, h2, h3⟩
      · cases h
    · cases h
  · cases h
theorem un_inv' {o : PyData → Option PyData} {ρ ρ' : Rho} {d : PyData} (h : eUn o f ρ = some (d, ρ')) : ∃ x, f ρ = some (x, ρ') ∧ o x = some d := by
  unfold eUn at h
  split at h
  · rename_i x ρ1 h1
    split at h
    · rename_i z h3
      cases h
      exact ⟨x, h1, h3⟩
    · cases h
  · cases h
theorem rd_bin {K : PySem.W.Frag} {r : R2} {o : PyData → PyData → Option PyData} (s : OpS K r o) : ∀ σ H Q, tE K (eBin o f g) σ H Q → tOp r (tE K f) (tE K g) σ H Q := fun σ H Q ⟨c, ρ, d, ρ', R, e, q⟩ => by
  obtain ⟨x, ρ1, y, h1, h2, h3⟩ := bin_inv e
  refine ⟨c, ρ, x, ρ1, R, h1, fun v1 H1 R1 r1 m1 => ⟨c, ρ1, y, ρ', R1, h2, fun v2 H2 R2 r2 m2 => ?_⟩⟩
  exact s c ρ' σ H2 v1 v2 x y d Q R2 (r1.mv m2) r2 h3 fun v H' R' r' k => q v H' R' r' ((m1.trans m2).trans (R2.mvG k))
theorem ev_op {op : Operator} {r : R2} {o : PyData → PyData → Option PyData} (ho : OpR X (binaryOp op) r) (s : OpS X.K r o) (ha : PE X a (tE X.K f)) (hb : PE X b (tE X.K g)) : PE X (.BinOp a op b pos) (tE X.K (eBin o f g)) :=
  pe_of (pe_op ho ha hb) (rd_bin s)
theorem ev_cmp {op : CmpOp} {r : R2} {o : PyData → PyData → Option PyData} (ho : OpR X (compareOp op) r) (s : OpS X.K r o) (ha : PE X a (tE X.K f)) (hb : PE X b (tE X.K g)) (hm : behindInMarks op b = false) : PE X (.Compare a [op] [b] pos) (tE X.K (eBin o f g)) :=
  pe_of (pe_cmpR ho ha hb hm) (rd_bin s)
theorem ev_ix {r : R2} {o : PyData → PyData → Option PyData} (hr : IxR X r) (s : OpS X.K r o) (ha : PE X a (tE X.K f)) (hb : PE X b (tE X.K g)) (hs : PlainIx b) : PE X (.Subscript a b pos) (tE X.K (eBin o f g)) :=
  pe_of (pe_ix hr ha hb hs) (rd_bin s)
theorem bl_inv {ρ ρ' : Rho} {b : Bool} (h : tBl f ρ = some (b, ρ')) : f ρ = some (.bool b, ρ') := by
  unfold tBl at h
  split at h
  · rename_i b' ρ1 h1
    cases h
    exact h1
  · cases h
theorem rd_bl {K : PySem.W.Frag} {t : TE} (k : ∀ σ H Q, tE K f σ H Q → t σ H Q) : ∀ σ H Q, tT K (tBl f) σ H Q → tTest t σ H Q := fun σ H Q ⟨c, ρ, d, ρ', R, e, q⟩ =>
  k σ H _ ⟨c, ρ, .bool d, ρ', R, bl_inv e, fun v H' R' r' m => by cases r'; exact ⟨d, rfl, q H' R' m⟩⟩
theorem et_cmp {op : CmpOp} {r : R2} {o : PyData → PyData → Option PyData} (ho : OpR X (compareOp op) r) (s : OpS X.K r o) (ha : PE X a (tE X.K f)) (hb : PE X b (tE X.K g)) (hm : behindInMarks op b = false) : PT X (.Compare a [op] [b] pos) (tT X.K (tBl (eBin o f g))) :=
  pt_of (pt_cmpR ho ha hb hm) (rd_bl (rd_bin s))
theorem rd_un {K : PySem.W.Frag} {r : V → Hp → VK → Prop} {o : PyData → Option PyData} (s : UnS K r o) : ∀ σ H Q, tE K (eUn o f) σ H Q → tUn r (tE K f) σ H Q := fun σ H Q ⟨c, ρ, d, ρ', R, e, q⟩ => by
  obtain ⟨x, h1, h3⟩ := un_inv' e
  exact ⟨c, ρ, x, ρ', R, h1, fun v1 H1 R1 r1 m1 => s c ρ' σ H1 v1 x d Q R1 r1 h3 fun v H' R' r' k => q v H' R' r' (m1.trans (R1.mvG k))⟩
theorem ev_un {op : UnaryOp} {r : V → Hp → VK → Prop} {o : PyData → Option PyData} (ho : UnR X (unaryOp op) r) (s : UnS X.K r o) (ha : PE X a (tE X.K f)) : PE X (.UnaryOp op a pos) (tE X.K (eUn o f)) :=
  pe_of (pe_un ho ha) (rd_un s)
theorem os_same {K : PySem.W.Frag} {c : Act} {ρ : Rho} {σ : L2.St} {H : Hp} {Q : VK} {v : V} {d : PyData} (R : Rel K c ρ σ H) (q : ∀ v H', Rel K c ρ σ H' → Rp K (Av c ρ σ) H' v d → (∀ a o, H a = some o → H' a = some o) → Q v H') (r : Rp K (Av c ρ σ) H v d) : Q v H :=
  q v H R r fun _ _ h => h
theorem os_i2 {K : PySem.W.Frag} {C : Int → Int → Bool} {C' : Int → Int → Prop} {g : Int → Int → PyData} {g' : Int → Int → V} (hC : ∀ i j, C i j = true → C' i j) (hg : ∀ A H i j, Rp K A H (g' i j) (g i j)) : OpS K (rI C' g') (dI2 C g) := by
  intro c ρ σ H v1 v2 x y d Q R r1 r2 ho q
  unfold dI2 at ho
  split at ho
  · rename_i i j
    split at ho
    · rename_i hc
      cases ho
      cases r1
      cases r2
      exact ⟨i, j, rfl, rfl, hC i j hc, os_same R q (hg _ _ _ _)⟩
    · cases ho
  · cases ho
theorem os_i20 {K : PySem.W.Frag} {g : Int → Int → PyData} {g' : Int → Int → V} (hg : ∀ A H i j, Rp K A H (g' i j) (g i j)) : OpS K (rI0 g') (dI2 cT g) := by
  intro c ρ σ H v1 v2 x y d Q R r1 r2 ho q
  unfold dI2 at ho
  split at ho
  · rename_i i j
    split at ho
    · cases ho
      cases r1
      cases r2
      exact ⟨i, j, rfl, rfl, os_same R q (hg _ _ _ _)⟩
    · cases ho
  · cases ho
theorem sl16 : sizeLine = 16777216 := sizeLine_eq
theorem os_sub {K : PySem.W.Frag} : OpS K (rI0 fun i j => .int (i - j)) dSub := os_i20 fun _ _ _ _ => .int _
theorem os_lt {K : PySem.W.Frag} : OpS K (rI0 fun i j => .bl (decide (i < j))) dLt := os_i20 fun _ _ _ _ => .bl _
theorem os_le {K : PySem.W.Frag} : OpS K (rI0 fun i j => .bl (decide (i ≤ j))) dLe := os_i20 fun _ _ _ _ => .bl _
theorem os_gt {K : PySem.W.Frag} : OpS K (rI0 fun i j => .bl (decide (j < i))) dGt := os_i20 fun _ _ _ _ => .bl _
theorem os_ge {K : PySem.W.Frag} : OpS K (rI0 fun i j => .bl (decide (j ≤ i))) dGe := os_i20 fun _ _ _ _ => .bl _
theorem os_mul {K : PySem.W.Frag} : OpS K (rI CMul fun i j => .int (i * j)) dMul := os_i2 (fun i j h => by
  simp only [Bool.or_eq_true, Bool.and_eq_true, decide_eq_true_eq] at h
  exact h) fun _ _ _ _ => .int _
theorem os_div {K : PySem.W.Frag} : OpS K (rI CDivW fun i j => .int (i / j)) dDiv := os_i2 (fun i j h => by
  simp only [Bool.and_eq_true, decide_eq_true_eq] at h
  exact wide_div (b := 64) h.1 (by omega) (by decide) (by decide)) fun _ _ _ _ => .int _
theorem os_mod {K : PySem.W.Frag} : OpS K (rI (fun _ j => 0 < j) fun i j => .int (i % j)) dMod := os_i2 (fun i j h => by
  simpa using h) fun _ _ _ _ => .int _
theorem os_shr {K : PySem.W.Frag} : OpS K (rI (fun _ j => 0 ≤ j) fun i j => .int (i / 2 ^ j.toNat)) dShr := os_i2 (fun i j h => by
  simpa using h) fun _ _ _ _ => .int _
theorem Rel.alloc {K : PySem.W.Frag} {c : Act} {ρ : Rho} {σ : L2.St} {H : Hp} (R : Rel K c ρ σ H) {p : Addr} {o : HO} (hp : H p = none) : Rel K c ρ σ (upd H p o) ∧ (∀ a x, H a = some x → upd H p o a = some x) := ⟨R.grow (kp_upd hp), kp_upd hp⟩
theorem Rel.newTup {K : PySem.W.Frag} {c : Act} {ρ : Rho} {σ : L2.St} {H : Hp} (R : Rel K c ρ σ H) {p : Addr} {xs : List V} {ds : List PyData} (hp : H p = none) (r : RpA K (Av c ρ σ) H xs ds) : Rp K (Av c ρ σ) (upd H p (.tup xs)) (.ref p) (.tuple ds) :=
  .tup (.inl ⟨.inl upd_same, R.noAv hp⟩) (r.mv (R.mvG (kp_upd hp)))
theorem Rel.newLst {K : PySem.W.Frag} {c : Act} {ρ : Rho} {σ : L2.St} {H : Hp} (R : Rel K c ρ σ H) {p : Addr} {xs : List V} {ds : List PyData} (hp : H p = none) (r : RpA K (Av c ρ σ) H xs ds) : Rp K (Av c ρ σ) (upd H p (.lst xs)) (.ref p) (.list ds) :=
  .lst ⟨upd_same, R.noAv hp⟩ (r.mv (R.mvG (kp_upd hp)))
/-- + -/
theorem op_addD : OpR X (binaryOp .Add) (fun x y H Q => rI0 (fun i j => .int (i + j)) x y H Q ∨ rCat x y H Q ∨ rCatA X.K x y H Q ∨ ∃ i j, x = .str i ∧ y = .str j ∧ i.length + j.length ≤ sizeLine ∧ Q (.str (i ++ j)) H) :=
  op_add.or (op_cat.or (op_catA.or op_add_str))
theorem RpA.nil_iff {K : PySem.W.Frag} {A : Addr → Prop} {H : Hp} {vs : List V} {ds : List PyData} (h : RpA K A H vs ds) : vs = [] ↔ ds = [] := by cases h <;> simp
theorem os_add {K : PySem.W.Frag} : OpS K (fun x y H Q => rI0 (fun i j => .int (i + j)) x y H Q ∨ rCat x y H Q ∨ rCatA K x y H Q ∨ ∃ i j, x = .str i ∧ y = .str j ∧ i.length + j.length ≤ sizeLine ∧ Q (.str (i ++ j)) H) dAdd := by
  intro c ρ σ H v1 v2 x y d Q R r1 r2 ho q
  unfold dAdd at ho
  split at ho
  · cases ho
    cases r1
    cases r2
    exact .inl ⟨_, _, rfl, rfl, os_same R q (.int _)⟩
  · split at ho
    · rename_i hl
      cases ho
      cases r1 with
      | lst l1 a1 =>
        cases r2 with
        | lst l2 a2 =>
          refine .inr (.inl ⟨_, _, _, _, rfl, rfl, l1.1, l2.1, by rw [a1.length, a2.length, sl16]; exact hl, fun p hp => ?_⟩)
          exact q _ _ (R.alloc hp).1 (R.newLst hp (a1.app a2)) (R.alloc hp).2
    · cases ho
  · split at ho
    · rename_i hl
      cases ho
      cases r1 with
      | tup l1 a1 =>
        cases r2 with
        | tup l2 a2 =>
          refine .inr (.inr (.inl ⟨_, _, _, _, rfl, rfl, l1.sq, l2.sq, by rw [a1.length, a2.length, sl16]; exact hl, fun z => ?_, fun _ z => ?_, fun _ _ p hp => ?_⟩))
          · have e := a1.nil_iff.mp z
            subst e
            exact os_same R q (.tup l2 a2)
          · have e := a2.nil_iff.mp z
            subst e
            rw [List.append_nil] at q
            exact os_same R q (.tup l1 a1)
          · exact q _ _ (R.alloc hp).1 (R.newTup hp (a1.app a2)) (R.alloc hp).2
    · cases ho
  · split at ho
    · rename_i hl
      cases ho
      cases r1
      cases r2
      exact .inr (.inr (.inr ⟨_, _, rfl, rfl, by rw [sl16]; exact hl, os_same R q (.str _)⟩))
    · cases ho
  · cases ho
/-- == and != -/
theorem dp_of {K : PySem.W.Frag} {A : Addr → Prop} {H : Hp} {v : V} {d : PyData} (r : Rp K A H v d) (s : SeqAt.shaped d = true) : Dp K H v d := Rp.dp d v r (SeqAt.canLay_of_shaped s)
theorem os_eq {K : PySem.W.Frag} : OpS K (rEqD K) dEq := by
  intro c ρ σ H v1 v2 x y d Q R r1 r2 ho q
  unfold dEq at ho
  split at ho
  · rename_i i j
    cases ho
    refine ⟨.int i, .int j, dp_of r1 rfl, dp_of r2 rfl, rfl, rfl, ?_⟩
    have e : PyData.eqv (.int i) (.int j) = decide (i = j) := by simp [PyData.eqv, Bool.beq_eq_decide_eq]
    rw [e]
    exact os_same R q (.bl _)
  · split at ho
    · rename_i hs
      cases ho
      simp only [Bool.and_eq_true] at hs
      exact ⟨x, y, dp_of r1 hs.1, dp_of r2 hs.2, hs.1, hs.2, os_same R q (.bl _)⟩
    · cases ho
theorem os_ne {K : PySem.W.Frag} : OpS K (rNeD K) dNe := by
  intro c ρ σ H v1 v2 x y d Q R r1 r2 ho q
  unfold dNe at ho
  split at ho
  · rename_i i j
    cases ho
    refine ⟨.int i, .int j, dp_of r1 rfl, dp_of r2 rfl, rfl, rfl, ?_⟩
    have e : PyData.eqv (.int i) (.int j) = decide (i = j) := by simp [PyData.eqv, Bool.beq_eq_decide_eq]
    rw [e]
    exact os_same R q (.bl _)
  · split at ho
    · rename_i hs
      cases ho
      simp only [Bool.and_eq_true] at hs
      exact ⟨x, y, dp_of r1 hs.1, dp_of r2 hs.2, hs.1, hs.2, os_same R q (.bl _)⟩
    · cases ho
/-- is None -/
theorem none_iff {K : PySem.W.Frag} {A : Addr → Prop} {H : Hp} {v : V} {d : PyData} (r : Rp K A H v d) : decide (v = V.non) = isNone d := by
  cases r <;> simp [isNone]
theorem rd_isN {K : PySem.W.Frag} : ∀ σ H Q, tE K (eUn dIsN f) σ H Q → tIsN (tE K f) σ H Q := fun σ H Q ⟨c, ρ, d, ρ', R, e, q⟩ => by
  obtain ⟨x, h1, h3⟩ := un_inv' e
  cases h3
  exact ⟨c, ρ, x, ρ', R, h1, fun v1 H1 R1 r1 m1 => by
    show Q (.bl (decide (v1 = V.non))) H1
    rw [none_iff r1]
    exact q _ H1 R1 (.bl _) m1⟩
theorem rd_notN {K : PySem.W.Frag} : ∀ σ H Q, tE K (eUn dNotN f) σ H Q → tNotN (tE K f) σ H Q := fun σ H Q ⟨c, ρ, d, ρ', R, e, q⟩ => by
  obtain ⟨x, h1, h3⟩ := un_inv' e
  cases h3
  exact ⟨c, ρ, x, ρ', R, h1, fun v1 H1 R1 r1 m1 => by
    show Q (.bl (!decide (v1 = V.non))) H1
    rw [none_iff r1]
    exact q _ H1 R1 (.bl _) m1⟩
theorem pt_ofPC {op : CmpOp} {t : TE} (h : PC X op a b t) (h1 : behindInMarks op b = false := by first | exact nobehind _ (by decide) (by decide) | rfl) : PT X (.Compare a [op] [b] pos) (tB t) := pt_cmp h h1
theorem rd_blB {K : PySem.W.Frag} {t : TE} (k : ∀ σ H Q, tE K f σ H Q → t σ H Q) : ∀ σ H Q, tT K (tBl f) σ H Q → tB t σ H Q := fun σ H Q ⟨c, ρ, d, ρ', R, e, q⟩ =>
  k σ H _ ⟨c, ρ, .bool d, ρ', R, bl_inv e, fun v H' R' r' m => by cases r'; exact ⟨d, rfl, q H' R' m⟩⟩
theorem ev_isN {j pos'} (ha : PE X a (tE X.K f)) : PE X (.Compare a [.Is] [.Constant .none j pos'] pos) (tE X.K (eUn dIsN f)) := pe_of (pe_cmp (pc_isN ha)) rd_isN
theorem ev_notN {j pos'} (ha : PE X a (tE X.K f)) : PE X (.Compare a [.IsNot] [.Constant .none j pos'] pos) (tE X.K (eUn dNotN f)) := pe_of (pe_cmp (pc_notN ha)) rd_notN
theorem et_isN {j pos'} (ha : PE X a (tE X.K f)) : PT X (.Compare a [.Is] [.Constant .none j pos'] pos) (tT X.K (tBl (eUn dIsN f))) := pt_of (pt_cmp (pc_isN ha)) (rd_blB rd_isN)
theorem et_notN {j pos'} (ha : PE X a (tE X.K f)) : PT X (.Compare a [.IsNot] [.Constant .none j pos'] pos) (tT X.K (tBl (eUn dNotN f))) := pt_of (pt_cmp (pc_notN ha)) (rd_blB rd_notN)
theorem us_neg {K : PySem.W.Frag} : UnS K (rU fun i => .int (-i)) dNeg := by
  intro c ρ σ H v1 x d Q R r1 ho q
  unfold dNeg at ho
  split at ho
  · cases ho
    cases r1
    exact ⟨_, rfl, os_same R q (.int _)⟩
  · cases ho
/-- an item -/
theorem ix_at {xs : List PyData} {vs : List V} {i : Int} {d : PyData} {K : PySem.W.Frag} {A : Addr → Prop} {H : Hp} (r : RpA K A H vs xs) (h : atD xs i = some d) : ∃ v, atI vs i = some v ∧ Rp K A H v d := by
  unfold atD at h
  unfold atI
  rw [r.length]
  cases e : ixOf xs.length i with
  | none => rw [e] at h; cases h
  | some j =>
    rw [e] at h
    have e' : ixN xs.length i = some j := e
    rw [e']
    exact r.get h
theorem os_ix {K : PySem.W.Frag} : OpS K (rIx K) dIx := by
  intro c ρ σ H v1 v2 x y d Q R r1 r2 ho q
  unfold dIx at ho
  split at ho
  · cases r2
    cases r1 with
    | lst l a =>
      obtain ⟨v, h1, h2⟩ := ix_at a ho
      exact .inl ⟨_, _, _, v, rfl, rfl, l.sq, h1, os_same R q h2⟩
  · cases r2
    cases r1 with
    | tup l a =>
      obtain ⟨v, h1, h2⟩ := ix_at a ho
      exact .inr (.inl ⟨_, _, _, v, rfl, rfl, l.sq, h1, os_same R q h2⟩)
  · cases r2
    cases r1 with
    | ro l a =>
      obtain ⟨v, h1, h2⟩ := ix_at (K := K) (A := Av c ρ σ) (H := H) a.rp ho
      exact .inl ⟨_, _, _, v, rfl, rfl, l.sq, h1, os_same R q h2⟩
  · cases ho
end
end PG
end
section
set_option Elab.async false
set_option linter.all false
set_option maxRecDepth 100000
namespace PG
open PySem PySem.Spec PyProof.Rows L2

section
variable {K : PySem.W.Frag} {c : Act} {ρ ρ' : Rho} {σ σ' : L2.St} {H H' : Hp}
theorem setV_inv {i : Nat} {d : PyData} (h : setV i d ρ = some ρ') : i < ρ.length ∧ (∀ ds, ρ[i]? ≠ some (some (.l true ds))) ∧ ρ' = ρ.set i (some (.v d)) := by
  unfold setV at h
  split at h
  · cases h
  · cases h
  · rename_i h1 h2
    cases h
    refine ⟨?_, fun ds z => h2 ds z, rfl⟩
    rcases Nat.lt_or_ge i ρ.length with h3 | h3
    · exact h3
    · exact absurd (List.getElem?_eq_none h3) h1
theorem setL_inv {i : Nat} {d : List PyData} (h : setL i d ρ = some ρ') : i < ρ.length ∧ (∀ ds, ρ[i]? ≠ some (some (.l true ds))) ∧ ρ' = ρ.set i (some (.l false d)) := by
  unfold setL at h
  split at h
  · cases h
  · cases h
  · rename_i h1 h2
    cases h
    refine ⟨?_, fun ds z => h2 ds z, rfl⟩
    rcases Nat.lt_or_ge i ρ.length with h3 | h3
    · exact h3
    · exact absurd (List.getElem?_eq_none h3) h1
theorem Rel.assign (R : Rel K c ρ σ H) {i : Nat} {d : PyData} {v : V} (h : setV i d ρ = some ρ') (r : Rp K (Av c ρ σ) H v d) :
    Rel K c ρ' (σ.set i (some v)) H ∧ Stp c ρ σ H ρ' (σ.set i (some v)) H := by
  obtain ⟨hl, np, rfl⟩ := setV_inv h
  have hl' : i < σ.length := by rw [← R.len]; exact hl
  have gs : ∀ j, (ρ.set i (some (Cell.v d)))[j]? = if i = j then some (some (Cell.v d)) else ρ[j]? := fun j => get_set hl
  have gv : ∀ j, (σ.set i (some v))[j]? = if i = j then some (some v) else σ[j]? := fun j => get_set hl'
  have own : ∀ b, Own (ρ.set i (some (.v d))) (σ.set i (some v)) b → Own ρ σ b := fun b ⟨j, q, es, h1, h2⟩ => by
    rw [gs] at h1
    rw [gv] at h2
    by_cases e : i = j
    · rw [if_pos e] at h1; cases h1
    · rw [if_neg e] at h1 h2; exact ⟨j, q, es, h1, h2⟩
  have mv : Stp c ρ σ H (ρ.set i (some (.v d))) (σ.set i (some v)) H := fun b o e n => ⟨e, fun z => n (z.elim .inl fun x => .inr (own b x))⟩
  refine ⟨⟨by rw [List.length_set, List.length_set]; exact R.len, fun j d' e => ?_, fun j q es e => ?_, fun j k q q' es es' b h1 h2 h3 h4 => ?_, fun j b => ?_, R.pA, R.old, R.av⟩, mv⟩
  · rw [gs] at e
    rw [gv]
    by_cases e1 : i = j
    · rw [if_pos e1] at e
      cases e
      exact ⟨v, by rw [if_pos e1], r.mv mv⟩
    · rw [if_neg e1] at e
      obtain ⟨u, h1, h2⟩ := R.val j d' e
      exact ⟨u, by rw [if_neg e1]; exact h1, h2.mv mv⟩
  · rw [gs] at e
    rw [gv]
    by_cases e1 : i = j
    · rw [if_pos e1] at e; cases e
    · rw [if_neg e1] at e
      obtain ⟨b, vs, h1, h2, h3, h4⟩ := R.lst j q es e
      exact ⟨b, vs, by rw [if_neg e1]; exact h1, h2, h3.mv mv, h4⟩
  · rw [gs] at h1 h2
    rw [gv] at h3 h4
    by_cases e1 : i = j
    · rw [if_pos e1] at h1; cases h1
    · by_cases e2 : i = k
      · rw [if_pos e2] at h2; cases h2
      · rw [if_neg e1] at h1 h3
        rw [if_neg e2] at h2 h4
        exact R.dis j k q q' es es' b h1 h2 h3 h4
  · rw [R.pin, gs, gv]
    by_cases e : i = j
    · subst e
      rw [if_pos rfl, if_pos rfl]
      constructor
      · rintro ⟨es, h1, h2⟩; exact absurd h1 (np es)
      · rintro ⟨es, h1, h2⟩; cases h1
    · rw [if_neg e, if_neg e]
theorem Rel.assignL {a : Addr} (R : Rel K (c.plus a) ρ σ H) {i : Nat} {ds : List PyData} {vs : List V} (h : setL i ds ρ = some ρ') (ha : H a = some (.lst vs)) (r : RpA K (Av (c.plus a) ρ σ) H vs ds)
    (h0 : c.H0 a = none) (na : ¬ Av c ρ σ a) (pA : ∀ i a, c.pn i = some a → c.A a) :
    Rel K c ρ' (σ.set i (some (.ref a))) H ∧ Mv (Av (c.plus a) ρ σ) H (Av c ρ' (σ.set i (some (.ref a)))) H := by
  obtain ⟨hl, np, rfl⟩ := setL_inv h
  have hl' : i < σ.length := by rw [← R.len]; exact hl
  have gs : ∀ j, (ρ.set i (some (Cell.l false ds)))[j]? = if i = j then some (some (Cell.l false ds)) else ρ[j]? := fun j => get_set hl
  have gv : ∀ j, (σ.set i (some (V.ref a)))[j]? = if i = j then some (some (V.ref a)) else σ[j]? := fun j => get_set hl'
  have own : ∀ b, Own (ρ.set i (some (.l false ds))) (σ.set i (some (.ref a))) b → b = a ∨ Own ρ σ b := fun b ⟨j, q, es, h1, h2⟩ => by
    rw [gs] at h1
    rw [gv] at h2
    by_cases e : i = j
    · rw [if_pos e] at h2; cases h2; exact .inl rfl
    · rw [if_neg e] at h1 h2; exact .inr ⟨j, q, es, h1, h2⟩
  have mv : Mv (Av (c.plus a) ρ σ) H (Av c (ρ.set i (some (.l false ds))) (σ.set i (some (.ref a)))) H := fun b o e n => ⟨e, fun z => n (z.elim (fun x => .inl (.inl x)) fun x => (own b x).elim (fun w => .inl (.inr w)) .inr)⟩
  have nown : ∀ (j : Nat) (q : Bool) (es : List PyData), ρ[j]? = some (some (.l q es)) → σ[j]? ≠ some (some (.ref a)) := fun j q es h1 h2 => na (.inr ⟨j, q, es, h1, h2⟩)
  refine ⟨⟨by rw [List.length_set, List.length_set]; exact R.len, fun j d' e => ?_, fun j q es e => ?_, fun j k q q' es es' b h1 h2 h3 h4 => ?_, fun j b => ?_, pA, R.old, fun b z => R.av b (.inl z)⟩, mv⟩
  · rw [gs] at e
    rw [gv]
    by_cases e1 : i = j
    · rw [if_pos e1] at e; cases e
    · rw [if_neg e1] at e
      obtain ⟨u, h1, h2⟩ := R.val j d' e
      exact ⟨u, by rw [if_neg e1]; exact h1, h2.mv mv⟩
  · rw [gs] at e
    rw [gv]
    by_cases e1 : i = j
    · rw [if_pos e1] at e
      cases e
      exact ⟨a, vs, by rw [if_pos e1], ha, r.mv mv, fun _ => ⟨h0, fun z => na (.inl z)⟩⟩
    · rw [if_neg e1] at e
      obtain ⟨b, vs, h1, h2, h3, h4⟩ := R.lst j q es e
      exact ⟨b, vs, by rw [if_neg e1]; exact h1, h2, h3.mv mv, fun z => ⟨(h4 z).1, fun y => (h4 z).2 (.inl y)⟩⟩
  · rw [gs] at h1 h2
    rw [gv] at h3 h4
    by_cases e1 : i = j
    · by_cases e2 : i = k
      · omega
      · rw [if_neg e2] at h2 h4
        rw [if_pos e1] at h3
        cases h3
        exact absurd h4 (nown k q' es' h2)
    · rw [if_neg e1] at h1 h3
      by_cases e2 : i = k
      · rw [if_pos e2] at h4
        cases h4
        exact absurd h3 (nown j q es h1)
      · rw [if_neg e2] at h2 h4
        exact R.dis j k q q' es es' b h1 h2 h3 h4
  · rw [show c.pn j = some b ↔ _ from R.pin j b, gs, gv]
    by_cases e : i = j
    · subst e
      rw [if_pos rfl, if_pos rfl]
      constructor
      · rintro ⟨es, h1, h2⟩; exact absurd h1 (np es)
      · rintro ⟨es, h1, h2⟩; cases h1
    · rw [if_neg e, if_neg e]
end

section
variable {X : Cx} {e a b : Expr} {pos : Pos} {f g h : EF} {tf tg : TF} {n m : NF} {es : List Expr}
/-! ### argument lists, displays -/
theorem so {α β : Type} {a c : α} {b d : β} (h : some (a, b) = some (c, d)) : a = c ∧ b = d := by
  cases h; exact ⟨rfl, rfl⟩
theorem ea_nil : PA X [] (tA X.K nNil) := pa_of pa_nil fun σ H Q ⟨c, ρ, ds, ρ', R, e, q⟩ => by
  cases e
  exact q [] H R .nil Mv.refl
theorem ncons_inv {ρ ρ' : Rho} {ds : List PyData} (h : nCons f n ρ = some (ds, ρ')) : ∃ x ρ1 xs, f ρ = some (x, ρ1) ∧ n ρ1 = some (xs, ρ') ∧ ds = x :: xs := by
  unfold nCons at h
  split at h
  · rename_i x ρ1 h1
    split at h
    · rename_i xs ρ2 h2
      cases h
      exact ⟨x, ρ1, xs, h1, h2, rfl⟩
    · cases h
  · cases h
theorem ea_cons (ha : PE X a (tE X.K f)) (hr : PA X es (tA X.K n)) (hs : starEach (a :: es) X.env = (false, eval a X.env) :: starEach es X.env := by rfl) : PA X (a :: es) (tA X.K (nCons f n)) :=
  pa_of (pa_cons ha hr hs) fun σ H Q ⟨c, ρ, ds, ρ', R, e, q⟩ => by
    obtain ⟨x, ρ1, xs, h1, h2, rfl⟩ := ncons_inv e
    exact ⟨c, ρ, x, ρ1, R, h1, fun v H1 R1 r1 m1 => ⟨c, ρ1, xs, ρ', R1, h2, fun vs H2 R2 r2 m2 => q _ H2 R2 (.cons (r1.mv m2) r2) (m1.trans m2)⟩⟩
theorem ev_tup {x1} (h : PA X es (tA X.K n)) : PE X (.Tuple es x1 pos) (tE X.K (eTup n)) := pe_of (pe_tup h) fun σ H Q ⟨c, ρ, d, ρ', R, e, q⟩ => by
  unfold eTup at e
  split at e
  · rename_i xs ρ1 h1
    split at e
    · rename_i hl
      obtain ⟨e1, e2⟩ := so e
      subst e1 e2
      refine ⟨c, ρ, xs, ρ1, R, h1, fun vs H1 R1 r1 m1 => ⟨by rw [r1.length, sl16]; exact hl, fun p hp => ?_⟩⟩
      exact q _ _ (R1.alloc hp).1 (R1.newTup hp r1) (m1.trans (R1.mvG (kp_upd hp)))
    · cases e
  · cases e
theorem avOf {K : PySem.W.Frag} {c : Act} {ρ ρ' : Rho} {σ σ' : L2.St} {H H' : Hp} {p : Addr} (m : Stp c ρ σ H ρ' σ' H') (hp : H' p = none) : ¬ Av c ρ σ p → H p = none := fun n => by
  cases e : H p with
  | none => rfl
  | some o => rw [(m p o e n).1] at hp; cases hp
theorem en_lst (h : PA X es (tA X.K n)) : PE X (.List es pos) (tN X.K (nDisp n)) := pe_of (pe_lst h) fun σ H Q ⟨c, ρ, ds, ρ', R, e, q⟩ => by
  unfold nDisp at e
  split at e
  · rename_i xs ρ1 h1
    split at e
    · rename_i hl
      obtain ⟨e1, e2⟩ := so e
      subst e1 e2
      refine ⟨c, ρ, xs, ρ1, R, h1, fun vs H1 R1 r1 m1 => ⟨by rw [r1.length, sl16]; exact hl, fun p hp => ?_⟩⟩
      exact q p vs _ (R1.plus hp (kp_upd hp) (by rw [upd_same]; exact fun z => nomatch z)) upd_same (r1.mv (R1.mvP hp (kp_upd hp))) (R1.noAv hp) (R1.fresh0 hp) (avOf (K := X.K) m1 hp) (m1.trans (R1.mvG (kp_upd hp)))
    · cases e
  · cases e
/-- a new list, as a value -/
theorem ev_new (h : PE X e (tN X.K n)) : PE X e (tE X.K (eLst n)) := pe_of h fun σ H Q ⟨c, ρ, d, ρ', R, e, q⟩ => by
  unfold eLst at e
  split at e
  · rename_i xs ρ1 h1
    obtain ⟨e1, e2⟩ := so e
    subst e1 e2
    refine ⟨c, ρ, xs, ρ1, R, h1, fun a vs H' R' ha r' na h0 nw m => ?_⟩
    have R2 := R'.unplus R.pA
    exact q _ _ R2 (.lst ⟨ha, na⟩ (r'.mv mv_unplus)) m
  · cases e

/-! ### calls -/
def spP (K : PySem.W.Frag) (k : Nat) (F : List PyData → Option PyData) : Sp := fun vs H Q _ => vs.length = k ∧ ∃ (A : Addr → Prop) (ds : List PyData) (r : PyData), RpA K A H vs ds ∧ (∀ a, A a → H a ≠ none) ∧ F ds = some r ∧
  ∀ v H', (∀ a o, H a = some o → H' a = some o) → Rp K A H' v r → Q v H'
def spN (K : PySem.W.Frag) (k : Nat) (F : List PyData → Option (List PyData)) : Sp := fun vs H Q _ => vs.length = k ∧ ∃ (A : Addr → Prop) (ds : List PyData) (r : List PyData), RpA K A H vs ds ∧ (∀ a, A a → H a ≠ none) ∧ F ds = some r ∧
  ∀ a us H', (∀ a o, H a = some o → H' a = some o) → H a = none → H' a = some (.lst us) → RpA K (fun b => A b ∨ b = a) H' us r → Q (.ref a) H'
def spL (K : PySem.W.Frag) (k : Nat) (F : List PyData → List PyData → Option (PyData × List PyData)) : Sp := fun vs H Q _ => vs.length = k + 1 ∧ ∃ (A : Addr → Prop) (a : Addr) (us ws : List V) (ps ds : List PyData) (r : PyData) (ps' : List PyData),
  vs = .ref a :: ws ∧ H a = some (.lst us) ∧ RpA K A H us ps ∧ A a ∧ RpA K A H ws ds ∧ (∀ a, A a → H a ≠ none) ∧ F ps ds = some (r, ps') ∧
  ∀ v H' us', (∀ b o, b ≠ a → H b = some o → H' b = some o) → H' a = some (.lst us') → RpA K A H' us' ps' → Rp K A H' v r → Q v H'
variable {F1 : List PyData → Option PyData} {F2 : List PyData → Option (List PyData)} {F3 : List PyData → List PyData → Option (PyData × List PyData)} {k j : Nat} {fa : Addr} {fd : FuncData} {ps : List Str} {x : Str} {p : Pos}
theorem rd_call {E : XK} (hk : ∀ ρ ds ρ', n ρ = some (ds, ρ') → ds.length = k) : ∀ σ H Q, tE X.K (eCall F1 n) σ H Q → tCall (spP X.K k F1) [] E (tA X.K n) σ H Q := fun σ H Q ⟨c, ρ, d, ρ', R, e, q⟩ => by
  unfold eCall at e
  split at e
  · rename_i xs ρ1 h1
    split at e
    · rename_i z h2
      obtain ⟨e1, e2⟩ := so e
      subst e1 e2
      refine ⟨c, ρ, xs, ρ1, R, h1, fun vs H1 R1 r1 m1 => ?_⟩
      show spP X.K k F1 (vs ++ []) H1 Q E
      rw [List.append_nil]
      refine ⟨by rw [r1.length]; exact hk _ _ _ h1, Av c ρ1 σ, xs, z, r1, fun a ha => R1.avS ha, h2, fun v H' kp r => ?_⟩
      exact q v H' (R1.grow kp) r (m1.trans (R1.mvG kp))
    · cases e
  · cases e
theorem ev_call (F : FnOk X.prog X.w X.K X.mg X.base CX0 j fa fd ps (spP X.K k F1)) (hr : Room j X.A) (hg : Gl X x) (hm : X.mg x = some (.ref fa)) (hkp : PySem.W.keepIn X.K (.ref fa) = true) (hb : L2.Binds X.K fd ps [])
    (ha : PA X (e :: es) (tA X.K n)) (hk : ∀ ρ ds ρ', n ρ = some (ds, ρ') → ds.length = k) (hdb : (x == ("__debug__" : Str)) = false := by decide) (he : starEach (e :: es) X.env = (false, eval e X.env) :: starEach es X.env := by rfl) (hpl : (backTo pos (starEach es X.env)).any (·.1) = false := by rfl) :
    PE X (.Call (.Name x p) (e :: es) [] pos) (tE X.K (eCall F1 n)) :=
  pe_of (pe_call F hr hg hm hkp hb .nil pass0 ha hdb he hpl) (rd_call hk)
theorem ev_call0 (F : FnOk X.prog X.w X.K X.mg X.base CX0 j fa fd ps (spP X.K 0 F1)) (hr : Room j X.A) (hg : Gl X x) (hm : X.mg x = some (.ref fa)) (hkp : PySem.W.keepIn X.K (.ref fa) = true) (hb : L2.Binds X.K fd ps [])
    (hdb : (x == ("__debug__" : Str)) = false := by decide) : PE X (.Call (.Name x p) [] [] pos) (tE X.K (eCall F1 nNil)) :=
  pe_of (pe_call0 F hr hg hm hkp hb .nil pass0 hdb) fun σ H Q ⟨c, ρ, d, ρ', R, e, q⟩ => by
    unfold eCall nNil at e
    simp only at e
    split at e
    · rename_i z h2
      obtain ⟨e1, e2⟩ := so e
      subst e1 e2
      exact ⟨rfl, Av c ρ σ, [], z, .nil, fun a ha => R.avS ha, h2, fun v H' kp r => q v H' (R.grow kp) r (R.mvG kp)⟩
    · cases e
theorem en_call (F : FnOk X.prog X.w X.K X.mg X.base CX0 j fa fd ps (spN X.K k F2)) (hr : Room j X.A) (hg : Gl X x) (hm : X.mg x = some (.ref fa)) (hkp : PySem.W.keepIn X.K (.ref fa) = true) (hb : L2.Binds X.K fd ps [])
    (ha : PA X (e :: es) (tA X.K n)) (hk : ∀ ρ ds ρ', n ρ = some (ds, ρ') → ds.length = k) (hdb : (x == ("__debug__" : Str)) = false := by decide) (he : starEach (e :: es) X.env = (false, eval e X.env) :: starEach es X.env := by rfl) (hpl : (backTo pos (starEach es X.env)).any (·.1) = false := by rfl) :
    PE X (.Call (.Name x p) (e :: es) [] pos) (tN X.K (nCall F2 n)) :=
  pe_of (pe_call F hr hg hm hkp hb .nil pass0 ha hdb he hpl) fun σ H Q ⟨c, ρ, d, ρ', R, e, q⟩ => by
    unfold nCall at e
    split at e
    · rename_i xs ρ1 h1
      split at e
      · rename_i z h2
        obtain ⟨e1, e2⟩ := so e
        subst e1 e2
        refine ⟨c, ρ, xs, ρ1, R, h1, fun vs H1 R1 r1 m1 => ?_⟩
        show spN X.K k F2 (vs ++ []) H1 Q E0
        rw [List.append_nil]
        refine ⟨by rw [r1.length]; exact hk _ _ _ h1, Av c ρ1 σ, xs, z, r1, fun a ha => R1.avS ha, h2, fun a us H' kp hn hl r => ?_⟩
        refine q a us H' (R1.plus hn kp (by rw [hl]; exact fun z => nomatch z)) hl (r.mv fun b o e n => ⟨e, fun z => n ?_⟩) (R1.noAv hn) (R1.fresh0 hn) (avOf (K := X.K) m1 hn) (m1.trans (R1.mvG kp))
        rcases z with (z | z) | z
        · exact .inl (.inl z)
        · exact .inr z
        · exact .inl (.inr z)
      · cases e
    · cases e
theorem callL_inv {i : Nat} {ρ ρ' : Rho} {d : PyData} (e : eCallL F3 i n ρ = some (d, ρ')) : ∃ p0 l0 xs ρ1 pp pl ps', ρ[i]? = some (some (.l p0 l0)) ∧ n ρ = some (xs, ρ1) ∧ ρ1[i]? = some (some (.l pp pl)) ∧ F3 pl xs = some (d, ps') ∧ ρ' = ρ1.set i (some (.l pp ps')) := by
  unfold eCallL at e
  split at e
  · rename_i p0 l0 h0
    split at e
    · rename_i xs ρ1 h1
      split at e
      · rename_i pp pl h2
        split at e
        · rename_i z ps' h3
          obtain ⟨e1, e2⟩ := so e
          subst e1 e2
          exact ⟨p0, l0, xs, ρ1, pp, pl, ps', h0, h1, h2, h3, rfl⟩
        · cases e
      · cases e
    · cases e
  · cases e
/-- f(pool, ..): the owned list at slot i may change -/
theorem rd_callL {i : Nat} {E : XK} (hk : ∀ ρ ds ρ', n ρ = some (ds, ρ') → ds.length = k) : ∀ σ H Q, tE X.K (eCallL F3 i n) σ H Q → tCall (spL X.K k F3) [] E (tCons (tVar i) (tA X.K n)) σ H Q := fun σ H Q ⟨c, ρ, d, ρ', R, e, q⟩ => by
  obtain ⟨p0, l0, xs, ρ1, pp, pl, ps', h0, h1, h2, h3, rfl⟩ := callL_inv e
  obtain ⟨a, us0, g1, _⟩ := R.lst i p0 l0 h0
  refine ⟨.ref a, g1, c, ρ, xs, ρ1, R, h1, fun vs H1 R1 r1 m1 => ?_⟩
  obtain ⟨a', us, g1', g2, g3, _⟩ := R1.lst i pp pl h2
  rw [g1] at g1'
  cases g1'
  show spL X.K k F3 (.ref a :: vs ++ []) H1 Q E
  rw [List.append_nil]
  refine ⟨by rw [List.length_cons, r1.length, hk _ _ _ h1], Av c ρ1 σ, a, us, vs, pl, xs, d, ps', rfl, g2, g3, .inr ⟨i, pp, pl, h2, g1⟩, r1, fun b hb => R1.avS hb, h3, fun v H' us' kp hl r2 r3 => ?_⟩
  obtain ⟨R2, m2⟩ := R1.write h2 g1 hl kp r2
  have m3 : Mv (Av c ρ1 σ) H' (Av c (ρ1.set i (some (.l pp ps'))) σ) H' := fun b o e n => ⟨e, fun z => n (z.elim .inl fun ⟨jj, q', es', w1, w2⟩ => .inr (by
    rw [get_set (lt_of_get h2)] at w1
    by_cases ee : i = jj
    · subst ee; exact ⟨i, pp, pl, h2, w2⟩
    · rw [if_neg ee] at w1; exact ⟨jj, q', es', w1, w2⟩))⟩
  exact q v H' R2 (r3.mv m3) (m1.trans m2)
theorem ev_callL {i : Nat} (F : FnOk X.prog X.w X.K X.mg X.base CX0 j fa fd ps (spL X.K k F3)) (hr : Room j X.A) (hg : Gl X x) (hm : X.mg x = some (.ref fa)) (hkp : PySem.W.keepIn X.K (.ref fa) = true) (hb : L2.Binds X.K fd ps [])
    (hv : PE X e (tVar i)) (ha : PA X es (tA X.K n)) (hk : ∀ ρ ds ρ', n ρ = some (ds, ρ') → ds.length = k) (hdb : (x == ("__debug__" : Str)) = false := by decide) (he : starEach (e :: es) X.env = (false, eval e X.env) :: starEach es X.env := by rfl) (hpl : (backTo pos (starEach es X.env)).any (·.1) = false := by rfl) :
    PE X (.Call (.Name x p) (e :: es) [] pos) (tE X.K (eCallL F3 i n)) :=
  pe_of (pe_call F hr hg hm hkp hb .nil pass0 (pa_cons hv ha he) hdb he hpl) (rd_callL hk)
theorem nlen_nil : ∀ ρ ds ρ', nNil ρ = some (ds, ρ') → ds.length = 0 := fun ρ ds ρ' h => by cases h; rfl
theorem nlen_cons (h : ∀ ρ ds ρ', n ρ = some (ds, ρ') → ds.length = k) : ∀ ρ ds ρ', nCons f n ρ = some (ds, ρ') → ds.length = k + 1 := fun ρ ds ρ' e => by
  obtain ⟨x, ρ1, xs, h1, h2, rfl⟩ := ncons_inv e
  rw [List.length_cons, h _ _ _ h2]
end
end PG
end
section
set_option Elab.async false
set_option linter.all false
set_option maxRecDepth 100000
namespace PG
open PySem PySem.Spec PyProof.Rows L2
section
variable {X : Cx} {e a b : Expr} {pos : Pos} {f g h : EF} {tf tg : TF} {n m : NF} {es : List Expr}
/-! ### tests -/
theorem tru_of {K : PySem.W.Frag} {A : Addr → Prop} {H : Hp} {v : V} {d : PyData} {k : Bool} (r : Rp K A H v d) (h : truth d = some k) : TruV K v H k := by
  cases r with
  | non => cases h; rfl
  | bl b => cases h; rfl
  | int i => cases h; rfl
  | str x =>
    unfold truth at h
    simp only at h
    split at h
    · rename_i hl
      cases h
      exact ⟨by rw [sl16]; exact hl, rfl⟩
    · cases h
  | @lst p xs ds l r =>
    cases h
    refine .inl ⟨xs, l.sq, ?_⟩
    cases r <;> rfl
  | @tup p xs ds l r =>
    cases h
    refine .inr (.inl ⟨xs, l.sq, ?_⟩)
    cases r <;> rfl
  | ro => cases h
theorem tru_inv {ρ ρ' : Rho} {b : Bool} (h : tTru f ρ = some (b, ρ')) : ∃ x, f ρ = some (x, ρ') ∧ truth x = some b := by
  unfold tTru at h
  split at h
  · rename_i x ρ1 h1
    split at h
    · rename_i b' h2
      obtain ⟨e1, e2⟩ := so h
      subst e1 e2
      exact ⟨x, h1, h2⟩
    · cases h
  · cases h
theorem et_tru (ha : PE X a (tE X.K f)) (he : ∀ whole, isTrue a X.env whole = (do let v ← whole; standAt a.pos; holding [v] (truthy v)) := by intro _; rfl) : PT X a (tT X.K (tTru f)) :=
  pt_of (pt_truth ha he) fun σ H Q ⟨c, ρ, d, ρ', R, e, q⟩ => by
    obtain ⟨x, h1, h2⟩ := tru_inv e
    exact ⟨c, ρ, x, ρ', R, h1, fun v H' R' r' m => ⟨d, tru_of r' h2, q H' R' m⟩⟩
theorem tnot_inv {ρ ρ' : Rho} {b : Bool} (h : tNot' tf ρ = some (b, ρ')) : ∃ b', tf ρ = some (b', ρ') ∧ b = !b' := by
  unfold tNot' at h
  split at h
  · rename_i b' ρ1 h1
    obtain ⟨e1, e2⟩ := so h
    subst e2
    exact ⟨b', h1, e1.symm⟩
  · cases h
theorem et_not (ha : PT X a (tT X.K tf)) : PT X (.UnaryOp .Not a pos) (tT X.K (tNot' tf)) := pt_of (pt_not ha) fun σ H Q ⟨c, ρ, d, ρ', R, e, q⟩ => by
  obtain ⟨b', h1, rfl⟩ := tnot_inv e
  exact ⟨c, ρ, b', ρ', R, h1, fun H' R' m => q H' R' m⟩
theorem rd_and {K : PySem.W.Frag} : ∀ σ H Q, tT K (tAnd' tf tg) σ H Q → tAnd (tT K tf) (tT K tg) σ H Q := fun σ H Q ⟨c, ρ, d, ρ', R, e, q⟩ => by
  unfold tAnd' at e
  split at e
  · rename_i ρ1 h1
    exact ⟨c, ρ, true, ρ1, R, h1, fun H' R' m => iteT ⟨c, ρ1, d, ρ', R', e, fun H2 R2 m2 => q H2 R2 (m.trans m2)⟩⟩
  · rename_i ρ1 h1
    obtain ⟨e1, e2⟩ := so e
    subst e1 e2
    exact ⟨c, ρ, false, ρ1, R, h1, fun H' R' m => iteF (q H' R' m)⟩
  · cases e
theorem rd_or {K : PySem.W.Frag} : ∀ σ H Q, tT K (tOr' tf tg) σ H Q → tOr (tT K tf) (tT K tg) σ H Q := fun σ H Q ⟨c, ρ, d, ρ', R, e, q⟩ => by
  unfold tOr' at e
  split at e
  · rename_i ρ1 h1
    obtain ⟨e1, e2⟩ := so e
    subst e1 e2
    exact ⟨c, ρ, true, ρ1, R, h1, fun H' R' m => iteT (q H' R' m)⟩
  · rename_i ρ1 h1
    exact ⟨c, ρ, false, ρ1, R, h1, fun H' R' m => iteF ⟨c, ρ1, d, ρ', R', e, fun H2 R2 m2 => q H2 R2 (m.trans m2)⟩⟩
  · cases e
theorem ew_and1 (ha : PT X a (tT X.K tf)) : PW X (.BoolOp .And [a] pos) (tT X.K tf) := pw_and1 ha
theorem ew_or1 (ha : PT X a (tT X.K tf)) : PW X (.BoolOp .Or [a] pos) (tT X.K tf) := pw_or1 ha
theorem ew_and {rest : List Expr} (ha : PT X a (tT X.K tf)) (hb : PW X (.BoolOp .And (b :: rest) pos) (tT X.K tg)) : PW X (.BoolOp .And (a :: b :: rest) pos) (tT X.K (tAnd' tf tg)) := pw_of (pw_and ha hb) rd_and
theorem ew_or {rest : List Expr} (ha : PT X a (tT X.K tf)) (hb : PW X (.BoolOp .Or (b :: rest) pos) (tT X.K tg)) : PW X (.BoolOp .Or (a :: b :: rest) pos) (tT X.K (tOr' tf tg)) := pw_of (pw_or ha hb) rd_or
/-- and, or, not as values -/
theorem ev_one {op} (ha : PE X a (tE X.K f)) : PE X (.BoolOp op [a] pos) (tE X.K f) := pe_one ha
theorem ev_and {rest : List Expr} (ha : PE X a (tE X.K f)) (hb : PE X (.BoolOp .And (b :: rest) pos) (tE X.K g)) : PE X (.BoolOp .And (a :: b :: rest) pos) (tE X.K (eAnd f g)) :=
  pe_of (pe_andT ha hb) fun σ H Q ⟨c, ρ, d, ρ', R, e, q⟩ => by
    unfold eAnd at e
    split at e
    · rename_i x ρ1 h1
      split at e
      · rename_i h2
        exact ⟨c, ρ, x, ρ1, R, h1, fun v H' R' r' m => ⟨true, tru_of r' h2, iteT ⟨c, ρ1, d, ρ', R', e, fun v2 H2 R2 r2 m2 => q v2 H2 R2 r2 (m.trans m2)⟩⟩⟩
      · rename_i h2
        obtain ⟨e1, e2⟩ := so e
        subst e1 e2
        exact ⟨c, ρ, x, ρ1, R, h1, fun v H' R' r' m => ⟨false, tru_of r' h2, iteF (q v H' R' r' m)⟩⟩
      · cases e
    · cases e
theorem ev_or {rest : List Expr} (ha : PE X a (tE X.K f)) (hb : PE X (.BoolOp .Or (b :: rest) pos) (tE X.K g)) : PE X (.BoolOp .Or (a :: b :: rest) pos) (tE X.K (eOr f g)) :=
  pe_of (pe_orT ha hb) fun σ H Q ⟨c, ρ, d, ρ', R, e, q⟩ => by
    unfold eOr at e
    split at e
    · rename_i x ρ1 h1
      split at e
      · rename_i h2
        obtain ⟨e1, e2⟩ := so e
        subst e1 e2
        exact ⟨c, ρ, x, ρ1, R, h1, fun v H' R' r' m => ⟨true, tru_of r' h2, iteT (q v H' R' r' m)⟩⟩
      · rename_i h2
        exact ⟨c, ρ, x, ρ1, R, h1, fun v H' R' r' m => ⟨false, tru_of r' h2, iteF ⟨c, ρ1, d, ρ', R', e, fun v2 H2 R2 r2 m2 => q v2 H2 R2 r2 (m.trans m2)⟩⟩⟩
      · cases e
    · cases e
theorem ev_not (ha : PE X a (tE X.K f)) : PE X (.UnaryOp .Not a pos) (tE X.K (eNot f)) := pe_of (pe_notT ha) fun σ H Q ⟨c, ρ, d, ρ', R, e, q⟩ => by
  unfold eNot at e
  split at e
  · rename_i x ρ1 h1
    split at e
    · rename_i k h2
      obtain ⟨e1, e2⟩ := so e
      subst e1 e2
      exact ⟨c, ρ, x, ρ1, R, h1, fun v H' R' r' m => ⟨k, tru_of r' h2, q _ H' R' (.bl _) m⟩⟩
    · cases e
  · cases e
theorem ev_if {cnd : Expr} (hc : PT X cnd (tT X.K tf)) (ha : PE X a (tE X.K f)) (hb : PE X b (tE X.K g)) : PE X (.IfExp cnd a b pos) (tE X.K (eIf tf f g)) := pe_of (pe_ifExp hc ha hb) fun σ H Q ⟨c, ρ, d, ρ', R, e, q⟩ => by
  unfold eIf at e
  split at e
  · rename_i ρ1 h1
    exact ⟨c, ρ, true, ρ1, R, h1, fun H' R' m => iteT ⟨c, ρ1, d, ρ', R', e, fun v2 H2 R2 r2 m2 => q v2 H2 R2 r2 (m.trans m2)⟩⟩
  · rename_i ρ1 h1
    exact ⟨c, ρ, false, ρ1, R, h1, fun H' R' m => iteF ⟨c, ρ1, d, ρ', R', e, fun v2 H2 R2 r2 m2 => q v2 H2 R2 r2 (m.trans m2)⟩⟩
  · cases e
theorem chain_inv {o o' : PyData → PyData → Option PyData} {ρ ρ' : Rho} {d : PyData} (e : eChain o o' f g h ρ = some (d, ρ')) : ∃ x ρ1 y ρ2 k, f ρ = some (x, ρ1) ∧ g ρ1 = some (y, ρ2) ∧ o x y = some (.bool k) ∧
    ((k = true ∧ ∃ z b, h ρ2 = some (z, ρ') ∧ o' y z = some (.bool b) ∧ d = .bool b) ∨ (k = false ∧ d = .bool false ∧ ρ' = ρ2)) := by
  unfold eChain at e
  split at e
  · rename_i x ρ1 h1
    split at e
    · rename_i y ρ2 h2
      split at e
      · rename_i h3
        split at e
        · rename_i z ρ3 h4
          split at e
          · rename_i b h5
            obtain ⟨e1, e2⟩ := so e
            subst e1 e2
            exact ⟨x, ρ1, y, ρ2, true, h1, h2, h3, .inl ⟨rfl, z, b, h4, h5, rfl⟩⟩
          · cases e
        · cases e
      · rename_i h3
        obtain ⟨e1, e2⟩ := so e
        subst e1 e2
        exact ⟨x, ρ1, y, ρ2, false, h1, h2, h3, .inr ⟨rfl, rfl, rfl⟩⟩
      · cases e
    · cases e
  · cases e
theorem rd_chain {K : PySem.W.Frag} {r r' : R2} {o o' : PyData → PyData → Option PyData} (s : OpS K r o) (s' : OpS K r' o') : ∀ σ H Q, tE K (eChain o o' f g h) σ H Q → tChain r r' (tE K f) (tE K g) (tE K h) σ H Q := fun σ H Q ⟨c, ρ, d, ρ', R, e, q⟩ => by
  obtain ⟨x, ρ1, y, ρ2, k, h1, h2, h3, h4⟩ := chain_inv e
  refine ⟨c, ρ, x, ρ1, R, h1, fun v1 H1 R1 r1 m1 => ⟨c, ρ1, y, ρ2, R1, h2, fun v2 H2 R2 r2 m2 => ?_⟩⟩
  refine s c ρ2 σ H2 v1 v2 x y _ _ R2 (r1.mv m2) r2 h3 fun v H3 R3 r3 k3 => ?_
  cases r3
  have m3 := (m1.trans m2).trans (R2.mvG k3)
  refine ⟨k, rfl, ?_⟩
  rcases h4 with ⟨rfl, z, b, h5, h6, rfl⟩ | ⟨rfl, rfl, rfl⟩
  · rw [if_pos rfl]
    refine ⟨c, ρ2, z, ρ', R3, h5, fun v4 H4 R4 r4 m4 => ?_⟩
    exact s' c ρ' σ H4 v2 v4 y z _ _ R4 ((r2.mv (R2.mvG k3)).mv m4) r4 h6 fun v5 H5 R5 r5 k5 => q v5 H5 R5 r5 ((m3.trans m4).trans (R4.mvG k5))
  · rw [if_neg Bool.false_ne_true]
    exact q _ H3 R3 (.bl _) m3
theorem ev_chain {cx : Expr} {op op' : CmpOp} {r r' : R2} {o o' : PyData → PyData → Option PyData} (ho : OpR X (compareOp op) r) (s : OpS X.K r o) (ho' : OpR X (compareOp op') r') (s' : OpS X.K r' o') (ha : PE X a (tE X.K f)) (hb : PE X b (tE X.K g)) (hc : PE X cx (tE X.K h))
    (hm : lastMarks [op, op'] [b, cx] = false := by with_unfolding_all rfl) : PE X (.Compare a [op, op'] [b, cx] pos) (tE X.K (eChain o o' f g h)) := pe_of (pe_chain ho ho' ha hb hc hm) (rd_chain s s')
theorem et_chain {cx : Expr} {op op' : CmpOp} {r r' : R2} {o o' : PyData → PyData → Option PyData} (ho : OpR X (compareOp op) r) (s : OpS X.K r o) (ho' : OpR X (compareOp op') r') (s' : OpS X.K r' o') (ha : PE X a (tE X.K f)) (hb : PE X b (tE X.K g)) (hc : PE X cx (tE X.K h))
    (hm : lastMarks [op, op'] [b, cx] = false := by with_unfolding_all rfl) : PT X (.Compare a [op, op'] [b, cx] pos) (tT X.K (tBl (eChain o o' f g h))) := by
  refine pt_of (pt_chain ho ho' ha hb hc hm) ?_
  exact rd_bl (rd_chain s s')

/-! ### built-in functions -/
def FnS (K : PySem.W.Frag) (r : List V → Hp → VK → Prop) (o : List PyData → Option PyData) : Prop := ∀ (c : Act) (ρ : Rho) (σ : L2.St) (H : Hp) (vs : List V) (ds : List PyData) (d : PyData) (Q : VK), Rel K c ρ σ H → RpA K (Av c ρ σ) H vs ds → o ds = some d →
  (∀ v H', Rel K c ρ σ H' → Rp K (Av c ρ σ) H' v d → (∀ a o, H a = some o → H' a = some o) → Q v H') → r vs H Q
def FnN (K : PySem.W.Frag) (r : List V → Hp → VK → Prop) (o : List PyData → Option (List PyData)) : Prop := ∀ (c : Act) (ρ : Rho) (σ : L2.St) (H : Hp) (vs : List V) (ds ys : List PyData) (Q : VK), Rel K c ρ σ H → RpA K (Av c ρ σ) H vs ds → o ds = some ys →
  (∀ p us, H p = none → RpA K (Av c ρ σ) H us ys → Q (.ref p) (upd H p (.lst us))) → r vs H Q
theorem rd_fn {K : PySem.W.Frag} {r : List V → Hp → VK → Prop} {o : List PyData → Option PyData} (s : FnS K r o) : ∀ σ H Q, tE K (eCall o n) σ H Q → tCB r (tA K n) σ H Q := fun σ H Q ⟨c, ρ, d, ρ', R, e, q⟩ => by
  unfold eCall at e
  split at e
  · rename_i xs ρ1 h1
    split at e
    · rename_i z h2
      obtain ⟨e1, e2⟩ := so e
      subst e1 e2
      exact ⟨c, ρ, xs, ρ1, R, h1, fun vs H1 R1 r1 m1 => s c ρ1 σ H1 vs xs z Q R1 r1 h2 fun v H' R' r' k => q v H' R' r' (m1.trans (R1.mvG k))⟩
    · cases e
  · cases e
theorem rd_fnN {K : PySem.W.Frag} {r : List V → Hp → VK → Prop} {o : List PyData → Option (List PyData)} (s : FnN K r o) : ∀ σ H Q, tN K (nCall o n) σ H Q → tCB r (tA K n) σ H Q := fun σ H Q ⟨c, ρ, d, ρ', R, e, q⟩ => by
  unfold nCall at e
  split at e
  · rename_i xs ρ1 h1
    split at e
    · rename_i z h2
      obtain ⟨e1, e2⟩ := so e
      subst e1 e2
      refine ⟨c, ρ, xs, ρ1, R, h1, fun vs H1 R1 r1 m1 => s c ρ1 σ H1 vs xs z Q R1 r1 h2 fun p us hp r' => ?_⟩
      exact q p us _ (R1.plus hp (kp_upd hp) (by rw [upd_same]; exact fun z => nomatch z)) upd_same (r'.mv (R1.mvP hp (kp_upd hp))) (R1.noAv hp) (R1.fresh0 hp) (avOf (K := K) m1 hp) (m1.trans (R1.mvG (kp_upd hp)))
    · cases e
  · cases e
variable {x : Str} {p : Pos} {id : String} {r : List V → Hp → VK → Prop} {o1 : List PyData → Option PyData} {o2 : List PyData → Option (List PyData)}
theorem ev_fn (hc : CallR X (.builtin id) r) (s : FnS X.K r o1) (hg : Gl X x) (hm : X.mg x = none) (hv : bootBuiltins x = some (.builtin id)) (ha : PA X (e :: es) (tA X.K n)) (hn : x ≠ "__name__" := by decide) (hdb : (x == ("__debug__" : Str)) = false := by decide)
    (he : starEach (e :: es) X.env = (false, eval e X.env) :: starEach es X.env := by rfl) (hpl : (backTo pos (starEach es X.env)).any (·.1) = false := by rfl) : PE X (.Call (.Name x p) (e :: es) [] pos) (tE X.K (eCall o1 n)) :=
  pe_of (pe_callB hc hg hm hv ha hn hdb he hpl) (rd_fn s)
theorem ev_fnT (hc : CallR X (.type id) r) (s : FnS X.K r o1) (hg : Gl X x) (hm : X.mg x = none) (hv : bootBuiltins x = some (.type id)) (ha : PA X (e :: es) (tA X.K n)) (hn : x ≠ "__name__" := by decide) (hdb : (x == ("__debug__" : Str)) = false := by decide)
    (he : starEach (e :: es) X.env = (false, eval e X.env) :: starEach es X.env := by rfl) (hpl : (backTo pos (starEach es X.env)).any (·.1) = false := by rfl) : PE X (.Call (.Name x p) (e :: es) [] pos) (tE X.K (eCall o1 n)) :=
  pe_of (pe_callTy hc hg hm hv ha hn hdb he hpl) (rd_fn s)
theorem en_fn (hc : CallR X (.builtin id) r) (s : FnN X.K r o2) (hg : Gl X x) (hm : X.mg x = none) (hv : bootBuiltins x = some (.builtin id)) (ha : PA X (e :: es) (tA X.K n)) (hn : x ≠ "__name__" := by decide) (hdb : (x == ("__debug__" : Str)) = false := by decide)
    (he : starEach (e :: es) X.env = (false, eval e X.env) :: starEach es X.env := by rfl) (hpl : (backTo pos (starEach es X.env)).any (·.1) = false := by rfl) : PE X (.Call (.Name x p) (e :: es) [] pos) (tN X.K (nCall o2 n)) :=
  pe_of (pe_callB hc hg hm hv ha hn hdb he hpl) (rd_fnN s)
theorem en_fnT (hc : CallR X (.type id) r) (s : FnN X.K r o2) (hg : Gl X x) (hm : X.mg x = none) (hv : bootBuiltins x = some (.type id)) (ha : PA X (e :: es) (tA X.K n)) (hn : x ≠ "__name__" := by decide) (hdb : (x == ("__debug__" : Str)) = false := by decide)
    (he : starEach (e :: es) X.env = (false, eval e X.env) :: starEach es X.env := by rfl) (hpl : (backTo pos (starEach es X.env)).any (·.1) = false := by rfl) : PE X (.Call (.Name x p) (e :: es) [] pos) (tN X.K (nCall o2 n)) :=
  pe_of (pe_callTy hc hg hm hv ha hn hdb he hpl) (rd_fnN s)
@[simp] def o1of (o : PyData → Option PyData) : List PyData → Option PyData
  | [x] => o x
  | _ => none
@[simp] def o2of (o : PyData → PyData → Option PyData) : List PyData → Option PyData
  | [x, y] => o x y
  | _ => none
@[simp] def dAbs : PyData → Option PyData
  | .int i => some (.int (if i < 0 then -i else i))
  | _ => none
@[simp] def dInt : PyData → Option PyData
  | .int i => some (.int i)
  | _ => none
@[simp] def dMax := dI2 cT fun i j => .int (if j > i then j else i)
@[simp] def dMin := dI2 cT fun i j => .int (if j < i then j else i)
@[simp] def dTupOf : PyData → Option PyData
  | .list xs => some (.tuple xs)
  | .tuple xs => some (.tuple xs)
  | .dict [(.list xs, .none)] => some (.tuple xs)
  | _ => none
@[simp] def dLstOf : PyData → Option (List PyData)
  | .list xs => some xs
  | .tuple xs => some xs
  | .dict [(.list xs, .none)] => some xs
  | _ => none
@[simp] def n1of (o : PyData → Option (List PyData)) : List PyData → Option (List PyData)
  | [x] => o x
  | _ => none
theorem rpa1 {K : PySem.W.Frag} {A : Addr → Prop} {H : Hp} {vs : List V} {d : PyData} (r : RpA K A H vs [d]) : ∃ v, vs = [v] ∧ Rp K A H v d := by
  cases r with
  | cons h t => cases t; exact ⟨_, rfl, h⟩
theorem rpa2 {K : PySem.W.Frag} {A : Addr → Prop} {H : Hp} {vs : List V} {d d' : PyData} (r : RpA K A H vs [d, d']) : ∃ v v', vs = [v, v'] ∧ Rp K A H v d ∧ Rp K A H v' d' := by
  cases r with
  | cons h t =>
    obtain ⟨v', rfl, h'⟩ := rpa1 t
    exact ⟨_, v', rfl, h, h'⟩
theorem o1_inv {o : PyData → Option PyData} {ds : List PyData} {d : PyData} (h : o1of o ds = some d) : ∃ x, ds = [x] ∧ o x = some d := by
  unfold o1of at h
  split at h
  · exact ⟨_, rfl, h⟩
  · cases h
theorem o2_inv {o : PyData → PyData → Option PyData} {ds : List PyData} {d : PyData} (h : o2of o ds = some d) : ∃ x y, ds = [x, y] ∧ o x y = some d := by
  unfold o2of at h
  split at h
  · exact ⟨_, _, rfl, h⟩
  · cases h
theorem n1_inv {o : PyData → Option (List PyData)} {ds : List PyData} {d : List PyData} (h : n1of o ds = some d) : ∃ x, ds = [x] ∧ o x = some d := by
  unfold n1of at h
  split at h
  · exact ⟨_, rfl, h⟩
  · cases h
theorem fs_len {K : PySem.W.Frag} : FnS K (fun xs H Q => (∃ p ys, xs = [.ref p] ∧ (SqL K H p ys ∨ SqT K H p ys) ∧ Q (.int ys.length) H) ∨ ∃ z, xs = [.str z] ∧ z.length ≤ sizeLine ∧ Q (.int z.length) H) (o1of dLen) := by
  intro c ρ σ H vs ds d Q R r ho q
  obtain ⟨x, rfl, h2⟩ := o1_inv ho
  obtain ⟨v, rfl, w1⟩ := rpa1 r
  unfold dLen at h2
  split at h2
  · cases h2
    cases w1 with
    | lst l a => exact .inl ⟨_, _, rfl, .inl l.sq, by rw [a.length]; exact os_same R q (.int _)⟩
  · cases h2
    cases w1 with
    | tup l a => exact .inl ⟨_, _, rfl, .inr l.sq, by rw [a.length]; exact os_same R q (.int _)⟩
  · cases h2
    cases w1 with
    | ro l a => exact .inl ⟨_, _, rfl, .inl l.sq, by rw [(a.rp (K := K) (A := Av c ρ σ) (H := H)).length]; exact os_same R q (.int _)⟩
  · split at h2
    · rename_i hl
      cases h2
      cases w1
      exact .inr ⟨_, rfl, by rw [sl16]; exact hl, os_same R q (.int _)⟩
    · cases h2
  · cases h2
theorem cl_len : CallR X (.builtin "len") (fun xs H Q => (∃ p ys, xs = [.ref p] ∧ (SqL X.K H p ys ∨ SqT X.K H p ys) ∧ Q (.int ys.length) H) ∨ ∃ z, xs = [.str z] ∧ z.length ≤ sizeLine ∧ Q (.int z.length) H) := call_len_seq.or call_len_str
theorem fs_abs {K : PySem.W.Frag} : FnS K (fun xs H Q => ∃ i, xs = [.int i] ∧ Q (.int (if i < 0 then -i else i)) H) (o1of dAbs) := by
  intro c ρ σ H vs ds d Q R r ho q
  obtain ⟨x, rfl, h2⟩ := o1_inv ho
  obtain ⟨v, rfl, w1⟩ := rpa1 r
  unfold dAbs at h2
  split at h2
  · cases h2
    cases w1
    exact ⟨_, rfl, os_same R q (.int _)⟩
  · cases h2
theorem fs_int {K : PySem.W.Frag} : FnS K (fun xs H Q => (∃ i, xs = [.int i] ∧ Q (.int i) H) ∨ ∃ k, xs = [.bl k] ∧ Q (.int (if k then 1 else 0)) H) (o1of dInt) := by
  intro c ρ σ H vs ds d Q R r ho q
  obtain ⟨x, rfl, h2⟩ := o1_inv ho
  obtain ⟨v, rfl, w1⟩ := rpa1 r
  unfold dInt at h2
  split at h2
  · cases h2
    cases w1
    exact .inl ⟨_, rfl, os_same R q (.int _)⟩
  · cases h2
theorem fs_max {K : PySem.W.Frag} : FnS K (fun xs H Q => ∃ i j, xs = [.int i, .int j] ∧ Q (.int (if j > i then j else i)) H) (o2of dMax) := by
  intro c ρ σ H vs ds d Q R r ho q
  obtain ⟨x, y, rfl, h2⟩ := o2_inv ho
  obtain ⟨v, v', rfl, w1, w2⟩ := rpa2 r
  unfold dMax dI2 cT at h2
  split at h2
  · cases h2
    cases w1
    cases w2
    exact ⟨_, _, rfl, os_same R q (.int _)⟩
  · cases h2
theorem fs_min {K : PySem.W.Frag} : FnS K (fun xs H Q => ∃ i j, xs = [.int i, .int j] ∧ Q (.int (if j < i then j else i)) H) (o2of dMin) := by
  intro c ρ σ H vs ds d Q R r ho q
  obtain ⟨x, y, rfl, h2⟩ := o2_inv ho
  obtain ⟨v, v', rfl, w1, w2⟩ := rpa2 r
  unfold dMin dI2 cT at h2
  split at h2
  · cases h2
    cases w1
    cases w2
    exact ⟨_, _, rfl, os_same R q (.int _)⟩
  · cases h2
theorem fs_tup {K : PySem.W.Frag} : FnS K (fun xs H Q => ∃ p ys, xs = [.ref p] ∧ ((SqL K H p ys ∧ ∀ l, H l = none → Q (.ref l) (upd H l (.tup ys))) ∨ (SqT K H p ys ∧ Q (.ref p) H))) (o1of dTupOf) := by
  intro c ρ σ H vs ds d Q R r ho q
  obtain ⟨x, rfl, h2⟩ := o1_inv ho
  obtain ⟨v, rfl, w1⟩ := rpa1 r
  unfold dTupOf at h2
  split at h2
  · cases h2
    cases w1 with
    | lst l a => exact ⟨_, _, rfl, .inl ⟨l.sq, fun p hp => q _ _ (R.alloc hp).1 (R.newTup hp a) (R.alloc hp).2⟩⟩
  · cases h2
    cases w1 with
    | tup l a => exact ⟨_, _, rfl, .inr ⟨l.sq, os_same R q (.tup l a)⟩⟩
  · cases h2
    cases w1 with
    | ro l a => exact ⟨_, _, rfl, .inl ⟨l.sq, fun p hp => q _ _ (R.alloc hp).1 (R.newTup hp a.rp) (R.alloc hp).2⟩⟩
  · cases h2
theorem fn_list {K : PySem.W.Frag} : FnN K (fun xs H Q => ∃ p ys, xs = [.ref p] ∧ (SqL K H p ys ∨ SqT K H p ys) ∧ ∀ l, H l = none → Q (.ref l) (upd H l (.lst ys))) (n1of dLstOf) := by
  intro c ρ σ H vs ds d Q R r ho q
  obtain ⟨x, rfl, h2⟩ := n1_inv ho
  obtain ⟨v, rfl, w1⟩ := rpa1 r
  unfold dLstOf at h2
  split at h2
  · cases h2
    cases w1 with
    | lst l a => exact ⟨_, _, rfl, .inl l.sq, fun p hp => q p _ hp a⟩
  · cases h2
    cases w1 with
    | tup l a => exact ⟨_, _, rfl, .inr l.sq, fun p hp => q p _ hp a⟩
  · cases h2
    cases w1 with
    | ro l a => exact ⟨_, _, rfl, .inl l.sq, fun p hp => q p _ hp a.rp⟩
  · cases h2
/-! isinstance -/
def tyName : PyData → String
  | .none => "NoneType"
  | .bool _ => "bool"
  | .int _ => "int"
  | .str _ => "str"
  | .list _ => "list"
  | .tuple _ => "tuple"
  | .dict _ => "?"
def isN (T n : String) : Bool := decide (n = T) || (decide (T = "int") && decide (n = "bool"))
def isTy (T : String) (d : PyData) : Bool := isN T (tyName d)
@[simp] def dIsi (T : String) : PyData → Option PyData := fun x => match x with
  | .dict _ => none
  | x => some (.bool (isTy T x))
theorem tyx_of {K : PySem.W.Frag} {A : Addr → Prop} {H : Hp} {v : V} {d : PyData} (r : Rp K A H v d) (h : ∀ kvs, d ≠ .dict kvs) : TyX K H v (.type (tyName d)) := by
  cases r with
  | non => exact .base .non
  | bl b => exact .base (.bl b)
  | int i => exact .base (.int i)
  | str x => exact .base (.str x)
  | lst l a => exact .base (.lst l.1)
  | tup l a =>
    rcases l with ⟨l | ⟨o, l⟩, _⟩ | ⟨o, its, n, hk, hc, _⟩
    · exact .base (.tup l)
    · exact .fTuple l
    · exact .kTuple hk hc
  | ro l a => exact absurd rfl (h _)
theorem kitB_all : ∀ n ∈ ["NoneType", "bool", "int", "str", "list", "tuple"], ∀ T ∈ ["int", "bool", "str", "list", "tuple"], kitB n T = some (isN T n) := by decide +kernel
theorem tyName_mem (d : PyData) (h : ∀ kvs, d ≠ .dict kvs) : tyName d ∈ ["NoneType", "bool", "int", "str", "list", "tuple"] := by
  cases d <;> first
    | exact absurd rfl (h _)
    | simp [tyName]
theorem kitB_ty {T : String} (hT : T ∈ ["int", "bool", "str", "list", "tuple"]) (d : PyData) (h : ∀ kvs, d ≠ .dict kvs) : kitB (tyName d) T = some (isTy T d) := kitB_all _ (tyName_mem d h) T hT
theorem ev_isi {T : String} (hT : T ∈ ["int", "bool", "str", "list", "tuple"]) (hg : Gl X "isinstance") (hm : X.mg "isinstance" = none) (ha : PE X a (tE X.K f)) (hb : PE X b (tC (.ty T)))
    (he : starEach [a, b] X.env = (false, eval a X.env) :: starEach [b] X.env := by rfl) (he2 : starEach [b] X.env = (false, eval b X.env) :: starEach [] X.env := by rfl) (hpl : (backTo pos (starEach [b] X.env)).any (·.1) = false := by rfl) :
    PE X (.Call (.Name "isinstance" p) [a, b] [] pos) (tE X.K (eUn (dIsi T) f)) :=
  pe_of (pe_callB call_isi hg hm (by rfl) (pa_cons ha (pa_cons hb pa_nil he2) he) (by decide) (by decide) he hpl) fun σ H Q ⟨c, ρ, d, ρ', R, e, q⟩ => by
    obtain ⟨x, h1, h3⟩ := un_inv' e
    refine ⟨c, ρ, x, ρ', R, h1, fun v1 H1 R1 r1 m1 => ?_⟩
    have nd : ∀ kvs, x ≠ .dict kvs := fun kvs z => by subst z; cases h3
    have hd : d = .bool (isTy T x) := by
      unfold dIsi at h3
      split at h3
      · cases h3
      · exact (Option.some.inj h3).symm
    subst hd
    exact ⟨v1, .ty T, _, _, isTy T x, rfl, .ty T, tyx_of r1 nd, kit_ty (kitB_ty hT x nd), q _ H1 R1 (.bl _) m1⟩
end
end PG
end
section
set_option Elab.async false
set_option linter.all false
set_option maxRecDepth 100000
namespace PG
open PySem PySem.Spec PyProof.Rows L2

/-! ### statements -/
def sPost (K : PySem.W.Frag) (c : Act) (ρ : Rho) (σ : L2.St) (H : Hp) (E : Ends) (ρ' : Rho) : Out → Prop
  | .next => ∀ σ' H', Rel K c ρ' σ' H' → Stp c ρ σ H ρ' σ' H' → E.nx σ' H'
  | .brk => ∀ σ' H', Rel K c ρ' σ' H' → Stp c ρ σ H ρ' σ' H' → E.bk σ' H'
  | .cont => ∀ σ' H', Rel K c ρ' σ' H' → Stp c ρ σ H ρ' σ' H' → E.ct σ' H'
  | .ret d => ∀ v σ' H', Rel K c ρ' σ' H' → Rp K c.A H' v d → E.rt v H'
  | .retL ds => ∀ a vs σ' H', Rel K c ρ' σ' H' → H' a = some (.lst vs) → RpA K (fun b => c.A b ∨ b = a) H' vs ds → c.H0 a = none → E.rt (.ref a) H'
def tS (K : PySem.W.Frag) (F : SF) : TS := fun E σ H => ∃ (c : Act) (ρ : Rho) (o : Out) (ρ' : Rho), Rel K c ρ σ H ∧ F ρ = some (o, ρ') ∧ sPost K c ρ σ H E ρ' o
def tG (K : PySem.W.Frag) (G : GF) (is : List Nat) : TG := fun v σ H Q => ∃ (c : Act) (ρ : Rho) (d : PyData) (ρ' : Rho), Rel K c ρ σ H ∧ Rp K (Av c ρ σ) H v d ∧ G d ρ = some ρ' ∧
  ∀ σ', Rel K c ρ' σ' H → Stp c ρ σ H ρ' σ' H → σ'.length = σ.length → (∀ j, j ∉ is → σ'[j]? = σ[j]?) → Q σ' H

section
variable {X : Cx} {e a b : Expr} {pos : Pos} {f g h : EF} {tf tg : TF} {n m : NF} {es : List Expr} {st : Stmt} {sts : List Stmt} {F G' : SF}
theorem sPost.pre {K : PySem.W.Frag} {c : Act} {ρ ρ1 ρ' : Rho} {σ σ1 : L2.St} {H H1 : Hp} {E : Ends} {o : Out} (m : Stp c ρ σ H ρ1 σ1 H1) (p : sPost K c ρ σ H E ρ' o) : sPost K c ρ1 σ1 H1 E ρ' o := by
  cases o with
  | next => exact fun σ' H' R' m' => p σ' H' R' (m.trans m')
  | brk => exact fun σ' H' R' m' => p σ' H' R' (m.trans m')
  | cont => exact fun σ' H' R' m' => p σ' H' R' (m.trans m')
  | ret d => exact p
  | retL ds => exact p
theorem es_nil : PSs X [] (tS X.K sNil) := pss_of pss_nil fun E σ H ⟨c, ρ, o, ρ', R, e, q⟩ => by
  cases e
  exact q σ H R Mv.refl
theorem es_cons (h1 : PS X st (tS X.K F)) (h2 : PSs X sts (tS X.K G')) : PSs X (st :: sts) (tS X.K (sSeq F G')) := pss_of (pss_cons h1 h2) fun E σ H ⟨c, ρ, o, ρ', R, e, q⟩ => by
  unfold sSeq at e
  split at e
  · rename_i ρ1 e1
    exact ⟨c, ρ, .next, ρ1, R, e1, fun σ1 H1 R1 m1 => ⟨c, ρ1, o, ρ', R1, e, q.pre m1⟩⟩
  · rename_i hn
    refine ⟨c, ρ, o, ρ', R, e, ?_⟩
    cases o with
    | next => exact absurd e (hn ρ')
    | brk => exact q
    | cont => exact q
    | ret d => exact q
    | retL ds => exact q
theorem es_one (h1 : PS X st (tS X.K F)) : PSs X [st] (tS X.K F) := pss_of (pss_one h1) fun E σ H q => q
theorem es_if {A B : List Stmt} (hc : PT X e (tT X.K tf)) (ha : PSs X A (tS X.K F)) (hb : PSs X B (tS X.K G')) : PS X (.If e A B pos) (tS X.K (sIf tf F G')) := ps_of (ps_if hc ha hb) fun E σ H ⟨c, ρ, o, ρ', R, e, q⟩ => by
  unfold sIf at e
  split at e
  · rename_i ρ1 h1
    exact ⟨c, ρ, true, ρ1, R, h1, fun H' R' m => iteT ⟨c, ρ1, o, ρ', R', e, q.pre m⟩⟩
  · rename_i ρ1 h1
    exact ⟨c, ρ, false, ρ1, R, h1, fun H' R' m => iteF ⟨c, ρ1, o, ρ', R', e, q.pre m⟩⟩
  · cases e
theorem av_sub {c : Act} {ρ : Rho} {σ : L2.St} {H : Hp} : Mv (Av c ρ σ) H c.A H := fun a o e n => ⟨e, fun z => n (.inl z)⟩
theorem es_ret (he : PE X e (tE X.K f)) : PS X (.Return (some e) pos) (tS X.K (sRet f)) := ps_of (ps_ret he) fun E σ H ⟨c, ρ, o, ρ', R, e, q⟩ => by
  unfold sRet at e
  split at e
  · rename_i d ρ1 h1
    obtain ⟨e1, e2⟩ := so e
    subst e1 e2
    exact ⟨c, ρ, d, ρ1, R, h1, fun v H' R' r' m => q v σ H' R' (r'.mv av_sub)⟩
  · cases e
theorem es_retN : PS X (.Return none pos) (tS X.K (sRet (eC .none))) := ps_of ps_retN fun E σ H ⟨c, ρ, o, ρ', R, e, q⟩ => by
  cases e
  exact q .non σ H R .non
theorem es_retL (he : PE X e (tN X.K n)) : PS X (.Return (some e) pos) (tS X.K (sRetL n)) := ps_of (ps_ret he) fun E σ H ⟨c, ρ, o, ρ', R, e, q⟩ => by
  unfold sRetL at e
  split at e
  · rename_i d ρ1 h1
    obtain ⟨e1, e2⟩ := so e
    subst e1 e2
    exact ⟨c, ρ, d, ρ1, R, h1, fun a vs H' R' ha r' na h0 nw m => q a vs σ H' (R'.unplus R.pA) ha (r'.mv av_sub) h0⟩
  · cases e
theorem es_retO {i : Nat} (hv : PE X e (tVar i)) : PS X (.Return (some e) pos) (tS X.K (sRetO i)) := ps_of (ps_ret hv) fun E σ H ⟨c, ρ, o, ρ', R, e, q⟩ => by
  unfold sRetO at e
  split at e
  · rename_i ds h1
    obtain ⟨e1, e2⟩ := so e
    subst e1 e2
    obtain ⟨a, vs, g1, g2, g3, g4⟩ := R.lst i false ds h1
    refine ⟨.ref a, g1, q a vs σ H R g2 (g3.mv fun b o e n => ⟨e, fun z => n ?_⟩) (g4 rfl).1⟩
    rcases z with z | z
    · exact .inl z
    · subst z; exact .inr ⟨i, false, ds, h1, g1⟩
  · cases e
theorem es_expr (he : PE X e (tE X.K f)) (hs : swapsWith e none pos.line X.env = pure false := by rfl) : PS X (.Expr e pos) (tS X.K (sExpr f)) := ps_of (ps_expr he hs) fun E σ H ⟨c, ρ, o, ρ', R, e, q⟩ => by
  unfold sExpr at e
  split at e
  · rename_i d ρ1 h1
    obtain ⟨e1, e2⟩ := so e
    subst e1 e2
    exact ⟨c, ρ, d, ρ1, R, h1, fun v H' R' r' m => q σ H' R' m⟩
  · cases e
theorem es_pass : PS X (.Pass pos) (tS X.K sNil) := ps_of ps_pass fun E σ H ⟨c, ρ, o, ρ', R, e, q⟩ => by
  cases e
  exact q σ H R Mv.refl
theorem es_brk : PS X (.Break pos) (tS X.K sBrk) := ps_of ps_break fun E σ H ⟨c, ρ, o, ρ', R, e, q⟩ => by
  cases e
  exact q σ H R Mv.refl
theorem es_cont : PS X (.Continue pos) (tS X.K sCont) := ps_of ps_continue fun E σ H ⟨c, ρ, o, ρ', R, e, q⟩ => by
  cases e
  exact q σ H R Mv.refl
theorem es_doc {x j} {pos'} : PS X (.Expr (.Constant (.str x) j pos) pos') (tS X.K sNil) := ps_of ps_doc fun E σ H ⟨c, ρ, o, ρ', R, e, q⟩ => by
  cases e
  exact q σ H R Mv.refl
/-! assignments -/
theorem es_set {i : Nat} {x : Str} {pos' : Pos} (hN : X.N.Nodup) (hi : X.N[i]? = some x) (hx : Loc X.env.scope x) (he : PE X e (tE X.K f)) (hs : swapsWith e (some (.Name x pos')) pos.line X.env = pure false := by rfl)
    (hf : X.fn x = true ∨ X.env.scope.names.lookup x = some .local := by first | exact .inl rfl | exact .inr rfl | assumption) : PS X (.Assign [.Name x pos'] e pos) (tS X.K (sSet i f)) :=
  ps_of (ps_set hN hi hx he hs hf) fun E σ H ⟨c, ρ, o, ρ', R, e, q⟩ => by
    unfold sSet at e
    split at e
    · rename_i d ρ1 h1
      split at e
      · rename_i ρ2 h2
        obtain ⟨e1, e2⟩ := so e
        subst e1 e2
        refine ⟨c, ρ, d, ρ1, R, h1, fun v H' R' r' m => ?_⟩
        obtain ⟨R2, m2⟩ := R'.assign h2 r'
        exact q _ H' R2 (m.trans m2)
      · cases e
    · cases e
theorem es_setL {i : Nat} {x : Str} {pos' : Pos} (hN : X.N.Nodup) (hi : X.N[i]? = some x) (hx : Loc X.env.scope x) (he : PE X e (tN X.K n)) (hs : swapsWith e (some (.Name x pos')) pos.line X.env = pure false := by rfl)
    (hf : X.fn x = true ∨ X.env.scope.names.lookup x = some .local := by first | exact .inl rfl | exact .inr rfl | assumption) : PS X (.Assign [.Name x pos'] e pos) (tS X.K (sSetL i n)) :=
  ps_of (ps_set hN hi hx he hs hf) fun E σ H ⟨c, ρ, o, ρ', R, e, q⟩ => by
    unfold sSetL at e
    split at e
    · rename_i d ρ1 h1
      split at e
      · rename_i ρ2 h2
        obtain ⟨e1, e2⟩ := so e
        subst e1 e2
        refine ⟨c, ρ, d, ρ1, R, h1, fun a vs H' R' ha r' na h0 nw m => ?_⟩
        obtain ⟨R2, m2⟩ := R'.assignL h2 ha r' h0 na R.pA
        refine q _ H' R2 fun b o eb nb => ?_
        obtain ⟨w1, w2⟩ := m b o eb nb
        have nba : b ≠ a := fun z => by subst z; rw [nw nb] at eb; cases eb
        exact m2 b o w1 fun z => z.elim (fun y => y.elim (fun y => w2 (.inl y)) nba) fun y => w2 (.inr y)
      · cases e
    · cases e
theorem es_asg {tgt : Expr} {G : GF} {is : List Nat} (he : PE X e (tE X.K f)) (hg : PG X tgt (tG X.K G is)) (hs : swapsWithSole [tgt] e pos.line X.env = pure false := by rfl) (hw : swappedStores [tgt] e X.env = pure none := by rfl)
    (h1 : (assignEach [tgt] X.env).map (·.2) = [assign tgt X.env] := by rfl) : PS X (.Assign [tgt] e pos) (tS X.K (sAsg f G)) :=
  ps_of (ps_asg he hg hs hw h1) fun E σ H ⟨c, ρ, o, ρ', R, e, q⟩ => by
    unfold sAsg at e
    split at e
    · rename_i d ρ1 h1
      split at e
      · rename_i ρ2 h2
        obtain ⟨e1, e2⟩ := so e
        subst e1 e2
        exact ⟨c, ρ, d, ρ1, R, h1, fun v H' R' r' m => ⟨c, ρ1, d, ρ2, R', r', h2, fun σ' R2 m2 _ _ => q σ' H' R2 (m.trans m2)⟩⟩
      · cases e
    · cases e
/-! targets -/
theorem pg_of {tgt : Expr} {t t' : TG} (h : PG X tgt t) (k : ∀ v σ H Q, t' v σ H Q → t v σ H Q) : PG X tgt t' := ⟨fun pins s σ H v u Q I r q => h.run pins s σ H v u Q I r (k v σ H Q q)⟩
theorem eg_name {i : Nat} {x : Str} (hN : X.N.Nodup) (hi : X.N[i]? = some x) (hx : Loc X.env.scope x) (hf : X.fn x = true ∨ X.env.scope.names.lookup x = some .local := by first | exact .inl rfl | exact .inr rfl | assumption) : PG X (.Name x pos) (tG X.K (gSet i) [i]) :=
  pg_of (pg_name hN hi hx hf) fun v σ H Q ⟨c, ρ, d, ρ', R, r, e, q⟩ => by
    obtain ⟨R2, m2⟩ := R.assign e r
    refine q _ R2 m2 (List.length_set ..) fun j hj => ?_
    rw [List.getElem?_set_ne (fun z => hj (by simp [z]))]
def gsPairs (is : List Nat) : TGs := match is with
  | [] => gNil
  | i :: r => gCons (gName i) (gsPairs r)
theorem rd_pairs {K : PySem.W.Frag} {c : Act} {H : Hp} : ∀ (is : List Nat) (vs : List V) (ds : List PyData) (ρ ρ' : Rho) (σ : L2.St) (Q : L2.St → Hp → Prop), Rel K c ρ σ H → RpA K (Av c ρ σ) H vs ds → gPairs is ds ρ = some ρ' →
    (∀ σ', Rel K c ρ' σ' H → Stp c ρ σ H ρ' σ' H → σ'.length = σ.length → (∀ j, j ∉ is → σ'[j]? = σ[j]?) → Q σ' H) → gsPairs is vs σ H Q
  | [], vs, [], ρ, ρ', σ, Q, R, r, e, q => by
    cases r
    cases e
    exact ⟨rfl, q σ R Mv.refl rfl fun _ _ => rfl⟩
  | [], vs, _ :: _, ρ, ρ', σ, Q, R, r, e, q => by cases e
  | _ :: _, vs, [], ρ, ρ', σ, Q, R, r, e, q => by cases e
  | i :: is, _, d :: ds, ρ, ρ', σ, Q, R, r, e, q => by
    cases r with
    | @cons v vs _ _ h1 h2 =>
      unfold gPairs at e
      split at e
      · rename_i ρ1 e1
        obtain ⟨R2, m2⟩ := R.assign e1 h1
        refine ⟨v, vs, rfl, rd_pairs is vs ds ρ1 ρ' _ Q R2 (h2.mv m2) e fun σ' R' m' l' k' => ?_⟩
        refine q σ' R' (m2.trans m') (by rw [l', List.length_set]) fun j hj => ?_
        rw [k' j (fun z => hj (List.mem_cons_of_mem _ z)), List.getElem?_set_ne (fun z => hj (by simp [z]))]
      · cases e
theorem gpairs_len : ∀ (is : List Nat) (ds : List PyData) (ρ ρ' : Rho), gPairs is ds ρ = some ρ' → ds.length = is.length
  | [], [], _, _, _ => rfl
  | [], _ :: _, _, _, e => by cases e
  | _ :: _, [], _, _, e => by cases e
  | i :: is, d :: ds, ρ, ρ', e => by
    unfold gPairs at e
    split at e
    · rename_i ρ1 e1
      rw [List.length_cons, List.length_cons, gpairs_len is ds ρ1 ρ' e]
    · cases e
theorem eg_tup {k : Nat} {is : List Nat} (hc : X.calm = true) (h : PGs X es (gsPairs is)) (hn : (assignEach es X.env).length = is.length := by rfl) (hst : (assignEach es X.env).findIdx? (·.1) = none := by rfl) : PG X (.Tuple es k pos) (tG X.K (gTupS is) is) :=
  pg_of (pg_tup hc h hn hst) fun v σ H Q ⟨c, ρ, d, ρ', R, r, e, q⟩ => by
    unfold gTupS at e
    split at e
    · rename_i ds
      cases r with
      | @tup p xs _ l al =>
        exact ⟨p, xs, rfl, l.sq, by rw [al.length, gpairs_len _ _ _ _ e], rd_pairs is xs ds ρ ρ' σ Q R al e q⟩
    · cases e
/-! owned lists -/
theorem es_app {i : Nat} {apos cpos : Pos} (hv : PE X a (tVar i)) (he : PE X e (tE X.K f)) (hbase : attributeBase a "append" X.env (eval a X.env) = eval a X.env := by rfl)
    (hfew : ((backTo cpos (starEach [e] X.env)).all (fun x => !x.1) && (backToKw cpos (keywordEach [] X.env)).all (fun x => x.1.isSome)
      && decide ([e].length + ([] : List Keyword).length + (if ([] : List Keyword).isEmpty then 0 else 1) < 30)) = true := by rfl)
    (hline : (apos.endLine == cpos.line) = true := by rfl) (hs : starEach [e] X.env = (false, eval e X.env) :: starEach [] X.env := by rfl) (hplain : (backTo cpos (starEach [] X.env)).any (·.1) = false := by rfl)
    (hsw : swapsWith (.Call (.Attribute a "append" apos) [e] [] cpos) none pos.line X.env = pure false := by rfl) :
    PS X (.Expr (.Call (.Attribute a "append" apos) [e] [] cpos) pos) (tS X.K (sApp i f)) :=
  ps_of (ps_expr (pe_bm PySem.F.plainAttrs_list PySem.F.slot_list_append PySem.F.type_list_append mt_append hv (pa_cons he pa_nil hs) hbase hfew hline hs hplain) hsw) fun E σ H ⟨c, ρ, o, ρ', R, e, q⟩ => by
    unfold sApp at e
    split at e
    · rename_i p0 l0 h0
      split at e
      · rename_i d ρ1 h1
        split at e
        · rename_i p ds h2
          split at e
          · rename_i hl
            obtain ⟨e1, e2⟩ := so e
            subst e1 e2
            obtain ⟨a, us0, g1, g2, _⟩ := R.lst i p0 l0 h0
            refine ⟨.ref a, g1, .inl ⟨rfl, us0, .inl (.inl g2)⟩, c, ρ, d, ρ1, R, h1, fun v H1 R1 r1 m1 => ?_⟩
            obtain ⟨a', us, g1', g2', g3, _⟩ := R1.lst i p ds h2
            rw [g1] at g1'
            cases g1'
            refine ⟨a, us, v, rfl, rfl, g2', by rw [g3.length, sl16]; exact hl, ?_⟩
            have own : Av c ρ1 σ a := .inr ⟨i, p, ds, h2, g1⟩
            have mw : Mv (Av c ρ1 σ) H1 (Av c ρ1 σ) (upd H1 a (.lst (us ++ [v]))) := fun b o e n => ⟨by rw [upd_ne (fun z => n (by subst z; exact own))]; exact e, n⟩
            obtain ⟨R2, m2⟩ := R1.write (ds' := ds ++ [d]) h2 g1 upd_same (fun b o nb eb => by rw [upd_ne nb]; exact eb) ((g3.app (.cons r1 .nil)).mv mw)
            exact q σ _ R2 (m1.trans m2)
          · cases e
        · cases e
      · cases e
    · cases e
theorem es_sto {i : Nat} {tpos : Pos} (hv : PE X a (tVar i)) (hi : PE X b (tE X.K g)) (he : PE X e (tE X.K f))
    (ha : ∀ v, assign (.Subscript a b tpos) X.env v = (do
      let ov ← holding [v] (eval a X.env)
      let iv ← holding [v, ov] (eval b X.env)
      standAt tpos
      holding [v, ov, iv] (setItem ov iv v)
      release [v, ov, iv] []) := by intro _; rfl) (hs : swapsWithSole [.Subscript a b tpos] e pos.line X.env = pure false := by rfl) (hw : swappedStores [.Subscript a b tpos] e X.env = pure none := by rfl)
    (h1 : (assignEach [.Subscript a b tpos] X.env).map (·.2) = [assign (.Subscript a b tpos) X.env] := by rfl) : PS X (.Assign [.Subscript a b tpos] e pos) (tS X.K (sSto i g f)) :=
  ps_of (ps_asg he (pg_sub hv hi set_list ha) hs hw h1) fun E σ H ⟨c, ρ, o, ρ', R, e, q⟩ => by
    unfold sSto at e
    split at e
    · rename_i d ρ1 h1
      split at e
      · rename_i p0 l0 h0
        split at e
        · rename_i k ρ2 h2
          split at e
          · rename_i p ds h3
            split at e
            · rename_i j hj
              obtain ⟨e1, e2⟩ := so e
              subst e1 e2
              refine ⟨c, ρ, d, ρ1, R, h1, fun v H1 R1 r1 m1 => ?_⟩
              obtain ⟨a, us0, g1, g2, _⟩ := R1.lst i p0 l0 h0
              refine ⟨.ref a, g1, c, ρ1, .int k, ρ2, R1, h2, fun vk H2 R2 rk m2 => ?_⟩
              cases rk
              obtain ⟨a', us, g1', g2', g3, _⟩ := R2.lst i p ds h3
              rw [g1] at g1'
              cases g1'
              refine ⟨a, us, k, j, rfl, rfl, g2', by rw [g3.length]; exact hj, ?_⟩
              have own : Av c ρ2 σ a := .inr ⟨i, p, ds, h3, g1⟩
              have mw : Mv (Av c ρ2 σ) H2 (Av c ρ2 σ) (upd H2 a (.lst (us.set j v))) := fun b o e n => ⟨by rw [upd_ne (fun z => n (by subst z; exact own))]; exact e, n⟩
              obtain ⟨R3, m3⟩ := R2.write (ds' := ds.set j d) h3 g1 upd_same (fun b o nb eb => by rw [upd_ne nb]; exact eb) ((g3.set j (r1.mv m2)).mv mw)
              exact q σ _ R3 ((m1.trans m2).trans m3)
            · cases e
          · cases e
        · cases e
      · cases e
    · cases e
/-- reading an owned list -/
theorem ev_ixL {r : R2} {o : PyData → PyData → Option PyData} {i : Nat} (hr : IxR X r) (s : OpS X.K r o) (hv : PE X a (tVar i)) (hb : PE X b (tE X.K g)) (hs : PlainIx b)
    (so2 : ∀ ds y z, o (.list ds) y = some z → ∃ k, y = .int k ∧ atD ds k = some z) (hr2 : ∀ x y H Q, rIxL X.K x y H Q → r x y H Q) : PE X (.Subscript a b pos) (tE X.K (eIxL o i g)) :=
  pe_of (pe_ix hr hv hb hs) fun σ H Q ⟨c, ρ, d, ρ', R, e, q⟩ => by
    unfold eIxL at e
    split at e
    · rename_i p0 l0 h0
      split at e
      · rename_i y ρ1 h1
        split at e
        · rename_i p ds h2
          split at e
          · rename_i z h3
            obtain ⟨e1, e2⟩ := so e
            subst e1 e2
            obtain ⟨a, us0, g1, g2, _⟩ := R.lst i p0 l0 h0
            refine ⟨.ref a, g1, c, ρ, y, ρ1, R, h1, fun v H1 R1 r1 m1 => ?_⟩
            obtain ⟨a', us, g1', g2', g3, _⟩ := R1.lst i p ds h2
            rw [g1] at g1'
            cases g1'
            obtain ⟨k, rfl, hk⟩ := so2 ds y z h3
            cases r1
            obtain ⟨v, w1, w2⟩ := ix_at g3 hk
            exact hr2 _ _ _ _ ⟨a, us, k, v, rfl, rfl, .inl (.inl g2'), w1, q v H1 R1 w2 m1⟩
          · cases e
        · cases e
      · cases e
    · cases e
theorem ev_ixO {i : Nat} (hv : PE X a (tVar i)) (hb : PE X b (tE X.K g)) (hs : PlainIx b) : PE X (.Subscript a b pos) (tE X.K (eIxL dIx i g)) :=
  ev_ixL ix_seq os_ix hv hb hs (fun ds y z h => by
    unfold dIx at h
    split at h <;> first
      | (rename_i hh; cases hh; exact ⟨_, rfl, h⟩)
      | (rename_i hh _; cases hh; exact ⟨_, rfl, h⟩)
      | (rename_i hh; cases hh; done)
      | cases h) fun x y H Q h => .inl h

/-! ### loops -/
def JOk (K : PySem.W.Frag) (c : Act) (ρ1 : Rho) (σ1 : L2.St) (H1 : Hp) (J : It) (ds : List PyData) : Prop := ∀ (c' : Act) (ρi : Rho) (σi : L2.St) (Hi : Hp), Mv (Av c ρ1 σ1) H1 (Av c' ρi σi) Hi →
  (∀ (i : Nat) (d : PyData), ds[i]? = some d → J.go i Hi ∧ ∀ x H', J.yld i Hi x H' → H' = Hi ∧ Rp K (Av c' ρi σi) Hi x d) ∧ J.stop ds.length Hi
def tI (K : PySem.W.Frag) (f : NF) : TI := fun σ H R => ∃ (c : Act) (ρ : Rho) (ds : List PyData) (ρ' : Rho), Rel K c ρ σ H ∧ f ρ = some (ds, ρ') ∧
  ∀ J H1, Rel K c ρ' σ H1 → Stp c ρ σ H ρ' σ H1 → JOk K c ρ' σ H1 J ds → R J H1
theorem pi_of {tgt : Expr} {t t' : TI} (h : PI X tgt e t) (k : ∀ σ H R, t' σ H R → t σ H R) : PI X tgt e t' := ⟨fun pins s σ H R I q => h.run pins s σ H R I (k σ H R q)⟩
theorem jok_list {K : PySem.W.Frag} {c : Act} {ρ : Rho} {σ : L2.St} {H : Hp} {p : Addr} {xs : List V} {ds : List PyData} (l : WAt K (Av c ρ σ) H p xs) (r : RpA K (Av c ρ σ) H xs ds) : JOk K c ρ σ H (Itl K p) ds := fun c' ρi σi Hi m => by
  have l2 := (l.move m).sq
  have r2 := r.mv m
  refine ⟨fun i d hd => ?_, ⟨xs, l2, by rw [r2.length]; exact Nat.le_refl _⟩⟩
  obtain ⟨v, h1, h2⟩ := r2.get hd
  exact ⟨⟨xs, v, l2, h1⟩, fun x H' y => ⟨y.1, by
    have := y.2 xs l2
    rw [h1] at this
    cases this
    exact h2⟩⟩
theorem jok_tup {K : PySem.W.Frag} {c : Act} {ρ : Rho} {σ : L2.St} {H : Hp} {p : Addr} {xs : List V} {ds : List PyData} (l : TAt K (Av c ρ σ) H p xs) (r : RpA K (Av c ρ σ) H xs ds) : JOk K c ρ σ H (Itt K p) ds := fun c' ρi σi Hi m => by
  have l2 := (l.move m).sq
  have r2 := r.mv m
  refine ⟨fun i d hd => ?_, ⟨xs, l2, by rw [r2.length]; exact Nat.le_refl _⟩⟩
  obtain ⟨v, h1, h2⟩ := r2.get hd
  exact ⟨⟨xs, v, l2, h1⟩, fun x H' y => ⟨y.1, by
    have := y.2 xs l2
    rw [h1] at this
    cases this
    exact h2⟩⟩
def itL (f : EF) : NF := fun ρ => match f ρ with
  | some (.list xs, ρ1) => some (xs, ρ1)
  | some (.dict [(.list xs, .none)], ρ1) => some (xs, ρ1)
  | _ => none
def itT (f : EF) : NF := fun ρ => match f ρ with
  | some (.tuple xs, ρ1) => some (xs, ρ1)
  | _ => none
theorem ei_list {tgt : Expr} (he : PE X e (tE X.K f)) : PI X tgt e (tI X.K (itL f)) := pi_of (pi_list he) fun σ H R ⟨c, ρ, ds, ρ', R0, e, q⟩ => by
  unfold itL at e
  split at e
  · rename_i xs ρ1 h1
    obtain ⟨e1, e2⟩ := so e
    subst e1 e2
    refine ⟨c, ρ, _, ρ1, R0, h1, fun v H1 R1 r1 m1 => ?_⟩
    cases r1 with
    | lst l a => exact ⟨_, rfl, ⟨_, l.sq⟩, q _ H1 R1 m1 (jok_list (.inl ⟨.inl l.1, l.2⟩) a)⟩
  · rename_i xs ρ1 h1
    obtain ⟨e1, e2⟩ := so e
    subst e1 e2
    refine ⟨c, ρ, _, ρ1, R0, h1, fun v H1 R1 r1 m1 => ?_⟩
    cases r1 with
    | ro l a => exact ⟨_, rfl, ⟨_, l.sq⟩, q _ H1 R1 m1 (jok_list l a.rp)⟩
  · cases e
theorem ei_tup {tgt : Expr} (he : PE X e (tE X.K f)) : PI X tgt e (tI X.K (itT f)) := pi_of (pi_tup he) fun σ H R ⟨c, ρ, ds, ρ', R0, e, q⟩ => by
  unfold itT at e
  split at e
  · rename_i xs ρ1 h1
    obtain ⟨e1, e2⟩ := so e
    subst e1 e2
    refine ⟨c, ρ, _, ρ1, R0, h1, fun v H1 R1 r1 m1 => ?_⟩
    cases r1 with
    | tup l a => exact ⟨_, rfl, ⟨_, l.sq⟩, q _ H1 R1 m1 (jok_tup l a)⟩
  · cases e
/-- range -/
def rng (lo : Int) (n : Nat) : List PyData := (List.range n).map fun k => .int (lo + (k : Nat))
theorem jok_rng {K : PySem.W.Frag} {c : Act} {ρ : Rho} {σ : L2.St} {H : Hp} (lo : Int) (n : Nat) : JOk K c ρ σ H (Itr lo n) (rng lo n) := fun c' ρi σi Hi m => by
  refine ⟨fun i d hd => ?_, ?_⟩
  · unfold rng at hd
    rw [List.getElem?_map] at hd
    rcases Nat.lt_or_ge i n with h | h
    · rw [List.getElem?_range h] at hd
      cases hd
      exact ⟨h, fun x H' y => ⟨y.1, by rw [y.2]; exact .int _⟩⟩
    · rw [List.getElem?_eq_none (by simpa using h)] at hd
      cases hd
  · show n ≤ (rng lo n).length
    unfold rng
    rw [List.length_map, List.length_range]
    exact Nat.le_refl _
def in62 (i : Int) : Bool := decide (-4611686018427387904 ≤ i) && decide (i < 4611686018427387904)
def itR1 (f : NF) : NF := fun ρ => match f ρ with
  | some ([.int j], ρ1) => if in62 j then some (rng 0 j.toNat, ρ1) else none
  | _ => none
def itR2 (f : NF) : NF := fun ρ => match f ρ with
  | some ([.int i, .int j], ρ1) => if in62 i && in62 j then some (rng i (j - i).toNat, ρ1) else none
  | _ => none
theorem in62_iff {i : Int} (h : in62 i = true) : -(2 ^ 62) ≤ i ∧ i < 2 ^ 62 := by
  simp only [in62, Bool.and_eq_true, decide_eq_true_eq] at h
  exact ⟨by omega, by omega⟩
theorem ei_rng1 {tgt : Expr} {p : Pos} (hg : Gl X "range") (hm : X.mg "range" = none) (ha : PA X [a] (tA X.K n)) (hs : starEach [a] X.env = [(false, eval a X.env)] := by rfl) : PI X tgt (.Call (.Name "range" p) [a] [] pos) (tI X.K (itR1 n)) :=
  pi_of (pi_range1 hg hm ha hs) fun σ H R ⟨c, ρ, ds, ρ', R0, e, q⟩ => by
    unfold itR1 at e
    split at e
    · rename_i j ρ1 h1
      split at e
      · rename_i hj
        obtain ⟨e1, e2⟩ := so e
        subst e1 e2
        refine ⟨c, ρ, _, ρ1, R0, h1, fun vs H1 R1 r1 m1 => ?_⟩
        obtain ⟨v, rfl, r2⟩ := rpa1 r1
        cases r2
        obtain ⟨w1, w2⟩ := in62_iff hj
        exact ⟨j, rfl, w1, w2, q _ H1 R1 m1 (jok_rng 0 _)⟩
      · cases e
    · cases e
theorem ei_rng2 {tgt : Expr} {p : Pos} (hg : Gl X "range") (hm : X.mg "range" = none) (ha : PA X [a, b] (tA X.K n)) (hs : starEach [a, b] X.env = [(false, eval a X.env), (false, eval b X.env)] := by rfl) (hs2 : starEach [b] X.env = [(false, eval b X.env)] := by rfl) :
    PI X tgt (.Call (.Name "range" p) [a, b] [] pos) (tI X.K (itR2 n)) :=
  pi_of (pi_range2 hg hm ha hs hs2) fun σ H R ⟨c, ρ, ds, ρ', R0, e, q⟩ => by
    unfold itR2 at e
    split at e
    · rename_i i j ρ1 h1
      split at e
      · rename_i hj
        obtain ⟨e1, e2⟩ := so e
        subst e1 e2
        simp only [Bool.and_eq_true] at hj
        refine ⟨c, ρ, _, ρ1, R0, h1, fun vs H1 R1 r1 m1 => ?_⟩
        obtain ⟨v, v', rfl, w1, w2⟩ := rpa2 r1
        cases w1
        cases w2
        obtain ⟨a1, a2⟩ := in62_iff hj.1
        obtain ⟨b1, b2⟩ := in62_iff hj.2
        exact ⟨i, j, rfl, ⟨a1, a2, b1, b2⟩, q _ H1 R1 m1 (jok_rng i _)⟩
      · cases e
    · cases e
theorem drop_cons {α : Type} {l : List α} {i : Nat} {d : α} {r : List α} (h : l.drop i = d :: r) : l[i]? = some d ∧ l.drop (i + 1) = r := by
  constructor
  · have := List.getElem?_drop (xs := l) (i := i) (j := 0)
    rw [h] at this
    simpa using this.symm
  · have := List.drop_drop (i := 1) (j := i) (l := l)
    rw [h] at this
    simpa [Nat.add_comm] using this.symm
theorem es_for {tgt iter : Expr} {body : List Stmt} {it : NF} {G : GF} {is : List Nat} (hp : PassesOwn (model X.prog X.w) X.A X.env X.xe) (hc : X.calm = true) (hi : PI X tgt iter (tI X.K it)) (hg : PG X tgt (tG X.K G is)) (hb : PSs X body (tS X.K F)) (hs : ∀ x, foldedSetIterable iter X.env x = pure x := by intro _; rfl) :
    PS X (.For tgt iter body [] pos) (tS X.K (sFor it G F)) := ps_of (ps_for hp hc hi hg hb hs) fun E σ H ⟨c, ρ, o, ρ', R, e, q⟩ => by
  unfold sFor at e
  split at e
  · rename_i ds ρ1 h1
    refine ⟨c, ρ, ds, ρ1, R, h1, fun J H1 R1 m1 jo => ?_⟩
    refine ⟨fun i m σi Hi => m = ds.length - i ∧ i ≤ ds.length ∧ ∃ ρi, Rel X.K c ρi σi Hi ∧ Stp c ρ1 σ H1 ρi σi Hi ∧ forL G F (ds.drop i) ρi = some (o, ρ'), ⟨ds.length, by simp, Nat.zero_le _, ρ1, R1, Mv.refl, e⟩, ?_⟩
    rintro i m σi Hi ⟨rfl, hi, ρi, Ri, mi, ei⟩
    obtain ⟨jg, js⟩ := jo c ρi σi Hi mi
    cases hd : ds.drop i with
    | nil =>
      rw [hd] at ei
      unfold forL at ei
      obtain ⟨e1, e2⟩ := so ei
      subst e1 e2
      have : i = ds.length := by
        have := congrArg List.length hd
        rw [List.length_drop, List.length_nil] at this
        omega
      subst this
      exact .inl ⟨js, q σi Hi Ri (m1.trans mi)⟩
    | cons d r =>
      obtain ⟨g1, g2⟩ := drop_cons hd
      rw [hd] at ei
      obtain ⟨k1, k2⟩ := jg i d g1
      have hlt := lt_of_get g1
      unfold forL at ei
      split at ei
      · cases ei
      · rename_i ρa ea
        refine .inr ⟨k1, fun σ' H' => ds.length - (i + 1) = ds.length - (i + 1) ∧ i + 1 ≤ ds.length ∧ ∃ ρi, Rel X.K c ρi σ' H' ∧ Stp c ρ1 σ H1 ρi σ' H' ∧ forL G F (ds.drop (i + 1)) ρi = some (o, ρ'), fun σ' H' z => ⟨ds.length - (i + 1), by omega, z⟩, fun x H' y => ?_⟩
        obtain ⟨rfl, rx⟩ := k2 x H' y
        refine ⟨c, ρi, d, ρa, Ri, rx, ea, fun σ2 Ra ma _ _ => ?_⟩
        rw [g2]
        have mm := mi.trans ma
        split at ei
        · rename_i ρb eb
          exact ⟨c, ρa, .next, ρb, Ra, eb, fun σ3 H3 R3 m3 => ⟨rfl, hlt, ρb, R3, mm.trans m3, ei⟩⟩
        · rename_i ρb eb
          exact ⟨c, ρa, .cont, ρb, Ra, eb, fun σ3 H3 R3 m3 => ⟨rfl, hlt, ρb, R3, mm.trans m3, ei⟩⟩
        · rename_i ρb eb
          obtain ⟨e1, e2⟩ := so ei
          subst e1 e2
          exact ⟨c, ρa, .brk, ρb, Ra, eb, fun σ3 H3 R3 m3 => q σ3 H3 R3 ((m1.trans mm).trans m3)⟩
        · rename_i hn1 hn2 hn3
          refine ⟨c, ρa, o, ρ', Ra, ei, ?_⟩
          cases o with
          | next => exact absurd ei (hn1 ρ')
          | brk => exact absurd ei (hn3 ρ')
          | cont => exact absurd ei (hn2 ρ')
          | ret d => exact q
          | retL d => exact q
  · cases e
theorem es_while {body : List Stmt} {mu : Rho → Nat} (hp : PassesOwn (model X.prog X.w) X.A X.env X.xe) (hc : PT X e (tT X.K tf)) (hb : PSs X body (tS X.K F)) : PS X (.While e body [] pos) (tS X.K (sWhile mu tf F)) :=
  ps_of (ps_while hp hc hb) fun E σ H ⟨c, ρ, o, ρ', R, e, q⟩ => by
    refine ⟨fun m σi Hi => ∃ ρi, Rel X.K c ρi σi Hi ∧ Stp c ρ σ H ρi σi Hi ∧ whl tf F m ρi = some (o, ρ'), ⟨mu ρ, ρ, R, Mv.refl, e⟩, ?_⟩
    rintro m σi Hi ⟨ρi, Ri, mi, ei⟩
    cases m with
    | zero => cases ei
    | succ m =>
      unfold whl at ei
      split at ei
      · rename_i ρa ea
        refine ⟨c, ρi, true, ρa, Ri, ea, fun H1 R1 m1 => iteT ?_⟩
        refine ⟨fun σ' H' => ∃ ρi, Rel X.K c ρi σ' H' ∧ Stp c ρ σ H ρi σ' H' ∧ whl tf F m ρi = some (o, ρ'), fun σ' H' z => ⟨m, Nat.lt_succ_self m, z⟩, ?_⟩
        have mm := mi.trans m1
        split at ei
        · rename_i ρb eb
          exact ⟨c, ρa, .next, ρb, R1, eb, fun σ3 H3 R3 m3 => ⟨ρb, R3, mm.trans m3, ei⟩⟩
        · rename_i ρb eb
          exact ⟨c, ρa, .cont, ρb, R1, eb, fun σ3 H3 R3 m3 => ⟨ρb, R3, mm.trans m3, ei⟩⟩
        · rename_i ρb eb
          obtain ⟨e1, e2⟩ := so ei
          subst e1 e2
          exact ⟨c, ρa, .brk, ρb, R1, eb, fun σ3 H3 R3 m3 => q σ3 H3 R3 (mm.trans m3)⟩
        · rename_i hn1 hn2 hn3
          refine ⟨c, ρa, o, ρ', R1, ei, ?_⟩
          cases o with
          | next => exact absurd ei (hn1 ρ')
          | brk => exact absurd ei (hn3 ρ')
          | cont => exact absurd ei (hn2 ρ')
          | ret d => exact q
          | retL d => exact q
      · rename_i ρa ea
        obtain ⟨e1, e2⟩ := so ei
        subst e1 e2
        exact ⟨c, ρi, false, ρa, Ri, ea, fun H1 R1 m1 => iteF (q σi H1 R1 (mi.trans m1))⟩
      · cases ei
end
end PG
end
section
set_option Elab.async false
set_option linter.all false
set_option maxRecDepth 100000
namespace PG
open PySem PySem.Spec PyProof.Rows L2

/-! ### slots forgotten and given back -/
section
variable {K : PySem.W.Frag} {c : Act} {ρ ρ' : Rho} {σ σ' : L2.St} {H H' : Hp}
theorem Rel.clear (R : Rel K c ρ σ H) {v : Nat} (hp : ρ[v]? = some none ∨ ∃ d, ρ[v]? = some (some (Cell.v d))) : Rel K c (ρ.set v none) (σ.set v none) H ∧ Stp c ρ σ H (ρ.set v none) (σ.set v none) H := by
  have hl : v < ρ.length := by
    rcases hp with h | ⟨d, h⟩ <;> exact lt_of_get h
  have nl : ∀ p ds, ρ[v]? ≠ some (some (Cell.l p ds)) := fun p ds z => by
    rcases hp with h | ⟨d, h⟩ <;> (rw [h] at z; cases z)
  have hl' : v < σ.length := by rw [← R.len]; exact hl
  have gs : ∀ j, (ρ.set v none)[j]? = if v = j then some none else ρ[j]? := fun j => get_set hl
  have gv : ∀ j, (σ.set v none)[j]? = if v = j then some none else σ[j]? := fun j => get_set hl'
  have own : ∀ b, Own (ρ.set v none) (σ.set v none) b → Own ρ σ b := fun b ⟨j, q, es, h1, h2⟩ => by
    rw [gs] at h1
    rw [gv] at h2
    by_cases e : v = j
    · rw [if_pos e] at h1; cases h1
    · rw [if_neg e] at h1 h2; exact ⟨j, q, es, h1, h2⟩
  have mv : Stp c ρ σ H (ρ.set v none) (σ.set v none) H := fun b o e n => ⟨e, fun z => n (z.elim .inl fun x => .inr (own b x))⟩
  refine ⟨⟨by rw [List.length_set, List.length_set]; exact R.len, fun j d' e => ?_, fun j q es e => ?_, fun j k q q' es es' b h1 h2 h3 h4 => ?_, fun j b => ?_, R.pA, R.old, R.av⟩, mv⟩
  · rw [gs] at e
    rw [gv]
    by_cases e1 : v = j
    · rw [if_pos e1] at e; cases e
    · rw [if_neg e1] at e
      obtain ⟨u, h1, h2⟩ := R.val j d' e
      exact ⟨u, by rw [if_neg e1]; exact h1, h2.mv mv⟩
  · rw [gs] at e
    rw [gv]
    by_cases e1 : v = j
    · rw [if_pos e1] at e; cases e
    · rw [if_neg e1] at e
      obtain ⟨b, vs, h1, h2, h3, h4⟩ := R.lst j q es e
      exact ⟨b, vs, by rw [if_neg e1]; exact h1, h2, h3.mv mv, h4⟩
  · rw [gs] at h1 h2
    rw [gv] at h3 h4
    by_cases e1 : v = j
    · rw [if_pos e1] at h1; cases h1
    · by_cases e2 : v = k
      · rw [if_pos e2] at h2; cases h2
      · rw [if_neg e1] at h1 h3
        rw [if_neg e2] at h2 h4
        exact R.dis j k q q' es es' b h1 h2 h3 h4
  · rw [R.pin, gs, gv]
    by_cases e : v = j
    · subst e
      rw [if_pos rfl, if_pos rfl]
      constructor
      · rintro ⟨es, h1, h2⟩; exact absurd h1 (nl true es)
      · rintro ⟨es, h1, h2⟩; cases h1
    · rw [if_neg e, if_neg e]
theorem wipeR_len (ρ : Rho) : ∀ vs : List Nat, (wipeR ρ vs).length = ρ.length
  | [] => rfl
  | v :: vs => by unfold wipeR; rw [List.length_set, wipeR_len ρ vs]
theorem wipeR_get (ρ : Rho) : ∀ (vs : List Nat) (j : Nat), (wipeR ρ vs)[j]? = if j ∈ vs ∧ j < ρ.length then some none else ρ[j]?
  | [], j => by simp [wipeR]
  | v :: vs, j => by
    unfold wipeR
    rw [List.getElem?_set, wipeR_len, wipeR_get ρ vs j]
    by_cases e : v = j
    · subst e
      by_cases h : v < ρ.length
      · simp [h]
      · simp [h]
    · simp [e, Ne.symm e]
theorem wipe_get (σ : L2.St) : ∀ (vs : List Nat) (j : Nat), (wipe σ vs)[j]? = if j ∈ vs ∧ j < σ.length then some none else σ[j]?
  | [], j => by simp [wipe]
  | v :: vs, j => by
    unfold wipe
    rw [List.getElem?_set, wipe_length, wipe_get σ vs j]
    by_cases e : v = j
    · subst e
      by_cases h : v < σ.length
      · simp [h]
      · simp [h]
    · simp [e, Ne.symm e]
theorem plain_iff {vs : List Nat} : plainAt ρ vs = true ↔ ∀ v ∈ vs, ρ[v]? = some none ∨ ∃ d, ρ[v]? = some (some (Cell.v d)) := by
  unfold plainAt
  rw [List.all_eq_true]
  refine ⟨fun h v hv => ?_, fun h v hv => ?_⟩
  · have := h v hv
    split at this
    · exact .inl (by assumption)
    · rename_i d hd; exact .inr ⟨d, hd⟩
    · cases this
  · rcases h v hv with e | ⟨d, e⟩ <;> simp [e]
theorem Rel.wipe (R : Rel K c ρ σ H) : ∀ {vs : List Nat}, plainAt ρ vs = true → Rel K c (wipeR ρ vs) (L2.wipe σ vs) H ∧ Stp c ρ σ H (wipeR ρ vs) (L2.wipe σ vs) H
  | [], _ => ⟨R, Mv.refl⟩
  | v :: vs, h => by
    have hv := plain_iff.mp h
    obtain ⟨R1, m1⟩ := Rel.wipe R (vs := vs) (plain_iff.mpr fun u hu => hv u (List.mem_cons_of_mem _ hu))
    have hp : (wipeR ρ vs)[v]? = some none ∨ ∃ d, (wipeR ρ vs)[v]? = some (some (Cell.v d)) := by
      rw [wipeR_get]
      by_cases e : v ∈ vs ∧ v < ρ.length
      · rw [if_pos e]; exact .inl rfl
      · rw [if_neg e]; exact hv v List.mem_cons_self
    obtain ⟨R2, m2⟩ := R1.clear hp
    exact ⟨R2, m1.trans m2⟩
theorem plain_wipe {vs : List Nat} (h : plainAt ρ vs = true) : plainAt (wipeR ρ vs) vs = true := plain_iff.mpr fun v hv => by
  rw [wipeR_get, if_pos ⟨hv, by rcases plain_iff.mp h v hv with e | ⟨d, e⟩ <;> exact lt_of_get e⟩]
  exact .inl rfl
theorem restR_len (ρ0 ρ : Rho) : ∀ vs : List Nat, (restR ρ0 ρ vs).length = ρ.length
  | [] => rfl
  | v :: vs => by unfold restR; rw [List.length_set, restR_len ρ0 ρ vs]
theorem restR_get (ρ0 ρ : Rho) : ∀ (vs : List Nat) (j : Nat), (restR ρ0 ρ vs)[j]? = if j ∈ vs ∧ j < ρ.length then some (ρ0[j]?.getD none) else ρ[j]?
  | [], j => by simp [restR]
  | v :: vs, j => by
    unfold restR
    rw [List.getElem?_set, restR_len, restR_get ρ0 ρ vs j]
    by_cases e : v = j
    · subst e
      by_cases h : v < ρ.length
      · simp [h]
      · simp [h]
    · simp [e, Ne.symm e]
theorem Rel.rest {c' : Act} {ρ1 ρ2 : Rho} {H1 Hi : Hp} {vs : List Nat} (R1 : Rel K c ρ1 σ H1) (R2 : Rel K c' ρ2 (L2.wipe σ vs) Hi) (m : Mv (Av c ρ1 σ) H1 (Av c' ρ2 (L2.wipe σ vs)) Hi) (h1 : plainAt ρ1 vs = true) (h2 : plainAt ρ2 vs = true) :
    Rel K c' (restR ρ1 ρ2 vs) σ Hi ∧ (∀ b, Own (restR ρ1 ρ2 vs) σ b ↔ Own ρ2 (L2.wipe σ vs) b) := by
  have l1 := R1.len
  have l2 : ρ2.length = σ.length := by rw [R2.len, wipe_length]
  have p1 := plain_iff.mp h1
  have p2 := plain_iff.mp h2
  have inlen : ∀ j ∈ vs, j < ρ2.length := fun j hj => by rcases p2 j hj with e | ⟨d, e⟩ <;> exact lt_of_get e
  have gin : ∀ j, j ∈ vs → (restR ρ1 ρ2 vs)[j]? = ρ1[j]? := fun j hj => by
    rw [restR_get, if_pos ⟨hj, inlen j hj⟩]
    rcases p1 j hj with e | ⟨d, e⟩ <;> rw [e] <;> rfl
  have gout : ∀ j, j ∉ vs → (restR ρ1 ρ2 vs)[j]? = ρ2[j]? := fun j hj => by rw [restR_get, if_neg fun z => hj z.1]
  have sout : ∀ j, j ∉ vs → (L2.wipe σ vs)[j]? = σ[j]? := fun j hj => by rw [wipe_get, if_neg fun z => hj z.1]
  have nl1 : ∀ j ∈ vs, ∀ p ds, ρ1[j]? ≠ some (some (Cell.l p ds)) := fun j hj p ds z => by
    rcases p1 j hj with h | ⟨d, h⟩ <;> (rw [h] at z; cases z)
  have nl2 : ∀ j ∈ vs, ∀ p ds, ρ2[j]? ≠ some (some (Cell.l p ds)) := fun j hj p ds z => by
    rcases p2 j hj with h | ⟨d, h⟩ <;> (rw [h] at z; cases z)
  have own : ∀ b, Own (restR ρ1 ρ2 vs) σ b ↔ Own ρ2 (L2.wipe σ vs) b := fun b => by
    constructor
    · rintro ⟨j, q, es, g1, g2⟩
      by_cases hj : j ∈ vs
      · rw [gin j hj] at g1; exact absurd g1 (nl1 j hj q es)
      · exact ⟨j, q, es, by rw [← gout j hj]; exact g1, by rw [sout j hj]; exact g2⟩
    · rintro ⟨j, q, es, g1, g2⟩
      by_cases hj : j ∈ vs
      · exact absurd g1 (nl2 j hj q es)
      · exact ⟨j, q, es, by rw [gout j hj]; exact g1, by rw [← sout j hj]; exact g2⟩
  have mv : Mv (Av c' ρ2 (L2.wipe σ vs)) Hi (Av c' (restR ρ1 ρ2 vs) σ) Hi := fun a o e n => ⟨e, fun z => n (z.elim .inl fun y => .inr ((own a).mp y))⟩
  refine ⟨⟨by rw [restR_len]; exact l2, fun j d e => ?_, fun j q es e => ?_, fun j k q q' es es' b g1 g2 g3 g4 => ?_, fun j b => ?_, R2.pA, R2.old, R2.av⟩, own⟩
  · by_cases hj : j ∈ vs
    · rw [gin j hj] at e
      obtain ⟨v, w1, w2⟩ := R1.val j d e
      exact ⟨v, w1, (w2.mv m).mv mv⟩
    · rw [gout j hj] at e
      obtain ⟨v, w1, w2⟩ := R2.val j d e
      exact ⟨v, by rw [← sout j hj]; exact w1, w2.mv mv⟩
  · by_cases hj : j ∈ vs
    · rw [gin j hj] at e; exact absurd e (nl1 j hj q es)
    · rw [gout j hj] at e
      obtain ⟨b, us, w1, w2, w3, w4⟩ := R2.lst j q es e
      exact ⟨b, us, by rw [← sout j hj]; exact w1, w2, w3.mv mv, w4⟩
  · by_cases hj : j ∈ vs
    · rw [gin j hj] at g1; exact absurd g1 (nl1 j hj _ _)
    · by_cases hk : k ∈ vs
      · rw [gin k hk] at g2; exact absurd g2 (nl1 k hk _ _)
      · rw [gout j hj] at g1
        rw [gout k hk] at g2
        exact R2.dis j k q q' es es' b g1 g2 (by rw [sout j hj]; exact g3) (by rw [sout k hk]; exact g4)
  · rw [R2.pin]
    by_cases hj : j ∈ vs
    · constructor
      · rintro ⟨es, g1, _⟩; exact absurd g1 (nl2 j hj _ _)
      · rintro ⟨es, g1, _⟩; rw [gin j hj] at g1; exact absurd g1 (nl1 j hj _ _)
    · rw [gout j hj, sout j hj]
/-- a list kept apart is written -/
theorem Rel.scratch (R : Rel K c ρ σ H) {p : Addr} {o : HO} (hA : c.A p) (hn : ∀ i, c.pn i ≠ some p) (h0 : c.H0 p = none) : Rel K c ρ σ (upd H p o) ∧ Stp c ρ σ H ρ σ (upd H p o) := by
  have mv : Stp c ρ σ H ρ σ (upd H p o) := fun b x e n => ⟨by rw [upd_ne fun z => n (by subst z; exact .inl hA)]; exact e, n⟩
  refine ⟨⟨R.len, fun j d e => ?_, fun j q es e => ?_, R.dis, R.pin, R.pA, fun b x e n => ?_, fun b hb => ?_⟩, mv⟩
  · obtain ⟨v, w1, w2⟩ := R.val j d e
    exact ⟨v, w1, w2.mv mv⟩
  · obtain ⟨b, us, w1, w2, w3, w4⟩ := R.lst j q es e
    have nb : b ≠ p := fun z => by
      subst z
      cases q with
      | false => exact (w4 rfl).2 hA
      | true => exact hn j ((R.pin j b).mpr ⟨es, e, w1⟩)
    exact ⟨b, us, w1, by rw [upd_ne nb]; exact w2, w3.mv mv, w4⟩
  · have nb : b ≠ p := fun z => by subst z; rw [h0] at e; cases e
    rw [upd_ne nb]
    exact R.old b x e n
  · by_cases z : b = p
    · subst z; rw [upd_same]; exact fun z => nomatch z
    · rw [upd_ne z]; exact R.av b hb
def Act.mem (c : Act) (p : Addr) (o : HO) : Act := { c with H0 := upd c.H0 p o }
theorem Rel.memo (R : Rel K c ρ σ H) {p : Addr} {o : HO} (hA : c.A p) (h : H p = some o) : Rel K (c.mem p o) ρ σ H :=
  ⟨R.len, R.val, fun j q es e => by
    obtain ⟨b, us, w1, w2, w3, w4⟩ := R.lst j q es e
    refine ⟨b, us, w1, w2, w3, fun z => ⟨?_, (w4 z).2⟩⟩
    show upd c.H0 p o b = none
    rw [upd_ne fun y => (w4 z).2 (by subst y; exact hA)]
    exact (w4 z).1, R.dis, R.pin, R.pA, fun b x e n => by
    by_cases z : b = p
    · subst z
      have e' : upd c.H0 b o b = some x := e
      rw [upd_same] at e'
      cases e'
      exact h
    · exact R.old b x (by
        have e' : upd c.H0 p o b = some x := e
        rw [upd_ne z] at e'
        exact e') n, R.av⟩
theorem Rel.unmemo {p : Addr} {o : HO} (R : Rel K (c.mem p o) ρ σ H) (h0 : c.H0 p = none) (hn : ∀ i, c.pn i ≠ some p) : Rel K c ρ σ H ∧ H p = some o := by
  refine ⟨⟨R.len, R.val, fun j q es e => ?_, R.dis, R.pin, R.pA, fun b x e n => ?_, R.av⟩, R.old p o upd_same hn⟩
  · obtain ⟨b, us, w1, w2, w3, w4⟩ := R.lst j q es e
    refine ⟨b, us, w1, w2, w3, fun z => ⟨?_, (w4 z).2⟩⟩
    have e1 : upd c.H0 p o b = none := (w4 z).1
    by_cases y : b = p
    · subst y; exact h0
    · rw [upd_ne y] at e1; exact e1
  · refine R.old b x ?_ n
    show upd c.H0 p o b = some x
    rw [upd_ne fun z => by subst z; rw [h0] at e; cases e]
    exact e
end
section
variable {X : Cx} {e a b : Expr} {pos : Pos} {f g h : EF} {tf tg : TF} {n m : NF} {es : List Expr}
theorem ptst_nil : PTs X [] (tT X.K tYesF) := ⟨fun pins s σ H Q I q => pts_nil.run pins s σ H Q I (by
  obtain ⟨c, ρ, b, ρ', R, e, q⟩ := q
  cases e
  exact q H R Mv.refl)⟩
theorem ptst_one (h : PT X a (tT X.K tf)) : PTs X [a] (tT X.K tf) := pts_one h
/-- a comprehension's reading -/
theorem rd_comp {K : PySem.W.Frag} {it : NF} {G : GF} {is vs : List Nat} (his : ∀ j ∈ is, j ∈ vs) : ∀ σ H Q, tN K (nComp it G tf f vs) σ H Q → tLc (tI K it) (tG K G is) (tT K tf) (tE K f) vs σ H Q := fun σ H Q ⟨c, ρ, ds, ρ', R, e, q⟩ => by
  unfold nComp at e
  split at e
  · rename_i ds0 ρ1 h1
    split at e
    · rename_i hp
      split at e
      · rename_i out ρ2 h2
        obtain ⟨e1, e2⟩ := so e
        subst e1 e2
        refine ⟨c, ρ, ds0, ρ1, R, h1, fun J H1 R1 m1 jo => fun Dd hD => ?_⟩
        have hn : ∀ i, c.pn i ≠ some Dd := fun i z => R1.av Dd (R1.pA i Dd z) hD
        have h0 : c.H0 Dd = none := R1.fresh0 hD
        obtain ⟨Rw, mw⟩ := R1.wipe hp
        have Rw' : Rel K (c.plus Dd) (wipeR ρ1 vs) (wipe σ vs) (upd H1 Dd (.lst [])) := Rw.plus hD (kp_upd hD) (by rw [upd_same]; exact fun z => nomatch z)
        have mw' : Mv (Av c ρ1 σ) H1 (Av (c.plus Dd) (wipeR ρ1 vs) (wipe σ vs)) (upd H1 Dd (.lst [])) := mw.trans (Rw.mvP hD (kp_upd hD))
        refine ⟨fun i m Hi => m = ds0.length - i ∧ i ≤ ds0.length ∧ ∃ ρi acc us, plainAt ρi vs = true ∧ Rel K (c.plus Dd) ρi (wipe σ vs) Hi ∧ Hi Dd = some (.lst us) ∧ RpA K (Av (c.plus Dd) ρi (wipe σ vs)) Hi us acc ∧
          Mv (Av c ρ1 σ) H1 (Av (c.plus Dd) ρi (wipe σ vs)) Hi ∧ compL G tf f vs (ds0.drop i) acc ρi = some (out, ρ2),
          ⟨ds0.length, by simp, Nat.zero_le _, wipeR ρ1 vs, [], [], plain_wipe hp, Rw', upd_same, .nil, mw', h2⟩, ?_⟩
        rintro i m Hi ⟨rfl, hi, ρi, acc, us, hpi, Ri, hDi, ri, mi, ei⟩
        obtain ⟨jg, js⟩ := jo _ _ _ Hi mi
        cases hd : ds0.drop i with
        | nil =>
          rw [hd] at ei
          unfold compL at ei
          obtain ⟨e1, e2⟩ := so ei
          subst e1 e2
          have : i = ds0.length := by
            have := congrArg List.length hd
            rw [List.length_drop, List.length_nil] at this
            omega
          subst this
          obtain ⟨Rr, own⟩ := R1.rest Ri mi hp hpi
          have mo : Mv (Av (c.plus Dd) ρi (wipe σ vs)) Hi (Av (c.plus Dd) (restR ρ1 ρi vs) σ) Hi := fun b o eb nb => ⟨eb, fun z => nb (z.elim .inl fun y => .inr ((own b).mp y))⟩
          have mt : Mv (Av c ρ1 σ) H1 (Av c (restR ρ1 ρi vs) σ) Hi := (mi.trans mo).trans mv_unplus
          refine .inl ⟨js, q Dd us Hi Rr hDi (ri.mv mo) (fun z => ?_) h0 (avOf (K := K) m1 hD) (m1.trans mt)⟩
          rcases z with z | z
          · exact R1.av Dd z hD
          · obtain ⟨j, p, es, w1, w2⟩ := (own Dd).mp z
            obtain ⟨b, us', g1, g2, g3, g4⟩ := Ri.lst j p es w1
            rw [w2] at g1
            cases g1
            cases p with
            | false => exact (g4 rfl).2 (.inr rfl)
            | true => exact hn j ((Ri.pin j Dd).mpr ⟨es, w1, w2⟩)
        | cons d r =>
          obtain ⟨g1, g2⟩ := drop_cons hd
          rw [hd] at ei
          obtain ⟨k1, k2⟩ := jg i d g1
          have hlt := lt_of_get g1
          unfold compL at ei
          split at ei
          · cases ei
          · rename_i ρa ea
            refine .inr ⟨k1, fun H' => ds0.length - (i + 1) = ds0.length - (i + 1) ∧ i + 1 ≤ ds0.length ∧ ∃ ρi acc us, plainAt ρi vs = true ∧ Rel K (c.plus Dd) ρi (wipe σ vs) H' ∧ H' Dd = some (.lst us) ∧ RpA K (Av (c.plus Dd) ρi (wipe σ vs)) H' us acc ∧
              Mv (Av c ρ1 σ) H1 (Av (c.plus Dd) ρi (wipe σ vs)) H' ∧ compL G tf f vs (ds0.drop (i + 1)) acc ρi = some (out, ρ2), fun H' z => ⟨ds0.length - (i + 1), by omega, z⟩, fun x H' y => ?_⟩
            obtain ⟨rfl, rx⟩ := k2 x H' y
            refine ⟨c.plus Dd, ρi, d, ρa, Ri, rx, ea, fun σ2 Ra ma hl hk => ?_⟩
            have hw : wipe σ2 vs = wipe σ vs := by
              apply List.ext_getElem?
              intro j
              rw [wipe_get, wipe_get]
              rw [hl, wipe_length]
              by_cases hj : j ∈ vs
              · by_cases hj2 : j < σ.length
                · rw [if_pos ⟨hj, hj2⟩, if_pos ⟨hj, hj2⟩]
                · rw [if_neg fun z => hj2 z.2, if_neg fun z => hj2 z.2, List.getElem?_eq_none (by rw [hl, wipe_length]; omega), List.getElem?_eq_none (by omega)]
              · rw [if_neg fun z => hj z.1, if_neg fun z => hj z.1, hk j fun z => hj (his j z), wipe_get, if_neg fun z => hj z.1]
            refine ⟨hw, ?_⟩
            have hA : (c.plus Dd).A Dd := .inr rfl
            have Ra' := Ra.memo hA hDi
            split at ei
            · cases ei
            · rename_i ρb eb
              split at ei
              · rename_i hpb
                refine ⟨_, ρa, false, ρb, Ra', eb, fun H3 R3 m3 => iteF ?_⟩
                obtain ⟨R3', hD3⟩ := R3.unmemo h0 hn
                obtain ⟨R4, m4⟩ := R3'.wipe hpb
                rw [hw] at R4 m4
                have mm := ma.trans (Mv.trans m3 m4)
                exact ⟨rfl, hlt, wipeR ρb vs, acc, us, plain_wipe hpb, R4, hD3, ri.mv mm, mi.trans mm, by rw [g2]; exact ei⟩
              · cases ei
            · rename_i ρb eb
              split at ei
              · cases ei
              · rename_i y ρc ec
                split at ei
                · rename_i hpc
                  simp only [Bool.and_eq_true, decide_eq_true_eq] at hpc
                  refine ⟨_, ρa, true, ρb, Ra', eb, fun H3 R3 m3 => iteT ?_⟩
                  refine ⟨_, ρb, y, ρc, R3, ec, fun v H4 R4 r4 m4 => ?_⟩
                  obtain ⟨R4', hD4⟩ := R4.unmemo h0 hn
                  obtain ⟨R5, m5⟩ := R4'.wipe hpc.1
                  rw [hw] at R5 m5
                  obtain ⟨R6, m6⟩ := R5.scratch (o := .lst (us ++ [v])) hA hn h0
                  have mm := ma.trans (Mv.trans m3 (Mv.trans m4 (Mv.trans m5 m6)))
                  refine ⟨us, hD4, by rw [ri.length, sl16]; exact hpc.2, rfl, hlt, wipeR ρc vs, acc ++ [y], us ++ [v], plain_wipe hpc.1, R6, upd_same, (ri.mv mm).app (.cons (r4.mv (Mv.trans m5 m6)) .nil), mi.trans mm, by rw [g2]; exact ei⟩
                · cases ei
      · cases e
    · cases e
  · cases e
theorem en_comp {elt tgt iter : Expr} {ifs : List Expr} {scope : Scope} {own : List (Str × Nat)} {it : NF} {G : GF} {is : List Nat} (hc : X.calm = true) (hN : X.N.Nodup) (hi : PI X tgt iter (tI X.K it)) (ok : BlkOk X.N X.env.scope scope own)
    (hg : ∀ (s : Shared) (H : Hp) (C : Addr) (cl : List (Str × Addr)) (fp : List Addr), PG (X.blk s H scope (compEnvC scope cl C X.env) fp) tgt (tG X.K G is)) (ht : ∀ (s : Shared) (H : Hp) (C : Addr) (cl : List (Str × Addr)) (fp : List Addr), PTs (X.blk s H scope (compEnvC scope cl C X.env) fp) ifs (tT X.K tf))
    (he : ∀ (s : Shared) (H : Hp) (C : Addr) (cl : List (Str × Addr)) (fp : List Addr), PE (X.blk s H scope (compEnvC scope cl C X.env) fp) elt (tE X.K f)) (his : ∀ j ∈ is, j ∈ own.map (·.2) := by decide) (hs : ∀ x, foldedSetIterable iter X.env x = pure x := by intro _; rfl) :
    PE X (.ListComp elt [⟨tgt, iter, ifs, 0⟩] scope pos) (tN X.K (nComp it G tf f (own.map (·.2)))) := pe_of (pe_lc hc hN hi ok hg ht he hs) (rd_comp his)
end
end PG
end
section
set_option Elab.async false
set_option linter.all false
set_option maxRecDepth 100000
namespace PG
open PySem PySem.Spec PyProof.Rows L2
section
variable {X : Cx} {e a b : Expr} {pos : Pos} {f g h : EF} {tf tg : TF} {n m : NF} {es : List Expr} {F G' : SF}
theorem rd_setV {K : PySem.W.Frag} {i : Nat} {t : TE} (k : ∀ σ H Q, tE K f σ H Q → t σ H Q) : ∀ E σ H, tS K (sSet i f) E σ H → tAsg t (gName i) E σ H := fun E σ H ⟨c, ρ, o, ρ', R, e, q⟩ => by
    unfold sSet at e
    split at e
    · rename_i d ρ1 h1
      split at e
      · rename_i ρ2 h2
        obtain ⟨e1, e2⟩ := so e
        subst e1 e2
        refine k _ _ _ ⟨c, ρ, d, ρ1, R, h1, fun v H' R' r' m => ?_⟩
        obtain ⟨R2, m2⟩ := R'.assign h2 r'
        exact q _ H' R2 (m.trans m2)
      · cases e
    · cases e
theorem rd_setL {K : PySem.W.Frag} {i : Nat} {t : TE} (k : ∀ σ H Q, tN K n σ H Q → t σ H Q) : ∀ E σ H, tS K (sSetL i n) E σ H → tAsg t (gName i) E σ H := fun E σ H ⟨c, ρ, o, ρ', R, e, q⟩ => by
    unfold sSetL at e
    split at e
    · rename_i d ρ1 h1
      split at e
      · rename_i ρ2 h2
        obtain ⟨e1, e2⟩ := so e
        subst e1 e2
        refine k _ _ _ ⟨c, ρ, d, ρ1, R, h1, fun a vs H' R' ha r' na h0 nw m => ?_⟩
        obtain ⟨R2, m2⟩ := R'.assignL h2 ha r' h0 na R.pA
        refine q _ H' R2 fun b o eb nb => ?_
        obtain ⟨w1, w2⟩ := m b o eb nb
        have nba : b ≠ a := fun z => by subst z; rw [nw nb] at eb; cases eb
        exact m2 b o w1 fun z => z.elim (fun y => y.elim (fun y => w2 (.inl y)) nba) fun y => w2 (.inr y)
      · cases e
    · cases e
theorem rd_newE {K : PySem.W.Frag} {t : TE} (k : ∀ σ H Q, tN K n σ H Q → t σ H Q) : ∀ σ H Q, tE K (eLst n) σ H Q → t σ H Q := fun σ H Q ⟨c, ρ, d, ρ', R, e, q⟩ => by
  unfold eLst at e
  split at e
  · rename_i xs ρ1 h1
    obtain ⟨e1, e2⟩ := so e
    subst e1 e2
    refine k _ _ _ ⟨c, ρ, xs, ρ1, R, h1, fun a vs H' R' ha r' na h0 nw m => ?_⟩
    have R2 := R'.unplus R.pA
    exact q _ _ R2 (.lst ⟨ha, na⟩ (r'.mv mv_unplus)) m
  · cases e
section
variable {i : Nat} {y : Str} {py : Pos} {elt tgt iter : Expr} {ifs : List Expr} {scope : Scope} {own : List (Str × Nat)} {spos : Pos} {it : NF} {G : GF} {is : List Nat}
theorem es_setLcV (hc : X.calm = true) (hN : X.N.Nodup) (hy : X.N[i]? = some y) (hyl : X.env.scope.names.lookup y = some .local)
    (hsw : swapsWith (.ListComp elt [⟨tgt, iter, ifs, 0⟩] scope pos) (some (.Name y py)) spos.line X.env = pure true) (hi : PI X tgt iter (tI X.K it)) (ok : BlkOk X.N X.env.scope scope own)
    (hg : ∀ (s : Shared) (H : Hp) (C : Addr) (cl : List (Str × Addr)) (fp : List Addr), PG (X.blk s H scope (compEnvC scope cl C X.env) fp) tgt (tG X.K G is)) (ht : ∀ (s : Shared) (H : Hp) (C : Addr) (cl : List (Str × Addr)) (fp : List Addr), PTs (X.blk s H scope (compEnvC scope cl C X.env) fp) ifs (tT X.K tf))
    (he : ∀ (s : Shared) (H : Hp) (C : Addr) (cl : List (Str × Addr)) (fp : List Addr), PE (X.blk s H scope (compEnvC scope cl C X.env) fp) elt (tE X.K f)) (his : ∀ j ∈ is, j ∈ own.map (·.2) := by decide) (hs : ∀ x, foldedSetIterable iter X.env x = pure x := by intro _; rfl) :
    PS X (.Assign [.Name y py] (.ListComp elt [⟨tgt, iter, ifs, 0⟩] scope pos) spos) (tS X.K (sSet i (eLst (nComp it G tf f (own.map (·.2)))))) :=
  ps_of (ps_setLc hc hN hy hyl hsw hi ok hg ht he hs) (rd_setV (rd_newE (rd_comp his)))
theorem es_setLcL (hc : X.calm = true) (hN : X.N.Nodup) (hy : X.N[i]? = some y) (hyl : X.env.scope.names.lookup y = some .local)
    (hsw : swapsWith (.ListComp elt [⟨tgt, iter, ifs, 0⟩] scope pos) (some (.Name y py)) spos.line X.env = pure true) (hi : PI X tgt iter (tI X.K it)) (ok : BlkOk X.N X.env.scope scope own)
    (hg : ∀ (s : Shared) (H : Hp) (C : Addr) (cl : List (Str × Addr)) (fp : List Addr), PG (X.blk s H scope (compEnvC scope cl C X.env) fp) tgt (tG X.K G is)) (ht : ∀ (s : Shared) (H : Hp) (C : Addr) (cl : List (Str × Addr)) (fp : List Addr), PTs (X.blk s H scope (compEnvC scope cl C X.env) fp) ifs (tT X.K tf))
    (he : ∀ (s : Shared) (H : Hp) (C : Addr) (cl : List (Str × Addr)) (fp : List Addr), PE (X.blk s H scope (compEnvC scope cl C X.env) fp) elt (tE X.K f)) (his : ∀ j ∈ is, j ∈ own.map (·.2) := by decide) (hs : ∀ x, foldedSetIterable iter X.env x = pure x := by intro _; rfl) :
    PS X (.Assign [.Name y py] (.ListComp elt [⟨tgt, iter, ifs, 0⟩] scope pos) spos) (tS X.K (sSetL i (nComp it G tf f (own.map (·.2))))) :=
  ps_of (ps_setLc hc hN hy hyl hsw hi ok hg ht he hs) (rd_setL (rd_comp his))
end

/-! ### defs -/
@[simp] def rho0 (ds : List PyData) (m : Nat) : Rho := ds.map (fun d => some (Cell.v d)) ++ List.replicate m none
@[simp] def rhoL (ps ds : List PyData) (m : Nat) : Rho := some (Cell.l true ps) :: (ds.map (fun d => some (Cell.v d)) ++ List.replicate m none)
@[simp] def endP : Option (Out × Rho) → Option PyData
  | some (.ret d, _) => some d
  | some (.retL ds, _) => some (.list ds)
  | some (.next, _) => some .none
  | _ => none
@[simp] def endN : Option (Out × Rho) → Option (List PyData)
  | some (.retL ds, _) => some ds
  | _ => none
@[simp] def pool0 (ρ : Rho) : Option (List PyData) := match ρ with
  | some (.l true ps) :: _ => some ps
  | _ => none
@[simp] def endL : Option (Out × Rho) → Option (PyData × List PyData)
  | some (.ret d, ρ) => (match pool0 ρ with
    | some ps => some (d, ps)
    | none => none)
  | some (.retL ds, ρ) => (match pool0 ρ with
    | some ps => some (.list ds, ps)
    | none => none)
  | some (.next, ρ) => (match pool0 ρ with
    | some ps => some (.none, ps)
    | none => none)
  | _ => none
def defP (b : SF) (k m : Nat) : List PyData → Option PyData := fun ds => if ds.length = k then endP (b (rho0 ds m)) else none
def defN (b : SF) (k m : Nat) : List PyData → Option (List PyData) := fun ds => if ds.length = k then endN (b (rho0 ds m)) else none
def defL (b : SF) (k m : Nat) : List PyData → List PyData → Option (PyData × List PyData) := fun ps ds => if ds.length = k then endL (b (rhoL ps ds m)) else none
theorem rho0_get {ds : List PyData} {m i : Nat} {cl : Cell} (h : (rho0 ds m)[i]? = some (some cl)) : ∃ d, ds[i]? = some d ∧ cl = .v d := by
  unfold rho0 at h
  rw [List.getElem?_append] at h
  split at h
  · rw [List.getElem?_map] at h
    cases e : ds[i]? with
    | none => rw [e] at h; cases h
    | some d => rw [e] at h; cases h; exact ⟨d, rfl, rfl⟩
  · rw [List.getElem?_replicate] at h
    split at h <;> cases h
theorem start_get {N : List Str} {vs : List V} {i : Nat} {v : V} (h : vs[i]? = some v) : (L2.start N vs)[i]? = some (some v) := by
  unfold L2.start
  rw [List.getElem?_append_left (by rw [List.length_map]; exact lt_of_get h), List.getElem?_map, h]
  rfl
theorem rel_start {K : PySem.W.Frag} {A : Addr → Prop} {H : Hp} {N : List Str} {vs : List V} {ds : List PyData} {m : Nat} (r : RpA K A H vs ds) (hA : ∀ a, A a → H a ≠ none) (hN : vs.length + m = N.length) :
    Rel K ⟨A, H, fun _ => none⟩ (rho0 ds m) (L2.start N vs) H := by
  have nown : ∀ b, ¬ Own (rho0 ds m) (L2.start N vs) b := fun b ⟨i, p, es, h1, _⟩ => by
    obtain ⟨d, _, z⟩ := rho0_get h1
    cases z
  refine ⟨?_, fun i d h => ?_, fun i p es h => ?_, fun i j p q es es' b h1 => ?_, fun i b => ?_, (fun i b h => nomatch h), fun b o h _ => h, hA⟩
  · unfold rho0 L2.start
    rw [List.length_append, List.length_append, List.length_map, List.length_map, List.length_replicate, List.length_replicate, r.length]
    rw [r.length] at hN
    omega
  · obtain ⟨d', h1, h2⟩ := rho0_get h
    cases h2
    obtain ⟨v, h3, h4⟩ := r.get h1
    exact ⟨v, start_get h3, h4.mv fun b o e n => ⟨e, fun z => z.elim n (nown b)⟩⟩
  · obtain ⟨d', h1, h2⟩ := rho0_get h
    cases h2
  · obtain ⟨d', _, h2⟩ := rho0_get h1
    cases h2
  · constructor
    · intro h; cases h
    · rintro ⟨es, h1, _⟩
      obtain ⟨d', _, h2⟩ := rho0_get h1
      cases h2
theorem rhoL_get {ps ds : List PyData} {m i : Nat} {cl : Cell} (h : (rhoL ps ds m)[i]? = some (some cl)) : (i = 0 ∧ cl = .l true ps) ∨ ∃ j d, i = j + 1 ∧ ds[j]? = some d ∧ cl = .v d := by
  cases i with
  | zero =>
    unfold rhoL at h
    simp at h
    exact .inl ⟨rfl, h.symm⟩
  | succ j =>
    have h' : (rho0 ds m)[j]? = some (some cl) := by
      unfold rhoL at h
      simpa [rho0] using h
    obtain ⟨d, h1, h2⟩ := rho0_get h'
    exact .inr ⟨j, d, rfl, h1, h2⟩
theorem rel_startL {K : PySem.W.Frag} {A : Addr → Prop} {H : Hp} {N : List Str} {a : Addr} {us ws : List V} {ps ds : List PyData} {m : Nat} (ha : H a = some (.lst us)) (rp : RpA K A H us ps) (hAa : A a) (r : RpA K A H ws ds) (hA : ∀ a, A a → H a ≠ none) (hN : ws.length + 1 + m = N.length) :
    Rel K ⟨A, H, fun i => if i = 0 then some a else none⟩ (rhoL ps ds m) (L2.start N (.ref a :: ws)) H := by
  have g0 : (L2.start N (.ref a :: ws))[0]? = some (some (V.ref a)) := start_get rfl
  have own : ∀ b, Own (rhoL ps ds m) (L2.start N (.ref a :: ws)) b → A b := fun b ⟨i, p, es, h1, h2⟩ => by
    rcases rhoL_get h1 with ⟨rfl, z⟩ | ⟨j, d, _, _, z⟩
    · rw [g0] at h2; cases h2; exact hAa
    · cases z
  have mv : Mv A H (Av ⟨A, H, fun i => if i = 0 then some a else none⟩ (rhoL ps ds m) (L2.start N (.ref a :: ws))) H := fun b o e n => ⟨e, fun z => z.elim n fun y => n (own b y)⟩
  refine ⟨?_, fun i d h => ?_, fun i p es h => ?_, fun i j p q es es' b h1 h2 h3 h4 => ?_, fun i b => ?_, fun i b h => ?_, fun b o h _ => h, hA⟩
  · unfold rhoL L2.start
    simp only [List.length_append, List.length_map, List.length_replicate, List.length_cons, r.length]
    rw [r.length] at hN
    omega
  · rcases rhoL_get h with ⟨_, z⟩ | ⟨j, d', rfl, h1, z⟩
    · cases z
    · cases z
      obtain ⟨v, h3, h4⟩ := r.get h1
      exact ⟨v, start_get (by simpa using h3), h4.mv mv⟩
  · rcases rhoL_get h with ⟨rfl, z⟩ | ⟨j, d', rfl, h1, z⟩
    · cases z
      exact ⟨a, us, g0, ha, rp.mv mv, fun z => nomatch z⟩
    · cases z
  · rcases rhoL_get h1 with ⟨rfl, _⟩ | ⟨_, _, _, _, z⟩
    · rcases rhoL_get h2 with ⟨rfl, _⟩ | ⟨_, _, _, _, z⟩
      · rfl
      · cases z
    · cases z
  · show (if i = 0 then some a else none) = some b ↔ _
    by_cases hi : i = 0
    · subst hi
      rw [if_pos rfl]
      constructor
      · intro h; cases h; exact ⟨ps, rfl, g0⟩
      · rintro ⟨es, h1, h2⟩; rw [g0] at h2; cases h2; rfl
    · rw [if_neg hi]
      constructor
      · intro h; cases h
      · rintro ⟨es, h1, h2⟩
        rcases rhoL_get h1 with ⟨rfl, _⟩ | ⟨_, _, _, _, z⟩
        · exact absurd rfl hi
        · cases z
  · have h' : (if i = 0 then some a else none) = some b := h
    by_cases hi : i = 0
    · rw [if_pos hi] at h'; cases h'; exact hAa
    · rw [if_neg hi] at h'; cases h'
end
section
variable {P : Program} {w : World} {K : PySem.W.Frag} {mg : Str → Option Value} {base : Heap} {x qual : Str} {st : Stmt} {fa : Addr} {fd : FuncData} {N ps : List Str} {j k m : Nat} {b : SF}
theorem ok_P (F : L2.Fun K x qual st fa fd) (S : FnScope N ps (defScope st)) (hk : ps.length = k) (hm : k + m = N.length)
    (hb : ∀ (cdv : Value) (A : Around) (outer : List Env) (s : Shared) (H : Hp) (E : XK), Room j (A.deeper (envOfC qual (defScope st) s.heap.objs.size fa cdv)) → PSs (cxOf CX0 P w K mg base N qual (defScope st) fa cdv A outer s H E).nox (defBody st) (tS K b)) :
    FnOk P w K mg base CX0 (j + 1) fa fd ps (spP K k (defP b k m)) := by
  refine F.ok S (fun vs H Q E h => h.1.trans hk.symm) fun cdv A outer s H vs Q E hr h => ?_
  obtain ⟨hl, A', ds, r, ra, hA, e, q⟩ := h
  refine ⟨_, hb cdv A outer s H E hr, ?_⟩
  have R := rel_start (m := m) (N := N) ra hA (by omega)
  unfold defP at e
  split at e
  · cases eb : b (rho0 ds m) with
    | none => rw [eb] at e; cases e
    | some z =>
      obtain ⟨o, ρ'⟩ := z
      rw [eb] at e
      have kp : ∀ σ' H', Rel K ⟨A', H, fun _ => none⟩ ρ' σ' H' → ∀ a o, H a = some o → H' a = some o := fun σ' H' R' a o h => R'.old a o h fun i z => nomatch z
      refine ⟨_, rho0 ds m, o, ρ', R, eb, ?_⟩
      cases o with
      | next => cases e; exact fun σ' H' R' _ => q .non H' (kp σ' H' R') .non
      | brk => cases e
      | cont => cases e
      | ret d => cases e; exact fun v σ' H' R' r' => q v H' (kp σ' H' R') r'
      | retL ds => cases e; exact fun a vs σ' H' R' ha r' h0 => q (.ref a) H' (kp σ' H' R') (.lst ⟨ha, fun z => hA a z h0⟩ (r'.mv fun b o e n => ⟨e, fun z => n (.inl z)⟩))
  · cases e
theorem ok_N (F : L2.Fun K x qual st fa fd) (S : FnScope N ps (defScope st)) (hk : ps.length = k) (hm : k + m = N.length)
    (hb : ∀ (cdv : Value) (A : Around) (outer : List Env) (s : Shared) (H : Hp) (E : XK), Room j (A.deeper (envOfC qual (defScope st) s.heap.objs.size fa cdv)) → PSs (cxOf CX0 P w K mg base N qual (defScope st) fa cdv A outer s H E).nox (defBody st) (tS K b)) :
    FnOk P w K mg base CX0 (j + 1) fa fd ps (spN K k (defN b k m)) := by
  refine F.ok S (fun vs H Q E h => h.1.trans hk.symm) fun cdv A outer s H vs Q E hr h => ?_
  obtain ⟨hl, A', ds, r, ra, hA, e, q⟩ := h
  refine ⟨_, hb cdv A outer s H E hr, ?_⟩
  have R := rel_start (m := m) (N := N) ra hA (by omega)
  unfold defN at e
  split at e
  · cases eb : b (rho0 ds m) with
    | none => rw [eb] at e; cases e
    | some z =>
      obtain ⟨o, ρ'⟩ := z
      rw [eb] at e
      have kp : ∀ σ' H', Rel K ⟨A', H, fun _ => none⟩ ρ' σ' H' → ∀ a o, H a = some o → H' a = some o := fun σ' H' R' a o h => R'.old a o h fun i z => nomatch z
      refine ⟨_, rho0 ds m, o, ρ', R, eb, ?_⟩
      cases o with
      | next => cases e
      | brk => cases e
      | cont => cases e
      | ret d => cases e
      | retL ds => cases e; exact fun a vs σ' H' R' ha r' h0 => q a vs H' (kp σ' H' R') h0 ha r'
  · cases e
theorem pool_get {ρ : Rho} {ps' : List PyData} (h : pool0 ρ = some ps') : ρ[0]? = some (some (.l true ps')) := by
  unfold pool0 at h
  split at h
  · cases h; rfl
  · cases h
theorem ok_L (F : L2.Fun K x qual st fa fd) (S : FnScope N ps (defScope st)) (hk : ps.length = k + 1) (hm : k + 1 + m = N.length)
    (hb : ∀ (cdv : Value) (A : Around) (outer : List Env) (s : Shared) (H : Hp) (E : XK), Room j (A.deeper (envOfC qual (defScope st) s.heap.objs.size fa cdv)) → PSs (cxOf CX0 P w K mg base N qual (defScope st) fa cdv A outer s H E).nox (defBody st) (tS K b)) :
    FnOk P w K mg base CX0 (j + 1) fa fd ps (spL K k (defL b k m)) := by
  refine F.ok S (fun vs H Q E h => h.1.trans hk.symm) fun cdv A outer s H vs Q E hr h => ?_
  obtain ⟨hl, A', a, us, ws, pl, ds, r, pl', rfl, ha, rp, hAa, ra, hA, e, q⟩ := h
  refine ⟨_, hb cdv A outer s H E hr, ?_⟩
  have hws : ws.length = k := by simpa using hl
  have R := rel_startL (m := m) (N := N) ha rp hAa ra hA (by omega)
  unfold defL at e
  split at e
  · cases eb : b (rhoL pl ds m) with
    | none => rw [eb] at e; cases e
    | some z =>
      obtain ⟨o, ρ'⟩ := z
      rw [eb] at e
      have fin : ∀ (ps2 : List PyData), pool0 ρ' = some ps2 → ∀ σ' H', Rel K ⟨A', H, fun i => if i = 0 then some a else none⟩ ρ' σ' H' → (∀ b o, b ≠ a → H b = some o → H' b = some o) ∧ ∃ us', H' a = some (.lst us') ∧ RpA K A' H' us' ps2 := fun ps2 hp σ' H' R' => by
        refine ⟨fun b o nb h => R'.old b o h fun i z => ?_, ?_⟩
        · have z' : (if i = 0 then some a else none) = some b := z
          by_cases hi : i = 0
          · rw [if_pos hi] at z'; cases z'; exact nb rfl
          · rw [if_neg hi] at z'; cases z'
        · obtain ⟨a', us', g1, g2, g3, _⟩ := R'.lst 0 true ps2 (pool_get hp)
          obtain ⟨es, w1, w2⟩ := (R'.pin 0 a).mp rfl
          rw [g1] at w2
          cases w2
          exact ⟨us', g2, g3.mv av_sub⟩
      refine ⟨_, rhoL pl ds m, o, ρ', R, eb, ?_⟩
      cases o with
      | next =>
        intro σ' H' R' _
        cases hp : pool0 ρ' with
        | none => simp only [endL, hp] at e; cases e
        | some ps2 =>
          simp only [endL, hp] at e
          cases e
          obtain ⟨h1, us', h2, h3⟩ := fin _ hp σ' H' R'
          exact q .non H' us' h1 h2 h3 .non
      | brk => cases e
      | cont => cases e
      | ret d =>
        intro v σ' H' R' r'
        cases hp : pool0 ρ' with
        | none => simp only [endL, hp] at e; cases e
        | some ps2 =>
          simp only [endL, hp] at e
          cases e
          obtain ⟨h1, us', h2, h3⟩ := fin _ hp σ' H' R'
          exact q v H' us' h1 h2 h3 r'
      | retL es =>
        intro a2 vs σ' H' R' ha2 r' h0
        cases hp : pool0 ρ' with
        | none => simp only [endL, hp] at e; cases e
        | some ps2 =>
          simp only [endL, hp] at e
          cases e
          obtain ⟨h1, us', h2, h3⟩ := fin _ hp σ' H' R'
          exact q (.ref a2) H' us' h1 h2 h3 (.lst ⟨ha2, fun z => hA a2 z h0⟩ (r'.mv fun b o e n => ⟨e, fun z => n (.inl z)⟩))
  · cases e
/-- the law itself -/
theorem law_sp {F1 : List PyData → Option PyData} {K : PySem.W.Frag} {H : Hp} {a : Addr} {ns : List Int} (hS : SqL K H a (ns.map V.int)) (hF : F1 [RO (ns.map PyData.int)] = some (.bool true)) :
    spP K 1 F1 [.ref a] H (fun v _ => v = .bl true) fun _ _ _ => False := by
  refine ⟨rfl, fun _ => False, [RO (ns.map PyData.int)], .bool true, .cons (.ro (xs := ns.map V.int) ?_ ?_) .nil, fun _ z => z.elim, hF, fun v H' _ r => by cases r; rfl⟩
  · rcases hS with h | h
    · exact .inl ⟨h, id⟩
    · exact .inr h
  · clear hS hF
    induction ns with
    | nil => exact .nil
    | cons i ns ih => exact .int i ih
end
end PG
end
section
set_option Elab.async false
set_option linter.all false
set_option maxRecDepth 100000
namespace PG
open PySem PySem.Spec PyProof.Rows L2
/-! ### set(xs) of a list of ints -/
abbrev sObj (w : World) : Obj := { cls := .type "set", dict := none, data := .set #[] 0 (.fresh 0 0 (!w.params.followText "set-order")) }
section
variable {P : Program} {w : World} {A : Around} {E : Value → Shared → Prop} {s : Shared}
set_option maxHeartbeats 4000000 in
theorem setOfList {l : Addr} {items : Array Value} (ns : List Int) {Q : Value → Shared → Prop} (hh : A.handled = none) (hl : s.heap.IsList l items) (hit : IntsAre items.toList ns) (hb : ns.length + 1 < scanBound)
    (h : ∀ (h' : Heap) (tk c : Nat), SetR w h' s.heap.objs.size (fun j => decide (j ∈ ns)) c → c ≤ ns.length → (∀ b o, s.heap.get? b = some o → h'.get? b = some o) → Q (.ref s.heap.objs.size) { s with heap := h', toks := tk }) :
    wpAny (model P w) A (call (.type "set") [.ref l]) Q E s := by
  have hisz : items.size = ns.length := by simpa using IntsAre.length hit
  obtain ⟨c, tl, hmro⟩ := F.called_set.mro
  have h3 := F.called_set.made
  have h4 := F.called_set.sub
  apply wpAny_call
  apply codeAny_of_tree
  show wpAny _ _ (callAny (.type "set") _) _ _ _
  apply wpAny_pure
  refine ⟨Code.quiet_builtin _ (by decide +kernel), codeAny_builtin F.entry_type_call ?_⟩
  rw [Around.under_plain (weight_type_call_type "set" [.ref l] []) rfl]
  have h1 := F.called_set.notType
  have h2 := F.called_set.canCreate
  have hct := F.typeCall_set_1 (.ref l)
  repeat (any_goals (first | assumption | wp_step))
  refine codeAny_mono (code_set_led1 (.ref l) (E := E) (Q₁ := fun u s1 => u = .ref s.heap.objs.size ∧ s1 = { s with heap := s.heap.push (sObj w) }) ⟨rfl, rfl⟩) fun r s1 hr => ?_
  cases r with
  | error e => exact hr
  | ok fl =>
    cases fl with
    | ret u =>
      obtain ⟨rfl, rfl⟩ := hr
      have gS : (s.heap.push (sObj w)).get? s.heap.objs.size = some (sObj w) := Heap.get?_push_size _ rfl
      have gT : Shared.TypeIs { s with heap := s.heap.push (sObj w) } (.ref s.heap.objs.size) "set" := ⟨_, gS, rfl⟩
      have i1 := F.called_set.init.lookup
      have i2 := F.called_set.init.bind (.ref s.heap.objs.size)
      repeat (any_goals (first | assumption | wp_step))
      refine codeAny_mono (codeAny_call_builtin (R := wants (fun r s2 => r = .none ∧ ∃ h' tk c, s2 = { s with heap := h', toks := tk } ∧ SetR w h' s.heap.objs.size (fun j => decide (j ∈ ns)) c ∧ c ≤ ns.length ∧
          (∀ b o, s.heap.get? b = some o → h'.get? b = some o)) E) F.called_set.init.plain F.entry_set_init (check_set_init_1 gT ?_)) fun r2 s2 hr2 => ?_
      · obtain ⟨⟨oc, od, dt, sl⟩, hol, hcl, nl, hdl⟩ := hl
        simp only at hcl hdl
        subst hcl hdl
        have hol' : (s.heap.push (sObj w)).get? l = some { cls := .type "list", dict := od, data := .seq items nl, slots := sl } := Heap.get?_push_of_some _ hol
        have k1 := F.sub_list_set
        have k2 := F.sub_list_frozenset
        have k3 : (Value.type "list" == Value.type "dict") = false := by decide
        have hl1 : (s.heap.push (sObj w)).IsList l items := ⟨_, hol', rfl, nl, rfl⟩
        unfold Builtin.«set.__init__» noKeywords Builtin.Frozenset.updateFrom
        generalize hPI : pyIter = PI
        wp_walk
        subst hPI
        apply wpAny_pyIter_list hl1
        refine wpAny_bind (wpAny_runValue ?_)
        have lS : l < s.heap.objs.size := Heap.lt_size hol
        have a3 : A.in1.in1.in1.handled = none := by simp [hh]
        have nI : l ≠ (s.heap.push (sObj w)).objs.size := by
          rw [Heap.size_push]
          exact Nat.ne_of_lt (Nat.lt_succ_of_lt lS)
        have nS : s.heap.objs.size ∉ [(s.heap.push (sObj w)).objs.size, l] := by
          rw [Heap.size_push]
          simp only [List.mem_cons, List.not_mem_nil, or_false, not_or]
          exact ⟨Nat.ne_of_lt (Nat.lt_succ_self _), Nat.ne_of_gt lS⟩
        have hv : ∀ (i : Nat) (v : Value), items[i]? = some v → ∃ k t, ns[i]? = some k ∧ v = .int k t := fun i v hv => by
          have hi : i < ns.length := by rw [← hisz]; exact (Array.getElem?_eq_some_iff.mp hv).1
          obtain ⟨t, e⟩ := PyProof.Rows.IntsAre.int_at hit i v (by rw [Array.getElem?_toList]; exact hv)
          exact ⟨ns[i], t, List.getElem?_eq_getElem hi, by rw [e, List.getD_eq_getElem?_getD, List.getElem?_eq_getElem hi] <;> rfl⟩
        refine set_update_ints ((Walks.list a3 _ l nI items).toS) s.heap.objs.size nS ns hisz hb hv (items.size - 0) 0 _ (by omega) (Nat.zero_le _) ⟨⟨_, Heap.get?_push_size _ rfl, rfl, rfl⟩, (hl1.push _)⟩ ?g0 ?g1
        case g0 => exact ⟨0, Nat.le_refl 0, setR_new_at (Heap.get?_push_of_some _ gS)⟩
        case g1 =>
          intro s' c' hm hc' hS'
          obtain ⟨h', g2, d', tk', os'⟩ := s'
          obtain rfl : g2 = s.gens := hm.gens
          obtain rfl : d' = s.drawn := hm.drawn
          obtain rfl : os' = s.os := hm.os
          show wpAny _ _ _ _ _ _
          apply wpAny_pure
          show wpAny _ _ (ret Value.none) _ _ _
          rw [hisz] at hc'
          refine wpAny_pure ⟨rfl, h', tk', c', rfl, hS', hc', fun b o e => ?_⟩
          have hb0 : b < s.heap.objs.size := Heap.lt_size e
          refine hm.heap b o ?_ (Heap.get?_push_of_some _ (Heap.get?_push_of_some _ e))
          simp only [List.mem_cons, List.not_mem_nil, or_false, not_or, Heap.size_push]
          exact ⟨Nat.ne_of_lt hb0, Nat.ne_of_lt (Nat.lt_succ_of_lt hb0)⟩
      · cases r2 with
        | error e => exact hr2
        | ok fl2 =>
          cases fl2 with
          | ret z =>
            obtain ⟨rfl, h', tk, c', rfl, q1, q2, q3⟩ := hr2
            repeat (any_goals (first | assumption | wp_step))
            exact h h' tk c' q1 q2 q3
          | _ => exact hr2
    | _ => exact hr
end
section
variable {X : Cx} {e a b : Expr} {pos : Pos} {f g h : EF} {tf tg : TF} {n m : NF} {es : List Expr}
/-! ### sorted(set(xs)) -/
def intsOf : List PyData → Option (List Int)
  | [] => some []
  | .int i :: r => (match intsOf r with
    | some l => some (i :: l)
    | none => none)
  | _ :: _ => none
theorem intsOf_map : ∀ {ds : List PyData} {ns : List Int}, intsOf ds = some ns → ds = ns.map PyData.int
  | [], ns, h => by cases h; rfl
  | d :: r, ns, h => by
    unfold intsOf at h
    split at h
    · rename_i hh; cases hh
    · rename_i i r' hh
      cases hh
      split at h
      · rename_i l hl
        cases h
        rw [intsOf_map hl]
        rfl
      · cases h
    · cases h
/-- the members, ascending, each once -/
def insI (k : Int) : List Int → List Int
  | [] => [k]
  | x :: r => if k < x then k :: x :: r else if k = x then x :: r else x :: insI k r
def sortI : List Int → List Int
  | [] => []
  | k :: r => insI k (sortI r)
theorem mem_insI (k j : Int) : ∀ l : List Int, j ∈ insI k l ↔ j = k ∨ j ∈ l
  | [] => by simp [insI]
  | x :: r => by
    unfold insI
    by_cases h1 : k < x
    · rw [if_pos h1]; simp
    · rw [if_neg h1]
      by_cases h2 : k = x
      · rw [if_pos h2]
        subst h2
        simp
      · rw [if_neg h2, List.mem_cons, mem_insI k j r, List.mem_cons]
        constructor
        · rintro (h | h | h)
          · exact .inr (.inl h)
          · exact .inl h
          · exact .inr (.inr h)
        · rintro (h | h | h)
          · exact .inr (.inl h)
          · exact .inl h
          · exact .inr (.inr h)
theorem mem_sortI (j : Int) : ∀ l : List Int, j ∈ sortI l ↔ j ∈ l
  | [] => by simp [sortI]
  | k :: r => by
    unfold sortI
    rw [mem_insI, mem_sortI j r, List.mem_cons]
theorem pw_insI (k : Int) : ∀ l : List Int, l.Pairwise (· < ·) → (insI k l).Pairwise (· < ·)
  | [], _ => by simp [insI]
  | x :: r, h => by
    unfold insI
    obtain ⟨h1, h2⟩ := List.pairwise_cons.mp h
    by_cases c1 : k < x
    · rw [if_pos c1]
      refine List.pairwise_cons.mpr ⟨fun y hy => ?_, h⟩
      rcases List.mem_cons.mp hy with e | e
      · omega
      · have := h1 y e; omega
    · rw [if_neg c1]
      by_cases c2 : k = x
      · rw [if_pos c2]; exact h
      · rw [if_neg c2]
        refine List.pairwise_cons.mpr ⟨fun y hy => ?_, pw_insI k r h2⟩
        rcases (mem_insI k y r).mp hy with e | e
        · omega
        · exact h1 y e
theorem pw_sortI : ∀ l : List Int, (sortI l).Pairwise (· < ·)
  | [] => by simp [sortI]
  | k :: r => pw_insI k _ (pw_sortI r)
theorem len_insI (k : Int) : ∀ l : List Int, (insI k l).length ≤ l.length + 1
  | [] => by simp [insI]
  | x :: r => by
    unfold insI
    by_cases c1 : k < x
    · rw [if_pos c1]; simp
    · rw [if_neg c1]
      by_cases c2 : k = x
      · rw [if_pos c2]; simp
      · rw [if_neg c2]; simp; exact len_insI k r
theorem len_sortI : ∀ l : List Int, (sortI l).length ≤ l.length
  | [] => by simp [sortI]
  | k :: r => by
    have h1 := len_insI k (sortI r)
    have h2 := len_sortI r
    unfold sortI
    simp only [List.length_cons]
    omega
/-- two ascending lists with the same members are one -/
theorem pw_eq : ∀ {l m : List Int}, l.Pairwise (· < ·) → m.Pairwise (· < ·) → (∀ k, k ∈ l ↔ k ∈ m) → l = m
  | [], [], _, _, _ => rfl
  | [], y :: m, _, _, h => by have := (h y).mpr (by simp); simp at this
  | x :: l, [], _, _, h => by have := (h x).mp (by simp); simp at this
  | x :: l, y :: m, hl, hm, h => by
    obtain ⟨l1, l2⟩ := List.pairwise_cons.mp hl
    obtain ⟨m1, m2⟩ := List.pairwise_cons.mp hm
    have e : x = y := by
      rcases List.mem_cons.mp ((h x).mp (by simp)) with e | e
      · exact e
      · rcases List.mem_cons.mp ((h y).mpr (by simp)) with e2 | e2
        · exact e2.symm
        · have a1 := m1 x e
          have a2 := l1 y e2
          omega
    subst e
    rw [pw_eq l2 m2 fun k => ?_]
    constructor
    · intro hk
      rcases List.mem_cons.mp ((h k).mp (List.mem_cons_of_mem _ hk)) with e | e
      · subst e; exact absurd (l1 k hk) (Int.lt_irrefl _)
      · exact e
    · intro hk
      rcases List.mem_cons.mp ((h k).mpr (List.mem_cons_of_mem _ hk)) with e | e
      · subst e; exact absurd (m1 k hk) (Int.lt_irrefl _)
      · exact e
/-- sorted(set(xs)): fewer than 64 items -/
def dSortSet : PyData → Option (List PyData)
  | .list ds => (match intsOf ds with
    | some ns => if ns.length < 64 then some ((sortI ns).map PyData.int) else none
    | none => none)
  | _ => none
def rSetLI (K : PySem.W.Frag) (w : World) : List V → Hp → VK → Prop := fun xs H Q => ∃ (l : Addr) (ns : List Int), xs = [.ref l] ∧ SqL K H l (ns.map V.int) ∧ ns.length < 64 ∧
  ∀ p c, c ≤ ns.length → H p = none → Q (.ref p) (upd H p (SetO w p (fun j => decide (j ∈ ns)) c))
theorem cr_setLI (hc : X.calm = true) : CallR X (.type "set") (rSetLI X.K X.w) := by
  intro pins s σ H xs us Q I r hq
  obtain ⟨l, ns, rfl, hl, hn, q⟩ := hq
  obtain ⟨u, rfl, ru⟩ := vals1 r
  cases ru
  obtain ⟨its, rv, pl, hz⟩ := I.list hl
  refine setOfList ns (I.ok.hd hc) pl.isList (by simpa using intsAre_of rv) (by unfold scanBound; omega) fun h' tk c R1 hc' k => ?_
  have hf : H s.heap.objs.size = none := I.hok.fresh (Nat.le_refl _)
  exact ⟨.ref _, _, I.laid (t' := tk) k (Nat.le_refl _) (setO_new R1), rfl, q _ c hc' hf⟩
theorem en_sortSet {p1 p2 q1 : Pos} (hc : X.calm = true) (hg : Gl X "sorted") (hm : X.mg "sorted" = none) (hg2 : Gl X "set") (hm2 : X.mg "set" = none) (ha : PE X a (tE X.K f))
    (na : starEach [a] X.env = (false, eval a X.env) :: starEach [] X.env := by rfl) (ns1 : starEach [.Call (.Name "set" p2) [a] [] q1] X.env = (false, eval (.Call (.Name "set" p2) [a] [] q1) X.env) :: starEach [] X.env := by rfl) :
    PE X (.Call (.Name "sorted" p1) [.Call (.Name "set" p2) [a] [] q1] [] pos) (tN X.K (nCall (n1of dSortSet) (nCons f nNil))) :=
  pe_of (pe_callB (cr_sortedSet hc) hg hm (by decide +kernel) (pa_cons (pe_callTy (cr_setLI hc) hg2 hm2 PyProof.Rows.boot_set (pa_cons ha pa_nil na) (he := na)) pa_nil ns1) (he := ns1)) fun σ H Q ⟨c, ρ, d, ρ', R, e, q⟩ => by
    unfold nCall at e
    split at e
    · rename_i xs ρ1 h1
      split at e
      · rename_i z h2
        obtain ⟨e1, e2⟩ := so e
        subst e1 e2
        obtain ⟨x, ρ2, xs', w1, w2, rfl⟩ := ncons_inv h1
        cases w2
        obtain ⟨y, hy, h3⟩ := n1_inv h2
        cases hy
        unfold dSortSet at h3
        split at h3
        · rename_i ds
          split at h3
          · rename_i ns hns
            split at h3
            · rename_i hlen
              cases h3
              refine ⟨c, ρ, _, ρ1, R, w1, fun v H1 R1 r1 m1 => ?_⟩
              cases r1 with
              | @lst p xs _ l al =>
                have hds := intsOf_map hns
                subst hds
                have hxs := al.ints
                subst hxs
                refine ⟨p, ns, rfl, l.sq, hlen, fun p2 cc hcc hp2 => ?_⟩
                refine ⟨p2, _, cc, rfl, upd_same, by omega, fun ms p3 o1 o2 o3 hp3 => ?_⟩
                have hms : ms = sortI ns := pw_eq o1 (pw_sortI ns) fun k => by rw [o2, mem_sortI]; simp
                subst hms
                have g1 : ∀ a o, H1 a = some o → upd (upd H1 p2 (SetO X.w p2 (fun j => decide (j ∈ ns)) cc)) p3 (.lst ((sortI ns).map V.int)) a = some o := fun b o eb => kp_upd hp3 b o (kp_upd hp2 b o eb)
                have n3 : H1 p3 = none := by
                  cases e3 : H1 p3 with
                  | none => rfl
                  | some o =>
                    have := kp_upd (o := SetO X.w p2 (fun j => decide (j ∈ ns)) cc) hp2 p3 o e3
                    rw [this] at hp3
                    cases hp3
                refine q p3 _ _ (R1.plus n3 g1 (by rw [upd_same]; exact fun z => nomatch z)) upd_same (RpA.ofInts _) (R1.noAv n3) (R1.fresh0 n3) (avOf (K := X.K) m1 n3) (m1.trans (R1.mvG g1))
            · cases h3
          · cases h3
        · cases h3
      · cases e
    · cases e
end
end PG
end
section
set_option Elab.async false
set_option linter.all false
set_option maxRecDepth 100000
namespace PG
open PySem PySem.Spec PyProof.Rows L2
section
variable {X : Cx} {e a b : Expr} {pos : Pos} {f g h : EF} {tf tg : TF} {n m : NF} {es : List Expr}
/-! ### owned lists, read -/
theorem unl_inv {o : PyData → Option PyData} {i : Nat} {ρ ρ' : Rho} {d : PyData} (h : eUnL o i ρ = some (d, ρ')) : ∃ p ds, ρ[i]? = some (some (Cell.l p ds)) ∧ o (.list ds) = some d ∧ ρ' = ρ := by
  unfold eUnL at h
  split at h
  · rename_i p ds h1
    split at h
    · rename_i z h2
      obtain ⟨e1, e2⟩ := so h
      subst e1 e2
      exact ⟨p, ds, h1, h2, rfl⟩
    · cases h
  · cases h
theorem ev_lenO {i : Nat} {p : Pos} (hv : PE X a (tVar i)) (hg : Gl X "len") (hm : X.mg "len" = none) (na : starEach [a] X.env = (false, eval a X.env) :: starEach [] X.env := by rfl) : PE X (.Call (.Name "len" p) [a] [] pos) (tE X.K (eUnL dLen i)) :=
  pe_of (pe_callB call_len_seq hg hm PySem.boot_len (pa_cons hv pa_nil na) (he := na)) fun σ H Q ⟨c, ρ, d, ρ', R, e, q⟩ => by
    obtain ⟨pp, ds, h1, h2, rfl⟩ := unl_inv e
    obtain ⟨l, us, g1, g2, g3, _⟩ := R.lst i pp ds h1
    cases h2
    exact ⟨.ref l, g1, l, us, rfl, .inl (.inl (.inl g2)), by rw [g3.length]; exact q _ H R (.int _) Mv.refl⟩
theorem ev_tupO {i : Nat} {p : Pos} (hv : PE X a (tVar i)) (hg : Gl X "tuple") (hm : X.mg "tuple" = none) (na : starEach [a] X.env = (false, eval a X.env) :: starEach [] X.env := by rfl) : PE X (.Call (.Name "tuple" p) [a] [] pos) (tE X.K (eUnL dTupOf i)) :=
  pe_of (pe_callTy call_tuple_of hg hm PyProof.Rows.boot_tuple (pa_cons hv pa_nil na) (he := na)) fun σ H Q ⟨c, ρ, d, ρ', R, e, q⟩ => by
    obtain ⟨pp, ds, h1, h2, rfl⟩ := unl_inv e
    obtain ⟨l, us, g1, g2, g3, _⟩ := R.lst i pp ds h1
    cases h2
    exact ⟨.ref l, g1, l, us, rfl, .inl ⟨.inl (.inl g2), fun p hp => q _ _ (R.alloc hp).1 (R.newTup hp g3) (R.mvG (kp_upd hp))⟩⟩
@[simp] def tTruL (i : Nat) : TF := fun ρ => match ρ[i]? with
  | some (some (.l _ ds)) => some (!ds.isEmpty, ρ)
  | _ => none
theorem et_truO {i : Nat} (hv : PE X a (tVar i)) (he : ∀ whole, isTrue a X.env whole = (do let v ← whole; standAt a.pos; holding [v] (truthy v)) := by intro _; rfl) : PT X a (tT X.K (tTruL i)) :=
  pt_of (pt_truth hv he) fun σ H Q ⟨c, ρ, d, ρ', R, e, q⟩ => by
    unfold tTruL at e
    split at e
    · rename_i pp ds h1
      obtain ⟨e1, e2⟩ := so e
      subst e1 e2
      obtain ⟨l, us, g1, g2, g3, _⟩ := R.lst i pp ds h1
      refine ⟨.ref l, g1, _, .inl ⟨us, .inl (.inl g2), ?_⟩, q H R Mv.refl⟩
      cases g3 <;> rfl
    · cases e
/-! x op= e -/
@[simp] def sAug (i : Nat) (o : PyData → PyData → Option PyData) (f : EF) : SF := fun ρ => match ρ[i]? with
  | some (some (.v x)) => (match f ρ with
    | some (y, ρ1) => (match o x y with
      | some z => (match setV i z ρ1 with
        | some ρ2 => some (.next, ρ2)
        | none => none)
      | none => none)
    | none => none)
  | _ => none
theorem pip_of {X : Cx} {op : Operator} {r : R2} (ho : OpR X (inplaceOp op) r) : PIp X op r := fun pins s σ H x y v u Q I r1 r2 q => ho pins s σ H x y v u Q I r1 r2 q
theorem es_aug {i : Nat} {x : Str} {op : Operator} {r : R2} {o : PyData → PyData → Option PyData} {pos' : Pos} (hN : X.N.Nodup) (hi : X.N[i]? = some x) (hx : Loc X.env.scope x) (ho : OpR X (inplaceOp op) r) (s : OpS X.K r o) (he : PE X e (tE X.K f))
    (hf : X.fn x = true ∨ X.env.scope.names.lookup x = some .local := by first | exact .inl rfl | exact .inr rfl | assumption) : PS X (.AugAssign (.Name x pos') op e pos) (tS X.K (sAug i o f)) :=
  ps_of (ps_aug hN hi hx he (pip_of ho) hf) fun E σ H ⟨c, ρ, ot, ρ', R, e, q⟩ => by
    unfold sAug at e
    split at e
    · rename_i x h0
      split at e
      · rename_i y ρ1 h1
        split at e
        · rename_i z h2
          split at e
          · rename_i ρ2 h3
            obtain ⟨e1, e2⟩ := so e
            subst e1 e2
            obtain ⟨v, g1, g2⟩ := R.val i x h0
            refine ⟨v, g1, c, ρ, y, ρ1, R, h1, fun u H1 R1 r1 m1 => ?_⟩
            refine s c ρ1 σ H1 v u x y z _ R1 (g2.mv m1) r1 h2 fun w H2 R2 r2 k2 => ?_
            obtain ⟨R3, m3⟩ := R2.assign h3 r2
            exact q _ H2 R3 ((m1.trans (R1.mvG k2)).trans m3)
          · cases e
        · cases e
      · cases e
    · cases e
theorem iop_addD : OpR X (inplaceOp .Add) (rI0 fun i j => .int (i + j)) := iop_add
@[simp] def dAddI := dI2 cT fun i j => .int (i + j)
theorem os_addI {K : PySem.W.Frag} : OpS K (rI0 fun i j => .int (i + j)) dAddI := os_i20 fun _ _ _ _ => .int _
/-! iterating a list or a tuple -/
@[simp] def itS (f : EF) : NF := fun ρ => match f ρ with
  | some (.list xs, ρ1) => some (xs, ρ1)
  | some (.tuple xs, ρ1) => some (xs, ρ1)
  | some (.dict [(.list xs, .none)], ρ1) => some (xs, ρ1)
  | _ => none
theorem ei_seq {tgt : Expr} (he : PE X e (tE X.K f)) : PI X tgt e (tI X.K (itS f)) := ⟨fun pins s σ H R I hq => by
  obtain ⟨c, ρ, ds, ρ', R0, e1, q⟩ := hq
  unfold itS at e1
  split at e1
  · rename_i xs ρ1 h1
    exact (ei_list he).run pins s σ H R I ⟨c, ρ, ds, ρ', R0, by unfold itL; rw [h1]; exact e1, q⟩
  · rename_i xs ρ1 h1
    exact (ei_tup he).run pins s σ H R I ⟨c, ρ, ds, ρ', R0, by unfold itT; rw [h1]; exact e1, q⟩
  · rename_i xs ρ1 h1
    exact (ei_list he).run pins s σ H R I ⟨c, ρ, ds, ρ', R0, by unfold itL; rw [h1]; exact e1, q⟩
  · cases e1⟩
/-! ### slices -/
@[simp] def oE : Option EF → Rho → Option (Option Int × Rho)
  | none, ρ => some (none, ρ)
  | some g, ρ => (match g ρ with
    | some (.int i, ρ1) => some (some i, ρ1)
    | _ => none)
def tO (K : PySem.W.Frag) (g : Option EF) : TO := fun σ H Q => ∃ (c : Act) (ρ : Rho) (o : Option Int) (ρ' : Rho), Rel K c ρ σ H ∧ oE g ρ = some (o, ρ') ∧ ∀ H', Rel K c ρ' σ H' → Stp c ρ σ H ρ' σ H' → Q o H'
theorem po_of {e : Option Expr} {t t' : TO} (h : PO X e t) (k : ∀ σ H Q, t' σ H Q → t σ H Q) : PO X e t' := ⟨fun pins s σ H Q I q => h.run pins s σ H Q I (k σ H Q q)⟩
theorem eo_none : PO X none (tO X.K none) := po_of po_none fun σ H Q ⟨c, ρ, o, ρ', R, e, q⟩ => by
  cases e
  exact q H R Mv.refl
theorem eo_some (h : PE X a (tE X.K g)) : PO X (some a) (tO X.K (some g)) := po_of (po_some h) fun σ H Q ⟨c, ρ, o, ρ', R, e, q⟩ => by
  unfold oE at e
  simp only at e
  split at e
  · rename_i i ρ1 h1
    obtain ⟨e1, e2⟩ := so e
    subst e1 e2
    exact ⟨c, ρ, _, ρ1, R, h1, fun v H' R' r' m => by cases r'; exact ⟨i, rfl, q H' R' m⟩⟩
  · cases e
@[simp] def nSl (f : EF) (lo hi : Option EF) : NF := fun ρ => match f ρ with
  | some (.list xs, ρ1) => (match oE lo ρ1 with
    | some (l, ρ2) => (match oE hi ρ2 with
      | some (u, ρ3) => some (cutD xs l u, ρ3)
      | none => none)
    | none => none)
  | some (.dict [(.list xs, .none)], ρ1) => (match oE lo ρ1 with
    | some (l, ρ2) => (match oE hi ρ2 with
      | some (u, ρ3) => some (cutD xs l u, ρ3)
      | none => none)
    | none => none)
  | _ => none
@[simp] def eSlT (f : EF) (lo hi : Option EF) : EF := fun ρ => match f ρ with
  | some (.tuple xs, ρ1) => (match oE lo ρ1 with
    | some (l, ρ2) => (match oE hi ρ2 with
      | some (u, ρ3) => some (.tuple (cutD xs l u), ρ3)
      | none => none)
    | none => none)
  | _ => none
theorem cut_rp {K : PySem.W.Frag} {A : Addr → Prop} {H : Hp} {vs : List V} {ds : List PyData} (r : RpA K A H vs ds) (l u : Option Int) : RpA K A H (cutV vs l u) (cutD ds l u) := by
  have e1 : ∀ n d o, sIxD n d o = HT.sIx n d o := fun n d o => by cases o <;> rfl
  unfold cutV cutD
  rw [r.length, e1, e1]
  exact (r.drop _).take _
theorem en_sl {lo hi : Option Expr} {l u : Option EF} {p2 : Pos} (ha : PE X a (tE X.K f)) (hl : PO X lo (tO X.K l)) (hu : PO X hi (tO X.K u)) : PE X (.Subscript a (.Slice lo hi none p2) pos) (tN X.K (nSl f l u)) :=
  pe_of (pe_slice sl_list ha hl hu) fun σ H Q ⟨c, ρ, d, ρ', R, e, q⟩ => by
    unfold nSl at e
    split at e
    · rename_i xs ρ1 h1
      split at e
      · rename_i l' ρ2 h2
        split at e
        · rename_i u' ρ3 h3
          obtain ⟨e1, e2⟩ := so e
          subst e1 e2
          refine ⟨c, ρ, _, ρ1, R, h1, fun v H1 R1 r1 m1 => ⟨c, ρ1, l', ρ2, R1, h2, fun H2 R2 m2 => ⟨c, ρ2, u', ρ3, R2, h3, fun H3 R3 m3 => ?_⟩⟩⟩
          cases r1.mv (m2.trans m3) with
          | @lst p us _ ll al =>
            refine ⟨p, us, rfl, ll.sq, fun p2 hp => ?_⟩
            exact q p2 _ _ (R3.plus hp (kp_upd hp) (by rw [upd_same]; exact fun z => nomatch z)) upd_same ((cut_rp al l' u').mv (R3.mvP hp (kp_upd hp))) (R3.noAv hp) (R3.fresh0 hp) (avOf (K := X.K) ((m1.trans m2).trans m3) hp) (((m1.trans m2).trans m3).trans (R3.mvG (kp_upd hp)))
        · cases e
      · cases e
    · rename_i xs ρ1 h1
      split at e
      · rename_i l' ρ2 h2
        split at e
        · rename_i u' ρ3 h3
          obtain ⟨e1, e2⟩ := so e
          subst e1 e2
          refine ⟨c, ρ, _, ρ1, R, h1, fun v H1 R1 r1 m1 => ⟨c, ρ1, l', ρ2, R1, h2, fun H2 R2 m2 => ⟨c, ρ2, u', ρ3, R2, h3, fun H3 R3 m3 => ?_⟩⟩⟩
          cases r1.mv (m2.trans m3) with
          | @ro p us _ ll al =>
            refine ⟨p, us, rfl, ll.sq, fun p2 hp => ?_⟩
            exact q p2 _ _ (R3.plus hp (kp_upd hp) (by rw [upd_same]; exact fun z => nomatch z)) upd_same ((cut_rp al.rp l' u').mv (R3.mvP hp (kp_upd hp))) (R3.noAv hp) (R3.fresh0 hp) (avOf (K := X.K) ((m1.trans m2).trans m3) hp) (((m1.trans m2).trans m3).trans (R3.mvG (kp_upd hp)))
        · cases e
      · cases e
    · cases e
theorem cut_whole {n lo hi : Nat} {xs : List PyData} (h1 : lo = 0) (h2 : hi = xs.length) : (xs.drop lo).take (hi - lo) = xs := by
  subst h1 h2
  simp
theorem ev_slT {lo hi : Option Expr} {l u : Option EF} {p2 : Pos} (ha : PE X a (tE X.K f)) (hl : PO X lo (tO X.K l)) (hu : PO X hi (tO X.K u)) : PE X (.Subscript a (.Slice lo hi none p2) pos) (tE X.K (eSlT f l u)) :=
  pe_of (pe_slice sl_tupA ha hl hu) fun σ H Q ⟨c, ρ, d, ρ', R, e, q⟩ => by
    unfold eSlT at e
    split at e
    · rename_i xs ρ1 h1
      split at e
      · rename_i l' ρ2 h2
        split at e
        · rename_i u' ρ3 h3
          obtain ⟨e1, e2⟩ := so e
          subst e1 e2
          refine ⟨c, ρ, _, ρ1, R, h1, fun v H1 R1 r1 m1 => ⟨c, ρ1, l', ρ2, R1, h2, fun H2 R2 m2 => ⟨c, ρ2, u', ρ3, R2, h3, fun H3 R3 m3 => ?_⟩⟩⟩
          cases r1.mv (m2.trans m3) with
          | @tup p us _ ll al =>
            have mm := (m1.trans m2).trans m3
            refine ⟨p, us, rfl, ll.sq, fun hw => ?_, fun hw p2 hp => ?_⟩
            · have ec : cutD xs l' u' = xs := by
                have e1 : ∀ n d o, sIxD n d o = HT.sIx n d o := fun n d o => by cases o <;> rfl
                unfold cutD
                rw [← al.length, e1, e1, hw.1, hw.2, al.length]
                simp
              rw [ec] at q
              exact q _ H3 R3 (.tup ll al) mm
            · exact q _ _ (R3.alloc hp).1 (R3.newTup hp (cut_rp al l' u')) (mm.trans (R3.mvG (kp_upd hp)))
        · cases e
      · cases e
    · cases e
end
/-- long enough -/
def FUEL : Nat := 1000000
theorem whl_mono {t : TF} {b : SF} : ∀ (k n : Nat) (ρ : Rho) (r : Out × Rho), whl t b k ρ = some r → k ≤ n → whl t b n ρ = some r
  | 0, _, _, _, h, _ => by cases h
  | k + 1, 0, _, _, _, h => by omega
  | k + 1, n + 1, ρ, r, h, hl => by
    unfold whl at h ⊢
    split at h
    · rename_i ρ1 h1
      split at h
      · rename_i ρ2 h2
        exact whl_mono k n ρ2 r h (by omega)
      · rename_i ρ2 h2
        exact whl_mono k n ρ2 r h (by omega)
      · rename_i ρ2 h2
        exact h
      · rename_i n1 n2 n3
        exact h
    · exact h
    · cases h
end PG
end
section
set_option Elab.async false
set_option linter.all false
set_option maxRecDepth 100000
namespace PG
open PySem PySem.Spec PyProof.Rows L2
section
variable {X : Cx} {e a b : Expr} {pos : Pos} {f g h : EF} {tf tg : TF} {n m : NF} {es : List Expr}
/-! ### sum of ints -/
@[simp] def dSum : PyData → Option PyData
  | .list ds => (match intsOf ds with
    | some ns => some (.int ns.sum)
    | none => none)
  | .tuple ds => (match intsOf ds with
    | some ns => some (.int ns.sum)
    | none => none)
  | _ => none
def rSumA (K : PySem.W.Frag) : List V → Hp → VK → Prop := fun vs H Q => ∃ (a : Addr) (ns : List Int), vs = [V.ref a] ∧ (SqL K H a (ns.map V.int) ∨ SqT K H a (ns.map V.int)) ∧ Q (.int ns.sum) H
theorem cr_sumA (hc : X.calm = true) : CallR X (.builtin "sum") (rSumA X.K) := by
  intro pins s σ H vs us Q I r hq
  obtain ⟨l, ns, rfl, hl, q⟩ := hq
  rcases hl with hl | hl
  · exact cr_sum hc pins s σ H _ us Q I r ⟨l, ns, rfl, hl, q⟩
  · obtain ⟨u, rfl, ru⟩ := vals1 r
    cases ru
    obtain ⟨its, rv, pt, hz⟩ := I.tuple hl
    have hi : IntsAre its ns := intsAre_of rv
    obtain ⟨xs, ex⟩ := hi.allInts.items
    have hn : numsOf (intItems xs).toList = ns := by rw [← ex]; exact hi.numsOf
    rw [nums_intItems] at hn
    have pt' : s.heap.IsTuple l (intItems xs) := by rw [← ex]; exact pt
    refine PySem.W.ktm_sumG (I.ok.hd hc) pt' fun h' tk t' hk => ?_
    refine ⟨.int ns.sum, H, I.kept hk, ⟨t', ?_⟩, q⟩
    rw [preSum_eq, List.take_of_length_le (by simp), hn]
theorem fs_sum {K : PySem.W.Frag} : FnS K (rSumA K) (o1of dSum) := by
  intro c ρ σ H vs ds d Q R r ho q
  obtain ⟨x, rfl, h2⟩ := o1_inv ho
  obtain ⟨v, rfl, w1⟩ := rpa1 r
  unfold dSum at h2
  split at h2
  · split at h2
    · rename_i ns hn
      cases h2
      have hds := intsOf_map hn
      subst hds
      cases w1 with
      | lst l al =>
        have hx := al.ints
        subst hx
        exact ⟨_, ns, rfl, .inl l.sq, os_same R q (.int _)⟩
    · cases h2
  · split at h2
    · rename_i ns hn
      cases h2
      have hds := intsOf_map hn
      subst hds
      cases w1 with
      | tup l al =>
        have hx := al.ints
        subst hx
        exact ⟨_, ns, rfl, .inr l.sq, os_same R q (.int _)⟩
    · cases h2
  · cases h2
/-! ### (*xs, ..) -/
@[simp] def nStar (f : EF) (g : NF) : NF := fun ρ => match f ρ with
  | some (.list xs, ρ1) => (match g ρ1 with
    | some (ys, ρ2) => some (xs ++ ys, ρ2)
    | none => none)
  | some (.tuple xs, ρ1) => (match g ρ1 with
    | some (ys, ρ2) => some (xs ++ ys, ρ2)
    | none => none)
  | _ => none
theorem ea_star {p : Pos} (ha : PE X a (tE X.K f)) (hr : PA X es (tA X.K n)) (hs : starEach (.Starred a p :: es) X.env = (true, eval a X.env) :: starEach es X.env := by rfl) : PA X (.Starred a p :: es) (tA X.K (nStar f n)) :=
  pa_of (StX.pa_star ha hr hs) fun σ H Q ⟨c, ρ, ds, ρ', R, e, q⟩ => by
    unfold nStar at e
    split at e
    · rename_i xs ρ1 h1
      split at e
      · rename_i ys ρ2 h2
        obtain ⟨e1, e2⟩ := so e
        subst e1 e2
        refine ⟨c, ρ, _, ρ1, R, h1, fun v H1 R1 r1 m1 => ?_⟩
        cases r1 with
        | lst l al => exact ⟨_, _, rfl, .inr l.sq, c, ρ1, ys, ρ2, R1, h2, fun vs H2 R2 r2 m2 => q _ H2 R2 ((al.mv m2).app r2) (m1.trans m2)⟩
      · cases e
    · rename_i xs ρ1 h1
      split at e
      · rename_i ys ρ2 h2
        obtain ⟨e1, e2⟩ := so e
        subst e1 e2
        refine ⟨c, ρ, _, ρ1, R, h1, fun v H1 R1 r1 m1 => ?_⟩
        cases r1 with
        | tup l al => exact ⟨_, _, rfl, .inl l.sq, c, ρ1, ys, ρ2, R1, h2, fun vs H2 R2 r2 m2 => q _ H2 R2 ((al.mv m2).app r2) (m1.trans m2)⟩
      · cases e
    · cases e
/-! ### [..] * n -/
@[simp] def dRep : PyData → PyData → Option PyData
  | .list xs, .int k => if -9223372036854775808 ≤ k ∧ k < 9223372036854775808 ∧ xs.length * k.toNat ≤ 16777216 then some (.list (List.replicate k.toNat xs).flatten) else none
  | _, _ => none
theorem rpa_rep {K : PySem.W.Frag} {A : Addr → Prop} {H : Hp} {vs : List V} {ds : List PyData} (r : RpA K A H vs ds) : ∀ k : Nat, RpA K A H (List.replicate k vs).flatten (List.replicate k ds).flatten
  | 0 => .nil
  | k + 1 => by
    rw [List.replicate_succ, List.replicate_succ, List.flatten_cons, List.flatten_cons]
    exact r.app (rpa_rep r k)
theorem os_rep {K : PySem.W.Frag} : OpS K rRep dRep := by
  intro c ρ σ H v1 v2 x y d Q R r1 r2 ho q
  unfold dRep at ho
  split at ho
  · split at ho
    · rename_i hk
      cases ho
      cases r2
      cases r1 with
      | lst l al =>
        refine ⟨_, _, _, rfl, rfl, l.1, by omega, by omega, by rw [al.length, sl16]; exact hk.2.2, fun p hp => ?_⟩
        exact q _ _ (R.alloc hp).1 (R.newLst hp (rpa_rep al _)) (R.alloc hp).2
    · cases ho
  · cases ho
/-! ### range(0, n, c) -/
def stp (c : Int) (n : Nat) : List PyData := (List.range n).map fun k => .int (0 + (k : Nat) * c)
@[simp] def itR3 (f : NF) : NF := fun ρ => match f ρ with
  | some ([.int i, .int j, .int c], ρ1) => if i = 0 ∧ c = 2 ∧ 0 ≤ j ∧ j ≤ 16777216 then some (stp 2 ((j + 1) / 2).toNat, ρ1) else none
  | _ => none
theorem jok_stp {K : PySem.W.Frag} {c : Act} {ρ : Rho} {σ : L2.St} {H : Hp} (cc : Int) (n : Nat) : JOk K c ρ σ H (Itc 0 cc n) (stp cc n) := fun c' ρi σi Hi m => by
  refine ⟨fun i d hd => ?_, ?_⟩
  · unfold stp at hd
    rw [List.getElem?_map] at hd
    rcases Nat.lt_or_ge i n with h | h
    · rw [List.getElem?_range h] at hd
      cases hd
      exact ⟨h, fun x H' y => ⟨y.1, by rw [y.2]; exact .int _⟩⟩
    · rw [List.getElem?_eq_none (by simpa using h)] at hd
      cases hd
  · show n ≤ (stp cc n).length
    unfold stp
    rw [List.length_map, List.length_range]
    exact Nat.le_refl _
theorem rgc2 {j : Int} (h0 : 0 ≤ j) (h1 : j ≤ 16777216) : RgC 0 j 2 ((j + 1) / 2).toNat := by
  have e : Builtin.Range.rangeSize 0 j 2 = (((j + 1) / 2).toNat : Int) := by
    unfold Builtin.Range.rangeSize
    rw [if_pos (by decide)]
    split <;> omega
  refine ⟨by decide, by decide, ?_, e⟩
  unfold Builtin.Range.small
  rw [e]
  simp only [Builtin.Range.rangeFitsLong, Bool.and_eq_true, Bool.or_eq_true, decide_eq_true_eq, beq_iff_eq, show (2 : Int) > 0 by decide, if_true]
  omega
theorem ei_rng3 {tgt e3 : Expr} {p : Pos} (hg : Gl X "range") (hm : X.mg "range" = none) (ha : PA X [a, b, e3] (tA X.K n)) (hs : starEach [a, b, e3] X.env = (false, eval a X.env) :: starEach [b, e3] X.env := by rfl)
    (hpl : (backTo pos (starEach [b, e3] X.env)).any (·.1) = false := by rfl) : PI X tgt (.Call (.Name "range" p) [a, b, e3] [] pos) (tI X.K (itR3 n)) :=
  pi_of (pi_range3 hg hm ha hs hpl) fun σ H R ⟨c, ρ, ds, ρ', R0, e, q⟩ => by
    unfold itR3 at e
    split at e
    · rename_i i j k ρ1 h1
      split at e
      · rename_i hj
        obtain ⟨e1, e2⟩ := so e
        subst e1 e2
        obtain ⟨rfl, rfl, j0, j1⟩ := hj
        refine ⟨c, ρ, _, ρ1, R0, h1, fun vs H1 R1 r1 m1 => ?_⟩
        cases r1 with
        | cons w1 t1 =>
          obtain ⟨v, v', rfl, w2, w3⟩ := rpa2 t1
          cases w1
          cases w2
          cases w3
          exact ⟨0, j, 2, _, rfl, rgc2 j0 j1, q _ H1 R1 m1 (jok_stp 2 _)⟩
      · cases e
    · cases e
end
@[simp] theorem isTy_int_none  : isTy "int" .none = false := by simp [isTy, isN, tyName]
@[simp] theorem isTy_int_bool (b : Bool) : isTy "int" (.bool b) = true := by simp [isTy, isN, tyName]
@[simp] theorem isTy_int_int (i : Int) : isTy "int" (.int i) = true := by simp [isTy, isN, tyName]
@[simp] theorem isTy_int_str (x : Str) : isTy "int" (.str x) = false := by simp [isTy, isN, tyName]
@[simp] theorem isTy_int_list (xs : List PyData) : isTy "int" (.list xs) = false := by simp [isTy, isN, tyName]
@[simp] theorem isTy_int_tuple (xs : List PyData) : isTy "int" (.tuple xs) = false := by simp [isTy, isN, tyName]
@[simp] theorem isTy_bool_none  : isTy "bool" .none = false := by simp [isTy, isN, tyName]
@[simp] theorem isTy_bool_bool (b : Bool) : isTy "bool" (.bool b) = true := by simp [isTy, isN, tyName]
@[simp] theorem isTy_bool_int (i : Int) : isTy "bool" (.int i) = false := by simp [isTy, isN, tyName]
@[simp] theorem isTy_bool_str (x : Str) : isTy "bool" (.str x) = false := by simp [isTy, isN, tyName]
@[simp] theorem isTy_bool_list (xs : List PyData) : isTy "bool" (.list xs) = false := by simp [isTy, isN, tyName]
@[simp] theorem isTy_bool_tuple (xs : List PyData) : isTy "bool" (.tuple xs) = false := by simp [isTy, isN, tyName]
@[simp] theorem isTy_str_none  : isTy "str" .none = false := by simp [isTy, isN, tyName]
@[simp] theorem isTy_str_bool (b : Bool) : isTy "str" (.bool b) = false := by simp [isTy, isN, tyName]
@[simp] theorem isTy_str_int (i : Int) : isTy "str" (.int i) = false := by simp [isTy, isN, tyName]
@[simp] theorem isTy_str_str (x : Str) : isTy "str" (.str x) = true := by simp [isTy, isN, tyName]
@[simp] theorem isTy_str_list (xs : List PyData) : isTy "str" (.list xs) = false := by simp [isTy, isN, tyName]
@[simp] theorem isTy_str_tuple (xs : List PyData) : isTy "str" (.tuple xs) = false := by simp [isTy, isN, tyName]
@[simp] theorem isTy_list_none  : isTy "list" .none = false := by simp [isTy, isN, tyName]
@[simp] theorem isTy_list_bool (b : Bool) : isTy "list" (.bool b) = false := by simp [isTy, isN, tyName]
@[simp] theorem isTy_list_int (i : Int) : isTy "list" (.int i) = false := by simp [isTy, isN, tyName]
@[simp] theorem isTy_list_str (x : Str) : isTy "list" (.str x) = false := by simp [isTy, isN, tyName]
@[simp] theorem isTy_list_list (xs : List PyData) : isTy "list" (.list xs) = true := by simp [isTy, isN, tyName]
@[simp] theorem isTy_list_tuple (xs : List PyData) : isTy "list" (.tuple xs) = false := by simp [isTy, isN, tyName]
@[simp] theorem isTy_tuple_none  : isTy "tuple" .none = false := by simp [isTy, isN, tyName]
@[simp] theorem isTy_tuple_bool (b : Bool) : isTy "tuple" (.bool b) = false := by simp [isTy, isN, tyName]
@[simp] theorem isTy_tuple_int (i : Int) : isTy "tuple" (.int i) = false := by simp [isTy, isN, tyName]
@[simp] theorem isTy_tuple_str (x : Str) : isTy "tuple" (.str x) = false := by simp [isTy, isN, tyName]
@[simp] theorem isTy_tuple_list (xs : List PyData) : isTy "tuple" (.list xs) = false := by simp [isTy, isN, tyName]
@[simp] theorem isTy_tuple_tuple (xs : List PyData) : isTy "tuple" (.tuple xs) = true := by simp [isTy, isN, tyName]
@[simp] theorem dEq_ii (i j : Int) : dEq (.int i) (.int j) = some (.bool (decide (i = j))) := rfl
@[simp] theorem dNe_ii (i j : Int) : dNe (.int i) (.int j) = some (.bool (!decide (i = j))) := rfl
@[simp] theorem dEq_bb (a b : Bool) : dEq (.bool a) (.bool b) = some (.bool (a == b)) := rfl
@[simp] theorem dNe_bb (a b : Bool) : dNe (.bool a) (.bool b) = some (.bool (!(a == b))) := rfl
theorem dEq_self : ∀ {d : PyData}, SeqAt.shaped d = true → PyData.eqv d d = true → dEq d d = some (.bool true)
  | .int i, _, _ => by simp
  | .none, _, _ => rfl
  | .bool b, _, _ => by simp
  | .str x, h, e => by simp [dEq, h, e]
  | .list xs, h, e => by simp [dEq, h, e]
  | .tuple xs, h, e => by simp [dEq, h, e]
  | .dict xs, h, e => by simp [dEq, h, e]
end PG
end
section
set_option Elab.async false
set_option linter.all false
set_option maxRecDepth 100000
namespace PG
open PySem PySem.Spec PyProof.Rows L2
section
variable {X : Cx} {e a b : Expr} {pos : Pos} {f g h : EF} {n m : NF} {es : List Expr}
/-! ### sorted(xs), pairs of whole numbers -/
def sPairs (K : PySem.W.Frag) : List V → Hp → VK → Prop := fun vs H Q => ∃ (a : Addr) (xs : List V) (k : V → Int × Int), vs = [V.ref a] ∧ SqL K H a xs ∧ (∀ x ∈ xs, ∃ t, x = V.ref t ∧ SqT K H t [.int (k x).1, .int (k x).2]) ∧
  ∀ ys p, SrtO.Srtd (ltP k) ys → SrtO.Stb (ltP k) ys xs → H p = none → Q (.ref p) (upd H p (.lst ys))
theorem cr_sPairs : CallR X (.builtin "sorted") (sPairs X.K) := by
  intro pins s σ H vs us Q I r h
  obtain ⟨a, xs, k, rfl, hs, hx, q⟩ := h
  obtain ⟨its, rv, hl, hz⟩ := I.list hs
  obtain ⟨u, rfl, ru⟩ := vals1 r
  obtain rfl : u = Value.ref a := ru
  obtain ⟨e1, e2⟩ := refs_back rv fun x m => by
    obtain ⟨t, e, _⟩ := hx x m
    exact ⟨t, e⟩
  refine SrtO.sorted_pairsO (k := fun u => k (backV u)) hl.isList (by rw [← rv.length]; exact hz) (fun v hv => ?_) fun h' d out h1 h2 kp hd hn => ?_
  · obtain ⟨t, rfl⟩ := e2 v hv
    have hm : V.ref t ∈ xs := by rw [e1]; exact List.mem_map.mpr ⟨_, hv, rfl⟩
    obtain ⟨t', e, ht⟩ := hx _ hm
    cases e
    obtain ⟨its2, r2, ⟨o, ho, hc, n, hd⟩, _⟩ := I.tuple ht
    obtain ⟨u1, u2, rfl, ri, rj⟩ := vals2 r2
    obtain ⟨t1, rfl⟩ := ri
    obtain ⟨t2, rfl⟩ := rj
    exact ⟨t, o, t1, t2, n, rfl, ho, hc, hd⟩
  · have h3 : ∀ u ∈ out, ∃ a, u = Value.ref a := fun u hu => e2 u (h2.perm.mem_iff.mp hu)
    obtain ⟨n, hn⟩ := hn
    have hb : SrtO.Stb (ltP k) (out.map backV) xs := by
      rw [e1]
      exact SrtO.Stb.map (ltP_swo k) backV h2
    refine ⟨.ref d, upd H d (.lst (out.map backV)), I.laid (t' := s.toks) kp hd ⟨?_, out, n, vals_back h3, hn⟩, rfl, q _ d (SrtO.srtd_map h1) hb (I.hok.fresh hd)⟩
    rw [hb.len]
    exact hz
/-- the pairs, by their first and then by their second number -/
def insP (k : Int × Int) : List (Int × Int) → List (Int × Int)
  | [] => [k]
  | j :: r => if SrtO.lexB j k then j :: insP k r else k :: j :: r
def sortP : List (Int × Int) → List (Int × Int)
  | [] => []
  | k :: r => insP k (sortP r)
theorem perm_insP (k : Int × Int) : ∀ l, (insP k l).Perm (k :: l)
  | [] => List.Perm.refl _
  | j :: r => by
    unfold insP
    split
    · exact ((perm_insP k r).cons j).trans (List.Perm.swap k j r)
    · exact List.Perm.refl _
theorem perm_sortP : ∀ l, (sortP l).Perm l
  | [] => List.Perm.refl _
  | k :: r => (perm_insP k _).trans ((perm_sortP r).cons k)
/-- sorted: no later one is before an earlier one -/
def SrtP (l : List (Int × Int)) : Prop := l.Pairwise fun x y => SrtO.lexB y x = false
theorem srt_insP (k : Int × Int) : ∀ l, SrtP l → SrtP (insP k l)
  | [], _ => by simp [SrtP, insP]
  | j :: r, h => by
    obtain ⟨h1, h2⟩ := List.pairwise_cons.mp h
    unfold insP
    split
    · rename_i c
      refine List.pairwise_cons.mpr ⟨fun x hx => ?_, srt_insP k r h2⟩
      rcases List.mem_cons.mp ((perm_insP k r).mem_iff.mp hx) with rfl | hx
      · have := SrtO.lexB_iff.mp c
        refine SrtO.lexB_no.mpr ?_
        omega
      · exact h1 x hx
    · rename_i c
      have c' : SrtO.lexB j k = false := by simpa using c
      refine List.pairwise_cons.mpr ⟨fun x hx => ?_, h⟩
      rcases List.mem_cons.mp hx with rfl | hx
      · exact c'
      · have a := SrtO.lexB_no.mp c'
        have b := SrtO.lexB_no.mp (h1 x hx)
        refine SrtO.lexB_no.mpr ?_
        omega
theorem srt_sortP : ∀ l, SrtP (sortP l)
  | [] => by simp [SrtP, sortP]
  | k :: r => srt_insP k _ (srt_sortP r)
theorem srt_uniq : ∀ {l m : List (Int × Int)}, SrtP l → SrtP m → l.Perm m → l = m
  | [], m, _, _, h => (List.Perm.eq_nil h.symm).symm
  | x :: l, [], _, _, h => absurd h.length_eq (by simp)
  | x :: l, y :: m, hl, hm, h => by
    obtain ⟨l1, l2⟩ := List.pairwise_cons.mp hl
    obtain ⟨m1, m2⟩ := List.pairwise_cons.mp hm
    have e : x = y := by
      rcases List.mem_cons.mp (h.mem_iff.mp (List.mem_cons_self (a := x) (l := l))) with e | hx
      · exact e
      · rcases List.mem_cons.mp (h.mem_iff.mpr (List.mem_cons_self (a := y) (l := m))) with e | hy
        · exact e.symm
        · have a := SrtO.lexB_no.mp (m1 x hx)
          have b := SrtO.lexB_no.mp (l1 y hy)
          exact Prod.ext (by omega) (by omega)
    subst e
    rw [srt_uniq l2 m2 h.cons_inv]
def pairOf : PyData → Option (Int × Int)
  | .tuple [.int i, .int j] => some (i, j)
  | _ => none
def pairsOf : List PyData → Option (List (Int × Int))
  | [] => some []
  | d :: r => (match pairOf d, pairsOf r with
    | some p, some l => some (p :: l)
    | _, _ => none)
def prD (x : Int × Int) : PyData := .tuple [.int x.1, .int x.2]
theorem pairOf_eq {d : PyData} {p : Int × Int} (h : pairOf d = some p) : d = prD p := by
  unfold pairOf at h
  split at h
  · cases h; rfl
  · cases h
theorem pairsOf_eq : ∀ {ds : List PyData} {l : List (Int × Int)}, pairsOf ds = some l → ds = l.map prD
  | [], l, h => by cases h; rfl
  | d :: r, l, h => by
    unfold pairsOf at h
    split at h
    · rename_i p l' h1 h2
      cases h
      rw [pairOf_eq h1, pairsOf_eq h2]
      rfl
    · cases h
def dSortP : PyData → Option (List PyData)
  | .list ds => (match pairsOf ds with
    | some l => some ((sortP l).map prD)
    | none => none)
  | _ => none
/-- what a value is, as a pair -/
theorem rp_pair {K : PySem.W.Frag} {A : Addr → Prop} {H : Hp} {v : V} {p : Int × Int} (h : Rp K A H v (prD p)) : ∃ t, v = V.ref t ∧ SqT K H t [.int p.1, .int p.2] := by
  cases h with
  | @tup t xs _ l al =>
    have e := RpA.ints (ns := [p.1, p.2]) al
    subst e
    exact ⟨t, rfl, l.sq⟩
def pairsAt (K : PySem.W.Frag) (H : Hp) : List V → List (Int × Int) → Prop
  | [], [] => True
  | v :: vs, p :: l => (∃ t, v = V.ref t ∧ SqT K H t [.int p.1, .int p.2]) ∧ pairsAt K H vs l
  | _, _ => False
def sPairs2 (K : PySem.W.Frag) : List V → Hp → VK → Prop := fun vs H Q => ∃ (a : Addr) (xs : List V) (ps : List (Int × Int)), vs = [V.ref a] ∧ SqL K H a xs ∧ pairsAt K H xs ps ∧
  ∀ ys p (k : V → Int × Int), ps = xs.map k → SrtO.Srtd (ltP k) ys → SrtO.Stb (ltP k) ys xs → H p = none → Q (.ref p) (upd H p (.lst ys))
theorem pairsAt_map {K : PySem.W.Frag} {H : Hp} (k : V → Int × Int) (hk : ∀ t p, SqT K H t [.int p.1, .int p.2] → k (.ref t) = p) : ∀ {vs : List V} {l : List (Int × Int)}, pairsAt K H vs l → l = vs.map k ∧ ∀ x ∈ vs, ∃ t, x = V.ref t ∧ SqT K H t [.int (k x).1, .int (k x).2]
  | [], [], _ => ⟨rfl, by simp⟩
  | [], p :: l, h => by cases h
  | v :: vs, [], h => by cases h
  | v :: vs, p :: l, h => by
    obtain ⟨⟨t, rfl, ht⟩, h2⟩ := h
    obtain ⟨e, he⟩ := pairsAt_map k hk h2
    have hp := hk t p ht
    refine ⟨by rw [List.map_cons, hp, ← e], fun x hx => ?_⟩
    rcases List.mem_cons.mp hx with rfl | hx
    · rw [hp]
      exact ⟨t, rfl, ht⟩
    · exact he x hx
open Classical in
noncomputable def keyOf (K : PySem.W.Frag) (H : Hp) : V → Int × Int
  | .ref t => if h : ∃ p : Int × Int, SqT K H t [.int p.1, .int p.2] then h.choose else (0, 0)
  | _ => (0, 0)
theorem cr_sPairs2 : CallR X (.builtin "sorted") (sPairs2 X.K) := by
  intro pins s σ H vs us Q I r h
  obtain ⟨a, xs, ps, hv, hs, hx, q⟩ := h
  have hk : ∀ t p, SqT X.K H t [.int p.1, .int p.2] → keyOf X.K H (.ref t) = p := by
    intro t p hp
    have ex : ∃ p : Int × Int, SqT X.K H t [.int p.1, .int p.2] := ⟨p, hp⟩
    have e := I.tuple_inj hp ex.choose_spec
    simp only [List.cons.injEq, V.int.injEq, and_true] at e
    have e2 : keyOf X.K H (.ref t) = ex.choose := by
      unfold keyOf
      exact dif_pos ex
    rw [e2]
    exact (Prod.ext e.1 e.2).symm
  obtain ⟨e1, e2⟩ := pairsAt_map _ hk hx
  exact cr_sPairs pins s σ H vs us Q I r ⟨a, xs, keyOf X.K H, hv, hs, e2, fun ys p h1 h2 h3 => q ys p _ e1 h1 h2 h3⟩
theorem pairsAt_of {K : PySem.W.Frag} {A : Addr → Prop} {H : Hp} : ∀ {vs : List V} {l : List (Int × Int)}, RpA K A H vs (l.map prD) → pairsAt K H vs l
  | [], [], _ => trivial
  | [], p :: l, h => by cases h
  | v :: vs, [], h => by cases h
  | v :: vs, p :: l, h => by
    cases h with
    | cons h1 h2 => exact ⟨rp_pair h1, pairsAt_of h2⟩
theorem rpa_mem {K : PySem.W.Frag} {A : Addr → Prop} {H : Hp} (k : V → Int × Int) : ∀ {xs : List V}, RpA K A H xs ((xs.map k).map prD) → ∀ x ∈ xs, Rp K A H x (prD (k x))
  | [], _, x, hx => by cases hx
  | y :: ys, h, x, hx => by
    cases h with
    | cons h1 h2 =>
      rcases List.mem_cons.mp hx with rfl | hx
      · exact h1
      · exact rpa_mem k h2 x hx
theorem rpa_of_mem {K : PySem.W.Frag} {A : Addr → Prop} {H : Hp} (k : V → Int × Int) : ∀ {ys : List V}, (∀ y ∈ ys, Rp K A H y (prD (k y))) → RpA K A H ys ((ys.map k).map prD)
  | [], _ => .nil
  | y :: ys, h => .cons (h y (by simp)) (rpa_of_mem k fun z hz => h z (by simp [hz]))
theorem fn_sortP {K : PySem.W.Frag} : FnN K (sPairs2 K) (n1of dSortP) := by
  intro c ρ σ H vs ds ys Q R r ho q
  obtain ⟨x, rfl, h2⟩ := n1_inv ho
  obtain ⟨v, rfl, w1⟩ := rpa1 r
  unfold dSortP at h2
  split at h2
  · rename_i ds
    split at h2
    · rename_i l hl
      cases h2
      have e := pairsOf_eq hl
      subst e
      cases w1 with
      | @lst p xs _ la al =>
        refine ⟨p, xs, l, rfl, la.sq, pairsAt_of al, fun zs p2 k hk h1 h3 hp => q p2 zs hp ?_⟩
        have e1 : zs.map k = sortP l := by
          refine srt_uniq (SrtO.srtd_map (lt := SrtO.lexB) (f := k) h1) (srt_sortP l) ?_
          rw [hk]
          exact (h3.perm.map k).trans (perm_sortP _).symm
        rw [← e1]
        refine rpa_of_mem k fun y hy => ?_
        rw [hk] at al
        exact rpa_mem k al y (h3.perm.mem_iff.mp hy)
    · cases h2
  · cases h2
end
end PG
end
section
set_option Elab.async false
set_option linter.all false
set_option maxRecDepth 100000
namespace PG
open PySem PySem.Spec PyProof.Rows L2
/-! ### a table of the module with whole-number keys and values -/
def entOk : List DictEntry → List (Int × Int) → Bool
  | [], [] => true
  | e :: r, p :: t => decide (e.hash = hashInt p.1) && Value.isInt p.1 e.key && Value.isInt p.2 e.val && entOk r t
  | _, _ => false
structure ITab (K : PySem.W.Frag) (d : Addr) (tab : List (Int × Int)) : Prop where
  at_ : ∃ es n, K.lookup d = some ⟨.type "dict", none, .dict es n, #[]⟩ ∧ entOk es.toList tab = true
  low : (d == sysModules) = false
def getI (tab : List (Int × Int)) (i : Int) : Option Int := (tab.find? fun p => decide (p.1 = i)).map (·.2)
@[simp] def dGetT (tab : List (Int × Int)) : PyData → PyData → Option PyData
  | .int i, y => some (match getI tab i with
    | some v => .int v
    | none => y)
  | _, _ => none
theorem entOk_cons {e : DictEntry} {r : List DictEntry} {p : Int × Int} {t : List (Int × Int)} (h : entOk (e :: r) (p :: t) = true) : e.hash = hashInt p.1 ∧ Value.isInt p.1 e.key = true ∧ Value.isInt p.2 e.val = true ∧ entOk r t = true := by
  simp only [entOk, Bool.and_eq_true, decide_eq_true_eq] at h
  exact ⟨h.1.1.1, h.1.1.2, h.1.2, h.2⟩
theorem entOk_keys {P : Program} {w : World} : ∀ {es : List DictEntry} {tab : List (Int × Int)}, entOk es tab = true → ∀ e ∈ es, ∃ k, (mixKind P w).is k e.key = true ∧ e.hash = (mixKind P w).hash k
  | [], [], _, e, he => by cases he
  | [], _ :: _, h, _, _ => by cases h
  | _ :: _, [], h, _, _ => by cases h
  | e :: r, p :: t, h, x, hx => by
    obtain ⟨h1, h2, h3, h4⟩ := entOk_cons h
    rcases List.mem_cons.mp hx with rfl | hx
    · exact ⟨.inl p.1, h2, h1⟩
    · exact entOk_keys h4 x hx
theorem entOk_find {P : Program} {w : World} : ∀ {es : List DictEntry} {tab : List (Int × Int)} (i : Int), entOk es tab = true →
    match getI tab i with
    | some v => ∃ t, (es.find? fun e => (mixKind P w).is (.inl i) e.key).map (·.val) = some (Value.int v t)
    | none => (es.find? fun e => (mixKind P w).is (.inl i) e.key).map (·.val) = none
  | [], [], i, _ => rfl
  | [], _ :: _, _, h => by cases h
  | _ :: _, [], _, h => by cases h
  | e :: r, p :: t, i, h => by
    obtain ⟨h1, h2, h3, h4⟩ := entOk_cons h
    have ih := entOk_find (P := P) (w := w) i h4
    obtain ⟨tk, ek⟩ := Value.isInt_shape h2
    obtain ⟨tv, ev⟩ := Value.isInt_shape h3
    unfold getI at ih ⊢
    by_cases c : p.1 = i
    · have e1 : (mixKind P w).is (.inl i) e.key = true := by rw [ek, ← c]; exact mixKind_int P w p.1 tk
      rw [List.find?_cons_of_pos (by simpa using c), List.find?_cons_of_pos (p := fun e : DictEntry => (mixKind P w).is (.inl i) e.key) e1]
      exact ⟨tv, by rw [Option.map_some, ev]⟩
    · have e1 : ¬ (mixKind P w).is (.inl i) e.key = true := by
        rw [ek]
        intro z
        have z' : Value.isInt i (Value.int p.1 tk) = true := z
        obtain ⟨t2, e2⟩ := Value.isInt_shape z'
        cases e2
        exact c rfl
      rw [List.find?_cons_of_neg (by simpa using c), List.find?_cons_of_neg (p := fun e : DictEntry => (mixKind P w).is (.inl i) e.key) e1]
      exact ih
section
variable {X : Cx} {d : Addr} {tab : List (Int × Int)} {o e e2 : Expr} {apos cpos : Pos} {f g : EF}
theorem itab_map (D : ITab X.K d tab) {pins : List (Addr × Obj)} {σ : L2.St} {H : Hp} {s : Shared} (I : L2.Inv X pins σ H s) : ∃ m : Key → Option Value, s.heap.MapOf (mixKind X.prog X.w) d m ∧ ∀ i : Int, (match getI tab i with
    | some v => ∃ t, m (.inl i) = some (Value.int v t)
    | none => m (.inl i) = none) := by
  obtain ⟨es, n, hl, hk⟩ := D.at_
  refine ⟨fun k => findBy (mixKind X.prog X.w).is es k, ⟨_, es, n, I.kIn _ _ hl, ⟨rfl, rfl, rfl⟩, rfl, fun x hx => entOk_keys hk x (Array.mem_toList_iff.mpr hx), fun _ => rfl⟩, fun i => ?_⟩
  have h := entOk_find (P := X.prog) (w := X.w) i hk
  obtain ⟨l⟩ := es
  have q : findBy (mixKind X.prog X.w).is (Array.mk l) (.inl i) = (l.find? fun e => (mixKind X.prog X.w).is (.inl i) e.key).map (·.val) := by
    unfold findBy
    rw [List.find?_toArray]
  dsimp only
  rw [q]
  exact h
def rGetT (tab : List (Int × Int)) : V → V → Hp → VK → Prop := fun y z H Q => ∃ i : Int, y = .int i ∧ Q (match getI tab i with
  | some v => .int v
  | none => z) H
theorem pe_kget2 {ty tx : TE} (D : ITab X.K d tab) (ho : PE X o (tC (.ref d))) (he : PE X e ty) (hf : PE X e2 tx) (m : M2 X o "get" apos e e2 cpos) : PE X (.Call (.Attribute o "get" apos) [e, e2] [] cpos) (fun σ H Q => ty σ H fun y H2 => tx σ H2 fun z H3 => rGetT tab y z H3 Q) := by
  refine ⟨fun pins s σ H Q I h => ?_⟩
  refine wpAny_Call_method m.base m.few m.line PySem.F.plainAttrs_dict PySem.F.slot_dict_get PySem.F.type_dict_get (thn (ho.run pins s σ H (fun x H1 => x = .ref d ∧ ty σ H1 fun y H2 => tx σ H2 fun z H3 => rGetT tab y z H3 Q) I ⟨rfl, h⟩) fun u s1 ⟨x, H1, I1, rx, ex, q1⟩ => ?_)
  subst ex
  obtain rfl : u = Value.ref d := rx
  obtain ⟨mf, hm, _⟩ := itab_map D I1
  refine ⟨hm.typeIs, fun b q => ?_, ?_⟩
  · cases q
    obtain ⟨ob, _, _, h1, h2, _⟩ := hm
    exact ⟨ob, h1, h2.2.1⟩
  rw [m.trees]
  refine Calls.callWith_builtin rfl (Calls.evalArgs_plain (Calls.spliced_cons (thn (he.run pins s1 σ H1 _ I1 q1) fun iv s2 ⟨y, H2, I2, ry, q2⟩ =>
    Calls.spliced_cons (thn (hf.run pins s2 σ H2 _ I2 q2) fun fv s3 ⟨z, H3, I3, rz, i, ei, q3⟩ => Calls.spliced_nil ?_))))
  subst ei
  obtain ⟨mf, hm, hmi⟩ := itab_map D I3
  obtain ⟨t, rfl⟩ := ry
  refine call_meetsIn PySem.F.slot_dict_get hm.typeIs PySem.F.entry_dict_get (PySem.F.args_dict_get_3 _ _ _) (meets_dict_get_default (mixKind X.prog X.w) d (mixKind_int X.prog X.w i t) D.low fv) ⟨_, hm, ?_⟩
  have hi := hmi i
  refine ⟨_, H3, I3.tok _, ?_, q3⟩
  cases hg : getI tab i with
  | some v =>
    rw [hg] at hi
    obtain ⟨t2, e2⟩ := hi
    rw [e2]
    exact ⟨t2, rfl⟩
  | none =>
    rw [hg] at hi
    rw [hi]
    exact rz
theorem os_getT {K : PySem.W.Frag} : OpS K (rGetT tab) (dGetT tab) := by
  intro c ρ σ H v1 v2 x y d Q R r1 r2 ho q
  match x, ho, r1 with
  | .int i, ho, r1 =>
    cases ho
    cases r1
    refine ⟨i, rfl, q _ _ R ?_ fun _ _ h => h⟩
    cases getI tab i with
    | some v => exact .int v
    | none => exact r2
theorem ev_kget2 (D : ITab X.K d tab) (ho : PE X o (tC (.ref d))) (he : PE X e (tE X.K f)) (hf : PE X e2 (tE X.K g)) (m : M2 X o "get" apos e e2 cpos) : PE X (.Call (.Attribute o "get" apos) [e, e2] [] cpos) (tE X.K (eBin (dGetT tab) f g)) :=
  pe_of (pe_kget2 D ho he hf m) (rd_bin os_getT)
end
end PG
end
section
set_option Elab.async false
set_option linter.all false
set_option maxRecDepth 100000
namespace PG
open PySem PySem.Spec PyProof.Rows L2
/-! ### x in xs, whole numbers; a table of the module: k in T, T[k] -/
def isInI (i : Int) (ns : List Int) : Bool := ns.any fun y => y == i
def inD (i : Int) (ds : List PyData) : Option Bool := match intsOf ds with
  | some ns => some (isInI i ns)
  | none => none
@[simp] def dIn : PyData → PyData → Option PyData
  | .int i, .list ds => (inD i ds).map fun b => .bool b
  | .int i, .tuple ds => (inD i ds).map fun b => .bool b
  | _, _ => none
@[simp] def dNotIn : PyData → PyData → Option PyData
  | .int i, .list ds => (inD i ds).map fun b => .bool (!b)
  | .int i, .tuple ds => (inD i ds).map fun b => .bool (!b)
  | _, _ => none
theorem inV_ints (i : Int) : ∀ ns : List Int, inV (.int i) (ns.map V.int) = isInI i ns
  | [] => rfl
  | k :: r => by
    have ih := inV_ints i r
    unfold inV isInI at ih ⊢
    rw [List.map_cons, List.any_cons, List.any_cons, ih]
    rfl
theorem flat_ints : ∀ ns : List Int, (ns.map V.int).all flatV = true
  | [] => rfl
  | k :: r => by
    have ih := flat_ints r
    simp only [List.map_cons, List.all_cons, ih, flatV, Bool.true_and]
theorem inD_inv {i : Int} {ds : List PyData} {b : Bool} (h : inD i ds = some b) : ∃ ns : List Int, ds = ns.map PyData.int ∧ b = isInI i ns := by
  unfold inD at h
  split at h
  · rename_i ns hn
    cases h
    exact ⟨ns, intsOf_map hn, rfl⟩
  · cases h
theorem os_in {K : PySem.W.Frag} : OpS K (rIn K false) dIn := by
  intro c ρ σ H v1 v2 x y d Q R r1 r2 ho q
  match x, y, ho, r1, r2 with
  | .int i, .list ds, ho, r1, r2 =>
    obtain ⟨b, hb, rfl⟩ := Option.map_eq_some_iff.mp ho
    obtain ⟨ns, rfl, rfl⟩ := inD_inv hb
    cases r1
    cases r2 with
    | @lst p xs _ l al =>
      have e := al.ints
      subst e
      exact ⟨p, _, rfl, .inl l.sq, rfl, flat_ints ns, by rw [inV_ints]; exact q _ _ R (.bl _) fun _ _ h => h⟩
  | .int i, .tuple ds, ho, r1, r2 =>
    obtain ⟨b, hb, rfl⟩ := Option.map_eq_some_iff.mp ho
    obtain ⟨ns, rfl, rfl⟩ := inD_inv hb
    cases r1
    cases r2 with
    | @tup p xs _ l al =>
      have e := al.ints
      subst e
      exact ⟨p, _, rfl, .inr l.sq, rfl, flat_ints ns, by rw [inV_ints]; exact q _ _ R (.bl _) fun _ _ h => h⟩
theorem os_notIn {K : PySem.W.Frag} : OpS K (rIn K true) dNotIn := by
  intro c ρ σ H v1 v2 x y d Q R r1 r2 ho q
  match x, y, ho, r1, r2 with
  | .int i, .list ds, ho, r1, r2 =>
    obtain ⟨b, hb, rfl⟩ := Option.map_eq_some_iff.mp ho
    obtain ⟨ns, rfl, rfl⟩ := inD_inv hb
    cases r1
    cases r2 with
    | @lst p xs _ l al =>
      have e := al.ints
      subst e
      exact ⟨p, _, rfl, .inl l.sq, rfl, flat_ints ns, by rw [inV_ints]; exact q _ _ R (.bl _) fun _ _ h => h⟩
  | .int i, .tuple ds, ho, r1, r2 =>
    obtain ⟨b, hb, rfl⟩ := Option.map_eq_some_iff.mp ho
    obtain ⟨ns, rfl, rfl⟩ := inD_inv hb
    cases r1
    cases r2 with
    | @tup p xs _ l al =>
      have e := al.ints
      subst e
      exact ⟨p, _, rfl, .inr l.sq, rfl, flat_ints ns, by rw [inV_ints]; exact q _ _ R (.bl _) fun _ _ h => h⟩
section
variable {X : Cx} {d : Addr} {tab : List (Int × Int)} {a b : Expr} {pos : Pos} {f g : EF}
@[simp] def dInT (tab : List (Int × Int)) : PyData → Option PyData
  | .int i => some (.bool (getI tab i).isSome)
  | _ => none
@[simp] def dNotInT (tab : List (Int × Int)) : PyData → Option PyData
  | .int i => some (.bool (!(getI tab i).isSome))
  | _ => none
@[simp] def dIxT (tab : List (Int × Int)) : PyData → Option PyData
  | .int i => (getI tab i).map PyData.int
  | _ => none
theorem map_isSome {m : Option Value} {g : Option Int} (h : match g with
    | some v => ∃ t, m = some (Value.int v t)
    | none => m = none) : m.isSome = g.isSome := by
  cases g with
  | some v => obtain ⟨t, e⟩ := h; rw [e]; rfl
  | none =>
    have h : m = none := h
    rw [h]
    rfl
theorem op_inT (D : ITab X.K d tab) : OpR X (compareOp .In) (fun x y H Q => ∃ i : Int, x = .int i ∧ y = .ref d ∧ Q (.bl (getI tab i).isSome) H) := by
  intro pins s σ H x y v u Q I rx ry h
  obtain ⟨i, rfl, rfl, q⟩ := h
  obtain ⟨t, rfl⟩ := rx
  cases ry
  obtain ⟨mf, hm, hi⟩ := itab_map D I
  refine wpAny_in_of (mixKind_int X.prog X.w i t) D.low hm ?_
  rw [map_isSome (hi i)]
  exact ⟨.bl _, H, I.tok _, rfl, q⟩
theorem op_notInT (D : ITab X.K d tab) : OpR X (compareOp .NotIn) (fun x y H Q => ∃ i : Int, x = .int i ∧ y = .ref d ∧ Q (.bl (!(getI tab i).isSome)) H) := by
  intro pins s σ H x y v u Q I rx ry h
  obtain ⟨i, rfl, rfl, q⟩ := h
  obtain ⟨t, rfl⟩ := rx
  cases ry
  obtain ⟨mf, hm, hi⟩ := itab_map D I
  refine wpAny_notIn_of (mixKind_int X.prog X.w i t) D.low hm ?_
  rw [map_isSome (hi i)]
  exact ⟨.bl _, H, I.tok _, rfl, q⟩
theorem ix_T (D : ITab X.K d tab) : IxR X (fun x y H Q => ∃ (i v : Int), x = .ref d ∧ y = .int i ∧ getI tab i = some v ∧ Q (.int v) H) := by
  intro value slice pins s σ H x y v u Q I rx ry h hs
  obtain ⟨i, w, rfl, rfl, e, q⟩ := h
  cases rx
  obtain ⟨t, rfl⟩ := ry
  obtain ⟨mf, hm, hi⟩ := itab_map D I
  have hi := hi i
  rw [e] at hi
  obtain ⟨t2, e2⟩ := hi
  exact tail_any hm.typeIs slot_dict_getitem.lookup (wpAny_getItem_of (mixKind_int X.prog X.w i t) hm e2 ⟨.int w, H, I.tok _, ⟨t2, rfl⟩, q⟩) hs
theorem un_inv {o : PyData → Option PyData} {ρ ρ' : Rho} {z : PyData} (h : eUn o f ρ = some (z, ρ')) : ∃ x, f ρ = some (x, ρ') ∧ o x = some z := by
  unfold eUn at h
  split at h
  · rename_i x ρ1 h1
    split at h
    · rename_i w h2
      cases h
      exact ⟨x, h1, h2⟩
    · cases h
  · cases h
theorem ev_inT (D : ITab X.K d tab) (ha : PE X a (tE X.K f)) (hb : PE X b (tC (.ref d))) (hm : behindInMarks .In b = false) : PE X (.Compare a [.In] [b] pos) (tE X.K (eUn (dInT tab) f)) :=
  pe_of (pe_cmpR (op_inT D) ha hb hm) fun σ H Q ⟨c, ρ, z, ρ', R, e, q⟩ => by
    obtain ⟨x, h1, h2⟩ := un_inv e
    refine ⟨c, ρ, x, ρ', R, h1, fun v1 H1 R1 r1 m1 => ?_⟩
    match x, h2, r1 with
    | .int i, h2, r1 =>
      cases h2
      cases r1
      exact ⟨i, rfl, rfl, q _ H1 R1 (.bl _) m1⟩
theorem ev_notInT (D : ITab X.K d tab) (ha : PE X a (tE X.K f)) (hb : PE X b (tC (.ref d))) (hm : behindInMarks .NotIn b = false) : PE X (.Compare a [.NotIn] [b] pos) (tE X.K (eUn (dNotInT tab) f)) :=
  pe_of (pe_cmpR (op_notInT D) ha hb hm) fun σ H Q ⟨c, ρ, z, ρ', R, e, q⟩ => by
    obtain ⟨x, h1, h2⟩ := un_inv e
    refine ⟨c, ρ, x, ρ', R, h1, fun v1 H1 R1 r1 m1 => ?_⟩
    match x, h2, r1 with
    | .int i, h2, r1 =>
      cases h2
      cases r1
      exact ⟨i, rfl, rfl, q _ H1 R1 (.bl _) m1⟩
theorem ev_ixT (D : ITab X.K d tab) (ha : PE X a (tC (.ref d))) (hb : PE X b (tE X.K f)) (hs : PlainIx b) : PE X (.Subscript a b pos) (tE X.K (eUn (dIxT tab) f)) :=
  pe_of (pe_ix (ix_T D) ha hb hs) fun σ H Q ⟨c, ρ, z, ρ', R, e, q⟩ => by
    obtain ⟨x, h1, h2⟩ := un_inv e
    refine ⟨c, ρ, x, ρ', R, h1, fun v1 H1 R1 r1 m1 => ?_⟩
    match x, h2, r1 with
    | .int i, h2, r1 =>
      obtain ⟨w, hw, rfl⟩ := Option.map_eq_some_iff.mp h2
      cases r1
      exact ⟨i, w, rfl, rfl, hw, q _ H1 R1 (.int _) m1⟩
end
end PG
end
section
set_option Elab.async false
set_option linter.all false
set_option maxRecDepth 100000
namespace PG
open PySem PySem.Spec PyProof.Rows L2
/-! ### a, b = x, y and a, b, c = x, y, z: no tuple is made -/
@[simp] def sPar (is : List Nat) (f : NF) : SF := fun ρ => match f ρ with
  | some (ds, ρ1) => (match gPairs is ds ρ1 with
    | some ρ2 => some (.next, ρ2)
    | none => none)
  | none => none
theorem par_inv {is : List Nat} {f : NF} {ρ ρ' : Rho} {o : Out} (h : sPar is f ρ = some (o, ρ')) : ∃ ds ρ1, f ρ = some (ds, ρ1) ∧ gPairs is ds ρ1 = some ρ' ∧ o = .next := by
  unfold sPar at h
  split at h
  · rename_i ds ρ1 h1
    split at h
    · rename_i ρ2 h2
      cases h
      exact ⟨ds, ρ1, h1, h2, rfl⟩
    · cases h
  · cases h
theorem pairs_cons {i : Nat} {is : List Nat} {ds : List PyData} {ρ ρ' : Rho} (h : gPairs (i :: is) ds ρ = some ρ') : ∃ d r ρ1, ds = d :: r ∧ setV i d ρ = some ρ1 ∧ gPairs is r ρ1 = some ρ' := by
  cases ds with
  | nil => cases h
  | cons d r =>
    unfold gPairs at h
    split at h
    · rename_i ρ1 h1
      exact ⟨d, r, ρ1, rfl, h1, h⟩
    · cases h
theorem pairs_nil {ds : List PyData} {ρ ρ' : Rho} (h : gPairs [] ds ρ = some ρ') : ds = [] ∧ ρ = ρ' := by
  cases ds with
  | nil => cases h; exact ⟨rfl, rfl⟩
  | cons d r => cases h
section
variable {X : Cx} {a b c' : Expr} {pos : Pos} {n : NF}
theorem es_par {i j : Nat} {x y : Str} {px py pt : Pos} {kt k2 pt2} (hc : X.calm = true) (hN : X.N.Nodup) (hi : X.N[i]? = some x) (hj : X.N[j]? = some y) (hij : i ≠ j)
    (hx : X.env.scope.names.lookup x = some .local) (hy : X.env.scope.names.lookup y = some .local) (ha : PA X [a, b] (tA X.K n))
    (hw : swappedStores [.Tuple [.Name x px, .Name y py] kt pt] (.Tuple [a, b] k2 pt2) X.env = pure (some [x, y]))
    (hs : swapsWithSole [.Tuple [.Name x px, .Name y py] kt pt] (.Tuple [a, b] k2 pt2) pos.line X.env = pure false := by rfl) :
    PS X (.Assign [.Tuple [.Name x px, .Name y py] kt pt] (.Tuple [a, b] k2 pt2) pos) (tS X.K (sPar [i, j] n)) :=
  ps_of (ps_par hc hN hi hj hij hx hy ha hw hs) fun E σ H ⟨c, ρ, o, ρ', R, e, q⟩ => by
    obtain ⟨ds, ρ1, h1, h2, rfl⟩ := par_inv e
    obtain ⟨d1, r1, ρ2, rfl, g1, h2⟩ := pairs_cons h2
    obtain ⟨d2, r2, ρ3, rfl, g2, h2⟩ := pairs_cons h2
    obtain ⟨rfl, rfl⟩ := pairs_nil h2
    refine ⟨c, ρ, _, ρ1, R, h1, fun vs H1 R1 r1 m1 => ?_⟩
    obtain ⟨v, w, rfl, rv, rw'⟩ := rpa2 r1
    obtain ⟨R2, m2⟩ := R1.assign g1 rv
    obtain ⟨R3, m3⟩ := R2.assign g2 (rw'.mv m2)
    exact ⟨v, w, rfl, q _ H1 R3 ((m1.trans m2).trans m3)⟩
theorem rpa3 {K : PySem.W.Frag} {A : Addr → Prop} {H : Hp} {vs : List V} {d1 d2 d3 : PyData} (r : RpA K A H vs [d1, d2, d3]) : ∃ u v w, vs = [u, v, w] ∧ Rp K A H u d1 ∧ Rp K A H v d2 ∧ Rp K A H w d3 := by
  cases r with
  | cons h t =>
    obtain ⟨v, w, rfl, hv, hw⟩ := rpa2 t
    exact ⟨_, v, w, rfl, h, hv, hw⟩
theorem es_par3 {i j l : Nat} {x y z : Str} {px py pz pt : Pos} {kt k2 pt2} (hc : X.calm = true) (hN : X.N.Nodup) (hi : X.N[i]? = some x) (hj : X.N[j]? = some y) (hl : X.N[l]? = some z) (hij : i ≠ j) (hil : i ≠ l) (hjl : j ≠ l)
    (hx : X.env.scope.names.lookup x = some .local) (hy : X.env.scope.names.lookup y = some .local) (hz : X.env.scope.names.lookup z = some .local) (ha : PA X [a, b, c'] (tA X.K n))
    (hw : swappedStores [.Tuple [.Name x px, .Name y py, .Name z pz] kt pt] (.Tuple [a, b, c'] k2 pt2) X.env = pure (some [x, y, z]))
    (hs : swapsWithSole [.Tuple [.Name x px, .Name y py, .Name z pz] kt pt] (.Tuple [a, b, c'] k2 pt2) pos.line X.env = pure false := by rfl) :
    PS X (.Assign [.Tuple [.Name x px, .Name y py, .Name z pz] kt pt] (.Tuple [a, b, c'] k2 pt2) pos) (tS X.K (sPar [i, j, l] n)) :=
  ps_of (ps_par3 hc hN hi hj hl hij hil hjl hx hy hz ha hw hs) fun E σ H ⟨c, ρ, o, ρ', R, e, q⟩ => by
    obtain ⟨ds, ρ1, h1, h2, rfl⟩ := par_inv e
    obtain ⟨d1, r1, ρ2, rfl, g1, h2⟩ := pairs_cons h2
    obtain ⟨d2, r2, ρ3, rfl, g2, h2⟩ := pairs_cons h2
    obtain ⟨d3, r3, ρ4, rfl, g3, h2⟩ := pairs_cons h2
    obtain ⟨rfl, rfl⟩ := pairs_nil h2
    refine ⟨c, ρ, _, ρ1, R, h1, fun vs H1 R1 r1 m1 => ?_⟩
    obtain ⟨u, v, w, rfl, ru, rv, rw'⟩ := rpa3 r1
    obtain ⟨R2, m2⟩ := R1.assign g1 ru
    obtain ⟨R3, m3⟩ := R2.assign g2 (rv.mv m2)
    obtain ⟨R4, m4⟩ := R3.assign g3 (rw'.mv (m2.trans m3))
    exact ⟨u, v, w, rfl, q _ H1 R4 (((m1.trans m2).trans m3).trans m4)⟩
end
section
variable {X : Cx} {d : Addr} {tab : List (Int × Int)} {a b : Expr} {pos : Pos} {f : EF}
theorem et_inT (D : ITab X.K d tab) (ha : PE X a (tE X.K f)) (hb : PE X b (tC (.ref d))) (hm : behindInMarks .In b = false) : PT X (.Compare a [.In] [b] pos) (tT X.K (tBl (eUn (dInT tab) f))) :=
  pt_of (pt_cmpR (op_inT D) ha hb hm) fun σ H Q ⟨c, ρ, z, ρ', R, e, q⟩ => by
    obtain ⟨x, h1, h2⟩ := un_inv (bl_inv e)
    refine ⟨c, ρ, x, ρ', R, h1, fun v1 H1 R1 r1 m1 => ?_⟩
    match x, h2, r1 with
    | .int i, h2, r1 =>
      cases h2
      cases r1
      exact ⟨i, rfl, rfl, _, rfl, q H1 R1 m1⟩
theorem et_notInT (D : ITab X.K d tab) (ha : PE X a (tE X.K f)) (hb : PE X b (tC (.ref d))) (hm : behindInMarks .NotIn b = false) : PT X (.Compare a [.NotIn] [b] pos) (tT X.K (tBl (eUn (dNotInT tab) f))) :=
  pt_of (pt_cmpR (op_notInT D) ha hb hm) fun σ H Q ⟨c, ρ, z, ρ', R, e, q⟩ => by
    obtain ⟨x, h1, h2⟩ := un_inv (bl_inv e)
    refine ⟨c, ρ, x, ρ', R, h1, fun v1 H1 R1 r1 m1 => ?_⟩
    match x, h2, r1 with
    | .int i, h2, r1 =>
      cases h2
      cases r1
      exact ⟨i, rfl, rfl, _, rfl, q H1 R1 m1⟩
end
end PG
end
section
set_option Elab.async false
set_option linter.all false
set_option maxRecDepth 100000
namespace PG
open PySem PySem.Spec PyProof.Rows L2
/-! ### type(x) == T -/
def six : List String := ["NoneType", "bool", "int", "str", "list", "tuple"]
theorem meta_six : ∀ n ∈ six, ∀ s' : Shared, s'.TypeIs (.type n) "type" := by
  intro n hn s'
  simp only [six, List.mem_cons, List.not_mem_nil, or_false] at hn
  rcases hn with rfl | rfl | rfl | rfl | rfl | rfl
  · exact TypeEq.meta_NoneType s'
  · exact TypeEq.meta_bool s'
  · exact TypeEq.meta_int s'
  · exact TypeEq.meta_str s'
  · exact TypeEq.meta_list s'
  · exact TypeEq.meta_tuple s'
section
variable {X : Cx} {a b : Expr} {pos : Pos} {p : Pos} {f : EF}
theorem op_eqTy : OpR X (compareOp .Eq) (fun x y H Q => ∃ m n, x = .ty m ∧ y = .ty n ∧ m ∈ six ∧ n ∈ six ∧ Q (.bl (decide (m = n))) H) := by
  intro pins s σ H x y v u Q I rx ry h
  obtain ⟨m, n, rfl, rfl, hm, hn, q⟩ := h
  cases (show v = Value.type m from rx)
  cases (show u = Value.type n from ry)
  by_cases e : m = n
  · subst e
    rw [decide_eq_true rfl] at q
    exact TypeEq.eq_type_same (meta_six m hm) ⟨.bl true, H, I, rfl, q⟩
  · rw [decide_eq_false e] at q
    exact TypeEq.eq_type_other (meta_six m hm) (meta_six n hn) (by rw [ty_beq, decide_eq_false e]) ⟨.bl false, H, I, rfl, q⟩
@[simp] def dTyIs (T : String) : PyData → Option PyData
  | .dict _ => none
  | x => some (.bool (decide (tyName x = T)))
theorem tyB_of {K : PySem.W.Frag} {A : Addr → Prop} {H : Hp} {v : V} {d : PyData} (r : Rp K A H v d) (h : ∀ kvs, d ≠ .dict kvs) : TyB K H v (tyName d) := by
  cases r with
  | non => exact .non
  | bl b => exact .bl b
  | int i => exact .int i
  | str x => exact .str x
  | lst l a => exact .lst l.sq
  | tup l a => exact .tup l.sq
  | ro l a => exact absurd rfl (h _)
theorem tyIs_inv {T : String} {x d : PyData} (h : dTyIs T x = some d) : (∀ kvs, x ≠ .dict kvs) ∧ d = .bool (decide (tyName x = T)) := by
  cases x <;> first
    | (cases h; done)
    | exact ⟨(fun kvs z => by cases z), (Option.some.inj h).symm⟩
theorem tyName_six {d : PyData} (h : ∀ kvs, d ≠ .dict kvs) : tyName d ∈ six := tyName_mem d h
theorem rd_ty {T : String} (hT : T ∈ six) {K : PySem.W.Frag} : ∀ σ H Q, tE K (eUn (dTyIs T) f) σ H Q → tOp (fun x y H Q => ∃ m n, x = .ty m ∧ y = .ty n ∧ m ∈ six ∧ n ∈ six ∧ Q (.bl (decide (m = n))) H) (fun σ H Q => tE K f σ H fun v H1 => rTyp K [v] H1 Q) (tC (.ty T)) σ H Q := fun σ H Q ⟨c, ρ, d, ρ', R, e, q⟩ => by
  obtain ⟨x, h1, h3⟩ := un_inv e
  obtain ⟨nd, rfl⟩ := tyIs_inv h3
  exact ⟨c, ρ, x, ρ', R, h1, fun v1 H1 R1 r1 m1 => ⟨v1, _, rfl, tyB_of r1 nd, _, _, rfl, rfl, tyName_six nd, hT, q _ H1 R1 (.bl _) m1⟩⟩
theorem pe_type1 {te : TE} (hg : Gl X "type") (hm : X.mg "type" = none) (ha : PE X a te) (he : starEach [a] X.env = (false, eval a X.env) :: starEach [] X.env := by rfl) (hpl : (backTo pos (starEach [] X.env)).any (·.1) = false := by rfl) :
    PE X (.Call (.Name "type" p) [a] [] pos) (fun σ H Q => te σ H fun v H1 => rTyp X.K [v] H1 Q) :=
  pe_of (pe_callTy call_type1 hg hm (by rfl) (pa_cons ha pa_nil he) (by decide) (by decide) he hpl) fun σ H Q h => h
theorem ev_tyEq {T : String} {pos2 : Pos} (hT : T ∈ six) (hg : Gl X "type") (hm : X.mg "type" = none) (ha : PE X a (tE X.K f)) (hb : PE X b (tC (.ty T))) (hk : behindInMarks .Eq b = false)
    (he : starEach [a] X.env = (false, eval a X.env) :: starEach [] X.env := by rfl) (hpl : (backTo pos (starEach [] X.env)).any (·.1) = false := by rfl) :
    PE X (.Compare (.Call (.Name "type" p) [a] [] pos) [.Eq] [b] pos2) (tE X.K (eUn (dTyIs T) f)) :=
  pe_of (pe_cmpR op_eqTy (pe_type1 hg hm ha he hpl) hb hk) (rd_ty hT)
theorem et_tyEq {T : String} {pos2 : Pos} (hT : T ∈ six) (hg : Gl X "type") (hm : X.mg "type" = none) (ha : PE X a (tE X.K f)) (hb : PE X b (tC (.ty T))) (hk : behindInMarks .Eq b = false)
    (he : starEach [a] X.env = (false, eval a X.env) :: starEach [] X.env := by rfl) (hpl : (backTo pos (starEach [] X.env)).any (·.1) = false := by rfl) :
    PT X (.Compare (.Call (.Name "type" p) [a] [] pos) [.Eq] [b] pos2) (tT X.K (tBl (eUn (dTyIs T) f))) :=
  pt_of (pt_cmpR op_eqTy (pe_type1 hg hm ha he hpl) hb hk) (rd_bl (rd_ty hT))
end
end PG
end
section
set_option Elab.async false
set_option linter.all false
set_option maxRecDepth 100000
namespace PG
open PySem PySem.Spec PyProof.Rows L2
/-! ### type(x) != T -/
theorem slotNeTy : Slot "type" (cmpInfo .NotEq).2.1 "object.__ne__" :=
  .of (owner := "object") (n := "__ne__") (by rw [typeLookup_type, builtinLookup_eq_fast]; kernel_rfl) (by decide +kernel) (by decide +kernel) (by decide +kernel)
    (by first | exact .inl (by decide +kernel) | exact .inr (by decide +kernel)) (by rw [isSubtype_type]; kernel_rfl)
section
variable {prog : Program} {w : World} {A : Around} {E : Value → Shared → Prop} {s : Shared}
theorem spEq_same {m : String} {Q : Option Value → Shared → Prop} (hm : ∀ s' : Shared, s'.TypeIs (.type m) "type") (q : Q (some (.bool true)) s) : wpAny (model prog w) A (callSpecialIfBound? (.type m) "__eq__" [.type m]) Q E s :=
  wpAny_callSpecialIfBound?_slot (name := (cmpInfo .Eq).2.1) (hm _) TypeEq.slot_type_eq (call_gives TypeEq.slot_type_eq (hm _) F.entry_object_eq (F.args_object_eq_2 _ _) (TypeEq.object_eq_same rfl (by simp)) q)
theorem spEq_other {m n : String} {Q : Option Value → Shared → Prop} (hm : ∀ s' : Shared, s'.TypeIs (.type m) "type") (hne : (Value.type m == Value.type n) = false) (q : Q (some .notImplemented) s) :
    wpAny (model prog w) A (callSpecialIfBound? (.type m) "__eq__" [.type n]) Q E s :=
  wpAny_callSpecialIfBound?_slot (name := (cmpInfo .Eq).2.1) (hm _) TypeEq.slot_type_eq (call_gives TypeEq.slot_type_eq (hm _) F.entry_object_eq (F.args_object_eq_2 _ _) (TypeEq.object_eq_other rfl hne) q)
theorem neTy_in_same {m : String} {Q : Fin → Shared → Prop} (hm : ∀ s' : Shared, s'.TypeIs (.type m) "type") (hu : A.units < cLine) (q : Q (.done (.ret (.bool false))) s) :
    wpAny (model prog w) A (Builtin.«object.__ne__» ⟨[.type m, .type m], []⟩) Q E s := by
  unfold Builtin.«object.__ne__»
  repeat (first | with_reducible refine wpAny_cRoomFor hu ?_ | with_reducible refine spEq_same hm ?_ | wp_step)
  exact q
theorem neTy_in_other {m n : String} {Q : Fin → Shared → Prop} (hm : ∀ s' : Shared, s'.TypeIs (.type m) "type") (hne : (Value.type m == Value.type n) = false) (hu : A.units < cLine) (q : Q (.done (.ret .notImplemented)) s) :
    wpAny (model prog w) A (Builtin.«object.__ne__» ⟨[.type m, .type n], []⟩) Q E s := by
  unfold Builtin.«object.__ne__»
  repeat (first | with_reducible refine wpAny_cRoomFor hu ?_ | with_reducible refine spEq_other hm hne ?_ | wp_step)
  exact q
theorem callNe_same {m : String} {Q : Value → Shared → Prop} (hm : ∀ s' : Shared, s'.TypeIs (.type m) "type") (hu : A.units + 1 < cLine) (q : Q (.bool false) s) : wpAny (model prog w) A (call (.builtin "object.__ne__") [.type m, .type m]) Q E s :=
  wpAny_call (codeAny_call_builtin slotNeTy.plain F.cmpEntry_ne (slotNeTy.check _ _ _ _ _ _ _ _ (hm _) (F.cmpArgs_ne _ _) (neTy_in_same (A := A.in1) hm hu q)))
theorem callNe_other {m n : String} {Q : Value → Shared → Prop} (hm : ∀ s' : Shared, s'.TypeIs (.type m) "type") (hne : (Value.type m == Value.type n) = false) (hu : A.units + 1 < cLine) (q : Q .notImplemented s) :
    wpAny (model prog w) A (call (.builtin "object.__ne__") [.type m, .type n]) Q E s :=
  wpAny_call (codeAny_call_builtin slotNeTy.plain F.cmpEntry_ne (slotNeTy.check _ _ _ _ _ _ _ _ (hm _) (F.cmpArgs_ne _ _) (neTy_in_other (A := A.in1) hm hne hu q)))
theorem ne_type_same {m : String} {Q : Value → Shared → Prop} (hm : ∀ s' : Shared, s'.TypeIs (.type m) "type") (hu : A.units + 1 < cLine) (q : Q (.bool false) s) : wpAny (model prog w) A (compareOp .NotEq (.type m) (.type m)) Q E s := by
  show wpAny _ A (richCompare .NotEq _ _) Q E s
  exact wpAny_richCompare_same (T := "type") (hm s) (hm s) slotNeTy (callNe_same hm hu ⟨(by intro e; cases e), q⟩)
theorem ne_type_other {m n : String} {Q : Value → Shared → Prop} (hm : ∀ s' : Shared, s'.TypeIs (.type m) "type") (hn : ∀ s' : Shared, s'.TypeIs (.type n) "type") (hne : (Value.type m == Value.type n) = false) (hne2 : (Value.type n == Value.type m) = false) (hu : A.units + 1 < cLine) (q : Q (.bool true) s) :
    wpAny (model prog w) A (compareOp .NotEq (.type m) (.type n)) Q E s := by
  have hu0 : A.units < cLine := by omega
  have k1 : ∀ {s : Shared} {Q : Option Value → Shared → Prop}, Q none s → wpAny (model prog w) A (tryCompare (.type m) "__ne__" (.type n)) Q E s := fun {s Q} q =>
    wpAny_tryCompare_declines (name := (cmpInfo .NotEq).2.1) (hm _) slotNeTy (callNe_other hm hne hu ⟨rfl, q⟩)
  have k2 : ∀ {s : Shared} {Q : Option Value → Shared → Prop}, Q none s → wpAny (model prog w) A (tryCompare (.type n) "__ne__" (.type m)) Q E s := fun {s Q} q =>
    wpAny_tryCompare_declines (name := (cmpInfo .NotEq).2.1) (hn _) slotNeTy (callNe_other hn hne2 hu ⟨rfl, q⟩)
  have hk : isSame (.type m) (.type n) = pure false := by rw [isSame_plain rfl, hne]
  show wpAny _ A (richCompare .NotEq _ _) Q E s
  simp only [richCompare, cmpInfo_NotEq, (hm s).oneThing_none]
  repeat (first | with_reducible refine wpAny_cRoomFor hu0 ?_ | with_reducible refine wpAny_typeOf (hm _) ?_ | with_reducible refine wpAny_typeOf (hn _) ?_ | with_reducible refine k1 ?_ | with_reducible refine k2 ?_ | with_reducible refine wpAny_of_eq hk ?_ | wp_step)
  exact q
end
section
variable {X : Cx} {a b : Expr} {pos : Pos} {p : Pos} {f : EF}
def rTyNe : R2 := fun x y H Q => ∃ m n, x = .ty m ∧ y = .ty n ∧ m ∈ six ∧ n ∈ six ∧ Q (.bl (!decide (m = n))) H
theorem op_neTy (hu : X.A.units + 64 < cLine) : OpR X (compareOp .NotEq) rTyNe := by
  intro pins s σ H x y v u Q I rx ry h
  obtain ⟨m, n, rfl, rfl, hm, hn, q⟩ := h
  cases (show v = Value.type m from rx)
  cases (show u = Value.type n from ry)
  by_cases e : m = n
  · subst e
    rw [decide_eq_true rfl] at q
    exact ne_type_same (meta_six m hm) (by omega) ⟨.bl false, H, I, rfl, q⟩
  · rw [decide_eq_false e] at q
    exact ne_type_other (meta_six m hm) (meta_six n hn) (by rw [ty_beq, decide_eq_false e]) (by rw [ty_beq, decide_eq_false fun z => e z.symm]) (by omega) ⟨.bl true, H, I, rfl, q⟩
@[simp] def dTyNe (T : String) : PyData → Option PyData
  | .dict _ => none
  | x => some (.bool (!decide (tyName x = T)))
theorem tyNe_inv {T : String} {x d : PyData} (h : dTyNe T x = some d) : (∀ kvs, x ≠ .dict kvs) ∧ d = .bool (!decide (tyName x = T)) := by
  cases x <;> first | (cases h; done) | exact ⟨(fun kvs z => by cases z), (Option.some.inj h).symm⟩
theorem rd_tyNe {T : String} (hT : T ∈ six) {K : PySem.W.Frag} : ∀ σ H Q, tE K (eUn (dTyNe T) f) σ H Q → tOp rTyNe (fun σ H Q => tE K f σ H fun v H1 => rTyp K [v] H1 Q) (tC (.ty T)) σ H Q := fun σ H Q ⟨c, ρ, d, ρ', R, e, q⟩ => by
  obtain ⟨x, h1, h3⟩ := un_inv e
  obtain ⟨nd, rfl⟩ := tyNe_inv h3
  exact ⟨c, ρ, x, ρ', R, h1, fun v1 H1 R1 r1 m1 => ⟨v1, _, rfl, tyB_of r1 nd, _, _, rfl, rfl, tyName_six nd, hT, q _ H1 R1 (.bl _) m1⟩⟩
theorem ev_tyNe {T : String} {pos2 : Pos} (hu : X.A.units + 64 < cLine) (hT : T ∈ six) (hg : Gl X "type") (hm : X.mg "type" = none) (ha : PE X a (tE X.K f)) (hb : PE X b (tC (.ty T))) (hk : behindInMarks .NotEq b = false)
    (he : starEach [a] X.env = (false, eval a X.env) :: starEach [] X.env := by rfl) (hpl : (backTo pos (starEach [] X.env)).any (·.1) = false := by rfl) :
    PE X (.Compare (.Call (.Name "type" p) [a] [] pos) [.NotEq] [b] pos2) (tE X.K (eUn (dTyNe T) f)) :=
  pe_of (pe_cmpR (op_neTy hu) (pe_type1 hg hm ha he hpl) hb hk) (rd_tyNe hT)
theorem et_tyNe {T : String} {pos2 : Pos} (hu : X.A.units + 64 < cLine) (hT : T ∈ six) (hg : Gl X "type") (hm : X.mg "type" = none) (ha : PE X a (tE X.K f)) (hb : PE X b (tC (.ty T))) (hk : behindInMarks .NotEq b = false)
    (he : starEach [a] X.env = (false, eval a X.env) :: starEach [] X.env := by rfl) (hpl : (backTo pos (starEach [] X.env)).any (·.1) = false := by rfl) :
    PT X (.Compare (.Call (.Name "type" p) [a] [] pos) [.NotEq] [b] pos2) (tT X.K (tBl (eUn (dTyNe T) f))) :=
  pt_of (pt_cmpR (op_neTy hu) (pe_type1 hg hm ha he hpl) hb hk) (rd_bl (rd_tyNe hT))
/-! ### x in an owned list -/
@[simp] def eBinO (o : PyData → PyData → Option PyData) (f : EF) (i : Nat) : EF := fun ρ => match f ρ with
  | some (x, ρ1) => (match ρ1[i]? with
    | some (some (.l _ ps)) => (match o x (.list ps) with
      | some z => some (z, ρ1)
      | none => none)
    | _ => none)
  | none => none
theorem binO_inv {o : PyData → PyData → Option PyData} {i : Nat} {ρ ρ' : Rho} {z : PyData} (h : eBinO o f i ρ = some (z, ρ')) : ∃ x p ps, f ρ = some (x, ρ') ∧ ρ'[i]? = some (some (.l p ps)) ∧ o x (.list ps) = some z := by
  unfold eBinO at h
  split at h
  · rename_i x ρ1 h1
    split at h
    · rename_i p ps h2
      split at h
      · rename_i z' h3
        cases h
        exact ⟨x, p, ps, h1, h2, h3⟩
      · cases h
    · cases h
  · cases h
theorem rd_inO {i : Nat} {neg : Bool} {o : PyData → PyData → Option PyData} (ho : ∀ x ps d, o x (.list ps) = some d → ∃ j ns, x = .int j ∧ ps = ns.map PyData.int ∧ d = .bool (if neg then !isInI j ns else isInI j ns)) {K : PySem.W.Frag} :
    ∀ σ H Q, tE K (eBinO o f i) σ H Q → tOp (rIn K neg) (tE K f) (tVar i) σ H Q := fun σ H Q ⟨c, ρ, d, ρ', R, e, q⟩ => by
  obtain ⟨x, p, ps, h1, h2, h3⟩ := binO_inv e
  obtain ⟨j, ns, rfl, rfl, rfl⟩ := ho _ _ _ h3
  refine ⟨c, ρ, _, ρ', R, h1, fun v1 H1 R1 r1 m1 => ?_⟩
  obtain ⟨l, us, g1, g2, g3, _⟩ := R1.lst i p _ h2
  have e3 := g3.ints
  subst e3
  cases r1
  exact ⟨.ref l, g1, l, _, rfl, .inl (.inl (.inl g2)), rfl, flat_ints ns, by rw [inV_ints]; exact q _ H1 R1 (.bl _) m1⟩
theorem inL_inv {x d : PyData} {ps : List PyData} (h : dIn x (.list ps) = some d) : ∃ j ns, x = .int j ∧ ps = ns.map PyData.int ∧ d = .bool (if false then !isInI j ns else isInI j ns) := by
  cases x <;> first
    | (cases h; done)
    | (rename_i j
       obtain ⟨b, hb, rfl⟩ := Option.map_eq_some_iff.mp h
       obtain ⟨ns, rfl, rfl⟩ := inD_inv hb
       exact ⟨j, ns, rfl, rfl, rfl⟩)
theorem notInL_inv {x d : PyData} {ps : List PyData} (h : dNotIn x (.list ps) = some d) : ∃ j ns, x = .int j ∧ ps = ns.map PyData.int ∧ d = .bool (if true then !isInI j ns else isInI j ns) := by
  cases x <;> first
    | (cases h; done)
    | (rename_i j
       obtain ⟨b, hb, rfl⟩ := Option.map_eq_some_iff.mp h
       obtain ⟨ns, rfl, rfl⟩ := inD_inv hb
       exact ⟨j, ns, rfl, rfl, rfl⟩)
theorem ev_inO {i : Nat} (ho : OpR X (compareOp .In) (rIn X.K false)) (ha : PE X a (tE X.K f)) (hv : PE X b (tVar i)) (hm : behindInMarks .In b = false) : PE X (.Compare a [.In] [b] pos) (tE X.K (eBinO dIn f i)) := pe_of (pe_cmpR ho ha hv hm) (rd_inO fun _ _ _ h => inL_inv h)
theorem et_inO {i : Nat} (ho : OpR X (compareOp .In) (rIn X.K false)) (ha : PE X a (tE X.K f)) (hv : PE X b (tVar i)) (hm : behindInMarks .In b = false) : PT X (.Compare a [.In] [b] pos) (tT X.K (tBl (eBinO dIn f i))) := pt_of (pt_cmpR ho ha hv hm) (rd_bl (rd_inO fun _ _ _ h => inL_inv h))
theorem ev_notInO {i : Nat} (ho : OpR X (compareOp .NotIn) (rIn X.K true)) (ha : PE X a (tE X.K f)) (hv : PE X b (tVar i)) (hm : behindInMarks .NotIn b = false) : PE X (.Compare a [.NotIn] [b] pos) (tE X.K (eBinO dNotIn f i)) := pe_of (pe_cmpR ho ha hv hm) (rd_inO fun _ _ _ h => notInL_inv h)
theorem et_notInO {i : Nat} (ho : OpR X (compareOp .NotIn) (rIn X.K true)) (ha : PE X a (tE X.K f)) (hv : PE X b (tVar i)) (hm : behindInMarks .NotIn b = false) : PT X (.Compare a [.NotIn] [b] pos) (tT X.K (tBl (eBinO dNotIn f i))) := pt_of (pt_cmpR ho ha hv hm) (rd_bl (rd_inO fun _ _ _ h => notInL_inv h))
end
end PG
end
section
set_option Elab.async false
set_option linter.all false
set_option maxRecDepth 100000
namespace PG
open PySem PySem.Spec PyProof.Rows L2
/-! ### x in xs: flat items, or data in a list -/
def flatD : PyData → Bool
  | .none => true
  | .bool _ => true
  | .int _ => true
  | .str _ => true
  | _ => false
def memD (x : PyData) (ds : List PyData) : Bool := ds.any fun z => PyData.eqv z x
def dMem (neg : Bool) (x : PyData) : PyData → Option PyData
  | .list ds => if (flatD x && ds.all flatD) || (SeqAt.shaped x && SeqAt.shaped (.list ds)) then some (.bool (if neg then !memD x ds else memD x ds)) else none
  | .tuple ds => if flatD x && ds.all flatD then some (.bool (if neg then !memD x ds else memD x ds)) else none
  | _ => none
def dIn2 : PyData → PyData → Option PyData := dMem false
def dNotIn2 : PyData → PyData → Option PyData := dMem true
section
variable {K : PySem.W.Frag} {A : Addr → Prop} {H : Hp}
theorem flat_rp {v : V} {d : PyData} (r : Rp K A H v d) (h : flatD d = true) : flatV v = true := by cases r <;> first | rfl | cases h
theorem eqv_rp {v u : V} {d e : PyData} (r : Rp K A H v d) (q : Rp K A H u e) (h : flatD d = true) (k : flatD e = true) : eqV v u = PyData.eqv d e := by
  cases r <;> cases q <;> first | (cases h; done) | (cases k; done) | (simp [eqV, PyData.eqv]; done) | (simp [eqV, PyData.eqv, BEq.comm])
theorem flat_rpA : ∀ {vs : List V} {ds : List PyData}, RpA K A H vs ds → ds.all flatD = true → vs.all flatV = true
  | _, [], r, _ => by cases r; rfl
  | _, d :: ds, r, h => by
    cases r with
    | cons r1 r2 =>
      simp only [List.all_cons, Bool.and_eq_true] at h ⊢
      exact ⟨flat_rp r1 h.1, flat_rpA r2 h.2⟩
theorem mem_rpA {u : V} {x : PyData} (q : Rp K A H u x) (hx : flatD x = true) : ∀ {vs : List V} {ds : List PyData}, RpA K A H vs ds → ds.all flatD = true → inV u vs = memD x ds
  | _, [], r, _ => by cases r; rfl
  | _, d :: ds, r, h => by
    cases r with
    | cons r1 r2 =>
      simp only [List.all_cons, Bool.and_eq_true] at h
      have ih := mem_rpA q hx r2 h.2
      unfold inV memD at ih ⊢
      rw [List.any_cons, List.any_cons, ih, eqv_rp r1 q h.1 hx]
end
theorem u65 {A : Around} {k : Nat} (r : Room k A) : A.units + 65 < cLine := by have := r.un; omega
def rMem (K : PySem.W.Frag) : R2 := fun x y H Q => rIn K false x y H Q ∨ rInD K x y H Q
def rNotMem (K : PySem.W.Frag) : R2 := fun x y H Q => rIn K true x y H Q ∨ rNotInD K x y H Q
section
variable {X : Cx} {a b : Expr} {pos : Pos} {f : EF}
theorem op_mem (hu : X.A.units + 65 < cLine) : OpR X (compareOp .In) (rMem X.K) := fun pins s σ H x y v u Q I rx ry h => h.elim (op_in_seq pins s σ H x y v u Q I rx ry) (op_inD hu pins s σ H x y v u Q I rx ry)
theorem op_notMem (hu : X.A.units + 65 < cLine) : OpR X (compareOp .NotIn) (rNotMem X.K) := fun pins s σ H x y v u Q I rx ry h => h.elim (op_notIn_seq pins s σ H x y v u Q I rx ry) (op_notInD hu pins s σ H x y v u Q I rx ry)
end
section
variable {K : PySem.W.Frag}
theorem mem_list {neg : Bool} {x d : PyData} {ds : List PyData} (h : dMem neg x (.list ds) = some d) : d = .bool (if neg then !memD x ds else memD x ds) ∧ ((flatD x = true ∧ ds.all flatD = true) ∨ (SeqAt.shaped x = true ∧ SeqAt.shaped (.list ds) = true)) := by
  unfold dMem at h
  simp only at h
  split at h
  · rename_i hc
    cases h
    simp only [Bool.or_eq_true, Bool.and_eq_true] at hc
    exact ⟨rfl, hc⟩
  · cases h
theorem mem_tup {neg : Bool} {x d : PyData} {ds : List PyData} (h : dMem neg x (.tuple ds) = some d) : d = .bool (if neg then !memD x ds else memD x ds) ∧ flatD x = true ∧ ds.all flatD = true := by
  unfold dMem at h
  simp only at h
  split at h
  · rename_i hc
    cases h
    simp only [Bool.and_eq_true] at hc
    exact ⟨rfl, hc⟩
  · cases h
/-- the list at l holds us, which are ds -/
theorem mem_at {A : Addr → Prop} {H : Hp} {neg : Bool} {v : V} {x d : PyData} {l : Addr} {us : List V} {ds : List PyData} {Q : VK} (r1 : Rp K A H v x) (q2 : SqL K H l us) (q3 : RpA K A H us ds) (h : dMem neg x (.list ds) = some d) (q : ∀ b, d = .bool b → Q (.bl b) H) :
    rIn K neg v (.ref l) H Q ∨ (if neg then rNotInD K else rInD K) v (.ref l) H Q := by
  obtain ⟨rfl, hc⟩ := mem_list h
  rcases hc with ⟨h1, h2⟩ | ⟨h1, h2⟩
  · refine .inl ⟨l, us, rfl, .inl q2, flat_rp r1 h1, flat_rpA q3 h2, ?_⟩
    rw [mem_rpA r1 h1 q3 h2]
    exact q _ rfl
  · refine .inr ?_
    have d1 := Rp.dp _ _ r1 (SeqAt.canLay_of_shaped h1)
    have d2 : Dp K H (.ref l) (.list ds) := .lst q2 (RpA.dp _ _ q3 (SeqAt.canLay_of_shaped h2))
    cases neg with
    | true => exact ⟨x, ds, d1, d2, h1, h2, q _ rfl⟩
    | false => exact ⟨x, ds, d1, d2, h1, h2, q _ rfl⟩
theorem os_mem : OpS K (rMem K) dIn2 := by
  intro c ρ σ H v1 v2 x y d Q R r1 r2 ho q
  cases y with
  | list ds =>
    cases r2 with
    | lst l al => exact mem_at (neg := false) r1 l.sq al ho fun b e => by subst e; exact q _ _ R (.bl _) fun _ _ h => h
  | tuple ds =>
    cases r2 with
    | tup l al =>
      obtain ⟨rfl, h1, h2⟩ := mem_tup ho
      refine .inl ⟨_, _, rfl, .inr l.sq, flat_rp r1 h1, flat_rpA al h2, ?_⟩
      rw [mem_rpA r1 h1 al h2]
      exact q _ _ R (.bl _) fun _ _ h => h
  | _ => cases ho
theorem os_notMem : OpS K (rNotMem K) dNotIn2 := by
  intro c ρ σ H v1 v2 x y d Q R r1 r2 ho q
  cases y with
  | list ds =>
    cases r2 with
    | lst l al => exact mem_at (neg := true) r1 l.sq al ho fun b e => by subst e; exact q _ _ R (.bl _) fun _ _ h => h
  | tuple ds =>
    cases r2 with
    | tup l al =>
      obtain ⟨rfl, h1, h2⟩ := mem_tup ho
      refine .inl ⟨_, _, rfl, .inr l.sq, flat_rp r1 h1, flat_rpA al h2, ?_⟩
      rw [mem_rpA r1 h1 al h2]
      exact q _ _ R (.bl _) fun _ _ h => h
  | _ => cases ho
end
section
variable {X : Cx} {a b : Expr} {pos : Pos} {f : EF}
theorem rd_memO {i : Nat} {neg : Bool} {K : PySem.W.Frag} : ∀ σ H Q, tE K (eBinO (dMem neg) f i) σ H Q → tOp (fun x y H Q => rIn K neg x y H Q ∨ (if neg then rNotInD K else rInD K) x y H Q) (tE K f) (tVar i) σ H Q := fun σ H Q ⟨c, ρ, d, ρ', R, e, q⟩ => by
  obtain ⟨x, p, ps, h1, h2, h3⟩ := binO_inv e
  refine ⟨c, ρ, _, ρ', R, h1, fun v1 H1 R1 r1 m1 => ?_⟩
  obtain ⟨l, us, g1, g2, g3, _⟩ := R1.lst i p _ h2
  exact ⟨.ref l, g1, mem_at r1 (.inl (.inl g2)) g3 h3 fun b e => by subst e; exact q _ H1 R1 (.bl _) m1⟩
theorem ev_memO {i : Nat} (hu : X.A.units + 65 < cLine) (ha : PE X a (tE X.K f)) (hv : PE X b (tVar i)) (hm : behindInMarks .In b = false) : PE X (.Compare a [.In] [b] pos) (tE X.K (eBinO dIn2 f i)) := pe_of (pe_cmpR (op_mem hu) ha hv hm) (rd_memO (neg := false))
theorem et_memO {i : Nat} (hu : X.A.units + 65 < cLine) (ha : PE X a (tE X.K f)) (hv : PE X b (tVar i)) (hm : behindInMarks .In b = false) : PT X (.Compare a [.In] [b] pos) (tT X.K (tBl (eBinO dIn2 f i))) := pt_of (pt_cmpR (op_mem hu) ha hv hm) (rd_bl (rd_memO (neg := false)))
theorem ev_notMemO {i : Nat} (hu : X.A.units + 65 < cLine) (ha : PE X a (tE X.K f)) (hv : PE X b (tVar i)) (hm : behindInMarks .NotIn b = false) : PE X (.Compare a [.NotIn] [b] pos) (tE X.K (eBinO dNotIn2 f i)) := pe_of (pe_cmpR (op_notMem hu) ha hv hm) (rd_memO (neg := true))
theorem et_notMemO {i : Nat} (hu : X.A.units + 65 < cLine) (ha : PE X a (tE X.K f)) (hv : PE X b (tVar i)) (hm : behindInMarks .NotIn b = false) : PT X (.Compare a [.NotIn] [b] pos) (tT X.K (tBl (eBinO dNotIn2 f i))) := pt_of (pt_cmpR (op_notMem hu) ha hv hm) (rd_bl (rd_memO (neg := true)))
end
end PG
end
section
set_option Elab.async false
set_option linter.all false
set_option maxRecDepth 100000
namespace PG
open PySem PySem.Spec PyProof.Rows L2
/-! ### repr(x): asked where no text of an object is being made (the law's own body) -/
/-- a def's promise, where nothing of that kind is under way -/
structure FnQ (P : Program) (w : World) (K : PySem.W.Frag) (mg : Str → Option Value) (bas : Heap) (k : Nat) (fa : Addr) (fd : FuncData) (ps : List Str) (sp : Sp) : Prop where
  arity : ∀ vs H Q E, sp vs H Q E → vs.length = ps.length
  does : ∀ (B : Around) (up : List Env) (s : Shared) (H : Hp) (ar : Args) (us : List Value) (vs : List V) (Q : VK) (E : XK), B.guards = some [] → Room k B → Env0 P w K mg bas B up s H → BindsTo s fd ar (ps.zip us) → Vals vs us → sp vs H Q E →
    codeAny (model P w) B (.call (.ref fa) ar) (CR CX0 up P w H s Q E) s
theorem guards_deeper {B : Around} {env : Env} (h : B.guards = some []) : (B.deeper env).guards = some [] := by
  first | exact h | (simp [Around.deeper, h])
section
variable {P : Program} {w : World} {K : PySem.W.Frag} {mg : Str → Option Value} {bas : Heap}
theorem fnq_of {k : Nat} {fa : Addr} {nm ql : Str} {pr : Arguments} {bd : List Stmt} {sc : Scope} {dV kV doc pm cdv ct oc : Value} {an od : Option Addr} {sl : Array (Option Value)} {N ps : List Str} {sp : Sp}
    (hl : K.lookup fa = some ⟨oc, od, .func (PySem.W.fnOf nm ql pr bd sc dV kV doc pm an cdv ct), sl⟩) (hc : PySem.W.codeIn K cdv ql = true) (S : FnScope N ps sc) (har : ∀ vs H Q E, sp vs H Q E → vs.length = ps.length)
    (hbd : ∀ (B : Around) (up : List Env) (s : Shared) (H : Hp) (vs : List V) (Q : VK) (E : XK), (B.deeper (envOfC ql sc s.heap.objs.size fa cdv)).guards = some [] → Room k (B.deeper (envOfC ql sc s.heap.objs.size fa cdv)) → sp vs H Q E →
      ∃ t, PSs (cxOf CX0 P w K mg bas N ql sc fa cdv B up s H E) bd t ∧ t { nx := fun _ H' => Q .non H', rt := Q } (start N vs) H) :
    FnQ P w K mg bas (k + 1) fa (PySem.W.fnOf nm ql pr bd sc dV kV doc pm an cdv ct) ps sp := by
  refine ⟨har, fun B up s H ar us vs Q E hgd room en hbind rv want => ?_⟩
  have many := har _ _ _ _ want
  have kin : K.In s.heap := en.mod.kin.keeps fun b o e => (en.bs b o e).1
  have nolim : s.heap.NoLimit := en.mod.nolimit.keeps fun b o e => (en.bs b o e).1
  have kinds : ∀ y ∈ ps.zip us, sc.names.lookup y.1 = some .local ∨ (sc.names.lookup y.1 = some .cell ∧ ((cellsFrom (s.heap.objs.size + 1) sc.names []).lookup y.1).isSome = true) := fun y hy => by
    obtain ⟨n, v⟩ := y
    rcases S.par n (List.of_mem_zip hy).1 with q | q
    · exact .inl q
    · exact .inr ⟨q, PySem.W.cellsFrom_some _ _ _ (.inl q)⟩
  refine codeAny_call_function room.depth (kin _ _ hl) rfl S.co S.gen rfl (PySem.W.codeRec_of kin hc) (hbind _ _ _ _ ?_)
  refine wpAny_newFunctionEnv_cells S.kind kinds fun env henv s1 x => ?_
  subst henv
  refine ⟨nolim.keeps x.toInCall.keep, codeAny_func ?_⟩
  obtain ⟨t, tp, tq⟩ := hbd B up s H vs Q E (guards_deeper hgd) (room.deeper _) want
  have inv : Inv (cxOf CX0 P w K mg bas N ql sc fa cdv B up s H E) [] (start N vs) H s1 := inv_start S room.hd en many rv x
  refine wpAny_mono (tp.run [] s1 (start N vs) H _ inv tq) (fun fl s' hs => ?_) fun e s' hs => hs
  cases fl with
  | ret u => exact let ⟨v, σ', H', J, rv', q⟩ := hs; ⟨v, H', J.os, J.bare, J.base, J.hok, rv', q⟩
  | next => exact let ⟨σ', H', J, q⟩ := hs; ⟨.non, H', J.os, J.bare, J.base, J.hok, rfl, q⟩
  | brk => exact let ⟨_, _, _, q⟩ := hs; False.elim q
  | cont => exact let ⟨_, _, _, q⟩ := hs; False.elim q
/-- a def on data, in such a place -/
theorem okq_P {x qual : Str} {st : Stmt} {fa : Addr} {fd : FuncData} {N ps : List Str} {j k m : Nat} {b : SF} (F : L2.Fun K x qual st fa fd) (S : FnScope N ps (defScope st)) (hk : ps.length = k) (hm : k + m = N.length)
    (hb : ∀ (cdv : Value) (A : Around) (outer : List Env) (s : Shared) (H : Hp) (E : XK), (A.deeper (envOfC qual (defScope st) s.heap.objs.size fa cdv)).guards = some [] → Room j (A.deeper (envOfC qual (defScope st) s.heap.objs.size fa cdv)) → PSs (cxOf CX0 P w K mg bas N qual (defScope st) fa cdv A outer s H E).nox (defBody st) (tS K b)) :
    FnQ P w K mg bas (j + 1) fa fd ps (spP K k (defP b k m)) := by
  obtain ⟨oc, od, kV, doc, pm, an, cdv, ct, sl, rfl, lk, hcd⟩ := F.ex
  refine fnq_of lk hcd S (fun vs H Q E h => h.1.trans hk.symm) fun A outer s H vs Q E hg hr h => ?_
  obtain ⟨hl, A', ds, r, ra, hA, e, q⟩ := h
  refine ⟨_, (hb cdv A outer s H E hg hr).nox, ?_⟩
  have R := rel_start (m := m) (N := N) ra hA (by omega)
  unfold defP at e
  split at e
  · cases eb : b (rho0 ds m) with
    | none => rw [eb] at e; cases e
    | some z =>
      obtain ⟨o, ρ'⟩ := z
      rw [eb] at e
      have kp : ∀ σ' H', Rel K ⟨A', H, fun _ => none⟩ ρ' σ' H' → ∀ a o, H a = some o → H' a = some o := fun σ' H' R' a o h => R'.old a o h fun i z => nomatch z
      refine ⟨_, rho0 ds m, o, ρ', R, eb, ?_⟩
      cases o with
      | next => cases e; exact fun σ' H' R' _ => q .non H' (kp σ' H' R') .non
      | brk => cases e
      | cont => cases e
      | ret d => cases e; exact fun v σ' H' R' r' => q v H' (kp σ' H' R') r'
      | retL ds => cases e; exact fun a vs σ' H' R' ha r' h0 => q (.ref a) H' (kp σ' H' R') (.lst ⟨ha, fun z => hA a z h0⟩ (r'.mv fun b o e n => ⟨e, fun z => n (.inl z)⟩))
  · cases e
end
/-! the law's own call -/
theorem law_runs {P : Program} {w : World} {K : PySem.W.Frag} {mg mb : Str → Option Value} {k : Nat} {fa at_ : Addr} {fd : FuncData} {x : Str} {sp : Sp} {st : Shared} {us : List Value} {ns : List Int}
    (kin : K.In st.heap) (gns : st.heap.Ns mainGlobals mg) (bns : st.heap.Ns builtinsNs mb) (boot : ∀ y : Str, y ≠ "__name__" → mb y = bootBuiltins y) (nolim : st.heap.NoLimit) (nog : st.gens = #[])
    (hat : st.heap.get? at_ = some { cls := .type "list", data := .seq us.toArray }) (cells : IntsAre us ns) (short : ns.length ≤ sizeLine) (room : Room k callerA)
    (F : ∀ bas : Heap, K.In bas → bas.Ns mainGlobals mg → FnQ P w K mg bas k fa fd [x] sp) (binds : ∀ (s : Shared) (u : Value), BindsTo s fd ⟨[u], []⟩ [(x, u)])
    (want : ∀ H : Hp, Only H → SqL K H at_ (ns.map V.int) → sp [.ref at_] H (fun v _ => v = .bl true) fun _ _ _ => False) :
    codeAny (model P w) callerA (.call (.ref fa) ⟨[.ref at_], []⟩) (fun r s' => r = .ok (.ret (.bool true)) ∧ OldK st.heap s'.heap ∧ s'.os = st.os ∧ AllBare s'.gens) st := by
  have vals := vals_ints cells
  have many := cells.length
  have main : ∀ H : Hp, Only H → SqL K H at_ (ns.map V.int) → HOk P w H st.heap → (∀ b, H b ≠ none → b = at_) → (H at_ ≠ none → K.lookup at_ = none) →
      codeAny (model P w) callerA (.call (.ref fa) ⟨[.ref at_], []⟩) (fun r s' => r = .ok (.ret (.bool true)) ∧ OldK st.heap s'.heap ∧ s'.os = st.os ∧ AllBare s'.gens) st := by
    intro H only sq hok alone notK
    have low : ∀ {b : Addr} {o : Obj}, st.heap.get? b = some o → H b = none → (hidT st.heap H).get? b = some o := fun e n => hidT_get e n
    have dictNo : ∀ {b : Addr} {o : Obj} {es : Array DictEntry} {ep : Nat}, st.heap.get? b = some o → o.data = .dict es ep → H b = none := fun {b o es ep} e d => by
      cases q : H b with
      | none => rfl
      | some u =>
        obtain rfl := alone b (by rw [q]; simp)
        rw [hat] at e
        cases e
        exact nomatch (show Data.seq us.toArray _ = Data.dict es ep from d)
    have ns2 : ∀ {b : Addr} {m : Str → Option Value}, st.heap.Ns b m → (hidT st.heap H).Ns b m := fun {b m} h => by
      obtain ⟨o, es, ep, e, d, r⟩ := h
      exact ⟨o, es, ep, low e (dictNo e d), d, r⟩
    have kin2 : K.In (hidT st.heap H) := fun b o e => low (kin b o e) (by
      cases q : H b with
      | none => rfl
      | some u =>
        obtain rfl := alone b (by rw [q]; simp)
        rw [notK (by rw [q]; simp)] at e
        cases e)
    have md : Mod K mg (hidT st.heap H) := ⟨kin2, ns2 gns, ⟨mb, ns2 bns, boot⟩, by obtain ⟨mc, h1, h2⟩ := nolim; exact ⟨mc, ns2 h1, h2⟩⟩
    have en : Env0 P w K mg (hidT st.heap H) callerA [] st H := ⟨rfl, md, fun b o e => of_hidT e, Nat.le_of_eq (hidT_size _ _), trivial, (fun b hb => nomatch (show b ∈ ([] : List Addr) from hb)), hok, .of_eq nog⟩
    refine codeAny_mono ((F _ kin2 (ns2 gns)).does callerA [] st H ⟨[.ref at_], []⟩ [.ref at_] [.ref at_] _ _ rfl room en (binds st (.ref at_)) (.cons rfl .nil) (want H only sq)) fun r s' h => ?_
    cases r with
    | error e => exact absurd h (by intro z; exact z)
    | ok fl =>
      cases fl with
      | next => exact False.elim h
      | brk => exact False.elim h
      | cont => exact False.elim h
      | ret u =>
        obtain ⟨v, H', os, bare, un, hok', rv, q⟩ := h
        obtain rfl : v = .bl true := q
        obtain rfl : u = Value.bool true := rv
        refine ⟨rfl, OldK.of_keep fun b o e => ?_, os, bare⟩
        cases q : H b with
        | none => exact un.keep b o e q (by intro z; exact nomatch (show b ∈ ([] : List Addr) from z)) (by simp)
        | some u =>
          rcases only b with z | ⟨ob, xs, z⟩
          · rw [q] at z
            cases z
          · obtain ⟨e1, _⟩ := hok b _ z
            obtain ⟨e2, _⟩ := hok' b _ (un.frzs b ob _ z)
            rw [e] at e1
            cases e1
            exact e2
  cases hk : K.lookup at_ with
  | some o =>
    have e := kin at_ o hk
    rw [hat] at e
    cases e
    refine main (fun _ => none) (fun _ => .inl rfl) (.inr ⟨_, us.toArray, _, hk, rfl, rfl, rfl, by rw [List.size_toArray, many]; exact short, by simpa using vals⟩) (fun b u z => nomatch (show (none : Option HO) = some u from z)) (fun b z => absurd rfl z) fun z => absurd rfl z
  | none =>
    refine main (fun b => if b = at_ then some (.frz { cls := .type "list", data := .seq us.toArray } (.lst (ns.map V.int))) else none) (fun b => ?_) (.inl (.inr ⟨{ cls := .type "list", data := .seq us.toArray }, if_pos rfl⟩)) (fun b u z => ?_) (fun b z => ?_) fun _ => hk
    · rcases Classical.em (b = at_) with hb | hb
      · exact .inr ⟨_, _, if_pos hb⟩
      · exact .inl (if_neg hb)
    · rcases Classical.em (b = at_) with hb | hb
      · have z' := (if_pos hb).symm.trans z
        cases z'
        subst hb
        exact ⟨hat, by rw [List.length_map]; exact short, us, _, vals, hat⟩
      · exact nomatch (if_neg hb).symm.trans z
    · rcases Classical.em (b = at_) with hb | hb
      · exact hb
      · exact absurd (if_neg hb) z
theorem walkq_of {l : PySem.W.OpenLaw} {n k : Nat} {q : Program} {loose : List Str} {XP : (Str → Option Value) → Heap → Prop} {YP : World → Heap → Prop} {d : DefRec} {K : Params → PySem.W.Frag} {sp : World → Sp} {x : Str}
    (most : l.most = some n) (short : n ≤ sizeLine) (nodef : d.params.defaults = []) (room : Room k callerA) (hY : ∀ (w : World) (h : Heap), YP w h → (K w.params).In h)
    (F : ∀ (w : World) (mg : Str → Option Value) (fa : Addr) (h : Heap), (K w.params).In h → h.Ns mainGlobals mg → mg d.name = some (.ref fa) →
      ∃ fd : FuncData, (∀ (s : Shared) (u : Value), BindsTo s fd ⟨[u], []⟩ [(x, u)]) ∧ ∀ bas : Heap, (K w.params).In bas → bas.Ns mainGlobals mg → FnQ l.prog w (K w.params) mg bas k fa fd [x] (sp w))
    (want : ∀ (w : World) (H : Hp) (a : Addr) (ns : List Int), ns.length ≤ n → Only H → SqL (K w.params) H a (ns.map V.int) → sp w [.ref a] H (fun v _ => v = .bl true) fun _ _ _ => False) :
    PySem.W.WalkO q loose XP YP l.row.toRowW d [] (fun f vs => PySem.call f vs) := by
  refine Att.attach_call most nodef fun w s₀ st mg mb fa o pm cd doc a vs ns G Y ho hd hcd hmg hobj hints hlen hg => ?_
  have kin := hY w _ Y
  obtain ⟨fd, binds, hF⟩ := F w mg fa _ kin G.T.g hmg
  exact law_runs kin G.T.g G.T.b G.T.builtins G.T.nolimit hg hobj hints (Nat.le_trans hlen short) room hF binds fun H only sq => want w H a ns hlen only sq
/-! repr -/
def reprOk (d : PyData) : Bool := d.canLay0 && decide (d.depth ≤ 64) && d.showable && decide (d.shown.length ≤ 16777216)
def dRepr (d : PyData) : Option PyData := if reprOk d then some (.str d.shown) else none
mutual
theorem noDict0 : ∀ d : PyData, d.canLay0 = true → d.hasDict = false
  | .none, _ => rfl
  | .bool _, _ => rfl
  | .int _, _ => rfl
  | .str _, _ => rfl
  | .list xs, h => by simp only [PyData.canLay0] at h; simp only [PyData.hasDict]; exact noDictA xs h
  | .tuple xs, h => by simp only [PyData.canLay0] at h; simp only [PyData.hasDict]; exact noDictA xs h
  | .dict _, h => by simp [PyData.canLay0] at h
theorem noDictA : ∀ ds : List PyData, PyData.canLayAll0 ds = true → PyData.hasDictAll ds = false
  | [], _ => rfl
  | d :: ds, h => by
    simp only [PyData.canLayAll0, Bool.and_eq_true] at h
    simp only [PyData.hasDictAll, noDict0 d h.1, noDictA ds h.2, Bool.or_false]
end
section
variable {X : Cx} {a : Expr} {p pos : Pos} {f : EF}
def rRepr (K : PySem.W.Frag) : List V → Hp → VK → Prop := fun xs H Q => ∃ v d, xs = [v] ∧ Dp K H v d ∧ reprOk d = true ∧ Q (.str d.shown) H
theorem call_repr (hg : X.A.guards = some []) (hu : X.A.units + 66 < cLine) : CallR X (.builtin "repr") (rRepr X.K) := by
  intro pins s σ H xs us Q I r h
  obtain ⟨v, d, rfl, hd, ok, q⟩ := h
  obtain ⟨u, rfl, rv⟩ := vals1 r
  obtain ⟨as, rd⟩ := Dp.reads I d v u hd rv
  simp only [reprOk, Bool.and_eq_true, decide_eq_true_eq] at ok
  obtain ⟨⟨⟨h1, h2⟩, h3⟩, h4⟩ := ok
  have hz : d.shown.length ≤ sizeLine := by rw [sizeLine_eq]; exact h4
  have hsm : d.hasDict = true → sysModules ∉ as := fun z => by rw [noDict0 d h1] at z; cases z
  cases rd with
  | none => exact P.repr_of_none ⟨.str _, H, I.tok _, ⟨_, rfl⟩, q⟩
  | bool b => exact P.repr_of_bool ⟨.str _, H, I.tok _, ⟨_, rfl⟩, q⟩
  | int i t => exact P.repr_of_int (by simpa [PyData.showable] using h3) ⟨.str _, H, I.tok _, ⟨_, rfl⟩, q⟩
  | str x t => exact P.repr_of_str ⟨.str _, H, I.tok _, ⟨_, rfl⟩, q⟩ (by simpa only [PyData.shown] using hz)
  | list q1 q2 q3 q4 => exact repr_of_reads' (.list q1 q2 q3 q4) h3 hsm hg (by omega) (fun _ _ e => e) (fun h' u tk kp => ⟨.str _, H, I.kept kp, ⟨_, rfl⟩, q⟩) hz
  | tuple q1 q2 q3 q4 => exact repr_of_reads' (.tuple q1 q2 q3 q4) h3 hsm hg (by omega) (fun _ _ e => e) (fun h' u tk kp => ⟨.str _, H, I.kept kp, ⟨_, rfl⟩, q⟩) hz
  | dict _ _ _ _ _ => simp [PyData.canLay0] at h1
end
theorem fs_repr {K : PySem.W.Frag} : FnS K (rRepr K) (o1of dRepr) := by
  intro c ρ σ H vs ds d Q R r ho q
  obtain ⟨x, rfl, h2⟩ := o1_inv ho
  obtain ⟨v, rfl, w1⟩ := rpa1 r
  unfold dRepr at h2
  split at h2
  · rename_i hc
    cases h2
    have hl : x.canLay0 = true := by
      simp only [reprOk, Bool.and_eq_true] at hc
      exact hc.1.1.1
    exact ⟨v, x, rfl, Rp.dp _ _ w1 hl, hc, os_same R q (.str _)⟩
  · cases h2
theorem u66 {A : Around} {k : Nat} (r : Room k A) : A.units + 66 < cLine := by have := r.un; omega
/-! texts compared -/
@[simp] def dNeS : PyData → PyData → Option PyData
  | .str x, .str y => some (.bool (!decide (x = y)))
  | _, _ => none
@[simp] def dEqS : PyData → PyData → Option PyData
  | .str x, .str y => some (.bool (decide (x = y)))
  | _, _ => none
theorem os_neS {K : PySem.W.Frag} : OpS K rNe dNeS := by
  intro c ρ σ H v1 v2 x y d Q R r1 r2 ho q
  unfold dNeS at ho
  split at ho
  · cases ho
    cases r1
    cases r2
    refine ⟨rfl, ?_⟩
    rename_i a b
    have e : (decide (V.str a = V.str b)) = decide (a = b) := by
      rw [Bool.eq_iff_iff]
      simp
    rw [e]
    exact os_same R q (.bl _)
  · cases ho
theorem os_eqS {K : PySem.W.Frag} : OpS K rEq dEqS := by
  intro c ρ σ H v1 v2 x y d Q R r1 r2 ho q
  unfold dEqS at ho
  split at ho
  · cases ho
    cases r1
    cases r2
    refine ⟨rfl, ?_⟩
    rename_i a b
    have e : (decide (V.str a = V.str b)) = decide (a = b) := by
      rw [Bool.eq_iff_iff]
      simp
    rw [e]
    exact os_same R q (.bl _)
  · cases ho
end PG
end
section
set_option Elab.async false
set_option linter.all false
set_option maxRecDepth 100000
set_option maxHeartbeats 4000000
namespace PG
open PySem PySem.Spec PyProof.Rows L2
theorem tuple_mul1 (l : Addr) (items : Array Value) (n : Nat) (dd : Option Addr) (sl : Array (Option Value)) (x : Int) (u : Tok) (c0 : (decide (x < -(2 ^ 63)) || decide (x ≥ 2 ^ 63)) = false) (c1 : (items.isEmpty || x == 1) = true) :
    Meets (Builtin.«tuple.__mul__» ⟨[.ref l, .int x u], []⟩) (fun _ R s => s.heap.get? l = some { cls := .type "tuple", dict := dd, data := .seq items n, slots := sl } ∧
      R (.ok (.ret (Value.ref l))) s) :=
  .of_wp fun prog w A R s h => by
    obtain ⟨hp, g, d, tk, os⟩ := s
    obtain ⟨hl, h⟩ := h
    have f1 := AutoSeq1.idx_int
    wp_walk using wpAny_loadPart' hl
    repeat (first
      | (refine wpAny_ite_false (decide_eq_false (by rw [c0]; exact Bool.false_ne_true)) ?_; wp_walk using wpAny_loadPart' hl)
      | (refine wpAny_ite_true (decide_eq_true (by rw [c1])) ?_; wp_walk using wpAny_loadPart' hl))

    exact ⟨_, rfl, h⟩
theorem tuple_mul0 (l : Addr) (items : Array Value) (n : Nat) (dd : Option Addr) (sl : Array (Option Value)) (x : Int) (u : Tok) (c0 : (decide (x < -(2 ^ 63)) || decide (x ≥ 2 ^ 63)) = false) (c1 : (items.isEmpty || x == 1) = false) (c2 : (decide (x ≤ 0) || items.isEmpty) = true) :
    Meets (Builtin.«tuple.__mul__» ⟨[.ref l, .int x u], []⟩) (fun _ R s => s.heap.get? l = some { cls := .type "tuple", dict := dd, data := .seq items n, slots := sl } ∧
      R (.ok (.ret (Value.ref s.heap.objs.size))) { s with heap := s.heap.push { cls := Value.type "tuple", data := Data.seq #[] }, toks := s.toks }) :=
  .of_wp fun prog w A R s h => by
    obtain ⟨hp, g, d, tk, os⟩ := s
    obtain ⟨hl, h⟩ := h
    have f1 := AutoSeq1.idx_int
    wp_walk using wpAny_loadPart' hl
    repeat (first
      | (refine wpAny_ite_false (decide_eq_false (by rw [c0]; exact Bool.false_ne_true)) ?_; wp_walk using wpAny_loadPart' hl)
      | (refine wpAny_ite_false (decide_eq_false (by rw [c1]; exact Bool.false_ne_true)) ?_; wp_walk using wpAny_loadPart' hl)
      | (refine wpAny_ite_true (decide_eq_true (by rw [c2])) ?_; wp_walk using wpAny_loadPart' hl))

    exact ⟨_, rfl, h⟩

def rRepT2 (K : PySem.W.Frag) : R2 := fun x y H Q => ∃ l k xs, x = .ref l ∧ y = .int k ∧ SqT K H l xs ∧ -(2 ^ 63) ≤ k ∧ k < 2 ^ 63 ∧ xs.length * k.toNat ≤ sizeLine ∧ (xs = [] ∨ k = 1 → Q (.ref l) H) ∧
  ∀ p, H p = none → Q (.ref p) (upd H p (.tup (List.replicate k.toNat xs).flatten))
section
variable {X : Cx}
theorem op_repT2 : OpR X (binaryOp .Mult) (rRepT2 X.K) := by
  intro pins s σ H x y v u Q I rx ry h
  obtain ⟨l, k, xs, rfl, rfl, hT, h1, h2, hz, qs, q⟩ := h
  cases rx
  obtain ⟨t, rfl⟩ := ry
  obtain ⟨its, r, ⟨⟨cls, dd, data, sl⟩, ho, hc, n, hd⟩, hs⟩ := I.tuple hT
  simp only at hc hd
  subst hc hd
  have hle : its.length = xs.length := r.length.symm
  have hsz0 : its.toArray.size = xs.length := by rw [List.size_toArray, hle]
  have c0 : (decide (k < -(2 ^ 63)) || decide (k ≥ 2 ^ 63)) = false := by
    rw [decide_eq_false (by omega), decide_eq_false (by omega)] <;> rfl
  have go : ∀ {Qv : Value → Shared → Prop} {Sp : PySem.Spec} (M : Meets (Builtin.«tuple.__mul__» ⟨[.ref l, .int k t], []⟩) Sp), Sp X.A (wants Qv X.xe) s → wpAny (model X.prog X.w) X.A (binaryOp .Mult (.ref l) (.int k t)) Qv X.xe s := fun M hM =>
    wpAny_binaryOp_repeat_ref (T := "tuple") (U := "int") (by decide) ⟨_, ho, rfl⟩ (fun s' => typeIs_int s' k t) noFill_tuple_mul F.fills_int_mul F.slot_int_rmul repeat_tuple F.slot_int_index.lookup
    (call_meets F.slot_int_rmul (typeIs_int s k t) F.entry_int_rmul (F.args_int_rmul_2 _ _) (int_rmul_tuple k t l its.toArray n dd sl)
      ⟨ho, rfl, ⟨_, ho, rfl⟩, call_meets F.slot_tuple_mul ⟨_, ho, rfl⟩ F.entry_tuple_mul (F.args_tuple_mul_2 _ _) M hM⟩)
  have hi : its.toArray.isEmpty = xs.isEmpty := by
    cases its with
    | nil => rw [show xs = [] from List.eq_nil_of_length_eq_zero hle.symm]; rfl
    | cons a b =>
      cases xs with
      | nil => cases hle
      | cons _ _ => rfl
  by_cases c1 : (its.toArray.isEmpty || k == 1) = true
  · refine go (tuple_mul1 l its.toArray n dd sl k t c0 c1) ⟨ho, ?_⟩
    refine ⟨.ref l, H, I, rfl, qs ?_⟩
    rw [hi] at c1
    rcases Bool.or_eq_true_iff.mp c1 with c | c
    · exact .inl (List.isEmpty_iff.mp c)
    · exact .inr (by simpa using c)
  have c1 : (its.toArray.isEmpty || k == 1) = false := by simpa using c1
  have hne : its.toArray.isEmpty = false := by
    cases e : its.toArray.isEmpty with
    | false => rfl
    | true => rw [e] at c1; cases c1
  by_cases c2 : k ≤ 0
  · refine go (tuple_mul0 l its.toArray n dd sl k t c0 c1 (by rw [hne, decide_eq_true c2]; rfl)) ⟨ho, ?_⟩
    have e0 : k.toNat = 0 := by omega
    rw [e0] at q
    exact ⟨.ref s.heap.objs.size, _, I.laid (t' := s.toks) (o := .tup (List.replicate 0 xs).flatten) (fun b ob q => Heap.get?_push_of_some _ q) (Nat.le_refl _) ⟨by simp, [], .nil, IsTup.new _ _⟩, rfl, q _ (I.hok.fresh (Nat.le_refl _))⟩
  · have c2' : (decide (k ≤ 0) || its.toArray.isEmpty) = false := by rw [hne, decide_eq_false c2]; rfl
    have hm : ((its.toArray.size : Nat) : Int) * k ≤ (sizeLine : Nat) := by
      rw [hsz0]
      have : ((xs.length * k.toNat : Nat) : Int) ≤ (sizeLine : Nat) := by exact_mod_cast hz
      rw [Int.natCast_mul, show ((k.toNat : Nat) : Int) = k by omega] at this
      exact this
    have flen : (List.replicate k.toNat its).flatten.length ≤ sizeLine := by
      rw [PyProof.Rows.lm_len_rep_flat, hle, Nat.mul_comm]
      exact hz
    have c3 : ¬ ((its.toArray.size : Nat) : Int) * k > (2 ^ 63 - 1) / 8 := by
      rw [sizeLine_eq] at hm
      omega
    have c4 : Builtin.Tuple.tupleTooMany (((its.toArray.size : Nat) : Int) * k) = false := by
      unfold Builtin.Tuple.tupleTooMany
      exact decide_eq_false (by omega)
    refine go (tuple_mulW l its.toArray n dd sl k t c0 c1 c2' c3 c4 (by rw [size_rep, List.size_toArray]; exact flen)) ⟨ho, ?_⟩
    rw [size_rep]
    refine ⟨.ref s.heap.objs.size, _, I.laid (t' := s.toks) (o := .tup (List.replicate k.toNat xs).flatten) (fun b ob q => Heap.get?_push_of_some _ q) (Nat.le_refl _) ?_, rfl, q _ (I.hok.fresh (Nat.le_refl _))⟩
    exact ⟨by rw [PyProof.Rows.lm_len_rep_flat, Nat.mul_comm]; exact hz, _, r.rep k.toNat, IsTup.new _ _⟩
end
@[simp] def dRepT : PyData → PyData → Option PyData
  | .tuple xs, .int k => if -9223372036854775808 ≤ k ∧ k < 9223372036854775808 ∧ xs.length * k.toNat ≤ 16777216 then some (.tuple (List.replicate k.toNat xs).flatten) else none
  | _, _ => none
theorem os_repT {K : PySem.W.Frag} : OpS K (rRepT2 K) dRepT := by
  intro c ρ σ H v1 v2 x y d Q R r1 r2 ho q
  unfold dRepT at ho
  split at ho
  · rename_i ds k
    split at ho
    · rename_i hk
      cases ho
      cases r2
      cases r1 with
      | @tup a xs _ l al =>
        refine ⟨_, _, xs, rfl, rfl, l.sq, by omega, by omega, by rw [al.length, sl16]; exact hk.2.2, fun hs => ?_, fun p hp => ?_⟩
        · refine q _ _ R ?_ fun _ _ h => h
          have e : (List.replicate k.toNat ds).flatten = ds := by
            rcases hs with rfl | rfl
            · cases al
              simp
            · simp
          rw [e]
          exact .tup l al
        · exact q _ _ (R.alloc hp).1 (R.newTup hp (rpa_rep al _)) (R.alloc hp).2
    · cases ho
  · cases ho
end PG
end
section
set_option Elab.async false
set_option linter.all false
set_option maxRecDepth 100000
namespace PG
open PySem PySem.Spec PyProof.Rows L2
/-! ### a table of the module whose keys are tuples of whole numbers -/
def intsAt : List Value → List Int → Bool
  | [], [] => true
  | v :: r, i :: t => Value.isInt i v && intsAt r t
  | _, _ => false
def seqTop : Data → Option (List Value)
  | .seq its _ => some its.toList
  | _ => none
def keyAt (K : PySem.W.Frag) (v : Value) (ks : List Int) : Bool := match v with
  | .ref b => match K.lookup b with
    | some o => o.cls == Value.type "tuple" && (match seqTop o.data with
      | some its => intsAt its ks
      | none => false)
    | none => false
  | _ => false
def tupH (ks : List Int) : Int := reduceHash (Builtin.Tuple.tupleHashOf (ks.map hashInt))
def tentOk (K : PySem.W.Frag) : List DictEntry → List (List Int × Int) → Bool
  | [], [] => true
  | e :: r, p :: t => decide (e.hash = tupH p.1) && keyAt K e.key p.1 && Value.isInt p.2 e.val && tentOk K r t
  | _, _ => false
def inK (ks : List Int) : List Key := ks.map Sum.inl
structure TTab (K : PySem.W.Frag) (d : Addr) (tab : List (List Int × Int)) : Prop where
  at_ : ∃ es n, K.lookup d = some ⟨.type "dict", none, .dict es n, #[]⟩ ∧ tentOk K es.toList tab = true
  one : (tab.map fun p => inK p.1).Nodup
  low : (d == sysModules) = false
def getT (tab : List (List Int × Int)) (ks : List Int) : Option Int := (tab.find? fun p => decide (p.1 = ks)).map (·.2)
theorem inK_inj : ∀ {a b : List Int}, inK a = inK b → a = b
  | [], [], _ => rfl
  | [], _ :: _, h => by simp [inK] at h
  | _ :: _, [], h => by simp [inK] at h
  | x :: a, y :: b, h => by
    simp only [inK, List.map_cons, List.cons.injEq, Sum.inl.injEq] at h
    rw [h.1, inK_inj (a := a) (b := b) h.2]
theorem items_ints {P : Program} {w : World} : ∀ {vs : List Value} {ks : List Int}, intsAt vs ks = true → ItemsAre (mixKind P w) (inK ks) vs
  | [], [], _ => .nil
  | [], _ :: _, h => by cases h
  | _ :: _, [], h => by cases h
  | v :: vs, k :: ks, h => by
    simp only [intsAt, Bool.and_eq_true] at h
    exact .cons h.1 (items_ints h.2)
theorem keyAt_inv {P : Program} {w : World} {K : PySem.W.Frag} {v : Value} {ks : List Int} (h : keyAt K v ks = true) : ∃ b o its n, v = .ref b ∧ K.lookup b = some o ∧ o.cls = .type "tuple" ∧ o.data = .seq its n ∧ ItemsAre (mixKind P w) (inK ks) its.toList := by
  unfold keyAt at h
  split at h
  · rename_i b
    split at h
    · rename_i o ho
      rw [Bool.and_eq_true] at h
      obtain ⟨h1, h2⟩ := h
      split at h2
      · rename_i its hi
        unfold seqTop at hi
        split at hi
        · rename_i arr n hd
          cases hi
          exact ⟨b, o, arr, n, rfl, ho, eq_of_beq h1, hd, items_ints h2⟩
        · cases hi
      · cases h2
    · cases h
  · cases h
theorem tent_xs {P : Program} {w : World} {K : PySem.W.Frag} : ∀ {es : List DictEntry} {tab : List (List Int × Int)}, tentOk K es tab = true →
    ∃ xs : List (List Key × Addr × Value), es = xs.map (entryOfKey (tupleKind (mixKind P w))) ∧ xs.map (·.1) = tab.map (fun p => inK p.1) ∧
      (∀ x ∈ xs, ∃ o its n, K.lookup x.2.1 = some o ∧ o.cls = .type "tuple" ∧ o.data = .seq its n ∧ ItemsAre (mixKind P w) x.1 its.toList) ∧
      ∀ ks : List Int, match getT tab ks with
        | some v => ∃ t, (atKey xs (inK ks)).map (·.2) = some (Value.int v t)
        | none => (atKey xs (inK ks)).map (·.2) = none
  | [], [], _ => ⟨[], rfl, rfl, fun x hx => by simp at hx, fun ks => rfl⟩
  | [], _ :: _, h => by cases h
  | _ :: _, [], h => by cases h
  | e :: r, p :: t, h => by
    simp only [tentOk, Bool.and_eq_true, decide_eq_true_eq] at h
    obtain ⟨⟨⟨h1, h2⟩, h3⟩, h4⟩ := h
    obtain ⟨xs, q1, q2, q3, q4⟩ := tent_xs (P := P) (w := w) h4
    obtain ⟨b, o, its, n, ek, k1, k2, k3, k4⟩ := keyAt_inv (P := P) (w := w) h2
    obtain ⟨tv, ev⟩ := Value.isInt_shape h3
    refine ⟨(inK p.1, b, e.val) :: xs, ?_, ?_, ?_, ?_⟩
    · obtain ⟨eh, ekk, evv⟩ := e
      simp only at ek h1
      subst ek h1
      rw [List.map_cons, ← q1]
      congr 1
      show _ = DictEntry.mk (tupleKeyHash (mixKind P w) (inK p.1)) _ _
      congr 1
      unfold tupH tupleKeyHash inK
      rw [List.map_map]
      rfl
    · rw [List.map_cons, List.map_cons, q2]
    · intro x hx
      rcases List.mem_cons.mp hx with rfl | hx
      · exact ⟨o, its, n, k1, k2, k3, k4⟩
      · exact q3 x hx
    · intro ks
      have ih := q4 ks
      unfold getT atKey at ih ⊢
      by_cases c : p.1 = ks
      · rw [List.find?_cons_of_pos (by simpa using c), List.find?_cons_of_pos (by simp [c])]
        exact ⟨tv, by simp [ev]⟩
      · rw [List.find?_cons_of_neg (by simpa using c), List.find?_cons_of_neg (by simp; exact fun z => c (inK_inj z))]
        exact ih
section
variable {X : Cx} {d : Addr} {tab : List (List Int × Int)} {o e : Expr} {apos cpos : Pos} {f : EF}
theorem ttab_dict (D : TTab X.K d tab) {pins : List (Addr × Obj)} {σ : L2.St} {H : Hp} {s : Shared} (I : L2.Inv X pins σ H s) : ∃ xs, s.heap.DictOfH (tupleKind (mixKind X.prog X.w)) d xs ∧ ∀ ks : List Int, (match getT tab ks with
    | some v => ∃ t, (atKey xs (inK ks)).map (·.2) = some (Value.int v t)
    | none => (atKey xs (inK ks)).map (·.2) = none) := by
  obtain ⟨es, n, hl, hk⟩ := D.at_
  obtain ⟨xs, q1, q2, q3, q4⟩ := tent_xs (P := X.prog) (w := X.w) hk
  refine ⟨xs, ⟨_, es, n, I.kIn _ _ hl, ⟨rfl, rfl, rfl⟩, rfl, q1, fun x hx => ?_, by rw [q2]; exact D.one⟩, q4⟩
  obtain ⟨o, its, m, a1, a2, a3, a4⟩ := q3 x hx
  exact ⟨o, its, m, I.kIn _ _ a1, a2, a3, a4⟩
def rGetT1 (K : PySem.W.Frag) (tab : List (List Int × Int)) : V → Hp → VK → Prop := fun y H Q => ∃ (b : Addr) (ks : List Int), y = .ref b ∧ SqT K H b (ks.map V.int) ∧ Q (match getT tab ks with
  | some v => .int v
  | none => .non) H
theorem pe_tget1 {ty : TE} (hu : X.A.units + 1 < cLine) (D : TTab X.K d tab) (ho : PE X o (tC (.ref d))) (he : PE X e ty) (m : M1 X o "get" apos e cpos) : PE X (.Call (.Attribute o "get" apos) [e] [] cpos) (fun σ H Q => ty σ H fun y H2 => rGetT1 X.K tab y H2 Q) := by
  refine ⟨fun pins s σ H Q I h => ?_⟩
  refine wpAny_Call_method m.base m.few m.line PySem.F.plainAttrs_dict PySem.F.slot_dict_get PySem.F.type_dict_get (thn (ho.run pins s σ H (fun x H1 => x = .ref d ∧ ty σ H1 fun y H2 => rGetT1 X.K tab y H2 Q) I ⟨rfl, h⟩) fun u s1 ⟨x, H1, I1, rx, ex, q1⟩ => ?_)
  subst ex
  obtain rfl : u = Value.ref d := rx
  obtain ⟨xs, hm, _⟩ := ttab_dict D I1
  refine ⟨hm.typeIs, fun b q => ?_, ?_⟩
  · cases q
    obtain ⟨ob, _, _, h1, h2, _⟩ := hm
    exact ⟨ob, h1, h2.2.1⟩
  rw [m.trees]
  refine Calls.callWith_builtin rfl (Calls.evalArgs_plain (Calls.spliced_cons (thn (he.run pins s1 σ H1 _ I1 q1) fun iv s2 ⟨y, H2, I2, ry, b, ks, ey, hT, q2⟩ => Calls.spliced_nil ?_)))
  subst ey
  obtain rfl : iv = Value.ref b := ry
  obtain ⟨xs, hm, hi⟩ := ttab_dict D I2
  obtain ⟨its, r, ⟨o, ho, hc, n, hd⟩, _⟩ := I2.tuple hT
  have hkey : (tupleKind (mixKind X.prog X.w)).is s2.heap (inK ks) b := by
    refine ⟨o, its.toArray, n, ho, hc, hd, ?_⟩
    have e : ks.map V.int = (inK ks).map kV := by rw [inK, List.map_map]; rfl
    rw [e] at r
    simpa using items_are r
  refine call_meetsIn PySem.F.slot_dict_get hm.typeIs PySem.F.entry_dict_get (PySem.F.args_dict_get_2 _ _) (meetsH_dict_get (tupleKind (mixKind X.prog X.w)) d b D.low) ⟨tupleKind_room_in1 hu, inK ks, xs, hkey, hm, ?_⟩
  have hi := hi ks
  refine ⟨_, H2, I2.tok _, ?_, q2⟩
  cases hg : getT tab ks with
  | some v =>
    rw [hg] at hi
    obtain ⟨t2, e2⟩ := hi
    rw [e2]
    exact ⟨t2, rfl⟩
  | none =>
    rw [hg] at hi
    rw [hi]
    rfl
@[simp] def dGetT1 (tab : List (List Int × Int)) : PyData → Option PyData
  | .tuple ds => (match intsOf ds with
    | some ks => some (match getT tab ks with
      | some v => .int v
      | none => .none)
    | none => none)
  | _ => none
theorem ev_tget1 (hu : X.A.units + 1 < cLine) (D : TTab X.K d tab) (ho : PE X o (tC (.ref d))) (he : PE X e (tE X.K f)) (m : M1 X o "get" apos e cpos) : PE X (.Call (.Attribute o "get" apos) [e] [] cpos) (tE X.K (eUn (dGetT1 tab) f)) :=
  pe_of (pe_tget1 hu D ho he m) fun σ H Q ⟨c, ρ, z, ρ', R, e, q⟩ => by
    obtain ⟨x, h1, h2⟩ := un_inv e
    refine ⟨c, ρ, x, ρ', R, h1, fun v1 H1 R1 r1 m1 => ?_⟩
    match x, h2, r1 with
    | .tuple ds, h2, r1 =>
      unfold dGetT1 at h2
      dsimp only at h2
      split at h2
      · rename_i ks hks
        cases h2
        have := intsOf_map hks
        subst this
        cases r1 with
        | @tup a xs _ l al =>
          have e := al.ints
          subst e
          refine ⟨a, ks, rfl, l.sq, q _ H1 R1 ?_ m1⟩
          cases getT tab ks with
          | some v => exact .int v
          | none => exact .non
      · cases h2
/-! ### list(range(a, b)) -/
def nLstRg (f g : EF) : NF := fun ρ => match f ρ with
  | some (.int i, ρ1) => (match g ρ1 with
    | some (.int j, ρ2) => if -1000000 ≤ i ∧ i ≤ 1000000 ∧ -1000000 ≤ j ∧ j ≤ 1000000 then some (rng i (j - i).toNat, ρ2) else none
    | _ => none)
  | _ => none
theorem rpa_rg {K : PySem.W.Frag} {A : Addr → Prop} {H : Hp} (f : Nat → Int) : ∀ l : List Nat, RpA K A H (l.map fun i => V.int (f i)) (l.map fun i => PyData.int (f i))
  | [] => .nil
  | _ :: l => .cons (.int _) (rpa_rg f l)
theorem en_lstRg {a b : Expr} {g : EF} {p q1 : Pos} {pos pos2 : Pos} (hc : X.calm = true) (hg : Gl X "list") (hm : X.mg "list" = none) (hg2 : Gl X "range") (hm2 : X.mg "range" = none) (ha : PE X a (tE X.K f)) (hb : PE X b (tE X.K g))
    (na : starEach [Expr.Call (.Name "range" q1) [a, b] [] pos2] X.env = (false, eval (Expr.Call (.Name "range" q1) [a, b] [] pos2) X.env) :: starEach [] X.env := by rfl)
    (na2 : starEach [a, b] X.env = (false, eval a X.env) :: starEach [b] X.env := by rfl)
    (nb : starEach [b] X.env = (false, eval b X.env) :: starEach [] X.env := by rfl) (hp : (backTo pos2 (starEach [b] X.env)).any (·.1) = false := by rfl) :
    PE X (.Call (.Name "list" p) [.Call (.Name "range" q1) [a, b] [] pos2] [] pos) (tN X.K (nLstRg f g)) :=
  pe_of (pe_listRg hc hg hm (prg_2 hg2 hm2 ha hb na2 nb hp) na) fun σ H Q ⟨c, ρ, ds, ρ', R, e, q⟩ => by
    unfold nLstRg at e
    split at e
    · rename_i i ρ1 h1
      split at e
      · rename_i j ρ2 h2
        split at e
        · rename_i hl
          obtain ⟨e1, e2⟩ := so e
          subst e1 e2
          refine ⟨c, ρ, .int i, ρ1, R, h1, fun v1 H1 R1 r1 m1 => ⟨c, ρ1, .int j, ρ2, R1, h2, fun v2 H2 R2 r2 m2 => ?_⟩⟩
          cases r1
          cases r2
          refine ⟨i, j, rfl, rfl, ⟨by omega, by omega, by omega, by omega, by omega⟩, fun p hp => ?_⟩
          have m := m1.trans m2
          exact q p _ _ (R2.plus hp (kp_upd hp) (by rw [upd_same]; exact fun z => nomatch z)) upd_same (rpa_rg (fun k => i + (k : Nat)) _) (R2.noAv hp) (R2.fresh0 hp) (avOf (K := X.K) m hp) (m.trans (R2.mvG (kp_upd hp)))
        · cases e
      · cases e
    · cases e
end
/-! ### a list of the module, read only -/
def flatOk : List Value → List PyData → Bool
  | [], [] => true
  | v :: r, .int i :: t => Value.isInt i v && flatOk r t
  | v :: r, .str x :: t => Value.isStrOf x v && flatOk r t
  | _, _ => false
def flatV1 : PyData → V
  | .int i => .int i
  | .str x => .str x
  | _ => .non
structure ROTab (K : PySem.W.Frag) (d : Addr) (ds : List PyData) : Prop where
  at_ : ∃ its n, K.lookup d = some ⟨.type "list", none, .seq its n, #[]⟩ ∧ flatOk its.toList ds = true
  low : ds.length ≤ 1000
theorem flatA_of : ∀ {vs : List Value} {ds : List PyData}, flatOk vs ds = true → FlatA (ds.map flatV1) ds ∧ Vals (ds.map flatV1) vs ∧ vs.length = ds.length
  | [], [], _ => ⟨.nil, .nil, rfl⟩
  | [], _ :: _, h => by cases h
  | _ :: _, [], h => by cases h
  | v :: r, .int i :: t, h => by
    simp only [flatOk, Bool.and_eq_true] at h
    obtain ⟨a, b, c⟩ := flatA_of h.2
    exact ⟨.int i a, .cons (Value.isInt_shape h.1) b, by simp [c]⟩
  | v :: r, .str x :: t, h => by
    simp only [flatOk, Bool.and_eq_true] at h
    obtain ⟨a, b, c⟩ := flatA_of h.2
    exact ⟨.str x a, .cons (keyIs_rel (k := .inr x) h.1) b, by simp [c]⟩
theorem ROTab.ro {K : PySem.W.Frag} {d : Addr} {ds : List PyData} (D : ROTab K d ds) (A : Addr → Prop) (H : Hp) : Rp K A H (.ref d) (RO ds) := by
  obtain ⟨its, n, hl, hf⟩ := D.at_
  obtain ⟨a, b, c⟩ := flatA_of hf
  have := D.low
  exact .ro (.inr ⟨_, its, n, hl, rfl, rfl, rfl, by rw [← Array.length_toList, c, sl16]; omega, b⟩) a
theorem ev_ro {X : Cx} {d : Addr} {ds : List PyData} {e : Expr} (D : ROTab X.K d ds) (h : PE X e (tC (.ref d))) : PE X e (tE X.K (eC (RO ds))) := ev_c h fun A H => D.ro A H
theorem u1 {A : Around} {k : Nat} (r : Room k A) : A.units + 1 < cLine := by have := r.un; omega
end PG
end
section
set_option Elab.async false
set_option linter.all false
set_option maxRecDepth 100000
namespace PG
open PySem PySem.Spec PyProof.Rows L2
/-! ### t < u of tuples of whole numbers -/
@[simp] def dLtT : PyData → PyData → Option PyData
  | .tuple xs, .tuple ys => (match intsOf xs, intsOf ys with
    | some ns, some ms => some (.bool (HT.lexLt ns ms))
    | _, _ => none)
  | _, _ => none
theorem os_ltT {K : PySem.W.Frag} : OpS K (rLtT K) dLtT := by
  intro c ρ σ H v1 v2 x y d Q R r1 r2 ho q
  unfold dLtT at ho
  split at ho
  · rename_i xs ys
    split at ho
    · rename_i ns ms hn hm
      cases ho
      have e1 := intsOf_map hn
      have e2 := intsOf_map hm
      subst e1 e2
      cases r1 with
      | @tup a us _ l al =>
        cases r2 with
        | @tup b ws _ l2 al2 =>
          have e := al.ints
          have e' := al2.ints
          subst e e'
          exact ⟨a, b, ns, ms, rfl, rfl, l.sq, l2.sq, q _ _ R (.bl _) fun _ _ h => h⟩
    · cases ho
  · cases ho
/-! ### raise: nothing is said of it -/
def sRaise : SF := fun _ => none
theorem es_raise {X : Cx} {st : Stmt} : PS X st (tS X.K sRaise) := by
  refine ⟨fun pins s σ H D I h => ?_⟩
  obtain ⟨c, ρ, o, ρ', R, e, q⟩ := h
  cases e
end PG
end
section
set_option Elab.async false
set_option linter.all false
set_option maxRecDepth 100000
namespace PG
open PySem PySem.Spec PyProof.Rows L2
section
variable {prog : Program} {w : World} {A : Around} {E : Value → Shared → Prop} {s : Shared}
/-- sorted of a tuple whose items are pairs of whole numbers -/
theorem sorted_tup {l : Addr} {vs : List Value} {k : Value → Int × Int} {Q : Value → Shared → Prop} (hl : IsTup s.heap l vs.toArray) (hz : vs.length ≤ sizeLine) (hp : ∀ v ∈ vs, Srt.IsPair s.heap v (k v).1 (k v).2)
    (h : ∀ (h1 h' : Heap) (out : List Value), SrtO.Srtd (fun v u => SrtO.lexB (k v) (k u)) out → SrtO.Stb (fun v u => SrtO.lexB (k v) (k u)) out vs → (∀ b o, s.heap.get? b = some o → h1.get? b = some o) → (∀ b o, h1.get? b = some o → h'.get? b = some o) →
      (∃ n, h'.get? h1.objs.size = some (seqObj "list" out.toArray n)) → Q (.ref h1.objs.size) { s with heap := h' }) : wpAny (model prog w) A (call (.builtin "sorted") [.ref l]) Q E s := by
  obtain ⟨o, ho, hc, n, hd⟩ := hl
  apply Calls.call_function_entry kind_sorted plain_sorted entry_sorted (args_sorted1 _); unfold Builtin.«sorted»
  refine wpAny_bind (m := checkCount "sorted" 1 1 _) (wpAny_pure (wpAny_bind (wpAny_collect_seq (hsz := by rw [List.size_toArray]; exact hz) l (.inr rfl) ho hc hd fun h1 k1 => ?_)))
  rw [show vs.toArray.toList = vs by simp]
  refine wpAny_bind (wpAny_newList ?_ hz)
  have at2 : (h1.push (seqObj "list" vs.toArray 0)).get? h1.objs.size = some (seqObj "list" vs.toArray 0) := Heap.get?_push_size _ rfl
  have k2 : ∀ b o, s.heap.get? b = some o → b ≠ h1.objs.size ∧ (h1.push (seqObj "list" vs.toArray 0)).get? b = some o := fun b o q => ⟨Nat.ne_of_lt (Heap.lt_size (k1 b o q)), Heap.get?_push_of_some _ (k1 b o q)⟩
  show wpAny _ _ _ _ _ { s with heap := h1.push (seqObj "list" vs.toArray 0) }
  refine wpAny_bind (wpAny_holding (wpAny_call_entry slot_list_sort ⟨_, at2, rfl⟩ entry_list_sort (SrtO.list_sort_ord (SrtO.swo_lex k) at2 hz (fun h2 => ?_) fun out hs hb => ⟨_, rfl, ?_⟩) (args_list_sort _)))
  · exact SrtO.pairs_sortableO (s := { s with heap := h1.push (seqObj "list" vs.toArray 0) }) (by omega) (fun v hv => (hp v hv).keeps fun b o e _ => (k2 b o e).2) fun o e c => by
      have e2 : some o = some (seqObj "list" vs.toArray 0) := e.symm.trans at2
      cases e2
      exact absurd (Value.type.inj c) (by decide)
  · refine wpAny_pure ⟨_, rfl, h h1 _ out hs hb k1 (fun b o q => ?_) (sortedHeap_at at2)⟩
    have lt := Heap.lt_size q
    rw [sortedHeap_old (Nat.ne_of_lt lt) (by rw [size_push']; exact Nat.lt_succ_of_lt lt)]
    exact Heap.get?_push_of_some _ q
end
section
variable {X : Cx}
def sPairsT (K : PySem.W.Frag) : List V → Hp → VK → Prop := fun vs H Q => ∃ (a : Addr) (xs : List V) (ps : List (Int × Int)), vs = [V.ref a] ∧ SqT K H a xs ∧ pairsAt K H xs ps ∧
  ∀ ys p (k : V → Int × Int), ps = xs.map k → SrtO.Srtd (ltP k) ys → SrtO.Stb (ltP k) ys xs → H p = none → Q (.ref p) (upd H p (.lst ys))
theorem cr_sPairsT : CallR X (.builtin "sorted") (sPairsT X.K) := by
  intro pins s σ H vs us Q I r h
  obtain ⟨a, xs, ps, rfl, hs, hx, q⟩ := h
  have hk : ∀ t p, SqT X.K H t [.int p.1, .int p.2] → keyOf X.K H (.ref t) = p := by
    intro t p hp
    have ex : ∃ p : Int × Int, SqT X.K H t [.int p.1, .int p.2] := ⟨p, hp⟩
    have e := I.tuple_inj hp ex.choose_spec
    simp only [List.cons.injEq, V.int.injEq, and_true] at e
    have e2 : keyOf X.K H (.ref t) = ex.choose := by
      unfold keyOf
      exact dif_pos ex
    rw [e2]
    exact (Prod.ext e.1 e.2).symm
  obtain ⟨ep, hx⟩ := pairsAt_map _ hk hx
  generalize keyOf X.K H = k at ep hx
  obtain ⟨its, rv, hl, hz⟩ := I.tuple hs
  obtain ⟨u, rfl, ru⟩ := vals1 r
  obtain rfl : u = Value.ref a := ru
  obtain ⟨e1, e2⟩ := refs_back rv fun x m => by
    obtain ⟨t, e, _⟩ := hx x m
    exact ⟨t, e⟩
  refine sorted_tup (k := fun u => k (backV u)) hl (by rw [← rv.length]; exact hz) (fun v hv => ?_) fun hm h' out s1 s2 k1 k2 hn => ?_
  · obtain ⟨t, rfl⟩ := e2 v hv
    have hm : V.ref t ∈ xs := by rw [e1]; exact List.mem_map.mpr ⟨_, hv, rfl⟩
    obtain ⟨t', e, ht⟩ := hx _ hm
    cases e
    obtain ⟨its2, r2, ⟨o, ho, hc, n, hd⟩, _⟩ := I.tuple ht
    obtain ⟨u1, u2, rfl, ri, rj⟩ := vals2 r2
    obtain ⟨t1, rfl⟩ := ri
    obtain ⟨t2, rfl⟩ := rj
    exact ⟨t, o, t1, t2, n, rfl, ho, hc, hd⟩
  · have h3 : ∀ u ∈ out, ∃ a, u = Value.ref a := fun u hu => e2 u (s2.perm.mem_iff.mp hu)
    obtain ⟨n, hn⟩ := hn
    have hb : SrtO.Stb (ltP k) (out.map backV) xs := by
      rw [e1]
      exact SrtO.Stb.map (ltP_swo k) backV s2
    have I1 : Inv X pins σ H { s with heap := hm } := I.kept (t' := s.toks) k1
    refine ⟨.ref hm.objs.size, upd H hm.objs.size (.lst (out.map backV)), I1.laid (t' := s.toks) k2 (Nat.le_refl _) ⟨?_, out, n, vals_back h3, hn⟩, rfl, q _ _ k ep (SrtO.srtd_map s1) hb (I1.hok.fresh (Nat.le_refl _))⟩
    rw [hb.len]
    exact hz
def dSortPT : PyData → Option (List PyData)
  | .tuple ds => (match pairsOf ds with
    | some l => some ((sortP l).map prD)
    | none => none)
  | _ => none
theorem fn_sortPT {K : PySem.W.Frag} : FnN K (sPairsT K) (n1of dSortPT) := by
  intro c ρ σ H vs ds ys Q R r ho q
  obtain ⟨x, rfl, h2⟩ := n1_inv ho
  obtain ⟨v, rfl, w1⟩ := rpa1 r
  unfold dSortPT at h2
  split at h2
  · rename_i ds
    split at h2
    · rename_i l hl
      cases h2
      have e := pairsOf_eq hl
      subst e
      cases w1 with
      | @tup p xs _ la al =>
        refine ⟨p, xs, l, rfl, la.sq, pairsAt_of al, fun zs p2 k hk h1 h3 hp => q p2 zs hp ?_⟩
        have e1 : zs.map k = sortP l := by
          refine srt_uniq (SrtO.srtd_map (lt := SrtO.lexB) (f := k) h1) (srt_sortP l) ?_
          rw [hk]
          exact (h3.perm.map k).trans (perm_sortP _).symm
        rw [← e1]
        refine rpa_of_mem k fun y hy => ?_
        rw [hk] at al
        exact rpa_mem k al y (h3.perm.mem_iff.mp hy)
    · cases h2
  · cases h2
end
/-! a list unpacked into names -/
@[simp] def gLstS (is : List Nat) : GF := fun d ρ => match d with
  | .list ds => gPairs is ds ρ
  | _ => none
section
variable {X : Cx} {es : List Expr} {pos : Pos}
theorem eg_lst {k : Nat} {is : List Nat} (hc : X.calm = true) (h : PGs X es (gsPairs is)) (hn : (assignEach es X.env).length = is.length := by rfl) (hst : (assignEach es X.env).findIdx? (·.1) = none := by rfl) : PG X (.Tuple es k pos) (tG X.K (gLstS is) is) :=
  pg_of (pg_lst hc h hn hst) fun v σ H Q ⟨c, ρ, d, ρ', R, r, e, q⟩ => by
    unfold gLstS at e
    split at e
    · rename_i ds
      cases r with
      | @lst p xs _ l al =>
        exact ⟨p, xs, rfl, l.sq, by rw [al.length, gpairs_len _ _ _ _ e], rd_pairs is xs ds ρ ρ' σ Q R al e q⟩
    · cases e
end
end PG
end
section
set_option Elab.async false
set_option linter.all false
set_option maxRecDepth 100000
namespace PG
open PySem
/-! ### what is wanted of a part, and what it then wants of its own parts -/
def WS (f : SF) (ρ : Rho) (Q : Out → Rho → Prop) : Prop := ∃ o ρ', f ρ = some (o, ρ') ∧ Q o ρ'
def WE (f : EF) (ρ : Rho) (Q : PyData → Rho → Prop) : Prop := ∃ d ρ', f ρ = some (d, ρ') ∧ Q d ρ'
def WN (f : NF) (ρ : Rho) (Q : List PyData → Rho → Prop) : Prop := ∃ d ρ', f ρ = some (d, ρ') ∧ Q d ρ'
def WT (f : TF) (ρ : Rho) (Q : Bool → Rho → Prop) : Prop := ∃ d ρ', f ρ = some (d, ρ') ∧ Q d ρ'
def WO (f : Option EF) (ρ : Rho) (Q : Option Int → Rho → Prop) : Prop := ∃ d ρ', oE f ρ = some (d, ρ') ∧ Q d ρ'
def WG (g : GF) (d : PyData) (ρ : Rho) (Q : Rho → Prop) : Prop := ∃ ρ', g d ρ = some ρ' ∧ Q ρ'
/-- an answer is there, and it is as wanted -/
def WA (x : Option PyData) (Q : PyData → Prop) : Prop := ∃ z, x = some z ∧ Q z
def WL (x : Option (List PyData)) (Q : List PyData → Prop) : Prop := ∃ z, x = some z ∧ Q z
def WP (x : Option (PyData × List PyData)) (Q : PyData → List PyData → Prop) : Prop := ∃ z ps, x = some (z, ps) ∧ Q z ps
def WB (x : Option Bool) (Q : Bool → Prop) : Prop := ∃ z, x = some z ∧ Q z
theorem WA.mono {x : Option PyData} {Q R : PyData → Prop} (h : WA x Q) (k : ∀ z, Q z → R z) : WA x R := let ⟨z, e, q⟩ := h; ⟨z, e, k z q⟩
theorem WL.mono {x : Option (List PyData)} {Q R : List PyData → Prop} (h : WL x Q) (k : ∀ z, Q z → R z) : WL x R := let ⟨z, e, q⟩ := h; ⟨z, e, k z q⟩
theorem WP.mono {x : Option (PyData × List PyData)} {Q R : PyData → List PyData → Prop} (h : WP x Q) (k : ∀ z ps, Q z ps → R z ps) : WP x R := let ⟨z, ps, e, q⟩ := h; ⟨z, ps, e, k z ps q⟩
theorem WS.mono {f : SF} {ρ : Rho} {Q R : Out → Rho → Prop} (h : WS f ρ Q) (k : ∀ o ρ', Q o ρ' → R o ρ') : WS f ρ R := let ⟨o, r, e, q⟩ := h; ⟨o, r, e, k _ _ q⟩
theorem WE.mono {f : EF} {ρ : Rho} {Q R : PyData → Rho → Prop} (h : WE f ρ Q) (k : ∀ o ρ', Q o ρ' → R o ρ') : WE f ρ R := let ⟨o, r, e, q⟩ := h; ⟨o, r, e, k _ _ q⟩
theorem WN.mono {f : NF} {ρ : Rho} {Q R : List PyData → Rho → Prop} (h : WN f ρ Q) (k : ∀ o ρ', Q o ρ' → R o ρ') : WN f ρ R := let ⟨o, r, e, q⟩ := h; ⟨o, r, e, k _ _ q⟩
theorem WT.mono {f : TF} {ρ : Rho} {Q R : Bool → Rho → Prop} (h : WT f ρ Q) (k : ∀ o ρ', Q o ρ' → R o ρ') : WT f ρ R := let ⟨o, r, e, q⟩ := h; ⟨o, r, e, k _ _ q⟩
theorem wa_eq {x : Option PyData} {e : PyData} {Q : PyData → Prop} (h : x = some e) (q : Q e) : WA x Q := ⟨e, h, q⟩
theorem wl_eq {x : Option (List PyData)} {e : List PyData} {Q : List PyData → Prop} (h : x = some e) (q : Q e) : WL x Q := ⟨e, h, q⟩
theorem wp_eq {x : Option (PyData × List PyData)} {e : PyData} {ps : List PyData} {Q : PyData → List PyData → Prop} (h : x = some (e, ps)) (q : Q e ps) : WP x Q := ⟨e, ps, h, q⟩
theorem wb_eq {x : Option Bool} {e : Bool} {Q : Bool → Prop} (h : x = some e) (q : Q e) : WB x Q := ⟨e, h, q⟩
theorem of_wa {x : Option PyData} {e : PyData} (h : WA x (· = e)) : x = some e := by obtain ⟨z, h, rfl⟩ := h; exact h
theorem of_wl {x : Option (List PyData)} {e : List PyData} (h : WL x (· = e)) : x = some e := by obtain ⟨z, h, rfl⟩ := h; exact h

section
variable {ρ : Rho}
/-! slots that are stored -/
def PlainC (x : Option Cell) : Prop := x = none ∨ ∃ d, x = some (.v d)
inductive SetR : Nat → PyData → Rho → Rho → Prop
  | h0 {d : PyData} {r : Rho} : SetR 0 d (none :: r) (some (.v d) :: r)
  | h1 {d x : PyData} {r : Rho} : SetR 0 d (some (.v x) :: r) (some (.v d) :: r)
  | hl {d : PyData} {xs : List PyData} {r : Rho} : SetR 0 d (some (.l false xs) :: r) (some (.v d) :: r)
  | hc {d : PyData} {c : Option Cell} {r : Rho} : PlainC c → SetR 0 d (c :: r) (some (.v d) :: r)
  | s {i : Nat} {d : PyData} {c : Option Cell} {r r' : Rho} : SetR i d r r' → SetR (i + 1) d (c :: r) (c :: r')
inductive SetLR : Nat → List PyData → Rho → Rho → Prop
  | h0 {d : List PyData} {r : Rho} : SetLR 0 d (none :: r) (some (.l false d) :: r)
  | h1 {d : List PyData} {x : PyData} {r : Rho} : SetLR 0 d (some (.v x) :: r) (some (.l false d) :: r)
  | hl {d xs : List PyData} {r : Rho} : SetLR 0 d (some (.l false xs) :: r) (some (.l false d) :: r)
  | s {i : Nat} {d : List PyData} {c : Option Cell} {r r' : Rho} : SetLR i d r r' → SetLR (i + 1) d (c :: r) (c :: r')
/-- an owned list in its slot is another one -/
inductive PutR : Nat → List PyData → Rho → List PyData → Rho → Prop
  | h {p : Bool} {ds ds' : List PyData} {r : Rho} : PutR 0 ds (some (.l p ds) :: r) ds' (some (.l p ds') :: r)
  | s {i : Nat} {ds ds' : List PyData} {c : Option Cell} {r r' : Rho} : PutR i ds r ds' r' → PutR (i + 1) ds (c :: r) ds' (c :: r')
theorem SetR.eq : ∀ {i : Nat} {d : PyData} {r r' : Rho}, SetR i d r r' → setV i d r = some r'
  | _, _, _, _, .h0 => rfl
  | _, _, _, _, .h1 => rfl
  | _, _, _, _, .hl => rfl
  | _, _, _, _, .hc h => by rcases h with rfl | ⟨x, rfl⟩ <;> rfl
  | _, _, _, _, .s (i := i) (c := c) (r := r) h => by
    have := h.eq
    unfold setV at this ⊢
    rw [List.getElem?_cons_succ]
    split at this
    · cases this
    · cases this
    · rename_i x q1 q2
      cases e : r[i]? with
      | none => exact absurd e q1
      | some y =>
        cases y with
        | none => rw [e] at *; simp at this ⊢; exact this
        | some y =>
          cases y with
          | v y => rw [e] at *; simp at this ⊢; exact this
          | l p y =>
            cases p with
            | true => exact absurd e (q2 y)
            | false => rw [e] at *; simp at this ⊢; exact this
theorem SetLR.eq : ∀ {i : Nat} {d : List PyData} {r r' : Rho}, SetLR i d r r' → setL i d r = some r'
  | _, _, _, _, .h0 => rfl
  | _, _, _, _, .h1 => rfl
  | _, _, _, _, .hl => rfl
  | _, _, _, _, .s (i := i) (c := c) (r := r) h => by
    have := h.eq
    unfold setL at this ⊢
    rw [List.getElem?_cons_succ]
    split at this
    · cases this
    · cases this
    · rename_i x q1 q2
      cases e : r[i]? with
      | none => exact absurd e q1
      | some y =>
        cases y with
        | none => rw [e] at *; simp at this ⊢; exact this
        | some y =>
          cases y with
          | v y => rw [e] at *; simp at this ⊢; exact this
          | l p y =>
            cases p with
            | true => exact absurd e (q2 y)
            | false => rw [e] at *; simp at this ⊢; exact this
theorem PutR.get {i : Nat} {ds ds' : List PyData} {r r' : Rho} (h : PutR i ds r ds' r') : ∃ p, r[i]? = some (some (.l p ds)) ∧ r.set i (some (.l p ds')) = r' := by
  induction h with
  | h => exact ⟨_, rfl, rfl⟩
  | s h ih =>
    obtain ⟨p, e1, e2⟩ := ih
    exact ⟨p, by rw [List.getElem?_cons_succ]; exact e1, by rw [List.set_cons_succ, e2]⟩

/-! expressions -/
variable {Q : PyData → Rho → Prop} {f g h : EF} {n m : NF} {t u : TF}
theorem we_name {i : Nat} {d : PyData} (hget : ρ[i]? = some (some (.v d))) (q : Q d ρ) : WE (eName i) ρ Q := ⟨d, ρ, by simp [hget], q⟩
theorem we_frz {i : Nat} {ds : List PyData} {ρ' : Rho} (hget : ρ[i]? = some (some (.l false ds))) (hset : SetR i (.list ds) ρ ρ') (q : Q (.list ds) ρ') : WE (eFrz i) ρ Q := by
  refine ⟨.list ds, ρ', ?_, q⟩
  have := hset.eq
  simp only [setV, hget, Option.some.injEq] at this
  simp [hget, this]
theorem we_c {d : PyData} (q : Q d ρ) : WE (eC d) ρ Q := ⟨d, ρ, rfl, q⟩
theorem we_un {o : PyData → Option PyData} (w : WE f ρ fun x ρ1 => WA (o x) fun z => Q z ρ1) : WE (eUn o f) ρ Q := by
  obtain ⟨x, r, e, z, e2, q⟩ := w
  exact ⟨z, r, by simp [e, e2], q⟩
theorem we_bin {o : PyData → PyData → Option PyData} (w : WE f ρ fun x ρ1 => WE g ρ1 fun y ρ2 => WA (o x y) fun z => Q z ρ2) : WE (eBin o f g) ρ Q := by
  obtain ⟨x, r, e, y, r2, e2, z, e3, q⟩ := w
  exact ⟨z, r2, by simp [e, e2, e3], q⟩
theorem we_if (w : WT t ρ fun b ρ1 => (b = true → WE f ρ1 Q) ∧ (b = false → WE g ρ1 Q)) : WE (eIf t f g) ρ Q := by
  obtain ⟨b, r, e, q1, q2⟩ := w
  cases b with
  | true => obtain ⟨z, r2, e2, q⟩ := q1 rfl; exact ⟨z, r2, by simp [e, e2], q⟩
  | false => obtain ⟨z, r2, e2, q⟩ := q2 rfl; exact ⟨z, r2, by simp [e, e2], q⟩
theorem we_tup (w : WN n ρ fun xs ρ1 => xs.length ≤ 16777216 ∧ Q (.tuple xs) ρ1) : WE (eTup n) ρ Q := by
  obtain ⟨x, r, e, z, q⟩ := w
  exact ⟨_, r, by simp [e, z], q⟩
theorem we_lst (w : WN n ρ fun xs ρ1 => Q (.list xs) ρ1) : WE (eLst n) ρ Q := by
  obtain ⟨x, r, e, q⟩ := w
  exact ⟨_, r, by simp [e], q⟩
theorem we_call {F : List PyData → Option PyData} (w : WN n ρ fun xs ρ1 => WA (F xs) fun z => Q z ρ1) : WE (eCall F n) ρ Q := by
  obtain ⟨x, r, e, z, e2, q⟩ := w
  exact ⟨z, r, by simp [e, e2], q⟩
theorem PutR.uniq {i : Nat} {ds ds' : List PyData} {r r' : Rho} {p : Bool} {es : List PyData} (h : PutR i ds r ds' r') (e : r[i]? = some (some (.l p es))) : es = ds ∧ r.set i (some (.l p ds')) = r' := by
  obtain ⟨q, e1, e2⟩ := h.get
  rw [e1] at e
  cases e
  exact ⟨rfl, e2⟩
theorem we_callL {F : List PyData → List PyData → Option (PyData × List PyData)} {i : Nat} {p0 : Bool} {ps0 : List PyData} (hget : ρ[i]? = some (some (.l p0 ps0)))
    (w : WN n ρ fun xs ρ1 => ∃ p ps, ρ1[i]? = some (some (.l p ps)) ∧ WP (F ps xs) fun z ps' => ∃ ρ2, PutR i ps ρ1 ps' ρ2 ∧ Q z ρ2) : WE (eCallL F i n) ρ Q := by
  obtain ⟨x, r, e, p, ps, h1, z, ps', e2, r2, hp, q⟩ := w
  refine ⟨z, r2, ?_, q⟩
  simp [hget, e, h1, e2, (hp.uniq h1).2]
theorem wn_callL {F : List PyData → List PyData → Option (List PyData × List PyData)} {i : Nat} {p0 : Bool} {ps0 : List PyData} {R : List PyData → Rho → Prop} (hget : ρ[i]? = some (some (.l p0 ps0)))
    (w : WN n ρ fun xs ρ1 => ∃ p ps, ρ1[i]? = some (some (.l p ps)) ∧ ∃ z ps', F ps xs = some (z, ps') ∧ ∃ ρ2, PutR i ps ρ1 ps' ρ2 ∧ R z ρ2) : WN (nCallL F i n) ρ R := by
  obtain ⟨x, r, e, p, ps, h1, z, ps', e2, r2, hp, q⟩ := w
  refine ⟨z, r2, ?_, q⟩
  simp [hget, e, h1, e2, (hp.uniq h1).2]
theorem we_ixL {o : PyData → PyData → Option PyData} {i : Nat} {p0 : Bool} {ps0 : List PyData} (hget : ρ[i]? = some (some (.l p0 ps0))) (w : WE g ρ fun y ρ1 => ∃ p ps, ρ1[i]? = some (some (.l p ps)) ∧ WA (o (.list ps) y) fun z => Q z ρ1) : WE (eIxL o i g) ρ Q := by
  obtain ⟨x, r, e, p, ps, h1, z, e2, q⟩ := w
  exact ⟨z, r, by simp [hget, e, h1, e2], q⟩
theorem we_unL {o : PyData → Option PyData} {i : Nat} {p0 : Bool} {ps0 : List PyData} (hget : ρ[i]? = some (some (.l p0 ps0))) (w : WA (o (.list ps0)) fun z => Q z ρ) : WE (eUnL o i) ρ Q := by
  obtain ⟨z, e2, q⟩ := w
  exact ⟨z, ρ, by simp [hget, e2], q⟩
theorem we_and (w : WE f ρ fun x ρ1 => WB (truth x) fun b => (b = true → WE g ρ1 Q) ∧ (b = false → Q x ρ1)) : WE (eAnd f g) ρ Q := by
  obtain ⟨x, r, e, b, e2, q1, q2⟩ := w
  cases b with
  | true => obtain ⟨z, r2, e3, q⟩ := q1 rfl; exact ⟨z, r2, by simp [-truth, e, e2, e3], q⟩
  | false => exact ⟨x, r, by simp [-truth, e, e2], q2 rfl⟩
theorem we_or (w : WE f ρ fun x ρ1 => WB (truth x) fun b => (b = true → Q x ρ1) ∧ (b = false → WE g ρ1 Q)) : WE (eOr f g) ρ Q := by
  obtain ⟨x, r, e, b, e2, q1, q2⟩ := w
  cases b with
  | true => exact ⟨x, r, by simp [-truth, e, e2], q1 rfl⟩
  | false => obtain ⟨z, r2, e3, q⟩ := q2 rfl; exact ⟨z, r2, by simp [-truth, e, e2, e3], q⟩
theorem we_not (w : WE f ρ fun x ρ1 => WB (truth x) fun b => Q (.bool (!b)) ρ1) : WE (eNot f) ρ Q := by
  obtain ⟨x, r, e, b, e2, q⟩ := w
  exact ⟨_, r, by simp [-truth, e, e2], q⟩
theorem we_chain {o o' : PyData → PyData → Option PyData} (w : WE f ρ fun x ρ1 => WE g ρ1 fun y ρ2 => ∃ b, o x y = some (.bool b) ∧ (b = true → WE h ρ2 fun z ρ3 => ∃ c, o' y z = some (.bool c) ∧ Q (.bool c) ρ3) ∧ (b = false → Q (.bool false) ρ2)) : WE (eChain o o' f g h) ρ Q := by
  obtain ⟨x, r, e, y, r2, e2, b, e3, q1, q2⟩ := w
  cases b with
  | true => obtain ⟨z, r3, e4, c, e5, q⟩ := q1 rfl; exact ⟨_, r3, by simp [e, e2, e3, e4, e5], q⟩
  | false => exact ⟨_, r2, by simp [e, e2, e3], q2 rfl⟩
theorem we_slT {lo hi : Option EF} (w : WE f ρ fun x ρ1 => ∃ xs, x = .tuple xs ∧ WO lo ρ1 fun l ρ2 => WO hi ρ2 fun u ρ3 => Q (.tuple (cutD xs l u)) ρ3) : WE (eSlT f lo hi) ρ Q := by
  obtain ⟨x, r, e, xs, rfl, l, r2, e2, u, r3, e3, q⟩ := w
  exact ⟨_, r3, by simp [-oE, e, e2, e3], q⟩
theorem wo_none {Q : Option Int → Rho → Prop} (q : Q none ρ) : WO none ρ Q := ⟨_, _, rfl, q⟩
theorem wo_some {Q : Option Int → Rho → Prop} (w : WE f ρ fun x ρ1 => ∃ i, x = .int i ∧ Q (some i) ρ1) : WO (some f) ρ Q := by
  obtain ⟨x, r, e, i, rfl, q⟩ := w
  exact ⟨_, r, by simp [e], q⟩
/-! argument lists, new lists -/
variable {R : List PyData → Rho → Prop}
theorem wn_nil (q : R [] ρ) : WN nNil ρ R := ⟨_, _, rfl, q⟩
theorem wn_cons (w : WE f ρ fun x ρ1 => WN n ρ1 fun xs ρ2 => R (x :: xs) ρ2) : WN (nCons f n) ρ R := by
  obtain ⟨x, r, e, xs, r2, e2, q⟩ := w
  exact ⟨_, r2, by simp [e, e2], q⟩
theorem wn_star (w : WE f ρ fun x ρ1 => ∃ xs, (x = .list xs ∨ x = .tuple xs) ∧ WN n ρ1 fun ys ρ2 => R (xs ++ ys) ρ2) : WN (nStar f n) ρ R := by
  obtain ⟨x, r, e, xs, hx, ys, r2, e2, q⟩ := w
  refine ⟨_, r2, ?_, q⟩
  rcases hx with rfl | rfl <;> simp [e, e2]
theorem wn_disp (w : WN n ρ fun xs ρ1 => xs.length ≤ 16777216 ∧ R xs ρ1) : WN (nDisp n) ρ R := by
  obtain ⟨x, r, e, z, q⟩ := w
  exact ⟨_, r, by simp [e, z], q⟩
theorem wn_call {F : List PyData → Option (List PyData)} (w : WN n ρ fun xs ρ1 => WL (F xs) fun z => R z ρ1) : WN (nCall F n) ρ R := by
  obtain ⟨x, r, e, z, e2, q⟩ := w
  exact ⟨z, r, by simp [e, e2], q⟩
theorem wn_sl {lo hi : Option EF} (w : WE f ρ fun x ρ1 => ∃ xs, (x = .list xs ∨ x = RO xs) ∧ WO lo ρ1 fun l ρ2 => WO hi ρ2 fun u ρ3 => R (cutD xs l u) ρ3) : WN (nSl f lo hi) ρ R := by
  obtain ⟨x, r, e, xs, hx, l, r2, e2, u, r3, e3, q⟩ := w
  refine ⟨_, r3, ?_, q⟩
  rcases hx with rfl | rfl <;> simp [-oE, RO, e, e2, e3]
theorem wn_its (w : WE f ρ fun x ρ1 => ∃ xs, (x = .list xs ∨ x = .tuple xs ∨ x = RO xs) ∧ R xs ρ1) : WN (itS f) ρ R := by
  obtain ⟨x, r, e, xs, hx, q⟩ := w
  refine ⟨_, r, ?_, q⟩
  rcases hx with rfl | rfl | rfl <;> simp [RO, e]
theorem wn_r1 (w : WN n ρ fun xs ρ1 => ∃ j, xs = [.int j] ∧ in62 j = true ∧ R (rng 0 j.toNat) ρ1) : WN (itR1 n) ρ R := by
  obtain ⟨x, r, e, j, rfl, e2, q⟩ := w
  exact ⟨_, r, by simp [itR1, e, e2], q⟩
theorem wn_r2 (w : WN n ρ fun xs ρ1 => ∃ i j, xs = [.int i, .int j] ∧ in62 i = true ∧ in62 j = true ∧ R (rng i (j - i).toNat) ρ1) : WN (itR2 n) ρ R := by
  obtain ⟨x, r, e, i, j, rfl, e2, e3, q⟩ := w
  exact ⟨_, r, by simp [itR2, e, e2, e3], q⟩
theorem wn_r3 (w : WN n ρ fun xs ρ1 => ∃ j, xs = [.int 0, .int j, .int 2] ∧ 0 ≤ j ∧ j ≤ 16777216 ∧ R (stp 2 ((j + 1) / 2).toNat) ρ1) : WN (itR3 n) ρ R := by
  obtain ⟨x, r, e, j, rfl, e2, e3, q⟩ := w
  exact ⟨_, r, by simp [itR3, e, e2, e3], q⟩
/-! tests -/
variable {P : Bool → Rho → Prop}
theorem wt_tru (w : WE f ρ fun x ρ1 => WB (truth x) fun b => P b ρ1) : WT (tTru f) ρ P := by
  obtain ⟨x, r, e, b, e2, q⟩ := w
  exact ⟨b, r, by simp [-truth, e, e2], q⟩
theorem wt_bl (w : WE f ρ fun x ρ1 => ∃ b, x = .bool b ∧ P b ρ1) : WT (tBl f) ρ P := by
  obtain ⟨x, r, e, b, rfl, q⟩ := w
  exact ⟨b, r, by simp [e], q⟩
theorem wt_truL {i : Nat} {p : Bool} {ds : List PyData} (hget : ρ[i]? = some (some (.l p ds))) (q : P (!ds.isEmpty) ρ) : WT (tTruL i) ρ P := ⟨_, ρ, by simp [hget], q⟩
theorem wt_and (w : WT t ρ fun b ρ1 => (b = true → WT u ρ1 P) ∧ (b = false → P false ρ1)) : WT (tAnd' t u) ρ P := by
  obtain ⟨b, r, e, q1, q2⟩ := w
  cases b with
  | true => obtain ⟨z, r2, e2, q⟩ := q1 rfl; exact ⟨z, r2, by simp [e, e2], q⟩
  | false => exact ⟨_, r, by simp [e], q2 rfl⟩
theorem wt_or (w : WT t ρ fun b ρ1 => (b = true → P true ρ1) ∧ (b = false → WT u ρ1 P)) : WT (tOr' t u) ρ P := by
  obtain ⟨b, r, e, q1, q2⟩ := w
  cases b with
  | false => obtain ⟨z, r2, e2, q⟩ := q2 rfl; exact ⟨z, r2, by simp [e, e2], q⟩
  | true => exact ⟨_, r, by simp [e], q1 rfl⟩
theorem wt_not (w : WT t ρ fun b ρ1 => P (!b) ρ1) : WT (tNot' t) ρ P := by
  obtain ⟨b, r, e, q⟩ := w
  exact ⟨_, r, by simp [e], q⟩
theorem wt_yes (q : P true ρ) : WT tYesF ρ P := ⟨_, _, rfl, q⟩
/-! statements -/
variable {S : Out → Rho → Prop} {a b c : SF}
theorem ws_asc (w : WS (sSeq a (sSeq b c)) ρ S) : WS (sSeq (sSeq a b) c) ρ S := by
  obtain ⟨o, r, e, q⟩ := w
  refine ⟨o, r, ?_, q⟩
  simp only [sSeq] at e ⊢
  cases h : a ρ with
  | none => rw [h] at e; cases e
  | some x =>
    obtain ⟨oa, ra⟩ := x
    rw [h] at e
    cases oa <;> exact e
theorem ws_nilc (w : WS c ρ S) : WS (sSeq sNil c) ρ S := by
  obtain ⟨o, r, e, q⟩ := w
  exact ⟨o, r, by simpa using e, q⟩
theorem ws_nil (q : S .next ρ) : WS sNil ρ S := ⟨_, _, rfl, q⟩
theorem ws_set {i : Nat} (w : WE f ρ fun d ρ1 => ∃ ρ2, SetR i d ρ1 ρ2 ∧ WS c ρ2 S) : WS (sSeq (sSet i f) c) ρ S := by
  obtain ⟨d, r, e, r2, s, o, r3, e3, q⟩ := w
  exact ⟨o, r3, by simp [-setV, e, s.eq, e3], q⟩
theorem ws_setL {i : Nat} (w : WN n ρ fun d ρ1 => ∃ ρ2, SetLR i d ρ1 ρ2 ∧ WS c ρ2 S) : WS (sSeq (sSetL i n) c) ρ S := by
  obtain ⟨d, r, e, r2, s, o, r3, e3, q⟩ := w
  exact ⟨o, r3, by simp [-setL, e, s.eq, e3], q⟩
theorem ws_if (w : WT t ρ fun x ρ1 => (x = true → WS (sSeq a c) ρ1 S) ∧ (x = false → WS (sSeq b c) ρ1 S)) : WS (sSeq (sIf t a b) c) ρ S := by
  obtain ⟨x, r, e, q1, q2⟩ := w
  cases x with
  | true => obtain ⟨o, r2, e2, q⟩ := q1 rfl; exact ⟨o, r2, by simp only [sSeq, sIf, e] at e2 ⊢; exact e2, q⟩
  | false => obtain ⟨o, r2, e2, q⟩ := q2 rfl; exact ⟨o, r2, by simp only [sSeq, sIf, e] at e2 ⊢; exact e2, q⟩
theorem ws_ret (w : WE f ρ fun d ρ1 => S (.ret d) ρ1) : WS (sSeq (sRet f) c) ρ S := by
  obtain ⟨d, r, e, q⟩ := w
  exact ⟨_, r, by simp [e], q⟩
theorem ws_retL (w : WN n ρ fun d ρ1 => S (.retL d) ρ1) : WS (sSeq (sRetL n) c) ρ S := by
  obtain ⟨d, r, e, q⟩ := w
  exact ⟨_, r, by simp [e], q⟩
theorem ws_retO {i : Nat} {ds : List PyData} (hget : ρ[i]? = some (some (.l false ds))) (q : S (.retL ds) ρ) : WS (sSeq (sRetO i) c) ρ S := ⟨_, ρ, by simp [hget], q⟩
theorem ws_expr (w : WE f ρ fun d ρ1 => WS c ρ1 S) : WS (sSeq (sExpr f) c) ρ S := by
  obtain ⟨d, r, e, o, r2, e2, q⟩ := w
  exact ⟨o, r2, by simp [e, e2], q⟩
theorem ws_brk (q : S .brk ρ) : WS (sSeq sBrk c) ρ S := ⟨_, ρ, rfl, q⟩
theorem ws_cont (q : S .cont ρ) : WS (sSeq sCont c) ρ S := ⟨_, ρ, rfl, q⟩
theorem ws_app {i : Nat} {p0 : Bool} {ps0 : List PyData} (hget : ρ[i]? = some (some (.l p0 ps0))) (w : WE f ρ fun d ρ1 => ∃ ds, ds.length < 16777216 ∧ ∃ ρ2, PutR i ds ρ1 (ds ++ [d]) ρ2 ∧ WS c ρ2 S) : WS (sSeq (sApp i f) c) ρ S := by
  obtain ⟨d, r, e, ds, z, r2, s, o, r3, e3, q⟩ := w
  obtain ⟨p, g1, g2⟩ := s.get
  exact ⟨o, r3, by simp [hget, e, g1, z, g2, e3], q⟩
theorem ws_sto {i : Nat} (w : WE f ρ fun d ρ1 => ∃ p0 ps0, ρ1[i]? = some (some (.l p0 ps0)) ∧ WE g ρ1 fun k ρ2 => ∃ kk j ds, k = .int kk ∧ ixOf ds.length kk = some j ∧ ∃ ρ3, PutR i ds ρ2 (ds.set j d) ρ3 ∧ WS c ρ3 S) : WS (sSeq (sSto i g f) c) ρ S := by
  obtain ⟨d, r, e, p0, ps0, h1, k, r2, e2, kk, j, ds, rfl, ej, r3, s, o, r4, e4, q⟩ := w
  obtain ⟨p, g1, g2⟩ := s.get
  exact ⟨o, r4, by simp [e, h1, e2, g1, ej, g2, e4], q⟩
theorem ws_for {it : NF} {g : GF} (w : WN it ρ fun ds ρ1 => WS (sSeq (forL g b ds) c) ρ1 S) : WS (sSeq (sFor it g b) c) ρ S := by
  obtain ⟨ds, r, e, o, r2, e2, q⟩ := w
  exact ⟨o, r2, by simp only [sSeq, sFor, e] at e2 ⊢; exact e2, q⟩
theorem ws_asg {g : GF} (w : WE f ρ fun d ρ1 => WG g d ρ1 fun ρ2 => WS c ρ2 S) : WS (sSeq (sAsg f g) c) ρ S := by
  obtain ⟨d, r, e, r2, e2, o, r3, e3, q⟩ := w
  exact ⟨o, r3, by simp [e, e2, e3], q⟩
theorem ws_par {is : List Nat} (w : WN n ρ fun ds ρ1 => WG (fun _ => gPairs is ds) .none ρ1 fun ρ2 => WS c ρ2 S) : WS (sSeq (sPar is n) c) ρ S := by
  obtain ⟨d, r, e, r2, e2, o, r3, e3, q⟩ := w
  exact ⟨o, r3, by simp [e, e2, e3], q⟩
theorem ws_aug {i : Nat} {o : PyData → PyData → Option PyData} {x : PyData} (hget : ρ[i]? = some (some (.v x))) (w : WE f ρ fun y ρ1 => WA (o x y) fun z => ∃ ρ2, SetR i z ρ1 ρ2 ∧ WS c ρ2 S) : WS (sSeq (sAug i o f) c) ρ S := by
  obtain ⟨d, r, e, z, e2, r2, s, o, r3, e3, q⟩ := w
  exact ⟨o, r3, by simp [-setV, hget, e, e2, s.eq, e3], q⟩
/-! targets -/
variable {T : Rho → Prop}
theorem wg_set {i : Nat} {d : PyData} {ρ' : Rho} (hset : SetR i d ρ ρ') (q : T ρ') : WG (gSet i) d ρ T := ⟨_, hset.eq, q⟩
theorem wg_tup {is : List Nat} {ds : List PyData} (w : WG (fun _ => gPairs is ds) .none ρ T) : WG (gTupS is) (.tuple ds) ρ T := by
  obtain ⟨r, e, q⟩ := w
  exact ⟨r, by simpa using e, q⟩
theorem wg_p0 {x : PyData} (q : T ρ) : WG (fun _ => gPairs [] []) x ρ T := ⟨ρ, rfl, q⟩
theorem wg_ps {i : Nat} {is : List Nat} {d x : PyData} {ds : List PyData} {ρ' : Rho} (hset : SetR i d ρ ρ') (w : WG (fun _ => gPairs is ds) x ρ' T) : WG (fun _ => gPairs (i :: is) (d :: ds)) x ρ T := by
  obtain ⟨r, e, q⟩ := w
  exact ⟨r, by simp only [gPairs, hset.eq]; exact e, q⟩
/-! the loop over known items -/
theorem ws_forn {g : GF} (w : WS c ρ S) : WS (sSeq (forL g b []) c) ρ S := by
  obtain ⟨o, r, e, q⟩ := w
  exact ⟨o, r, by simpa [forL] using e, q⟩
/-- behind one turn -/
def Turn (g : GF) (b c : SF) (ds : List PyData) (S : Out → Rho → Prop) : Out → Rho → Prop
  | .next, ρ => WS (sSeq (forL g b ds) c) ρ S
  | .cont, ρ => WS (sSeq (forL g b ds) c) ρ S
  | .brk, ρ => WS c ρ S
  | o, ρ => S o ρ
theorem ws_forc {g : GF} {d : PyData} {ds : List PyData} (w : WG g d ρ fun ρ1 => WS b ρ1 (Turn g b c ds S)) : WS (sSeq (forL g b (d :: ds)) c) ρ S := by
  obtain ⟨r, e, o, r2, e2, q⟩ := w
  cases o with
  | next => obtain ⟨o, r3, e3, q⟩ := q; exact ⟨o, r3, by simp only [sSeq, forL, e, e2] at e3 ⊢; exact e3, q⟩
  | cont => obtain ⟨o, r3, e3, q⟩ := q; exact ⟨o, r3, by simp only [sSeq, forL, e, e2] at e3 ⊢; exact e3, q⟩
  | brk => obtain ⟨o, r3, e3, q⟩ := q; exact ⟨o, r3, by simp only [sSeq, forL, e, e2] at e3 ⊢; exact e3, q⟩
  | ret d => exact ⟨_, r2, by simp only [sSeq, forL, e, e2], q⟩
  | retL d => exact ⟨_, r2, by simp only [sSeq, forL, e, e2], q⟩
/-- the loop by an invariant: what is left, the state -/
theorem ws_inv {g : GF} (I : List PyData → Rho → Prop) : ∀ (ds : List PyData) (ρ : Rho), I ds ρ →
    (∀ d r ρ, I (d :: r) ρ → WG g d ρ fun ρ1 => WS b ρ1 fun o ρ2 => match o with
      | .next => I r ρ2
      | .cont => I r ρ2
      | .brk => WS c ρ2 S
      | o => S o ρ2) → (∀ ρ, I [] ρ → WS c ρ S) → WS (sSeq (forL g b ds) c) ρ S
  | [], ρ, h, _, hd => ws_forn (hd ρ h)
  | d :: r, ρ, h, hs, hd => by
    obtain ⟨r1, e1, o, r2, e2, q⟩ := hs d r ρ h
    refine ws_forc ⟨r1, e1, o, r2, e2, ?_⟩
    cases o with
    | next => exact ws_inv I r r2 q hs hd
    | cont => exact ws_inv I r r2 q hs hd
    | brk => exact q
    | ret d => exact q
    | retL d => exact q
/-! comprehensions -/
/-- a comprehension by an invariant: what is left, what is made, the state; its own slots are empty ahead of it -/
theorem wn_compI {it : NF} {g : GF} {e : EF} {vs : List Nat} (I : List PyData → List PyData → Rho → Prop)
    (w : WN it ρ fun ds ρ1 => plainAt ρ1 vs = true ∧ I ds [] (wipeR ρ1 vs) ∧
      (∀ d r acc ρ2, I (d :: r) acc ρ2 → WG g d ρ2 fun ρ3 => WT t ρ3 fun b ρ4 => (b = true → WE e ρ4 fun y ρ5 => plainAt ρ5 vs = true ∧ acc.length < 16777216 ∧ I r (acc ++ [y]) (wipeR ρ5 vs)) ∧ (b = false → plainAt ρ4 vs = true ∧ I r acc (wipeR ρ4 vs))) ∧
      ∀ acc ρ2, I [] acc ρ2 → R acc (restR ρ1 ρ2 vs)) : WN (nComp it g t e vs) ρ R := by
  obtain ⟨ds, r1, e1, hp, h0, hs, hd⟩ := w
  have key : ∀ (ds acc : List PyData) (ρ2 : Rho), I ds acc ρ2 → ∃ acc' ρ3, compL g t e vs ds acc ρ2 = some (acc', ρ3) ∧ I [] acc' ρ3 := by
    intro ds
    induction ds with
    | nil => intro acc ρ2 h; exact ⟨acc, ρ2, rfl, h⟩
    | cons d r ih =>
      intro acc ρ2 h
      obtain ⟨r3, f3, b, r4, f4, q1, q2⟩ := hs d r acc ρ2 h
      cases b with
      | true =>
        obtain ⟨y, r5, f5, p5, l5, i5⟩ := q1 rfl
        obtain ⟨acc', r6, f6, i6⟩ := ih _ _ i5
        exact ⟨acc', r6, by rw [compL]; simp [f3, f4, f5, p5, l5, f6], i6⟩
      | false =>
        obtain ⟨p5, i5⟩ := q2 rfl
        obtain ⟨acc', r6, f6, i6⟩ := ih _ _ i5
        exact ⟨acc', r6, by rw [compL]; simp [f3, f4, p5, f6], i6⟩
  obtain ⟨acc', r3, e3, i3⟩ := key ds [] _ h0
  exact ⟨acc', _, by unfold nComp; simp only [e1, hp, if_true, e3], hd acc' r3 i3⟩
/-- one that changes nothing: an item x is kept if k x, and gives m x; its own slots are empty ahead of it -/
theorem wn_map {it : NF} {g : GF} {e : EF} {vs : List Nat} {α : Type} (en : α → PyData) (k : α → Bool) (m : α → PyData) (l : List α)
    (w : WN it ρ fun ds ρ1 => ds = l.map en ∧ l.length ≤ 16777216 ∧ plainAt ρ1 vs = true ∧
      (∀ x ∈ l, WG g (en x) (wipeR ρ1 vs) fun ρ3 => WT t ρ3 fun b ρ4 => b = k x ∧ (k x = true → WE e ρ4 fun y ρ5 => y = m x ∧ plainAt ρ5 vs = true ∧ wipeR ρ5 vs = wipeR ρ1 vs) ∧ (k x = false → plainAt ρ4 vs = true ∧ wipeR ρ4 vs = wipeR ρ1 vs)) ∧
      R ((l.filter k).map m) (restR ρ1 (wipeR ρ1 vs) vs)) : WN (nComp it g t e vs) ρ R := by
  obtain ⟨ds, r1, e1, rfl, hl, hp, hx, hd⟩ := w
  refine wn_compI (fun ds acc ρ2 => ∃ l2 l1, l = l1 ++ l2 ∧ ds = l2.map en ∧ acc = (l1.filter k).map m ∧ ρ2 = wipeR r1 vs) ⟨_, r1, e1, hp, ⟨l, [], rfl, rfl, rfl, rfl⟩, ?_, ?_⟩
  · rintro d r acc ρ2 ⟨l2, l1, el, ed, rfl, rfl⟩
    cases l2 with
    | nil => cases ed
    | cons x l2 =>
      simp only [List.map_cons, List.cons.injEq] at ed
      obtain ⟨rfl, rfl⟩ := ed
      obtain ⟨r3, f3, b, r4, f4, hb, q1, q2⟩ := hx x (by rw [el]; simp)
      refine ⟨r3, f3, b, r4, f4, fun hb1 => ?_, fun hb1 => ?_⟩
      · rw [hb] at hb1
        obtain ⟨y, r5, f5, rfl, p5, w5⟩ := q1 hb1
        refine ⟨_, r5, f5, p5, ?_, l2, l1 ++ [x], by simp [el], rfl, by simp [hb1], w5⟩
        have h1 := List.length_filter_le k l1
        have h2 : l1.length + (l2.length + 1) = l.length := by rw [el]; simp
        simp only [List.length_map]
        omega
      · rw [hb] at hb1
        obtain ⟨p5, w5⟩ := q2 hb1
        exact ⟨p5, l2, l1 ++ [x], by simp [el], rfl, by simp [hb1], w5⟩
  · rintro acc ρ2 ⟨l2, l1, el, ed, rfl, rfl⟩
    have : l2 = [] := by cases l2 with
      | nil => rfl
      | cons _ _ => cases ed
    subst this
    rw [List.append_nil] at el
    subst el
    exact hd
/-- one whose parts change nothing but its own slots: each item is kept if c, and gives m -/
theorem wn_comp {it : NF} {g : GF} {e : EF} {vs : List Nat} {α : Type} (en : α → PyData) (k : α → Bool) (m : α → PyData)
    (w : WN it ρ fun ds ρ1 => ∃ l : List α, ds = l.map en ∧ l.length ≤ 16777216 ∧ plainAt ρ1 vs = true ∧
      (∀ x ∈ l, ∃ ρ2, g (en x) (wipeR ρ1 vs) = some ρ2 ∧ t ρ2 = some (k x, ρ2) ∧ (k x = true → e ρ2 = some (m x, ρ2)) ∧ plainAt ρ2 vs = true ∧ wipeR ρ2 vs = wipeR ρ1 vs) ∧
      restR ρ1 (wipeR ρ1 vs) vs = ρ1 ∧ R ((l.filter k).map m) ρ1) : WN (nComp it g t e vs) ρ R := by
  obtain ⟨ds, r1, e1, l, rfl, hl, hp, hx, hr, q⟩ := w
  refine ⟨_, r1, ?_, q⟩
  have key : ∀ (l : List α) (acc : List PyData), acc.length + l.length ≤ 16777216 → (∀ x ∈ l, ∃ ρ2, g (en x) (wipeR r1 vs) = some ρ2 ∧ t ρ2 = some (k x, ρ2) ∧ (k x = true → e ρ2 = some (m x, ρ2)) ∧ plainAt ρ2 vs = true ∧ wipeR ρ2 vs = wipeR r1 vs) →
      compL g t e vs (l.map en) acc (wipeR r1 vs) = some (acc ++ (l.filter k).map m, wipeR r1 vs) := by
    intro l
    induction l with
    | nil => intro acc _ _; simp [compL]
    | cons x l ih =>
      intro acc ha hx
      obtain ⟨r2, f1, f2, f3, f4, f5⟩ := hx x (by simp)
      simp only [List.length_cons] at ha
      cases hk : k x with
      | false => rw [List.map_cons, compL]; simp [f1, f2, hk, f4, f5, ih acc (by omega) fun y hy => hx y (by simp [hy])]
      | true =>
        have := ih (acc ++ [m x]) (by simp; omega) fun y hy => hx y (by simp [hy])
        have hlt : acc.length < 16777216 := by omega
        rw [List.map_cons, compL]; simp [f1, f2, hk, f3 hk, f4, f5, this, hlt]
  have := key l [] (by simpa using hl) hx
  unfold nComp
  simp only [e1, hp, if_true, this, hr, List.nil_append]
end

theorem setr_i {i : Nat} {d : PyData} {ρ ρ' : Rho} {P : Rho → Prop} (hset : SetR i d ρ ρ') (q : P ρ') : ∃ ρ2, SetR i d ρ ρ2 ∧ P ρ2 := ⟨_, hset, q⟩
theorem setl_i {i : Nat} {d : List PyData} {ρ ρ' : Rho} {P : Rho → Prop} (hset : SetLR i d ρ ρ') (q : P ρ') : ∃ ρ2, SetLR i d ρ ρ2 ∧ P ρ2 := ⟨_, hset, q⟩
theorem put_i {i : Nat} {ds ds' : List PyData} {ρ ρ' : Rho} {P : Rho → Prop} (hset : PutR i ds ρ ds' ρ') (q : P ρ') : ∃ ρ2, PutR i ds ρ ds' ρ2 ∧ P ρ2 := ⟨_, hset, q⟩
theorem pool_i {ρ : Rho} {i : Nat} {p : Bool} {ps : List PyData} {P : List PyData → Prop} (hget : ρ[i]? = some (some (.l p ps))) (q : P ps) : ∃ p ps, ρ[i]? = some (some (.l p ps)) ∧ P ps := ⟨_, _, hget, q⟩
theorem bool_i {b : Bool} {P : Bool → Prop} (q : P b) : ∃ c, PyData.bool b = .bool c ∧ P c := ⟨_, rfl, q⟩
theorem int_i {b : Int} {P : Int → Prop} (q : P b) : ∃ c, PyData.int b = .int c ∧ P c := ⟨_, rfl, q⟩
theorem r1_i {j : Int} {P : Int → Prop} (h : in62 j = true) (q : P j) : ∃ i, [PyData.int j] = [.int i] ∧ in62 i = true ∧ P i := ⟨_, rfl, h, q⟩
theorem r2_i {j k : Int} {P : Int → Int → Prop} (h : in62 j = true) (h2 : in62 k = true) (q : P j k) : ∃ i l, [PyData.int j, PyData.int k] = [.int i, .int l] ∧ in62 i = true ∧ in62 l = true ∧ P i l := ⟨_, _, rfl, h, h2, q⟩
theorem seqL_i {xs : List PyData} {P : List PyData → Prop} (q : P xs) : ∃ ys, (PyData.list xs = .list ys ∨ PyData.list xs = .tuple ys ∨ PyData.list xs = RO ys) ∧ P ys := ⟨_, .inl rfl, q⟩
theorem seqT_i {xs : List PyData} {P : List PyData → Prop} (q : P xs) : ∃ ys, (PyData.tuple xs = .list ys ∨ PyData.tuple xs = .tuple ys ∨ PyData.tuple xs = RO ys) ∧ P ys := ⟨_, .inr (.inl rfl), q⟩
theorem seqR_i {xs : List PyData} {P : List PyData → Prop} (q : P xs) : ∃ ys, (RO xs = .list ys ∨ RO xs = .tuple ys ∨ RO xs = RO ys) ∧ P ys := ⟨_, .inr (.inr rfl), q⟩
theorem starT_i {xs : List PyData} {P : List PyData → Prop} (q : P xs) : ∃ ys, (PyData.tuple xs = .list ys ∨ PyData.tuple xs = .tuple ys) ∧ P ys := ⟨_, .inr rfl, q⟩
theorem starL_i {xs : List PyData} {P : List PyData → Prop} (q : P xs) : ∃ ys, (PyData.list xs = .list ys ∨ PyData.list xs = .tuple ys) ∧ P ys := ⟨_, .inl rfl, q⟩
theorem len_i {xs : List PyData} {P : Prop} (h : Nat.ble xs.length 16777216 = true) (q : P) : xs.length ≤ 16777216 ∧ P := ⟨Nat.le_of_ble_eq_true h, q⟩
theorem tup_i {xs : List PyData} {P : List PyData → Prop} (q : P xs) : ∃ ys, PyData.tuple xs = .tuple ys ∧ P ys := ⟨_, rfl, q⟩
theorem yes_i {A B : Prop} (q : A) : (true = true → A) ∧ (true = false → B) := ⟨fun _ => q, fun h => nomatch h⟩
theorem no_i {A B : Prop} (q : B) : (false = true → A) ∧ (false = false → B) := ⟨fun h => (nomatch h), fun _ => q⟩
theorem nyes_i {A B : Prop} (q : B) : ((!true) = true → A) ∧ ((!true) = false → B) := ⟨fun h => (nomatch h), fun _ => q⟩
theorem nno_i {A B : Prop} (q : A) : ((!false) = true → A) ∧ ((!false) = false → B) := ⟨fun _ => q, fun h => nomatch h⟩
theorem dec_i {p : Prop} [Decidable p] {A B : Prop} (q1 : p → A) (q2 : ¬ p → B) : (decide p = true → A) ∧ (decide p = false → B) := ⟨fun h => q1 (of_decide_eq_true h), fun h => q2 (of_decide_eq_false h)⟩
theorem decn_i {p : Prop} [Decidable p] {A B : Prop} (q1 : p → B) (q2 : ¬ p → A) : ((!decide p) = true → A) ∧ ((!decide p) = false → B) := ⟨fun h => q2 (by simpa using h), fun h => q1 (by simpa using h)⟩
theorem decy_i {p : Prop} [Decidable p] {A B : Prop} (h : p) (q : A) : (decide p = true → A) ∧ (decide p = false → B) := ⟨fun _ => q, fun k => absurd h (of_decide_eq_false k)⟩
theorem decno_i {p : Prop} [Decidable p] {A B : Prop} (h : ¬ p) (q : B) : (decide p = true → A) ∧ (decide p = false → B) := ⟨fun k => absurd (of_decide_eq_true k) h, fun _ => q⟩
theorem ndecy_i {p : Prop} [Decidable p] {A B : Prop} (h : ¬ p) (q : A) : ((!decide p) = true → A) ∧ ((!decide p) = false → B) := ⟨fun _ => q, fun k => absurd (by simpa using k) h⟩
theorem ndecno_i {p : Prop} [Decidable p] {A B : Prop} (h : p) (q : B) : ((!decide p) = true → A) ∧ ((!decide p) = false → B) := ⟨fun k => absurd h (by simpa using k), fun _ => q⟩
theorem bit_i {b : Bool} {A B : Prop} (q1 : b = true → A) (q2 : b = false → B) : (b = true → A) ∧ (b = false → B) := ⟨q1, q2⟩
/-! ### defs -/
def EndP (Q : PyData → Prop) : Out → Rho → Prop
  | .ret d, _ => Q d
  | .retL ds, _ => Q (.list ds)
  | .next, _ => Q .none
  | _, _ => False
def EndN (Q : List PyData → Prop) : Out → Rho → Prop
  | .retL ds, _ => Q ds
  | _, _ => False
def EndL (Q : PyData → List PyData → Prop) : Out → Rho → Prop
  | .ret d, ρ => ∃ ps, pool0 ρ = some ps ∧ Q d ps
  | .retL ds, ρ => ∃ ps, pool0 ρ = some ps ∧ Q (.list ds) ps
  | .next, ρ => ∃ ps, pool0 ρ = some ps ∧ Q .none ps
  | _, _ => False
theorem wa_def {b : SF} {k m : Nat} {ds : List PyData} {Q : PyData → Prop} (hl : ds.length = k) (w : WS b (rho0 ds m) (EndP Q)) : WA (defP b k m ds) Q := by
  obtain ⟨o, r, e, q⟩ := w
  cases o with
  | ret d => exact ⟨d, by simp only [defP, hl, if_true, e, endP], q⟩
  | retL d => exact ⟨_, by simp only [defP, hl, if_true, e, endP], q⟩
  | next => exact ⟨_, by simp only [defP, hl, if_true, e, endP], q⟩
  | brk => exact q.elim
  | cont => exact q.elim
theorem wl_def {b : SF} {k m : Nat} {ds : List PyData} {Q : List PyData → Prop} (hl : ds.length = k) (w : WS b (rho0 ds m) (EndN Q)) : WL (defN b k m ds) Q := by
  obtain ⟨o, r, e, q⟩ := w
  cases o with
  | retL d => exact ⟨_, by simp only [defN, hl, if_true, e, endN], q⟩
  | ret d => exact q.elim
  | next => exact q.elim
  | brk => exact q.elim
  | cont => exact q.elim
theorem wp_def {b : SF} {k m : Nat} {ps ds : List PyData} {Q : PyData → List PyData → Prop} (hl : ds.length = k) (w : WS b (rhoL ps ds m) (EndL Q)) : WP (defL b k m ps ds) Q := by
  obtain ⟨o, r, e, q⟩ := w
  cases o with
  | ret d => obtain ⟨ps', e2, q⟩ := q; exact ⟨d, ps', by simp only [defL, hl, if_true, e, endL, e2], q⟩
  | retL d => obtain ⟨ps', e2, q⟩ := q; exact ⟨_, ps', by simp only [defL, hl, if_true, e, endL, e2], q⟩
  | next => obtain ⟨ps', e2, q⟩ := q; exact ⟨_, ps', by simp only [defL, hl, if_true, e, endL, e2], q⟩
  | brk => exact q.elim
  | cont => exact q.elim
theorem endP_ret {d : PyData} {r : Rho} {Q : PyData → Prop} (q : Q d) : EndP Q (.ret d) r := q
theorem endP_retL {d : List PyData} {r : Rho} {Q : PyData → Prop} (q : Q (.list d)) : EndP Q (.retL d) r := q
theorem endN_ret {d : List PyData} {r : Rho} {Q : List PyData → Prop} (q : Q d) : EndN Q (.retL d) r := q
theorem endL_ret {d : PyData} {ps : List PyData} {r : Rho} {Q : PyData → List PyData → Prop} (q : Q d ps) : EndL Q (.ret d) (some (.l true ps) :: r) := ⟨ps, rfl, q⟩
theorem endL_retL {d : List PyData} {ps : List PyData} {r : Rho} {Q : PyData → List PyData → Prop} (q : Q (.list d) ps) : EndL Q (.retL d) (some (.l true ps) :: r) := ⟨ps, rfl, q⟩
theorem rho0_eq (ds : List PyData) (m : Nat) : rho0 ds m = ds.map (fun d => some (Cell.v d)) ++ List.replicate m none := rfl
theorem rhoL_eq (ps ds : List PyData) (m : Nat) : rhoL ps ds m = some (Cell.l true ps) :: (ds.map (fun d => some (Cell.v d)) ++ List.replicate m none) := rfl
/-! ### operations that ask something -/
theorem wa_add {i j : Int} {Q : PyData → Prop} (q : Q (.int (i + j))) : WA (dAdd (.int i) (.int j)) Q := ⟨_, rfl, q⟩
theorem wa_addL {xs ys : List PyData} {Q : PyData → Prop} (hl : xs.length + ys.length ≤ 16777216) (q : Q (.list (xs ++ ys))) : WA (dAdd (.list xs) (.list ys)) Q := ⟨_, if_pos hl, q⟩
theorem wa_addT {xs ys : List PyData} {Q : PyData → Prop} (hl : xs.length + ys.length ≤ 16777216) (q : Q (.tuple (xs ++ ys))) : WA (dAdd (.tuple xs) (.tuple ys)) Q := ⟨_, if_pos hl, q⟩
theorem wa_sub {i j : Int} {Q : PyData → Prop} (q : Q (.int (i - j))) : WA (dSub (.int i) (.int j)) Q := ⟨_, rfl, q⟩
theorem wa_mulR {i j : Int} {Q : PyData → Prop} (h1 : -18446744073709551616 < j) (h2 : j < 18446744073709551616) (q : Q (.int (i * j))) : WA (dMul (.int i) (.int j)) Q := ⟨_, by simp [h1, h2], q⟩
theorem wa_mulL {i j : Int} {Q : PyData → Prop} (h1 : -18446744073709551616 < i) (h2 : i < 18446744073709551616) (q : Q (.int (i * j))) : WA (dMul (.int i) (.int j)) Q := ⟨_, by simp [h1, h2], q⟩
theorem wa_div {i j : Int} {Q : PyData → Prop} (h1 : 0 < j) (h2 : j < 18446744073709551616) (q : Q (.int (i / j))) : WA (dDiv (.int i) (.int j)) Q := ⟨_, by simp [h1, h2], q⟩
theorem wa_mod {i j : Int} {Q : PyData → Prop} (h1 : 0 < j) (q : Q (.int (i % j))) : WA (dMod (.int i) (.int j)) Q := ⟨_, by simp [h1], q⟩
theorem wa_shr {i j : Int} {Q : PyData → Prop} (h1 : 0 ≤ j) (q : Q (.int (i / 2 ^ j.toNat))) : WA (dShr (.int i) (.int j)) Q := ⟨_, by simp [h1], q⟩
theorem wa_lt {i j : Int} {Q : PyData → Prop} (q : Q (.bool (decide (i < j)))) : WA (dLt (.int i) (.int j)) Q := ⟨_, rfl, q⟩
theorem wa_le {i j : Int} {Q : PyData → Prop} (q : Q (.bool (decide (i ≤ j)))) : WA (dLe (.int i) (.int j)) Q := ⟨_, rfl, q⟩
theorem wa_gt {i j : Int} {Q : PyData → Prop} (q : Q (.bool (decide (j < i)))) : WA (dGt (.int i) (.int j)) Q := ⟨_, rfl, q⟩
theorem wa_ge {i j : Int} {Q : PyData → Prop} (q : Q (.bool (decide (j ≤ i)))) : WA (dGe (.int i) (.int j)) Q := ⟨_, rfl, q⟩
theorem wa_eqI {i j : Int} {Q : PyData → Prop} (q : Q (.bool (decide (i = j)))) : WA (dEq (.int i) (.int j)) Q := ⟨_, rfl, q⟩
theorem wa_neI {i j : Int} {Q : PyData → Prop} (q : Q (.bool (!decide (i = j)))) : WA (dNe (.int i) (.int j)) Q := ⟨_, rfl, q⟩
theorem wa_ixT {xs : List PyData} {i : Int} {Q : PyData → Prop} (w : WA (atD xs i) Q) : WA (dIx (.tuple xs) (.int i)) Q := w
theorem wa_ixS {xs : List PyData} {i : Int} {Q : PyData → Prop} (w : WA (atD xs i) Q) : WA (dIx (.list xs) (.int i)) Q := w
theorem wa_at {xs : List PyData} {k : Nat} {Q : PyData → Prop} (h : k < xs.length) (q : Q xs[k]) : WA (atD xs (k : Int)) Q := by
  have h2 : (k : Int) < (xs.length : Int) := by omega
  exact ⟨xs[k], by simp [atD, ixOf, h2, h], q⟩
theorem wa_neg {i : Int} {Q : PyData → Prop} (q : Q (.int (-i))) : WA (dNeg (.int i)) Q := ⟨_, rfl, q⟩
theorem wa_lenL {xs : List PyData} {Q : PyData → Prop} (q : Q (.int xs.length)) : WA (o1of dLen [.list xs]) Q := ⟨_, rfl, q⟩
theorem wa_lenT {xs : List PyData} {Q : PyData → Prop} (q : Q (.int xs.length)) : WA (o1of dLen [.tuple xs]) Q := ⟨_, rfl, q⟩
theorem wa_int {i : Int} {Q : PyData → Prop} (q : Q (.int i)) : WA (o1of dInt [.int i]) Q := ⟨_, rfl, q⟩
theorem wa_max {i j : Int} {Q : PyData → Prop} (q : Q (.int (if j > i then j else i))) : WA (o2of dMax [.int i, .int j]) Q := ⟨_, rfl, q⟩
theorem wa_min {i j : Int} {Q : PyData → Prop} (q : Q (.int (if j < i then j else i))) : WA (o2of dMin [.int i, .int j]) Q := ⟨_, rfl, q⟩
theorem wb_bool {b : Bool} {Q : Bool → Prop} (q : Q b) : WB (truth (.bool b)) Q := ⟨b, rfl, q⟩
theorem wb_int {i : Int} {Q : Bool → Prop} (q : Q (i != 0)) : WB (truth (.int i)) Q := ⟨_, rfl, q⟩
end PG
end
section
set_option Elab.async false
set_option linter.all false
set_option maxRecDepth 100000
namespace PG
open PySem
/-! ### answers found by instances -/
class Ev1 (o : PyData → Option PyData) (x : PyData) (z : outParam PyData) : Prop where
  h : o x = some z
class Ev (F : List PyData → Option PyData) (xs : List PyData) (z : outParam PyData) : Prop where
  h : F xs = some z
class EvN (F : List PyData → Option (List PyData)) (xs : List PyData) (z : outParam (List PyData)) : Prop where
  h : F xs = some z
class EvB (x : PyData) (b : outParam Bool) : Prop where
  h : truth x = some b
theorem wa_ev1 {o : PyData → Option PyData} {x z : PyData} {Q : PyData → Prop} [e : Ev1 o x z] (q : Q z) : WA (o x) Q := ⟨z, e.h, q⟩
theorem wa_ev {F : List PyData → Option PyData} {xs : List PyData} {z : PyData} {Q : PyData → Prop} [e : Ev F xs z] (q : Q z) : WA (F xs) Q := ⟨z, e.h, q⟩
theorem wl_ev {F : List PyData → Option (List PyData)} {xs z : List PyData} {Q : List PyData → Prop} [e : EvN F xs z] (q : Q z) : WL (F xs) Q := ⟨z, e.h, q⟩
theorem wb_ev {x : PyData} {b : Bool} {Q : Bool → Prop} [e : EvB x b] (q : Q b) : WB (truth x) Q := ⟨b, e.h, q⟩
instance : Ev1 (dIsi "tuple") .none (.bool false) := ⟨by simp [isTy, isN, tyName]⟩
instance : Ev1 (dTyIs "tuple") .none (.bool false) := ⟨by simp [tyName]⟩
instance : Ev1 (dTyNe "tuple") .none (.bool true) := ⟨by simp [tyName]⟩
instance {b : Bool} : Ev1 (dIsi "tuple") (.bool b) (.bool false) := ⟨by simp [isTy, isN, tyName]⟩
instance {b : Bool} : Ev1 (dTyIs "tuple") (.bool b) (.bool false) := ⟨by simp [tyName]⟩
instance {b : Bool} : Ev1 (dTyNe "tuple") (.bool b) (.bool true) := ⟨by simp [tyName]⟩
instance {i : Int} : Ev1 (dIsi "tuple") (.int i) (.bool false) := ⟨by simp [isTy, isN, tyName]⟩
instance {i : Int} : Ev1 (dTyIs "tuple") (.int i) (.bool false) := ⟨by simp [tyName]⟩
instance {i : Int} : Ev1 (dTyNe "tuple") (.int i) (.bool true) := ⟨by simp [tyName]⟩
instance {x : Str} : Ev1 (dIsi "tuple") (.str x) (.bool false) := ⟨by simp [isTy, isN, tyName]⟩
instance {x : Str} : Ev1 (dTyIs "tuple") (.str x) (.bool false) := ⟨by simp [tyName]⟩
instance {x : Str} : Ev1 (dTyNe "tuple") (.str x) (.bool true) := ⟨by simp [tyName]⟩
instance {xs : List PyData} : Ev1 (dIsi "tuple") (.list xs) (.bool false) := ⟨by simp [isTy, isN, tyName]⟩
instance {xs : List PyData} : Ev1 (dTyIs "tuple") (.list xs) (.bool false) := ⟨by simp [tyName]⟩
instance {xs : List PyData} : Ev1 (dTyNe "tuple") (.list xs) (.bool true) := ⟨by simp [tyName]⟩
instance {xs : List PyData} : Ev1 (dIsi "tuple") (.tuple xs) (.bool true) := ⟨by simp [isTy, isN, tyName]⟩
instance {xs : List PyData} : Ev1 (dTyIs "tuple") (.tuple xs) (.bool true) := ⟨by simp [tyName]⟩
instance {xs : List PyData} : Ev1 (dTyNe "tuple") (.tuple xs) (.bool false) := ⟨by simp [tyName]⟩
instance : Ev1 (dIsi "list") .none (.bool false) := ⟨by simp [isTy, isN, tyName]⟩
instance : Ev1 (dTyIs "list") .none (.bool false) := ⟨by simp [tyName]⟩
instance : Ev1 (dTyNe "list") .none (.bool true) := ⟨by simp [tyName]⟩
instance {b : Bool} : Ev1 (dIsi "list") (.bool b) (.bool false) := ⟨by simp [isTy, isN, tyName]⟩
instance {b : Bool} : Ev1 (dTyIs "list") (.bool b) (.bool false) := ⟨by simp [tyName]⟩
instance {b : Bool} : Ev1 (dTyNe "list") (.bool b) (.bool true) := ⟨by simp [tyName]⟩
instance {i : Int} : Ev1 (dIsi "list") (.int i) (.bool false) := ⟨by simp [isTy, isN, tyName]⟩
instance {i : Int} : Ev1 (dTyIs "list") (.int i) (.bool false) := ⟨by simp [tyName]⟩
instance {i : Int} : Ev1 (dTyNe "list") (.int i) (.bool true) := ⟨by simp [tyName]⟩
instance {x : Str} : Ev1 (dIsi "list") (.str x) (.bool false) := ⟨by simp [isTy, isN, tyName]⟩
instance {x : Str} : Ev1 (dTyIs "list") (.str x) (.bool false) := ⟨by simp [tyName]⟩
instance {x : Str} : Ev1 (dTyNe "list") (.str x) (.bool true) := ⟨by simp [tyName]⟩
instance {xs : List PyData} : Ev1 (dIsi "list") (.list xs) (.bool true) := ⟨by simp [isTy, isN, tyName]⟩
instance {xs : List PyData} : Ev1 (dTyIs "list") (.list xs) (.bool true) := ⟨by simp [tyName]⟩
instance {xs : List PyData} : Ev1 (dTyNe "list") (.list xs) (.bool false) := ⟨by simp [tyName]⟩
instance {xs : List PyData} : Ev1 (dIsi "list") (.tuple xs) (.bool false) := ⟨by simp [isTy, isN, tyName]⟩
instance {xs : List PyData} : Ev1 (dTyIs "list") (.tuple xs) (.bool false) := ⟨by simp [tyName]⟩
instance {xs : List PyData} : Ev1 (dTyNe "list") (.tuple xs) (.bool true) := ⟨by simp [tyName]⟩
instance : Ev1 (dIsi "int") .none (.bool false) := ⟨by simp [isTy, isN, tyName]⟩
instance : Ev1 (dTyIs "int") .none (.bool false) := ⟨by simp [tyName]⟩
instance : Ev1 (dTyNe "int") .none (.bool true) := ⟨by simp [tyName]⟩
instance {b : Bool} : Ev1 (dIsi "int") (.bool b) (.bool true) := ⟨by simp [isTy, isN, tyName]⟩
instance {b : Bool} : Ev1 (dTyIs "int") (.bool b) (.bool false) := ⟨by simp [tyName]⟩
instance {b : Bool} : Ev1 (dTyNe "int") (.bool b) (.bool true) := ⟨by simp [tyName]⟩
instance {i : Int} : Ev1 (dIsi "int") (.int i) (.bool true) := ⟨by simp [isTy, isN, tyName]⟩
instance {i : Int} : Ev1 (dTyIs "int") (.int i) (.bool true) := ⟨by simp [tyName]⟩
instance {i : Int} : Ev1 (dTyNe "int") (.int i) (.bool false) := ⟨by simp [tyName]⟩
instance {x : Str} : Ev1 (dIsi "int") (.str x) (.bool false) := ⟨by simp [isTy, isN, tyName]⟩
instance {x : Str} : Ev1 (dTyIs "int") (.str x) (.bool false) := ⟨by simp [tyName]⟩
instance {x : Str} : Ev1 (dTyNe "int") (.str x) (.bool true) := ⟨by simp [tyName]⟩
instance {xs : List PyData} : Ev1 (dIsi "int") (.list xs) (.bool false) := ⟨by simp [isTy, isN, tyName]⟩
instance {xs : List PyData} : Ev1 (dTyIs "int") (.list xs) (.bool false) := ⟨by simp [tyName]⟩
instance {xs : List PyData} : Ev1 (dTyNe "int") (.list xs) (.bool true) := ⟨by simp [tyName]⟩
instance {xs : List PyData} : Ev1 (dIsi "int") (.tuple xs) (.bool false) := ⟨by simp [isTy, isN, tyName]⟩
instance {xs : List PyData} : Ev1 (dTyIs "int") (.tuple xs) (.bool false) := ⟨by simp [tyName]⟩
instance {xs : List PyData} : Ev1 (dTyNe "int") (.tuple xs) (.bool true) := ⟨by simp [tyName]⟩
instance : Ev1 (dIsi "bool") .none (.bool false) := ⟨by simp [isTy, isN, tyName]⟩
instance : Ev1 (dTyIs "bool") .none (.bool false) := ⟨by simp [tyName]⟩
instance : Ev1 (dTyNe "bool") .none (.bool true) := ⟨by simp [tyName]⟩
instance {b : Bool} : Ev1 (dIsi "bool") (.bool b) (.bool true) := ⟨by simp [isTy, isN, tyName]⟩
instance {b : Bool} : Ev1 (dTyIs "bool") (.bool b) (.bool true) := ⟨by simp [tyName]⟩
instance {b : Bool} : Ev1 (dTyNe "bool") (.bool b) (.bool false) := ⟨by simp [tyName]⟩
instance {i : Int} : Ev1 (dIsi "bool") (.int i) (.bool false) := ⟨by simp [isTy, isN, tyName]⟩
instance {i : Int} : Ev1 (dTyIs "bool") (.int i) (.bool false) := ⟨by simp [tyName]⟩
instance {i : Int} : Ev1 (dTyNe "bool") (.int i) (.bool true) := ⟨by simp [tyName]⟩
instance {x : Str} : Ev1 (dIsi "bool") (.str x) (.bool false) := ⟨by simp [isTy, isN, tyName]⟩
instance {x : Str} : Ev1 (dTyIs "bool") (.str x) (.bool false) := ⟨by simp [tyName]⟩
instance {x : Str} : Ev1 (dTyNe "bool") (.str x) (.bool true) := ⟨by simp [tyName]⟩
instance {xs : List PyData} : Ev1 (dIsi "bool") (.list xs) (.bool false) := ⟨by simp [isTy, isN, tyName]⟩
instance {xs : List PyData} : Ev1 (dTyIs "bool") (.list xs) (.bool false) := ⟨by simp [tyName]⟩
instance {xs : List PyData} : Ev1 (dTyNe "bool") (.list xs) (.bool true) := ⟨by simp [tyName]⟩
instance {xs : List PyData} : Ev1 (dIsi "bool") (.tuple xs) (.bool false) := ⟨by simp [isTy, isN, tyName]⟩
instance {xs : List PyData} : Ev1 (dTyIs "bool") (.tuple xs) (.bool false) := ⟨by simp [tyName]⟩
instance {xs : List PyData} : Ev1 (dTyNe "bool") (.tuple xs) (.bool true) := ⟨by simp [tyName]⟩
instance : Ev1 (dIsi "str") .none (.bool false) := ⟨by simp [isTy, isN, tyName]⟩
instance : Ev1 (dTyIs "str") .none (.bool false) := ⟨by simp [tyName]⟩
instance : Ev1 (dTyNe "str") .none (.bool true) := ⟨by simp [tyName]⟩
instance {b : Bool} : Ev1 (dIsi "str") (.bool b) (.bool false) := ⟨by simp [isTy, isN, tyName]⟩
instance {b : Bool} : Ev1 (dTyIs "str") (.bool b) (.bool false) := ⟨by simp [tyName]⟩
instance {b : Bool} : Ev1 (dTyNe "str") (.bool b) (.bool true) := ⟨by simp [tyName]⟩
instance {i : Int} : Ev1 (dIsi "str") (.int i) (.bool false) := ⟨by simp [isTy, isN, tyName]⟩
instance {i : Int} : Ev1 (dTyIs "str") (.int i) (.bool false) := ⟨by simp [tyName]⟩
instance {i : Int} : Ev1 (dTyNe "str") (.int i) (.bool true) := ⟨by simp [tyName]⟩
instance {x : Str} : Ev1 (dIsi "str") (.str x) (.bool true) := ⟨by simp [isTy, isN, tyName]⟩
instance {x : Str} : Ev1 (dTyIs "str") (.str x) (.bool true) := ⟨by simp [tyName]⟩
instance {x : Str} : Ev1 (dTyNe "str") (.str x) (.bool false) := ⟨by simp [tyName]⟩
instance {xs : List PyData} : Ev1 (dIsi "str") (.list xs) (.bool false) := ⟨by simp [isTy, isN, tyName]⟩
instance {xs : List PyData} : Ev1 (dTyIs "str") (.list xs) (.bool false) := ⟨by simp [tyName]⟩
instance {xs : List PyData} : Ev1 (dTyNe "str") (.list xs) (.bool true) := ⟨by simp [tyName]⟩
instance {xs : List PyData} : Ev1 (dIsi "str") (.tuple xs) (.bool false) := ⟨by simp [isTy, isN, tyName]⟩
instance {xs : List PyData} : Ev1 (dTyIs "str") (.tuple xs) (.bool false) := ⟨by simp [tyName]⟩
instance {xs : List PyData} : Ev1 (dTyNe "str") (.tuple xs) (.bool true) := ⟨by simp [tyName]⟩
instance : Ev1 dIsN .none (.bool true) := ⟨rfl⟩
instance : Ev1 dNotN .none (.bool false) := ⟨rfl⟩
instance {b : Bool} : Ev1 dIsN (.bool b) (.bool false) := ⟨rfl⟩
instance {b : Bool} : Ev1 dNotN (.bool b) (.bool true) := ⟨rfl⟩
instance {i : Int} : Ev1 dIsN (.int i) (.bool false) := ⟨rfl⟩
instance {i : Int} : Ev1 dNotN (.int i) (.bool true) := ⟨rfl⟩
instance {x : Str} : Ev1 dIsN (.str x) (.bool false) := ⟨rfl⟩
instance {x : Str} : Ev1 dNotN (.str x) (.bool true) := ⟨rfl⟩
instance {xs : List PyData} : Ev1 dIsN (.list xs) (.bool false) := ⟨rfl⟩
instance {xs : List PyData} : Ev1 dNotN (.list xs) (.bool true) := ⟨rfl⟩
instance {xs : List PyData} : Ev1 dIsN (.tuple xs) (.bool false) := ⟨rfl⟩
instance {xs : List PyData} : Ev1 dNotN (.tuple xs) (.bool true) := ⟨rfl⟩
instance : EvB .none false := ⟨rfl⟩
instance {xs : List PyData} : EvB (.list xs) (!xs.isEmpty) := ⟨rfl⟩
instance {xs : List PyData} : EvB (.tuple xs) (!xs.isEmpty) := ⟨rfl⟩
instance {xs : List PyData} : Ev (o1of dTupOf) [.list xs] (.tuple xs) := ⟨rfl⟩
instance {xs : List PyData} : Ev (o1of dTupOf) [.tuple xs] (.tuple xs) := ⟨rfl⟩
instance {xs : List PyData} : EvN (n1of dLstOf) [.list xs] xs := ⟨rfl⟩
instance {xs : List PyData} : EvN (n1of dLstOf) [.tuple xs] xs := ⟨rfl⟩
instance {xs : List PyData} : EvN (n1of dLstOf) [RO xs] xs := ⟨rfl⟩
instance {i : Int} : Ev (o1of dAbs) [.int i] (.int (if i < 0 then -i else i)) := ⟨rfl⟩
theorem ch_le {i j : Int} {P : Bool → Prop} (q : P (decide (i ≤ j))) : ∃ b, dLe (.int i) (.int j) = some (.bool b) ∧ P b := ⟨_, rfl, q⟩
theorem ch_lt {i j : Int} {P : Bool → Prop} (q : P (decide (i < j))) : ∃ b, dLt (.int i) (.int j) = some (.bool b) ∧ P b := ⟨_, rfl, q⟩
theorem ch_eq {i j : Int} {P : Bool → Prop} (q : P (decide (i = j))) : ∃ b, dEq (.int i) (.int j) = some (.bool b) ∧ P b := ⟨_, rfl, q⟩
theorem wa_binO {o : PyData → PyData → Option PyData} {f : EF} {i : Nat} {ρ : Rho} {Q : PyData → Rho → Prop} (w : WE f ρ fun x ρ1 => ∃ p ps, ρ1[i]? = some (some (.l p ps)) ∧ WA (o x (.list ps)) fun z => Q z ρ1) : WE (eBinO o f i) ρ Q := by
  obtain ⟨x, r, e, p, ps, h, z, e2, q⟩ := w
  exact ⟨z, r, by simp [e, h, e2], q⟩
/-- an item of a written tuple at a drawn place -/
theorem wa_pick {xs : List PyData} {v : Int} (P : PyData → Prop) {Q : PyData → Prop} (h0 : 0 ≤ v) (h1 : v < xs.length) (hP : ∀ x ∈ xs, P x) (q : ∀ x, P x → Q x) : WA (dIx (.tuple xs) (.int v)) Q := by
  have h2 : v.toNat < xs.length := by omega
  refine ⟨xs[v.toNat], ?_, q _ (hP _ (List.getElem_mem h2))⟩
  show atD xs v = _
  simp [atD, ixOf, h0, h1, h2]
theorem wa_pickI (ns : List Int) (P : Int → Prop) {v : Int} {Q : PyData → Prop} (h0 : 0 ≤ v) (h1 : v < ns.length) (hP : ∀ n ∈ ns, P n) (q : ∀ n, P n → Q (.int n)) : WA (dIx (.tuple (ns.map PyData.int)) (.int v)) Q :=
  wa_pick (fun d => ∃ n, d = .int n ∧ P n) h0 (by simpa using h1) (fun x hx => by
    obtain ⟨n, hn, rfl⟩ := List.mem_map.mp hx
    exact ⟨n, rfl, hP n hn⟩) (fun x ⟨n, e, hn⟩ => by subst e; exact q n hn)
/-- the item at a place that is written -/
theorem wa_ixn {xs : List PyData} {k : Nat} {d : PyData} {Q : PyData → Prop} (hget : xs[k]? = some d) (q : Q d) : WA (dIx (.tuple xs) (.int (k : Nat))) Q := by
  obtain ⟨h, e⟩ := List.getElem?_eq_some_iff.mp hget
  refine ⟨d, ?_, q⟩
  show atD xs _ = _
  have h2 : (k : Int) < (xs.length : Int) := by omega
  simp [atD, ixOf, h2, hget]
theorem wa_ixnL {xs : List PyData} {k : Nat} {d : PyData} {Q : PyData → Prop} (hget : xs[k]? = some d) (q : Q d) : WA (dIx (.list xs) (.int (k : Nat))) Q := wa_ixn (xs := xs) hget q
theorem wa_ix0 {xs : List PyData} {d : PyData} {Q : PyData → Prop} (hget : xs[0]? = some d) (q : Q d) : WA (dIx (.tuple xs) (.int 0)) Q := wa_ixn (k := 0) hget q
theorem wa_ix1 {xs : List PyData} {d : PyData} {Q : PyData → Prop} (hget : xs[1]? = some d) (q : Q d) : WA (dIx (.tuple xs) (.int 1)) Q := wa_ixn (k := 1) hget q
theorem wa_ix2 {xs : List PyData} {d : PyData} {Q : PyData → Prop} (hget : xs[2]? = some d) (q : Q d) : WA (dIx (.tuple xs) (.int 2)) Q := wa_ixn (k := 2) hget q
theorem wa_ix3 {xs : List PyData} {d : PyData} {Q : PyData → Prop} (hget : xs[3]? = some d) (q : Q d) : WA (dIx (.tuple xs) (.int 3)) Q := wa_ixn (k := 3) hget q
theorem wa_ix4 {xs : List PyData} {d : PyData} {Q : PyData → Prop} (hget : xs[4]? = some d) (q : Q d) : WA (dIx (.tuple xs) (.int 4)) Q := wa_ixn (k := 4) hget q
theorem wa_ix5 {xs : List PyData} {d : PyData} {Q : PyData → Prop} (hget : xs[5]? = some d) (q : Q d) : WA (dIx (.tuple xs) (.int 5)) Q := wa_ixn (k := 5) hget q
theorem wa_ix6 {xs : List PyData} {d : PyData} {Q : PyData → Prop} (hget : xs[6]? = some d) (q : Q d) : WA (dIx (.tuple xs) (.int 6)) Q := wa_ixn (k := 6) hget q
theorem wa_ix7 {xs : List PyData} {d : PyData} {Q : PyData → Prop} (hget : xs[7]? = some d) (q : Q d) : WA (dIx (.tuple xs) (.int 7)) Q := wa_ixn (k := 7) hget q
theorem wa_ix8 {xs : List PyData} {d : PyData} {Q : PyData → Prop} (hget : xs[8]? = some d) (q : Q d) : WA (dIx (.tuple xs) (.int 8)) Q := wa_ixn (k := 8) hget q
theorem wa_il0 {xs : List PyData} {d : PyData} {Q : PyData → Prop} (hget : xs[0]? = some d) (q : Q d) : WA (dIx (.list xs) (.int 0)) Q := wa_ixn (k := 0) hget q
theorem wa_il1 {xs : List PyData} {d : PyData} {Q : PyData → Prop} (hget : xs[1]? = some d) (q : Q d) : WA (dIx (.list xs) (.int 1)) Q := wa_ixn (k := 1) hget q
theorem wa_il2 {xs : List PyData} {d : PyData} {Q : PyData → Prop} (hget : xs[2]? = some d) (q : Q d) : WA (dIx (.list xs) (.int 2)) Q := wa_ixn (k := 2) hget q
end PG
end
section
set_option Elab.async false
set_option linter.all false
set_option maxRecDepth 100000
namespace PG
open PySem
instance {xs : List PyData} : Ev1 dLen (.list xs) (.int xs.length) := ⟨rfl⟩
instance {xs : List PyData} : Ev1 dLen (.tuple xs) (.int xs.length) := ⟨rfl⟩
instance {xs : List PyData} : Ev1 dTupOf (.list xs) (.tuple xs) := ⟨rfl⟩
instance {xs : List PyData} : Ev1 dTupOf (.tuple xs) (.tuple xs) := ⟨rfl⟩
theorem wa_neS {x : Str} {Q : PyData → Prop} (q : Q (.bool false)) : WA (dNeS (.str x) (.str x)) Q := ⟨_, by simp, q⟩
/-! ### while, by a measure -/
section
variable {ρ : Rho} {t : TF} {b c : SF} {S : Out → Rho → Prop}
theorem whl_run (I : Nat → Rho → Prop) (J : Rho → Prop) (step : ∀ m ρ, I m ρ → WT t ρ fun x ρ1 => (x = true → WS b ρ1 fun o ρ2 => o = .next ∧ ∃ m', m' < m ∧ I m' ρ2) ∧ (x = false → J ρ1)) :
    ∀ (m : Nat) (ρ : Rho), I m ρ → ∃ ρ', whl t b (m + 1) ρ = some (.next, ρ') ∧ J ρ' := by
  intro m
  induction m using Nat.strongRecOn with
  | _ m ih =>
    intro ρ h
    obtain ⟨x, ρ1, e1, q1, q2⟩ := step m ρ h
    cases x with
    | false => exact ⟨ρ1, by rw [whl]; simp only [e1], q2 rfl⟩
    | true =>
      obtain ⟨o, ρ2, e2, rfl, m', hm, h2⟩ := q1 rfl
      obtain ⟨ρ3, e3, j⟩ := ih m' hm ρ2 h2
      refine ⟨ρ3, ?_, j⟩
      rw [whl]
      simp only [e1, e2]
      exact whl_mono (m' + 1) m ρ2 _ e3 hm
theorem ws_while {n : Rho → Nat} (I : Nat → Rho → Prop) (J : Rho → Prop) (m : Nat) (hm : m < n ρ) (h : I m ρ)
    (step : ∀ m ρ, I m ρ → WT t ρ fun x ρ1 => (x = true → WS b ρ1 fun o ρ2 => o = .next ∧ ∃ m', m' < m ∧ I m' ρ2) ∧ (x = false → J ρ1))
    (q : ∀ ρ1, J ρ1 → WS c ρ1 S) : WS (sSeq (sWhile n t b) c) ρ S := by
  obtain ⟨ρ1, e, j⟩ := whl_run I J step m ρ h
  obtain ⟨o, ρ2, e2, q2⟩ := q ρ1 j
  refine ⟨o, ρ2, ?_, q2⟩
  have e3 := whl_mono (m + 1) (n ρ) ρ _ e hm
  have e4 : sWhile n t b ρ = some (.next, ρ1) := e3
  show sSeq (sWhile n t b) c ρ = _
  simp only [sSeq, e4]
  exact e2
/-- for, by an invariant over what is left -/
theorem ws_forI {g : GF} (I : List PyData → Rho → Prop) (ds : List PyData) (h : I ds ρ)
    (step : ∀ d r ρ, I (d :: r) ρ → WG g d ρ fun ρ1 => WS b ρ1 fun o ρ2 => o = .next ∧ I r ρ2)
    (q : ∀ ρ1, I [] ρ1 → WS c ρ1 S) : WS (sSeq (forL g b ds) c) ρ S := by
  have key : ∀ (ds : List PyData) (ρ : Rho), I ds ρ → ∃ ρ', forL g b ds ρ = some (.next, ρ') ∧ I [] ρ' := by
    intro ds
    induction ds with
    | nil => intro ρ h; exact ⟨ρ, rfl, h⟩
    | cons d r ih =>
      intro ρ h
      obtain ⟨ρ1, e1, o, ρ2, e2, rfl, h2⟩ := step d r ρ h
      obtain ⟨ρ3, e3, h3⟩ := ih ρ2 h2
      exact ⟨ρ3, by simp [forL, e1, e2, e3], h3⟩
  obtain ⟨ρ1, e, j⟩ := key ds ρ h
  obtain ⟨o, ρ2, e2, q2⟩ := q ρ1 j
  refine ⟨o, ρ2, ?_, q2⟩
  show sSeq (forL g b ds) c ρ = _
  simp only [sSeq, e]
  exact e2
end
end PG
end
section
set_option Elab.async false
set_option linter.all false
set_option maxRecDepth 100000
namespace Pr_C
open PySem PG
/-! what each def does, on data -/
def X_law_same_1 (R : List PyData → Option PyData) : TF :=
  (tNot' (tTru (eCall R (nCons (eBin dIx (eName 0) (eName 2)) (nCons (eBin dIx (eName 1) (eName 2)) nNil)))))
def X_law_same_2 (R : List PyData → Option PyData) : EF :=
  (eName 2)
def B_law_same (R : List PyData → Option PyData) : SF :=
  (sSeq (sIf (tOr' (tTru (eUn (dIsi "tuple") (eName 1))) (tTru (eUn (dIsi "list") (eName 1))))
  (sSeq (sIf (tOr' (tBl (eBin dNe (eUn (dIsi "tuple") (eName 1)) (eUn (dIsi "tuple") (eName 0)))) (tOr' (tBl (eBin dNe (eUn (dIsi "list") (eName 1)) (eUn (dIsi "list") (eName 0)))) (tBl (eBin dNe (eCall (o1of dLen) (nCons (eName 0) nNil)) (eCall (o1of dLen) (nCons (eName 1) nNil))))))
  (sSeq (sRet (eC (.bool false)))
  sNil)
  sNil)
  (sSeq (sRet (eBin dEq (eCall (o1of dLen) (nCons (eLst (nComp (itR1 (nCons (eCall (o1of dLen) (nCons (eName 1) nNil)) nNil)) (gSet 2) (X_law_same_1 R) (X_law_same_2 R) [2])) nNil)) (eC (.int 0))))
  sNil))
  sNil)
  (sSeq (sIf (tBl (eUn dIsN (eName 1)))
  (sSeq (sRet (eUn dIsN (eName 0)))
  sNil)
  sNil)
  (sSeq (sIf (tOr' (tTru (eUn (dIsi "bool") (eName 1))) (tTru (eUn (dIsi "bool") (eName 0))))
  (sSeq (sRet (eAnd (eUn (dIsi "bool") (eName 1)) (eAnd (eUn (dIsi "bool") (eName 0)) (eBin dEq (eName 0) (eName 1)))))
  sNil)
  sNil)
  (sSeq (sIf (tTru (eUn (dIsi "int") (eName 1)))
  (sSeq (sRet (eAnd (eUn (dIsi "int") (eName 0)) (eBin dEq (eName 0) (eName 1))))
  sNil)
  sNil)
  (sSeq (sRet (eAnd (eUn (dIsi "str") (eName 0)) (eBin dEq (eName 0) (eName 1))))
  sNil)))))
def F_law_same : Nat → List PyData → Option PyData
  | 0 => fun _ => none
  | n + 1 => defP (B_law_same (F_law_same n)) 2 1
def X_law_pool_1 : SF :=
  (sSeq (sSet 1 (eBin dMod (eCall (o1of dInt) (nCons (eBin dAdd (eBin dMul (eName 1) (eC (.int 31))) (eName 2)) nNil)) (eC (.int 1000003))))
  sNil)
def B_law_pool : SF :=
  (sSeq (sSet 1 (eC (.int 7)))
  (sSeq (sFor (itS (eLst (nSl (eName 0) none (some (eC (.int 63)))))) (gSet 2)
  X_law_pool_1)
  (sSeq (sRetL (nDisp (nCons (eLst (nCall (n1of dLstOf) (nCons (eName 0) nNil))) (nCons (eC (.int 0)) (nCons (eC (.int 0)) (nCons (eC (.int 0)) (nCons (eName 1) nNil)))))))
  sNil)))
def F_law_pool : List PyData → Option (List PyData) := defN B_law_pool 1 2
def X_law_spread_1 : SF :=
  (sSeq (sSet 1 (eBin dMod (eCall (o1of dInt) (nCons (eBin dAdd (eBin dAdd (eBin dMul (eName 1) (eC (.int 48271))) (eC (.int 12345))) (eName 3)) nNil)) (eC (.int 2147483647))))
  (sSeq (sSet 2 (eBin dAdd (eBin dMul (eName 2) (eC (.int 2147483647))) (eName 1)))
  sNil))
def B_law_spread : SF :=
  (sSeq (sSet 1 (eBin dMod (eCall (o1of dInt) (nCons (eName 0) nNil)) (eC (.int 2147483647))))
  (sSeq (sSet 2 (eC (.int 1)))
  (sSeq (sFor (itR1 (nCons (eC (.int 4)) nNil)) (gSet 3)
  X_law_spread_1)
  (sSeq (sRet (eName 2))
  sNil))))
def F_law_spread : List PyData → Option PyData := defP B_law_spread 1 3
def B_law_draw : SF :=
  (sSeq (sIf (tAnd' (tBl (eBin dLe (eIxL dIx 0 (eC (.int 2))) (eC (.int 0)))) (tBl (eBin dLt (eIxL dIx 0 (eC (.int 1))) (eCall (o1of dLen) (nCons (eIxL dIx 0 (eC (.int 0))) nNil)))))
  (sSeq (sSet 3 (eBin dIx (eIxL dIx 0 (eC (.int 0))) (eIxL dIx 0 (eC (.int 1)))))
  (sSeq (sSto 0 (eC (.int 1)) (eBin dAdd (eIxL dIx 0 (eC (.int 1))) (eC (.int 1))))
  (sSeq (sSto 0 (eC (.int 2)) (eName 3))
  (sSeq (sIf (tBl (eBin dLt (eName 3) (eC (.int 1000000000000000000))))
  (sSeq (sSto 0 (eC (.int 2)) (eCall F_law_spread (nCons (eName 3) nNil)))
  sNil)
  sNil)
  sNil))))
  sNil)
  (sSeq (sSto 0 (eC (.int 3)) (eBin dAdd (eIxL dIx 0 (eC (.int 3))) (eC (.int 1))))
  (sSeq (sIf (tBl (eBin dLe (eIxL dIx 0 (eC (.int 2))) (eC (.int 0))))
  (sSeq (sSet 4 (eBin dMod (eCall (o1of dInt) (nCons (eBin dAdd (eBin dAdd (eBin dMul (eIxL dIx 0 (eC (.int 4))) (eC (.int 48271))) (eBin dMul (eIxL dIx 0 (eC (.int 3))) (eC (.int 69621)))) (eC (.int 1))) nNil)) (eC (.int 2147483647))))
  (sSeq (sSet 4 (eBin dMod (eCall (o1of dInt) (nCons (eBin dAdd (eBin dMul (eName 4) (eC (.int 16807))) (eIxL dIx 0 (eC (.int 3)))) nNil)) (eC (.int 2147483629))))
  (sSeq (sRet (eBin dMod (eBin dDiv (eName 4) (eC (.int 5))) (eName 1)))
  sNil)))
  sNil)
  (sSeq (sSet 2 (eBin dMod (eCall (o1of dInt) (nCons (eIxL dIx 0 (eC (.int 2))) nNil)) (eName 1)))
  (sSeq (sSto 0 (eC (.int 2)) (eBin dDiv (eIxL dIx 0 (eC (.int 2))) (eName 1)))
  (sSeq (sRet (eName 2))
  sNil))))))
def F_law_draw : List PyData → List PyData → Option (PyData × List PyData) := defL B_law_draw 1 3
def X_law_has_1 : TF :=
  (tAnd' (tBl (eBin dLe (eBin dIx (eName 2) (eC (.int 0))) (eName 1))) (tBl (eBin dLe (eName 1) (eBin dIx (eName 2) (eC (.int 1))))))
def X_law_has_2 : EF :=
  (eName 2)
def B_law_has : SF :=
  (sSeq (sRet (eBin dGt (eCall (o1of dLen) (nCons (eLst (nComp (itS (eName 0)) (gSet 2) X_law_has_1 X_law_has_2 [2])) nNil)) (eC (.int 0))))
  sNil)
def F_law_has : List PyData → Option PyData := defP B_law_has 2 1
def X_law_union_1 : EF :=
  (eCall (o2of dMin) (nCons (eBin dIx (eName 5) (eC (.int 0))) (nCons (eBin dAdd (eName 1) (eC (.int 1))) nNil)))
def X_law_union_2 : EF :=
  (eCall (o2of dMin) (nCons (eBin dAdd (eBin dIx (eName 5) (eC (.int 1))) (eC (.int 1))) (nCons (eBin dAdd (eName 1) (eC (.int 1))) nNil)))
def X_law_union_3 : SF :=
  (sSeq (sIf (tTru (eCall F_law_has (nCons (eName 0) (nCons (eBin dIx (eName 2) (eName 4)) nNil))))
  (sSeq (sIf (tAnd' (tBl (eBin dGt (eUnL dLen 3) (eC (.int 0)))) (tBl (eBin dEq (eBin dAdd (eBin dIx (eIxL dIx 3 (eUn dNeg (eC (.int 1)))) (eC (.int 1))) (eC (.int 1))) (eBin dIx (eName 2) (eName 4)))))
  (sSeq (sSto 3 (eUn dNeg (eC (.int 1))) (eTup (nCons (eBin dIx (eIxL dIx 3 (eUn dNeg (eC (.int 1)))) (eC (.int 0))) (nCons (eBin dSub (eBin dIx (eName 2) (eBin dAdd (eName 4) (eC (.int 1)))) (eC (.int 1))) nNil))))
  sNil)
  (sSeq (sApp 3 (eTup (nCons (eBin dIx (eName 2) (eName 4)) (nCons (eBin dSub (eBin dIx (eName 2) (eBin dAdd (eName 4) (eC (.int 1)))) (eC (.int 1))) nNil))))
  sNil))
  sNil)
  sNil)
  sNil)
def B_law_union : SF :=
  (sSeq (sSet 2 (eLst (nCall (n1of dSortSet) (nCons (eBin dAdd (eBin dAdd (eLst (nDisp (nCons (eC (.int 0)) (nCons (eBin dAdd (eName 1) (eC (.int 1))) nNil)))) (eLst (nComp (itS (eName 0)) (gSet 5) tYesF X_law_union_1 [5]))) (eLst (nComp (itS (eName 0)) (gSet 5) tYesF X_law_union_2 [5]))) nNil))))
  (sSeq (sSetL 3 (nDisp nNil))
  (sSeq (sFor (itR1 (nCons (eBin dSub (eCall (o1of dLen) (nCons (eName 2) nNil)) (eC (.int 1))) nNil)) (gSet 4)
  X_law_union_3)
  (sSeq (sRet (eUnL dTupOf 3))
  sNil))))
def F_law_union : List PyData → Option PyData := defP B_law_union 2 4
def B_law_number : SF :=
  (sSeq (sSet 2 (eCallL F_law_draw 0 (nCons (eC (.int 4)) nNil)))
  (sSeq (sIf (tBl (eBin dEq (eName 2) (eC (.int 0))))
  (sSeq (sRet (eCallL F_law_draw 0 (nCons (eBin dAdd (eName 1) (eC (.int 1))) nNil)))
  sNil)
  sNil)
  (sSeq (sIf (tBl (eBin dEq (eName 2) (eC (.int 1))))
  (sSeq (sRet (eCall (o2of dMin) (nCons (eName 1) (nCons (eCallL F_law_draw 0 (nCons (eC (.int 12)) nNil)) nNil))))
  sNil)
  sNil)
  (sSeq (sIf (tBl (eBin dEq (eName 2) (eC (.int 2))))
  (sSeq (sRet (eCall (o2of dMax) (nCons (eC (.int 0)) (nCons (eBin dSub (eName 1) (eCallL F_law_draw 0 (nCons (eC (.int 12)) nNil))) nNil))))
  sNil)
  sNil)
  (sSeq (sRet (eCall (o2of dMin) (nCons (eName 1) (nCons (eBin dMul (eC (.int 256)) (eCallL F_law_draw 0 (nCons (eC (.int 256)) nNil))) nNil))))
  sNil)))))
def F_law_number : List PyData → List PyData → Option (PyData × List PyData) := defL B_law_number 1 1
def X_law_pairs_1 : SF :=
  (sSeq (sSet 5 (eCallL F_law_number 0 (nCons (eName 1) nNil)))
  (sSeq (sApp 3 (eTup (nCons (eName 5) (nCons (eCall (o2of dMin) (nCons (eName 1) (nCons (eBin dAdd (eName 5) (eBin dIx (eTup (nCons (eC (.int 0)) (nCons (eC (.int 1)) (nCons (eC (.int 3)) (nCons (eC (.int 255)) (nCons (eC (.int 5000)) nNil)))))) (eCallL F_law_draw 0 (nCons (eC (.int 5)) nNil)))) nNil))) nNil))))
  sNil))
def B_law_pairs : SF :=
  (sSeq (sSetL 3 (nDisp nNil))
  (sSeq (sFor (itR1 (nCons (eName 2) nNil)) (gSet 4)
  X_law_pairs_1)
  (sSeq (sRetO 3)
  sNil)))
def F_law_pairs : List PyData → List PyData → Option (PyData × List PyData) := defL B_law_pairs 2 3
def B_law_drawn_set : SF :=
  (sSeq (sRet (eCall F_law_union (nCons (eCallL F_law_pairs 0 (nCons (eName 1) (nCons (eCallL F_law_draw 0 (nCons (eBin dAdd (eName 2) (eC (.int 1))) nNil)) nNil))) (nCons (eName 1) nNil))))
  sNil)
def F_law_drawn_set : List PyData → List PyData → Option (PyData × List PyData) := defL B_law_drawn_set 2 0
def X_law_power_1 : SF :=
  (sSeq (sSet 1 (eBin dMul (eName 1) (eC (.int 2))))
  sNil)
def B_law_power : SF :=
  (sSeq (sSet 1 (eC (.int 1)))
  (sSeq (sFor (itR1 (nCons (eName 0) nNil)) (gSet 2)
  X_law_power_1)
  (sSeq (sRet (eName 1))
  sNil)))
def F_law_power : List PyData → Option PyData := defP B_law_power 1 2
def B_law_pick : SF :=
  (sSeq (sRet (eBin dIx (eName 1) (eCallL F_law_draw 0 (nCons (eCall (o1of dLen) (nCons (eName 1) nNil)) nNil))))
  sNil)
def F_law_pick : List PyData → List PyData → Option (PyData × List PyData) := defL B_law_pick 1 0
def B_law_is_integer : SF :=
  (sSeq (sRet (eAnd (eUn (dIsi "int") (eName 0)) (eNot (eUn (dIsi "bool") (eName 0)))))
  sNil)
def F_law_is_integer : List PyData → Option PyData := defP B_law_is_integer 1 0
end Pr_C
end
section
set_option linter.all false
set_option maxRecDepth 100000
set_option Elab.async false
namespace Pr_C
open PySem PG
/-! ### the pool -/
structure Pool where
  cells : List Int
  at_ : Int
  cur : Int
  n : Int
  salt : Int
def Pool.d (p : Pool) : List PyData := [.list (p.cells.map PyData.int), .int p.at_, .int p.cur, .int p.n, .int p.salt]
def Pool.ok (p : Pool) : Prop := 0 ≤ p.at_
@[simp] theorem ixOf_len (n : Nat) (i : Int) (h0 : 0 ≤ i) (h1 : i < n) : ixOf n i = some i.toNat := by simp [ixOf, h0, h1]
theorem rng4 : rng 0 4 = [.int 0, .int 1, .int 2, .int 3] := rfl
theorem spread_ok (c : Int) : ∃ t, F_law_spread [.int c] = some (.int t) := by
  simp [F_law_spread, defP, B_law_spread, X_law_spread_1, sFor, itR1, in62, rng4, forL]
theorem atD_at {cells : List Int} {i : Int} (h0 : 0 ≤ i) (h1 : i < cells.length) : ∃ c, atD (cells.map PyData.int) i = some (.int c) := by
  refine ⟨cells[i.toNat]'(by omega), ?_⟩
  simp [atD, ixOf, h0, h1]

def zed (salt n : Int) : Int := ((salt * 48271 + (n + 1) * 69621 + 1) % 2147483647 * 16807 + (n + 1)) % 2147483629 / 5
theorem draw_ok (p : Pool) (h : p.ok) (many : Int) (h0 : 0 < many) (h1 : many < 18446744073709551616) : ∃ (v : Int) (p' : Pool), F_law_draw p.d [.int many] = some (.int v, p'.d) ∧ p'.ok ∧ 0 ≤ v ∧ v < many := by
  obtain ⟨cells, a, cur, n, salt⟩ := p
  have hk : (0 : Int) ≤ a := h
  have hk1 : (0 : Int) ≤ a + 1 := by omega
  have e1 : ∀ x : Int, 0 ≤ x % many := fun x => Int.emod_nonneg _ (by omega)
  have e2 : ∀ x : Int, x % many < many := fun x => Int.emod_lt_of_pos _ h0
  by_cases c1 : cur ≤ 0
  · by_cases c2 : a < cells.length
    · obtain ⟨c, hc⟩ := atD_at hk c2
      by_cases c3 : c < 1000000000000000000
      · obtain ⟨t, ht⟩ := spread_ok c
        by_cases c4 : t ≤ 0
        · refine ⟨zed salt n % many, ⟨cells, a + 1, t, n + 1, salt⟩, ?_, hk1, e1 _, e2 _⟩
          simp [F_law_draw, B_law_draw, defL, Pool.d, zed, atD, ixOf, c1, c2, hk, ht, c3, c4, h0, h1] at hc ⊢
          simp [hc, ht, c3, c4, h0, h1]
        · refine ⟨t % many, ⟨cells, a + 1, t / many, n + 1, salt⟩, ?_, hk1, e1 _, e2 _⟩
          simp [F_law_draw, B_law_draw, defL, Pool.d, zed, atD, ixOf, c1, c2, hk, ht, c3, c4, h0, h1] at hc ⊢
          simp [hc, ht, c3, c4, h0, h1]
      · have c4 : ¬ c ≤ 0 := by omega
        refine ⟨c % many, ⟨cells, a + 1, c / many, n + 1, salt⟩, ?_, hk1, e1 _, e2 _⟩
        simp [F_law_draw, B_law_draw, defL, Pool.d, zed, atD, ixOf, c1, c2, hk, c3, c4, h0, h1] at hc ⊢
        simp [hc, c3, c4, h0, h1]
    · refine ⟨zed salt n % many, ⟨cells, a, cur, n + 1, salt⟩, ?_, hk, e1 _, e2 _⟩
      simp [F_law_draw, B_law_draw, defL, Pool.d, zed, atD, ixOf, c1, c2, h0, h1]
  · refine ⟨cur % many, ⟨cells, a, cur / many, n + 1, salt⟩, ?_, hk, e1 _, e2 _⟩
    simp [F_law_draw, B_law_draw, defL, Pool.d, zed, atD, ixOf, c1, h0, h1]

/-! ### loops -/
theorem forL_ind {g : GF} {b : SF} {P : List PyData → Rho → Prop} : ∀ (ds : List PyData) (ρ : Rho), P ds ρ → (∀ d r ρ, P (d :: r) ρ → ∃ ρ1 ρ2, g d ρ = some ρ1 ∧ b ρ1 = some (.next, ρ2) ∧ P r ρ2) → ∃ ρ', forL g b ds ρ = some (.next, ρ') ∧ P [] ρ'
  | [], ρ, h, _ => ⟨ρ, rfl, h⟩
  | d :: r, ρ, h, hs => by
    obtain ⟨ρ1, ρ2, e1, e2, h2⟩ := hs d r ρ h
    obtain ⟨ρ', e3, h3⟩ := forL_ind r ρ2 h2 hs
    exact ⟨ρ', by simp [forL, e1, e2, e3], h3⟩
/-- a comprehension that changes nothing -/
theorem compL_pure {g : GF} {t : TF} {e : EF} {vs : List Nat} {ρ : Rho} (c : PyData → Bool) (m : PyData → PyData) : ∀ (ds acc : List PyData), acc.length + ds.length ≤ 16777216 →
    (∀ d ∈ ds, ∃ ρ1, g d ρ = some ρ1 ∧ t ρ1 = some (c d, ρ1) ∧ (c d = true → e ρ1 = some (m d, ρ1)) ∧ plainAt ρ1 vs = true ∧ wipeR ρ1 vs = ρ) → compL g t e vs ds acc ρ = some (acc ++ (ds.filter c).map m, ρ)
  | [], acc, _, _ => by simp [compL]
  | d :: ds, acc, hl, h => by
    obtain ⟨ρ1, e1, e2, e3, e4, e5⟩ := h d (by simp)
    have hl' : acc.length + ds.length + 1 ≤ 16777216 := by simp only [List.length_cons] at hl; omega
    cases hc : c d with
    | false =>
      have ih := compL_pure c m ds acc (by omega) fun x hx => h x (by simp [hx])
      simp [compL, e1, e2, hc, e4, e5, ih]
    | true =>
      have ih := compL_pure c m ds (acc ++ [m d]) (by simp; omega) fun x hx => h x (by simp [hx])
      have hlt : acc.length < 16777216 := by omega
      simp [compL, e1, e2, e3 hc, hc, e4, e5, ih, hlt]
/-- .. that changes the state -/
theorem compL_ind {g : GF} {t : TF} {e : EF} {vs : List Nat} {P : List PyData → List PyData → Rho → Prop} : ∀ (ds acc : List PyData) (ρ : Rho), acc.length + ds.length ≤ 16777216 → P ds acc ρ →
    (∀ d r acc ρ, P (d :: r) acc ρ → ∃ ρ1 ρ2 y ρ3, g d ρ = some ρ1 ∧ t ρ1 = some (true, ρ2) ∧ e ρ2 = some (y, ρ3) ∧ plainAt ρ3 vs = true ∧ P r (acc ++ [y]) (wipeR ρ3 vs)) →
    ∃ out ρ', compL g t e vs ds acc ρ = some (out, ρ') ∧ P [] out ρ' ∧ out.length = acc.length + ds.length
  | [], acc, ρ, _, h, _ => ⟨acc, ρ, rfl, h, rfl⟩
  | d :: r, acc, ρ, hl, h, hs => by
    obtain ⟨ρ1, ρ2, y, ρ3, e1, e2, e3, e4, h2⟩ := hs d r acc ρ h
    simp only [List.length_cons] at hl
    obtain ⟨out, ρ', e5, h5, h6⟩ := compL_ind r (acc ++ [y]) _ (by simp; omega) h2 hs
    have hlt : acc.length < 16777216 := by omega
    exact ⟨out, ρ', by simp [compL, e1, e2, e3, e4, hlt, e5], h5, by rw [h6]; simp; omega⟩

/-! ### two data that are one -/
mutual
def dep : PyData → Nat
  | .list xs => depA xs + 1
  | .tuple xs => depA xs + 1
  | _ => 1
def depA : List PyData → Nat
  | [] => 0
  | x :: xs => max (dep x) (depA xs)
end
mutual
def nod : PyData → Bool
  | .list xs => nodA xs
  | .tuple xs => nodA xs
  | .dict _ => false
  | .str x => PyData.canLay0 (.str x)
  | _ => true
def nodA : List PyData → Bool
  | [] => true
  | x :: xs => nod x && nodA xs
end
theorem dep_mem : ∀ {xs : List PyData} {x : PyData}, x ∈ xs → dep x ≤ depA xs
  | y :: xs, x, h => by
    simp only [depA]
    rcases List.mem_cons.mp h with e | e
    · subst e; omega
    · have := dep_mem e; omega
theorem nod_mem : ∀ {xs : List PyData} {x : PyData}, nodA xs = true → x ∈ xs → nod x = true
  | y :: xs, x, h0, h => by
    simp only [nodA, Bool.and_eq_true] at h0
    rcases List.mem_cons.mp h with e | e
    · subst e; exact h0.1
    · exact nod_mem h0.2 e
theorem atD_nat {xs : List PyData} {k : Nat} (h : k < xs.length) : atD xs (k : Int) = some xs[k] := by
  have h2 : (k : Int) < (xs.length : Int) := by omega
  simp [atD, ixOf, h2, h]
theorem same_turn (n : Nat) (xs : List PyData) (d : PyData) (hix : ∀ i, dIx d (.int i) = atD xs i) (ih : ∀ x ∈ xs, F_law_same n [x, x] = some (.bool true)) (j : Nat) (hj' : j < xs.length) :
    X_law_same_1 (F_law_same n) [some (.v d), some (.v d), some (.v (.int (j : Nat)))] = some (false, [some (.v d), some (.v d), some (.v (.int (j : Nat)))]) := by
  have e1 : dIx d (.int (j : Nat)) = some xs[j] := by rw [hix, atD_nat hj']
  have e2 := ih xs[j] (List.getElem_mem hj')
  simp [X_law_same_1, -dIx, e1, e2]
theorem same_comp (n : Nat) (xs : List PyData) (d : PyData) (hix : ∀ i, dIx d (.int i) = atD xs i) (hl : xs.length < 16777216) (ih : ∀ x ∈ xs, F_law_same n [x, x] = some (.bool true)) :
    compL (gSet 2) (X_law_same_1 (F_law_same n)) (X_law_same_2 (F_law_same n)) [2] (rng 0 xs.length) [] [some (.v d), some (.v d), none] = some ([], [some (.v d), some (.v d), none]) := by
  have hr : (rng 0 xs.length).length = xs.length := by simp [rng]
  have this := compL_pure (g := gSet 2) (t := X_law_same_1 (F_law_same n)) (e := X_law_same_2 (F_law_same n)) (vs := [2]) (ρ := [some (.v d), some (.v d), none]) (fun _ => false) id (rng 0 xs.length) [] (by rw [hr, List.length_nil]; omega) fun k hk => by
        unfold rng at hk
        obtain ⟨j, hj, rfl⟩ := List.mem_map.mp hk
        have hj' : j < xs.length := by simpa using hj
        rw [Int.zero_add]
        exact ⟨[some (.v d), some (.v d), some (.v (.int (j : Nat)))], by simp, same_turn n xs d hix ih j hj', (fun z => by cases z), by simp [plainAt], by simp [wipeR]⟩
  have ef : (rng 0 xs.length).filter (fun _ => false) = [] := by simp [List.filter_eq_nil_iff]
  rw [this, ef]
  simp
theorem same_n (n : Nat) (xs : List PyData) (d : PyData) (hix : ∀ i, dIx d (.int i) = atD xs i) (hlen : dLen d = some (.int xs.length)) (hl : xs.length < 16777216) (ih : ∀ x ∈ xs, F_law_same n [x, x] = some (.bool true)) :
    nComp (itR1 (nCons (eCall (o1of dLen) (nCons (eName 1) nNil)) nNil)) (gSet 2) (X_law_same_1 (F_law_same n)) (X_law_same_2 (F_law_same n)) [2] [some (.v d), some (.v d), none] = some ([], [some (.v d), some (.v d), none]) := by
  have hin : in62 (xs.length : Int) = true := by
    simp only [in62, Bool.and_eq_true, decide_eq_true_eq]
    omega
  have h1 := same_comp n xs d hix hl ih
  simp [nComp, itR1, hlen, -dLen, hin, plainAt, wipeR, h1, restR]
theorem ix_lst (xs : List PyData) : ∀ i, dIx (.list xs) (.int i) = atD xs i := fun _ => rfl
theorem ix_tup' (xs : List PyData) : ∀ i, dIx (.tuple xs) (.int i) = atD xs i := fun _ => rfl
theorem len_lst (xs : List PyData) : dLen (.list xs) = some (.int xs.length) := rfl
theorem len_tup (xs : List PyData) : dLen (.tuple xs) = some (.int xs.length) := rfl
theorem same_end (f : NF) (d : PyData) (k2 : f [some (.v d), some (.v d), none] = some ([], [some (.v d), some (.v d), none])) :
    eBin dEq (eCall (o1of dLen) (nCons (eLst f) nNil)) (eC (.int 0)) [some (.v d), some (.v d), none] = some (.bool true, [some (.v d), some (.v d), none]) := by
  simp [k2]
theorem same_b5 (d : PyData) (hd : (∃ xs, d = .list xs) ∨ ∃ xs, d = .tuple xs) (B : SF) (g : EF) (h : g [some (.v d), some (.v d), none] = some (.bool true, [some (.v d), some (.v d), none])) :
 sSeq (sIf (tOr' (tTru (eUn (dIsi "tuple") (eName 1))) (tTru (eUn (dIsi "list") (eName 1))))
  (sSeq (sIf (tOr' (tBl (eBin dNe (eUn (dIsi "tuple") (eName 1)) (eUn (dIsi "tuple") (eName 0)))) (tOr' (tBl (eBin dNe (eUn (dIsi "list") (eName 1)) (eUn (dIsi "list") (eName 0)))) (tBl (eBin dNe (eCall (o1of dLen) (nCons (eName 0) nNil)) (eCall (o1of dLen) (nCons (eName 1) nNil))))))
  (sSeq (sRet (eC (.bool false)))
  sNil)
  sNil)
  (sSeq (sRet g)
  sNil))
  sNil) B [some (.v d), some (.v d), none] = some (.ret (.bool true), [some (.v d), some (.v d), none]) := by
  rcases hd with ⟨xs, rfl⟩ | ⟨xs, rfl⟩ <;> simp [h]
theorem same_last (b : SF) (d : PyData) (r : Rho) (h : b [some (.v d), some (.v d), none] = some (.ret (.bool true), r)) : defP b 2 1 [d, d] = some (.bool true) := by
  simp [defP, h]
theorem same_list (n : Nat) (xs : List PyData) (hl : xs.length < 16777216) (ih : ∀ x ∈ xs, F_law_same n [x, x] = some (.bool true)) : F_law_same (n + 1) [.list xs, .list xs] = some (.bool true) := by
  rw [F_law_same]
  refine same_last _ _ [some (.v (.list xs)), some (.v (.list xs)), none] ?_
  unfold B_law_same
  exact same_b5 _ (.inl ⟨xs, rfl⟩) _ _ (same_end _ _ (same_n n xs (.list xs) (ix_lst xs) (len_lst xs) hl ih))
theorem same_tup (n : Nat) (xs : List PyData) (hl : xs.length < 16777216) (ih : ∀ x ∈ xs, F_law_same n [x, x] = some (.bool true)) : F_law_same (n + 1) [.tuple xs, .tuple xs] = some (.bool true) := by
  rw [F_law_same]
  refine same_last _ _ [some (.v (.tuple xs)), some (.v (.tuple xs)), none] ?_
  unfold B_law_same
  exact same_b5 _ (.inr ⟨xs, rfl⟩) _ _ (same_end _ _ (same_n n xs (.tuple xs) (ix_tup' xs) (len_tup xs) hl ih))
theorem same_int (n : Nat) (i : Int) : F_law_same (n + 1) [.int i, .int i] = some (.bool true) := by
  simp [F_law_same, defP, B_law_same]
theorem same_bool (n : Nat) (i : Bool) : F_law_same (n + 1) [.bool i, .bool i] = some (.bool true) := by
  simp [F_law_same, defP, B_law_same]
theorem same_none (n : Nat) : F_law_same (n + 1) [.none, .none] = some (.bool true) := by
  simp [F_law_same, defP, B_law_same]
/-! ### pairs of ints -/
def pr (x : Int × Int) : PyData := .tuple [.int x.1, .int x.2]
def prs (l : List (Int × Int)) : List PyData := l.map pr
theorem same_pr (n : Nat) (x : Int × Int) : F_law_same (n + 2) [pr x, pr x] = some (.bool true) :=
  same_tup (n + 1) _ (by simp) fun y hy => by
    rcases List.mem_cons.mp hy with rfl | hy
    · exact same_int n _
    · rcases List.mem_cons.mp hy with rfl | hy
      · exact same_int n _
      · cases hy
theorem same_prsL (n : Nat) (l : List (Int × Int)) (hl : l.length < 16777216) : F_law_same (n + 3) [.list (prs l), .list (prs l)] = some (.bool true) :=
  same_list (n + 2) _ (by simpa [prs] using hl) fun y hy => by
    obtain ⟨x, _, rfl⟩ := List.mem_map.mp hy
    exact same_pr n x
theorem same_prsT (n : Nat) (l : List (Int × Int)) (hl : l.length < 16777216) : F_law_same (n + 3) [.tuple (prs l), .tuple (prs l)] = some (.bool true) :=
  same_tup (n + 2) _ (by simpa [prs] using hl) fun y hy => by
    obtain ⟨x, _, rfl⟩ := List.mem_map.mp hy
    exact same_pr n x
/-! ### drawn numbers -/
theorem number_ok (p : Pool) (h : p.ok) (top : Int) (h0 : 0 ≤ top) (h1 : top < 1000000000) : ∃ (v : Int) (p' : Pool), F_law_number p.d [.int top] = some (.int v, p'.d) ∧ p'.ok ∧ 0 ≤ v ∧ v ≤ top := by
  obtain ⟨t, p1, e1, k1, t0, t1⟩ := draw_ok p h 4 (by decide) (by decide)
  by_cases c0 : t = 0
  · subst c0
    obtain ⟨v, p2, e2, k2, v0, v1⟩ := draw_ok p1 k1 (top + 1) (by omega) (by omega)
    exact ⟨v, p2, by simp [F_law_number, B_law_number, defL, e1, e2], k2, v0, by omega⟩
  · by_cases c1 : t = 1
    · subst c1
      obtain ⟨v, p2, e2, k2, v0, v1⟩ := draw_ok p1 k1 12 (by decide) (by decide)
      exact ⟨if v < top then v else top, p2, by simp [F_law_number, B_law_number, defL, e1, e2], k2, by split <;> omega, by split <;> omega⟩
    · by_cases c2 : t = 2
      · subst c2
        obtain ⟨v, p2, e2, k2, v0, v1⟩ := draw_ok p1 k1 12 (by decide) (by decide)
        exact ⟨if top - v > 0 then top - v else 0, p2, by simp [F_law_number, B_law_number, defL, e1, e2], k2, by split <;> omega, by split <;> omega⟩
      · obtain ⟨v, p2, e2, k2, v0, v1⟩ := draw_ok p1 k1 256 (by decide) (by decide)
        exact ⟨if 256 * v < top then 256 * v else top, p2, by simp [F_law_number, B_law_number, defL, e1, e2, c0, c1, c2], k2, by split <;> omega, by split <;> omega⟩
/-! ### drawn pairs -/
def okPair (top : Int) (x : Int × Int) : Prop := 0 ≤ x.1 ∧ x.1 ≤ x.2 ∧ x.2 ≤ top
theorem rng_len (lo : Int) (n : Nat) : (rng lo n).length = n := by simp [rng]
theorem rng_mem {lo : Int} {n : Nat} {d : PyData} (h : d ∈ rng lo n) : ∃ k, k < n ∧ d = .int (lo + (k : Nat)) := by
  obtain ⟨k, hk, rfl⟩ := List.mem_map.mp h
  exact ⟨k, by simpa using hk, rfl⟩
theorem five_at {v : Int} (h0 : 0 ≤ v) (h1 : v < 5) : ∃ k : Int, 0 ≤ k ∧ k ≤ 5000 ∧ dIx (.tuple [.int 0, .int 1, .int 3, .int 255, .int 5000]) (.int v) = some (.int k) := by
  rcases (show v = 0 ∨ v = 1 ∨ v = 2 ∨ v = 3 ∨ v = 4 by omega) with rfl | rfl | rfl | rfl | rfl
  · exact ⟨0, by decide, by decide, rfl⟩
  · exact ⟨1, by decide, by decide, rfl⟩
  · exact ⟨3, by decide, by decide, rfl⟩
  · exact ⟨255, by decide, by decide, rfl⟩
  · exact ⟨5000, by decide, by decide, rfl⟩
def plainC (x : Option Cell) : Prop := x = none ∨ ∃ d, x = some (.v d)
theorem setV_at {ρ : Rho} {i : Nat} {d : PyData} {x : Option Cell} (h : ρ[i]? = some x) (hx : plainC x) : setV i d ρ = some (ρ.set i (some (.v d))) := by
  rcases hx with rfl | ⟨y, rfl⟩ <;> simp [h]
theorem pairs_ok (p : Pool) (h : p.ok) (top many : Int) (h0 : 0 ≤ top) (h1 : top < 1000000000) (m0 : 0 ≤ many) (m1 : many ≤ 1000) :
    ∃ (l : List (Int × Int)) (p' : Pool), F_law_pairs p.d [.int top, .int many] = some (.list (prs l), p'.d) ∧ p'.ok ∧ (∀ x ∈ l, okPair top x) ∧ l.length = many.toNat := by
  have hin : in62 many = true := by simp only [in62, Bool.and_eq_true, decide_eq_true_eq]; omega
  obtain ⟨ρ', e, l, p', x4, x5, rfl, k, ol, ll, _, _⟩ := forL_ind (g := gSet 4) (b := X_law_pairs_1) (P := fun ds ρ => ∃ (l : List (Int × Int)) (p' : Pool) (x4 x5 : Option Cell), ρ = [some (.l true p'.d), some (.v (.int top)), some (.v (.int many)), some (.l false (prs l)), x4, x5] ∧ p'.ok ∧ (∀ x ∈ l, okPair top x) ∧ l.length + ds.length = many.toNat ∧ plainC x4 ∧ plainC x5)
    (rng 0 many.toNat) [some (.l true p.d), some (.v (.int top)), some (.v (.int many)), some (.l false []), none, none] ⟨[], p, none, none, rfl, h, by simp, by simp [rng_len], .inl rfl, .inl rfl⟩ (by
      rintro d r ρ ⟨l, p', x4, x5, rfl, k, ol, ll, q4, q5⟩
      obtain ⟨v, p1, e1, k1, v0, v1⟩ := number_ok p' k top h0 h1
      obtain ⟨t, p2, e2, k2, t0, t1⟩ := draw_ok p1 k1 5 (by decide) (by decide)
      obtain ⟨c, c0, c1, e3⟩ := five_at t0 t1
      have hl : l.length < 16777216 := by simp only [List.length_cons] at ll; omega
      refine ⟨[some (.l true p'.d), some (.v (.int top)), some (.v (.int many)), some (.l false (prs l)), some (.v d), x5], _, ?_, ?_, l ++ [(v, if v + c < top then v + c else top)], p2, some (.v d), some (.v (.int v)), rfl, k2, ?_, ?_, .inr ⟨_, rfl⟩, .inr ⟨_, rfl⟩⟩
      · rcases q4 with rfl | ⟨y, rfl⟩ <;> simp
      · rcases q5 with rfl | ⟨y, rfl⟩ <;> simp [X_law_pairs_1, e1, e2, -dIx, e3, hl, prs, pr]
      · intro x hx
        rcases List.mem_append.mp hx with hx | hx
        · exact ol x hx
        · simp only [List.mem_singleton] at hx
          subst hx
          refine ⟨v0, ?_, ?_⟩
          · show v ≤ if v + c < top then v + c else top
            split <;> omega
          · show (if v + c < top then v + c else top) ≤ top
            split <;> omega
      · simp only [List.length_append, List.length_cons, List.length_nil] at ll ⊢
        omega)
  refine ⟨l, p', ?_, k, ol, by simpa using ll⟩
  simp [F_law_pairs, B_law_pairs, defL, sFor, itR1, hin, e]
end Pr_C
end
section
set_option Elab.async false
set_option linter.all false
set_option maxRecDepth 100000
namespace Pr_C
open PySem PG
abbrev IL (e : List Int) : List PyData := e.map PyData.int
theorem wp_draw {p : Pool} {n : Int} {Q : PyData → List PyData → Prop} (hp : p.ok) (h0 : 0 < n) (h1 : n < 18446744073709551616) (q : ∀ (v : Int) (p' : Pool), p'.ok → 0 ≤ v → v < n → Q (.int v) p'.d) : WP (F_law_draw p.d [.int n]) Q := by
  obtain ⟨v, p', e, k, a, b⟩ := draw_ok p hp n h0 h1
  exact ⟨_, _, e, q v p' k a b⟩
/-- what a def that draws gives, whatever the pool holds -/
def LS (F : List PyData → List PyData → Option (PyData × List PyData)) (xs : List PyData) (R : PyData → Prop) : Prop := ∀ p : Pool, p.ok → WP (F p.d xs) fun z ps => ∃ p' : Pool, p'.ok ∧ ps = p'.d ∧ R z
theorem wp_ls {F : List PyData → List PyData → Option (PyData × List PyData)} {xs : List PyData} {R : PyData → Prop} {p : Pool} {Q : PyData → List PyData → Prop} (h : LS F xs R) (hp : p.ok) (q : ∀ (z : PyData) (p' : Pool), p'.ok → R z → Q z p'.d) : WP (F p.d xs) Q :=
  (h p hp).mono fun z ps ⟨p', k, e, r⟩ => by subst e; exact q z p' k r
theorem ls_i {p : Pool} {Q : Prop} (hp : p.ok) (q : Q) : ∃ p' : Pool, p'.ok ∧ p.d = p'.d ∧ Q := ⟨p, hp, rfl, q⟩
local macro_rules | `(tactic| array_get_dec) => `(tactic| first | ((with_reducible apply PG.ws_set)) | ((with_reducible apply PG.ws_if)) | ((with_reducible apply PG.ws_ret)) | ((with_reducible apply PG.ws_setL)) | ((with_reducible apply PG.ws_expr)) | ((with_reducible apply PG.ws_nilc)) | ((with_reducible apply PG.ws_asc)) | ((with_reducible apply PG.ws_nil)) | ((with_reducible apply PG.ws_for)) | ((with_reducible apply PG.ws_asg)) | ((with_reducible apply PG.ws_par)) | ((with_reducible apply PG.ws_retL)) | ((with_reducible apply PG.ws_brk)) | ((with_reducible apply PG.ws_cont)) | ((with_reducible apply PG.ws_forn)) | ((with_reducible apply PG.ws_sto)) | ((with_reducible apply PG.ws_aug); (case hget => rfl)) | ((with_reducible apply PG.ws_app); (case hget => rfl)) | ((with_reducible apply PG.ws_retO); (case hget => rfl)) | ((with_reducible apply PG.we_name); (case hget => rfl)) | ((with_reducible apply PG.we_c)) | ((with_reducible apply PG.we_bin)) | ((with_reducible apply PG.we_un)) | ((with_reducible apply PG.we_call)) | ((with_reducible apply PG.we_callL); (case hget => rfl)) | ((with_reducible apply PG.we_tup)) | ((with_reducible apply PG.we_lst)) | ((with_reducible apply PG.we_if)) | ((with_reducible apply PG.we_ixL); (case hget => rfl)) | ((with_reducible apply PG.we_unL); (case hget => rfl)) | ((with_reducible apply PG.we_and)) | ((with_reducible apply PG.we_or)) | ((with_reducible apply PG.we_not)) | ((with_reducible apply PG.we_chain)) | ((with_reducible apply PG.we_slT)) | ((with_reducible apply PG.wn_cons)) | ((with_reducible apply PG.wn_nil)) | ((with_reducible apply PG.wn_star)) | ((with_reducible apply PG.wn_disp)) | ((with_reducible apply PG.wn_call)) | ((with_reducible apply PG.wn_sl)) | ((with_reducible apply PG.wn_its)) | ((with_reducible apply PG.wn_r1)) | ((with_reducible apply PG.wn_r2)) | ((with_reducible apply PG.wn_r3)) | ((with_reducible apply PG.wt_tru)) | ((with_reducible apply PG.wt_bl)) | ((with_reducible apply PG.wt_and)) | ((with_reducible apply PG.wt_or)) | ((with_reducible apply PG.wt_not)) | ((with_reducible apply PG.wt_yes)) | ((with_reducible apply PG.wt_truL); (case hget => rfl)) | ((with_reducible apply PG.wo_none)) | ((with_reducible apply PG.wo_some)) | ((with_reducible apply PG.wg_p0)) | ((with_reducible apply PG.wg_tup)) | ((with_reducible apply PG.wg_ps); (case hset => (repeat' (first | exact PG.SetR.h0 | exact PG.SetR.h1 | exact PG.SetR.hl | exact PG.SetR.hc (by assumption) | apply PG.SetR.s)))) | ((with_reducible apply PG.wg_set); (case hset => (repeat' (first | exact PG.SetR.h0 | exact PG.SetR.h1 | exact PG.SetR.hl | exact PG.SetR.hc (by assumption) | apply PG.SetR.s)))) | ((with_reducible apply PG.we_frz); (case hget => rfl); (case hset => (repeat' (first | exact PG.SetR.h0 | exact PG.SetR.h1 | exact PG.SetR.hl | exact PG.SetR.hc (by assumption) | apply PG.SetR.s)))) | ((with_reducible apply PG.setr_i); (case hset => (repeat' (first | exact PG.SetR.h0 | exact PG.SetR.h1 | exact PG.SetR.hl | exact PG.SetR.hc (by assumption) | apply PG.SetR.s)))) | ((with_reducible apply PG.setl_i); (case hset => (repeat' (first | exact PG.SetLR.h0 | exact PG.SetLR.h1 | exact PG.SetLR.hl | apply PG.SetLR.s)))) | ((with_reducible apply PG.put_i); (case hset => (repeat' (first | exact PG.PutR.h | apply PG.PutR.s)))) | ((with_reducible apply PG.pool_i); (case hget => rfl)) | ((with_reducible apply PG.bool_i)) | ((with_reducible apply PG.int_i)) | ((with_reducible apply PG.seqL_i)) | ((with_reducible apply PG.seqT_i)) | ((with_reducible apply PG.seqR_i)) | ((with_reducible apply PG.starT_i)) | ((with_reducible apply PG.starL_i)) | ((with_reducible apply PG.len_i); (case h => rfl)) | ((with_reducible apply PG.tup_i)) | ((with_reducible apply PG.yes_i)) | ((with_reducible apply PG.no_i)) | ((with_reducible apply PG.nyes_i)) | ((with_reducible apply PG.nno_i)) | ((with_reducible apply PG.wa_add)) | ((with_reducible apply PG.wa_sub)) | ((with_reducible apply PG.wa_lt)) | ((with_reducible apply PG.wa_le)) | ((with_reducible apply PG.wa_gt)) | ((with_reducible apply PG.wa_ge)) | ((with_reducible apply PG.wa_eqI)) | ((with_reducible apply PG.wa_neI)) | ((with_reducible apply PG.wa_neg)) | ((with_reducible apply PG.wa_lenL)) | ((with_reducible apply PG.wa_lenT)) | ((with_reducible apply PG.wa_int)) | ((with_reducible apply PG.wa_max)) | ((with_reducible apply PG.wa_min)) | ((with_reducible apply PG.wb_bool)) | ((with_reducible apply PG.wb_int)) | ((with_reducible apply PG.endP_ret)) | ((with_reducible apply PG.endP_retL)) | ((with_reducible apply PG.endN_ret)) | ((with_reducible apply PG.endL_ret)) | ((with_reducible apply PG.endL_retL)) | ((with_reducible apply PG.wa_binO)) | ((with_reducible apply PG.ch_le)) | ((with_reducible apply PG.ch_lt)) | ((with_reducible apply PG.ch_eq)) | ((with_reducible apply PG.wa_ix0); (case hget => rfl)) | ((with_reducible apply PG.wa_ix1); (case hget => rfl)) | ((with_reducible apply PG.wa_ix2); (case hget => rfl)) | ((with_reducible apply PG.wa_ix3); (case hget => rfl)) | ((with_reducible apply PG.wa_ix4); (case hget => rfl)) | ((with_reducible apply PG.wa_ix5); (case hget => rfl)) | ((with_reducible apply PG.wa_ix6); (case hget => rfl)) | ((with_reducible apply PG.wa_ix7); (case hget => rfl)) | ((with_reducible apply PG.wa_ix8); (case hget => rfl)) | ((with_reducible apply PG.wa_il0); (case hget => rfl)) | ((with_reducible apply PG.wa_il1); (case hget => rfl)) | ((with_reducible apply PG.wa_il2); (case hget => rfl)) | ((with_reducible apply PG.wa_ev1)) | ((with_reducible apply PG.wa_ev)) | ((with_reducible apply PG.wl_ev)) | ((with_reducible apply PG.wb_ev)) | ((with_reducible apply PG.wa_mod); (case h1 => omega)) | ((with_reducible apply PG.wa_div); (case h1 => omega); (case h2 => omega)) | ((with_reducible apply PG.wa_mulR); (case h1 => omega); (case h2 => omega)) | ((with_reducible apply PG.wa_mulL); (case h1 => omega); (case h2 => omega)) | ((with_reducible apply PG.wa_shr); (case h1 => omega)))
local macro_rules | `(tactic| array_get_dec) => `(tactic| first | ((with_reducible apply Pr_C.wp_draw); (case hp => assumption); (case h0 => omega); (case h1 => omega)) | ((with_reducible apply Pr_C.ls_i); (case hp => assumption)))

theorem number_ls (top : Int) (h0 : 0 ≤ top) (h1 : top < 1000000000) : LS F_law_number [.int top] fun d => ∃ v, d = .int v ∧ 0 ≤ v ∧ v ≤ top := by
  intro p hp
  unfold F_law_number; refine PG.wp_def rfl ?_; simp only [PG.rhoL_eq, List.map_cons, List.map_nil, List.replicate_succ, List.replicate_zero, List.cons_append, List.nil_append]; unfold B_law_number
  (repeat array_get_dec); intro v1 p1 k1 a1 b1; (repeat array_get_dec)
  (first | (with_reducible apply PG.dec_i) | (with_reducible apply PG.decn_i) | (with_reducible apply PG.bit_i)) <;> intro h
  · (repeat array_get_dec); intro v2 p2 k2 a2 b2; (repeat array_get_dec); (refine ⟨?_, ?_⟩ <;> (try split) <;> omega)
  (repeat array_get_dec); (first | (with_reducible apply PG.dec_i) | (with_reducible apply PG.decn_i) | (with_reducible apply PG.bit_i)) <;> intro h
  · (repeat array_get_dec); intro v2 p2 k2 a2 b2; (repeat array_get_dec); (refine ⟨?_, ?_⟩ <;> (try split) <;> omega)
  (repeat array_get_dec); (first | (with_reducible apply PG.dec_i) | (with_reducible apply PG.decn_i) | (with_reducible apply PG.bit_i)) <;> intro h
  · (repeat array_get_dec); intro v2 p2 k2 a2 b2; (repeat array_get_dec); (refine ⟨?_, ?_⟩ <;> (try split) <;> omega)
  (repeat array_get_dec); intro v2 p2 k2 a2 b2; (repeat array_get_dec); (refine ⟨?_, ?_⟩ <;> (try split) <;> omega)
end Pr_C
end
section
set_option linter.all false
set_option maxRecDepth 100000
set_option Elab.async false
namespace Pr_C
open PySem PG
/-! ### loops over a range -/
theorem forL_rng {g : GF} {b : SF} {P : Nat → Rho → Prop} (n : Nat) (ρ : Rho) (h0 : P 0 ρ) (hs : ∀ k ρ, k < n → P k ρ → ∃ ρ1 ρ2, g (.int (k : Nat)) ρ = some ρ1 ∧ b ρ1 = some (.next, ρ2) ∧ P (k + 1) ρ2) : ∃ ρ', forL g b (rng 0 n) ρ = some (.next, ρ') ∧ P n ρ' := by
  obtain ⟨ρ', e, k, hk, hd, hp⟩ := forL_ind (g := g) (b := b) (P := fun ds ρ => ∃ k, k ≤ n ∧ ds = (rng 0 n).drop k ∧ P k ρ) (rng 0 n) ρ ⟨0, by omega, rfl, h0⟩ (by
    rintro d r ρ ⟨k, hk, hd, hp⟩
    have hl := congrArg List.length hd
    simp only [List.length_cons, List.length_drop, rng_len] at hl
    have hk' : k < (rng 0 n).length := by rw [rng_len]; omega
    rw [List.drop_eq_getElem_cons hk'] at hd
    obtain ⟨rfl, rfl⟩ := List.cons.inj hd
    have hx : (rng 0 n)[k] = .int (k : Nat) := by simp [rng]
    obtain ⟨ρ1, ρ2, e1, e2, h2⟩ := hs k ρ (by omega) hp
    exact ⟨ρ1, ρ2, by rw [hx]; exact e1, e2, k + 1, by omega, rfl, h2⟩)
  have hl := congrArg List.length hd
  simp only [List.length_nil, List.length_drop, rng_len] at hl
  have : k = n := by omega
  subst this
  exact ⟨ρ', e, hp⟩
/-! ### the pool -/
theorem pool_ok (ns : List Int) (h : ns.length ≤ 63) : ∃ p : Pool, F_law_pool [RO (ns.map PyData.int)] = some p.d ∧ p.ok := by
  obtain ⟨ρ', e, s, x2, rfl, _, _⟩ := forL_ind (g := gSet 2) (b := X_law_pool_1) (P := fun ds ρ => ∃ (s : Int) (x2 : Option Cell), ρ = [some (.v (RO (ns.map PyData.int))), some (.v (.int s)), x2] ∧ plainC x2 ∧ ∀ d ∈ ds, ∃ i : Int, d = .int i)
    (cutD (ns.map PyData.int) none (some 63)) [some (.v (RO (ns.map PyData.int))), some (.v (.int 7)), none] ⟨7, none, rfl, .inl rfl, by
      intro d hd
      have := List.mem_of_mem_drop (List.mem_of_mem_take hd)
      obtain ⟨i, _, rfl⟩ := List.mem_map.mp this
      exact ⟨i, rfl⟩⟩ (by
      rintro d r ρ ⟨s, x2, rfl, q2, hd⟩
      obtain ⟨i, rfl⟩ := hd d (by simp)
      refine ⟨[some (.v (RO (ns.map PyData.int))), some (.v (.int s)), some (.v (.int i))], [some (.v (RO (ns.map PyData.int))), some (.v (.int ((s * 31 + i) % 1000003))), some (.v (.int i))], ?_, ?_, _, _, rfl, .inr ⟨_, rfl⟩, fun d h => hd d (by simp [h])⟩
      · rcases q2 with rfl | ⟨y, rfl⟩ <;> simp
      · simp [X_law_pool_1])
  refine ⟨⟨ns, 0, 0, 0, s⟩, ?_, by simp [Pool.ok]⟩
  simp only [RO] at e ⊢
  simp [F_law_pool, B_law_pool, defN, sFor, e, Pool.d]
/-! ### has -/
def hasP (l : List (Int × Int)) (x : Int) : Bool := l.any fun p => decide (p.1 ≤ x) && decide (x ≤ p.2)
def cHas (x : Int) : PyData → Bool
  | .tuple [.int a, .int b] => decide (a ≤ x) && decide (x ≤ b)
  | _ => false
@[simp] theorem dIx_p0 (a b : PyData) : dIx (.tuple [a, b]) (.int 0) = some a := rfl
@[simp] theorem dIx_p1 (a b : PyData) : dIx (.tuple [a, b]) (.int 1) = some b := rfl
theorem has_filter (l : List (Int × Int)) (c : PyData → Bool) (c' : Int × Int → Bool) (h : ∀ p, c (pr p) = c' p) : decide ((0 : Int) < (((prs l).filter c).length : Nat)) = l.any c' := by
  induction l with
  | nil => rfl
  | cons p l ih =>
    simp only [prs, List.map_cons, List.filter_cons, List.any_cons] at ih ⊢
    rw [h p]
    cases c' p
    · simp only [Bool.false_eq_true, if_false, Bool.false_or]; exact ih
    · simp only [if_true, Bool.true_or, decide_eq_true_eq, List.length_cons]; omega
theorem has_ok (l : List (Int × Int)) (d : PyData) (x : Int) (hd : d = .list (prs l) ∨ d = .tuple (prs l)) (hl : l.length ≤ 16777216) : F_law_has [d, .int x] = some (.bool (hasP l x)) := by
  have hit : itS (eName 0) [some (.v d), some (.v (.int x)), none] = some (prs l, [some (.v d), some (.v (.int x)), none]) := by rcases hd with rfl | rfl <;> rfl
  have hc := compL_pure (g := gSet 2) (t := X_law_has_1) (e := X_law_has_2) (vs := [2]) (ρ := [some (.v d), some (.v (.int x)), none]) (cHas x) id (prs l) [] (by simpa [prs] using hl) (by
    intro y hy
    obtain ⟨p, _, rfl⟩ := List.mem_map.mp hy
    refine ⟨[some (.v d), some (.v (.int x)), some (.v (pr p))], by simp, ?_, by simp [X_law_has_2], by simp [plainAt], by simp [wipeR]⟩
    simp only [pr, X_law_has_1, cHas]
    by_cases c1 : p.1 ≤ x <;> simp [-dIx, c1])
  have hn : nComp (itS (eName 0)) (gSet 2) X_law_has_1 X_law_has_2 [2] [some (.v d), some (.v (.int x)), none] = some ((prs l).filter (cHas x), [some (.v d), some (.v (.int x)), none]) := by
    unfold nComp
    rw [hit]
    simp [plainAt, wipeR, restR, hc]
  have hf := has_filter l (cHas x) (fun p => decide (p.1 ≤ x) && decide (x ≤ p.2)) (fun p => rfl)
  simp only [F_law_has, B_law_has, defP]
  simp [hn, -Int.natCast_pos] at hf ⊢
  rw [hasP, ← hf]
/-! ### unions -/
theorem intsOf_ints : ∀ ns : List Int, intsOf (ns.map PyData.int) = some ns
  | [] => rfl
  | k :: r => by simp [intsOf, intsOf_ints r]
theorem dSortSet_ints (ns : List Int) (h : ns.length < 64) : dSortSet (.list (ns.map PyData.int)) = some ((sortI ns).map PyData.int) := by
  simp [dSortSet, intsOf_ints, h]
theorem atD_ints (ns : List Int) (k : Nat) (h : k < ns.length) : dIx (.list (ns.map PyData.int)) (.int (k : Nat)) = some (.int ns[k]) := by
  show atD _ _ = _
  rw [atD_nat (by simpa using h)]
  simp
theorem ixOf_last (xs : List PyData) (y : PyData) : ixOf (xs ++ [y]).length (-1) = some xs.length := by
  have h : (-1 : Int) + ((xs ++ [y]).length : Int) = xs.length := by simp; omega
  have h0 : ¬ (0 : Int) ≤ -1 := by decide
  have h1 : -((xs ++ [y]).length : Int) ≤ -1 := by simp; omega
  unfold ixOf
  rw [if_neg h0, if_pos h1, h]
  simp
theorem atD_last (xs : List PyData) (y : PyData) : dIx (.list (xs ++ [y])) (.int (-1)) = some y := by
  show atD _ _ = _
  unfold atD
  rw [ixOf_last]
  simp
def mn1 (top : Int) : PyData → PyData
  | .tuple [.int a, .int b] => .int (if top + 1 < a then top + 1 else a)
  | _ => .none
def mn2 (top : Int) : PyData → PyData
  | .tuple [.int a, .int b] => .int (if top + 1 < b + 1 then top + 1 else b + 1)
  | _ => .none
def edges (l : List (Int × Int)) (top : Int) : List Int := [0, top + 1] ++ l.map (fun p => if top + 1 < p.1 then top + 1 else p.1) ++ l.map (fun p => if top + 1 < p.2 + 1 then top + 1 else p.2 + 1)
theorem map_true (xs : List PyData) : xs.filter (fun _ => true) = xs := by simp
theorem comp_u1 (l : List (Int × Int)) (top : Int) (hl : l.length ≤ 30) : nComp (itS (eName 0)) (gSet 5) tYesF X_law_union_1 [5] [some (.v (.list (prs l))), some (.v (.int top)), none, none, none, none] = some (l.map (fun p => PyData.int (if top + 1 < p.1 then top + 1 else p.1)), [some (.v (.list (prs l))), some (.v (.int top)), none, none, none, none]) := by
  have hc := compL_pure (g := gSet 5) (t := tYesF) (e := X_law_union_1) (vs := [5]) (ρ := [some (.v (.list (prs l))), some (.v (.int top)), none, none, none, none]) (fun _ => true) (mn1 top) (prs l) [] (by simp [prs]; omega) (by
    intro y hy
    obtain ⟨p, _, rfl⟩ := List.mem_map.mp hy
    exact ⟨[some (.v (.list (prs l))), some (.v (.int top)), none, none, none, some (.v (pr p))], by simp, by simp, by simp [X_law_union_1, pr, mn1, -dIx], by simp [plainAt], by simp [wipeR]⟩)
  rw [map_true] at hc
  have e : (prs l).map (mn1 top) = l.map (fun p => PyData.int (if top + 1 < p.1 then top + 1 else p.1)) := by simp [prs, pr, mn1]
  rw [e] at hc
  unfold nComp
  simp [plainAt, wipeR, restR] at hc ⊢
  simp [hc]
theorem comp_u2 (l : List (Int × Int)) (top : Int) (hl : l.length ≤ 30) : nComp (itS (eName 0)) (gSet 5) tYesF X_law_union_2 [5] [some (.v (.list (prs l))), some (.v (.int top)), none, none, none, none] = some (l.map (fun p => PyData.int (if top + 1 < p.2 + 1 then top + 1 else p.2 + 1)), [some (.v (.list (prs l))), some (.v (.int top)), none, none, none, none]) := by
  have hc := compL_pure (g := gSet 5) (t := tYesF) (e := X_law_union_2) (vs := [5]) (ρ := [some (.v (.list (prs l))), some (.v (.int top)), none, none, none, none]) (fun _ => true) (mn2 top) (prs l) [] (by simp [prs]; omega) (by
    intro y hy
    obtain ⟨p, _, rfl⟩ := List.mem_map.mp hy
    exact ⟨[some (.v (.list (prs l))), some (.v (.int top)), none, none, none, some (.v (pr p))], by simp, by simp, by simp [X_law_union_2, pr, mn2, -dIx], by simp [plainAt], by simp [wipeR]⟩)
  rw [map_true] at hc
  have e : (prs l).map (mn2 top) = l.map (fun p => PyData.int (if top + 1 < p.2 + 1 then top + 1 else p.2 + 1)) := by simp [prs, pr, mn2]
  rw [e] at hc
  unfold nComp
  simp [plainAt, wipeR, restR] at hc ⊢
  simp [hc]
/-- one edge -/
theorem turn_no (L : PyData) (E F : List PyData) (top : Int) (k : PyData) (e0 : PyData) (h0 : dIx (.list E) k = some e0) (hh : F_law_has [L, e0] = some (.bool false)) :
    X_law_union_3 [some (.v L), some (.v (.int top)), some (.v (.list E)), some (.l false F), some (.v k), none] = some (.next, [some (.v L), some (.v (.int top)), some (.v (.list E)), some (.l false F), some (.v k), none]) := by
  simp [X_law_union_3, -dIx, h0, hh]
theorem turn_new (L : PyData) (E F : List PyData) (top k e0 e1 : Int) (h0 : dIx (.list E) (.int k) = some (.int e0)) (h1 : dIx (.list E) (.int (k + 1)) = some (.int e1)) (hh : F_law_has [L, .int e0] = some (.bool true)) (hf : F.length < 16777216) (hn : F = [] ∨ ∃ G a b, F = G ++ [.tuple [.int a, .int b]] ∧ b + 1 ≠ e0) :
    X_law_union_3 [some (.v L), some (.v (.int top)), some (.v (.list E)), some (.l false F), some (.v (.int k)), none] = some (.next, [some (.v L), some (.v (.int top)), some (.v (.list E)), some (.l false (F ++ [.tuple [.int e0, .int (e1 - 1)]])), some (.v (.int k)), none]) := by
  rcases hn with rfl | ⟨G, a, b, rfl, hne⟩
  · simp [X_law_union_3, -dIx, h0, h1, hh]
  · have hl := atD_last G (.tuple [.int a, .int b])
    have hp : (0 : Int) < ((G ++ [PyData.tuple [.int a, .int b]]).length : Int) := by simp
    generalize G ++ [PyData.tuple [.int a, .int b]] = F at *
    have hp' : 0 < F.length := by omega
    simp [X_law_union_3, -dIx, h0, h1, hh, hl, hne, hf, hp']
theorem turn_join (L : PyData) (E G : List PyData) (top k e0 e1 a b : Int) (h0 : dIx (.list E) (.int k) = some (.int e0)) (h1 : dIx (.list E) (.int (k + 1)) = some (.int e1)) (hh : F_law_has [L, .int e0] = some (.bool true)) (hne : b + 1 = e0) :
    X_law_union_3 [some (.v L), some (.v (.int top)), some (.v (.list E)), some (.l false (G ++ [.tuple [.int a, .int b]])), some (.v (.int k)), none] = some (.next, [some (.v L), some (.v (.int top)), some (.v (.list E)), some (.l false (G ++ [.tuple [.int a, .int (e1 - 1)]])), some (.v (.int k)), none]) := by
  have hl := atD_last G (.tuple [.int a, .int b])
  have hi := ixOf_last G (.tuple [.int a, .int b])
  have hs : (G ++ [PyData.tuple [.int a, .int b]]).set G.length (.tuple [.int a, .int (e1 - 1)]) = G ++ [.tuple [.int a, .int (e1 - 1)]] := by simp
  have hp : (0 : Int) < ((G ++ [PyData.tuple [.int a, .int b]]).length : Int) := by simp
  generalize G ++ [PyData.tuple [.int a, .int b]] = F at *
  have hp' : 0 < F.length := by omega
  simp [X_law_union_3, -dIx, h0, h1, hh, hl, hne, hi, hs, hp']
/-- a set as the document has it, but for the gaps -/
def PwS (l : List (Int × Int)) : Prop := l.Pairwise fun x y => x.2 < y.1
theorem pw_snoc {l : List (Int × Int)} {y : Int × Int} (h : PwS l) (hy : ∀ x ∈ l, x.2 < y.1) : PwS (l ++ [y]) := by
  unfold PwS
  rw [List.pairwise_append]
  exact ⟨h, by simp, fun x hx z hz => by simp only [List.mem_singleton] at hz; subst hz; exact hy x hx⟩
theorem pw_left {l m : List (Int × Int)} (h : PwS (l ++ m)) : PwS l := (List.pairwise_append.mp h).1
def Fin (L : PyData) (E : List PyData) (top k B : Int) (n : Nat) (r : List (Int × Int)) (r' : List (Int × Int)) : Prop := (∀ x ∈ r', okPair top x) ∧ PwS r' ∧ r'.length ≤ n ∧ (∀ x ∈ r', x.2 < B) ∧ X_law_union_3 [some (.v L), some (.v (.int top)), some (.v (.list E)), some (.l false (prs r)), some (.v (.int k)), none] = some (.next, [some (.v L), some (.v (.int top)), some (.v (.list E)), some (.l false (prs r')), some (.v (.int k)), none])
theorem union_loop (L : PyData) (l : List (Int × Int)) (hL : L = .list (prs l)) (hl : l.length ≤ 16777216) (top : Int) (E : List Int) (hE : E.Pairwise (· < ·)) (hlen : E.length ≤ 64) (hb : ∀ e ∈ E, 0 ≤ e ∧ e ≤ top + 1) :
    ∃ (r : List (Int × Int)) (x4 : Option Cell), forL (gSet 4) X_law_union_3 (rng 0 (E.length - 1)) [some (.v L), some (.v (.int top)), some (.v (.list (E.map PyData.int))), some (.l false []), none, none] = some (.next, [some (.v L), some (.v (.int top)), some (.v (.list (E.map PyData.int))), some (.l false (prs r)), x4, none]) ∧ (∀ x ∈ r, okPair top x) ∧ PwS r ∧ r.length ≤ 64 := by
  obtain ⟨ρ', e, r, x4, rfl, q4, o, w, c, _⟩ := forL_rng (g := gSet 4) (b := X_law_union_3) (P := fun k ρ => ∃ (r : List (Int × Int)) (x4 : Option Cell), ρ = [some (.v L), some (.v (.int top)), some (.v (.list (E.map PyData.int))), some (.l false (prs r)), x4, none] ∧ plainC x4 ∧ (∀ x ∈ r, okPair top x) ∧ PwS r ∧ r.length ≤ k ∧ ∀ e, E[k]? = some e → ∀ x ∈ r, x.2 < e)
    (E.length - 1) [some (.v L), some (.v (.int top)), some (.v (.list (E.map PyData.int))), some (.l false []), none, none] ⟨[], none, rfl, .inl rfl, by simp, by simp [PwS], by simp, by simp⟩ (by
      rintro k ρ hk ⟨r, x4, rfl, q4, o, w, c, he⟩
      have k0 : k < E.length := by omega
      have k1 : k + 1 < E.length := by omega
      have hlt : E[k] < E[k + 1] := List.pairwise_iff_getElem.mp hE k (k + 1) k0 k1 (by omega)
      have b0 := hb E[k] (List.getElem_mem k0)
      have b1 := hb E[k + 1] (List.getElem_mem k1)
      have a0 := atD_ints E k k0
      have a1 := atD_ints E (k + 1) k1
      have he := he E[k] (by simp [k0])
      have hs : ∀ e, E[k + 1]? = some e → e = E[k + 1] := fun e h => by simpa [k1, eq_comm] using h
      generalize hA : E[k] = A at *
      generalize hB : E[k + 1] = B at *
      have hg : ∀ (d : PyData), gSet 4 d [some (.v L), some (.v (.int top)), some (.v (.list (E.map PyData.int))), some (.l false (prs r)), x4, none] = some [some (.v L), some (.v (.int top)), some (.v (.list (E.map PyData.int))), some (.l false (prs r)), some (.v d), none] := by
        intro d
        rcases q4 with rfl | ⟨y, rfl⟩ <;> rfl
      have hh := has_ok l L A (.inl hL) hl
      cases hc : hasP l A with
      | false =>
        rw [hc] at hh
        exact ⟨_, _, hg _, turn_no _ _ _ _ _ _ a0 hh, r, _, rfl, .inr ⟨_, rfl⟩, o, w, by omega, fun e h x hx => by rw [hs e h]; have := he x hx; omega⟩
      | true =>
        rw [hc] at hh
        suffices hfin : ∃ r', Fin L (E.map PyData.int) top (k : Nat) B (k + 1) r r' by
          obtain ⟨r', o', w', c', h', e'⟩ := hfin
          exact ⟨_, _, hg _, e', r', _, rfl, .inr ⟨_, rfl⟩, o', w', c', fun e h x hx => by rw [hs e h]; exact h' x hx⟩
        have hfl : (prs r).length < 16777216 := by simp [prs]; omega
        have app : (r = [] ∨ ∃ G a b, r = G ++ [(a, b)] ∧ b + 1 ≠ A) → ∃ r', Fin L (E.map PyData.int) top (k : Nat) B (k + 1) r r' := fun hn => ⟨r ++ [(A, B - 1)], (by
            intro x hx
            rcases List.mem_append.mp hx with hx | hx
            · exact o x hx
            · simp only [List.mem_singleton] at hx
              subst hx
              exact ⟨b0.1, by show A ≤ B - 1; omega, by show B - 1 ≤ top; omega⟩), (pw_snoc w he), (by simp; omega), (by
            intro x hx
            rcases List.mem_append.mp hx with hx | hx
            · have := he x hx; omega
            · simp only [List.mem_singleton] at hx
              subst hx
              show B - 1 < B
              omega), (by
            have e2 : prs (r ++ [(A, B - 1)]) = prs r ++ [.tuple [.int A, .int (B - 1)]] := by simp [prs, pr]
            rw [e2]
            refine turn_new _ _ _ _ _ _ _ a0 a1 hh hfl ?_
            rcases hn with rfl | ⟨G, a, b, rfl, hne⟩
            · exact .inl rfl
            · exact .inr ⟨prs G, a, b, by simp [prs, pr], hne⟩)⟩
        rcases List.eq_nil_or_concat r with rfl | ⟨G, ⟨a, b⟩, rfl⟩
        · exact app (.inl rfl)
        · by_cases hne : b + 1 = A
          · refine ⟨G ++ [(a, B - 1)], ?_, ?_, ?_, ?_, ?_⟩
            · intro x hx
              rcases List.mem_append.mp hx with hx | hx
              · exact o x (by simp [hx])
              · simp only [List.mem_singleton] at hx
                subst hx
                obtain ⟨o1, o2, o3⟩ := o (a, b) (by simp)
                simp only at o1 o2 o3
                exact ⟨o1, by show a ≤ B - 1; omega, by show B - 1 ≤ top; omega⟩
            · have w2 := w
              simp only [List.concat_eq_append] at w2
              refine pw_snoc (pw_left w2) fun x hx => ?_
              exact (List.pairwise_append.mp w2).2.2 x hx (a, b) (by simp)
            · simp at c ⊢; omega
            · intro x hx
              rcases List.mem_append.mp hx with hx | hx
              · have := he x (by simp [hx]); omega
              · simp only [List.mem_singleton] at hx
                subst hx
                show B - 1 < B
                omega
            · have e2 : prs (G.concat (a, b)) = prs G ++ [.tuple [.int a, .int b]] := by simp [prs, pr]
              have e3 : prs (G ++ [(a, B - 1)]) = prs G ++ [.tuple [.int a, .int (B - 1)]] := by simp [prs, pr]
              rw [e2, e3]
              exact turn_join _ _ _ _ _ _ _ _ _ a0 a1 hh hne
          · exact app (.inr ⟨G, a, b, by simp, hne⟩))
  exact ⟨r, x4, e, o, w, by omega⟩
theorem union_ok (l : List (Int × Int)) (top : Int) (h0 : 0 ≤ top) (h1 : top < 1000000000) (hl : l.length ≤ 30) (hok : ∀ x ∈ l, okPair top x) :
    ∃ r : List (Int × Int), F_law_union [.list (prs l), .int top] = some (.tuple (prs r)) ∧ (∀ x ∈ r, okPair top x) ∧ PwS r ∧ r.length ≤ 64 := by
  have hb : ∀ e ∈ sortI (edges l top), 0 ≤ e ∧ e ≤ top + 1 := by
    intro e he
    rw [mem_sortI] at he
    simp only [edges, List.mem_append, List.mem_cons, List.not_mem_nil, or_false, List.mem_map] at he
    rcases he with ((rfl | rfl) | ⟨p, hp, rfl⟩) | ⟨p, hp, rfl⟩
    · omega
    · omega
    · obtain ⟨o1, o2, o3⟩ := hok p hp
      split <;> omega
    · obtain ⟨o1, o2, o3⟩ := hok p hp
      split <;> omega
  have hln : (edges l top).length = 2 + l.length + l.length := by simp [edges]; omega
  have hls := len_sortI (edges l top)
  have hne : 0 < (sortI (edges l top)).length := List.length_pos_of_mem ((mem_sortI 0 _).mpr (by simp [edges]))
  obtain ⟨r, x4, e, o, w, c⟩ := union_loop (.list (prs l)) l rfl (by omega) top (sortI (edges l top)) (pw_sortI _) (by omega) hb
  refine ⟨r, ?_, o, w, c⟩
  have g1 := comp_u1 l top hl
  have g2 := comp_u2 l top hl
  have g3 := dSortSet_ints (edges l top) (by omega)
  have g4 : (edges l top).map PyData.int = .int 0 :: .int (top + 1) :: (l.map (fun p => PyData.int (if top + 1 < p.1 then top + 1 else p.1)) ++ l.map (fun p => PyData.int (if top + 1 < p.2 + 1 then top + 1 else p.2 + 1))) := by
    simp only [edges, List.map_append, List.map_cons, List.map_nil, List.map_map, List.cons_append, List.nil_append]
    rfl
  rw [g4] at g3
  generalize sortI (edges l top) = E at *
  have g5 : in62 ((E.length : Int) - 1) = true := by simp only [in62, Bool.and_eq_true, decide_eq_true_eq]; omega
  have g6 : ((E.length : Int) - 1).toNat = E.length - 1 := by omega
  have m1 : (l.map (fun p => PyData.int (if top + 1 < p.1 then top + 1 else p.1))).length = l.length := by simp
  have m2 : (l.map (fun p => PyData.int (if top + 1 < p.2 + 1 then top + 1 else p.2 + 1))).length = l.length := by simp
  generalize l.map (fun p => PyData.int (if top + 1 < p.1 then top + 1 else p.1)) = M1 at *
  generalize l.map (fun p => PyData.int (if top + 1 < p.2 + 1 then top + 1 else p.2 + 1)) = M2 at *
  have s1 : 2 + M1.length ≤ 16777216 := by omega
  have s2 : M1.length + 1 + 1 + M2.length ≤ 16777216 := by omega
  simp only [F_law_union, B_law_union, defP]
  simp [g1, g2, g3, s1, s2, sFor, itR1, g5, g6, e]
/-! ### drawn sets -/
theorem drawn_gen (A B : List PyData → List PyData → Option (PyData × List PyData)) (U : List PyData → Option PyData) (pd p1 p2 : List PyData) (top many : Int) (v d r : PyData) (e1 : A pd [.int (many + 1)] = some (v, p1)) (e2 : B p1 [.int top, v] = some (d, p2)) (e3 : U [d, .int top] = some r) :
    defL (sSeq (sRet (eCall U (nCons (eCallL B 0 (nCons (eName 1) (nCons (eCallL A 0 (nCons (eBin dAdd (eName 2) (eC (.int 1))) nNil)) nNil))) (nCons (eName 1) nNil)))) sNil) 2 0 pd [.int top, .int many] = some (r, p2) := by
  simp [defL, e1, e2, e3]
theorem drawn_set_ok (p : Pool) (h : p.ok) (top many : Int) (h0 : 0 ≤ top) (h1 : top < 1000000000) (m0 : 0 ≤ many) (m1 : many ≤ 30) :
    ∃ (r : List (Int × Int)) (p' : Pool), F_law_drawn_set p.d [.int top, .int many] = some (.tuple (prs r), p'.d) ∧ p'.ok ∧ (∀ x ∈ r, okPair top x) ∧ PwS r ∧ r.length ≤ 64 := by
  obtain ⟨v, p1, e1, k1, v0, v1⟩ := draw_ok p h (many + 1) (by omega) (by omega)
  obtain ⟨l, p2, e2, k2, ol, ll⟩ := pairs_ok p1 k1 top v h0 h1 v0 (by omega)
  obtain ⟨r, e3, o, w, c⟩ := union_ok l top h0 h1 (by omega) ol
  exact ⟨r, p2, drawn_gen F_law_draw F_law_pairs F_law_union _ _ _ _ _ _ _ _ e1 e2 e3, k2, o, w, c⟩
theorem sFor_of {it : NF} {g : GF} {b : SF} {ρ ρ1 : Rho} {ds : List PyData} (h : it ρ = some (ds, ρ1)) : sFor it g b ρ = forL g b ds ρ1 := by
  unfold sFor
  rw [h]
theorem power_step (a c : PyData) (s : Int) : X_law_power_1 [some (.v a), some (.v (.int s)), some (.v c)] = some (.next, [some (.v a), some (.v (.int (s * 2))), some (.v c)]) := by
  simp [X_law_power_1]
theorem power_end (d : Int) (n : Int) (s : Int) (x2 : Option Cell) (it : NF) (g : GF) (b : SF) (e : sFor it g b [some (.v (.int n)), some (.v (.int 1)), none] = some (.next, [some (.v (.int n)), some (.v (.int s)), x2])) :
    defP (sSeq (sSet 1 (eC (.int 1))) (sSeq (sFor it g b) (sSeq (sRet (eName 1)) sNil))) 1 2 [.int n] = some (.int s) := by
  simp [defP, e]
theorem power_it (n : Nat) (h : n ≤ 62) (a b : Option Cell) : itR1 (nCons (eName 0) nNil) [some (.v (.int (n : Nat))), a, b] = some (rng 0 n, [some (.v (.int (n : Nat))), a, b]) := by
  have hin : in62 (n : Int) = true := by simp only [in62, Bool.and_eq_true, decide_eq_true_eq]; omega
  simp [itR1, hin]
theorem power_ok (n : Nat) (h : n ≤ 62) : F_law_power [.int (n : Nat)] = some (.int (2 ^ n)) := by
  obtain ⟨ρ', e, x2, hr, _⟩ := forL_rng (g := gSet 2) (b := X_law_power_1) (P := fun k ρ => ∃ x2, ρ = [some (.v (.int (n : Nat))), some (.v (.int (2 ^ k))), x2] ∧ plainC x2) n [some (.v (.int (n : Nat))), some (.v (.int 1)), none] ⟨none, rfl, .inl rfl⟩ (by
    rintro k ρ hk ⟨x2, rfl, q⟩
    refine ⟨[some (.v (.int (n : Nat))), some (.v (.int (2 ^ k))), some (.v (.int (k : Nat)))], _, ?_, power_step _ _ _, _, by rw [Int.pow_succ], .inr ⟨_, rfl⟩⟩
    · rcases q with rfl | ⟨y, rfl⟩ <;> simp)
  subst hr
  have k := power_end 0 (n : Int) (2 ^ n) x2 (itR1 (nCons (eName 0) nNil)) (gSet 2) X_law_power_1 ((sFor_of (power_it n h _ _)).trans e)
  unfold F_law_power B_law_power
  exact k
end Pr_C
end
section
set_option linter.all false
set_option maxRecDepth 100000
set_option Elab.async false
namespace Pr_C
open PySem PG
/-! ### sets, as the document has them -/
def Mem (r : List (Int × Int)) (n : Int) : Prop := ∃ x ∈ r, x.1 ≤ n ∧ n ≤ x.2
def Can (r : List (Int × Int)) : Prop := r.Pairwise (fun x y => x.2 + 1 < y.1) ∧ ∀ x ∈ r, x.1 ≤ x.2
theorem mem_cons {x : Int × Int} {r : List (Int × Int)} {n : Int} : Mem (x :: r) n ↔ (x.1 ≤ n ∧ n ≤ x.2) ∨ Mem r n := by
  constructor
  · rintro ⟨y, hy, h⟩
    rcases List.mem_cons.mp hy with rfl | hy
    · exact .inl h
    · exact .inr ⟨y, hy, h⟩
  · rintro (h | ⟨y, hy, h⟩)
    · exact ⟨x, by simp, h⟩
    · exact ⟨y, by simp [hy], h⟩
theorem mem_app {r s : List (Int × Int)} {n : Int} : Mem (r ++ s) n ↔ Mem r n ∨ Mem s n := by
  constructor
  · rintro ⟨y, hy, h⟩
    rcases List.mem_append.mp hy with hy | hy
    · exact .inl ⟨y, hy, h⟩
    · exact .inr ⟨y, hy, h⟩
  · rintro (⟨y, hy, h⟩ | ⟨y, hy, h⟩)
    · exact ⟨y, by simp [hy], h⟩
    · exact ⟨y, by simp [hy], h⟩
theorem mem_one {x : Int × Int} {n : Int} : Mem [x] n ↔ x.1 ≤ n ∧ n ≤ x.2 := by
  rw [mem_cons]
  exact ⟨fun h => h.elim id (fun ⟨_, h, _⟩ => by cases h), fun h => Or.inl h⟩
theorem mem_nil {n : Int} : ¬ Mem [] n := fun ⟨_, h, _⟩ => by cases h
theorem can_tail {x : Int × Int} {r : List (Int × Int)} (h : Can (x :: r)) : x.1 ≤ x.2 ∧ Can r ∧ ∀ n, Mem r n → x.2 + 1 < n := by
  obtain ⟨h1, h2⟩ := h
  obtain ⟨h3, h4⟩ := List.pairwise_cons.mp h1
  refine ⟨h2 x (by simp), ⟨h4, fun y hy => h2 y (by simp [hy])⟩, ?_⟩
  rintro n ⟨y, hy, h5, h6⟩
  have := h3 y hy
  omega
theorem can_uniq : ∀ {r s : List (Int × Int)}, Can r → Can s → (∀ n, Mem r n ↔ Mem s n) → r = s
  | [], [], _, _, _ => rfl
  | [], y :: s, _, hs, h => absurd ((h y.1).mpr ⟨y, by simp, Int.le_refl _, hs.2 y (by simp)⟩) mem_nil
  | x :: r, [], hr, _, h => absurd ((h x.1).mp ⟨x, by simp, Int.le_refl _, hr.2 x (by simp)⟩) mem_nil
  | x :: r, y :: s, hr, hs, h => by
    obtain ⟨x0, r1, r2⟩ := can_tail hr
    obtain ⟨y0, s1, s2⟩ := can_tail hs
    have a1 := mem_cons.mp ((h x.1).mp (mem_cons.mpr (.inl ⟨Int.le_refl _, x0⟩)))
    have a2 := mem_cons.mp ((h y.1).mpr (mem_cons.mpr (.inl ⟨Int.le_refl _, y0⟩)))
    have e1 : x.1 = y.1 := by
      have b1 : y.1 ≤ x.1 := a1.elim (fun k => k.1) fun k => by have := s2 _ k; omega
      have b2 : x.1 ≤ y.1 := a2.elim (fun k => k.1) fun k => by have := r2 _ k; omega
      omega
    have b1 : ¬ x.2 < y.2 := by
      intro c
      have := mem_cons.mp ((h (x.2 + 1)).mpr (mem_cons.mpr (.inl ⟨by omega, by omega⟩)))
      rcases this with k | k
      · omega
      · have := r2 _ k; omega
    have b2 : ¬ y.2 < x.2 := by
      intro c
      have := mem_cons.mp ((h (y.2 + 1)).mp (mem_cons.mpr (.inl ⟨by omega, by omega⟩)))
      rcases this with k | k
      · omega
      · have := s2 _ k; omega
    have e : x = y := Prod.ext e1 (by omega)
    subst e
    rw [can_uniq r1 s1 fun n => ?_]
    constructor
    · intro k
      have := r2 n k
      rcases mem_cons.mp ((h n).mp (mem_cons.mpr (.inr k))) with q | q
      · omega
      · exact q
    · intro k
      have := s2 n k
      rcases mem_cons.mp ((h n).mpr (mem_cons.mpr (.inr k))) with q | q
      · omega
      · exact q
theorem can_snoc {r : List (Int × Int)} {y : Int × Int} (h : Can r) (hy : y.1 ≤ y.2) (hl : ∀ x ∈ r, x.2 + 1 < y.1) : Can (r ++ [y]) := by
  refine ⟨?_, fun x hx => ?_⟩
  · rw [List.pairwise_append]
    exact ⟨h.1, by simp, fun x hx z hz => by simp only [List.mem_singleton] at hz; subst hz; exact hl x hx⟩
  · rcases List.mem_append.mp hx with hx | hx
    · exact h.2 x hx
    · simp only [List.mem_singleton] at hx
      subst hx
      exact hy
theorem can_left {l m : List (Int × Int)} (h : Can (l ++ m)) : Can l := ⟨(List.pairwise_append.mp h.1).1, fun x hx => h.2 x (by simp [hx])⟩
theorem can_last {l : List (Int × Int)} {y : Int × Int} (h : Can (l ++ [y])) : ∀ x ∈ l, x.2 + 1 < y.1 := fun x hx => (List.pairwise_append.mp h.1).2.2 x hx y (by simp)
theorem hasP_iff (l : List (Int × Int)) (n : Int) : hasP l n = true ↔ Mem l n := by
  unfold hasP Mem
  rw [List.any_eq_true]
  simp only [Bool.and_eq_true, decide_eq_true_eq]
/-! ### unions -/
def Fin2 (L : PyData) (E : List PyData) (top k B : Int) (n : Nat) (l r : List (Int × Int)) (r' : List (Int × Int)) : Prop := Can r' ∧ r'.length ≤ n ∧ (∀ x ∈ r', x.2 < B) ∧ (∀ m, Mem r' m ↔ Mem l m ∧ m < B) ∧ X_law_union_3 [some (.v L), some (.v (.int top)), some (.v (.list E)), some (.l false (prs r)), some (.v (.int k)), none] = some (.next, [some (.v L), some (.v (.int top)), some (.v (.list E)), some (.l false (prs r')), some (.v (.int k)), none])
theorem union_loop2 (L : PyData) (l : List (Int × Int)) (hL : L = .list (prs l)) (hl : l.length ≤ 16777216) (top : Int) (E : List Int) (hE : E.Pairwise (· < ·)) (hlen : E.length ≤ 64) (hlow : ∀ e, E[0]? = some e → ∀ m, Mem l m → e ≤ m)
    (hp : ∀ p ∈ l, p.1 ≤ p.2 ∧ p.1 ∈ E ∧ p.2 + 1 ∈ E) :
    ∃ (r : List (Int × Int)) (x4 : Option Cell), forL (gSet 4) X_law_union_3 (rng 0 (E.length - 1)) [some (.v L), some (.v (.int top)), some (.v (.list (E.map PyData.int))), some (.l false []), none, none] = some (.next, [some (.v L), some (.v (.int top)), some (.v (.list (E.map PyData.int))), some (.l false (prs r)), x4, none]) ∧ Can r ∧ r.length ≤ 64 ∧ (∀ e, E[E.length - 1]? = some e → ∀ m, Mem r m ↔ Mem l m ∧ m < e) := by
  obtain ⟨ρ', e, r, x4, rfl, q4, w, c, _, hm⟩ := forL_rng (g := gSet 4) (b := X_law_union_3) (P := fun k ρ => ∃ (r : List (Int × Int)) (x4 : Option Cell), ρ = [some (.v L), some (.v (.int top)), some (.v (.list (E.map PyData.int))), some (.l false (prs r)), x4, none] ∧ plainC x4 ∧ Can r ∧ r.length ≤ k ∧ (∀ e, E[k]? = some e → ∀ x ∈ r, x.2 < e) ∧ (∀ e, E[k]? = some e → ∀ m, Mem r m ↔ Mem l m ∧ m < e))
    (E.length - 1) [some (.v L), some (.v (.int top)), some (.v (.list (E.map PyData.int))), some (.l false []), none, none] ⟨[], none, rfl, .inl rfl, ⟨by simp, by simp⟩, by simp, by simp, fun e he m => ⟨fun h => absurd h mem_nil, fun h => by have := hlow e he m h.1; omega⟩⟩ (by
      rintro k ρ hk ⟨r, x4, rfl, q4, w, c, he, hm⟩
      have k0 : k < E.length := by omega
      have k1 : k + 1 < E.length := by omega
      have hlt : E[k] < E[k + 1] := List.pairwise_iff_getElem.mp hE k (k + 1) k0 k1 (by omega)
      have cons : ∀ x ∈ E, E[k] < x → E[k + 1] ≤ x := by
        intro x hx hlx
        obtain ⟨j, hj, rfl⟩ := List.getElem_of_mem hx
        rcases Nat.lt_trichotomy j (k + 1) with h | h | h
        · rcases Nat.lt_or_ge j k with h' | h'
          · have := List.pairwise_iff_getElem.mp hE j k hj k0 h'; omega
          · have : j = k := by omega
            subst this; omega
        · subst h; exact Int.le_refl _
        · have := List.pairwise_iff_getElem.mp hE (k + 1) j k1 hj h; omega
      have a0 := atD_ints E k k0
      have a1 := atD_ints E (k + 1) k1
      have he := he E[k] (by simp [k0])
      have hm := hm E[k] (by simp [k0])
      have hs : ∀ e, E[k + 1]? = some e → e = E[k + 1] := fun e h => by simpa [k1, eq_comm] using h
      generalize hA : E[k] = A at *
      generalize hB : E[k + 1] = B at *
      have const : ∀ m, A ≤ m → m < B → (Mem l m ↔ Mem l A) := by
        intro m h1 h2
        constructor
        · rintro ⟨p, hpl, h3, h4⟩
          obtain ⟨g1, g2, g3⟩ := hp p hpl
          refine ⟨p, hpl, ?_, by omega⟩
          by_cases hc : A < p.1
          · have := cons _ g2 hc; omega
          · omega
        · rintro ⟨p, hpl, h3, h4⟩
          obtain ⟨g1, g2, g3⟩ := hp p hpl
          have := cons _ g3 (by omega)
          exact ⟨p, hpl, by omega, by omega⟩
      have hg : ∀ (d : PyData), gSet 4 d [some (.v L), some (.v (.int top)), some (.v (.list (E.map PyData.int))), some (.l false (prs r)), x4, none] = some [some (.v L), some (.v (.int top)), some (.v (.list (E.map PyData.int))), some (.l false (prs r)), some (.v d), none] := by
        intro d
        rcases q4 with rfl | ⟨y, rfl⟩ <;> rfl
      have hh := has_ok l L A (.inl hL) hl
      have hiff := hasP_iff l A
      cases hc : hasP l A with
      | false =>
        rw [hc] at hh hiff
        have hno : ¬ Mem l A := fun h => by cases hiff.mpr h
        refine ⟨_, _, hg _, turn_no _ _ _ _ _ _ a0 hh, r, _, rfl, .inr ⟨_, rfl⟩, w, by omega, fun e h x hx => by rw [hs e h]; have := he x hx; omega, fun e h m => ?_⟩
        rw [hs e h, hm m]
        constructor
        · rintro ⟨h1, h2⟩; exact ⟨h1, by omega⟩
        · rintro ⟨h1, h2⟩
          refine ⟨h1, ?_⟩
          by_cases hq : m < A
          · exact hq
          · exact absurd ((const m (by omega) h2).mp h1) hno
      | true =>
        rw [hc] at hh hiff
        have hyes : Mem l A := hiff.mp rfl
        suffices hfin : ∃ r', Fin2 L (E.map PyData.int) top (k : Nat) B (k + 1) l r r' by
          obtain ⟨r', w', c', h', m', e'⟩ := hfin
          exact ⟨_, _, hg _, e', r', _, rfl, .inr ⟨_, rfl⟩, w', c', fun e h x hx => by rw [hs e h]; exact h' x hx, fun e h => by rw [hs e h]; exact m'⟩
        have hfl : (prs r).length < 16777216 := by simp [prs]; omega
        have app : (∀ x ∈ r, x.2 + 1 < A) → (r = [] ∨ ∃ G a b, r = G ++ [(a, b)] ∧ b + 1 ≠ A) → ∃ r', Fin2 L (E.map PyData.int) top (k : Nat) B (k + 1) l r r' := fun hgap hn => ⟨r ++ [(A, B - 1)], can_snoc w (by show A ≤ B - 1; omega) hgap, (by simp; omega), (by
            intro x hx
            rcases List.mem_append.mp hx with hx | hx
            · have := he x hx; omega
            · simp only [List.mem_singleton] at hx
              subst hx
              show B - 1 < B
              omega), (by
            intro m
            rw [mem_app, mem_one, hm m]
            constructor
            · rintro (⟨h1, h2⟩ | ⟨h1, h2⟩)
              · exact ⟨h1, by omega⟩
              · have h1 : A ≤ m := h1
                have h2 : m ≤ B - 1 := h2
                exact ⟨(const m h1 (by omega)).mpr hyes, by omega⟩
            · rintro ⟨h1, h2⟩
              by_cases hq : m < A
              · exact .inl ⟨h1, hq⟩
              · exact .inr ⟨by show A ≤ m; omega, by show m ≤ B - 1; omega⟩), (by
            have e2 : prs (r ++ [(A, B - 1)]) = prs r ++ [.tuple [.int A, .int (B - 1)]] := by simp [prs, pr]
            rw [e2]
            refine turn_new _ _ _ _ _ _ _ a0 a1 hh hfl ?_
            rcases hn with rfl | ⟨G, a, b, rfl, hne⟩
            · exact .inl rfl
            · exact .inr ⟨prs G, a, b, by simp [prs, pr], hne⟩)⟩
        rcases List.eq_nil_or_concat r with rfl | ⟨G, ⟨a, b⟩, hG⟩
        · exact app (by simp) (.inl rfl)
        · rw [List.concat_eq_append] at hG
          subst hG
          have hb := he (a, b) (by simp)
          have hab := w.2 (a, b) (by simp)
          have hlast := can_last w
          by_cases hne : b + 1 = A
          · refine ⟨G ++ [(a, B - 1)], can_snoc (can_left w) (by show a ≤ B - 1; simp only at hab; omega) hlast, ?_, ?_, ?_, ?_⟩
            · simp at c ⊢; omega
            · intro x hx
              rcases List.mem_append.mp hx with hx | hx
              · have := he x (by simp [hx]); omega
              · simp only [List.mem_singleton] at hx
                subst hx
                show B - 1 < B
                omega
            · intro m
              have hm := hm m
              rw [mem_app, mem_one] at hm
              rw [mem_app, mem_one]
              simp only at hab hb hm ⊢
              constructor
              · rintro (h1 | ⟨h1, h2⟩)
                · have := hm.mp (.inl h1)
                  exact ⟨this.1, by omega⟩
                · by_cases hq : m < A
                  · have := hm.mp (.inr ⟨h1, by omega⟩)
                    exact ⟨this.1, by omega⟩
                  · exact ⟨(const m (by omega) (by omega)).mpr hyes, by omega⟩
              · rintro ⟨h1, h2⟩
                by_cases hq : m < A
                · rcases hm.mpr ⟨h1, hq⟩ with q | q
                  · exact .inl q
                  · exact .inr ⟨q.1, by omega⟩
                · exact .inr ⟨by omega, by omega⟩
            · have e2 : prs (G ++ [(a, b)]) = prs G ++ [.tuple [.int a, .int b]] := by simp [prs, pr]
              have e3 : prs (G ++ [(a, B - 1)]) = prs G ++ [.tuple [.int a, .int (B - 1)]] := by simp [prs, pr]
              rw [e2, e3]
              exact turn_join _ _ _ _ _ _ _ _ _ a0 a1 hh hne
          · refine app (fun x hx => ?_) (.inr ⟨G, a, b, rfl, hne⟩)
            rcases List.mem_append.mp hx with hx | hx
            · have := hlast x hx
              simp only at this hab hb
              omega
            · simp only [List.mem_singleton] at hx
              subst hx
              simp only at hb ⊢
              omega)
  refine ⟨r, x4, e, w, by omega, hm⟩
theorem union_ok2 (l : List (Int × Int)) (top : Int) (h0 : 0 ≤ top) (h1 : top < 1000000000) (hl : l.length ≤ 30) (hok : ∀ x ∈ l, okPair top x) :
    ∃ r : List (Int × Int), F_law_union [.list (prs l), .int top] = some (.tuple (prs r)) ∧ Can r ∧ r.length ≤ 64 ∧ ∀ m, Mem r m ↔ Mem l m := by
  have hb : ∀ e ∈ sortI (edges l top), 0 ≤ e ∧ e ≤ top + 1 := by
    intro e he
    rw [mem_sortI] at he
    simp only [edges, List.mem_append, List.mem_cons, List.not_mem_nil, or_false, List.mem_map] at he
    rcases he with ((rfl | rfl) | ⟨p, hp, rfl⟩) | ⟨p, hp, rfl⟩
    · omega
    · omega
    · obtain ⟨o1, o2, o3⟩ := hok p hp
      split <;> omega
    · obtain ⟨o1, o2, o3⟩ := hok p hp
      split <;> omega
  have hin : ∀ p ∈ l, p.1 ≤ p.2 ∧ p.1 ∈ sortI (edges l top) ∧ p.2 + 1 ∈ sortI (edges l top) := by
    intro p hp
    obtain ⟨o1, o2, o3⟩ := hok p hp
    refine ⟨o2, ?_, ?_⟩
    · rw [mem_sortI]
      simp only [edges, List.mem_append, List.mem_map]
      exact .inl (.inr ⟨p, hp, if_neg (by omega)⟩)
    · rw [mem_sortI]
      simp only [edges, List.mem_append, List.mem_map]
      exact .inr ⟨p, hp, if_neg (by omega)⟩
  have htop : top + 1 ∈ sortI (edges l top) := (mem_sortI _ _).mpr (by simp [edges])
  have hln : (edges l top).length = 2 + l.length + l.length := by simp [edges]; omega
  have hls := len_sortI (edges l top)
  have hne : 0 < (sortI (edges l top)).length := List.length_pos_of_mem ((mem_sortI 0 _).mpr (by simp [edges]))
  obtain ⟨r, x4, e, w, c, hm⟩ := union_loop2 (.list (prs l)) l rfl (by omega) top (sortI (edges l top)) (pw_sortI _) (by omega) (by
    rintro e he m ⟨p, hp, h2, h3⟩
    have hz : (0 : Int) ∈ sortI (edges l top) := (mem_sortI 0 _).mpr (by simp [edges])
    have o1 := (hok p hp).1
    obtain ⟨j, hj, hj0⟩ := List.getElem_of_mem hz
    have he' : (sortI (edges l top))[0] = e := by simpa [hne] using he
    rcases Nat.eq_zero_or_pos j with rfl | hjp
    · omega
    · have := List.pairwise_iff_getElem.mp (pw_sortI (edges l top)) 0 j hne hj hjp
      omega) hin
  have hfin : ∀ m, Mem r m ↔ Mem l m := by
    intro m
    have hlast : (sortI (edges l top))[(sortI (edges l top)).length - 1]? = some (top + 1) := by
      obtain ⟨j, hj, hj0⟩ := List.getElem_of_mem htop
      have hk : (sortI (edges l top)).length - 1 < (sortI (edges l top)).length := by omega
      rw [List.getElem?_eq_getElem hk]
      have b1 := hb _ (List.getElem_mem hk)
      rcases Nat.lt_or_ge j ((sortI (edges l top)).length - 1) with h | h
      · have := List.pairwise_iff_getElem.mp (pw_sortI (edges l top)) j _ hj hk h
        omega
      · have : j = (sortI (edges l top)).length - 1 := by omega
        subst this
        rw [hj0]
    rw [hm _ hlast m]
    constructor
    · exact fun h => h.1
    · intro h
      refine ⟨h, ?_⟩
      obtain ⟨p, hp, h2, h3⟩ := h
      have := (hok p hp).2.2
      omega
  refine ⟨r, ?_, w, c, hfin⟩
  clear hfin hm hin hb htop
  have g1 := comp_u1 l top hl
  have g2 := comp_u2 l top hl
  have g3 := dSortSet_ints (edges l top) (by omega)
  have g4 : (edges l top).map PyData.int = .int 0 :: .int (top + 1) :: (l.map (fun p => PyData.int (if top + 1 < p.1 then top + 1 else p.1)) ++ l.map (fun p => PyData.int (if top + 1 < p.2 + 1 then top + 1 else p.2 + 1))) := by
    simp only [edges, List.map_append, List.map_cons, List.map_nil, List.map_map, List.cons_append, List.nil_append]
    rfl
  rw [g4] at g3
  generalize sortI (edges l top) = E at *
  have g5 : in62 ((E.length : Int) - 1) = true := by simp only [in62, Bool.and_eq_true, decide_eq_true_eq]; omega
  have g6 : ((E.length : Int) - 1).toNat = E.length - 1 := by omega
  have m1 : (l.map (fun p => PyData.int (if top + 1 < p.1 then top + 1 else p.1))).length = l.length := by simp
  have m2 : (l.map (fun p => PyData.int (if top + 1 < p.2 + 1 then top + 1 else p.2 + 1))).length = l.length := by simp
  generalize l.map (fun p => PyData.int (if top + 1 < p.1 then top + 1 else p.1)) = M1 at *
  generalize l.map (fun p => PyData.int (if top + 1 < p.2 + 1 then top + 1 else p.2 + 1)) = M2 at *
  have s1 : 2 + M1.length ≤ 16777216 := by omega
  have s2 : M1.length + 1 + 1 + M2.length ≤ 16777216 := by omega
  simp only [F_law_union, B_law_union, defP]
  simp [g1, g2, g3, s1, s2, sFor, itR1, g5, g6, e]
end Pr_C
end
section
set_option Elab.async false
set_option linter.all false
set_option maxRecDepth 100000
namespace Pr_D
open PySem PG Pr_C
/-! what each def does, on data -/
def B_is_tuple : SF :=
  (sSeq (sRet (eAnd (eUn (dTyIs "tuple") (eName 0)) (eBin dEq (eCall (o1of dLen) (nCons (eName 0) nNil)) (eName 1))))
  sNil)
def F_is_tuple : List PyData → Option PyData := defP B_is_tuple 2 0
def B_law_bent (R : List PyData → List PyData → Option (PyData × List PyData)) : SF :=
  (sSeq (sIf (tAnd' (tTru (eUn (dIsi "tuple") (eName 1))) (tAnd' (tBl (eBin dGt (eCall (o1of dLen) (nCons (eName 1) nNil)) (eC (.int 0)))) (tBl (eBin dGt (eCallL F_law_draw 0 (nCons (eC (.int 3)) nNil)) (eC (.int 0))))))
  (sSeq (sSet 3 (eCallL F_law_draw 0 (nCons (eCall (o1of dLen) (nCons (eName 1) nNil)) nNil)))
  (sSeq (sRet (eBin dAdd (eBin dAdd (eSlT (eName 1) none (some (eName 3))) (eTup (nCons (eCallL R 0 (nCons (eBin dIx (eName 1) (eName 3)) nNil)) nNil))) (eSlT (eName 1) (some (eBin dAdd (eName 3) (eC (.int 1)))) none)))
  sNil))
  sNil)
  (sSeq (sSet 2 (eCallL F_law_draw 0 (nCons (eC (.int 9)) nNil)))
  (sSeq (sIf (tBl (eBin dEq (eName 2) (eC (.int 0))))
  (sSeq (sRet (eBin dIx (eTup (nCons (eC (.str (Str.ofString "x"))) (nCons (eC (.bool true)) (nCons (eTup nNil) (nCons (eC (.int 0)) (nCons (eUn dNeg (eC (.int 1))) (nCons (eC .none) (nCons (eC (.bool false)) (nCons (eLst (nDisp nNil)) nNil))))))))) (eCallL F_law_draw 0 (nCons (eC (.int 8)) nNil))))
  sNil)
  sNil)
  (sSeq (sIf (tTru (eCall F_law_is_integer (nCons (eName 1) nNil)))
  (sSeq (sRet (eBin dAdd (eName 1) (eBin dIx (eTup (nCons (eC (.int 1)) (nCons (eUn dNeg (eC (.int 1))) (nCons (eC (.int 2)) (nCons (eC (.int 0)) nNil))))) (eCallL F_law_draw 0 (nCons (eC (.int 4)) nNil)))))
  sNil)
  sNil)
  (sSeq (sIf (tTru (eUn (dIsi "str") (eName 1)))
  (sSeq (sRet (eBin dIx (eTup (nCons (eBin dAdd (eName 1) (eC (.str (Str.ofString "a")))) (nCons (eSlT (eName 1) (some (eC (.int 1))) none) (nCons (eBin dAdd (eName 1) (eC (.str (Str.ofString "A")))) (nCons (eBin dAdd (eName 1) (eC (.str (Str.ofString " ")))) (nCons (eSlT (eName 1) none (some (eC (.int 1)))) nNil)))))) (eCallL F_law_draw 0 (nCons (eC (.int 5)) nNil))))
  sNil)
  sNil)
  (sSeq (sIf (tOr' (tNot' (tTru (eUn (dIsi "tuple") (eName 1)))) (tBl (eBin dEq (eCall (o1of dLen) (nCons (eName 1) nNil)) (eC (.int 0)))))
  (sSeq (sRet (eIf (tBl (eBin dLt (eName 2) (eC (.int 5)))) (eTup (nCons (eName 1) (nCons (eC (.int 0)) nNil))) (eTup nNil)))
  sNil)
  sNil)
  (sSeq (sSet 3 (eCallL F_law_draw 0 (nCons (eCall (o1of dLen) (nCons (eName 1) nNil)) nNil)))
  (sSeq (sIf (tBl (eBin dLt (eName 2) (eC (.int 3))))
  (sSeq (sRet (eBin dAdd (eSlT (eName 1) none (some (eName 3))) (eSlT (eName 1) (some (eBin dAdd (eName 3) (eC (.int 1)))) none)))
  sNil)
  sNil)
  (sSeq (sIf (tBl (eBin dLt (eName 2) (eC (.int 5))))
  (sSeq (sRet (eBin dAdd (eBin dAdd (eSlT (eName 1) none (some (eName 3))) (eTup (nCons (eBin dIx (eName 1) (eName 3)) nNil))) (eSlT (eName 1) (some (eName 3)) none)))
  sNil)
  sNil)
  (sSeq (sIf (tBl (eBin dEq (eName 2) (eC (.int 5))))
  (sSeq (sRet (eLst (nCall (n1of dLstOf) (nCons (eName 1) nNil))))
  sNil)
  sNil)
  (sSeq (sSet 4 (eCallL F_law_draw 0 (nCons (eCall (o1of dLen) (nCons (eName 1) nNil)) nNil)))
  (sSeq (sSetL 5 (nCall (n1of dLstOf) (nCons (eName 1) nNil)))
  (sSeq (sSto 5 (eName 3) (eBin dIx (eName 1) (eName 4)))
  (sSeq (sSto 5 (eName 4) (eBin dIx (eName 1) (eName 3)))
  (sSeq (sRet (eUnL dTupOf 5))
  sNil)))))))))))))))
def F_law_bent : Nat → List PyData → List PyData → Option (PyData × List PyData)
  | 0 => fun _ _ => none
  | n + 1 => defL (B_law_bent (F_law_bent n)) 1 4
def X_law_booled_1 (R : List PyData → Option PyData) : EF :=
  (eCall R (nCons (eName 1) nNil))
def B_law_booled (R : List PyData → Option PyData) : SF :=
  (sSeq (sIf (tTru (eUn (dIsi "tuple") (eName 0)))
  (sSeq (sRet (eCall (o1of dTupOf) (nCons (eLst (nComp (itS (eName 0)) (gSet 1) tYesF (X_law_booled_1 R) [1])) nNil)))
  sNil)
  sNil)
  (sSeq (sRet (eIf (tAnd' (tTru (eCall F_law_is_integer (nCons (eName 0) nNil))) (tAnd' (tBl (eBin dLe (eC (.int 0)) (eName 0))) (tBl (eBin dLt (eName 0) (eC (.int 2)))))) (eBin dIx (eTup (nCons (eC (.bool false)) (nCons (eC (.bool true)) nNil))) (eName 0)) (eName 0)))
  sNil))
def F_law_booled : Nat → List PyData → Option PyData
  | 0 => fun _ => none
  | n + 1 => defP (B_law_booled (F_law_booled n)) 1 1
def B_is_number : SF :=
  (sSeq (sRet (eAnd (eUn (dTyIs "int") (eName 0)) (eChain dLe dLe (eName 1) (eName 0) (eName 2))))
  sNil)
def F_is_number : List PyData → Option PyData := defP B_is_number 3 0
def B_is_address : SF :=
  (sSeq (sRet (eCall F_is_number (nCons (eName 0) (nCons (eC (.int 0)) (nCons (eC (.int 65535)) nNil)))))
  sNil)
def F_is_address : List PyData → Option PyData := defP B_is_address 1 0
def B_law_is_number : SF :=
  (sSeq (sRet (eAnd (eCall F_law_is_integer (nCons (eName 0) nNil)) (eAnd (eBin dLe (eC (.int 0)) (eName 0)) (eBin dLe (eName 0) (eName 1)))))
  sNil)
def F_law_is_number : List PyData → Option PyData := defP B_law_is_number 2 0
end Pr_D
end
section
set_option Elab.async false
set_option linter.all false
set_option maxRecDepth 100000
namespace Pr_S
open PySem PG Pr_C
/-! what each def does, on data -/
def X_words_of_1 : EF :=
  (eBin dAdd (eBin dMul (eC (.int 256)) (eBin dIx (eName 1) (eName 2))) (eBin dIx (eName 1) (eBin dAdd (eName 2) (eC (.int 1)))))
def B_words_of : SF :=
  (sSeq (sSet 1 (eIf (tBl (eBin dEq (eBin dMod (eCall (o1of dLen) (nCons (eName 0) nNil)) (eC (.int 2))) (eC (.int 0)))) (eName 0) (eTup (nStar (eName 0) (nCons (eC (.int 0)) nNil)))))
  (sSeq (sRet (eLst (nComp (itR3 (nCons (eC (.int 0)) (nCons (eCall (o1of dLen) (nCons (eName 1) nNil)) (nCons (eC (.int 2)) nNil)))) (gSet 2) tYesF X_words_of_1 [2])))
  sNil))
def F_words_of : List PyData → Option PyData := defP B_words_of 1 2
def B_folded : SF :=
  (sSeq (sSet 1 (eCall (o1of dSum) (nCons (eName 0) nNil)))
  (sSeq (sIf (tBl (eBin dEq (eName 1) (eC (.int 0))))
  (sSeq (sRet (eC (.int 0)))
  sNil)
  sNil)
  (sSeq (sRet (eBin dAdd (eBin dMod (eBin dSub (eName 1) (eC (.int 1))) (eC (.int 65535))) (eC (.int 1))))
  sNil)))
def F_folded : List PyData → Option PyData := defP B_folded 1 1
def B_sum_of : SF :=
  (sSeq (sRet (eBin dSub (eC (.int 65535)) (eCall F_folded (nCons (eCall F_words_of (nCons (eName 0) nNil)) nNil))))
  sNil)
def F_sum_of : List PyData → Option PyData := defP B_sum_of 1 0
def X_law_fold_1 : TF :=
  (tBl (eBin dGt (eName 1) (eC (.int 65535))))
def X_law_fold_2 : SF :=
  (sSeq (sSet 1 (eBin dAdd (eBin dDiv (eName 1) (eC (.int 65536))) (eBin dMod (eCall (o1of dInt) (nCons (eName 1) nNil)) (eC (.int 65536)))))
  sNil)
def B_law_fold : SF :=
  (sSeq (sSet 1 (eCall (o1of dSum) (nCons (eName 0) nNil)))
  (sSeq (sWhile (fun _ => FUEL) X_law_fold_1
  X_law_fold_2)
  (sSeq (sRet (eName 1))
  sNil)))
def F_law_fold : List PyData → Option PyData := defP B_law_fold 1 1
def X_law_words_1 : EF :=
  (eBin dAdd (eBin dMul (eC (.int 256)) (eBin dIx (eName 1) (eBin dMul (eC (.int 2)) (eName 2)))) (eBin dIx (eName 1) (eBin dAdd (eBin dMul (eC (.int 2)) (eName 2)) (eC (.int 1)))))
def B_law_words : SF :=
  (sSeq (sSet 1 (eBin dAdd (eLst (nCall (n1of dLstOf) (nCons (eName 0) nNil))) (eBin dRep (eLst (nDisp (nCons (eC (.int 0)) nNil))) (eBin dMod (eCall (o1of dInt) (nCons (eCall (o1of dLen) (nCons (eName 0) nNil)) nNil)) (eC (.int 2))))))
  (sSeq (sRet (eLst (nComp (itR1 (nCons (eBin dDiv (eCall (o1of dLen) (nCons (eName 1) nNil)) (eC (.int 2))) nNil)) (gSet 2) tYesF X_law_words_1 [2])))
  sNil))
def F_law_words : List PyData → Option PyData := defP B_law_words 1 2
def B_law_check : SF :=
  (sSeq (sRet (eBin dSub (eC (.int 65535)) (eCall F_law_fold (nCons (eCall F_law_words (nCons (eName 0) nNil)) nNil))))
  sNil)
def F_law_check : List PyData → Option PyData := defP B_law_check 1 0
def B_law_two : SF :=
  (sSeq (sRet (eTup (nCons (eBin dDiv (eName 0) (eC (.int 256))) (nCons (eBin dMod (eCall (o1of dInt) (nCons (eName 0) nNil)) (eC (.int 256))) nNil))))
  sNil)
def F_law_two : List PyData → Option PyData := defP B_law_two 1 0
def X_law_row_1 : EF :=
  (eBin dIx (eTup (nCons (eCallL F_law_draw 0 (nCons (eC (.int 256)) nNil)) (nCons (eC (.int 0)) (nCons (eC (.int 255)) (nCons (eC (.int 1)) nNil))))) (eCallL F_law_draw 0 (nCons (eC (.int 4)) nNil)))
def B_law_row : SF :=
  (sSeq (sRet (eCall (o1of dTupOf) (nCons (eLst (nComp (itR1 (nCons (eName 1) nNil)) (gSet 2) tYesF X_law_row_1 [2])) nNil)))
  sNil)
def F_law_row : List PyData → List PyData → Option (PyData × List PyData) := defL B_law_row 1 1
end Pr_S
end
section
set_option linter.all false
set_option maxRecDepth 100000
set_option Elab.async false
namespace Pr_S
open PySem PG Pr_C
def fo (t : Int) : Int := if t = 0 then 0 else (t - 1) % 65535 + 1
theorem fo_small {t : Int} (h0 : 0 ≤ t) (h1 : t ≤ 65535) : fo t = t := by
  unfold fo; split <;> omega
theorem fo_step {t : Int} (h : 65535 < t) : fo (t / 65536 + t % 65536) = fo t := by
  unfold fo
  rw [if_neg (by omega), if_neg (by omega)]
  omega
theorem fo_cong {t u k : Int} (h0 : 0 < t) (h1 : 0 < u) (h : t = u + 65535 * k) : fo t = fo u := by
  unfold fo
  rw [if_neg (by omega), if_neg (by omega), h]
  omega
theorem fo_range {t : Int} (h0 : 0 < t) : 1 ≤ fo t ∧ fo t ≤ 65535 ∧ ∃ k, fo t = t + 65535 * k := by
  unfold fo
  rw [if_neg (by omega)]
  refine ⟨by omega, by omega, -((t - 1) / 65535), by omega⟩
def wds : List Int → List Int
  | a :: b :: r => (256 * a + b) :: wds r
  | [a] => [256 * a + 0]
  | [] => []
def pad (e : List Int) : List Int := if e.length % 2 = 0 then e else e ++ [0]
def wat (e : List Int) (k : Nat) : Int := 256 * e.getD (2 * k) 0 + e.getD (2 * k + 1) 0
theorem pad_two (a b : Int) (r : List Int) : pad (a :: b :: r) = a :: b :: pad r := by
  unfold pad
  by_cases h : r.length % 2 = 0
  · rw [if_pos h, if_pos (by simp only [List.length_cons]; omega)]
  · rw [if_neg h, if_neg (by simp only [List.length_cons]; omega)]
    rfl
theorem pad_even (e : List Int) : (pad e).length % 2 = 0 := by
  unfold pad
  split
  · assumption
  · simp; omega
theorem wds_range : ∀ e : List Int, (List.range ((pad e).length / 2)).map (wat (pad e)) = wds e
  | [] => rfl
  | [a] => by simp [pad, wds, wat, List.range, List.range.loop]
  | a :: b :: r => by
    have ih := wds_range r
    rw [pad_two]
    have h : (a :: b :: pad r).length / 2 = (pad r).length / 2 + 1 := by simp only [List.length_cons]; omega
    rw [h, List.range_succ_eq_map, List.map_cons, List.map_map]
    have h2 : (wat (a :: b :: pad r) ∘ Nat.succ) = wat (pad r) := by
      funext k
      simp [wat, Nat.mul_succ]
    rw [h2, ih]
    rfl
theorem wds_app : ∀ (l r : List Int), l.length % 2 = 0 → wds (l ++ r) = wds l ++ wds r
  | [], r, _ => rfl
  | [a], r, h => by simp at h
  | a :: b :: l, r, h => by
    have := wds_app l r (by simp only [List.length_cons] at h; omega)
    simp only [List.cons_append, wds, this]
theorem wds_nn : ∀ e : List Int, (∀ x ∈ e, 0 ≤ x ∧ x ≤ 255) → 0 ≤ (wds e).sum ∧ (wds e).sum ≤ 65535 * e.length ∧ e.sum ≤ (wds e).sum
  | [], _ => by simp [wds]
  | [a], h => by
    have := h a (by simp)
    simp [wds]; omega
  | a :: b :: r, h => by
    have h1 := h a (by simp)
    have h2 := h b (by simp)
    have h3 := wds_nn r fun x hx => h x (by simp [hx])
    simp only [wds, List.sum_cons, List.length_cons]
    omega
/-! ### the sums of the program -/
theorem stp_map (n : Nat) (f : PyData → PyData) : (stp 2 n).map f = (List.range n).map fun k => f (.int (0 + ((k : Nat) : Int) * 2)) := by simp [stp]
theorem getD_nat {E : List Int} {i : Nat} (h : i < E.length) : (IL E)[i]? = some (.int (E.getD i 0)) := by
  simp [IL, h]
theorem ix_tu (E : List Int) (i : Nat) (z : Int) (hz : z = i) (h : i < E.length) : dIx (.tuple (IL E)) (.int z) = some (.int (E.getD i 0)) := by
  subst hz
  show atD _ _ = _
  rw [atD_nat (by simpa using h)]
  simp [h]
theorem ix_li (E : List Int) (i : Nat) (z : Int) (hz : z = i) (h : i < E.length) : dIx (.list (IL E)) (.int z) = some (.int (E.getD i 0)) := by
  subst hz
  show atD _ _ = _
  rw [atD_nat (by simpa using h)]
  simp [h]
theorem wo_e (A E : PyData) (k x y : Int) (h1 : dIx E (.int k) = some (.int x)) (h2 : dIx E (.int (k + 1)) = some (.int y)) : X_words_of_1 [some (.v A), some (.v E), some (.v (.int k))] = some (.int (256 * x + y), [some (.v A), some (.v E), some (.v (.int k))]) := by
  simp [X_words_of_1, -dIx, h1, h2]
theorem lw_e (A E : PyData) (k x y : Int) (h1 : dIx E (.int (2 * k)) = some (.int x)) (h2 : dIx E (.int (2 * k + 1)) = some (.int y)) : X_law_words_1 [some (.v A), some (.v E), some (.v (.int k))] = some (.int (256 * x + y), [some (.v A), some (.v E), some (.v (.int k))]) := by
  simp [X_law_words_1, -dIx, h1, h2]
def mW (E : List Int) (c : Nat) : PyData → PyData
  | .int k => .int (wat E (k.toNat / c))
  | _ => .none
theorem wo_comp (A : PyData) (E : List Int) (n : Nat) (hE : E.length = 2 * n) (hn : n ≤ 1000) : compL (gSet 2) tYesF X_words_of_1 [2] (stp 2 n) [] [some (.v A), some (.v (.tuple (IL E))), none] = some (IL ((List.range n).map (wat E)), [some (.v A), some (.v (.tuple (IL E))), none]) := by
  have hc := compL_pure (g := gSet 2) (t := tYesF) (e := X_words_of_1) (vs := [2]) (ρ := [some (.v A), some (.v (.tuple (IL E))), none]) (fun _ => true) (mW E 2) (stp 2 n) [] (by simp [stp]; omega) (by
    intro d hd
    obtain ⟨k, hk, rfl⟩ := List.mem_map.mp hd
    have hk : k < n := by simpa using hk
    refine ⟨[some (.v A), some (.v (.tuple (IL E))), some (.v (.int (0 + ((k : Nat) : Int) * 2)))], by simp, by simp, fun _ => ?_, by simp [plainAt], by simp [wipeR]⟩
    rw [wo_e A _ _ _ _ (ix_tu E (2 * k) _ (by omega) (by omega)) (ix_tu E (2 * k + 1) _ (by omega) (by omega))]
    have : (0 + ((k : Nat) : Int) * 2).toNat / 2 = k := by omega
    simp only [mW, this, wat])
  rw [map_true, stp_map] at hc
  rw [hc]
  have : ∀ k : Nat, mW E 2 (.int (0 + ((k : Nat) : Int) * 2)) = .int (wat E k) := by
    intro k
    have : (0 + ((k : Nat) : Int) * 2).toNat / 2 = k := by omega
    simp only [mW, this]
  simp only [this, List.nil_append, IL, List.map_map]
  rfl
theorem lw_comp (A : PyData) (E : List Int) (n : Nat) (hE : E.length = 2 * n) (hn : n ≤ 1000) : compL (gSet 2) tYesF X_law_words_1 [2] (rng 0 n) [] [some (.v A), some (.v (.list (IL E))), none] = some (IL ((List.range n).map (wat E)), [some (.v A), some (.v (.list (IL E))), none]) := by
  have hc := compL_pure (g := gSet 2) (t := tYesF) (e := X_law_words_1) (vs := [2]) (ρ := [some (.v A), some (.v (.list (IL E))), none]) (fun _ => true) (mW E 1) (rng 0 n) [] (by simp [rng]; omega) (by
    intro d hd
    obtain ⟨k, hk, rfl⟩ := List.mem_map.mp hd
    have hk : k < n := by simpa using hk
    refine ⟨[some (.v A), some (.v (.list (IL E))), some (.v (.int (0 + ((k : Nat) : Int))))], by simp, by simp, fun _ => ?_, by simp [plainAt], by simp [wipeR]⟩
    rw [lw_e A _ _ _ _ (ix_li E (2 * k) _ (by omega) (by omega)) (ix_li E (2 * k + 1) _ (by omega) (by omega))]
    have : (0 + ((k : Nat) : Int)).toNat / 1 = k := by omega
    simp only [mW, this, wat])
  rw [map_true] at hc
  rw [hc]
  have : ∀ k : Nat, mW E 1 (.int (0 + ((k : Nat) : Int))) = .int (wat E k) := by
    intro k
    have : (0 + ((k : Nat) : Int)).toNat / 1 = k := by omega
    simp only [mW, this]
  simp only [rng, List.map_map, List.nil_append, IL, Function.comp_def, this]
/-- the rest of a def that sets 1 and hands back a comprehension over it -/
theorem two_gen (f : EF) (it : NF) (e : EF) (A E : PyData) (ds : List PyData) (out : List PyData) (hf : f [some (.v A), none, none] = some (E, [some (.v A), none, none])) (hi : it [some (.v A), some (.v E), none] = some (ds, [some (.v A), some (.v E), none]))
    (hc : compL (gSet 2) tYesF e [2] ds [] [some (.v A), some (.v E), none] = some (out, [some (.v A), some (.v E), none])) :
    defP (sSeq (sSet 1 f) (sSeq (sRet (eLst (nComp it (gSet 2) tYesF e [2]))) sNil)) 1 2 [A] = some (.list out) := by
  simp [-tYesF, defP, hf, nComp, hi, plainAt, wipeR, restR, hc]
theorem words_ok (e : List Int) (hl : e.length ≤ 2000) : F_words_of [.tuple (IL e)] = some (.list (IL (wds e))) := by
  have hp := pad_even e
  have hpl : (pad e).length ≤ e.length + 1 := by unfold pad; split <;> simp
  have hr : (((pad e).length : Int) + 1) / 2 = ((pad e).length / 2 : Nat) := by omega
  rw [← wds_range e]
  refine two_gen _ _ X_words_of_1 (.tuple (IL e)) (.tuple (IL (pad e))) (stp 2 ((pad e).length / 2)) _ ?_ ?_ (wo_comp _ (pad e) _ (by omega) (by omega))
  · by_cases h : e.length % 2 = 0
    · have h2 : ((e.length : Int) % 2 = 0) := by omega
      simp [pad, h, h2]
    · have h2 : ¬ ((e.length : Int) % 2 = 0) := by omega
      have h3 : e.length + 1 ≤ 16777216 := by omega
      simp [pad, h, h2, h3]
  · have h5 : (pad e).length ≤ 16777216 := by omega
    have h6 : (((pad e).length / 2 : Nat) : Int).toNat = (pad e).length / 2 := by omega
    simp only [IL, itR3, nCons, eC, eCall, eName, nNil, o1of, dLen, List.length_map, hr, h6, List.getElem?_cons_succ, List.getElem?_cons_zero]
    rw [if_pos ⟨trivial, trivial, by omega, by omega⟩]
theorem div2 (i : Int) : dDiv (.int i) (.int 2) = some (.int (i / 2)) := rfl
theorem mod2 (i : Int) : dMod (.int i) (.int 2) = some (.int (i % 2)) := rfl
theorem it_div (A : PyData) (E : List PyData) (n : Nat) (h : (E.length : Int) / 2 = (n : Nat)) (hn : n ≤ 1000000) : itR1 (nCons (eBin dDiv (eCall (o1of dLen) (nCons (eName 1) nNil)) (eC (.int 2))) nNil) [some (.v A), some (.v (.list E)), none] = some (rng 0 n, [some (.v A), some (.v (.list E)), none]) := by
  have h5 : in62 ((n : Nat) : Int) = true := by simp only [in62, Bool.and_eq_true, decide_eq_true_eq]; omega
  have e1 : dDiv (.int (E.length : Nat)) (.int 2) = some (.int (n : Nat)) := by
    rw [div2, h]
  simp [-dDiv, itR1, e1, h5]
theorem add_ll (xs ys : List PyData) (h : xs.length + ys.length ≤ 16777216) : dAdd (.list xs) (.list ys) = some (.list (xs ++ ys)) := if_pos h
theorem rep0 (x : PyData) : dRep (.list [x]) (.int 0) = some (.list []) := rfl
theorem rep1 (x : PyData) : dRep (.list [x]) (.int 1) = some (.list [x]) := rfl
theorem eBin_of {o : PyData → PyData → Option PyData} {f g : EF} {ρ ρ1 ρ2 : Rho} {x y z : PyData} (h1 : f ρ = some (x, ρ1)) (h2 : g ρ1 = some (y, ρ2)) (h3 : o x y = some z) : eBin o f g ρ = some (z, ρ2) := by
  simp only [eBin, h1, h2, h3]
theorem pe1 (ρ : Rho) : eLst (nDisp (nCons (eC (.int 0)) nNil)) ρ = some (.list [.int 0], ρ) := by simp
theorem pe2 (e : List PyData) (b : Int) (h2 : (e.length : Int) % 2 = b) : eBin dMod (eCall (o1of dInt) (nCons (eCall (o1of dLen) (nCons (eName 0) nNil)) nNil)) (eC (.int 2)) [some (.v (.tuple e)), none, none] = some (.int b, [some (.v (.tuple e)), none, none]) := by
  simp only [eBin, eC, eCall, nCons, eName, nNil, o1of, dLen, dInt, List.getElem?_cons_zero, mod2, h2]
theorem pe3 (e : List PyData) : eLst (nCall (n1of dLstOf) (nCons (eName 0) nNil)) [some (.v (.tuple e)), none, none] = some (.list e, [some (.v (.tuple e)), none, none]) := by
  simp only [eLst, nCall, n1of, dLstOf, nCons, eName, nNil, List.getElem?_cons_zero]
theorem pad_ev (e : List PyData) (hl : e.length ≤ 2000) (b : Int) (y : List PyData) (hy : y.length ≤ 1) (hr : dRep (.list [.int 0]) (.int b) = some (.list y)) (h2 : (e.length : Int) % 2 = b) :
    eBin dAdd (eLst (nCall (n1of dLstOf) (nCons (eName 0) nNil))) (eBin dRep (eLst (nDisp (nCons (eC (.int 0)) nNil))) (eBin dMod (eCall (o1of dInt) (nCons (eCall (o1of dLen) (nCons (eName 0) nNil)) nNil)) (eC (.int 2)))) [some (.v (.tuple e)), none, none] = some (.list (e ++ y), [some (.v (.tuple e)), none, none]) :=
  eBin_of (pe3 e) (eBin_of (pe1 _) (pe2 e b h2) hr) (add_ll e y (by omega))
theorem law_words_ok (e : List Int) (hl : e.length ≤ 2000) : F_law_words [.tuple (IL e)] = some (.list (IL (wds e))) := by
  have hp := pad_even e
  have hpl : (pad e).length ≤ e.length + 1 := by unfold pad; split <;> simp
  rw [← wds_range e]
  refine two_gen _ _ X_law_words_1 (.tuple (IL e)) (.list (IL (pad e))) (rng 0 ((pad e).length / 2)) _ ?_ ?_ (lw_comp _ (pad e) _ (by omega) (by omega))
  · by_cases h : e.length % 2 = 0
    · rw [pad_ev (IL e) (by simpa using hl) 0 [] (by simp) (rep0 _) (by simp; omega)]
      simp [pad, h]
    · rw [pad_ev (IL e) (by simpa using hl) 1 [.int 0] (by simp) (rep1 _) (by simp; omega)]
      simp [pad, h]
  · exact it_div _ (IL (pad e)) _ (by simp) (by omega)
/-! ### folding -/
theorem sum_li (w : List Int) : dSum (.list (IL w)) = some (.int w.sum) := by
  simp only [dSum, IL, intsOf_ints]
theorem sum_tu (w : List Int) : dSum (.tuple (IL w)) = some (.int w.sum) := by
  simp only [dSum, IL, intsOf_ints]
theorem folded_gen (d : PyData) (t : Int) (h : dSum d = some (.int t)) : F_folded [d] = some (.int (fo t)) := by
  by_cases c : t = 0
  · simp [F_folded, defP, B_folded, -dSum, h, fo, c]
  · simp [F_folded, defP, B_folded, -dSum, h, fo, c]
theorem ft_test (A : Option Cell) (t : Int) : X_law_fold_1 [A, some (.v (.int t))] = some (decide (65535 < t), [A, some (.v (.int t))]) := by
  simp [X_law_fold_1]
theorem ft_step (A : Option Cell) (t : Int) : X_law_fold_2 [A, some (.v (.int t))] = some (.next, [A, some (.v (.int (t / 65536 + t % 65536)))]) := by
  simp [X_law_fold_2]
theorem fold_stop (A : Option Cell) (n : Nat) (t : Int) (h0 : 0 ≤ t) (h1 : t ≤ 65535) : whl X_law_fold_1 X_law_fold_2 (n + 1) [A, some (.v (.int t))] = some (.next, [A, some (.v (.int (fo t)))]) := by
  unfold whl
  rw [ft_test, decide_eq_false (by omega), fo_small h0 h1]
theorem fold_go (A : Option Cell) (n : Nat) (t : Int) (h : 65535 < t) : whl X_law_fold_1 X_law_fold_2 (n + 1) [A, some (.v (.int t))] = whl X_law_fold_1 X_law_fold_2 n [A, some (.v (.int (t / 65536 + t % 65536)))] := by
  rw [whl.eq_2, ft_test, decide_eq_true h]
  simp only [ft_step]
theorem fold_loop (A : Option Cell) : ∀ (n : Nat) (t : Int), 0 ≤ t → t ≤ 65535 * (n + 1) → whl X_law_fold_1 X_law_fold_2 (n + 1) [A, some (.v (.int t))] = some (.next, [A, some (.v (.int (fo t)))])
  | 0, t, h0, h1 => fold_stop A 0 t h0 (by omega)
  | n + 1, t, h0, h1 => by
    by_cases h : 65535 < t
    · rw [fold_go A _ t h, fold_loop A n _ (by omega) (by omega), fo_step h]
    · exact fold_stop A _ t h0 (by omega)
theorem fold_big (A : Option Cell) (t : Int) (h0 : 0 ≤ t) (h1 : t ≤ 4611686018427387904) : whl X_law_fold_1 X_law_fold_2 (40000 + 3) [A, some (.v (.int t))] = some (.next, [A, some (.v (.int (fo t)))]) := by
  by_cases h : 65535 < t
  · have e1 := fold_go A (40000 + 2) t h
    rw [show 40000 + 3 = 40000 + 2 + 1 from rfl, e1, ← fo_step h]
    generalize hu : t / 65536 + t % 65536 = u
    have u0 : 0 ≤ u := by omega
    have u1 : u ≤ 70368744243200 := by omega
    by_cases g : 65535 < u
    · rw [fold_go A (40000 + 1) u g, ← fo_step g]
      exact fold_loop A 40000 _ (by omega) (by omega)
    · exact fold_stop A _ u u0 (by omega)
  · exact fold_stop A _ t h0 (by omega)
theorem fold_gen (S : PyData → Option PyData) (t : TF) (b : SF) (k : Nat) (d : PyData) (u v : Int) (hk : k ≤ FUEL) (hs : S d = some (.int u)) (h : whl t b k [some (.v d), some (.v (.int u))] = some (.next, [some (.v d), some (.v (.int v))])) :
    defP (sSeq (sSet 1 (eCall (o1of S) (nCons (eName 0) nNil))) (sSeq (sWhile (fun _ => FUEL) t b) (sSeq (sRet (eName 1)) sNil))) 1 1 [d] = some (.int v) := by
  have h2 := whl_mono k FUEL _ _ h hk
  generalize FUEL = N at *
  simp [defP, hs, sWhile, h2]
theorem law_fold_ok (w : List Int) (h0 : 0 ≤ w.sum) (h1 : w.sum ≤ 4611686018427387904) : F_law_fold [.list (IL w)] = some (.int (fo w.sum)) :=
  fold_gen dSum X_law_fold_1 X_law_fold_2 (40000 + 3) _ _ _ (by unfold FUEL; decide) (sum_li w) (fold_big _ _ h0 h1)
theorem folded_ok (w : List Int) : F_folded [.list (IL w)] = some (.int (fo w.sum)) := folded_gen _ _ (sum_li w)
theorem minus_gen (F W : List PyData → Option PyData) (d w : PyData) (t : Int) (hw : W [d] = some w) (hf : F [w] = some (.int t)) : defP (sSeq (sRet (eBin dSub (eC (.int 65535)) (eCall F (nCons (eCall W (nCons (eName 0) nNil)) nNil)))) sNil) 1 0 [d] = some (.int (65535 - t)) := by
  simp [defP, hw, hf]
def Row (e : List Int) : Prop := (∀ x ∈ e, 0 ≤ x ∧ x ≤ 255) ∧ e.length ≤ 2000
theorem row_sum {e : List Int} (h : Row e) : 0 ≤ (wds e).sum ∧ (wds e).sum ≤ 131070000 ∧ e.sum ≤ (wds e).sum := by
  obtain ⟨h1, h2, h3⟩ := wds_nn e h.1
  have := h.2
  exact ⟨h1, by omega, h3⟩
theorem sum_of_ok {e : List Int} (h : Row e) : F_sum_of [.tuple (IL e)] = some (.int (65535 - fo (wds e).sum)) :=
  minus_gen F_folded F_words_of _ _ _ (words_ok e h.2) (folded_ok _)
theorem law_check_ok {e : List Int} (h : Row e) : F_law_check [.tuple (IL e)] = some (.int (65535 - fo (wds e).sum)) :=
  minus_gen F_law_fold F_law_words _ _ _ (law_words_ok e h.2) (law_fold_ok _ (row_sum h).1 (by have := (row_sum h).2.1; omega))
theorem two_ok (n : Int) : F_law_two [.int n] = some (.tuple (IL [n / 256, n % 256])) := by
  simp [F_law_two, B_law_two, defP]
/-! ### drawn rows -/
theorem rowe_gen (A : List PyData → List PyData → Option (PyData × List PyData)) (pd p1 p2 : List PyData) (a v z : PyData) (x y : Option Cell) (e1 : A pd [.int 256] = some (a, p1)) (e2 : A p1 [.int 4] = some (v, p2)) (e3 : dIx (.tuple [a, .int 0, .int 255, .int 1]) v = some z) :
    eBin dIx (eTup (nCons (eCallL A 0 (nCons (eC (.int 256)) nNil)) (nCons (eC (.int 0)) (nCons (eC (.int 255)) (nCons (eC (.int 1)) nNil))))) (eCallL A 0 (nCons (eC (.int 4)) nNil)) [some (.l true pd), x, y] = some (z, [some (.l true p2), x, y]) := by
  simp [-dIx, e1, e2, e3]
theorem four_at {a v : Int} (ha : 0 ≤ a) (ha2 : a < 256) (h0 : 0 ≤ v) (h1 : v < 4) : ∃ z : Int, 0 ≤ z ∧ z ≤ 255 ∧ dIx (.tuple [.int a, .int 0, .int 255, .int 1]) (.int v) = some (.int z) := by
  rcases (show v = 0 ∨ v = 1 ∨ v = 2 ∨ v = 3 by omega) with rfl | rfl | rfl | rfl
  · exact ⟨a, ha, by omega, rfl⟩
  · exact ⟨0, by decide, by decide, rfl⟩
  · exact ⟨255, by decide, by decide, rfl⟩
  · exact ⟨1, by decide, by decide, rfl⟩
theorem row_comp (p : Pool) (hp : p.ok) (m : PyData) (n : Nat) (hn : n ≤ 1000) : ∃ (e : List Int) (p' : Pool), compL (gSet 2) tYesF X_law_row_1 [2] (rng 0 n) [] [some (.l true p.d), some (.v m), none] = some (IL e, [some (.l true p'.d), some (.v m), none]) ∧ p'.ok ∧ Row e ∧ e.length = n := by
  obtain ⟨out, ρ', e, ⟨p', l, hr, hp', ha, ho⟩, hl⟩ := compL_ind (g := gSet 2) (t := tYesF) (e := X_law_row_1) (vs := [2]) (P := fun ds acc ρ => ∃ (p : Pool) (l : List Int), ρ = [some (.l true p.d), some (.v m), none] ∧ p.ok ∧ acc = IL l ∧ (∀ x ∈ l, 0 ≤ x ∧ x ≤ 255))
    (rng 0 n) [] [some (.l true p.d), some (.v m), none] (by simp [rng_len]; omega) ⟨p, [], rfl, hp, rfl, by simp⟩ (by
    rintro d r acc ρ ⟨p, l, rfl, hp, rfl, ho⟩
    obtain ⟨a, p1, e1, k1, a0, a1⟩ := draw_ok p hp 256 (by decide) (by decide)
    obtain ⟨v, p2, e2, k2, v0, v1⟩ := draw_ok p1 k1 4 (by decide) (by decide)
    obtain ⟨z, z0, z1, e3⟩ := four_at a0 a1 v0 v1
    refine ⟨[some (.l true p.d), some (.v m), some (.v d)], [some (.l true p.d), some (.v m), some (.v d)], .int z, [some (.l true p2.d), some (.v m), some (.v d)], rfl, rfl, rowe_gen F_law_draw _ _ _ _ _ _ _ _ e1 e2 e3, rfl, p2, l ++ [z], rfl, k2, by simp [IL], ?_⟩
    intro x hx
    rcases List.mem_append.mp hx with hx | hx
    · exact ho x hx
    · simp only [List.mem_singleton] at hx
      subst hx
      exact ⟨z0, z1⟩)
  rw [hr] at e
  rw [ha] at e hl
  simp only [IL, List.length_map, List.length_nil, rng_len, Nat.zero_add] at hl
  exact ⟨l, p', e, hp', ⟨ho, by omega⟩, hl⟩
theorem row_gen (e : EF) (pd p2 : List PyData) (z : Int) (n : Nat) (out : List PyData) (hz : z.toNat = n) (hin : in62 z = true) (h : compL (gSet 2) tYesF e [2] (rng 0 n) [] [some (.l true pd), some (.v (.int z)), none] = some (out, [some (.l true p2), some (.v (.int z)), none])) :
    defL (sSeq (sRet (eCall (o1of dTupOf) (nCons (eLst (nComp (itR1 (nCons (eName 1) nNil)) (gSet 2) tYesF e [2])) nNil))) sNil) 1 1 pd [.int z] = some (.tuple out, p2) := by
  subst hz
  simp [-tYesF, defL, nComp, itR1, hin, plainAt, wipeR, restR, h]
theorem in62_ok {z : Int} (h0 : 0 ≤ z) (h1 : z ≤ 1000000) : in62 z = true := by simp only [in62, Bool.and_eq_true, decide_eq_true_eq]; omega
theorem law_row_ok (p : Pool) (hp : p.ok) (z : Int) (h0 : 0 ≤ z) (h1 : z ≤ 1000) : ∃ (e : List Int) (p' : Pool), F_law_row p.d [.int z] = some (.tuple (IL e), p'.d) ∧ p'.ok ∧ Row e ∧ e.length = z.toNat := by
  obtain ⟨e, p', h, hp', hr, hl⟩ := row_comp p hp (.int z) z.toNat (by omega)
  exact ⟨e, p', row_gen X_law_row_1 _ _ z _ _ rfl (in62_ok h0 (by omega)) h, hp', hr, hl⟩
/-! ### single statements -/
end Pr_S
end
section
set_option Elab.async false
set_option linter.all false
set_option maxRecDepth 100000
namespace Pr_P
open PySem PG Pr_C Pr_D Pr_S
/-! what each def does, on data -/
def B_head_bytes : SF :=
  (sSeq (sRet (eBin (dGetT [(6, 8), (17, 6), (1, 4)]) (eName 0) (eC (.int 0))))
  sNil)
def F_head_bytes : List PyData → Option PyData := defP B_head_bytes 1 0
def B_length_of : SF :=
  (sSeq (sPar [1, 2, 3] (nCons (eBin dIx (eName 0) (eC (.int 2))) (nCons (eBin dIx (eName 0) (eC (.int 4))) (nCons (eBin dIx (eName 0) (eC (.int 6))) nNil))))
  (sSeq (sRet (eBin dAdd (eBin dAdd (eBin dAdd (eC (.int 12)) (eCall (o1of dLen) (nCons (eName 2) nNil))) (eCall F_head_bytes (nCons (eName 1) nNil))) (eCall (o1of dLen) (nCons (eName 3) nNil))))
  sNil))
def F_length_of : List PyData → Option PyData := defP B_length_of 1 3
def B_law_inner_size : SF :=
  (sSeq (sRet (eIf (tBl (eBin dEq (eName 0) (eC (.int 6)))) (eC (.int 8)) (eIf (tBl (eBin dEq (eName 0) (eC (.int 17)))) (eC (.int 6)) (eIf (tBl (eBin dEq (eName 0) (eC (.int 1)))) (eC (.int 4)) (eC (.int 0))))))
  sNil)
def F_law_inner_size : List PyData → Option PyData := defP B_law_inner_size 1 0
def B_law_kind : SF :=
  (sSeq (sRet (eBin dIx (eTup (nCons (eC (.int 6)) (nCons (eC (.int 6)) (nCons (eC (.int 17)) (nCons (eC (.int 1)) (nCons (eCallL F_law_draw 0 (nCons (eC (.int 256)) nNil)) nNil)))))) (eCallL F_law_draw 0 (nCons (eC (.int 5)) nNil))))
  sNil)
def F_law_kind : List PyData → List PyData → Option (PyData × List PyData) := defL B_law_kind 0 0
def B_law_inner : SF :=
  (sSeq (sIf (tBl (eBin dEq (eName 1) (eC (.int 6))))
  (sSeq (sRet (eTup (nCons (eCallL F_law_number 0 (nCons (eC (.int 65535)) nNil)) (nCons (eCallL F_law_number 0 (nCons (eC (.int 65535)) nNil)) (nCons (eCallL F_law_draw 0 (nCons (eC (.int 8)) nNil)) nNil)))))
  sNil)
  sNil)
  (sSeq (sIf (tBl (eBin dEq (eName 1) (eC (.int 17))))
  (sSeq (sRet (eTup (nCons (eCallL F_law_number 0 (nCons (eC (.int 65535)) nNil)) (nCons (eCallL F_law_number 0 (nCons (eC (.int 65535)) nNil)) nNil))))
  sNil)
  sNil)
  (sSeq (sRet (eIf (tBl (eBin dEq (eName 1) (eC (.int 1)))) (eTup (nCons (eCallL F_law_draw 0 (nCons (eC (.int 256)) nNil)) (nCons (eCallL F_law_draw 0 (nCons (eC (.int 256)) nNil)) nNil))) (eTup nNil)))
  sNil)))
def F_law_inner : List PyData → List PyData → Option (PyData × List PyData) := defL B_law_inner 1 0
def B_law_packet : SF :=
  (sSeq (sSet 2 (eCallL F_law_kind 0 nNil))
  (sSeq (sSet 3 (eTup (nCons (eCallL F_law_number 0 (nCons (eC (.int 65535)) nNil)) (nCons (eCallL F_law_number 0 (nCons (eC (.int 65535)) nNil)) nNil))))
  (sSeq (sSet 4 (eCallL F_law_row 0 (nCons (eBin dMul (eC (.int 2)) (eCallL F_law_draw 0 (nCons (eC (.int 5)) nNil))) nNil)))
  (sSeq (sSet 5 (eCallL F_law_row 0 (nCons (eCallL F_law_draw 0 (nCons (eBin dAdd (eName 1) (eC (.int 1))) nNil)) nNil)))
  (sSeq (sRet (eBin dAdd (eName 3) (eTup (nCons (eName 2) (nCons (eBin dIx (eTup (nCons (eBin dAdd (eC (.int 1)) (eCallL F_law_draw 0 (nCons (eC (.int 255)) nNil))) (nCons (eC (.int 1)) (nCons (eC (.int 2)) (nCons (eC (.int 64)) nNil))))) (eCallL F_law_draw 0 (nCons (eC (.int 4)) nNil))) (nCons (eName 4) (nCons (eCallL F_law_inner 0 (nCons (eName 2) nNil)) (nCons (eName 5) nNil))))))))
  sNil)))))
def F_law_packet : List PyData → List PyData → Option (PyData × List PyData) := defL B_law_packet 1 4
def B_law_length : SF :=
  (sSeq (sRet (eBin dAdd (eBin dAdd (eBin dAdd (eC (.int 12)) (eCall (o1of dLen) (nCons (eBin dIx (eName 0) (eC (.int 4))) nNil))) (eCall F_law_inner_size (nCons (eBin dIx (eName 0) (eC (.int 2))) nNil))) (eCall (o1of dLen) (nCons (eBin dIx (eName 0) (eC (.int 6))) nNil))))
  sNil)
def F_law_length : List PyData → Option PyData := defP B_law_length 1 0
def X_law_is_row_1 : TF :=
  (tNot' (tTru (eCall F_law_is_number (nCons (eName 1) (nCons (eC (.int 255)) nNil)))))
def X_law_is_row_2 : EF :=
  (eName 1)
def B_law_is_row : SF :=
  (sSeq (sRet (eAnd (eUn (dIsi "tuple") (eName 0)) (eBin dEq (eCall (o1of dLen) (nCons (eLst (nComp (itS (eName 0)) (gSet 1) X_law_is_row_1 X_law_is_row_2 [1])) nNil)) (eC (.int 0)))))
  sNil)
def F_law_is_row : List PyData → Option PyData := defP B_law_is_row 1 1
def X_law_is_packet_1 : TF :=
  (tNot' (tTru (eCall F_law_is_number (nCons (eBin dIx (eBin dIx (eName 0) (eC (.int 5))) (eName 2)) (nCons (eBin dIx (eName 1) (eName 2)) nNil)))))
def X_law_is_packet_2 : EF :=
  (eName 2)
def B_law_is_packet : SF :=
  (sSeq (sIf (tOr' (tNot' (tTru (eUn (dIsi "tuple") (eName 0)))) (tOr' (tBl (eBin dNe (eCall (o1of dLen) (nCons (eName 0) nNil)) (eC (.int 7)))) (tOr' (tNot' (tTru (eCall F_law_is_number (nCons (eBin dIx (eName 0) (eC (.int 0))) (nCons (eC (.int 65535)) nNil))))) (tNot' (tTru (eCall F_law_is_number (nCons (eBin dIx (eName 0) (eC (.int 1))) (nCons (eC (.int 65535)) nNil))))))))
  (sSeq (sRet (eC (.bool false)))
  sNil)
  sNil)
  (sSeq (sIf (tOr' (tNot' (tTru (eCall F_law_is_number (nCons (eBin dIx (eName 0) (eC (.int 2))) (nCons (eC (.int 255)) nNil))))) (tOr' (tNot' (tTru (eCall F_law_is_number (nCons (eBin dIx (eName 0) (eC (.int 3))) (nCons (eC (.int 255)) nNil))))) (tBl (eBin dEq (eBin dIx (eName 0) (eC (.int 3))) (eC (.int 0))))))
  (sSeq (sRet (eC (.bool false)))
  sNil)
  sNil)
  (sSeq (sIf (tOr' (tNot' (tTru (eCall F_law_is_row (nCons (eBin dIx (eName 0) (eC (.int 4))) nNil)))) (tOr' (tBl (eBin dNotIn2 (eCall (o1of dLen) (nCons (eBin dIx (eName 0) (eC (.int 4))) nNil)) (eTup (nCons (eC (.int 0)) (nCons (eC (.int 2)) (nCons (eC (.int 4)) (nCons (eC (.int 6)) (nCons (eC (.int 8)) nNil)))))))) (tNot' (tTru (eCall F_law_is_row (nCons (eBin dIx (eName 0) (eC (.int 6))) nNil))))))
  (sSeq (sRet (eC (.bool false)))
  sNil)
  sNil)
  (sSeq (sSet 1 (eIf (tBl (eBin dEq (eBin dIx (eName 0) (eC (.int 2))) (eC (.int 6)))) (eTup (nCons (eC (.int 65535)) (nCons (eC (.int 65535)) (nCons (eC (.int 7)) nNil)))) (eIf (tBl (eBin dEq (eBin dIx (eName 0) (eC (.int 2))) (eC (.int 17)))) (eTup (nCons (eC (.int 65535)) (nCons (eC (.int 65535)) nNil))) (eIf (tBl (eBin dEq (eBin dIx (eName 0) (eC (.int 2))) (eC (.int 1)))) (eTup (nCons (eC (.int 255)) (nCons (eC (.int 255)) nNil))) (eTup nNil)))))
  (sSeq (sIf (tOr' (tNot' (tTru (eUn (dIsi "tuple") (eBin dIx (eName 0) (eC (.int 5)))))) (tBl (eBin dNe (eCall (o1of dLen) (nCons (eBin dIx (eName 0) (eC (.int 5))) nNil)) (eCall (o1of dLen) (nCons (eName 1) nNil)))))
  (sSeq (sRet (eC (.bool false)))
  sNil)
  sNil)
  (sSeq (sRet (eAnd (eBin dEq (eCall (o1of dLen) (nCons (eLst (nComp (itR1 (nCons (eCall (o1of dLen) (nCons (eName 1) nNil)) nNil)) (gSet 2) X_law_is_packet_1 X_law_is_packet_2 [2])) nNil)) (eC (.int 0))) (eBin dLe (eCall F_law_length (nCons (eName 0) nNil)) (eC (.int 1500)))))
  sNil))))))
def F_law_is_packet : List PyData → Option PyData := defP B_law_is_packet 1 2
def B_two : SF :=
  (sSeq (sRet (eTup (nCons (eBin dDiv (eName 0) (eC (.int 256))) (nCons (eBin dMod (eName 0) (eC (.int 256))) nNil))))
  sNil)
def F_two : List PyData → Option PyData := defP B_two 1 0
def B_inner_bytes : SF :=
  (sSeq (sIf (tBl (eBin dEq (eName 0) (eC (.int 6))))
  (sSeq (sRet (eTup (nStar (eCall F_two (nCons (eBin dIx (eName 1) (eC (.int 0))) nNil)) (nStar (eCall F_two (nCons (eBin dIx (eName 1) (eC (.int 1))) nNil)) (nCons (eBin dIx (eName 1) (eC (.int 2))) (nCons (eC (.int 0)) (nCons (eC (.int 0)) (nCons (eC (.int 0)) nNil))))))))
  sNil)
  sNil)
  (sSeq (sIf (tBl (eBin dEq (eName 0) (eC (.int 17))))
  (sSeq (sRet (eTup (nStar (eCall F_two (nCons (eBin dIx (eName 1) (eC (.int 0))) nNil)) (nStar (eCall F_two (nCons (eBin dIx (eName 1) (eC (.int 1))) nNil)) (nCons (eC (.int 0)) (nCons (eC (.int 0)) nNil))))))
  sNil)
  sNil)
  (sSeq (sIf (tBl (eBin dEq (eName 0) (eC (.int 1))))
  (sSeq (sRet (eTup (nStar (eName 1) (nCons (eC (.int 0)) (nCons (eC (.int 0)) nNil)))))
  sNil)
  sNil)
  (sSeq (sRet (eTup nNil))
  sNil))))
def F_inner_bytes : List PyData → Option PyData := defP B_inner_bytes 2 0
def B_inner_row : SF :=
  (sSeq (sRet (eTup (nStar (eCall F_two (nCons (eName 0) nNil)) (nStar (eCall F_two (nCons (eName 1) nNil)) (nStar (eCall F_two (nCons (eName 2) nNil)) (nStar (eCall F_two (nCons (eCall (o1of dLen) (nCons (eName 3) nNil)) nNil)) (nStar (eName 3) nNil)))))))
  sNil)
def F_inner_row : List PyData → Option PyData := defP B_inner_row 4 0
def B_write_packet : SF :=
  (sSeq (sAsg (eName 0) (gTupS [5, 6, 7, 8, 9, 10, 11]))
  (sSeq (sSet 1 (eTup (nCons (eBin dAdd (eC (.int 70)) (eBin dDiv (eCall (o1of dLen) (nCons (eName 9) nNil)) (eC (.int 2)))) (nCons (eName 7) (nStar (eCall F_two (nCons (eCall F_length_of (nCons (eName 0) nNil)) nNil)) (nCons (eName 8) (nCons (eC (.int 0)) nNil)))))))
  (sSeq (sSet 2 (eTup (nStar (eCall F_two (nCons (eName 5) nNil)) (nStar (eCall F_two (nCons (eName 6) nNil)) (nStar (eName 9) nNil)))))
  (sSeq (sSet 3 (eCall F_sum_of (nCons (eTup (nStar (eName 1) (nCons (eC (.int 0)) (nCons (eC (.int 0)) (nStar (eName 2) nNil))))) nNil)))
  (sSeq (sSet 4 (eTup (nStar (eCall F_inner_bytes (nCons (eName 7) (nCons (eName 10) nNil))) (nStar (eName 11) nNil))))
  (sSeq (sIf (tBl (eUn (dInT [(6, 6), (17, 4), (1, 2)]) (eName 7)))
  (sSeq (sSet 12 (eUn (dIxT [(6, 6), (17, 4), (1, 2)]) (eName 7)))
  (sSeq (sSet 13 (eCall F_sum_of (nCons (eCall F_inner_row (nCons (eName 5) (nCons (eName 6) (nCons (eName 7) (nCons (eName 4) nNil))))) nNil)))
  (sSeq (sSet 4 (eTup (nStar (eSlT (eName 4) none (some (eName 12))) (nStar (eCall F_two (nCons (eName 13) nNil)) (nStar (eSlT (eName 4) (some (eBin dAdd (eName 12) (eC (.int 2)))) none) nNil)))))
  sNil)))
  sNil)
  (sSeq (sRet (eTup (nStar (eName 1) (nStar (eCall F_two (nCons (eName 3) nNil)) (nStar (eName 2) (nStar (eName 4) nNil))))))
  sNil)))))))
def F_write_packet : List PyData → Option PyData := defP B_write_packet 1 13
def B_law_bytes : SF :=
  (sSeq (sSet 1 (eBin dAdd (eBin dAdd (eTup (nCons (eBin dAdd (eC (.int 70)) (eBin dDiv (eCall (o1of dLen) (nCons (eBin dIx (eName 0) (eC (.int 4))) nNil)) (eC (.int 2)))) (nCons (eBin dIx (eName 0) (eC (.int 2))) nNil))) (eCall F_law_two (nCons (eCall F_law_length (nCons (eName 0) nNil)) nNil))) (eTup (nCons (eBin dIx (eName 0) (eC (.int 3))) (nCons (eC (.int 0)) nNil)))))
  (sSeq (sSet 2 (eBin dAdd (eCall F_law_two (nCons (eBin dIx (eName 0) (eC (.int 0))) nNil)) (eCall F_law_two (nCons (eBin dIx (eName 0) (eC (.int 1))) nNil))))
  (sSeq (sSet 3 (eBin dAdd (eBin dAdd (eBin dAdd (eName 1) (eCall F_law_two (nCons (eCall F_law_check (nCons (eBin dAdd (eBin dAdd (eBin dAdd (eName 1) (eTup (nCons (eC (.int 0)) (nCons (eC (.int 0)) nNil)))) (eName 2)) (eBin dIx (eName 0) (eC (.int 4)))) nNil)) nNil))) (eName 2)) (eBin dIx (eName 0) (eC (.int 4)))))
  (sSeq (sSet 4 (eBin dIx (eName 0) (eC (.int 5))))
  (sSeq (sIf (tBl (eBin dEq (eBin dIx (eName 0) (eC (.int 2))) (eC (.int 6))))
  (sSeq (sSet 4 (eBin dAdd (eBin dAdd (eCall F_law_two (nCons (eBin dIx (eName 4) (eC (.int 0))) nNil)) (eCall F_law_two (nCons (eBin dIx (eName 4) (eC (.int 1))) nNil))) (eTup (nCons (eBin dIx (eName 4) (eC (.int 2))) (nCons (eC (.int 0)) nNil)))))
  sNil)
  sNil)
  (sSeq (sIf (tBl (eBin dEq (eBin dIx (eName 0) (eC (.int 2))) (eC (.int 17))))
  (sSeq (sSet 4 (eBin dAdd (eCall F_law_two (nCons (eBin dIx (eName 4) (eC (.int 0))) nNil)) (eCall F_law_two (nCons (eBin dIx (eName 4) (eC (.int 1))) nNil))))
  sNil)
  sNil)
  (sSeq (sIf (tBl (eBin dEq (eCall F_law_inner_size (nCons (eBin dIx (eName 0) (eC (.int 2))) nNil)) (eC (.int 0))))
  (sSeq (sRet (eBin dAdd (eName 3) (eBin dIx (eName 0) (eC (.int 6)))))
  sNil)
  sNil)
  (sSeq (sSet 5 (eBin dAdd (eBin dAdd (eName 4) (eTup (nCons (eC (.int 0)) (nCons (eC (.int 0)) nNil)))) (eBin dIx (eName 0) (eC (.int 6)))))
  (sSeq (sSet 6 (eCall F_law_check (nCons (eBin dAdd (eBin dAdd (eBin dAdd (eName 2) (eCall F_law_two (nCons (eBin dIx (eName 0) (eC (.int 2))) nNil))) (eCall F_law_two (nCons (eCall (o1of dLen) (nCons (eName 5) nNil)) nNil))) (eName 5)) nNil)))
  (sSeq (sRet (eBin dAdd (eBin dAdd (eBin dAdd (eName 3) (eName 4)) (eCall F_law_two (nCons (eName 6) nNil))) (eBin dIx (eName 0) (eC (.int 6)))))
  sNil))))))))))
def F_law_bytes : List PyData → Option PyData := defP B_law_bytes 1 6
def B_has_ports : SF :=
  (sSeq (sRet (eBin dIn2 (eName 0) (eTup (nCons (eC (.int 6)) (nCons (eC (.int 17)) nNil)))))
  sNil)
def F_has_ports : List PyData → Option PyData := defP B_has_ports 1 0
def B_least_length : SF :=
  (sSeq (sRet (eBin dAdd (eC (.int 12)) (eCall F_head_bytes (nCons (eName 0) nNil))))
  sNil)
def F_least_length : List PyData → Option PyData := defP B_least_length 1 0
def B_law_tops : SF :=
  (sSeq (sRet (eTup (nCons (eC (.int 1)) (nCons (eC (.int 255)) (nCons (eC (.int 65535)) (nCons (eC (.int 65535)) (nCons (eC (.int 65535)) (nCons (eC (.int 65535)) (nCons (eC (.int 7)) (nCons (eC (.int 65535)) (nCons (eC (.int 1500)) (nCons (eC (.int 6)) (nCons (eC (.int 1)) nNil)))))))))))))
  sNil)
def F_law_tops : List PyData → Option PyData := defP B_law_tops 0 0
def B_law_least : SF :=
  (sSeq (sRet (eBin dAdd (eC (.int 12)) (eCall F_law_inner_size (nCons (eName 0) nNil))))
  sNil)
def F_law_least : List PyData → Option PyData := defP B_law_least 1 0
def X_law_is_sight_1 : TF :=
  (tNot' (tTru (eCall F_law_is_number (nCons (eBin dIx (eName 0) (eName 2)) (nCons (eBin dIx (eCall F_law_tops nNil) (eName 2)) nNil)))))
def X_law_is_sight_2 : EF :=
  (eName 2)
def B_law_is_sight : SF :=
  (sSeq (sIf (tOr' (tNot' (tTru (eUn (dIsi "tuple") (eName 0)))) (tBl (eBin dNe (eCall (o1of dLen) (nCons (eName 0) nNil)) (eC (.int 9)))))
  (sSeq (sRet (eC (.bool false)))
  sNil)
  sNil)
  (sSeq (sIf (tOr' (tBl (eBin dGt (eCall (o1of dLen) (nCons (eLst (nComp (itR1 (nCons (eC (.int 9)) nNil)) (gSet 2) X_law_is_sight_1 X_law_is_sight_2 [2])) nNil)) (eC (.int 0)))) (tBl (eBin dEq (eBin dIx (eName 0) (eC (.int 2))) (eBin dIx (eName 0) (eC (.int 4))))))
  (sSeq (sRet (eC (.bool false)))
  sNil)
  sNil)
  (sSeq (sSet 1 (eBin dIx (eName 0) (eC (.int 1))))
  (sSeq (sIf (tOr' (tBl (eBin dLt (eBin dIx (eName 0) (eC (.int 8))) (eCall F_law_least (nCons (eName 1) nNil)))) (tAnd' (tBl (eBin dNotIn2 (eName 1) (eTup (nCons (eC (.int 6)) (nCons (eC (.int 17)) nNil))))) (tBl (eBin dGt (eBin dAdd (eBin dIx (eName 0) (eC (.int 3))) (eBin dIx (eName 0) (eC (.int 5)))) (eC (.int 0))))))
  (sSeq (sRet (eC (.bool false)))
  sNil)
  sNil)
  (sSeq (sRet (eAnd (eOr (eBin dEq (eName 1) (eC (.int 6))) (eBin dEq (eBin dIx (eName 0) (eC (.int 6))) (eC (.int 0)))) (eOr (eBin dEq (eName 1) (eC (.int 1))) (eBin dEq (eBin dIx (eName 0) (eC (.int 7))) (eC (.int 0))))))
  sNil)))))
def F_law_is_sight : List PyData → Option PyData := defP B_law_is_sight 1 2
def X_law_world_1 : TF :=
  (tBl (eBinO dIn2 (eName 3) 2))
def X_law_world_2 : SF :=
  (sSeq (sSet 3 (eBin dMod (eCall (o1of dInt) (nCons (eBin dAdd (eName 3) (eC (.int 1))) nNil)) (eC (.int 65536))))
  sNil)
def X_law_world_3 : TF :=
  (tBl (eBin dLt (eUnL dLen 2) (eC (.int 3))))
def X_law_world_4 : SF :=
  (sSeq (sSet 3 (eBin dIx (eTup (nCons (eBin dSub (eBin dAdd (eCallL F_law_number 0 (nCons (eC (.int 65535)) nNil)) (eUnL dLen 2)) (eC (.int 1))) (nCons (eBin dAdd (eName 1) (eUnL dLen 2)) nNil))) (eCallL F_law_draw 0 (nCons (eC (.int 2)) nNil))))
  (sSeq (sSet 3 (eBin dMod (eCall (o1of dInt) (nCons (eName 3) nNil)) (eC (.int 65536))))
  (sSeq (sWhile (fun _ => FUEL) X_law_world_1
  X_law_world_2)
  (sSeq (sApp 2 (eName 3))
  sNil))))
def B_law_world : SF :=
  (sSeq (sSet 1 (eCallL F_law_number 0 (nCons (eC (.int 65535)) nNil)))
  (sSeq (sSetL 2 (nDisp (nCons (eName 1) nNil)))
  (sSeq (sWhile (fun _ => FUEL) X_law_world_3
  X_law_world_4)
  (sSeq (sRet (eTup (nCons (eUnL dTupOf 2) (nCons (eTup (nCons (eCallL F_law_number 0 (nCons (eC (.int 65535)) nNil)) (nCons (eCallL F_law_number 0 (nCons (eC (.int 65535)) nNil)) nNil))) nNil))))
  sNil))))
def F_law_world : List PyData → List PyData → Option (PyData × List PyData) := defL B_law_world 0 3
def B_law_sight : SF :=
  (sSeq (sSet 3 (eBin dIx (eTup (nCons (eC (.int 6)) (nCons (eC (.int 6)) (nCons (eC (.int 6)) (nCons (eC (.int 17)) (nCons (eC (.int 17)) (nCons (eC (.int 1)) (nCons (eCallL F_law_draw 0 (nCons (eC (.int 256)) nNil)) nNil)))))))) (eCallL F_law_draw 0 (nCons (eC (.int 7)) nNil))))
  (sSeq (sSet 4 (eCallL F_law_draw 0 (nCons (eC (.int 3)) nNil)))
  (sSeq (sSet 5 (eBin dIx (eBin dIx (eName 1) (eC (.int 0))) (eName 4)))
  (sSeq (sSet 6 (eBin dIx (eBin dIx (eName 1) (eC (.int 0))) (eBin dMod (eCall (o1of dInt) (nCons (eBin dAdd (eBin dAdd (eName 4) (eC (.int 1))) (eCallL F_law_draw 0 (nCons (eC (.int 2)) nNil))) nNil)) (eC (.int 3)))))
  (sSeq (sSet 7 (eIf (tBl (eBin dIn2 (eName 3) (eTup (nCons (eC (.int 6)) (nCons (eC (.int 17)) nNil))))) (eTup (nCons (eBin dIx (eBin dIx (eName 1) (eC (.int 1))) (eCallL F_law_draw 0 (nCons (eC (.int 2)) nNil))) (nCons (eBin dIx (eBin dIx (eName 1) (eC (.int 1))) (eCallL F_law_draw 0 (nCons (eC (.int 2)) nNil))) nNil))) (eTup (nCons (eC (.int 0)) (nCons (eC (.int 0)) nNil)))))
  (sSeq (sSet 8 (eIf (tBl (eBin dEq (eName 3) (eC (.int 6)))) (eBin dIx (eTup (nCons (eC (.int 0)) (nCons (eC (.int 1)) (nCons (eC (.int 1)) (nCons (eC (.int 2)) (nCons (eC (.int 4)) (nCons (eCallL F_law_draw 0 (nCons (eC (.int 8)) nNil)) nNil))))))) (eCallL F_law_draw 0 (nCons (eC (.int 6)) nNil))) (eC (.int 0))))
  (sSeq (sSet 9 (eIf (tBl (eBin dEq (eName 3) (eC (.int 1)))) (eCallL F_law_draw 0 (nCons (eC (.int 65536)) nNil)) (eC (.int 0))))
  (sSeq (sSet 10 (eBin dAdd (eCall F_law_least (nCons (eName 3) nNil)) (eBin dIx (eTup (nCons (eC (.int 0)) (nCons (eC (.int 0)) (nCons (eC (.int 1)) (nCons (eCallL F_law_draw 0 (nCons (eBin dAdd (eName 2) (eC (.int 1))) nNil)) nNil))))) (eCallL F_law_draw 0 (nCons (eC (.int 4)) nNil)))))
  (sSeq (sRet (eTup (nCons (eCallL F_law_draw 0 (nCons (eC (.int 2)) nNil)) (nCons (eName 3) (nCons (eName 5) (nCons (eBin dIx (eName 7) (eC (.int 0))) (nCons (eName 6) (nCons (eBin dIx (eName 7) (eC (.int 1))) (nCons (eName 8) (nCons (eName 9) (nCons (eName 10) nNil)))))))))))
  sNil)))))))))
def F_law_sight : List PyData → List PyData → Option (PyData × List PyData) := defL B_law_sight 2 8
def B_sight_of : SF :=
  (sSeq (sAsg (eTup (nCons (eBin dIx (eName 1) (eC (.int 0))) (nCons (eBin dIx (eName 1) (eC (.int 1))) (nCons (eBin dIx (eName 1) (eC (.int 2))) (nCons (eBin dIx (eName 1) (eC (.int 5))) nNil))))) (gTupS [2, 3, 4, 5]))
  (sSeq (sAsg (eTup (nCons (eC (.int 0)) (nCons (eC (.int 0)) (nCons (eC (.int 0)) (nCons (eC (.int 0)) nNil))))) (gTupS [6, 7, 8, 9]))
  (sSeq (sIf (tTru (eCall F_has_ports (nCons (eName 4) nNil)))
  (sSeq (sAsg (eSlT (eName 5) none (some (eC (.int 2)))) (gTupS [6, 7]))
  sNil)
  sNil)
  (sSeq (sIf (tBl (eBin dEq (eName 4) (eC (.int 6))))
  (sSeq (sSet 8 (eBin dIx (eName 5) (eC (.int 2))))
  sNil)
  sNil)
  (sSeq (sIf (tBl (eBin dEq (eName 4) (eC (.int 1))))
  (sSeq (sSet 9 (eBin dAdd (eBin dMul (eC (.int 256)) (eBin dIx (eName 5) (eC (.int 0)))) (eBin dIx (eName 5) (eC (.int 1)))))
  sNil)
  sNil)
  (sSeq (sRet (eTup (nCons (eName 0) (nCons (eName 4) (nCons (eName 2) (nCons (eName 6) (nCons (eName 3) (nCons (eName 7) (nCons (eName 8) (nCons (eName 9) (nCons (eCall F_length_of (nCons (eName 1) nNil)) nNil)))))))))))
  sNil))))))
def F_sight_of : List PyData → Option PyData := defP B_sight_of 2 8
def B_packet_of : SF :=
  (sSeq (sAsg (eName 0) (gTupS [3, 4, 5, 6, 7, 8, 9, 10, 11]))
  (sSeq (sSet 1 (eTup nNil))
  (sSeq (sIf (tBl (eBin dEq (eName 4) (eC (.int 6))))
  (sSeq (sSet 1 (eTup (nCons (eName 6) (nCons (eName 8) (nCons (eName 9) nNil)))))
  sNil)
  sNil)
  (sSeq (sIf (tBl (eBin dEq (eName 4) (eC (.int 17))))
  (sSeq (sSet 1 (eTup (nCons (eName 6) (nCons (eName 8) nNil))))
  sNil)
  sNil)
  (sSeq (sIf (tBl (eBin dEq (eName 4) (eC (.int 1))))
  (sSeq (sSet 1 (eTup (nCons (eBin dDiv (eName 10) (eC (.int 256))) (nCons (eBin dMod (eName 10) (eC (.int 256))) nNil))))
  sNil)
  sNil)
  (sSeq (sSet 2 (eBin dRepT (eTup (nCons (eC (.int 0)) nNil)) (eBin dSub (eName 11) (eCall F_least_length (nCons (eName 4) nNil)))))
  (sSeq (sRet (eTup (nCons (eName 5) (nCons (eName 7) (nCons (eName 4) (nCons (eC (.int 64)) (nCons (eTup nNil) (nCons (eName 1) (nCons (eName 2) nNil)))))))))
  sNil)))))))
def F_packet_of : List PyData → Option PyData := defP B_packet_of 1 11
def B_law_seen : SF :=
  (sSeq (sSet 2 (eBin dIx (eName 1) (eC (.int 5))))
  (sSeq (sSet 3 (eIf (tBl (eBin dIn2 (eBin dIx (eName 1) (eC (.int 2))) (eTup (nCons (eC (.int 6)) (nCons (eC (.int 17)) nNil))))) (eSlT (eName 2) none (some (eC (.int 2)))) (eTup (nCons (eC (.int 0)) (nCons (eC (.int 0)) nNil)))))
  (sSeq (sSet 4 (eIf (tBl (eBin dEq (eBin dIx (eName 1) (eC (.int 2))) (eC (.int 6)))) (eBin dIx (eName 2) (eC (.int 2))) (eC (.int 0))))
  (sSeq (sSet 5 (eIf (tBl (eBin dEq (eBin dIx (eName 1) (eC (.int 2))) (eC (.int 1)))) (eBin dAdd (eBin dMul (eC (.int 256)) (eBin dIx (eName 2) (eC (.int 0)))) (eBin dIx (eName 2) (eC (.int 1)))) (eC (.int 0))))
  (sSeq (sRet (eTup (nCons (eName 0) (nCons (eBin dIx (eName 1) (eC (.int 2))) (nCons (eBin dIx (eName 1) (eC (.int 0))) (nCons (eBin dIx (eName 3) (eC (.int 0))) (nCons (eBin dIx (eName 1) (eC (.int 1))) (nCons (eBin dIx (eName 3) (eC (.int 1))) (nCons (eName 4) (nCons (eName 5) (nCons (eCall F_law_length (nCons (eName 1) nNil)) nNil)))))))))))
  sNil)))))
def F_law_seen : List PyData → Option PyData := defP B_law_seen 2 4
def B_law_plain_packet : SF :=
  (sSeq (sSet 1 (eBin dIx (eName 0) (eC (.int 1))))
  (sSeq (sSet 2 (eTup nNil))
  (sSeq (sIf (tBl (eBin dEq (eName 1) (eC (.int 6))))
  (sSeq (sSet 2 (eTup (nCons (eBin dIx (eName 0) (eC (.int 3))) (nCons (eBin dIx (eName 0) (eC (.int 5))) (nCons (eBin dIx (eName 0) (eC (.int 6))) nNil)))))
  sNil)
  sNil)
  (sSeq (sIf (tBl (eBin dEq (eName 1) (eC (.int 17))))
  (sSeq (sSet 2 (eTup (nCons (eBin dIx (eName 0) (eC (.int 3))) (nCons (eBin dIx (eName 0) (eC (.int 5))) nNil))))
  sNil)
  sNil)
  (sSeq (sIf (tBl (eBin dEq (eName 1) (eC (.int 1))))
  (sSeq (sSet 2 (eCall F_law_two (nCons (eBin dIx (eName 0) (eC (.int 7))) nNil)))
  sNil)
  sNil)
  (sSeq (sRet (eTup (nCons (eBin dIx (eName 0) (eC (.int 2))) (nCons (eBin dIx (eName 0) (eC (.int 4))) (nCons (eName 1) (nCons (eC (.int 64)) (nCons (eTup nNil) (nCons (eName 2) (nCons (eBin dRepT (eTup (nCons (eC (.int 0)) nNil)) (eBin dSub (eBin dIx (eName 0) (eC (.int 8))) (eCall F_law_least (nCons (eName 1) nNil)))) nNil)))))))))
  sNil))))))
def F_law_plain_packet : List PyData → Option PyData := defP B_law_plain_packet 1 2
end Pr_P
end
section
set_option linter.all false
set_option maxRecDepth 100000
set_option Elab.async false
namespace Pr_P
open PySem PG Pr_C Pr_D Pr_S
/-! ### equal data are the same -/
def sz : Nat → PyData → Bool
  | 0, _ => false
  | _ + 1, .int _ => true
  | _ + 1, .bool _ => true
  | _ + 1, .none => true
  | n + 1, .tuple xs => decide (xs.length < 16777216) && xs.all (sz n)
  | n + 1, .list xs => decide (xs.length < 16777216) && xs.all (sz n)
  | _ + 1, _ => false
theorem same_ok : ∀ (n : Nat) (d : PyData), sz n d = true → F_law_same n [d, d] = some (.bool true)
  | n + 1, .int i, _ => same_int n i
  | n + 1, .bool i, _ => same_bool n i
  | n + 1, .none, _ => same_none n
  | n + 1, .tuple xs, h => by
    simp only [sz, Bool.and_eq_true, decide_eq_true_eq, List.all_eq_true] at h
    exact same_tup n xs h.1 fun x hx => same_ok n x (h.2 x hx)
  | n + 1, .list xs, h => by
    simp only [sz, Bool.and_eq_true, decide_eq_true_eq, List.all_eq_true] at h
    exact same_list n xs h.1 fun x hx => same_ok n x (h.2 x hx)
theorem sz_int (n : Nat) (i : Int) : sz (n + 1) (.int i) = true := rfl
theorem sz_tup {n : Nat} {xs : List PyData} (h : xs.length < 16777216) (h2 : ∀ x ∈ xs, sz n x = true) : sz (n + 1) (.tuple xs) = true := by
  simp only [sz, Bool.and_eq_true, decide_eq_true_eq, List.all_eq_true]
  exact ⟨h, h2⟩
theorem sz_il {n : Nat} {e : List Int} (h : e.length < 16777216) : sz (n + 2) (.tuple (IL e)) = true :=
  sz_tup (by simpa using h) fun x hx => by
    obtain ⟨i, _, rfl⟩ := List.mem_map.mp hx
    rfl
/-! ### packets -/
inductive Inn where
  | st (a b f : Int)
  | ask (a b : Int)
  | note (t c : Int)
  | oth
def Inn.l : Inn → List Int
  | .st a b f => [a, b, f]
  | .ask a b => [a, b]
  | .note t c => [t, c]
  | .oth => []
def Inn.ok (k : Int) : Inn → Prop
  | .st a b f => k = 6 ∧ (0 ≤ a ∧ a ≤ 65535) ∧ (0 ≤ b ∧ b ≤ 65535) ∧ 0 ≤ f ∧ f ≤ 7
  | .ask a b => k = 17 ∧ (0 ≤ a ∧ a ≤ 65535) ∧ 0 ≤ b ∧ b ≤ 65535
  | .note t c => k = 1 ∧ (0 ≤ t ∧ t ≤ 255) ∧ 0 ≤ c ∧ c ≤ 255
  | .oth => k ≠ 6 ∧ k ≠ 17 ∧ k ≠ 1
structure Pk where
  s : Int
  d : Int
  k : Int
  t : Int
  o : List Int
  i : Inn
  p : List Int
def Pk.v (p : Pk) : PyData := .tuple [.int p.s, .int p.d, .int p.k, .int p.t, .tuple (IL p.o), .tuple (IL p.i.l), .tuple (IL p.p)]
structure Pk.Ok (p : Pk) : Prop where
  s : 0 ≤ p.s ∧ p.s ≤ 65535
  d : 0 ≤ p.d ∧ p.d ≤ 65535
  k : 0 ≤ p.k ∧ p.k ≤ 255
  t : 1 ≤ p.t ∧ p.t ≤ 255
  o : (∀ x ∈ p.o, 0 ≤ x ∧ x ≤ 255) ∧ p.o.length ≤ 8 ∧ p.o.length % 2 = 0
  i : p.i.ok p.k
  p : (∀ x ∈ p.p, 0 ≤ x ∧ x ≤ 255) ∧ p.p.length ≤ 1500
def isz (k : Int) : Int := if k = 6 then 8 else if k = 17 then 6 else if k = 1 then 4 else 0
def Pk.len (p : Pk) : Int := 12 + p.o.length + isz p.k + p.p.length
theorem isz_bd (k : Int) : 0 ≤ isz k ∧ isz k ≤ 8 := by unfold isz; split <;> (try split) <;> (try split) <;> omega
theorem head_ok (k : Int) : F_head_bytes [.int k] = some (.int (isz k)) := by
  by_cases h1 : k = 6
  · subst h1; rfl
  by_cases h2 : k = 17
  · subst h2; rfl
  by_cases h3 : k = 1
  · subst h3; rfl
  have e1 : ¬ 6 = k := fun h => h1 h.symm
  have e2 : ¬ 17 = k := fun h => h2 h.symm
  have e3 : ¬ 1 = k := fun h => h3 h.symm
  simp [F_head_bytes, B_head_bytes, defP, getI, isz, h1, h2, h3, e1, e2, e3]
theorem isize_ok (k : Int) : F_law_inner_size [.int k] = some (.int (isz k)) := by
  by_cases h1 : k = 6
  · subst h1; rfl
  by_cases h2 : k = 17
  · subst h2; rfl
  by_cases h3 : k = 1
  · subst h3; rfl
  simp [F_law_inner_size, B_law_inner_size, defP, dEq, isz, h1, h2, h3]
theorem length_ok (a b t x : PyData) (k : Int) (o p : List PyData) : F_length_of [.tuple [a, b, .int k, t, .tuple o, x, .tuple p]] = some (.int (12 + o.length + isz k + p.length)) := by
  simp [F_length_of, B_length_of, defP, atD, ixOf, head_ok]
theorem law_length_ok (a b t x : PyData) (k : Int) (o p : List PyData) : F_law_length [.tuple [a, b, .int k, t, .tuple o, x, .tuple p]] = some (.int (12 + o.length + isz k + p.length)) := by
  simp [F_law_length, B_law_length, defP, atD, ixOf, isize_ok]
theorem integer_ok (i : Int) : F_law_is_integer [.int i] = some (.bool true) := by
  rfl
theorem number_is (i top : Int) : F_law_is_number [.int i, .int top] = some (.bool (decide (0 ≤ i) && decide (i ≤ top))) := by
  by_cases h : 0 ≤ i <;> simp [F_law_is_number, B_law_is_number, defP, integer_ok, h]

local macro_rules | `(tactic| array_get_dec) => `(tactic| first | ((with_reducible apply PG.ws_set)) | ((with_reducible apply PG.ws_if)) | ((with_reducible apply PG.ws_ret)) | ((with_reducible apply PG.ws_setL)) | ((with_reducible apply PG.ws_expr)) | ((with_reducible apply PG.ws_nilc)) | ((with_reducible apply PG.ws_asc)) | ((with_reducible apply PG.ws_nil)) | ((with_reducible apply PG.ws_for)) | ((with_reducible apply PG.ws_asg)) | ((with_reducible apply PG.ws_par)) | ((with_reducible apply PG.ws_retL)) | ((with_reducible apply PG.ws_brk)) | ((with_reducible apply PG.ws_cont)) | ((with_reducible apply PG.ws_forn)) | ((with_reducible apply PG.ws_sto)) | ((with_reducible apply PG.ws_aug); (case hget => rfl)) | ((with_reducible apply PG.ws_app); (case hget => rfl)) | ((with_reducible apply PG.ws_retO); (case hget => rfl)) | ((with_reducible apply PG.we_name); (case hget => rfl)) | ((with_reducible apply PG.we_c)) | ((with_reducible apply PG.we_bin)) | ((with_reducible apply PG.we_un)) | ((with_reducible apply PG.we_call)) | ((with_reducible apply PG.we_callL); (case hget => rfl)) | ((with_reducible apply PG.we_tup)) | ((with_reducible apply PG.we_lst)) | ((with_reducible apply PG.we_if)) | ((with_reducible apply PG.we_ixL); (case hget => rfl)) | ((with_reducible apply PG.we_unL); (case hget => rfl)) | ((with_reducible apply PG.we_and)) | ((with_reducible apply PG.we_or)) | ((with_reducible apply PG.we_not)) | ((with_reducible apply PG.we_chain)) | ((with_reducible apply PG.we_slT)) | ((with_reducible apply PG.wn_cons)) | ((with_reducible apply PG.wn_nil)) | ((with_reducible apply PG.wn_star)) | ((with_reducible apply PG.wn_disp)) | ((with_reducible apply PG.wn_call)) | ((with_reducible apply PG.wn_sl)) | ((with_reducible apply PG.wn_its)) | ((with_reducible apply PG.wn_r1)) | ((with_reducible apply PG.wn_r2)) | ((with_reducible apply PG.wn_r3)) | ((with_reducible apply PG.wt_tru)) | ((with_reducible apply PG.wt_bl)) | ((with_reducible apply PG.wt_and)) | ((with_reducible apply PG.wt_or)) | ((with_reducible apply PG.wt_not)) | ((with_reducible apply PG.wt_yes)) | ((with_reducible apply PG.wt_truL); (case hget => rfl)) | ((with_reducible apply PG.wo_none)) | ((with_reducible apply PG.wo_some)) | ((with_reducible apply PG.wg_p0)) | ((with_reducible apply PG.wg_tup)) | ((with_reducible apply PG.wg_ps); (case hset => (repeat' (first | exact PG.SetR.h0 | exact PG.SetR.h1 | exact PG.SetR.hl | exact PG.SetR.hc (by assumption) | apply PG.SetR.s)))) | ((with_reducible apply PG.wg_set); (case hset => (repeat' (first | exact PG.SetR.h0 | exact PG.SetR.h1 | exact PG.SetR.hl | exact PG.SetR.hc (by assumption) | apply PG.SetR.s)))) | ((with_reducible apply PG.we_frz); (case hget => rfl); (case hset => (repeat' (first | exact PG.SetR.h0 | exact PG.SetR.h1 | exact PG.SetR.hl | exact PG.SetR.hc (by assumption) | apply PG.SetR.s)))) | ((with_reducible apply PG.setr_i); (case hset => (repeat' (first | exact PG.SetR.h0 | exact PG.SetR.h1 | exact PG.SetR.hl | exact PG.SetR.hc (by assumption) | apply PG.SetR.s)))) | ((with_reducible apply PG.setl_i); (case hset => (repeat' (first | exact PG.SetLR.h0 | exact PG.SetLR.h1 | exact PG.SetLR.hl | apply PG.SetLR.s)))) | ((with_reducible apply PG.put_i); (case hset => (repeat' (first | exact PG.PutR.h | apply PG.PutR.s)))) | ((with_reducible apply PG.pool_i); (case hget => rfl)) | ((with_reducible apply PG.bool_i)) | ((with_reducible apply PG.int_i)) | ((with_reducible apply PG.seqL_i)) | ((with_reducible apply PG.seqT_i)) | ((with_reducible apply PG.seqR_i)) | ((with_reducible apply PG.starT_i)) | ((with_reducible apply PG.starL_i)) | ((with_reducible apply PG.len_i); (case h => rfl)) | ((with_reducible apply PG.tup_i)) | ((with_reducible apply PG.yes_i)) | ((with_reducible apply PG.no_i)) | ((with_reducible apply PG.nyes_i)) | ((with_reducible apply PG.nno_i)) | ((with_reducible apply PG.wa_add)) | ((with_reducible apply PG.wa_sub)) | ((with_reducible apply PG.wa_lt)) | ((with_reducible apply PG.wa_le)) | ((with_reducible apply PG.wa_gt)) | ((with_reducible apply PG.wa_ge)) | ((with_reducible apply PG.wa_eqI)) | ((with_reducible apply PG.wa_neI)) | ((with_reducible apply PG.wa_neg)) | ((with_reducible apply PG.wa_lenL)) | ((with_reducible apply PG.wa_lenT)) | ((with_reducible apply PG.wa_int)) | ((with_reducible apply PG.wa_max)) | ((with_reducible apply PG.wa_min)) | ((with_reducible apply PG.wb_bool)) | ((with_reducible apply PG.wb_int)) | ((with_reducible apply PG.endP_ret)) | ((with_reducible apply PG.endP_retL)) | ((with_reducible apply PG.endN_ret)) | ((with_reducible apply PG.endL_ret)) | ((with_reducible apply PG.endL_retL)) | ((with_reducible apply PG.wa_binO)) | ((with_reducible apply PG.ch_le)) | ((with_reducible apply PG.ch_lt)) | ((with_reducible apply PG.ch_eq)) | ((with_reducible apply PG.wa_ix0); (case hget => rfl)) | ((with_reducible apply PG.wa_ix1); (case hget => rfl)) | ((with_reducible apply PG.wa_ix2); (case hget => rfl)) | ((with_reducible apply PG.wa_ix3); (case hget => rfl)) | ((with_reducible apply PG.wa_ix4); (case hget => rfl)) | ((with_reducible apply PG.wa_ix5); (case hget => rfl)) | ((with_reducible apply PG.wa_ix6); (case hget => rfl)) | ((with_reducible apply PG.wa_ix7); (case hget => rfl)) | ((with_reducible apply PG.wa_ix8); (case hget => rfl)) | ((with_reducible apply PG.wa_il0); (case hget => rfl)) | ((with_reducible apply PG.wa_il1); (case hget => rfl)) | ((with_reducible apply PG.wa_il2); (case hget => rfl)) | ((with_reducible apply PG.wa_ev1)) | ((with_reducible apply PG.wa_ev)) | ((with_reducible apply PG.wl_ev)) | ((with_reducible apply PG.wb_ev)) | ((with_reducible apply PG.wa_mod); (case h1 => omega)) | ((with_reducible apply PG.wa_div); (case h1 => omega); (case h2 => omega)) | ((with_reducible apply PG.wa_mulR); (case h1 => omega); (case h2 => omega)) | ((with_reducible apply PG.wa_mulL); (case h1 => omega); (case h2 => omega)) | ((with_reducible apply PG.wa_shr); (case h1 => omega)))
local macro_rules | `(tactic| array_get_dec) => `(tactic| first | ((with_reducible apply Pr_C.wp_draw); (case hp => assumption); (case h0 => omega); (case h1 => omega)) | ((with_reducible apply Pr_C.ls_i); (case hp => assumption)))

theorem wp_number {p : Pool} {top : Int} {Q : PyData → List PyData → Prop} (hp : p.ok) (h0 : 0 ≤ top) (h1 : top < 1000000000) (q : ∀ (v : Int) (p' : Pool), p'.ok → 0 ≤ v → v ≤ top → Q (.int v) p'.d) : WP (F_law_number p.d [.int top]) Q := by
  obtain ⟨v, p', e, k, a, b⟩ := number_ok p hp top h0 h1
  exact ⟨_, _, e, q v p' k a b⟩
theorem wp_row {p : Pool} {z : Int} {Q : PyData → List PyData → Prop} (hp : p.ok) (h0 : 0 ≤ z) (h1 : z ≤ 1000) (q : ∀ (e : List Int) (p' : Pool), p'.ok → Row e → e.length = z.toNat → Q (.tuple (IL e)) p'.d) : WP (F_law_row p.d [.int z]) Q := by
  obtain ⟨e, p', h, k, a, b⟩ := law_row_ok p hp z h0 h1
  exact ⟨_, _, h, q e p' k a b⟩
local macro_rules | `(tactic| array_get_dec) => `(tactic| first | ((with_reducible apply Pr_P.wp_number); (case hp => assumption); (case h0 => omega); (case h1 => omega)) | ((with_reducible apply Pr_P.wp_row); (case hp => assumption); (case h0 => omega); (case h1 => omega)))

theorem kind_ls : LS F_law_kind [] fun d => ∃ k, d = .int k ∧ 0 ≤ k ∧ k ≤ 255 := by
  intro p hp
  unfold F_law_kind; refine PG.wp_def rfl ?_; simp only [PG.rhoL_eq, List.map_cons, List.map_nil, List.replicate_succ, List.replicate_zero, List.cons_append, List.nil_append]; unfold B_law_kind
  (repeat array_get_dec); intro v1 p1 k1 a1 b1; (repeat array_get_dec); intro v2 p2 k2 a2 b2; (repeat array_get_dec)
  refine wa_pickI [6, 6, 17, 1, v1] (fun k => 0 ≤ k ∧ k ≤ 255) a2 b2 (by simp; omega) ?_
  intro k hk; (repeat array_get_dec)
  exact hk
theorem wp_kind {p : Pool} {Q : PyData → List PyData → Prop} (hp : p.ok) (q : ∀ (k : Int) (p' : Pool), p'.ok → 0 ≤ k → k ≤ 255 → Q (.int k) p'.d) : WP (F_law_kind p.d []) Q :=
  wp_ls kind_ls hp fun z p' hp' ⟨k, e, a, b⟩ => by subst e; exact q k p' hp' a b
theorem inner_ls (k : Int) : LS F_law_inner [.int k] fun d => ∃ i : Inn, d = .tuple (IL i.l) ∧ i.ok k := by
  intro p hp
  unfold F_law_inner; refine PG.wp_def rfl ?_; simp only [PG.rhoL_eq, List.map_cons, List.map_nil, List.replicate_succ, List.replicate_zero, List.cons_append, List.nil_append]; unfold B_law_inner
  (repeat array_get_dec)
  (first | (with_reducible apply PG.dec_i) | (with_reducible apply PG.decn_i) | (with_reducible apply PG.bit_i)) <;> intro h
  · (repeat array_get_dec); intro v1 p1 k1 a1 b1; (repeat array_get_dec); intro v2 p2 k2 a2 b2; (repeat array_get_dec); intro v3 p3 k3 a3 b3; (repeat array_get_dec)
    exact ⟨.st v1 v2 v3, rfl, h, ⟨a1, b1⟩, ⟨a2, b2⟩, a3, by omega⟩
  (repeat array_get_dec)
  (first | (with_reducible apply PG.dec_i) | (with_reducible apply PG.decn_i) | (with_reducible apply PG.bit_i)) <;> intro h2
  · (repeat array_get_dec); intro v1 p1 k1 a1 b1; (repeat array_get_dec); intro v2 p2 k2 a2 b2; (repeat array_get_dec)
    exact ⟨.ask v1 v2, rfl, h2, ⟨a1, b1⟩, a2, b2⟩
  (repeat array_get_dec)
  (first | (with_reducible apply PG.dec_i) | (with_reducible apply PG.decn_i) | (with_reducible apply PG.bit_i)) <;> intro h3
  · (repeat array_get_dec); intro v1 p1 k1 a1 b1; (repeat array_get_dec); intro v2 p2 k2 a2 b2; (repeat array_get_dec)
    exact ⟨.note v1 v2, rfl, h3, ⟨a1, by omega⟩, a2, by omega⟩
  · (repeat array_get_dec)
    exact ⟨.oth, rfl, h, h2, h3⟩
theorem wp_inner {p : Pool} {k : Int} {Q : PyData → List PyData → Prop} (hp : p.ok) (q : ∀ (i : Inn) (p' : Pool), p'.ok → i.ok k → Q (.tuple (IL i.l)) p'.d) : WP (F_law_inner p.d [.int k]) Q :=
  wp_ls (inner_ls k) hp fun z p' hp' ⟨i, e, a⟩ => by subst e; exact q i p' hp' a
local macro_rules | `(tactic| array_get_dec) => `(tactic| first | ((with_reducible apply Pr_P.wp_kind); (case hp => assumption)) | ((with_reducible apply Pr_P.wp_inner); (case hp => assumption)))

theorem packet_ls (most : Int) (h0 : 0 ≤ most) (h1 : most ≤ 900) : LS F_law_packet [.int most] fun d => ∃ k : Pk, d = k.v ∧ k.Ok ∧ (k.p.length : Int) ≤ most := by
  intro p hp
  unfold F_law_packet; refine PG.wp_def rfl ?_; simp only [PG.rhoL_eq, List.map_cons, List.map_nil, List.replicate_succ, List.replicate_zero, List.cons_append, List.nil_append]; unfold B_law_packet
  (repeat array_get_dec); intro k p1 k1 ka kb; (repeat array_get_dec); intro v2 p2 k2 a2 b2; (repeat array_get_dec); intro v3 p3 k3 a3 b3; (repeat array_get_dec)
  intro v4 p4 k4 a4 b4; (repeat array_get_dec); intro e p5 k5 ro lo; (repeat array_get_dec); intro v6 p6 k6 a6 b6; (repeat array_get_dec); intro e2 p7 k7 ro2 lo2; (repeat array_get_dec)
  intro v8 p8 k8 a8 b8; (repeat array_get_dec); intro v9 p9 k9 a9 b9; (repeat array_get_dec)
  refine wa_pickI [1 + v8, 1, 2, 64] (fun k => 1 ≤ k ∧ k ≤ 255) a9 b9 (by simp; omega) ?_
  intro t ht; (repeat array_get_dec); intro i p10 k10 hi; (repeat array_get_dec)
  refine wa_addT (by simp) ?_
  (repeat array_get_dec)
  exact ⟨⟨v2, v3, k, t, e, i, e2⟩, rfl, ⟨⟨a2, b2⟩, ⟨a3, b3⟩, ⟨ka, kb⟩, ht, ⟨ro.1, by dsimp only; omega, by dsimp only; omega⟩, hi, ro2.1, by dsimp only; omega⟩, by dsimp only; omega⟩
theorem wipe1 (x : Option Cell) : wipeR [x, none] [1] = [x, none] := rfl
theorem plain1 (x : Option Cell) : plainAt [x, none] [1] = true := rfl
theorem is_row_ok (e : List Int) (h : ∀ x ∈ e, 0 ≤ x ∧ x ≤ 255) (hl : e.length ≤ 16777216) : F_law_is_row [.tuple (IL e)] = some (.bool true) := by
  refine of_wa ?_
  unfold F_law_is_row; refine PG.wa_def rfl ?_; simp only [PG.rho0_eq, List.map_cons, List.map_nil, List.replicate_succ, List.replicate_zero, List.cons_append, List.nil_append]; unfold B_law_is_row
  (repeat array_get_dec)
  refine wn_map PyData.int (fun _ => false) PyData.int e ?_
  (repeat array_get_dec)
  refine ⟨rfl, hl, rfl, fun x hx => ?_, ?_⟩
  · have := h x hx
    have e1 := number_is x 255
    rw [decide_eq_true this.1, decide_eq_true this.2] at e1
    simp only [wipe1]
    unfold X_law_is_row_1
    (repeat array_get_dec)
    exact ⟨_, e1, by (repeat array_get_dec); exact ⟨rfl, fun z => (by cases z), fun _ => ⟨rfl, rfl⟩⟩⟩
  · rw [List.filter_eq_nil_iff.mpr (by simp)]
    (repeat array_get_dec)
    rfl
end Pr_P
end
section
set_option linter.all false
set_option maxRecDepth 100000
set_option Elab.async false
namespace Pr_P
open PySem PG Pr_C Pr_D Pr_S
local macro_rules | `(tactic| array_get_dec) => `(tactic| first | ((with_reducible apply PG.ws_set)) | ((with_reducible apply PG.ws_if)) | ((with_reducible apply PG.ws_ret)) | ((with_reducible apply PG.ws_setL)) | ((with_reducible apply PG.ws_expr)) | ((with_reducible apply PG.ws_nilc)) | ((with_reducible apply PG.ws_asc)) | ((with_reducible apply PG.ws_nil)) | ((with_reducible apply PG.ws_for)) | ((with_reducible apply PG.ws_asg)) | ((with_reducible apply PG.ws_par)) | ((with_reducible apply PG.ws_retL)) | ((with_reducible apply PG.ws_brk)) | ((with_reducible apply PG.ws_cont)) | ((with_reducible apply PG.ws_forn)) | ((with_reducible apply PG.ws_sto)) | ((with_reducible apply PG.ws_aug); (case hget => rfl)) | ((with_reducible apply PG.ws_app); (case hget => rfl)) | ((with_reducible apply PG.ws_retO); (case hget => rfl)) | ((with_reducible apply PG.we_name); (case hget => rfl)) | ((with_reducible apply PG.we_c)) | ((with_reducible apply PG.we_bin)) | ((with_reducible apply PG.we_un)) | ((with_reducible apply PG.we_call)) | ((with_reducible apply PG.we_callL); (case hget => rfl)) | ((with_reducible apply PG.we_tup)) | ((with_reducible apply PG.we_lst)) | ((with_reducible apply PG.we_if)) | ((with_reducible apply PG.we_ixL); (case hget => rfl)) | ((with_reducible apply PG.we_unL); (case hget => rfl)) | ((with_reducible apply PG.we_and)) | ((with_reducible apply PG.we_or)) | ((with_reducible apply PG.we_not)) | ((with_reducible apply PG.we_chain)) | ((with_reducible apply PG.we_slT)) | ((with_reducible apply PG.wn_cons)) | ((with_reducible apply PG.wn_nil)) | ((with_reducible apply PG.wn_star)) | ((with_reducible apply PG.wn_disp)) | ((with_reducible apply PG.wn_call)) | ((with_reducible apply PG.wn_sl)) | ((with_reducible apply PG.wn_its)) | ((with_reducible apply PG.wn_r1)) | ((with_reducible apply PG.wn_r2)) | ((with_reducible apply PG.wn_r3)) | ((with_reducible apply PG.wt_tru)) | ((with_reducible apply PG.wt_bl)) | ((with_reducible apply PG.wt_and)) | ((with_reducible apply PG.wt_or)) | ((with_reducible apply PG.wt_not)) | ((with_reducible apply PG.wt_yes)) | ((with_reducible apply PG.wt_truL); (case hget => rfl)) | ((with_reducible apply PG.wo_none)) | ((with_reducible apply PG.wo_some)) | ((with_reducible apply PG.wg_p0)) | ((with_reducible apply PG.wg_tup)) | ((with_reducible apply PG.wg_ps); (case hset => (repeat' (first | exact PG.SetR.h0 | exact PG.SetR.h1 | exact PG.SetR.hl | exact PG.SetR.hc (by assumption) | apply PG.SetR.s)))) | ((with_reducible apply PG.wg_set); (case hset => (repeat' (first | exact PG.SetR.h0 | exact PG.SetR.h1 | exact PG.SetR.hl | exact PG.SetR.hc (by assumption) | apply PG.SetR.s)))) | ((with_reducible apply PG.we_frz); (case hget => rfl); (case hset => (repeat' (first | exact PG.SetR.h0 | exact PG.SetR.h1 | exact PG.SetR.hl | exact PG.SetR.hc (by assumption) | apply PG.SetR.s)))) | ((with_reducible apply PG.setr_i); (case hset => (repeat' (first | exact PG.SetR.h0 | exact PG.SetR.h1 | exact PG.SetR.hl | exact PG.SetR.hc (by assumption) | apply PG.SetR.s)))) | ((with_reducible apply PG.setl_i); (case hset => (repeat' (first | exact PG.SetLR.h0 | exact PG.SetLR.h1 | exact PG.SetLR.hl | apply PG.SetLR.s)))) | ((with_reducible apply PG.put_i); (case hset => (repeat' (first | exact PG.PutR.h | apply PG.PutR.s)))) | ((with_reducible apply PG.pool_i); (case hget => rfl)) | ((with_reducible apply PG.bool_i)) | ((with_reducible apply PG.int_i)) | ((with_reducible apply PG.seqL_i)) | ((with_reducible apply PG.seqT_i)) | ((with_reducible apply PG.seqR_i)) | ((with_reducible apply PG.starT_i)) | ((with_reducible apply PG.starL_i)) | ((with_reducible apply PG.len_i); (case h => rfl)) | ((with_reducible apply PG.tup_i)) | ((with_reducible apply PG.yes_i)) | ((with_reducible apply PG.no_i)) | ((with_reducible apply PG.nyes_i)) | ((with_reducible apply PG.nno_i)) | ((with_reducible apply PG.wa_add)) | ((with_reducible apply PG.wa_sub)) | ((with_reducible apply PG.wa_lt)) | ((with_reducible apply PG.wa_le)) | ((with_reducible apply PG.wa_gt)) | ((with_reducible apply PG.wa_ge)) | ((with_reducible apply PG.wa_eqI)) | ((with_reducible apply PG.wa_neI)) | ((with_reducible apply PG.wa_neg)) | ((with_reducible apply PG.wa_lenL)) | ((with_reducible apply PG.wa_lenT)) | ((with_reducible apply PG.wa_int)) | ((with_reducible apply PG.wa_max)) | ((with_reducible apply PG.wa_min)) | ((with_reducible apply PG.wb_bool)) | ((with_reducible apply PG.wb_int)) | ((with_reducible apply PG.endP_ret)) | ((with_reducible apply PG.endP_retL)) | ((with_reducible apply PG.endN_ret)) | ((with_reducible apply PG.endL_ret)) | ((with_reducible apply PG.endL_retL)) | ((with_reducible apply PG.wa_binO)) | ((with_reducible apply PG.ch_le)) | ((with_reducible apply PG.ch_lt)) | ((with_reducible apply PG.ch_eq)) | ((with_reducible apply PG.wa_ix0); (case hget => rfl)) | ((with_reducible apply PG.wa_ix1); (case hget => rfl)) | ((with_reducible apply PG.wa_ix2); (case hget => rfl)) | ((with_reducible apply PG.wa_ix3); (case hget => rfl)) | ((with_reducible apply PG.wa_ix4); (case hget => rfl)) | ((with_reducible apply PG.wa_ix5); (case hget => rfl)) | ((with_reducible apply PG.wa_ix6); (case hget => rfl)) | ((with_reducible apply PG.wa_ix7); (case hget => rfl)) | ((with_reducible apply PG.wa_ix8); (case hget => rfl)) | ((with_reducible apply PG.wa_il0); (case hget => rfl)) | ((with_reducible apply PG.wa_il1); (case hget => rfl)) | ((with_reducible apply PG.wa_il2); (case hget => rfl)) | ((with_reducible apply PG.wa_ev1)) | ((with_reducible apply PG.wa_ev)) | ((with_reducible apply PG.wl_ev)) | ((with_reducible apply PG.wb_ev)) | ((with_reducible apply PG.wa_mod); (case h1 => omega)) | ((with_reducible apply PG.wa_div); (case h1 => omega); (case h2 => omega)) | ((with_reducible apply PG.wa_mulR); (case h1 => omega); (case h2 => omega)) | ((with_reducible apply PG.wa_mulL); (case h1 => omega); (case h2 => omega)) | ((with_reducible apply PG.wa_shr); (case h1 => omega)))
local macro_rules | `(tactic| array_get_dec) => `(tactic| first | ((with_reducible apply Pr_C.wp_draw); (case hp => assumption); (case h0 => omega); (case h1 => omega)) | ((with_reducible apply Pr_C.ls_i); (case hp => assumption)))

local macro_rules | `(tactic| array_get_dec) => `(tactic| first | ((with_reducible apply Pr_P.wp_number); (case hp => assumption); (case h0 => omega); (case h1 => omega)) | ((with_reducible apply Pr_P.wp_row); (case hp => assumption); (case h0 => omega); (case h1 => omega)) | ((with_reducible apply Pr_P.wp_kind); (case hp => assumption)) | ((with_reducible apply Pr_P.wp_inner); (case hp => assumption)))

theorem rng2 : rng 0 2 = [.int 0, .int 1] := rfl
theorem rng3 : rng 0 3 = [.int 0, .int 1, .int 2] := rfl
theorem rng0 : rng 0 0 = [] := rfl
theorem number_in {i top : Int} (h0 : 0 ≤ i) (h1 : i ≤ top) : F_law_is_number [.int i, .int top] = some (.bool true) := by
  rw [number_is, decide_eq_true h0, decide_eq_true h1]; rfl
theorem ipx1 (P : PyData) (xs ys : List PyData) (k x y : Int) (h5 : dIx P (.int 5) = some (.tuple xs)) (hx : dIx (.tuple xs) (.int k) = some (.int x)) (hy : dIx (.tuple ys) (.int k) = some (.int y)) (h0 : 0 ≤ x) (h1 : x ≤ y) :
    X_law_is_packet_1 [some (.v P), some (.v (.tuple ys)), some (.v (.int k))] = some (false, [some (.v P), some (.v (.tuple ys)), some (.v (.int k))]) := by
  have e := number_in h0 h1
  simp [X_law_is_packet_1, -dIx, h5, hx, hy, e]
def Inn.tops : Inn → List Int
  | .st .. => [65535, 65535, 7] | .ask .. => [65535, 65535] | .note .. => [255, 255] | .oth => []
theorem ip_comp (P : PyData) (i : Inn) (k : Int) (hi : i.ok k) (h5 : dIx P (.int 5) = some (.tuple (IL i.l))) (ys : List Int) (hy : ys = i.tops) :
    nComp (itR1 (nCons (eCall (o1of dLen) (nCons (eName 1) nNil)) nNil)) (gSet 2) X_law_is_packet_1 X_law_is_packet_2 [2] [some (.v P), some (.v (.tuple (IL ys))), none] = some ([], [some (.v P), some (.v (.tuple (IL ys))), none]) := by
  subst hy
  cases i with
  | st a b f =>
    obtain ⟨_, h1, h2, h3⟩ := hi
    have e0 := ipx1 P (IL [a, b, f]) (IL [65535, 65535, 7]) 0 a 65535 h5 rfl rfl h1.1 h1.2
    have e1 := ipx1 P (IL [a, b, f]) (IL [65535, 65535, 7]) 1 b 65535 h5 rfl rfl h2.1 h2.2
    have e2 := ipx1 P (IL [a, b, f]) (IL [65535, 65535, 7]) 2 f 7 h5 rfl rfl h3.1 h3.2
    simp only [IL, List.map_cons, List.map_nil] at e0 e1 e2
    simp [Inn.tops, nComp, itR1, in62, rng3, compL, plainAt, wipeR, restR, e0, e1, e2]
  | ask a b =>
    obtain ⟨_, h1, h2⟩ := hi
    have e0 := ipx1 P (IL [a, b]) (IL [65535, 65535]) 0 a 65535 h5 rfl rfl h1.1 h1.2
    have e1 := ipx1 P (IL [a, b]) (IL [65535, 65535]) 1 b 65535 h5 rfl rfl h2.1 h2.2
    simp only [IL, List.map_cons, List.map_nil] at e0 e1
    simp [Inn.tops, nComp, itR1, in62, rng2, compL, plainAt, wipeR, restR, e0, e1]
  | note a b =>
    obtain ⟨_, h1, h2⟩ := hi
    have e0 := ipx1 P (IL [a, b]) (IL [255, 255]) 0 a 255 h5 rfl rfl h1.1 h1.2
    have e1 := ipx1 P (IL [a, b]) (IL [255, 255]) 1 b 255 h5 rfl rfl h2.1 h2.2
    simp only [IL, List.map_cons, List.map_nil] at e0 e1
    simp [Inn.tops, nComp, itR1, in62, rng2, compL, plainAt, wipeR, restR, e0, e1]
  | oth => simp [Inn.tops, nComp, itR1, in62, rng0, compL, plainAt, wipeR, restR]
theorem is_packet_ok (p : Pk) (h : p.Ok) (hl : p.len ≤ 1500) : F_law_is_packet [p.v] = some (.bool true) := by
  obtain ⟨s, d, k, t, o, i, pp⟩ := p
  have r1 := is_row_ok o h.o.1 (by have := h.o.2.1; dsimp only at this; omega)
  have r2 := is_row_ok pp h.p.1 (by have := h.p.2; dsimp only at this; omega)
  have n1 := number_in h.s.1 h.s.2
  have n2 := number_in h.d.1 h.d.2
  have n3 := number_in h.k.1 h.k.2
  have n4 := number_in (show 0 ≤ t by have := h.t.1; dsimp only at this; omega) h.t.2
  have n5 : ¬ t = 0 := by have := h.t.1; dsimp only at this; omega
  have ll := law_length_ok (.int s) (.int d) (.int t) (.tuple (IL i.l)) k (IL o) (IL pp)
  have c := ip_comp (Pk.v ⟨s, d, k, t, o, i, pp⟩) i k h.i rfl _ rfl
  have hl2 : 12 + (o.length : Int) + isz k + pp.length ≤ 1500 := hl
  have o1 := h.o.2
  dsimp only at n1 n2 n3 o1
  have o2 : o.length = 0 ∨ o.length = 2 ∨ o.length = 4 ∨ o.length = 6 ∨ o.length = 8 := by omega
  have hi := h.i
  simp only [IL] at r1 r2 ll
  have o3 : dNotIn2 (.int o.length) (.tuple [.int 0, .int 2, .int 4, .int 6, .int 8]) = some (.bool false) := by
    rcases o2 with e | e | e | e | e <;> rw [e] <;> rfl
  cases i with
  | st a b f =>
    obtain ⟨hk, _⟩ := hi
    dsimp only at hk
    subst hk
    simp only [Pk.v, IL, Inn.l, Inn.tops, List.map_cons, List.map_nil, List.length_map] at c ll ⊢
    simp [F_law_is_packet, B_law_is_packet, defP, atD, ixOf, n1, n2, n3, n4, n5, r1, r2, o3, c, ll, dEq, dNe, hl2]
  | ask a b =>
    obtain ⟨hk, _⟩ := hi
    dsimp only at hk
    subst hk
    simp only [Pk.v, IL, Inn.l, Inn.tops, List.map_cons, List.map_nil, List.length_map] at c ll ⊢
    simp [F_law_is_packet, B_law_is_packet, defP, atD, ixOf, n1, n2, n3, n4, n5, r1, r2, o3, c, ll, dEq, dNe, hl2]
  | note a b =>
    obtain ⟨hk, _⟩ := hi
    dsimp only at hk
    subst hk
    simp only [Pk.v, IL, Inn.l, Inn.tops, List.map_cons, List.map_nil, List.length_map] at c ll ⊢
    simp [F_law_is_packet, B_law_is_packet, defP, atD, ixOf, n1, n2, n3, n4, n5, r1, r2, o3, c, ll, dEq, dNe, hl2]
  | oth =>
    obtain ⟨k1, k2, k3⟩ := hi
    dsimp only at k1 k2 k3
    simp only [Pk.v, IL, Inn.l, Inn.tops, List.map_cons, List.map_nil, List.length_map] at c ll ⊢
    simp [F_law_is_packet, B_law_is_packet, defP, atD, ixOf, n1, n2, n3, n4, n5, r1, r2, o3, c, ll, dEq, dNe, hl2, k1, k2, k3]
end Pr_P
end
section
set_option linter.all false
set_option maxRecDepth 100000
set_option Elab.async false
namespace Pr_P
open PySem PG Pr_C Pr_D Pr_S
local macro_rules | `(tactic| array_get_dec) => `(tactic| first | ((with_reducible apply PG.ws_set)) | ((with_reducible apply PG.ws_if)) | ((with_reducible apply PG.ws_ret)) | ((with_reducible apply PG.ws_setL)) | ((with_reducible apply PG.ws_expr)) | ((with_reducible apply PG.ws_nilc)) | ((with_reducible apply PG.ws_asc)) | ((with_reducible apply PG.ws_nil)) | ((with_reducible apply PG.ws_for)) | ((with_reducible apply PG.ws_asg)) | ((with_reducible apply PG.ws_par)) | ((with_reducible apply PG.ws_retL)) | ((with_reducible apply PG.ws_brk)) | ((with_reducible apply PG.ws_cont)) | ((with_reducible apply PG.ws_forn)) | ((with_reducible apply PG.ws_sto)) | ((with_reducible apply PG.ws_aug); (case hget => rfl)) | ((with_reducible apply PG.ws_app); (case hget => rfl)) | ((with_reducible apply PG.ws_retO); (case hget => rfl)) | ((with_reducible apply PG.we_name); (case hget => rfl)) | ((with_reducible apply PG.we_c)) | ((with_reducible apply PG.we_bin)) | ((with_reducible apply PG.we_un)) | ((with_reducible apply PG.we_call)) | ((with_reducible apply PG.we_callL); (case hget => rfl)) | ((with_reducible apply PG.we_tup)) | ((with_reducible apply PG.we_lst)) | ((with_reducible apply PG.we_if)) | ((with_reducible apply PG.we_ixL); (case hget => rfl)) | ((with_reducible apply PG.we_unL); (case hget => rfl)) | ((with_reducible apply PG.we_and)) | ((with_reducible apply PG.we_or)) | ((with_reducible apply PG.we_not)) | ((with_reducible apply PG.we_chain)) | ((with_reducible apply PG.we_slT)) | ((with_reducible apply PG.wn_cons)) | ((with_reducible apply PG.wn_nil)) | ((with_reducible apply PG.wn_star)) | ((with_reducible apply PG.wn_disp)) | ((with_reducible apply PG.wn_call)) | ((with_reducible apply PG.wn_sl)) | ((with_reducible apply PG.wn_its)) | ((with_reducible apply PG.wn_r1)) | ((with_reducible apply PG.wn_r2)) | ((with_reducible apply PG.wn_r3)) | ((with_reducible apply PG.wt_tru)) | ((with_reducible apply PG.wt_bl)) | ((with_reducible apply PG.wt_and)) | ((with_reducible apply PG.wt_or)) | ((with_reducible apply PG.wt_not)) | ((with_reducible apply PG.wt_yes)) | ((with_reducible apply PG.wt_truL); (case hget => rfl)) | ((with_reducible apply PG.wo_none)) | ((with_reducible apply PG.wo_some)) | ((with_reducible apply PG.wg_p0)) | ((with_reducible apply PG.wg_tup)) | ((with_reducible apply PG.wg_ps); (case hset => (repeat' (first | exact PG.SetR.h0 | exact PG.SetR.h1 | exact PG.SetR.hl | exact PG.SetR.hc (by assumption) | apply PG.SetR.s)))) | ((with_reducible apply PG.wg_set); (case hset => (repeat' (first | exact PG.SetR.h0 | exact PG.SetR.h1 | exact PG.SetR.hl | exact PG.SetR.hc (by assumption) | apply PG.SetR.s)))) | ((with_reducible apply PG.we_frz); (case hget => rfl); (case hset => (repeat' (first | exact PG.SetR.h0 | exact PG.SetR.h1 | exact PG.SetR.hl | exact PG.SetR.hc (by assumption) | apply PG.SetR.s)))) | ((with_reducible apply PG.setr_i); (case hset => (repeat' (first | exact PG.SetR.h0 | exact PG.SetR.h1 | exact PG.SetR.hl | exact PG.SetR.hc (by assumption) | apply PG.SetR.s)))) | ((with_reducible apply PG.setl_i); (case hset => (repeat' (first | exact PG.SetLR.h0 | exact PG.SetLR.h1 | exact PG.SetLR.hl | apply PG.SetLR.s)))) | ((with_reducible apply PG.put_i); (case hset => (repeat' (first | exact PG.PutR.h | apply PG.PutR.s)))) | ((with_reducible apply PG.pool_i); (case hget => rfl)) | ((with_reducible apply PG.bool_i)) | ((with_reducible apply PG.int_i)) | ((with_reducible apply PG.seqL_i)) | ((with_reducible apply PG.seqT_i)) | ((with_reducible apply PG.seqR_i)) | ((with_reducible apply PG.starT_i)) | ((with_reducible apply PG.starL_i)) | ((with_reducible apply PG.len_i); (case h => rfl)) | ((with_reducible apply PG.tup_i)) | ((with_reducible apply PG.yes_i)) | ((with_reducible apply PG.no_i)) | ((with_reducible apply PG.nyes_i)) | ((with_reducible apply PG.nno_i)) | ((with_reducible apply PG.wa_add)) | ((with_reducible apply PG.wa_sub)) | ((with_reducible apply PG.wa_lt)) | ((with_reducible apply PG.wa_le)) | ((with_reducible apply PG.wa_gt)) | ((with_reducible apply PG.wa_ge)) | ((with_reducible apply PG.wa_eqI)) | ((with_reducible apply PG.wa_neI)) | ((with_reducible apply PG.wa_neg)) | ((with_reducible apply PG.wa_lenL)) | ((with_reducible apply PG.wa_lenT)) | ((with_reducible apply PG.wa_int)) | ((with_reducible apply PG.wa_max)) | ((with_reducible apply PG.wa_min)) | ((with_reducible apply PG.wb_bool)) | ((with_reducible apply PG.wb_int)) | ((with_reducible apply PG.endP_ret)) | ((with_reducible apply PG.endP_retL)) | ((with_reducible apply PG.endN_ret)) | ((with_reducible apply PG.endL_ret)) | ((with_reducible apply PG.endL_retL)) | ((with_reducible apply PG.wa_binO)) | ((with_reducible apply PG.ch_le)) | ((with_reducible apply PG.ch_lt)) | ((with_reducible apply PG.ch_eq)) | ((with_reducible apply PG.wa_ix0); (case hget => rfl)) | ((with_reducible apply PG.wa_ix1); (case hget => rfl)) | ((with_reducible apply PG.wa_ix2); (case hget => rfl)) | ((with_reducible apply PG.wa_ix3); (case hget => rfl)) | ((with_reducible apply PG.wa_ix4); (case hget => rfl)) | ((with_reducible apply PG.wa_ix5); (case hget => rfl)) | ((with_reducible apply PG.wa_ix6); (case hget => rfl)) | ((with_reducible apply PG.wa_ix7); (case hget => rfl)) | ((with_reducible apply PG.wa_ix8); (case hget => rfl)) | ((with_reducible apply PG.wa_il0); (case hget => rfl)) | ((with_reducible apply PG.wa_il1); (case hget => rfl)) | ((with_reducible apply PG.wa_il2); (case hget => rfl)) | ((with_reducible apply PG.wa_ev1)) | ((with_reducible apply PG.wa_ev)) | ((with_reducible apply PG.wl_ev)) | ((with_reducible apply PG.wb_ev)) | ((with_reducible apply PG.wa_mod); (case h1 => omega)) | ((with_reducible apply PG.wa_div); (case h1 => omega); (case h2 => omega)) | ((with_reducible apply PG.wa_mulR); (case h1 => omega); (case h2 => omega)) | ((with_reducible apply PG.wa_mulL); (case h1 => omega); (case h2 => omega)) | ((with_reducible apply PG.wa_shr); (case h1 => omega)))
local macro_rules | `(tactic| array_get_dec) => `(tactic| first | ((with_reducible apply Pr_C.wp_draw); (case hp => assumption); (case h0 => omega); (case h1 => omega)) | ((with_reducible apply Pr_C.ls_i); (case hp => assumption)))

local macro_rules | `(tactic| array_get_dec) => `(tactic| first | ((with_reducible apply Pr_P.wp_number); (case hp => assumption); (case h0 => omega); (case h1 => omega)) | ((with_reducible apply Pr_P.wp_row); (case hp => assumption); (case h0 => omega); (case h1 => omega)) | ((with_reducible apply Pr_P.wp_kind); (case hp => assumption)) | ((with_reducible apply Pr_P.wp_inner); (case hp => assumption)))

/-! ### sights -/
structure Si where
  i : Int
  k : Int
  s : Int
  a : Int
  d : Int
  b : Int
  f : Int
  c : Int
  n : Int
def Si.v (x : Si) : PyData := .tuple [.int x.i, .int x.k, .int x.s, .int x.a, .int x.d, .int x.b, .int x.f, .int x.c, .int x.n]
structure Si.Ok (x : Si) : Prop where
  i : 0 ≤ x.i ∧ x.i ≤ 1
  k : 0 ≤ x.k ∧ x.k ≤ 255
  s : 0 ≤ x.s ∧ x.s ≤ 65535
  a : 0 ≤ x.a ∧ x.a ≤ 65535
  d : 0 ≤ x.d ∧ x.d ≤ 65535
  b : 0 ≤ x.b ∧ x.b ≤ 65535
  f : 0 ≤ x.f ∧ x.f ≤ 7
  c : 0 ≤ x.c ∧ x.c ≤ 65535
  n : 12 + isz x.k ≤ x.n ∧ x.n ≤ 1500
  ne : x.s ≠ x.d
  p0 : x.k ≠ 6 → x.k ≠ 17 → x.a = 0 ∧ x.b = 0
  f0 : x.k ≠ 6 → x.f = 0
  c0 : x.k ≠ 1 → x.c = 0
def sOf (i : Int) (p : Pk) : Si := match p.i with
  | .st a b f => ⟨i, p.k, p.s, a, p.d, b, f, 0, p.len⟩
  | .ask a b => ⟨i, p.k, p.s, a, p.d, b, 0, 0, p.len⟩
  | .note t c => ⟨i, p.k, p.s, 0, p.d, 0, 0, 256 * t + c, p.len⟩
  | .oth => ⟨i, p.k, p.s, 0, p.d, 0, 0, 0, p.len⟩
theorem eqvI (a k : Int) : PyData.eqv (.int a) (.int k) = decide (k = a) := by
  by_cases h : k = a
  · subst h; simp [PyData.eqv]
  · have h2 : ¬ a = k := fun e => h e.symm
    simp [PyData.eqv, h, h2]
theorem in2_int (k a b : Int) : dIn2 (.int k) (.tuple [.int a, .int b]) = some (.bool (decide (k = a) || decide (k = b))) := by
  simp [dIn2, dMem, memD, flatD, eqvI]
theorem notin2_int (k a b : Int) : dNotIn2 (.int k) (.tuple [.int a, .int b]) = some (.bool (!(decide (k = a) || decide (k = b)))) := by
  simp [dNotIn2, dMem, memD, flatD, eqvI]
theorem sight_of_ok (i : Int) (p : Pk) (h : p.i.ok p.k) : F_sight_of [.int i, p.v] = some (sOf i p).v := by
  obtain ⟨s, d, k, t, o, x, pp⟩ := p
  have ll := length_ok (.int s) (.int d) (.int t) (.tuple (IL x.l)) k (IL o) (IL pp)
  have hp := in2_int k 6 17
  cases x with
  | st a b f =>
    obtain ⟨hk, _⟩ := h
    dsimp only at hk
    subst hk
    simp only [Pk.v, IL, Inn.l, List.map_cons, List.map_nil, List.length_map] at ll ⊢
    simp [F_sight_of, B_sight_of, F_has_ports, B_has_ports, defP, atD, ixOf, ll, hp, dEq, sOf, Si.v, Pk.len, cutD, sIxD]
  | ask a b =>
    obtain ⟨hk, _⟩ := h
    dsimp only at hk
    subst hk
    simp only [Pk.v, IL, Inn.l, List.map_cons, List.map_nil, List.length_map] at ll ⊢
    simp [F_sight_of, B_sight_of, F_has_ports, B_has_ports, defP, atD, ixOf, ll, hp, dEq, sOf, Si.v, Pk.len, cutD, sIxD]
  | note a b =>
    obtain ⟨hk, _⟩ := h
    dsimp only at hk
    subst hk
    simp only [Pk.v, IL, Inn.l, List.map_cons, List.map_nil, List.length_map] at ll ⊢
    simp [F_sight_of, B_sight_of, F_has_ports, B_has_ports, defP, atD, ixOf, ll, hp, dEq, sOf, Si.v, Pk.len, cutD, sIxD]
  | oth =>
    obtain ⟨k1, k2, k3⟩ := h
    dsimp only at k1 k2 k3
    simp only [Pk.v, IL, Inn.l, List.map_cons, List.map_nil, List.length_map] at ll ⊢
    simp [F_sight_of, B_sight_of, F_has_ports, B_has_ports, defP, atD, ixOf, ll, hp, dEq, sOf, Si.v, Pk.len, cutD, sIxD, k1, k2, k3]
theorem law_seen_ok (i : Int) (p : Pk) (h : p.i.ok p.k) : F_law_seen [.int i, p.v] = some (sOf i p).v := by
  obtain ⟨s, d, k, t, o, x, pp⟩ := p
  have ll := law_length_ok (.int s) (.int d) (.int t) (.tuple (IL x.l)) k (IL o) (IL pp)
  have hp := in2_int k 6 17
  cases x with
  | st a b f =>
    obtain ⟨hk, _⟩ := h
    dsimp only at hk
    subst hk
    simp only [Pk.v, IL, Inn.l, List.map_cons, List.map_nil, List.length_map] at ll ⊢
    simp [F_law_seen, B_law_seen, defP, atD, ixOf, ll, hp, dEq, sOf, Si.v, Pk.len, cutD, sIxD]
  | ask a b =>
    obtain ⟨hk, _⟩ := h
    dsimp only at hk
    subst hk
    simp only [Pk.v, IL, Inn.l, List.map_cons, List.map_nil, List.length_map] at ll ⊢
    simp [F_law_seen, B_law_seen, defP, atD, ixOf, ll, hp, dEq, sOf, Si.v, Pk.len, cutD, sIxD]
  | note a b =>
    obtain ⟨hk, _⟩ := h
    dsimp only at hk
    subst hk
    simp only [Pk.v, IL, Inn.l, List.map_cons, List.map_nil, List.length_map] at ll ⊢
    simp [F_law_seen, B_law_seen, defP, atD, ixOf, ll, hp, dEq, sOf, Si.v, Pk.len, cutD, sIxD]
  | oth =>
    obtain ⟨k1, k2, k3⟩ := h
    dsimp only at k1 k2 k3
    simp only [Pk.v, IL, Inn.l, List.map_cons, List.map_nil, List.length_map] at ll ⊢
    simp [F_law_seen, B_law_seen, defP, atD, ixOf, ll, hp, dEq, sOf, Si.v, Pk.len, cutD, sIxD, k1, k2, k3]
theorem least_ok (k : Int) : F_least_length [.int k] = some (.int (12 + isz k)) := by
  simp [F_least_length, B_least_length, defP, head_ok]
theorem law_least_ok (k : Int) : F_law_least [.int k] = some (.int (12 + isz k)) := by
  simp [F_law_least, B_law_least, defP, isize_ok]
def innOf (x : Si) : Inn := if x.k = 6 then .st x.a x.b x.f else if x.k = 17 then .ask x.a x.b else if x.k = 1 then .note (x.c / 256) (x.c % 256) else .oth
def pOf (x : Si) : Pk := ⟨x.s, x.d, x.k, 64, [], innOf x, List.replicate (x.n - (12 + isz x.k)).toNat 0⟩
theorem rep_ok (m : Int) (h0 : 0 ≤ m) (h1 : m ≤ 1500) : dRepT (.tuple [.int 0]) (.int m) = some (.tuple (IL (List.replicate m.toNat 0))) := by
  have e : (List.replicate m.toNat [PyData.int 0]).flatten = IL (List.replicate m.toNat 0) := by
    simp [IL]
  simp only [dRepT]
  rw [if_pos ⟨by omega, by omega, by simp; omega⟩, e]
theorem packet_of_ok (x : Si) (h : x.Ok) : F_packet_of [x.v] = some (pOf x).v := by
  obtain ⟨i, k, s, a, d, b, f, c, n⟩ := x
  have l := least_ok k
  have hn := h.n
  dsimp only at hn
  have r := rep_ok (n - (12 + isz k)) (by omega) (by have := isz_bd k; omega)
  by_cases h1 : k = 6
  · subst h1
    simp [F_packet_of, B_packet_of, defP, Si.v, Pk.v, pOf, innOf, Inn.l, dEq, -dRepT, two_ok, l, r, atD, ixOf]
  by_cases h2 : k = 17
  · subst h2
    simp [F_packet_of, B_packet_of, defP, Si.v, Pk.v, pOf, innOf, Inn.l, dEq, -dRepT, two_ok, l, r, atD, ixOf]
  by_cases h3 : k = 1
  · subst h3
    simp [F_packet_of, B_packet_of, defP, Si.v, Pk.v, pOf, innOf, Inn.l, dEq, -dRepT, two_ok, l, r, atD, ixOf]
  simp [F_packet_of, B_packet_of, defP, Si.v, Pk.v, pOf, innOf, Inn.l, dEq, -dRepT, two_ok, l, r, h1, h2, h3, atD, ixOf]
theorem law_plain_ok (x : Si) (h : x.Ok) : F_law_plain_packet [x.v] = some (pOf x).v := by
  obtain ⟨i, k, s, a, d, b, f, c, n⟩ := x
  have l := law_least_ok k
  have hn := h.n
  dsimp only at hn
  have r := rep_ok (n - (12 + isz k)) (by omega) (by have := isz_bd k; omega)
  by_cases h1 : k = 6
  · subst h1
    simp [F_law_plain_packet, B_law_plain_packet, defP, Si.v, Pk.v, pOf, innOf, Inn.l, dEq, -dRepT, two_ok, l, r, atD, ixOf]
  by_cases h2 : k = 17
  · subst h2
    simp [F_law_plain_packet, B_law_plain_packet, defP, Si.v, Pk.v, pOf, innOf, Inn.l, dEq, -dRepT, two_ok, l, r, atD, ixOf]
  by_cases h3 : k = 1
  · subst h3
    simp [F_law_plain_packet, B_law_plain_packet, defP, Si.v, Pk.v, pOf, innOf, Inn.l, dEq, -dRepT, two_ok, l, r, atD, ixOf]
  simp [F_law_plain_packet, B_law_plain_packet, defP, Si.v, Pk.v, pOf, innOf, Inn.l, dEq, -dRepT, two_ok, l, r, h1, h2, h3, atD, ixOf]
theorem pOf_ok (x : Si) (h : x.Ok) : (pOf x).Ok ∧ (pOf x).len = x.n ∧ sOf x.i (pOf x) = x := by
  obtain ⟨i, k, s, a, d, b, f, c, n⟩ := x
  have hn := h.n
  have hb := isz_bd k
  have hc := h.c
  have hi : (innOf ⟨i, k, s, a, d, b, f, c, n⟩).ok k := by
    unfold innOf
    dsimp only at hc ⊢
    split
    · exact ⟨by assumption, h.a, h.b, h.f⟩
    split
    · exact ⟨by assumption, h.a, h.b⟩
    split
    · exact ⟨by assumption, by omega, by omega⟩
    · exact ⟨by assumption, by assumption, by assumption⟩
  dsimp only at hn
  refine ⟨⟨h.s, h.d, h.k, (by constructor <;> (show _ ≤ _) <;> simp [pOf]), ⟨by simp [pOf], by simp [pOf], by simp [pOf]⟩, hi, ⟨fun y hy => ?_, ?_⟩⟩, ?_, ?_⟩
  · have := (List.mem_replicate.mp hy).2
    omega
  · simp [pOf]; omega
  · simp [Pk.len, pOf]; omega
  · have hl : 12 + isz k + max (n - (12 + isz k)) 0 = n := by omega
    have h0 := h.p0
    have h2 := h.f0
    have h3 := h.c0
    dsimp only at h0 h2 h3
    by_cases h1 : k = 6
    · subst h1
      have := h3 (by omega)
      simp [sOf, pOf, innOf, Pk.len, this, hl]
    by_cases h4 : k = 17
    · subst h4
      have := h3 (by omega)
      have := h2 (by omega)
      simp [sOf, pOf, innOf, Pk.len, *]
    by_cases h5 : k = 1
    · subst h5
      have := h0 (by omega) (by omega)
      have := h2 (by omega)
      simp [sOf, pOf, innOf, Pk.len, *]
      omega
    · have := h0 (by omega) (by omega)
      have := h2 (by omega)
      have := h3 (by omega)
      simp [sOf, pOf, innOf, Pk.len, *]
/-! ### sights, read -/
theorem rng9 : rng 0 9 = [.int 0, .int 1, .int 2, .int 3, .int 4, .int 5, .int 6, .int 7, .int 8] := rfl
theorem tops_ok : F_law_tops [] = some (.tuple (IL [1, 255, 65535, 65535, 65535, 65535, 7, 65535, 1500, 6, 1])) := rfl
theorem isx1 (P : PyData) (c : Option Cell) (k x y : Int) (hx : dIx P (.int k) = some (.int x)) (hy : dIx (.tuple (IL [1, 255, 65535, 65535, 65535, 65535, 7, 65535, 1500, 6, 1])) (.int k) = some (.int y)) (h0 : 0 ≤ x) (h1 : x ≤ y) :
    X_law_is_sight_1 [some (.v P), c, some (.v (.int k))] = some (false, [some (.v P), c, some (.v (.int k))]) := by
  have e := number_in h0 h1
  simp only [IL, List.map_cons, List.map_nil] at hy
  simp [X_law_is_sight_1, -dIx, hx, tops_ok, hy, e]
theorem is_sight_ok (x : Si) (h : x.Ok) : F_law_is_sight [x.v] = some (.bool true) := by
  obtain ⟨i, k, s, a, d, b, f, c, n⟩ := x
  have l := law_least_ok k
  have hb := isz_bd k
  have hn := h.n
  dsimp only at hn
  have e0 := isx1 (Si.v ⟨i, k, s, a, d, b, f, c, n⟩) none 0 i 1 rfl rfl h.i.1 h.i.2
  have e1 := isx1 (Si.v ⟨i, k, s, a, d, b, f, c, n⟩) none 1 k 255 rfl rfl h.k.1 h.k.2
  have e2 := isx1 (Si.v ⟨i, k, s, a, d, b, f, c, n⟩) none 2 s 65535 rfl rfl h.s.1 h.s.2
  have e3 := isx1 (Si.v ⟨i, k, s, a, d, b, f, c, n⟩) none 3 a 65535 rfl rfl h.a.1 h.a.2
  have e4 := isx1 (Si.v ⟨i, k, s, a, d, b, f, c, n⟩) none 4 d 65535 rfl rfl h.d.1 h.d.2
  have e5 := isx1 (Si.v ⟨i, k, s, a, d, b, f, c, n⟩) none 5 b 65535 rfl rfl h.b.1 h.b.2
  have e6 := isx1 (Si.v ⟨i, k, s, a, d, b, f, c, n⟩) none 6 f 7 rfl rfl h.f.1 h.f.2
  have e7 := isx1 (Si.v ⟨i, k, s, a, d, b, f, c, n⟩) none 7 c 65535 rfl rfl h.c.1 h.c.2
  have e8 := isx1 (Si.v ⟨i, k, s, a, d, b, f, c, n⟩) none 8 n 1500 rfl rfl (by omega) hn.2
  have cc : nComp (itR1 (nCons (eC (.int 9)) nNil)) (gSet 2) X_law_is_sight_1 X_law_is_sight_2 [2] [some (.v (Si.v ⟨i, k, s, a, d, b, f, c, n⟩)), none, none] = some ([], [some (.v (Si.v ⟨i, k, s, a, d, b, f, c, n⟩)), none, none]) := by
    generalize Si.v ⟨i, k, s, a, d, b, f, c, n⟩ = P at *
    simp [nComp, itR1, in62, rng9, compL, plainAt, wipeR, restR, e0, e1, e2, e3, e4, e5, e6, e7, e8]
  have hne := h.ne
  have h0 := h.p0
  have h2 := h.f0
  have h3 := h.c0
  dsimp only at h0 h2 h3 hne
  have l2 : ¬ n < 12 + isz k := by omega
  have p := notin2_int k 6 17
  clear e0 e1 e2 e3 e4 e5 e6 e7 e8
  simp only [Si.v] at cc ⊢
  by_cases q1 : k = 6
  · subst q1
    obtain rfl := h3 (by omega)
    simp [F_law_is_sight, B_law_is_sight, defP, dEq, dNe, atD, ixOf, cc, l, l2, p, hne]
  by_cases q2 : k = 17
  · subst q2
    obtain rfl := h3 (by omega)
    obtain rfl := h2 (by omega)
    simp [F_law_is_sight, B_law_is_sight, defP, dEq, dNe, atD, ixOf, cc, l, l2, p, hne]
  obtain ⟨rfl, rfl⟩ := h0 q1 q2
  obtain rfl := h2 q1
  by_cases q3 : k = 1
  · subst q3
    simp [F_law_is_sight, B_law_is_sight, defP, dEq, dNe, atD, ixOf, cc, l, l2, p, hne]
  obtain rfl := h3 q3
  simp [F_law_is_sight, B_law_is_sight, defP, dEq, dNe, atD, ixOf, cc, l, l2, p, hne, q1, q2, q3]
end Pr_P
end
section
set_option linter.all false
set_option maxRecDepth 100000
set_option Elab.async false
namespace Pr_P
open PySem PG Pr_C Pr_D Pr_S
local macro_rules | `(tactic| array_get_dec) => `(tactic| first | ((with_reducible apply PG.ws_set)) | ((with_reducible apply PG.ws_if)) | ((with_reducible apply PG.ws_ret)) | ((with_reducible apply PG.ws_setL)) | ((with_reducible apply PG.ws_expr)) | ((with_reducible apply PG.ws_nilc)) | ((with_reducible apply PG.ws_asc)) | ((with_reducible apply PG.ws_nil)) | ((with_reducible apply PG.ws_for)) | ((with_reducible apply PG.ws_asg)) | ((with_reducible apply PG.ws_par)) | ((with_reducible apply PG.ws_retL)) | ((with_reducible apply PG.ws_brk)) | ((with_reducible apply PG.ws_cont)) | ((with_reducible apply PG.ws_forn)) | ((with_reducible apply PG.ws_sto)) | ((with_reducible apply PG.ws_aug); (case hget => rfl)) | ((with_reducible apply PG.ws_app); (case hget => rfl)) | ((with_reducible apply PG.ws_retO); (case hget => rfl)) | ((with_reducible apply PG.we_name); (case hget => rfl)) | ((with_reducible apply PG.we_c)) | ((with_reducible apply PG.we_bin)) | ((with_reducible apply PG.we_un)) | ((with_reducible apply PG.we_call)) | ((with_reducible apply PG.we_callL); (case hget => rfl)) | ((with_reducible apply PG.we_tup)) | ((with_reducible apply PG.we_lst)) | ((with_reducible apply PG.we_if)) | ((with_reducible apply PG.we_ixL); (case hget => rfl)) | ((with_reducible apply PG.we_unL); (case hget => rfl)) | ((with_reducible apply PG.we_and)) | ((with_reducible apply PG.we_or)) | ((with_reducible apply PG.we_not)) | ((with_reducible apply PG.we_chain)) | ((with_reducible apply PG.we_slT)) | ((with_reducible apply PG.wn_cons)) | ((with_reducible apply PG.wn_nil)) | ((with_reducible apply PG.wn_star)) | ((with_reducible apply PG.wn_disp)) | ((with_reducible apply PG.wn_call)) | ((with_reducible apply PG.wn_sl)) | ((with_reducible apply PG.wn_its)) | ((with_reducible apply PG.wn_r1)) | ((with_reducible apply PG.wn_r2)) | ((with_reducible apply PG.wn_r3)) | ((with_reducible apply PG.wt_tru)) | ((with_reducible apply PG.wt_bl)) | ((with_reducible apply PG.wt_and)) | ((with_reducible apply PG.wt_or)) | ((with_reducible apply PG.wt_not)) | ((with_reducible apply PG.wt_yes)) | ((with_reducible apply PG.wt_truL); (case hget => rfl)) | ((with_reducible apply PG.wo_none)) | ((with_reducible apply PG.wo_some)) | ((with_reducible apply PG.wg_p0)) | ((with_reducible apply PG.wg_tup)) | ((with_reducible apply PG.wg_ps); (case hset => (repeat' (first | exact PG.SetR.h0 | exact PG.SetR.h1 | exact PG.SetR.hl | exact PG.SetR.hc (by assumption) | apply PG.SetR.s)))) | ((with_reducible apply PG.wg_set); (case hset => (repeat' (first | exact PG.SetR.h0 | exact PG.SetR.h1 | exact PG.SetR.hl | exact PG.SetR.hc (by assumption) | apply PG.SetR.s)))) | ((with_reducible apply PG.we_frz); (case hget => rfl); (case hset => (repeat' (first | exact PG.SetR.h0 | exact PG.SetR.h1 | exact PG.SetR.hl | exact PG.SetR.hc (by assumption) | apply PG.SetR.s)))) | ((with_reducible apply PG.setr_i); (case hset => (repeat' (first | exact PG.SetR.h0 | exact PG.SetR.h1 | exact PG.SetR.hl | exact PG.SetR.hc (by assumption) | apply PG.SetR.s)))) | ((with_reducible apply PG.setl_i); (case hset => (repeat' (first | exact PG.SetLR.h0 | exact PG.SetLR.h1 | exact PG.SetLR.hl | apply PG.SetLR.s)))) | ((with_reducible apply PG.put_i); (case hset => (repeat' (first | exact PG.PutR.h | apply PG.PutR.s)))) | ((with_reducible apply PG.pool_i); (case hget => rfl)) | ((with_reducible apply PG.bool_i)) | ((with_reducible apply PG.int_i)) | ((with_reducible apply PG.seqL_i)) | ((with_reducible apply PG.seqT_i)) | ((with_reducible apply PG.seqR_i)) | ((with_reducible apply PG.starT_i)) | ((with_reducible apply PG.starL_i)) | ((with_reducible apply PG.len_i); (case h => rfl)) | ((with_reducible apply PG.tup_i)) | ((with_reducible apply PG.yes_i)) | ((with_reducible apply PG.no_i)) | ((with_reducible apply PG.nyes_i)) | ((with_reducible apply PG.nno_i)) | ((with_reducible apply PG.wa_add)) | ((with_reducible apply PG.wa_sub)) | ((with_reducible apply PG.wa_lt)) | ((with_reducible apply PG.wa_le)) | ((with_reducible apply PG.wa_gt)) | ((with_reducible apply PG.wa_ge)) | ((with_reducible apply PG.wa_eqI)) | ((with_reducible apply PG.wa_neI)) | ((with_reducible apply PG.wa_neg)) | ((with_reducible apply PG.wa_lenL)) | ((with_reducible apply PG.wa_lenT)) | ((with_reducible apply PG.wa_int)) | ((with_reducible apply PG.wa_max)) | ((with_reducible apply PG.wa_min)) | ((with_reducible apply PG.wb_bool)) | ((with_reducible apply PG.wb_int)) | ((with_reducible apply PG.endP_ret)) | ((with_reducible apply PG.endP_retL)) | ((with_reducible apply PG.endN_ret)) | ((with_reducible apply PG.endL_ret)) | ((with_reducible apply PG.endL_retL)) | ((with_reducible apply PG.wa_binO)) | ((with_reducible apply PG.ch_le)) | ((with_reducible apply PG.ch_lt)) | ((with_reducible apply PG.ch_eq)) | ((with_reducible apply PG.wa_ix0); (case hget => rfl)) | ((with_reducible apply PG.wa_ix1); (case hget => rfl)) | ((with_reducible apply PG.wa_ix2); (case hget => rfl)) | ((with_reducible apply PG.wa_ix3); (case hget => rfl)) | ((with_reducible apply PG.wa_ix4); (case hget => rfl)) | ((with_reducible apply PG.wa_ix5); (case hget => rfl)) | ((with_reducible apply PG.wa_ix6); (case hget => rfl)) | ((with_reducible apply PG.wa_ix7); (case hget => rfl)) | ((with_reducible apply PG.wa_ix8); (case hget => rfl)) | ((with_reducible apply PG.wa_il0); (case hget => rfl)) | ((with_reducible apply PG.wa_il1); (case hget => rfl)) | ((with_reducible apply PG.wa_il2); (case hget => rfl)) | ((with_reducible apply PG.wa_ev1)) | ((with_reducible apply PG.wa_ev)) | ((with_reducible apply PG.wl_ev)) | ((with_reducible apply PG.wb_ev)) | ((with_reducible apply PG.wa_mod); (case h1 => omega)) | ((with_reducible apply PG.wa_div); (case h1 => omega); (case h2 => omega)) | ((with_reducible apply PG.wa_mulR); (case h1 => omega); (case h2 => omega)) | ((with_reducible apply PG.wa_mulL); (case h1 => omega); (case h2 => omega)) | ((with_reducible apply PG.wa_shr); (case h1 => omega)))
local macro_rules | `(tactic| array_get_dec) => `(tactic| first | ((with_reducible apply Pr_C.wp_draw); (case hp => assumption); (case h0 => omega); (case h1 => omega)) | ((with_reducible apply Pr_C.ls_i); (case hp => assumption)))

local macro_rules | `(tactic| array_get_dec) => `(tactic| first | ((with_reducible apply Pr_P.wp_number); (case hp => assumption); (case h0 => omega); (case h1 => omega)) | ((with_reducible apply Pr_P.wp_row); (case hp => assumption); (case h0 => omega); (case h1 => omega)) | ((with_reducible apply Pr_P.wp_kind); (case hp => assumption)) | ((with_reducible apply Pr_P.wp_inner); (case hp => assumption)))

theorem wa_inL {k : Int} {F : List Int} {Q : PyData → Prop} (q : Q (.bool (decide (k ∈ F)))) : WA (dIn2 (.int k) (.list (IL F))) Q := by
  refine ⟨_, ?_, q⟩
  have e1 : (IL F).all flatD = true := by
    rw [List.all_eq_true]
    intro x hx
    obtain ⟨i, _, rfl⟩ := List.mem_map.mp hx
    rfl
  have e2 : memD (.int k) (IL F) = decide (k ∈ F) := by
    unfold memD
    rw [List.any_map]
    rw [Bool.eq_iff_iff, List.any_eq_true, decide_eq_true_eq]
    constructor
    · rintro ⟨x, hx, h⟩
      simp only [Function.comp, eqvI, decide_eq_true_eq] at h
      rw [h]; exact hx
    · intro h
      exact ⟨k, h, by simp [eqvI]⟩
  simp [dIn2, dMem, flatD, e1, e2]
theorem PutR.len {i : Nat} {a b : List PyData} {r r' : Rho} (h : PutR i a r b r') : r'.length = r.length := by
  induction h with
  | h => rfl
  | s _ ih => simp [ih]
/-- the three addresses of a world -/
theorem fresh_step (F : List Int) (v : Int) (hF : F.length ≤ 2) (h0 : 0 ≤ v) (h1 : v < 65536) :
    v ∉ F ∨ (v + 1) % 65536 ∉ F ∨ ((v + 1) % 65536 + 1) % 65536 ∉ F := by
  match F, hF with
  | [], _ => exact .inl (by simp)
  | [a], _ => simp only [List.mem_singleton]; omega
  | [a, b], _ => simp only [List.mem_cons, List.not_mem_nil, or_false]; omega
theorem world_while (A B : Option Cell) (F : List Int) (v : Int) (hF : F.length ≤ 2) (h0 : 0 ≤ v) (h1 : v < 65536) {c : SF} {S : Out → Rho → Prop}
    (q : ∀ w : Int, w ∉ F → 0 ≤ w → w < 65536 → WS c [A, B, some (.l false (IL F)), some (.v (.int w))] S) : WS (sSeq (sWhile (fun _ => FUEL) X_law_world_1 X_law_world_2) c) [A, B, some (.l false (IL F)), some (.v (.int v))] S := by
  refine ws_while (fun m ρ => ∃ w : Int, ρ = [A, B, some (.l false (IL F)), some (.v (.int w))] ∧ 0 ≤ w ∧ w < 65536 ∧ (w ∉ F ∨ (m = 1 ∧ (w + 1) % 65536 ∉ F) ∨ (m = 2 ∧ ((w + 1) % 65536 ∉ F ∨ ((w + 1) % 65536 + 1) % 65536 ∉ F))))
    (fun ρ => ∃ w : Int, ρ = [A, B, some (.l false (IL F)), some (.v (.int w))] ∧ 0 ≤ w ∧ w < 65536 ∧ w ∉ F) 2 (by unfold FUEL; decide) ⟨v, rfl, h0, h1, ?_⟩ ?_ ?_
  · have := fresh_step F v hF h0 h1
    rcases this with h | h | h
    · exact .inl h
    · exact .inr (.inr ⟨rfl, .inl h⟩)
    · exact .inr (.inr ⟨rfl, .inr h⟩)
  · rintro m ρ ⟨w, rfl, w0, w1, hw⟩
    unfold X_law_world_1
    (repeat array_get_dec)
    refine wa_inL ?_
    (repeat array_get_dec)
    (first | (with_reducible apply PG.dec_i) | (with_reducible apply PG.decn_i) | (with_reducible apply PG.bit_i)) <;> intro h
    · unfold X_law_world_2
      (repeat array_get_dec)
      refine ⟨rfl, ?_⟩
      rcases hw with hw | ⟨rfl, hw⟩ | ⟨rfl, hw | hw⟩
      · exact absurd h hw
      · exact ⟨0, by decide, _, rfl, by omega, by omega, .inl hw⟩
      · exact ⟨0, by decide, _, rfl, by omega, by omega, .inl hw⟩
      · exact ⟨1, by decide, _, rfl, by omega, by omega, .inr (.inl ⟨rfl, hw⟩)⟩
    · exact ⟨w, rfl, w0, w1, h⟩
  · rintro ρ1 ⟨w, rfl, w0, w1, hw⟩
    exact q w hw w0 w1
def Wd.v (a : List Int) (x y : Int) : PyData := .tuple [.tuple (IL a), .tuple [.int x, .int y]]
structure WdOk (a : List Int) (x y : Int) : Prop where
  l : a.length = 3
  nd : a.Nodup
  r : ∀ z ∈ a, 0 ≤ z ∧ z ≤ 65535
  x : 0 ≤ x ∧ x ≤ 65535
  y : 0 ≤ y ∧ y ≤ 65535
theorem world_ls : LS F_law_world [] fun d => ∃ a x y, d = Wd.v a x y ∧ WdOk a x y := by
  intro p hp
  unfold F_law_world; refine PG.wp_def rfl ?_; simp only [PG.rhoL_eq, List.map_cons, List.map_nil, List.replicate_succ, List.replicate_zero, List.cons_append, List.nil_append]; unfold B_law_world
  (repeat array_get_dec); intro f p1 k1 f0 f1; (repeat array_get_dec)
  refine ws_while (fun m ρ => ∃ (p' : Pool) (F : List Int) (c3 : Option Cell), ρ = [some (.l true p'.d), some (.v (.int f)), some (.l false (IL F)), c3] ∧ p'.ok ∧ F.length + m = 3 ∧ 1 ≤ F.length ∧ F.Nodup ∧ (∀ z ∈ F, 0 ≤ z ∧ z ≤ 65535) ∧ plainC c3)
    (fun ρ => ∃ (p' : Pool) (F : List Int) (c3 : Option Cell), ρ = [some (.l true p'.d), some (.v (.int f)), some (.l false (IL F)), c3] ∧ p'.ok ∧ F.length = 3 ∧ F.Nodup ∧ (∀ z ∈ F, 0 ≤ z ∧ z ≤ 65535) ∧ plainC c3)
    2 (by unfold FUEL; decide) ⟨p1, [f], none, rfl, k1, rfl, Nat.le_refl _, by simp, by simp; omega, .inl rfl⟩ ?_ ?_
  · rintro m ρ ⟨p', F, c3, rfl, kp, hl, h1, nd, rg, hc⟩
    unfold X_law_world_3
    (repeat array_get_dec)
    (first | (with_reducible apply PG.dec_i) | (with_reducible apply PG.decn_i) | (with_reducible apply PG.bit_i)) <;> intro h
    · unfold X_law_world_4
      have hl2 : F.length ≤ 2 := by simp at h; omega
      have fin : ∀ w : Int, w ∉ F → 0 ≤ w → w < 65536 → F.length + 1 + (m - 1) = 3 ∧ 1 ≤ (F ++ [w]).length ∧ (F ++ [w]).Nodup ∧ (∀ z ∈ F ++ [w], 0 ≤ z ∧ z ≤ 65535) := by
        intro w hw w0 w1
        refine ⟨by omega, by simp, ?_, ?_⟩
        · rw [List.nodup_append]
          exact ⟨nd, by simp, fun a ha b hb => by simp at hb; subst hb; exact fun e => hw (e ▸ ha)⟩
        · intro z hz
          rcases List.mem_append.mp hz with hz | hz
          · exact rg z hz
          · simp at hz; subst hz; omega
      rcases hc with rfl | ⟨y, rfl⟩
      all_goals
        (repeat array_get_dec); intro v2 p2 k2 a2 b2; (repeat array_get_dec); intro v3 p3 k3 a3 b3; (repeat array_get_dec)
        refine wa_pickI [v2 + ((IL F).length : Nat) - 1, f + ((IL F).length : Nat)] (fun _ => True) a3 (by simp; omega) (by simp) ?_
        intro t _; (repeat array_get_dec)
        refine world_while _ _ F _ hl2 (by omega) (by omega) ?_
        intro w hw w0 w1
        obtain ⟨g1, g2, g3, g4⟩ := fin w hw w0 w1
        (repeat array_get_dec)
        refine ⟨IL F, by simp; omega, ?_⟩
        (repeat array_get_dec)
        exact ⟨rfl, m - 1, by omega, p3, F ++ [w], some (.v (.int w)), by simp [IL], k3, by simp; omega, g2, g3, g4, .inr ⟨_, rfl⟩⟩
    · exact ⟨p', F, c3, rfl, kp, by simp at h; omega, nd, rg, hc⟩
  · rintro ρ1 ⟨p', F, c3, rfl, kp, hl, nd, rg, hc⟩
    (repeat array_get_dec); intro v4 p4 k4 a4 b4; (repeat array_get_dec); intro v5 p5 k5 a5 b5; (repeat array_get_dec)
    exact ⟨F, v4, v5, rfl, hl, nd, rg, ⟨a4, b4⟩, a5, b5⟩
theorem wa_getI {a : List Int} {v : Int} {Q : PyData → Prop} (h0 : 0 ≤ v) (h1 : v < a.length) (q : Q (.int (a.getD v.toNat 0))) : WA (dIx (.tuple (IL a)) (.int v)) Q := by
  refine ⟨_, ?_, q⟩
  have h2 : v.toNat < a.length := by omega
  show atD _ _ = _
  simp [atD, ixOf, h0, h1, h2]
theorem getD_mem {a : List Int} {n : Nat} (h : n < a.length) : a.getD n 0 ∈ a := by
  simp [List.getD, h]
theorem getD_ne {a : List Int} {n m : Nat} (nd : a.Nodup) (h : n < a.length) (h2 : m < a.length) (hne : n ≠ m) : a.getD n 0 ≠ a.getD m 0 := by
  simp only [List.getD, List.getElem?_eq_getElem h, List.getElem?_eq_getElem h2, Option.getD_some]
  intro e
  have pw := List.pairwise_iff_getElem.mp (show List.Pairwise (· ≠ ·) a from nd)
  rcases Nat.lt_or_gt_of_ne hne with g | g
  · exact pw n m h h2 g e
  · exact pw m n h2 h g e.symm
theorem wa_in2 {k a b : Int} {Q : PyData → Prop} (q : Q (.bool (decide (k = a) || decide (k = b)))) : WA (dIn2 (.int k) (.tuple [.int a, .int b])) Q := ⟨_, in2_int k a b, q⟩
local macro_rules | `(tactic| array_get_dec) => `(tactic| first | ((with_reducible apply Pr_P.wa_in2)))

theorem ports_we {p : Pool} {x2 : Option Cell} {k x y : Int} {a : List Int} {r : Rho} {Q : PyData → Rho → Prop} (hp : p.ok) (ok : WdOk a x y)
    (q : ∀ (u v : Int) (p' : Pool), p'.ok → 0 ≤ u → u ≤ 65535 → 0 ≤ v → v ≤ 65535 → (k ≠ 6 → k ≠ 17 → u = 0 ∧ v = 0) → Q (.tuple [.int u, .int v]) (some (.l true p'.d) :: some (.v (Wd.v a x y)) :: x2 :: some (.v (.int k)) :: r)) :
    WE (eIf (tBl (eBin dIn2 (eName 3) (eTup (nCons (eC (.int 6)) (nCons (eC (.int 17)) nNil))))) (eTup (nCons (eBin dIx (eBin dIx (eName 1) (eC (.int 1))) (eCallL F_law_draw 0 (nCons (eC (.int 2)) nNil))) (nCons (eBin dIx (eBin dIx (eName 1) (eC (.int 1))) (eCallL F_law_draw 0 (nCons (eC (.int 2)) nNil))) nNil))) (eTup (nCons (eC (.int 0)) (nCons (eC (.int 0)) nNil))))
      (some (.l true p.d) :: some (.v (Wd.v a x y)) :: x2 :: some (.v (.int k)) :: r) Q := by
  have hx := ok.x
  have hy := ok.y
  unfold Wd.v at *
  (repeat array_get_dec)
  (first | (with_reducible apply PG.dec_i) | (with_reducible apply PG.decn_i) | (with_reducible apply PG.bit_i)) <;> intro h
  · (repeat array_get_dec); intro v1 p1 k1 a1 b1; (repeat array_get_dec)
    refine wa_pickI [x, y] (fun z => 0 ≤ z ∧ z ≤ 65535) a1 b1 (by simp; omega) ?_
    intro u hu; (repeat array_get_dec); intro v2 p2 k2 a2 b2; (repeat array_get_dec)
    refine wa_pickI [x, y] (fun z => 0 ≤ z ∧ z ≤ 65535) a2 b2 (by simp; omega) ?_
    intro v hv; (repeat array_get_dec)
    refine q u v p2 k2 hu.1 hu.2 hv.1 hv.2 fun h6 h17 => ?_
    simp [h6, h17] at h
  · (repeat array_get_dec)
    exact q 0 0 p hp (by decide) (by decide) (by decide) (by decide) fun _ _ => ⟨rfl, rfl⟩
theorem flags_we {p : Pool} {W x2 : Option Cell} {k : Int} {r : Rho} {Q : PyData → Rho → Prop} (hp : p.ok)
    (q : ∀ (u : Int) (p' : Pool), p'.ok → 0 ≤ u → u ≤ 7 → (k ≠ 6 → u = 0) → Q (.int u) (some (.l true p'.d) :: W :: x2 :: some (.v (.int k)) :: r)) :
    WE (eIf (tBl (eBin dEq (eName 3) (eC (.int 6)))) (eBin dIx (eTup (nCons (eC (.int 0)) (nCons (eC (.int 1)) (nCons (eC (.int 1)) (nCons (eC (.int 2)) (nCons (eC (.int 4)) (nCons (eCallL F_law_draw 0 (nCons (eC (.int 8)) nNil)) nNil))))))) (eCallL F_law_draw 0 (nCons (eC (.int 6)) nNil))) (eC (.int 0)))
      (some (.l true p.d) :: W :: x2 :: some (.v (.int k)) :: r) Q := by
  (repeat array_get_dec)
  (first | (with_reducible apply PG.dec_i) | (with_reducible apply PG.decn_i) | (with_reducible apply PG.bit_i)) <;> intro h
  · (repeat array_get_dec); intro v1 p1 k1 a1 b1; (repeat array_get_dec); intro v2 p2 k2 a2 b2; (repeat array_get_dec)
    refine wa_pickI [0, 1, 1, 2, 4, v1] (fun z => 0 ≤ z ∧ z ≤ 7) a2 b2 (by simp; omega) ?_
    intro u hu
    exact q u p2 k2 hu.1 hu.2 fun z => absurd h z
  · (repeat array_get_dec)
    exact q 0 p hp (by decide) (by decide) fun _ => rfl
theorem code_we {p : Pool} {W x2 : Option Cell} {k : Int} {r : Rho} {Q : PyData → Rho → Prop} (hp : p.ok)
    (q : ∀ (u : Int) (p' : Pool), p'.ok → 0 ≤ u → u ≤ 65535 → (k ≠ 1 → u = 0) → Q (.int u) (some (.l true p'.d) :: W :: x2 :: some (.v (.int k)) :: r)) :
    WE (eIf (tBl (eBin dEq (eName 3) (eC (.int 1)))) (eCallL F_law_draw 0 (nCons (eC (.int 65536)) nNil)) (eC (.int 0)))
      (some (.l true p.d) :: W :: x2 :: some (.v (.int k)) :: r) Q := by
  (repeat array_get_dec)
  (first | (with_reducible apply PG.dec_i) | (with_reducible apply PG.decn_i) | (with_reducible apply PG.bit_i)) <;> intro h
  · (repeat array_get_dec); intro v1 p1 k1 a1 b1; (repeat array_get_dec)
    exact q v1 p1 k1 a1 (by omega) fun z => absurd h z
  · (repeat array_get_dec)
    exact q 0 p hp (by decide) (by decide) fun _ => rfl
local macro_rules | `(tactic| array_get_dec) => `(tactic| first | ((with_reducible apply Pr_P.ports_we); (case hp => assumption); (case ok => assumption)) | ((with_reducible apply Pr_P.flags_we); (case hp => assumption)) | ((with_reducible apply Pr_P.code_we); (case hp => assumption)))

theorem sight_ls (a : List Int) (x y most : Int) (ok : WdOk a x y) (h0 : 0 ≤ most) (h1 : most ≤ 1000) : LS F_law_sight [Wd.v a x y, .int most] fun d => ∃ s : Si, d = s.v ∧ s.Ok ∧ s.n ≤ 12 + isz s.k + (if most < 1 then 1 else most) := by
  intro p hp
  have hl := ok.l
  unfold F_law_sight; refine PG.wp_def rfl ?_; simp only [PG.rhoL_eq, List.map_cons, List.map_nil, List.replicate_succ, List.replicate_zero, List.cons_append, List.nil_append]; unfold B_law_sight
  (repeat array_get_dec); intro v1 p1 k1 a1 b1; (repeat array_get_dec); intro v2 p2 k2 a2 b2; (repeat array_get_dec)
  refine wa_pickI [6, 6, 6, 17, 17, 1, v1] (fun z => 0 ≤ z ∧ z ≤ 255) a2 b2 (by simp; omega) ?_
  intro k hk; (repeat array_get_dec); intro v3 p3 k3 a3 b3; (repeat array_get_dec)
  refine ⟨.tuple (IL a), rfl, ?_⟩
  (repeat array_get_dec)
  refine wa_getI a3 (by omega) ?_
  (repeat array_get_dec)
  refine ⟨.tuple (IL a), rfl, ?_⟩
  (repeat array_get_dec); intro v4 p4 k4 a4 b4; (repeat array_get_dec)
  refine wa_getI (by omega) (by omega) ?_
  (repeat array_get_dec)
  intro u1 u2 p5 k5 c1 c2 c3 c4 c5
  (repeat array_get_dec)
  intro fl p6 k6 d1 d2 d3
  (repeat array_get_dec)
  intro cd p7 k7 g1 g2 g3
  (repeat array_get_dec)
  refine ⟨_, law_least_ok k, ?_⟩
  (repeat array_get_dec); intro v8 p8 k8 a8 b8; (repeat array_get_dec); intro v9 p9 k9 a9 b9; (repeat array_get_dec)
  refine wa_pickI [0, 0, 1, v8] (fun z => 0 ≤ z ∧ z ≤ (if most < 1 then 1 else most)) a9 b9 (by simp; split <;> omega) ?_
  intro le hle; (repeat array_get_dec); intro v10 p10 k10 a10 b10; (repeat array_get_dec)
  have m1 := ok.r _ (getD_mem (a := a) (n := v3.toNat) (by omega))
  have m2 := ok.r _ (getD_mem (a := a) (n := ((v3 + 1 + v4) % 3).toNat) (by omega))
  have hb := isz_bd k
  have hm : (if most < 1 then 1 else most) ≤ 1000 := by split <;> omega
  refine ⟨⟨v10, k, a.getD v3.toNat 0, u1, a.getD ((v3 + 1 + v4) % 3).toNat 0, u2, fl, cd, 12 + isz k + le⟩, rfl, ⟨⟨a10, by dsimp only; omega⟩, hk, m1, ⟨c1, c2⟩, m2, ⟨c3, c4⟩, ⟨d1, d2⟩, ⟨g1, g2⟩, ?_, getD_ne ok.nd (by omega) (by omega) (by omega), c5, d3, g3⟩, by dsimp only; omega⟩
  dsimp only
  omega
theorem wp_packet {p : Pool} {most : Int} {Q : PyData → List PyData → Prop} (hp : p.ok) (h0 : 0 ≤ most) (h1 : most ≤ 900) (q : ∀ (k : Pk) (p' : Pool), p'.ok → k.Ok → (k.p.length : Int) ≤ most → Q k.v p'.d) : WP (F_law_packet p.d [.int most]) Q :=
  wp_ls (packet_ls most h0 h1) hp fun z p' hp' ⟨k, e, a, b⟩ => by subst e; exact q k p' hp' a b
theorem wp_world {p : Pool} {Q : PyData → List PyData → Prop} (hp : p.ok) (q : ∀ (a : List Int) (x y : Int) (p' : Pool), p'.ok → WdOk a x y → Q (Wd.v a x y) p'.d) : WP (F_law_world p.d []) Q :=
  wp_ls world_ls hp fun z p' hp' ⟨a, x, y, e, b⟩ => by subst e; exact q a x y p' hp' b
theorem wp_sight {p : Pool} {a : List Int} {x y most : Int} {Q : PyData → List PyData → Prop} (hp : p.ok) (ok : WdOk a x y) (h0 : 0 ≤ most) (h1 : most ≤ 1000)
    (q : ∀ (s : Si) (p' : Pool), p'.ok → s.Ok → s.n ≤ 12 + isz s.k + (if most < 1 then 1 else most) → Q s.v p'.d) : WP (F_law_sight p.d [Wd.v a x y, .int most]) Q :=
  wp_ls (sight_ls a x y most ok h0 h1) hp fun z p' hp' ⟨s, e, b, c⟩ => by subst e; exact q s p' hp' b c
end Pr_P
end
section
set_option linter.all false
set_option maxRecDepth 100000
set_option Elab.async false
namespace Pr_P
open PySem PG Pr_C Pr_D Pr_S
/-! ### the bytes of a packet -/
def tw (n : Int) : List Int := [n / 256, n % 256]
def chk (e : List Int) : Int := 65535 - fo (wds e).sum
def hdr (p : Pk) : List Int := [70 + (p.o.length : Int) / 2, p.k] ++ tw p.len ++ [p.t, 0]
def eds (p : Pk) : List Int := tw p.s ++ tw p.d
def inb : Inn → List Int
  | .st a b f => tw a ++ tw b ++ [f, 0]
  | .ask a b => tw a ++ tw b
  | .note t c => [t, c]
  | .oth => []
def sum1 (p : Pk) : Int := chk (hdr p ++ [0, 0] ++ eds p ++ p.o)
def rst (p : Pk) : List Int := match p.i with
  | .oth => []
  | i => inb i ++ [0, 0] ++ p.p
def sum2 (p : Pk) : Int := chk (eds p ++ tw p.k ++ tw (rst p).length ++ rst p)
def byt (p : Pk) : List Int := hdr p ++ tw (sum1 p) ++ eds p ++ p.o ++ match p.i with
  | .oth => p.p
  | i => inb i ++ tw (sum2 p) ++ p.p
theorem tw_row {n : Int} (h0 : 0 ≤ n) (h1 : n ≤ 65535) : ∀ x ∈ tw n, 0 ≤ x ∧ x ≤ 255 := by
  intro x hx
  simp only [tw, List.mem_cons, List.not_mem_nil, or_false] at hx
  rcases hx with rfl | rfl <;> omega
theorem two_ok' (n : Int) : F_two [.int n] = some (.tuple (IL (tw n))) := by
  simp [F_two, B_two, defP, tw]
theorem ltwo_ok' (n : Int) : F_law_two [.int n] = some (.tuple (IL (tw n))) := two_ok n
theorem fo_bd {t : Int} (h : 0 ≤ t) : 0 ≤ fo t ∧ fo t ≤ 65535 := by
  unfold fo; split <;> omega
theorem chk_bd {e : List Int} (h : Row e) : 0 ≤ chk e ∧ chk e ≤ 65535 := by
  have := fo_bd (row_sum h).1
  unfold chk; omega
theorem row_app {a b : List Int} (h1 : ∀ x ∈ a, 0 ≤ x ∧ x ≤ 255) (h2 : ∀ x ∈ b, 0 ≤ x ∧ x ≤ 255) : ∀ x ∈ a ++ b, 0 ≤ x ∧ x ≤ 255 := fun x hx => (List.mem_append.mp hx).elim (h1 x) (h2 x)
theorem row_cons {a : Int} {b : List Int} (h0 : 0 ≤ a) (h1 : a ≤ 255) (h2 : ∀ x ∈ b, 0 ≤ x ∧ x ≤ 255) : ∀ x ∈ a :: b, 0 ≤ x ∧ x ≤ 255 := fun x hx => (List.mem_cons.mp hx).elim (fun e => e ▸ ⟨h0, h1⟩) (h2 x)
theorem row_nil : ∀ x ∈ ([] : List Int), 0 ≤ x ∧ x ≤ 255 := by simp
section
variable {p : Pk} (h : p.Ok) (hl : p.len ≤ 1500)
include h hl
theorem hdr_row : ∀ x ∈ hdr p, 0 ≤ x ∧ x ≤ 255 := by
  have h1 := h.o.2.1
  have h2 := isz_bd p.k
  have h3 : 0 ≤ p.len := by simp only [Pk.len]; omega
  have h4 := h.k
  have h5 := h.t
  exact row_app (row_app (row_cons (by omega) (by omega) (row_cons h4.1 h4.2 row_nil)) (tw_row h3 (by omega))) (row_cons (by omega) h5.2 (row_cons (by decide) (by decide) row_nil))
theorem eds_row : ∀ x ∈ eds p, 0 ≤ x ∧ x ≤ 255 := row_app (tw_row h.s.1 h.s.2) (tw_row h.d.1 h.d.2)
theorem sum1_row : Row (hdr p ++ [0, 0] ++ eds p ++ p.o) := by
  refine ⟨row_app (row_app (row_app (hdr_row h hl) (row_cons (by decide) (by decide) (row_cons (by decide) (by decide) row_nil))) (eds_row h hl)) h.o.1, ?_⟩
  have := h.o.2.1
  simp [hdr, eds, tw]
  omega
theorem inb_row : ∀ x ∈ inb p.i, 0 ≤ x ∧ x ≤ 255 := by
  have hi := h.i
  revert hi
  cases p.i with
  | st a b f => exact fun ⟨_, h1, h2, h3⟩ => row_app (row_app (tw_row h1.1 h1.2) (tw_row h2.1 h2.2)) (row_cons h3.1 (by omega) (row_cons (by decide) (by decide) row_nil))
  | ask a b => exact fun ⟨_, h1, h2⟩ => row_app (tw_row h1.1 h1.2) (tw_row h2.1 h2.2)
  | note a b => exact fun ⟨_, h1, h2⟩ => row_cons h1.1 h1.2 (row_cons h2.1 h2.2 row_nil)
  | oth => exact fun _ => row_nil
theorem rst_row : (∀ x ∈ rst p, 0 ≤ x ∧ x ≤ 255) ∧ (rst p).length ≤ 1508 := by
  have h0 := inb_row h hl
  have h1 := h.p
  unfold rst
  revert h0
  cases p.i with
  | oth => exact fun _ => ⟨row_nil, by simp⟩
  | _ => exact fun h0 => ⟨row_app (row_app h0 (row_cons (by decide) (by decide) (row_cons (by decide) (by decide) row_nil))) h1.1, by simp [inb, tw]; omega⟩
theorem sum2_row : Row (eds p ++ tw p.k ++ tw (rst p).length ++ rst p) := by
  have h0 := rst_row h hl
  have h1 := h.k
  refine ⟨row_app (row_app (row_app (eds_row h hl) (tw_row h1.1 (by omega))) (tw_row (by omega) (by omega))) h0.1, ?_⟩
  simp [eds, tw]
  omega
end
end Pr_P
end
section
set_option linter.all false
set_option maxRecDepth 100000
set_option Elab.async false
namespace Pr_P
open PySem PG Pr_C Pr_D Pr_S
instance {n : Int} : Ev F_two [.int n] (.tuple (IL (tw n))) := ⟨two_ok' n⟩
instance {n : Int} : Ev F_law_two [.int n] (.tuple (IL (tw n))) := ⟨ltwo_ok' n⟩
instance {k : Int} : Ev F_law_inner_size [.int k] (.int (isz k)) := ⟨isize_ok k⟩
instance {k : Int} : Ev F_head_bytes [.int k] (.int (isz k)) := ⟨head_ok k⟩
theorem inn_cases (P : Inn → Prop) (h1 : ∀ a b f, P (.st a b f)) (h2 : ∀ a b, P (.ask a b)) (h3 : ∀ a b, P (.note a b)) (h4 : P .oth) : ∀ i, P i
  | .st a b f => h1 a b f
  | .ask a b => h2 a b
  | .note a b => h3 a b
  | .oth => h4
def inb0 : Inn → List Int
  | .st a b f => tw a ++ tw b ++ [f, 0, 0, 0]
  | .ask a b => tw a ++ tw b ++ [0, 0]
  | .note t c => [t, c, 0, 0]
  | .oth => []
theorem inner_bytes_ok (i : Inn) (k : Int) (h : i.ok k) : F_inner_bytes [.int k, .tuple (IL i.l)] = some (.tuple (IL (inb0 i))) := by
  cases i with
  | st a b f =>
    obtain ⟨rfl, _⟩ := h
    simp [F_inner_bytes, B_inner_bytes, defP, dEq, Inn.l, atD, ixOf, two_ok', tw, inb0]
  | ask a b =>
    obtain ⟨rfl, _⟩ := h
    simp [F_inner_bytes, B_inner_bytes, defP, dEq, Inn.l, atD, ixOf, two_ok', tw, inb0]
  | note a b =>
    obtain ⟨rfl, _⟩ := h
    simp [F_inner_bytes, B_inner_bytes, defP, dEq, Inn.l, atD, ixOf, two_ok', tw, inb0]
  | oth =>
    obtain ⟨h1, h2, h3⟩ := h
    simp [F_inner_bytes, B_inner_bytes, defP, dEq, Inn.l, atD, ixOf, two_ok', tw, inb0, h1, h2, h3]
theorem inner_row_ok (s d k : Int) (e : List Int) (hl : e.length ≤ 10000) : F_inner_row [.int s, .int d, .int k, .tuple (IL e)] = some (.tuple (IL (tw s ++ tw d ++ tw k ++ tw e.length ++ e))) := by
  have h2 : e.length + 1 + 1 + 1 + 1 + 1 + 1 + 1 + 1 ≤ 16777216 := by omega
  simp [F_inner_row, B_inner_row, defP, two_ok', tw, h2]
theorem wa_sum {xs : List PyData} {Q : PyData → Prop} (e : List Int) (hx : xs = IL e) (r : Row e) (q : Q (.int (chk e))) : WA (F_sum_of [.tuple xs]) Q := by
  subst hx
  exact ⟨_, sum_of_ok r, q⟩
theorem wa_chk {xs : List PyData} {Q : PyData → Prop} (e : List Int) (hx : xs = IL e) (r : Row e) (q : Q (.int (chk e))) : WA (F_law_check [.tuple xs]) Q := by
  subst hx
  exact ⟨_, law_check_ok r, q⟩
local macro_rules | `(tactic| array_get_dec) => `(tactic| first | ((with_reducible apply PG.ws_set)) | ((with_reducible apply PG.ws_if)) | ((with_reducible apply PG.ws_ret)) | ((with_reducible apply PG.ws_setL)) | ((with_reducible apply PG.ws_expr)) | ((with_reducible apply PG.ws_nilc)) | ((with_reducible apply PG.ws_asc)) | ((with_reducible apply PG.ws_nil)) | ((with_reducible apply PG.ws_for)) | ((with_reducible apply PG.ws_asg)) | ((with_reducible apply PG.ws_par)) | ((with_reducible apply PG.ws_retL)) | ((with_reducible apply PG.ws_brk)) | ((with_reducible apply PG.ws_cont)) | ((with_reducible apply PG.ws_forn)) | ((with_reducible apply PG.ws_sto)) | ((with_reducible apply PG.ws_aug); (case hget => rfl)) | ((with_reducible apply PG.ws_app); (case hget => rfl)) | ((with_reducible apply PG.ws_retO); (case hget => rfl)) | ((with_reducible apply PG.we_name); (case hget => rfl)) | ((with_reducible apply PG.we_c)) | ((with_reducible apply PG.we_bin)) | ((with_reducible apply PG.we_un)) | ((with_reducible apply PG.we_call)) | ((with_reducible apply PG.we_callL); (case hget => rfl)) | ((with_reducible apply PG.we_tup)) | ((with_reducible apply PG.we_lst)) | ((with_reducible apply PG.we_if)) | ((with_reducible apply PG.we_ixL); (case hget => rfl)) | ((with_reducible apply PG.we_unL); (case hget => rfl)) | ((with_reducible apply PG.we_and)) | ((with_reducible apply PG.we_or)) | ((with_reducible apply PG.we_not)) | ((with_reducible apply PG.we_chain)) | ((with_reducible apply PG.we_slT)) | ((with_reducible apply PG.wn_cons)) | ((with_reducible apply PG.wn_nil)) | ((with_reducible apply PG.wn_star)) | ((with_reducible apply PG.wn_disp)) | ((with_reducible apply PG.wn_call)) | ((with_reducible apply PG.wn_sl)) | ((with_reducible apply PG.wn_its)) | ((with_reducible apply PG.wn_r1)) | ((with_reducible apply PG.wn_r2)) | ((with_reducible apply PG.wn_r3)) | ((with_reducible apply PG.wt_tru)) | ((with_reducible apply PG.wt_bl)) | ((with_reducible apply PG.wt_and)) | ((with_reducible apply PG.wt_or)) | ((with_reducible apply PG.wt_not)) | ((with_reducible apply PG.wt_yes)) | ((with_reducible apply PG.wt_truL); (case hget => rfl)) | ((with_reducible apply PG.wo_none)) | ((with_reducible apply PG.wo_some)) | ((with_reducible apply PG.wg_p0)) | ((with_reducible apply PG.wg_tup)) | ((with_reducible apply PG.wg_ps); (case hset => (repeat' (first | exact PG.SetR.h0 | exact PG.SetR.h1 | exact PG.SetR.hl | exact PG.SetR.hc (by assumption) | apply PG.SetR.s)))) | ((with_reducible apply PG.wg_set); (case hset => (repeat' (first | exact PG.SetR.h0 | exact PG.SetR.h1 | exact PG.SetR.hl | exact PG.SetR.hc (by assumption) | apply PG.SetR.s)))) | ((with_reducible apply PG.we_frz); (case hget => rfl); (case hset => (repeat' (first | exact PG.SetR.h0 | exact PG.SetR.h1 | exact PG.SetR.hl | exact PG.SetR.hc (by assumption) | apply PG.SetR.s)))) | ((with_reducible apply PG.setr_i); (case hset => (repeat' (first | exact PG.SetR.h0 | exact PG.SetR.h1 | exact PG.SetR.hl | exact PG.SetR.hc (by assumption) | apply PG.SetR.s)))) | ((with_reducible apply PG.setl_i); (case hset => (repeat' (first | exact PG.SetLR.h0 | exact PG.SetLR.h1 | exact PG.SetLR.hl | apply PG.SetLR.s)))) | ((with_reducible apply PG.put_i); (case hset => (repeat' (first | exact PG.PutR.h | apply PG.PutR.s)))) | ((with_reducible apply PG.pool_i); (case hget => rfl)) | ((with_reducible apply PG.bool_i)) | ((with_reducible apply PG.int_i)) | ((with_reducible apply PG.seqL_i)) | ((with_reducible apply PG.seqT_i)) | ((with_reducible apply PG.seqR_i)) | ((with_reducible apply PG.starT_i)) | ((with_reducible apply PG.starL_i)) | ((with_reducible apply PG.len_i); (case h => rfl)) | ((with_reducible apply PG.tup_i)) | ((with_reducible apply PG.yes_i)) | ((with_reducible apply PG.no_i)) | ((with_reducible apply PG.nyes_i)) | ((with_reducible apply PG.nno_i)) | ((with_reducible apply PG.wa_add)) | ((with_reducible apply PG.wa_sub)) | ((with_reducible apply PG.wa_lt)) | ((with_reducible apply PG.wa_le)) | ((with_reducible apply PG.wa_gt)) | ((with_reducible apply PG.wa_ge)) | ((with_reducible apply PG.wa_eqI)) | ((with_reducible apply PG.wa_neI)) | ((with_reducible apply PG.wa_neg)) | ((with_reducible apply PG.wa_lenL)) | ((with_reducible apply PG.wa_lenT)) | ((with_reducible apply PG.wa_int)) | ((with_reducible apply PG.wa_max)) | ((with_reducible apply PG.wa_min)) | ((with_reducible apply PG.wb_bool)) | ((with_reducible apply PG.wb_int)) | ((with_reducible apply PG.endP_ret)) | ((with_reducible apply PG.endP_retL)) | ((with_reducible apply PG.endN_ret)) | ((with_reducible apply PG.endL_ret)) | ((with_reducible apply PG.endL_retL)) | ((with_reducible apply PG.wa_binO)) | ((with_reducible apply PG.ch_le)) | ((with_reducible apply PG.ch_lt)) | ((with_reducible apply PG.ch_eq)) | ((with_reducible apply PG.wa_ix0); (case hget => rfl)) | ((with_reducible apply PG.wa_ix1); (case hget => rfl)) | ((with_reducible apply PG.wa_ix2); (case hget => rfl)) | ((with_reducible apply PG.wa_ix3); (case hget => rfl)) | ((with_reducible apply PG.wa_ix4); (case hget => rfl)) | ((with_reducible apply PG.wa_ix5); (case hget => rfl)) | ((with_reducible apply PG.wa_ix6); (case hget => rfl)) | ((with_reducible apply PG.wa_ix7); (case hget => rfl)) | ((with_reducible apply PG.wa_ix8); (case hget => rfl)) | ((with_reducible apply PG.wa_il0); (case hget => rfl)) | ((with_reducible apply PG.wa_il1); (case hget => rfl)) | ((with_reducible apply PG.wa_il2); (case hget => rfl)) | ((with_reducible apply PG.wa_ev1)) | ((with_reducible apply PG.wa_ev)) | ((with_reducible apply PG.wl_ev)) | ((with_reducible apply PG.wb_ev)) | ((with_reducible apply PG.wa_mod); (case h1 => omega)) | ((with_reducible apply PG.wa_div); (case h1 => omega); (case h2 => omega)) | ((with_reducible apply PG.wa_mulR); (case h1 => omega); (case h2 => omega)) | ((with_reducible apply PG.wa_mulL); (case h1 => omega); (case h2 => omega)) | ((with_reducible apply PG.wa_shr); (case h1 => omega)))
local macro_rules | `(tactic| array_get_dec) => `(tactic| first | ((with_reducible apply Pr_C.wp_draw); (case hp => assumption); (case h0 => omega); (case h1 => omega)) | ((with_reducible apply Pr_C.ls_i); (case hp => assumption)))

theorem cut_lo (a b : List PyData) (n : Int) (hn : n = (a.length : Int)) : cutD (a ++ b) none (some n) = a := by
  subst hn
  have h1 : ¬ ((a.length : Nat) : Int) < 0 := by omega
  simp only [cutD, sIxD, h1, if_false, List.drop_zero, Nat.sub_zero, Int.toNat_natCast, List.length_append]
  rw [show min a.length (a.length + b.length) = a.length by omega]
  simp
theorem cut_hi (a b : List PyData) (n : Int) (hn : n = (a.length : Int)) : cutD (a ++ b) (some n) none = b := by
  subst hn
  have h1 : ¬ ((a.length : Nat) : Int) < 0 := by omega
  simp only [cutD, sIxD, h1, if_false, Int.toNat_natCast, List.length_append]
  rw [show min a.length (a.length + b.length) = a.length by omega]
  simp
theorem wtail (x0 x3 : Option Cell) (X1 X2 : List PyData) (s d k t : Int) (o x10 x11 : Option Cell) (c1 : Int) (A Z : List Int) (at_ : Int) (hat : at_ = (A.length : Int)) (hA : A.length ≤ 6) (hZ : Z.length ≤ 1500) (l1 : X1.length ≤ 10) (l2 : X2.length ≤ 20)
    (hr : Row (tw s ++ tw d ++ tw k ++ tw ((A ++ [0, 0] ++ Z).length) ++ (A ++ [0, 0] ++ Z))) (res : PyData)
    (hin : dInT [(6, 6), (17, 4), (1, 2)] (.int k) = some (.bool true)) (hix : dIxT [(6, 6), (17, 4), (1, 2)] (.int k) = some (.int at_))
    (hres : res = .tuple (X1 ++ IL (tw c1) ++ X2 ++ IL (A ++ tw (chk (tw s ++ tw d ++ tw k ++ tw ((A ++ [0, 0] ++ Z).length) ++ (A ++ [0, 0] ++ Z))) ++ Z))) :
    WS (sSeq (sIf (tBl (eUn (dInT [(6, 6), (17, 4), (1, 2)]) (eName 7)))
  (sSeq (sSet 12 (eUn (dIxT [(6, 6), (17, 4), (1, 2)]) (eName 7)))
  (sSeq (sSet 13 (eCall F_sum_of (nCons (eCall F_inner_row (nCons (eName 5) (nCons (eName 6) (nCons (eName 7) (nCons (eName 4) nNil))))) nNil)))
  (sSeq (sSet 4 (eTup (nStar (eSlT (eName 4) none (some (eName 12))) (nStar (eCall F_two (nCons (eName 13) nNil)) (nStar (eSlT (eName 4) (some (eBin dAdd (eName 12) (eC (.int 2)))) none) nNil)))))
  sNil)))
  sNil)
  (sSeq (sRet (eTup (nStar (eName 1) (nStar (eCall F_two (nCons (eName 3) nNil)) (nStar (eName 2) (nStar (eName 4) nNil))))))
  sNil)) [x0, some (.v (.tuple X1)), some (.v (.tuple X2)), some (.v (.int c1)), some (.v (.tuple (IL (A ++ [0, 0] ++ Z)))), some (.v (.int s)), some (.v (.int d)), some (.v (.int k)), some (.v (.int t)), o, x10, x11, none, none] (EndP fun x => x = res) := by
  have l3 : (IL (tw c1)).length = 2 := rfl
  have l4 := fun n => (show (IL (tw n)).length = 2 from rfl)
  (repeat array_get_dec)
  refine wa_eq hin ?_
  (repeat array_get_dec)
  refine wa_eq hix ?_
  (repeat array_get_dec)
  refine wa_eq (inner_row_ok s d k (A ++ [0, 0] ++ Z) (by simp; omega)) ?_
  (repeat array_get_dec)
  refine wa_sum _ rfl hr ?_
  (repeat array_get_dec)
  have e1 : IL (A ++ [0, 0] ++ Z) = IL A ++ IL ([0, 0] ++ Z) := by simp [IL]
  have e2 : IL (A ++ [0, 0] ++ Z) = IL (A ++ [0, 0]) ++ IL Z := by simp [IL]
  rw [show cutD (IL (A ++ [0, 0] ++ Z)) none (some at_) = IL A by rw [e1]; exact cut_lo _ _ _ (by simpa using hat)]
  (repeat array_get_dec)
  rw [show cutD (IL (A ++ [0, 0] ++ Z)) (some (at_ + 2)) none = IL Z by rw [e2]; exact cut_hi _ _ _ (by simp; omega)]
  (repeat array_get_dec)
  refine ⟨by simp [tw]; omega, ?_⟩
  (repeat array_get_dec)
  refine ⟨by simp [tw]; omega, ?_⟩
  (repeat array_get_dec)
  rw [hres]
  simp [IL]
theorem wtail0 (x0 x3 : Option Cell) (X1 X2 : List PyData) (s d k t : Int) (o x10 x11 : Option Cell) (c1 : Int) (Z : List PyData) (hZ : Z.length ≤ 1500) (l1 : X1.length ≤ 10) (l2 : X2.length ≤ 20) (res : PyData)
    (hin : dInT [(6, 6), (17, 4), (1, 2)] (.int k) = some (.bool false))
    (hres : res = .tuple (X1 ++ IL (tw c1) ++ X2 ++ Z)) {a b c : SF} :
    WS (sSeq (sIf (tBl (eUn (dInT [(6, 6), (17, 4), (1, 2)]) (eName 7)))
  (sSeq a (sSeq b c))
  sNil)
  (sSeq (sRet (eTup (nStar (eName 1) (nStar (eCall F_two (nCons (eName 3) nNil)) (nStar (eName 2) (nStar (eName 4) nNil))))))
  sNil)) [x0, some (.v (.tuple X1)), some (.v (.tuple X2)), some (.v (.int c1)), some (.v (.tuple Z)), some (.v (.int s)), some (.v (.int d)), some (.v (.int k)), some (.v (.int t)), o, x10, x11, none, none] (EndP fun x => x = res) := by
  (repeat array_get_dec)
  refine wa_eq hin ?_
  (repeat array_get_dec)
  refine ⟨by simp [tw]; omega, ?_⟩
  (repeat array_get_dec)
  rw [hres]
  simp
theorem write_ok (p : Pk) (h : p.Ok) (hl : p.len ≤ 1500) : F_write_packet [p.v] = some (.tuple (IL (byt p))) := by
  refine of_wa ?_
  have hlen := length_ok (.int p.s) (.int p.d) (.int p.t) (.tuple (IL p.i.l)) p.k (IL p.o) (IL p.p)
  have s1 := sum1_row h hl
  have s2 := sum2_row h hl
  have ib := inner_bytes_ok p.i p.k h.i
  have ho := h.o.2.1
  have hp := h.p.2
  have hi := h.i
  simp only [IL, List.length_map] at hlen
  unfold Pk.v
  unfold F_write_packet; refine PG.wa_def rfl ?_; simp only [PG.rho0_eq, List.map_cons, List.map_nil, List.replicate_succ, List.replicate_zero, List.cons_append, List.nil_append]; unfold B_write_packet
  (repeat array_get_dec)
  refine wa_eq hlen ?_
  (repeat array_get_dec)
  refine ⟨by simp [tw]; omega, ?_⟩
  (repeat array_get_dec)
  refine ⟨by simp [tw]; omega, ?_⟩
  (repeat array_get_dec)
  refine wa_sum _ ?_ s1 ?_
  · simp [IL, hdr, eds, tw, Pk.len]
  (repeat array_get_dec)
  refine wa_eq ib ?_
  (repeat array_get_dec)
  refine ⟨by simp; cases p.i <;> simp [inb0, tw] <;> omega, ?_⟩
  refine setr_i (hset := by repeat' (first | exact PG.SetR.h0 | apply PG.SetR.s)) ?_
  obtain ⟨s, d, k, t, o, i, pp⟩ := p
  dsimp only at *
  cases i with
  | st a b f =>
    obtain ⟨rfl, _⟩ := hi
    have s2' : Row (tw s ++ tw d ++ tw _ ++ tw ((tw a ++ tw b ++ [f, 0] ++ [0, 0] ++ pp).length) ++ (tw a ++ tw b ++ [f, 0] ++ [0, 0] ++ pp)) := s2
    rw [show IL (inb0 (.st a b f)) ++ (IL pp ++ []) = IL (tw a ++ tw b ++ [f, 0] ++ [0, 0] ++ pp) by simp [IL, inb0]]
    refine wtail _ none _ _ _ _ _ _ _ _ _ _ (tw a ++ tw b ++ [f, 0]) pp 6 (by rfl) (by simp [tw]) hp (by simp [tw]) (by simp [tw]; omega) s2' _ (by rfl) (by rfl) ?_
    simp [byt, hdr, eds, tw, inb, sum1, sum2, rst, Pk.len, IL]
  | ask a b =>
    obtain ⟨rfl, _⟩ := hi
    have s2' : Row (tw s ++ tw d ++ tw _ ++ tw ((tw a ++ tw b ++ [0, 0] ++ pp).length) ++ (tw a ++ tw b ++ [0, 0] ++ pp)) := s2
    rw [show IL (inb0 (.ask a b)) ++ (IL pp ++ []) = IL (tw a ++ tw b ++ [0, 0] ++ pp) by simp [IL, inb0]]
    refine wtail _ none _ _ _ _ _ _ _ _ _ _ (tw a ++ tw b) pp 4 (by rfl) (by simp [tw]) hp (by simp [tw]) (by simp [tw]; omega) s2' _ (by rfl) (by rfl) ?_
    simp [byt, hdr, eds, tw, inb, sum1, sum2, rst, Pk.len, IL]
  | note a b =>
    obtain ⟨rfl, _⟩ := hi
    have s2' : Row (tw s ++ tw d ++ tw _ ++ tw (([a, b] ++ [0, 0] ++ pp).length) ++ ([a, b] ++ [0, 0] ++ pp)) := s2
    rw [show IL (inb0 (.note a b)) ++ (IL pp ++ []) = IL ([a, b] ++ [0, 0] ++ pp) by simp [IL, inb0]]
    refine wtail _ none _ _ _ _ _ _ _ _ _ _ ([a, b]) pp 2 (by rfl) (by simp [tw]) hp (by simp [tw]) (by simp [tw]; omega) s2' _ (by rfl) (by rfl) ?_
    simp [byt, hdr, eds, tw, inb, sum1, sum2, rst, Pk.len, IL]
  | oth =>
    obtain ⟨k1, k2, k3⟩ := hi
    refine wtail0 _ none _ _ _ _ _ _ _ _ _ _ _ (by simp [inb0]; omega) (by simp [tw]) (by simp [tw]; omega) _ ?_ ?_
    · have e1 : ¬ 6 = k := fun h => k1 h.symm
      have e2 : ¬ 17 = k := fun h => k2 h.symm
      have e3 : ¬ 1 = k := fun h => k3 h.symm
      simp [getI, e1, e2, e3]
    · simp [byt, hdr, eds, tw, inb, inb0, sum1, Pk.len, IL]
end Pr_P
end
section
set_option linter.all false
set_option maxRecDepth 100000
set_option Elab.async false
namespace Pr_P
open PySem PG Pr_C Pr_D Pr_S
local macro_rules | `(tactic| array_get_dec) => `(tactic| first | ((with_reducible apply PG.ws_set)) | ((with_reducible apply PG.ws_if)) | ((with_reducible apply PG.ws_ret)) | ((with_reducible apply PG.ws_setL)) | ((with_reducible apply PG.ws_expr)) | ((with_reducible apply PG.ws_nilc)) | ((with_reducible apply PG.ws_asc)) | ((with_reducible apply PG.ws_nil)) | ((with_reducible apply PG.ws_for)) | ((with_reducible apply PG.ws_asg)) | ((with_reducible apply PG.ws_par)) | ((with_reducible apply PG.ws_retL)) | ((with_reducible apply PG.ws_brk)) | ((with_reducible apply PG.ws_cont)) | ((with_reducible apply PG.ws_forn)) | ((with_reducible apply PG.ws_sto)) | ((with_reducible apply PG.ws_aug); (case hget => rfl)) | ((with_reducible apply PG.ws_app); (case hget => rfl)) | ((with_reducible apply PG.ws_retO); (case hget => rfl)) | ((with_reducible apply PG.we_name); (case hget => rfl)) | ((with_reducible apply PG.we_c)) | ((with_reducible apply PG.we_bin)) | ((with_reducible apply PG.we_un)) | ((with_reducible apply PG.we_call)) | ((with_reducible apply PG.we_callL); (case hget => rfl)) | ((with_reducible apply PG.we_tup)) | ((with_reducible apply PG.we_lst)) | ((with_reducible apply PG.we_if)) | ((with_reducible apply PG.we_ixL); (case hget => rfl)) | ((with_reducible apply PG.we_unL); (case hget => rfl)) | ((with_reducible apply PG.we_and)) | ((with_reducible apply PG.we_or)) | ((with_reducible apply PG.we_not)) | ((with_reducible apply PG.we_chain)) | ((with_reducible apply PG.we_slT)) | ((with_reducible apply PG.wn_cons)) | ((with_reducible apply PG.wn_nil)) | ((with_reducible apply PG.wn_star)) | ((with_reducible apply PG.wn_disp)) | ((with_reducible apply PG.wn_call)) | ((with_reducible apply PG.wn_sl)) | ((with_reducible apply PG.wn_its)) | ((with_reducible apply PG.wn_r1)) | ((with_reducible apply PG.wn_r2)) | ((with_reducible apply PG.wn_r3)) | ((with_reducible apply PG.wt_tru)) | ((with_reducible apply PG.wt_bl)) | ((with_reducible apply PG.wt_and)) | ((with_reducible apply PG.wt_or)) | ((with_reducible apply PG.wt_not)) | ((with_reducible apply PG.wt_yes)) | ((with_reducible apply PG.wt_truL); (case hget => rfl)) | ((with_reducible apply PG.wo_none)) | ((with_reducible apply PG.wo_some)) | ((with_reducible apply PG.wg_p0)) | ((with_reducible apply PG.wg_tup)) | ((with_reducible apply PG.wg_ps); (case hset => (repeat' (first | exact PG.SetR.h0 | exact PG.SetR.h1 | exact PG.SetR.hl | exact PG.SetR.hc (by assumption) | apply PG.SetR.s)))) | ((with_reducible apply PG.wg_set); (case hset => (repeat' (first | exact PG.SetR.h0 | exact PG.SetR.h1 | exact PG.SetR.hl | exact PG.SetR.hc (by assumption) | apply PG.SetR.s)))) | ((with_reducible apply PG.we_frz); (case hget => rfl); (case hset => (repeat' (first | exact PG.SetR.h0 | exact PG.SetR.h1 | exact PG.SetR.hl | exact PG.SetR.hc (by assumption) | apply PG.SetR.s)))) | ((with_reducible apply PG.setr_i); (case hset => (repeat' (first | exact PG.SetR.h0 | exact PG.SetR.h1 | exact PG.SetR.hl | exact PG.SetR.hc (by assumption) | apply PG.SetR.s)))) | ((with_reducible apply PG.setl_i); (case hset => (repeat' (first | exact PG.SetLR.h0 | exact PG.SetLR.h1 | exact PG.SetLR.hl | apply PG.SetLR.s)))) | ((with_reducible apply PG.put_i); (case hset => (repeat' (first | exact PG.PutR.h | apply PG.PutR.s)))) | ((with_reducible apply PG.pool_i); (case hget => rfl)) | ((with_reducible apply PG.bool_i)) | ((with_reducible apply PG.int_i)) | ((with_reducible apply PG.seqL_i)) | ((with_reducible apply PG.seqT_i)) | ((with_reducible apply PG.seqR_i)) | ((with_reducible apply PG.starT_i)) | ((with_reducible apply PG.starL_i)) | ((with_reducible apply PG.len_i); (case h => rfl)) | ((with_reducible apply PG.tup_i)) | ((with_reducible apply PG.yes_i)) | ((with_reducible apply PG.no_i)) | ((with_reducible apply PG.nyes_i)) | ((with_reducible apply PG.nno_i)) | ((with_reducible apply PG.wa_add)) | ((with_reducible apply PG.wa_sub)) | ((with_reducible apply PG.wa_lt)) | ((with_reducible apply PG.wa_le)) | ((with_reducible apply PG.wa_gt)) | ((with_reducible apply PG.wa_ge)) | ((with_reducible apply PG.wa_eqI)) | ((with_reducible apply PG.wa_neI)) | ((with_reducible apply PG.wa_neg)) | ((with_reducible apply PG.wa_lenL)) | ((with_reducible apply PG.wa_lenT)) | ((with_reducible apply PG.wa_int)) | ((with_reducible apply PG.wa_max)) | ((with_reducible apply PG.wa_min)) | ((with_reducible apply PG.wb_bool)) | ((with_reducible apply PG.wb_int)) | ((with_reducible apply PG.endP_ret)) | ((with_reducible apply PG.endP_retL)) | ((with_reducible apply PG.endN_ret)) | ((with_reducible apply PG.endL_ret)) | ((with_reducible apply PG.endL_retL)) | ((with_reducible apply PG.wa_binO)) | ((with_reducible apply PG.ch_le)) | ((with_reducible apply PG.ch_lt)) | ((with_reducible apply PG.ch_eq)) | ((with_reducible apply PG.wa_ix0); (case hget => rfl)) | ((with_reducible apply PG.wa_ix1); (case hget => rfl)) | ((with_reducible apply PG.wa_ix2); (case hget => rfl)) | ((with_reducible apply PG.wa_ix3); (case hget => rfl)) | ((with_reducible apply PG.wa_ix4); (case hget => rfl)) | ((with_reducible apply PG.wa_ix5); (case hget => rfl)) | ((with_reducible apply PG.wa_ix6); (case hget => rfl)) | ((with_reducible apply PG.wa_ix7); (case hget => rfl)) | ((with_reducible apply PG.wa_ix8); (case hget => rfl)) | ((with_reducible apply PG.wa_il0); (case hget => rfl)) | ((with_reducible apply PG.wa_il1); (case hget => rfl)) | ((with_reducible apply PG.wa_il2); (case hget => rfl)) | ((with_reducible apply PG.wa_ev1)) | ((with_reducible apply PG.wa_ev)) | ((with_reducible apply PG.wl_ev)) | ((with_reducible apply PG.wb_ev)) | ((with_reducible apply PG.wa_mod); (case h1 => omega)) | ((with_reducible apply PG.wa_div); (case h1 => omega); (case h2 => omega)) | ((with_reducible apply PG.wa_mulR); (case h1 => omega); (case h2 => omega)) | ((with_reducible apply PG.wa_mulL); (case h1 => omega); (case h2 => omega)) | ((with_reducible apply PG.wa_shr); (case h1 => omega)))
local macro_rules | `(tactic| array_get_dec) => `(tactic| first | ((with_reducible apply Pr_C.wp_draw); (case hp => assumption); (case h0 => omega); (case h1 => omega)) | ((with_reducible apply Pr_C.ls_i); (case hp => assumption)))

local macro_rules | `(tactic| array_get_dec) => `(tactic| first | ((with_reducible apply PG.wa_addT); (case hl => (simp [tw] <;> omega))))

theorem law_bytes_ok (p : Pk) (h : p.Ok) (hl : p.len ≤ 1500) : F_law_bytes [p.v] = some (.tuple (IL (byt p))) := by
  refine of_wa ?_
  have hlen := law_length_ok (.int p.s) (.int p.d) (.int p.t) (.tuple (IL p.i.l)) p.k (IL p.o) (IL p.p)
  have s1 := sum1_row h hl
  have s2 := sum2_row h hl
  have ho := h.o.2.1
  have hp := h.p.2
  have hi := h.i
  simp only [IL, List.length_map] at hlen
  unfold Pk.v
  unfold F_law_bytes; refine PG.wa_def rfl ?_; simp only [PG.rho0_eq, List.map_cons, List.map_nil, List.replicate_succ, List.replicate_zero, List.cons_append, List.nil_append]; unfold B_law_bytes
  (repeat array_get_dec)
  refine wa_eq hlen ?_
  (repeat array_get_dec)
  refine wa_chk _ ?_ s1 ?_
  · simp [IL, hdr, eds, tw, Pk.len]
  (repeat array_get_dec)
  obtain ⟨s, d, k, t, o, i, pp⟩ := p
  dsimp only at *
  cases i with
  | st a b f =>
    obtain ⟨rfl, _⟩ := hi
    have z : isz 6 = 8 := rfl
    dsimp only [Inn.l]
    (first | ((with_reducible apply PG.decy_i); (case h => omega)) | ((with_reducible apply PG.decno_i); (case h => omega)) | ((with_reducible apply PG.ndecy_i); (case h => omega)) | ((with_reducible apply PG.ndecno_i); (case h => omega)))
    (repeat array_get_dec)
    (first | ((with_reducible apply PG.decy_i); (case h => omega)) | ((with_reducible apply PG.decno_i); (case h => omega)) | ((with_reducible apply PG.ndecy_i); (case h => omega)) | ((with_reducible apply PG.ndecno_i); (case h => omega)))
    (repeat array_get_dec)
    (first | ((with_reducible apply PG.decy_i); (case h => omega)) | ((with_reducible apply PG.decno_i); (case h => omega)) | ((with_reducible apply PG.ndecy_i); (case h => omega)) | ((with_reducible apply PG.ndecno_i); (case h => omega)))
    (repeat array_get_dec)
    refine wa_chk _ ?_ s2 ?_
    · simp [eds, tw, inb, rst, IL]
    (repeat array_get_dec)
    simp [byt, hdr, eds, tw, inb, sum1, sum2, rst, Pk.len, IL]
  | ask a b =>
    obtain ⟨rfl, _⟩ := hi
    have z : isz 17 = 6 := rfl
    dsimp only [Inn.l]
    (first | ((with_reducible apply PG.decy_i); (case h => omega)) | ((with_reducible apply PG.decno_i); (case h => omega)) | ((with_reducible apply PG.ndecy_i); (case h => omega)) | ((with_reducible apply PG.ndecno_i); (case h => omega)))
    (repeat array_get_dec)
    (first | ((with_reducible apply PG.decy_i); (case h => omega)) | ((with_reducible apply PG.decno_i); (case h => omega)) | ((with_reducible apply PG.ndecy_i); (case h => omega)) | ((with_reducible apply PG.ndecno_i); (case h => omega)))
    (repeat array_get_dec)
    (first | ((with_reducible apply PG.decy_i); (case h => omega)) | ((with_reducible apply PG.decno_i); (case h => omega)) | ((with_reducible apply PG.ndecy_i); (case h => omega)) | ((with_reducible apply PG.ndecno_i); (case h => omega)))
    (repeat array_get_dec)
    refine wa_chk _ ?_ s2 ?_
    · simp [eds, tw, inb, rst, IL]
    (repeat array_get_dec)
    simp [byt, hdr, eds, tw, inb, sum1, sum2, rst, Pk.len, IL]
  | note a b =>
    obtain ⟨rfl, _⟩ := hi
    have z : isz 1 = 4 := rfl
    dsimp only [Inn.l]
    (first | ((with_reducible apply PG.decy_i); (case h => omega)) | ((with_reducible apply PG.decno_i); (case h => omega)) | ((with_reducible apply PG.ndecy_i); (case h => omega)) | ((with_reducible apply PG.ndecno_i); (case h => omega)))
    (repeat array_get_dec)
    (first | ((with_reducible apply PG.decy_i); (case h => omega)) | ((with_reducible apply PG.decno_i); (case h => omega)) | ((with_reducible apply PG.ndecy_i); (case h => omega)) | ((with_reducible apply PG.ndecno_i); (case h => omega)))
    (repeat array_get_dec)
    (first | ((with_reducible apply PG.decy_i); (case h => omega)) | ((with_reducible apply PG.decno_i); (case h => omega)) | ((with_reducible apply PG.ndecy_i); (case h => omega)) | ((with_reducible apply PG.ndecno_i); (case h => omega)))
    (repeat array_get_dec)
    refine wa_chk _ ?_ s2 ?_
    · simp [eds, tw, inb, rst, IL]
    (repeat array_get_dec)
    simp [byt, hdr, eds, tw, inb, sum1, sum2, rst, Pk.len, IL]
  | oth =>
    obtain ⟨k1, k2, k3⟩ := hi
    have z : isz k = 0 := by simp [isz, k1, k2, k3]
    dsimp only [Inn.l]
    (first | ((with_reducible apply PG.decy_i); (case h => omega)) | ((with_reducible apply PG.decno_i); (case h => omega)) | ((with_reducible apply PG.ndecy_i); (case h => omega)) | ((with_reducible apply PG.ndecno_i); (case h => omega)))
    (repeat array_get_dec)
    (first | ((with_reducible apply PG.decy_i); (case h => omega)) | ((with_reducible apply PG.decno_i); (case h => omega)) | ((with_reducible apply PG.ndecy_i); (case h => omega)) | ((with_reducible apply PG.ndecno_i); (case h => omega)))
    (repeat array_get_dec)
    (first | ((with_reducible apply PG.decy_i); (case h => omega)) | ((with_reducible apply PG.decno_i); (case h => omega)) | ((with_reducible apply PG.ndecy_i); (case h => omega)) | ((with_reducible apply PG.ndecno_i); (case h => omega)))
    (repeat array_get_dec)
    simp [byt, hdr, eds, tw, inb, sum1, sum2, rst, Pk.len, IL]
end Pr_P
end
section
set_option Elab.async false
set_option linter.all false
set_option maxRecDepth 100000
namespace Pr_R
open PySem PG Pr_C Pr_P Pr_S
/-! what each def does, on data -/
def B_options_end : SF :=
  (sSeq (sRet (eBin dMul (eC (.int 2)) (eBin dSub (eName 0) (eC (.int 64)))))
  sNil)
def F_options_end : List PyData → Option PyData := defP B_options_end 1 0
def B_word : SF :=
  (sSeq (sRet (eBin dAdd (eBin dMul (eC (.int 256)) (eBin dIx (eName 0) (eName 1))) (eBin dIx (eName 0) (eBin dAdd (eName 1) (eC (.int 1))))))
  sNil)
def F_word : List PyData → Option PyData := defP B_word 2 0
def B_outer_fault : SF :=
  (sSeq (sIf (tBl (eBin dLt (eCall (o1of dLen) (nCons (eName 0) nNil)) (eC (.int 12))))
  (sSeq (sRet (eC (.str (Str.ofString "short"))))
  sNil)
  sNil)
  (sSeq (sIf (tNot' (tBl (eChain dLe dLe (eC (.int 70)) (eBin dIx (eName 0) (eC (.int 0))) (eC (.int 74)))))
  (sSeq (sRet (eC (.str (Str.ofString "version"))))
  sNil)
  sNil)
  (sSeq (sIf (tOr' (tBl (eBin dNe (eCall F_word (nCons (eName 0) (nCons (eC (.int 2)) nNil))) (eCall (o1of dLen) (nCons (eName 0) nNil)))) (tBl (eBin dGt (eCall (o1of dLen) (nCons (eName 0) nNil)) (eC (.int 1500)))))
  (sSeq (sRet (eC (.str (Str.ofString "length"))))
  sNil)
  sNil)
  (sSeq (sSet 1 (eCall F_options_end (nCons (eBin dIx (eName 0) (eC (.int 0))) nNil)))
  (sSeq (sIf (tBl (eBin dLt (eCall (o1of dLen) (nCons (eName 0) nNil)) (eName 1)))
  (sSeq (sRet (eC (.str (Str.ofString "header"))))
  sNil)
  sNil)
  (sSeq (sIf (tBl (eBin dNe (eCall F_folded (nCons (eCall F_words_of (nCons (eSlT (eName 0) none (some (eName 1))) nNil)) nNil)) (eC (.int 65535))))
  (sSeq (sRet (eC (.str (Str.ofString "sum"))))
  sNil)
  sNil)
  (sSeq (sIf (tBl (eBin dNe (eBin dIx (eName 0) (eC (.int 5))) (eC (.int 0))))
  (sSeq (sRet (eC (.str (Str.ofString "zero"))))
  sNil)
  sNil)
  (sSeq (sIf (tBl (eBin dEq (eBin dIx (eName 0) (eC (.int 4))) (eC (.int 0))))
  (sSeq (sRet (eC (.str (Str.ofString "ttl"))))
  sNil)
  sNil)
  (sSeq (sRet (eC (.str (Str.ofString ""))))
  sNil)))))))))
def F_outer_fault : List PyData → Option PyData := defP B_outer_fault 1 1
def B_inner_fault : SF :=
  (sSeq (sIf (tBl (eBin dLt (eCall (o1of dLen) (nCons (eName 3) nNil)) (eCall F_head_bytes (nCons (eName 2) nNil))))
  (sSeq (sRet (eC (.str (Str.ofString "inner"))))
  sNil)
  sNil)
  (sSeq (sIf (tAnd' (tBl (eBin dEq (eName 2) (eC (.int 6)))) (tOr' (tBl (eBin dGt (eBin dIx (eName 3) (eC (.int 4))) (eC (.int 7)))) (tBl (eBin dNe (eBin dIx (eName 3) (eC (.int 5))) (eC (.int 0))))))
  (sSeq (sRet (eC (.str (Str.ofString "flags"))))
  sNil)
  sNil)
  (sSeq (sIf (tAnd' (tBl (eUn (dInT [(6, 6), (17, 4), (1, 2)]) (eName 2))) (tBl (eBin dNe (eCall F_folded (nCons (eCall F_words_of (nCons (eCall F_inner_row (nCons (eName 0) (nCons (eName 1) (nCons (eName 2) (nCons (eName 3) nNil))))) nNil)) nNil)) (eC (.int 65535)))))
  (sSeq (sRet (eC (.str (Str.ofString "inner sum"))))
  sNil)
  sNil)
  (sSeq (sRet (eC (.str (Str.ofString ""))))
  sNil))))
def F_inner_fault : List PyData → Option PyData := defP B_inner_fault 4 0
def B_read_inner : SF :=
  (sSeq (sIf (tBl (eBin dEq (eName 0) (eC (.int 6))))
  (sSeq (sRet (eTup (nCons (eCall F_word (nCons (eName 1) (nCons (eC (.int 0)) nNil))) (nCons (eCall F_word (nCons (eName 1) (nCons (eC (.int 2)) nNil))) (nCons (eBin dIx (eName 1) (eC (.int 4))) nNil)))))
  sNil)
  sNil)
  (sSeq (sIf (tBl (eBin dEq (eName 0) (eC (.int 17))))
  (sSeq (sRet (eTup (nCons (eCall F_word (nCons (eName 1) (nCons (eC (.int 0)) nNil))) (nCons (eCall F_word (nCons (eName 1) (nCons (eC (.int 2)) nNil))) nNil))))
  sNil)
  sNil)
  (sSeq (sIf (tBl (eBin dEq (eName 0) (eC (.int 1))))
  (sSeq (sRet (eTup (nCons (eBin dIx (eName 1) (eC (.int 0))) (nCons (eBin dIx (eName 1) (eC (.int 1))) nNil))))
  sNil)
  sNil)
  (sSeq (sRet (eTup nNil))
  sNil))))
def F_read_inner : List PyData → Option PyData := defP B_read_inner 2 0
def B_read_packet : SF :=
  (sSeq (sSet 1 (eCall F_outer_fault (nCons (eName 0) nNil)))
  (sSeq (sIf (tTru (eName 1))
  (sSeq sRaise
  sNil)
  sNil)
  (sSeq (sSet 2 (eCall F_options_end (nCons (eBin dIx (eName 0) (eC (.int 0))) nNil)))
  (sSeq (sAsg (eTup (nCons (eCall F_word (nCons (eName 0) (nCons (eC (.int 8)) nNil))) (nCons (eCall F_word (nCons (eName 0) (nCons (eC (.int 10)) nNil))) (nCons (eBin dIx (eName 0) (eC (.int 1))) (nCons (eSlT (eName 0) (some (eName 2)) none) nNil))))) (gTupS [4, 5, 6, 7]))
  (sSeq (sSet 1 (eCall F_inner_fault (nCons (eName 4) (nCons (eName 5) (nCons (eName 6) (nCons (eName 7) nNil))))))
  (sSeq (sIf (tTru (eName 1))
  (sSeq sRaise
  sNil)
  sNil)
  (sSeq (sSet 3 (eCall F_read_inner (nCons (eName 6) (nCons (eName 7) nNil))))
  (sSeq (sRet (eTup (nCons (eName 4) (nCons (eName 5) (nCons (eName 6) (nCons (eBin dIx (eName 0) (eC (.int 4))) (nCons (eSlT (eName 0) (some (eC (.int 12))) (some (eName 2))) (nCons (eName 3) (nCons (eSlT (eName 7) (some (eCall F_head_bytes (nCons (eName 6) nNil))) none) nNil)))))))))
  sNil))))))))
def F_read_packet : List PyData → Option PyData := defP B_read_packet 1 7
end Pr_R
end
section
set_option linter.all false
set_option maxRecDepth 100000
set_option Elab.async false
namespace Pr_R
open PySem PG Pr_C Pr_D Pr_S Pr_P
theorem cut_mid (a b c : List PyData) (n m : Int) (hn : n = (a.length : Int)) (hm : m = ((a ++ b).length : Int)) : cutD (a ++ b ++ c) (some n) (some m) = b := by
  subst hn hm
  have h1 : ¬ ((a.length : Nat) : Int) < 0 := by omega
  have h2 : ¬ (((a ++ b).length : Nat) : Int) < 0 := by omega
  simp only [cutD, sIxD, h1, h2, if_false, Int.toNat_natCast]
  have e1 : min a.length (a ++ b ++ c).length = a.length := by simp
  have e2 : min (a ++ b).length (a ++ b ++ c).length = a.length + b.length := by simp
  rw [e1, e2, List.append_assoc, List.drop_left]
  simp
theorem word_ok (e : List Int) (k : Nat) (z x y : Int) (hz : z = (k : Nat)) (hx : e[k]? = some x) (hy : e[k + 1]? = some y) : F_word [.tuple (IL e), .int z] = some (.int (256 * x + y)) := by
  subst hz
  obtain ⟨h1, e1⟩ := List.getElem?_eq_some_iff.mp hx
  obtain ⟨h2, e2⟩ := List.getElem?_eq_some_iff.mp hy
  have a1 : dIx (.tuple (IL e)) (.int (k : Nat)) = some (.int x) := by
    show atD _ _ = _
    rw [atD_nat (by simpa using h1)]
    simp [e1]
  have a2 : dIx (.tuple (IL e)) (.int ((k : Nat) + 1)) = some (.int y) := by
    show atD _ (((k + 1 : Nat) : Int)) = _
    rw [atD_nat (by simpa using h2)]
    simp [e2]
  simp [F_word, B_word, defP, -dIx, a1, a2]
theorem fo_up {S : Int} (h : 0 < S) : fo (S + (65535 - fo S)) = 65535 := by
  obtain ⟨h1, h2, k, hk⟩ := fo_range h
  have : S + (65535 - fo S) = 65535 * (1 - k) := by omega
  unfold fo at *
  rw [if_neg (by omega)] at *
  omega
theorem fo_full {S : Int} (h : 0 < S) (e : fo S = 65535) : fo (S + 65535) = 65535 := by
  unfold fo at *
  rw [if_neg (by omega)] at *
  omega
local macro_rules | `(tactic| array_get_dec) => `(tactic| first | ((with_reducible apply PG.ws_set)) | ((with_reducible apply PG.ws_if)) | ((with_reducible apply PG.ws_ret)) | ((with_reducible apply PG.ws_setL)) | ((with_reducible apply PG.ws_expr)) | ((with_reducible apply PG.ws_nilc)) | ((with_reducible apply PG.ws_asc)) | ((with_reducible apply PG.ws_nil)) | ((with_reducible apply PG.ws_for)) | ((with_reducible apply PG.ws_asg)) | ((with_reducible apply PG.ws_par)) | ((with_reducible apply PG.ws_retL)) | ((with_reducible apply PG.ws_brk)) | ((with_reducible apply PG.ws_cont)) | ((with_reducible apply PG.ws_forn)) | ((with_reducible apply PG.ws_sto)) | ((with_reducible apply PG.ws_aug); (case hget => rfl)) | ((with_reducible apply PG.ws_app); (case hget => rfl)) | ((with_reducible apply PG.ws_retO); (case hget => rfl)) | ((with_reducible apply PG.we_name); (case hget => rfl)) | ((with_reducible apply PG.we_c)) | ((with_reducible apply PG.we_bin)) | ((with_reducible apply PG.we_un)) | ((with_reducible apply PG.we_call)) | ((with_reducible apply PG.we_callL); (case hget => rfl)) | ((with_reducible apply PG.we_tup)) | ((with_reducible apply PG.we_lst)) | ((with_reducible apply PG.we_if)) | ((with_reducible apply PG.we_ixL); (case hget => rfl)) | ((with_reducible apply PG.we_unL); (case hget => rfl)) | ((with_reducible apply PG.we_and)) | ((with_reducible apply PG.we_or)) | ((with_reducible apply PG.we_not)) | ((with_reducible apply PG.we_chain)) | ((with_reducible apply PG.we_slT)) | ((with_reducible apply PG.wn_cons)) | ((with_reducible apply PG.wn_nil)) | ((with_reducible apply PG.wn_star)) | ((with_reducible apply PG.wn_disp)) | ((with_reducible apply PG.wn_call)) | ((with_reducible apply PG.wn_sl)) | ((with_reducible apply PG.wn_its)) | ((with_reducible apply PG.wn_r1)) | ((with_reducible apply PG.wn_r2)) | ((with_reducible apply PG.wn_r3)) | ((with_reducible apply PG.wt_tru)) | ((with_reducible apply PG.wt_bl)) | ((with_reducible apply PG.wt_and)) | ((with_reducible apply PG.wt_or)) | ((with_reducible apply PG.wt_not)) | ((with_reducible apply PG.wt_yes)) | ((with_reducible apply PG.wt_truL); (case hget => rfl)) | ((with_reducible apply PG.wo_none)) | ((with_reducible apply PG.wo_some)) | ((with_reducible apply PG.wg_p0)) | ((with_reducible apply PG.wg_tup)) | ((with_reducible apply PG.wg_ps); (case hset => (repeat' (first | exact PG.SetR.h0 | exact PG.SetR.h1 | exact PG.SetR.hl | exact PG.SetR.hc (by assumption) | apply PG.SetR.s)))) | ((with_reducible apply PG.wg_set); (case hset => (repeat' (first | exact PG.SetR.h0 | exact PG.SetR.h1 | exact PG.SetR.hl | exact PG.SetR.hc (by assumption) | apply PG.SetR.s)))) | ((with_reducible apply PG.we_frz); (case hget => rfl); (case hset => (repeat' (first | exact PG.SetR.h0 | exact PG.SetR.h1 | exact PG.SetR.hl | exact PG.SetR.hc (by assumption) | apply PG.SetR.s)))) | ((with_reducible apply PG.setr_i); (case hset => (repeat' (first | exact PG.SetR.h0 | exact PG.SetR.h1 | exact PG.SetR.hl | exact PG.SetR.hc (by assumption) | apply PG.SetR.s)))) | ((with_reducible apply PG.setl_i); (case hset => (repeat' (first | exact PG.SetLR.h0 | exact PG.SetLR.h1 | exact PG.SetLR.hl | apply PG.SetLR.s)))) | ((with_reducible apply PG.put_i); (case hset => (repeat' (first | exact PG.PutR.h | apply PG.PutR.s)))) | ((with_reducible apply PG.pool_i); (case hget => rfl)) | ((with_reducible apply PG.bool_i)) | ((with_reducible apply PG.int_i)) | ((with_reducible apply PG.seqL_i)) | ((with_reducible apply PG.seqT_i)) | ((with_reducible apply PG.seqR_i)) | ((with_reducible apply PG.starT_i)) | ((with_reducible apply PG.starL_i)) | ((with_reducible apply PG.len_i); (case h => rfl)) | ((with_reducible apply PG.tup_i)) | ((with_reducible apply PG.yes_i)) | ((with_reducible apply PG.no_i)) | ((with_reducible apply PG.nyes_i)) | ((with_reducible apply PG.nno_i)) | ((with_reducible apply PG.wa_add)) | ((with_reducible apply PG.wa_sub)) | ((with_reducible apply PG.wa_lt)) | ((with_reducible apply PG.wa_le)) | ((with_reducible apply PG.wa_gt)) | ((with_reducible apply PG.wa_ge)) | ((with_reducible apply PG.wa_eqI)) | ((with_reducible apply PG.wa_neI)) | ((with_reducible apply PG.wa_neg)) | ((with_reducible apply PG.wa_lenL)) | ((with_reducible apply PG.wa_lenT)) | ((with_reducible apply PG.wa_int)) | ((with_reducible apply PG.wa_max)) | ((with_reducible apply PG.wa_min)) | ((with_reducible apply PG.wb_bool)) | ((with_reducible apply PG.wb_int)) | ((with_reducible apply PG.endP_ret)) | ((with_reducible apply PG.endP_retL)) | ((with_reducible apply PG.endN_ret)) | ((with_reducible apply PG.endL_ret)) | ((with_reducible apply PG.endL_retL)) | ((with_reducible apply PG.wa_binO)) | ((with_reducible apply PG.ch_le)) | ((with_reducible apply PG.ch_lt)) | ((with_reducible apply PG.ch_eq)) | ((with_reducible apply PG.wa_ix0); (case hget => rfl)) | ((with_reducible apply PG.wa_ix1); (case hget => rfl)) | ((with_reducible apply PG.wa_ix2); (case hget => rfl)) | ((with_reducible apply PG.wa_ix3); (case hget => rfl)) | ((with_reducible apply PG.wa_ix4); (case hget => rfl)) | ((with_reducible apply PG.wa_ix5); (case hget => rfl)) | ((with_reducible apply PG.wa_ix6); (case hget => rfl)) | ((with_reducible apply PG.wa_ix7); (case hget => rfl)) | ((with_reducible apply PG.wa_ix8); (case hget => rfl)) | ((with_reducible apply PG.wa_il0); (case hget => rfl)) | ((with_reducible apply PG.wa_il1); (case hget => rfl)) | ((with_reducible apply PG.wa_il2); (case hget => rfl)) | ((with_reducible apply PG.wa_ev1)) | ((with_reducible apply PG.wa_ev)) | ((with_reducible apply PG.wl_ev)) | ((with_reducible apply PG.wb_ev)) | ((with_reducible apply PG.wa_mod); (case h1 => omega)) | ((with_reducible apply PG.wa_div); (case h1 => omega); (case h2 => omega)) | ((with_reducible apply PG.wa_mulR); (case h1 => omega); (case h2 => omega)) | ((with_reducible apply PG.wa_mulL); (case h1 => omega); (case h2 => omega)) | ((with_reducible apply PG.wa_shr); (case h1 => omega)))
local macro_rules | `(tactic| array_get_dec) => `(tactic| first | ((with_reducible apply Pr_C.wp_draw); (case hp => assumption); (case h0 => omega); (case h1 => omega)) | ((with_reducible apply Pr_C.ls_i); (case hp => assumption)))

theorem outer_ok (k l1 l2 t c1 c2 s1 s2 d1 d2 : Int) (o T : List Int) (h0 : o.length ≤ 8) (h1 : o.length % 2 = 0) (hl : 256 * l1 + l2 = 12 + (o.length : Int) + T.length) (h2 : 12 + (o.length : Int) + T.length ≤ 1500) (ht : 1 ≤ t)
    (hs : fo (wds ([70 + (o.length : Int) / 2, k, l1, l2, t, 0, c1, c2, s1, s2, d1, d2] ++ o)).sum = 65535) :
    F_outer_fault [.tuple (IL ([70 + (o.length : Int) / 2, k, l1, l2, t, 0, c1, c2, s1, s2, d1, d2] ++ o ++ T))] = some (.str (Str.ofString "")) := by
  refine of_wa ?_
  have hlen : ((IL ([70 + (o.length : Int) / 2, k, l1, l2, t, 0, c1, c2, s1, s2, d1, d2] ++ o ++ T)).length : Int) = 12 + (o.length : Int) + T.length := by simp; omega
  have he : 2 * (70 + (o.length : Int) / 2 - 64) = 12 + (o.length : Int) := by omega
  have oe : F_options_end [.int (70 + (o.length : Int) / 2)] = some (.int (12 + (o.length : Int))) := by
    simp [F_options_end, B_options_end, defP, he]
  have hw : F_word [.tuple (IL ([70 + (o.length : Int) / 2, k, l1, l2, t, 0, c1, c2, s1, s2, d1, d2] ++ o ++ T)), .int 2] = some (.int (256 * l1 + l2)) := word_ok _ 2 2 l1 l2 rfl rfl rfl
  have hc : cutD (IL ([70 + (o.length : Int) / 2, k, l1, l2, t, 0, c1, c2, s1, s2, d1, d2] ++ o ++ T)) none (some (12 + (o.length : Int))) = IL ([70 + (o.length : Int) / 2, k, l1, l2, t, 0, c1, c2, s1, s2, d1, d2] ++ o) := by
    rw [show IL ([70 + (o.length : Int) / 2, k, l1, l2, t, 0, c1, c2, s1, s2, d1, d2] ++ o ++ T) = IL ([70 + (o.length : Int) / 2, k, l1, l2, t, 0, c1, c2, s1, s2, d1, d2] ++ o) ++ IL T by simp [IL]]
    exact cut_lo _ _ _ (by simp; omega)
  have hf := folded_ok (wds ([70 + (o.length : Int) / 2, k, l1, l2, t, 0, c1, c2, s1, s2, d1, d2] ++ o))
  rw [hs] at hf
  have hwo := words_ok ([70 + (o.length : Int) / 2, k, l1, l2, t, 0, c1, c2, s1, s2, d1, d2] ++ o) (by simp; omega)
  have i0 : dIx (.tuple (IL ([70 + (o.length : Int) / 2, k, l1, l2, t, 0, c1, c2, s1, s2, d1, d2] ++ o ++ T))) (.int 0) = some (.int (70 + (o.length : Int) / 2)) := ix_tu _ 0 0 rfl (by simp)
  have i5 : dIx (.tuple (IL ([70 + (o.length : Int) / 2, k, l1, l2, t, 0, c1, c2, s1, s2, d1, d2] ++ o ++ T))) (.int 5) = some (.int 0) := ix_tu _ 5 5 rfl (by simp)
  have i4 : dIx (.tuple (IL ([70 + (o.length : Int) / 2, k, l1, l2, t, 0, c1, c2, s1, s2, d1, d2] ++ o ++ T))) (.int 4) = some (.int t) := ix_tu _ 4 4 rfl (by simp)
  generalize IL ([70 + (o.length : Int) / 2, k, l1, l2, t, 0, c1, c2, s1, s2, d1, d2] ++ o ++ T) = R at *
  generalize [70 + (o.length : Int) / 2, k, l1, l2, t, 0, c1, c2, s1, s2, d1, d2] ++ o = F at *
  unfold F_outer_fault; refine PG.wa_def rfl ?_; simp only [PG.rho0_eq, List.map_cons, List.map_nil, List.replicate_succ, List.replicate_zero, List.cons_append, List.nil_append]; unfold B_outer_fault
  (repeat (first | array_get_dec | ((with_reducible apply PG.decy_i); (case h => omega)) | ((with_reducible apply PG.decno_i); (case h => omega)) | ((with_reducible apply PG.ndecy_i); (case h => omega)) | ((with_reducible apply PG.ndecno_i); (case h => omega))))
  refine wa_eq i0 ?_
  (repeat (first | array_get_dec | ((with_reducible apply PG.decy_i); (case h => omega)) | ((with_reducible apply PG.decno_i); (case h => omega)) | ((with_reducible apply PG.ndecy_i); (case h => omega)) | ((with_reducible apply PG.ndecno_i); (case h => omega))))
  refine wa_eq hw ?_
  (repeat (first | array_get_dec | ((with_reducible apply PG.decy_i); (case h => omega)) | ((with_reducible apply PG.decno_i); (case h => omega)) | ((with_reducible apply PG.ndecy_i); (case h => omega)) | ((with_reducible apply PG.ndecno_i); (case h => omega))))
  refine wa_eq i0 ?_
  (repeat (first | array_get_dec | ((with_reducible apply PG.decy_i); (case h => omega)) | ((with_reducible apply PG.decno_i); (case h => omega)) | ((with_reducible apply PG.ndecy_i); (case h => omega)) | ((with_reducible apply PG.ndecno_i); (case h => omega))))
  refine wa_eq oe ?_
  (repeat (first | array_get_dec | ((with_reducible apply PG.decy_i); (case h => omega)) | ((with_reducible apply PG.decno_i); (case h => omega)) | ((with_reducible apply PG.ndecy_i); (case h => omega)) | ((with_reducible apply PG.ndecno_i); (case h => omega))))
  rw [hc]
  (repeat (first | array_get_dec | ((with_reducible apply PG.decy_i); (case h => omega)) | ((with_reducible apply PG.decno_i); (case h => omega)) | ((with_reducible apply PG.ndecy_i); (case h => omega)) | ((with_reducible apply PG.ndecno_i); (case h => omega))))
  refine wa_eq hwo ?_
  (repeat (first | array_get_dec | ((with_reducible apply PG.decy_i); (case h => omega)) | ((with_reducible apply PG.decno_i); (case h => omega)) | ((with_reducible apply PG.ndecy_i); (case h => omega)) | ((with_reducible apply PG.ndecno_i); (case h => omega))))
  refine wa_eq hf ?_
  (repeat (first | array_get_dec | ((with_reducible apply PG.decy_i); (case h => omega)) | ((with_reducible apply PG.decno_i); (case h => omega)) | ((with_reducible apply PG.ndecy_i); (case h => omega)) | ((with_reducible apply PG.ndecno_i); (case h => omega))))
  refine wa_eq i5 ?_
  (repeat (first | array_get_dec | ((with_reducible apply PG.decy_i); (case h => omega)) | ((with_reducible apply PG.decno_i); (case h => omega)) | ((with_reducible apply PG.ndecy_i); (case h => omega)) | ((with_reducible apply PG.ndecno_i); (case h => omega))))
  refine wa_eq i4 ?_
  (repeat (first | array_get_dec | ((with_reducible apply PG.decy_i); (case h => omega)) | ((with_reducible apply PG.decno_i); (case h => omega)) | ((with_reducible apply PG.ndecy_i); (case h => omega)) | ((with_reducible apply PG.ndecno_i); (case h => omega))))
  rfl
def bd (i : Inn) (c : Int) (Z : List Int) : List Int := match i with
  | .oth => Z
  | i => inb i ++ tw c ++ Z
def Inn.sz : Inn → Int
  | .st .. => 8 | .ask .. => 6 | .note .. => 4 | .oth => 0
theorem isz_inn {i : Inn} {k : Int} (h : i.ok k) : isz k = Inn.sz i := by
  cases i with
  | st a b f => obtain ⟨rfl, _⟩ := h; rfl
  | ask a b => obtain ⟨rfl, _⟩ := h; rfl
  | note a b => obtain ⟨rfl, _⟩ := h; rfl
  | oth => obtain ⟨h1, h2, h3⟩ := h; simp [isz, h1, h2, h3, Inn.sz]
theorem bd_len {i : Inn} {k : Int} (h : i.ok k) (c : Int) (Z : List Int) : ((bd i c Z).length : Int) = isz k + Z.length := by
  rw [isz_inn h]
  cases i <;> simp [bd, inb, tw, Inn.sz] <;> omega
theorem int_no {k : Int} (h : k ≠ 6 ∧ k ≠ 17 ∧ k ≠ 1) : dInT [(6, 6), (17, 4), (1, 2)] (.int k) = some (.bool false) := by
  have e1 : ¬ 6 = k := fun e => h.1 e.symm
  have e2 : ¬ 17 = k := fun e => h.2.1 e.symm
  have e3 : ¬ 1 = k := fun e => h.2.2 e.symm
  simp [getI, e1, e2, e3]
theorem inner_fault_ok (s d k c : Int) (i : Inn) (Z : List Int) (hi : i.ok k) (hZ : Z.length ≤ 1500)
    (hs : i ≠ .oth → fo (wds (tw s ++ tw d ++ tw k ++ tw ((bd i c Z).length : Nat) ++ bd i c Z)).sum = 65535) :
    F_inner_fault [.int s, .int d, .int k, .tuple (IL (bd i c Z))] = some (.str (Str.ofString "")) := by
  have hl := bd_len hi c Z
  have hb := isz_bd k
  have hlen : ((IL (bd i c Z)).length : Int) = isz k + Z.length := by simpa using hl
  have hr := inner_row_ok s d k (bd i c Z) (by omega)
  have hw := words_ok (tw s ++ tw d ++ tw k ++ tw ((bd i c Z).length : Nat) ++ bd i c Z) (by simp [tw]; omega)
  have hf := folded_ok (wds (tw s ++ tw d ++ tw k ++ tw ((bd i c Z).length : Nat) ++ bd i c Z))
  refine of_wa ?_
  by_cases ho : i = .oth
  · subst ho
    have k6 := hi.1
    generalize IL (bd .oth c Z) = R at *
    unfold F_inner_fault; refine PG.wa_def rfl ?_; simp only [PG.rho0_eq, List.map_cons, List.map_nil, List.replicate_succ, List.replicate_zero, List.cons_append, List.nil_append]; unfold B_inner_fault
    (repeat (first | array_get_dec | ((with_reducible apply PG.decy_i); (case h => omega)) | ((with_reducible apply PG.decno_i); (case h => omega)) | ((with_reducible apply PG.ndecy_i); (case h => omega)) | ((with_reducible apply PG.ndecno_i); (case h => omega))))
    refine wa_eq (int_no hi) ?_
    (repeat (first | array_get_dec | ((with_reducible apply PG.decy_i); (case h => omega)) | ((with_reducible apply PG.decno_i); (case h => omega)) | ((with_reducible apply PG.ndecy_i); (case h => omega)) | ((with_reducible apply PG.ndecno_i); (case h => omega))))
    all_goals rfl
  · rw [hs ho] at hf
    have hin : dInT [(6, 6), (17, 4), (1, 2)] (.int k) = some (.bool true) := by
      cases i with
      | st a b f => obtain ⟨rfl, _⟩ := hi; rfl
      | ask a b => obtain ⟨rfl, _⟩ := hi; rfl
      | note a b => obtain ⟨rfl, _⟩ := hi; rfl
      | oth => exact absurd rfl ho
    have h6 : k = 6 → ∃ f, 0 ≤ f ∧ f ≤ 7 ∧ dIx (.tuple (IL (bd i c Z))) (.int 4) = some (.int f) ∧ dIx (.tuple (IL (bd i c Z))) (.int 5) = some (.int 0) := by
      intro e
      cases i with
      | st a b f =>
        obtain ⟨_, _, _, h3⟩ := hi
        exact ⟨f, h3.1, h3.2, ix_tu _ 4 4 rfl (by simp [bd, inb, tw]), ix_tu _ 5 5 rfl (by simp [bd, inb, tw])⟩
      | ask a b => obtain ⟨e2, _⟩ := hi; omega
      | note a b => obtain ⟨e2, _⟩ := hi; omega
      | oth => exact absurd rfl ho
    generalize IL (bd i c Z) = R at *
    generalize tw s ++ tw d ++ tw k ++ tw ((bd i c Z).length : Nat) ++ bd i c Z = F at *
    unfold F_inner_fault; refine PG.wa_def rfl ?_; simp only [PG.rho0_eq, List.map_cons, List.map_nil, List.replicate_succ, List.replicate_zero, List.cons_append, List.nil_append]; unfold B_inner_fault
    (repeat (first | array_get_dec | ((with_reducible apply PG.decy_i); (case h => omega)) | ((with_reducible apply PG.decno_i); (case h => omega)) | ((with_reducible apply PG.ndecy_i); (case h => omega)) | ((with_reducible apply PG.ndecno_i); (case h => omega))))
    by_cases e6 : k = 6
    · obtain ⟨f, f0, f1, j4, j5⟩ := h6 e6
      (repeat (first | array_get_dec | ((with_reducible apply PG.decy_i); (case h => omega)) | ((with_reducible apply PG.decno_i); (case h => omega)) | ((with_reducible apply PG.ndecy_i); (case h => omega)) | ((with_reducible apply PG.ndecno_i); (case h => omega))))
      refine wa_eq j4 ?_
      (repeat (first | array_get_dec | ((with_reducible apply PG.decy_i); (case h => omega)) | ((with_reducible apply PG.decno_i); (case h => omega)) | ((with_reducible apply PG.ndecy_i); (case h => omega)) | ((with_reducible apply PG.ndecno_i); (case h => omega))))
      refine wa_eq j5 ?_
      (repeat (first | array_get_dec | ((with_reducible apply PG.decy_i); (case h => omega)) | ((with_reducible apply PG.decno_i); (case h => omega)) | ((with_reducible apply PG.ndecy_i); (case h => omega)) | ((with_reducible apply PG.ndecno_i); (case h => omega))))
      refine wa_eq hin ?_
      (repeat (first | array_get_dec | ((with_reducible apply PG.decy_i); (case h => omega)) | ((with_reducible apply PG.decno_i); (case h => omega)) | ((with_reducible apply PG.ndecy_i); (case h => omega)) | ((with_reducible apply PG.ndecno_i); (case h => omega))))
      refine wa_eq hr ?_
      (repeat (first | array_get_dec | ((with_reducible apply PG.decy_i); (case h => omega)) | ((with_reducible apply PG.decno_i); (case h => omega)) | ((with_reducible apply PG.ndecy_i); (case h => omega)) | ((with_reducible apply PG.ndecno_i); (case h => omega))))
      refine wa_eq hw ?_
      (repeat (first | array_get_dec | ((with_reducible apply PG.decy_i); (case h => omega)) | ((with_reducible apply PG.decno_i); (case h => omega)) | ((with_reducible apply PG.ndecy_i); (case h => omega)) | ((with_reducible apply PG.ndecno_i); (case h => omega))))
      refine wa_eq hf ?_
      (repeat (first | array_get_dec | ((with_reducible apply PG.decy_i); (case h => omega)) | ((with_reducible apply PG.decno_i); (case h => omega)) | ((with_reducible apply PG.ndecy_i); (case h => omega)) | ((with_reducible apply PG.ndecno_i); (case h => omega))))
      all_goals rfl
    · (repeat (first | array_get_dec | ((with_reducible apply PG.decy_i); (case h => omega)) | ((with_reducible apply PG.decno_i); (case h => omega)) | ((with_reducible apply PG.ndecy_i); (case h => omega)) | ((with_reducible apply PG.ndecno_i); (case h => omega))))
      refine wa_eq hin ?_
      (repeat (first | array_get_dec | ((with_reducible apply PG.decy_i); (case h => omega)) | ((with_reducible apply PG.decno_i); (case h => omega)) | ((with_reducible apply PG.ndecy_i); (case h => omega)) | ((with_reducible apply PG.ndecno_i); (case h => omega))))
      refine wa_eq hr ?_
      (repeat (first | array_get_dec | ((with_reducible apply PG.decy_i); (case h => omega)) | ((with_reducible apply PG.decno_i); (case h => omega)) | ((with_reducible apply PG.ndecy_i); (case h => omega)) | ((with_reducible apply PG.ndecno_i); (case h => omega))))
      refine wa_eq hw ?_
      (repeat (first | array_get_dec | ((with_reducible apply PG.decy_i); (case h => omega)) | ((with_reducible apply PG.decno_i); (case h => omega)) | ((with_reducible apply PG.ndecy_i); (case h => omega)) | ((with_reducible apply PG.ndecno_i); (case h => omega))))
      refine wa_eq hf ?_
      (repeat (first | array_get_dec | ((with_reducible apply PG.decy_i); (case h => omega)) | ((with_reducible apply PG.decno_i); (case h => omega)) | ((with_reducible apply PG.ndecy_i); (case h => omega)) | ((with_reducible apply PG.ndecno_i); (case h => omega))))
      all_goals rfl
theorem two_back (n : Int) : 256 * (n / 256) + n % 256 = n := by omega
theorem read_inner_ok (k c : Int) (i : Inn) (Z : List Int) (hi : i.ok k) : F_read_inner [.int k, .tuple (IL (bd i c Z))] = some (.tuple (IL i.l)) := by
  cases i with
  | st a b f =>
    obtain ⟨rfl, _⟩ := hi
    have w1 : F_word [.tuple (IL (bd (.st a b f) c Z)), .int 0] = some (.int (256 * (a / 256) + a % 256)) := word_ok _ 0 0 _ _ rfl rfl rfl
    have w2 : F_word [.tuple (IL (bd (.st a b f) c Z)), .int 2] = some (.int (256 * (b / 256) + b % 256)) := word_ok _ 2 2 _ _ rfl rfl rfl
    have w3 : dIx (.tuple (IL (bd (.st a b f) c Z))) (.int 4) = some (.int f) := ix_tu _ 4 4 rfl (by simp [bd, inb, tw])
    rw [two_back] at w1 w2
    generalize IL (bd (.st a b f) c Z) = R at *
    simp [F_read_inner, B_read_inner, defP, dEq, w1, w2, w3, -dIx, Inn.l]
  | ask a b =>
    obtain ⟨rfl, _⟩ := hi
    have w1 : F_word [.tuple (IL (bd (.ask a b) c Z)), .int 0] = some (.int (256 * (a / 256) + a % 256)) := word_ok _ 0 0 _ _ rfl rfl rfl
    have w2 : F_word [.tuple (IL (bd (.ask a b) c Z)), .int 2] = some (.int (256 * (b / 256) + b % 256)) := word_ok _ 2 2 _ _ rfl rfl rfl
    rw [two_back] at w1 w2
    generalize IL (bd (.ask a b) c Z) = R at *
    simp [F_read_inner, B_read_inner, defP, dEq, w1, w2, -dIx, Inn.l]
  | note a b =>
    obtain ⟨rfl, _⟩ := hi
    have w3 : dIx (.tuple (IL (bd (.note a b) c Z))) (.int 0) = some (.int a) := ix_tu _ 0 0 rfl (by simp [bd, inb, tw])
    have w4 : dIx (.tuple (IL (bd (.note a b) c Z))) (.int 1) = some (.int b) := ix_tu _ 1 1 rfl (by simp [bd, inb, tw])
    generalize IL (bd (.note a b) c Z) = R at *
    simp [F_read_inner, B_read_inner, defP, dEq, w3, w4, -dIx, Inn.l]
  | oth =>
    obtain ⟨h1, h2, h3⟩ := hi
    simp [F_read_inner, B_read_inner, defP, dEq, h1, h2, h3, Inn.l]
end Pr_R
end
section
set_option linter.all false
set_option maxRecDepth 100000
set_option Elab.async false
namespace Pr_R
open PySem PG Pr_C Pr_D Pr_S Pr_P
def h12 (p : Pk) (c : Int) : List Int := [70 + (p.o.length : Int) / 2, p.k, p.len / 256, p.len % 256, p.t, 0, c / 256, c % 256, p.s / 256, p.s % 256, p.d / 256, p.d % 256]
def rowOf (p : Pk) (c1 c2 : Int) : List Int := h12 p c1 ++ p.o ++ bd p.i c2 p.p
def ok1 (p : Pk) (c : Int) : Prop := fo (wds (h12 p c ++ p.o)).sum = 65535
def ok2 (p : Pk) (c : Int) : Prop := p.i ≠ .oth → fo (wds (tw p.s ++ tw p.d ++ tw p.k ++ tw ((bd p.i c p.p).length : Nat) ++ bd p.i c p.p)).sum = 65535
theorem byt_row (p : Pk) : byt p = rowOf p (sum1 p) (sum2 p) := by
  unfold byt rowOf h12 bd
  cases hi : p.i <;> simp [hdr, eds, tw]
theorem wds_two (n : Int) (r : List Int) : wds (n / 256 :: n % 256 :: r) = n :: wds r := by
  simp only [wds, two_back]
theorem h12_sum (p : Pk) (c : Int) (ho : p.o.length % 2 = 0) : (wds (h12 p c ++ p.o)).sum = c + (wds (h12 p 0 ++ p.o)).sum := by
  have e : ∀ x, wds (h12 p x ++ p.o) = (256 * (70 + (p.o.length : Int) / 2) + p.k) :: p.len :: (256 * p.t + 0) :: x :: p.s :: p.d :: wds p.o := by
    intro x
    simp only [h12, List.cons_append, List.nil_append, wds, two_back]
  rw [e, e]
  simp only [List.sum_cons]
  omega
theorem h12_pos {p : Pk} (h : p.Ok) (hl : p.len ≤ 1500) : 0 < (wds (h12 p 0 ++ p.o)).sum := by
  have e : wds (h12 p 0 ++ p.o) = (256 * (70 + (p.o.length : Int) / 2) + p.k) :: p.len :: (256 * p.t + 0) :: 0 :: p.s :: p.d :: wds p.o := by
    simp only [h12, List.cons_append, List.nil_append, wds]
    simp only [two_back]
    try rfl
  rw [e]
  have h1 := (wds_nn p.o h.o.1).1
  have h2 := h.k
  have h3 := h.t
  have h4 := h.s
  have h5 := h.d
  have h6 := isz_bd p.k
  have h7 : 0 ≤ p.len := by simp only [Pk.len]; omega
  simp only [List.sum_cons]
  omega
theorem sum1_eq (p : Pk) : sum1 p = 65535 - fo (wds (h12 p 0 ++ p.o)).sum := by
  unfold sum1 chk
  rw [show hdr p ++ [0, 0] ++ eds p ++ p.o = h12 p 0 ++ p.o by simp [hdr, eds, tw, h12]]
theorem ok1_sum {p : Pk} (h : p.Ok) (hl : p.len ≤ 1500) : ok1 p (sum1 p) := by
  unfold ok1
  rw [h12_sum _ _ h.o.2.2, sum1_eq, Int.add_comm]
  exact fo_up (h12_pos h hl)
theorem ok1_full {p : Pk} (h : p.Ok) (hl : p.len ≤ 1500) (e : sum1 p = 0) : ok1 p 65535 := by
  unfold ok1
  rw [h12_sum _ _ h.o.2.2, Int.add_comm]
  rw [sum1_eq] at e
  exact fo_full (h12_pos h hl) (by omega)
theorem inb_even {i : Inn} : (inb i).length % 2 = 0 := by cases i <;> simp [inb, tw]
theorem bd_sum {p : Pk} (hi : p.i ≠ .oth) (n : Int) (c : Int) : (wds (tw p.s ++ tw p.d ++ tw p.k ++ tw n ++ bd p.i c p.p)).sum = c + (wds (tw p.s ++ tw p.d ++ tw p.k ++ tw n ++ bd p.i 0 p.p)).sum := by
  have e0 : ∀ x, bd p.i x p.p = inb p.i ++ tw x ++ p.p := by
    intro x
    cases h : p.i with
    | oth => exact absurd h hi
    | _ => rfl
  have e : ∀ x, wds (tw p.s ++ tw p.d ++ tw p.k ++ tw n ++ bd p.i x p.p) = p.s :: p.d :: p.k :: n :: (wds (inb p.i) ++ x :: wds p.p) := by
    intro x
    rw [e0]
    have a : wds (inb p.i ++ (tw x ++ p.p)) = wds (inb p.i) ++ x :: wds p.p := by
      rw [wds_app _ _ inb_even]
      simp only [tw, List.cons_append, List.nil_append, wds_two]
    simp only [tw, List.cons_append, List.nil_append, List.append_assoc, wds_two] at a ⊢
    rw [a]
  rw [e, e]
  simp only [List.sum_cons, List.sum_append]
  omega
theorem rst_bd {p : Pk} (hi : p.i ≠ .oth) : rst p = bd p.i 0 p.p := by
  unfold rst bd
  cases h : p.i with
  | oth => exact absurd h hi
  | _ => rfl
theorem bd_len2 (i : Inn) (c d : Int) (Z : List Int) : (bd i c Z).length = (bd i d Z).length := by
  cases i <;> simp [bd, inb, tw]
theorem sum2_eq {p : Pk} (hi : p.i ≠ .oth) (c : Int) : sum2 p = 65535 - fo (wds (tw p.s ++ tw p.d ++ tw p.k ++ tw ((bd p.i c p.p).length : Nat) ++ bd p.i 0 p.p)).sum := by
  unfold sum2 chk
  rw [rst_bd hi, bd_len2 p.i c 0]
  rfl
theorem bd_pos {p : Pk} (h : p.Ok) (hi : p.i ≠ .oth) (c : Int) : 0 < (wds (tw p.s ++ tw p.d ++ tw p.k ++ tw ((bd p.i c p.p).length : Nat) ++ bd p.i 0 p.p)).sum := by
  have h0 := h.s
  have h1 := h.d
  have h2 : 1 ≤ p.k := by
    have := h.i
    cases hh : p.i with
    | oth => exact absurd hh hi
    | st a b f => rw [hh] at this; have := this.1; omega
    | ask a b => rw [hh] at this; have := this.1; omega
    | note a b => rw [hh] at this; have := this.1; omega
  have hb : ∀ x ∈ bd p.i 0 p.p, 0 ≤ x ∧ x ≤ 255 := by
    rw [← rst_bd hi]
    have hh := h.i
    have hp := h.p.1
    unfold rst
    cases e : p.i with
    | oth => exact absurd e hi
    | st a b f => rw [e] at hh; obtain ⟨_, a1, a2, a3⟩ := hh; exact row_app (row_app (row_app (row_app (tw_row a1.1 a1.2) (tw_row a2.1 a2.2)) (row_cons a3.1 (by omega) (row_cons (by decide) (by decide) row_nil))) (row_cons (by decide) (by decide) (row_cons (by decide) (by decide) row_nil))) hp
    | ask a b => rw [e] at hh; obtain ⟨_, a1, a2⟩ := hh; exact row_app (row_app (row_app (tw_row a1.1 a1.2) (tw_row a2.1 a2.2)) (row_cons (by decide) (by decide) (row_cons (by decide) (by decide) row_nil))) hp
    | note a b => rw [e] at hh; obtain ⟨_, a1, a2⟩ := hh; exact row_app (row_app (row_cons a1.1 a1.2 (row_cons a2.1 a2.2 row_nil)) (row_cons (by decide) (by decide) (row_cons (by decide) (by decide) row_nil))) hp
  have := (wds_nn _ hb).1
  simp only [tw, List.cons_append, List.nil_append, wds_two, List.sum_cons]
  omega
theorem ok2_sum {p : Pk} (h : p.Ok) : ok2 p (sum2 p) := by
  intro hi
  have e1 := bd_sum hi ((bd p.i (sum2 p) p.p).length : Nat) (sum2 p)
  have e2 := sum2_eq hi (sum2 p)
  have e3 := bd_pos h hi (sum2 p)
  rw [e1]
  generalize (wds (tw p.s ++ tw p.d ++ tw p.k ++ tw ((bd p.i (sum2 p) p.p).length : Nat) ++ bd p.i 0 p.p)).sum = S at *
  rw [e2, Int.add_comm]
  exact fo_up e3
theorem ok2_full {p : Pk} (h : p.Ok) (e : p.i ≠ .oth → sum2 p = 0) : ok2 p 65535 := by
  intro hi
  have e1 := bd_sum hi ((bd p.i 65535 p.p).length : Nat) 65535
  have e2 := sum2_eq hi 65535
  have e3 := bd_pos h hi 65535
  rw [e1]
  generalize (wds (tw p.s ++ tw p.d ++ tw p.k ++ tw ((bd p.i 65535 p.p).length : Nat) ++ bd p.i 0 p.p)).sum = S at *
  rw [e hi] at e2
  rw [Int.add_comm]
  exact fo_full e3 (by omega)
theorem wb_empty {Q : Bool → Prop} (q : Q false) : WB (truth (.str (Str.ofString ""))) Q := ⟨false, by decide +kernel, q⟩
local macro_rules | `(tactic| array_get_dec) => `(tactic| first | ((with_reducible apply PG.ws_set)) | ((with_reducible apply PG.ws_if)) | ((with_reducible apply PG.ws_ret)) | ((with_reducible apply PG.ws_setL)) | ((with_reducible apply PG.ws_expr)) | ((with_reducible apply PG.ws_nilc)) | ((with_reducible apply PG.ws_asc)) | ((with_reducible apply PG.ws_nil)) | ((with_reducible apply PG.ws_for)) | ((with_reducible apply PG.ws_asg)) | ((with_reducible apply PG.ws_par)) | ((with_reducible apply PG.ws_retL)) | ((with_reducible apply PG.ws_brk)) | ((with_reducible apply PG.ws_cont)) | ((with_reducible apply PG.ws_forn)) | ((with_reducible apply PG.ws_sto)) | ((with_reducible apply PG.ws_aug); (case hget => rfl)) | ((with_reducible apply PG.ws_app); (case hget => rfl)) | ((with_reducible apply PG.ws_retO); (case hget => rfl)) | ((with_reducible apply PG.we_name); (case hget => rfl)) | ((with_reducible apply PG.we_c)) | ((with_reducible apply PG.we_bin)) | ((with_reducible apply PG.we_un)) | ((with_reducible apply PG.we_call)) | ((with_reducible apply PG.we_callL); (case hget => rfl)) | ((with_reducible apply PG.we_tup)) | ((with_reducible apply PG.we_lst)) | ((with_reducible apply PG.we_if)) | ((with_reducible apply PG.we_ixL); (case hget => rfl)) | ((with_reducible apply PG.we_unL); (case hget => rfl)) | ((with_reducible apply PG.we_and)) | ((with_reducible apply PG.we_or)) | ((with_reducible apply PG.we_not)) | ((with_reducible apply PG.we_chain)) | ((with_reducible apply PG.we_slT)) | ((with_reducible apply PG.wn_cons)) | ((with_reducible apply PG.wn_nil)) | ((with_reducible apply PG.wn_star)) | ((with_reducible apply PG.wn_disp)) | ((with_reducible apply PG.wn_call)) | ((with_reducible apply PG.wn_sl)) | ((with_reducible apply PG.wn_its)) | ((with_reducible apply PG.wn_r1)) | ((with_reducible apply PG.wn_r2)) | ((with_reducible apply PG.wn_r3)) | ((with_reducible apply PG.wt_tru)) | ((with_reducible apply PG.wt_bl)) | ((with_reducible apply PG.wt_and)) | ((with_reducible apply PG.wt_or)) | ((with_reducible apply PG.wt_not)) | ((with_reducible apply PG.wt_yes)) | ((with_reducible apply PG.wt_truL); (case hget => rfl)) | ((with_reducible apply PG.wo_none)) | ((with_reducible apply PG.wo_some)) | ((with_reducible apply PG.wg_p0)) | ((with_reducible apply PG.wg_tup)) | ((with_reducible apply PG.wg_ps); (case hset => (repeat' (first | exact PG.SetR.h0 | exact PG.SetR.h1 | exact PG.SetR.hl | exact PG.SetR.hc (by assumption) | apply PG.SetR.s)))) | ((with_reducible apply PG.wg_set); (case hset => (repeat' (first | exact PG.SetR.h0 | exact PG.SetR.h1 | exact PG.SetR.hl | exact PG.SetR.hc (by assumption) | apply PG.SetR.s)))) | ((with_reducible apply PG.we_frz); (case hget => rfl); (case hset => (repeat' (first | exact PG.SetR.h0 | exact PG.SetR.h1 | exact PG.SetR.hl | exact PG.SetR.hc (by assumption) | apply PG.SetR.s)))) | ((with_reducible apply PG.setr_i); (case hset => (repeat' (first | exact PG.SetR.h0 | exact PG.SetR.h1 | exact PG.SetR.hl | exact PG.SetR.hc (by assumption) | apply PG.SetR.s)))) | ((with_reducible apply PG.setl_i); (case hset => (repeat' (first | exact PG.SetLR.h0 | exact PG.SetLR.h1 | exact PG.SetLR.hl | apply PG.SetLR.s)))) | ((with_reducible apply PG.put_i); (case hset => (repeat' (first | exact PG.PutR.h | apply PG.PutR.s)))) | ((with_reducible apply PG.pool_i); (case hget => rfl)) | ((with_reducible apply PG.bool_i)) | ((with_reducible apply PG.int_i)) | ((with_reducible apply PG.seqL_i)) | ((with_reducible apply PG.seqT_i)) | ((with_reducible apply PG.seqR_i)) | ((with_reducible apply PG.starT_i)) | ((with_reducible apply PG.starL_i)) | ((with_reducible apply PG.len_i); (case h => rfl)) | ((with_reducible apply PG.tup_i)) | ((with_reducible apply PG.yes_i)) | ((with_reducible apply PG.no_i)) | ((with_reducible apply PG.nyes_i)) | ((with_reducible apply PG.nno_i)) | ((with_reducible apply PG.wa_add)) | ((with_reducible apply PG.wa_sub)) | ((with_reducible apply PG.wa_lt)) | ((with_reducible apply PG.wa_le)) | ((with_reducible apply PG.wa_gt)) | ((with_reducible apply PG.wa_ge)) | ((with_reducible apply PG.wa_eqI)) | ((with_reducible apply PG.wa_neI)) | ((with_reducible apply PG.wa_neg)) | ((with_reducible apply PG.wa_lenL)) | ((with_reducible apply PG.wa_lenT)) | ((with_reducible apply PG.wa_int)) | ((with_reducible apply PG.wa_max)) | ((with_reducible apply PG.wa_min)) | ((with_reducible apply PG.wb_bool)) | ((with_reducible apply PG.wb_int)) | ((with_reducible apply PG.endP_ret)) | ((with_reducible apply PG.endP_retL)) | ((with_reducible apply PG.endN_ret)) | ((with_reducible apply PG.endL_ret)) | ((with_reducible apply PG.endL_retL)) | ((with_reducible apply PG.wa_binO)) | ((with_reducible apply PG.ch_le)) | ((with_reducible apply PG.ch_lt)) | ((with_reducible apply PG.ch_eq)) | ((with_reducible apply PG.wa_ix0); (case hget => rfl)) | ((with_reducible apply PG.wa_ix1); (case hget => rfl)) | ((with_reducible apply PG.wa_ix2); (case hget => rfl)) | ((with_reducible apply PG.wa_ix3); (case hget => rfl)) | ((with_reducible apply PG.wa_ix4); (case hget => rfl)) | ((with_reducible apply PG.wa_ix5); (case hget => rfl)) | ((with_reducible apply PG.wa_ix6); (case hget => rfl)) | ((with_reducible apply PG.wa_ix7); (case hget => rfl)) | ((with_reducible apply PG.wa_ix8); (case hget => rfl)) | ((with_reducible apply PG.wa_il0); (case hget => rfl)) | ((with_reducible apply PG.wa_il1); (case hget => rfl)) | ((with_reducible apply PG.wa_il2); (case hget => rfl)) | ((with_reducible apply PG.wa_ev1)) | ((with_reducible apply PG.wa_ev)) | ((with_reducible apply PG.wl_ev)) | ((with_reducible apply PG.wb_ev)) | ((with_reducible apply PG.wa_mod); (case h1 => omega)) | ((with_reducible apply PG.wa_div); (case h1 => omega); (case h2 => omega)) | ((with_reducible apply PG.wa_mulR); (case h1 => omega); (case h2 => omega)) | ((with_reducible apply PG.wa_mulL); (case h1 => omega); (case h2 => omega)) | ((with_reducible apply PG.wa_shr); (case h1 => omega)))
local macro_rules | `(tactic| array_get_dec) => `(tactic| first | ((with_reducible apply Pr_C.wp_draw); (case hp => assumption); (case h0 => omega); (case h1 => omega)) | ((with_reducible apply Pr_C.ls_i); (case hp => assumption)))

theorem read_ok (p : Pk) (h : p.Ok) (hl : p.len ≤ 1500) (c1 c2 : Int) (k1 : ok1 p c1) (k2 : ok2 p c2) : F_read_packet [.tuple (IL (rowOf p c1 c2))] = some p.v := by
  have hb := bd_len h.i c2 p.p
  have hz := isz_bd p.k
  have ho := h.o
  have hlen : p.len = 12 + (p.o.length : Int) + (bd p.i c2 p.p).length := by simp only [Pk.len]; omega
  have f1 := outer_ok p.k (p.len / 256) (p.len % 256) p.t (c1 / 256) (c1 % 256) (p.s / 256) (p.s % 256) (p.d / 256) (p.d % 256) p.o (bd p.i c2 p.p) ho.2.1 ho.2.2 (by omega) (by omega) h.t.1 k1
  have f2 := inner_fault_ok p.s p.d p.k c2 p.i p.p h.i h.p.2 k2
  have f3 := read_inner_ok p.k c2 p.i p.p h.i
  have oe : F_options_end [.int (70 + (p.o.length : Int) / 2)] = some (.int (12 + (p.o.length : Int))) := by
    have he : 2 * (70 + (p.o.length : Int) / 2 - 64) = 12 + (p.o.length : Int) := by omega
    simp [F_options_end, B_options_end, defP, he]
  have w8 : F_word [.tuple (IL (rowOf p c1 c2)), .int 8] = some (.int (256 * (p.s / 256) + p.s % 256)) := word_ok _ 8 8 _ _ rfl rfl rfl
  have w10 : F_word [.tuple (IL (rowOf p c1 c2)), .int 10] = some (.int (256 * (p.d / 256) + p.d % 256)) := word_ok _ 10 10 _ _ rfl rfl rfl
  rw [two_back] at w8 w10
  have i0 : dIx (.tuple (IL (rowOf p c1 c2))) (.int 0) = some (.int (70 + (p.o.length : Int) / 2)) := ix_tu _ 0 0 rfl (by simp [rowOf, h12])
  have i1 : dIx (.tuple (IL (rowOf p c1 c2))) (.int 1) = some (.int p.k) := ix_tu _ 1 1 rfl (by simp [rowOf, h12])
  have i4 : dIx (.tuple (IL (rowOf p c1 c2))) (.int 4) = some (.int p.t) := ix_tu _ 4 4 rfl (by simp [rowOf, h12])
  have s1 : cutD (IL (rowOf p c1 c2)) (some (12 + (p.o.length : Int))) none = IL (bd p.i c2 p.p) := by
    rw [show IL (rowOf p c1 c2) = IL (h12 p c1 ++ p.o) ++ IL (bd p.i c2 p.p) by simp [IL, rowOf]]
    exact cut_hi _ _ _ (by simp [h12]; omega)
  have s2 : cutD (IL (rowOf p c1 c2)) (some 12) (some (12 + (p.o.length : Int))) = IL p.o := by
    rw [show IL (rowOf p c1 c2) = IL (h12 p c1) ++ IL p.o ++ IL (bd p.i c2 p.p) by simp [IL, rowOf]]
    exact cut_mid _ _ _ _ _ (by simp [h12]) (by simp [h12]; omega)
  have s3 : cutD (IL (bd p.i c2 p.p)) (some (isz p.k)) none = IL p.p := by
    have e := isz_inn h.i
    rw [show IL (bd p.i c2 p.p) = IL (bd p.i c2 []) ++ IL p.p by cases p.i <;> simp [bd, IL]]
    exact cut_hi _ _ _ (by rw [e]; cases p.i <;> simp [bd, inb, tw, Inn.sz])
  have f1' : F_outer_fault [.tuple (IL (rowOf p c1 c2))] = some (.str (Str.ofString "")) := f1
  refine of_wa ?_
  unfold Pk.v
  generalize IL (rowOf p c1 c2) = R at *
  generalize IL (bd p.i c2 p.p) = R2 at *
  unfold F_read_packet; refine PG.wa_def rfl ?_; simp only [PG.rho0_eq, List.map_cons, List.map_nil, List.replicate_succ, List.replicate_zero, List.cons_append, List.nil_append]; unfold B_read_packet
  (repeat array_get_dec)
  refine wa_eq f1' ?_
  (repeat array_get_dec)
  refine wb_empty ?_
  (repeat array_get_dec)
  refine wa_eq i0 ?_
  (repeat array_get_dec)
  refine wa_eq oe ?_
  (repeat array_get_dec)
  refine wa_eq w8 ?_
  (repeat array_get_dec)
  refine wa_eq w10 ?_
  (repeat array_get_dec)
  refine wa_eq i1 ?_
  (repeat array_get_dec)
  rw [s1]
  (repeat array_get_dec)
  refine wa_eq f2 ?_
  (repeat array_get_dec)
  refine wb_empty ?_
  (repeat array_get_dec)
  refine wa_eq f3 ?_
  (repeat array_get_dec)
  refine wa_eq i4 ?_
  (repeat array_get_dec)
  rw [s2, s3]
  all_goals rfl
end Pr_R
end
section
set_option Elab.async false
set_option linter.all false
set_option maxRecDepth 100000
namespace Pr_gatewarden_k12_whole_packets_come_back
open PySem PG Pr_C Pr_P Pr_R Pr_S
/-! what each def does, on data -/
def X_law_1 : SF :=
  (sSeq (sSet 3 (eCallL F_law_packet 1 (nCons (eC (.int 60)) nNil)))
  (sSeq (sSet 4 (eBin dAdd (eC (.int 12)) (eCall (o1of dLen) (nCons (eBin dIx (eName 3) (eC (.int 4))) nNil))))
  (sSeq (sIf (tBl (eBin dGt (eName 2) (eC (.int 1))))
  (sSeq (sSet 5 (eCall F_law_bytes (nCons (eName 3) nNil)))
  (sSeq (sSet 3 (eBin dAdd (eTup (nCons (eCall F_law_fold (nCons (eLst (nDisp (nCons (eBin dIx (eName 3) (eC (.int 0))) (nCons (eBin dAdd (eBin dMul (eC (.int 256)) (eBin dIx (eName 5) (eC (.int 6)))) (eBin dIx (eName 5) (eC (.int 7)))) nNil)))) nNil)) nNil)) (eSlT (eName 3) (some (eC (.int 1))) none)))
  (sSeq (sSet 5 (eCall F_law_bytes (nCons (eName 3) nNil)))
  (sSeq (sSet 6 (eBin dSub (eBin dAdd (eName 4) (eCall F_law_inner_size (nCons (eBin dIx (eName 3) (eC (.int 2))) nNil))) (eC (.int 2))))
  (sSeq (sIf (tBl (eBin dIn2 (eBin dIx (eName 3) (eC (.int 2))) (eTup (nCons (eC (.int 6)) (nCons (eC (.int 17)) nNil)))))
  (sSeq (sSet 3 (eBin dAdd (eSlT (eName 3) none (some (eC (.int 5)))) (eTup (nCons (eBin dAdd (eTup (nCons (eCall F_law_fold (nCons (eLst (nDisp (nCons (eBin dIx (eBin dIx (eName 3) (eC (.int 5))) (eC (.int 0))) (nCons (eBin dAdd (eBin dMul (eC (.int 256)) (eBin dIx (eName 5) (eName 6))) (eBin dIx (eName 5) (eBin dAdd (eName 6) (eC (.int 1))))) nNil)))) nNil)) nNil)) (eSlT (eBin dIx (eName 3) (eC (.int 5))) (some (eC (.int 1))) none)) (nCons (eBin dIx (eName 3) (eC (.int 6))) nNil)))))
  sNil)
  sNil)
  (sSeq (sIf (tBl (eBin dEq (eBin dIx (eName 3) (eC (.int 2))) (eC (.int 1))))
  (sSeq (sSet 7 (eCall F_law_fold (nCons (eLst (nDisp (nCons (eBin dAdd (eBin dMul (eC (.int 256)) (eBin dIx (eBin dIx (eName 3) (eC (.int 5))) (eC (.int 0)))) (eBin dIx (eBin dIx (eName 3) (eC (.int 5))) (eC (.int 1)))) (nCons (eBin dAdd (eBin dMul (eC (.int 256)) (eBin dIx (eName 5) (eName 6))) (eBin dIx (eName 5) (eBin dAdd (eName 6) (eC (.int 1))))) nNil)))) nNil)))
  (sSeq (sSet 3 (eBin dAdd (eSlT (eName 3) none (some (eC (.int 5)))) (eTup (nCons (eCall F_law_two (nCons (eName 7) nNil)) (nCons (eBin dIx (eName 3) (eC (.int 6))) nNil)))))
  sNil))
  sNil)
  sNil))))))
  sNil)
  (sSeq (sSet 5 (eCall F_law_bytes (nCons (eName 3) nNil)))
  (sSeq (sIf (tAnd' (tBl (eBin dGt (eName 2) (eC (.int 1)))) (tBl (eBin dNe (eSlT (eName 5) (some (eC (.int 6))) (some (eC (.int 8)))) (eTup (nCons (eC (.int 0)) (nCons (eC (.int 0)) nNil))))))
  (sSeq (sRet (eC (.bool false)))
  sNil)
  sNil)
  (sSeq (sIf (tNot' (tTru (eCall (F_law_same 40) (nCons (eLst (nDisp (nCons (eCall F_read_packet (nCons (eName 5) nNil)) (nCons (eCall F_read_packet (nCons (eCall F_write_packet (nCons (eName 3) nNil)) nNil)) nNil)))) (nCons (eLst (nDisp (nCons (eName 3) (nCons (eName 3) nNil)))) nNil)))))
  (sSeq (sRet (eC (.bool false)))
  sNil)
  sNil)
  (sSeq (sSet 6 (eC (.int 6)))
  (sSeq (sIf (tBl (eBin dEq (eSlT (eName 5) (some (eName 6)) (some (eBin dAdd (eName 6) (eC (.int 2))))) (eTup (nCons (eC (.int 0)) (nCons (eC (.int 0)) nNil)))))
  (sSeq (sSet 5 (eBin dAdd (eBin dAdd (eSlT (eName 5) none (some (eName 6))) (eTup (nCons (eC (.int 255)) (nCons (eC (.int 255)) nNil)))) (eSlT (eName 5) (some (eBin dAdd (eName 6) (eC (.int 2)))) none)))
  sNil)
  sNil)
  (sSeq (sSet 6 (eBin dSub (eBin dAdd (eName 4) (eCall F_law_inner_size (nCons (eBin dIx (eName 3) (eC (.int 2))) nNil))) (eC (.int 2))))
  (sSeq (sIf (tAnd' (tBl (eBin dIn2 (eBin dIx (eName 3) (eC (.int 2))) (eTup (nCons (eC (.int 1)) (nCons (eC (.int 6)) (nCons (eC (.int 17)) nNil)))))) (tBl (eBin dEq (eSlT (eName 5) (some (eName 6)) (some (eBin dAdd (eName 6) (eC (.int 2))))) (eTup (nCons (eC (.int 0)) (nCons (eC (.int 0)) nNil))))))
  (sSeq (sSet 5 (eBin dAdd (eBin dAdd (eSlT (eName 5) none (some (eName 6))) (eTup (nCons (eC (.int 255)) (nCons (eC (.int 255)) nNil)))) (eSlT (eName 5) (some (eBin dAdd (eName 6) (eC (.int 2)))) none)))
  sNil)
  sNil)
  (sSeq (sIf (tNot' (tTru (eCall (F_law_same 40) (nCons (eCall F_read_packet (nCons (eName 5) nNil)) (nCons (eName 3) nNil)))))
  (sSeq (sRet (eC (.bool false)))
  sNil)
  sNil)
  sNil)))))))))))
def B_law : SF :=
  (sSeq (sSetL 1 (nCall F_law_pool (nCons (eName 0) nNil)))
  (sSeq (sFor (itR1 (nCons (eC (.int 4)) nNil)) (gSet 2)
  X_law_1)
  (sSeq (sRet (eC (.bool true)))
  sNil)))
def F_law : List PyData → Option PyData := defP B_law 1 7
end Pr_gatewarden_k12_whole_packets_come_back
end
section
set_option Elab.async false
set_option linter.all false
set_option maxRecDepth 100000
set_option maxHeartbeats 4000000
namespace Pr_gatewarden_k12_whole_packets_come_back
open PySem PySem.Spec PyProof.Rows L2 PG Pr_C Pr_P Pr_R Pr_S
/-! the linked text does it -/
def topS (i : Nat) : Stmt := PySem.Challenge.pw_gatewarden_k12_whole_packets_come_back.main.body.getD i (.Pass ⟨0, 0, 0, 0⟩)
abbrev s_words_of : Stmt := topS 4
theorem sc_words_of : FnScope ["row", "even", "k"] ["row"] (defScope s_words_of) := ⟨rfl, rfl, rfl, by decide +kernel, rfl, by decide +kernel, by decide +kernel⟩
abbrev s_folded : Stmt := topS 5
theorem sc_folded : FnScope ["words", "total"] ["words"] (defScope s_folded) := ⟨rfl, rfl, rfl, by decide +kernel, rfl, by decide +kernel, by decide +kernel⟩
abbrev s_sum_of : Stmt := topS 6
theorem sc_sum_of : FnScope ["row"] ["row"] (defScope s_sum_of) := ⟨rfl, rfl, rfl, by decide +kernel, rfl, by decide +kernel, by decide +kernel⟩
abbrev s_head_bytes : Stmt := topS 15
theorem sc_head_bytes : FnScope ["kind"] ["kind"] (defScope s_head_bytes) := ⟨rfl, rfl, rfl, by decide +kernel, rfl, by decide +kernel, by decide +kernel⟩
abbrev s_length_of : Stmt := topS 16
theorem sc_length_of : FnScope ["packet", "kind", "options", "payload"] ["packet"] (defScope s_length_of) := ⟨rfl, rfl, rfl, by decide +kernel, rfl, by decide +kernel, by decide +kernel⟩
abbrev s_two : Stmt := topS 18
theorem sc_two : FnScope ["number"] ["number"] (defScope s_two) := ⟨rfl, rfl, rfl, by decide +kernel, rfl, by decide +kernel, by decide +kernel⟩
abbrev s_inner_bytes : Stmt := topS 19
theorem sc_inner_bytes : FnScope ["kind", "inner"] ["kind", "inner"] (defScope s_inner_bytes) := ⟨rfl, rfl, rfl, by decide +kernel, rfl, by decide +kernel, by decide +kernel⟩
abbrev s_inner_row : Stmt := topS 20
theorem sc_inner_row : FnScope ["source", "destination", "kind", "behind"] ["source", "destination", "kind", "behind"] (defScope s_inner_row) := ⟨rfl, rfl, rfl, by decide +kernel, rfl, by decide +kernel, by decide +kernel⟩
abbrev s_write_packet : Stmt := topS 17
theorem sc_write_packet : FnScope ["packet", "start", "ends", "check", "behind", "source", "destination", "kind", "ttl", "options", "inner", "payload", "at", "inner_check"] ["packet"] (defScope s_write_packet) := ⟨rfl, rfl, rfl, by decide +kernel, rfl, by decide +kernel, by decide +kernel⟩
abbrev s_options_end : Stmt := topS 23
theorem sc_options_end : FnScope ["first_byte"] ["first_byte"] (defScope s_options_end) := ⟨rfl, rfl, rfl, by decide +kernel, rfl, by decide +kernel, by decide +kernel⟩
abbrev s_word : Stmt := topS 22
theorem sc_word : FnScope ["row", "at"] ["row", "at"] (defScope s_word) := ⟨rfl, rfl, rfl, by decide +kernel, rfl, by decide +kernel, by decide +kernel⟩
abbrev s_outer_fault : Stmt := topS 24
theorem sc_outer_fault : FnScope ["row", "end"] ["row"] (defScope s_outer_fault) := ⟨rfl, rfl, rfl, by decide +kernel, rfl, by decide +kernel, by decide +kernel⟩
abbrev s_inner_fault : Stmt := topS 25
theorem sc_inner_fault : FnScope ["source", "destination", "kind", "behind"] ["source", "destination", "kind", "behind"] (defScope s_inner_fault) := ⟨rfl, rfl, rfl, by decide +kernel, rfl, by decide +kernel, by decide +kernel⟩
abbrev s_read_inner : Stmt := topS 26
theorem sc_read_inner : FnScope ["kind", "behind"] ["kind", "behind"] (defScope s_read_inner) := ⟨rfl, rfl, rfl, by decide +kernel, rfl, by decide +kernel, by decide +kernel⟩
abbrev s_read_packet : Stmt := topS 21
theorem sc_read_packet : FnScope ["row", "reason", "end", "inner", "source", "destination", "kind", "behind"] ["row"] (defScope s_read_packet) := ⟨rfl, rfl, rfl, by decide +kernel, rfl, by decide +kernel, by decide +kernel⟩
abbrev s_law_same : Stmt := topS 28
theorem sc_law_same : FnScope ["actual", "due", "k"] ["actual", "due"] (defScope s_law_same) := ⟨rfl, rfl, rfl, by decide +kernel, rfl, by decide +kernel, by decide +kernel⟩
abbrev s_law_pool : Stmt := topS 29
theorem sc_law_pool : FnScope ["script", "salt", "cell"] ["script"] (defScope s_law_pool) := ⟨rfl, rfl, rfl, by decide +kernel, rfl, by decide +kernel, by decide +kernel⟩
abbrev s_law_spread : Stmt := topS 30
theorem sc_law_spread : FnScope ["cell", "mixed", "total", "k"] ["cell"] (defScope s_law_spread) := ⟨rfl, rfl, rfl, by decide +kernel, rfl, by decide +kernel, by decide +kernel⟩
abbrev s_law_draw : Stmt := topS 31
theorem sc_law_draw : FnScope ["pool", "many", "value", "cell", "mixed"] ["pool", "many"] (defScope s_law_draw) := ⟨rfl, rfl, rfl, by decide +kernel, rfl, by decide +kernel, by decide +kernel⟩
abbrev s_law_number : Stmt := topS 32
theorem sc_law_number : FnScope ["pool", "top", "turn"] ["pool", "top"] (defScope s_law_number) := ⟨rfl, rfl, rfl, by decide +kernel, rfl, by decide +kernel, by decide +kernel⟩
abbrev s_law_fold : Stmt := topS 33
theorem sc_law_fold : FnScope ["words", "total"] ["words"] (defScope s_law_fold) := ⟨rfl, rfl, rfl, by decide +kernel, rfl, by decide +kernel, by decide +kernel⟩
abbrev s_law_words : Stmt := topS 34
theorem sc_law_words : FnScope ["row", "even", "k"] ["row"] (defScope s_law_words) := ⟨rfl, rfl, rfl, by decide +kernel, rfl, by decide +kernel, by decide +kernel⟩
abbrev s_law_check : Stmt := topS 35
theorem sc_law_check : FnScope ["row"] ["row"] (defScope s_law_check) := ⟨rfl, rfl, rfl, by decide +kernel, rfl, by decide +kernel, by decide +kernel⟩
abbrev s_law_two : Stmt := topS 36
theorem sc_law_two : FnScope ["number"] ["number"] (defScope s_law_two) := ⟨rfl, rfl, rfl, by decide +kernel, rfl, by decide +kernel, by decide +kernel⟩
abbrev s_law_row : Stmt := topS 37
theorem sc_law_row : FnScope ["pool", "many", "k"] ["pool", "many"] (defScope s_law_row) := ⟨rfl, rfl, rfl, by decide +kernel, rfl, by decide +kernel, by decide +kernel⟩
abbrev s_law_inner_size : Stmt := topS 38
theorem sc_law_inner_size : FnScope ["kind"] ["kind"] (defScope s_law_inner_size) := ⟨rfl, rfl, rfl, by decide +kernel, rfl, by decide +kernel, by decide +kernel⟩
abbrev s_law_kind : Stmt := topS 39
theorem sc_law_kind : FnScope ["pool"] ["pool"] (defScope s_law_kind) := ⟨rfl, rfl, rfl, by decide +kernel, rfl, by decide +kernel, by decide +kernel⟩
abbrev s_law_inner : Stmt := topS 40
theorem sc_law_inner : FnScope ["pool", "kind"] ["pool", "kind"] (defScope s_law_inner) := ⟨rfl, rfl, rfl, by decide +kernel, rfl, by decide +kernel, by decide +kernel⟩
abbrev s_law_packet : Stmt := topS 41
theorem sc_law_packet : FnScope ["pool", "most", "kind", "ends", "options", "payload"] ["pool", "most"] (defScope s_law_packet) := ⟨rfl, rfl, rfl, by decide +kernel, rfl, by decide +kernel, by decide +kernel⟩
abbrev s_law_length : Stmt := topS 42
theorem sc_law_length : FnScope ["packet"] ["packet"] (defScope s_law_length) := ⟨rfl, rfl, rfl, by decide +kernel, rfl, by decide +kernel, by decide +kernel⟩
abbrev s_law_bytes : Stmt := topS 43
theorem sc_law_bytes : FnScope ["packet", "head", "ends", "outer", "inner", "rest", "check"] ["packet"] (defScope s_law_bytes) := ⟨rfl, rfl, rfl, by decide +kernel, rfl, by decide +kernel, by decide +kernel⟩
abbrev s_law : Stmt := topS 44
theorem sc_law : FnScope ["script", "pool", "turn", "packet", "head", "row", "at", "word"] ["script"] (defScope s_law) := ⟨rfl, rfl, rfl, by decide +kernel, rfl, by decide +kernel, by decide +kernel⟩
structure Tx (K : PySem.W.Frag) (mg : Str → Option Value) where
  a_words_of : Addr
  fd_words_of : FuncData
  F_words_of : L2.Fun K "words_of" "words_of" s_words_of a_words_of fd_words_of
  b_words_of : L2.Binds K fd_words_of ["row"] []
  g_words_of : mg "words_of" = some (.ref a_words_of)
  a_folded : Addr
  fd_folded : FuncData
  F_folded : L2.Fun K "folded" "folded" s_folded a_folded fd_folded
  b_folded : L2.Binds K fd_folded ["words"] []
  g_folded : mg "folded" = some (.ref a_folded)
  a_sum_of : Addr
  fd_sum_of : FuncData
  F_sum_of : L2.Fun K "sum_of" "sum_of" s_sum_of a_sum_of fd_sum_of
  b_sum_of : L2.Binds K fd_sum_of ["row"] []
  g_sum_of : mg "sum_of" = some (.ref a_sum_of)
  a_head_bytes : Addr
  fd_head_bytes : FuncData
  F_head_bytes : L2.Fun K "head_bytes" "head_bytes" s_head_bytes a_head_bytes fd_head_bytes
  b_head_bytes : L2.Binds K fd_head_bytes ["kind"] []
  g_head_bytes : mg "head_bytes" = some (.ref a_head_bytes)
  a_length_of : Addr
  fd_length_of : FuncData
  F_length_of : L2.Fun K "length_of" "length_of" s_length_of a_length_of fd_length_of
  b_length_of : L2.Binds K fd_length_of ["packet"] []
  g_length_of : mg "length_of" = some (.ref a_length_of)
  a_two : Addr
  fd_two : FuncData
  F_two : L2.Fun K "_two" "_two" s_two a_two fd_two
  b_two : L2.Binds K fd_two ["number"] []
  g_two : mg "_two" = some (.ref a_two)
  a_inner_bytes : Addr
  fd_inner_bytes : FuncData
  F_inner_bytes : L2.Fun K "_inner_bytes" "_inner_bytes" s_inner_bytes a_inner_bytes fd_inner_bytes
  b_inner_bytes : L2.Binds K fd_inner_bytes ["kind", "inner"] []
  g_inner_bytes : mg "_inner_bytes" = some (.ref a_inner_bytes)
  a_inner_row : Addr
  fd_inner_row : FuncData
  F_inner_row : L2.Fun K "_inner_row" "_inner_row" s_inner_row a_inner_row fd_inner_row
  b_inner_row : L2.Binds K fd_inner_row ["source", "destination", "kind", "behind"] []
  g_inner_row : mg "_inner_row" = some (.ref a_inner_row)
  a_write_packet : Addr
  fd_write_packet : FuncData
  F_write_packet : L2.Fun K "write_packet" "write_packet" s_write_packet a_write_packet fd_write_packet
  b_write_packet : L2.Binds K fd_write_packet ["packet"] []
  g_write_packet : mg "write_packet" = some (.ref a_write_packet)
  a_options_end : Addr
  fd_options_end : FuncData
  F_options_end : L2.Fun K "options_end" "options_end" s_options_end a_options_end fd_options_end
  b_options_end : L2.Binds K fd_options_end ["first_byte"] []
  g_options_end : mg "options_end" = some (.ref a_options_end)
  a_word : Addr
  fd_word : FuncData
  F_word : L2.Fun K "_word" "_word" s_word a_word fd_word
  b_word : L2.Binds K fd_word ["row", "at"] []
  g_word : mg "_word" = some (.ref a_word)
  a_outer_fault : Addr
  fd_outer_fault : FuncData
  F_outer_fault : L2.Fun K "_outer_fault" "_outer_fault" s_outer_fault a_outer_fault fd_outer_fault
  b_outer_fault : L2.Binds K fd_outer_fault ["row"] []
  g_outer_fault : mg "_outer_fault" = some (.ref a_outer_fault)
  a_inner_fault : Addr
  fd_inner_fault : FuncData
  F_inner_fault : L2.Fun K "_inner_fault" "_inner_fault" s_inner_fault a_inner_fault fd_inner_fault
  b_inner_fault : L2.Binds K fd_inner_fault ["source", "destination", "kind", "behind"] []
  g_inner_fault : mg "_inner_fault" = some (.ref a_inner_fault)
  a_read_inner : Addr
  fd_read_inner : FuncData
  F_read_inner : L2.Fun K "_read_inner" "_read_inner" s_read_inner a_read_inner fd_read_inner
  b_read_inner : L2.Binds K fd_read_inner ["kind", "behind"] []
  g_read_inner : mg "_read_inner" = some (.ref a_read_inner)
  a_read_packet : Addr
  fd_read_packet : FuncData
  F_read_packet : L2.Fun K "read_packet" "read_packet" s_read_packet a_read_packet fd_read_packet
  b_read_packet : L2.Binds K fd_read_packet ["row"] []
  g_read_packet : mg "read_packet" = some (.ref a_read_packet)
  a_law_same : Addr
  fd_law_same : FuncData
  F_law_same : L2.Fun K "_law_same" "_law_same" s_law_same a_law_same fd_law_same
  b_law_same : L2.Binds K fd_law_same ["actual", "due"] []
  g_law_same : mg "_law_same" = some (.ref a_law_same)
  a_law_pool : Addr
  fd_law_pool : FuncData
  F_law_pool : L2.Fun K "_law_pool" "_law_pool" s_law_pool a_law_pool fd_law_pool
  b_law_pool : L2.Binds K fd_law_pool ["script"] []
  g_law_pool : mg "_law_pool" = some (.ref a_law_pool)
  a_law_spread : Addr
  fd_law_spread : FuncData
  F_law_spread : L2.Fun K "_law_spread" "_law_spread" s_law_spread a_law_spread fd_law_spread
  b_law_spread : L2.Binds K fd_law_spread ["cell"] []
  g_law_spread : mg "_law_spread" = some (.ref a_law_spread)
  a_law_draw : Addr
  fd_law_draw : FuncData
  F_law_draw : L2.Fun K "_law_draw" "_law_draw" s_law_draw a_law_draw fd_law_draw
  b_law_draw : L2.Binds K fd_law_draw ["pool", "many"] []
  g_law_draw : mg "_law_draw" = some (.ref a_law_draw)
  a_law_number : Addr
  fd_law_number : FuncData
  F_law_number : L2.Fun K "_law_number" "_law_number" s_law_number a_law_number fd_law_number
  b_law_number : L2.Binds K fd_law_number ["pool", "top"] []
  g_law_number : mg "_law_number" = some (.ref a_law_number)
  a_law_fold : Addr
  fd_law_fold : FuncData
  F_law_fold : L2.Fun K "_law_fold" "_law_fold" s_law_fold a_law_fold fd_law_fold
  b_law_fold : L2.Binds K fd_law_fold ["words"] []
  g_law_fold : mg "_law_fold" = some (.ref a_law_fold)
  a_law_words : Addr
  fd_law_words : FuncData
  F_law_words : L2.Fun K "_law_words" "_law_words" s_law_words a_law_words fd_law_words
  b_law_words : L2.Binds K fd_law_words ["row"] []
  g_law_words : mg "_law_words" = some (.ref a_law_words)
  a_law_check : Addr
  fd_law_check : FuncData
  F_law_check : L2.Fun K "_law_check" "_law_check" s_law_check a_law_check fd_law_check
  b_law_check : L2.Binds K fd_law_check ["row"] []
  g_law_check : mg "_law_check" = some (.ref a_law_check)
  a_law_two : Addr
  fd_law_two : FuncData
  F_law_two : L2.Fun K "_law_two" "_law_two" s_law_two a_law_two fd_law_two
  b_law_two : L2.Binds K fd_law_two ["number"] []
  g_law_two : mg "_law_two" = some (.ref a_law_two)
  a_law_row : Addr
  fd_law_row : FuncData
  F_law_row : L2.Fun K "_law_row" "_law_row" s_law_row a_law_row fd_law_row
  b_law_row : L2.Binds K fd_law_row ["pool", "many"] []
  g_law_row : mg "_law_row" = some (.ref a_law_row)
  a_law_inner_size : Addr
  fd_law_inner_size : FuncData
  F_law_inner_size : L2.Fun K "_law_inner_size" "_law_inner_size" s_law_inner_size a_law_inner_size fd_law_inner_size
  b_law_inner_size : L2.Binds K fd_law_inner_size ["kind"] []
  g_law_inner_size : mg "_law_inner_size" = some (.ref a_law_inner_size)
  a_law_kind : Addr
  fd_law_kind : FuncData
  F_law_kind : L2.Fun K "_law_kind" "_law_kind" s_law_kind a_law_kind fd_law_kind
  b_law_kind : L2.Binds K fd_law_kind ["pool"] []
  g_law_kind : mg "_law_kind" = some (.ref a_law_kind)
  a_law_inner : Addr
  fd_law_inner : FuncData
  F_law_inner : L2.Fun K "_law_inner" "_law_inner" s_law_inner a_law_inner fd_law_inner
  b_law_inner : L2.Binds K fd_law_inner ["pool", "kind"] []
  g_law_inner : mg "_law_inner" = some (.ref a_law_inner)
  a_law_packet : Addr
  fd_law_packet : FuncData
  F_law_packet : L2.Fun K "_law_packet" "_law_packet" s_law_packet a_law_packet fd_law_packet
  b_law_packet : L2.Binds K fd_law_packet ["pool", "most"] []
  g_law_packet : mg "_law_packet" = some (.ref a_law_packet)
  a_law_length : Addr
  fd_law_length : FuncData
  F_law_length : L2.Fun K "_law_length" "_law_length" s_law_length a_law_length fd_law_length
  b_law_length : L2.Binds K fd_law_length ["packet"] []
  g_law_length : mg "_law_length" = some (.ref a_law_length)
  a_law_bytes : Addr
  fd_law_bytes : FuncData
  F_law_bytes : L2.Fun K "_law_bytes" "_law_bytes" s_law_bytes a_law_bytes fd_law_bytes
  b_law_bytes : L2.Binds K fd_law_bytes ["packet"] []
  g_law_bytes : mg "_law_bytes" = some (.ref a_law_bytes)
  a_law : Addr
  fd_law : FuncData
  F_law : L2.Fun K "law" "law" s_law a_law fd_law
  b_law : L2.Binds K fd_law ["script"] []
  g_law : mg "law" = some (.ref a_law)
  z_bool : mg "bool" = none
  z_int : mg "int" = none
  z_isinstance : mg "isinstance" = none
  z_len : mg "len" = none
  z_list : mg "list" = none
  z_max : mg "max" = none
  z_min : mg "min" = none
  z_range : mg "range" = none
  z_str : mg "str" = none
  z_sum : mg "sum" = none
  z_tuple : mg "tuple" = none
  t_ASKING : Tok
  c_ASKING : mg "ASKING" = some (.int 17 t_ASKING)
  t_FIRST_BYTES : Tok
  c_FIRST_BYTES : mg "FIRST_BYTES" = some (.int 12 t_FIRST_BYTES)
  t_GREATEST_LENGTH : Tok
  c_GREATEST_LENGTH : mg "GREATEST_LENGTH" = some (.int 1500 t_GREATEST_LENGTH)
  t_NOTE : Tok
  c_NOTE : mg "NOTE" = some (.int 1 t_NOTE)
  t_STREAM : Tok
  c_STREAM : mg "STREAM" = some (.int 6 t_STREAM)
  d_HEAD_BYTES : Addr
  g_HEAD_BYTES : mg "HEAD_BYTES" = some (.ref d_HEAD_BYTES)
  D_HEAD_BYTES : ITab K d_HEAD_BYTES [(6, 8), (17, 6), (1, 4)]
  d_SUM_PLACES : Addr
  g_SUM_PLACES : mg "SUM_PLACES" = some (.ref d_SUM_PLACES)
  D_SUM_PLACES : ITab K d_SUM_PLACES [(6, 6), (17, 4), (1, 2)]
section
variable {P : Program} {w : World} {K : PySem.W.Frag} {mg : Str → Option Value} {base : Heap}
theorem ok_words_of (T : Tx K mg) : FnOk P w K mg base CX0 1 T.a_words_of T.fd_words_of ["row"] (spP K 1 F_words_of) :=
  ok_P T.F_words_of sc_words_of rfl rfl fun cdv A outer s H E hr =>
  (es_cons (es_set sc_words_of.nd (i := 1) rfl (by first | exact Or.inl rfl | exact Or.inr rfl) (ev_if (et_cmp (op_eqD hr.units) os_eq (ev_op op_mod os_mod (ev_fn cl_len fs_len (by rfl) T.z_len PySem.boot_len (ea_cons (ev_name (pv 0)) ea_nil)) ev_int) ev_int (nomark _)) (ev_name (pv 0)) (ev_tup (ea_star (ev_name (pv 0)) (ea_cons ev_int ea_nil)))))
  (es_cons (es_ret (ev_new (en_comp rfl sc_words_of.nd (own := [("k", 2)]) (ei_rng3 (by rfl) T.z_range (ea_cons ev_int (ea_cons (ev_fn cl_len fs_len (by rfl) T.z_len PySem.boot_len (ea_cons (ev_name (pv 1)) ea_nil)) (ea_cons ev_int ea_nil)))) (blkOk_by (N := ["row", "even", "k"]) (sc := defScope s_words_of) (by decide +kernel)) (fun _ _ _ _ _ => (eg_name sc_words_of.nd (i := 2) rfl (by first | exact Or.inl rfl | exact Or.inr rfl))) (fun _ _ _ _ _ => ptst_nil) (fun _ _ _ _ _ => (ev_op op_addD os_add (ev_op op_mul os_mul ev_int (ev_ix ix_seq os_ix (ev_name (pv 1)) (ev_name (pv 2)) (fun _ _ => rfl))) (ev_ix ix_seq os_ix (ev_name (pv 1)) (ev_op op_addD os_add (ev_name (pv 2)) ev_int) (fun _ _ => rfl)))))))
  es_nil))
theorem ok_folded (T : Tx K mg) : FnOk P w K mg base CX0 1 T.a_folded T.fd_folded ["words"] (spP K 1 F_folded) :=
  ok_P T.F_folded sc_folded rfl rfl fun cdv A outer s H E hr =>
  (es_cons (es_set sc_folded.nd (i := 1) rfl (by first | exact Or.inl rfl | exact Or.inr rfl) (ev_fn (cr_sumA rfl) fs_sum (by rfl) T.z_sum (by decide +kernel) (ea_cons (ev_name (pv 0)) ea_nil)))
  (es_cons (es_if (et_cmp (op_eqD hr.units) os_eq (ev_name (pv 1)) ev_int (nomark _))
  (es_cons (es_ret ev_int)
  es_nil)
  es_nil)
  (es_cons (es_ret (ev_op op_addD os_add (ev_op op_mod os_mod (ev_op op_sub os_sub (ev_name (pv 1)) ev_int) ev_int) ev_int))
  es_nil)))
theorem ok_sum_of (T : Tx K mg) : FnOk P w K mg base CX0 2 T.a_sum_of T.fd_sum_of ["row"] (spP K 1 F_sum_of) :=
  ok_P T.F_sum_of sc_sum_of rfl rfl fun cdv A outer s H E hr =>
  (es_cons (es_ret (ev_op op_sub os_sub ev_int (ev_call (ok_folded T) (hr.mono (by decide)) (by rfl) T.g_folded T.F_folded.kp T.b_folded (ea_cons (ev_call (ok_words_of T) (hr.mono (by decide)) (by rfl) T.g_words_of T.F_words_of.kp T.b_words_of (ea_cons (ev_name (pv 0)) ea_nil) (nlen_cons nlen_nil)) ea_nil) (nlen_cons nlen_nil))))
  es_nil)
theorem ok_head_bytes (T : Tx K mg) : FnOk P w K mg base CX0 1 T.a_head_bytes T.fd_head_bytes ["kind"] (spP K 1 F_head_bytes) :=
  ok_P T.F_head_bytes sc_head_bytes rfl rfl fun cdv A outer s H E hr =>
  (es_cons (es_ret (ev_kget2 T.D_HEAD_BYTES (pe_glob (by rfl) T.g_HEAD_BYTES rfl) (ev_name (pv 0)) ev_int ⟨by rfl, by rfl, by rfl, by rfl⟩))
  es_nil)
theorem ok_length_of (T : Tx K mg) : FnOk P w K mg base CX0 2 T.a_length_of T.fd_length_of ["packet"] (spP K 1 F_length_of) :=
  ok_P T.F_length_of sc_length_of rfl rfl fun cdv A outer s H E hr =>
  (es_cons (es_par3 rfl sc_length_of.nd rfl rfl rfl (by decide) (by decide) (by decide) rfl rfl rfl (ea_cons (ev_ix ix_seq os_ix (ev_name (pv 0)) ev_int (fun _ _ => rfl)) (ea_cons (ev_ix ix_seq os_ix (ev_name (pv 0)) ev_int (fun _ _ => rfl)) (ea_cons (ev_ix ix_seq os_ix (ev_name (pv 0)) ev_int (fun _ _ => rfl)) ea_nil))) (by rfl))
  (es_cons (es_ret (ev_op op_addD os_add (ev_op op_addD os_add (ev_op op_addD os_add (ev_c (v := .int (12)) (pe_glob (by rfl) T.c_FIRST_BYTES ⟨_, rfl⟩) fun _ _ => .int _) (ev_fn cl_len fs_len (by rfl) T.z_len PySem.boot_len (ea_cons (ev_name (pv 2)) ea_nil))) (ev_call (ok_head_bytes T) (hr.mono (by decide)) (by rfl) T.g_head_bytes T.F_head_bytes.kp T.b_head_bytes (ea_cons (ev_name (pv 1)) ea_nil) (nlen_cons nlen_nil))) (ev_fn cl_len fs_len (by rfl) T.z_len PySem.boot_len (ea_cons (ev_name (pv 3)) ea_nil))))
  es_nil))
theorem ok_two (T : Tx K mg) : FnOk P w K mg base CX0 1 T.a_two T.fd_two ["number"] (spP K 1 F_two) :=
  ok_P T.F_two sc_two rfl rfl fun cdv A outer s H E hr =>
  (es_cons (es_ret (ev_tup (ea_cons (ev_op op_fdivW os_div (ev_name (pv 0)) ev_int) (ea_cons (ev_op op_mod os_mod (ev_name (pv 0)) ev_int) ea_nil))))
  es_nil)
theorem ok_inner_bytes (T : Tx K mg) : FnOk P w K mg base CX0 2 T.a_inner_bytes T.fd_inner_bytes ["kind", "inner"] (spP K 2 F_inner_bytes) :=
  ok_P T.F_inner_bytes sc_inner_bytes rfl rfl fun cdv A outer s H E hr =>
  (es_cons (es_if (et_cmp (op_eqD hr.units) os_eq (ev_name (pv 0)) (ev_c (v := .int (6)) (pe_glob (by rfl) T.c_STREAM ⟨_, rfl⟩) fun _ _ => .int _) (nomark _))
  (es_cons (es_ret (ev_tup (ea_star (ev_call (ok_two T) (hr.mono (by decide)) (by rfl) T.g_two T.F_two.kp T.b_two (ea_cons (ev_ix ix_seq os_ix (ev_name (pv 1)) ev_int (fun _ _ => rfl)) ea_nil) (nlen_cons nlen_nil)) (ea_star (ev_call (ok_two T) (hr.mono (by decide)) (by rfl) T.g_two T.F_two.kp T.b_two (ea_cons (ev_ix ix_seq os_ix (ev_name (pv 1)) ev_int (fun _ _ => rfl)) ea_nil) (nlen_cons nlen_nil)) (ea_cons (ev_ix ix_seq os_ix (ev_name (pv 1)) ev_int (fun _ _ => rfl)) (ea_cons ev_int (ea_cons ev_int (ea_cons ev_int ea_nil))))))))
  es_nil)
  es_nil)
  (es_cons (es_if (et_cmp (op_eqD hr.units) os_eq (ev_name (pv 0)) (ev_c (v := .int (17)) (pe_glob (by rfl) T.c_ASKING ⟨_, rfl⟩) fun _ _ => .int _) (nomark _))
  (es_cons (es_ret (ev_tup (ea_star (ev_call (ok_two T) (hr.mono (by decide)) (by rfl) T.g_two T.F_two.kp T.b_two (ea_cons (ev_ix ix_seq os_ix (ev_name (pv 1)) ev_int (fun _ _ => rfl)) ea_nil) (nlen_cons nlen_nil)) (ea_star (ev_call (ok_two T) (hr.mono (by decide)) (by rfl) T.g_two T.F_two.kp T.b_two (ea_cons (ev_ix ix_seq os_ix (ev_name (pv 1)) ev_int (fun _ _ => rfl)) ea_nil) (nlen_cons nlen_nil)) (ea_cons ev_int (ea_cons ev_int ea_nil))))))
  es_nil)
  es_nil)
  (es_cons (es_if (et_cmp (op_eqD hr.units) os_eq (ev_name (pv 0)) (ev_c (v := .int (1)) (pe_glob (by rfl) T.c_NOTE ⟨_, rfl⟩) fun _ _ => .int _) (nomark _))
  (es_cons (es_ret (ev_tup (ea_star (ev_name (pv 1)) (ea_cons ev_int (ea_cons ev_int ea_nil)))))
  es_nil)
  es_nil)
  (es_cons (es_ret (ev_tup ea_nil))
  es_nil))))
theorem ok_inner_row (T : Tx K mg) : FnOk P w K mg base CX0 2 T.a_inner_row T.fd_inner_row ["source", "destination", "kind", "behind"] (spP K 4 F_inner_row) :=
  ok_P T.F_inner_row sc_inner_row rfl rfl fun cdv A outer s H E hr =>
  (es_cons (es_ret (ev_tup (ea_star (ev_call (ok_two T) (hr.mono (by decide)) (by rfl) T.g_two T.F_two.kp T.b_two (ea_cons (ev_name (pv 0)) ea_nil) (nlen_cons nlen_nil)) (ea_star (ev_call (ok_two T) (hr.mono (by decide)) (by rfl) T.g_two T.F_two.kp T.b_two (ea_cons (ev_name (pv 1)) ea_nil) (nlen_cons nlen_nil)) (ea_star (ev_call (ok_two T) (hr.mono (by decide)) (by rfl) T.g_two T.F_two.kp T.b_two (ea_cons (ev_name (pv 2)) ea_nil) (nlen_cons nlen_nil)) (ea_star (ev_call (ok_two T) (hr.mono (by decide)) (by rfl) T.g_two T.F_two.kp T.b_two (ea_cons (ev_fn cl_len fs_len (by rfl) T.z_len PySem.boot_len (ea_cons (ev_name (pv 3)) ea_nil)) ea_nil) (nlen_cons nlen_nil)) (ea_star (ev_name (pv 3)) ea_nil)))))))
  es_nil)
theorem ok_write_packet (T : Tx K mg) : FnOk P w K mg base CX0 3 T.a_write_packet T.fd_write_packet ["packet"] (spP K 1 F_write_packet) :=
  ok_P T.F_write_packet sc_write_packet rfl rfl fun cdv A outer s H E hr =>
  (es_cons (es_asg (ev_name (pv 0)) (eg_tup (is := [5, 6, 7, 8, 9, 10, 11]) rfl (pgs_cons (pg_name sc_write_packet.nd (i := 5) rfl (by first | exact Or.inl rfl | exact Or.inr rfl)) (pgs_cons (pg_name sc_write_packet.nd (i := 6) rfl (by first | exact Or.inl rfl | exact Or.inr rfl)) (pgs_cons (pg_name sc_write_packet.nd (i := 7) rfl (by first | exact Or.inl rfl | exact Or.inr rfl)) (pgs_cons (pg_name sc_write_packet.nd (i := 8) rfl (by first | exact Or.inl rfl | exact Or.inr rfl)) (pgs_cons (pg_name sc_write_packet.nd (i := 9) rfl (by first | exact Or.inl rfl | exact Or.inr rfl)) (pgs_cons (pg_name sc_write_packet.nd (i := 10) rfl (by first | exact Or.inl rfl | exact Or.inr rfl)) (pgs_cons (pg_name sc_write_packet.nd (i := 11) rfl (by first | exact Or.inl rfl | exact Or.inr rfl)) pgs_nil)))))))))
  (es_cons (es_set sc_write_packet.nd (i := 1) rfl (by first | exact Or.inl rfl | exact Or.inr rfl) (ev_tup (ea_cons (ev_op op_addD os_add ev_int (ev_op op_fdivW os_div (ev_fn cl_len fs_len (by rfl) T.z_len PySem.boot_len (ea_cons (ev_name (pv 9)) ea_nil)) ev_int)) (ea_cons (ev_name (pv 7)) (ea_star (ev_call (ok_two T) (hr.mono (by decide)) (by rfl) T.g_two T.F_two.kp T.b_two (ea_cons (ev_call (ok_length_of T) (hr.mono (by decide)) (by rfl) T.g_length_of T.F_length_of.kp T.b_length_of (ea_cons (ev_name (pv 0)) ea_nil) (nlen_cons nlen_nil)) ea_nil) (nlen_cons nlen_nil)) (ea_cons (ev_name (pv 8)) (ea_cons ev_int ea_nil)))))))
  (es_cons (es_set sc_write_packet.nd (i := 2) rfl (by first | exact Or.inl rfl | exact Or.inr rfl) (ev_tup (ea_star (ev_call (ok_two T) (hr.mono (by decide)) (by rfl) T.g_two T.F_two.kp T.b_two (ea_cons (ev_name (pv 5)) ea_nil) (nlen_cons nlen_nil)) (ea_star (ev_call (ok_two T) (hr.mono (by decide)) (by rfl) T.g_two T.F_two.kp T.b_two (ea_cons (ev_name (pv 6)) ea_nil) (nlen_cons nlen_nil)) (ea_star (ev_name (pv 9)) ea_nil)))))
  (es_cons (es_set sc_write_packet.nd (i := 3) rfl (by first | exact Or.inl rfl | exact Or.inr rfl) (ev_call (ok_sum_of T) (hr.mono (by decide)) (by rfl) T.g_sum_of T.F_sum_of.kp T.b_sum_of (ea_cons (ev_tup (ea_star (ev_name (pv 1)) (ea_cons ev_int (ea_cons ev_int (ea_star (ev_name (pv 2)) ea_nil))))) ea_nil) (nlen_cons nlen_nil)))
  (es_cons (es_set sc_write_packet.nd (i := 4) rfl (by first | exact Or.inl rfl | exact Or.inr rfl) (ev_tup (ea_star (ev_call (ok_inner_bytes T) (hr.mono (by decide)) (by rfl) T.g_inner_bytes T.F_inner_bytes.kp T.b_inner_bytes (ea_cons (ev_name (pv 7)) (ea_cons (ev_name (pv 10)) ea_nil)) (nlen_cons (nlen_cons nlen_nil))) (ea_star (ev_name (pv 11)) ea_nil))))
  (es_cons (es_if (et_inT T.D_SUM_PLACES (ev_name (pv 7)) (pe_glob (by rfl) T.g_SUM_PLACES rfl) (by rfl))
  (es_cons (es_set sc_write_packet.nd (i := 12) rfl (by first | exact Or.inl rfl | exact Or.inr rfl) (ev_ixT T.D_SUM_PLACES (pe_glob (by rfl) T.g_SUM_PLACES rfl) (ev_name (pv 7)) (fun _ _ => rfl)))
  (es_cons (es_set sc_write_packet.nd (i := 13) rfl (by first | exact Or.inl rfl | exact Or.inr rfl) (ev_call (ok_sum_of T) (hr.mono (by decide)) (by rfl) T.g_sum_of T.F_sum_of.kp T.b_sum_of (ea_cons (ev_call (ok_inner_row T) (hr.mono (by decide)) (by rfl) T.g_inner_row T.F_inner_row.kp T.b_inner_row (ea_cons (ev_name (pv 5)) (ea_cons (ev_name (pv 6)) (ea_cons (ev_name (pv 7)) (ea_cons (ev_name (pv 4)) ea_nil)))) (nlen_cons (nlen_cons (nlen_cons (nlen_cons nlen_nil))))) ea_nil) (nlen_cons nlen_nil)))
  (es_cons (es_set sc_write_packet.nd (i := 4) rfl (by first | exact Or.inl rfl | exact Or.inr rfl) (ev_tup (ea_star (ev_slT (ev_name (pv 4)) eo_none (eo_some (ev_name (pv 12)))) (ea_star (ev_call (ok_two T) (hr.mono (by decide)) (by rfl) T.g_two T.F_two.kp T.b_two (ea_cons (ev_name (pv 13)) ea_nil) (nlen_cons nlen_nil)) (ea_star (ev_slT (ev_name (pv 4)) (eo_some (ev_op op_addD os_add (ev_name (pv 12)) ev_int)) eo_none) ea_nil)))))
  es_nil)))
  es_nil)
  (es_cons (es_ret (ev_tup (ea_star (ev_name (pv 1)) (ea_star (ev_call (ok_two T) (hr.mono (by decide)) (by rfl) T.g_two T.F_two.kp T.b_two (ea_cons (ev_name (pv 3)) ea_nil) (nlen_cons nlen_nil)) (ea_star (ev_name (pv 2)) (ea_star (ev_name (pv 4)) ea_nil))))))
  es_nil)))))))
theorem ok_options_end (T : Tx K mg) : FnOk P w K mg base CX0 1 T.a_options_end T.fd_options_end ["first_byte"] (spP K 1 F_options_end) :=
  ok_P T.F_options_end sc_options_end rfl rfl fun cdv A outer s H E hr =>
  (es_cons (es_ret (ev_op op_mul os_mul ev_int (ev_op op_sub os_sub (ev_name (pv 0)) ev_int)))
  es_nil)
theorem ok_word (T : Tx K mg) : FnOk P w K mg base CX0 1 T.a_word T.fd_word ["row", "at"] (spP K 2 F_word) :=
  ok_P T.F_word sc_word rfl rfl fun cdv A outer s H E hr =>
  (es_cons (es_ret (ev_op op_addD os_add (ev_op op_mul os_mul ev_int (ev_ix ix_seq os_ix (ev_name (pv 0)) (ev_name (pv 1)) (fun _ _ => rfl))) (ev_ix ix_seq os_ix (ev_name (pv 0)) (ev_op op_addD os_add (ev_name (pv 1)) ev_int) (fun _ _ => rfl))))
  es_nil)
theorem ok_outer_fault (T : Tx K mg) : FnOk P w K mg base CX0 2 T.a_outer_fault T.fd_outer_fault ["row"] (spP K 1 F_outer_fault) :=
  ok_P T.F_outer_fault sc_outer_fault rfl rfl fun cdv A outer s H E hr =>
  (es_cons (es_if (et_cmp op_lt os_lt (ev_fn cl_len fs_len (by rfl) T.z_len PySem.boot_len (ea_cons (ev_name (pv 0)) ea_nil)) (ev_c (v := .int (12)) (pe_glob (by rfl) T.c_FIRST_BYTES ⟨_, rfl⟩) fun _ _ => .int _) (nomark _))
  (es_cons (es_ret ev_str)
  es_nil)
  es_nil)
  (es_cons (es_if (et_not (et_chain op_le os_le op_le os_le ev_int (ev_ix ix_seq os_ix (ev_name (pv 0)) ev_int (fun _ _ => rfl)) ev_int))
  (es_cons (es_ret ev_str)
  es_nil)
  es_nil)
  (es_cons (es_if (ew_or (et_cmp (op_neD hr.units) os_ne (ev_call (ok_word T) (hr.mono (by decide)) (by rfl) T.g_word T.F_word.kp T.b_word (ea_cons (ev_name (pv 0)) (ea_cons ev_int ea_nil)) (nlen_cons (nlen_cons nlen_nil))) (ev_fn cl_len fs_len (by rfl) T.z_len PySem.boot_len (ea_cons (ev_name (pv 0)) ea_nil)) (nomark _)) (ew_or1 (et_cmp op_gt os_gt (ev_fn cl_len fs_len (by rfl) T.z_len PySem.boot_len (ea_cons (ev_name (pv 0)) ea_nil)) (ev_c (v := .int (1500)) (pe_glob (by rfl) T.c_GREATEST_LENGTH ⟨_, rfl⟩) fun _ _ => .int _) (nomark _)))).pt
  (es_cons (es_ret ev_str)
  es_nil)
  es_nil)
  (es_cons (es_set sc_outer_fault.nd (i := 1) rfl (by first | exact Or.inl rfl | exact Or.inr rfl) (ev_call (ok_options_end T) (hr.mono (by decide)) (by rfl) T.g_options_end T.F_options_end.kp T.b_options_end (ea_cons (ev_ix ix_seq os_ix (ev_name (pv 0)) ev_int (fun _ _ => rfl)) ea_nil) (nlen_cons nlen_nil)))
  (es_cons (es_if (et_cmp op_lt os_lt (ev_fn cl_len fs_len (by rfl) T.z_len PySem.boot_len (ea_cons (ev_name (pv 0)) ea_nil)) (ev_name (pv 1)) (nomark _))
  (es_cons (es_ret ev_str)
  es_nil)
  es_nil)
  (es_cons (es_if (et_cmp (op_neD hr.units) os_ne (ev_call (ok_folded T) (hr.mono (by decide)) (by rfl) T.g_folded T.F_folded.kp T.b_folded (ea_cons (ev_call (ok_words_of T) (hr.mono (by decide)) (by rfl) T.g_words_of T.F_words_of.kp T.b_words_of (ea_cons (ev_slT (ev_name (pv 0)) eo_none (eo_some (ev_name (pv 1)))) ea_nil) (nlen_cons nlen_nil)) ea_nil) (nlen_cons nlen_nil)) ev_int (nomark _))
  (es_cons (es_ret ev_str)
  es_nil)
  es_nil)
  (es_cons (es_if (et_cmp (op_neD hr.units) os_ne (ev_ix ix_seq os_ix (ev_name (pv 0)) ev_int (fun _ _ => rfl)) ev_int (nomark _))
  (es_cons (es_ret ev_str)
  es_nil)
  es_nil)
  (es_cons (es_if (et_cmp (op_eqD hr.units) os_eq (ev_ix ix_seq os_ix (ev_name (pv 0)) ev_int (fun _ _ => rfl)) ev_int (nomark _))
  (es_cons (es_ret ev_str)
  es_nil)
  es_nil)
  (es_cons (es_ret ev_str)
  es_nil)))))))))
theorem ok_inner_fault (T : Tx K mg) : FnOk P w K mg base CX0 3 T.a_inner_fault T.fd_inner_fault ["source", "destination", "kind", "behind"] (spP K 4 F_inner_fault) :=
  ok_P T.F_inner_fault sc_inner_fault rfl rfl fun cdv A outer s H E hr =>
  (es_cons (es_if (et_cmp op_lt os_lt (ev_fn cl_len fs_len (by rfl) T.z_len PySem.boot_len (ea_cons (ev_name (pv 3)) ea_nil)) (ev_call (ok_head_bytes T) (hr.mono (by decide)) (by rfl) T.g_head_bytes T.F_head_bytes.kp T.b_head_bytes (ea_cons (ev_name (pv 2)) ea_nil) (nlen_cons nlen_nil)) (nomark _))
  (es_cons (es_ret ev_str)
  es_nil)
  es_nil)
  (es_cons (es_if (ew_and (et_cmp (op_eqD hr.units) os_eq (ev_name (pv 2)) (ev_c (v := .int (6)) (pe_glob (by rfl) T.c_STREAM ⟨_, rfl⟩) fun _ _ => .int _) (nomark _)) (ew_and1 (ew_or (et_cmp op_gt os_gt (ev_ix ix_seq os_ix (ev_name (pv 3)) ev_int (fun _ _ => rfl)) ev_int (nomark _)) (ew_or1 (et_cmp (op_neD hr.units) os_ne (ev_ix ix_seq os_ix (ev_name (pv 3)) ev_int (fun _ _ => rfl)) ev_int (nomark _)))).pt)).pt
  (es_cons (es_ret ev_str)
  es_nil)
  es_nil)
  (es_cons (es_if (ew_and (et_inT T.D_SUM_PLACES (ev_name (pv 2)) (pe_glob (by rfl) T.g_SUM_PLACES rfl) (by rfl)) (ew_and1 (et_cmp (op_neD hr.units) os_ne (ev_call (ok_folded T) (hr.mono (by decide)) (by rfl) T.g_folded T.F_folded.kp T.b_folded (ea_cons (ev_call (ok_words_of T) (hr.mono (by decide)) (by rfl) T.g_words_of T.F_words_of.kp T.b_words_of (ea_cons (ev_call (ok_inner_row T) (hr.mono (by decide)) (by rfl) T.g_inner_row T.F_inner_row.kp T.b_inner_row (ea_cons (ev_name (pv 0)) (ea_cons (ev_name (pv 1)) (ea_cons (ev_name (pv 2)) (ea_cons (ev_name (pv 3)) ea_nil)))) (nlen_cons (nlen_cons (nlen_cons (nlen_cons nlen_nil))))) ea_nil) (nlen_cons nlen_nil)) ea_nil) (nlen_cons nlen_nil)) ev_int (nomark _)))).pt
  (es_cons (es_ret ev_str)
  es_nil)
  es_nil)
  (es_cons (es_ret ev_str)
  es_nil))))
theorem ok_read_inner (T : Tx K mg) : FnOk P w K mg base CX0 2 T.a_read_inner T.fd_read_inner ["kind", "behind"] (spP K 2 F_read_inner) :=
  ok_P T.F_read_inner sc_read_inner rfl rfl fun cdv A outer s H E hr =>
  (es_cons (es_if (et_cmp (op_eqD hr.units) os_eq (ev_name (pv 0)) (ev_c (v := .int (6)) (pe_glob (by rfl) T.c_STREAM ⟨_, rfl⟩) fun _ _ => .int _) (nomark _))
  (es_cons (es_ret (ev_tup (ea_cons (ev_call (ok_word T) (hr.mono (by decide)) (by rfl) T.g_word T.F_word.kp T.b_word (ea_cons (ev_name (pv 1)) (ea_cons ev_int ea_nil)) (nlen_cons (nlen_cons nlen_nil))) (ea_cons (ev_call (ok_word T) (hr.mono (by decide)) (by rfl) T.g_word T.F_word.kp T.b_word (ea_cons (ev_name (pv 1)) (ea_cons ev_int ea_nil)) (nlen_cons (nlen_cons nlen_nil))) (ea_cons (ev_ix ix_seq os_ix (ev_name (pv 1)) ev_int (fun _ _ => rfl)) ea_nil)))))
  es_nil)
  es_nil)
  (es_cons (es_if (et_cmp (op_eqD hr.units) os_eq (ev_name (pv 0)) (ev_c (v := .int (17)) (pe_glob (by rfl) T.c_ASKING ⟨_, rfl⟩) fun _ _ => .int _) (nomark _))
  (es_cons (es_ret (ev_tup (ea_cons (ev_call (ok_word T) (hr.mono (by decide)) (by rfl) T.g_word T.F_word.kp T.b_word (ea_cons (ev_name (pv 1)) (ea_cons ev_int ea_nil)) (nlen_cons (nlen_cons nlen_nil))) (ea_cons (ev_call (ok_word T) (hr.mono (by decide)) (by rfl) T.g_word T.F_word.kp T.b_word (ea_cons (ev_name (pv 1)) (ea_cons ev_int ea_nil)) (nlen_cons (nlen_cons nlen_nil))) ea_nil))))
  es_nil)
  es_nil)
  (es_cons (es_if (et_cmp (op_eqD hr.units) os_eq (ev_name (pv 0)) (ev_c (v := .int (1)) (pe_glob (by rfl) T.c_NOTE ⟨_, rfl⟩) fun _ _ => .int _) (nomark _))
  (es_cons (es_ret (ev_tup (ea_cons (ev_ix ix_seq os_ix (ev_name (pv 1)) ev_int (fun _ _ => rfl)) (ea_cons (ev_ix ix_seq os_ix (ev_name (pv 1)) ev_int (fun _ _ => rfl)) ea_nil))))
  es_nil)
  es_nil)
  (es_cons (es_ret (ev_tup ea_nil))
  es_nil))))
theorem ok_read_packet (T : Tx K mg) : FnOk P w K mg base CX0 4 T.a_read_packet T.fd_read_packet ["row"] (spP K 1 F_read_packet) :=
  ok_P T.F_read_packet sc_read_packet rfl rfl fun cdv A outer s H E hr =>
  (es_cons (es_set sc_read_packet.nd (i := 1) rfl (by first | exact Or.inl rfl | exact Or.inr rfl) (ev_call (ok_outer_fault T) (hr.mono (by decide)) (by rfl) T.g_outer_fault T.F_outer_fault.kp T.b_outer_fault (ea_cons (ev_name (pv 0)) ea_nil) (nlen_cons nlen_nil)))
  (es_cons (es_if (et_tru (ev_name (pv 1)))
  (es_cons es_raise
  es_nil)
  es_nil)
  (es_cons (es_set sc_read_packet.nd (i := 2) rfl (by first | exact Or.inl rfl | exact Or.inr rfl) (ev_call (ok_options_end T) (hr.mono (by decide)) (by rfl) T.g_options_end T.F_options_end.kp T.b_options_end (ea_cons (ev_ix ix_seq os_ix (ev_name (pv 0)) ev_int (fun _ _ => rfl)) ea_nil) (nlen_cons nlen_nil)))
  (es_cons (es_asg (ev_tup (ea_cons (ev_call (ok_word T) (hr.mono (by decide)) (by rfl) T.g_word T.F_word.kp T.b_word (ea_cons (ev_name (pv 0)) (ea_cons ev_int ea_nil)) (nlen_cons (nlen_cons nlen_nil))) (ea_cons (ev_call (ok_word T) (hr.mono (by decide)) (by rfl) T.g_word T.F_word.kp T.b_word (ea_cons (ev_name (pv 0)) (ea_cons ev_int ea_nil)) (nlen_cons (nlen_cons nlen_nil))) (ea_cons (ev_ix ix_seq os_ix (ev_name (pv 0)) ev_int (fun _ _ => rfl)) (ea_cons (ev_slT (ev_name (pv 0)) (eo_some (ev_name (pv 2))) eo_none) ea_nil))))) (eg_tup (is := [4, 5, 6, 7]) rfl (pgs_cons (pg_name sc_read_packet.nd (i := 4) rfl (by first | exact Or.inl rfl | exact Or.inr rfl)) (pgs_cons (pg_name sc_read_packet.nd (i := 5) rfl (by first | exact Or.inl rfl | exact Or.inr rfl)) (pgs_cons (pg_name sc_read_packet.nd (i := 6) rfl (by first | exact Or.inl rfl | exact Or.inr rfl)) (pgs_cons (pg_name sc_read_packet.nd (i := 7) rfl (by first | exact Or.inl rfl | exact Or.inr rfl)) pgs_nil))))))
  (es_cons (es_set sc_read_packet.nd (i := 1) rfl (by first | exact Or.inl rfl | exact Or.inr rfl) (ev_call (ok_inner_fault T) (hr.mono (by decide)) (by rfl) T.g_inner_fault T.F_inner_fault.kp T.b_inner_fault (ea_cons (ev_name (pv 4)) (ea_cons (ev_name (pv 5)) (ea_cons (ev_name (pv 6)) (ea_cons (ev_name (pv 7)) ea_nil)))) (nlen_cons (nlen_cons (nlen_cons (nlen_cons nlen_nil))))))
  (es_cons (es_if (et_tru (ev_name (pv 1)))
  (es_cons es_raise
  es_nil)
  es_nil)
  (es_cons (es_set sc_read_packet.nd (i := 3) rfl (by first | exact Or.inl rfl | exact Or.inr rfl) (ev_call (ok_read_inner T) (hr.mono (by decide)) (by rfl) T.g_read_inner T.F_read_inner.kp T.b_read_inner (ea_cons (ev_name (pv 6)) (ea_cons (ev_name (pv 7)) ea_nil)) (nlen_cons (nlen_cons nlen_nil))))
  (es_cons (es_ret (ev_tup (ea_cons (ev_name (pv 4)) (ea_cons (ev_name (pv 5)) (ea_cons (ev_name (pv 6)) (ea_cons (ev_ix ix_seq os_ix (ev_name (pv 0)) ev_int (fun _ _ => rfl)) (ea_cons (ev_slT (ev_name (pv 0)) (eo_some (ev_c (v := .int (12)) (pe_glob (by rfl) T.c_FIRST_BYTES ⟨_, rfl⟩) fun _ _ => .int _)) (eo_some (ev_name (pv 2)))) (ea_cons (ev_name (pv 3)) (ea_cons (ev_slT (ev_name (pv 7)) (eo_some (ev_call (ok_head_bytes T) (hr.mono (by decide)) (by rfl) T.g_head_bytes T.F_head_bytes.kp T.b_head_bytes (ea_cons (ev_name (pv 6)) ea_nil) (nlen_cons nlen_nil))) eo_none) ea_nil)))))))))
  es_nil))))))))
theorem ok_law_same (T : Tx K mg) : ∀ r : Nat, FnOk P w K mg base CX0 (0 + r) T.a_law_same T.fd_law_same ["actual", "due"] (spP K 2 (F_law_same r))
  | 0 => ⟨fun vs H Q E h => h.1, fun A outer s H args us vs Q E _ _ _ _ h => by obtain ⟨_, h⟩ := h; obtain ⟨_, _, _, _, _, e, _⟩ := h; cases e⟩
  | r + 1 => ok_P T.F_law_same sc_law_same rfl rfl fun cdv A outer s H E hr =>
  have HR := ok_law_same T r
  (es_cons (es_if (ew_or (et_tru (ev_isi (T := "tuple") (by decide) (by rfl) T.z_isinstance (ev_name (pv 1)) (pe_bltn (by rfl) T.z_tuple (by decide +kernel) rfl))) (ew_or1 (et_tru (ev_isi (T := "list") (by decide) (by rfl) T.z_isinstance (ev_name (pv 1)) (pe_bltn (by rfl) T.z_list (by decide +kernel) rfl))))).pt
  (es_cons (es_if (ew_or (et_cmp (op_neD hr.units) os_ne (ev_isi (T := "tuple") (by decide) (by rfl) T.z_isinstance (ev_name (pv 1)) (pe_bltn (by rfl) T.z_tuple (by decide +kernel) rfl)) (ev_isi (T := "tuple") (by decide) (by rfl) T.z_isinstance (ev_name (pv 0)) (pe_bltn (by rfl) T.z_tuple (by decide +kernel) rfl)) (nomark _)) (ew_or (et_cmp (op_neD hr.units) os_ne (ev_isi (T := "list") (by decide) (by rfl) T.z_isinstance (ev_name (pv 1)) (pe_bltn (by rfl) T.z_list (by decide +kernel) rfl)) (ev_isi (T := "list") (by decide) (by rfl) T.z_isinstance (ev_name (pv 0)) (pe_bltn (by rfl) T.z_list (by decide +kernel) rfl)) (nomark _)) (ew_or1 (et_cmp (op_neD hr.units) os_ne (ev_fn cl_len fs_len (by rfl) T.z_len PySem.boot_len (ea_cons (ev_name (pv 0)) ea_nil)) (ev_fn cl_len fs_len (by rfl) T.z_len PySem.boot_len (ea_cons (ev_name (pv 1)) ea_nil)) (nomark _))))).pt
  (es_cons (es_ret ev_bool)
  es_nil)
  es_nil)
  (es_cons (es_ret (ev_cmp (op_eqD hr.units) os_eq (ev_fn cl_len fs_len (by rfl) T.z_len PySem.boot_len (ea_cons (ev_new (en_comp rfl sc_law_same.nd (own := [("k", 2)]) (ei_rng1 (by rfl) T.z_range (ea_cons (ev_fn cl_len fs_len (by rfl) T.z_len PySem.boot_len (ea_cons (ev_name (pv 1)) ea_nil)) ea_nil)) (blkOk_by (N := ["actual", "due", "k"]) (sc := defScope s_law_same) (by decide +kernel)) (fun _ _ _ _ _ => (eg_name sc_law_same.nd (i := 2) rfl (by first | exact Or.inl rfl | exact Or.inr rfl))) (fun _ _ _ _ _ => (ptst_one (et_not (et_tru (ev_call HR hr (by rfl) T.g_law_same T.F_law_same.kp T.b_law_same (ea_cons (ev_ix ix_seq os_ix (ev_name (pv 0)) (ev_name (pv 2)) (fun _ _ => rfl)) (ea_cons (ev_ix ix_seq os_ix (ev_name (pv 1)) (ev_name (pv 2)) (fun _ _ => rfl)) ea_nil)) (nlen_cons (nlen_cons nlen_nil))))))) (fun _ _ _ _ _ => (ev_name (pv 2))))) ea_nil)) ev_int (nomark _)))
  es_nil))
  es_nil)
  (es_cons (es_if (et_isN (ev_name (pv 1)))
  (es_cons (es_ret (ev_isN (ev_name (pv 0))))
  es_nil)
  es_nil)
  (es_cons (es_if (ew_or (et_tru (ev_isi (T := "bool") (by decide) (by rfl) T.z_isinstance (ev_name (pv 1)) (pe_bltn (by rfl) T.z_bool (by decide +kernel) rfl))) (ew_or1 (et_tru (ev_isi (T := "bool") (by decide) (by rfl) T.z_isinstance (ev_name (pv 0)) (pe_bltn (by rfl) T.z_bool (by decide +kernel) rfl))))).pt
  (es_cons (es_ret (ev_and (ev_isi (T := "bool") (by decide) (by rfl) T.z_isinstance (ev_name (pv 1)) (pe_bltn (by rfl) T.z_bool (by decide +kernel) rfl)) (ev_and (ev_isi (T := "bool") (by decide) (by rfl) T.z_isinstance (ev_name (pv 0)) (pe_bltn (by rfl) T.z_bool (by decide +kernel) rfl)) (ev_one (ev_cmp (op_eqD hr.units) os_eq (ev_name (pv 0)) (ev_name (pv 1)) (nomark _))))))
  es_nil)
  es_nil)
  (es_cons (es_if (et_tru (ev_isi (T := "int") (by decide) (by rfl) T.z_isinstance (ev_name (pv 1)) (pe_bltn (by rfl) T.z_int (by decide +kernel) rfl)))
  (es_cons (es_ret (ev_and (ev_isi (T := "int") (by decide) (by rfl) T.z_isinstance (ev_name (pv 0)) (pe_bltn (by rfl) T.z_int (by decide +kernel) rfl)) (ev_one (ev_cmp (op_eqD hr.units) os_eq (ev_name (pv 0)) (ev_name (pv 1)) (nomark _)))))
  es_nil)
  es_nil)
  (es_cons (es_ret (ev_and (ev_isi (T := "str") (by decide) (by rfl) T.z_isinstance (ev_name (pv 0)) (pe_bltn (by rfl) T.z_str (by decide +kernel) rfl)) (ev_one (ev_cmp (op_eqD hr.units) os_eq (ev_name (pv 0)) (ev_name (pv 1)) (nomark _)))))
  es_nil)))))
theorem ok_law_pool (T : Tx K mg) : FnOk P w K mg base CX0 1 T.a_law_pool T.fd_law_pool ["script"] (spN K 1 F_law_pool) :=
  ok_N T.F_law_pool sc_law_pool rfl rfl fun cdv A outer s H E hr =>
  (es_cons (es_set sc_law_pool.nd (i := 1) rfl (by first | exact Or.inl rfl | exact Or.inr rfl) ev_int)
  (es_cons (es_for PassesOwn.never rfl (ei_seq (ev_new (en_sl (ev_name (pv 0)) eo_none (eo_some ev_int)))) (eg_name sc_law_pool.nd (i := 2) rfl (by first | exact Or.inl rfl | exact Or.inr rfl))
  (es_cons (es_set sc_law_pool.nd (i := 1) rfl (by first | exact Or.inl rfl | exact Or.inr rfl) (ev_op op_mod os_mod (ev_fnT call_int1 fs_int (by rfl) T.z_int PyProof.Rows.boot_int (ea_cons (ev_op op_addD os_add (ev_op op_mul os_mul (ev_name (pv 1)) ev_int) (ev_name (pv 2))) ea_nil)) ev_int))
  es_nil))
  (es_cons (es_retL (en_lst (ea_cons (ev_new (en_fnT call_list_of fn_list (by rfl) T.z_list PyProof.Rows.boot_list (ea_cons (ev_name (pv 0)) ea_nil))) (ea_cons ev_int (ea_cons ev_int (ea_cons ev_int (ea_cons (ev_name (pv 1)) ea_nil)))))))
  es_nil)))
theorem ok_law_spread (T : Tx K mg) : FnOk P w K mg base CX0 1 T.a_law_spread T.fd_law_spread ["cell"] (spP K 1 F_law_spread) :=
  ok_P T.F_law_spread sc_law_spread rfl rfl fun cdv A outer s H E hr =>
  (es_cons (es_set sc_law_spread.nd (i := 1) rfl (by first | exact Or.inl rfl | exact Or.inr rfl) (ev_op op_mod os_mod (ev_fnT call_int1 fs_int (by rfl) T.z_int PyProof.Rows.boot_int (ea_cons (ev_name (pv 0)) ea_nil)) ev_int))
  (es_cons (es_set sc_law_spread.nd (i := 2) rfl (by first | exact Or.inl rfl | exact Or.inr rfl) ev_int)
  (es_cons (es_for PassesOwn.never rfl (ei_rng1 (by rfl) T.z_range (ea_cons ev_int ea_nil)) (eg_name sc_law_spread.nd (i := 3) rfl (by first | exact Or.inl rfl | exact Or.inr rfl))
  (es_cons (es_set sc_law_spread.nd (i := 1) rfl (by first | exact Or.inl rfl | exact Or.inr rfl) (ev_op op_mod os_mod (ev_fnT call_int1 fs_int (by rfl) T.z_int PyProof.Rows.boot_int (ea_cons (ev_op op_addD os_add (ev_op op_addD os_add (ev_op op_mul os_mul (ev_name (pv 1)) ev_int) ev_int) (ev_name (pv 3))) ea_nil)) ev_int))
  (es_cons (es_set sc_law_spread.nd (i := 2) rfl (by first | exact Or.inl rfl | exact Or.inr rfl) (ev_op op_addD os_add (ev_op op_mul os_mul (ev_name (pv 2)) ev_int) (ev_name (pv 1))))
  es_nil)))
  (es_cons (es_ret (ev_name (pv 2)))
  es_nil))))
theorem ok_law_draw (T : Tx K mg) : FnOk P w K mg base CX0 2 T.a_law_draw T.fd_law_draw ["pool", "many"] (spL K 1 F_law_draw) :=
  ok_L T.F_law_draw sc_law_draw rfl rfl fun cdv A outer s H E hr =>
  (es_cons (es_if (ew_and (et_cmp op_le os_le (ev_ixO (pv 0) ev_int (fun _ _ => rfl)) ev_int (nomark _)) (ew_and1 (et_cmp op_lt os_lt (ev_ixO (pv 0) ev_int (fun _ _ => rfl)) (ev_fn cl_len fs_len (by rfl) T.z_len PySem.boot_len (ea_cons (ev_ixO (pv 0) ev_int (fun _ _ => rfl)) ea_nil)) (nomark _)))).pt
  (es_cons (es_set sc_law_draw.nd (i := 3) rfl (by first | exact Or.inl rfl | exact Or.inr rfl) (ev_ix ix_seq os_ix (ev_ixO (pv 0) ev_int (fun _ _ => rfl)) (ev_ixO (pv 0) ev_int (fun _ _ => rfl)) (fun _ _ => rfl)))
  (es_cons (es_sto (pv 0) ev_int (ev_op op_addD os_add (ev_ixO (pv 0) ev_int (fun _ _ => rfl)) ev_int))
  (es_cons (es_sto (pv 0) ev_int (ev_name (pv 3)))
  (es_cons (es_if (et_cmp op_lt os_lt (ev_name (pv 3)) ev_int (nomark _))
  (es_cons (es_sto (pv 0) ev_int (ev_call (ok_law_spread T) (hr.mono (by decide)) (by rfl) T.g_law_spread T.F_law_spread.kp T.b_law_spread (ea_cons (ev_name (pv 3)) ea_nil) (nlen_cons nlen_nil)))
  es_nil)
  es_nil)
  es_nil))))
  es_nil)
  (es_cons (es_sto (pv 0) ev_int (ev_op op_addD os_add (ev_ixO (pv 0) ev_int (fun _ _ => rfl)) ev_int))
  (es_cons (es_if (et_cmp op_le os_le (ev_ixO (pv 0) ev_int (fun _ _ => rfl)) ev_int (nomark _))
  (es_cons (es_set sc_law_draw.nd (i := 4) rfl (by first | exact Or.inl rfl | exact Or.inr rfl) (ev_op op_mod os_mod (ev_fnT call_int1 fs_int (by rfl) T.z_int PyProof.Rows.boot_int (ea_cons (ev_op op_addD os_add (ev_op op_addD os_add (ev_op op_mul os_mul (ev_ixO (pv 0) ev_int (fun _ _ => rfl)) ev_int) (ev_op op_mul os_mul (ev_ixO (pv 0) ev_int (fun _ _ => rfl)) ev_int)) ev_int) ea_nil)) ev_int))
  (es_cons (es_set sc_law_draw.nd (i := 4) rfl (by first | exact Or.inl rfl | exact Or.inr rfl) (ev_op op_mod os_mod (ev_fnT call_int1 fs_int (by rfl) T.z_int PyProof.Rows.boot_int (ea_cons (ev_op op_addD os_add (ev_op op_mul os_mul (ev_name (pv 4)) ev_int) (ev_ixO (pv 0) ev_int (fun _ _ => rfl))) ea_nil)) ev_int))
  (es_cons (es_ret (ev_op op_mod os_mod (ev_op op_fdivW os_div (ev_name (pv 4)) ev_int) (ev_name (pv 1))))
  es_nil)))
  es_nil)
  (es_cons (es_set sc_law_draw.nd (i := 2) rfl (by first | exact Or.inl rfl | exact Or.inr rfl) (ev_op op_mod os_mod (ev_fnT call_int1 fs_int (by rfl) T.z_int PyProof.Rows.boot_int (ea_cons (ev_ixO (pv 0) ev_int (fun _ _ => rfl)) ea_nil)) (ev_name (pv 1))))
  (es_cons (es_sto (pv 0) ev_int (ev_op op_fdivW os_div (ev_ixO (pv 0) ev_int (fun _ _ => rfl)) (ev_name (pv 1))))
  (es_cons (es_ret (ev_name (pv 2)))
  es_nil))))))
theorem ok_law_number (T : Tx K mg) : FnOk P w K mg base CX0 3 T.a_law_number T.fd_law_number ["pool", "top"] (spL K 1 F_law_number) :=
  ok_L T.F_law_number sc_law_number rfl rfl fun cdv A outer s H E hr =>
  (es_cons (es_set sc_law_number.nd (i := 2) rfl (by first | exact Or.inl rfl | exact Or.inr rfl) (ev_callL (ok_law_draw T) (hr.mono (by decide)) (by rfl) T.g_law_draw T.F_law_draw.kp T.b_law_draw (pv 0) (ea_cons ev_int ea_nil) (nlen_cons nlen_nil)))
  (es_cons (es_if (et_cmp (op_eqD hr.units) os_eq (ev_name (pv 2)) ev_int (nomark _))
  (es_cons (es_ret (ev_callL (ok_law_draw T) (hr.mono (by decide)) (by rfl) T.g_law_draw T.F_law_draw.kp T.b_law_draw (pv 0) (ea_cons (ev_op op_addD os_add (ev_name (pv 1)) ev_int) ea_nil) (nlen_cons nlen_nil)))
  es_nil)
  es_nil)
  (es_cons (es_if (et_cmp (op_eqD hr.units) os_eq (ev_name (pv 2)) ev_int (nomark _))
  (es_cons (es_ret (ev_fn (call_min2 rfl) fs_min (by rfl) T.z_min (by decide +kernel) (ea_cons (ev_name (pv 1)) (ea_cons (ev_callL (ok_law_draw T) (hr.mono (by decide)) (by rfl) T.g_law_draw T.F_law_draw.kp T.b_law_draw (pv 0) (ea_cons ev_int ea_nil) (nlen_cons nlen_nil)) ea_nil))))
  es_nil)
  es_nil)
  (es_cons (es_if (et_cmp (op_eqD hr.units) os_eq (ev_name (pv 2)) ev_int (nomark _))
  (es_cons (es_ret (ev_fn (call_max2 rfl) fs_max (by rfl) T.z_max (by decide +kernel) (ea_cons ev_int (ea_cons (ev_op op_sub os_sub (ev_name (pv 1)) (ev_callL (ok_law_draw T) (hr.mono (by decide)) (by rfl) T.g_law_draw T.F_law_draw.kp T.b_law_draw (pv 0) (ea_cons ev_int ea_nil) (nlen_cons nlen_nil))) ea_nil))))
  es_nil)
  es_nil)
  (es_cons (es_ret (ev_fn (call_min2 rfl) fs_min (by rfl) T.z_min (by decide +kernel) (ea_cons (ev_name (pv 1)) (ea_cons (ev_op op_mul os_mul ev_int (ev_callL (ok_law_draw T) (hr.mono (by decide)) (by rfl) T.g_law_draw T.F_law_draw.kp T.b_law_draw (pv 0) (ea_cons ev_int ea_nil) (nlen_cons nlen_nil))) ea_nil))))
  es_nil)))))
theorem ok_law_fold (T : Tx K mg) : FnOk P w K mg base CX0 1 T.a_law_fold T.fd_law_fold ["words"] (spP K 1 F_law_fold) :=
  ok_P T.F_law_fold sc_law_fold rfl rfl fun cdv A outer s H E hr =>
  (es_cons (es_set sc_law_fold.nd (i := 1) rfl (by first | exact Or.inl rfl | exact Or.inr rfl) (ev_fn (cr_sumA rfl) fs_sum (by rfl) T.z_sum (by decide +kernel) (ea_cons (ev_name (pv 0)) ea_nil)))
  (es_cons (es_while PassesOwn.never (et_cmp op_gt os_gt (ev_name (pv 1)) ev_int (nomark _))
  (es_cons (es_set sc_law_fold.nd (i := 1) rfl (by first | exact Or.inl rfl | exact Or.inr rfl) (ev_op op_addD os_add (ev_op op_fdivW os_div (ev_name (pv 1)) ev_int) (ev_op op_mod os_mod (ev_fnT call_int1 fs_int (by rfl) T.z_int PyProof.Rows.boot_int (ea_cons (ev_name (pv 1)) ea_nil)) ev_int)))
  es_nil))
  (es_cons (es_ret (ev_name (pv 1)))
  es_nil)))
theorem ok_law_words (T : Tx K mg) : FnOk P w K mg base CX0 1 T.a_law_words T.fd_law_words ["row"] (spP K 1 F_law_words) :=
  ok_P T.F_law_words sc_law_words rfl rfl fun cdv A outer s H E hr =>
  (es_cons (es_set sc_law_words.nd (i := 1) rfl (by first | exact Or.inl rfl | exact Or.inr rfl) (ev_op op_addD os_add (ev_new (en_fnT call_list_of fn_list (by rfl) T.z_list PyProof.Rows.boot_list (ea_cons (ev_name (pv 0)) ea_nil))) (ev_op op_rep os_rep (ev_new (en_lst (ea_cons ev_int ea_nil))) (ev_op op_mod os_mod (ev_fnT call_int1 fs_int (by rfl) T.z_int PyProof.Rows.boot_int (ea_cons (ev_fn cl_len fs_len (by rfl) T.z_len PySem.boot_len (ea_cons (ev_name (pv 0)) ea_nil)) ea_nil)) ev_int))))
  (es_cons (es_ret (ev_new (en_comp rfl sc_law_words.nd (own := [("k", 2)]) (ei_rng1 (by rfl) T.z_range (ea_cons (ev_op op_fdivW os_div (ev_fn cl_len fs_len (by rfl) T.z_len PySem.boot_len (ea_cons (ev_name (pv 1)) ea_nil)) ev_int) ea_nil)) (blkOk_by (N := ["row", "even", "k"]) (sc := defScope s_law_words) (by decide +kernel)) (fun _ _ _ _ _ => (eg_name sc_law_words.nd (i := 2) rfl (by first | exact Or.inl rfl | exact Or.inr rfl))) (fun _ _ _ _ _ => ptst_nil) (fun _ _ _ _ _ => (ev_op op_addD os_add (ev_op op_mul os_mul ev_int (ev_ix ix_seq os_ix (ev_name (pv 1)) (ev_op op_mul os_mul ev_int (ev_name (pv 2))) (fun _ _ => rfl))) (ev_ix ix_seq os_ix (ev_name (pv 1)) (ev_op op_addD os_add (ev_op op_mul os_mul ev_int (ev_name (pv 2))) ev_int) (fun _ _ => rfl)))))))
  es_nil))
theorem ok_law_check (T : Tx K mg) : FnOk P w K mg base CX0 2 T.a_law_check T.fd_law_check ["row"] (spP K 1 F_law_check) :=
  ok_P T.F_law_check sc_law_check rfl rfl fun cdv A outer s H E hr =>
  (es_cons (es_ret (ev_op op_sub os_sub ev_int (ev_call (ok_law_fold T) (hr.mono (by decide)) (by rfl) T.g_law_fold T.F_law_fold.kp T.b_law_fold (ea_cons (ev_call (ok_law_words T) (hr.mono (by decide)) (by rfl) T.g_law_words T.F_law_words.kp T.b_law_words (ea_cons (ev_name (pv 0)) ea_nil) (nlen_cons nlen_nil)) ea_nil) (nlen_cons nlen_nil))))
  es_nil)
theorem ok_law_two (T : Tx K mg) : FnOk P w K mg base CX0 1 T.a_law_two T.fd_law_two ["number"] (spP K 1 F_law_two) :=
  ok_P T.F_law_two sc_law_two rfl rfl fun cdv A outer s H E hr =>
  (es_cons (es_ret (ev_tup (ea_cons (ev_op op_fdivW os_div (ev_name (pv 0)) ev_int) (ea_cons (ev_op op_mod os_mod (ev_fnT call_int1 fs_int (by rfl) T.z_int PyProof.Rows.boot_int (ea_cons (ev_name (pv 0)) ea_nil)) ev_int) ea_nil))))
  es_nil)
theorem ok_law_row (T : Tx K mg) : FnOk P w K mg base CX0 3 T.a_law_row T.fd_law_row ["pool", "many"] (spL K 1 F_law_row) :=
  ok_L T.F_law_row sc_law_row rfl rfl fun cdv A outer s H E hr =>
  (es_cons (es_ret (ev_fnT call_tuple_of fs_tup (by rfl) T.z_tuple PyProof.Rows.boot_tuple (ea_cons (ev_new (en_comp rfl sc_law_row.nd (own := [("k", 2)]) (ei_rng1 (by rfl) T.z_range (ea_cons (ev_name (pv 1)) ea_nil)) (blkOk_by (N := ["pool", "many", "k"]) (sc := defScope s_law_row) (by decide +kernel)) (fun _ _ _ _ _ => (eg_name sc_law_row.nd (i := 2) rfl (by first | exact Or.inl rfl | exact Or.inr rfl))) (fun _ _ _ _ _ => ptst_nil) (fun _ _ _ _ _ => (ev_ix ix_seq os_ix (ev_tup (ea_cons (ev_callL (ok_law_draw T) (hr.mono (by decide)) (by rfl) T.g_law_draw T.F_law_draw.kp T.b_law_draw (pv 0) (ea_cons ev_int ea_nil) (nlen_cons nlen_nil)) (ea_cons ev_int (ea_cons ev_int (ea_cons ev_int ea_nil))))) (ev_callL (ok_law_draw T) (hr.mono (by decide)) (by rfl) T.g_law_draw T.F_law_draw.kp T.b_law_draw (pv 0) (ea_cons ev_int ea_nil) (nlen_cons nlen_nil)) (fun _ _ => rfl))))) ea_nil)))
  es_nil)
theorem ok_law_inner_size (T : Tx K mg) : FnOk P w K mg base CX0 1 T.a_law_inner_size T.fd_law_inner_size ["kind"] (spP K 1 F_law_inner_size) :=
  ok_P T.F_law_inner_size sc_law_inner_size rfl rfl fun cdv A outer s H E hr =>
  (es_cons (es_ret (ev_if (et_cmp (op_eqD hr.units) os_eq (ev_name (pv 0)) ev_int (nomark _)) ev_int (ev_if (et_cmp (op_eqD hr.units) os_eq (ev_name (pv 0)) ev_int (nomark _)) ev_int (ev_if (et_cmp (op_eqD hr.units) os_eq (ev_name (pv 0)) ev_int (nomark _)) ev_int ev_int))))
  es_nil)
theorem ok_law_kind (T : Tx K mg) : FnOk P w K mg base CX0 3 T.a_law_kind T.fd_law_kind ["pool"] (spL K 0 F_law_kind) :=
  ok_L T.F_law_kind sc_law_kind rfl rfl fun cdv A outer s H E hr =>
  (es_cons (es_ret (ev_ix ix_seq os_ix (ev_tup (ea_cons ev_int (ea_cons ev_int (ea_cons ev_int (ea_cons ev_int (ea_cons (ev_callL (ok_law_draw T) (hr.mono (by decide)) (by rfl) T.g_law_draw T.F_law_draw.kp T.b_law_draw (pv 0) (ea_cons ev_int ea_nil) (nlen_cons nlen_nil)) ea_nil)))))) (ev_callL (ok_law_draw T) (hr.mono (by decide)) (by rfl) T.g_law_draw T.F_law_draw.kp T.b_law_draw (pv 0) (ea_cons ev_int ea_nil) (nlen_cons nlen_nil)) (fun _ _ => rfl)))
  es_nil)
theorem ok_law_inner (T : Tx K mg) : FnOk P w K mg base CX0 4 T.a_law_inner T.fd_law_inner ["pool", "kind"] (spL K 1 F_law_inner) :=
  ok_L T.F_law_inner sc_law_inner rfl rfl fun cdv A outer s H E hr =>
  (es_cons (es_if (et_cmp (op_eqD hr.units) os_eq (ev_name (pv 1)) ev_int (nomark _))
  (es_cons (es_ret (ev_tup (ea_cons (ev_callL (ok_law_number T) (hr.mono (by decide)) (by rfl) T.g_law_number T.F_law_number.kp T.b_law_number (pv 0) (ea_cons ev_int ea_nil) (nlen_cons nlen_nil)) (ea_cons (ev_callL (ok_law_number T) (hr.mono (by decide)) (by rfl) T.g_law_number T.F_law_number.kp T.b_law_number (pv 0) (ea_cons ev_int ea_nil) (nlen_cons nlen_nil)) (ea_cons (ev_callL (ok_law_draw T) (hr.mono (by decide)) (by rfl) T.g_law_draw T.F_law_draw.kp T.b_law_draw (pv 0) (ea_cons ev_int ea_nil) (nlen_cons nlen_nil)) ea_nil)))))
  es_nil)
  es_nil)
  (es_cons (es_if (et_cmp (op_eqD hr.units) os_eq (ev_name (pv 1)) ev_int (nomark _))
  (es_cons (es_ret (ev_tup (ea_cons (ev_callL (ok_law_number T) (hr.mono (by decide)) (by rfl) T.g_law_number T.F_law_number.kp T.b_law_number (pv 0) (ea_cons ev_int ea_nil) (nlen_cons nlen_nil)) (ea_cons (ev_callL (ok_law_number T) (hr.mono (by decide)) (by rfl) T.g_law_number T.F_law_number.kp T.b_law_number (pv 0) (ea_cons ev_int ea_nil) (nlen_cons nlen_nil)) ea_nil))))
  es_nil)
  es_nil)
  (es_cons (es_ret (ev_if (et_cmp (op_eqD hr.units) os_eq (ev_name (pv 1)) ev_int (nomark _)) (ev_tup (ea_cons (ev_callL (ok_law_draw T) (hr.mono (by decide)) (by rfl) T.g_law_draw T.F_law_draw.kp T.b_law_draw (pv 0) (ea_cons ev_int ea_nil) (nlen_cons nlen_nil)) (ea_cons (ev_callL (ok_law_draw T) (hr.mono (by decide)) (by rfl) T.g_law_draw T.F_law_draw.kp T.b_law_draw (pv 0) (ea_cons ev_int ea_nil) (nlen_cons nlen_nil)) ea_nil))) (ev_tup ea_nil)))
  es_nil)))
theorem ok_law_packet (T : Tx K mg) : FnOk P w K mg base CX0 5 T.a_law_packet T.fd_law_packet ["pool", "most"] (spL K 1 F_law_packet) :=
  ok_L T.F_law_packet sc_law_packet rfl rfl fun cdv A outer s H E hr =>
  (es_cons (es_set sc_law_packet.nd (i := 2) rfl (by first | exact Or.inl rfl | exact Or.inr rfl) (ev_callL (ok_law_kind T) (hr.mono (by decide)) (by rfl) T.g_law_kind T.F_law_kind.kp T.b_law_kind (pv 0) ea_nil nlen_nil))
  (es_cons (es_set sc_law_packet.nd (i := 3) rfl (by first | exact Or.inl rfl | exact Or.inr rfl) (ev_tup (ea_cons (ev_callL (ok_law_number T) (hr.mono (by decide)) (by rfl) T.g_law_number T.F_law_number.kp T.b_law_number (pv 0) (ea_cons ev_int ea_nil) (nlen_cons nlen_nil)) (ea_cons (ev_callL (ok_law_number T) (hr.mono (by decide)) (by rfl) T.g_law_number T.F_law_number.kp T.b_law_number (pv 0) (ea_cons ev_int ea_nil) (nlen_cons nlen_nil)) ea_nil))))
  (es_cons (es_set sc_law_packet.nd (i := 4) rfl (by first | exact Or.inl rfl | exact Or.inr rfl) (ev_callL (ok_law_row T) (hr.mono (by decide)) (by rfl) T.g_law_row T.F_law_row.kp T.b_law_row (pv 0) (ea_cons (ev_op op_mul os_mul ev_int (ev_callL (ok_law_draw T) (hr.mono (by decide)) (by rfl) T.g_law_draw T.F_law_draw.kp T.b_law_draw (pv 0) (ea_cons ev_int ea_nil) (nlen_cons nlen_nil))) ea_nil) (nlen_cons nlen_nil)))
  (es_cons (es_set sc_law_packet.nd (i := 5) rfl (by first | exact Or.inl rfl | exact Or.inr rfl) (ev_callL (ok_law_row T) (hr.mono (by decide)) (by rfl) T.g_law_row T.F_law_row.kp T.b_law_row (pv 0) (ea_cons (ev_callL (ok_law_draw T) (hr.mono (by decide)) (by rfl) T.g_law_draw T.F_law_draw.kp T.b_law_draw (pv 0) (ea_cons (ev_op op_addD os_add (ev_name (pv 1)) ev_int) ea_nil) (nlen_cons nlen_nil)) ea_nil) (nlen_cons nlen_nil)))
  (es_cons (es_ret (ev_op op_addD os_add (ev_name (pv 3)) (ev_tup (ea_cons (ev_name (pv 2)) (ea_cons (ev_ix ix_seq os_ix (ev_tup (ea_cons (ev_op op_addD os_add ev_int (ev_callL (ok_law_draw T) (hr.mono (by decide)) (by rfl) T.g_law_draw T.F_law_draw.kp T.b_law_draw (pv 0) (ea_cons ev_int ea_nil) (nlen_cons nlen_nil))) (ea_cons ev_int (ea_cons ev_int (ea_cons ev_int ea_nil))))) (ev_callL (ok_law_draw T) (hr.mono (by decide)) (by rfl) T.g_law_draw T.F_law_draw.kp T.b_law_draw (pv 0) (ea_cons ev_int ea_nil) (nlen_cons nlen_nil)) (fun _ _ => rfl)) (ea_cons (ev_name (pv 4)) (ea_cons (ev_callL (ok_law_inner T) (hr.mono (by decide)) (by rfl) T.g_law_inner T.F_law_inner.kp T.b_law_inner (pv 0) (ea_cons (ev_name (pv 2)) ea_nil) (nlen_cons nlen_nil)) (ea_cons (ev_name (pv 5)) ea_nil))))))))
  es_nil)))))
theorem ok_law_length (T : Tx K mg) : FnOk P w K mg base CX0 2 T.a_law_length T.fd_law_length ["packet"] (spP K 1 F_law_length) :=
  ok_P T.F_law_length sc_law_length rfl rfl fun cdv A outer s H E hr =>
  (es_cons (es_ret (ev_op op_addD os_add (ev_op op_addD os_add (ev_op op_addD os_add ev_int (ev_fn cl_len fs_len (by rfl) T.z_len PySem.boot_len (ea_cons (ev_ix ix_seq os_ix (ev_name (pv 0)) ev_int (fun _ _ => rfl)) ea_nil))) (ev_call (ok_law_inner_size T) (hr.mono (by decide)) (by rfl) T.g_law_inner_size T.F_law_inner_size.kp T.b_law_inner_size (ea_cons (ev_ix ix_seq os_ix (ev_name (pv 0)) ev_int (fun _ _ => rfl)) ea_nil) (nlen_cons nlen_nil))) (ev_fn cl_len fs_len (by rfl) T.z_len PySem.boot_len (ea_cons (ev_ix ix_seq os_ix (ev_name (pv 0)) ev_int (fun _ _ => rfl)) ea_nil))))
  es_nil)
theorem ok_law_bytes (T : Tx K mg) : FnOk P w K mg base CX0 3 T.a_law_bytes T.fd_law_bytes ["packet"] (spP K 1 F_law_bytes) :=
  ok_P T.F_law_bytes sc_law_bytes rfl rfl fun cdv A outer s H E hr =>
  (es_cons (es_set sc_law_bytes.nd (i := 1) rfl (by first | exact Or.inl rfl | exact Or.inr rfl) (ev_op op_addD os_add (ev_op op_addD os_add (ev_tup (ea_cons (ev_op op_addD os_add ev_int (ev_op op_fdivW os_div (ev_fn cl_len fs_len (by rfl) T.z_len PySem.boot_len (ea_cons (ev_ix ix_seq os_ix (ev_name (pv 0)) ev_int (fun _ _ => rfl)) ea_nil)) ev_int)) (ea_cons (ev_ix ix_seq os_ix (ev_name (pv 0)) ev_int (fun _ _ => rfl)) ea_nil))) (ev_call (ok_law_two T) (hr.mono (by decide)) (by rfl) T.g_law_two T.F_law_two.kp T.b_law_two (ea_cons (ev_call (ok_law_length T) (hr.mono (by decide)) (by rfl) T.g_law_length T.F_law_length.kp T.b_law_length (ea_cons (ev_name (pv 0)) ea_nil) (nlen_cons nlen_nil)) ea_nil) (nlen_cons nlen_nil))) (ev_tup (ea_cons (ev_ix ix_seq os_ix (ev_name (pv 0)) ev_int (fun _ _ => rfl)) (ea_cons ev_int ea_nil)))))
  (es_cons (es_set sc_law_bytes.nd (i := 2) rfl (by first | exact Or.inl rfl | exact Or.inr rfl) (ev_op op_addD os_add (ev_call (ok_law_two T) (hr.mono (by decide)) (by rfl) T.g_law_two T.F_law_two.kp T.b_law_two (ea_cons (ev_ix ix_seq os_ix (ev_name (pv 0)) ev_int (fun _ _ => rfl)) ea_nil) (nlen_cons nlen_nil)) (ev_call (ok_law_two T) (hr.mono (by decide)) (by rfl) T.g_law_two T.F_law_two.kp T.b_law_two (ea_cons (ev_ix ix_seq os_ix (ev_name (pv 0)) ev_int (fun _ _ => rfl)) ea_nil) (nlen_cons nlen_nil))))
  (es_cons (es_set sc_law_bytes.nd (i := 3) rfl (by first | exact Or.inl rfl | exact Or.inr rfl) (ev_op op_addD os_add (ev_op op_addD os_add (ev_op op_addD os_add (ev_name (pv 1)) (ev_call (ok_law_two T) (hr.mono (by decide)) (by rfl) T.g_law_two T.F_law_two.kp T.b_law_two (ea_cons (ev_call (ok_law_check T) (hr.mono (by decide)) (by rfl) T.g_law_check T.F_law_check.kp T.b_law_check (ea_cons (ev_op op_addD os_add (ev_op op_addD os_add (ev_op op_addD os_add (ev_name (pv 1)) (ev_tup (ea_cons ev_int (ea_cons ev_int ea_nil)))) (ev_name (pv 2))) (ev_ix ix_seq os_ix (ev_name (pv 0)) ev_int (fun _ _ => rfl))) ea_nil) (nlen_cons nlen_nil)) ea_nil) (nlen_cons nlen_nil))) (ev_name (pv 2))) (ev_ix ix_seq os_ix (ev_name (pv 0)) ev_int (fun _ _ => rfl))))
  (es_cons (es_set sc_law_bytes.nd (i := 4) rfl (by first | exact Or.inl rfl | exact Or.inr rfl) (ev_ix ix_seq os_ix (ev_name (pv 0)) ev_int (fun _ _ => rfl)))
  (es_cons (es_if (et_cmp (op_eqD hr.units) os_eq (ev_ix ix_seq os_ix (ev_name (pv 0)) ev_int (fun _ _ => rfl)) ev_int (nomark _))
  (es_cons (es_set sc_law_bytes.nd (i := 4) rfl (by first | exact Or.inl rfl | exact Or.inr rfl) (ev_op op_addD os_add (ev_op op_addD os_add (ev_call (ok_law_two T) (hr.mono (by decide)) (by rfl) T.g_law_two T.F_law_two.kp T.b_law_two (ea_cons (ev_ix ix_seq os_ix (ev_name (pv 4)) ev_int (fun _ _ => rfl)) ea_nil) (nlen_cons nlen_nil)) (ev_call (ok_law_two T) (hr.mono (by decide)) (by rfl) T.g_law_two T.F_law_two.kp T.b_law_two (ea_cons (ev_ix ix_seq os_ix (ev_name (pv 4)) ev_int (fun _ _ => rfl)) ea_nil) (nlen_cons nlen_nil))) (ev_tup (ea_cons (ev_ix ix_seq os_ix (ev_name (pv 4)) ev_int (fun _ _ => rfl)) (ea_cons ev_int ea_nil)))))
  es_nil)
  es_nil)
  (es_cons (es_if (et_cmp (op_eqD hr.units) os_eq (ev_ix ix_seq os_ix (ev_name (pv 0)) ev_int (fun _ _ => rfl)) ev_int (nomark _))
  (es_cons (es_set sc_law_bytes.nd (i := 4) rfl (by first | exact Or.inl rfl | exact Or.inr rfl) (ev_op op_addD os_add (ev_call (ok_law_two T) (hr.mono (by decide)) (by rfl) T.g_law_two T.F_law_two.kp T.b_law_two (ea_cons (ev_ix ix_seq os_ix (ev_name (pv 4)) ev_int (fun _ _ => rfl)) ea_nil) (nlen_cons nlen_nil)) (ev_call (ok_law_two T) (hr.mono (by decide)) (by rfl) T.g_law_two T.F_law_two.kp T.b_law_two (ea_cons (ev_ix ix_seq os_ix (ev_name (pv 4)) ev_int (fun _ _ => rfl)) ea_nil) (nlen_cons nlen_nil))))
  es_nil)
  es_nil)
  (es_cons (es_if (et_cmp (op_eqD hr.units) os_eq (ev_call (ok_law_inner_size T) (hr.mono (by decide)) (by rfl) T.g_law_inner_size T.F_law_inner_size.kp T.b_law_inner_size (ea_cons (ev_ix ix_seq os_ix (ev_name (pv 0)) ev_int (fun _ _ => rfl)) ea_nil) (nlen_cons nlen_nil)) ev_int (nomark _))
  (es_cons (es_ret (ev_op op_addD os_add (ev_name (pv 3)) (ev_ix ix_seq os_ix (ev_name (pv 0)) ev_int (fun _ _ => rfl))))
  es_nil)
  es_nil)
  (es_cons (es_set sc_law_bytes.nd (i := 5) rfl (by first | exact Or.inl rfl | exact Or.inr rfl) (ev_op op_addD os_add (ev_op op_addD os_add (ev_name (pv 4)) (ev_tup (ea_cons ev_int (ea_cons ev_int ea_nil)))) (ev_ix ix_seq os_ix (ev_name (pv 0)) ev_int (fun _ _ => rfl))))
  (es_cons (es_set sc_law_bytes.nd (i := 6) rfl (by first | exact Or.inl rfl | exact Or.inr rfl) (ev_call (ok_law_check T) (hr.mono (by decide)) (by rfl) T.g_law_check T.F_law_check.kp T.b_law_check (ea_cons (ev_op op_addD os_add (ev_op op_addD os_add (ev_op op_addD os_add (ev_name (pv 2)) (ev_call (ok_law_two T) (hr.mono (by decide)) (by rfl) T.g_law_two T.F_law_two.kp T.b_law_two (ea_cons (ev_ix ix_seq os_ix (ev_name (pv 0)) ev_int (fun _ _ => rfl)) ea_nil) (nlen_cons nlen_nil))) (ev_call (ok_law_two T) (hr.mono (by decide)) (by rfl) T.g_law_two T.F_law_two.kp T.b_law_two (ea_cons (ev_fn cl_len fs_len (by rfl) T.z_len PySem.boot_len (ea_cons (ev_name (pv 5)) ea_nil)) ea_nil) (nlen_cons nlen_nil))) (ev_name (pv 5))) ea_nil) (nlen_cons nlen_nil)))
  (es_cons (es_ret (ev_op op_addD os_add (ev_op op_addD os_add (ev_op op_addD os_add (ev_name (pv 3)) (ev_name (pv 4))) (ev_call (ok_law_two T) (hr.mono (by decide)) (by rfl) T.g_law_two T.F_law_two.kp T.b_law_two (ea_cons (ev_name (pv 6)) ea_nil) (nlen_cons nlen_nil))) (ev_ix ix_seq os_ix (ev_name (pv 0)) ev_int (fun _ _ => rfl))))
  es_nil))))))))))
theorem ok_law (T : Tx K mg) : FnOk P w K mg base CX0 42 T.a_law T.fd_law ["script"] (spP K 1 F_law) :=
  ok_P T.F_law sc_law rfl rfl fun cdv A outer s H E hr =>
  (es_cons (es_setL sc_law.nd (i := 1) rfl (by first | exact Or.inl rfl | exact Or.inr rfl) (en_call (ok_law_pool T) (hr.mono (by decide)) (by rfl) T.g_law_pool T.F_law_pool.kp T.b_law_pool (ea_cons (ev_name (pv 0)) ea_nil) (nlen_cons nlen_nil)))
  (es_cons (es_for PassesOwn.never rfl (ei_rng1 (by rfl) T.z_range (ea_cons ev_int ea_nil)) (eg_name sc_law.nd (i := 2) rfl (by first | exact Or.inl rfl | exact Or.inr rfl))
  (es_cons (es_set sc_law.nd (i := 3) rfl (by first | exact Or.inl rfl | exact Or.inr rfl) (ev_callL (ok_law_packet T) (hr.mono (by decide)) (by rfl) T.g_law_packet T.F_law_packet.kp T.b_law_packet (pv 1) (ea_cons ev_int ea_nil) (nlen_cons nlen_nil)))
  (es_cons (es_set sc_law.nd (i := 4) rfl (by first | exact Or.inl rfl | exact Or.inr rfl) (ev_op op_addD os_add ev_int (ev_fn cl_len fs_len (by rfl) T.z_len PySem.boot_len (ea_cons (ev_ix ix_seq os_ix (ev_name (pv 3)) ev_int (fun _ _ => rfl)) ea_nil))))
  (es_cons (es_if (et_cmp op_gt os_gt (ev_name (pv 2)) ev_int (nomark _))
  (es_cons (es_set sc_law.nd (i := 5) rfl (by first | exact Or.inl rfl | exact Or.inr rfl) (ev_call (ok_law_bytes T) (hr.mono (by decide)) (by rfl) T.g_law_bytes T.F_law_bytes.kp T.b_law_bytes (ea_cons (ev_name (pv 3)) ea_nil) (nlen_cons nlen_nil)))
  (es_cons (es_set sc_law.nd (i := 3) rfl (by first | exact Or.inl rfl | exact Or.inr rfl) (ev_op op_addD os_add (ev_tup (ea_cons (ev_call (ok_law_fold T) (hr.mono (by decide)) (by rfl) T.g_law_fold T.F_law_fold.kp T.b_law_fold (ea_cons (ev_new (en_lst (ea_cons (ev_ix ix_seq os_ix (ev_name (pv 3)) ev_int (fun _ _ => rfl)) (ea_cons (ev_op op_addD os_add (ev_op op_mul os_mul ev_int (ev_ix ix_seq os_ix (ev_name (pv 5)) ev_int (fun _ _ => rfl))) (ev_ix ix_seq os_ix (ev_name (pv 5)) ev_int (fun _ _ => rfl))) ea_nil)))) ea_nil) (nlen_cons nlen_nil)) ea_nil)) (ev_slT (ev_name (pv 3)) (eo_some ev_int) eo_none)))
  (es_cons (es_set sc_law.nd (i := 5) rfl (by first | exact Or.inl rfl | exact Or.inr rfl) (ev_call (ok_law_bytes T) (hr.mono (by decide)) (by rfl) T.g_law_bytes T.F_law_bytes.kp T.b_law_bytes (ea_cons (ev_name (pv 3)) ea_nil) (nlen_cons nlen_nil)))
  (es_cons (es_set sc_law.nd (i := 6) rfl (by first | exact Or.inl rfl | exact Or.inr rfl) (ev_op op_sub os_sub (ev_op op_addD os_add (ev_name (pv 4)) (ev_call (ok_law_inner_size T) (hr.mono (by decide)) (by rfl) T.g_law_inner_size T.F_law_inner_size.kp T.b_law_inner_size (ea_cons (ev_ix ix_seq os_ix (ev_name (pv 3)) ev_int (fun _ _ => rfl)) ea_nil) (nlen_cons nlen_nil))) ev_int))
  (es_cons (es_if (et_cmp (op_mem (u65 hr)) os_mem (ev_ix ix_seq os_ix (ev_name (pv 3)) ev_int (fun _ _ => rfl)) (ev_tup (ea_cons ev_int (ea_cons ev_int ea_nil))) (by rfl))
  (es_cons (es_set sc_law.nd (i := 3) rfl (by first | exact Or.inl rfl | exact Or.inr rfl) (ev_op op_addD os_add (ev_slT (ev_name (pv 3)) eo_none (eo_some ev_int)) (ev_tup (ea_cons (ev_op op_addD os_add (ev_tup (ea_cons (ev_call (ok_law_fold T) (hr.mono (by decide)) (by rfl) T.g_law_fold T.F_law_fold.kp T.b_law_fold (ea_cons (ev_new (en_lst (ea_cons (ev_ix ix_seq os_ix (ev_ix ix_seq os_ix (ev_name (pv 3)) ev_int (fun _ _ => rfl)) ev_int (fun _ _ => rfl)) (ea_cons (ev_op op_addD os_add (ev_op op_mul os_mul ev_int (ev_ix ix_seq os_ix (ev_name (pv 5)) (ev_name (pv 6)) (fun _ _ => rfl))) (ev_ix ix_seq os_ix (ev_name (pv 5)) (ev_op op_addD os_add (ev_name (pv 6)) ev_int) (fun _ _ => rfl))) ea_nil)))) ea_nil) (nlen_cons nlen_nil)) ea_nil)) (ev_slT (ev_ix ix_seq os_ix (ev_name (pv 3)) ev_int (fun _ _ => rfl)) (eo_some ev_int) eo_none)) (ea_cons (ev_ix ix_seq os_ix (ev_name (pv 3)) ev_int (fun _ _ => rfl)) ea_nil)))))
  es_nil)
  es_nil)
  (es_cons (es_if (et_cmp (op_eqD hr.units) os_eq (ev_ix ix_seq os_ix (ev_name (pv 3)) ev_int (fun _ _ => rfl)) ev_int (nomark _))
  (es_cons (es_set sc_law.nd (i := 7) rfl (by first | exact Or.inl rfl | exact Or.inr rfl) (ev_call (ok_law_fold T) (hr.mono (by decide)) (by rfl) T.g_law_fold T.F_law_fold.kp T.b_law_fold (ea_cons (ev_new (en_lst (ea_cons (ev_op op_addD os_add (ev_op op_mul os_mul ev_int (ev_ix ix_seq os_ix (ev_ix ix_seq os_ix (ev_name (pv 3)) ev_int (fun _ _ => rfl)) ev_int (fun _ _ => rfl))) (ev_ix ix_seq os_ix (ev_ix ix_seq os_ix (ev_name (pv 3)) ev_int (fun _ _ => rfl)) ev_int (fun _ _ => rfl))) (ea_cons (ev_op op_addD os_add (ev_op op_mul os_mul ev_int (ev_ix ix_seq os_ix (ev_name (pv 5)) (ev_name (pv 6)) (fun _ _ => rfl))) (ev_ix ix_seq os_ix (ev_name (pv 5)) (ev_op op_addD os_add (ev_name (pv 6)) ev_int) (fun _ _ => rfl))) ea_nil)))) ea_nil) (nlen_cons nlen_nil)))
  (es_cons (es_set sc_law.nd (i := 3) rfl (by first | exact Or.inl rfl | exact Or.inr rfl) (ev_op op_addD os_add (ev_slT (ev_name (pv 3)) eo_none (eo_some ev_int)) (ev_tup (ea_cons (ev_call (ok_law_two T) (hr.mono (by decide)) (by rfl) T.g_law_two T.F_law_two.kp T.b_law_two (ea_cons (ev_name (pv 7)) ea_nil) (nlen_cons nlen_nil)) (ea_cons (ev_ix ix_seq os_ix (ev_name (pv 3)) ev_int (fun _ _ => rfl)) ea_nil)))))
  es_nil))
  es_nil)
  es_nil))))))
  es_nil)
  (es_cons (es_set sc_law.nd (i := 5) rfl (by first | exact Or.inl rfl | exact Or.inr rfl) (ev_call (ok_law_bytes T) (hr.mono (by decide)) (by rfl) T.g_law_bytes T.F_law_bytes.kp T.b_law_bytes (ea_cons (ev_name (pv 3)) ea_nil) (nlen_cons nlen_nil)))
  (es_cons (es_if (ew_and (et_cmp op_gt os_gt (ev_name (pv 2)) ev_int (nomark _)) (ew_and1 (et_cmp (op_neD hr.units) os_ne (ev_slT (ev_name (pv 5)) (eo_some ev_int) (eo_some ev_int)) (ev_tup (ea_cons ev_int (ea_cons ev_int ea_nil))) (nomark _)))).pt
  (es_cons (es_ret ev_bool)
  es_nil)
  es_nil)
  (es_cons (es_if (et_not (et_tru (ev_call (ok_law_same T 40) (hr.mono (by decide)) (by rfl) T.g_law_same T.F_law_same.kp T.b_law_same (ea_cons (ev_new (en_lst (ea_cons (ev_call (ok_read_packet T) (hr.mono (by decide)) (by rfl) T.g_read_packet T.F_read_packet.kp T.b_read_packet (ea_cons (ev_name (pv 5)) ea_nil) (nlen_cons nlen_nil)) (ea_cons (ev_call (ok_read_packet T) (hr.mono (by decide)) (by rfl) T.g_read_packet T.F_read_packet.kp T.b_read_packet (ea_cons (ev_call (ok_write_packet T) (hr.mono (by decide)) (by rfl) T.g_write_packet T.F_write_packet.kp T.b_write_packet (ea_cons (ev_name (pv 3)) ea_nil) (nlen_cons nlen_nil)) ea_nil) (nlen_cons nlen_nil)) ea_nil)))) (ea_cons (ev_new (en_lst (ea_cons (ev_name (pv 3)) (ea_cons (ev_name (pv 3)) ea_nil)))) ea_nil)) (nlen_cons (nlen_cons nlen_nil)))))
  (es_cons (es_ret ev_bool)
  es_nil)
  es_nil)
  (es_cons (es_set sc_law.nd (i := 6) rfl (by first | exact Or.inl rfl | exact Or.inr rfl) ev_int)
  (es_cons (es_if (et_cmp (op_eqD hr.units) os_eq (ev_slT (ev_name (pv 5)) (eo_some (ev_name (pv 6))) (eo_some (ev_op op_addD os_add (ev_name (pv 6)) ev_int))) (ev_tup (ea_cons ev_int (ea_cons ev_int ea_nil))) (nomark _))
  (es_cons (es_set sc_law.nd (i := 5) rfl (by first | exact Or.inl rfl | exact Or.inr rfl) (ev_op op_addD os_add (ev_op op_addD os_add (ev_slT (ev_name (pv 5)) eo_none (eo_some (ev_name (pv 6)))) (ev_tup (ea_cons ev_int (ea_cons ev_int ea_nil)))) (ev_slT (ev_name (pv 5)) (eo_some (ev_op op_addD os_add (ev_name (pv 6)) ev_int)) eo_none)))
  es_nil)
  es_nil)
  (es_cons (es_set sc_law.nd (i := 6) rfl (by first | exact Or.inl rfl | exact Or.inr rfl) (ev_op op_sub os_sub (ev_op op_addD os_add (ev_name (pv 4)) (ev_call (ok_law_inner_size T) (hr.mono (by decide)) (by rfl) T.g_law_inner_size T.F_law_inner_size.kp T.b_law_inner_size (ea_cons (ev_ix ix_seq os_ix (ev_name (pv 3)) ev_int (fun _ _ => rfl)) ea_nil) (nlen_cons nlen_nil))) ev_int))
  (es_cons (es_if (ew_and (et_cmp (op_mem (u65 hr)) os_mem (ev_ix ix_seq os_ix (ev_name (pv 3)) ev_int (fun _ _ => rfl)) (ev_tup (ea_cons ev_int (ea_cons ev_int (ea_cons ev_int ea_nil)))) (by rfl)) (ew_and1 (et_cmp (op_eqD hr.units) os_eq (ev_slT (ev_name (pv 5)) (eo_some (ev_name (pv 6))) (eo_some (ev_op op_addD os_add (ev_name (pv 6)) ev_int))) (ev_tup (ea_cons ev_int (ea_cons ev_int ea_nil))) (nomark _)))).pt
  (es_cons (es_set sc_law.nd (i := 5) rfl (by first | exact Or.inl rfl | exact Or.inr rfl) (ev_op op_addD os_add (ev_op op_addD os_add (ev_slT (ev_name (pv 5)) eo_none (eo_some (ev_name (pv 6)))) (ev_tup (ea_cons ev_int (ea_cons ev_int ea_nil)))) (ev_slT (ev_name (pv 5)) (eo_some (ev_op op_addD os_add (ev_name (pv 6)) ev_int)) eo_none)))
  es_nil)
  es_nil)
  (es_cons (es_if (et_not (et_tru (ev_call (ok_law_same T 40) (hr.mono (by decide)) (by rfl) T.g_law_same T.F_law_same.kp T.b_law_same (ea_cons (ev_call (ok_read_packet T) (hr.mono (by decide)) (by rfl) T.g_read_packet T.F_read_packet.kp T.b_read_packet (ea_cons (ev_name (pv 5)) ea_nil) (nlen_cons nlen_nil)) (ea_cons (ev_name (pv 3)) ea_nil)) (nlen_cons (nlen_cons nlen_nil)))))
  (es_cons (es_ret ev_bool)
  es_nil)
  es_nil)
  es_nil))))))))))))
  (es_cons (es_ret ev_bool)
  es_nil)))
end

theorem all_mk {l : PySem.W.OpenLaw} {w : World} {K : PySem.W.Frag} {h : Heap} {mg : Str → Option Value} {fa : Addr} (X : K.In h) (G : h.Ns mainGlobals mg) (hfa : mg "law" = some (.ref fa))
    {f_words_of : Addr} {od_words_of an_words_of : Option Addr} {sl_words_of : Array (Option Value)} {oc_words_of kV_words_of dc_words_of pm_words_of cd_words_of ct_words_of : Value}
    {f_folded : Addr} {od_folded an_folded : Option Addr} {sl_folded : Array (Option Value)} {oc_folded kV_folded dc_folded pm_folded cd_folded ct_folded : Value}
    {f_sum_of : Addr} {od_sum_of an_sum_of : Option Addr} {sl_sum_of : Array (Option Value)} {oc_sum_of kV_sum_of dc_sum_of pm_sum_of cd_sum_of ct_sum_of : Value}
    {f_head_bytes : Addr} {od_head_bytes an_head_bytes : Option Addr} {sl_head_bytes : Array (Option Value)} {oc_head_bytes kV_head_bytes dc_head_bytes pm_head_bytes cd_head_bytes ct_head_bytes : Value}
    {f_length_of : Addr} {od_length_of an_length_of : Option Addr} {sl_length_of : Array (Option Value)} {oc_length_of kV_length_of dc_length_of pm_length_of cd_length_of ct_length_of : Value}
    {f_two : Addr} {od_two an_two : Option Addr} {sl_two : Array (Option Value)} {oc_two kV_two dc_two pm_two cd_two ct_two : Value}
    {f_inner_bytes : Addr} {od_inner_bytes an_inner_bytes : Option Addr} {sl_inner_bytes : Array (Option Value)} {oc_inner_bytes kV_inner_bytes dc_inner_bytes pm_inner_bytes cd_inner_bytes ct_inner_bytes : Value}
    {f_inner_row : Addr} {od_inner_row an_inner_row : Option Addr} {sl_inner_row : Array (Option Value)} {oc_inner_row kV_inner_row dc_inner_row pm_inner_row cd_inner_row ct_inner_row : Value}
    {f_write_packet : Addr} {od_write_packet an_write_packet : Option Addr} {sl_write_packet : Array (Option Value)} {oc_write_packet kV_write_packet dc_write_packet pm_write_packet cd_write_packet ct_write_packet : Value}
    {f_options_end : Addr} {od_options_end an_options_end : Option Addr} {sl_options_end : Array (Option Value)} {oc_options_end kV_options_end dc_options_end pm_options_end cd_options_end ct_options_end : Value}
    {f_word : Addr} {od_word an_word : Option Addr} {sl_word : Array (Option Value)} {oc_word kV_word dc_word pm_word cd_word ct_word : Value}
    {f_outer_fault : Addr} {od_outer_fault an_outer_fault : Option Addr} {sl_outer_fault : Array (Option Value)} {oc_outer_fault kV_outer_fault dc_outer_fault pm_outer_fault cd_outer_fault ct_outer_fault : Value}
    {f_inner_fault : Addr} {od_inner_fault an_inner_fault : Option Addr} {sl_inner_fault : Array (Option Value)} {oc_inner_fault kV_inner_fault dc_inner_fault pm_inner_fault cd_inner_fault ct_inner_fault : Value}
    {f_read_inner : Addr} {od_read_inner an_read_inner : Option Addr} {sl_read_inner : Array (Option Value)} {oc_read_inner kV_read_inner dc_read_inner pm_read_inner cd_read_inner ct_read_inner : Value}
    {f_read_packet : Addr} {od_read_packet an_read_packet : Option Addr} {sl_read_packet : Array (Option Value)} {oc_read_packet kV_read_packet dc_read_packet pm_read_packet cd_read_packet ct_read_packet : Value}
    {f_law_same : Addr} {od_law_same an_law_same : Option Addr} {sl_law_same : Array (Option Value)} {oc_law_same kV_law_same dc_law_same pm_law_same cd_law_same ct_law_same : Value}
    {f_law_pool : Addr} {od_law_pool an_law_pool : Option Addr} {sl_law_pool : Array (Option Value)} {oc_law_pool kV_law_pool dc_law_pool pm_law_pool cd_law_pool ct_law_pool : Value}
    {f_law_spread : Addr} {od_law_spread an_law_spread : Option Addr} {sl_law_spread : Array (Option Value)} {oc_law_spread kV_law_spread dc_law_spread pm_law_spread cd_law_spread ct_law_spread : Value}
    {f_law_draw : Addr} {od_law_draw an_law_draw : Option Addr} {sl_law_draw : Array (Option Value)} {oc_law_draw kV_law_draw dc_law_draw pm_law_draw cd_law_draw ct_law_draw : Value}
    {f_law_number : Addr} {od_law_number an_law_number : Option Addr} {sl_law_number : Array (Option Value)} {oc_law_number kV_law_number dc_law_number pm_law_number cd_law_number ct_law_number : Value}
    {f_law_fold : Addr} {od_law_fold an_law_fold : Option Addr} {sl_law_fold : Array (Option Value)} {oc_law_fold kV_law_fold dc_law_fold pm_law_fold cd_law_fold ct_law_fold : Value}
    {f_law_words : Addr} {od_law_words an_law_words : Option Addr} {sl_law_words : Array (Option Value)} {oc_law_words kV_law_words dc_law_words pm_law_words cd_law_words ct_law_words : Value}
    {f_law_check : Addr} {od_law_check an_law_check : Option Addr} {sl_law_check : Array (Option Value)} {oc_law_check kV_law_check dc_law_check pm_law_check cd_law_check ct_law_check : Value}
    {f_law_two : Addr} {od_law_two an_law_two : Option Addr} {sl_law_two : Array (Option Value)} {oc_law_two kV_law_two dc_law_two pm_law_two cd_law_two ct_law_two : Value}
    {f_law_row : Addr} {od_law_row an_law_row : Option Addr} {sl_law_row : Array (Option Value)} {oc_law_row kV_law_row dc_law_row pm_law_row cd_law_row ct_law_row : Value}
    {f_law_inner_size : Addr} {od_law_inner_size an_law_inner_size : Option Addr} {sl_law_inner_size : Array (Option Value)} {oc_law_inner_size kV_law_inner_size dc_law_inner_size pm_law_inner_size cd_law_inner_size ct_law_inner_size : Value}
    {f_law_kind : Addr} {od_law_kind an_law_kind : Option Addr} {sl_law_kind : Array (Option Value)} {oc_law_kind kV_law_kind dc_law_kind pm_law_kind cd_law_kind ct_law_kind : Value}
    {f_law_inner : Addr} {od_law_inner an_law_inner : Option Addr} {sl_law_inner : Array (Option Value)} {oc_law_inner kV_law_inner dc_law_inner pm_law_inner cd_law_inner ct_law_inner : Value}
    {f_law_packet : Addr} {od_law_packet an_law_packet : Option Addr} {sl_law_packet : Array (Option Value)} {oc_law_packet kV_law_packet dc_law_packet pm_law_packet cd_law_packet ct_law_packet : Value}
    {f_law_length : Addr} {od_law_length an_law_length : Option Addr} {sl_law_length : Array (Option Value)} {oc_law_length kV_law_length dc_law_length pm_law_length cd_law_length ct_law_length : Value}
    {f_law_bytes : Addr} {od_law_bytes an_law_bytes : Option Addr} {sl_law_bytes : Array (Option Value)} {oc_law_bytes kV_law_bytes dc_law_bytes pm_law_bytes cd_law_bytes ct_law_bytes : Value}
    {f_law : Addr} {od_law an_law : Option Addr} {sl_law : Array (Option Value)} {oc_law kV_law dc_law pm_law cd_law ct_law : Value}
    {t_ASKING : Tok}
    {t_FIRST_BYTES : Tok}
    {t_GREATEST_LENGTH : Tok}
    {t_NOTE : Tok}
    {t_STREAM : Tok}
    {d_HEAD_BYTES : Addr} {es_HEAD_BYTES : Array DictEntry} {n_HEAD_BYTES : Nat}
    {d_SUM_PLACES : Addr} {es_SUM_PLACES : Array DictEntry} {n_SUM_PLACES : Nat}
    (a_words_of : PySem.W.nsIn K mainGlobals "words_of" = some (some (.ref f_words_of))) (l_words_of : K.lookup f_words_of = some ⟨oc_words_of, od_words_of, .func (PySem.W.fnOf "words_of" "words_of" (defArgs s_words_of) (defBody s_words_of) (defScope s_words_of) .none kV_words_of dc_words_of pm_words_of an_words_of cd_words_of ct_words_of), sl_words_of⟩) (c_words_of : PySem.W.codeIn K cd_words_of "words_of" = true) (k_words_of : PySem.W.keepIn K (.ref f_words_of) = true)
    (a_folded : PySem.W.nsIn K mainGlobals "folded" = some (some (.ref f_folded))) (l_folded : K.lookup f_folded = some ⟨oc_folded, od_folded, .func (PySem.W.fnOf "folded" "folded" (defArgs s_folded) (defBody s_folded) (defScope s_folded) .none kV_folded dc_folded pm_folded an_folded cd_folded ct_folded), sl_folded⟩) (c_folded : PySem.W.codeIn K cd_folded "folded" = true) (k_folded : PySem.W.keepIn K (.ref f_folded) = true)
    (a_sum_of : PySem.W.nsIn K mainGlobals "sum_of" = some (some (.ref f_sum_of))) (l_sum_of : K.lookup f_sum_of = some ⟨oc_sum_of, od_sum_of, .func (PySem.W.fnOf "sum_of" "sum_of" (defArgs s_sum_of) (defBody s_sum_of) (defScope s_sum_of) .none kV_sum_of dc_sum_of pm_sum_of an_sum_of cd_sum_of ct_sum_of), sl_sum_of⟩) (c_sum_of : PySem.W.codeIn K cd_sum_of "sum_of" = true) (k_sum_of : PySem.W.keepIn K (.ref f_sum_of) = true)
    (a_head_bytes : PySem.W.nsIn K mainGlobals "head_bytes" = some (some (.ref f_head_bytes))) (l_head_bytes : K.lookup f_head_bytes = some ⟨oc_head_bytes, od_head_bytes, .func (PySem.W.fnOf "head_bytes" "head_bytes" (defArgs s_head_bytes) (defBody s_head_bytes) (defScope s_head_bytes) .none kV_head_bytes dc_head_bytes pm_head_bytes an_head_bytes cd_head_bytes ct_head_bytes), sl_head_bytes⟩) (c_head_bytes : PySem.W.codeIn K cd_head_bytes "head_bytes" = true) (k_head_bytes : PySem.W.keepIn K (.ref f_head_bytes) = true)
    (a_length_of : PySem.W.nsIn K mainGlobals "length_of" = some (some (.ref f_length_of))) (l_length_of : K.lookup f_length_of = some ⟨oc_length_of, od_length_of, .func (PySem.W.fnOf "length_of" "length_of" (defArgs s_length_of) (defBody s_length_of) (defScope s_length_of) .none kV_length_of dc_length_of pm_length_of an_length_of cd_length_of ct_length_of), sl_length_of⟩) (c_length_of : PySem.W.codeIn K cd_length_of "length_of" = true) (k_length_of : PySem.W.keepIn K (.ref f_length_of) = true)
    (a_two : PySem.W.nsIn K mainGlobals "_two" = some (some (.ref f_two))) (l_two : K.lookup f_two = some ⟨oc_two, od_two, .func (PySem.W.fnOf "_two" "_two" (defArgs s_two) (defBody s_two) (defScope s_two) .none kV_two dc_two pm_two an_two cd_two ct_two), sl_two⟩) (c_two : PySem.W.codeIn K cd_two "_two" = true) (k_two : PySem.W.keepIn K (.ref f_two) = true)
    (a_inner_bytes : PySem.W.nsIn K mainGlobals "_inner_bytes" = some (some (.ref f_inner_bytes))) (l_inner_bytes : K.lookup f_inner_bytes = some ⟨oc_inner_bytes, od_inner_bytes, .func (PySem.W.fnOf "_inner_bytes" "_inner_bytes" (defArgs s_inner_bytes) (defBody s_inner_bytes) (defScope s_inner_bytes) .none kV_inner_bytes dc_inner_bytes pm_inner_bytes an_inner_bytes cd_inner_bytes ct_inner_bytes), sl_inner_bytes⟩) (c_inner_bytes : PySem.W.codeIn K cd_inner_bytes "_inner_bytes" = true) (k_inner_bytes : PySem.W.keepIn K (.ref f_inner_bytes) = true)
    (a_inner_row : PySem.W.nsIn K mainGlobals "_inner_row" = some (some (.ref f_inner_row))) (l_inner_row : K.lookup f_inner_row = some ⟨oc_inner_row, od_inner_row, .func (PySem.W.fnOf "_inner_row" "_inner_row" (defArgs s_inner_row) (defBody s_inner_row) (defScope s_inner_row) .none kV_inner_row dc_inner_row pm_inner_row an_inner_row cd_inner_row ct_inner_row), sl_inner_row⟩) (c_inner_row : PySem.W.codeIn K cd_inner_row "_inner_row" = true) (k_inner_row : PySem.W.keepIn K (.ref f_inner_row) = true)
    (a_write_packet : PySem.W.nsIn K mainGlobals "write_packet" = some (some (.ref f_write_packet))) (l_write_packet : K.lookup f_write_packet = some ⟨oc_write_packet, od_write_packet, .func (PySem.W.fnOf "write_packet" "write_packet" (defArgs s_write_packet) (defBody s_write_packet) (defScope s_write_packet) .none kV_write_packet dc_write_packet pm_write_packet an_write_packet cd_write_packet ct_write_packet), sl_write_packet⟩) (c_write_packet : PySem.W.codeIn K cd_write_packet "write_packet" = true) (k_write_packet : PySem.W.keepIn K (.ref f_write_packet) = true)
    (a_options_end : PySem.W.nsIn K mainGlobals "options_end" = some (some (.ref f_options_end))) (l_options_end : K.lookup f_options_end = some ⟨oc_options_end, od_options_end, .func (PySem.W.fnOf "options_end" "options_end" (defArgs s_options_end) (defBody s_options_end) (defScope s_options_end) .none kV_options_end dc_options_end pm_options_end an_options_end cd_options_end ct_options_end), sl_options_end⟩) (c_options_end : PySem.W.codeIn K cd_options_end "options_end" = true) (k_options_end : PySem.W.keepIn K (.ref f_options_end) = true)
    (a_word : PySem.W.nsIn K mainGlobals "_word" = some (some (.ref f_word))) (l_word : K.lookup f_word = some ⟨oc_word, od_word, .func (PySem.W.fnOf "_word" "_word" (defArgs s_word) (defBody s_word) (defScope s_word) .none kV_word dc_word pm_word an_word cd_word ct_word), sl_word⟩) (c_word : PySem.W.codeIn K cd_word "_word" = true) (k_word : PySem.W.keepIn K (.ref f_word) = true)
    (a_outer_fault : PySem.W.nsIn K mainGlobals "_outer_fault" = some (some (.ref f_outer_fault))) (l_outer_fault : K.lookup f_outer_fault = some ⟨oc_outer_fault, od_outer_fault, .func (PySem.W.fnOf "_outer_fault" "_outer_fault" (defArgs s_outer_fault) (defBody s_outer_fault) (defScope s_outer_fault) .none kV_outer_fault dc_outer_fault pm_outer_fault an_outer_fault cd_outer_fault ct_outer_fault), sl_outer_fault⟩) (c_outer_fault : PySem.W.codeIn K cd_outer_fault "_outer_fault" = true) (k_outer_fault : PySem.W.keepIn K (.ref f_outer_fault) = true)
    (a_inner_fault : PySem.W.nsIn K mainGlobals "_inner_fault" = some (some (.ref f_inner_fault))) (l_inner_fault : K.lookup f_inner_fault = some ⟨oc_inner_fault, od_inner_fault, .func (PySem.W.fnOf "_inner_fault" "_inner_fault" (defArgs s_inner_fault) (defBody s_inner_fault) (defScope s_inner_fault) .none kV_inner_fault dc_inner_fault pm_inner_fault an_inner_fault cd_inner_fault ct_inner_fault), sl_inner_fault⟩) (c_inner_fault : PySem.W.codeIn K cd_inner_fault "_inner_fault" = true) (k_inner_fault : PySem.W.keepIn K (.ref f_inner_fault) = true)
    (a_read_inner : PySem.W.nsIn K mainGlobals "_read_inner" = some (some (.ref f_read_inner))) (l_read_inner : K.lookup f_read_inner = some ⟨oc_read_inner, od_read_inner, .func (PySem.W.fnOf "_read_inner" "_read_inner" (defArgs s_read_inner) (defBody s_read_inner) (defScope s_read_inner) .none kV_read_inner dc_read_inner pm_read_inner an_read_inner cd_read_inner ct_read_inner), sl_read_inner⟩) (c_read_inner : PySem.W.codeIn K cd_read_inner "_read_inner" = true) (k_read_inner : PySem.W.keepIn K (.ref f_read_inner) = true)
    (a_read_packet : PySem.W.nsIn K mainGlobals "read_packet" = some (some (.ref f_read_packet))) (l_read_packet : K.lookup f_read_packet = some ⟨oc_read_packet, od_read_packet, .func (PySem.W.fnOf "read_packet" "read_packet" (defArgs s_read_packet) (defBody s_read_packet) (defScope s_read_packet) .none kV_read_packet dc_read_packet pm_read_packet an_read_packet cd_read_packet ct_read_packet), sl_read_packet⟩) (c_read_packet : PySem.W.codeIn K cd_read_packet "read_packet" = true) (k_read_packet : PySem.W.keepIn K (.ref f_read_packet) = true)
    (a_law_same : PySem.W.nsIn K mainGlobals "_law_same" = some (some (.ref f_law_same))) (l_law_same : K.lookup f_law_same = some ⟨oc_law_same, od_law_same, .func (PySem.W.fnOf "_law_same" "_law_same" (defArgs s_law_same) (defBody s_law_same) (defScope s_law_same) .none kV_law_same dc_law_same pm_law_same an_law_same cd_law_same ct_law_same), sl_law_same⟩) (c_law_same : PySem.W.codeIn K cd_law_same "_law_same" = true) (k_law_same : PySem.W.keepIn K (.ref f_law_same) = true)
    (a_law_pool : PySem.W.nsIn K mainGlobals "_law_pool" = some (some (.ref f_law_pool))) (l_law_pool : K.lookup f_law_pool = some ⟨oc_law_pool, od_law_pool, .func (PySem.W.fnOf "_law_pool" "_law_pool" (defArgs s_law_pool) (defBody s_law_pool) (defScope s_law_pool) .none kV_law_pool dc_law_pool pm_law_pool an_law_pool cd_law_pool ct_law_pool), sl_law_pool⟩) (c_law_pool : PySem.W.codeIn K cd_law_pool "_law_pool" = true) (k_law_pool : PySem.W.keepIn K (.ref f_law_pool) = true)
    (a_law_spread : PySem.W.nsIn K mainGlobals "_law_spread" = some (some (.ref f_law_spread))) (l_law_spread : K.lookup f_law_spread = some ⟨oc_law_spread, od_law_spread, .func (PySem.W.fnOf "_law_spread" "_law_spread" (defArgs s_law_spread) (defBody s_law_spread) (defScope s_law_spread) .none kV_law_spread dc_law_spread pm_law_spread an_law_spread cd_law_spread ct_law_spread), sl_law_spread⟩) (c_law_spread : PySem.W.codeIn K cd_law_spread "_law_spread" = true) (k_law_spread : PySem.W.keepIn K (.ref f_law_spread) = true)
    (a_law_draw : PySem.W.nsIn K mainGlobals "_law_draw" = some (some (.ref f_law_draw))) (l_law_draw : K.lookup f_law_draw = some ⟨oc_law_draw, od_law_draw, .func (PySem.W.fnOf "_law_draw" "_law_draw" (defArgs s_law_draw) (defBody s_law_draw) (defScope s_law_draw) .none kV_law_draw dc_law_draw pm_law_draw an_law_draw cd_law_draw ct_law_draw), sl_law_draw⟩) (c_law_draw : PySem.W.codeIn K cd_law_draw "_law_draw" = true) (k_law_draw : PySem.W.keepIn K (.ref f_law_draw) = true)
    (a_law_number : PySem.W.nsIn K mainGlobals "_law_number" = some (some (.ref f_law_number))) (l_law_number : K.lookup f_law_number = some ⟨oc_law_number, od_law_number, .func (PySem.W.fnOf "_law_number" "_law_number" (defArgs s_law_number) (defBody s_law_number) (defScope s_law_number) .none kV_law_number dc_law_number pm_law_number an_law_number cd_law_number ct_law_number), sl_law_number⟩) (c_law_number : PySem.W.codeIn K cd_law_number "_law_number" = true) (k_law_number : PySem.W.keepIn K (.ref f_law_number) = true)
    (a_law_fold : PySem.W.nsIn K mainGlobals "_law_fold" = some (some (.ref f_law_fold))) (l_law_fold : K.lookup f_law_fold = some ⟨oc_law_fold, od_law_fold, .func (PySem.W.fnOf "_law_fold" "_law_fold" (defArgs s_law_fold) (defBody s_law_fold) (defScope s_law_fold) .none kV_law_fold dc_law_fold pm_law_fold an_law_fold cd_law_fold ct_law_fold), sl_law_fold⟩) (c_law_fold : PySem.W.codeIn K cd_law_fold "_law_fold" = true) (k_law_fold : PySem.W.keepIn K (.ref f_law_fold) = true)
    (a_law_words : PySem.W.nsIn K mainGlobals "_law_words" = some (some (.ref f_law_words))) (l_law_words : K.lookup f_law_words = some ⟨oc_law_words, od_law_words, .func (PySem.W.fnOf "_law_words" "_law_words" (defArgs s_law_words) (defBody s_law_words) (defScope s_law_words) .none kV_law_words dc_law_words pm_law_words an_law_words cd_law_words ct_law_words), sl_law_words⟩) (c_law_words : PySem.W.codeIn K cd_law_words "_law_words" = true) (k_law_words : PySem.W.keepIn K (.ref f_law_words) = true)
    (a_law_check : PySem.W.nsIn K mainGlobals "_law_check" = some (some (.ref f_law_check))) (l_law_check : K.lookup f_law_check = some ⟨oc_law_check, od_law_check, .func (PySem.W.fnOf "_law_check" "_law_check" (defArgs s_law_check) (defBody s_law_check) (defScope s_law_check) .none kV_law_check dc_law_check pm_law_check an_law_check cd_law_check ct_law_check), sl_law_check⟩) (c_law_check : PySem.W.codeIn K cd_law_check "_law_check" = true) (k_law_check : PySem.W.keepIn K (.ref f_law_check) = true)
    (a_law_two : PySem.W.nsIn K mainGlobals "_law_two" = some (some (.ref f_law_two))) (l_law_two : K.lookup f_law_two = some ⟨oc_law_two, od_law_two, .func (PySem.W.fnOf "_law_two" "_law_two" (defArgs s_law_two) (defBody s_law_two) (defScope s_law_two) .none kV_law_two dc_law_two pm_law_two an_law_two cd_law_two ct_law_two), sl_law_two⟩) (c_law_two : PySem.W.codeIn K cd_law_two "_law_two" = true) (k_law_two : PySem.W.keepIn K (.ref f_law_two) = true)
    (a_law_row : PySem.W.nsIn K mainGlobals "_law_row" = some (some (.ref f_law_row))) (l_law_row : K.lookup f_law_row = some ⟨oc_law_row, od_law_row, .func (PySem.W.fnOf "_law_row" "_law_row" (defArgs s_law_row) (defBody s_law_row) (defScope s_law_row) .none kV_law_row dc_law_row pm_law_row an_law_row cd_law_row ct_law_row), sl_law_row⟩) (c_law_row : PySem.W.codeIn K cd_law_row "_law_row" = true) (k_law_row : PySem.W.keepIn K (.ref f_law_row) = true)
    (a_law_inner_size : PySem.W.nsIn K mainGlobals "_law_inner_size" = some (some (.ref f_law_inner_size))) (l_law_inner_size : K.lookup f_law_inner_size = some ⟨oc_law_inner_size, od_law_inner_size, .func (PySem.W.fnOf "_law_inner_size" "_law_inner_size" (defArgs s_law_inner_size) (defBody s_law_inner_size) (defScope s_law_inner_size) .none kV_law_inner_size dc_law_inner_size pm_law_inner_size an_law_inner_size cd_law_inner_size ct_law_inner_size), sl_law_inner_size⟩) (c_law_inner_size : PySem.W.codeIn K cd_law_inner_size "_law_inner_size" = true) (k_law_inner_size : PySem.W.keepIn K (.ref f_law_inner_size) = true)
    (a_law_kind : PySem.W.nsIn K mainGlobals "_law_kind" = some (some (.ref f_law_kind))) (l_law_kind : K.lookup f_law_kind = some ⟨oc_law_kind, od_law_kind, .func (PySem.W.fnOf "_law_kind" "_law_kind" (defArgs s_law_kind) (defBody s_law_kind) (defScope s_law_kind) .none kV_law_kind dc_law_kind pm_law_kind an_law_kind cd_law_kind ct_law_kind), sl_law_kind⟩) (c_law_kind : PySem.W.codeIn K cd_law_kind "_law_kind" = true) (k_law_kind : PySem.W.keepIn K (.ref f_law_kind) = true)
    (a_law_inner : PySem.W.nsIn K mainGlobals "_law_inner" = some (some (.ref f_law_inner))) (l_law_inner : K.lookup f_law_inner = some ⟨oc_law_inner, od_law_inner, .func (PySem.W.fnOf "_law_inner" "_law_inner" (defArgs s_law_inner) (defBody s_law_inner) (defScope s_law_inner) .none kV_law_inner dc_law_inner pm_law_inner an_law_inner cd_law_inner ct_law_inner), sl_law_inner⟩) (c_law_inner : PySem.W.codeIn K cd_law_inner "_law_inner" = true) (k_law_inner : PySem.W.keepIn K (.ref f_law_inner) = true)
    (a_law_packet : PySem.W.nsIn K mainGlobals "_law_packet" = some (some (.ref f_law_packet))) (l_law_packet : K.lookup f_law_packet = some ⟨oc_law_packet, od_law_packet, .func (PySem.W.fnOf "_law_packet" "_law_packet" (defArgs s_law_packet) (defBody s_law_packet) (defScope s_law_packet) .none kV_law_packet dc_law_packet pm_law_packet an_law_packet cd_law_packet ct_law_packet), sl_law_packet⟩) (c_law_packet : PySem.W.codeIn K cd_law_packet "_law_packet" = true) (k_law_packet : PySem.W.keepIn K (.ref f_law_packet) = true)
    (a_law_length : PySem.W.nsIn K mainGlobals "_law_length" = some (some (.ref f_law_length))) (l_law_length : K.lookup f_law_length = some ⟨oc_law_length, od_law_length, .func (PySem.W.fnOf "_law_length" "_law_length" (defArgs s_law_length) (defBody s_law_length) (defScope s_law_length) .none kV_law_length dc_law_length pm_law_length an_law_length cd_law_length ct_law_length), sl_law_length⟩) (c_law_length : PySem.W.codeIn K cd_law_length "_law_length" = true) (k_law_length : PySem.W.keepIn K (.ref f_law_length) = true)
    (a_law_bytes : PySem.W.nsIn K mainGlobals "_law_bytes" = some (some (.ref f_law_bytes))) (l_law_bytes : K.lookup f_law_bytes = some ⟨oc_law_bytes, od_law_bytes, .func (PySem.W.fnOf "_law_bytes" "_law_bytes" (defArgs s_law_bytes) (defBody s_law_bytes) (defScope s_law_bytes) .none kV_law_bytes dc_law_bytes pm_law_bytes an_law_bytes cd_law_bytes ct_law_bytes), sl_law_bytes⟩) (c_law_bytes : PySem.W.codeIn K cd_law_bytes "_law_bytes" = true) (k_law_bytes : PySem.W.keepIn K (.ref f_law_bytes) = true)
    (a_law : PySem.W.nsIn K mainGlobals "law" = some (some (.ref f_law))) (l_law : K.lookup f_law = some ⟨oc_law, od_law, .func (PySem.W.fnOf "law" "law" (defArgs s_law) (defBody s_law) (defScope s_law) .none kV_law dc_law pm_law an_law cd_law ct_law), sl_law⟩) (c_law : PySem.W.codeIn K cd_law "law" = true) (k_law : PySem.W.keepIn K (.ref f_law) = true)
    (z_bool : PySem.W.nsIn K mainGlobals "bool" = some none)
    (z_int : PySem.W.nsIn K mainGlobals "int" = some none)
    (z_isinstance : PySem.W.nsIn K mainGlobals "isinstance" = some none)
    (z_len : PySem.W.nsIn K mainGlobals "len" = some none)
    (z_list : PySem.W.nsIn K mainGlobals "list" = some none)
    (z_max : PySem.W.nsIn K mainGlobals "max" = some none)
    (z_min : PySem.W.nsIn K mainGlobals "min" = some none)
    (z_range : PySem.W.nsIn K mainGlobals "range" = some none)
    (z_str : PySem.W.nsIn K mainGlobals "str" = some none)
    (z_sum : PySem.W.nsIn K mainGlobals "sum" = some none)
    (z_tuple : PySem.W.nsIn K mainGlobals "tuple" = some none)
    (c_ASKING : PySem.W.nsIn K mainGlobals "ASKING" = some (some (.int 17 t_ASKING)))
    (c_FIRST_BYTES : PySem.W.nsIn K mainGlobals "FIRST_BYTES" = some (some (.int 12 t_FIRST_BYTES)))
    (c_GREATEST_LENGTH : PySem.W.nsIn K mainGlobals "GREATEST_LENGTH" = some (some (.int 1500 t_GREATEST_LENGTH)))
    (c_NOTE : PySem.W.nsIn K mainGlobals "NOTE" = some (some (.int 1 t_NOTE)))
    (c_STREAM : PySem.W.nsIn K mainGlobals "STREAM" = some (some (.int 6 t_STREAM)))
    (g_HEAD_BYTES : PySem.W.nsIn K mainGlobals "HEAD_BYTES" = some (some (.ref d_HEAD_BYTES))) (at_HEAD_BYTES : K.lookup d_HEAD_BYTES = some ⟨.type "dict", none, .dict es_HEAD_BYTES n_HEAD_BYTES, #[]⟩) (ok_HEAD_BYTES : entOk es_HEAD_BYTES.toList [(6, 8), (17, 6), (1, 4)] = true) (low_HEAD_BYTES : (d_HEAD_BYTES == sysModules) = false)
    (g_SUM_PLACES : PySem.W.nsIn K mainGlobals "SUM_PLACES" = some (some (.ref d_SUM_PLACES))) (at_SUM_PLACES : K.lookup d_SUM_PLACES = some ⟨.type "dict", none, .dict es_SUM_PLACES n_SUM_PLACES, #[]⟩) (ok_SUM_PLACES : entOk es_SUM_PLACES.toList [(6, 6), (17, 4), (1, 2)] = true) (low_SUM_PLACES : (d_SUM_PLACES == sysModules) = false) :
    ∃ fd : FuncData, (∀ (s : Shared) (v : Value), BindsTo s fd ⟨[v], []⟩ [("script", v)]) ∧ ∀ base : Heap, K.In base → base.Ns mainGlobals mg → FnOk l.prog w K mg base CX0 42 fa fd ["script"] (spP K 1 F_law) := by
  have e := hfa.symm.trans (PySem.W.mg_of X G a_law)
  cases e
  let T : Tx K mg := { a_words_of := f_words_of, fd_words_of := _, F_words_of := fun_mk (st := s_words_of) l_words_of c_words_of k_words_of, b_words_of := (fun_mk (st := s_words_of) l_words_of c_words_of k_words_of).binds (ps := ["row"]) fun _ _ _ _ _ _ us hl => match us, hl with | [_], _ => rfl, g_words_of := PySem.W.mg_of X G a_words_of, a_folded := f_folded, fd_folded := _, F_folded := fun_mk (st := s_folded) l_folded c_folded k_folded, b_folded := (fun_mk (st := s_folded) l_folded c_folded k_folded).binds (ps := ["words"]) fun _ _ _ _ _ _ us hl => match us, hl with | [_], _ => rfl, g_folded := PySem.W.mg_of X G a_folded, a_sum_of := f_sum_of, fd_sum_of := _, F_sum_of := fun_mk (st := s_sum_of) l_sum_of c_sum_of k_sum_of, b_sum_of := (fun_mk (st := s_sum_of) l_sum_of c_sum_of k_sum_of).binds (ps := ["row"]) fun _ _ _ _ _ _ us hl => match us, hl with | [_], _ => rfl, g_sum_of := PySem.W.mg_of X G a_sum_of, a_head_bytes := f_head_bytes, fd_head_bytes := _, F_head_bytes := fun_mk (st := s_head_bytes) l_head_bytes c_head_bytes k_head_bytes, b_head_bytes := (fun_mk (st := s_head_bytes) l_head_bytes c_head_bytes k_head_bytes).binds (ps := ["kind"]) fun _ _ _ _ _ _ us hl => match us, hl with | [_], _ => rfl, g_head_bytes := PySem.W.mg_of X G a_head_bytes, a_length_of := f_length_of, fd_length_of := _, F_length_of := fun_mk (st := s_length_of) l_length_of c_length_of k_length_of, b_length_of := (fun_mk (st := s_length_of) l_length_of c_length_of k_length_of).binds (ps := ["packet"]) fun _ _ _ _ _ _ us hl => match us, hl with | [_], _ => rfl, g_length_of := PySem.W.mg_of X G a_length_of, a_two := f_two, fd_two := _, F_two := fun_mk (st := s_two) l_two c_two k_two, b_two := (fun_mk (st := s_two) l_two c_two k_two).binds (ps := ["number"]) fun _ _ _ _ _ _ us hl => match us, hl with | [_], _ => rfl, g_two := PySem.W.mg_of X G a_two, a_inner_bytes := f_inner_bytes, fd_inner_bytes := _, F_inner_bytes := fun_mk (st := s_inner_bytes) l_inner_bytes c_inner_bytes k_inner_bytes, b_inner_bytes := (fun_mk (st := s_inner_bytes) l_inner_bytes c_inner_bytes k_inner_bytes).binds (ps := ["kind", "inner"]) fun _ _ _ _ _ _ us hl => match us, hl with | [_, _], _ => rfl, g_inner_bytes := PySem.W.mg_of X G a_inner_bytes, a_inner_row := f_inner_row, fd_inner_row := _, F_inner_row := fun_mk (st := s_inner_row) l_inner_row c_inner_row k_inner_row, b_inner_row := (fun_mk (st := s_inner_row) l_inner_row c_inner_row k_inner_row).binds (ps := ["source", "destination", "kind", "behind"]) fun _ _ _ _ _ _ us hl => match us, hl with | [_, _, _, _], _ => rfl, g_inner_row := PySem.W.mg_of X G a_inner_row, a_write_packet := f_write_packet, fd_write_packet := _, F_write_packet := fun_mk (st := s_write_packet) l_write_packet c_write_packet k_write_packet, b_write_packet := (fun_mk (st := s_write_packet) l_write_packet c_write_packet k_write_packet).binds (ps := ["packet"]) fun _ _ _ _ _ _ us hl => match us, hl with | [_], _ => rfl, g_write_packet := PySem.W.mg_of X G a_write_packet, a_options_end := f_options_end, fd_options_end := _, F_options_end := fun_mk (st := s_options_end) l_options_end c_options_end k_options_end, b_options_end := (fun_mk (st := s_options_end) l_options_end c_options_end k_options_end).binds (ps := ["first_byte"]) fun _ _ _ _ _ _ us hl => match us, hl with | [_], _ => rfl, g_options_end := PySem.W.mg_of X G a_options_end, a_word := f_word, fd_word := _, F_word := fun_mk (st := s_word) l_word c_word k_word, b_word := (fun_mk (st := s_word) l_word c_word k_word).binds (ps := ["row", "at"]) fun _ _ _ _ _ _ us hl => match us, hl with | [_, _], _ => rfl, g_word := PySem.W.mg_of X G a_word, a_outer_fault := f_outer_fault, fd_outer_fault := _, F_outer_fault := fun_mk (st := s_outer_fault) l_outer_fault c_outer_fault k_outer_fault, b_outer_fault := (fun_mk (st := s_outer_fault) l_outer_fault c_outer_fault k_outer_fault).binds (ps := ["row"]) fun _ _ _ _ _ _ us hl => match us, hl with | [_], _ => rfl, g_outer_fault := PySem.W.mg_of X G a_outer_fault, a_inner_fault := f_inner_fault, fd_inner_fault := _, F_inner_fault := fun_mk (st := s_inner_fault) l_inner_fault c_inner_fault k_inner_fault, b_inner_fault := (fun_mk (st := s_inner_fault) l_inner_fault c_inner_fault k_inner_fault).binds (ps := ["source", "destination", "kind", "behind"]) fun _ _ _ _ _ _ us hl => match us, hl with | [_, _, _, _], _ => rfl, g_inner_fault := PySem.W.mg_of X G a_inner_fault, a_read_inner := f_read_inner, fd_read_inner := _, F_read_inner := fun_mk (st := s_read_inner) l_read_inner c_read_inner k_read_inner, b_read_inner := (fun_mk (st := s_read_inner) l_read_inner c_read_inner k_read_inner).binds (ps := ["kind", "behind"]) fun _ _ _ _ _ _ us hl => match us, hl with | [_, _], _ => rfl, g_read_inner := PySem.W.mg_of X G a_read_inner, a_read_packet := f_read_packet, fd_read_packet := _, F_read_packet := fun_mk (st := s_read_packet) l_read_packet c_read_packet k_read_packet, b_read_packet := (fun_mk (st := s_read_packet) l_read_packet c_read_packet k_read_packet).binds (ps := ["row"]) fun _ _ _ _ _ _ us hl => match us, hl with | [_], _ => rfl, g_read_packet := PySem.W.mg_of X G a_read_packet, a_law_same := f_law_same, fd_law_same := _, F_law_same := fun_mk (st := s_law_same) l_law_same c_law_same k_law_same, b_law_same := (fun_mk (st := s_law_same) l_law_same c_law_same k_law_same).binds (ps := ["actual", "due"]) fun _ _ _ _ _ _ us hl => match us, hl with | [_, _], _ => rfl, g_law_same := PySem.W.mg_of X G a_law_same, a_law_pool := f_law_pool, fd_law_pool := _, F_law_pool := fun_mk (st := s_law_pool) l_law_pool c_law_pool k_law_pool, b_law_pool := (fun_mk (st := s_law_pool) l_law_pool c_law_pool k_law_pool).binds (ps := ["script"]) fun _ _ _ _ _ _ us hl => match us, hl with | [_], _ => rfl, g_law_pool := PySem.W.mg_of X G a_law_pool, a_law_spread := f_law_spread, fd_law_spread := _, F_law_spread := fun_mk (st := s_law_spread) l_law_spread c_law_spread k_law_spread, b_law_spread := (fun_mk (st := s_law_spread) l_law_spread c_law_spread k_law_spread).binds (ps := ["cell"]) fun _ _ _ _ _ _ us hl => match us, hl with | [_], _ => rfl, g_law_spread := PySem.W.mg_of X G a_law_spread, a_law_draw := f_law_draw, fd_law_draw := _, F_law_draw := fun_mk (st := s_law_draw) l_law_draw c_law_draw k_law_draw, b_law_draw := (fun_mk (st := s_law_draw) l_law_draw c_law_draw k_law_draw).binds (ps := ["pool", "many"]) fun _ _ _ _ _ _ us hl => match us, hl with | [_, _], _ => rfl, g_law_draw := PySem.W.mg_of X G a_law_draw, a_law_number := f_law_number, fd_law_number := _, F_law_number := fun_mk (st := s_law_number) l_law_number c_law_number k_law_number, b_law_number := (fun_mk (st := s_law_number) l_law_number c_law_number k_law_number).binds (ps := ["pool", "top"]) fun _ _ _ _ _ _ us hl => match us, hl with | [_, _], _ => rfl, g_law_number := PySem.W.mg_of X G a_law_number, a_law_fold := f_law_fold, fd_law_fold := _, F_law_fold := fun_mk (st := s_law_fold) l_law_fold c_law_fold k_law_fold, b_law_fold := (fun_mk (st := s_law_fold) l_law_fold c_law_fold k_law_fold).binds (ps := ["words"]) fun _ _ _ _ _ _ us hl => match us, hl with | [_], _ => rfl, g_law_fold := PySem.W.mg_of X G a_law_fold, a_law_words := f_law_words, fd_law_words := _, F_law_words := fun_mk (st := s_law_words) l_law_words c_law_words k_law_words, b_law_words := (fun_mk (st := s_law_words) l_law_words c_law_words k_law_words).binds (ps := ["row"]) fun _ _ _ _ _ _ us hl => match us, hl with | [_], _ => rfl, g_law_words := PySem.W.mg_of X G a_law_words, a_law_check := f_law_check, fd_law_check := _, F_law_check := fun_mk (st := s_law_check) l_law_check c_law_check k_law_check, b_law_check := (fun_mk (st := s_law_check) l_law_check c_law_check k_law_check).binds (ps := ["row"]) fun _ _ _ _ _ _ us hl => match us, hl with | [_], _ => rfl, g_law_check := PySem.W.mg_of X G a_law_check, a_law_two := f_law_two, fd_law_two := _, F_law_two := fun_mk (st := s_law_two) l_law_two c_law_two k_law_two, b_law_two := (fun_mk (st := s_law_two) l_law_two c_law_two k_law_two).binds (ps := ["number"]) fun _ _ _ _ _ _ us hl => match us, hl with | [_], _ => rfl, g_law_two := PySem.W.mg_of X G a_law_two, a_law_row := f_law_row, fd_law_row := _, F_law_row := fun_mk (st := s_law_row) l_law_row c_law_row k_law_row, b_law_row := (fun_mk (st := s_law_row) l_law_row c_law_row k_law_row).binds (ps := ["pool", "many"]) fun _ _ _ _ _ _ us hl => match us, hl with | [_, _], _ => rfl, g_law_row := PySem.W.mg_of X G a_law_row, a_law_inner_size := f_law_inner_size, fd_law_inner_size := _, F_law_inner_size := fun_mk (st := s_law_inner_size) l_law_inner_size c_law_inner_size k_law_inner_size, b_law_inner_size := (fun_mk (st := s_law_inner_size) l_law_inner_size c_law_inner_size k_law_inner_size).binds (ps := ["kind"]) fun _ _ _ _ _ _ us hl => match us, hl with | [_], _ => rfl, g_law_inner_size := PySem.W.mg_of X G a_law_inner_size, a_law_kind := f_law_kind, fd_law_kind := _, F_law_kind := fun_mk (st := s_law_kind) l_law_kind c_law_kind k_law_kind, b_law_kind := (fun_mk (st := s_law_kind) l_law_kind c_law_kind k_law_kind).binds (ps := ["pool"]) fun _ _ _ _ _ _ us hl => match us, hl with | [_], _ => rfl, g_law_kind := PySem.W.mg_of X G a_law_kind, a_law_inner := f_law_inner, fd_law_inner := _, F_law_inner := fun_mk (st := s_law_inner) l_law_inner c_law_inner k_law_inner, b_law_inner := (fun_mk (st := s_law_inner) l_law_inner c_law_inner k_law_inner).binds (ps := ["pool", "kind"]) fun _ _ _ _ _ _ us hl => match us, hl with | [_, _], _ => rfl, g_law_inner := PySem.W.mg_of X G a_law_inner, a_law_packet := f_law_packet, fd_law_packet := _, F_law_packet := fun_mk (st := s_law_packet) l_law_packet c_law_packet k_law_packet, b_law_packet := (fun_mk (st := s_law_packet) l_law_packet c_law_packet k_law_packet).binds (ps := ["pool", "most"]) fun _ _ _ _ _ _ us hl => match us, hl with | [_, _], _ => rfl, g_law_packet := PySem.W.mg_of X G a_law_packet, a_law_length := f_law_length, fd_law_length := _, F_law_length := fun_mk (st := s_law_length) l_law_length c_law_length k_law_length, b_law_length := (fun_mk (st := s_law_length) l_law_length c_law_length k_law_length).binds (ps := ["packet"]) fun _ _ _ _ _ _ us hl => match us, hl with | [_], _ => rfl, g_law_length := PySem.W.mg_of X G a_law_length, a_law_bytes := f_law_bytes, fd_law_bytes := _, F_law_bytes := fun_mk (st := s_law_bytes) l_law_bytes c_law_bytes k_law_bytes, b_law_bytes := (fun_mk (st := s_law_bytes) l_law_bytes c_law_bytes k_law_bytes).binds (ps := ["packet"]) fun _ _ _ _ _ _ us hl => match us, hl with | [_], _ => rfl, g_law_bytes := PySem.W.mg_of X G a_law_bytes, a_law := fa, fd_law := _, F_law := fun_mk (st := s_law) l_law c_law k_law, b_law := (fun_mk (st := s_law) l_law c_law k_law).binds (ps := ["script"]) fun _ _ _ _ _ _ us hl => match us, hl with | [_], _ => rfl, g_law := PySem.W.mg_of X G a_law, z_bool := PySem.W.mg_none_of X G z_bool, z_int := PySem.W.mg_none_of X G z_int, z_isinstance := PySem.W.mg_none_of X G z_isinstance, z_len := PySem.W.mg_none_of X G z_len, z_list := PySem.W.mg_none_of X G z_list, z_max := PySem.W.mg_none_of X G z_max, z_min := PySem.W.mg_none_of X G z_min, z_range := PySem.W.mg_none_of X G z_range, z_str := PySem.W.mg_none_of X G z_str, z_sum := PySem.W.mg_none_of X G z_sum, z_tuple := PySem.W.mg_none_of X G z_tuple, t_ASKING := t_ASKING, c_ASKING := PySem.W.mg_of X G c_ASKING, t_FIRST_BYTES := t_FIRST_BYTES, c_FIRST_BYTES := PySem.W.mg_of X G c_FIRST_BYTES, t_GREATEST_LENGTH := t_GREATEST_LENGTH, c_GREATEST_LENGTH := PySem.W.mg_of X G c_GREATEST_LENGTH, t_NOTE := t_NOTE, c_NOTE := PySem.W.mg_of X G c_NOTE, t_STREAM := t_STREAM, c_STREAM := PySem.W.mg_of X G c_STREAM, d_HEAD_BYTES := d_HEAD_BYTES, g_HEAD_BYTES := PySem.W.mg_of X G g_HEAD_BYTES, D_HEAD_BYTES := ⟨⟨es_HEAD_BYTES, n_HEAD_BYTES, at_HEAD_BYTES, ok_HEAD_BYTES⟩, low_HEAD_BYTES⟩, d_SUM_PLACES := d_SUM_PLACES, g_SUM_PLACES := PySem.W.mg_of X G g_SUM_PLACES, D_SUM_PLACES := ⟨⟨es_SUM_PLACES, n_SUM_PLACES, at_SUM_PLACES, ok_SUM_PLACES⟩, low_SUM_PLACES⟩ }
  exact ⟨PySem.W.fnOf "law" "law" (defArgs s_law) (defBody s_law) (defScope s_law) .none kV_law dc_law pm_law an_law cd_law ct_law, fun s v => .of_eq rfl, fun base _ _ => ok_law T⟩
end Pr_gatewarden_k12_whole_packets_come_back
end
section
set_option linter.all false
set_option maxRecDepth 100000
set_option Elab.async false
namespace Pr_gatewarden_k12_whole_packets_come_back
open PySem PG Pr_C Pr_D Pr_S Pr_P Pr_R
theorem wa_same {d : PyData} {Q : PyData → Prop} (h : sz 40 d = true) (q : Q (.bool true)) : WA (F_law_same 40 [d, d]) Q := ⟨_, same_ok 40 d h, q⟩
theorem sz_pk {n : Nat} (x : Pk) (h : x.Ok) : sz (n + 3) x.v = true := by
  unfold Pk.v
  have h1 := h.o.2.1
  have h2 := h.p.2
  have h3 : x.i.l.length ≤ 3 := by cases x.i <;> simp [Inn.l]
  refine sz_tup (by simp) fun y hy => ?_
  simp only [List.mem_cons, List.not_mem_nil, or_false] at hy
  rcases hy with rfl | rfl | rfl | rfl | rfl | rfl | rfl
  · rfl
  · rfl
  · rfl
  · rfl
  · exact sz_il (by omega)
  · exact sz_il (by omega)
  · exact sz_il (by omega)
theorem sz_two (x : Pk) (h : x.Ok) : sz 40 (.list [x.v, x.v]) = true := by
  have e : sz 39 x.v = true := sz_pk (n := 36) x h
  simp only [sz, List.length_cons, List.length_nil, List.all_cons, List.all_nil, e]
  rfl
theorem eqT2 (a b : Int) : dEq (.tuple (IL [a, b])) (.tuple [.int 0, .int 0]) = some (.bool (decide (a = 0) && decide (b = 0))) := by
  have e : SeqAt.shaped (.tuple (IL [a, b])) = true := rfl
  have e2 : SeqAt.shaped (.tuple [.int 0, .int 0]) = true := rfl
  have e3 : PyData.eqv (.tuple (IL [a, b])) (.tuple [.int 0, .int 0]) = (decide (a = 0) && decide (b = 0)) := by
    simp only [IL, List.map_cons, List.map_nil, PyData.eqv, PyData.eqvAll, Bool.and_true]
    by_cases h1 : a = 0 <;> by_cases h2 : b = 0 <;> simp [h1, h2]
  simp only [dEq, e, e2, e3]
  rfl
theorem neT2 (a b : Int) : dNe (.tuple (IL [a, b])) (.tuple [.int 0, .int 0]) = some (.bool (!(decide (a = 0) && decide (b = 0)))) := by
  have e : SeqAt.shaped (.tuple (IL [a, b])) = true := rfl
  have e2 : SeqAt.shaped (.tuple [.int 0, .int 0]) = true := rfl
  have e3 : PyData.eqv (.tuple (IL [a, b])) (.tuple [.int 0, .int 0]) = (decide (a = 0) && decide (b = 0)) := by
    simp only [IL, List.map_cons, List.map_nil, PyData.eqv, PyData.eqvAll, Bool.and_true]
    by_cases h1 : a = 0 <;> by_cases h2 : b = 0 <;> simp [h1, h2]
  simp only [dNe, e, e2, e3]
  rfl
theorem in3_int (k a b c : Int) : dIn2 (.int k) (.tuple [.int a, .int b, .int c]) = some (.bool (decide (k = a) || (decide (k = b) || decide (k = c)))) := by
  simp [dIn2, dMem, memD, flatD, eqvI]
theorem z2 {c : Int} (h0 : 0 ≤ c) (h1 : c ≤ 65535) : (decide (c / 256 = 0) && decide (c % 256 = 0)) = decide (c = 0) := by
  rw [Bool.eq_iff_iff, Bool.and_eq_true, decide_eq_true_eq, decide_eq_true_eq, decide_eq_true_eq]
  omega
theorem row_len (p : Pk) (h : p.Ok) (c1 c2 : Int) : (rowOf p c1 c2).length ≤ 1600 ∧ ((rowOf p c1 c2).length : Int) = 12 + (p.o.length : Int) + isz p.k + p.p.length := by
  have := bd_len h.i c2 p.p
  have h1 := h.o.2.1
  have h2 := h.p.2
  have h3 := isz_bd p.k
  simp [rowOf, h12]
  omega
theorem row_a (p : Pk) (c1 c2 : Int) : IL (rowOf p c1 c2) = IL [70 + (p.o.length : Int) / 2, p.k, p.len / 256, p.len % 256, p.t, 0] ++ IL (tw c1) ++ IL ([p.s / 256, p.s % 256, p.d / 256, p.d % 256] ++ p.o ++ bd p.i c2 p.p) := by
  simp [IL, rowOf, h12, tw]
theorem row_b (p : Pk) (hi : p.i ≠ .oth) (c1 c2 : Int) : IL (rowOf p c1 c2) = IL (h12 p c1 ++ p.o ++ inb p.i) ++ IL (tw c2) ++ IL p.p := by
  have e : bd p.i c2 p.p = inb p.i ++ tw c2 ++ p.p := by
    cases h : p.i with
    | oth => exact absurd h hi
    | _ => rfl
  rw [rowOf, e]
  simp [IL]
def no : Inn → Bool
  | .oth => false
  | _ => true
theorem no_ne {i : Inn} (h : no i = true) : i ≠ .oth := fun e => by subst e; cases h
theorem in_oth {p : Pk} (h : p.Ok) : (decide (p.k = 1) || (decide (p.k = 6) || decide (p.k = 17))) = no p.i := by
  have hi := h.i
  cases e : p.i with
  | st a b f => rw [e] at hi; simp [hi.1, no]
  | ask a b => rw [e] at hi; simp [hi.1, no]
  | note a b => rw [e] at hi; simp [hi.1, no]
  | oth => rw [e] at hi; simp [hi.1, hi.2.1, hi.2.2, no]
theorem ws_set_v {i : Nat} {f : EF} {c : SF} {ρ ρ' : Rho} {S : Out → Rho → Prop} (d : PyData) (hs : SetR i d ρ ρ') (w : WE f ρ fun x ρ1 => x = d ∧ ρ1 = ρ) (key : WS c ρ' S) : WS (sSeq (sSet i f) c) ρ S :=
  ws_set (w.mono fun x ρ1 ⟨e1, e2⟩ => by subst e1 e2; exact ⟨ρ', hs, key⟩)
/-- an if whose two ways lead to one state -/
theorem ws_if_to {t : TF} {a c : SF} {ρ : Rho} {S : Out → Rho → Prop} (ρ' : Rho) (w : WT t ρ fun x ρ1 => (x = true → WS a ρ1 fun o r => o = .next ∧ r = ρ') ∧ (x = false → ρ1 = ρ')) (key : WS c ρ' S) : WS (sSeq (sIf t a sNil) c) ρ S := by
  obtain ⟨x, ρ1, e, q1, q2⟩ := w
  refine ws_if ⟨x, ρ1, e, fun h => ?_, fun h => ?_⟩
  · obtain ⟨o, r, e2, rfl, rfl⟩ := q1 h
    obtain ⟨o3, r3, e3, s⟩ := key
    exact ⟨o3, r3, by simp [e2, e3], s⟩
  · rw [q2 h]
    exact ws_nilc key
theorem inb_len {p : Pk} (h : p.Ok) (hi : p.i ≠ .oth) : ((inb p.i).length : Int) = isz p.k - 2 := by
  rw [isz_inn h.i]
  cases e : p.i with
  | oth => exact absurd e hi
  | _ => rfl
theorem sum1_bd {p : Pk} (h : p.Ok) (hl : p.len ≤ 1500) : 0 ≤ sum1 p ∧ sum1 p ≤ 65535 := chk_bd (sum1_row h hl)
theorem sum2_bd {p : Pk} (h : p.Ok) (hl : p.len ≤ 1500) : 0 ≤ sum2 p ∧ sum2 p ≤ 65535 := chk_bd (sum2_row h hl)
theorem wa_k {x : Pk} {Q : PyData → Prop} (q : Q (.int x.k)) : WA (dIx x.v (.int 2)) Q := ⟨_, rfl, q⟩
local macro_rules | `(tactic| array_get_dec) => `(tactic| first | ((with_reducible apply PG.ws_set)) | ((with_reducible apply PG.ws_if)) | ((with_reducible apply PG.ws_ret)) | ((with_reducible apply PG.ws_setL)) | ((with_reducible apply PG.ws_expr)) | ((with_reducible apply PG.ws_nilc)) | ((with_reducible apply PG.ws_asc)) | ((with_reducible apply PG.ws_nil)) | ((with_reducible apply PG.ws_for)) | ((with_reducible apply PG.ws_asg)) | ((with_reducible apply PG.ws_par)) | ((with_reducible apply PG.ws_retL)) | ((with_reducible apply PG.ws_brk)) | ((with_reducible apply PG.ws_cont)) | ((with_reducible apply PG.ws_forn)) | ((with_reducible apply PG.ws_sto)) | ((with_reducible apply PG.ws_aug); (case hget => rfl)) | ((with_reducible apply PG.ws_app); (case hget => rfl)) | ((with_reducible apply PG.ws_retO); (case hget => rfl)) | ((with_reducible apply PG.we_name); (case hget => rfl)) | ((with_reducible apply PG.we_c)) | ((with_reducible apply PG.we_bin)) | ((with_reducible apply PG.we_un)) | ((with_reducible apply PG.we_call)) | ((with_reducible apply PG.we_callL); (case hget => rfl)) | ((with_reducible apply PG.we_tup)) | ((with_reducible apply PG.we_lst)) | ((with_reducible apply PG.we_if)) | ((with_reducible apply PG.we_ixL); (case hget => rfl)) | ((with_reducible apply PG.we_unL); (case hget => rfl)) | ((with_reducible apply PG.we_and)) | ((with_reducible apply PG.we_or)) | ((with_reducible apply PG.we_not)) | ((with_reducible apply PG.we_chain)) | ((with_reducible apply PG.we_slT)) | ((with_reducible apply PG.wn_cons)) | ((with_reducible apply PG.wn_nil)) | ((with_reducible apply PG.wn_star)) | ((with_reducible apply PG.wn_disp)) | ((with_reducible apply PG.wn_call)) | ((with_reducible apply PG.wn_sl)) | ((with_reducible apply PG.wn_its)) | ((with_reducible apply PG.wn_r1)) | ((with_reducible apply PG.wn_r2)) | ((with_reducible apply PG.wn_r3)) | ((with_reducible apply PG.wt_tru)) | ((with_reducible apply PG.wt_bl)) | ((with_reducible apply PG.wt_and)) | ((with_reducible apply PG.wt_or)) | ((with_reducible apply PG.wt_not)) | ((with_reducible apply PG.wt_yes)) | ((with_reducible apply PG.wt_truL); (case hget => rfl)) | ((with_reducible apply PG.wo_none)) | ((with_reducible apply PG.wo_some)) | ((with_reducible apply PG.wg_p0)) | ((with_reducible apply PG.wg_tup)) | ((with_reducible apply PG.wg_ps); (case hset => (repeat' (first | exact PG.SetR.h0 | exact PG.SetR.h1 | exact PG.SetR.hl | exact PG.SetR.hc (by assumption) | apply PG.SetR.s)))) | ((with_reducible apply PG.wg_set); (case hset => (repeat' (first | exact PG.SetR.h0 | exact PG.SetR.h1 | exact PG.SetR.hl | exact PG.SetR.hc (by assumption) | apply PG.SetR.s)))) | ((with_reducible apply PG.we_frz); (case hget => rfl); (case hset => (repeat' (first | exact PG.SetR.h0 | exact PG.SetR.h1 | exact PG.SetR.hl | exact PG.SetR.hc (by assumption) | apply PG.SetR.s)))) | ((with_reducible apply PG.setr_i); (case hset => (repeat' (first | exact PG.SetR.h0 | exact PG.SetR.h1 | exact PG.SetR.hl | exact PG.SetR.hc (by assumption) | apply PG.SetR.s)))) | ((with_reducible apply PG.setl_i); (case hset => (repeat' (first | exact PG.SetLR.h0 | exact PG.SetLR.h1 | exact PG.SetLR.hl | apply PG.SetLR.s)))) | ((with_reducible apply PG.put_i); (case hset => (repeat' (first | exact PG.PutR.h | apply PG.PutR.s)))) | ((with_reducible apply PG.pool_i); (case hget => rfl)) | ((with_reducible apply PG.bool_i)) | ((with_reducible apply PG.int_i)) | ((with_reducible apply PG.seqL_i)) | ((with_reducible apply PG.seqT_i)) | ((with_reducible apply PG.seqR_i)) | ((with_reducible apply PG.starT_i)) | ((with_reducible apply PG.starL_i)) | ((with_reducible apply PG.len_i); (case h => rfl)) | ((with_reducible apply PG.tup_i)) | ((with_reducible apply PG.yes_i)) | ((with_reducible apply PG.no_i)) | ((with_reducible apply PG.nyes_i)) | ((with_reducible apply PG.nno_i)) | ((with_reducible apply PG.wa_add)) | ((with_reducible apply PG.wa_sub)) | ((with_reducible apply PG.wa_lt)) | ((with_reducible apply PG.wa_le)) | ((with_reducible apply PG.wa_gt)) | ((with_reducible apply PG.wa_ge)) | ((with_reducible apply PG.wa_eqI)) | ((with_reducible apply PG.wa_neI)) | ((with_reducible apply PG.wa_neg)) | ((with_reducible apply PG.wa_lenL)) | ((with_reducible apply PG.wa_lenT)) | ((with_reducible apply PG.wa_int)) | ((with_reducible apply PG.wa_max)) | ((with_reducible apply PG.wa_min)) | ((with_reducible apply PG.wb_bool)) | ((with_reducible apply PG.wb_int)) | ((with_reducible apply PG.endP_ret)) | ((with_reducible apply PG.endP_retL)) | ((with_reducible apply PG.endN_ret)) | ((with_reducible apply PG.endL_ret)) | ((with_reducible apply PG.endL_retL)) | ((with_reducible apply PG.wa_binO)) | ((with_reducible apply PG.ch_le)) | ((with_reducible apply PG.ch_lt)) | ((with_reducible apply PG.ch_eq)) | ((with_reducible apply PG.wa_ix0); (case hget => rfl)) | ((with_reducible apply PG.wa_ix1); (case hget => rfl)) | ((with_reducible apply PG.wa_ix2); (case hget => rfl)) | ((with_reducible apply PG.wa_ix3); (case hget => rfl)) | ((with_reducible apply PG.wa_ix4); (case hget => rfl)) | ((with_reducible apply PG.wa_ix5); (case hget => rfl)) | ((with_reducible apply PG.wa_ix6); (case hget => rfl)) | ((with_reducible apply PG.wa_ix7); (case hget => rfl)) | ((with_reducible apply PG.wa_ix8); (case hget => rfl)) | ((with_reducible apply PG.wa_il0); (case hget => rfl)) | ((with_reducible apply PG.wa_il1); (case hget => rfl)) | ((with_reducible apply PG.wa_il2); (case hget => rfl)) | ((with_reducible apply PG.wa_ev1)) | ((with_reducible apply PG.wa_ev)) | ((with_reducible apply PG.wl_ev)) | ((with_reducible apply PG.wb_ev)) | ((with_reducible apply PG.wa_mod); (case h1 => omega)) | ((with_reducible apply PG.wa_div); (case h1 => omega); (case h2 => omega)) | ((with_reducible apply PG.wa_mulR); (case h1 => omega); (case h2 => omega)) | ((with_reducible apply PG.wa_mulL); (case h1 => omega); (case h2 => omega)) | ((with_reducible apply PG.wa_shr); (case h1 => omega)))
local macro_rules | `(tactic| array_get_dec) => `(tactic| first | ((with_reducible apply Pr_C.wp_draw); (case hp => assumption); (case h0 => omega); (case h1 => omega)) | ((with_reducible apply Pr_C.ls_i); (case hp => assumption)))

theorem rest (A B : Option Cell) (t : Int) (p : Pk) (h : p.Ok) (hl : p.len ≤ 1500) (hz : 1 < t → sum1 p = 0) (c5 c6 c7 : Option Cell) (q5 : PlainC c5) (q6 : PlainC c6) :
    WS (sSeq (sSet 5 (eCall F_law_bytes (nCons (eName 3) nNil)))
  (sSeq (sIf (tAnd' (tBl (eBin dGt (eName 2) (eC (.int 1)))) (tBl (eBin dNe (eSlT (eName 5) (some (eC (.int 6))) (some (eC (.int 8)))) (eTup (nCons (eC (.int 0)) (nCons (eC (.int 0)) nNil))))))
  (sSeq (sRet (eC (.bool false)))
  sNil)
  sNil)
  (sSeq (sIf (tNot' (tTru (eCall (F_law_same 40) (nCons (eLst (nDisp (nCons (eCall F_read_packet (nCons (eName 5) nNil)) (nCons (eCall F_read_packet (nCons (eCall F_write_packet (nCons (eName 3) nNil)) nNil)) nNil)))) (nCons (eLst (nDisp (nCons (eName 3) (nCons (eName 3) nNil)))) nNil)))))
  (sSeq (sRet (eC (.bool false)))
  sNil)
  sNil)
  (sSeq (sSet 6 (eC (.int 6)))
  (sSeq (sIf (tBl (eBin dEq (eSlT (eName 5) (some (eName 6)) (some (eBin dAdd (eName 6) (eC (.int 2))))) (eTup (nCons (eC (.int 0)) (nCons (eC (.int 0)) nNil)))))
  (sSeq (sSet 5 (eBin dAdd (eBin dAdd (eSlT (eName 5) none (some (eName 6))) (eTup (nCons (eC (.int 255)) (nCons (eC (.int 255)) nNil)))) (eSlT (eName 5) (some (eBin dAdd (eName 6) (eC (.int 2)))) none)))
  sNil)
  sNil)
  (sSeq (sSet 6 (eBin dSub (eBin dAdd (eName 4) (eCall F_law_inner_size (nCons (eBin dIx (eName 3) (eC (.int 2))) nNil))) (eC (.int 2))))
  (sSeq (sIf (tAnd' (tBl (eBin dIn2 (eBin dIx (eName 3) (eC (.int 2))) (eTup (nCons (eC (.int 1)) (nCons (eC (.int 6)) (nCons (eC (.int 17)) nNil)))))) (tBl (eBin dEq (eSlT (eName 5) (some (eName 6)) (some (eBin dAdd (eName 6) (eC (.int 2))))) (eTup (nCons (eC (.int 0)) (nCons (eC (.int 0)) nNil))))))
  (sSeq (sSet 5 (eBin dAdd (eBin dAdd (eSlT (eName 5) none (some (eName 6))) (eTup (nCons (eC (.int 255)) (nCons (eC (.int 255)) nNil)))) (eSlT (eName 5) (some (eBin dAdd (eName 6) (eC (.int 2)))) none)))
  sNil)
  sNil)
  (sSeq (sIf (tNot' (tTru (eCall (F_law_same 40) (nCons (eCall F_read_packet (nCons (eName 5) nNil)) (nCons (eName 3) nNil)))))
  (sSeq (sRet (eC (.bool false)))
  sNil)
  sNil)
  sNil)))))))) [A, B, some (.v (.int t)), some (.v p.v), some (.v (.int (12 + (p.o.length : Int)))), c5, c6, c7] fun o ρ2 => o = .next ∧ ∃ (d5 d6 : Option Cell), ρ2 = [A, B, some (.v (.int t)), some (.v p.v), some (.v (.int (12 + (p.o.length : Int)))), d5, d6, c7] ∧ PlainC d5 ∧ PlainC d6 := by
  have b1 := sum1_bd h hl
  have b2 := sum2_bd h hl
  have hz2 := isz_bd p.k
  have hlb := law_bytes_ok p h hl
  have hwb := write_ok p h hl
  rw [byt_row] at hlb hwb
  have hr := read_ok p h hl (sum1 p) (sum2 p) (ok1_sum h hl) (ok2_sum h)
  have s68 : ∀ c2, cutD (IL (rowOf p (sum1 p) c2)) (some 6) (some 8) = IL (tw (sum1 p)) := fun c2 => by
    rw [row_a]
    exact cut_mid _ _ _ _ _ rfl (by simp [tw])
  -- the row with its first sum written otherwise
  let c1 : Int := if sum1 p = 0 then 65535 else sum1 p
  have k1 : ok1 p c1 := by
    by_cases e : sum1 p = 0
    · simp only [c1, e, if_true]; exact ok1_full h hl e
    · simp only [c1, e, if_false]; exact ok1_sum h hl
  let c2 : Int := if sum2 p = 0 then 65535 else sum2 p
  have k2 : ok2 p c2 := by
    by_cases e : sum2 p = 0
    · simp only [c2, e, if_true]; exact ok2_full h fun _ => e
    · simp only [c2, e, if_false]; exact ok2_sum h
  have hr2 := read_ok p h hl c1 (if no p.i then c2 else sum2 p) k1 (by split; exact k2; exact ok2_sum h)
  have rl := row_len p h
  (repeat array_get_dec)
  refine wa_eq hlb ?_
  refine setr_i (hset := by repeat' (first | exact PG.SetR.h0 | exact PG.SetR.h1 | exact PG.SetR.hc (by assumption) | apply PG.SetR.s)) ?_
  refine ws_if_to [A, B, some (.v (.int t)), some (.v p.v), some (.v (.int (12 + (p.o.length : Int)))), some (.v (.tuple (IL (rowOf p (sum1 p) (sum2 p))))), c6, c7] ?_ ?_
  · (repeat array_get_dec)
    (first | (with_reducible apply PG.dec_i) | (with_reducible apply PG.decn_i) | (with_reducible apply PG.bit_i)) <;> intro ht
    · have e0 := hz ht
      (repeat array_get_dec)
      rw [s68, e0]
      refine wa_eq (neT2 _ _) ?_
      (repeat array_get_dec)
      refine ⟨fun e => ?_, fun _ => rfl⟩
      simp at e
    · first | rfl | exact PG.no_i rfl
  refine ws_if_to [A, B, some (.v (.int t)), some (.v p.v), some (.v (.int (12 + (p.o.length : Int)))), some (.v (.tuple (IL (rowOf p (sum1 p) (sum2 p))))), c6, c7] ?_ ?_
  · (repeat array_get_dec)
    refine wa_eq hr ?_
    (repeat array_get_dec)
    refine wa_eq hwb ?_
    (repeat array_get_dec)
    refine wa_eq hr ?_
    (repeat array_get_dec)
    refine wa_same (sz_two p h) ?_
    (repeat array_get_dec)
    all_goals rfl
  refine PG.ws_set (PG.we_c (setr_i (hset := by repeat' (first | exact PG.SetR.h0 | exact PG.SetR.h1 | exact PG.SetR.hc (by assumption) | apply PG.SetR.s)) ?_))
  have t65 : IL (tw 65535) = [.int 255, .int 255] := by simp [IL, tw]
  refine ws_if_to [A, B, some (.v (.int t)), some (.v p.v), some (.v (.int (12 + (p.o.length : Int)))), some (.v (.tuple (IL (rowOf p c1 (sum2 p))))), some (.v (.int 6)), c7] ?_ ?_
  · (repeat array_get_dec)
    rw [show (6 + 2 : Int) = 8 from rfl, s68]
    refine wa_eq (eqT2 _ _) ?_
    rw [z2 b1.1 b1.2]
    (repeat array_get_dec)
    refine ⟨fun e => ?_, fun e => ?_⟩
    · have e0 : sum1 p = 0 := of_decide_eq_true e
      have c0 : c1 = 65535 := by simp only [c1, e0, if_true]
      have x1 : cutD (IL (rowOf p (sum1 p) (sum2 p))) none (some 6) = IL [70 + (p.o.length : Int) / 2, p.k, p.len / 256, p.len % 256, p.t, 0] := by
        rw [row_a, List.append_assoc]
        exact cut_lo _ _ _ rfl
      have x2 : cutD (IL (rowOf p (sum1 p) (sum2 p))) (some (6 + 2)) none = IL ([p.s / 256, p.s % 256, p.d / 256, p.d % 256] ++ p.o ++ bd p.i (sum2 p) p.p) := by
        rw [row_a]
        exact cut_hi _ _ _ (by simp [tw])
      (repeat array_get_dec)
      rw [x1]
      (repeat array_get_dec)
      refine wa_addT (by simp) ?_
      (repeat array_get_dec)
      rw [x2]
      refine wa_addT (by have := bd_len h.i (sum2 p) p.p; have := h.o.2.1; have := h.p.2; simp; omega) ?_
      (repeat array_get_dec)
      refine ⟨rfl, ?_⟩
      rw [c0, row_a, t65]
    · have e0 : ¬ sum1 p = 0 := of_decide_eq_false e
      have c0 : c1 = sum1 p := by simp only [c1, e0, if_false]
      rw [c0]
  refine ws_set_v (.int (12 + (p.o.length : Int) + isz p.k - 2)) (by repeat' (first | exact PG.SetR.h0 | exact PG.SetR.h1 | exact PG.SetR.hc (by assumption) | apply PG.SetR.s)) ?_ ?_
  · (repeat array_get_dec)
    refine wa_k ?_
    (repeat array_get_dec)
    exact ⟨rfl, rfl⟩
  refine ws_if_to [A, B, some (.v (.int t)), some (.v p.v), some (.v (.int (12 + (p.o.length : Int)))), some (.v (.tuple (IL (rowOf p c1 (if no p.i then c2 else sum2 p))))), some (.v (.int (12 + (p.o.length : Int) + isz p.k - 2))), c7] ?_ ?_
  · (repeat array_get_dec)
    refine wa_k ?_
    (repeat array_get_dec)
    refine wa_eq (in3_int _ _ _ _) ?_
    rw [in_oth h]
    (repeat array_get_dec)
    refine ⟨fun e => ?_, fun e => ?_⟩
    · have hi := no_ne e
      have il := inb_len h hi
      have x0 : cutD (IL (rowOf p c1 (sum2 p))) (some (12 + (p.o.length : Int) + isz p.k - 2)) (some (12 + (p.o.length : Int) + isz p.k - 2 + 2)) = IL (tw (sum2 p)) := by
        rw [row_b p hi]
        exact cut_mid _ _ _ _ _ (by simp [h12]; omega) (by simp [h12, tw]; omega)
      (repeat array_get_dec)
      rw [x0]
      refine wa_eq (eqT2 _ _) ?_
      rw [z2 b2.1 b2.2]
      (repeat array_get_dec)
      refine ⟨fun e2 => ?_, fun e2 => ?_⟩
      · have e0 : sum2 p = 0 := of_decide_eq_true e2
        have c0 : c2 = 65535 := by simp only [c2, e0, if_true]
        have x1 : cutD (IL (rowOf p c1 (sum2 p))) none (some (12 + (p.o.length : Int) + isz p.k - 2)) = IL (h12 p c1 ++ p.o ++ inb p.i) := by
          rw [row_b p hi, List.append_assoc]
          exact cut_lo _ _ _ (by simp [h12]; omega)
        have x2 : cutD (IL (rowOf p c1 (sum2 p))) (some (12 + (p.o.length : Int) + isz p.k - 2 + 2)) none = IL p.p := by
          rw [row_b p hi]
          exact cut_hi _ _ _ (by simp [h12, tw]; omega)
        have l1 := h.o.2.1
        have l2 := h.p.2
        (repeat array_get_dec)
        rw [x1]
        (repeat array_get_dec)
        refine wa_addT (by simp [h12]; omega) ?_
        (repeat array_get_dec)
        rw [x2]
        refine wa_addT (by simp [h12]; omega) ?_
        (repeat array_get_dec)
        refine ⟨rfl, ?_⟩
        rw [if_pos e, c0, row_b p hi, t65]
      · have e0 : ¬ sum2 p = 0 := of_decide_eq_false e2
        have c0 : c2 = sum2 p := by simp only [c2, e0, if_false]
        rw [c0]
        simp
    · rw [if_neg (by simp [e])]
      first | rfl | exact PG.no_i rfl
  (repeat array_get_dec)
  refine wa_eq hr2 ?_
  (repeat array_get_dec)
  refine wa_same (sz_pk (n := 37) p h) ?_
  (repeat array_get_dec)
  exact ⟨rfl, _, _, rfl, .inr ⟨_, rfl⟩, .inr ⟨_, rfl⟩⟩

/-! ### packets of which the first sum is 0 -/
def adj1 (p : Pk) : Pk := { p with s := fo (p.s + sum1 p) }
theorem adj1_len (p : Pk) : (adj1 p).len = p.len := rfl
theorem adj1_ok {p : Pk} (h : p.Ok) (hl : p.len ≤ 1500) : (adj1 p).Ok := by
  have b := sum1_bd h hl
  have hs := h.s
  exact ⟨fo_bd (by omega), h.d, h.k, h.t, h.o, h.i, h.p⟩
theorem hsum (p : Pk) : (wds (h12 p 0 ++ p.o)).sum = p.s + ((256 * (70 + (p.o.length : Int) / 2) + p.k) + (p.len + (256 * p.t + (p.d + (wds p.o).sum)))) := by
  have e : wds (h12 p 0 ++ p.o) = (256 * (70 + (p.o.length : Int) / 2) + p.k) :: p.len :: (256 * p.t + 0) :: 0 :: p.s :: p.d :: wds p.o := by
    simp only [h12, List.cons_append, List.nil_append, wds]
    simp only [two_back]
    try rfl
  rw [e]
  simp only [List.sum_cons]
  omega
theorem fo_zero {R s : Int} (hs : 0 ≤ s) (hR : 0 < R) : fo (fo (s + (65535 - fo (s + R))) + R) = 65535 := by
  have h1 := fo_range (t := s + R) (by omega)
  obtain ⟨a1, a2, k, hk⟩ := h1
  by_cases hz : s + (65535 - fo (s + R)) = 0
  · rw [hz]
    have e0 : fo 0 = 0 := rfl
    rw [e0]
    have e1 : s = 0 := by omega
    subst e1
    have e2 : fo (0 + R) = 65535 := by omega
    exact e2
  · obtain ⟨b1, b2, j, hj⟩ := fo_range (t := s + (65535 - fo (s + R))) (by omega)
    have e : fo (s + (65535 - fo (s + R))) + R = 65535 * (1 - k + j) := by omega
    rw [e]
    have hp : 0 < 65535 * (1 - k + j) := by omega
    unfold fo
    rw [if_neg (by omega)]
    omega
theorem adj1_sum {p : Pk} (h : p.Ok) (hl : p.len ≤ 1500) : sum1 (adj1 p) = 0 := by
  rw [sum1_eq, hsum]
  have e := sum1_eq p
  rw [hsum] at e
  have hR : 0 < (256 * (70 + (p.o.length : Int) / 2) + p.k) + (p.len + (256 * p.t + (p.d + (wds p.o).sum))) := by
    have h1 := (wds_nn p.o h.o.1).1
    have h2 := h.k
    have h3 := h.t
    have h5 := h.d
    have h6 := isz_bd p.k
    have h7 : 0 ≤ p.len := by simp only [Pk.len]; omega
    omega
  show 65535 - fo (fo (p.s + sum1 p) + ((256 * (70 + (p.o.length : Int) / 2) + p.k) + (p.len + (256 * p.t + (p.d + (wds p.o).sum))))) = 0
  rw [e, fo_zero h.s.1 hR]
  rfl
/-- .. and with another inner head, of the same kind -/
def adj2 (p : Pk) : Pk := { p with i := match p.i with
  | .st a b f => .st (fo (a + sum2 p)) b f
  | .ask a b => .ask (fo (a + sum2 p)) b
  | .note t c => .note (fo (256 * t + c + sum2 p) / 256) (fo (256 * t + c + sum2 p) % 256)
  | .oth => .oth }
theorem adj2_len (p : Pk) : (adj2 p).len = p.len := rfl
theorem adj2_sum (p : Pk) : sum1 (adj2 p) = sum1 p := rfl
theorem adj2_ok {p : Pk} (h : p.Ok) (hl : p.len ≤ 1500) : (adj2 p).Ok := by
  have b := sum2_bd h hl
  refine ⟨h.s, h.d, h.k, h.t, h.o, ?_, h.p⟩
  have hi := h.i
  show Inn.ok p.k _
  unfold adj2
  cases e : p.i with
  | st a b f => rw [e] at hi; obtain ⟨rk, h1, h2, h3⟩ := hi; exact ⟨rk, fo_bd (by omega), h2, h3⟩
  | ask a b => rw [e] at hi; obtain ⟨rk, h1, h2⟩ := hi; exact ⟨rk, fo_bd (by omega), h2⟩
  | note a b =>
    rw [e] at hi
    obtain ⟨rk, h1, h2⟩ := hi
    have := fo_bd (t := 256 * a + b + sum2 p) (by omega)
    exact ⟨rk, ⟨by omega, by omega⟩, ⟨by omega, by omega⟩⟩
  | oth => rw [e] at hi; exact hi
theorem fold2 (x y : Int) (hx : 0 ≤ x) (hx2 : x ≤ 100000) (hy : 0 ≤ y) (hy2 : y ≤ 100000) : F_law_fold [.list [.int x, .int y]] = some (.int (fo (x + y))) := by
  have e := law_fold_ok [x, y] (by simp; omega) (by simp; omega)
  simpa [IL] using e
end Pr_gatewarden_k12_whole_packets_come_back
end
section
set_option linter.all false
set_option maxRecDepth 100000
set_option Elab.async false
namespace Pr_gatewarden_k12_whole_packets_come_back
open PySem PG Pr_C Pr_D Pr_S Pr_P Pr_R
local macro_rules | `(tactic| array_get_dec) => `(tactic| first | ((with_reducible apply PG.ws_set)) | ((with_reducible apply PG.ws_if)) | ((with_reducible apply PG.ws_ret)) | ((with_reducible apply PG.ws_setL)) | ((with_reducible apply PG.ws_expr)) | ((with_reducible apply PG.ws_nilc)) | ((with_reducible apply PG.ws_asc)) | ((with_reducible apply PG.ws_nil)) | ((with_reducible apply PG.ws_for)) | ((with_reducible apply PG.ws_asg)) | ((with_reducible apply PG.ws_par)) | ((with_reducible apply PG.ws_retL)) | ((with_reducible apply PG.ws_brk)) | ((with_reducible apply PG.ws_cont)) | ((with_reducible apply PG.ws_forn)) | ((with_reducible apply PG.ws_sto)) | ((with_reducible apply PG.ws_aug); (case hget => rfl)) | ((with_reducible apply PG.ws_app); (case hget => rfl)) | ((with_reducible apply PG.ws_retO); (case hget => rfl)) | ((with_reducible apply PG.we_name); (case hget => rfl)) | ((with_reducible apply PG.we_c)) | ((with_reducible apply PG.we_bin)) | ((with_reducible apply PG.we_un)) | ((with_reducible apply PG.we_call)) | ((with_reducible apply PG.we_callL); (case hget => rfl)) | ((with_reducible apply PG.we_tup)) | ((with_reducible apply PG.we_lst)) | ((with_reducible apply PG.we_if)) | ((with_reducible apply PG.we_ixL); (case hget => rfl)) | ((with_reducible apply PG.we_unL); (case hget => rfl)) | ((with_reducible apply PG.we_and)) | ((with_reducible apply PG.we_or)) | ((with_reducible apply PG.we_not)) | ((with_reducible apply PG.we_chain)) | ((with_reducible apply PG.we_slT)) | ((with_reducible apply PG.wn_cons)) | ((with_reducible apply PG.wn_nil)) | ((with_reducible apply PG.wn_star)) | ((with_reducible apply PG.wn_disp)) | ((with_reducible apply PG.wn_call)) | ((with_reducible apply PG.wn_sl)) | ((with_reducible apply PG.wn_its)) | ((with_reducible apply PG.wn_r1)) | ((with_reducible apply PG.wn_r2)) | ((with_reducible apply PG.wn_r3)) | ((with_reducible apply PG.wt_tru)) | ((with_reducible apply PG.wt_bl)) | ((with_reducible apply PG.wt_and)) | ((with_reducible apply PG.wt_or)) | ((with_reducible apply PG.wt_not)) | ((with_reducible apply PG.wt_yes)) | ((with_reducible apply PG.wt_truL); (case hget => rfl)) | ((with_reducible apply PG.wo_none)) | ((with_reducible apply PG.wo_some)) | ((with_reducible apply PG.wg_p0)) | ((with_reducible apply PG.wg_tup)) | ((with_reducible apply PG.wg_ps); (case hset => (repeat' (first | exact PG.SetR.h0 | exact PG.SetR.h1 | exact PG.SetR.hl | exact PG.SetR.hc (by assumption) | apply PG.SetR.s)))) | ((with_reducible apply PG.wg_set); (case hset => (repeat' (first | exact PG.SetR.h0 | exact PG.SetR.h1 | exact PG.SetR.hl | exact PG.SetR.hc (by assumption) | apply PG.SetR.s)))) | ((with_reducible apply PG.we_frz); (case hget => rfl); (case hset => (repeat' (first | exact PG.SetR.h0 | exact PG.SetR.h1 | exact PG.SetR.hl | exact PG.SetR.hc (by assumption) | apply PG.SetR.s)))) | ((with_reducible apply PG.setr_i); (case hset => (repeat' (first | exact PG.SetR.h0 | exact PG.SetR.h1 | exact PG.SetR.hl | exact PG.SetR.hc (by assumption) | apply PG.SetR.s)))) | ((with_reducible apply PG.setl_i); (case hset => (repeat' (first | exact PG.SetLR.h0 | exact PG.SetLR.h1 | exact PG.SetLR.hl | apply PG.SetLR.s)))) | ((with_reducible apply PG.put_i); (case hset => (repeat' (first | exact PG.PutR.h | apply PG.PutR.s)))) | ((with_reducible apply PG.pool_i); (case hget => rfl)) | ((with_reducible apply PG.bool_i)) | ((with_reducible apply PG.int_i)) | ((with_reducible apply PG.seqL_i)) | ((with_reducible apply PG.seqT_i)) | ((with_reducible apply PG.seqR_i)) | ((with_reducible apply PG.starT_i)) | ((with_reducible apply PG.starL_i)) | ((with_reducible apply PG.len_i); (case h => rfl)) | ((with_reducible apply PG.tup_i)) | ((with_reducible apply PG.yes_i)) | ((with_reducible apply PG.no_i)) | ((with_reducible apply PG.nyes_i)) | ((with_reducible apply PG.nno_i)) | ((with_reducible apply PG.wa_add)) | ((with_reducible apply PG.wa_sub)) | ((with_reducible apply PG.wa_lt)) | ((with_reducible apply PG.wa_le)) | ((with_reducible apply PG.wa_gt)) | ((with_reducible apply PG.wa_ge)) | ((with_reducible apply PG.wa_eqI)) | ((with_reducible apply PG.wa_neI)) | ((with_reducible apply PG.wa_neg)) | ((with_reducible apply PG.wa_lenL)) | ((with_reducible apply PG.wa_lenT)) | ((with_reducible apply PG.wa_int)) | ((with_reducible apply PG.wa_max)) | ((with_reducible apply PG.wa_min)) | ((with_reducible apply PG.wb_bool)) | ((with_reducible apply PG.wb_int)) | ((with_reducible apply PG.endP_ret)) | ((with_reducible apply PG.endP_retL)) | ((with_reducible apply PG.endN_ret)) | ((with_reducible apply PG.endL_ret)) | ((with_reducible apply PG.endL_retL)) | ((with_reducible apply PG.wa_binO)) | ((with_reducible apply PG.ch_le)) | ((with_reducible apply PG.ch_lt)) | ((with_reducible apply PG.ch_eq)) | ((with_reducible apply PG.wa_ix0); (case hget => rfl)) | ((with_reducible apply PG.wa_ix1); (case hget => rfl)) | ((with_reducible apply PG.wa_ix2); (case hget => rfl)) | ((with_reducible apply PG.wa_ix3); (case hget => rfl)) | ((with_reducible apply PG.wa_ix4); (case hget => rfl)) | ((with_reducible apply PG.wa_ix5); (case hget => rfl)) | ((with_reducible apply PG.wa_ix6); (case hget => rfl)) | ((with_reducible apply PG.wa_ix7); (case hget => rfl)) | ((with_reducible apply PG.wa_ix8); (case hget => rfl)) | ((with_reducible apply PG.wa_il0); (case hget => rfl)) | ((with_reducible apply PG.wa_il1); (case hget => rfl)) | ((with_reducible apply PG.wa_il2); (case hget => rfl)) | ((with_reducible apply PG.wa_ev1)) | ((with_reducible apply PG.wa_ev)) | ((with_reducible apply PG.wl_ev)) | ((with_reducible apply PG.wb_ev)) | ((with_reducible apply PG.wa_mod); (case h1 => omega)) | ((with_reducible apply PG.wa_div); (case h1 => omega); (case h2 => omega)) | ((with_reducible apply PG.wa_mulR); (case h1 => omega); (case h2 => omega)) | ((with_reducible apply PG.wa_mulL); (case h1 => omega); (case h2 => omega)) | ((with_reducible apply PG.wa_shr); (case h1 => omega)))
local macro_rules | `(tactic| array_get_dec) => `(tactic| first | ((with_reducible apply Pr_C.wp_draw); (case hp => assumption); (case h0 => omega); (case h1 => omega)) | ((with_reducible apply Pr_C.ls_i); (case hp => assumption)))

local macro_rules | `(tactic| array_get_dec) => `(tactic| first | ((with_reducible apply Pr_P.wp_packet); (case hp => assumption); (case h0 => omega); (case h1 => omega)) | ((with_reducible apply Pr_P.wa_in2)))

theorem wa_i {x : Pk} {Q : PyData → Prop} (q : Q (.tuple (IL x.i.l))) : WA (dIx x.v (.int 5)) Q := ⟨_, rfl, q⟩
theorem wa_o {x : Pk} {Q : PyData → Prop} (q : Q (.tuple (IL x.o))) : WA (dIx x.v (.int 4)) Q := ⟨_, rfl, q⟩
theorem wa_s {x : Pk} {Q : PyData → Prop} (q : Q (.int x.s)) : WA (dIx x.v (.int 0)) Q := ⟨_, rfl, q⟩
theorem wa_p {x : Pk} {Q : PyData → Prop} (q : Q (.tuple (IL x.p))) : WA (dIx x.v (.int 6)) Q := ⟨_, rfl, q⟩
theorem ix_row {e : List Int} {v x : Int} {k : Nat} (hk : v = k) (h : e[k]? = some x) : dIx (.tuple (IL e)) (.int v) = some (.int x) := by
  subst hk
  obtain ⟨h1, e1⟩ := List.getElem?_eq_some_iff.mp h
  show atD _ _ = _
  rw [atD_nat (by simpa using h1)]
  simp [e1]
theorem adj_tail (A B : Option Cell) (t : Int) (p : Pk) (h : p.Ok) (hl : p.len ≤ 1500) (c7 : Option Cell) (q7 : PlainC c7) :
    WS (sSeq (sIf (tBl (eBin dIn2 (eBin dIx (eName 3) (eC (.int 2))) (eTup (nCons (eC (.int 6)) (nCons (eC (.int 17)) nNil)))))
  (sSeq (sSet 3 (eBin dAdd (eSlT (eName 3) none (some (eC (.int 5)))) (eTup (nCons (eBin dAdd (eTup (nCons (eCall F_law_fold (nCons (eLst (nDisp (nCons (eBin dIx (eBin dIx (eName 3) (eC (.int 5))) (eC (.int 0))) (nCons (eBin dAdd (eBin dMul (eC (.int 256)) (eBin dIx (eName 5) (eName 6))) (eBin dIx (eName 5) (eBin dAdd (eName 6) (eC (.int 1))))) nNil)))) nNil)) nNil)) (eSlT (eBin dIx (eName 3) (eC (.int 5))) (some (eC (.int 1))) none)) (nCons (eBin dIx (eName 3) (eC (.int 6))) nNil)))))
  sNil)
  sNil)
  (sSeq (sIf (tBl (eBin dEq (eBin dIx (eName 3) (eC (.int 2))) (eC (.int 1))))
  (sSeq (sSet 7 (eCall F_law_fold (nCons (eLst (nDisp (nCons (eBin dAdd (eBin dMul (eC (.int 256)) (eBin dIx (eBin dIx (eName 3) (eC (.int 5))) (eC (.int 0)))) (eBin dIx (eBin dIx (eName 3) (eC (.int 5))) (eC (.int 1)))) (nCons (eBin dAdd (eBin dMul (eC (.int 256)) (eBin dIx (eName 5) (eName 6))) (eBin dIx (eName 5) (eBin dAdd (eName 6) (eC (.int 1))))) nNil)))) nNil)))
  (sSeq (sSet 3 (eBin dAdd (eSlT (eName 3) none (some (eC (.int 5)))) (eTup (nCons (eCall F_law_two (nCons (eName 7) nNil)) (nCons (eBin dIx (eName 3) (eC (.int 6))) nNil)))))
  sNil))
  sNil)
  sNil)) [A, B, some (.v (.int t)), some (.v p.v), some (.v (.int (12 + (p.o.length : Int)))), some (.v (.tuple (IL (rowOf p (sum1 p) (sum2 p))))), some (.v (.int (12 + (p.o.length : Int) + isz p.k - 2))), c7] fun o ρ2 => o = .next ∧ ∃ (d5 d6 d7 : Option Cell), ρ2 = [A, B, some (.v (.int t)), some (.v (adj2 p).v), some (.v (.int (12 + (p.o.length : Int)))), d5, d6, d7] ∧ PlainC d5 ∧ PlainC d6 ∧ PlainC d7 := by
  have b2 := sum2_bd h hl
  have hi := h.i
  have hat : p.i ≠ .oth → dIx (.tuple (IL (rowOf p (sum1 p) (sum2 p)))) (.int (12 + (p.o.length : Int) + isz p.k - 2)) = some (.int (sum2 p / 256)) ∧ dIx (.tuple (IL (rowOf p (sum1 p) (sum2 p)))) (.int (12 + (p.o.length : Int) + isz p.k - 2 + 1)) = some (.int (sum2 p % 256)) := by
    intro hi
    have il := inb_len h hi
    have e : rowOf p (sum1 p) (sum2 p) = (h12 p (sum1 p) ++ p.o ++ inb p.i) ++ (sum2 p / 256 :: sum2 p % 256 :: p.p) := by
      have e0 : bd p.i (sum2 p) p.p = inb p.i ++ tw (sum2 p) ++ p.p := by
        cases h : p.i with
        | oth => exact absurd h hi
        | _ => rfl
      rw [rowOf, e0]
      simp [tw]
    have le : (h12 p (sum1 p) ++ p.o ++ inb p.i).length = 12 + p.o.length + (inb p.i).length := by simp [h12]; omega
    rw [e]
    exact ⟨ix_row (k := (h12 p (sum1 p) ++ p.o ++ inb p.i).length) (by omega) (by simp), ix_row (k := (h12 p (sum1 p) ++ p.o ++ inb p.i).length + 1) (by omega) (by rw [List.getElem?_append_right (by omega)]; simp)⟩
  generalize rowOf p (sum1 p) (sum2 p) = R at *
  cases e : p.i with
  | st a b f =>
    rw [e] at hi
    obtain ⟨rk, h1, h2, h3⟩ := hi
    obtain ⟨j1, j2⟩ := hat (by rw [e]; exact fun z => nomatch z)
    have v1 : p.v = .tuple [.int p.s, .int p.d, .int p.k, .int p.t, .tuple (IL p.o), .tuple (IL [a, b, f]), .tuple (IL p.p)] := by unfold Pk.v; rw [e]; rfl
    have v2 : (adj2 p).v = .tuple [.int p.s, .int p.d, .int p.k, .int p.t, .tuple (IL p.o), .tuple (IL [fo (a + sum2 p), b, f]), .tuple (IL p.p)] := by
      unfold Pk.v adj2
      rw [e]
      rfl
    have hin : (decide (p.k = 6) || decide (p.k = 17)) = true := by simp [rk]
    rw [v1, v2]
    (repeat (first | array_get_dec | ((with_reducible apply PG.decy_i); (case h => omega)) | ((with_reducible apply PG.decno_i); (case h => omega)) | ((with_reducible apply PG.ndecy_i); (case h => omega)) | ((with_reducible apply PG.ndecno_i); (case h => omega))))
    rw [hin]
    (repeat (first | array_get_dec | ((with_reducible apply PG.decy_i); (case h => omega)) | ((with_reducible apply PG.decno_i); (case h => omega)) | ((with_reducible apply PG.ndecy_i); (case h => omega)) | ((with_reducible apply PG.ndecno_i); (case h => omega))))
    refine wa_eq j1 ?_
    (repeat (first | array_get_dec | ((with_reducible apply PG.decy_i); (case h => omega)) | ((with_reducible apply PG.decno_i); (case h => omega)) | ((with_reducible apply PG.ndecy_i); (case h => omega)) | ((with_reducible apply PG.ndecno_i); (case h => omega))))
    refine wa_eq j2 ?_
    (repeat (first | array_get_dec | ((with_reducible apply PG.decy_i); (case h => omega)) | ((with_reducible apply PG.decno_i); (case h => omega)) | ((with_reducible apply PG.ndecy_i); (case h => omega)) | ((with_reducible apply PG.ndecno_i); (case h => omega))))
    rw [two_back]
    refine wa_eq (fold2 a (sum2 p) (by omega) (by omega) b2.1 (by omega)) ?_
    (repeat (first | array_get_dec | ((with_reducible apply PG.decy_i); (case h => omega)) | ((with_reducible apply PG.decno_i); (case h => omega)) | ((with_reducible apply PG.ndecy_i); (case h => omega)) | ((with_reducible apply PG.ndecno_i); (case h => omega))))
    refine wa_addT (Nat.le_of_ble_eq_true rfl) ?_
    (repeat (first | array_get_dec | ((with_reducible apply PG.decy_i); (case h => omega)) | ((with_reducible apply PG.decno_i); (case h => omega)) | ((with_reducible apply PG.ndecy_i); (case h => omega)) | ((with_reducible apply PG.ndecno_i); (case h => omega))))
    refine wa_addT (Nat.le_of_ble_eq_true rfl) ?_
    (repeat (first | array_get_dec | ((with_reducible apply PG.decy_i); (case h => omega)) | ((with_reducible apply PG.decno_i); (case h => omega)) | ((with_reducible apply PG.ndecy_i); (case h => omega)) | ((with_reducible apply PG.ndecno_i); (case h => omega))))
    exact ⟨rfl, _, _, _, rfl, .inr ⟨_, rfl⟩, .inr ⟨_, rfl⟩, by first | assumption | exact .inr ⟨_, rfl⟩⟩
  | ask a b =>
    rw [e] at hi
    obtain ⟨rk, h1, h2⟩ := hi
    obtain ⟨j1, j2⟩ := hat (by rw [e]; exact fun z => nomatch z)
    have v1 : p.v = .tuple [.int p.s, .int p.d, .int p.k, .int p.t, .tuple (IL p.o), .tuple (IL [a, b]), .tuple (IL p.p)] := by unfold Pk.v; rw [e]; rfl
    have v2 : (adj2 p).v = .tuple [.int p.s, .int p.d, .int p.k, .int p.t, .tuple (IL p.o), .tuple (IL [fo (a + sum2 p), b]), .tuple (IL p.p)] := by
      unfold Pk.v adj2
      rw [e]
      rfl
    have hin : (decide (p.k = 6) || decide (p.k = 17)) = true := by simp [rk]
    rw [v1, v2]
    (repeat (first | array_get_dec | ((with_reducible apply PG.decy_i); (case h => omega)) | ((with_reducible apply PG.decno_i); (case h => omega)) | ((with_reducible apply PG.ndecy_i); (case h => omega)) | ((with_reducible apply PG.ndecno_i); (case h => omega))))
    rw [hin]
    (repeat (first | array_get_dec | ((with_reducible apply PG.decy_i); (case h => omega)) | ((with_reducible apply PG.decno_i); (case h => omega)) | ((with_reducible apply PG.ndecy_i); (case h => omega)) | ((with_reducible apply PG.ndecno_i); (case h => omega))))
    refine wa_eq j1 ?_
    (repeat (first | array_get_dec | ((with_reducible apply PG.decy_i); (case h => omega)) | ((with_reducible apply PG.decno_i); (case h => omega)) | ((with_reducible apply PG.ndecy_i); (case h => omega)) | ((with_reducible apply PG.ndecno_i); (case h => omega))))
    refine wa_eq j2 ?_
    (repeat (first | array_get_dec | ((with_reducible apply PG.decy_i); (case h => omega)) | ((with_reducible apply PG.decno_i); (case h => omega)) | ((with_reducible apply PG.ndecy_i); (case h => omega)) | ((with_reducible apply PG.ndecno_i); (case h => omega))))
    rw [two_back]
    refine wa_eq (fold2 a (sum2 p) (by omega) (by omega) b2.1 (by omega)) ?_
    (repeat (first | array_get_dec | ((with_reducible apply PG.decy_i); (case h => omega)) | ((with_reducible apply PG.decno_i); (case h => omega)) | ((with_reducible apply PG.ndecy_i); (case h => omega)) | ((with_reducible apply PG.ndecno_i); (case h => omega))))
    refine wa_addT (Nat.le_of_ble_eq_true rfl) ?_
    (repeat (first | array_get_dec | ((with_reducible apply PG.decy_i); (case h => omega)) | ((with_reducible apply PG.decno_i); (case h => omega)) | ((with_reducible apply PG.ndecy_i); (case h => omega)) | ((with_reducible apply PG.ndecno_i); (case h => omega))))
    refine wa_addT (Nat.le_of_ble_eq_true rfl) ?_
    (repeat (first | array_get_dec | ((with_reducible apply PG.decy_i); (case h => omega)) | ((with_reducible apply PG.decno_i); (case h => omega)) | ((with_reducible apply PG.ndecy_i); (case h => omega)) | ((with_reducible apply PG.ndecno_i); (case h => omega))))
    exact ⟨rfl, _, _, _, rfl, .inr ⟨_, rfl⟩, .inr ⟨_, rfl⟩, by first | assumption | exact .inr ⟨_, rfl⟩⟩
  | note a b =>
    rw [e] at hi
    obtain ⟨rk, h1, h2⟩ := hi
    obtain ⟨j1, j2⟩ := hat (by rw [e]; exact fun z => nomatch z)
    have v1 : p.v = .tuple [.int p.s, .int p.d, .int p.k, .int p.t, .tuple (IL p.o), .tuple (IL [a, b]), .tuple (IL p.p)] := by unfold Pk.v; rw [e]; rfl
    have v2 : (adj2 p).v = .tuple [.int p.s, .int p.d, .int p.k, .int p.t, .tuple (IL p.o), .tuple (IL [fo (256 * a + b + sum2 p) / 256, fo (256 * a + b + sum2 p) % 256]), .tuple (IL p.p)] := by
      unfold Pk.v adj2
      rw [e]
      rfl
    have hin : (decide (p.k = 6) || decide (p.k = 17)) = false := by simp [rk]
    rw [v1, v2]
    (repeat (first | array_get_dec | ((with_reducible apply PG.decy_i); (case h => omega)) | ((with_reducible apply PG.decno_i); (case h => omega)) | ((with_reducible apply PG.ndecy_i); (case h => omega)) | ((with_reducible apply PG.ndecno_i); (case h => omega))))
    rw [hin]
    (repeat (first | array_get_dec | ((with_reducible apply PG.decy_i); (case h => omega)) | ((with_reducible apply PG.decno_i); (case h => omega)) | ((with_reducible apply PG.ndecy_i); (case h => omega)) | ((with_reducible apply PG.ndecno_i); (case h => omega))))
    refine wa_eq j1 ?_
    (repeat (first | array_get_dec | ((with_reducible apply PG.decy_i); (case h => omega)) | ((with_reducible apply PG.decno_i); (case h => omega)) | ((with_reducible apply PG.ndecy_i); (case h => omega)) | ((with_reducible apply PG.ndecno_i); (case h => omega))))
    refine wa_eq j2 ?_
    (repeat (first | array_get_dec | ((with_reducible apply PG.decy_i); (case h => omega)) | ((with_reducible apply PG.decno_i); (case h => omega)) | ((with_reducible apply PG.ndecy_i); (case h => omega)) | ((with_reducible apply PG.ndecno_i); (case h => omega))))
    rw [two_back]
    refine wa_eq (fold2 (256 * a + b) (sum2 p) (by omega) (by omega) b2.1 (by omega)) ?_
    (repeat (first | array_get_dec | ((with_reducible apply PG.decy_i); (case h => omega)) | ((with_reducible apply PG.decno_i); (case h => omega)) | ((with_reducible apply PG.ndecy_i); (case h => omega)) | ((with_reducible apply PG.ndecno_i); (case h => omega))))
    refine wa_addT (Nat.le_of_ble_eq_true rfl) ?_
    (repeat (first | array_get_dec | ((with_reducible apply PG.decy_i); (case h => omega)) | ((with_reducible apply PG.decno_i); (case h => omega)) | ((with_reducible apply PG.ndecy_i); (case h => omega)) | ((with_reducible apply PG.ndecno_i); (case h => omega))))
    exact ⟨rfl, _, _, _, rfl, .inr ⟨_, rfl⟩, .inr ⟨_, rfl⟩, by first | assumption | exact .inr ⟨_, rfl⟩⟩
  | oth =>
    rw [e] at hi
    obtain ⟨k1, k2, k3⟩ := hi
    have v1 : p.v = .tuple [.int p.s, .int p.d, .int p.k, .int p.t, .tuple (IL p.o), .tuple (IL []), .tuple (IL p.p)] := by unfold Pk.v; rw [e]; rfl
    have v2 : (adj2 p).v = .tuple [.int p.s, .int p.d, .int p.k, .int p.t, .tuple (IL p.o), .tuple (IL []), .tuple (IL p.p)] := by
      unfold Pk.v adj2
      rw [e]
      rfl
    have hin : (decide (p.k = 6) || decide (p.k = 17)) = false := by simp [k1, k2]
    rw [v1, v2]
    (repeat (first | array_get_dec | ((with_reducible apply PG.decy_i); (case h => omega)) | ((with_reducible apply PG.decno_i); (case h => omega)) | ((with_reducible apply PG.ndecy_i); (case h => omega)) | ((with_reducible apply PG.ndecno_i); (case h => omega))))
    rw [hin]
    (repeat (first | array_get_dec | ((with_reducible apply PG.decy_i); (case h => omega)) | ((with_reducible apply PG.decno_i); (case h => omega)) | ((with_reducible apply PG.ndecy_i); (case h => omega)) | ((with_reducible apply PG.ndecno_i); (case h => omega))))
    exact ⟨rfl, _, _, _, rfl, .inr ⟨_, rfl⟩, .inr ⟨_, rfl⟩, by first | assumption | exact .inr ⟨_, rfl⟩⟩
local macro_rules | `(tactic| array_get_dec) => `(tactic| first | ((with_reducible apply adj_tail); (case h => assumption); (case hl => assumption); (case q7 => (first | assumption | exact Or.inr ⟨_, rfl⟩ | exact Or.inl rfl))))

theorem adj_turn (A B : Option Cell) (t : Int) (p : Pk) (h : p.Ok) (hl : p.len ≤ 1500) (c5 c6 c7 : Option Cell) (q5 : PlainC c5) (q6 : PlainC c6) (q7 : PlainC c7) :
    WS (sSeq (sSet 5 (eCall F_law_bytes (nCons (eName 3) nNil)))
  (sSeq (sSet 3 (eBin dAdd (eTup (nCons (eCall F_law_fold (nCons (eLst (nDisp (nCons (eBin dIx (eName 3) (eC (.int 0))) (nCons (eBin dAdd (eBin dMul (eC (.int 256)) (eBin dIx (eName 5) (eC (.int 6)))) (eBin dIx (eName 5) (eC (.int 7)))) nNil)))) nNil)) nNil)) (eSlT (eName 3) (some (eC (.int 1))) none)))
  (sSeq (sSet 5 (eCall F_law_bytes (nCons (eName 3) nNil)))
  (sSeq (sSet 6 (eBin dSub (eBin dAdd (eName 4) (eCall F_law_inner_size (nCons (eBin dIx (eName 3) (eC (.int 2))) nNil))) (eC (.int 2))))
  (sSeq (sIf (tBl (eBin dIn2 (eBin dIx (eName 3) (eC (.int 2))) (eTup (nCons (eC (.int 6)) (nCons (eC (.int 17)) nNil)))))
  (sSeq (sSet 3 (eBin dAdd (eSlT (eName 3) none (some (eC (.int 5)))) (eTup (nCons (eBin dAdd (eTup (nCons (eCall F_law_fold (nCons (eLst (nDisp (nCons (eBin dIx (eBin dIx (eName 3) (eC (.int 5))) (eC (.int 0))) (nCons (eBin dAdd (eBin dMul (eC (.int 256)) (eBin dIx (eName 5) (eName 6))) (eBin dIx (eName 5) (eBin dAdd (eName 6) (eC (.int 1))))) nNil)))) nNil)) nNil)) (eSlT (eBin dIx (eName 3) (eC (.int 5))) (some (eC (.int 1))) none)) (nCons (eBin dIx (eName 3) (eC (.int 6))) nNil)))))
  sNil)
  sNil)
  (sSeq (sIf (tBl (eBin dEq (eBin dIx (eName 3) (eC (.int 2))) (eC (.int 1))))
  (sSeq (sSet 7 (eCall F_law_fold (nCons (eLst (nDisp (nCons (eBin dAdd (eBin dMul (eC (.int 256)) (eBin dIx (eBin dIx (eName 3) (eC (.int 5))) (eC (.int 0)))) (eBin dIx (eBin dIx (eName 3) (eC (.int 5))) (eC (.int 1)))) (nCons (eBin dAdd (eBin dMul (eC (.int 256)) (eBin dIx (eName 5) (eName 6))) (eBin dIx (eName 5) (eBin dAdd (eName 6) (eC (.int 1))))) nNil)))) nNil)))
  (sSeq (sSet 3 (eBin dAdd (eSlT (eName 3) none (some (eC (.int 5)))) (eTup (nCons (eCall F_law_two (nCons (eName 7) nNil)) (nCons (eBin dIx (eName 3) (eC (.int 6))) nNil)))))
  sNil))
  sNil)
  sNil)))))) [A, B, some (.v (.int t)), some (.v p.v), some (.v (.int (12 + (p.o.length : Int)))), c5, c6, c7] fun o ρ2 => o = .next ∧ ∃ (d5 d6 d7 : Option Cell), ρ2 = [A, B, some (.v (.int t)), some (.v (adj2 (adj1 p)).v), some (.v (.int (12 + (p.o.length : Int)))), d5, d6, d7] ∧ PlainC d5 ∧ PlainC d6 ∧ PlainC d7 := by
  have b1 := sum1_bd h hl
  have hs := h.s
  have hlb := law_bytes_ok p h hl
  rw [byt_row] at hlb
  have h' := adj1_ok h hl
  have hlb2 := law_bytes_ok (adj1 p) h' hl
  rw [byt_row] at hlb2
  have j6 : dIx (.tuple (IL (rowOf p (sum1 p) (sum2 p)))) (.int 6) = some (.int (sum1 p / 256)) := ix_tu _ 6 6 rfl (by simp [rowOf, h12])
  have j7 : dIx (.tuple (IL (rowOf p (sum1 p) (sum2 p)))) (.int 7) = some (.int (sum1 p % 256)) := ix_tu _ 7 7 rfl (by simp [rowOf, h12])
  have f1 := fold2 p.s (sum1 p) hs.1 (by omega) b1.1 (by omega)
  have r1 : PyData.tuple ([PyData.int (fo (p.s + sum1 p))] ++ cutD [PyData.int p.s, .int p.d, .int p.k, .int p.t, .tuple (IL p.o), .tuple (IL p.i.l), .tuple (IL p.p)] (some 1) none) = (adj1 p).v := rfl
  (repeat array_get_dec)
  refine wa_eq hlb ?_
  (repeat array_get_dec)
  refine wa_s ?_
  (repeat array_get_dec)
  rw [two_back]
  refine wa_eq f1 ?_
  (repeat array_get_dec)
  refine ⟨[PyData.int p.s, .int p.d, .int p.k, .int p.t, .tuple (IL p.o), .tuple (IL p.i.l), .tuple (IL p.p)], rfl, ?_⟩
  (repeat array_get_dec)
  refine wa_addT (Nat.le_of_ble_eq_true rfl) ?_
  rw [r1]
  (repeat array_get_dec)
  refine wa_eq hlb2 ?_
  refine setr_i (hset := (by repeat' (first | exact PG.SetR.h0 | exact PG.SetR.h1 | exact PG.SetR.hc (by assumption) | apply PG.SetR.s))) ?_
  refine ws_set_v (.int (12 + (p.o.length : Int) + isz p.k - 2)) (by repeat' (first | exact PG.SetR.h0 | exact PG.SetR.h1 | exact PG.SetR.hc (by assumption) | apply PG.SetR.s)) ?_ ?_
  · (repeat array_get_dec)
    refine wa_k ?_
    (repeat array_get_dec)
    exact ⟨rfl, rfl⟩
  exact adj_tail A B t (adj1 p) h' hl c7 q7
theorem seq_of {f g : SF} {ρ ρ1 : Rho} (h : f ρ = some (.next, ρ1)) : sSeq f g ρ = g ρ1 := by simp [h]
theorem head_len (x : Pk) : (IL x.o).length = x.o.length := by simp
theorem law_turn (A : Option Cell) (p : Pool) (t : Int) (c3 c4 c5 c6 c7 : Option Cell) (hp : p.ok) (q3 : PlainC c3) (q4 : PlainC c4) (q5 : PlainC c5) (q6 : PlainC c6) (q7 : PlainC c7) :
    WS X_law_1 [A, some (.l false p.d), some (.v (.int t)), c3, c4, c5, c6, c7] fun o ρ2 => o = .next ∧ ∃ (p' : Pool) (d3 d4 d5 d6 d7 : Option Cell), ρ2 = [A, some (.l false p'.d), some (.v (.int t)), d3, d4, d5, d6, d7] ∧ p'.ok ∧ PlainC d3 ∧ PlainC d4 ∧ PlainC d5 ∧ PlainC d6 ∧ PlainC d7 := by
  unfold X_law_1
  (repeat array_get_dec); intro k p1 k1 ko kl
  have hz := isz_bd k.k
  have ho := ko.o.2.1
  have hl : k.len ≤ 1500 := by simp only [Pk.len]; omega
  refine put_i (hset := by repeat' (first | exact PG.PutR.h | apply PG.PutR.s)) ?_
  refine setr_i (hset := (by repeat' (first | exact PG.SetR.h0 | exact PG.SetR.h1 | exact PG.SetR.hc (by assumption) | apply PG.SetR.s))) ?_
  refine ws_set_v (.int (12 + (k.o.length : Int))) (by repeat' (first | exact PG.SetR.h0 | exact PG.SetR.h1 | exact PG.SetR.hc (by assumption) | apply PG.SetR.s)) ?_ ?_
  · (repeat array_get_dec)
    refine wa_o ?_
    (repeat array_get_dec)
    exact ⟨by rw [head_len], rfl⟩
  by_cases ht : 1 < t
  · refine ws_if ?_
    (repeat array_get_dec)
    (first | ((with_reducible apply PG.decy_i); (case h => omega)) | ((with_reducible apply PG.decno_i); (case h => omega)) | ((with_reducible apply PG.ndecy_i); (case h => omega)) | ((with_reducible apply PG.ndecno_i); (case h => omega)))
    obtain ⟨o, ρ2, e, rfl, d5, d6, d7, rfl, w5, w6, w7⟩ := adj_turn A (some (.l false p1.d)) t k ko hl c5 c6 c7 q5 q6 q7
    obtain ⟨o2, ρ3, e2, rfl, f5, f6, rfl, x5, x6⟩ := rest A (some (.l false p1.d)) t (adj2 (adj1 k)) (adj2_ok (adj1_ok ko hl) hl) hl (fun _ => by rw [adj2_sum]; exact adj1_sum ko hl) d5 d6 d7 w5 w6
    refine ⟨.next, _, (seq_of e).trans e2, rfl, p1, _, _, _, _, _, rfl, k1, .inr ⟨_, rfl⟩, .inr ⟨_, rfl⟩, x5, x6, w7⟩
  · refine ws_if ?_
    (repeat array_get_dec)
    (first | ((with_reducible apply PG.decy_i); (case h => omega)) | ((with_reducible apply PG.decno_i); (case h => omega)) | ((with_reducible apply PG.ndecy_i); (case h => omega)) | ((with_reducible apply PG.ndecno_i); (case h => omega)))
    refine ws_nilc ?_
    obtain ⟨o2, ρ3, e2, rfl, f5, f6, rfl, x5, x6⟩ := rest A (some (.l false p1.d)) t k ko hl (fun z => absurd z ht) c5 c6 c7 q5 q6
    exact ⟨.next, _, e2, rfl, p1, _, _, _, _, _, rfl, k1, .inr ⟨_, rfl⟩, .inr ⟨_, rfl⟩, x5, x6, q7⟩
theorem law_true (ns : List Int) (h : ns.length ≤ 63) : F_law [RO (ns.map PyData.int)] = some (.bool true) := by
  obtain ⟨p, e, hp⟩ := pool_ok ns h
  refine of_wa ?_
  unfold F_law; refine PG.wa_def rfl ?_; simp only [PG.rho0_eq, List.map_cons, List.map_nil, List.replicate_succ, List.replicate_zero, List.cons_append, List.nil_append]; unfold B_law
  (repeat array_get_dec)
  refine wl_eq e ?_
  (repeat array_get_dec)
  refine r1_i (by decide) ?_
  refine ws_forI (fun ds ρ => ∃ (p' : Pool) (c2 c3 c4 c5 c6 c7 : Option Cell), ρ = [some (.v (RO (ns.map PyData.int))), some (.l false p'.d), c2, c3, c4, c5, c6, c7] ∧ p'.ok ∧ PlainC c2 ∧ PlainC c3 ∧ PlainC c4 ∧ PlainC c5 ∧ PlainC c6 ∧ PlainC c7 ∧ ∀ d ∈ ds, ∃ t : Int, d = .int t) _ ⟨p, none, none, none, none, none, none, rfl, hp, .inl rfl, .inl rfl, .inl rfl, .inl rfl, .inl rfl, .inl rfl, fun d hd => by obtain ⟨k, _, e⟩ := rng_mem hd; exact ⟨_, e⟩⟩ ?_ ?_
  · rintro d r ρ ⟨p', c2, c3, c4, c5, c6, c7, rfl, kp, q2, q3, q4, q5, q6, q7, hd⟩
    obtain ⟨t, rfl⟩ := hd d (by simp)
    (repeat array_get_dec)
    obtain ⟨o, ρ2, e2, rfl, p2, d3, d4, d5, d6, d7, rfl, k2, w3, w4, w5, w6, w7⟩ := law_turn (some (.v (RO (ns.map PyData.int)))) p' t c3 c4 c5 c6 c7 kp q3 q4 q5 q6 q7
    exact ⟨_, _, e2, rfl, p2, _, _, _, _, _, _, rfl, k2, .inr ⟨_, rfl⟩, w3, w4, w5, w6, w7, fun d hd' => hd d (by simp [hd'])⟩
  · rintro ρ1 ⟨p', c2, c3, c4, c5, c6, c7, rfl, _⟩
    (repeat array_get_dec)
    all_goals rfl
end Pr_gatewarden_k12_whole_packets_come_back
end
open PySem PySem.W PyProof.Rows
set_option maxRecDepth 100000 in
set_option maxHeartbeats 0 in
theorem PySem.Challenge.cw_gatewarden_k12_whole_packets_come_back_holds : PySem.Challenge.rw_gatewarden_k12_whole_packets_come_back.Holds := by
  w_on; o_law; k_head; (case hw => w_witness2)
  k_fill
  refine L2.walk_of (l := PySem.Challenge.rw_gatewarden_k12_whole_packets_come_back) (n := 63) (k := 42) (x := "script") (CX := fun _ => L2.CX0) (sp := fun w => PG.spP _ 1 Pr_gatewarden_k12_whole_packets_come_back.F_law) rfl (by decide) rfl ⟨rfl, by decide, by decide⟩ (fun w h Y => PySem.W.kIn_of Y) ?F (fun _ _ a ns hl _ hS => PG.law_sp hS (Pr_gatewarden_k12_whole_packets_come_back.law_true ns hl)) (fun _ _ _ _ _ h => h)
  case F =>
    intro w mg fa h KX G hmg
    refine' Pr_gatewarden_k12_whole_packets_come_back.all_mk KX G hmg ?a_words_of ?l_words_of ?c_words_of ?k_words_of ?a_folded ?l_folded ?c_folded ?k_folded ?a_sum_of ?l_sum_of ?c_sum_of ?k_sum_of ?a_head_bytes ?l_head_bytes ?c_head_bytes ?k_head_bytes ?a_length_of ?l_length_of ?c_length_of ?k_length_of ?a_two ?l_two ?c_two ?k_two ?a_inner_bytes ?l_inner_bytes ?c_inner_bytes ?k_inner_bytes ?a_inner_row ?l_inner_row ?c_inner_row ?k_inner_row ?a_write_packet ?l_write_packet ?c_write_packet ?k_write_packet ?a_options_end ?l_options_end ?c_options_end ?k_options_end ?a_word ?l_word ?c_word ?k_word ?a_outer_fault ?l_outer_fault ?c_outer_fault ?k_outer_fault ?a_inner_fault ?l_inner_fault ?c_inner_fault ?k_inner_fault ?a_read_inner ?l_read_inner ?c_read_inner ?k_read_inner ?a_read_packet ?l_read_packet ?c_read_packet ?k_read_packet ?a_law_same ?l_law_same ?c_law_same ?k_law_same ?a_law_pool ?l_law_pool ?c_law_pool ?k_law_pool ?a_law_spread ?l_law_spread ?c_law_spread ?k_law_spread ?a_law_draw ?l_law_draw ?c_law_draw ?k_law_draw ?a_law_number ?l_law_number ?c_law_number ?k_law_number ?a_law_fold ?l_law_fold ?c_law_fold ?k_law_fold ?a_law_words ?l_law_words ?c_law_words ?k_law_words ?a_law_check ?l_law_check ?c_law_check ?k_law_check ?a_law_two ?l_law_two ?c_law_two ?k_law_two ?a_law_row ?l_law_row ?c_law_row ?k_law_row ?a_law_inner_size ?l_law_inner_size ?c_law_inner_size ?k_law_inner_size ?a_law_kind ?l_law_kind ?c_law_kind ?k_law_kind ?a_law_inner ?l_law_inner ?c_law_inner ?k_law_inner ?a_law_packet ?l_law_packet ?c_law_packet ?k_law_packet ?a_law_length ?l_law_length ?c_law_length ?k_law_length ?a_law_bytes ?l_law_bytes ?c_law_bytes ?k_law_bytes ?a_law ?l_law ?c_law ?k_law ?z_bool ?z_int ?z_isinstance ?z_len ?z_list ?z_max ?z_min ?z_range ?z_str ?z_sum ?z_tuple ?c_ASKING ?c_FIRST_BYTES ?c_GREATEST_LENGTH ?c_NOTE ?c_STREAM ?g_HEAD_BYTES ?at_HEAD_BYTES ?ok_HEAD_BYTES ?low_HEAD_BYTES ?g_SUM_PLACES ?at_SUM_PLACES ?ok_SUM_PLACES ?low_SUM_PLACES
    (case a_words_of => k_is); (case l_words_of => k_is); (case c_words_of => k_is); (case k_words_of => k_is); (case a_folded => k_is); (case l_folded => k_is); (case c_folded => k_is); (case k_folded => k_is); (case a_sum_of => k_is); (case l_sum_of => k_is); (case c_sum_of => k_is); (case k_sum_of => k_is); (case a_head_bytes => k_is); (case l_head_bytes => k_is); (case c_head_bytes => k_is); (case k_head_bytes => k_is); (case a_length_of => k_is); (case l_length_of => k_is); (case c_length_of => k_is); (case k_length_of => k_is); (case a_two => k_is); (case l_two => k_is); (case c_two => k_is); (case k_two => k_is); (case a_inner_bytes => k_is); (case l_inner_bytes => k_is); (case c_inner_bytes => k_is); (case k_inner_bytes => k_is); (case a_inner_row => k_is); (case l_inner_row => k_is); (case c_inner_row => k_is); (case k_inner_row => k_is); (case a_write_packet => k_is); (case l_write_packet => k_is); (case c_write_packet => k_is); (case k_write_packet => k_is); (case a_options_end => k_is); (case l_options_end => k_is); (case c_options_end => k_is); (case k_options_end => k_is); (case a_word => k_is); (case l_word => k_is); (case c_word => k_is); (case k_word => k_is); (case a_outer_fault => k_is); (case l_outer_fault => k_is); (case c_outer_fault => k_is); (case k_outer_fault => k_is); (case a_inner_fault => k_is); (case l_inner_fault => k_is); (case c_inner_fault => k_is); (case k_inner_fault => k_is); (case a_read_inner => k_is); (case l_read_inner => k_is); (case c_read_inner => k_is); (case k_read_inner => k_is); (case a_read_packet => k_is); (case l_read_packet => k_is); (case c_read_packet => k_is); (case k_read_packet => k_is); (case a_law_same => k_is); (case l_law_same => k_is); (case c_law_same => k_is); (case k_law_same => k_is); (case a_law_pool => k_is); (case l_law_pool => k_is); (case c_law_pool => k_is); (case k_law_pool => k_is); (case a_law_spread => k_is); (case l_law_spread => k_is); (case c_law_spread => k_is); (case k_law_spread => k_is); (case a_law_draw => k_is); (case l_law_draw => k_is); (case c_law_draw => k_is); (case k_law_draw => k_is); (case a_law_number => k_is); (case l_law_number => k_is); (case c_law_number => k_is); (case k_law_number => k_is); (case a_law_fold => k_is); (case l_law_fold => k_is); (case c_law_fold => k_is); (case k_law_fold => k_is); (case a_law_words => k_is); (case l_law_words => k_is); (case c_law_words => k_is); (case k_law_words => k_is); (case a_law_check => k_is); (case l_law_check => k_is); (case c_law_check => k_is); (case k_law_check => k_is); (case a_law_two => k_is); (case l_law_two => k_is); (case c_law_two => k_is); (case k_law_two => k_is); (case a_law_row => k_is); (case l_law_row => k_is); (case c_law_row => k_is); (case k_law_row => k_is); (case a_law_inner_size => k_is); (case l_law_inner_size => k_is); (case c_law_inner_size => k_is); (case k_law_inner_size => k_is); (case a_law_kind => k_is); (case l_law_kind => k_is); (case c_law_kind => k_is); (case k_law_kind => k_is); (case a_law_inner => k_is); (case l_law_inner => k_is); (case c_law_inner => k_is); (case k_law_inner => k_is); (case a_law_packet => k_is); (case l_law_packet => k_is); (case c_law_packet => k_is); (case k_law_packet => k_is); (case a_law_length => k_is); (case l_law_length => k_is); (case c_law_length => k_is); (case k_law_length => k_is); (case a_law_bytes => k_is); (case l_law_bytes => k_is); (case c_law_bytes => k_is); (case k_law_bytes => k_is); (case a_law => k_is); (case l_law => k_is); (case c_law => k_is); (case k_law => k_is); (case z_bool => k_is); (case z_int => k_is); (case z_isinstance => k_is); (case z_len => k_is); (case z_list => k_is); (case z_max => k_is); (case z_min => k_is); (case z_range => k_is); (case z_str => k_is); (case z_sum => k_is); (case z_tuple => k_is); (case c_ASKING => k_is); (case c_FIRST_BYTES => k_is); (case c_GREATEST_LENGTH => k_is); (case c_NOTE => k_is); (case c_STREAM => k_is); (case g_HEAD_BYTES => k_is); (case at_HEAD_BYTES => k_is); (case ok_HEAD_BYTES => first | rfl | decide); (case low_HEAD_BYTES => first | rfl | decide); (case g_SUM_PLACES => k_is); (case at_SUM_PLACES => k_is); (case ok_SUM_PLACES => first | rfl | decide); (case low_SUM_PLACES => first | rfl | decide)
