import PyProof.Rows.All
import Wide.All
import OpenK.AllK
import Wide.FinOn
import HandS.ForMost
import HandS.AnyAll
import HandS.IsInst
import HandS.More
import HandS.Flow
import HandS.Wide
import HandS.Nested
import HandS.TupAny
import HandS.Strs
import HandS.SetFor
import HandS.Sort
import HandS.SortRule
import HandS.Iter
import HandS.Star
import KE.KTupSum
import HandS.Dict
import HandS.Style
import PyProof.TypeEq
import PyProof.InstEq
import HandS.Deep
import HandS.Ends
import PyProof.ReprRoads
import PyProof.ReprLen
import HandS.TupMul
import HandS.Conv
import HandS.SortOrd
import PyProof.TupleOfSeq
import HandS.TryOnly
import KE.KRevSl
import HandS.SortKw
import HandS.GenList
import PyProof.GenComp
import PyProof.CodeObjX
import PyProof.ConsumeS
import HandS.EndTab
import KE.KExcIs
import HandS.ExcInit
import HandS.ExcIs
import HandS.ExcField
import HandS.ExcOwn
import HandS.WordsExc
import HandS.Text
import HandS.Comp
import PyProof.StrBlock2
import HandS.TryMany
import PyProof.ExcBaseAll.ValueError
import HandS.DictComp
import HandS.NoneIn
import PyProof.TupleOfGen
import HandS.FStr
import PySem.Challenge.RW_gatewarden_k04_texts_of_sets
import HandS.Codes
import PyProof.ReprBulk
set_option Elab.async false
set_option linter.all false
set_option maxRecDepth 100000
section
set_option Elab.async false
set_option linter.all false
set_option maxRecDepth 100000
namespace PG
open PySem PySem.Spec PyProof.Rows L2

abbrev D := PyData

/-! ### data and values -/
def KLst (K : PySem.W.Frag) (a : Addr) (xs : List V) : Prop := ∃ (o : Obj) (its : Array Value) (n : Nat), K.lookup a = some o ∧ o.cls = .type "list" ∧ o.dict = none ∧ o.data = .seq its n ∧ its.size ≤ sizeLine ∧ Vals xs its.toList
def KTup (K : PySem.W.Frag) (a : Addr) (xs : List V) : Prop := ∃ (o : Obj) (its : Array Value) (n : Nat), K.lookup a = some o ∧ o.cls = .type "tuple" ∧ o.data = .seq its n ∧ its.size ≤ sizeLine ∧ Vals xs its.toList
def LAt (K : PySem.W.Frag) (A : Addr → Prop) (H : Hp) (a : Addr) (xs : List V) : Prop := H a = some (.lst xs) ∧ ¬ A a
def WAt (K : PySem.W.Frag) (A : Addr → Prop) (H : Hp) (a : Addr) (xs : List V) : Prop := (Rd H a (.lst xs) ∧ ¬ A a) ∨ KLst K a xs
def TAt (K : PySem.W.Frag) (A : Addr → Prop) (H : Hp) (a : Addr) (xs : List V) : Prop := (Rd H a (.tup xs) ∧ ¬ A a) ∨ KTup K a xs
theorem LAt.sq {K : PySem.W.Frag} {A : Addr → Prop} {H : Hp} {a : Addr} {xs : List V} (h : LAt K A H a xs) : SqL K H a xs := .inl (.inl h.1)
theorem WAt.sq {K : PySem.W.Frag} {A : Addr → Prop} {H : Hp} {a : Addr} {xs : List V} (h : WAt K A H a xs) : SqL K H a xs := h.elim (fun x => .inl x.1) .inr
inductive FlatA : List V → List PyData → Prop
  | nil : FlatA [] []
  | int (i : Int) {vs : List V} {ds : List PyData} : FlatA vs ds → FlatA (.int i :: vs) (.int i :: ds)
  | str (x : Str) {vs : List V} {ds : List PyData} : FlatA vs ds → FlatA (.str x :: vs) (.str x :: ds)
theorem TAt.sq {K : PySem.W.Frag} {A : Addr → Prop} {H : Hp} {a : Addr} {xs : List V} (h : TAt K A H a xs) : SqT K H a xs := h.elim (fun x => .inl x.1) .inr

/-- the first def that stands in a body -/
def isDef : Stmt → Bool
  | .FunctionDef .. => true
  | _ => false
def nestDefs : FuncBody → List Stmt
  | .stmts l => l.filter isDef
  | _ => []
/-- the def in which a def stands, by its tag; which one of them it is -/
def tags2 : List (Str × Str) := ([("seen_at/1", "seen_at"), ("_asked/1", "_asked")] : List (String × String)).map fun p => (Str.ofString p.1, Str.ofString p.2)
def holdS (t : Str) : Str := match tags2.find? fun p => decide (p.1 = t) with
  | some p => p.2
  | none => t
def holdI (t : Str) : Nat := match tags2.find? fun p => decide (p.1 = t) with
  | some _ => 1
  | none => 0
def defPos : Stmt → Option (Str × Pos)
  | .FunctionDef nm _ _ _ _ _ _ _ _ pos => some (nm, pos)
  | _ => none
def atPos (line col : Nat) (s : Stmt) : Bool := match defPos s with
  | some (_, p) => p.line == line && p.col == col
  | none => false
/-- the defs that stand in the def x -/
def nestsIn (K : PySem.W.Frag) (x : Str) : List Stmt := match PySem.W.nsIn K mainGlobals x with
  | some (some (.ref f)) => (match K.lookup f with
    | some o => (match o.data with
      | .func fd => nestDefs fd.body
      | _ => [])
    | none => [])
  | _ => []
/-- the names of the code that a def's table may tell -/
def nmAt (K : PySem.W.Frag) (x : Str × Str) : Nat → Nat → Str := if x.2 = Str.ofString "" then fun line col => match (nestsIn K x.1).find? (atPos line col) with
    | some s => (match defPos s with
      | some (n, _) => x.1 ++ Str.ofString ".<locals>." ++ n
      | none => Str.ofString "")
    | none => Str.ofString ""
  else fun _ _ => x.2
/-- the names that a scope captures -/
def freeOf (sc : Scope) : List Str := (sc.names.filter fun y => decide (y.2 = .free)).map (·.1)
/-- F is made of the def that stands in the def x -/
structure IsNest (K : PySem.W.Frag) (x : Str) (F : NdefX.NF) : Prop where
  ex : ∃ (f : Addr) (o : Obj) (fd : FuncData) (st : Stmt), PySem.W.nsIn K mainGlobals (holdS x) = some (some (.ref f)) ∧ K.lookup f = some o ∧ o.data = .func fd ∧ (nestDefs fd.body)[holdI x]? = some st ∧ F = NdefX.NF.of st F.name F.qual F.cl F.c
/-- the cell c, which holds v -/
def CelO (c : Addr) (v : V) : HO := .ext fun h => ∃ u, RelV v u ∧ h.IsCell c (some u)
/-- a def made within x, its captured cells known -/
structure CloAt (K : PySem.W.Frag) (A : Addr → Prop) (H : Hp) (a : Addr) (x : Str) (vs : List V) : Prop where
  ex : ∃ F : NdefX.NF, IsNest K x F ∧ (H a = some (NdefX.FnO a F) ∧ ¬ A a) ∧ H F.c = some (LamX.CodeO F.c F.qual) ∧ vs.length = (freeOf F.scope).length ∧ (∀ y c, F.cl.lookup y = some c → y ∈ freeOf F.scope) ∧ (∀ y z c, F.cl.lookup y = some c → F.cl.lookup z = some c → y = z) ∧
    ∀ (i : Nat) (y : Str), (freeOf F.scope)[i]? = some y → ∃ c o v, F.cl.lookup y = some c ∧ vs[i]? = some v ∧ H c = some (.frz o (CelO c v)) ∧ ¬ A c
/-- .. made by the running frame, its cells the frame's own -/
structure Clo0 (K : PySem.W.Frag) (A : Addr → Prop) (H : Hp) (a : Addr) (x : Str) (cl : List (Str × Addr)) : Prop where
  ex : ∃ F : NdefX.NF, IsNest K x F ∧ (H a = some (NdefX.FnO a F) ∧ ¬ A a) ∧ H F.c = some (LamX.CodeO F.c F.qual) ∧ F.cl = cl
/-- a thing at an address, told elsewhere -/
abbrev ADR (b : Addr) : PyData := .dict [(.int (b : Nat), .none)]
abbrev FN (x : Str) (ds : List PyData) : PyData := .dict [(.str x, .tuple ds)]
abbrev FN0 (x : Str) (cl : List (Str × Addr)) : PyData := .dict [(.str x, .list (cl.map fun y => .tuple [.str y.1, .int (y.2 : Nat)]))]
def keyD : Key → PyData
  | .inl i => .int i
  | .inr x => .str x
/-- a dict that is read only -/
abbrev DV (ks : List Key) (ds : List PyData) : PyData := .dict [(.none, .tuple (ks.map keyD)), (.none, .tuple ds)]
def DAt (A : Addr → Prop) (H : Hp) (a : Addr) (kvs : List (Key × V)) : Prop := Rd H a (.dK kvs) ∧ ¬ A a
mutual
inductive Rp (K : PySem.W.Frag) (A : Addr → Prop) (H : Hp) : V → PyData → Prop
  | non : Rp K A H .non .none
  | bl (b : Bool) : Rp K A H (.bl b) (.bool b)
  | int (i : Int) : Rp K A H (.int i) (.int i)
  | str (x : Str) : Rp K A H (.str x) (.str x)
  | lst {a : Addr} {xs : List V} {ds : List PyData} : LAt K A H a xs → RpA K A H xs ds → Rp K A H (.ref a) (.list ds)
  | tup {a : Addr} {xs : List V} {ds : List PyData} : TAt K A H a xs → RpA K A H xs ds → Rp K A H (.ref a) (.tuple ds)
  | ro {a : Addr} {xs : List V} {ds : List PyData} : WAt K A H a xs → FlatA xs ds → Rp K A H (.ref a) (.dict [(.list ds, .none)])
  | fn {a : Addr} {x : Str} {vs : List V} {ds : List PyData} : CloAt K A H a x vs → RpA K A H vs ds → Rp K A H (.ref a) (.dict [(.str x, .tuple ds)])
  | fn0 {a : Addr} {x : Str} {cl : List (Str × Addr)} : Clo0 K A H a x cl → Rp K A H (.ref a) (.dict [(.str x, .list (cl.map fun y => .tuple [.str y.1, .int (y.2 : Nat)]))])
  | adr (b : Addr) : Rp K A H (.ref b) (.dict [(.int (b : Nat), .none)])
  | dct {a : Addr} {kvs : List (Key × V)} {ds : List PyData} : DAt A H a kvs → RpA K A H (kvs.map (·.2)) ds → Rp K A H (.ref a) (.dict [(.none, .tuple ((kvs.map (·.1)).map keyD)), (.none, .tuple ds)])
inductive RpA (K : PySem.W.Frag) (A : Addr → Prop) (H : Hp) : List V → List PyData → Prop
  | nil : RpA K A H [] []
  | cons {v : V} {vs : List V} {d : PyData} {ds : List PyData} : Rp K A H v d → RpA K A H vs ds → RpA K A H (v :: vs) (d :: ds)
end

/-- no table of codes -/
def NoTb (o : HO) : Prop := ∀ ps, o ≠ .tbl ps
theorem noTb_lst {xs : List V} : NoTb (.lst xs) := fun _ z => nomatch z
theorem noTb_tup {xs : List V} : NoTb (.tup xs) := fun _ z => nomatch z
theorem noTb_ext {φ : Heap → Prop} : NoTb (.ext φ) := fun _ z => nomatch z
theorem noTb_frz {o : Obj} {u : HO} : NoTb (.frz o u) := fun _ z => nomatch z
/-- what stood apart from A stands, apart from A' (a table of codes may have grown); codes stand -/
structure Mv (A : Addr → Prop) (H : Hp) (A' : Addr → Prop) (H' : Hp) : Prop where
  m : ∀ a o, H a = some o → ¬ A a → (NoTb o → H' a = some o) ∧ ¬ A' a ∧ H' a ≠ none
  c : ∀ a p q, H a = some (LamX.CodeO p q) → H' a = some (LamX.CodeO p q)
theorem mvX {A A' : Addr → Prop} {H H' : Hp} (f : ∀ a o, H a = some o → ¬ A a → H' a = some o ∧ ¬ A' a) (c : ∀ a p q, H a = some (LamX.CodeO p q) → H' a = some (LamX.CodeO p q) := by exact fun _ _ _ h => h) : Mv A H A' H' := ⟨fun a o h n => ⟨fun _ => (f a o h n).1, (f a o h n).2, by rw [(f a o h n).1]; exact fun z => nomatch z⟩, c⟩
theorem Mv.at {A A' : Addr → Prop} {H H' : Hp} (m : Mv A H A' H') {a : Addr} {o : HO} (h : H a = some o) (k : ¬ A a) (t : NoTb o) : H' a = some o ∧ ¬ A' a := ⟨(m.m a o h k).1 t, (m.m a o h k).2.1⟩
theorem Mv.trans {A B C : Addr → Prop} {H H1 H2 : Hp} (m : Mv A H B H1) (n : Mv B H1 C H2) : Mv A H C H2 := ⟨fun a o h k => by
  obtain ⟨h1, k1, l1⟩ := m.m a o h k
  cases e : H1 a with
  | none => exact absurd e l1
  | some o1 =>
    obtain ⟨h2, k2, l2⟩ := n.m a o1 e k1
    exact ⟨fun t => by
      have := h1 t
      rw [e] at this
      cases this
      exact h2 t, k2, l2⟩, fun a p q h => n.c a p q (m.c a p q h)⟩
theorem Mv.refl {A : Addr → Prop} {H : Hp} : Mv A H A H := mvX fun _ _ h k => ⟨h, k⟩
/-- a list is written -/
theorem code_upd {H : Hp} {p : Addr} {us : List V} {o : HO} (h : H p = some (.lst us)) : ∀ a x q, H a = some (LamX.CodeO x q) → upd H p o a = some (LamX.CodeO x q) := fun a x q e => by
  rw [upd_ne fun z => by subst z; rw [h] at e; cases e]
  exact e
section
variable {K : PySem.W.Frag} {A A' : Addr → Prop} {H H' : Hp}
theorem Mv.rd (m : Mv A H A' H') {a : Addr} {u : HO} (h : Rd H a u) (k : ¬ A a) (t : NoTb u) : Rd H' a u ∧ ¬ A' a := by
  rcases h with h | ⟨o, h⟩
  · exact ⟨.inl (m.at h k t).1, (m.at h k t).2⟩
  · exact ⟨.inr ⟨o, (m.at h k noTb_frz).1⟩, (m.at h k noTb_frz).2⟩
theorem LAt.move (m : Mv A H A' H') {a : Addr} {xs : List V} (h : LAt K A H a xs) : LAt K A' H' a xs := m.at h.1 h.2 noTb_lst
theorem WAt.move (m : Mv A H A' H') {a : Addr} {xs : List V} (h : WAt K A H a xs) : WAt K A' H' a xs := h.elim (fun x => .inl (m.rd x.1 x.2 noTb_lst)) .inr
theorem FlatA.rp : ∀ {vs : List V} {ds : List PyData}, FlatA vs ds → RpA K A H vs ds
  | _, _, .nil => .nil
  | _, _, .int i f => .cons (.int i) f.rp
  | _, _, .str x f => .cons (.str x) f.rp
theorem TAt.move (m : Mv A H A' H') {a : Addr} {xs : List V} (h : TAt K A H a xs) : TAt K A' H' a xs := h.elim (fun x => .inl (m.rd x.1 x.2 noTb_tup)) .inr
theorem CloAt.move (m : Mv A H A' H') {a : Addr} {x : Str} {vs : List V} (h : CloAt K A H a x vs) : CloAt K A' H' a x vs := by
  obtain ⟨F, h1, h2, h3, h4, h5, h6, h7⟩ := h.ex
  refine ⟨F, h1, m.at h2.1 h2.2 noTb_ext, m.c _ _ _ h3, h4, h5, h6, fun i y e => ?_⟩
  obtain ⟨c, o, v, e1, e2, e3, e4⟩ := h7 i y e
  exact ⟨c, o, v, e1, e2, (m.at e3 e4 noTb_frz).1, (m.at e3 e4 noTb_frz).2⟩
theorem Clo0.move (m : Mv A H A' H') {a : Addr} {x : Str} {cl : List (Str × Addr)} (h : Clo0 K A H a x cl) : Clo0 K A' H' a x cl := by
  obtain ⟨F, h1, h2, h3, h4⟩ := h.ex
  exact ⟨F, h1, m.at h2.1 h2.2 noTb_ext, m.c _ _ _ h3, h4⟩
theorem noTb_dK {kvs : List (Key × V)} : NoTb (.dK kvs) := fun _ z => nomatch z
theorem DAt.move (m : Mv A H A' H') {a : Addr} {kvs : List (Key × V)} (h : DAt A H a kvs) : DAt A' H' a kvs := m.rd h.1 h.2 noTb_dK
mutual
theorem Rp.move (m : Mv A H A' H') : ∀ (d : PyData) (v : V), Rp K A H v d → Rp K A' H' v d
  | .none, _, h => by cases h; exact .non
  | .bool b, _, h => by cases h; exact .bl b
  | .int i, _, h => by cases h; exact .int i
  | .str x, _, h => by cases h; exact .str x
  | .list ds, _, h => by
    cases h with
    | lst l r => exact .lst (l.move m) (RpA.move m ds _ r)
  | .tuple ds, _, h => by
    cases h with
    | tup l r => exact .tup (l.move m) (RpA.move m ds _ r)
  | .dict [(.list _, .none)], _, h => by
    cases h with
    | ro w f => exact .ro (w.move m) f
  | .dict [(.str _, .tuple ds)], _, h => by
    cases h with
    | fn c r => exact .fn (c.move m) (RpA.move m ds _ r)
  | .dict [(.str _, .list _)], _, h => by
    cases h with
    | fn0 c => exact .fn0 (c.move m)
  | .dict [(.int _, .none)], _, h => by
    cases h with
    | adr b => exact .adr b
  | .dict [(.none, .tuple _), (.none, .tuple ds)], _, h => by
    cases h with
    | dct c r => exact .dct (c.move m) (RpA.move m ds _ r)
theorem RpA.move (m : Mv A H A' H') : ∀ (ds : List PyData) (vs : List V), RpA K A H vs ds → RpA K A' H' vs ds
  | [], _, h => by cases h; exact .nil
  | d :: ds, _, h => by
    cases h with
    | cons h1 h2 => exact .cons (Rp.move m d _ h1) (RpA.move m ds _ h2)
end
theorem Rp.mv {v : V} {d : PyData} (h : Rp K A H v d) (m : Mv A H A' H') : Rp K A' H' v d := Rp.move m d v h
theorem RpA.mv {vs : List V} {ds : List PyData} (h : RpA K A H vs ds) (m : Mv A H A' H') : RpA K A' H' vs ds := RpA.move m ds vs h
mutual
theorem Rp.dp : ∀ (d : PyData) (v : V), Rp K A H v d → d.canLay0 = true → Dp K H v d
  | .none, _, h, _ => by cases h; exact .non
  | .bool b, _, h, _ => by cases h; exact .bl b
  | .int i, _, h, _ => by cases h; exact .int i
  | .str x, _, h, _ => by cases h; exact .str x
  | .list ds, _, h, s => by
    cases h with
    | lst l r => exact .lst l.sq (RpA.dp ds _ r (by simpa [PyData.canLay0] using s))
  | .tuple ds, _, h, s => by
    cases h with
    | tup l r => exact .tup l.sq (RpA.dp ds _ r (by simpa [PyData.canLay0] using s))
  | .dict _, _, h, s => by simp [PyData.canLay0] at s
theorem RpA.dp : ∀ (ds : List PyData) (vs : List V), RpA K A H vs ds → PyData.canLayAll0 ds = true → DpAll K H vs ds
  | [], _, h, _ => by cases h; exact .nil
  | d :: ds, _, h, s => by
    cases h with
    | cons h1 h2 =>
      simp only [PyData.canLayAll0, Bool.and_eq_true] at s
      exact .cons (Rp.dp d _ h1 s.1) (RpA.dp ds _ h2 s.2)
end
theorem RpA.length : ∀ {vs : List V} {ds : List PyData}, RpA K A H vs ds → vs.length = ds.length
  | _, [], h => by cases h; rfl
  | _, _ :: ds, h => by
    cases h with
    | cons h1 h2 => simp [RpA.length h2]
theorem RpA.get : ∀ {vs : List V} {ds : List PyData} {i : Nat} {d : PyData}, RpA K A H vs ds → ds[i]? = some d → ∃ v, vs[i]? = some v ∧ Rp K A H v d
  | _, [], _, _, h, e => by simp at e
  | _, _ :: ds, 0, _, h, e => by
    cases h with
    | cons h1 h2 => simp at e; subst e; exact ⟨_, rfl, h1⟩
  | _, _ :: ds, i + 1, _, h, e => by
    cases h with
    | cons h1 h2 =>
      obtain ⟨v, h3, h4⟩ := RpA.get (i := i) h2 (by simpa using e)
      exact ⟨v, by simpa using h3, h4⟩
theorem RpA.app : ∀ {vs ws : List V} {ds es : List PyData}, RpA K A H vs ds → RpA K A H ws es → RpA K A H (vs ++ ws) (ds ++ es)
  | _, _, [], _, h, k => by cases h; exact k
  | _, _, _ :: ds, _, h, k => by
    cases h with
    | cons h1 h2 => exact .cons h1 (RpA.app h2 k)
theorem RpA.set : ∀ {vs : List V} {ds : List PyData} {v : V} {d : PyData} (i : Nat), RpA K A H vs ds → Rp K A H v d → RpA K A H (vs.set i v) (ds.set i d)
  | _, [], _, _, _, h, _ => by cases h; exact .nil
  | _, _ :: ds, _, _, 0, h, k => by
    cases h with
    | cons h1 h2 => exact .cons k h2
  | _, _ :: ds, _, _, i + 1, h, k => by
    cases h with
    | cons h1 h2 => exact .cons h1 (RpA.set i h2 k)
theorem RpA.take : ∀ {vs : List V} {ds : List PyData} (i : Nat), RpA K A H vs ds → RpA K A H (vs.take i) (ds.take i)
  | _, _, 0, h => by simp; exact .nil
  | _, [], _ + 1, h => by cases h; exact .nil
  | _, _ :: ds, i + 1, h => by
    cases h with
    | cons h1 h2 => exact .cons h1 (RpA.take i h2)
theorem RpA.drop : ∀ {vs : List V} {ds : List PyData} (i : Nat), RpA K A H vs ds → RpA K A H (vs.drop i) (ds.drop i)
  | _, _, 0, h => by simpa using h
  | _, [], _ + 1, h => by cases h; exact .nil
  | _, _ :: ds, i + 1, h => by
    cases h with
    | cons h1 h2 => exact RpA.drop i h2
theorem RpA.ints : ∀ {vs : List V} {ns : List Int}, RpA K A H vs (ns.map PyData.int) → vs = ns.map V.int
  | _, [], h => by cases h; rfl
  | _, _ :: ns, h => by
    cases h with
    | cons h1 h2 => cases h1; simp [RpA.ints h2]
theorem RpA.ofInts : ∀ (ns : List Int), RpA K A H (ns.map V.int) (ns.map PyData.int)
  | [] => .nil
  | n :: ns => .cons (.int n) (RpA.ofInts ns)
end

/-! ### slots -/
inductive Cell where
  | v (d : PyData)
  | l (p : Bool) (ds : List PyData)
abbrev Rho := List (Option Cell)
/-- the defs that hold generator expressions, whatever the law -/
def tabNames : List Str := (["is_word", "is_rule", "is_chain", "is_book", "_jumps_onwards", "_restricted_rules", "whole_ranges", "is_numeral", "read_items", "is_sight", "_may_break", "compiled", "is_key", "is_byte_row", "switches", "_words", "_is_inner", "is_ascending", "accepted_view", "is_plain", "places_of", "field_ranges", "field_parts", "_fitting", "_bounds_reached", "is_history", "thrown_sets", "is_program", "is_instruction", "_is_case", "_all_before", "is_row", "_are_states", "_are_lengths", "_with_places", "is_double", "_is_double_chain", "flattened", "members", "is_box", "in_box", "whole_box", "box_of", "is_plan", "_are_conditions", "woven", "smooth_orders", "check_steps", "_is_smooth", "_is_thrown", "_are_sets", "_are_stops", "is_byte_box", "is_journal", "shortened", "passing", "_spare", "suite_of", "relinked"] : List String).map Str.ofString
def tblP (p : Addr) (h : Heap) : Prop := ∃ ps : Array Value, h.get? p = some { cls := .none, data := .fields ps } ∧ TriplesOk ps.toList
/-- a table of codes, however long it has grown -/
def tblO (p : Addr) : HO := .ext (tblP p)
def TsE (K : PySem.W.Frag) (H : Hp) : Prop := ∀ x ∈ tabNames, ∀ cc p, PySem.W.tabIn K x = some (cc, p) → H p = some (tblO p)
/-- the defs that hold a def (or a lambda), whatever the law; its code's name -/
def nestNames : List (Str × Str) := ([("walk", "walk.<locals>.asked"), ("settled", "settled.<locals>.asked"), ("_decided", "_decided.<locals>.asked"), ("plan_of", "plan_of.<locals>.grown"), ("joined_plans", "joined_plans.<locals>.joined"), ("differing", "differing.<locals>.parting"), ("_taken_out", "_taken_out.<locals>.<lambda>"), ("_without_twice", "_without_twice.<locals>.<lambda>"), ("comes_true", "comes_true.<locals>.<lambda>"), ("run_row", "run_row.<locals>.<lambda>"), ("states_after", "states_after.<locals>.<lambda>"), ("tally", "tally.<locals>.<lambda>"), ("seen_at", ""), ("_asked", "")] : List (String × String)).map fun p => (Str.ofString p.1, Str.ofString p.2)
/-- their tables of codes: what they tell is tracked -/
def NsOk (K : PySem.W.Frag) (H : Hp) : Prop := ∀ x ∈ nestNames, ∀ cc p, PySem.W.tabIn K x.1 = some (cc, p) → NdefX.TabN H p (nmAt K x)
def TsOk (K : PySem.W.Frag) (H : Hp) : Prop := TsE K H ∧ NsOk K H
/-- the heap grows: all is kept, but such tables, which may grow -/
structure Kp (K : PySem.W.Frag) (H H' : Hp) : Prop where
  k : ∀ a o, H a = some o → NoTb o → H' a = some o
  n : ∀ a, H a ≠ none → H' a ≠ none
  s : NsOk K H → NsOk K H'
theorem Kp.refl {K : PySem.W.Frag} {H : Hp} : Kp K H H := ⟨fun _ _ h _ => h, fun _ h => h, id⟩
theorem Kp.trans {K : PySem.W.Frag} {H H1 H2 : Hp} (a : Kp K H H1) (b : Kp K H1 H2) : Kp K H H2 := ⟨fun p o h t => b.k p o (a.k p o h t) t, fun p h => b.n p (a.n p h), fun z => b.s (a.s z)⟩
theorem Kp.free {K : PySem.W.Frag} {H H' : Hp} (a : Kp K H H') {p : Addr} (h : H' p = none) : H p = none := by
  cases e : H p with
  | none => rfl
  | some o => exact absurd h (a.n p (by rw [e]; exact fun z => nomatch z))
theorem NsOk.of {K : PySem.W.Frag} {H H' : Hp} (h : NsOk K H) (k : ∀ a o, H a = some o → H' a = some o) : NsOk K H' := fun x hx cc p ht => (h x hx cc p ht).ext k
/-- what a table leans on -/
def IsCd (o : HO) : Prop := (∃ ps, o = .tbl ps) ∨ ∃ c q, o = LamX.CodeO c q
theorem NsOk.but {K : PySem.W.Frag} {H H' : Hp} (h : NsOk K H) (k : ∀ a o, H a = some o → IsCd o → H' a = some o) : NsOk K H' := fun x hx cc p ht => by
  obtain ⟨ps, h1, h2, h3⟩ := h x hx cc p ht
  refine ⟨ps, k _ _ h1 (.inl ⟨_, rfl⟩), h2, fun pos cv hc => ?_⟩
  obtain ⟨c, e1, e2⟩ := h3 pos cv hc
  exact ⟨c, e1, k _ _ e2 (.inr ⟨_, _, rfl⟩)⟩
/-- .. but what lies in S -/
structure KpX (K : PySem.W.Frag) (S : Addr → Prop) (H H' : Hp) : Prop where
  k : ∀ a o, ¬ S a → H a = some o → NoTb o → H' a = some o
  n : ∀ a, ¬ S a → H a ≠ none → H' a ≠ none
  s : NsOk K H → NsOk K H'
theorem KpX.of {K : PySem.W.Frag} {S : Addr → Prop} {H H' : Hp} (hS : ∀ a, S a → ∃ us, H a = some (.lst us)) (k : ∀ a o, ¬ S a → H a = some o → H' a = some o) : KpX K S H H' where
  k := fun a o n h _ => k a o n h
  n := fun a n h => by
    cases e : H a with
    | none => exact absurd e h
    | some o => rw [k a o n e]; exact fun z => nomatch z
  s := fun z => NsOk.but z fun a o h c => k a o (fun y => by
    obtain ⟨us, e⟩ := hS a y
    rw [e] at h
    cases h
    rcases c with ⟨ps, z⟩ | ⟨c, q, z⟩ <;> cases z) h
abbrev KpB (K : PySem.W.Frag) (a : Addr) (H H' : Hp) : Prop := KpX K (fun b => b = a) H H'
theorem KpB.of {K : PySem.W.Frag} {a : Addr} {us : List V} {H H' : Hp} (h : H a = some (.lst us)) (k : ∀ b o, b ≠ a → H b = some o → H' b = some o) : KpB K a H H' := KpX.of (fun b e => ⟨us, by rw [e]; exact h⟩) k
theorem Kp.of {K : PySem.W.Frag} {H H' : Hp} (k : ∀ a o, H a = some o → H' a = some o) : Kp K H H' where
  k := fun a o h _ => k a o h
  n := fun a h => by
    cases e : H a with
    | none => exact absurd e h
    | some o => rw [k a o e]; exact fun z => nomatch z
  s := fun z => NsOk.of z k
structure Act (K : PySem.W.Frag) where
  A : Addr → Prop
  H0 : Hp
  pn : Nat → Option Addr
  ts : TsOk K H0
  tp : ∀ i a, pn i = some a → ∃ us, H0 a = some (.lst us)
def Act.plus {K : PySem.W.Frag} (c : Act K) (a : Addr) : Act K := { c with A := fun b => c.A b ∨ b = a }
def Own (ρ : Rho) (σ : L2.St) (a : Addr) : Prop := ∃ (i : Nat) (p : Bool) (ds : List PyData), ρ[i]? = some (some (Cell.l p ds)) ∧ σ[i]? = some (some (V.ref a))
def Av {K : PySem.W.Frag} (c : Act K) (ρ : Rho) (σ : L2.St) (a : Addr) : Prop := c.A a ∨ Own ρ σ a
structure Rel (K : PySem.W.Frag) (c : Act K) (ρ : Rho) (σ : L2.St) (H : Hp) : Prop where
  len : ρ.length = σ.length
  val : ∀ (i : Nat) (d : PyData), ρ[i]? = some (some (.v d)) → ∃ v, σ[i]? = some (some v) ∧ Rp K (Av c ρ σ) H v d
  lst : ∀ (i : Nat) (p : Bool) (ds : List PyData), ρ[i]? = some (some (.l p ds)) → ∃ a vs, σ[i]? = some (some (.ref a)) ∧ H a = some (.lst vs) ∧ RpA K (Av c ρ σ) H vs ds ∧ (p = false → c.H0 a = none ∧ ¬ c.A a)
  dis : ∀ (i j : Nat) (p q : Bool) (ds es : List PyData) (a : Addr), ρ[i]? = some (some (.l p ds)) → ρ[j]? = some (some (.l q es)) → σ[i]? = some (some (.ref a)) → σ[j]? = some (some (.ref a)) → i = j
  pin : ∀ (i : Nat) (a : Addr), c.pn i = some a ↔ ∃ (ds : List PyData), ρ[i]? = some (some (.l true ds)) ∧ σ[i]? = some (some (V.ref a))
  pA : ∀ (i : Nat) (a : Addr), c.pn i = some a → c.A a
  old : ∀ (a : Addr) (o : HO), c.H0 a = some o → (∀ i, c.pn i ≠ some a) → NoTb o → H a = some o
  av : ∀ a, c.A a → H a ≠ none
  on : ∀ a, c.H0 a ≠ none → H a ≠ none
  nt : NsOk K H
abbrev Stp {K : PySem.W.Frag} (c : Act K) (ρ : Rho) (σ : L2.St) (H : Hp) (ρ' : Rho) (σ' : L2.St) (H' : Hp) : Prop := Mv (Av c ρ σ) H (Av c ρ' σ') H'
section
variable {K : PySem.W.Frag} {c : Act K} {ρ ρ' : Rho} {σ σ' : L2.St} {H H' : Hp}
theorem Rel.ts (R : Rel K c ρ σ H) : TsOk K H := ⟨fun x hx cc p ht => R.old p _ (c.ts.1 x hx cc p ht) (fun i z => by
  obtain ⟨us, e⟩ := c.tp i p z
  rw [c.ts.1 x hx cc p ht] at e
  cases e) noTb_ext, R.nt⟩
theorem Rel.own (R : Rel K c ρ σ H) {a : Addr} (h : Own ρ σ a) : ∃ vs, H a = some (.lst vs) := by
  obtain ⟨i, p, ds, h1, h2⟩ := h
  obtain ⟨b, vs, e1, e2, _⟩ := R.lst i p ds h1
  rw [h2] at e1
  cases e1
  exact ⟨vs, e2⟩
theorem Rel.avS (R : Rel K c ρ σ H) {a : Addr} (h : Av c ρ σ a) : H a ≠ none := by
  rcases h with h | h
  · exact R.av a h
  · obtain ⟨vs, e⟩ := R.own h
    rw [e]
    exact fun z => nomatch z
theorem Rel.noAv (R : Rel K c ρ σ H) {a : Addr} (h : H a = none) : ¬ Av c ρ σ a := fun z => R.avS z h
/-- the heap grows -/
theorem Rel.mvG (R : Rel K c ρ σ H) (k : Kp K H H') : Mv (Av c ρ σ) H (Av c ρ σ) H' := ⟨fun a o h n => ⟨k.k a o h, n, k.n a (by rw [h]; exact fun z => nomatch z)⟩, fun a p q h => k.k a _ h noTb_ext⟩
theorem Rel.grow (R : Rel K c ρ σ H) (k : Kp K H H') : Rel K c ρ σ H' where
  len := R.len
  val := fun i d h => by
    obtain ⟨v, e, r⟩ := R.val i d h
    exact ⟨v, e, r.mv (R.mvG k)⟩
  lst := fun i p ds h => by
    obtain ⟨a, vs, e, e2, r, q⟩ := R.lst i p ds h
    exact ⟨a, vs, e, k.k _ _ e2 noTb_lst, r.mv (R.mvG k), q⟩
  dis := R.dis
  pin := R.pin
  pA := R.pA
  old := fun a o h n t => k.k _ _ (R.old a o h n t) t
  av := fun a h => k.n a (R.av a h)
  on := fun a h => k.n a (R.on a h)
  nt := k.s R.nt
theorem ku_upd {p : Addr} {o : HO} (h : H p = none) : ∀ b x, H b = some x → upd H p o b = some x := fun b x e => by
  rw [upd_ne (ne_of_none e h)]
  exact e
theorem kp_upd {p : Addr} {o : HO} (h : H p = none) : Kp K H (upd H p o) := .of (ku_upd h)
/-- the heap grows, p among the new, kept apart -/
theorem Rel.mvP (R : Rel K c ρ σ H) {p : Addr} (h : H p = none) (k : Kp K H H') : Mv (Av c ρ σ) H (Av (c.plus p) ρ σ) H' := ⟨fun a x e n => ⟨k.k a x e, fun z => (by
    rcases z with (z | z) | z
    · exact n (.inl z)
    · subst z; rw [h] at e; cases e
    · exact n (.inr z)), k.n a (by rw [e]; exact fun z => nomatch z)⟩, fun a p q h => k.k a _ h noTb_ext⟩
theorem Rel.plus (R : Rel K c ρ σ H) {p : Addr} (h : H p = none) (k : Kp K H H') (hp : H' p ≠ none) : Rel K (c.plus p) ρ σ H' := by
  have m := R.mvP h k
  have R1 := R.grow k
  refine ⟨R.len, fun i d e => ?_, fun i p ds e => ?_, R.dis, R.pin, fun i a e => .inl (R.pA i a e), R1.old, fun a z => ?_, R1.on, R1.nt⟩
  · obtain ⟨v, e1, r⟩ := R.val i d e
    exact ⟨v, e1, r.mv m⟩
  · obtain ⟨a, vs, e1, e2, r, q⟩ := R.lst i p ds e
    exact ⟨a, vs, e1, k.k _ _ e2 noTb_lst, r.mv m, fun z => ⟨(q z).1, fun y => y.elim (q z).2 fun w => by subst w; rw [h] at e2; cases e2⟩⟩
  · rcases z with z | z
    · exact R1.av a z
    · subst z; exact hp
theorem Rel.fresh0 (R : Rel K c ρ σ H) {p : Addr} (h : H p = none) : c.H0 p = none := by
  cases e : c.H0 p with
  | none => rfl
  | some o => exact absurd h (R.on p (by rw [e]; exact fun z => nomatch z))
theorem mv_unplus {p : Addr} : Mv (Av (c.plus p) ρ σ) H (Av c ρ σ) H := mvX fun a o e n => ⟨e, fun z => n (z.elim (fun x => .inl (.inl x)) .inr)⟩
theorem Rel.unplus {p : Addr} (R : Rel K (c.plus p) ρ σ H) (pA : ∀ (i : Nat) (a : Addr), c.pn i = some a → c.A a) : Rel K c ρ σ H :=
  ⟨R.len, fun i d e => by
    obtain ⟨v, e1, r⟩ := R.val i d e
    exact ⟨v, e1, r.mv mv_unplus⟩, fun i p ds e => by
    obtain ⟨a, vs, e1, e2, r, q⟩ := R.lst i p ds e
    exact ⟨a, vs, e1, e2, r.mv mv_unplus, fun z => ⟨(q z).1, fun y => (q z).2 (.inl y)⟩⟩, R.dis, R.pin, pA, R.old, fun a z => R.av a (.inl z), R.on, R.nt⟩
theorem get_set {α : Type} {l : List α} {i j : Nat} {x : α} (h : i < l.length) : (l.set i x)[j]? = if i = j then some x else l[j]? := by
  rw [List.getElem?_set]
  by_cases e : i = j
  · subst e; simp [h]
  · simp [e]
theorem lt_of_get {α : Type} {l : List α} {i : Nat} {x : α} (h : l[i]? = some x) : i < l.length := by
  rcases Nat.lt_or_ge i l.length with h1 | h1
  · exact h1
  · rw [List.getElem?_eq_none h1] at h; cases h
/-- an owned list is written -/
theorem Rel.write (R : Rel K c ρ σ H) {i : Nat} {p : Bool} {ds ds' : List PyData} {a : Addr} {vs' : List V} (hi : ρ[i]? = some (some (.l p ds))) (ha : σ[i]? = some (some (.ref a)))
    (hw : H' a = some (.lst vs')) (kw : KpB K a H H') (r : RpA K (Av c ρ σ) H' vs' ds') : Rel K c (ρ.set i (some (.l p ds'))) σ H' ∧ Stp c ρ σ H (ρ.set i (some (.l p ds'))) σ H' := by
  have hl := lt_of_get hi
  have gs : ∀ j, (ρ.set i (some (Cell.l p ds')))[j]? = if i = j then some (some (Cell.l p ds')) else ρ[j]? := fun j => get_set hl
  have own : ∀ b, Own (ρ.set i (some (.l p ds'))) σ b → Own ρ σ b := fun b ⟨j, q, es, h1, h2⟩ => by
    rw [gs] at h1
    by_cases e : i = j
    · subst e; exact ⟨i, p, ds, hi, h2⟩
    · rw [if_neg e] at h1; exact ⟨j, q, es, h1, h2⟩
  have aown : Own ρ σ a := ⟨i, p, ds, hi, ha⟩
  have mv : Stp c ρ σ H (ρ.set i (some (.l p ds'))) σ H' := ⟨fun b o e n => by
    have nb : b ≠ a := fun z => n (by subst z; exact .inr aown)
    exact ⟨kw.k b o nb e, fun z => n (z.elim .inl fun x => .inr (own b x)), kw.n b nb (by rw [e]; exact fun z => nomatch z)⟩, fun b p q e => by
    have nb : b ≠ a := fun z => by
      subst z
      obtain ⟨a', vs, g1, g2, _⟩ := R.lst i _ ds hi
      rw [ha] at g1
      cases g1
      rw [g2] at e
      cases e
    exact kw.k b _ nb e noTb_ext⟩
  refine ⟨⟨by rw [List.length_set]; exact R.len, fun j d e => ?_, fun j q es e => ?_, fun j k q q' es es' b h1 h2 h3 h4 => ?_, fun j b => ?_, R.pA, fun b o e n t => ?_, fun b e => ?_, fun b e => ?_, ?_⟩, mv⟩
  · rw [gs] at e
    by_cases e1 : i = j
    · rw [if_pos e1] at e; cases e
    · rw [if_neg e1] at e
      obtain ⟨v, h1, h2⟩ := R.val j d e
      exact ⟨v, h1, h2.mv mv⟩
  · rw [gs] at e
    by_cases e1 : i = j
    · rw [if_pos e1] at e
      cases e
      subst e1
      obtain ⟨b, vs, h1, h2, h3, h4⟩ := R.lst i p ds hi
      rw [ha] at h1
      cases h1
      exact ⟨a, vs', ha, hw, r.mv <| mvX fun b o e n => ⟨e, fun z => n (z.elim .inl fun x => .inr (own b x))⟩, h4⟩
    · rw [if_neg e1] at e
      obtain ⟨b, vs, h1, h2, h3, h4⟩ := R.lst j q es e
      have nb : b ≠ a := fun z => e1 (by subst z; exact R.dis i j p q ds es b hi e ha h1)
      exact ⟨b, vs, h1, kw.k _ _ nb h2 noTb_lst, h3.mv mv, h4⟩
  · rw [gs] at h1 h2
    by_cases e1 : i = j
    · by_cases e2 : i = k
      · omega
      · rw [if_neg e2] at h2
        subst e1
        exact R.dis i k p q' ds es' b hi h2 h3 h4
    · rw [if_neg e1] at h1
      by_cases e2 : i = k
      · subst e2
        exact R.dis j i q p es ds b h1 hi h3 h4
      · rw [if_neg e2] at h2
        exact R.dis j k q q' es es' b h1 h2 h3 h4
  · rw [R.pin]
    constructor
    · rintro ⟨es, h1, h2⟩
      by_cases e : i = j
      · subst e
        rw [hi] at h1
        cases h1
        exact ⟨ds', by rw [gs, if_pos rfl], h2⟩
      · exact ⟨es, by rw [gs, if_neg e]; exact h1, h2⟩
    · rintro ⟨es, h1, h2⟩
      rw [gs] at h1
      by_cases e : i = j
      · subst e
        rw [if_pos rfl] at h1
        cases h1
        exact ⟨ds, hi, h2⟩
      · rw [if_neg e] at h1
        exact ⟨es, h1, h2⟩
  · have nb : b ≠ a := fun z => by
      subst z
      obtain ⟨b', vs, h1, h2, h3, h4⟩ := R.lst i p ds hi
      rw [ha] at h1
      cases h1
      cases p with
      | false => rw [(h4 rfl).1] at e; cases e
      | true => exact n i ((R.pin i b).mpr ⟨ds, hi, ha⟩)
    exact kw.k b o nb (R.old b o e n t) t
  · by_cases z : b = a
    · subst z; rw [hw]; exact fun z => nomatch z
    · exact kw.n b z (R.av b e)
  · by_cases z : b = a
    · subst z; rw [hw]; exact fun z => nomatch z
    · exact kw.n b z (R.on b e)
  · exact kw.s R.nt
end
end PG
end
section
set_option Elab.async false
set_option linter.all false
set_option maxRecDepth 100000
namespace PG
open PySem PySem.Spec PyProof.Rows L2

/-! ### what a program's parts do, on data -/
abbrev EF := Rho → Option (PyData × Rho)
abbrev NF := Rho → Option (List PyData × Rho)
abbrev TF := Rho → Option (Bool × Rho)
inductive Out where
  | next
  | brk
  | cont
  | ret (d : PyData)
  | retL (ds : List PyData)
abbrev SF := Rho → Option (Out × Rho)
abbrev GF := PyData → Rho → Option Rho

/-! expressions -/
@[simp] def eName (i : Nat) : EF := fun ρ => match ρ[i]? with
  | some (some (.v d)) => some (d, ρ)
  | _ => none
@[simp] def eFrz (i : Nat) : EF := fun ρ => match ρ[i]? with
  | some (some (.l false ds)) => some (.list ds, ρ.set i (some (.v (.list ds))))
  | _ => none
@[simp] def eC (d : PyData) : EF := fun ρ => some (d, ρ)
@[simp] def eUn (o : PyData → Option PyData) (f : EF) : EF := fun ρ => match f ρ with
  | some (x, ρ1) => (match o x with
    | some z => some (z, ρ1)
    | none => none)
  | none => none
@[simp] def eBin (o : PyData → PyData → Option PyData) (f g : EF) : EF := fun ρ => match f ρ with
  | some (x, ρ1) => (match g ρ1 with
    | some (y, ρ2) => (match o x y with
      | some z => some (z, ρ2)
      | none => none)
    | none => none)
  | none => none
@[simp] def eTest (f : TF) : EF := fun ρ => match f ρ with
  | some (b, ρ1) => some (.bool b, ρ1)
  | none => none
@[simp] def eIf (t : TF) (f g : EF) : EF := fun ρ => match t ρ with
  | some (true, ρ1) => f ρ1
  | some (false, ρ1) => g ρ1
  | none => none
@[simp] def nNil : NF := fun ρ => some ([], ρ)
@[simp] def nCons (f : EF) (g : NF) : NF := fun ρ => match f ρ with
  | some (x, ρ1) => (match g ρ1 with
    | some (xs, ρ2) => some (x :: xs, ρ2)
    | none => none)
  | none => none
@[simp] def eTup (f : NF) : EF := fun ρ => match f ρ with
  | some (xs, ρ1) => if xs.length ≤ 16777216 then some (.tuple xs, ρ1) else none
  | none => none
@[simp] def nDisp (f : NF) : NF := fun ρ => match f ρ with
  | some (xs, ρ1) => if xs.length ≤ 16777216 then some (xs, ρ1) else none
  | none => none
@[simp] def eLst (f : NF) : EF := fun ρ => match f ρ with
  | some (xs, ρ1) => some (.list xs, ρ1)
  | none => none
/-- a call of a def that changes nothing -/
@[simp] def eCall (F : List PyData → Option PyData) (f : NF) : EF := fun ρ => match f ρ with
  | some (xs, ρ1) => (match F xs with
    | some z => some (z, ρ1)
    | none => none)
  | none => none
/-- .. that hands back a new list -/
@[simp] def nCall (F : List PyData → Option (List PyData)) (f : NF) : NF := fun ρ => match f ρ with
  | some (xs, ρ1) => (match F xs with
    | some z => some (z, ρ1)
    | none => none)
  | none => none
/-- .. that changes the list at slot i, its first argument -/
@[simp] def eCallL (F : List PyData → List PyData → Option (PyData × List PyData)) (i : Nat) (f : NF) : EF := fun ρ => match ρ[i]? with
  | some (some (.l _ _)) => (match f ρ with
    | some (xs, ρ1) => (match ρ1[i]? with
      | some (some (.l p ps)) => (match F ps xs with
        | some (z, ps') => some (z, ρ1.set i (some (.l p ps')))
        | none => none)
      | _ => none)
    | none => none)
  | _ => none
/-- .. and hands back a new list -/
@[simp] def nCallL (F : List PyData → List PyData → Option (List PyData × List PyData)) (i : Nat) (f : NF) : NF := fun ρ => match ρ[i]? with
  | some (some (.l _ _)) => (match f ρ with
    | some (xs, ρ1) => (match ρ1[i]? with
      | some (some (.l p ps)) => (match F ps xs with
        | some (z, ps') => some (z, ρ1.set i (some (.l p ps')))
        | none => none)
      | _ => none)
    | none => none)
  | _ => none
/-- xs[e] of an owned list -/
@[simp] def eIxL (o : PyData → PyData → Option PyData) (i : Nat) (g : EF) : EF := fun ρ => match ρ[i]? with
  | some (some (.l _ _)) => (match g ρ with
    | some (y, ρ1) => (match ρ1[i]? with
      | some (some (.l _ ps)) => (match o (.list ps) y with
        | some z => some (z, ρ1)
        | none => none)
      | _ => none)
    | none => none)
  | _ => none
@[simp] def eUnL (o : PyData → Option PyData) (i : Nat) : EF := fun ρ => match ρ[i]? with
  | some (some (.l _ ps)) => (match o (.list ps) with
    | some z => some (z, ρ)
    | none => none)
  | _ => none

/-! tests -/
@[simp] def truth : PyData → Option Bool
  | .none => some false
  | .bool b => some b
  | .int i => some (i != 0)
  | .str x => if x.length ≤ 16777216 then some ((x.length : Int) != 0) else none
  | .list xs => some (!xs.isEmpty)
  | .tuple xs => some (!xs.isEmpty)
  | .dict _ => none
@[simp] def tTru (f : EF) : TF := fun ρ => match f ρ with
  | some (x, ρ1) => (match truth x with
    | some b => some (b, ρ1)
    | none => none)
  | none => none
def asB : PyData → Option Bool
  | .bool b => some b
  | _ => none
@[simp] def tBl (f : EF) : TF := fun ρ => match f ρ with
  | some (.bool b, ρ1) => some (b, ρ1)
  | _ => none
@[simp] def tAnd' (f g : TF) : TF := fun ρ => match f ρ with
  | some (true, ρ1) => g ρ1
  | some (false, ρ1) => some (false, ρ1)
  | none => none
@[simp] def tOr' (f g : TF) : TF := fun ρ => match f ρ with
  | some (true, ρ1) => some (true, ρ1)
  | some (false, ρ1) => g ρ1
  | none => none
@[simp] def tNot' (f : TF) : TF := fun ρ => match f ρ with
  | some (b, ρ1) => some (!b, ρ1)
  | none => none
/-- and, or as values -/
@[simp] def eAnd (f g : EF) : EF := fun ρ => match f ρ with
  | some (x, ρ1) => (match truth x with
    | some true => g ρ1
    | some false => some (x, ρ1)
    | none => none)
  | none => none
@[simp] def eOr (f g : EF) : EF := fun ρ => match f ρ with
  | some (x, ρ1) => (match truth x with
    | some true => some (x, ρ1)
    | some false => g ρ1
    | none => none)
  | none => none
@[simp] def eNot (f : EF) : EF := fun ρ => match f ρ with
  | some (x, ρ1) => (match truth x with
    | some b => some (.bool (!b), ρ1)
    | none => none)
  | none => none
/-- a < b < c of ints -/
@[simp] def eChain (o o' : PyData → PyData → Option PyData) (f g h : EF) : EF := fun ρ => match f ρ with
  | some (x, ρ1) => (match g ρ1 with
    | some (y, ρ2) => (match o x y with
      | some (.bool true) => (match h ρ2 with
        | some (z, ρ3) => (match o' y z with
          | some (.bool b) => some (.bool b, ρ3)
          | _ => none)
        | none => none)
      | some (.bool false) => some (.bool false, ρ2)
      | _ => none)
    | none => none)
  | none => none

/-! statements -/
@[simp] def setV (i : Nat) (d : PyData) (ρ : Rho) : Option Rho := match ρ[i]? with
  | none => none
  | some (some (.l true _)) => none
  | _ => some (ρ.set i (some (.v d)))
@[simp] def setL (i : Nat) (ds : List PyData) (ρ : Rho) : Option Rho := match ρ[i]? with
  | none => none
  | some (some (.l true _)) => none
  | _ => some (ρ.set i (some (.l false ds)))
@[simp] def sSet (i : Nat) (f : EF) : SF := fun ρ => match f ρ with
  | some (d, ρ1) => (match setV i d ρ1 with
    | some ρ2 => some (.next, ρ2)
    | none => none)
  | none => none
@[simp] def sSetL (i : Nat) (f : NF) : SF := fun ρ => match f ρ with
  | some (ds, ρ1) => (match setL i ds ρ1 with
    | some ρ2 => some (.next, ρ2)
    | none => none)
  | none => none
@[simp] def sSeq (f g : SF) : SF := fun ρ => match f ρ with
  | some (.next, ρ1) => g ρ1
  | r => r
@[simp] def sNil : SF := fun ρ => some (.next, ρ)
@[simp] def sIf (t : TF) (f g : SF) : SF := fun ρ => match t ρ with
  | some (true, ρ1) => f ρ1
  | some (false, ρ1) => g ρ1
  | none => none
@[simp] def sRet (f : EF) : SF := fun ρ => match f ρ with
  | some (d, ρ1) => some (.ret d, ρ1)
  | none => none
@[simp] def sRetL (f : NF) : SF := fun ρ => match f ρ with
  | some (ds, ρ1) => some (.retL ds, ρ1)
  | none => none
/-- return of an owned list's name -/
@[simp] def sRetO (i : Nat) : SF := fun ρ => match ρ[i]? with
  | some (some (.l false ds)) => some (.retL ds, ρ)
  | _ => none
@[simp] def sExpr (f : EF) : SF := fun ρ => match f ρ with
  | some (_, ρ1) => some (.next, ρ1)
  | none => none
@[simp] def sBrk : SF := fun ρ => some (.brk, ρ)
@[simp] def sCont : SF := fun ρ => some (.cont, ρ)
/-- xs.append(e) of an owned list -/
@[simp] def sApp (i : Nat) (f : EF) : SF := fun ρ => match ρ[i]? with
  | some (some (.l _ _)) => (match f ρ with
    | some (d, ρ1) => (match ρ1[i]? with
      | some (some (.l p ds)) => if ds.length < 16777216 then some (.next, ρ1.set i (some (.l p (ds ++ [d])))) else none
      | _ => none)
    | none => none)
  | _ => none
def ixOf (n : Nat) (i : Int) : Option Nat := if 0 ≤ i then (if i < n then some i.toNat else none) else if -(n : Int) ≤ i then some (i + n).toNat else none
/-- xs[e] = f of an owned list -/
@[simp] def sSto (i : Nat) (g f : EF) : SF := fun ρ => match f ρ with
  | some (d, ρ1) => (match ρ1[i]? with
    | some (some (.l _ _)) => (match g ρ1 with
      | some (.int k, ρ2) => (match ρ2[i]? with
        | some (some (.l p ds)) => (match ixOf ds.length k with
          | some j => some (.next, ρ2.set i (some (.l p (ds.set j d))))
          | none => none)
        | _ => none)
      | _ => none)
    | _ => none)
  | none => none
def forL (g : GF) (b : SF) : List PyData → SF
  | [], ρ => some (.next, ρ)
  | d :: ds, ρ => match g d ρ with
    | none => none
    | some ρ1 => match b ρ1 with
      | some (.next, ρ2) => forL g b ds ρ2
      | some (.cont, ρ2) => forL g b ds ρ2
      | some (.brk, ρ2) => some (.next, ρ2)
      | r => r
def sFor (it : NF) (g : GF) (b : SF) : SF := fun ρ => match it ρ with
  | some (ds, ρ1) => forL g b ds ρ1
  | none => none
def whl (t : TF) (b : SF) : Nat → SF
  | 0, _ => none
  | n + 1, ρ => match t ρ with
    | some (true, ρ1) => (match b ρ1 with
      | some (.next, ρ2) => whl t b n ρ2
      | some (.cont, ρ2) => whl t b n ρ2
      | some (.brk, ρ2) => some (.next, ρ2)
      | r => r)
    | some (false, ρ1) => some (.next, ρ1)
    | none => none
def sWhile (n : Rho → Nat) (t : TF) (b : SF) : SF := fun ρ => whl t b (n ρ) ρ
/-- targets -/
@[simp] def gSet (i : Nat) : GF := fun d ρ => setV i d ρ
@[simp] def gPairs : List Nat → List PyData → Rho → Option Rho
  | [], [], ρ => some ρ
  | i :: is, d :: ds, ρ => (match setV i d ρ with
    | some ρ1 => gPairs is ds ρ1
    | none => none)
  | _, _, _ => none
@[simp] def gTupS (is : List Nat) : GF := fun d ρ => match d with
  | .tuple ds => gPairs is ds ρ
  | _ => none
@[simp] def sAsg (f : EF) (g : GF) : SF := fun ρ => match f ρ with
  | some (d, ρ1) => (match g d ρ1 with
    | some ρ2 => some (.next, ρ2)
    | none => none)
  | none => none
/-- comprehensions -/
def wipeR (ρ : Rho) : List Nat → Rho
  | [] => ρ
  | v :: vs => (wipeR ρ vs).set v none
def plainAt (ρ : Rho) (vs : List Nat) : Bool := vs.all fun v => match ρ[v]? with
  | some none => true
  | some (some (.v _)) => true
  | _ => false
def compL (g : GF) (t : TF) (e : EF) (vs : List Nat) : List PyData → List PyData → Rho → Option (List PyData × Rho)
  | [], acc, ρ => some (acc, ρ)
  | d :: ds, acc, ρ => match g d ρ with
    | none => none
    | some ρ1 => match t ρ1 with
      | none => none
      | some (false, ρ2) => if plainAt ρ2 vs then compL g t e vs ds acc (wipeR ρ2 vs) else none
      | some (true, ρ2) => match e ρ2 with
        | none => none
        | some (y, ρ3) => if plainAt ρ3 vs && decide (acc.length < 16777216) then compL g t e vs ds (acc ++ [y]) (wipeR ρ3 vs) else none
def restR (ρ0 ρ : Rho) : List Nat → Rho
  | [] => ρ
  | v :: vs => (restR ρ0 ρ vs).set v (ρ0[v]?.getD none)
def nComp (it : NF) (g : GF) (t : TF) (e : EF) (vs : List Nat) : NF := fun ρ => match it ρ with
  | some (ds, ρ1) => if plainAt ρ1 vs then (match compL g t e vs ds [] (wipeR ρ1 vs) with
    | some (out, ρ2) => some (out, restR ρ1 ρ2 vs)
    | none => none) else none
  | none => none
@[simp] def tYesF : TF := fun ρ => some (true, ρ)

/-! operations on data -/
@[simp] def dAdd : PyData → PyData → Option PyData
  | .int i, .int j => some (.int (i + j))
  | .list xs, .list ys => if xs.length + ys.length ≤ 16777216 then some (.list (xs ++ ys)) else none
  | .tuple xs, .tuple ys => if xs.length + ys.length ≤ 16777216 then some (.tuple (xs ++ ys)) else none
  | .str x, .str y => if x.length + y.length ≤ 16777216 then some (.str (x ++ y)) else none
  | _, _ => none
@[simp] def dI2 (C : Int → Int → Bool) (g : Int → Int → PyData) : PyData → PyData → Option PyData
  | .int i, .int j => if C i j then some (g i j) else none
  | _, _ => none
@[simp] def cT : Int → Int → Bool := fun _ _ => true
@[simp] def dSub := dI2 cT fun i j => .int (i - j)
@[simp] def dMul := dI2 (fun i j => (decide (-18446744073709551616 < i) && decide (i < 18446744073709551616)) || (decide (-18446744073709551616 < j) && decide (j < 18446744073709551616))) fun i j => .int (i * j)
@[simp] def dDiv := dI2 (fun _ j => decide (0 < j) && decide (j < 18446744073709551616)) fun i j => .int (i / j)
@[simp] def dMod := dI2 (fun _ j => decide (0 < j)) fun i j => .int (i % j)
@[simp] def dShr := dI2 (fun _ j => decide (0 ≤ j)) fun i j => .int (i / 2 ^ j.toNat)
@[simp] def dLt := dI2 cT fun i j => .bool (decide (i < j))
@[simp] def dLe := dI2 cT fun i j => .bool (decide (i ≤ j))
@[simp] def dGt := dI2 cT fun i j => .bool (decide (j < i))
@[simp] def dGe := dI2 cT fun i j => .bool (decide (j ≤ i))
def dEq : PyData → PyData → Option PyData
  | .int i, .int j => some (.bool (decide (i = j)))
  | x, y => if SeqAt.shaped x && SeqAt.shaped y then some (.bool (PyData.eqv x y)) else none
def dNe : PyData → PyData → Option PyData
  | .int i, .int j => some (.bool (!decide (i = j)))
  | x, y => if SeqAt.shaped x && SeqAt.shaped y then some (.bool (!PyData.eqv x y)) else none
@[simp] def dNeg : PyData → Option PyData
  | .int i => some (.int (-i))
  | _ => none
@[simp] def isNone : PyData → Bool
  | .none => true
  | _ => false
@[simp] def dIsN : PyData → Option PyData := fun x => some (.bool (isNone x))
@[simp] def dNotN : PyData → Option PyData := fun x => some (.bool (!isNone x))
def atD (xs : List PyData) (i : Int) : Option PyData := (ixOf xs.length i).bind fun j => xs[j]?
/-- lists that are read only: the script's, the module's -/
def RO (ds : List PyData) : PyData := .dict [(.list ds, .none)]
@[simp] def dIx : PyData → PyData → Option PyData
  | .list xs, .int i => atD xs i
  | .tuple xs, .int i => atD xs i
  | .dict [(.list xs, .none)], .int i => atD xs i
  | _, _ => none
@[simp] def dLen : PyData → Option PyData
  | .list xs => some (.int xs.length)
  | .tuple xs => some (.int xs.length)
  | .dict [(.list xs, .none)] => some (.int xs.length)
  | .str x => if x.length ≤ 16777216 then some (.int x.length) else none
  | _ => none
def sIxD (n d : Nat) : Option Int → Nat
  | none => d
  | some v => if v < 0 then (v + (n : Int)).toNat else min v.toNat n
def cutD (xs : List PyData) (lo hi : Option Int) : List PyData := (xs.drop (sIxD xs.length 0 lo)).take (sIxD xs.length xs.length hi - sIxD xs.length 0 lo)
end PG
end
section
set_option Elab.async false
set_option linter.all false
set_option maxRecDepth 100000
namespace PG
open PySem PySem.Spec PyProof.Rows L2

/-! ### readings by data -/
def tE (K : PySem.W.Frag) (f : EF) : TE := fun σ H Q => ∃ (c : Act K) (ρ : Rho) (d : PyData) (ρ' : Rho), Rel K c ρ σ H ∧ f ρ = some (d, ρ') ∧
  ∀ v H', Rel K c ρ' σ H' → Rp K (Av c ρ' σ) H' v d → Stp c ρ σ H ρ' σ H' → Q v H'
def tT (K : PySem.W.Frag) (f : TF) : TT := fun σ H Q => ∃ (c : Act K) (ρ : Rho) (b : Bool) (ρ' : Rho), Rel K c ρ σ H ∧ f ρ = some (b, ρ') ∧
  ∀ H', Rel K c ρ' σ H' → Stp c ρ σ H ρ' σ H' → Q b H'
def tA (K : PySem.W.Frag) (f : NF) : TA := fun σ H Q => ∃ (c : Act K) (ρ : Rho) (ds : List PyData) (ρ' : Rho), Rel K c ρ σ H ∧ f ρ = some (ds, ρ') ∧
  ∀ vs H', Rel K c ρ' σ H' → RpA K (Av c ρ' σ) H' vs ds → Stp c ρ σ H ρ' σ H' → Q vs H'
/-- a new list -/
def tN (K : PySem.W.Frag) (f : NF) : TE := fun σ H Q => ∃ (c : Act K) (ρ : Rho) (ds : List PyData) (ρ' : Rho), Rel K c ρ σ H ∧ f ρ = some (ds, ρ') ∧
  ∀ a vs H', Rel K (c.plus a) ρ' σ H' → H' a = some (.lst vs) → RpA K (Av (c.plus a) ρ' σ) H' vs ds → ¬ Av c ρ' σ a → c.H0 a = none → (¬ Av c ρ σ a → H a = none) → Stp c ρ σ H ρ' σ H' → Q (.ref a) H'

section
variable {X : Cx} {e a b : Expr} {pos : Pos} {f g h : EF} {tf tg : TF} {n m : NF}
theorem pe_of {t t' : TE} (h : PE X e t) (k : ∀ σ H Q, t' σ H Q → t σ H Q) : PE X e t' := ⟨fun pins s σ H Q I q => h.run pins s σ H Q I (k σ H Q q)⟩
theorem pt_of {t t' : TT} (h : PT X e t) (k : ∀ σ H Q, t' σ H Q → t σ H Q) : PT X e t' := ⟨fun pins s σ H Q I q => h.run pins s σ H Q I (k σ H Q q)⟩
theorem pw_of {t t' : TT} (h : PW X e t) (k : ∀ σ H Q, t' σ H Q → t σ H Q) : PW X e t' := ⟨fun wh pins s σ H Q I q => h.run wh pins s σ H Q I (k σ H Q q)⟩
theorem pa_of {es : List Expr} {t t' : TA} (h : PA X es t) (k : ∀ σ H Q, t' σ H Q → t σ H Q) : PA X es t' := ⟨fun p pins s σ H Q I q => h.run p pins s σ H Q I (k σ H Q q)⟩
theorem ps_of {st : Stmt} {t t' : TS} (h : PS X st t) (k : ∀ D σ H, t' D σ H → t D σ H) : PS X st t' := ⟨fun pins s σ H D I q => h.run pins s σ H D I (k D σ H q)⟩
theorem pss_of {st : List Stmt} {t t' : TS} (h : PSs X st t) (k : ∀ D σ H, t' D σ H → t D σ H) : PSs X st t' := ⟨fun pins s σ H D I q => h.run pins s σ H D I (k D σ H q)⟩

/-! names, constants -/
theorem ev_name {i : Nat} (h : PE X e (tVar i)) : PE X e (tE X.K (eName i)) := pe_of h fun σ H Q ⟨c, ρ, d, ρ', R, e, q⟩ => by
  unfold eName at e
  split at e
  · rename_i d' hd
    cases e
    obtain ⟨v, h1, h2⟩ := R.val i d hd
    exact ⟨v, h1, q v H R h2 Mv.refl⟩
  · cases e
theorem ev_c {v : V} {d : PyData} (h : PE X e (tC v)) (r : ∀ A H, Rp X.K A H v d) : PE X e (tE X.K (eC d)) := pe_of h fun σ H Q ⟨c, ρ, d', ρ', R, e, q⟩ => by
  cases e
  exact q v H R (r _ _) Mv.refl
theorem ev_int {i : Int} {j} : PE X (.Constant (.int i) j pos) (tE X.K (eC (.int i))) := ev_c pe_int fun _ _ => .int i
theorem ev_bool {b : Bool} {j} : PE X (.Constant (.bool b) j pos) (tE X.K (eC (.bool b))) := ev_c pe_bl fun _ _ => .bl b
theorem ev_none {j} : PE X (.Constant .none j pos) (tE X.K (eC .none)) := ev_c pe_non fun _ _ => .non
theorem ev_str {x : Str} {j} : PE X (.Constant (.str x) j pos) (tE X.K (eC (.str x))) := ev_c pe_str fun _ _ => .str x
/-! ### operations -/
def OpS (K : PySem.W.Frag) (r : R2) (o : PyData → PyData → Option PyData) : Prop := ∀ (c : Act K) (ρ : Rho) (σ : L2.St) (H : Hp) (v1 v2 : V) (x y d : PyData) (Q : VK), Rel K c ρ σ H → Rp K (Av c ρ σ) H v1 x → Rp K (Av c ρ σ) H v2 y → o x y = some d →
  (∀ v H', Rel K c ρ σ H' → Rp K (Av c ρ σ) H' v d → Kp K H H' → Q v H') → r v1 v2 H Q
def UnS (K : PySem.W.Frag) (r : V → Hp → VK → Prop) (o : PyData → Option PyData) : Prop := ∀ (c : Act K) (ρ : Rho) (σ : L2.St) (H : Hp) (v1 : V) (x d : PyData) (Q : VK), Rel K c ρ σ H → Rp K (Av c ρ σ) H v1 x → o x = some d →
  (∀ v H', Rel K c ρ σ H' → Rp K (Av c ρ σ) H' v d → Kp K H H' → Q v H') → r v1 H Q
theorem bin_inv {o : PyData → PyData → Option PyData} {ρ ρ' : Rho} {d : PyData} (h : eBin o f g ρ = some (d, ρ')) : ∃ x ρ1 y, f ρ = some (x, ρ1) ∧ g ρ1 = some (y, ρ') ∧ o x y = some d := by
  unfold eBin at h
  split at h
  · rename_i x ρ1 h1
    split at h
    · rename_i y ρ2 h2
      split at h
      · rename_i z h3
        cases h
        exact ⟨x, ρ1, y, h1, h2, h3⟩
      · cases h
    · cases h
  · cases h
theorem un_inv' {o : PyData → Option PyData} {ρ ρ' : Rho} {d : PyData} (h : eUn o f ρ = some (d, ρ')) : ∃ x, f ρ = some (x, ρ') ∧ o x = some d := by
  unfold eUn at h
  split at h
  · rename_i x ρ1 h1
    split at h
    · rename_i z h3
      cases h
      exact ⟨x, h1, h3⟩
    · cases h
  · cases h
theorem rd_bin {K : PySem.W.Frag} {r : R2} {o : PyData → PyData → Option PyData} (s : OpS K r o) : ∀ σ H Q, tE K (eBin o f g) σ H Q → tOp r (tE K f) (tE K g) σ H Q := fun σ H Q ⟨c, ρ, d, ρ', R, e, q⟩ => by
  obtain ⟨x, ρ1, y, h1, h2, h3⟩ := bin_inv e
  refine ⟨c, ρ, x, ρ1, R, h1, fun v1 H1 R1 r1 m1 => ⟨c, ρ1, y, ρ', R1, h2, fun v2 H2 R2 r2 m2 => ?_⟩⟩
  exact s c ρ' σ H2 v1 v2 x y d Q R2 (r1.mv m2) r2 h3 fun v H' R' r' k => q v H' R' r' ((m1.trans m2).trans (R2.mvG k))
theorem ev_op {op : Operator} {r : R2} {o : PyData → PyData → Option PyData} (ho : OpR X (binaryOp op) r) (s : OpS X.K r o) (ha : PE X a (tE X.K f)) (hb : PE X b (tE X.K g)) : PE X (.BinOp a op b pos) (tE X.K (eBin o f g)) :=
  pe_of (pe_op ho ha hb) (rd_bin s)
theorem ev_cmp {op : CmpOp} {r : R2} {o : PyData → PyData → Option PyData} (ho : OpR X (compareOp op) r) (s : OpS X.K r o) (ha : PE X a (tE X.K f)) (hb : PE X b (tE X.K g)) (hm : behindInMarks op b = false) : PE X (.Compare a [op] [b] pos) (tE X.K (eBin o f g)) :=
  pe_of (pe_cmpR ho ha hb hm) (rd_bin s)
theorem ev_ix {r : R2} {o : PyData → PyData → Option PyData} (hr : IxR X r) (s : OpS X.K r o) (ha : PE X a (tE X.K f)) (hb : PE X b (tE X.K g)) (hs : PlainIx b) : PE X (.Subscript a b pos) (tE X.K (eBin o f g)) :=
  pe_of (pe_ix hr ha hb hs) (rd_bin s)
theorem bl_inv {ρ ρ' : Rho} {b : Bool} (h : tBl f ρ = some (b, ρ')) : f ρ = some (.bool b, ρ') := by
  unfold tBl at h
  split at h
  · rename_i b' ρ1 h1
    cases h
    exact h1
  · cases h
theorem rd_bl {K : PySem.W.Frag} {t : TE} (k : ∀ σ H Q, tE K f σ H Q → t σ H Q) : ∀ σ H Q, tT K (tBl f) σ H Q → tTest t σ H Q := fun σ H Q ⟨c, ρ, d, ρ', R, e, q⟩ =>
  k σ H _ ⟨c, ρ, .bool d, ρ', R, bl_inv e, fun v H' R' r' m => by cases r'; exact ⟨d, rfl, q H' R' m⟩⟩
theorem et_cmp {op : CmpOp} {r : R2} {o : PyData → PyData → Option PyData} (ho : OpR X (compareOp op) r) (s : OpS X.K r o) (ha : PE X a (tE X.K f)) (hb : PE X b (tE X.K g)) (hm : behindInMarks op b = false) : PT X (.Compare a [op] [b] pos) (tT X.K (tBl (eBin o f g))) :=
  pt_of (pt_cmpR ho ha hb hm) (rd_bl (rd_bin s))
theorem rd_un {K : PySem.W.Frag} {r : V → Hp → VK → Prop} {o : PyData → Option PyData} (s : UnS K r o) : ∀ σ H Q, tE K (eUn o f) σ H Q → tUn r (tE K f) σ H Q := fun σ H Q ⟨c, ρ, d, ρ', R, e, q⟩ => by
  obtain ⟨x, h1, h3⟩ := un_inv' e
  exact ⟨c, ρ, x, ρ', R, h1, fun v1 H1 R1 r1 m1 => s c ρ' σ H1 v1 x d Q R1 r1 h3 fun v H' R' r' k => q v H' R' r' (m1.trans (R1.mvG k))⟩
theorem ev_un {op : UnaryOp} {r : V → Hp → VK → Prop} {o : PyData → Option PyData} (ho : UnR X (unaryOp op) r) (s : UnS X.K r o) (ha : PE X a (tE X.K f)) : PE X (.UnaryOp op a pos) (tE X.K (eUn o f)) :=
  pe_of (pe_un ho ha) (rd_un s)
theorem os_same {K : PySem.W.Frag} {c : Act K} {ρ : Rho} {σ : L2.St} {H : Hp} {Q : VK} {v : V} {d : PyData} (R : Rel K c ρ σ H) (q : ∀ v H', Rel K c ρ σ H' → Rp K (Av c ρ σ) H' v d → Kp K H H' → Q v H') (r : Rp K (Av c ρ σ) H v d) : Q v H :=
  q v H R r Kp.refl
theorem os_i2 {K : PySem.W.Frag} {C : Int → Int → Bool} {C' : Int → Int → Prop} {g : Int → Int → PyData} {g' : Int → Int → V} (hC : ∀ i j, C i j = true → C' i j) (hg : ∀ A H i j, Rp K A H (g' i j) (g i j)) : OpS K (rI C' g') (dI2 C g) := by
  intro c ρ σ H v1 v2 x y d Q R r1 r2 ho q
  unfold dI2 at ho
  split at ho
  · rename_i i j
    split at ho
    · rename_i hc
      cases ho
      cases r1
      cases r2
      exact ⟨i, j, rfl, rfl, hC i j hc, os_same R q (hg _ _ _ _)⟩
    · cases ho
  · cases ho
theorem os_i20 {K : PySem.W.Frag} {g : Int → Int → PyData} {g' : Int → Int → V} (hg : ∀ A H i j, Rp K A H (g' i j) (g i j)) : OpS K (rI0 g') (dI2 cT g) := by
  intro c ρ σ H v1 v2 x y d Q R r1 r2 ho q
  unfold dI2 at ho
  split at ho
  · rename_i i j
    split at ho
    · cases ho
      cases r1
      cases r2
      exact ⟨i, j, rfl, rfl, os_same R q (hg _ _ _ _)⟩
    · cases ho
  · cases ho
theorem sl16 : sizeLine = 16777216 := sizeLine_eq
theorem os_sub {K : PySem.W.Frag} : OpS K (rI0 fun i j => .int (i - j)) dSub := os_i20 fun _ _ _ _ => .int _
theorem os_lt {K : PySem.W.Frag} : OpS K (rI0 fun i j => .bl (decide (i < j))) dLt := os_i20 fun _ _ _ _ => .bl _
theorem os_le {K : PySem.W.Frag} : OpS K (rI0 fun i j => .bl (decide (i ≤ j))) dLe := os_i20 fun _ _ _ _ => .bl _
theorem os_gt {K : PySem.W.Frag} : OpS K (rI0 fun i j => .bl (decide (j < i))) dGt := os_i20 fun _ _ _ _ => .bl _
theorem os_mul {K : PySem.W.Frag} : OpS K (rI CMul fun i j => .int (i * j)) dMul := os_i2 (fun i j h => by
  simp only [Bool.or_eq_true, Bool.and_eq_true, decide_eq_true_eq] at h
  exact h) fun _ _ _ _ => .int _
theorem os_div {K : PySem.W.Frag} : OpS K (rI CDivW fun i j => .int (i / j)) dDiv := os_i2 (fun i j h => by
  simp only [Bool.and_eq_true, decide_eq_true_eq] at h
  exact wide_div (b := 64) h.1 (by omega) (by decide) (by decide)) fun _ _ _ _ => .int _
theorem os_mod {K : PySem.W.Frag} : OpS K (rI (fun _ j => 0 < j) fun i j => .int (i % j)) dMod := os_i2 (fun i j h => by
  simpa using h) fun _ _ _ _ => .int _
theorem Rel.alloc {K : PySem.W.Frag} {c : Act K} {ρ : Rho} {σ : L2.St} {H : Hp} (R : Rel K c ρ σ H) {p : Addr} {o : HO} (hp : H p = none) : Rel K c ρ σ (upd H p o) ∧ Kp K H (upd H p o) := ⟨R.grow (kp_upd hp), kp_upd hp⟩
theorem Rel.newTup {K : PySem.W.Frag} {c : Act K} {ρ : Rho} {σ : L2.St} {H : Hp} (R : Rel K c ρ σ H) {p : Addr} {xs : List V} {ds : List PyData} (hp : H p = none) (r : RpA K (Av c ρ σ) H xs ds) : Rp K (Av c ρ σ) (upd H p (.tup xs)) (.ref p) (.tuple ds) :=
  .tup (.inl ⟨.inl upd_same, R.noAv hp⟩) (r.mv (R.mvG (kp_upd hp)))
theorem Rel.newLst {K : PySem.W.Frag} {c : Act K} {ρ : Rho} {σ : L2.St} {H : Hp} (R : Rel K c ρ σ H) {p : Addr} {xs : List V} {ds : List PyData} (hp : H p = none) (r : RpA K (Av c ρ σ) H xs ds) : Rp K (Av c ρ σ) (upd H p (.lst xs)) (.ref p) (.list ds) :=
  .lst ⟨upd_same, R.noAv hp⟩ (r.mv (R.mvG (kp_upd hp)))
/-- + -/
theorem op_addD : OpR X (binaryOp .Add) (fun x y H Q => rI0 (fun i j => .int (i + j)) x y H Q ∨ rCat x y H Q ∨ rCatA X.K x y H Q ∨ ∃ i j, x = .str i ∧ y = .str j ∧ i.length + j.length ≤ sizeLine ∧ Q (.str (i ++ j)) H) :=
  op_add.or (op_cat.or (op_catA.or op_add_str))
theorem RpA.nil_iff {K : PySem.W.Frag} {A : Addr → Prop} {H : Hp} {vs : List V} {ds : List PyData} (h : RpA K A H vs ds) : vs = [] ↔ ds = [] := by cases h <;> simp
theorem os_add {K : PySem.W.Frag} : OpS K (fun x y H Q => rI0 (fun i j => .int (i + j)) x y H Q ∨ rCat x y H Q ∨ rCatA K x y H Q ∨ ∃ i j, x = .str i ∧ y = .str j ∧ i.length + j.length ≤ sizeLine ∧ Q (.str (i ++ j)) H) dAdd := by
  intro c ρ σ H v1 v2 x y d Q R r1 r2 ho q
  unfold dAdd at ho
  split at ho
  · cases ho
    cases r1
    cases r2
    exact .inl ⟨_, _, rfl, rfl, os_same R q (.int _)⟩
  · split at ho
    · rename_i hl
      cases ho
      cases r1 with
      | lst l1 a1 =>
        cases r2 with
        | lst l2 a2 =>
          refine .inr (.inl ⟨_, _, _, _, rfl, rfl, l1.1, l2.1, by rw [a1.length, a2.length, sl16]; exact hl, fun p hp => ?_⟩)
          exact q _ _ (R.alloc hp).1 (R.newLst hp (a1.app a2)) (R.alloc hp).2
    · cases ho
  · split at ho
    · rename_i hl
      cases ho
      cases r1 with
      | tup l1 a1 =>
        cases r2 with
        | tup l2 a2 =>
          refine .inr (.inr (.inl ⟨_, _, _, _, rfl, rfl, l1.sq, l2.sq, by rw [a1.length, a2.length, sl16]; exact hl, fun z => ?_, fun _ z => ?_, fun _ _ p hp => ?_⟩))
          · have e := a1.nil_iff.mp z
            subst e
            exact os_same R q (.tup l2 a2)
          · have e := a2.nil_iff.mp z
            subst e
            rw [List.append_nil] at q
            exact os_same R q (.tup l1 a1)
          · exact q _ _ (R.alloc hp).1 (R.newTup hp (a1.app a2)) (R.alloc hp).2
    · cases ho
  · split at ho
    · rename_i hl
      cases ho
      cases r1
      cases r2
      exact .inr (.inr (.inr ⟨_, _, rfl, rfl, by rw [sl16]; exact hl, os_same R q (.str _)⟩))
    · cases ho
  · cases ho
/-- == and != -/
theorem dp_of {K : PySem.W.Frag} {A : Addr → Prop} {H : Hp} {v : V} {d : PyData} (r : Rp K A H v d) (s : SeqAt.shaped d = true) : Dp K H v d := Rp.dp d v r (SeqAt.canLay_of_shaped s)
theorem os_eq {K : PySem.W.Frag} : OpS K (rEqD K) dEq := by
  intro c ρ σ H v1 v2 x y d Q R r1 r2 ho q
  unfold dEq at ho
  split at ho
  · rename_i i j
    cases ho
    refine ⟨.int i, .int j, dp_of r1 rfl, dp_of r2 rfl, rfl, rfl, ?_⟩
    have e : PyData.eqv (.int i) (.int j) = decide (i = j) := by simp [PyData.eqv, Bool.beq_eq_decide_eq]
    rw [e]
    exact os_same R q (.bl _)
  · split at ho
    · rename_i hs
      cases ho
      simp only [Bool.and_eq_true] at hs
      exact ⟨x, y, dp_of r1 hs.1, dp_of r2 hs.2, hs.1, hs.2, os_same R q (.bl _)⟩
    · cases ho
theorem os_ne {K : PySem.W.Frag} : OpS K (rNeD K) dNe := by
  intro c ρ σ H v1 v2 x y d Q R r1 r2 ho q
  unfold dNe at ho
  split at ho
  · rename_i i j
    cases ho
    refine ⟨.int i, .int j, dp_of r1 rfl, dp_of r2 rfl, rfl, rfl, ?_⟩
    have e : PyData.eqv (.int i) (.int j) = decide (i = j) := by simp [PyData.eqv, Bool.beq_eq_decide_eq]
    rw [e]
    exact os_same R q (.bl _)
  · split at ho
    · rename_i hs
      cases ho
      simp only [Bool.and_eq_true] at hs
      exact ⟨x, y, dp_of r1 hs.1, dp_of r2 hs.2, hs.1, hs.2, os_same R q (.bl _)⟩
    · cases ho
/-- is None -/
theorem none_iff {K : PySem.W.Frag} {A : Addr → Prop} {H : Hp} {v : V} {d : PyData} (r : Rp K A H v d) : decide (v = V.non) = isNone d := by
  cases r <;> simp [isNone]
theorem rd_isN {K : PySem.W.Frag} : ∀ σ H Q, tE K (eUn dIsN f) σ H Q → tIsN (tE K f) σ H Q := fun σ H Q ⟨c, ρ, d, ρ', R, e, q⟩ => by
  obtain ⟨x, h1, h3⟩ := un_inv' e
  cases h3
  exact ⟨c, ρ, x, ρ', R, h1, fun v1 H1 R1 r1 m1 => by
    show Q (.bl (decide (v1 = V.non))) H1
    rw [none_iff r1]
    exact q _ H1 R1 (.bl _) m1⟩
theorem rd_blB {K : PySem.W.Frag} {t : TE} (k : ∀ σ H Q, tE K f σ H Q → t σ H Q) : ∀ σ H Q, tT K (tBl f) σ H Q → tB t σ H Q := fun σ H Q ⟨c, ρ, d, ρ', R, e, q⟩ =>
  k σ H _ ⟨c, ρ, .bool d, ρ', R, bl_inv e, fun v H' R' r' m => by cases r'; exact ⟨d, rfl, q H' R' m⟩⟩
theorem ev_isN {j pos'} (ha : PE X a (tE X.K f)) : PE X (.Compare a [.Is] [.Constant .none j pos'] pos) (tE X.K (eUn dIsN f)) := pe_of (pe_cmp (pc_isN ha)) rd_isN
theorem et_isN {j pos'} (ha : PE X a (tE X.K f)) : PT X (.Compare a [.Is] [.Constant .none j pos'] pos) (tT X.K (tBl (eUn dIsN f))) := pt_of (pt_cmp (pc_isN ha)) (rd_blB rd_isN)
theorem us_neg {K : PySem.W.Frag} : UnS K (rU fun i => .int (-i)) dNeg := by
  intro c ρ σ H v1 x d Q R r1 ho q
  unfold dNeg at ho
  split at ho
  · cases ho
    cases r1
    exact ⟨_, rfl, os_same R q (.int _)⟩
  · cases ho
/-- an item -/
theorem ix_at {xs : List PyData} {vs : List V} {i : Int} {d : PyData} {K : PySem.W.Frag} {A : Addr → Prop} {H : Hp} (r : RpA K A H vs xs) (h : atD xs i = some d) : ∃ v, atI vs i = some v ∧ Rp K A H v d := by
  unfold atD at h
  unfold atI
  rw [r.length]
  cases e : ixOf xs.length i with
  | none => rw [e] at h; cases h
  | some j =>
    rw [e] at h
    have e' : ixN xs.length i = some j := e
    rw [e']
    exact r.get h
theorem os_ix {K : PySem.W.Frag} : OpS K (rIx K) dIx := by
  intro c ρ σ H v1 v2 x y d Q R r1 r2 ho q
  unfold dIx at ho
  split at ho
  · cases r2
    cases r1 with
    | lst l a =>
      obtain ⟨v, h1, h2⟩ := ix_at a ho
      exact .inl ⟨_, _, _, v, rfl, rfl, l.sq, h1, os_same R q h2⟩
  · cases r2
    cases r1 with
    | tup l a =>
      obtain ⟨v, h1, h2⟩ := ix_at a ho
      exact .inr (.inl ⟨_, _, _, v, rfl, rfl, l.sq, h1, os_same R q h2⟩)
  · cases r2
    cases r1 with
    | ro l a =>
      obtain ⟨v, h1, h2⟩ := ix_at (K := K) (A := Av c ρ σ) (H := H) a.rp ho
      exact .inl ⟨_, _, _, v, rfl, rfl, l.sq, h1, os_same R q h2⟩
  · cases ho
end
end PG
end
section
set_option Elab.async false
set_option linter.all false
set_option maxRecDepth 100000
namespace PG
open PySem PySem.Spec PyProof.Rows L2

section
variable {K : PySem.W.Frag} {c : Act K} {ρ ρ' : Rho} {σ σ' : L2.St} {H H' : Hp}
theorem setV_inv {i : Nat} {d : PyData} (h : setV i d ρ = some ρ') : i < ρ.length ∧ (∀ ds, ρ[i]? ≠ some (some (.l true ds))) ∧ ρ' = ρ.set i (some (.v d)) := by
  unfold setV at h
  split at h
  · cases h
  · cases h
  · rename_i h1 h2
    cases h
    refine ⟨?_, fun ds z => h2 ds z, rfl⟩
    rcases Nat.lt_or_ge i ρ.length with h3 | h3
    · exact h3
    · exact absurd (List.getElem?_eq_none h3) h1
theorem setL_inv {i : Nat} {d : List PyData} (h : setL i d ρ = some ρ') : i < ρ.length ∧ (∀ ds, ρ[i]? ≠ some (some (.l true ds))) ∧ ρ' = ρ.set i (some (.l false d)) := by
  unfold setL at h
  split at h
  · cases h
  · cases h
  · rename_i h1 h2
    cases h
    refine ⟨?_, fun ds z => h2 ds z, rfl⟩
    rcases Nat.lt_or_ge i ρ.length with h3 | h3
    · exact h3
    · exact absurd (List.getElem?_eq_none h3) h1
theorem Rel.assign (R : Rel K c ρ σ H) {i : Nat} {d : PyData} {v : V} (h : setV i d ρ = some ρ') (r : Rp K (Av c ρ σ) H v d) :
    Rel K c ρ' (σ.set i (some v)) H ∧ Stp c ρ σ H ρ' (σ.set i (some v)) H := by
  obtain ⟨hl, np, rfl⟩ := setV_inv h
  have hl' : i < σ.length := by rw [← R.len]; exact hl
  have gs : ∀ j, (ρ.set i (some (Cell.v d)))[j]? = if i = j then some (some (Cell.v d)) else ρ[j]? := fun j => get_set hl
  have gv : ∀ j, (σ.set i (some v))[j]? = if i = j then some (some v) else σ[j]? := fun j => get_set hl'
  have own : ∀ b, Own (ρ.set i (some (.v d))) (σ.set i (some v)) b → Own ρ σ b := fun b ⟨j, q, es, h1, h2⟩ => by
    rw [gs] at h1
    rw [gv] at h2
    by_cases e : i = j
    · rw [if_pos e] at h1; cases h1
    · rw [if_neg e] at h1 h2; exact ⟨j, q, es, h1, h2⟩
  have mv : Stp c ρ σ H (ρ.set i (some (.v d))) (σ.set i (some v)) H := mvX fun b o e n => ⟨e, fun z => n (z.elim .inl fun x => .inr (own b x))⟩
  refine ⟨⟨by rw [List.length_set, List.length_set]; exact R.len, fun j d' e => ?_, fun j q es e => ?_, fun j k q q' es es' b h1 h2 h3 h4 => ?_, fun j b => ?_, R.pA, R.old, R.av, R.on, R.nt⟩, mv⟩
  · rw [gs] at e
    rw [gv]
    by_cases e1 : i = j
    · rw [if_pos e1] at e
      cases e
      exact ⟨v, by rw [if_pos e1], r.mv mv⟩
    · rw [if_neg e1] at e
      obtain ⟨u, h1, h2⟩ := R.val j d' e
      exact ⟨u, by rw [if_neg e1]; exact h1, h2.mv mv⟩
  · rw [gs] at e
    rw [gv]
    by_cases e1 : i = j
    · rw [if_pos e1] at e; cases e
    · rw [if_neg e1] at e
      obtain ⟨b, vs, h1, h2, h3, h4⟩ := R.lst j q es e
      exact ⟨b, vs, by rw [if_neg e1]; exact h1, h2, h3.mv mv, h4⟩
  · rw [gs] at h1 h2
    rw [gv] at h3 h4
    by_cases e1 : i = j
    · rw [if_pos e1] at h1; cases h1
    · by_cases e2 : i = k
      · rw [if_pos e2] at h2; cases h2
      · rw [if_neg e1] at h1 h3
        rw [if_neg e2] at h2 h4
        exact R.dis j k q q' es es' b h1 h2 h3 h4
  · rw [R.pin, gs, gv]
    by_cases e : i = j
    · subst e
      rw [if_pos rfl, if_pos rfl]
      constructor
      · rintro ⟨es, h1, h2⟩; exact absurd h1 (np es)
      · rintro ⟨es, h1, h2⟩; cases h1
    · rw [if_neg e, if_neg e]
theorem Rel.assignL {a : Addr} (R : Rel K (c.plus a) ρ σ H) {i : Nat} {ds : List PyData} {vs : List V} (h : setL i ds ρ = some ρ') (ha : H a = some (.lst vs)) (r : RpA K (Av (c.plus a) ρ σ) H vs ds)
    (h0 : c.H0 a = none) (na : ¬ Av c ρ σ a) (pA : ∀ i a, c.pn i = some a → c.A a) :
    Rel K c ρ' (σ.set i (some (.ref a))) H ∧ Mv (Av (c.plus a) ρ σ) H (Av c ρ' (σ.set i (some (.ref a)))) H := by
  obtain ⟨hl, np, rfl⟩ := setL_inv h
  have hl' : i < σ.length := by rw [← R.len]; exact hl
  have gs : ∀ j, (ρ.set i (some (Cell.l false ds)))[j]? = if i = j then some (some (Cell.l false ds)) else ρ[j]? := fun j => get_set hl
  have gv : ∀ j, (σ.set i (some (V.ref a)))[j]? = if i = j then some (some (V.ref a)) else σ[j]? := fun j => get_set hl'
  have own : ∀ b, Own (ρ.set i (some (.l false ds))) (σ.set i (some (.ref a))) b → b = a ∨ Own ρ σ b := fun b ⟨j, q, es, h1, h2⟩ => by
    rw [gs] at h1
    rw [gv] at h2
    by_cases e : i = j
    · rw [if_pos e] at h2; cases h2; exact .inl rfl
    · rw [if_neg e] at h1 h2; exact .inr ⟨j, q, es, h1, h2⟩
  have mv : Mv (Av (c.plus a) ρ σ) H (Av c (ρ.set i (some (.l false ds))) (σ.set i (some (.ref a)))) H := mvX fun b o e n => ⟨e, fun z => n (z.elim (fun x => .inl (.inl x)) fun x => (own b x).elim (fun w => .inl (.inr w)) .inr)⟩
  have nown : ∀ (j : Nat) (q : Bool) (es : List PyData), ρ[j]? = some (some (.l q es)) → σ[j]? ≠ some (some (.ref a)) := fun j q es h1 h2 => na (.inr ⟨j, q, es, h1, h2⟩)
  refine ⟨⟨by rw [List.length_set, List.length_set]; exact R.len, fun j d' e => ?_, fun j q es e => ?_, fun j k q q' es es' b h1 h2 h3 h4 => ?_, fun j b => ?_, pA, R.old, fun b z => R.av b (.inl z), R.on, R.nt⟩, mv⟩
  · rw [gs] at e
    rw [gv]
    by_cases e1 : i = j
    · rw [if_pos e1] at e; cases e
    · rw [if_neg e1] at e
      obtain ⟨u, h1, h2⟩ := R.val j d' e
      exact ⟨u, by rw [if_neg e1]; exact h1, h2.mv mv⟩
  · rw [gs] at e
    rw [gv]
    by_cases e1 : i = j
    · rw [if_pos e1] at e
      cases e
      exact ⟨a, vs, by rw [if_pos e1], ha, r.mv mv, fun _ => ⟨h0, fun z => na (.inl z)⟩⟩
    · rw [if_neg e1] at e
      obtain ⟨b, vs, h1, h2, h3, h4⟩ := R.lst j q es e
      exact ⟨b, vs, by rw [if_neg e1]; exact h1, h2, h3.mv mv, fun z => ⟨(h4 z).1, fun y => (h4 z).2 (.inl y)⟩⟩
  · rw [gs] at h1 h2
    rw [gv] at h3 h4
    by_cases e1 : i = j
    · by_cases e2 : i = k
      · omega
      · rw [if_neg e2] at h2 h4
        rw [if_pos e1] at h3
        cases h3
        exact absurd h4 (nown k q' es' h2)
    · rw [if_neg e1] at h1 h3
      by_cases e2 : i = k
      · rw [if_pos e2] at h4
        cases h4
        exact absurd h3 (nown j q es h1)
      · rw [if_neg e2] at h2 h4
        exact R.dis j k q q' es es' b h1 h2 h3 h4
  · rw [show c.pn j = some b ↔ _ from R.pin j b, gs, gv]
    by_cases e : i = j
    · subst e
      rw [if_pos rfl, if_pos rfl]
      constructor
      · rintro ⟨es, h1, h2⟩; exact absurd h1 (np es)
      · rintro ⟨es, h1, h2⟩; cases h1
    · rw [if_neg e, if_neg e]
end

section
variable {X : Cx} {e a b : Expr} {pos : Pos} {f g h : EF} {tf tg : TF} {n m : NF} {es : List Expr}
/-! ### argument lists, displays -/
theorem so {α β : Type} {a c : α} {b d : β} (h : some (a, b) = some (c, d)) : a = c ∧ b = d := by
  cases h; exact ⟨rfl, rfl⟩
theorem ea_nil : PA X [] (tA X.K nNil) := pa_of pa_nil fun σ H Q ⟨c, ρ, ds, ρ', R, e, q⟩ => by
  cases e
  exact q [] H R .nil Mv.refl
theorem ncons_inv {ρ ρ' : Rho} {ds : List PyData} (h : nCons f n ρ = some (ds, ρ')) : ∃ x ρ1 xs, f ρ = some (x, ρ1) ∧ n ρ1 = some (xs, ρ') ∧ ds = x :: xs := by
  unfold nCons at h
  split at h
  · rename_i x ρ1 h1
    split at h
    · rename_i xs ρ2 h2
      cases h
      exact ⟨x, ρ1, xs, h1, h2, rfl⟩
    · cases h
  · cases h
theorem ea_cons (ha : PE X a (tE X.K f)) (hr : PA X es (tA X.K n)) (hs : starEach (a :: es) X.env = (false, eval a X.env) :: starEach es X.env := by rfl) : PA X (a :: es) (tA X.K (nCons f n)) :=
  pa_of (pa_cons ha hr hs) fun σ H Q ⟨c, ρ, ds, ρ', R, e, q⟩ => by
    obtain ⟨x, ρ1, xs, h1, h2, rfl⟩ := ncons_inv e
    exact ⟨c, ρ, x, ρ1, R, h1, fun v H1 R1 r1 m1 => ⟨c, ρ1, xs, ρ', R1, h2, fun vs H2 R2 r2 m2 => q _ H2 R2 (.cons (r1.mv m2) r2) (m1.trans m2)⟩⟩
theorem ev_tup {x1} (h : PA X es (tA X.K n)) : PE X (.Tuple es x1 pos) (tE X.K (eTup n)) := pe_of (pe_tup h) fun σ H Q ⟨c, ρ, d, ρ', R, e, q⟩ => by
  unfold eTup at e
  split at e
  · rename_i xs ρ1 h1
    split at e
    · rename_i hl
      obtain ⟨e1, e2⟩ := so e
      subst e1 e2
      refine ⟨c, ρ, xs, ρ1, R, h1, fun vs H1 R1 r1 m1 => ⟨by rw [r1.length, sl16]; exact hl, fun p hp => ?_⟩⟩
      exact q _ _ (R1.alloc hp).1 (R1.newTup hp r1) (m1.trans (R1.mvG (kp_upd hp)))
    · cases e
  · cases e
theorem avOf {K : PySem.W.Frag} {c : Act K} {ρ ρ' : Rho} {σ σ' : L2.St} {H H' : Hp} {p : Addr} (m : Stp c ρ σ H ρ' σ' H') (hp : H' p = none) : ¬ Av c ρ σ p → H p = none := fun n => by
  cases e : H p with
  | none => rfl
  | some o => exact absurd hp (m.m p o e n).2.2
theorem en_lst (h : PA X es (tA X.K n)) : PE X (.List es pos) (tN X.K (nDisp n)) := pe_of (pe_lst h) fun σ H Q ⟨c, ρ, ds, ρ', R, e, q⟩ => by
  unfold nDisp at e
  split at e
  · rename_i xs ρ1 h1
    split at e
    · rename_i hl
      obtain ⟨e1, e2⟩ := so e
      subst e1 e2
      refine ⟨c, ρ, xs, ρ1, R, h1, fun vs H1 R1 r1 m1 => ⟨by rw [r1.length, sl16]; exact hl, fun p hp => ?_⟩⟩
      exact q p vs _ (R1.plus hp (kp_upd hp) (by rw [upd_same]; exact fun z => nomatch z)) upd_same (r1.mv (R1.mvP hp (kp_upd hp))) (R1.noAv hp) (R1.fresh0 hp) (avOf (K := X.K) m1 hp) (m1.trans (R1.mvG (kp_upd hp)))
    · cases e
  · cases e
/-- a new list, as a value -/
theorem ev_new (h : PE X e (tN X.K n)) : PE X e (tE X.K (eLst n)) := pe_of h fun σ H Q ⟨c, ρ, d, ρ', R, e, q⟩ => by
  unfold eLst at e
  split at e
  · rename_i xs ρ1 h1
    obtain ⟨e1, e2⟩ := so e
    subst e1 e2
    refine ⟨c, ρ, xs, ρ1, R, h1, fun a vs H' R' ha r' na h0 nw m => ?_⟩
    have R2 := R'.unplus R.pA
    exact q _ _ R2 (.lst ⟨ha, na⟩ (r'.mv mv_unplus)) m
  · cases e

/-! ### calls -/
def spP (K : PySem.W.Frag) (k : Nat) (F : List PyData → Option PyData) : Sp := fun vs H Q _ => vs.length = k ∧ TsOk K H ∧ ∃ (A : Addr → Prop) (ds : List PyData) (r : PyData), RpA K A H vs ds ∧ (∀ a, A a → H a ≠ none) ∧ F ds = some r ∧
  ∀ v H', Kp K H H' → Rp K A H' v r → Q v H'
def spN (K : PySem.W.Frag) (k : Nat) (F : List PyData → Option (List PyData)) : Sp := fun vs H Q _ => vs.length = k ∧ TsOk K H ∧ ∃ (A : Addr → Prop) (ds : List PyData) (r : List PyData), RpA K A H vs ds ∧ (∀ a, A a → H a ≠ none) ∧ F ds = some r ∧
  ∀ a us H', Kp K H H' → H a = none → H' a = some (.lst us) → RpA K (fun b => A b ∨ b = a) H' us r → Q (.ref a) H'
def spL (K : PySem.W.Frag) (k : Nat) (F : List PyData → List PyData → Option (PyData × List PyData)) : Sp := fun vs H Q _ => vs.length = k + 1 ∧ TsOk K H ∧ ∃ (A : Addr → Prop) (a : Addr) (us ws : List V) (ps ds : List PyData) (r : PyData) (ps' : List PyData),
  vs = .ref a :: ws ∧ H a = some (.lst us) ∧ RpA K A H us ps ∧ A a ∧ RpA K A H ws ds ∧ (∀ a, A a → H a ≠ none) ∧ F ps ds = some (r, ps') ∧
  ∀ v H' us', KpB K a H H' → H' a = some (.lst us') → RpA K A H' us' ps' → Rp K A H' v r → Q v H'
variable {F1 : List PyData → Option PyData} {F2 : List PyData → Option (List PyData)} {F3 : List PyData → List PyData → Option (PyData × List PyData)} {k j : Nat} {fa : Addr} {fd : FuncData} {ps : List Str} {x : Str} {p : Pos}
theorem rd_call {E : XK} (hk : ∀ ρ ds ρ', n ρ = some (ds, ρ') → ds.length = k) : ∀ σ H Q, tE X.K (eCall F1 n) σ H Q → tCall (spP X.K k F1) [] E (tA X.K n) σ H Q := fun σ H Q ⟨c, ρ, d, ρ', R, e, q⟩ => by
  unfold eCall at e
  split at e
  · rename_i xs ρ1 h1
    split at e
    · rename_i z h2
      obtain ⟨e1, e2⟩ := so e
      subst e1 e2
      refine ⟨c, ρ, xs, ρ1, R, h1, fun vs H1 R1 r1 m1 => ?_⟩
      show spP X.K k F1 (vs ++ []) H1 Q E
      rw [List.append_nil]
      refine ⟨by rw [r1.length]; exact hk _ _ _ h1, R1.ts, Av c ρ1 σ, xs, z, r1, fun a ha => R1.avS ha, h2, fun v H' kp r => ?_⟩
      exact q v H' (R1.grow kp) r (m1.trans (R1.mvG kp))
    · cases e
  · cases e
theorem ev_call (F : FnOk X.prog X.w X.K X.mg X.base CX0 j fa fd ps (spP X.K k F1)) (hr : Room j X.A) (hg : Gl X x) (hm : X.mg x = some (.ref fa)) (hkp : PySem.W.keepIn X.K (.ref fa) = true) (hb : L2.Binds X.K fd ps [])
    (ha : PA X (e :: es) (tA X.K n)) (hk : ∀ ρ ds ρ', n ρ = some (ds, ρ') → ds.length = k) (hdb : (x == ("__debug__" : Str)) = false := by decide) (he : starEach (e :: es) X.env = (false, eval e X.env) :: starEach es X.env := by rfl) (hpl : (backTo pos (starEach es X.env)).any (·.1) = false := by rfl) :
    PE X (.Call (.Name x p) (e :: es) [] pos) (tE X.K (eCall F1 n)) :=
  pe_of (pe_call F hr hg hm hkp hb .nil pass0 ha hdb he hpl) (rd_call hk)
theorem en_call (F : FnOk X.prog X.w X.K X.mg X.base CX0 j fa fd ps (spN X.K k F2)) (hr : Room j X.A) (hg : Gl X x) (hm : X.mg x = some (.ref fa)) (hkp : PySem.W.keepIn X.K (.ref fa) = true) (hb : L2.Binds X.K fd ps [])
    (ha : PA X (e :: es) (tA X.K n)) (hk : ∀ ρ ds ρ', n ρ = some (ds, ρ') → ds.length = k) (hdb : (x == ("__debug__" : Str)) = false := by decide) (he : starEach (e :: es) X.env = (false, eval e X.env) :: starEach es X.env := by rfl) (hpl : (backTo pos (starEach es X.env)).any (·.1) = false := by rfl) :
    PE X (.Call (.Name x p) (e :: es) [] pos) (tN X.K (nCall F2 n)) :=
  pe_of (pe_call F hr hg hm hkp hb .nil pass0 ha hdb he hpl) fun σ H Q ⟨c, ρ, d, ρ', R, e, q⟩ => by
    unfold nCall at e
    split at e
    · rename_i xs ρ1 h1
      split at e
      · rename_i z h2
        obtain ⟨e1, e2⟩ := so e
        subst e1 e2
        refine ⟨c, ρ, xs, ρ1, R, h1, fun vs H1 R1 r1 m1 => ?_⟩
        show spN X.K k F2 (vs ++ []) H1 Q E0
        rw [List.append_nil]
        refine ⟨by rw [r1.length]; exact hk _ _ _ h1, R1.ts, Av c ρ1 σ, xs, z, r1, fun a ha => R1.avS ha, h2, fun a us H' kp hn hl r => ?_⟩
        refine q a us H' (R1.plus hn kp (by rw [hl]; exact fun z => nomatch z)) hl (r.mv <| mvX fun b o e n => ⟨e, fun z => n ?_⟩) (R1.noAv hn) (R1.fresh0 hn) (avOf (K := X.K) m1 hn) (m1.trans (R1.mvG kp))
        rcases z with (z | z) | z
        · exact .inl (.inl z)
        · exact .inr z
        · exact .inl (.inr z)
      · cases e
    · cases e
theorem callL_inv {i : Nat} {ρ ρ' : Rho} {d : PyData} (e : eCallL F3 i n ρ = some (d, ρ')) : ∃ p0 l0 xs ρ1 pp pl ps', ρ[i]? = some (some (.l p0 l0)) ∧ n ρ = some (xs, ρ1) ∧ ρ1[i]? = some (some (.l pp pl)) ∧ F3 pl xs = some (d, ps') ∧ ρ' = ρ1.set i (some (.l pp ps')) := by
  unfold eCallL at e
  split at e
  · rename_i p0 l0 h0
    split at e
    · rename_i xs ρ1 h1
      split at e
      · rename_i pp pl h2
        split at e
        · rename_i z ps' h3
          obtain ⟨e1, e2⟩ := so e
          subst e1 e2
          exact ⟨p0, l0, xs, ρ1, pp, pl, ps', h0, h1, h2, h3, rfl⟩
        · cases e
      · cases e
    · cases e
  · cases e
/-- f(pool, ..): the owned list at slot i may change -/
theorem rd_callL {i : Nat} {E : XK} (hk : ∀ ρ ds ρ', n ρ = some (ds, ρ') → ds.length = k) : ∀ σ H Q, tE X.K (eCallL F3 i n) σ H Q → tCall (spL X.K k F3) [] E (tCons (tVar i) (tA X.K n)) σ H Q := fun σ H Q ⟨c, ρ, d, ρ', R, e, q⟩ => by
  obtain ⟨p0, l0, xs, ρ1, pp, pl, ps', h0, h1, h2, h3, rfl⟩ := callL_inv e
  obtain ⟨a, us0, g1, _⟩ := R.lst i p0 l0 h0
  refine ⟨.ref a, g1, c, ρ, xs, ρ1, R, h1, fun vs H1 R1 r1 m1 => ?_⟩
  obtain ⟨a', us, g1', g2, g3, _⟩ := R1.lst i pp pl h2
  rw [g1] at g1'
  cases g1'
  show spL X.K k F3 (.ref a :: vs ++ []) H1 Q E
  rw [List.append_nil]
  refine ⟨by rw [List.length_cons, r1.length, hk _ _ _ h1], R1.ts, Av c ρ1 σ, a, us, vs, pl, xs, d, ps', rfl, g2, g3, .inr ⟨i, pp, pl, h2, g1⟩, r1, fun b hb => R1.avS hb, h3, fun v H' us' kp hl r2 r3 => ?_⟩
  obtain ⟨R2, m2⟩ := R1.write h2 g1 hl kp r2
  have m3 : Mv (Av c ρ1 σ) H' (Av c (ρ1.set i (some (.l pp ps'))) σ) H' := mvX fun b o e n => ⟨e, fun z => n (z.elim .inl fun ⟨jj, q', es', w1, w2⟩ => .inr (by
    rw [get_set (lt_of_get h2)] at w1
    by_cases ee : i = jj
    · subst ee; exact ⟨i, pp, pl, h2, w2⟩
    · rw [if_neg ee] at w1; exact ⟨jj, q', es', w1, w2⟩))⟩
  exact q v H' R2 (r3.mv m3) (m1.trans m2)
theorem ev_callL {i : Nat} (F : FnOk X.prog X.w X.K X.mg X.base CX0 j fa fd ps (spL X.K k F3)) (hr : Room j X.A) (hg : Gl X x) (hm : X.mg x = some (.ref fa)) (hkp : PySem.W.keepIn X.K (.ref fa) = true) (hb : L2.Binds X.K fd ps [])
    (hv : PE X e (tVar i)) (ha : PA X es (tA X.K n)) (hk : ∀ ρ ds ρ', n ρ = some (ds, ρ') → ds.length = k) (hdb : (x == ("__debug__" : Str)) = false := by decide) (he : starEach (e :: es) X.env = (false, eval e X.env) :: starEach es X.env := by rfl) (hpl : (backTo pos (starEach es X.env)).any (·.1) = false := by rfl) :
    PE X (.Call (.Name x p) (e :: es) [] pos) (tE X.K (eCallL F3 i n)) :=
  pe_of (pe_call F hr hg hm hkp hb .nil pass0 (pa_cons hv ha he) hdb he hpl) (rd_callL hk)
theorem nlen_nil : ∀ ρ ds ρ', nNil ρ = some (ds, ρ') → ds.length = 0 := fun ρ ds ρ' h => by cases h; rfl
theorem nlen_cons (h : ∀ ρ ds ρ', n ρ = some (ds, ρ') → ds.length = k) : ∀ ρ ds ρ', nCons f n ρ = some (ds, ρ') → ds.length = k + 1 := fun ρ ds ρ' e => by
  obtain ⟨x, ρ1, xs, h1, h2, rfl⟩ := ncons_inv e
  rw [List.length_cons, h _ _ _ h2]
end
end PG
end
section
set_option Elab.async false
set_option linter.all false
set_option maxRecDepth 100000
namespace PG
open PySem PySem.Spec PyProof.Rows L2
section
variable {X : Cx} {e a b : Expr} {pos : Pos} {f g h : EF} {tf tg : TF} {n m : NF} {es : List Expr}
/-! ### tests -/
theorem tru_of {K : PySem.W.Frag} {A : Addr → Prop} {H : Hp} {v : V} {d : PyData} {k : Bool} (r : Rp K A H v d) (h : truth d = some k) : TruV K v H k := by
  cases r with
  | non => cases h; rfl
  | bl b => cases h; rfl
  | int i => cases h; rfl
  | str x =>
    unfold truth at h
    simp only at h
    split at h
    · rename_i hl
      cases h
      exact ⟨by rw [sl16]; exact hl, rfl⟩
    · cases h
  | @lst p xs ds l r =>
    cases h
    refine .inl ⟨xs, l.sq, ?_⟩
    cases r <;> rfl
  | @tup p xs ds l r =>
    cases h
    refine .inr (.inl ⟨xs, l.sq, ?_⟩)
    cases r <;> rfl
  | ro => cases h
  | fn => cases h
  | fn0 => cases h
  | dct => cases h
  | adr => cases h
theorem tru_inv {ρ ρ' : Rho} {b : Bool} (h : tTru f ρ = some (b, ρ')) : ∃ x, f ρ = some (x, ρ') ∧ truth x = some b := by
  unfold tTru at h
  split at h
  · rename_i x ρ1 h1
    split at h
    · rename_i b' h2
      obtain ⟨e1, e2⟩ := so h
      subst e1 e2
      exact ⟨x, h1, h2⟩
    · cases h
  · cases h
theorem et_tru (ha : PE X a (tE X.K f)) (he : ∀ whole, isTrue a X.env whole = (do let v ← whole; standAt a.pos; holding [v] (truthy v)) := by intro _; rfl) : PT X a (tT X.K (tTru f)) :=
  pt_of (pt_truth ha he) fun σ H Q ⟨c, ρ, d, ρ', R, e, q⟩ => by
    obtain ⟨x, h1, h2⟩ := tru_inv e
    exact ⟨c, ρ, x, ρ', R, h1, fun v H' R' r' m => ⟨d, tru_of r' h2, q H' R' m⟩⟩
theorem tnot_inv {ρ ρ' : Rho} {b : Bool} (h : tNot' tf ρ = some (b, ρ')) : ∃ b', tf ρ = some (b', ρ') ∧ b = !b' := by
  unfold tNot' at h
  split at h
  · rename_i b' ρ1 h1
    obtain ⟨e1, e2⟩ := so h
    subst e2
    exact ⟨b', h1, e1.symm⟩
  · cases h
theorem et_not (ha : PT X a (tT X.K tf)) : PT X (.UnaryOp .Not a pos) (tT X.K (tNot' tf)) := pt_of (pt_not ha) fun σ H Q ⟨c, ρ, d, ρ', R, e, q⟩ => by
  obtain ⟨b', h1, rfl⟩ := tnot_inv e
  exact ⟨c, ρ, b', ρ', R, h1, fun H' R' m => q H' R' m⟩
theorem rd_and {K : PySem.W.Frag} : ∀ σ H Q, tT K (tAnd' tf tg) σ H Q → tAnd (tT K tf) (tT K tg) σ H Q := fun σ H Q ⟨c, ρ, d, ρ', R, e, q⟩ => by
  unfold tAnd' at e
  split at e
  · rename_i ρ1 h1
    exact ⟨c, ρ, true, ρ1, R, h1, fun H' R' m => iteT ⟨c, ρ1, d, ρ', R', e, fun H2 R2 m2 => q H2 R2 (m.trans m2)⟩⟩
  · rename_i ρ1 h1
    obtain ⟨e1, e2⟩ := so e
    subst e1 e2
    exact ⟨c, ρ, false, ρ1, R, h1, fun H' R' m => iteF (q H' R' m)⟩
  · cases e
theorem rd_or {K : PySem.W.Frag} : ∀ σ H Q, tT K (tOr' tf tg) σ H Q → tOr (tT K tf) (tT K tg) σ H Q := fun σ H Q ⟨c, ρ, d, ρ', R, e, q⟩ => by
  unfold tOr' at e
  split at e
  · rename_i ρ1 h1
    obtain ⟨e1, e2⟩ := so e
    subst e1 e2
    exact ⟨c, ρ, true, ρ1, R, h1, fun H' R' m => iteT (q H' R' m)⟩
  · rename_i ρ1 h1
    exact ⟨c, ρ, false, ρ1, R, h1, fun H' R' m => iteF ⟨c, ρ1, d, ρ', R', e, fun H2 R2 m2 => q H2 R2 (m.trans m2)⟩⟩
  · cases e
theorem ew_and1 (ha : PT X a (tT X.K tf)) : PW X (.BoolOp .And [a] pos) (tT X.K tf) := pw_and1 ha
theorem ew_or1 (ha : PT X a (tT X.K tf)) : PW X (.BoolOp .Or [a] pos) (tT X.K tf) := pw_or1 ha
theorem ew_and {rest : List Expr} (ha : PT X a (tT X.K tf)) (hb : PW X (.BoolOp .And (b :: rest) pos) (tT X.K tg)) : PW X (.BoolOp .And (a :: b :: rest) pos) (tT X.K (tAnd' tf tg)) := pw_of (pw_and ha hb) rd_and
theorem ew_or {rest : List Expr} (ha : PT X a (tT X.K tf)) (hb : PW X (.BoolOp .Or (b :: rest) pos) (tT X.K tg)) : PW X (.BoolOp .Or (a :: b :: rest) pos) (tT X.K (tOr' tf tg)) := pw_of (pw_or ha hb) rd_or
/-- and, or, not as values -/
theorem ev_one {op} (ha : PE X a (tE X.K f)) : PE X (.BoolOp op [a] pos) (tE X.K f) := pe_one ha
theorem ev_and {rest : List Expr} (ha : PE X a (tE X.K f)) (hb : PE X (.BoolOp .And (b :: rest) pos) (tE X.K g)) : PE X (.BoolOp .And (a :: b :: rest) pos) (tE X.K (eAnd f g)) :=
  pe_of (pe_andT ha hb) fun σ H Q ⟨c, ρ, d, ρ', R, e, q⟩ => by
    unfold eAnd at e
    split at e
    · rename_i x ρ1 h1
      split at e
      · rename_i h2
        exact ⟨c, ρ, x, ρ1, R, h1, fun v H' R' r' m => ⟨true, tru_of r' h2, iteT ⟨c, ρ1, d, ρ', R', e, fun v2 H2 R2 r2 m2 => q v2 H2 R2 r2 (m.trans m2)⟩⟩⟩
      · rename_i h2
        obtain ⟨e1, e2⟩ := so e
        subst e1 e2
        exact ⟨c, ρ, x, ρ1, R, h1, fun v H' R' r' m => ⟨false, tru_of r' h2, iteF (q v H' R' r' m)⟩⟩
      · cases e
    · cases e
theorem ev_or {rest : List Expr} (ha : PE X a (tE X.K f)) (hb : PE X (.BoolOp .Or (b :: rest) pos) (tE X.K g)) : PE X (.BoolOp .Or (a :: b :: rest) pos) (tE X.K (eOr f g)) :=
  pe_of (pe_orT ha hb) fun σ H Q ⟨c, ρ, d, ρ', R, e, q⟩ => by
    unfold eOr at e
    split at e
    · rename_i x ρ1 h1
      split at e
      · rename_i h2
        obtain ⟨e1, e2⟩ := so e
        subst e1 e2
        exact ⟨c, ρ, x, ρ1, R, h1, fun v H' R' r' m => ⟨true, tru_of r' h2, iteT (q v H' R' r' m)⟩⟩
      · rename_i h2
        exact ⟨c, ρ, x, ρ1, R, h1, fun v H' R' r' m => ⟨false, tru_of r' h2, iteF ⟨c, ρ1, d, ρ', R', e, fun v2 H2 R2 r2 m2 => q v2 H2 R2 r2 (m.trans m2)⟩⟩⟩
      · cases e
    · cases e
theorem ev_not (ha : PE X a (tE X.K f)) : PE X (.UnaryOp .Not a pos) (tE X.K (eNot f)) := pe_of (pe_notT ha) fun σ H Q ⟨c, ρ, d, ρ', R, e, q⟩ => by
  unfold eNot at e
  split at e
  · rename_i x ρ1 h1
    split at e
    · rename_i k h2
      obtain ⟨e1, e2⟩ := so e
      subst e1 e2
      exact ⟨c, ρ, x, ρ1, R, h1, fun v H' R' r' m => ⟨k, tru_of r' h2, q _ H' R' (.bl _) m⟩⟩
    · cases e
  · cases e
theorem ev_if {cnd : Expr} (hc : PT X cnd (tT X.K tf)) (ha : PE X a (tE X.K f)) (hb : PE X b (tE X.K g)) : PE X (.IfExp cnd a b pos) (tE X.K (eIf tf f g)) := pe_of (pe_ifExp hc ha hb) fun σ H Q ⟨c, ρ, d, ρ', R, e, q⟩ => by
  unfold eIf at e
  split at e
  · rename_i ρ1 h1
    exact ⟨c, ρ, true, ρ1, R, h1, fun H' R' m => iteT ⟨c, ρ1, d, ρ', R', e, fun v2 H2 R2 r2 m2 => q v2 H2 R2 r2 (m.trans m2)⟩⟩
  · rename_i ρ1 h1
    exact ⟨c, ρ, false, ρ1, R, h1, fun H' R' m => iteF ⟨c, ρ1, d, ρ', R', e, fun v2 H2 R2 r2 m2 => q v2 H2 R2 r2 (m.trans m2)⟩⟩
  · cases e
theorem chain_inv {o o' : PyData → PyData → Option PyData} {ρ ρ' : Rho} {d : PyData} (e : eChain o o' f g h ρ = some (d, ρ')) : ∃ x ρ1 y ρ2 k, f ρ = some (x, ρ1) ∧ g ρ1 = some (y, ρ2) ∧ o x y = some (.bool k) ∧
    ((k = true ∧ ∃ z b, h ρ2 = some (z, ρ') ∧ o' y z = some (.bool b) ∧ d = .bool b) ∨ (k = false ∧ d = .bool false ∧ ρ' = ρ2)) := by
  unfold eChain at e
  split at e
  · rename_i x ρ1 h1
    split at e
    · rename_i y ρ2 h2
      split at e
      · rename_i h3
        split at e
        · rename_i z ρ3 h4
          split at e
          · rename_i b h5
            obtain ⟨e1, e2⟩ := so e
            subst e1 e2
            exact ⟨x, ρ1, y, ρ2, true, h1, h2, h3, .inl ⟨rfl, z, b, h4, h5, rfl⟩⟩
          · cases e
        · cases e
      · rename_i h3
        obtain ⟨e1, e2⟩ := so e
        subst e1 e2
        exact ⟨x, ρ1, y, ρ2, false, h1, h2, h3, .inr ⟨rfl, rfl, rfl⟩⟩
      · cases e
    · cases e
  · cases e
theorem rd_chain {K : PySem.W.Frag} {r r' : R2} {o o' : PyData → PyData → Option PyData} (s : OpS K r o) (s' : OpS K r' o') : ∀ σ H Q, tE K (eChain o o' f g h) σ H Q → tChain r r' (tE K f) (tE K g) (tE K h) σ H Q := fun σ H Q ⟨c, ρ, d, ρ', R, e, q⟩ => by
  obtain ⟨x, ρ1, y, ρ2, k, h1, h2, h3, h4⟩ := chain_inv e
  refine ⟨c, ρ, x, ρ1, R, h1, fun v1 H1 R1 r1 m1 => ⟨c, ρ1, y, ρ2, R1, h2, fun v2 H2 R2 r2 m2 => ?_⟩⟩
  refine s c ρ2 σ H2 v1 v2 x y _ _ R2 (r1.mv m2) r2 h3 fun v H3 R3 r3 k3 => ?_
  cases r3
  have m3 := (m1.trans m2).trans (R2.mvG k3)
  refine ⟨k, rfl, ?_⟩
  rcases h4 with ⟨rfl, z, b, h5, h6, rfl⟩ | ⟨rfl, rfl, rfl⟩
  · rw [if_pos rfl]
    refine ⟨c, ρ2, z, ρ', R3, h5, fun v4 H4 R4 r4 m4 => ?_⟩
    exact s' c ρ' σ H4 v2 v4 y z _ _ R4 ((r2.mv (R2.mvG k3)).mv m4) r4 h6 fun v5 H5 R5 r5 k5 => q v5 H5 R5 r5 ((m3.trans m4).trans (R4.mvG k5))
  · rw [if_neg Bool.false_ne_true]
    exact q _ H3 R3 (.bl _) m3
theorem ev_chain {cx : Expr} {op op' : CmpOp} {r r' : R2} {o o' : PyData → PyData → Option PyData} (ho : OpR X (compareOp op) r) (s : OpS X.K r o) (ho' : OpR X (compareOp op') r') (s' : OpS X.K r' o') (ha : PE X a (tE X.K f)) (hb : PE X b (tE X.K g)) (hc : PE X cx (tE X.K h))
    (hm : lastMarks [op, op'] [b, cx] = false := by with_unfolding_all rfl) : PE X (.Compare a [op, op'] [b, cx] pos) (tE X.K (eChain o o' f g h)) := pe_of (pe_chain ho ho' ha hb hc hm) (rd_chain s s')
theorem et_chain {cx : Expr} {op op' : CmpOp} {r r' : R2} {o o' : PyData → PyData → Option PyData} (ho : OpR X (compareOp op) r) (s : OpS X.K r o) (ho' : OpR X (compareOp op') r') (s' : OpS X.K r' o') (ha : PE X a (tE X.K f)) (hb : PE X b (tE X.K g)) (hc : PE X cx (tE X.K h))
    (hm : lastMarks [op, op'] [b, cx] = false := by with_unfolding_all rfl) : PT X (.Compare a [op, op'] [b, cx] pos) (tT X.K (tBl (eChain o o' f g h))) := by
  refine pt_of (pt_chain ho ho' ha hb hc hm) ?_
  exact rd_bl (rd_chain s s')

/-! ### built-in functions -/
def FnS (K : PySem.W.Frag) (r : List V → Hp → VK → Prop) (o : List PyData → Option PyData) : Prop := ∀ (c : Act K) (ρ : Rho) (σ : L2.St) (H : Hp) (vs : List V) (ds : List PyData) (d : PyData) (Q : VK), Rel K c ρ σ H → RpA K (Av c ρ σ) H vs ds → o ds = some d →
  (∀ v H', Rel K c ρ σ H' → Rp K (Av c ρ σ) H' v d → Kp K H H' → Q v H') → r vs H Q
def FnN (K : PySem.W.Frag) (r : List V → Hp → VK → Prop) (o : List PyData → Option (List PyData)) : Prop := ∀ (c : Act K) (ρ : Rho) (σ : L2.St) (H : Hp) (vs : List V) (ds ys : List PyData) (Q : VK), Rel K c ρ σ H → RpA K (Av c ρ σ) H vs ds → o ds = some ys →
  (∀ p us, H p = none → RpA K (Av c ρ σ) H us ys → Q (.ref p) (upd H p (.lst us))) → r vs H Q
theorem rd_fn {K : PySem.W.Frag} {r : List V → Hp → VK → Prop} {o : List PyData → Option PyData} (s : FnS K r o) : ∀ σ H Q, tE K (eCall o n) σ H Q → tCB r (tA K n) σ H Q := fun σ H Q ⟨c, ρ, d, ρ', R, e, q⟩ => by
  unfold eCall at e
  split at e
  · rename_i xs ρ1 h1
    split at e
    · rename_i z h2
      obtain ⟨e1, e2⟩ := so e
      subst e1 e2
      exact ⟨c, ρ, xs, ρ1, R, h1, fun vs H1 R1 r1 m1 => s c ρ1 σ H1 vs xs z Q R1 r1 h2 fun v H' R' r' k => q v H' R' r' (m1.trans (R1.mvG k))⟩
    · cases e
  · cases e
theorem rd_fnN {K : PySem.W.Frag} {r : List V → Hp → VK → Prop} {o : List PyData → Option (List PyData)} (s : FnN K r o) : ∀ σ H Q, tN K (nCall o n) σ H Q → tCB r (tA K n) σ H Q := fun σ H Q ⟨c, ρ, d, ρ', R, e, q⟩ => by
  unfold nCall at e
  split at e
  · rename_i xs ρ1 h1
    split at e
    · rename_i z h2
      obtain ⟨e1, e2⟩ := so e
      subst e1 e2
      refine ⟨c, ρ, xs, ρ1, R, h1, fun vs H1 R1 r1 m1 => s c ρ1 σ H1 vs xs z Q R1 r1 h2 fun p us hp r' => ?_⟩
      exact q p us _ (R1.plus hp (kp_upd hp) (by rw [upd_same]; exact fun z => nomatch z)) upd_same (r'.mv (R1.mvP hp (kp_upd hp))) (R1.noAv hp) (R1.fresh0 hp) (avOf (K := K) m1 hp) (m1.trans (R1.mvG (kp_upd hp)))
    · cases e
  · cases e
variable {x : Str} {p : Pos} {id : String} {r : List V → Hp → VK → Prop} {o1 : List PyData → Option PyData} {o2 : List PyData → Option (List PyData)}
theorem ev_fn (hc : CallR X (.builtin id) r) (s : FnS X.K r o1) (hg : Gl X x) (hm : X.mg x = none) (hv : bootBuiltins x = some (.builtin id)) (ha : PA X (e :: es) (tA X.K n)) (hn : x ≠ "__name__" := by decide) (hdb : (x == ("__debug__" : Str)) = false := by decide)
    (he : starEach (e :: es) X.env = (false, eval e X.env) :: starEach es X.env := by rfl) (hpl : (backTo pos (starEach es X.env)).any (·.1) = false := by rfl) : PE X (.Call (.Name x p) (e :: es) [] pos) (tE X.K (eCall o1 n)) :=
  pe_of (pe_callB hc hg hm hv ha hn hdb he hpl) (rd_fn s)
theorem ev_fnT (hc : CallR X (.type id) r) (s : FnS X.K r o1) (hg : Gl X x) (hm : X.mg x = none) (hv : bootBuiltins x = some (.type id)) (ha : PA X (e :: es) (tA X.K n)) (hn : x ≠ "__name__" := by decide) (hdb : (x == ("__debug__" : Str)) = false := by decide)
    (he : starEach (e :: es) X.env = (false, eval e X.env) :: starEach es X.env := by rfl) (hpl : (backTo pos (starEach es X.env)).any (·.1) = false := by rfl) : PE X (.Call (.Name x p) (e :: es) [] pos) (tE X.K (eCall o1 n)) :=
  pe_of (pe_callTy hc hg hm hv ha hn hdb he hpl) (rd_fn s)
theorem en_fnT (hc : CallR X (.type id) r) (s : FnN X.K r o2) (hg : Gl X x) (hm : X.mg x = none) (hv : bootBuiltins x = some (.type id)) (ha : PA X (e :: es) (tA X.K n)) (hn : x ≠ "__name__" := by decide) (hdb : (x == ("__debug__" : Str)) = false := by decide)
    (he : starEach (e :: es) X.env = (false, eval e X.env) :: starEach es X.env := by rfl) (hpl : (backTo pos (starEach es X.env)).any (·.1) = false := by rfl) : PE X (.Call (.Name x p) (e :: es) [] pos) (tN X.K (nCall o2 n)) :=
  pe_of (pe_callTy hc hg hm hv ha hn hdb he hpl) (rd_fnN s)
@[simp] def o1of (o : PyData → Option PyData) : List PyData → Option PyData
  | [x] => o x
  | _ => none
@[simp] def o2of (o : PyData → PyData → Option PyData) : List PyData → Option PyData
  | [x, y] => o x y
  | _ => none
@[simp] def dAbs : PyData → Option PyData
  | .int i => some (.int (if i < 0 then -i else i))
  | _ => none
@[simp] def dInt : PyData → Option PyData
  | .int i => some (.int i)
  | _ => none
@[simp] def dMax := dI2 cT fun i j => .int (if j > i then j else i)
@[simp] def dMin := dI2 cT fun i j => .int (if j < i then j else i)
@[simp] def dTupOf : PyData → Option PyData
  | .list xs => some (.tuple xs)
  | .tuple xs => some (.tuple xs)
  | .dict [(.list xs, .none)] => some (.tuple xs)
  | _ => none
@[simp] def dLstOf : PyData → Option (List PyData)
  | .list xs => some xs
  | .tuple xs => some xs
  | .dict [(.list xs, .none)] => some xs
  | _ => none
@[simp] def n1of (o : PyData → Option (List PyData)) : List PyData → Option (List PyData)
  | [x] => o x
  | _ => none
theorem rpa1 {K : PySem.W.Frag} {A : Addr → Prop} {H : Hp} {vs : List V} {d : PyData} (r : RpA K A H vs [d]) : ∃ v, vs = [v] ∧ Rp K A H v d := by
  cases r with
  | cons h t => cases t; exact ⟨_, rfl, h⟩
theorem rpa2 {K : PySem.W.Frag} {A : Addr → Prop} {H : Hp} {vs : List V} {d d' : PyData} (r : RpA K A H vs [d, d']) : ∃ v v', vs = [v, v'] ∧ Rp K A H v d ∧ Rp K A H v' d' := by
  cases r with
  | cons h t =>
    obtain ⟨v', rfl, h'⟩ := rpa1 t
    exact ⟨_, v', rfl, h, h'⟩
theorem o1_inv {o : PyData → Option PyData} {ds : List PyData} {d : PyData} (h : o1of o ds = some d) : ∃ x, ds = [x] ∧ o x = some d := by
  unfold o1of at h
  split at h
  · exact ⟨_, rfl, h⟩
  · cases h
theorem o2_inv {o : PyData → PyData → Option PyData} {ds : List PyData} {d : PyData} (h : o2of o ds = some d) : ∃ x y, ds = [x, y] ∧ o x y = some d := by
  unfold o2of at h
  split at h
  · exact ⟨_, _, rfl, h⟩
  · cases h
theorem n1_inv {o : PyData → Option (List PyData)} {ds : List PyData} {d : List PyData} (h : n1of o ds = some d) : ∃ x, ds = [x] ∧ o x = some d := by
  unfold n1of at h
  split at h
  · exact ⟨_, rfl, h⟩
  · cases h
theorem fs_len {K : PySem.W.Frag} : FnS K (fun xs H Q => (∃ p ys, xs = [.ref p] ∧ (SqL K H p ys ∨ SqT K H p ys) ∧ Q (.int ys.length) H) ∨ ∃ z, xs = [.str z] ∧ z.length ≤ sizeLine ∧ Q (.int z.length) H) (o1of dLen) := by
  intro c ρ σ H vs ds d Q R r ho q
  obtain ⟨x, rfl, h2⟩ := o1_inv ho
  obtain ⟨v, rfl, w1⟩ := rpa1 r
  unfold dLen at h2
  split at h2
  · cases h2
    cases w1 with
    | lst l a => exact .inl ⟨_, _, rfl, .inl l.sq, by rw [a.length]; exact os_same R q (.int _)⟩
  · cases h2
    cases w1 with
    | tup l a => exact .inl ⟨_, _, rfl, .inr l.sq, by rw [a.length]; exact os_same R q (.int _)⟩
  · cases h2
    cases w1 with
    | ro l a => exact .inl ⟨_, _, rfl, .inl l.sq, by rw [(a.rp (K := K) (A := Av c ρ σ) (H := H)).length]; exact os_same R q (.int _)⟩
  · split at h2
    · rename_i hl
      cases h2
      cases w1
      exact .inr ⟨_, rfl, by rw [sl16]; exact hl, os_same R q (.int _)⟩
    · cases h2
  · cases h2
theorem cl_len : CallR X (.builtin "len") (fun xs H Q => (∃ p ys, xs = [.ref p] ∧ (SqL X.K H p ys ∨ SqT X.K H p ys) ∧ Q (.int ys.length) H) ∨ ∃ z, xs = [.str z] ∧ z.length ≤ sizeLine ∧ Q (.int z.length) H) := call_len_seq.or call_len_str
theorem fs_int {K : PySem.W.Frag} : FnS K (fun xs H Q => (∃ i, xs = [.int i] ∧ Q (.int i) H) ∨ ∃ k, xs = [.bl k] ∧ Q (.int (if k then 1 else 0)) H) (o1of dInt) := by
  intro c ρ σ H vs ds d Q R r ho q
  obtain ⟨x, rfl, h2⟩ := o1_inv ho
  obtain ⟨v, rfl, w1⟩ := rpa1 r
  unfold dInt at h2
  split at h2
  · cases h2
    cases w1
    exact .inl ⟨_, rfl, os_same R q (.int _)⟩
  · cases h2
theorem fs_max {K : PySem.W.Frag} : FnS K (fun xs H Q => ∃ i j, xs = [.int i, .int j] ∧ Q (.int (if j > i then j else i)) H) (o2of dMax) := by
  intro c ρ σ H vs ds d Q R r ho q
  obtain ⟨x, y, rfl, h2⟩ := o2_inv ho
  obtain ⟨v, v', rfl, w1, w2⟩ := rpa2 r
  unfold dMax dI2 cT at h2
  split at h2
  · cases h2
    cases w1
    cases w2
    exact ⟨_, _, rfl, os_same R q (.int _)⟩
  · cases h2
theorem fs_min {K : PySem.W.Frag} : FnS K (fun xs H Q => ∃ i j, xs = [.int i, .int j] ∧ Q (.int (if j < i then j else i)) H) (o2of dMin) := by
  intro c ρ σ H vs ds d Q R r ho q
  obtain ⟨x, y, rfl, h2⟩ := o2_inv ho
  obtain ⟨v, v', rfl, w1, w2⟩ := rpa2 r
  unfold dMin dI2 cT at h2
  split at h2
  · cases h2
    cases w1
    cases w2
    exact ⟨_, _, rfl, os_same R q (.int _)⟩
  · cases h2
theorem fn_list {K : PySem.W.Frag} : FnN K (fun xs H Q => ∃ p ys, xs = [.ref p] ∧ (SqL K H p ys ∨ SqT K H p ys) ∧ ∀ l, H l = none → Q (.ref l) (upd H l (.lst ys))) (n1of dLstOf) := by
  intro c ρ σ H vs ds d Q R r ho q
  obtain ⟨x, rfl, h2⟩ := n1_inv ho
  obtain ⟨v, rfl, w1⟩ := rpa1 r
  unfold dLstOf at h2
  split at h2
  · cases h2
    cases w1 with
    | lst l a => exact ⟨_, _, rfl, .inl l.sq, fun p hp => q p _ hp a⟩
  · cases h2
    cases w1 with
    | tup l a => exact ⟨_, _, rfl, .inr l.sq, fun p hp => q p _ hp a⟩
  · cases h2
    cases w1 with
    | ro l a => exact ⟨_, _, rfl, .inl l.sq, fun p hp => q p _ hp a.rp⟩
  · cases h2
/-! isinstance -/
def tyName : PyData → String
  | .none => "NoneType"
  | .bool _ => "bool"
  | .int _ => "int"
  | .str _ => "str"
  | .list _ => "list"
  | .tuple _ => "tuple"
  | .dict _ => "?"
def isN (T n : String) : Bool := decide (n = T) || (decide (T = "int") && decide (n = "bool"))
def isTy (T : String) (d : PyData) : Bool := isN T (tyName d)
@[simp] def dIsi (T : String) : PyData → Option PyData := fun x => match x with
  | .dict _ => none
  | x => some (.bool (isTy T x))
theorem tyx_of {K : PySem.W.Frag} {A : Addr → Prop} {H : Hp} {v : V} {d : PyData} (r : Rp K A H v d) (h : ∀ kvs, d ≠ .dict kvs) : TyX K H v (.type (tyName d)) := by
  cases r with
  | non => exact .base .non
  | bl b => exact .base (.bl b)
  | int i => exact .base (.int i)
  | str x => exact .base (.str x)
  | lst l a => exact .base (.lst l.1)
  | tup l a =>
    rcases l with ⟨l | ⟨o, l⟩, _⟩ | ⟨o, its, n, hk, hc, _⟩
    · exact .base (.tup l)
    · exact .fTuple l
    · exact .kTuple hk hc
  | ro l a => exact absurd rfl (h _)
  | fn => exact absurd rfl (h _)
  | fn0 => exact absurd rfl (h _)
  | dct => exact absurd rfl (h _)
  | adr => exact absurd rfl (h _)
theorem kitB_all : ∀ n ∈ ["NoneType", "bool", "int", "str", "list", "tuple"], ∀ T ∈ ["int", "bool", "str", "list", "tuple"], kitB n T = some (isN T n) := by decide +kernel
theorem tyName_mem (d : PyData) (h : ∀ kvs, d ≠ .dict kvs) : tyName d ∈ ["NoneType", "bool", "int", "str", "list", "tuple"] := by
  cases d <;> first
    | exact absurd rfl (h _)
    | simp [tyName]
theorem kitB_ty {T : String} (hT : T ∈ ["int", "bool", "str", "list", "tuple"]) (d : PyData) (h : ∀ kvs, d ≠ .dict kvs) : kitB (tyName d) T = some (isTy T d) := kitB_all _ (tyName_mem d h) T hT
theorem ev_isi {T : String} (hT : T ∈ ["int", "bool", "str", "list", "tuple"]) (hg : Gl X "isinstance") (hm : X.mg "isinstance" = none) (ha : PE X a (tE X.K f)) (hb : PE X b (tC (.ty T)))
    (he : starEach [a, b] X.env = (false, eval a X.env) :: starEach [b] X.env := by rfl) (he2 : starEach [b] X.env = (false, eval b X.env) :: starEach [] X.env := by rfl) (hpl : (backTo pos (starEach [b] X.env)).any (·.1) = false := by rfl) :
    PE X (.Call (.Name "isinstance" p) [a, b] [] pos) (tE X.K (eUn (dIsi T) f)) :=
  pe_of (pe_callB call_isi hg hm (by rfl) (pa_cons ha (pa_cons hb pa_nil he2) he) (by decide) (by decide) he hpl) fun σ H Q ⟨c, ρ, d, ρ', R, e, q⟩ => by
    obtain ⟨x, h1, h3⟩ := un_inv' e
    refine ⟨c, ρ, x, ρ', R, h1, fun v1 H1 R1 r1 m1 => ?_⟩
    have nd : ∀ kvs, x ≠ .dict kvs := fun kvs z => by subst z; cases h3
    have hd : d = .bool (isTy T x) := by
      unfold dIsi at h3
      split at h3
      · cases h3
      · exact (Option.some.inj h3).symm
    subst hd
    exact ⟨v1, .ty T, _, _, isTy T x, rfl, .ty T, tyx_of r1 nd, kit_ty (kitB_ty hT x nd), q _ H1 R1 (.bl _) m1⟩
end
end PG
end
section
set_option Elab.async false
set_option linter.all false
set_option maxRecDepth 100000
namespace PG
open PySem PySem.Spec PyProof.Rows L2

/-! ### statements -/
def sPost (K : PySem.W.Frag) (c : Act K) (ρ : Rho) (σ : L2.St) (H : Hp) (E : Ends) (ρ' : Rho) : Out → Prop
  | .next => ∀ σ' H', Rel K c ρ' σ' H' → Stp c ρ σ H ρ' σ' H' → E.nx σ' H'
  | .brk => ∀ σ' H', Rel K c ρ' σ' H' → Stp c ρ σ H ρ' σ' H' → E.bk σ' H'
  | .cont => ∀ σ' H', Rel K c ρ' σ' H' → Stp c ρ σ H ρ' σ' H' → E.ct σ' H'
  | .ret d => ∀ v σ' H', Rel K c ρ' σ' H' → Rp K c.A H' v d → E.rt v H'
  | .retL ds => ∀ a vs σ' H', Rel K c ρ' σ' H' → H' a = some (.lst vs) → RpA K (fun b => c.A b ∨ b = a) H' vs ds → c.H0 a = none → E.rt (.ref a) H'
def tS (K : PySem.W.Frag) (F : SF) : TS := fun E σ H => ∃ (c : Act K) (ρ : Rho) (o : Out) (ρ' : Rho), Rel K c ρ σ H ∧ F ρ = some (o, ρ') ∧ sPost K c ρ σ H E ρ' o
def tG (K : PySem.W.Frag) (G : GF) (is : List Nat) : TG := fun v σ H Q => ∃ (c : Act K) (ρ : Rho) (d : PyData) (ρ' : Rho), Rel K c ρ σ H ∧ Rp K (Av c ρ σ) H v d ∧ G d ρ = some ρ' ∧
  ∀ σ', Rel K c ρ' σ' H → Stp c ρ σ H ρ' σ' H → σ'.length = σ.length → (∀ j, j ∉ is → σ'[j]? = σ[j]?) → Q σ' H

section
variable {X : Cx} {e a b : Expr} {pos : Pos} {f g h : EF} {tf tg : TF} {n m : NF} {es : List Expr} {st : Stmt} {sts : List Stmt} {F G' : SF}
theorem sPost.pre {K : PySem.W.Frag} {c : Act K} {ρ ρ1 ρ' : Rho} {σ σ1 : L2.St} {H H1 : Hp} {E : Ends} {o : Out} (m : Stp c ρ σ H ρ1 σ1 H1) (p : sPost K c ρ σ H E ρ' o) : sPost K c ρ1 σ1 H1 E ρ' o := by
  cases o with
  | next => exact fun σ' H' R' m' => p σ' H' R' (m.trans m')
  | brk => exact fun σ' H' R' m' => p σ' H' R' (m.trans m')
  | cont => exact fun σ' H' R' m' => p σ' H' R' (m.trans m')
  | ret d => exact p
  | retL ds => exact p
theorem es_nil : PSs X [] (tS X.K sNil) := pss_of pss_nil fun E σ H ⟨c, ρ, o, ρ', R, e, q⟩ => by
  cases e
  exact q σ H R Mv.refl
theorem es_cons (h1 : PS X st (tS X.K F)) (h2 : PSs X sts (tS X.K G')) : PSs X (st :: sts) (tS X.K (sSeq F G')) := pss_of (pss_cons h1 h2) fun E σ H ⟨c, ρ, o, ρ', R, e, q⟩ => by
  unfold sSeq at e
  split at e
  · rename_i ρ1 e1
    exact ⟨c, ρ, .next, ρ1, R, e1, fun σ1 H1 R1 m1 => ⟨c, ρ1, o, ρ', R1, e, q.pre m1⟩⟩
  · rename_i hn
    refine ⟨c, ρ, o, ρ', R, e, ?_⟩
    cases o with
    | next => exact absurd e (hn ρ')
    | brk => exact q
    | cont => exact q
    | ret d => exact q
    | retL ds => exact q
theorem es_if {A B : List Stmt} (hc : PT X e (tT X.K tf)) (ha : PSs X A (tS X.K F)) (hb : PSs X B (tS X.K G')) : PS X (.If e A B pos) (tS X.K (sIf tf F G')) := ps_of (ps_if hc ha hb) fun E σ H ⟨c, ρ, o, ρ', R, e, q⟩ => by
  unfold sIf at e
  split at e
  · rename_i ρ1 h1
    exact ⟨c, ρ, true, ρ1, R, h1, fun H' R' m => iteT ⟨c, ρ1, o, ρ', R', e, q.pre m⟩⟩
  · rename_i ρ1 h1
    exact ⟨c, ρ, false, ρ1, R, h1, fun H' R' m => iteF ⟨c, ρ1, o, ρ', R', e, q.pre m⟩⟩
  · cases e
theorem av_sub {K : PySem.W.Frag} {c : Act K} {ρ : Rho} {σ : L2.St} {H : Hp} : Mv (Av c ρ σ) H c.A H := mvX fun a o e n => ⟨e, fun z => n (.inl z)⟩
theorem es_ret (he : PE X e (tE X.K f)) : PS X (.Return (some e) pos) (tS X.K (sRet f)) := ps_of (ps_ret he) fun E σ H ⟨c, ρ, o, ρ', R, e, q⟩ => by
  unfold sRet at e
  split at e
  · rename_i d ρ1 h1
    obtain ⟨e1, e2⟩ := so e
    subst e1 e2
    exact ⟨c, ρ, d, ρ1, R, h1, fun v H' R' r' m => q v σ H' R' (r'.mv av_sub)⟩
  · cases e
theorem es_retL (he : PE X e (tN X.K n)) : PS X (.Return (some e) pos) (tS X.K (sRetL n)) := ps_of (ps_ret he) fun E σ H ⟨c, ρ, o, ρ', R, e, q⟩ => by
  unfold sRetL at e
  split at e
  · rename_i d ρ1 h1
    obtain ⟨e1, e2⟩ := so e
    subst e1 e2
    exact ⟨c, ρ, d, ρ1, R, h1, fun a vs H' R' ha r' na h0 nw m => q a vs σ H' (R'.unplus R.pA) ha (r'.mv av_sub) h0⟩
  · cases e
theorem es_retO {i : Nat} (hv : PE X e (tVar i)) : PS X (.Return (some e) pos) (tS X.K (sRetO i)) := ps_of (ps_ret hv) fun E σ H ⟨c, ρ, o, ρ', R, e, q⟩ => by
  unfold sRetO at e
  split at e
  · rename_i ds h1
    obtain ⟨e1, e2⟩ := so e
    subst e1 e2
    obtain ⟨a, vs, g1, g2, g3, g4⟩ := R.lst i false ds h1
    refine ⟨.ref a, g1, q a vs σ H R g2 (g3.mv <| mvX fun b o e n => ⟨e, fun z => n ?_⟩) (g4 rfl).1⟩
    rcases z with z | z
    · exact .inl z
    · subst z; exact .inr ⟨i, false, ds, h1, g1⟩
  · cases e
/-! assignments -/
theorem es_set {i : Nat} {x : Str} {pos' : Pos} (hN : X.N.Nodup) (hi : X.N[i]? = some x) (hx : Loc X.env.scope x) (he : PE X e (tE X.K f)) (hs : swapsWith e (some (.Name x pos')) pos.line X.env = pure false := by rfl)
    (hf : X.fn x = true ∨ X.env.scope.names.lookup x = some .local := by first | exact .inl rfl | exact .inr rfl | assumption) : PS X (.Assign [.Name x pos'] e pos) (tS X.K (sSet i f)) :=
  ps_of (ps_set hN hi hx he hs hf) fun E σ H ⟨c, ρ, o, ρ', R, e, q⟩ => by
    unfold sSet at e
    split at e
    · rename_i d ρ1 h1
      split at e
      · rename_i ρ2 h2
        obtain ⟨e1, e2⟩ := so e
        subst e1 e2
        refine ⟨c, ρ, d, ρ1, R, h1, fun v H' R' r' m => ?_⟩
        obtain ⟨R2, m2⟩ := R'.assign h2 r'
        exact q _ H' R2 (m.trans m2)
      · cases e
    · cases e
theorem es_setL {i : Nat} {x : Str} {pos' : Pos} (hN : X.N.Nodup) (hi : X.N[i]? = some x) (hx : Loc X.env.scope x) (he : PE X e (tN X.K n)) (hs : swapsWith e (some (.Name x pos')) pos.line X.env = pure false := by rfl)
    (hf : X.fn x = true ∨ X.env.scope.names.lookup x = some .local := by first | exact .inl rfl | exact .inr rfl | assumption) : PS X (.Assign [.Name x pos'] e pos) (tS X.K (sSetL i n)) :=
  ps_of (ps_set hN hi hx he hs hf) fun E σ H ⟨c, ρ, o, ρ', R, e, q⟩ => by
    unfold sSetL at e
    split at e
    · rename_i d ρ1 h1
      split at e
      · rename_i ρ2 h2
        obtain ⟨e1, e2⟩ := so e
        subst e1 e2
        refine ⟨c, ρ, d, ρ1, R, h1, fun a vs H' R' ha r' na h0 nw m => ?_⟩
        obtain ⟨R2, m2⟩ := R'.assignL h2 ha r' h0 na R.pA
        refine q _ H' R2 ⟨fun b o eb nb => ?_, fun b p q e => m2.c b p q (m.c b p q e)⟩
        obtain ⟨w1, w2, w3⟩ := m.m b o eb nb
        have nba : b ≠ a := fun z => by subst z; rw [nw nb] at eb; cases eb
        cases e3 : H' b with
        | none => exact absurd e3 w3
        | some o3 =>
          obtain ⟨u1, u2, u3⟩ := m2.m b o3 e3 fun z => z.elim (fun y => y.elim (fun y => w2 (.inl y)) nba) fun y => w2 (.inr y)
          exact ⟨fun t => (by
            have := w1 t
            rw [e3] at this
            exact this), u2, fun z => nomatch z⟩
      · cases e
    · cases e
theorem es_asg {tgt : Expr} {G : GF} {is : List Nat} (he : PE X e (tE X.K f)) (hg : PG X tgt (tG X.K G is)) (hs : swapsWithSole [tgt] e pos.line X.env = pure false := by rfl) (hw : swappedStores [tgt] e X.env = pure none := by rfl)
    (h1 : (assignEach [tgt] X.env).map (·.2) = [assign tgt X.env] := by rfl) : PS X (.Assign [tgt] e pos) (tS X.K (sAsg f G)) :=
  ps_of (ps_asg he hg hs hw h1) fun E σ H ⟨c, ρ, o, ρ', R, e, q⟩ => by
    unfold sAsg at e
    split at e
    · rename_i d ρ1 h1
      split at e
      · rename_i ρ2 h2
        obtain ⟨e1, e2⟩ := so e
        subst e1 e2
        exact ⟨c, ρ, d, ρ1, R, h1, fun v H' R' r' m => ⟨c, ρ1, d, ρ2, R', r', h2, fun σ' R2 m2 _ _ => q σ' H' R2 (m.trans m2)⟩⟩
      · cases e
    · cases e
/-! targets -/
theorem pg_of {tgt : Expr} {t t' : TG} (h : PG X tgt t) (k : ∀ v σ H Q, t' v σ H Q → t v σ H Q) : PG X tgt t' := ⟨fun pins s σ H v u Q I r q => h.run pins s σ H v u Q I r (k v σ H Q q)⟩
theorem eg_name {i : Nat} {x : Str} (hN : X.N.Nodup) (hi : X.N[i]? = some x) (hx : Loc X.env.scope x) (hf : X.fn x = true ∨ X.env.scope.names.lookup x = some .local := by first | exact .inl rfl | exact .inr rfl | assumption) : PG X (.Name x pos) (tG X.K (gSet i) [i]) :=
  pg_of (pg_name hN hi hx hf) fun v σ H Q ⟨c, ρ, d, ρ', R, r, e, q⟩ => by
    obtain ⟨R2, m2⟩ := R.assign e r
    refine q _ R2 m2 (List.length_set ..) fun j hj => ?_
    rw [List.getElem?_set_ne (fun z => hj (by simp [z]))]
def gsPairs (is : List Nat) : TGs := match is with
  | [] => gNil
  | i :: r => gCons (gName i) (gsPairs r)
theorem rd_pairs {K : PySem.W.Frag} {c : Act K} {H : Hp} : ∀ (is : List Nat) (vs : List V) (ds : List PyData) (ρ ρ' : Rho) (σ : L2.St) (Q : L2.St → Hp → Prop), Rel K c ρ σ H → RpA K (Av c ρ σ) H vs ds → gPairs is ds ρ = some ρ' →
    (∀ σ', Rel K c ρ' σ' H → Stp c ρ σ H ρ' σ' H → σ'.length = σ.length → (∀ j, j ∉ is → σ'[j]? = σ[j]?) → Q σ' H) → gsPairs is vs σ H Q
  | [], vs, [], ρ, ρ', σ, Q, R, r, e, q => by
    cases r
    cases e
    exact ⟨rfl, q σ R Mv.refl rfl fun _ _ => rfl⟩
  | [], vs, _ :: _, ρ, ρ', σ, Q, R, r, e, q => by cases e
  | _ :: _, vs, [], ρ, ρ', σ, Q, R, r, e, q => by cases e
  | i :: is, _, d :: ds, ρ, ρ', σ, Q, R, r, e, q => by
    cases r with
    | @cons v vs _ _ h1 h2 =>
      unfold gPairs at e
      split at e
      · rename_i ρ1 e1
        obtain ⟨R2, m2⟩ := R.assign e1 h1
        refine ⟨v, vs, rfl, rd_pairs is vs ds ρ1 ρ' _ Q R2 (h2.mv m2) e fun σ' R' m' l' k' => ?_⟩
        refine q σ' R' (m2.trans m') (by rw [l', List.length_set]) fun j hj => ?_
        rw [k' j (fun z => hj (List.mem_cons_of_mem _ z)), List.getElem?_set_ne (fun z => hj (by simp [z]))]
      · cases e
theorem gpairs_len : ∀ (is : List Nat) (ds : List PyData) (ρ ρ' : Rho), gPairs is ds ρ = some ρ' → ds.length = is.length
  | [], [], _, _, _ => rfl
  | [], _ :: _, _, _, e => by cases e
  | _ :: _, [], _, _, e => by cases e
  | i :: is, d :: ds, ρ, ρ', e => by
    unfold gPairs at e
    split at e
    · rename_i ρ1 e1
      rw [List.length_cons, List.length_cons, gpairs_len is ds ρ1 ρ' e]
    · cases e
theorem eg_tup {k : Nat} {is : List Nat} (hc : X.calm = true) (h : PGs X es (gsPairs is)) (hn : (assignEach es X.env).length = is.length := by rfl) (hst : (assignEach es X.env).findIdx? (·.1) = none := by rfl) : PG X (.Tuple es k pos) (tG X.K (gTupS is) is) :=
  pg_of (pg_tup hc h hn hst) fun v σ H Q ⟨c, ρ, d, ρ', R, r, e, q⟩ => by
    unfold gTupS at e
    split at e
    · rename_i ds
      cases r with
      | @tup p xs _ l al =>
        exact ⟨p, xs, rfl, l.sq, by rw [al.length, gpairs_len _ _ _ _ e], rd_pairs is xs ds ρ ρ' σ Q R al e q⟩
    · cases e
/-! owned lists -/
theorem es_app {i : Nat} {apos cpos : Pos} (hv : PE X a (tVar i)) (he : PE X e (tE X.K f)) (hbase : attributeBase a "append" X.env (eval a X.env) = eval a X.env := by rfl)
    (hfew : ((backTo cpos (starEach [e] X.env)).all (fun x => !x.1) && (backToKw cpos (keywordEach [] X.env)).all (fun x => x.1.isSome)
      && decide ([e].length + ([] : List Keyword).length + (if ([] : List Keyword).isEmpty then 0 else 1) < 30)) = true := by rfl)
    (hline : (apos.endLine == cpos.line) = true := by rfl) (hs : starEach [e] X.env = (false, eval e X.env) :: starEach [] X.env := by rfl) (hplain : (backTo cpos (starEach [] X.env)).any (·.1) = false := by rfl)
    (hsw : swapsWith (.Call (.Attribute a "append" apos) [e] [] cpos) none pos.line X.env = pure false := by rfl) :
    PS X (.Expr (.Call (.Attribute a "append" apos) [e] [] cpos) pos) (tS X.K (sApp i f)) :=
  ps_of (ps_expr (pe_bm PySem.F.plainAttrs_list PySem.F.slot_list_append PySem.F.type_list_append mt_append hv (pa_cons he pa_nil hs) hbase hfew hline hs hplain) hsw) fun E σ H ⟨c, ρ, o, ρ', R, e, q⟩ => by
    unfold sApp at e
    split at e
    · rename_i p0 l0 h0
      split at e
      · rename_i d ρ1 h1
        split at e
        · rename_i p ds h2
          split at e
          · rename_i hl
            obtain ⟨e1, e2⟩ := so e
            subst e1 e2
            obtain ⟨a, us0, g1, g2, _⟩ := R.lst i p0 l0 h0
            refine ⟨.ref a, g1, .inl ⟨rfl, us0, .inl (.inl g2)⟩, c, ρ, d, ρ1, R, h1, fun v H1 R1 r1 m1 => ?_⟩
            obtain ⟨a', us, g1', g2', g3, _⟩ := R1.lst i p ds h2
            rw [g1] at g1'
            cases g1'
            refine ⟨a, us, v, rfl, rfl, g2', by rw [g3.length, sl16]; exact hl, ?_⟩
            have own : Av c ρ1 σ a := .inr ⟨i, p, ds, h2, g1⟩
            have mw : Mv (Av c ρ1 σ) H1 (Av c ρ1 σ) (upd H1 a (.lst (us ++ [v]))) := mvX (fun b o e n => ⟨by rw [upd_ne (fun z => n (by subst z; exact own))]; exact e, n⟩) (code_upd g2')
            obtain ⟨R2, m2⟩ := R1.write (ds' := ds ++ [d]) h2 g1 upd_same (KpB.of g2' fun b o nb eb => by rw [upd_ne nb]; exact eb) ((g3.app (.cons r1 .nil)).mv mw)
            exact q σ _ R2 (m1.trans m2)
          · cases e
        · cases e
      · cases e
    · cases e
theorem es_sto {i : Nat} {tpos : Pos} (hv : PE X a (tVar i)) (hi : PE X b (tE X.K g)) (he : PE X e (tE X.K f))
    (ha : ∀ v, assign (.Subscript a b tpos) X.env v = (do
      let ov ← holding [v] (eval a X.env)
      let iv ← holding [v, ov] (eval b X.env)
      standAt tpos
      holding [v, ov, iv] (setItem ov iv v)
      release [v, ov, iv] []) := by intro _; rfl) (hs : swapsWithSole [.Subscript a b tpos] e pos.line X.env = pure false := by rfl) (hw : swappedStores [.Subscript a b tpos] e X.env = pure none := by rfl)
    (h1 : (assignEach [.Subscript a b tpos] X.env).map (·.2) = [assign (.Subscript a b tpos) X.env] := by rfl) : PS X (.Assign [.Subscript a b tpos] e pos) (tS X.K (sSto i g f)) :=
  ps_of (ps_asg he (pg_sub hv hi set_list ha) hs hw h1) fun E σ H ⟨c, ρ, o, ρ', R, e, q⟩ => by
    unfold sSto at e
    split at e
    · rename_i d ρ1 h1
      split at e
      · rename_i p0 l0 h0
        split at e
        · rename_i k ρ2 h2
          split at e
          · rename_i p ds h3
            split at e
            · rename_i j hj
              obtain ⟨e1, e2⟩ := so e
              subst e1 e2
              refine ⟨c, ρ, d, ρ1, R, h1, fun v H1 R1 r1 m1 => ?_⟩
              obtain ⟨a, us0, g1, g2, _⟩ := R1.lst i p0 l0 h0
              refine ⟨.ref a, g1, c, ρ1, .int k, ρ2, R1, h2, fun vk H2 R2 rk m2 => ?_⟩
              cases rk
              obtain ⟨a', us, g1', g2', g3, _⟩ := R2.lst i p ds h3
              rw [g1] at g1'
              cases g1'
              refine ⟨a, us, k, j, rfl, rfl, g2', by rw [g3.length]; exact hj, ?_⟩
              have own : Av c ρ2 σ a := .inr ⟨i, p, ds, h3, g1⟩
              have mw : Mv (Av c ρ2 σ) H2 (Av c ρ2 σ) (upd H2 a (.lst (us.set j v))) := mvX (fun b o e n => ⟨by rw [upd_ne (fun z => n (by subst z; exact own))]; exact e, n⟩) (code_upd g2')
              obtain ⟨R3, m3⟩ := R2.write (ds' := ds.set j d) h3 g1 upd_same (KpB.of g2' fun b o nb eb => by rw [upd_ne nb]; exact eb) ((g3.set j (r1.mv m2)).mv mw)
              exact q σ _ R3 ((m1.trans m2).trans m3)
            · cases e
          · cases e
        · cases e
      · cases e
    · cases e
/-- reading an owned list -/
theorem ev_ixL {r : R2} {o : PyData → PyData → Option PyData} {i : Nat} (hr : IxR X r) (s : OpS X.K r o) (hv : PE X a (tVar i)) (hb : PE X b (tE X.K g)) (hs : PlainIx b)
    (so2 : ∀ ds y z, o (.list ds) y = some z → ∃ k, y = .int k ∧ atD ds k = some z) (hr2 : ∀ x y H Q, rIxL X.K x y H Q → r x y H Q) : PE X (.Subscript a b pos) (tE X.K (eIxL o i g)) :=
  pe_of (pe_ix hr hv hb hs) fun σ H Q ⟨c, ρ, d, ρ', R, e, q⟩ => by
    unfold eIxL at e
    split at e
    · rename_i p0 l0 h0
      split at e
      · rename_i y ρ1 h1
        split at e
        · rename_i p ds h2
          split at e
          · rename_i z h3
            obtain ⟨e1, e2⟩ := so e
            subst e1 e2
            obtain ⟨a, us0, g1, g2, _⟩ := R.lst i p0 l0 h0
            refine ⟨.ref a, g1, c, ρ, y, ρ1, R, h1, fun v H1 R1 r1 m1 => ?_⟩
            obtain ⟨a', us, g1', g2', g3, _⟩ := R1.lst i p ds h2
            rw [g1] at g1'
            cases g1'
            obtain ⟨k, rfl, hk⟩ := so2 ds y z h3
            cases r1
            obtain ⟨v, w1, w2⟩ := ix_at g3 hk
            exact hr2 _ _ _ _ ⟨a, us, k, v, rfl, rfl, .inl (.inl g2'), w1, q v H1 R1 w2 m1⟩
          · cases e
        · cases e
      · cases e
    · cases e
theorem ev_ixO {i : Nat} (hv : PE X a (tVar i)) (hb : PE X b (tE X.K g)) (hs : PlainIx b) : PE X (.Subscript a b pos) (tE X.K (eIxL dIx i g)) :=
  ev_ixL ix_seq os_ix hv hb hs (fun ds y z h => by
    unfold dIx at h
    split at h <;> first
      | (rename_i hh; cases hh; exact ⟨_, rfl, h⟩)
      | (rename_i hh _; cases hh; exact ⟨_, rfl, h⟩)
      | (rename_i hh; cases hh; done)
      | cases h) fun x y H Q h => .inl h

/-! ### loops -/
def JOk (K : PySem.W.Frag) (c : Act K) (ρ1 : Rho) (σ1 : L2.St) (H1 : Hp) (J : It) (ds : List PyData) : Prop := ∀ (c' : Act K) (ρi : Rho) (σi : L2.St) (Hi : Hp), Mv (Av c ρ1 σ1) H1 (Av c' ρi σi) Hi →
  (∀ (i : Nat) (d : PyData), ds[i]? = some d → J.go i Hi ∧ ∀ x H', J.yld i Hi x H' → H' = Hi ∧ Rp K (Av c' ρi σi) Hi x d) ∧ J.stop ds.length Hi
def tI (K : PySem.W.Frag) (f : NF) : TI := fun σ H R => ∃ (c : Act K) (ρ : Rho) (ds : List PyData) (ρ' : Rho), Rel K c ρ σ H ∧ f ρ = some (ds, ρ') ∧
  ∀ J H1, Rel K c ρ' σ H1 → Stp c ρ σ H ρ' σ H1 → JOk K c ρ' σ H1 J ds → R J H1
theorem pi_of {tgt : Expr} {t t' : TI} (h : PI X tgt e t) (k : ∀ σ H R, t' σ H R → t σ H R) : PI X tgt e t' := ⟨fun pins s σ H R I q => h.run pins s σ H R I (k σ H R q)⟩
theorem jok_list {K : PySem.W.Frag} {c : Act K} {ρ : Rho} {σ : L2.St} {H : Hp} {p : Addr} {xs : List V} {ds : List PyData} (l : WAt K (Av c ρ σ) H p xs) (r : RpA K (Av c ρ σ) H xs ds) : JOk K c ρ σ H (Itl K p) ds := fun c' ρi σi Hi m => by
  have l2 := (l.move m).sq
  have r2 := r.mv m
  refine ⟨fun i d hd => ?_, ⟨xs, l2, by rw [r2.length]; exact Nat.le_refl _⟩⟩
  obtain ⟨v, h1, h2⟩ := r2.get hd
  exact ⟨⟨xs, v, l2, h1⟩, fun x H' y => ⟨y.1, by
    have := y.2 xs l2
    rw [h1] at this
    cases this
    exact h2⟩⟩
theorem jok_tup {K : PySem.W.Frag} {c : Act K} {ρ : Rho} {σ : L2.St} {H : Hp} {p : Addr} {xs : List V} {ds : List PyData} (l : TAt K (Av c ρ σ) H p xs) (r : RpA K (Av c ρ σ) H xs ds) : JOk K c ρ σ H (Itt K p) ds := fun c' ρi σi Hi m => by
  have l2 := (l.move m).sq
  have r2 := r.mv m
  refine ⟨fun i d hd => ?_, ⟨xs, l2, by rw [r2.length]; exact Nat.le_refl _⟩⟩
  obtain ⟨v, h1, h2⟩ := r2.get hd
  exact ⟨⟨xs, v, l2, h1⟩, fun x H' y => ⟨y.1, by
    have := y.2 xs l2
    rw [h1] at this
    cases this
    exact h2⟩⟩
def itL (f : EF) : NF := fun ρ => match f ρ with
  | some (.list xs, ρ1) => some (xs, ρ1)
  | some (.dict [(.list xs, .none)], ρ1) => some (xs, ρ1)
  | _ => none
def itT (f : EF) : NF := fun ρ => match f ρ with
  | some (.tuple xs, ρ1) => some (xs, ρ1)
  | _ => none
theorem ei_list {tgt : Expr} (he : PE X e (tE X.K f)) : PI X tgt e (tI X.K (itL f)) := pi_of (pi_list he) fun σ H R ⟨c, ρ, ds, ρ', R0, e, q⟩ => by
  unfold itL at e
  split at e
  · rename_i xs ρ1 h1
    obtain ⟨e1, e2⟩ := so e
    subst e1 e2
    refine ⟨c, ρ, _, ρ1, R0, h1, fun v H1 R1 r1 m1 => ?_⟩
    cases r1 with
    | lst l a => exact ⟨_, rfl, ⟨_, l.sq⟩, q _ H1 R1 m1 (jok_list (.inl ⟨.inl l.1, l.2⟩) a)⟩
  · rename_i xs ρ1 h1
    obtain ⟨e1, e2⟩ := so e
    subst e1 e2
    refine ⟨c, ρ, _, ρ1, R0, h1, fun v H1 R1 r1 m1 => ?_⟩
    cases r1 with
    | ro l a => exact ⟨_, rfl, ⟨_, l.sq⟩, q _ H1 R1 m1 (jok_list l a.rp)⟩
  · cases e
theorem ei_tup {tgt : Expr} (he : PE X e (tE X.K f)) : PI X tgt e (tI X.K (itT f)) := pi_of (pi_tup he) fun σ H R ⟨c, ρ, ds, ρ', R0, e, q⟩ => by
  unfold itT at e
  split at e
  · rename_i xs ρ1 h1
    obtain ⟨e1, e2⟩ := so e
    subst e1 e2
    refine ⟨c, ρ, _, ρ1, R0, h1, fun v H1 R1 r1 m1 => ?_⟩
    cases r1 with
    | tup l a => exact ⟨_, rfl, ⟨_, l.sq⟩, q _ H1 R1 m1 (jok_tup l a)⟩
  · cases e
/-- range -/
def rng (lo : Int) (n : Nat) : List PyData := (List.range n).map fun k => .int (lo + (k : Nat))
theorem jok_rng {K : PySem.W.Frag} {c : Act K} {ρ : Rho} {σ : L2.St} {H : Hp} (lo : Int) (n : Nat) : JOk K c ρ σ H (Itr lo n) (rng lo n) := fun c' ρi σi Hi m => by
  refine ⟨fun i d hd => ?_, ?_⟩
  · unfold rng at hd
    rw [List.getElem?_map] at hd
    rcases Nat.lt_or_ge i n with h | h
    · rw [List.getElem?_range h] at hd
      cases hd
      exact ⟨h, fun x H' y => ⟨y.1, by rw [y.2]; exact .int _⟩⟩
    · rw [List.getElem?_eq_none (by simpa using h)] at hd
      cases hd
  · show n ≤ (rng lo n).length
    unfold rng
    rw [List.length_map, List.length_range]
    exact Nat.le_refl _
def in62 (i : Int) : Bool := decide (-4611686018427387904 ≤ i) && decide (i < 4611686018427387904)
def itR1 (f : NF) : NF := fun ρ => match f ρ with
  | some ([.int j], ρ1) => if in62 j then some (rng 0 j.toNat, ρ1) else none
  | _ => none
def itR2 (f : NF) : NF := fun ρ => match f ρ with
  | some ([.int i, .int j], ρ1) => if in62 i && in62 j then some (rng i (j - i).toNat, ρ1) else none
  | _ => none
theorem in62_iff {i : Int} (h : in62 i = true) : -(2 ^ 62) ≤ i ∧ i < 2 ^ 62 := by
  simp only [in62, Bool.and_eq_true, decide_eq_true_eq] at h
  exact ⟨by omega, by omega⟩
theorem ei_rng1 {tgt : Expr} {p : Pos} (hg : Gl X "range") (hm : X.mg "range" = none) (ha : PA X [a] (tA X.K n)) (hs : starEach [a] X.env = [(false, eval a X.env)] := by rfl) : PI X tgt (.Call (.Name "range" p) [a] [] pos) (tI X.K (itR1 n)) :=
  pi_of (pi_range1 hg hm ha hs) fun σ H R ⟨c, ρ, ds, ρ', R0, e, q⟩ => by
    unfold itR1 at e
    split at e
    · rename_i j ρ1 h1
      split at e
      · rename_i hj
        obtain ⟨e1, e2⟩ := so e
        subst e1 e2
        refine ⟨c, ρ, _, ρ1, R0, h1, fun vs H1 R1 r1 m1 => ?_⟩
        obtain ⟨v, rfl, r2⟩ := rpa1 r1
        cases r2
        obtain ⟨w1, w2⟩ := in62_iff hj
        exact ⟨j, rfl, w1, w2, q _ H1 R1 m1 (jok_rng 0 _)⟩
      · cases e
    · cases e
theorem drop_cons {α : Type} {l : List α} {i : Nat} {d : α} {r : List α} (h : l.drop i = d :: r) : l[i]? = some d ∧ l.drop (i + 1) = r := by
  constructor
  · have := List.getElem?_drop (xs := l) (i := i) (j := 0)
    rw [h] at this
    simpa using this.symm
  · have := List.drop_drop (i := 1) (j := i) (l := l)
    rw [h] at this
    simpa [Nat.add_comm] using this.symm
theorem es_for {tgt iter : Expr} {body : List Stmt} {it : NF} {G : GF} {is : List Nat} (hp : PassesOwn (model X.prog X.w) X.A X.env X.xe) (hc : X.calm = true) (hi : PI X tgt iter (tI X.K it)) (hg : PG X tgt (tG X.K G is)) (hb : PSs X body (tS X.K F)) (hs : ∀ x, foldedSetIterable iter X.env x = pure x := by intro _; rfl) :
    PS X (.For tgt iter body [] pos) (tS X.K (sFor it G F)) := ps_of (ps_for hp hc hi hg hb hs) fun E σ H ⟨c, ρ, o, ρ', R, e, q⟩ => by
  unfold sFor at e
  split at e
  · rename_i ds ρ1 h1
    refine ⟨c, ρ, ds, ρ1, R, h1, fun J H1 R1 m1 jo => ?_⟩
    refine ⟨fun i m σi Hi => m = ds.length - i ∧ i ≤ ds.length ∧ ∃ ρi, Rel X.K c ρi σi Hi ∧ Stp c ρ1 σ H1 ρi σi Hi ∧ forL G F (ds.drop i) ρi = some (o, ρ'), ⟨ds.length, by simp, Nat.zero_le _, ρ1, R1, Mv.refl, e⟩, ?_⟩
    rintro i m σi Hi ⟨rfl, hi, ρi, Ri, mi, ei⟩
    obtain ⟨jg, js⟩ := jo c ρi σi Hi mi
    cases hd : ds.drop i with
    | nil =>
      rw [hd] at ei
      unfold forL at ei
      obtain ⟨e1, e2⟩ := so ei
      subst e1 e2
      have : i = ds.length := by
        have := congrArg List.length hd
        rw [List.length_drop, List.length_nil] at this
        omega
      subst this
      exact .inl ⟨js, q σi Hi Ri (m1.trans mi)⟩
    | cons d r =>
      obtain ⟨g1, g2⟩ := drop_cons hd
      rw [hd] at ei
      obtain ⟨k1, k2⟩ := jg i d g1
      have hlt := lt_of_get g1
      unfold forL at ei
      split at ei
      · cases ei
      · rename_i ρa ea
        refine .inr ⟨k1, fun σ' H' => ds.length - (i + 1) = ds.length - (i + 1) ∧ i + 1 ≤ ds.length ∧ ∃ ρi, Rel X.K c ρi σ' H' ∧ Stp c ρ1 σ H1 ρi σ' H' ∧ forL G F (ds.drop (i + 1)) ρi = some (o, ρ'), fun σ' H' z => ⟨ds.length - (i + 1), by omega, z⟩, fun x H' y => ?_⟩
        obtain ⟨rfl, rx⟩ := k2 x H' y
        refine ⟨c, ρi, d, ρa, Ri, rx, ea, fun σ2 Ra ma _ _ => ?_⟩
        rw [g2]
        have mm := mi.trans ma
        split at ei
        · rename_i ρb eb
          exact ⟨c, ρa, .next, ρb, Ra, eb, fun σ3 H3 R3 m3 => ⟨rfl, hlt, ρb, R3, mm.trans m3, ei⟩⟩
        · rename_i ρb eb
          exact ⟨c, ρa, .cont, ρb, Ra, eb, fun σ3 H3 R3 m3 => ⟨rfl, hlt, ρb, R3, mm.trans m3, ei⟩⟩
        · rename_i ρb eb
          obtain ⟨e1, e2⟩ := so ei
          subst e1 e2
          exact ⟨c, ρa, .brk, ρb, Ra, eb, fun σ3 H3 R3 m3 => q σ3 H3 R3 ((m1.trans mm).trans m3)⟩
        · rename_i hn1 hn2 hn3
          refine ⟨c, ρa, o, ρ', Ra, ei, ?_⟩
          cases o with
          | next => exact absurd ei (hn1 ρ')
          | brk => exact absurd ei (hn3 ρ')
          | cont => exact absurd ei (hn2 ρ')
          | ret d => exact q
          | retL d => exact q
  · cases e
end
end PG
end
section
set_option Elab.async false
set_option linter.all false
set_option maxRecDepth 100000
namespace PG
open PySem PySem.Spec PyProof.Rows L2

/-! ### slots forgotten and given back -/
section
variable {K : PySem.W.Frag} {c : Act K} {ρ ρ' : Rho} {σ σ' : L2.St} {H H' : Hp}
theorem Rel.clear (R : Rel K c ρ σ H) {v : Nat} (hp : ρ[v]? = some none ∨ ∃ d, ρ[v]? = some (some (Cell.v d))) : Rel K c (ρ.set v none) (σ.set v none) H ∧ Stp c ρ σ H (ρ.set v none) (σ.set v none) H := by
  have hl : v < ρ.length := by
    rcases hp with h | ⟨d, h⟩ <;> exact lt_of_get h
  have nl : ∀ p ds, ρ[v]? ≠ some (some (Cell.l p ds)) := fun p ds z => by
    rcases hp with h | ⟨d, h⟩ <;> (rw [h] at z; cases z)
  have hl' : v < σ.length := by rw [← R.len]; exact hl
  have gs : ∀ j, (ρ.set v none)[j]? = if v = j then some none else ρ[j]? := fun j => get_set hl
  have gv : ∀ j, (σ.set v none)[j]? = if v = j then some none else σ[j]? := fun j => get_set hl'
  have own : ∀ b, Own (ρ.set v none) (σ.set v none) b → Own ρ σ b := fun b ⟨j, q, es, h1, h2⟩ => by
    rw [gs] at h1
    rw [gv] at h2
    by_cases e : v = j
    · rw [if_pos e] at h1; cases h1
    · rw [if_neg e] at h1 h2; exact ⟨j, q, es, h1, h2⟩
  have mv : Stp c ρ σ H (ρ.set v none) (σ.set v none) H := mvX fun b o e n => ⟨e, fun z => n (z.elim .inl fun x => .inr (own b x))⟩
  refine ⟨⟨by rw [List.length_set, List.length_set]; exact R.len, fun j d' e => ?_, fun j q es e => ?_, fun j k q q' es es' b h1 h2 h3 h4 => ?_, fun j b => ?_, R.pA, R.old, R.av, R.on, R.nt⟩, mv⟩
  · rw [gs] at e
    rw [gv]
    by_cases e1 : v = j
    · rw [if_pos e1] at e; cases e
    · rw [if_neg e1] at e
      obtain ⟨u, h1, h2⟩ := R.val j d' e
      exact ⟨u, by rw [if_neg e1]; exact h1, h2.mv mv⟩
  · rw [gs] at e
    rw [gv]
    by_cases e1 : v = j
    · rw [if_pos e1] at e; cases e
    · rw [if_neg e1] at e
      obtain ⟨b, vs, h1, h2, h3, h4⟩ := R.lst j q es e
      exact ⟨b, vs, by rw [if_neg e1]; exact h1, h2, h3.mv mv, h4⟩
  · rw [gs] at h1 h2
    rw [gv] at h3 h4
    by_cases e1 : v = j
    · rw [if_pos e1] at h1; cases h1
    · by_cases e2 : v = k
      · rw [if_pos e2] at h2; cases h2
      · rw [if_neg e1] at h1 h3
        rw [if_neg e2] at h2 h4
        exact R.dis j k q q' es es' b h1 h2 h3 h4
  · rw [R.pin, gs, gv]
    by_cases e : v = j
    · subst e
      rw [if_pos rfl, if_pos rfl]
      constructor
      · rintro ⟨es, h1, h2⟩; exact absurd h1 (nl true es)
      · rintro ⟨es, h1, h2⟩; cases h1
    · rw [if_neg e, if_neg e]
theorem wipeR_len (ρ : Rho) : ∀ vs : List Nat, (wipeR ρ vs).length = ρ.length
  | [] => rfl
  | v :: vs => by unfold wipeR; rw [List.length_set, wipeR_len ρ vs]
theorem wipeR_get (ρ : Rho) : ∀ (vs : List Nat) (j : Nat), (wipeR ρ vs)[j]? = if j ∈ vs ∧ j < ρ.length then some none else ρ[j]?
  | [], j => by simp [wipeR]
  | v :: vs, j => by
    unfold wipeR
    rw [List.getElem?_set, wipeR_len, wipeR_get ρ vs j]
    by_cases e : v = j
    · subst e
      by_cases h : v < ρ.length
      · simp [h]
      · simp [h]
    · simp [e, Ne.symm e]
theorem wipe_get (σ : L2.St) : ∀ (vs : List Nat) (j : Nat), (wipe σ vs)[j]? = if j ∈ vs ∧ j < σ.length then some none else σ[j]?
  | [], j => by simp [wipe]
  | v :: vs, j => by
    unfold wipe
    rw [List.getElem?_set, wipe_length, wipe_get σ vs j]
    by_cases e : v = j
    · subst e
      by_cases h : v < σ.length
      · simp [h]
      · simp [h]
    · simp [e, Ne.symm e]
theorem plain_iff {vs : List Nat} : plainAt ρ vs = true ↔ ∀ v ∈ vs, ρ[v]? = some none ∨ ∃ d, ρ[v]? = some (some (Cell.v d)) := by
  unfold plainAt
  rw [List.all_eq_true]
  refine ⟨fun h v hv => ?_, fun h v hv => ?_⟩
  · have := h v hv
    split at this
    · exact .inl (by assumption)
    · rename_i d hd; exact .inr ⟨d, hd⟩
    · cases this
  · rcases h v hv with e | ⟨d, e⟩ <;> simp [e]
theorem Rel.wipe (R : Rel K c ρ σ H) : ∀ {vs : List Nat}, plainAt ρ vs = true → Rel K c (wipeR ρ vs) (L2.wipe σ vs) H ∧ Stp c ρ σ H (wipeR ρ vs) (L2.wipe σ vs) H
  | [], _ => ⟨R, Mv.refl⟩
  | v :: vs, h => by
    have hv := plain_iff.mp h
    obtain ⟨R1, m1⟩ := Rel.wipe R (vs := vs) (plain_iff.mpr fun u hu => hv u (List.mem_cons_of_mem _ hu))
    have hp : (wipeR ρ vs)[v]? = some none ∨ ∃ d, (wipeR ρ vs)[v]? = some (some (Cell.v d)) := by
      rw [wipeR_get]
      by_cases e : v ∈ vs ∧ v < ρ.length
      · rw [if_pos e]; exact .inl rfl
      · rw [if_neg e]; exact hv v List.mem_cons_self
    obtain ⟨R2, m2⟩ := R1.clear hp
    exact ⟨R2, m1.trans m2⟩
theorem plain_wipe {vs : List Nat} (h : plainAt ρ vs = true) : plainAt (wipeR ρ vs) vs = true := plain_iff.mpr fun v hv => by
  rw [wipeR_get, if_pos ⟨hv, by rcases plain_iff.mp h v hv with e | ⟨d, e⟩ <;> exact lt_of_get e⟩]
  exact .inl rfl
theorem restR_len (ρ0 ρ : Rho) : ∀ vs : List Nat, (restR ρ0 ρ vs).length = ρ.length
  | [] => rfl
  | v :: vs => by unfold restR; rw [List.length_set, restR_len ρ0 ρ vs]
theorem restR_get (ρ0 ρ : Rho) : ∀ (vs : List Nat) (j : Nat), (restR ρ0 ρ vs)[j]? = if j ∈ vs ∧ j < ρ.length then some (ρ0[j]?.getD none) else ρ[j]?
  | [], j => by simp [restR]
  | v :: vs, j => by
    unfold restR
    rw [List.getElem?_set, restR_len, restR_get ρ0 ρ vs j]
    by_cases e : v = j
    · subst e
      by_cases h : v < ρ.length
      · simp [h]
      · simp [h]
    · simp [e, Ne.symm e]
theorem Rel.rest {c' : Act K} {ρ1 ρ2 : Rho} {H1 Hi : Hp} {vs : List Nat} (R1 : Rel K c ρ1 σ H1) (R2 : Rel K c' ρ2 (L2.wipe σ vs) Hi) (m : Mv (Av c ρ1 σ) H1 (Av c' ρ2 (L2.wipe σ vs)) Hi) (h1 : plainAt ρ1 vs = true) (h2 : plainAt ρ2 vs = true) :
    Rel K c' (restR ρ1 ρ2 vs) σ Hi ∧ (∀ b, Own (restR ρ1 ρ2 vs) σ b ↔ Own ρ2 (L2.wipe σ vs) b) := by
  have l1 := R1.len
  have l2 : ρ2.length = σ.length := by rw [R2.len, wipe_length]
  have p1 := plain_iff.mp h1
  have p2 := plain_iff.mp h2
  have inlen : ∀ j ∈ vs, j < ρ2.length := fun j hj => by rcases p2 j hj with e | ⟨d, e⟩ <;> exact lt_of_get e
  have gin : ∀ j, j ∈ vs → (restR ρ1 ρ2 vs)[j]? = ρ1[j]? := fun j hj => by
    rw [restR_get, if_pos ⟨hj, inlen j hj⟩]
    rcases p1 j hj with e | ⟨d, e⟩ <;> rw [e] <;> rfl
  have gout : ∀ j, j ∉ vs → (restR ρ1 ρ2 vs)[j]? = ρ2[j]? := fun j hj => by rw [restR_get, if_neg fun z => hj z.1]
  have sout : ∀ j, j ∉ vs → (L2.wipe σ vs)[j]? = σ[j]? := fun j hj => by rw [wipe_get, if_neg fun z => hj z.1]
  have nl1 : ∀ j ∈ vs, ∀ p ds, ρ1[j]? ≠ some (some (Cell.l p ds)) := fun j hj p ds z => by
    rcases p1 j hj with h | ⟨d, h⟩ <;> (rw [h] at z; cases z)
  have nl2 : ∀ j ∈ vs, ∀ p ds, ρ2[j]? ≠ some (some (Cell.l p ds)) := fun j hj p ds z => by
    rcases p2 j hj with h | ⟨d, h⟩ <;> (rw [h] at z; cases z)
  have own : ∀ b, Own (restR ρ1 ρ2 vs) σ b ↔ Own ρ2 (L2.wipe σ vs) b := fun b => by
    constructor
    · rintro ⟨j, q, es, g1, g2⟩
      by_cases hj : j ∈ vs
      · rw [gin j hj] at g1; exact absurd g1 (nl1 j hj q es)
      · exact ⟨j, q, es, by rw [← gout j hj]; exact g1, by rw [sout j hj]; exact g2⟩
    · rintro ⟨j, q, es, g1, g2⟩
      by_cases hj : j ∈ vs
      · exact absurd g1 (nl2 j hj q es)
      · exact ⟨j, q, es, by rw [gout j hj]; exact g1, by rw [← sout j hj]; exact g2⟩
  have mv : Mv (Av c' ρ2 (L2.wipe σ vs)) Hi (Av c' (restR ρ1 ρ2 vs) σ) Hi := mvX fun a o e n => ⟨e, fun z => n (z.elim .inl fun y => .inr ((own a).mp y))⟩
  refine ⟨⟨by rw [restR_len]; exact l2, fun j d e => ?_, fun j q es e => ?_, fun j k q q' es es' b g1 g2 g3 g4 => ?_, fun j b => ?_, R2.pA, R2.old, R2.av, R2.on, R2.nt⟩, own⟩
  · by_cases hj : j ∈ vs
    · rw [gin j hj] at e
      obtain ⟨v, w1, w2⟩ := R1.val j d e
      exact ⟨v, w1, (w2.mv m).mv mv⟩
    · rw [gout j hj] at e
      obtain ⟨v, w1, w2⟩ := R2.val j d e
      exact ⟨v, by rw [← sout j hj]; exact w1, w2.mv mv⟩
  · by_cases hj : j ∈ vs
    · rw [gin j hj] at e; exact absurd e (nl1 j hj q es)
    · rw [gout j hj] at e
      obtain ⟨b, us, w1, w2, w3, w4⟩ := R2.lst j q es e
      exact ⟨b, us, by rw [← sout j hj]; exact w1, w2, w3.mv mv, w4⟩
  · by_cases hj : j ∈ vs
    · rw [gin j hj] at g1; exact absurd g1 (nl1 j hj _ _)
    · by_cases hk : k ∈ vs
      · rw [gin k hk] at g2; exact absurd g2 (nl1 k hk _ _)
      · rw [gout j hj] at g1
        rw [gout k hk] at g2
        exact R2.dis j k q q' es es' b g1 g2 (by rw [sout j hj]; exact g3) (by rw [sout k hk]; exact g4)
  · rw [R2.pin]
    by_cases hj : j ∈ vs
    · constructor
      · rintro ⟨es, g1, _⟩; exact absurd g1 (nl2 j hj _ _)
      · rintro ⟨es, g1, _⟩; rw [gin j hj] at g1; exact absurd g1 (nl1 j hj _ _)
    · rw [gout j hj, sout j hj]
/-- a list kept apart is written -/
theorem Rel.scratch (R : Rel K c ρ σ H) {p : Addr} {o : HO} (hA : c.A p) (hn : ∀ i, c.pn i ≠ some p) (h0 : c.H0 p = none) (hl : ∃ us, H p = some (.lst us)) : Rel K c ρ σ (upd H p o) ∧ Stp c ρ σ H ρ σ (upd H p o) := by
  have mv : Stp c ρ σ H ρ σ (upd H p o) := mvX (fun b x e n => ⟨by rw [upd_ne fun z => n (by subst z; exact .inl hA)]; exact e, n⟩) (code_upd hl.choose_spec)
  refine ⟨⟨R.len, fun j d e => ?_, fun j q es e => ?_, R.dis, R.pin, R.pA, fun b x e n t => ?_, fun b hb => ?_, fun b hb => ?_, ?_⟩, mv⟩
  · obtain ⟨v, w1, w2⟩ := R.val j d e
    exact ⟨v, w1, w2.mv mv⟩
  · obtain ⟨b, us, w1, w2, w3, w4⟩ := R.lst j q es e
    have nb : b ≠ p := fun z => by
      subst z
      cases q with
      | false => exact (w4 rfl).2 hA
      | true => exact hn j ((R.pin j b).mpr ⟨es, e, w1⟩)
    exact ⟨b, us, w1, by rw [upd_ne nb]; exact w2, w3.mv mv, w4⟩
  · have nb : b ≠ p := fun z => by subst z; rw [h0] at e; cases e
    rw [upd_ne nb]
    exact R.old b x e n t
  · by_cases z : b = p
    · subst z; rw [upd_same]; exact fun z => nomatch z
    · rw [upd_ne z]; exact R.av b hb
  · by_cases z : b = p
    · subst z; rw [upd_same]; exact fun z => nomatch z
    · rw [upd_ne z]; exact R.on b hb
  · obtain ⟨us, hl⟩ := hl
    refine R.nt.but fun b x e t => ?_
    rw [upd_ne fun z => by
      subst z
      rw [hl] at e
      cases e
      rcases t with ⟨ps, z⟩ | ⟨c, q, z⟩ <;> cases z]
    exact e
theorem ts_upd {K : PySem.W.Frag} {H : Hp} {p : Addr} {o : HO} (h : TsOk K H) (h0 : H p = none) : TsOk K (upd H p o) := ⟨fun x hx cc q ht => by
  rw [upd_ne fun z => by subst z; rw [h.1 x hx cc q ht] at h0; cases h0]
  exact h.1 x hx cc q ht, h.2.of (ku_upd h0)⟩
theorem tp_upd {pn : Nat → Option Addr} {H : Hp} {p : Addr} {o : HO} (h : ∀ i a, pn i = some a → ∃ us, H a = some (.lst us)) (h0 : H p = none) : ∀ i a, pn i = some a → ∃ us, upd H p o a = some (.lst us) := fun i a z => by
  obtain ⟨us, e⟩ := h i a z
  exact ⟨us, by rw [upd_ne fun y => by subst y; rw [h0] at e; cases e]; exact e⟩
def Act.mem {K : PySem.W.Frag} (c : Act K) (p : Addr) (o : HO) (h0 : c.H0 p = none) : Act K := { c with H0 := upd c.H0 p o, ts := ts_upd c.ts h0, tp := tp_upd c.tp h0 }
theorem Rel.memo (R : Rel K c ρ σ H) {p : Addr} {o : HO} (h0 : c.H0 p = none) (hA : c.A p) (h : H p = some o) : Rel K (c.mem p o h0) ρ σ H :=
  ⟨R.len, R.val, fun j q es e => by
    obtain ⟨b, us, w1, w2, w3, w4⟩ := R.lst j q es e
    refine ⟨b, us, w1, w2, w3, fun z => ⟨?_, (w4 z).2⟩⟩
    show upd c.H0 p o b = none
    rw [upd_ne fun y => (w4 z).2 (by subst y; exact hA)]
    exact (w4 z).1, R.dis, R.pin, R.pA, fun b x e n t => by
    by_cases z : b = p
    · subst z
      have e' : upd c.H0 b o b = some x := e
      rw [upd_same] at e'
      cases e'
      exact h
    · exact R.old b x (by
        have e' : upd c.H0 p o b = some x := e
        rw [upd_ne z] at e'
        exact e') n t, R.av, fun b hb => by
    by_cases z : b = p
    · subst z; rw [h]; exact fun z => nomatch z
    · exact R.on b fun y => hb (by show upd c.H0 p o b = none; rw [upd_ne z]; exact y), R.nt⟩
theorem Rel.unmemo {p : Addr} {o : HO} {h0 : c.H0 p = none} (R : Rel K (c.mem p o h0) ρ σ H) (_ : c.H0 p = none) (hn : ∀ i, c.pn i ≠ some p) (t : NoTb o) : Rel K c ρ σ H ∧ H p = some o := by
  refine ⟨⟨R.len, R.val, fun j q es e => ?_, R.dis, R.pin, R.pA, fun b x e n t => ?_, R.av, fun b hb => R.on b fun y => hb ?_, R.nt⟩, R.old p o upd_same hn t⟩
  · obtain ⟨b, us, w1, w2, w3, w4⟩ := R.lst j q es e
    refine ⟨b, us, w1, w2, w3, fun z => ⟨?_, (w4 z).2⟩⟩
    have e1 : upd c.H0 p o b = none := (w4 z).1
    by_cases y : b = p
    · subst y; exact h0
    · rw [upd_ne y] at e1; exact e1
  · refine R.old b x ?_ n t
    show upd c.H0 p o b = some x
    rw [upd_ne fun z => by subst z; rw [h0] at e; cases e]
    exact e
  · have y : upd c.H0 p o b = none := y
    by_cases z : b = p
    · subst z; exact h0
    · rw [upd_ne z] at y; exact y
end
section
variable {X : Cx} {e a b : Expr} {pos : Pos} {f g h : EF} {tf tg : TF} {n m : NF} {es : List Expr}
theorem ptst_nil : PTs X [] (tT X.K tYesF) := ⟨fun pins s σ H Q I q => pts_nil.run pins s σ H Q I (by
  obtain ⟨c, ρ, b, ρ', R, e, q⟩ := q
  cases e
  exact q H R Mv.refl)⟩
theorem ptst_one (h : PT X a (tT X.K tf)) : PTs X [a] (tT X.K tf) := pts_one h
/-- a comprehension's reading -/
theorem rd_comp {K : PySem.W.Frag} {it : NF} {G : GF} {is vs : List Nat} (his : ∀ j ∈ is, j ∈ vs) : ∀ σ H Q, tN K (nComp it G tf f vs) σ H Q → tLc (tI K it) (tG K G is) (tT K tf) (tE K f) vs σ H Q := fun σ H Q ⟨c, ρ, ds, ρ', R, e, q⟩ => by
  unfold nComp at e
  split at e
  · rename_i ds0 ρ1 h1
    split at e
    · rename_i hp
      split at e
      · rename_i out ρ2 h2
        obtain ⟨e1, e2⟩ := so e
        subst e1 e2
        refine ⟨c, ρ, ds0, ρ1, R, h1, fun J H1 R1 m1 jo => fun Dd hD => ?_⟩
        have hn : ∀ i, c.pn i ≠ some Dd := fun i z => R1.av Dd (R1.pA i Dd z) hD
        have h0 : c.H0 Dd = none := R1.fresh0 hD
        obtain ⟨Rw, mw⟩ := R1.wipe hp
        have Rw' : Rel K (c.plus Dd) (wipeR ρ1 vs) (wipe σ vs) (upd H1 Dd (.lst [])) := Rw.plus hD (kp_upd hD) (by rw [upd_same]; exact fun z => nomatch z)
        have mw' : Mv (Av c ρ1 σ) H1 (Av (c.plus Dd) (wipeR ρ1 vs) (wipe σ vs)) (upd H1 Dd (.lst [])) := mw.trans (Rw.mvP hD (kp_upd hD))
        refine ⟨fun i m Hi => m = ds0.length - i ∧ i ≤ ds0.length ∧ ∃ ρi acc us, plainAt ρi vs = true ∧ Rel K (c.plus Dd) ρi (wipe σ vs) Hi ∧ Hi Dd = some (.lst us) ∧ RpA K (Av (c.plus Dd) ρi (wipe σ vs)) Hi us acc ∧
          Mv (Av c ρ1 σ) H1 (Av (c.plus Dd) ρi (wipe σ vs)) Hi ∧ compL G tf f vs (ds0.drop i) acc ρi = some (out, ρ2),
          ⟨ds0.length, by simp, Nat.zero_le _, wipeR ρ1 vs, [], [], plain_wipe hp, Rw', upd_same, .nil, mw', h2⟩, ?_⟩
        rintro i m Hi ⟨rfl, hi, ρi, acc, us, hpi, Ri, hDi, ri, mi, ei⟩
        obtain ⟨jg, js⟩ := jo _ _ _ Hi mi
        cases hd : ds0.drop i with
        | nil =>
          rw [hd] at ei
          unfold compL at ei
          obtain ⟨e1, e2⟩ := so ei
          subst e1 e2
          have : i = ds0.length := by
            have := congrArg List.length hd
            rw [List.length_drop, List.length_nil] at this
            omega
          subst this
          obtain ⟨Rr, own⟩ := R1.rest Ri mi hp hpi
          have mo : Mv (Av (c.plus Dd) ρi (wipe σ vs)) Hi (Av (c.plus Dd) (restR ρ1 ρi vs) σ) Hi := mvX fun b o eb nb => ⟨eb, fun z => nb (z.elim .inl fun y => .inr ((own b).mp y))⟩
          have mt : Mv (Av c ρ1 σ) H1 (Av c (restR ρ1 ρi vs) σ) Hi := (mi.trans mo).trans mv_unplus
          refine .inl ⟨js, q Dd us Hi Rr hDi (ri.mv mo) (fun z => ?_) h0 (avOf (K := K) m1 hD) (m1.trans mt)⟩
          rcases z with z | z
          · exact R1.av Dd z hD
          · obtain ⟨j, p, es, w1, w2⟩ := (own Dd).mp z
            obtain ⟨b, us', g1, g2, g3, g4⟩ := Ri.lst j p es w1
            rw [w2] at g1
            cases g1
            cases p with
            | false => exact (g4 rfl).2 (.inr rfl)
            | true => exact hn j ((Ri.pin j Dd).mpr ⟨es, w1, w2⟩)
        | cons d r =>
          obtain ⟨g1, g2⟩ := drop_cons hd
          rw [hd] at ei
          obtain ⟨k1, k2⟩ := jg i d g1
          have hlt := lt_of_get g1
          unfold compL at ei
          split at ei
          · cases ei
          · rename_i ρa ea
            refine .inr ⟨k1, fun H' => ds0.length - (i + 1) = ds0.length - (i + 1) ∧ i + 1 ≤ ds0.length ∧ ∃ ρi acc us, plainAt ρi vs = true ∧ Rel K (c.plus Dd) ρi (wipe σ vs) H' ∧ H' Dd = some (.lst us) ∧ RpA K (Av (c.plus Dd) ρi (wipe σ vs)) H' us acc ∧
              Mv (Av c ρ1 σ) H1 (Av (c.plus Dd) ρi (wipe σ vs)) H' ∧ compL G tf f vs (ds0.drop (i + 1)) acc ρi = some (out, ρ2), fun H' z => ⟨ds0.length - (i + 1), by omega, z⟩, fun x H' y => ?_⟩
            obtain ⟨rfl, rx⟩ := k2 x H' y
            refine ⟨c.plus Dd, ρi, d, ρa, Ri, rx, ea, fun σ2 Ra ma hl hk => ?_⟩
            have hw : wipe σ2 vs = wipe σ vs := by
              apply List.ext_getElem?
              intro j
              rw [wipe_get, wipe_get]
              rw [hl, wipe_length]
              by_cases hj : j ∈ vs
              · by_cases hj2 : j < σ.length
                · rw [if_pos ⟨hj, hj2⟩, if_pos ⟨hj, hj2⟩]
                · rw [if_neg fun z => hj2 z.2, if_neg fun z => hj2 z.2, List.getElem?_eq_none (by rw [hl, wipe_length]; omega), List.getElem?_eq_none (by omega)]
              · rw [if_neg fun z => hj z.1, if_neg fun z => hj z.1, hk j fun z => hj (his j z), wipe_get, if_neg fun z => hj z.1]
            refine ⟨hw, ?_⟩
            have hA : (c.plus Dd).A Dd := .inr rfl
            have Ra' := Ra.memo h0 hA hDi
            split at ei
            · cases ei
            · rename_i ρb eb
              split at ei
              · rename_i hpb
                refine ⟨_, ρa, false, ρb, Ra', eb, fun H3 R3 m3 => iteF ?_⟩
                obtain ⟨R3', hD3⟩ := R3.unmemo h0 hn noTb_lst
                obtain ⟨R4, m4⟩ := R3'.wipe hpb
                rw [hw] at R4 m4
                have mm := ma.trans (Mv.trans m3 m4)
                exact ⟨rfl, hlt, wipeR ρb vs, acc, us, plain_wipe hpb, R4, hD3, ri.mv mm, mi.trans mm, by rw [g2]; exact ei⟩
              · cases ei
            · rename_i ρb eb
              split at ei
              · cases ei
              · rename_i y ρc ec
                split at ei
                · rename_i hpc
                  simp only [Bool.and_eq_true, decide_eq_true_eq] at hpc
                  refine ⟨_, ρa, true, ρb, Ra', eb, fun H3 R3 m3 => iteT ?_⟩
                  refine ⟨_, ρb, y, ρc, R3, ec, fun v H4 R4 r4 m4 => ?_⟩
                  obtain ⟨R4', hD4⟩ := R4.unmemo h0 hn noTb_lst
                  obtain ⟨R5, m5⟩ := R4'.wipe hpc.1
                  rw [hw] at R5 m5
                  obtain ⟨R6, m6⟩ := R5.scratch (o := .lst (us ++ [v])) hA hn h0 ⟨us, hD4⟩
                  have mm := ma.trans (Mv.trans m3 (Mv.trans m4 (Mv.trans m5 m6)))
                  refine ⟨us, hD4, by rw [ri.length, sl16]; exact hpc.2, rfl, hlt, wipeR ρc vs, acc ++ [y], us ++ [v], plain_wipe hpc.1, R6, upd_same, (ri.mv mm).app (.cons (r4.mv (Mv.trans m5 m6)) .nil), mi.trans mm, by rw [g2]; exact ei⟩
                · cases ei
      · cases e
    · cases e
  · cases e
theorem en_comp {elt tgt iter : Expr} {ifs : List Expr} {scope : Scope} {own : List (Str × Nat)} {it : NF} {G : GF} {is : List Nat} (hc : X.calm = true) (hN : X.N.Nodup) (hi : PI X tgt iter (tI X.K it)) (ok : BlkOk X.N X.env.scope scope own)
    (hg : ∀ (s : Shared) (H : Hp) (C : Addr) (cl : List (Str × Addr)) (fp : List Addr), PG (X.blk s H scope (compEnvC scope cl C X.env) fp) tgt (tG X.K G is)) (ht : ∀ (s : Shared) (H : Hp) (C : Addr) (cl : List (Str × Addr)) (fp : List Addr), PTs (X.blk s H scope (compEnvC scope cl C X.env) fp) ifs (tT X.K tf))
    (he : ∀ (s : Shared) (H : Hp) (C : Addr) (cl : List (Str × Addr)) (fp : List Addr), PE (X.blk s H scope (compEnvC scope cl C X.env) fp) elt (tE X.K f)) (his : ∀ j ∈ is, j ∈ own.map (·.2) := by decide) (hs : ∀ x, foldedSetIterable iter X.env x = pure x := by intro _; rfl) :
    PE X (.ListComp elt [⟨tgt, iter, ifs, 0⟩] scope pos) (tN X.K (nComp it G tf f (own.map (·.2)))) := pe_of (pe_lc hc hN hi ok hg ht he hs) (rd_comp his)
end
end PG
end
section
set_option Elab.async false
set_option linter.all false
set_option maxRecDepth 100000
namespace PG
open PySem PySem.Spec PyProof.Rows L2
section
variable {X : Cx} {e a b : Expr} {pos : Pos} {f g h : EF} {tf tg : TF} {n m : NF} {es : List Expr} {F G' : SF}
theorem rd_setV {K : PySem.W.Frag} {i : Nat} {t : TE} (k : ∀ σ H Q, tE K f σ H Q → t σ H Q) : ∀ E σ H, tS K (sSet i f) E σ H → tAsg t (gName i) E σ H := fun E σ H ⟨c, ρ, o, ρ', R, e, q⟩ => by
    unfold sSet at e
    split at e
    · rename_i d ρ1 h1
      split at e
      · rename_i ρ2 h2
        obtain ⟨e1, e2⟩ := so e
        subst e1 e2
        refine k _ _ _ ⟨c, ρ, d, ρ1, R, h1, fun v H' R' r' m => ?_⟩
        obtain ⟨R2, m2⟩ := R'.assign h2 r'
        exact q _ H' R2 (m.trans m2)
      · cases e
    · cases e
theorem rd_newE {K : PySem.W.Frag} {t : TE} (k : ∀ σ H Q, tN K n σ H Q → t σ H Q) : ∀ σ H Q, tE K (eLst n) σ H Q → t σ H Q := fun σ H Q ⟨c, ρ, d, ρ', R, e, q⟩ => by
  unfold eLst at e
  split at e
  · rename_i xs ρ1 h1
    obtain ⟨e1, e2⟩ := so e
    subst e1 e2
    refine k _ _ _ ⟨c, ρ, xs, ρ1, R, h1, fun a vs H' R' ha r' na h0 nw m => ?_⟩
    have R2 := R'.unplus R.pA
    exact q _ _ R2 (.lst ⟨ha, na⟩ (r'.mv mv_unplus)) m
  · cases e
section
variable {i : Nat} {y : Str} {py : Pos} {elt tgt iter : Expr} {ifs : List Expr} {scope : Scope} {own : List (Str × Nat)} {spos : Pos} {it : NF} {G : GF} {is : List Nat}
theorem es_setLcV (hc : X.calm = true) (hN : X.N.Nodup) (hy : X.N[i]? = some y) (hyl : X.env.scope.names.lookup y = some .local)
    (hsw : swapsWith (.ListComp elt [⟨tgt, iter, ifs, 0⟩] scope pos) (some (.Name y py)) spos.line X.env = pure true) (hi : PI X tgt iter (tI X.K it)) (ok : BlkOk X.N X.env.scope scope own)
    (hg : ∀ (s : Shared) (H : Hp) (C : Addr) (cl : List (Str × Addr)) (fp : List Addr), PG (X.blk s H scope (compEnvC scope cl C X.env) fp) tgt (tG X.K G is)) (ht : ∀ (s : Shared) (H : Hp) (C : Addr) (cl : List (Str × Addr)) (fp : List Addr), PTs (X.blk s H scope (compEnvC scope cl C X.env) fp) ifs (tT X.K tf))
    (he : ∀ (s : Shared) (H : Hp) (C : Addr) (cl : List (Str × Addr)) (fp : List Addr), PE (X.blk s H scope (compEnvC scope cl C X.env) fp) elt (tE X.K f)) (his : ∀ j ∈ is, j ∈ own.map (·.2) := by decide) (hs : ∀ x, foldedSetIterable iter X.env x = pure x := by intro _; rfl) :
    PS X (.Assign [.Name y py] (.ListComp elt [⟨tgt, iter, ifs, 0⟩] scope pos) spos) (tS X.K (sSet i (eLst (nComp it G tf f (own.map (·.2)))))) :=
  ps_of (ps_setLc hc hN hy hyl hsw hi ok hg ht he hs) (rd_setV (rd_newE (rd_comp his)))
end

/-! ### defs -/
@[simp] def rho0 (ds : List PyData) (m : Nat) : Rho := ds.map (fun d => some (Cell.v d)) ++ List.replicate m none
@[simp] def rhoL (ps ds : List PyData) (m : Nat) : Rho := some (Cell.l true ps) :: (ds.map (fun d => some (Cell.v d)) ++ List.replicate m none)
@[simp] def endP : Option (Out × Rho) → Option PyData
  | some (.ret d, _) => some d
  | some (.retL ds, _) => some (.list ds)
  | some (.next, _) => some .none
  | _ => none
@[simp] def endN : Option (Out × Rho) → Option (List PyData)
  | some (.retL ds, _) => some ds
  | _ => none
@[simp] def pool0 (ρ : Rho) : Option (List PyData) := match ρ with
  | some (.l true ps) :: _ => some ps
  | _ => none
@[simp] def endL : Option (Out × Rho) → Option (PyData × List PyData)
  | some (.ret d, ρ) => (match pool0 ρ with
    | some ps => some (d, ps)
    | none => none)
  | some (.retL ds, ρ) => (match pool0 ρ with
    | some ps => some (.list ds, ps)
    | none => none)
  | some (.next, ρ) => (match pool0 ρ with
    | some ps => some (.none, ps)
    | none => none)
  | _ => none
def defP (b : SF) (k m : Nat) : List PyData → Option PyData := fun ds => if ds.length = k then endP (b (rho0 ds m)) else none
def defN (b : SF) (k m : Nat) : List PyData → Option (List PyData) := fun ds => if ds.length = k then endN (b (rho0 ds m)) else none
def defL (b : SF) (k m : Nat) : List PyData → List PyData → Option (PyData × List PyData) := fun ps ds => if ds.length = k then endL (b (rhoL ps ds m)) else none
theorem rho0_get {ds : List PyData} {m i : Nat} {cl : Cell} (h : (rho0 ds m)[i]? = some (some cl)) : ∃ d, ds[i]? = some d ∧ cl = .v d := by
  unfold rho0 at h
  rw [List.getElem?_append] at h
  split at h
  · rw [List.getElem?_map] at h
    cases e : ds[i]? with
    | none => rw [e] at h; cases h
    | some d => rw [e] at h; cases h; exact ⟨d, rfl, rfl⟩
  · rw [List.getElem?_replicate] at h
    split at h <;> cases h
theorem start_get {N : List Str} {vs : List V} {i : Nat} {v : V} (h : vs[i]? = some v) : (L2.start N vs)[i]? = some (some v) := by
  unfold L2.start
  rw [List.getElem?_append_left (by rw [List.length_map]; exact lt_of_get h), List.getElem?_map, h]
  rfl
theorem rel_start {K : PySem.W.Frag} {A : Addr → Prop} {H : Hp} {N : List Str} {vs : List V} {ds : List PyData} {m : Nat} (ht : TsOk K H) (r : RpA K A H vs ds) (hA : ∀ a, A a → H a ≠ none) (hN : vs.length + m = N.length) :
    Rel K ⟨A, H, fun _ => none, ht, fun _ _ z => nomatch z⟩ (rho0 ds m) (L2.start N vs) H := by
  have nown : ∀ b, ¬ Own (rho0 ds m) (L2.start N vs) b := fun b ⟨i, p, es, h1, _⟩ => by
    obtain ⟨d, _, z⟩ := rho0_get h1
    cases z
  refine ⟨?_, fun i d h => ?_, fun i p es h => ?_, fun i j p q es es' b h1 => ?_, fun i b => ?_, (fun i b h => nomatch h), fun b o h _ _ => h, hA, fun _ h => h, ht.2⟩
  · unfold rho0 L2.start
    rw [List.length_append, List.length_append, List.length_map, List.length_map, List.length_replicate, List.length_replicate, r.length]
    rw [r.length] at hN
    omega
  · obtain ⟨d', h1, h2⟩ := rho0_get h
    cases h2
    obtain ⟨v, h3, h4⟩ := r.get h1
    exact ⟨v, start_get h3, h4.mv <| mvX fun b o e n => ⟨e, fun z => z.elim n (nown b)⟩⟩
  · obtain ⟨d', h1, h2⟩ := rho0_get h
    cases h2
  · obtain ⟨d', _, h2⟩ := rho0_get h1
    cases h2
  · constructor
    · intro h; cases h
    · rintro ⟨es, h1, _⟩
      obtain ⟨d', _, h2⟩ := rho0_get h1
      cases h2
theorem tp1 {H : Hp} {a : Addr} {us : List V} (ha : H a = some (.lst us)) : ∀ (i : Nat) (b : Addr), (if i = 0 then some a else none) = some b → ∃ us, H b = some (.lst us) := fun i b z => by
  split at z
  · cases z; exact ⟨us, ha⟩
  · cases z
theorem rhoL_get {ps ds : List PyData} {m i : Nat} {cl : Cell} (h : (rhoL ps ds m)[i]? = some (some cl)) : (i = 0 ∧ cl = .l true ps) ∨ ∃ j d, i = j + 1 ∧ ds[j]? = some d ∧ cl = .v d := by
  cases i with
  | zero =>
    unfold rhoL at h
    simp at h
    exact .inl ⟨rfl, h.symm⟩
  | succ j =>
    have h' : (rho0 ds m)[j]? = some (some cl) := by
      unfold rhoL at h
      simpa [rho0] using h
    obtain ⟨d, h1, h2⟩ := rho0_get h'
    exact .inr ⟨j, d, rfl, h1, h2⟩
theorem rel_startL {K : PySem.W.Frag} {A : Addr → Prop} {H : Hp} {N : List Str} {a : Addr} {us ws : List V} {ps ds : List PyData} {m : Nat} (ht : TsOk K H) (ha : H a = some (.lst us)) (rp : RpA K A H us ps) (hAa : A a) (r : RpA K A H ws ds) (hA : ∀ a, A a → H a ≠ none) (hN : ws.length + 1 + m = N.length) :
    Rel K ⟨A, H, fun i => if i = 0 then some a else none, ht, tp1 ha⟩ (rhoL ps ds m) (L2.start N (.ref a :: ws)) H := by
  have g0 : (L2.start N (.ref a :: ws))[0]? = some (some (V.ref a)) := start_get rfl
  have own : ∀ b, Own (rhoL ps ds m) (L2.start N (.ref a :: ws)) b → A b := fun b ⟨i, p, es, h1, h2⟩ => by
    rcases rhoL_get h1 with ⟨rfl, z⟩ | ⟨j, d, _, _, z⟩
    · rw [g0] at h2; cases h2; exact hAa
    · cases z
  have mv : Mv A H (Av ⟨A, H, fun i => if i = 0 then some a else none, ht, tp1 ha⟩ (rhoL ps ds m) (L2.start N (.ref a :: ws))) H := mvX fun b o e n => ⟨e, fun z => z.elim n fun y => n (own b y)⟩
  refine ⟨?_, fun i d h => ?_, fun i p es h => ?_, fun i j p q es es' b h1 h2 h3 h4 => ?_, fun i b => ?_, fun i b h => ?_, fun b o h _ _ => h, hA, fun _ h => h, ht.2⟩
  · unfold rhoL L2.start
    simp only [List.length_append, List.length_map, List.length_replicate, List.length_cons, r.length]
    rw [r.length] at hN
    omega
  · rcases rhoL_get h with ⟨_, z⟩ | ⟨j, d', rfl, h1, z⟩
    · cases z
    · cases z
      obtain ⟨v, h3, h4⟩ := r.get h1
      exact ⟨v, start_get (by simpa using h3), h4.mv mv⟩
  · rcases rhoL_get h with ⟨rfl, z⟩ | ⟨j, d', rfl, h1, z⟩
    · cases z
      exact ⟨a, us, g0, ha, rp.mv mv, fun z => nomatch z⟩
    · cases z
  · rcases rhoL_get h1 with ⟨rfl, _⟩ | ⟨_, _, _, _, z⟩
    · rcases rhoL_get h2 with ⟨rfl, _⟩ | ⟨_, _, _, _, z⟩
      · rfl
      · cases z
    · cases z
  · show (if i = 0 then some a else none) = some b ↔ _
    by_cases hi : i = 0
    · subst hi
      rw [if_pos rfl]
      constructor
      · intro h; cases h; exact ⟨ps, rfl, g0⟩
      · rintro ⟨es, h1, h2⟩; rw [g0] at h2; cases h2; rfl
    · rw [if_neg hi]
      constructor
      · intro h; cases h
      · rintro ⟨es, h1, h2⟩
        rcases rhoL_get h1 with ⟨rfl, _⟩ | ⟨_, _, _, _, z⟩
        · exact absurd rfl hi
        · cases z
  · have h' : (if i = 0 then some a else none) = some b := h
    by_cases hi : i = 0
    · rw [if_pos hi] at h'; cases h'; exact hAa
    · rw [if_neg hi] at h'; cases h'
end
section
variable {P : Program} {w : World} {K : PySem.W.Frag} {mg : Str → Option Value} {base : Heap} {x qual : Str} {st : Stmt} {fa : Addr} {fd : FuncData} {N ps : List Str} {j k m : Nat} {b : SF}
theorem ok_P (F : L2.Fun K x qual st fa fd) (S : FnScope N ps (defScope st)) (hk : ps.length = k) (hm : k + m = N.length)
    (hb : ∀ (cdv : Value) (A : Around) (outer : List Env) (s : Shared) (H : Hp) (E : XK), Room j (A.deeper (envOfC qual (defScope st) s.heap.objs.size fa cdv)) → PSs (cxOf CX0 P w K mg base N qual (defScope st) fa cdv A outer s H E).nox (defBody st) (tS K b)) :
    FnOk P w K mg base CX0 (j + 1) fa fd ps (spP K k (defP b k m)) := by
  refine F.ok S (fun vs H Q E h => h.1.trans hk.symm) fun cdv A outer s H vs Q E hr h => ?_
  obtain ⟨hl, ht, A', ds, r, ra, hA, e, q⟩ := h
  refine ⟨_, hb cdv A outer s H E hr, ?_⟩
  have R := rel_start (m := m) (N := N) ht ra hA (by omega)
  unfold defP at e
  split at e
  · cases eb : b (rho0 ds m) with
    | none => rw [eb] at e; cases e
    | some z =>
      obtain ⟨o, ρ'⟩ := z
      rw [eb] at e
      have kp : ∀ σ' H', Rel K ⟨A', H, fun _ => none, ht, fun _ _ z => nomatch z⟩ ρ' σ' H' → Kp K H H' := fun σ' H' R' => ⟨fun a o h => R'.old a o h fun i z => (nomatch z), R'.on, fun _ => R'.nt⟩
      refine ⟨_, rho0 ds m, o, ρ', R, eb, ?_⟩
      cases o with
      | next => cases e; exact fun σ' H' R' _ => q .non H' (kp σ' H' R') .non
      | brk => cases e
      | cont => cases e
      | ret d => cases e; exact fun v σ' H' R' r' => q v H' (kp σ' H' R') r'
      | retL ds => cases e; exact fun a vs σ' H' R' ha r' h0 => q (.ref a) H' (kp σ' H' R') (.lst ⟨ha, fun z => hA a z h0⟩ (r'.mv <| mvX fun b o e n => ⟨e, fun z => n (.inl z)⟩))
  · cases e
theorem ok_N (F : L2.Fun K x qual st fa fd) (S : FnScope N ps (defScope st)) (hk : ps.length = k) (hm : k + m = N.length)
    (hb : ∀ (cdv : Value) (A : Around) (outer : List Env) (s : Shared) (H : Hp) (E : XK), Room j (A.deeper (envOfC qual (defScope st) s.heap.objs.size fa cdv)) → PSs (cxOf CX0 P w K mg base N qual (defScope st) fa cdv A outer s H E).nox (defBody st) (tS K b)) :
    FnOk P w K mg base CX0 (j + 1) fa fd ps (spN K k (defN b k m)) := by
  refine F.ok S (fun vs H Q E h => h.1.trans hk.symm) fun cdv A outer s H vs Q E hr h => ?_
  obtain ⟨hl, ht, A', ds, r, ra, hA, e, q⟩ := h
  refine ⟨_, hb cdv A outer s H E hr, ?_⟩
  have R := rel_start (m := m) (N := N) ht ra hA (by omega)
  unfold defN at e
  split at e
  · cases eb : b (rho0 ds m) with
    | none => rw [eb] at e; cases e
    | some z =>
      obtain ⟨o, ρ'⟩ := z
      rw [eb] at e
      have kp : ∀ σ' H', Rel K ⟨A', H, fun _ => none, ht, fun _ _ z => nomatch z⟩ ρ' σ' H' → Kp K H H' := fun σ' H' R' => ⟨fun a o h => R'.old a o h fun i z => (nomatch z), R'.on, fun _ => R'.nt⟩
      refine ⟨_, rho0 ds m, o, ρ', R, eb, ?_⟩
      cases o with
      | next => cases e
      | brk => cases e
      | cont => cases e
      | ret d => cases e
      | retL ds => cases e; exact fun a vs σ' H' R' ha r' h0 => q a vs H' (kp σ' H' R') h0 ha r'
  · cases e
theorem pool_get {ρ : Rho} {ps' : List PyData} (h : pool0 ρ = some ps') : ρ[0]? = some (some (.l true ps')) := by
  unfold pool0 at h
  split at h
  · cases h; rfl
  · cases h
theorem ok_L (F : L2.Fun K x qual st fa fd) (S : FnScope N ps (defScope st)) (hk : ps.length = k + 1) (hm : k + 1 + m = N.length)
    (hb : ∀ (cdv : Value) (A : Around) (outer : List Env) (s : Shared) (H : Hp) (E : XK), Room j (A.deeper (envOfC qual (defScope st) s.heap.objs.size fa cdv)) → PSs (cxOf CX0 P w K mg base N qual (defScope st) fa cdv A outer s H E).nox (defBody st) (tS K b)) :
    FnOk P w K mg base CX0 (j + 1) fa fd ps (spL K k (defL b k m)) := by
  refine F.ok S (fun vs H Q E h => h.1.trans hk.symm) fun cdv A outer s H vs Q E hr h => ?_
  obtain ⟨hl, ht, A', a, us, ws, pl, ds, r, pl', rfl, ha, rp, hAa, ra, hA, e, q⟩ := h
  refine ⟨_, hb cdv A outer s H E hr, ?_⟩
  have hws : ws.length = k := by simpa using hl
  have R := rel_startL (m := m) (N := N) ht ha rp hAa ra hA (by omega)
  unfold defL at e
  split at e
  · cases eb : b (rhoL pl ds m) with
    | none => rw [eb] at e; cases e
    | some z =>
      obtain ⟨o, ρ'⟩ := z
      rw [eb] at e
      have fin : ∀ (ps2 : List PyData), pool0 ρ' = some ps2 → ∀ σ' H', Rel K ⟨A', H, fun i => if i = 0 then some a else none, ht, tp1 ha⟩ ρ' σ' H' → KpB K a H H' ∧ ∃ us', H' a = some (.lst us') ∧ RpA K A' H' us' ps2 := fun ps2 hp σ' H' R' => by
        refine ⟨⟨fun b o nb h => R'.old b o h fun i z => ?_, fun b _ h => R'.on b h, fun _ => R'.nt⟩, ?_⟩
        · have z' : (if i = 0 then some a else none) = some b := z
          by_cases hi : i = 0
          · rw [if_pos hi] at z'; cases z'; exact nb rfl
          · rw [if_neg hi] at z'; cases z'
        · obtain ⟨a', us', g1, g2, g3, _⟩ := R'.lst 0 true ps2 (pool_get hp)
          obtain ⟨es, w1, w2⟩ := (R'.pin 0 a).mp rfl
          rw [g1] at w2
          cases w2
          exact ⟨us', g2, g3.mv av_sub⟩
      refine ⟨_, rhoL pl ds m, o, ρ', R, eb, ?_⟩
      cases o with
      | next =>
        intro σ' H' R' _
        cases hp : pool0 ρ' with
        | none => simp only [endL, hp] at e; cases e
        | some ps2 =>
          simp only [endL, hp] at e
          cases e
          obtain ⟨h1, us', h2, h3⟩ := fin _ hp σ' H' R'
          exact q .non H' us' h1 h2 h3 .non
      | brk => cases e
      | cont => cases e
      | ret d =>
        intro v σ' H' R' r'
        cases hp : pool0 ρ' with
        | none => simp only [endL, hp] at e; cases e
        | some ps2 =>
          simp only [endL, hp] at e
          cases e
          obtain ⟨h1, us', h2, h3⟩ := fin _ hp σ' H' R'
          exact q v H' us' h1 h2 h3 r'
      | retL es =>
        intro a2 vs σ' H' R' ha2 r' h0
        cases hp : pool0 ρ' with
        | none => simp only [endL, hp] at e; cases e
        | some ps2 =>
          simp only [endL, hp] at e
          cases e
          obtain ⟨h1, us', h2, h3⟩ := fin _ hp σ' H' R'
          exact q (.ref a2) H' us' h1 h2 h3 (.lst ⟨ha2, fun z => hA a2 z h0⟩ (r'.mv <| mvX fun b o e n => ⟨e, fun z => n (.inl z)⟩))
  · cases e
end
end PG
end
section
set_option Elab.async false
set_option linter.all false
set_option maxRecDepth 100000
namespace PG
open PySem PySem.Spec PyProof.Rows L2
/-! ### set(xs) of a list of ints -/
abbrev sObj (w : World) : Obj := { cls := .type "set", dict := none, data := .set #[] 0 (.fresh 0 0 (!w.params.followText "set-order")) }
section
variable {P : Program} {w : World} {A : Around} {E : Value → Shared → Prop} {s : Shared}
set_option maxHeartbeats 4000000 in
theorem setOfList {l : Addr} {items : Array Value} (ns : List Int) {Q : Value → Shared → Prop} (hh : A.handled = none) (hl : s.heap.IsList l items) (hit : IntsAre items.toList ns) (hb : ns.length + 1 < scanBound)
    (h : ∀ (h' : Heap) (tk c : Nat), SetR w h' s.heap.objs.size (fun j => decide (j ∈ ns)) c → c ≤ ns.length → (∀ b o, s.heap.get? b = some o → h'.get? b = some o) → Q (.ref s.heap.objs.size) { s with heap := h', toks := tk }) :
    wpAny (model P w) A (call (.type "set") [.ref l]) Q E s := by
  have hisz : items.size = ns.length := by simpa using IntsAre.length hit
  obtain ⟨c, tl, hmro⟩ := F.called_set.mro
  have h3 := F.called_set.made
  have h4 := F.called_set.sub
  apply wpAny_call
  apply codeAny_of_tree
  show wpAny _ _ (callAny (.type "set") _) _ _ _
  apply wpAny_pure
  refine ⟨Code.quiet_builtin _ (by decide +kernel), codeAny_builtin F.entry_type_call ?_⟩
  rw [Around.under_plain (weight_type_call_type "set" [.ref l] []) rfl]
  have h1 := F.called_set.notType
  have h2 := F.called_set.canCreate
  have hct := F.typeCall_set_1 (.ref l)
  repeat (any_goals (first | assumption | wp_step))
  refine codeAny_mono (code_set_led1 (.ref l) (E := E) (Q₁ := fun u s1 => u = .ref s.heap.objs.size ∧ s1 = { s with heap := s.heap.push (sObj w) }) ⟨rfl, rfl⟩) fun r s1 hr => ?_
  cases r with
  | error e => exact hr
  | ok fl =>
    cases fl with
    | ret u =>
      obtain ⟨rfl, rfl⟩ := hr
      have gS : (s.heap.push (sObj w)).get? s.heap.objs.size = some (sObj w) := Heap.get?_push_size _ rfl
      have gT : Shared.TypeIs { s with heap := s.heap.push (sObj w) } (.ref s.heap.objs.size) "set" := ⟨_, gS, rfl⟩
      have i1 := F.called_set.init.lookup
      have i2 := F.called_set.init.bind (.ref s.heap.objs.size)
      repeat (any_goals (first | assumption | wp_step))
      refine codeAny_mono (codeAny_call_builtin (R := wants (fun r s2 => r = .none ∧ ∃ h' tk c, s2 = { s with heap := h', toks := tk } ∧ SetR w h' s.heap.objs.size (fun j => decide (j ∈ ns)) c ∧ c ≤ ns.length ∧
          (∀ b o, s.heap.get? b = some o → h'.get? b = some o)) E) F.called_set.init.plain F.entry_set_init (check_set_init_1 gT ?_)) fun r2 s2 hr2 => ?_
      · obtain ⟨⟨oc, od, dt, sl⟩, hol, hcl, nl, hdl⟩ := hl
        simp only at hcl hdl
        subst hcl hdl
        have hol' : (s.heap.push (sObj w)).get? l = some { cls := .type "list", dict := od, data := .seq items nl, slots := sl } := Heap.get?_push_of_some _ hol
        have k1 := F.sub_list_set
        have k2 := F.sub_list_frozenset
        have k3 : (Value.type "list" == Value.type "dict") = false := by decide
        have hl1 : (s.heap.push (sObj w)).IsList l items := ⟨_, hol', rfl, nl, rfl⟩
        unfold Builtin.«set.__init__» noKeywords Builtin.Frozenset.updateFrom
        generalize hPI : pyIter = PI
        wp_walk
        subst hPI
        apply wpAny_pyIter_list hl1
        refine wpAny_bind (wpAny_runValue ?_)
        have lS : l < s.heap.objs.size := Heap.lt_size hol
        have a3 : A.in1.in1.in1.handled = none := by simp [hh]
        have nI : l ≠ (s.heap.push (sObj w)).objs.size := by
          rw [Heap.size_push]
          exact Nat.ne_of_lt (Nat.lt_succ_of_lt lS)
        have nS : s.heap.objs.size ∉ [(s.heap.push (sObj w)).objs.size, l] := by
          rw [Heap.size_push]
          simp only [List.mem_cons, List.not_mem_nil, or_false, not_or]
          exact ⟨Nat.ne_of_lt (Nat.lt_succ_self _), Nat.ne_of_gt lS⟩
        have hv : ∀ (i : Nat) (v : Value), items[i]? = some v → ∃ k t, ns[i]? = some k ∧ v = .int k t := fun i v hv => by
          have hi : i < ns.length := by rw [← hisz]; exact (Array.getElem?_eq_some_iff.mp hv).1
          obtain ⟨t, e⟩ := PyProof.Rows.IntsAre.int_at hit i v (by rw [Array.getElem?_toList]; exact hv)
          exact ⟨ns[i], t, List.getElem?_eq_getElem hi, by rw [e, List.getD_eq_getElem?_getD, List.getElem?_eq_getElem hi] <;> rfl⟩
        refine set_update_ints ((Walks.list a3 _ l nI items).toS) s.heap.objs.size nS ns hisz hb hv (items.size - 0) 0 _ (by omega) (Nat.zero_le _) ⟨⟨_, Heap.get?_push_size _ rfl, rfl, rfl⟩, (hl1.push _)⟩ ?g0 ?g1
        case g0 => exact ⟨0, Nat.le_refl 0, setR_new_at (Heap.get?_push_of_some _ gS)⟩
        case g1 =>
          intro s' c' hm hc' hS'
          obtain ⟨h', g2, d', tk', os'⟩ := s'
          obtain rfl : g2 = s.gens := hm.gens
          obtain rfl : d' = s.drawn := hm.drawn
          obtain rfl : os' = s.os := hm.os
          show wpAny _ _ _ _ _ _
          apply wpAny_pure
          show wpAny _ _ (ret Value.none) _ _ _
          rw [hisz] at hc'
          refine wpAny_pure ⟨rfl, h', tk', c', rfl, hS', hc', fun b o e => ?_⟩
          have hb0 : b < s.heap.objs.size := Heap.lt_size e
          refine hm.heap b o ?_ (Heap.get?_push_of_some _ (Heap.get?_push_of_some _ e))
          simp only [List.mem_cons, List.not_mem_nil, or_false, not_or, Heap.size_push]
          exact ⟨Nat.ne_of_lt hb0, Nat.ne_of_lt (Nat.lt_succ_of_lt hb0)⟩
      · cases r2 with
        | error e => exact hr2
        | ok fl2 =>
          cases fl2 with
          | ret z =>
            obtain ⟨rfl, h', tk, c', rfl, q1, q2, q3⟩ := hr2
            repeat (any_goals (first | assumption | wp_step))
            exact h h' tk c' q1 q2 q3
          | _ => exact hr2
    | _ => exact hr
end
section
variable {X : Cx} {e a b : Expr} {pos : Pos} {f g h : EF} {tf tg : TF} {n m : NF} {es : List Expr}
/-! ### sorted(set(xs)) -/
def intsOf : List PyData → Option (List Int)
  | [] => some []
  | .int i :: r => (match intsOf r with
    | some l => some (i :: l)
    | none => none)
  | _ :: _ => none
theorem intsOf_map : ∀ {ds : List PyData} {ns : List Int}, intsOf ds = some ns → ds = ns.map PyData.int
  | [], ns, h => by cases h; rfl
  | d :: r, ns, h => by
    unfold intsOf at h
    split at h
    · rename_i hh; cases hh
    · rename_i i r' hh
      cases hh
      split at h
      · rename_i l hl
        cases h
        rw [intsOf_map hl]
        rfl
      · cases h
    · cases h
/-- the members, ascending, each once -/
def insI (k : Int) : List Int → List Int
  | [] => [k]
  | x :: r => if k < x then k :: x :: r else if k = x then x :: r else x :: insI k r
def sortI : List Int → List Int
  | [] => []
  | k :: r => insI k (sortI r)
theorem mem_insI (k j : Int) : ∀ l : List Int, j ∈ insI k l ↔ j = k ∨ j ∈ l
  | [] => by simp [insI]
  | x :: r => by
    unfold insI
    by_cases h1 : k < x
    · rw [if_pos h1]; simp
    · rw [if_neg h1]
      by_cases h2 : k = x
      · rw [if_pos h2]
        subst h2
        simp
      · rw [if_neg h2, List.mem_cons, mem_insI k j r, List.mem_cons]
        constructor
        · rintro (h | h | h)
          · exact .inr (.inl h)
          · exact .inl h
          · exact .inr (.inr h)
        · rintro (h | h | h)
          · exact .inr (.inl h)
          · exact .inl h
          · exact .inr (.inr h)
theorem mem_sortI (j : Int) : ∀ l : List Int, j ∈ sortI l ↔ j ∈ l
  | [] => by simp [sortI]
  | k :: r => by
    unfold sortI
    rw [mem_insI, mem_sortI j r, List.mem_cons]
theorem pw_insI (k : Int) : ∀ l : List Int, l.Pairwise (· < ·) → (insI k l).Pairwise (· < ·)
  | [], _ => by simp [insI]
  | x :: r, h => by
    unfold insI
    obtain ⟨h1, h2⟩ := List.pairwise_cons.mp h
    by_cases c1 : k < x
    · rw [if_pos c1]
      refine List.pairwise_cons.mpr ⟨fun y hy => ?_, h⟩
      rcases List.mem_cons.mp hy with e | e
      · omega
      · have := h1 y e; omega
    · rw [if_neg c1]
      by_cases c2 : k = x
      · rw [if_pos c2]; exact h
      · rw [if_neg c2]
        refine List.pairwise_cons.mpr ⟨fun y hy => ?_, pw_insI k r h2⟩
        rcases (mem_insI k y r).mp hy with e | e
        · omega
        · exact h1 y e
theorem pw_sortI : ∀ l : List Int, (sortI l).Pairwise (· < ·)
  | [] => by simp [sortI]
  | k :: r => pw_insI k _ (pw_sortI r)
theorem len_insI (k : Int) : ∀ l : List Int, (insI k l).length ≤ l.length + 1
  | [] => by simp [insI]
  | x :: r => by
    unfold insI
    by_cases c1 : k < x
    · rw [if_pos c1]; simp
    · rw [if_neg c1]
      by_cases c2 : k = x
      · rw [if_pos c2]; simp
      · rw [if_neg c2]; simp; exact len_insI k r
theorem len_sortI : ∀ l : List Int, (sortI l).length ≤ l.length
  | [] => by simp [sortI]
  | k :: r => by
    have h1 := len_insI k (sortI r)
    have h2 := len_sortI r
    unfold sortI
    simp only [List.length_cons]
    omega
/-- two ascending lists with the same members are one -/
theorem pw_eq : ∀ {l m : List Int}, l.Pairwise (· < ·) → m.Pairwise (· < ·) → (∀ k, k ∈ l ↔ k ∈ m) → l = m
  | [], [], _, _, _ => rfl
  | [], y :: m, _, _, h => by have := (h y).mpr (by simp); simp at this
  | x :: l, [], _, _, h => by have := (h x).mp (by simp); simp at this
  | x :: l, y :: m, hl, hm, h => by
    obtain ⟨l1, l2⟩ := List.pairwise_cons.mp hl
    obtain ⟨m1, m2⟩ := List.pairwise_cons.mp hm
    have e : x = y := by
      rcases List.mem_cons.mp ((h x).mp (by simp)) with e | e
      · exact e
      · rcases List.mem_cons.mp ((h y).mpr (by simp)) with e2 | e2
        · exact e2.symm
        · have a1 := m1 x e
          have a2 := l1 y e2
          omega
    subst e
    rw [pw_eq l2 m2 fun k => ?_]
    constructor
    · intro hk
      rcases List.mem_cons.mp ((h k).mp (List.mem_cons_of_mem _ hk)) with e | e
      · subst e; exact absurd (l1 k hk) (Int.lt_irrefl _)
      · exact e
    · intro hk
      rcases List.mem_cons.mp ((h k).mpr (List.mem_cons_of_mem _ hk)) with e | e
      · subst e; exact absurd (m1 k hk) (Int.lt_irrefl _)
      · exact e
/-- sorted(set(xs)): fewer than 64 items -/
def dSortSet : PyData → Option (List PyData)
  | .list ds => (match intsOf ds with
    | some ns => if ns.length < 64 then some ((sortI ns).map PyData.int) else none
    | none => none)
  | _ => none
def rSetLI (K : PySem.W.Frag) (w : World) : List V → Hp → VK → Prop := fun xs H Q => ∃ (l : Addr) (ns : List Int), xs = [.ref l] ∧ SqL K H l (ns.map V.int) ∧ ns.length < 64 ∧
  ∀ p c, c ≤ ns.length → H p = none → Q (.ref p) (upd H p (SetO w p (fun j => decide (j ∈ ns)) c))
theorem cr_setLI (hc : X.calm = true) : CallR X (.type "set") (rSetLI X.K X.w) := by
  intro pins s σ H xs us Q I r hq
  obtain ⟨l, ns, rfl, hl, hn, q⟩ := hq
  obtain ⟨u, rfl, ru⟩ := vals1 r
  cases ru
  obtain ⟨its, rv, pl, hz⟩ := I.list hl
  refine setOfList ns (I.ok.hd hc) pl.isList (by simpa using intsAre_of rv) (by unfold scanBound; omega) fun h' tk c R1 hc' k => ?_
  have hf : H s.heap.objs.size = none := I.hok.fresh (Nat.le_refl _)
  exact ⟨.ref _, _, I.laid (t' := tk) k (Nat.le_refl _) (setO_new R1), rfl, q _ c hc' hf⟩
theorem en_sortSet {p1 p2 q1 : Pos} (hc : X.calm = true) (hg : Gl X "sorted") (hm : X.mg "sorted" = none) (hg2 : Gl X "set") (hm2 : X.mg "set" = none) (ha : PE X a (tE X.K f))
    (na : starEach [a] X.env = (false, eval a X.env) :: starEach [] X.env := by rfl) (ns1 : starEach [.Call (.Name "set" p2) [a] [] q1] X.env = (false, eval (.Call (.Name "set" p2) [a] [] q1) X.env) :: starEach [] X.env := by rfl) :
    PE X (.Call (.Name "sorted" p1) [.Call (.Name "set" p2) [a] [] q1] [] pos) (tN X.K (nCall (n1of dSortSet) (nCons f nNil))) :=
  pe_of (pe_callB (cr_sortedSet hc) hg hm (by decide +kernel) (pa_cons (pe_callTy (cr_setLI hc) hg2 hm2 PyProof.Rows.boot_set (pa_cons ha pa_nil na) (he := na)) pa_nil ns1) (he := ns1)) fun σ H Q ⟨c, ρ, d, ρ', R, e, q⟩ => by
    unfold nCall at e
    split at e
    · rename_i xs ρ1 h1
      split at e
      · rename_i z h2
        obtain ⟨e1, e2⟩ := so e
        subst e1 e2
        obtain ⟨x, ρ2, xs', w1, w2, rfl⟩ := ncons_inv h1
        cases w2
        obtain ⟨y, hy, h3⟩ := n1_inv h2
        cases hy
        unfold dSortSet at h3
        split at h3
        · rename_i ds
          split at h3
          · rename_i ns hns
            split at h3
            · rename_i hlen
              cases h3
              refine ⟨c, ρ, _, ρ1, R, w1, fun v H1 R1 r1 m1 => ?_⟩
              cases r1 with
              | @lst p xs _ l al =>
                have hds := intsOf_map hns
                subst hds
                have hxs := al.ints
                subst hxs
                refine ⟨p, ns, rfl, l.sq, hlen, fun p2 cc hcc hp2 => ?_⟩
                refine ⟨p2, _, cc, rfl, upd_same, by omega, fun ms p3 o1 o2 o3 hp3 => ?_⟩
                have hms : ms = sortI ns := pw_eq o1 (pw_sortI ns) fun k => by rw [o2, mem_sortI]; simp
                subst hms
                have g1 : ∀ a o, H1 a = some o → upd (upd H1 p2 (SetO X.w p2 (fun j => decide (j ∈ ns)) cc)) p3 (.lst ((sortI ns).map V.int)) a = some o := fun b o eb => ku_upd hp3 b o (ku_upd hp2 b o eb)
                have n3 : H1 p3 = none := by
                  cases e3 : H1 p3 with
                  | none => rfl
                  | some o =>
                    have := ku_upd (o := SetO X.w p2 (fun j => decide (j ∈ ns)) cc) hp2 p3 o e3
                    rw [this] at hp3
                    cases hp3
                refine q p3 _ _ (R1.plus n3 (.of g1) (by rw [upd_same]; exact fun z => nomatch z)) upd_same (RpA.ofInts _) (R1.noAv n3) (R1.fresh0 n3) (avOf (K := X.K) m1 n3) (m1.trans (R1.mvG (.of g1)))
            · cases h3
          · cases h3
        · cases h3
      · cases e
    · cases e
end
end PG
end
section
set_option Elab.async false
set_option linter.all false
set_option maxRecDepth 100000
namespace PG
open PySem PySem.Spec PyProof.Rows L2
section
variable {X : Cx} {e a b : Expr} {pos : Pos} {f g h : EF} {tf tg : TF} {n m : NF} {es : List Expr}
/-! ### owned lists, read -/
theorem unl_inv {o : PyData → Option PyData} {i : Nat} {ρ ρ' : Rho} {d : PyData} (h : eUnL o i ρ = some (d, ρ')) : ∃ p ds, ρ[i]? = some (some (Cell.l p ds)) ∧ o (.list ds) = some d ∧ ρ' = ρ := by
  unfold eUnL at h
  split at h
  · rename_i p ds h1
    split at h
    · rename_i z h2
      obtain ⟨e1, e2⟩ := so h
      subst e1 e2
      exact ⟨p, ds, h1, h2, rfl⟩
    · cases h
  · cases h
theorem ev_lenO {i : Nat} {p : Pos} (hv : PE X a (tVar i)) (hg : Gl X "len") (hm : X.mg "len" = none) (na : starEach [a] X.env = (false, eval a X.env) :: starEach [] X.env := by rfl) : PE X (.Call (.Name "len" p) [a] [] pos) (tE X.K (eUnL dLen i)) :=
  pe_of (pe_callB call_len_seq hg hm PySem.boot_len (pa_cons hv pa_nil na) (he := na)) fun σ H Q ⟨c, ρ, d, ρ', R, e, q⟩ => by
    obtain ⟨pp, ds, h1, h2, rfl⟩ := unl_inv e
    obtain ⟨l, us, g1, g2, g3, _⟩ := R.lst i pp ds h1
    cases h2
    exact ⟨.ref l, g1, l, us, rfl, .inl (.inl (.inl g2)), by rw [g3.length]; exact q _ H R (.int _) Mv.refl⟩
theorem ev_tupO {i : Nat} {p : Pos} (hv : PE X a (tVar i)) (hg : Gl X "tuple") (hm : X.mg "tuple" = none) (na : starEach [a] X.env = (false, eval a X.env) :: starEach [] X.env := by rfl) : PE X (.Call (.Name "tuple" p) [a] [] pos) (tE X.K (eUnL dTupOf i)) :=
  pe_of (pe_callTy call_tuple_of hg hm PyProof.Rows.boot_tuple (pa_cons hv pa_nil na) (he := na)) fun σ H Q ⟨c, ρ, d, ρ', R, e, q⟩ => by
    obtain ⟨pp, ds, h1, h2, rfl⟩ := unl_inv e
    obtain ⟨l, us, g1, g2, g3, _⟩ := R.lst i pp ds h1
    cases h2
    exact ⟨.ref l, g1, l, us, rfl, .inl ⟨.inl (.inl g2), fun p hp => q _ _ (R.alloc hp).1 (R.newTup hp g3) (R.mvG (kp_upd hp))⟩⟩
@[simp] def tTruL (i : Nat) : TF := fun ρ => match ρ[i]? with
  | some (some (.l _ ds)) => some (!ds.isEmpty, ρ)
  | _ => none
/-! x op= e -/
@[simp] def sAug (i : Nat) (o : PyData → PyData → Option PyData) (f : EF) : SF := fun ρ => match ρ[i]? with
  | some (some (.v x)) => (match f ρ with
    | some (y, ρ1) => (match o x y with
      | some z => (match setV i z ρ1 with
        | some ρ2 => some (.next, ρ2)
        | none => none)
      | none => none)
    | none => none)
  | _ => none
@[simp] def dAddI := dI2 cT fun i j => .int (i + j)
/-! iterating a list or a tuple -/
@[simp] def itS (f : EF) : NF := fun ρ => match f ρ with
  | some (.list xs, ρ1) => some (xs, ρ1)
  | some (.tuple xs, ρ1) => some (xs, ρ1)
  | some (.dict [(.list xs, .none)], ρ1) => some (xs, ρ1)
  | _ => none
theorem ei_seq {tgt : Expr} (he : PE X e (tE X.K f)) : PI X tgt e (tI X.K (itS f)) := ⟨fun pins s σ H R I hq => by
  obtain ⟨c, ρ, ds, ρ', R0, e1, q⟩ := hq
  unfold itS at e1
  split at e1
  · rename_i xs ρ1 h1
    exact (ei_list he).run pins s σ H R I ⟨c, ρ, ds, ρ', R0, by unfold itL; rw [h1]; exact e1, q⟩
  · rename_i xs ρ1 h1
    exact (ei_tup he).run pins s σ H R I ⟨c, ρ, ds, ρ', R0, by unfold itT; rw [h1]; exact e1, q⟩
  · rename_i xs ρ1 h1
    exact (ei_list he).run pins s σ H R I ⟨c, ρ, ds, ρ', R0, by unfold itL; rw [h1]; exact e1, q⟩
  · cases e1⟩
/-! ### slices -/
@[simp] def oE : Option EF → Rho → Option (Option Int × Rho)
  | none, ρ => some (none, ρ)
  | some g, ρ => (match g ρ with
    | some (.int i, ρ1) => some (some i, ρ1)
    | _ => none)
def tO (K : PySem.W.Frag) (g : Option EF) : TO := fun σ H Q => ∃ (c : Act K) (ρ : Rho) (o : Option Int) (ρ' : Rho), Rel K c ρ σ H ∧ oE g ρ = some (o, ρ') ∧ ∀ H', Rel K c ρ' σ H' → Stp c ρ σ H ρ' σ H' → Q o H'
theorem po_of {e : Option Expr} {t t' : TO} (h : PO X e t) (k : ∀ σ H Q, t' σ H Q → t σ H Q) : PO X e t' := ⟨fun pins s σ H Q I q => h.run pins s σ H Q I (k σ H Q q)⟩
theorem eo_none : PO X none (tO X.K none) := po_of po_none fun σ H Q ⟨c, ρ, o, ρ', R, e, q⟩ => by
  cases e
  exact q H R Mv.refl
theorem eo_some (h : PE X a (tE X.K g)) : PO X (some a) (tO X.K (some g)) := po_of (po_some h) fun σ H Q ⟨c, ρ, o, ρ', R, e, q⟩ => by
  unfold oE at e
  simp only at e
  split at e
  · rename_i i ρ1 h1
    obtain ⟨e1, e2⟩ := so e
    subst e1 e2
    exact ⟨c, ρ, _, ρ1, R, h1, fun v H' R' r' m => by cases r'; exact ⟨i, rfl, q H' R' m⟩⟩
  · cases e
@[simp] def nSl (f : EF) (lo hi : Option EF) : NF := fun ρ => match f ρ with
  | some (.list xs, ρ1) => (match oE lo ρ1 with
    | some (l, ρ2) => (match oE hi ρ2 with
      | some (u, ρ3) => some (cutD xs l u, ρ3)
      | none => none)
    | none => none)
  | some (.dict [(.list xs, .none)], ρ1) => (match oE lo ρ1 with
    | some (l, ρ2) => (match oE hi ρ2 with
      | some (u, ρ3) => some (cutD xs l u, ρ3)
      | none => none)
    | none => none)
  | _ => none
@[simp] def eSlT (f : EF) (lo hi : Option EF) : EF := fun ρ => match f ρ with
  | some (.tuple xs, ρ1) => (match oE lo ρ1 with
    | some (l, ρ2) => (match oE hi ρ2 with
      | some (u, ρ3) => some (.tuple (cutD xs l u), ρ3)
      | none => none)
    | none => none)
  | _ => none
theorem cut_rp {K : PySem.W.Frag} {A : Addr → Prop} {H : Hp} {vs : List V} {ds : List PyData} (r : RpA K A H vs ds) (l u : Option Int) : RpA K A H (cutV vs l u) (cutD ds l u) := by
  have e1 : ∀ n d o, sIxD n d o = HT.sIx n d o := fun n d o => by cases o <;> rfl
  unfold cutV cutD
  rw [r.length, e1, e1]
  exact (r.drop _).take _
theorem en_sl {lo hi : Option Expr} {l u : Option EF} {p2 : Pos} (ha : PE X a (tE X.K f)) (hl : PO X lo (tO X.K l)) (hu : PO X hi (tO X.K u)) : PE X (.Subscript a (.Slice lo hi none p2) pos) (tN X.K (nSl f l u)) :=
  pe_of (pe_slice sl_list ha hl hu) fun σ H Q ⟨c, ρ, d, ρ', R, e, q⟩ => by
    unfold nSl at e
    split at e
    · rename_i xs ρ1 h1
      split at e
      · rename_i l' ρ2 h2
        split at e
        · rename_i u' ρ3 h3
          obtain ⟨e1, e2⟩ := so e
          subst e1 e2
          refine ⟨c, ρ, _, ρ1, R, h1, fun v H1 R1 r1 m1 => ⟨c, ρ1, l', ρ2, R1, h2, fun H2 R2 m2 => ⟨c, ρ2, u', ρ3, R2, h3, fun H3 R3 m3 => ?_⟩⟩⟩
          cases r1.mv (m2.trans m3) with
          | @lst p us _ ll al =>
            refine ⟨p, us, rfl, ll.sq, fun p2 hp => ?_⟩
            exact q p2 _ _ (R3.plus hp (kp_upd hp) (by rw [upd_same]; exact fun z => nomatch z)) upd_same ((cut_rp al l' u').mv (R3.mvP hp (kp_upd hp))) (R3.noAv hp) (R3.fresh0 hp) (avOf (K := X.K) ((m1.trans m2).trans m3) hp) (((m1.trans m2).trans m3).trans (R3.mvG (kp_upd hp)))
        · cases e
      · cases e
    · rename_i xs ρ1 h1
      split at e
      · rename_i l' ρ2 h2
        split at e
        · rename_i u' ρ3 h3
          obtain ⟨e1, e2⟩ := so e
          subst e1 e2
          refine ⟨c, ρ, _, ρ1, R, h1, fun v H1 R1 r1 m1 => ⟨c, ρ1, l', ρ2, R1, h2, fun H2 R2 m2 => ⟨c, ρ2, u', ρ3, R2, h3, fun H3 R3 m3 => ?_⟩⟩⟩
          cases r1.mv (m2.trans m3) with
          | @ro p us _ ll al =>
            refine ⟨p, us, rfl, ll.sq, fun p2 hp => ?_⟩
            exact q p2 _ _ (R3.plus hp (kp_upd hp) (by rw [upd_same]; exact fun z => nomatch z)) upd_same ((cut_rp al.rp l' u').mv (R3.mvP hp (kp_upd hp))) (R3.noAv hp) (R3.fresh0 hp) (avOf (K := X.K) ((m1.trans m2).trans m3) hp) (((m1.trans m2).trans m3).trans (R3.mvG (kp_upd hp)))
        · cases e
      · cases e
    · cases e
end
/-- long enough -/
def FUEL : Nat := 1000000
end PG
end
section
set_option Elab.async false
set_option linter.all false
set_option maxRecDepth 100000
namespace PG
open PySem PySem.Spec PyProof.Rows L2
section
variable {X : Cx} {e a b : Expr} {pos : Pos} {f g h : EF} {tf tg : TF} {n m : NF} {es : List Expr}
/-! ### sum of ints -/
@[simp] def dSum : PyData → Option PyData
  | .list ds => (match intsOf ds with
    | some ns => some (.int ns.sum)
    | none => none)
  | .tuple ds => (match intsOf ds with
    | some ns => some (.int ns.sum)
    | none => none)
  | _ => none
def rSumA (K : PySem.W.Frag) : List V → Hp → VK → Prop := fun vs H Q => ∃ (a : Addr) (ns : List Int), vs = [V.ref a] ∧ (SqL K H a (ns.map V.int) ∨ SqT K H a (ns.map V.int)) ∧ Q (.int ns.sum) H
/-! ### (*xs, ..) -/
@[simp] def nStar (f : EF) (g : NF) : NF := fun ρ => match f ρ with
  | some (.list xs, ρ1) => (match g ρ1 with
    | some (ys, ρ2) => some (xs ++ ys, ρ2)
    | none => none)
  | some (.tuple xs, ρ1) => (match g ρ1 with
    | some (ys, ρ2) => some (xs ++ ys, ρ2)
    | none => none)
  | _ => none
/-! ### [..] * n -/
@[simp] def dRep : PyData → PyData → Option PyData
  | .list xs, .int k => if -9223372036854775808 ≤ k ∧ k < 9223372036854775808 ∧ xs.length * k.toNat ≤ 16777216 then some (.list (List.replicate k.toNat xs).flatten) else none
  | _, _ => none
/-! ### range(0, n, c) -/
def stp (c : Int) (n : Nat) : List PyData := (List.range n).map fun k => .int (0 + (k : Nat) * c)
@[simp] def itR3 (f : NF) : NF := fun ρ => match f ρ with
  | some ([.int i, .int j, .int c], ρ1) => if i = 0 ∧ c = 2 ∧ 0 ≤ j ∧ j ≤ 16777216 then some (stp 2 ((j + 1) / 2).toNat, ρ1) else none
  | _ => none
end
@[simp] theorem isTy_int_none  : isTy "int" .none = false := by simp [isTy, isN, tyName]
@[simp] theorem isTy_int_bool (b : Bool) : isTy "int" (.bool b) = true := by simp [isTy, isN, tyName]
@[simp] theorem isTy_int_int (i : Int) : isTy "int" (.int i) = true := by simp [isTy, isN, tyName]
@[simp] theorem isTy_int_str (x : Str) : isTy "int" (.str x) = false := by simp [isTy, isN, tyName]
@[simp] theorem isTy_int_list (xs : List PyData) : isTy "int" (.list xs) = false := by simp [isTy, isN, tyName]
@[simp] theorem isTy_int_tuple (xs : List PyData) : isTy "int" (.tuple xs) = false := by simp [isTy, isN, tyName]
@[simp] theorem isTy_bool_none  : isTy "bool" .none = false := by simp [isTy, isN, tyName]
@[simp] theorem isTy_bool_bool (b : Bool) : isTy "bool" (.bool b) = true := by simp [isTy, isN, tyName]
@[simp] theorem isTy_bool_int (i : Int) : isTy "bool" (.int i) = false := by simp [isTy, isN, tyName]
@[simp] theorem isTy_bool_str (x : Str) : isTy "bool" (.str x) = false := by simp [isTy, isN, tyName]
@[simp] theorem isTy_bool_list (xs : List PyData) : isTy "bool" (.list xs) = false := by simp [isTy, isN, tyName]
@[simp] theorem isTy_bool_tuple (xs : List PyData) : isTy "bool" (.tuple xs) = false := by simp [isTy, isN, tyName]
@[simp] theorem isTy_str_none  : isTy "str" .none = false := by simp [isTy, isN, tyName]
@[simp] theorem isTy_str_bool (b : Bool) : isTy "str" (.bool b) = false := by simp [isTy, isN, tyName]
@[simp] theorem isTy_str_int (i : Int) : isTy "str" (.int i) = false := by simp [isTy, isN, tyName]
@[simp] theorem isTy_str_str (x : Str) : isTy "str" (.str x) = true := by simp [isTy, isN, tyName]
@[simp] theorem isTy_str_list (xs : List PyData) : isTy "str" (.list xs) = false := by simp [isTy, isN, tyName]
@[simp] theorem isTy_str_tuple (xs : List PyData) : isTy "str" (.tuple xs) = false := by simp [isTy, isN, tyName]
@[simp] theorem isTy_list_none  : isTy "list" .none = false := by simp [isTy, isN, tyName]
@[simp] theorem isTy_list_bool (b : Bool) : isTy "list" (.bool b) = false := by simp [isTy, isN, tyName]
@[simp] theorem isTy_list_int (i : Int) : isTy "list" (.int i) = false := by simp [isTy, isN, tyName]
@[simp] theorem isTy_list_str (x : Str) : isTy "list" (.str x) = false := by simp [isTy, isN, tyName]
@[simp] theorem isTy_list_list (xs : List PyData) : isTy "list" (.list xs) = true := by simp [isTy, isN, tyName]
@[simp] theorem isTy_list_tuple (xs : List PyData) : isTy "list" (.tuple xs) = false := by simp [isTy, isN, tyName]
@[simp] theorem isTy_tuple_none  : isTy "tuple" .none = false := by simp [isTy, isN, tyName]
@[simp] theorem isTy_tuple_bool (b : Bool) : isTy "tuple" (.bool b) = false := by simp [isTy, isN, tyName]
@[simp] theorem isTy_tuple_int (i : Int) : isTy "tuple" (.int i) = false := by simp [isTy, isN, tyName]
@[simp] theorem isTy_tuple_str (x : Str) : isTy "tuple" (.str x) = false := by simp [isTy, isN, tyName]
@[simp] theorem isTy_tuple_list (xs : List PyData) : isTy "tuple" (.list xs) = false := by simp [isTy, isN, tyName]
@[simp] theorem isTy_tuple_tuple (xs : List PyData) : isTy "tuple" (.tuple xs) = true := by simp [isTy, isN, tyName]
@[simp] theorem dEq_ii (i j : Int) : dEq (.int i) (.int j) = some (.bool (decide (i = j))) := rfl
@[simp] theorem dNe_ii (i j : Int) : dNe (.int i) (.int j) = some (.bool (!decide (i = j))) := rfl
@[simp] theorem dEq_bb (a b : Bool) : dEq (.bool a) (.bool b) = some (.bool (a == b)) := rfl
@[simp] theorem dNe_bb (a b : Bool) : dNe (.bool a) (.bool b) = some (.bool (!(a == b))) := rfl
theorem dEq_self : ∀ {d : PyData}, SeqAt.shaped d = true → PyData.eqv d d = true → dEq d d = some (.bool true)
  | .int i, _, _ => by simp
  | .none, _, _ => rfl
  | .bool b, _, _ => by simp
  | .str x, h, e => by simp [dEq, h, e]
  | .list xs, h, e => by simp [dEq, h, e]
  | .tuple xs, h, e => by simp [dEq, h, e]
  | .dict xs, h, e => by simp [dEq, h, e]
end PG
end
section
set_option Elab.async false
set_option linter.all false
set_option maxRecDepth 100000
namespace PG
open PySem PySem.Spec PyProof.Rows L2
section
variable {X : Cx} {e a b : Expr} {pos : Pos} {f g h : EF} {n m : NF} {es : List Expr}
/-! ### sorted(xs), pairs of whole numbers -/
def sPairs (K : PySem.W.Frag) : List V → Hp → VK → Prop := fun vs H Q => ∃ (a : Addr) (xs : List V) (k : V → Int × Int), vs = [V.ref a] ∧ SqL K H a xs ∧ (∀ x ∈ xs, ∃ t, x = V.ref t ∧ SqT K H t [.int (k x).1, .int (k x).2]) ∧
  ∀ ys p, SrtO.Srtd (ltP k) ys → SrtO.Stb (ltP k) ys xs → H p = none → Q (.ref p) (upd H p (.lst ys))
/-- the pairs, by their first and then by their second number -/
def insP (k : Int × Int) : List (Int × Int) → List (Int × Int)
  | [] => [k]
  | j :: r => if SrtO.lexB j k then j :: insP k r else k :: j :: r
def sortP : List (Int × Int) → List (Int × Int)
  | [] => []
  | k :: r => insP k (sortP r)
/-- sorted: no later one is before an earlier one -/
def SrtP (l : List (Int × Int)) : Prop := l.Pairwise fun x y => SrtO.lexB y x = false
def pairOf : PyData → Option (Int × Int)
  | .tuple [.int i, .int j] => some (i, j)
  | _ => none
def pairsOf : List PyData → Option (List (Int × Int))
  | [] => some []
  | d :: r => (match pairOf d, pairsOf r with
    | some p, some l => some (p :: l)
    | _, _ => none)
def prD (x : Int × Int) : PyData := .tuple [.int x.1, .int x.2]
def dSortP : PyData → Option (List PyData)
  | .list ds => (match pairsOf ds with
    | some l => some ((sortP l).map prD)
    | none => none)
  | _ => none
def pairsAt (K : PySem.W.Frag) (H : Hp) : List V → List (Int × Int) → Prop
  | [], [] => True
  | v :: vs, p :: l => (∃ t, v = V.ref t ∧ SqT K H t [.int p.1, .int p.2]) ∧ pairsAt K H vs l
  | _, _ => False
def sPairs2 (K : PySem.W.Frag) : List V → Hp → VK → Prop := fun vs H Q => ∃ (a : Addr) (xs : List V) (ps : List (Int × Int)), vs = [V.ref a] ∧ SqL K H a xs ∧ pairsAt K H xs ps ∧
  ∀ ys p (k : V → Int × Int), ps = xs.map k → SrtO.Srtd (ltP k) ys → SrtO.Stb (ltP k) ys xs → H p = none → Q (.ref p) (upd H p (.lst ys))
open Classical in
noncomputable def keyOf (K : PySem.W.Frag) (H : Hp) : V → Int × Int
  | .ref t => if h : ∃ p : Int × Int, SqT K H t [.int p.1, .int p.2] then h.choose else (0, 0)
  | _ => (0, 0)
end
end PG
end
section
set_option Elab.async false
set_option linter.all false
set_option maxRecDepth 100000
namespace PG
open PySem PySem.Spec PyProof.Rows L2
/-! ### a table of the module with whole-number keys and values -/
def entOk : List DictEntry → List (Int × Int) → Bool
  | [], [] => true
  | e :: r, p :: t => decide (e.hash = hashInt p.1) && Value.isInt p.1 e.key && Value.isInt p.2 e.val && entOk r t
  | _, _ => false
structure ITab (K : PySem.W.Frag) (d : Addr) (tab : List (Int × Int)) : Prop where
  at_ : ∃ es n, K.lookup d = some ⟨.type "dict", none, .dict es n, #[]⟩ ∧ entOk es.toList tab = true
  low : (d == sysModules) = false
def getI (tab : List (Int × Int)) (i : Int) : Option Int := (tab.find? fun p => decide (p.1 = i)).map (·.2)
@[simp] def dGetT (tab : List (Int × Int)) : PyData → PyData → Option PyData
  | .int i, y => some (match getI tab i with
    | some v => .int v
    | none => y)
  | _, _ => none
section
variable {X : Cx} {d : Addr} {tab : List (Int × Int)} {o e e2 : Expr} {apos cpos : Pos} {f g : EF}
def rGetT (tab : List (Int × Int)) : V → V → Hp → VK → Prop := fun y z H Q => ∃ i : Int, y = .int i ∧ Q (match getI tab i with
  | some v => .int v
  | none => z) H
end
end PG
end
section
set_option Elab.async false
set_option linter.all false
set_option maxRecDepth 100000
namespace PG
open PySem PySem.Spec PyProof.Rows L2
/-! ### x in xs, whole numbers; a table of the module: k in T, T[k] -/
def isInI (i : Int) (ns : List Int) : Bool := ns.any fun y => y == i
def inD (i : Int) (ds : List PyData) : Option Bool := match intsOf ds with
  | some ns => some (isInI i ns)
  | none => none
@[simp] def dIn : PyData → PyData → Option PyData
  | .int i, .list ds => (inD i ds).map fun b => .bool b
  | .int i, .tuple ds => (inD i ds).map fun b => .bool b
  | _, _ => none
@[simp] def dNotIn : PyData → PyData → Option PyData
  | .int i, .list ds => (inD i ds).map fun b => .bool (!b)
  | .int i, .tuple ds => (inD i ds).map fun b => .bool (!b)
  | _, _ => none
section
variable {X : Cx} {d : Addr} {tab : List (Int × Int)} {a b : Expr} {pos : Pos} {f g : EF}
@[simp] def dInT (tab : List (Int × Int)) : PyData → Option PyData
  | .int i => some (.bool (getI tab i).isSome)
  | _ => none
@[simp] def dNotInT (tab : List (Int × Int)) : PyData → Option PyData
  | .int i => some (.bool (!(getI tab i).isSome))
  | _ => none
@[simp] def dIxT (tab : List (Int × Int)) : PyData → Option PyData
  | .int i => (getI tab i).map PyData.int
  | _ => none
theorem un_inv {o : PyData → Option PyData} {ρ ρ' : Rho} {z : PyData} (h : eUn o f ρ = some (z, ρ')) : ∃ x, f ρ = some (x, ρ') ∧ o x = some z := by
  unfold eUn at h
  split at h
  · rename_i x ρ1 h1
    split at h
    · rename_i w h2
      cases h
      exact ⟨x, h1, h2⟩
    · cases h
  · cases h
end
end PG
end
section
set_option Elab.async false
set_option linter.all false
set_option maxRecDepth 100000
namespace PG
open PySem PySem.Spec PyProof.Rows L2
/-! ### a, b = x, y and a, b, c = x, y, z: no tuple is made -/
@[simp] def sPar (is : List Nat) (f : NF) : SF := fun ρ => match f ρ with
  | some (ds, ρ1) => (match gPairs is ds ρ1 with
    | some ρ2 => some (.next, ρ2)
    | none => none)
  | none => none
section
variable {X : Cx} {a b c' : Expr} {pos : Pos} {n : NF}
end
section
variable {X : Cx} {d : Addr} {tab : List (Int × Int)} {a b : Expr} {pos : Pos} {f : EF}
end
end PG
end
section
set_option Elab.async false
set_option linter.all false
set_option maxRecDepth 100000
namespace PG
open PySem PySem.Spec PyProof.Rows L2
/-! ### type(x) == T -/
def six : List String := ["NoneType", "bool", "int", "str", "list", "tuple"]
theorem meta_six : ∀ n ∈ six, ∀ s' : Shared, s'.TypeIs (.type n) "type" := by
  intro n hn s'
  simp only [six, List.mem_cons, List.not_mem_nil, or_false] at hn
  rcases hn with rfl | rfl | rfl | rfl | rfl | rfl
  · exact TypeEq.meta_NoneType s'
  · exact TypeEq.meta_bool s'
  · exact TypeEq.meta_int s'
  · exact TypeEq.meta_str s'
  · exact TypeEq.meta_list s'
  · exact TypeEq.meta_tuple s'
section
variable {X : Cx} {a b : Expr} {pos : Pos} {p : Pos} {f : EF}
theorem op_eqTy : OpR X (compareOp .Eq) (fun x y H Q => ∃ m n, x = .ty m ∧ y = .ty n ∧ m ∈ six ∧ n ∈ six ∧ Q (.bl (decide (m = n))) H) := by
  intro pins s σ H x y v u Q I rx ry h
  obtain ⟨m, n, rfl, rfl, hm, hn, q⟩ := h
  cases (show v = Value.type m from rx)
  cases (show u = Value.type n from ry)
  by_cases e : m = n
  · subst e
    rw [decide_eq_true rfl] at q
    exact TypeEq.eq_type_same (meta_six m hm) ⟨.bl true, H, I, rfl, q⟩
  · rw [decide_eq_false e] at q
    exact TypeEq.eq_type_other (meta_six m hm) (meta_six n hn) (by rw [ty_beq, decide_eq_false e]) ⟨.bl false, H, I, rfl, q⟩
@[simp] def dTyIs (T : String) : PyData → Option PyData
  | .dict _ => none
  | x => some (.bool (decide (tyName x = T)))
theorem tyB_of {K : PySem.W.Frag} {A : Addr → Prop} {H : Hp} {v : V} {d : PyData} (r : Rp K A H v d) (h : ∀ kvs, d ≠ .dict kvs) : TyB K H v (tyName d) := by
  cases r with
  | non => exact .non
  | bl b => exact .bl b
  | int i => exact .int i
  | str x => exact .str x
  | lst l a => exact .lst l.sq
  | tup l a => exact .tup l.sq
  | ro l a => exact absurd rfl (h _)
  | fn => exact absurd rfl (h _)
  | fn0 => exact absurd rfl (h _)
  | dct => exact absurd rfl (h _)
  | adr => exact absurd rfl (h _)
theorem tyIs_inv {T : String} {x d : PyData} (h : dTyIs T x = some d) : (∀ kvs, x ≠ .dict kvs) ∧ d = .bool (decide (tyName x = T)) := by
  cases x <;> first
    | (cases h; done)
    | exact ⟨(fun kvs z => by cases z), (Option.some.inj h).symm⟩
theorem tyName_six {d : PyData} (h : ∀ kvs, d ≠ .dict kvs) : tyName d ∈ six := tyName_mem d h
theorem rd_ty {T : String} (hT : T ∈ six) {K : PySem.W.Frag} : ∀ σ H Q, tE K (eUn (dTyIs T) f) σ H Q → tOp (fun x y H Q => ∃ m n, x = .ty m ∧ y = .ty n ∧ m ∈ six ∧ n ∈ six ∧ Q (.bl (decide (m = n))) H) (fun σ H Q => tE K f σ H fun v H1 => rTyp K [v] H1 Q) (tC (.ty T)) σ H Q := fun σ H Q ⟨c, ρ, d, ρ', R, e, q⟩ => by
  obtain ⟨x, h1, h3⟩ := un_inv e
  obtain ⟨nd, rfl⟩ := tyIs_inv h3
  exact ⟨c, ρ, x, ρ', R, h1, fun v1 H1 R1 r1 m1 => ⟨v1, _, rfl, tyB_of r1 nd, _, _, rfl, rfl, tyName_six nd, hT, q _ H1 R1 (.bl _) m1⟩⟩
theorem pe_type1 {te : TE} (hg : Gl X "type") (hm : X.mg "type" = none) (ha : PE X a te) (he : starEach [a] X.env = (false, eval a X.env) :: starEach [] X.env := by rfl) (hpl : (backTo pos (starEach [] X.env)).any (·.1) = false := by rfl) :
    PE X (.Call (.Name "type" p) [a] [] pos) (fun σ H Q => te σ H fun v H1 => rTyp X.K [v] H1 Q) :=
  pe_of (pe_callTy call_type1 hg hm (by rfl) (pa_cons ha pa_nil he) (by decide) (by decide) he hpl) fun σ H Q h => h
theorem ev_tyEq {T : String} {pos2 : Pos} (hT : T ∈ six) (hg : Gl X "type") (hm : X.mg "type" = none) (ha : PE X a (tE X.K f)) (hb : PE X b (tC (.ty T))) (hk : behindInMarks .Eq b = false)
    (he : starEach [a] X.env = (false, eval a X.env) :: starEach [] X.env := by rfl) (hpl : (backTo pos (starEach [] X.env)).any (·.1) = false := by rfl) :
    PE X (.Compare (.Call (.Name "type" p) [a] [] pos) [.Eq] [b] pos2) (tE X.K (eUn (dTyIs T) f)) :=
  pe_of (pe_cmpR op_eqTy (pe_type1 hg hm ha he hpl) hb hk) (rd_ty hT)
end
end PG
end
section
set_option Elab.async false
set_option linter.all false
set_option maxRecDepth 100000
namespace PG
open PySem PySem.Spec PyProof.Rows L2
/-! ### type(x) != T -/
theorem slotNeTy : Slot "type" (cmpInfo .NotEq).2.1 "object.__ne__" :=
  .of (owner := "object") (n := "__ne__") (by rw [typeLookup_type, builtinLookup_eq_fast]; kernel_rfl) (by decide +kernel) (by decide +kernel) (by decide +kernel)
    (by first | exact .inl (by decide +kernel) | exact .inr (by decide +kernel)) (by rw [isSubtype_type]; kernel_rfl)
section
variable {prog : Program} {w : World} {A : Around} {E : Value → Shared → Prop} {s : Shared}
theorem spEq_same {m : String} {Q : Option Value → Shared → Prop} (hm : ∀ s' : Shared, s'.TypeIs (.type m) "type") (q : Q (some (.bool true)) s) : wpAny (model prog w) A (callSpecialIfBound? (.type m) "__eq__" [.type m]) Q E s :=
  wpAny_callSpecialIfBound?_slot (name := (cmpInfo .Eq).2.1) (hm _) TypeEq.slot_type_eq (call_gives TypeEq.slot_type_eq (hm _) F.entry_object_eq (F.args_object_eq_2 _ _) (TypeEq.object_eq_same rfl (by simp)) q)
theorem spEq_other {m n : String} {Q : Option Value → Shared → Prop} (hm : ∀ s' : Shared, s'.TypeIs (.type m) "type") (hne : (Value.type m == Value.type n) = false) (q : Q (some .notImplemented) s) :
    wpAny (model prog w) A (callSpecialIfBound? (.type m) "__eq__" [.type n]) Q E s :=
  wpAny_callSpecialIfBound?_slot (name := (cmpInfo .Eq).2.1) (hm _) TypeEq.slot_type_eq (call_gives TypeEq.slot_type_eq (hm _) F.entry_object_eq (F.args_object_eq_2 _ _) (TypeEq.object_eq_other rfl hne) q)
theorem neTy_in_same {m : String} {Q : Fin → Shared → Prop} (hm : ∀ s' : Shared, s'.TypeIs (.type m) "type") (hu : A.units < cLine) (q : Q (.done (.ret (.bool false))) s) :
    wpAny (model prog w) A (Builtin.«object.__ne__» ⟨[.type m, .type m], []⟩) Q E s := by
  unfold Builtin.«object.__ne__»
  repeat (first | with_reducible refine wpAny_cRoomFor hu ?_ | with_reducible refine spEq_same hm ?_ | wp_step)
  exact q
theorem neTy_in_other {m n : String} {Q : Fin → Shared → Prop} (hm : ∀ s' : Shared, s'.TypeIs (.type m) "type") (hne : (Value.type m == Value.type n) = false) (hu : A.units < cLine) (q : Q (.done (.ret .notImplemented)) s) :
    wpAny (model prog w) A (Builtin.«object.__ne__» ⟨[.type m, .type n], []⟩) Q E s := by
  unfold Builtin.«object.__ne__»
  repeat (first | with_reducible refine wpAny_cRoomFor hu ?_ | with_reducible refine spEq_other hm hne ?_ | wp_step)
  exact q
theorem callNe_same {m : String} {Q : Value → Shared → Prop} (hm : ∀ s' : Shared, s'.TypeIs (.type m) "type") (hu : A.units + 1 < cLine) (q : Q (.bool false) s) : wpAny (model prog w) A (call (.builtin "object.__ne__") [.type m, .type m]) Q E s :=
  wpAny_call (codeAny_call_builtin slotNeTy.plain F.cmpEntry_ne (slotNeTy.check _ _ _ _ _ _ _ _ (hm _) (F.cmpArgs_ne _ _) (neTy_in_same (A := A.in1) hm hu q)))
theorem callNe_other {m n : String} {Q : Value → Shared → Prop} (hm : ∀ s' : Shared, s'.TypeIs (.type m) "type") (hne : (Value.type m == Value.type n) = false) (hu : A.units + 1 < cLine) (q : Q .notImplemented s) :
    wpAny (model prog w) A (call (.builtin "object.__ne__") [.type m, .type n]) Q E s :=
  wpAny_call (codeAny_call_builtin slotNeTy.plain F.cmpEntry_ne (slotNeTy.check _ _ _ _ _ _ _ _ (hm _) (F.cmpArgs_ne _ _) (neTy_in_other (A := A.in1) hm hne hu q)))
theorem ne_type_same {m : String} {Q : Value → Shared → Prop} (hm : ∀ s' : Shared, s'.TypeIs (.type m) "type") (hu : A.units + 1 < cLine) (q : Q (.bool false) s) : wpAny (model prog w) A (compareOp .NotEq (.type m) (.type m)) Q E s := by
  show wpAny _ A (richCompare .NotEq _ _) Q E s
  exact wpAny_richCompare_same (T := "type") (hm s) (hm s) slotNeTy (callNe_same hm hu ⟨(by intro e; cases e), q⟩)
theorem ne_type_other {m n : String} {Q : Value → Shared → Prop} (hm : ∀ s' : Shared, s'.TypeIs (.type m) "type") (hn : ∀ s' : Shared, s'.TypeIs (.type n) "type") (hne : (Value.type m == Value.type n) = false) (hne2 : (Value.type n == Value.type m) = false) (hu : A.units + 1 < cLine) (q : Q (.bool true) s) :
    wpAny (model prog w) A (compareOp .NotEq (.type m) (.type n)) Q E s := by
  have hu0 : A.units < cLine := by omega
  have k1 : ∀ {s : Shared} {Q : Option Value → Shared → Prop}, Q none s → wpAny (model prog w) A (tryCompare (.type m) "__ne__" (.type n)) Q E s := fun {s Q} q =>
    wpAny_tryCompare_declines (name := (cmpInfo .NotEq).2.1) (hm _) slotNeTy (callNe_other hm hne hu ⟨rfl, q⟩)
  have k2 : ∀ {s : Shared} {Q : Option Value → Shared → Prop}, Q none s → wpAny (model prog w) A (tryCompare (.type n) "__ne__" (.type m)) Q E s := fun {s Q} q =>
    wpAny_tryCompare_declines (name := (cmpInfo .NotEq).2.1) (hn _) slotNeTy (callNe_other hn hne2 hu ⟨rfl, q⟩)
  have hk : isSame (.type m) (.type n) = pure false := by rw [isSame_plain rfl, hne]
  show wpAny _ A (richCompare .NotEq _ _) Q E s
  simp only [richCompare, cmpInfo_NotEq, (hm s).oneThing_none]
  repeat (first | with_reducible refine wpAny_cRoomFor hu0 ?_ | with_reducible refine wpAny_typeOf (hm _) ?_ | with_reducible refine wpAny_typeOf (hn _) ?_ | with_reducible refine k1 ?_ | with_reducible refine k2 ?_ | with_reducible refine wpAny_of_eq hk ?_ | wp_step)
  exact q
end
section
variable {X : Cx} {a b : Expr} {pos : Pos} {p : Pos} {f : EF}
def rTyNe : R2 := fun x y H Q => ∃ m n, x = .ty m ∧ y = .ty n ∧ m ∈ six ∧ n ∈ six ∧ Q (.bl (!decide (m = n))) H
theorem op_neTy (hu : X.A.units + 64 < cLine) : OpR X (compareOp .NotEq) rTyNe := by
  intro pins s σ H x y v u Q I rx ry h
  obtain ⟨m, n, rfl, rfl, hm, hn, q⟩ := h
  cases (show v = Value.type m from rx)
  cases (show u = Value.type n from ry)
  by_cases e : m = n
  · subst e
    rw [decide_eq_true rfl] at q
    exact ne_type_same (meta_six m hm) (by omega) ⟨.bl false, H, I, rfl, q⟩
  · rw [decide_eq_false e] at q
    exact ne_type_other (meta_six m hm) (meta_six n hn) (by rw [ty_beq, decide_eq_false e]) (by rw [ty_beq, decide_eq_false fun z => e z.symm]) (by omega) ⟨.bl true, H, I, rfl, q⟩
@[simp] def dTyNe (T : String) : PyData → Option PyData
  | .dict _ => none
  | x => some (.bool (!decide (tyName x = T)))
theorem tyNe_inv {T : String} {x d : PyData} (h : dTyNe T x = some d) : (∀ kvs, x ≠ .dict kvs) ∧ d = .bool (!decide (tyName x = T)) := by
  cases x <;> first | (cases h; done) | exact ⟨(fun kvs z => by cases z), (Option.some.inj h).symm⟩
theorem rd_tyNe {T : String} (hT : T ∈ six) {K : PySem.W.Frag} : ∀ σ H Q, tE K (eUn (dTyNe T) f) σ H Q → tOp rTyNe (fun σ H Q => tE K f σ H fun v H1 => rTyp K [v] H1 Q) (tC (.ty T)) σ H Q := fun σ H Q ⟨c, ρ, d, ρ', R, e, q⟩ => by
  obtain ⟨x, h1, h3⟩ := un_inv e
  obtain ⟨nd, rfl⟩ := tyNe_inv h3
  exact ⟨c, ρ, x, ρ', R, h1, fun v1 H1 R1 r1 m1 => ⟨v1, _, rfl, tyB_of r1 nd, _, _, rfl, rfl, tyName_six nd, hT, q _ H1 R1 (.bl _) m1⟩⟩
theorem et_tyNe {T : String} {pos2 : Pos} (hu : X.A.units + 64 < cLine) (hT : T ∈ six) (hg : Gl X "type") (hm : X.mg "type" = none) (ha : PE X a (tE X.K f)) (hb : PE X b (tC (.ty T))) (hk : behindInMarks .NotEq b = false)
    (he : starEach [a] X.env = (false, eval a X.env) :: starEach [] X.env := by rfl) (hpl : (backTo pos (starEach [] X.env)).any (·.1) = false := by rfl) :
    PT X (.Compare (.Call (.Name "type" p) [a] [] pos) [.NotEq] [b] pos2) (tT X.K (tBl (eUn (dTyNe T) f))) :=
  pt_of (pt_cmpR (op_neTy hu) (pe_type1 hg hm ha he hpl) hb hk) (rd_bl (rd_tyNe hT))
/-! ### x in an owned list -/
@[simp] def eBinO (o : PyData → PyData → Option PyData) (f : EF) (i : Nat) : EF := fun ρ => match f ρ with
  | some (x, ρ1) => (match ρ1[i]? with
    | some (some (.l _ ps)) => (match o x (.list ps) with
      | some z => some (z, ρ1)
      | none => none)
    | _ => none)
  | none => none
end
end PG
end
section
set_option Elab.async false
set_option linter.all false
set_option maxRecDepth 100000
namespace PG
open PySem PySem.Spec PyProof.Rows L2
/-! ### x in xs: flat items, or data in a list -/
def flatD : PyData → Bool
  | .none => true
  | .bool _ => true
  | .int _ => true
  | .str _ => true
  | _ => false
def memD (x : PyData) (ds : List PyData) : Bool := ds.any fun z => PyData.eqv z x
def dMem (neg : Bool) (x : PyData) : PyData → Option PyData
  | .list ds => if (flatD x && ds.all flatD) || (SeqAt.shaped x && SeqAt.shaped (.list ds)) then some (.bool (if neg then !memD x ds else memD x ds)) else none
  | .tuple ds => if flatD x && ds.all flatD then some (.bool (if neg then !memD x ds else memD x ds)) else none
  | _ => none
def dIn2 : PyData → PyData → Option PyData := dMem false
def dNotIn2 : PyData → PyData → Option PyData := dMem true
section
variable {K : PySem.W.Frag} {A : Addr → Prop} {H : Hp}
theorem flat_rp {v : V} {d : PyData} (r : Rp K A H v d) (h : flatD d = true) : flatV v = true := by cases r <;> first | rfl | cases h
theorem eqv_rp {v u : V} {d e : PyData} (r : Rp K A H v d) (q : Rp K A H u e) (h : flatD d = true) (k : flatD e = true) : eqV v u = PyData.eqv d e := by
  cases r <;> cases q <;> first | (cases h; done) | (cases k; done) | (simp [eqV, PyData.eqv]; done) | (simp [eqV, PyData.eqv, BEq.comm])
theorem flat_rpA : ∀ {vs : List V} {ds : List PyData}, RpA K A H vs ds → ds.all flatD = true → vs.all flatV = true
  | _, [], r, _ => by cases r; rfl
  | _, d :: ds, r, h => by
    cases r with
    | cons r1 r2 =>
      simp only [List.all_cons, Bool.and_eq_true] at h ⊢
      exact ⟨flat_rp r1 h.1, flat_rpA r2 h.2⟩
theorem mem_rpA {u : V} {x : PyData} (q : Rp K A H u x) (hx : flatD x = true) : ∀ {vs : List V} {ds : List PyData}, RpA K A H vs ds → ds.all flatD = true → inV u vs = memD x ds
  | _, [], r, _ => by cases r; rfl
  | _, d :: ds, r, h => by
    cases r with
    | cons r1 r2 =>
      simp only [List.all_cons, Bool.and_eq_true] at h
      have ih := mem_rpA q hx r2 h.2
      unfold inV memD at ih ⊢
      rw [List.any_cons, List.any_cons, ih, eqv_rp r1 q h.1 hx]
end
theorem u65 {A : Around} {k : Nat} (r : Room k A) : A.units + 65 < cLine := by have := r.un; omega
def rMem (K : PySem.W.Frag) : R2 := fun x y H Q => rIn K false x y H Q ∨ rInD K x y H Q
def rNotMem (K : PySem.W.Frag) : R2 := fun x y H Q => rIn K true x y H Q ∨ rNotInD K x y H Q
section
variable {X : Cx} {a b : Expr} {pos : Pos} {f : EF}
theorem op_mem (hu : X.A.units + 65 < cLine) : OpR X (compareOp .In) (rMem X.K) := fun pins s σ H x y v u Q I rx ry h => h.elim (op_in_seq pins s σ H x y v u Q I rx ry) (op_inD hu pins s σ H x y v u Q I rx ry)
end
section
variable {K : PySem.W.Frag}
theorem mem_list {neg : Bool} {x d : PyData} {ds : List PyData} (h : dMem neg x (.list ds) = some d) : d = .bool (if neg then !memD x ds else memD x ds) ∧ ((flatD x = true ∧ ds.all flatD = true) ∨ (SeqAt.shaped x = true ∧ SeqAt.shaped (.list ds) = true)) := by
  unfold dMem at h
  simp only at h
  split at h
  · rename_i hc
    cases h
    simp only [Bool.or_eq_true, Bool.and_eq_true] at hc
    exact ⟨rfl, hc⟩
  · cases h
theorem mem_tup {neg : Bool} {x d : PyData} {ds : List PyData} (h : dMem neg x (.tuple ds) = some d) : d = .bool (if neg then !memD x ds else memD x ds) ∧ flatD x = true ∧ ds.all flatD = true := by
  unfold dMem at h
  simp only at h
  split at h
  · rename_i hc
    cases h
    simp only [Bool.and_eq_true] at hc
    exact ⟨rfl, hc⟩
  · cases h
/-- the list at l holds us, which are ds -/
theorem mem_at {A : Addr → Prop} {H : Hp} {neg : Bool} {v : V} {x d : PyData} {l : Addr} {us : List V} {ds : List PyData} {Q : VK} (r1 : Rp K A H v x) (q2 : SqL K H l us) (q3 : RpA K A H us ds) (h : dMem neg x (.list ds) = some d) (q : ∀ b, d = .bool b → Q (.bl b) H) :
    rIn K neg v (.ref l) H Q ∨ (if neg then rNotInD K else rInD K) v (.ref l) H Q := by
  obtain ⟨rfl, hc⟩ := mem_list h
  rcases hc with ⟨h1, h2⟩ | ⟨h1, h2⟩
  · refine .inl ⟨l, us, rfl, .inl q2, flat_rp r1 h1, flat_rpA q3 h2, ?_⟩
    rw [mem_rpA r1 h1 q3 h2]
    exact q _ rfl
  · refine .inr ?_
    have d1 := Rp.dp _ _ r1 (SeqAt.canLay_of_shaped h1)
    have d2 : Dp K H (.ref l) (.list ds) := .lst q2 (RpA.dp _ _ q3 (SeqAt.canLay_of_shaped h2))
    cases neg with
    | true => exact ⟨x, ds, d1, d2, h1, h2, q _ rfl⟩
    | false => exact ⟨x, ds, d1, d2, h1, h2, q _ rfl⟩
theorem os_mem : OpS K (rMem K) dIn2 := by
  intro c ρ σ H v1 v2 x y d Q R r1 r2 ho q
  cases y with
  | list ds =>
    cases r2 with
    | lst l al => exact mem_at (neg := false) r1 l.sq al ho fun b e => by subst e; exact q _ _ R (.bl _) .refl
  | tuple ds =>
    cases r2 with
    | tup l al =>
      obtain ⟨rfl, h1, h2⟩ := mem_tup ho
      refine .inl ⟨_, _, rfl, .inr l.sq, flat_rp r1 h1, flat_rpA al h2, ?_⟩
      rw [mem_rpA r1 h1 al h2]
      exact q _ _ R (.bl _) .refl
  | _ => cases ho
end
section
variable {X : Cx} {a b : Expr} {pos : Pos} {f : EF}
end
end PG
end
section
set_option Elab.async false
set_option linter.all false
set_option maxRecDepth 100000
namespace PG
open PySem PySem.Spec PyProof.Rows L2
/-! ### repr(x): asked where no text of an object is being made (the law's own body) -/
/-- a def's promise, where nothing of that kind is under way -/
structure FnQ (P : Program) (w : World) (K : PySem.W.Frag) (mg : Str → Option Value) (bas : Heap) (k : Nat) (fa : Addr) (fd : FuncData) (ps : List Str) (sp : Sp) : Prop where
  arity : ∀ vs H Q E, sp vs H Q E → vs.length = ps.length
  does : ∀ (B : Around) (up : List Env) (s : Shared) (H : Hp) (ar : Args) (us : List Value) (vs : List V) (Q : VK) (E : XK), B.guards = some [] → Room k B → Env0 P w K mg bas B up s H → BindsTo s fd ar (ps.zip us) → Vals vs us → sp vs H Q E →
    codeAny (model P w) B (.call (.ref fa) ar) (CR CX0 up P w H s Q E) s
section
variable {P : Program} {w : World} {K : PySem.W.Frag} {mg : Str → Option Value} {bas : Heap}
end
/-! the law's own call -/
/-! repr -/
def reprOk (d : PyData) : Bool := d.canLay0 && decide (d.depth ≤ 64) && d.showable && decide (d.shown.length ≤ 16777216)
def dRepr (d : PyData) : Option PyData := if reprOk d then some (.str d.shown) else none
mutual
theorem noDict0 : ∀ d : PyData, d.canLay0 = true → d.hasDict = false
  | .none, _ => rfl
  | .bool _, _ => rfl
  | .int _, _ => rfl
  | .str _, _ => rfl
  | .list xs, h => by simp only [PyData.canLay0] at h; simp only [PyData.hasDict]; exact noDictA xs h
  | .tuple xs, h => by simp only [PyData.canLay0] at h; simp only [PyData.hasDict]; exact noDictA xs h
  | .dict _, h => by simp [PyData.canLay0] at h
theorem noDictA : ∀ ds : List PyData, PyData.canLayAll0 ds = true → PyData.hasDictAll ds = false
  | [], _ => rfl
  | d :: ds, h => by
    simp only [PyData.canLayAll0, Bool.and_eq_true] at h
    simp only [PyData.hasDictAll, noDict0 d h.1, noDictA ds h.2, Bool.or_false]
end
section
variable {X : Cx} {a : Expr} {p pos : Pos} {f : EF}
def rRepr (K : PySem.W.Frag) : List V → Hp → VK → Prop := fun xs H Q => ∃ v d, xs = [v] ∧ Dp K H v d ∧ reprOk d = true ∧ Q (.str d.shown) H
end
/-! texts compared -/
@[simp] def dNeS : PyData → PyData → Option PyData
  | .str x, .str y => some (.bool (!decide (x = y)))
  | _, _ => none
@[simp] def dEqS : PyData → PyData → Option PyData
  | .str x, .str y => some (.bool (decide (x = y)))
  | _, _ => none
theorem os_neS {K : PySem.W.Frag} : OpS K rNe dNeS := by
  intro c ρ σ H v1 v2 x y d Q R r1 r2 ho q
  unfold dNeS at ho
  split at ho
  · cases ho
    cases r1
    cases r2
    refine ⟨rfl, ?_⟩
    rename_i a b
    have e : (decide (V.str a = V.str b)) = decide (a = b) := by
      rw [Bool.eq_iff_iff]
      simp
    rw [e]
    exact os_same R q (.bl _)
  · cases ho
theorem os_eqS {K : PySem.W.Frag} : OpS K rEq dEqS := by
  intro c ρ σ H v1 v2 x y d Q R r1 r2 ho q
  unfold dEqS at ho
  split at ho
  · cases ho
    cases r1
    cases r2
    refine ⟨rfl, ?_⟩
    rename_i a b
    have e : (decide (V.str a = V.str b)) = decide (a = b) := by
      rw [Bool.eq_iff_iff]
      simp
    rw [e]
    exact os_same R q (.bl _)
  · cases ho
end PG
end
section
set_option Elab.async false
set_option linter.all false
set_option maxRecDepth 100000
set_option maxHeartbeats 4000000
namespace PG
open PySem PySem.Spec PyProof.Rows L2
def rRepT2 (K : PySem.W.Frag) : R2 := fun x y H Q => ∃ l k xs, x = .ref l ∧ y = .int k ∧ SqT K H l xs ∧ -(2 ^ 63) ≤ k ∧ k < 2 ^ 63 ∧ xs.length * k.toNat ≤ sizeLine ∧ (xs = [] ∨ k = 1 → Q (.ref l) H) ∧
  ∀ p, H p = none → Q (.ref p) (upd H p (.tup (List.replicate k.toNat xs).flatten))
section
variable {X : Cx}
end
@[simp] def dRepT : PyData → PyData → Option PyData
  | .tuple xs, .int k => if -9223372036854775808 ≤ k ∧ k < 9223372036854775808 ∧ xs.length * k.toNat ≤ 16777216 then some (.tuple (List.replicate k.toNat xs).flatten) else none
  | _, _ => none
end PG
end
section
set_option Elab.async false
set_option linter.all false
set_option maxRecDepth 100000
namespace PG
open PySem PySem.Spec PyProof.Rows L2
/-! ### a table of the module whose keys are tuples of whole numbers -/
def intsAt : List Value → List Int → Bool
  | [], [] => true
  | v :: r, i :: t => Value.isInt i v && intsAt r t
  | _, _ => false
def seqTop : Data → Option (List Value)
  | .seq its _ => some its.toList
  | _ => none
def keyAt (K : PySem.W.Frag) (v : Value) (ks : List Int) : Bool := match v with
  | .ref b => match K.lookup b with
    | some o => o.cls == Value.type "tuple" && (match seqTop o.data with
      | some its => intsAt its ks
      | none => false)
    | none => false
  | _ => false
def tupH (ks : List Int) : Int := reduceHash (Builtin.Tuple.tupleHashOf (ks.map hashInt))
def tentOk (K : PySem.W.Frag) : List DictEntry → List (List Int × Int) → Bool
  | [], [] => true
  | e :: r, p :: t => decide (e.hash = tupH p.1) && keyAt K e.key p.1 && Value.isInt p.2 e.val && tentOk K r t
  | _, _ => false
def inK (ks : List Int) : List Key := ks.map Sum.inl
structure TTab (K : PySem.W.Frag) (d : Addr) (tab : List (List Int × Int)) : Prop where
  at_ : ∃ es n, K.lookup d = some ⟨.type "dict", none, .dict es n, #[]⟩ ∧ tentOk K es.toList tab = true
  one : (tab.map fun p => inK p.1).Nodup
  low : (d == sysModules) = false
def getT (tab : List (List Int × Int)) (ks : List Int) : Option Int := (tab.find? fun p => decide (p.1 = ks)).map (·.2)
section
variable {X : Cx} {d : Addr} {tab : List (List Int × Int)} {o e : Expr} {apos cpos : Pos} {f : EF}
def rGetT1 (K : PySem.W.Frag) (tab : List (List Int × Int)) : V → Hp → VK → Prop := fun y H Q => ∃ (b : Addr) (ks : List Int), y = .ref b ∧ SqT K H b (ks.map V.int) ∧ Q (match getT tab ks with
  | some v => .int v
  | none => .non) H
@[simp] def dGetT1 (tab : List (List Int × Int)) : PyData → Option PyData
  | .tuple ds => (match intsOf ds with
    | some ks => some (match getT tab ks with
      | some v => .int v
      | none => .none)
    | none => none)
  | _ => none
/-! ### list(range(a, b)) -/
def nLstRg (f g : EF) : NF := fun ρ => match f ρ with
  | some (.int i, ρ1) => (match g ρ1 with
    | some (.int j, ρ2) => if -1000000 ≤ i ∧ i ≤ 1000000 ∧ -1000000 ≤ j ∧ j ≤ 1000000 then some (rng i (j - i).toNat, ρ2) else none
    | _ => none)
  | _ => none
end
/-! ### a list of the module, read only -/
def flatOk : List Value → List PyData → Bool
  | [], [] => true
  | v :: r, .int i :: t => Value.isInt i v && flatOk r t
  | v :: r, .str x :: t => Value.isStrOf x v && flatOk r t
  | _, _ => false
def flatV1 : PyData → V
  | .int i => .int i
  | .str x => .str x
  | _ => .non
structure ROTab (K : PySem.W.Frag) (d : Addr) (ds : List PyData) : Prop where
  at_ : ∃ its n, K.lookup d = some ⟨.type "list", none, .seq its n, #[]⟩ ∧ flatOk its.toList ds = true
  low : ds.length ≤ 1000
theorem flatA_of : ∀ {vs : List Value} {ds : List PyData}, flatOk vs ds = true → FlatA (ds.map flatV1) ds ∧ Vals (ds.map flatV1) vs ∧ vs.length = ds.length
  | [], [], _ => ⟨.nil, .nil, rfl⟩
  | [], _ :: _, h => by cases h
  | _ :: _, [], h => by cases h
  | v :: r, .int i :: t, h => by
    simp only [flatOk, Bool.and_eq_true] at h
    obtain ⟨a, b, c⟩ := flatA_of h.2
    exact ⟨.int i a, .cons (Value.isInt_shape h.1) b, by simp [c]⟩
  | v :: r, .str x :: t, h => by
    simp only [flatOk, Bool.and_eq_true] at h
    obtain ⟨a, b, c⟩ := flatA_of h.2
    exact ⟨.str x a, .cons (keyIs_rel (k := .inr x) h.1) b, by simp [c]⟩
theorem ROTab.ro {K : PySem.W.Frag} {d : Addr} {ds : List PyData} (D : ROTab K d ds) (A : Addr → Prop) (H : Hp) : Rp K A H (.ref d) (RO ds) := by
  obtain ⟨its, n, hl, hf⟩ := D.at_
  obtain ⟨a, b, c⟩ := flatA_of hf
  have := D.low
  exact .ro (.inr ⟨_, its, n, hl, rfl, rfl, rfl, by rw [← Array.length_toList, c, sl16]; omega, b⟩) a
theorem u1 {A : Around} {k : Nat} (r : Room k A) : A.units + 1 < cLine := by have := r.un; omega
end PG
end
section
set_option Elab.async false
set_option linter.all false
set_option maxRecDepth 100000
namespace PG
open PySem PySem.Spec PyProof.Rows L2
/-! ### t < u of tuples of whole numbers -/
@[simp] def dLtT : PyData → PyData → Option PyData
  | .tuple xs, .tuple ys => (match intsOf xs, intsOf ys with
    | some ns, some ms => some (.bool (HT.lexLt ns ms))
    | _, _ => none)
  | _, _ => none
/-! ### raise: nothing is said of it -/
def sRaise : SF := fun _ => none
end PG
end
section
set_option Elab.async false
set_option linter.all false
set_option maxRecDepth 100000
namespace PG
open PySem PySem.Spec PyProof.Rows L2
section
variable {prog : Program} {w : World} {A : Around} {E : Value → Shared → Prop} {s : Shared}
end
section
variable {X : Cx}
def sPairsT (K : PySem.W.Frag) : List V → Hp → VK → Prop := fun vs H Q => ∃ (a : Addr) (xs : List V) (ps : List (Int × Int)), vs = [V.ref a] ∧ SqT K H a xs ∧ pairsAt K H xs ps ∧
  ∀ ys p (k : V → Int × Int), ps = xs.map k → SrtO.Srtd (ltP k) ys → SrtO.Stb (ltP k) ys xs → H p = none → Q (.ref p) (upd H p (.lst ys))
def dSortPT : PyData → Option (List PyData)
  | .tuple ds => (match pairsOf ds with
    | some l => some ((sortP l).map prD)
    | none => none)
  | _ => none
end
/-! a list unpacked into names -/
@[simp] def gLstS (is : List Nat) : GF := fun d ρ => match d with
  | .list ds => gPairs is ds ρ
  | _ => none
section
variable {X : Cx} {es : List Expr} {pos : Pos}
end
end PG
end
section
set_option Elab.async false
set_option linter.all false
set_option maxRecDepth 100000
namespace PG
open PySem PySem.Spec PyProof.Rows L2
/-! ### an owned list + a list -/
@[simp] def eAddO (i : Nat) (g : EF) : EF := fun ρ => match ρ[i]? with
  | some (some (.l _ _)) => (match g ρ with
    | some (.list ds, ρ1) => (match ρ1[i]? with
      | some (some (.l _ es)) => if es.length + ds.length ≤ 16777216 then some (.list (es ++ ds), ρ1) else none
      | _ => none)
    | _ => none)
  | _ => none
section
variable {X : Cx} {a b e : Expr} {pos : Pos} {f g : EF} {n : NF} {es : List Expr}
end

/-- an owned list as a value, or what was made a value before -/
@[simp] def eFrz2 (i : Nat) : EF := fun ρ => match ρ[i]? with
  | some (some (.l false ds)) => some (.list ds, ρ.set i (some (.v (.list ds))))
  | some (some (.v d)) => some (d, ρ)
  | _ => none
/-! ### two lists of the caller's are lent -/
abbrev F2L := List PyData → List PyData → List PyData → Option (PyData × List PyData × List PyData)
def spM (K : PySem.W.Frag) (k : Nat) (F : F2L) : Sp := fun vs H Q _ => vs.length = k + 2 ∧ TsOk K H ∧ ∃ (A : Addr → Prop) (a b : Addr) (us us2 ws : List V) (ps qs ds : List PyData) (r : PyData) (ps' qs' : List PyData),
  vs = .ref a :: .ref b :: ws ∧ a ≠ b ∧ H a = some (.lst us) ∧ RpA K A H us ps ∧ A a ∧ H b = some (.lst us2) ∧ RpA K A H us2 qs ∧ A b ∧ RpA K A H ws ds ∧ (∀ a, A a → H a ≠ none) ∧ F ps qs ds = some (r, ps', qs') ∧
  ∀ v H' us' us2', KpX K (fun c => c = a ∨ c = b) H H' → H' a = some (.lst us') → RpA K A H' us' ps' → H' b = some (.lst us2') → RpA K A H' us2' qs' → Rp K A H' v r → Q v H'
@[simp] def rhoM (ps qs ds : List PyData) (m : Nat) : Rho := some (Cell.l true ps) :: some (Cell.l true qs) :: (ds.map (fun d => some (Cell.v d)) ++ List.replicate m none)
@[simp] def pool1 (ρ : Rho) : Option (List PyData) := match ρ with
  | _ :: some (.l true ps) :: _ => some ps
  | _ => none
@[simp] def endM : Option (Out × Rho) → Option (PyData × List PyData × List PyData)
  | some (.ret d, ρ) => (match pool0 ρ, pool1 ρ with
    | some ps, some qs => some (d, ps, qs)
    | _, _ => none)
  | _ => none
def defM (b : SF) (k m : Nat) : F2L := fun ps qs ds => if ds.length = k then endM (b (rhoM ps qs ds m)) else none
abbrev pn2 (a b : Addr) : Nat → Option Addr := fun i => if i = 0 then some a else if i = 1 then some b else none
section
variable {P : Program} {w : World} {K : PySem.W.Frag} {mg : Str → Option Value} {base : Heap} {x qual : Str} {st : Stmt} {fa : Addr} {fd : FuncData} {N ps : List Str} {j k m : Nat} {b : SF}
end
/-- f(pool, list, ..) -/
@[simp] def eCallM (F : F2L) (i i2 : Nat) (f : NF) : EF := fun ρ => match ρ[i]? with
  | some (some (.l _ _)) => (match ρ[i2]? with
    | some (some (.l _ _)) => (match f ρ with
      | some (xs, ρ1) => (match ρ1[i]? with
        | some (some (.l p ps)) => (match ρ1[i2]? with
          | some (some (.l p2 qs)) => if i = i2 then none else (match F ps qs xs with
            | some (z, ps', qs') => some (z, (ρ1.set i (some (.l p ps'))).set i2 (some (.l p2 qs')))
            | none => none)
          | _ => none)
        | _ => none)
      | none => none)
    | _ => none)
  | _ => none
section
variable {X : Cx} {e e2 : Expr} {es : List Expr} {pos p : Pos} {n : NF} {F4 : F2L} {k j : Nat} {fa : Addr} {fd : FuncData} {ps : List Str} {x : Str}
end
end PG
end
section
set_option Elab.async false
set_option linter.all false
set_option maxRecDepth 100000
namespace PG
open PySem PySem.Spec PyProof.Rows L2
/-! ### xs.extend(t), t a tuple -/
def rExtT (K : PySem.W.Frag) : V → List V → Hp → VK → Prop := fun x vs H Q => ∃ l b xs zs, x = .ref l ∧ vs = [.ref b] ∧ H l = some (.lst xs) ∧ SqT K H b zs ∧ xs.length + zs.length ≤ sizeLine ∧ Q .non (upd H l (.lst (xs ++ zs)))
section
variable {X : Cx}
end
@[simp] def sExt (i : Nat) (f : EF) : SF := fun ρ => match ρ[i]? with
  | some (some (.l _ _)) => (match f ρ with
    | some (.tuple ds, ρ1) => (match ρ1[i]? with
      | some (some (.l p es)) => if es.length + ds.length ≤ 16777216 then some (.next, ρ1.set i (some (.l p (es ++ ds)))) else none
      | _ => none)
    | _ => none)
  | _ => none
section
variable {X : Cx} {a e : Expr} {pos : Pos} {f : EF}
end
/-! ### t[::-1], t a tuple -/
section
variable {prog : Program} {w : World} {A : Around} {E : Value → Shared → Prop} {s : Shared}
end
def tRevT (K : PySem.W.Frag) (te : TE) : TE := fun σ H Q => te σ H fun x H1 => ∃ a xs, x = .ref a ∧ SqT K H1 a xs ∧ ∀ p, H1 p = none → Q (.ref p) (upd H1 p (.tup xs.reverse))
@[simp] def eRevT (f : EF) : EF := fun ρ => match f ρ with
  | some (.tuple xs, ρ1) => some (.tuple xs.reverse, ρ1)
  | _ => none
section
variable {X : Cx} {e : Expr} {f : EF}
end
end PG
end
section
set_option Elab.async false
set_option linter.all false
set_option maxRecDepth 100000
namespace PG
open PySem PySem.Spec PyProof.Rows L2
/-! ### a comprehension that walks an owned list -/
section
variable {X : Cx} {e a b : Expr} {pos : Pos} {f g h : EF} {tf tg : TF} {n m : NF} {es : List Expr}
end
/-- the Act with one list more kept apart, as it stands -/
def Act.hide {K : PySem.W.Frag} (c : Act K) (b : Addr) (o : HO) (h0 : c.H0 b = none) : Act K := { A := fun x => c.A x ∨ x = b, H0 := upd c.H0 b o, pn := c.pn, ts := ts_upd c.ts h0, tp := tp_upd c.tp h0 }
section
variable {K : PySem.W.Frag} {c : Act K} {ρ : Rho} {σ : L2.St} {H : Hp} {i : Nat} {ds : List PyData} {b : Addr} {us : List V} {h0 : c.H0 b = none}
theorem hide_av (hi : ρ[i]? = some (some (.l false ds))) (hb : σ[i]? = some (some (.ref b))) (x : Addr) : Av (c.hide b (.lst us) h0) (ρ.set i none) σ x ↔ Av c ρ σ x := by
  have hl := lt_of_get hi
  constructor
  · rintro (z | ⟨j, p, es, w1, w2⟩)
    · rcases z with z | z
      · exact .inl z
      · subst z; exact .inr ⟨i, _, _, hi, hb⟩
    · rw [get_set hl] at w1
      by_cases e : i = j
      · subst e; rw [if_pos rfl] at w1; cases w1
      · rw [if_neg e] at w1; exact .inr ⟨j, p, es, w1, w2⟩
  · rintro (z | ⟨j, p, es, w1, w2⟩)
    · exact .inl (.inl z)
    · by_cases e : i = j
      · subst e; rw [hb] at w2; cases w2; exact .inl (.inr rfl)
      · exact .inr ⟨j, p, es, by rw [get_set hl, if_neg e]; exact w1, w2⟩
theorem hide_mv (hi : ρ[i]? = some (some (.l false ds))) (hb : σ[i]? = some (some (.ref b))) : Mv (Av c ρ σ) H (Av (c.hide b (.lst us) h0) (ρ.set i none) σ) H := mvX fun x o e n => ⟨e, fun z => n ((hide_av hi hb x).mp z)⟩
theorem Rel.hide (R : Rel K c ρ σ H) (hi : ρ[i]? = some (some (.l false ds))) (hb : σ[i]? = some (some (.ref b))) (hH : H b = some (.lst us)) : Rel K (c.hide b (.lst us) h0) (ρ.set i none) σ H := by
  have hl := lt_of_get hi
  have gs : ∀ j, (ρ.set i none)[j]? = if i = j then some none else ρ[j]? := fun j => get_set hl
  have mv := hide_mv (c := c) (H := H) (us := us) (h0 := h0) hi hb
  refine ⟨by rw [List.length_set]; exact R.len, fun j d e => ?_, fun j q es e => ?_, fun j k q q' es es' x h1 h2 h3 h4 => ?_, fun j x => ?_, fun j x e => .inl (R.pA j x e), fun x o e n t => ?_, fun x e => ?_, fun x e => ?_, R.nt⟩
  · rw [gs] at e
    by_cases e1 : i = j
    · rw [if_pos e1] at e; cases e
    · rw [if_neg e1] at e
      obtain ⟨v, w1, w2⟩ := R.val j d e
      exact ⟨v, w1, w2.mv mv⟩
  · rw [gs] at e
    by_cases e1 : i = j
    · rw [if_pos e1] at e; cases e
    · rw [if_neg e1] at e
      obtain ⟨x, vs, w1, w2, w3, w4⟩ := R.lst j q es e
      have nx : x ≠ b := fun z => e1 (by subst z; exact R.dis i j _ _ _ _ x hi e hb w1)
      refine ⟨x, vs, w1, w2, w3.mv mv, fun z => ⟨?_, fun y => y.elim (w4 z).2 nx⟩⟩
      show upd c.H0 b (.lst us) x = none
      rw [upd_ne nx]
      exact (w4 z).1
  · rw [gs] at h1 h2
    by_cases e1 : i = j
    · rw [if_pos e1] at h1; cases h1
    · by_cases e2 : i = k
      · rw [if_pos e2] at h2; cases h2
      · rw [if_neg e1] at h1
        rw [if_neg e2] at h2
        exact R.dis j k q q' es es' x h1 h2 h3 h4
  · show c.pn j = some x ↔ _
    rw [R.pin, gs]
    by_cases e1 : i = j
    · subst e1
      rw [if_pos rfl, hi]
      constructor
      · rintro ⟨es, w, _⟩; cases w
      · rintro ⟨es, w, _⟩; cases w
    · rw [if_neg e1]
  · have e' : upd c.H0 b (.lst us) x = some o := e
    by_cases z : x = b
    · subst z; rw [upd_same] at e'; cases e'; exact hH
    · rw [upd_ne z] at e'; exact R.old x o e' n t
  · rcases e with e | e
    · exact R.av x e
    · subst e; rw [hH]; exact fun z => nomatch z
  · have e : upd c.H0 b (.lst us) x ≠ none := e
    by_cases z : x = b
    · subst z; rw [hH]; exact fun z => nomatch z
    · rw [upd_ne z] at e; exact R.on x e
end
/-- [f for x in known if t], known an owned list: the parts don't see it -/
def nCompO (i : Nat) (g : GF) (t : TF) (e : EF) (vs : List Nat) : NF := fun ρ => match ρ[i]? with
  | some (some (.l false ds)) => if plainAt (ρ.set i none) vs then (match compL g t e vs ds [] (wipeR (ρ.set i none) vs) with
    | some (out, ρ2) => (match (restR (ρ.set i none) ρ2 vs)[i]? with
      | some none => some (out, (restR (ρ.set i none) ρ2 vs).set i (some (.l false ds)))
      | _ => none)
    | none => none) else none
  | _ => none
section
variable {X : Cx} {e a b : Expr} {pos : Pos} {f g h : EF} {tf tg : TF} {n m : NF} {es : List Expr}
end
end PG
end
section
set_option Elab.async false
set_option linter.all false
set_option maxRecDepth 100000
namespace PG
open PySem PySem.Spec PyProof.Rows L2
/-! ### sorted(set(xs)), up to some thousands -/
section
variable {P : Program} {w : World} {A : Around} {E : Value → Shared → Prop} {s : Shared} {a : Addr}
end
section
variable {X : Cx} {e a b : Expr} {pos : Pos} {f g h : EF} {tf tg : TF} {n m : NF} {es : List Expr}
def rSortedSetA (w : World) : List V → Hp → VK → Prop := fun vs H Q => ∃ (a : Addr) (S : Int → Bool) (n : Nat), vs = [V.ref a] ∧ H a = some (SetO w a S n) ∧ n < 4096 ∧
  ∀ (ns : List Int) (p : Addr), ns.Pairwise (· < ·) → (∀ k : Int, k ∈ ns ↔ S k = true) → ns.length = n → H p = none → Q (.ref p) (upd H p (.lst (ns.map V.int)))
def rSetLIA (K : PySem.W.Frag) (w : World) : List V → Hp → VK → Prop := fun xs H Q => ∃ (l : Addr) (ns : List Int), xs = [.ref l] ∧ SqL K H l (ns.map V.int) ∧ ns.length < 4000 ∧
  ∀ p c, c ≤ ns.length → H p = none → Q (.ref p) (upd H p (SetO w p (fun j => decide (j ∈ ns)) c))
/-- sorted(set(xs)): fewer than 4000 items -/
def dSortSetA : PyData → Option (List PyData)
  | .list ds => (match intsOf ds with
    | some ns => if ns.length < 4000 then some ((sortI ns).map PyData.int) else none
    | none => none)
  | _ => none
end
end PG
end
section
set_option Elab.async false
set_option linter.all false
set_option maxRecDepth 100000
set_option maxHeartbeats 1000000
namespace PG
open PySem PySem.Spec PyProof.Rows L2 GenW GxR
/-! ### a generator expression that is handed to all, any, sum, tuple at once -/
/-- the frame of a generator expression, B around it -/
abbrev gblk (X : Cx) (s : Shared) (H : Hp) (ce : Env) (fp : List Addr) (B : Around) (pn : List (Addr × Obj)) : Cx :=
  { X with s_0 := s, H_0 := H, A := B, env := ce, outer := X.stack, stack := ce :: X.stack, ex := fp, fn := fun _ => false, pn := pn, xe := fun _ _ => False }
/-- its names -/
structure GNames (N : List Str) (sc scope : Scope) (own : List (Str × Nat)) : Prop where
  blk : BlkOk N sc scope own
  nocell : ∀ y ∈ scope.names, y.2 ≠ .cell
  dot : scope.names.lookup (".0" : Str) = some NameKind.local
  co : scope.isCoroutine = false
section
variable {X : Cx} {pins : List (Addr × Obj)} {σ : L2.St} {H : Hp} {s s' : Shared}
theorem clo_look {X : Cx} {N : List Str} {scope : Scope} {own : List (Str × Nat)} (ok : GNames N X.env.scope scope own) (hf : ∀ y ∈ scope.names, y.2 = .free → ∃ c, X.env.cells.lookup y.1 = some c) {y : Str} {c : Addr}
    (e : (cloFrom X.env.cells scope.names []).lookup y = some c) : X.env.cells.lookup y = some c ∧ (y, NameKind.free) ∈ scope.names := by
  rcases cloFrom_mem (PySem.mem_of_lookup e) with z | ⟨z1, z2⟩
  · exact nomatch z
  · obtain ⟨c', e'⟩ := hf _ z1 rfl
    rw [e'] at z2
    have z3 : c = c' := z2
    rw [z3]
    exact ⟨e', z1⟩
theorem clo_has {X : Cx} {N : List Str} {scope : Scope} {own : List (Str × Nat)} (ok : GNames N X.env.scope scope own) (hf : ∀ y ∈ scope.names, y.2 = .free → ∃ c, X.env.cells.lookup y.1 = some c) {y : Str}
    (e : (y, NameKind.free) ∈ scope.names) : ∃ c, (cloFrom X.env.cells scope.names []).lookup y = some c ∧ X.env.cells.lookup y = some c := by
  obtain ⟨c, h⟩ := mem_lookup (cloFrom_has (cells := X.env.cells) (acc := []) e)
  exact ⟨c, h, (clo_look ok hf h).1⟩
/-- the frame stands -/
theorem ginv {scope : Scope} {own : List (Str × Nat)} {fp : List Addr} {B : Around} {pn : List (Addr × Obj)} {ce : Env} {m0 : Str → Option Value} (I : Inv X pins σ H s) (ok : GNames X.N X.env.scope scope own) (hN : X.N.Nodup)
    (hfp : ∀ b ∈ fp, FpOk X pins H b ∧ b < s.heap.objs.size) (e1 : ce.scope = scope) (e2 : ce.locals = s.heap.objs.size) (e3 : ce.globals = mainGlobals) (e4 : ce.builtins = builtinsNs) (e5 : ce.cells = cloFrom X.env.cells scope.names [])
    (e6 : ce.frame = some ce.locals) (hB : B.handled = none) (hF : B.frames = some (ce :: X.stack)) (kp : ∀ b o, s.heap.get? b = some o → s'.heap.get? b = some o) (hm : s'.heap.Ns s.heap.objs.size m0) (ho : s'.os = s.os) (hb : AllBare s'.gens)
    (hpn : ∀ p ∈ pn, s'.heap.get? p.1 = some p.2 ∧ s.heap.objs.size < p.1 ∧ ∀ v, p.2.data ≠ .cell v) : Inv (gblk X s H ce fp B pn) [] (wipe σ (own.map (·.2))) H s' := by
  have hfree : ∀ y ∈ scope.names, y.2 = .free → ∃ c, X.env.cells.lookup y.1 = some c := fun y hy e => by
    rcases ok.blk.free y hy e with k | k
    · exact I.ok.has _ (.inl k)
    · exact I.ok.has _ (.inr k)
  have low : ∀ {y c}, ce.cells.lookup y = some c → X.env.cells.lookup y = some c ∧ c < s.heap.objs.size ∧ (y, NameKind.free) ∈ scope.names := fun {y c} e => by
    rw [e5] at e
    obtain ⟨w1, w2⟩ := clo_look ok hfree e
    obtain ⟨v, z⟩ := I.cell _ _ w1
    exact ⟨w1, z.lt, w2⟩
  have young : ∀ {b}, s.heap.objs.size ≤ b → H b = none ∧ b ∉ frs X.stack := fun {b} hb' => by
    refine ⟨I.hok.fresh hb', fun z => ?_⟩
    obtain ⟨_, o, w, _⟩ := I.stack.mem z
    exact absurd (Nat.lt_of_lt_of_le (Heap.lt_size w) hb') (Nat.lt_irrefl _)
  have okG : (gblk X s H ce fp B pn).Ok := {
    mod := I.ok.mod
    kind := by show ce.scope.kind = _; rw [e1]; exact ok.blk.kind
    glob := e3
    blt := e4
    above := by show s.heap.objs.size ≤ ce.locals; rw [e2]; exact Nat.le_refl _
    inj := fun y z c h1 h2 => I.ok.inj y z c (low h1).1 (low h2).1
    has := fun y hy => by
      have hy : scope.names.lookup y = some .cell ∨ scope.names.lookup y = some .free := by
        rw [← e1]; exact hy
      rcases hy with hy | hy
      · exact absurd rfl (ok.nocell _ (PySem.mem_of_lookup hy))
      · obtain ⟨c, w, _⟩ := clo_has ok hfree (PySem.mem_of_lookup hy)
        exact ⟨c, by show ce.cells.lookup y = _; rw [e5]; exact w⟩
    cab := fun y c z => nomatch (show false = true from z)
    hd := fun _ => hB
    frames := hF
    stk := .inr ⟨rfl, e6⟩
    exf := fun b hb' => ⟨by show b ≠ ce.locals; rw [e2]; exact Nat.ne_of_lt (hfp b hb').2, fun y c h z => (hfp b hb').1.2.2.2.2.1 y c (low h).1 z⟩
    bs := I.bs
    bsz := Nat.le_trans I.ok.bsz I.sz
    noex := fun b o e z => by
      rcases (hfp b z).1.2.2.2.1 with w | w
      · exact I.ok.noex b o e w
      · exact absurd (Nat.lt_of_lt_of_le (Heap.lt_size e) (Nat.le_trans I.ok.bsz w)) (Nat.lt_irrefl _)
    exfs := fun b hb' z => by
      rcases List.mem_cons.mp (I.stkSub b z) with w | w
      · exact (hfp b hb').1.2.1 w
      · exact (hfp b hb').1.2.2.1 w
    funs := I.stack
    frf := I.stkFree }
  refine ⟨okG, ho, hb, Un.kept kp, ⟨m0, by show s'.heap.Ns ce.locals m0; rw [e2]; exact hm, fun i y v w1 w2 w3 => ?_⟩, fun y c e => ?_, ?_, fun y c e => ?_, fun p hp => ?_, I.hok.kept kp, by rw [wipe_length]; exact I.len⟩
  · obtain ⟨w2, hni⟩ := wipe_some w2
    have w3 : Vis scope y := by
      have w3' : Vis ce.scope y := w3
      rw [e1] at w3'
      exact w3'
    have notown : ∀ k, scope.names.lookup y = some k → k = .local ∨ k = .cell → False := fun k hk hk2 => by
      rcases ok.blk.own _ (PySem.mem_of_lookup hk) hk2 with z | z
      · obtain ⟨p, hp, py⟩ := List.mem_map.mp z
        have q := ok.blk.ix p hp
        have py' : p.1 = y := py
        rw [py'] at q
        exact hni (List.mem_map.mpr ⟨p, hp, nodup_ix hN q w1⟩)
      · exact z (List.mem_of_getElem? w1)
    have fr : scope.names.lookup y = some .free := by
      rcases w3 with z | z | z
      · exact (notown _ z (.inl rfl)).elim
      · exact (notown _ z (.inr rfl)).elim
      · exact z
    obtain ⟨c, g1, g2⟩ := clo_has ok hfree (PySem.mem_of_lookup fr)
    obtain ⟨m, hn, hl⟩ := I.loc
    have vis : Vis X.env.scope y := by
      rcases ok.blk.free _ (PySem.mem_of_lookup fr) rfl with k | k
      · exact .inr (.inl k)
      · exact .inr (.inr k)
    obtain ⟨u, r, q⟩ := hl i y v w1 w2 vis
    refine ⟨u, r, .inr ⟨.inr (by show ce.scope.names.lookup y = _; rw [e1]; exact fr), c, by show ce.cells.lookup y = _; rw [e5]; exact g1, ?_⟩⟩
    rcases q with ⟨k, _⟩ | ⟨_, c', g3, z⟩
    · have k : X.env.scope.names.lookup y = some .local := k
      rcases ok.blk.free _ (PySem.mem_of_lookup fr) rfl with k2 | k2 <;> (rw [show X.env.scope.names.lookup y = _ from k2] at k; cases k)
    · rw [g2] at g3
      cases g3
      exact z.keeps kp
  · obtain ⟨g1, _⟩ := low (show ce.cells.lookup y = some c from e)
    obtain ⟨v, z⟩ := I.cell y c g1
    exact ⟨v, z.keeps kp⟩
  · show H ce.locals = none
    rw [e2]
    exact I.hok.fresh (Nat.le_refl _)
  · exact I.freeC y c (low (show ce.cells.lookup y = some c from e)).1
  · have hp : p ∈ pn := by simpa using hp
    obtain ⟨q1, q2, q3⟩ := hpn p hp
    refine ⟨q1, (young (Nat.le_of_lt q2)).1, ?_, (young (Nat.le_of_lt q2)).2, q3⟩
    show p.1 ≠ ce.locals
    rw [e2]
    exact Nat.ne_of_gt q2
end
end PG
end
section
set_option Elab.async false
set_option linter.all false
set_option maxRecDepth 100000
set_option maxHeartbeats 1000000
namespace PG
open PySem PySem.Spec PyProof.Rows L2 GenW GxR
/-! ### the run of a generator expression -/
/-- what the consumer does while the generator sleeps -/
structure Woke {κ : Type} (po : κ → List (Addr × Obj)) (Ss : List Addr) (k' : κ) (s s2 : Shared) : Prop where
  os : s2.os = s.os
  bare : AllBare s2.gens
  keep : ∀ b o, b ∉ Ss → s.heap.get? b = some o → s2.heap.get? b = some o
  own : ∀ p ∈ po k', s2.heap.get? p.1 = some p.2
/-- an item is handed out -/
def GYp {κ : Type} (Y : Cx) (σ0 : L2.St) (po : κ → List (Addr × Obj)) (Ss : List Addr) (Got : κ → V → Hp → (κ → Hp → Prop) → Prop) : Protocol := fun _ _ v s kap =>
  ∃ (k : κ) (y : V) (H : Hp) (Nx : κ → Hp → Prop), RelV y v ∧ Inv Y (po k) σ0 H s ∧ Got k y H Nx ∧ ∀ k' s2, Woke po Ss k' s s2 → Nx k' H → kap (.send .none) s2
/-- the generator is through -/
def GRe {κ : Type} (Y : Cx) (σ0 : L2.St) (po : κ → List (Addr × Obj)) (Fin : κ → Hp → Prop) : GenEnd := fun _ _ r s =>
  ((r = .ok (.ret .none) ∨ r = .ok .next) ∧ ∃ k H, Inv Y (po k) σ0 H s ∧ Fin k H) ∨ ∃ e, r = .error e ∧ False
/-- a turn of the generator's loop -/
def GTurn {κ : Type} (J : It) (g : TG) (tt : TT) (te : TE) (vs : List Nat) (σ0 : L2.St) (W : κ → Nat → Nat → Hp → Prop) (Fin : κ → Hp → Prop) (Got : κ → V → Hp → (κ → Hp → Prop) → Prop) : Prop :=
  ∀ k i m H, W k i m H → (J.stop i H ∧ Fin k H) ∨ (J.go i H ∧ 0 < m ∧ ∃ Nx : κ → Hp → Prop, (∀ k' H', Nx k' H' → ∃ m', m' < m ∧ W k' (i + 1) m' H') ∧
    ∀ x H', J.yld i H x H' → g x σ0 H' fun σ2 H2 => wipe σ2 vs = σ0 ∧ tt σ2 H2 fun b H3 => if b = true then te σ2 H3 fun y H4 => Got k y H4 Nx else Nx k H3)
/-- the consumer's objects: none of the generator's -/
structure Aside {κ : Type} (Y : Cx) (fp : List Addr) (po : κ → List (Addr × Obj)) (Ss : List Addr) : Prop where
  all : ∀ k, (po k).map (·.1) = Ss
  nocell : ∀ k, ∀ p ∈ po k, ∀ v, p.2.data ≠ .cell v
  young : ∀ b ∈ Ss, Y.s_0.heap.objs.size ≤ b
  frame : ∀ b ∈ Ss, b ≠ Y.env.locals
  cells : ∀ b ∈ Ss, ∀ x c, Y.env.cells.lookup x = some c → c ≠ b
  its : ∀ b ∈ Ss, b ∉ fp
  pn : ∀ b ∈ Ss, ∀ p ∈ Y.pn, p.1 ≠ b
section
variable {κ : Type} {Y : Cx} {σ0 σ : L2.St} {po : κ → List (Addr × Obj)} {Ss fp : List Addr} {H : Hp} {s s2 : Shared} {k k' : κ}
theorem Aside.mem (a : Aside Y fp po Ss) {b : Addr} (h : b ∈ Ss) (k : κ) : ∃ p ∈ po k, p.1 = b := by
  rw [← a.all k] at h
  obtain ⟨p, hp, e⟩ := List.mem_map.mp h
  exact ⟨p, hp, e⟩
theorem Aside.of (a : Aside Y fp po Ss) {p : Addr × Obj} (h : p ∈ po k) : p.1 ∈ Ss := by
  rw [← a.all k]
  exact List.mem_map.mpr ⟨p, h, rfl⟩
/-- the generator wakes -/
theorem Woke.inv (z : Woke po Ss k' s s2) (a : Aside Y fp po Ss) (I : Inv Y (po k) σ H s) : Inv Y (po k') σ H s2 := by
  have free : ∀ b ∈ Ss, H b = none ∧ b ∉ Y.fs := fun b hb => by
    obtain ⟨p, hp, e⟩ := a.mem hb k
    obtain ⟨_, w1, _, w2, _⟩ := I.pin p (List.mem_append_right _ hp)
    rw [e] at w1 w2
    exact ⟨w1, w2⟩
  have nt : ∀ b u, H b = some u → b ∉ Ss := fun b u e hb => by rw [(free b hb).1] at e; cases e
  have I0 : Inv Y [] σ H s := I.pins_of fun p hp => nomatch hp
  have un : Un (frs Y.stack) Ss H H s.heap s2.heap := {
    keep := fun b o e _ _ hx => z.keep b o hx e
    slot := fun b o e _ _ hx => ⟨o.slots, z.keep b o hx e⟩
    free := fun _ _ _ n _ => n
    there := fun b o e hx => ⟨o, z.keep b o hx e⟩
    tups := fun _ _ e => e
    frzs := fun _ _ _ e => e
    tbls := fun _ _ e => ⟨#[], by rw [e]; simp⟩ }
  have hok : HOk Y.prog Y.w H s2.heap := fun b u e => (I.hok b u e).stay (fun c v hc q => z.keep c v (by
    rcases hc with w | w
    · rw [w]; exact nt b u e
    · exact nt c _ w) q) (fun _ q => q) fun _ _ q => q
  have J : Inv Y [] σ H s2 := I0.call' (ch := Ss) z.os un hok z.bare fun b hb => ⟨.inr (a.young b hb), a.frame b hb, a.cells b hb, fun p hp => a.pn b hb p (by simpa using hp)⟩
  exact J.pins_of fun p hp => ⟨z.own p hp, (free p.1 (a.of hp)).1, a.frame p.1 (a.of hp), (free p.1 (a.of hp)).2, a.nocell k' p hp⟩
end
/-- the loop -/
theorem gen_loop {κ : Type} {Y : Cx} {σ0 : L2.St} {po : κ → List (Addr × Obj)} {Ss fp : List Addr} {B0 : Around} {elt tg iter : Expr} {ifs : List Expr} {scope : Scope} {gpos : Pos} {it : Addr} {tn : Nat → Heap → Prop} {J : It} {g : TG} {tt : TT} {te : TE} {vs : List Nat}
    {W : κ → Nat → Nat → Hp → Prop} {Fin : κ → Hp → Prop} {Got : κ → V → Hp → (κ → Hp → Prop) → Prop} (hov : B0.over (.compLoop (.GeneratorExp elt [⟨tg, iter, ifs, 0⟩] scope gpos) 0 (.ref it) .none Y.env) [] = Y.A) (hc : Y.calm = true) (hco : Y.env.scope.isCoroutine = false)
    (hxe : Y.xe = fun _ _ => False) (T : Turn Y.prog Y.w Y.K tg J fp it tn) (hex : Y.ex = fp) (hwl : wipe σ0 vs = σ0) (pg : PG Y tg g) (pt : PTs Y ifs tt) (pe : PE Y elt te) (turn : GTurn J g tt te vs σ0 W Fin Got) (a : Aside Y fp po Ss) (hpn : ∀ p ∈ Y.pn, p.1 ∉ fp) :
    ∀ (m n : Nat) (k : κ) (i : Nat) (H : Hp) (s₀ s : Shared), m ≤ n → Inv Y (po k) σ0 H s → tn i s.heap → (∀ b ∈ fp, H b = none) → W k i m H →
      Seg (model Y.prog Y.w) B0 (GRe Y σ0 po Fin) (GYp Y σ0 po Ss Got) n s₀ (.compLoop (.GeneratorExp elt [⟨tg, iter, ifs, 0⟩] scope gpos) 0 (.ref it) .none Y.env) ((model Y.prog Y.w).den (.compLoop (.GeneratorExp elt [⟨tg, iter, ifs, 0⟩] scope gpos) 0 (.ref it) .none Y.env)) [] s := by
  intro m
  induction m using Nat.strongRecOn with
  | ind m ih =>
    intro n k i H s₀ s hmn I st nf w
    have ready : ∀ {k : κ} {σ' : L2.St} {H' : Hp} {s' : Shared}, Inv Y (po k) σ' H' s' → (∀ b ∈ fp, H' b = none) → ∀ b ∈ fp, FpOk Y (po k) H' b := fun {k σ' H' s'} I' hn b hb => by
      have hb' : b ∈ Y.ex := by rw [hex]; exact hb
      refine ⟨hn b hb, (I'.ok.exf b hb').1, I'.ok.exfs b hb', .inl hb', (I'.ok.exf b hb').2, fun p hp z => ?_⟩
      rcases List.mem_append.mp hp with q | q
      · exact hpn p q (by rw [z]; exact hb)
      · exact a.its _ (a.of q) (by rw [z]; exact hb)
    show Seg _ B0 _ _ n s₀ _ ((compTurn (.GeneratorExp elt [⟨tg, iter, ifs, 0⟩] scope gpos) 0 (.ref it) .none Y.env).onRaise (leaving Y.env)) [] s
    rw [compTurn_gen]
    rw [Sem.onRaise_eq_wrap]
    refine seg_bind_wrap (wpAny_standAt (seg_bind_wrap ?_))
    rw [hov]
    have fl : ∀ {e : Value} {z : Shared} {Q : Prop}, Y.xe e z → Q := fun {e z Q} h => by rw [hxe] at h; exact h.elim
    rcases turn k i m H w with ⟨stop, fin⟩ | ⟨go, m0, Nx, hNx, step⟩
    · refine thnF (T.done Y rfl rfl rfl hc i (po k) s σ0 H (fun _ _ => False) I (ready I nf) st stop) fun r s1 hr => ?_
      obtain ⟨rfl, I1⟩ := hr
      exact seg_end (.ok .next) (.inl ⟨.inr rfl, k, H, I1, fin⟩)
    · refine thnF (T.item Y rfl rfl rfl hc i (po k) s σ0 H (fun _ _ => False) I (ready I nf) st go) fun r s1 hr => ?_
      obtain ⟨u, rfl, h1⟩ := hr
      refine seg_bind_wrap ?_
      rw [hov]
      refine thnF h1 fun _ s2 h2 => ?_
      obtain ⟨x, H2, I2, rx, y2, st2, n2⟩ := h2
      have I2' := I2.pinned (ready I2 n2) (T.obj _ _ st2)
      refine seg_bind_wrap ?_
      rw [hov]
      refine wpAny_mono (pg.run _ s2 _ H2 x u _ I2' rx (step x H2 y2)) (fun _ s3 h3 => ?_) fun _ _ z => fl z
      obtain ⟨σ3, H3, I3, hw3, q3⟩ := h3
      refine seg_bind_wrap ?_
      rw [hov]
      refine wpAny_mono (pt.run _ s3 σ3 H3 _ I3 q3) (fun b s4 h4 => ?_) fun _ _ z => fl z
      obtain ⟨H4, I4, q4⟩ := h4
      have hl : σ0.length = σ3.length := by rw [← hw3, wipe_length]
      -- the turn is over, its item may be out
      have over : ∀ {z : Shared} {H' : Hp}, Inv Y (po k ++ pinsAt fp s2.heap) σ3 H' z → Inv Y (po k) σ0 H' z ∧ tn (i + 1) z.heap ∧ ∀ b ∈ fp, H' b = none := fun {z H'} I' => by
        have at_ : ∀ b ∈ fp, ∀ o, s2.heap.get? b = some o → z.heap.get? b = some o ∧ H' b = none := fun b hb o e => by
          obtain ⟨w1, w2, _⟩ := I'.pin (b, o) (List.mem_append_right _ (List.mem_append_right _ (mem_pinsAt hb e)))
          exact ⟨w1, w2⟩
        refine ⟨I'.unpinned.weak hl fun j v e => ?_, T.keep _ _ _ st2 fun b hb o e => (at_ b hb o e).1, fun b hb => ?_⟩
        · rw [← hw3] at e
          exact (wipe_some e).1
        · obtain ⟨o, e, _⟩ := T.obj _ _ st2 b hb
          exact (at_ b hb o e).2
      cases b with
      | false =>
        simp only [Bool.false_eq_true, if_false] at q4 ⊢
        obtain ⟨m', hm, w'⟩ := hNx k H4 q4
        obtain ⟨I5, st5, n5⟩ := over I4
        exact seg_again rfl (ih m' hm n k (i + 1) H4 s₀ s4 (by omega) I5 st5 n5 w')
      | true =>
        simp only [if_true] at q4 ⊢
        have yo : ∀ v, yieldOut Y.env v = yieldValue v := fun v => by simp only [yieldOut, hco, Bool.false_eq_true, if_false]
        simp only [yo]
        rw [Sem.bind_eq_wrap', Sem.bind_eq_wrap', Sem.wrap_wrap, Sem.wrap_wrap]
        refine seg_wrap ?_
        rw [hov]
        refine wpAny_mono (pe.run _ s4 σ3 H4 _ I4 q4) (fun v s5 h5 => ?_) fun _ _ z => fl z
        obtain ⟨y, H5, I5, ry, got⟩ := h5
        obtain ⟨I6, st6, n6⟩ := over I5
        obtain ⟨n', rfl⟩ : ∃ n', n = n' + 1 := ⟨n - 1, by omega⟩
        refine seg_at (seg_yield rfl rfl rfl ⟨k, y, H5, Nx, ry, I6, got, fun k' s7 wk nx => ?_⟩)
        obtain ⟨m', hm, w'⟩ := hNx k' H5 nx
        refine seg_again rfl (ih m' hm n' k' (i + 1) H5 s7 s7 (by omega) (wk.inv a I6) (T.keep _ _ _ st6 fun b hb o e => wk.keep b o (fun z => a.its b z hb) e) n6 w')
end PG
end
section
set_option Elab.async false
set_option linter.all false
set_option maxRecDepth 100000
set_option maxHeartbeats 1000000
namespace PG
open PySem PySem.Spec PyProof.Rows L2 GenW GxR
/-! ### a generator expression is made -/
section
variable {X : Cx} {pins : List (Addr × Obj)} {σ : L2.St} {H : Hp} {s : Shared}
theorem tblP_ok {P : Program} {w : World} {h : Heap} {p : Addr} (t : tblP p h) : ObjOk P w H h p (tblO p) := by
  refine ⟨t, ?_, fun h1 h2 q k => ?_⟩
  · obtain ⟨ps, e, _⟩ := t
    exact ⟨_, e⟩
  · obtain ⟨ps, e, tr⟩ := q
    exact ⟨ps, k _ e, tr⟩
/-- the table has grown -/
theorem inv_tbl {p : Addr} {h' : Heap} {g' : Array GenState} {d' : Drawn} {t' : Nat} (I : Inv X pins σ H s) (hp : H p = some (tblO p)) (k : ∀ b o, b ≠ p → s.heap.get? b = some o → h'.get? b = some o) (t : tblP p h') (hg : AllBare g') :
    Inv X pins σ H { s with heap := h', gens := g', drawn := d', toks := t' } := by
  have np : ∀ b, H b = none → b ≠ p := fun b e z => by subst z; rw [hp] at e; cases e
  refine I.step (g' := g') (d' := d') (ch := []) (fun b hb => nomatch hb) (fun b o _ _ _ e n => k b o (np b n) e) (fun b o _ _ _ e n => ⟨o.slots, k b o (np b n) e⟩) (fun _ _ _ _ n => n) (fun b o _ e => ?_) (fun _ _ e => e) (fun _ _ _ e => e) (fun _ _ e => ⟨#[], by rw [e]; simp⟩) (fun m hm => ?_) (fun b u e => ?_) hg
  · by_cases z : b = p
    · subst z
      obtain ⟨ps, w, _⟩ := t
      exact ⟨_, w⟩
    · exact ⟨o, k b o z e⟩
  · obtain ⟨ob, es, ep, w, r⟩ := hm
    exact ⟨ob, es, ep, k _ ob (np _ I.free) w, r⟩
  · by_cases z : b = p
    · subst z
      rw [hp] at e
      cases e
      exact tblP_ok t
    · refine (I.hok b u e).stay (fun c v hc q => k c v (fun y => ?_) q) (fun _ q => q) fun _ _ q => q
      rcases hc with w | w
      · exact z (w.symm.trans y)
      · rw [y, hp] at w
        cases w
theorem inv_setGen {g : Nat} {x : GenState} (I : Inv X pins σ H s) (hx : x.bare = true) : Inv X pins σ H (s.setGen g x) :=
  I.call' (s' := s.setGen g x) (ch := []) rfl Un.refl I.hok (allBare_setGen I.bare hx) fun b hb => nomatch hb
end
/-- the code object and the table of the def that runs -/
structure Tbd (X : Cx) (c p : Addr) : Prop where
  code : X.env.code = .ref c
  tab : TabB X.base X.mg c p
/-- the generator has been made, it has not begun -/
structure GMde (X : Cx) (pins : List (Addr × Obj)) (σ : L2.St) (own : List (Str × Nat)) (ge : Expr) (ce : Env) (it : Addr) (fp : List Addr) (tn : Nat → Heap → Prop) (H : Hp) (s4 : Shared) (a : Addr) (ob : Obj) (g : Nat) (s : Shared) : Prop where
  before : Inv X pins σ H s4
  inv : ∀ B : Around, B.handled = none → B.frames = some (ce :: X.stack) → Inv (gblk X s4 H ce fp B [(a, ob)]) [] (wipe σ (own.map (·.2))) H s
  gen : ∀ h : Heap, h.get? a = some ob → h.IsGen a g
  at_ : s.heap.get? a = some ob
  fresh : s.gens[g]? = some (.fresh (.compStart ge 0 (.ref it) .none ce))
  tn : tn 0 s.heap
  nf : ∀ b ∈ fp, H b = none
  fpk : ∀ b ∈ fp, FpOk X pins H b ∧ b < s4.heap.objs.size
  low : s4.heap.objs.size < a
theorem gen_made {X : Cx} {pins : List (Addr × Obj)} {σ : L2.St} {H : Hp} {s : Shared} {elt tg iter : Expr} {ifs : List Expr} {scope : Scope} {gpos : Pos} {own : List (Str × Nat)} {c p : Addr} {wi : TI} {R : It → Hp → Prop} {Q' : Value → Shared → Prop}
    (hc : X.calm = true) (hN : X.N.Nodup) (hd : X.A.depth < recursionLimit) (tb : Tbd X c p) (I : Inv X pins σ H s) (hi : PI X tg iter wi) (ok : GNames X.N X.env.scope scope own) (hs : ∀ x, genFold iter X.env x = pure x) (h : wi σ H fun J H1 => H1 p = some (tblO p) ∧ R J H1)
    (hQ : ∀ (code : Value) (C it a : Addr) (g : Nat) (fp : List Addr) (tn : Nat → Heap → Prop) (J : It) (H1 : Hp) (s4 s5 : Shared) (ob : Obj), R J H1 → Turn X.prog X.w X.K tg J fp it tn →
      GMde X pins σ own (.GeneratorExp elt [⟨tg, iter, ifs, 0⟩] scope gpos) (genEnv scope (cloFrom X.env.cells scope.names []) C code builtinsNs X.env) it fp tn H1 s4 a ob g s5 → Q' (.ref a) s5) :
    wpAny (model X.prog X.w) X.A (eval (.GeneratorExp elt [⟨tg, iter, ifs, 0⟩] scope gpos) X.env) Q' X.xe s := by
  have hfree : ∀ y ∈ scope.names, y.2 = .free → ∃ c, X.env.cells.lookup y.1 = some c := fun y hy e => by
    rcases ok.blk.free y hy e with k | k
    · exact I.ok.has _ (.inl k)
    · exact I.ok.has _ (.inr k)
  refine wpAny_GeneratorExp_make ok.co (closure_ok hfree) ok.nocell ok.dot ok.blk.kind hd (thn (hi.run pins s σ H _ I h) fun xv s1 hx => thn hx fun itv s2 h2 => ?_) hs
  obtain ⟨it, fp, tn, J, H2, rfl, I2, T, st2, f2, hP, r2⟩ := h2
  refine ⟨I2.nolimit, ?_⟩
  obtain ⟨ps, eP, tr⟩ : tblP p s2.heap := by
    have := I2.hok p _ hP
    exact this.1
  have sz : ∀ b ∈ fp, b < s2.heap.objs.size := fun b hb => by
    obtain ⟨o, e, _⟩ := T.obj _ _ st2 b hb
    exact Heap.lt_size e
  have np : ∀ b ∈ fp, b ≠ p := fun b hb z => by
    have := (f2 b hb).1
    rw [z, hP] at this
    cases this
  have cd : PySem.W.CodeHd s2.heap c p := tb.tab.code.keeps I2.bk
  -- behind the code
  have rest : ∀ (code : Value) (h3 : Heap) (tk : Nat), (∀ b o, b ≠ p → s2.heap.get? b = some o → h3.get? b = some o) → tblP p h3 → wpAny (model X.prog X.w) X.A (builtinsFor X.env.globals X.env.builtins) (fun bi s₄ =>
        ∀ h', h'.Ns s₄.heap.objs.size (fun y => if y = ".0" then some (.ref it) else none) → Heap.SameBut s₄.heap.objs.size (s₄.heap.push { cls := .type "frame", data := .dict #[] }) h' →
          Q' (.ref h'.objs.size) { s₄ with
            gens := s₄.gens.push (.fresh (.compStart (.GeneratorExp elt [⟨tg, iter, ifs, 0⟩] scope gpos) 0 (.ref it) .none (genEnv scope (cloFrom X.env.cells scope.names []) s₄.heap.objs.size code bi X.env))),
            toks := s₄.toks + 1 + 1 + 1,
            heap := h'.push { cls := .type "generator", data := .fields #[.int s₄.gens.size 0, .str "<genexpr>" (s₄.toks + 1), .str (X.env.qual ++ "<genexpr>") (s₄.toks + 1 + 1)] } }) X.xe { s2 with heap := h3, toks := tk } := by
    intro code h3 tk kb tp
    have I3 : Inv X pins σ H2 { s2 with heap := h3, toks := tk } := inv_tbl (g' := s2.gens) (d' := s2.drawn) I2 hP kb tp I2.bare
    obtain ⟨bm, ob, b1, b2, b3, b4, b5, b6, b7, b8⟩ := tb.tab.bm
    refine wpAny_builtinsFor (m := X.mg) (by rw [I.ok.glob]; exact I3.ok.mod.glob.keeps I3.bk) b1 b2 (I3.bk _ _ b5) b6 b7 b8 fun h' hn hs' => ?_
    have szh : h'.objs.size = h3.objs.size + 1 := by
      have := hs'.1
      rw [this]
      exact Heap.size_push ..
    have k1 : ∀ b o, h3.get? b = some o → h'.get? b = some o := fun b o e => hs'.extBut b o (Nat.ne_of_lt (Heap.lt_size e)) (Heap.get?_push_of_some _ e)
    generalize hob : ({ cls := .type "generator", data := .fields #[.int s2.gens.size 0, .str "<genexpr>" (tk + 1), .str (X.env.qual ++ "<genexpr>") (tk + 1 + 1)] } : Obj) = gob
    have k2 : ∀ b o, h3.get? b = some o → (h'.push gob).get? b = some o := fun b o e => Heap.get?_push_of_some _ (k1 b o e)
    have gat : (h'.push gob).get? h'.objs.size = some gob := by rw [← hob]; exact Heap.get?_push_size _ rfl
    have gis : ∀ h : Heap, h.get? h'.objs.size = some gob → h.IsGen h'.objs.size s2.gens.size := fun h e => ⟨gob, _, _, e, by rw [← hob], by rw [← hob], by rw [← hob]⟩
    have it3 : ∀ b ∈ fp, ∀ o, s2.heap.get? b = some o → (h'.push gob).get? b = some o := fun b hb o e => k2 b o (kb b o (np b hb) e)
    have fpk : ∀ b ∈ fp, FpOk X pins H2 b ∧ b < h3.objs.size := fun b hb => ⟨f2 b hb, by
      obtain ⟨o, e, _⟩ := T.obj _ _ st2 b hb
      exact Heap.lt_size (kb b o (np b hb) e)⟩
    have main := hQ code h3.objs.size it h'.objs.size s2.gens.size fp tn J H2 { s2 with heap := h3, toks := tk }
      { s2 with gens := s2.gens.push (.fresh (.compStart (.GeneratorExp elt [⟨tg, iter, ifs, 0⟩] scope gpos) 0 (.ref it) .none (genEnv scope (cloFrom X.env.cells scope.names []) h3.objs.size code builtinsNs X.env))), toks := tk + 1 + 1 + 1, heap := h'.push gob } gob r2 T
    refine main ⟨I3, fun B hB hF => ?_, gis, gat, Array.getElem?_push_size .., T.keep _ _ _ st2 it3, fun b hb => (f2 b hb).1, fpk, by show h3.objs.size < h'.objs.size; omega⟩
    refine ginv I3 ok hN fpk rfl rfl I.ok.glob rfl rfl rfl hB hF k2 (hn.push gob) rfl (AllBare.push I2.bare rfl) fun q hq => ?_
    obtain rfl : q = (h'.objs.size, gob) := by simpa using hq
    exact ⟨gat, by show h3.objs.size < h'.objs.size; omega, fun v z => by rw [← hob] at z; cases z⟩
  cases hf : codeAmong gpos ps.toList with
  | none =>
    refine wpAny_genexprCodeX tb.code (cd.code eP tr) (cd.tab eP) hf fun c' h' tk hx _ _ hco' _ ht' _ => ?_
    obtain ⟨_, _, _, _, _, _, _, _, _, _, _, _, _, _, _, _, _, _, _, htr, _⟩ := hco'
    exact rest _ h' tk hx ⟨_, ht'.2, htr⟩
  | some cv =>
    refine wpAny_genexprCode_hit tb.code (cd.code eP tr) hf ?_
    exact rest cv s2.heap s2.toks (fun _ _ _ e => e) ⟨ps, eP, tr⟩
end PG
end
section
set_option Elab.async false
set_option linter.all false
set_option maxRecDepth 100000
set_option maxHeartbeats 1000000
namespace PG
open PySem PySem.Spec PyProof.Rows L2 GenW GxR
/-! ### all, any of a generator expression -/
theorem gen_start {P : Program} {w : World} {K : PySem.W.Frag} {B0 : Around} {R : GenEnd} {Yp : Protocol} {n : Nat} {s₀ s : Shared} {elt tg iter : Expr} {ifs : List Expr} {scope : Scope} {gpos : Pos} {it : Addr} {ce : Env} {fp : List Addr} {tn : Nat → Heap → Prop} {J : It} (T : Turn P w K tg J fp it tn) (st : tn 0 s.heap)
    (loop : Seg (model P w) B0 R Yp n s₀ (.compLoop (.GeneratorExp elt [⟨tg, iter, ifs, 0⟩] scope gpos) 0 (.ref it) .none ce) ((model P w).den (.compLoop (.GeneratorExp elt [⟨tg, iter, ifs, 0⟩] scope gpos) 0 (.ref it) .none ce)) [] s) :
    Seg (model P w) B0 R Yp n s₀ (.compStart (.GeneratorExp elt [⟨tg, iter, ifs, 0⟩] scope gpos) 0 (.ref it) .none ce) ((model P w).den (.compStart (.GeneratorExp elt [⟨tg, iter, ifs, 0⟩] scope gpos) 0 (.ref it) .none ce)) [] s := by
  show Seg _ B0 _ _ n s₀ _ ((compStart (.GeneratorExp elt [⟨tg, iter, ifs, 0⟩] scope gpos) 0 (.ref it) .none ce).onRaise (leaving ce)) [] s
  unfold compStart
  rw [Sem.onRaise_eq_wrap]
  show Seg _ B0 _ _ n s₀ _ ((ask >>= _).wrap _ _ _ _) [] s
  refine seg_bind_wrap (wpAny_askSetting ?_)
  split
  · exact seg_again rfl loop
  · refine seg_bind_wrap (wpAny_rule ?_)
    show Seg _ B0 _ _ n s₀ _ ((standAt iter.pos >>= _).wrap _ _ _ _) [] s
    refine seg_bind_wrap (wpAny_standAt (seg_bind_wrap ?_))
    exact T.self _ 0 s _ _ st (seg_again rfl loop)
/-- the generator waits to be asked -/
structure Waits {κ : Type} (P : Program) (w : World) (B0 : Around) (Y : Cx) (σ0 : L2.St) (po : κ → List (Addr × Obj)) (Ss : List Addr) (Fin : κ → Hp → Prop) (Got : κ → V → Hp → (κ → Hp → Prop) → Prop) (a : Addr) (g n : Nat) (s : Shared) : Prop where
  gen : s.heap.IsGen a g
  nolimit : s.heap.NoLimit
  goes : ∃ gs, s.gens[g]? = some gs ∧ gs.Goes (model P w) B0 (GRe Y σ0 po Fin) (GYp Y σ0 po Ss Got) n (.send .none) (s.setGen g .running)
theorem waits_next {κ : Type} {Y : Cx} {σ0 : L2.St} {po : κ → List (Addr × Obj)} {Ss : List Addr} {Fin : κ → Hp → Prop} {Got : κ → V → Hp → (κ → Hp → Prop) → Prop} {a : Addr} {g n : Nat} {s : Shared} {A : Around} {ob : Obj} {E : Value → Shared → Prop} {Q : Option Value → Shared → Prop}
    (hh : A.handled = none) (hd : A.depth < recursionLimit) (hpn : Y.pn = [(a, ob)]) (hg : ∀ h : Heap, h.get? a = some ob → h.IsGen a g) {fp : List Addr} (as : Aside Y fp po Ss) (hSs : a ∉ Ss) (w : Waits Y.prog Y.w A.in1 Y σ0 po Ss Fin Got a g n s)
    (hend : ∀ k H s1, Inv Y (po k) σ0 H s1 → Fin k H → Q none s1)
    (hitem : ∀ k y v H (Nx : κ → Hp → Prop) s1, RelV y v → Inv Y (po k) σ0 H s1 → Got k y H Nx → (∀ k' s2, Woke po Ss k' s1 s2 → s1.gens.size ≤ s2.gens.size → s2.gens[g]? = s1.gens[g]? → Nx k' H → ∃ m, m < n ∧ Waits Y.prog Y.w A.in1 Y σ0 po Ss Fin Got a g m s2) → Q (some v) s1) :
    wpAny (model Y.prog Y.w) A (pyNext (.ref a)) Q E s := by
  obtain ⟨w1, w2, gs, w3, w4⟩ := w
  have lt : g + 1 ≤ s.gens.size := (Array.getElem?_eq_some_iff.mp w3).1
  refine wpAny_gsz lt (next_genG (F := fun _ _ s1 => ∃ k H, Inv Y (po k) σ0 H s1 ∧ Fin k H) (Er := fun _ _ => False) hh w2 hd w1 w3 w4 (fun v s1 gs' hb hv => ?_) (fun s1 hp h' hk => ?_) fun e s1 he => he.elim)
  · intro gz
    obtain ⟨k, y, H, Nx, ry, I, got, kap⟩ := hv
    have gl : g < s1.gens.size := by
      have q : (s1.setGen g gs').gens.size = s1.gens.size := setGen_size _ _ _
      have gz' : g + 1 ≤ (s1.setGen g gs').gens.size := gz
      omega
    refine hitem k y v H Nx _ ry (inv_setGen I hb) got fun k' s2 wk hsz hgen nx => ?_
    cases n with
    | zero =>
      refine (kap k' s2 ⟨wk.os, wk.bare, wk.keep, wk.own⟩ nx).elim
    | succ m =>
      have at_ : s2.heap.get? a = some ob := wk.keep a ob hSs (I.pin (a, ob) (by rw [hpn]; simp)).1
      refine ⟨m, Nat.lt_succ_self _, hg _ at_, ?_, gs', ?_, ?_⟩
      · obtain ⟨mc, q1, q2⟩ := I.ok.mod.nolimit
        have bk : ∀ b o, Y.base.get? b = some o → s2.heap.get? b = some o := fun b o e => wk.keep b o (fun z => ?_) (I.bk b o e)
        · exact (I.ok.mod.nolimit).keeps bk
        · exact absurd (Nat.lt_of_lt_of_le (Heap.lt_size e) (Nat.le_trans I.ok.bsz (as.young b z))) (Nat.lt_irrefl _)
      · rw [hgen]
        exact setGen_at gl
      · exact kap k' _ ⟨wk.os, allBare_setGen wk.bare rfl, wk.keep, wk.own⟩ nx
  · intro _
    obtain ⟨k, H, I, fin⟩ := hp
    have J : Inv Y (po k) σ0 H (s1.setGen g .finished) := inv_setGen I rfl
    exact hend k H _ (J.kept (t' := (s1.setGen g .finished).toks) hk) fin
abbrev nopo : Unit → List (Addr × Obj) := fun _ => []
/-- all: at each item that is true, on; at one that is not, over -/
abbrev gotAll (Qf : Hp → Prop) : Unit → V → Hp → (Unit → Hp → Prop) → Prop := fun _ y H Nx => (y = .bl true ∧ Nx () H) ∨ (y = .bl false ∧ Qf H)
abbrev gotAny (Qt : Hp → Prop) : Unit → V → Hp → (Unit → Hp → Prop) → Prop := fun _ y H Nx => (y = .bl false ∧ Nx () H) ∨ (y = .bl true ∧ Qt H)
theorem woke_refl {s : Shared} (h : AllBare s.gens) : Woke nopo [] () s s := ⟨rfl, h, fun _ _ _ e => e, fun _ hp => nomatch hp⟩
theorem aside_none {Y : Cx} {fp : List Addr} : Aside Y fp nopo [] := ⟨fun _ => rfl, (fun _ _ hp => nomatch hp), (fun _ hb => nomatch hb), (fun _ hb => nomatch hb), (fun _ hb => nomatch hb), (fun _ hb => nomatch hb), (fun _ hb => nomatch hb)⟩
section
variable {Y : Cx} {σ0 : L2.St} {Fin : Unit → Hp → Prop} {Qx : Hp → Prop} {a : Addr} {g : Nat} {A : Around} {ob : Obj} {R : Result → Shared → Prop}
theorem all_drain (hh : A.handled = none) (hd : A.depth < recursionLimit) (hpn : Y.pn = [(a, ob)]) (hg : ∀ h : Heap, h.get? a = some ob → h.IsGen a g)
    (hend : ∀ H s, Inv Y [] σ0 H s → Fin () H → R (.ok (.ret (.bool true))) s) (hout : ∀ H s, Inv Y [] σ0 H s → Qx H → R (.ok (.ret (.bool false))) s) :
    ∀ (n : Nat) (s : Shared), Waits Y.prog Y.w A.in1.in1 Y σ0 nopo [] Fin (gotAll Qx) a g n s → codeAny (model Y.prog Y.w) A (.builtin "all.loop" ⟨[.ref a], []⟩) R s := by
  intro n
  induction n using Nat.strongRecOn with
  | ind n ih =>
    intro s w
    refine codeAny_builtin F.entry_all_loop ?_
    rw [Around.under_plainId F.plain_all_loop _]
    show wpAny _ A.in1 (pyNext (.ref a) >>= _) _ _ s
    refine wpAny_bind (waits_next (A := A.in1) (fp := []) hh hd hpn hg aside_none (fun z => nomatch z) w (fun _ H s1 I fin => ?_) fun _ y v H Nx s1 ry I got more => ?_)
    · exact wpAny_bind (wpAny_rule (wpAny_pure (hend H s1 I fin)))
    · rcases got with ⟨rfl, nx⟩ | ⟨rfl, q⟩
      · obtain rfl : v = Value.bool true := ry
        refine wpAny_bind (wpAny_holding (wpAny_truthy_bool (wpAny_bind (wpAny_letGo ?_))))
        obtain ⟨m, hm, w'⟩ := more () s1 (woke_refl I.bare) (Nat.le_refl _) rfl nx
        rw [if_pos rfl]
        exact wpAny_pure ⟨plainId_quiet F.plain_all_loop _, ih m hm s1 w'⟩
      · obtain rfl : v = Value.bool false := ry
        refine wpAny_bind (wpAny_holding (wpAny_truthy_bool (wpAny_bind (wpAny_letGo ?_))))
        rw [if_neg Bool.false_ne_true]
        exact wpAny_bind (wpAny_rule (wpAny_pure (hout H s1 I q)))
end
/-- what is asked of the parts, in whatever frame they run -/
structure GParts (X : Cx) (j : Nat) (elt tg : Expr) (ifs : List Expr) (scope : Scope) (g : TG) (tt : TT) (te : TE) : Prop where
  tg : ∀ (s : Shared) (H : Hp) (C : Addr) (cl : List (Str × Addr)) (code : Value) (fp : List Addr) (B : Around) (pn : List (Addr × Obj)), Room j B → PG (gblk X s H (genEnv scope cl C code builtinsNs X.env) fp B pn) tg g
  ifs : ∀ (s : Shared) (H : Hp) (C : Addr) (cl : List (Str × Addr)) (code : Value) (fp : List Addr) (B : Around) (pn : List (Addr × Obj)), Room j B → PTs (gblk X s H (genEnv scope cl C code builtinsNs X.env) fp B pn) ifs tt
  elt : ∀ (s : Shared) (H : Hp) (C : Addr) (cl : List (Str × Addr)) (code : Value) (fp : List Addr) (B : Around) (pn : List (Addr × Obj)), Room j B → PE (gblk X s H (genEnv scope cl C code builtinsNs X.env) fp B pn) elt te
/-- the reading: W by the turn and a measure -/
def tGen (wi : TI) (p : Addr) (g : TG) (tt : TT) (te : TE) (vs : List Nat) (Fin : Hp → Prop) (Got : Unit → V → Hp → (Unit → Hp → Prop) → Prop) : L2.St → Hp → Prop := fun σ H => wi σ H fun J H1 => H1 p = some (tblO p) ∧
  ∃ W : Nat → Nat → Hp → Prop, (∃ m, W 0 m H1) ∧ GTurn (κ := Unit) J g tt te vs (wipe σ vs) (fun _ => W) (fun _ => Fin) Got
theorem wipe_wipe (σ : L2.St) (vs : List Nat) : wipe (wipe σ vs) vs = wipe σ vs := by
  apply List.ext_getElem?
  intro j
  rw [wipe_get, wipe_length]
  by_cases h : j ∈ vs ∧ j < σ.length
  · rw [if_pos h, wipe_get, if_pos h]
  · rw [if_neg h]
theorem gen_over {A : Around} {elt : Expr} {gs : List Comprehension} {scope : Scope} {pos : Pos} {it : Addr} {ce : Env} : A.over (.compLoop (.GeneratorExp elt gs scope pos) 0 (.ref it) .none ce) [] = A.deeper ce := by
  first
    | rfl
    | (simp [Around.over, Around.deeper, marksOver, frameCount, unitsOf, envsOf, guardsOf, pushEnvs, pushGuards, Code.envs, Code.env?, Code.isFrame, Code.guards, Code.isGuard, Code.weight, Code.frames, Code.isCreation, Code.isCaller, Code.cUnits])
/-- the frame's room -/
theorem gen_room {j : Nat} {A : Around} {ce : Env} (hr : Room (j + 1) A) : Room j (A.in1.in1.deeper ce) := by
  refine ⟨hr.hd, ?_, ?_⟩
  · have := hr.dp
    show A.depth + 1 + 3 * j + 5 < _
    omega
  · have := hr.un
    show A.units + 1 + 1 + 3 + 16 * j + 200 < _
    omega
theorem gen_frames {A : Around} {ce : Env} {st : List Env} (h : A.frames = some st) : (A.in1.in1.deeper ce).frames = some (ce :: st) := Around.frames_deeper (A := A.in1.in1) h
section
variable {X : Cx} {pins : List (Addr × Obj)} {σ : L2.St} {H : Hp} {s : Shared} {own : List (Str × Nat)} {ge : Expr} {ce : Env} {it : Addr} {fp : List Addr} {tn : Nat → Heap → Prop} {H1 H' : Hp} {s4 s5 s' : Shared} {a : Addr} {ob : Obj} {gi : Nat} {B : Around} {σ' : L2.St}
/-- back in the def's frame -/
theorem GMde.back (M : GMde X pins σ own ge ce it fp tn H1 s4 a ob gi s5) {ps : List (Addr × Obj)} (I : Inv (gblk X s4 H1 ce fp B [(a, ob)]) ps σ' H' s') : Inv X pins σ H' s' :=
  M.before.call' (ch := fp) I.os I.base I.hok I.bare fun b hb => by
    obtain ⟨_, f1, _, f3, f4, f5⟩ := (M.fpk b hb).1
    exact ⟨f3, f1, f4, f5⟩
end
section
variable {X : Cx} {elt tg iter : Expr} {ifs : List Expr} {scope : Scope} {gpos p1 pos : Pos} {own : List (Str × Nat)} {c p : Addr} {wi : TI} {g : TG} {tt : TT} {te : TE} {j : Nat}
/-- made and waiting -/
theorem gen_waits {pins : List (Addr × Obj)} {σ : L2.St} {H1 : Hp} {s4 s5 : Shared} {ce : Env} {it a : Addr} {fp : List Addr} {tn : Nat → Heap → Prop} {J : It} {ob : Obj} {gi : Nat} {κ : Type} {po : κ → List (Addr × Obj)} {Ss : List Addr} {W : κ → Nat → Nat → Hp → Prop} {Fin : κ → Hp → Prop} {Got : κ → V → Hp → (κ → Hp → Prop) → Prop} {k0 : κ} {m0 : Nat} {s6 : Shared}
    (hr : Room (j + 1) X.A) (hc : X.calm = true) (ok : GNames X.N X.env.scope scope own) (hfr : X.A.frames = some X.stack) (hce : ce.scope = scope) (T : Turn X.prog X.w X.K tg J fp it tn) (M : GMde X pins σ own (.GeneratorExp elt [⟨tg, iter, ifs, 0⟩] scope gpos) ce it fp tn H1 s4 a ob gi s5)
    (pg : PG (gblk X s4 H1 ce fp (X.A.in1.in1.deeper ce) [(a, ob)]) tg g) (pt : PTs (gblk X s4 H1 ce fp (X.A.in1.in1.deeper ce) [(a, ob)]) ifs tt) (pe : PE (gblk X s4 H1 ce fp (X.A.in1.in1.deeper ce) [(a, ob)]) elt te)
    (turn : GTurn J g tt te (own.map (·.2)) (wipe σ (own.map (·.2))) W Fin Got) (w0 : W k0 0 m0 H1) (as : Aside (gblk X s4 H1 ce fp (X.A.in1.in1.deeper ce) [(a, ob)]) fp po Ss) (I6 : Inv (gblk X s4 H1 ce fp (X.A.in1.in1.deeper ce) [(a, ob)]) (po k0) (wipe σ (own.map (·.2))) H1 s6) (kp : ∀ b o, s5.heap.get? b = some o → s6.heap.get? b = some o) (hgz : s6.gens = s5.gens) :
    Waits X.prog X.w X.A.in1.in1 (gblk X s4 H1 ce fp (X.A.in1.in1.deeper ce) [(a, ob)]) (wipe σ (own.map (·.2))) po Ss Fin Got a gi m0 s6 := by
  have st6 : tn 0 s6.heap := T.keep _ _ _ M.tn fun b _ o e => kp b o e
  refine ⟨M.gen _ (kp a ob M.at_), I6.nolimit, .fresh (.compStart (.GeneratorExp elt [⟨tg, iter, ifs, 0⟩] scope gpos) 0 (.ref it) .none ce), by rw [hgz]; exact M.fresh, rfl, ?_⟩
  refine gen_start (P := X.prog) (w := X.w) T st6 ?_
  exact gen_loop (Y := gblk X s4 H1 ce fp (X.A.in1.in1.deeper ce) [(a, ob)]) (B0 := X.A.in1.in1) gen_over hc (by show ce.scope.isCoroutine = false; rw [hce]; exact ok.co) rfl T rfl (wipe_wipe _ _) pg pt pe turn as (fun q hq => by
    obtain rfl : q = (a, ob) := by simpa using hq
    exact fun z => Nat.lt_irrefl _ (Nat.lt_trans M.low (M.fpk a z).2)) m0 m0 k0 0 H1 _ _ (Nat.le_refl _) (inv_setGen I6 rfl) st6 M.nf w0
theorem pe_all (hr : Room (j + 1) X.A) (hc : X.calm = true) (hN : X.N.Nodup) (hg : Gl X "all") (hm : X.mg "all" = none) (tb : Tbd X c p) (hi : PI X tg iter wi) (ok : GNames X.N X.env.scope scope own) (parts : GParts X j elt tg ifs scope g tt te) (hb : bootBuiltins "all" = some (.builtin "all")) (hs : ∀ x, genFold iter X.env x = pure x := by intro _; rfl)
    (he : starEach [.GeneratorExp elt [⟨tg, iter, ifs, 0⟩] scope gpos] X.env = (false, eval (.GeneratorExp elt [⟨tg, iter, ifs, 0⟩] scope gpos) X.env) :: starEach [] X.env := by rfl) :
    PE X (.Call (.Name "all" p1) [.GeneratorExp elt [⟨tg, iter, ifs, 0⟩] scope gpos] [] pos) (fun σ H Q => tGen wi p g tt te (own.map (·.2)) (Q (.bl true)) (gotAll (Q (.bl false))) σ H) := by
  refine ⟨fun pins s σ H Q I h => ?_⟩
  refine wpAny_Call_Name_kw (ld_blt I hg hm hb ?_)
  refine PyProof.Rows.callWith_builtin1 ?_ he (by rfl)
  rw [he]
  show wpAny _ _ (spliced ((false, eval (.GeneratorExp elt [⟨tg, iter, ifs, 0⟩] scope gpos) X.env) :: backTo pos (starEach [] X.env))) _ _ s
  refine Calls.spliced_cons (gen_made hc hN (by have := hr.dp; omega) tb I hi ok hs h fun code C it a gi fp tn J H1 s4 s5 ob r T M => ?_)
  obtain ⟨W, ⟨m0, w0⟩, turn⟩ := r
  refine Calls.spliced_nil ?_
  refine call_function_tree F.kind_all F.plain_all F.entry_all (F.args_all1 _) ?_
  unfold Builtin.«all»
  refine wpAny_bind (m := oneArg "all" _) (wpAny_pure (wpAny_bind (wpAny_pyIter_gen (M.gen _ M.at_) ?_)))
  have hf := I.ok.frames
  have wt := gen_waits (po := nopo) (Ss := []) hr hc ok hf rfl T M (parts.tg _ _ _ _ _ _ _ _ (gen_room hr)) (parts.ifs _ _ _ _ _ _ _ _ (gen_room hr)) (parts.elt _ _ _ _ _ _ _ _ (gen_room hr)) turn (k0 := ()) w0 aside_none (M.inv _ hr.hd (gen_frames hf)) (fun _ _ e => e) rfl
  refine wpAny_pure ⟨plainId_quiet F.plain_all_loop _, all_drain (A := X.A) (Y := gblk X s4 H1 (genEnv scope (cloFrom X.env.cells scope.names []) C code builtinsNs X.env) fp (X.A.in1.in1.deeper (genEnv scope (cloFrom X.env.cells scope.names []) C code builtinsNs X.env)) [(a, ob)]) hr.hd (by have := hr.dp; omega) rfl M.gen (fun H' s' J' q => ?_) (fun H' s' J' q => ?_) m0 s5 wt⟩
  · exact ⟨.bl true, H', M.back J', rfl, q⟩
  · exact ⟨.bl false, H', M.back J', rfl, q⟩
end
end PG
end
section
set_option Elab.async false
set_option linter.all false
set_option maxRecDepth 100000
set_option maxHeartbeats 1000000
namespace PG
open PySem PySem.Spec PyProof.Rows L2 GenW GxR
/-! ### all, any of a generator expression, on data -/
/-- stop: the item at which it is over (all: False) -/
def genL (stop : Bool) (G : GF) (t : TF) (e : EF) (vs : List Nat) : List PyData → Rho → Option (Bool × Rho)
  | [], ρ => some (!stop, ρ)
  | d :: ds, ρ => match G d ρ with
    | none => none
    | some ρ1 => match t ρ1 with
      | none => none
      | some (false, ρ2) => if plainAt ρ2 vs then genL stop G t e vs ds (wipeR ρ2 vs) else none
      | some (true, ρ2) => match e ρ2 with
        | some (.bool b, ρ3) => if plainAt ρ3 vs then (if b = stop then some (stop, wipeR ρ3 vs) else genL stop G t e vs ds (wipeR ρ3 vs)) else none
        | _ => none
def eGen (stop : Bool) (it : NF) (G : GF) (t : TF) (e : EF) (vs : List Nat) : EF := fun ρ => match it ρ with
  | some (ds, ρ1) => if plainAt ρ1 vs then (match genL stop G t e vs ds (wipeR ρ1 vs) with
    | some (b, ρ2) => some (.bool b, restR ρ1 ρ2 vs)
    | none => none) else none
  | none => none
/-- what it is asked at an item -/
abbrev gotB (stop : Bool) (Qx : Hp → Prop) : Unit → V → Hp → (Unit → Hp → Prop) → Prop := fun _ y H Nx => (y = .bl (!stop) ∧ Nx () H) ∨ (y = .bl stop ∧ Qx H)
theorem rd_gen {stop : Bool} {K : PySem.W.Frag} {it : NF} {G : GF} {tf : TF} {f : EF} {is vs : List Nat} {p cc : Addr} {x : Str} (hx : x ∈ tabNames) (hp : PySem.W.tabIn K x = some (cc, p)) (his : ∀ j ∈ is, j ∈ vs) :
    ∀ σ H Q, tE K (eGen stop it G tf f vs) σ H Q → tGen (tI K it) p (tG K G is) (tT K tf) (tE K f) vs (Q (.bl (!stop))) (gotB stop (Q (.bl stop))) σ H := fun σ H Q ⟨c, ρ, d, ρ', R, e, q⟩ => by
  unfold eGen at e
  split at e
  · rename_i ds0 ρ1 h1
    split at e
    · rename_i hpl
      split at e
      · rename_i out ρ2 h2
        obtain ⟨e1, e2⟩ := so e
        subst e1 e2
        refine ⟨c, ρ, ds0, ρ1, R, h1, fun J H1 R1 m1 jo => ⟨R1.ts.1 x hx cc p hp, ?_⟩⟩
        obtain ⟨Rw, mw⟩ := R1.wipe hpl
        -- the end: from the generator's slots back to the def's
        have fin : ∀ (ρi : Rho) (Hi : Hp), plainAt ρi vs = true → Rel K c ρi (wipe σ vs) Hi → Mv (Av c ρ1 σ) H1 (Av c ρi (wipe σ vs)) Hi → ρ2 = ρi → Q (.bl out) Hi := fun ρi Hi hpi Ri mi er => by
          subst er
          obtain ⟨Rr, own⟩ := R1.rest Ri mi hpl hpi
          have mo : Mv (Av c ρ2 (wipe σ vs)) Hi (Av c (restR ρ1 ρ2 vs) σ) Hi := mvX fun b o eb nb => ⟨eb, fun z => nb (z.elim .inl fun y => .inr ((own b).mp y))⟩
          exact q (.bl out) Hi Rr (.bl out) (m1.trans (mi.trans mo))
        refine ⟨fun i m Hi => m = ds0.length - i ∧ i ≤ ds0.length ∧ ∃ ρi, plainAt ρi vs = true ∧ Rel K c ρi (wipe σ vs) Hi ∧ Mv (Av c ρ1 σ) H1 (Av c ρi (wipe σ vs)) Hi ∧ genL stop G tf f vs (ds0.drop i) ρi = some (out, ρ2),
          ⟨ds0.length, by simp, Nat.zero_le _, wipeR ρ1 vs, plain_wipe hpl, Rw, mw, h2⟩, ?_⟩
        rintro _ i m Hi ⟨rfl, hi, ρi, hpi, Ri, mi, ei⟩
        obtain ⟨jg, js⟩ := jo _ _ _ Hi mi
        cases hd : ds0.drop i with
        | nil =>
          rw [hd] at ei
          unfold genL at ei
          obtain ⟨e1, e2⟩ := so ei
          have hz : i = ds0.length := by
            have := congrArg List.length hd
            rw [List.length_drop, List.length_nil] at this
            omega
          subst hz
          rw [e1]
          exact .inl ⟨js, fin ρi Hi hpi Ri mi e2.symm⟩
        | cons d r =>
          obtain ⟨g1, g2⟩ := drop_cons hd
          rw [hd] at ei
          obtain ⟨k1, k2⟩ := jg i d g1
          have hlt := lt_of_get g1
          unfold genL at ei
          split at ei
          · cases ei
          · rename_i ρa ea
            refine .inr ⟨k1, by omega, fun _ H' => ds0.length - (i + 1) = ds0.length - (i + 1) ∧ i + 1 ≤ ds0.length ∧ ∃ ρi, plainAt ρi vs = true ∧ Rel K c ρi (wipe σ vs) H' ∧ Mv (Av c ρ1 σ) H1 (Av c ρi (wipe σ vs)) H' ∧ genL stop G tf f vs (ds0.drop (i + 1)) ρi = some (out, ρ2),
              fun _ H' z => ⟨ds0.length - (i + 1), by omega, z⟩, fun x H' y => ?_⟩
            obtain ⟨rfl, rx⟩ := k2 x H' y
            refine ⟨c, ρi, d, ρa, Ri, rx, ea, fun σ2 Ra ma hl hk => ?_⟩
            have hw : wipe σ2 vs = wipe σ vs := by
              apply List.ext_getElem?
              intro j
              rw [wipe_get, wipe_get, hl, wipe_length]
              by_cases hj : j ∈ vs
              · by_cases hj2 : j < σ.length
                · rw [if_pos ⟨hj, hj2⟩, if_pos ⟨hj, hj2⟩]
                · rw [if_neg fun z => hj2 z.2, if_neg fun z => hj2 z.2, List.getElem?_eq_none (by rw [hl, wipe_length]; omega), List.getElem?_eq_none (by omega)]
              · rw [if_neg fun z => hj z.1, if_neg fun z => hj z.1, hk j fun z => hj (his j z), wipe_get, if_neg fun z => hj z.1]
            refine ⟨hw, ?_⟩
            split at ei
            · cases ei
            · rename_i ρb eb
              split at ei
              · rename_i hpb
                refine ⟨c, ρa, false, ρb, Ra, eb, fun H3 R3 m3 => iteF ?_⟩
                obtain ⟨R4, m4⟩ := R3.wipe hpb
                rw [hw] at R4 m4
                exact ⟨rfl, hlt, wipeR ρb vs, plain_wipe hpb, R4, mi.trans (ma.trans (Mv.trans m3 m4)), by rw [g2]; exact ei⟩
              · cases ei
            · rename_i ρb eb
              split at ei
              · rename_i b ρc ec
                split at ei
                · rename_i hpc
                  refine ⟨c, ρa, true, ρb, Ra, eb, fun H3 R3 m3 => iteT ?_⟩
                  refine ⟨c, ρb, .bool b, ρc, R3, ec, fun v H4 R4 r4 m4 => ?_⟩
                  cases r4
                  obtain ⟨R5, m5⟩ := R4.wipe hpc
                  rw [hw] at R5 m5
                  have mm := mi.trans (ma.trans (Mv.trans m3 (Mv.trans m4 m5)))
                  split at ei
                  · rename_i hb
                    subst hb
                    obtain ⟨e1, e2⟩ := so ei
                    rw [e1]
                    exact .inr ⟨rfl, fin (wipeR ρc vs) H4 (plain_wipe hpc) R5 mm e2.symm⟩
                  · rename_i hb
                    refine .inl ⟨by cases b <;> cases stop <;> first | rfl | exact absurd rfl hb, rfl, hlt, wipeR ρc vs, plain_wipe hpc, R5, mm, by rw [g2]; exact ei⟩
                · cases ei
              · cases ei
      · cases e
    · cases e
  · cases e
section
variable {X : Cx} {elt tgt iter : Expr} {ifs : List Expr} {scope : Scope} {gpos p1 pos : Pos} {own : List (Str × Nat)} {c p : Addr} {j : Nat} {it : NF} {G : GF} {is : List Nat} {tf : TF} {f : EF} {x : Str}
/-- the parts, on data -/
structure GPartsD (X : Cx) (j : Nat) (elt tg : Expr) (ifs : List Expr) (scope : Scope) (G : GF) (is : List Nat) (tf : TF) (f : EF) : Prop where
  parts : ∀ (s : Shared) (H : Hp) (C : Addr) (cl : List (Str × Addr)) (code : Value) (fp : List Addr) (B : Around) (pn : List (Addr × Obj)), Room j B →
    PG (gblk X s H (genEnv scope cl C code builtinsNs X.env) fp B pn) tg (tG X.K G is) ∧ PTs (gblk X s H (genEnv scope cl C code builtinsNs X.env) fp B pn) ifs (tT X.K tf) ∧ PE (gblk X s H (genEnv scope cl C code builtinsNs X.env) fp B pn) elt (tE X.K f)
theorem GPartsD.to (h : GPartsD X j elt tgt ifs scope G is tf f) : GParts X j elt tgt ifs scope (tG X.K G is) (tT X.K tf) (tE X.K f) :=
  ⟨fun s H C cl code fp B pn r => (h.parts s H C cl code fp B pn r).1, fun s H C cl code fp B pn r => (h.parts s H C cl code fp B pn r).2.1, fun s H C cl code fp B pn r => (h.parts s H C cl code fp B pn r).2.2⟩
theorem ev_all (hr : Room (j + 1) X.A) (hc : X.calm = true) (hN : X.N.Nodup) (hg : Gl X "all") (hm : X.mg "all" = none) (hx : x ∈ tabNames) (hp : PySem.W.tabIn X.K x = some (c, p)) (tb : Tbd X c p) (hi : PI X tgt iter (tI X.K it)) (ok : GNames X.N X.env.scope scope own) (parts : GPartsD X j elt tgt ifs scope G is tf f)
    (his : ∀ j ∈ is, j ∈ own.map (·.2) := by decide) (hb : bootBuiltins "all" = some (.builtin "all") := by decide +kernel) (hs : ∀ x, genFold iter X.env x = pure x := by intro _; rfl)
    (he : starEach [.GeneratorExp elt [⟨tgt, iter, ifs, 0⟩] scope gpos] X.env = (false, eval (.GeneratorExp elt [⟨tgt, iter, ifs, 0⟩] scope gpos) X.env) :: starEach [] X.env := by rfl) :
    PE X (.Call (.Name "all" p1) [.GeneratorExp elt [⟨tgt, iter, ifs, 0⟩] scope gpos] [] pos) (tE X.K (eGen false it G tf f (own.map (·.2)))) :=
  pe_of (pe_all hr hc hN hg hm tb hi ok parts.to hb hs he) fun σ H Q h => rd_gen (stop := false) hx hp his σ H Q h
end
end PG
end
section
set_option Elab.async false
set_option linter.all false
set_option maxRecDepth 100000
set_option maxHeartbeats 1000000
namespace PG
open PySem PySem.Spec PyProof.Rows L2 GenW GxR
/-! ### defs that hold generator expressions; the law's call among tables -/
/-- no two of them share a table -/
def NsU (K : PySem.W.Frag) : Prop := ∀ x ∈ nestNames, ∀ y ∈ nestNames, ∀ cc cc2 p, PySem.W.tabIn K x.1 = some (cc, p) → PySem.W.tabIn K y.1 = some (cc2, p) → nmAt K x = nmAt K y
/-- what is known of every such def's code -/
def TbOk (K : PySem.W.Frag) (mg : Str → Option Value) (base : Heap) : Prop := (∀ x ∈ tabNames, ∀ cc p, PySem.W.tabIn K x = some (cc, p) → TabB base mg cc p) ∧ (∀ x ∈ nestNames, ∀ cc p, PySem.W.tabIn K x.1 = some (cc, p) → TabB base mg cc p) ∧ NsU K
/-- a def, its code object, its table -/
structure FunT (K : PySem.W.Frag) (x qual : Str) (st : Stmt) (f : Addr) (fd : FuncData) (cc p : Addr) : Prop where
  ex : ∃ (oc : Value) (od : Option Addr) (kV doc pm : Value) (an : Option Addr) (ct : Value) (osl : Array (Option Value)),
    fd = PySem.W.fnOf x qual (defArgs st) (defBody st) (defScope st) .none kV doc pm an (.ref cc) ct ∧ K.lookup f = some ⟨oc, od, .func fd, osl⟩ ∧ PySem.W.codeIn K (.ref cc) qual = true
  kp : PySem.W.keepIn K (.ref f) = true
  tab : PySem.W.tabIn K x = some (cc, p)
theorem tabIn_mk {K : PySem.W.Frag} {x qual : Str} {st : Stmt} {f cc p : Addr} {oc xe : Value} {od an xd : Option Addr} {osl xs : Array (Option Value)} {kV doc pm ct : Value} {xv : Array Value} (a : PySem.W.nsIn K mainGlobals x = some (some (.ref f))) (l : K.lookup f = some ⟨oc, od, .func (PySem.W.fnOf x qual (defArgs st) (defBody st) (defScope st) .none kV doc pm an (.ref cc) ct), osl⟩)
    (e : K.lookup cc = some ⟨xe, xd, .fields xv, xs⟩) (h : xv[11]? = some (.ref p)) : PySem.W.tabIn K x = some (cc, p) := by
  unfold PySem.W.tabIn
  rw [a]; dsimp only; rw [l]; dsimp only [PySem.W.fnOf]; rw [e]; dsimp only; rw [h]
theorem funT_mk {K : PySem.W.Frag} {x qual : Str} {st : Stmt} {f cc p : Addr} {oc : Value} {od an : Option Addr} {osl : Array (Option Value)} {kV doc pm ct : Value} (l : K.lookup f = some ⟨oc, od, .func (PySem.W.fnOf x qual (defArgs st) (defBody st) (defScope st) .none kV doc pm an (.ref cc) ct), osl⟩)
    (c : PySem.W.codeIn K (.ref cc) qual = true) (k : PySem.W.keepIn K (.ref f) = true) (t : PySem.W.tabIn K x = some (cc, p)) : FunT K x qual st f (PySem.W.fnOf x qual (defArgs st) (defBody st) (defScope st) .none kV doc pm an (.ref cc) ct) cc p :=
  ⟨⟨oc, od, kV, doc, pm, an, ct, osl, rfl, l, c⟩, k, t⟩
section
variable {P : Program} {w : World} {K : PySem.W.Frag} {mg : Str → Option Value} {base : Heap} {x qual : Str} {st : Stmt} {fa cc p : Addr} {fd : FuncData} {N ps : List Str} {j k m : Nat} {b : SF}
theorem FunT.fun (F : FunT K x qual st fa fd cc p) : L2.Fun K x qual st fa fd := by
  obtain ⟨⟨oc, od, kV, doc, pm, an, ct, osl, e, l, c⟩, k, t⟩ := F
  exact ⟨⟨oc, od, kV, doc, pm, an, .ref cc, ct, osl, e, l, c⟩, k⟩
theorem ok_PT (F : FunT K x qual st fa fd cc p) (hx : x ∈ tabNames) (TB : TbOk K mg base) (S : FnScope N ps (defScope st)) (hk : ps.length = k) (hm : k + m = N.length)
    (hb : ∀ (A : Around) (outer : List Env) (s : Shared) (H : Hp) (E : XK), Tbd (cxOf CX0 P w K mg base N qual (defScope st) fa (.ref cc) A outer s H E).nox cc p → Room j (A.deeper (envOfC qual (defScope st) s.heap.objs.size fa (.ref cc))) →
      PSs (cxOf CX0 P w K mg base N qual (defScope st) fa (.ref cc) A outer s H E).nox (defBody st) (tS K b)) :
    FnOk P w K mg base CX0 (j + 1) fa fd ps (spP K k (defP b k m)) := by
  obtain ⟨oc, od, kV, doc, pm, an, ct, osl, rfl, lk, hcd⟩ := F.ex
  refine fn_of lk hcd S (fun vs H Q E h => h.1.trans hk.symm) fun A outer s H vs Q E hr h => ?_
  obtain ⟨hl, ht, A', ds, r, ra, hA, e, q⟩ := h
  refine ⟨_, (hb A outer s H E ⟨rfl, TB.1 x hx cc p F.tab⟩ hr).nox, ?_⟩
  have R := rel_start (m := m) (N := N) ht ra hA (by omega)
  unfold defP at e
  split at e
  · cases eb : b (rho0 ds m) with
    | none => rw [eb] at e; cases e
    | some z =>
      obtain ⟨o, ρ'⟩ := z
      rw [eb] at e
      have kp : ∀ σ' H', Rel K ⟨A', H, fun _ => none, ht, fun _ _ z => nomatch z⟩ ρ' σ' H' → Kp K H H' := fun σ' H' R' => ⟨fun a o h => R'.old a o h fun i z => (nomatch z), R'.on, fun _ => R'.nt⟩
      refine ⟨_, rho0 ds m, o, ρ', R, eb, ?_⟩
      cases o with
      | next => cases e; exact fun σ' H' R' _ => q .non H' (kp σ' H' R') .non
      | brk => cases e
      | cont => cases e
      | ret d => cases e; exact fun v σ' H' R' r' => q v H' (kp σ' H' R') r'
      | retL ds => cases e; exact fun a vs σ' H' R' ha r' h0 => q (.ref a) H' (kp σ' H' R') (.lst ⟨ha, fun z => hA a z h0⟩ (r'.mv <| mvX fun b o e n => ⟨e, fun z => n (.inl z)⟩))
  · cases e
end
theorem FnOk.q {P : Program} {w : World} {K : PySem.W.Frag} {mg : Str → Option Value} {base : Heap} {k : Nat} {fa : Addr} {fd : FuncData} {ps : List Str} {sp : Sp} (F : FnOk P w K mg base CX0 k fa fd ps sp) : FnQ P w K mg base k fa fd ps sp :=
  ⟨F.len, fun B up s H ar us vs Q E _ => F.run B up s H ar us vs Q E⟩
/-- what is asked of the program for the tables -/
def tabsOk (K : PySem.W.Frag) (q : Program) : Bool := ((tabNames ++ nestNames.map (·.1)).all fun x => match PySem.W.tabIn K x with
  | none => true
  | some (_, p) => ((recsOf q).any fun d => d.name == x) && (K.lookup p).isNone) && (tabNames.all fun x => match PySem.W.tabIn K x with
  | none => true
  | some (_, p) => nestNames.all fun y => match PySem.W.tabIn K y.1 with
    | none => true
    | some (_, p2) => p != p2) && nestNames.all fun x => match PySem.W.tabIn K x.1 with
  | none => true
  | some (_, p) => nestNames.all fun y => match PySem.W.tabIn K y.1 with
    | none => true
    | some (_, p2) => p != p2 || x == y
theorem tabs_at {K : PySem.W.Frag} {q : Program} {loose : List Str} {mean : ExcName → Option Value} {mg mb : Str → Option Value} {h : Heap} (ok : tabsOk K q = true) (T : Top q loose mean mg mb h) (X : K.In h) {x : Str} (hx : x ∈ tabNames ++ nestNames.map (·.1)) {cc p : Addr} (ht : PySem.W.tabIn K x = some (cc, p)) :
    PySem.W.CodeHd h cc p ∧ h.get? p = some { cls := .none, data := .fields #[] } ∧ K.lookup p = none := by
  unfold tabsOk at ok
  rw [Bool.and_eq_true, Bool.and_eq_true] at ok
  have q1 := List.all_eq_true.mp ok.1.1 x hx
  rw [ht] at q1
  simp only [Bool.and_eq_true] at q1
  obtain ⟨q1, q2⟩ := q1
  have hf : ∃ d, (recsOf q).find? (fun e => e.name == x) = some d := by
    cases e : (recsOf q).find? (fun e => e.name == x) with
    | some d => exact ⟨d, rfl⟩
    | none =>
      obtain ⟨d, hd, hn⟩ := List.any_eq_true.mp q1
      exact absurd hn (List.find?_eq_none.mp e d hd)
  obtain ⟨d, hd⟩ := hf
  obtain ⟨w1, w2⟩ := PySem.W.tab_of T X hd ht
  exact ⟨w1, w2, by simpa using q2⟩
/-- the address of a table -/
def IsTab (K : PySem.W.Frag) (b : Addr) : Prop := ∃ x ∈ tabNames, ∃ cc, PySem.W.tabIn K x = some (cc, b)
/-- .. of a def that holds a def -/
def IsNs (K : PySem.W.Frag) (b : Addr) : Prop := ∃ x ∈ nestNames, ∃ cc, PySem.W.tabIn K x.1 = some (cc, b)
theorem tabs_two {K : PySem.W.Frag} {q : Program} (ok : tabsOk K q = true) {b : Addr} (h1 : IsTab K b) (h2 : IsNs K b) : False := by
  obtain ⟨x, hx, cc, hc⟩ := h1
  obtain ⟨y, hy, cc2, hc2⟩ := h2
  unfold tabsOk at ok
  rw [Bool.and_eq_true, Bool.and_eq_true] at ok
  have q1 := List.all_eq_true.mp ok.1.2 x hx
  rw [hc] at q1
  have q2 := List.all_eq_true.mp q1 y hy
  rw [hc2] at q2
  simp at q2
theorem tabs_u {K : PySem.W.Frag} {q : Program} (ok : tabsOk K q = true) : NsU K := fun x hx y hy cc cc2 p h1 h2 => by
  unfold tabsOk at ok
  rw [Bool.and_eq_true] at ok
  have q1 := List.all_eq_true.mp ok.2 x hx
  rw [h1] at q1
  have q2 := List.all_eq_true.mp q1 y hy
  rw [h2] at q2
  have q3 : x = y := by simpa using q2
  rw [q3]
open Classical in
/-- what is tracked at the law's entry -/
noncomputable def hp0 (K : PySem.W.Frag) (u : Addr → Option HO) : Hp := fun b => if IsTab K b then some (tblO b) else if IsNs K b then some (.tbl #[]) else u b
/-- but for tables nothing but the script -/
def only1 (at_ : Addr) (o : Obj) (xs : List V) (u : Addr → Option HO) : Prop := ∀ b, u b = none ∨ (b = at_ ∧ u b = some (.frz o (.lst xs)))
theorem law_runsT {P q : Program} {w : World} {K : PySem.W.Frag} {loose : List Str} {mean : ExcName → Option Value} {mg mb : Str → Option Value} {k : Nat} {fa at_ : Addr} {fd : FuncData} {x : Str} {sp : Sp} {st : Shared} {us : List Value} {ns : List Int}
    (kin : K.In st.heap) (T : Top q loose mean mg mb st.heap) (tok : tabsOk K q = true) (nog : st.gens = #[])
    (hat : st.heap.get? at_ = some { cls := .type "list", data := .seq us.toArray }) (cells : IntsAre us ns) (short : ns.length ≤ sizeLine) (room : Room k callerA)
    (F : ∀ bas : Heap, K.In bas → bas.Ns mainGlobals mg → TbOk K mg bas → FnQ P w K mg bas k fa fd [x] sp) (binds : ∀ (s : Shared) (u : Value), BindsTo s fd ⟨[u], []⟩ [(x, u)])
    (want : ∀ H : Hp, TsOk K H → SqL K H at_ (ns.map V.int) → sp [.ref at_] H (fun v H' => v = .bl true ∧ Kp K H H') fun _ _ _ => False) :
    codeAny (model P w) callerA (.call (.ref fa) ⟨[.ref at_], []⟩) (fun r s' => r = .ok (.ret (.bool true)) ∧ OldK st.heap s'.heap ∧ s'.os = st.os ∧ AllBare s'.gens) st := by
  have vals := vals_ints cells
  have many := cells.length
  have tabs : ∀ b, (IsTab K b ∨ IsNs K b) → st.heap.get? b = some { cls := .none, data := .fields #[] } ∧ K.lookup b = none ∧ ∃ cc, PySem.W.CodeHd st.heap cc b := fun b z => by
    rcases z with ⟨y, hy, cc, hc⟩ | ⟨y, hy, cc, hc⟩
    · obtain ⟨w1, w2, w3⟩ := tabs_at tok T kin (List.mem_append_left _ hy) hc
      exact ⟨w2, w3, cc, w1⟩
    · obtain ⟨w1, w2, w3⟩ := tabs_at tok T kin (List.mem_append_right _ (List.mem_map_of_mem hy)) hc
      exact ⟨w2, w3, cc, w1⟩
  have atT : ¬ (IsTab K at_ ∨ IsNs K at_) := fun z => by
    have e := (tabs at_ z).1
    rw [hat] at e
    cases congrArg Obj.data (Option.some.inj e)
  have main : ∀ u : Addr → Option HO, only1 at_ { cls := .type "list", data := .seq us.toArray } (ns.map V.int) u → SqL K (hp0 K u) at_ (ns.map V.int) → (u at_ ≠ none → K.lookup at_ = none) →
      codeAny (model P w) callerA (.call (.ref fa) ⟨[.ref at_], []⟩) (fun r s' => r = .ok (.ret (.bool true)) ∧ OldK st.heap s'.heap ∧ s'.os = st.os ∧ AllBare s'.gens) st := by
    intro u only sq notK
    have hT : ∀ b, IsTab K b → hp0 K u b = some (tblO b) := fun b z => if_pos z
    have hS : ∀ b, IsNs K b → hp0 K u b = some (.tbl #[]) := fun b z => (if_neg fun y => tabs_two tok y z).trans (if_pos z)
    have hN : ∀ b, ¬ (IsTab K b ∨ IsNs K b) → hp0 K u b = u b := fun b z => (if_neg fun y => z (.inl y)).trans (if_neg fun y => z (.inr y))
    generalize hp0 K u = H at hT hS hN sq ⊢
    -- what stands at a tracked address
    have kinds : ∀ {b : Addr} {o : Obj}, st.heap.get? b = some o → H b ≠ none → o.data = .fields #[] ∨ (b = at_ ∧ o.data = .seq us.toArray 0) ∨ (b = at_ ∧ ∃ n, o.data = .seq us.toArray n) := fun {b o} e h => by
      by_cases z : IsTab K b ∨ IsNs K b
      · rw [(tabs b z).1] at e
        cases e
        exact .inl rfl
      · rw [hN b z] at h
        rcases only b with y | ⟨rfl, _⟩
        · exact absurd y h
        · rw [hat] at e
          cases e
          exact .inr (.inr ⟨rfl, _, rfl⟩)
    have low : ∀ {b : Addr} {o : Obj}, st.heap.get? b = some o → (o.data ≠ .fields #[]) → (∀ n, o.data ≠ .seq us.toArray n) → (hidT st.heap H).get? b = some o := fun {b o} e h1 h2 => hidT_get e (by
      cases y : H b with
      | none => rfl
      | some v =>
        rcases kinds e (by rw [y]; simp) with z | ⟨_, z⟩ | ⟨_, n, z⟩
        · exact absurd z h1
        · exact absurd z (h2 _)
        · exact absurd z (h2 n))
    have ns2 : ∀ {b : Addr} {m : Str → Option Value}, st.heap.Ns b m → (hidT st.heap H).Ns b m := fun {b m} h => by
      obtain ⟨o, es, ep, e, d, r⟩ := h
      exact ⟨o, es, ep, low e (by rw [d]; exact fun z => nomatch z) (fun n => by rw [d]; exact fun z => nomatch z), d, r⟩
    have kin2 : K.In (hidT st.heap H) := fun b o e => hidT_get (kin b o e) (by
      cases y : H b with
      | none => rfl
      | some v =>
        by_cases z : IsTab K b ∨ IsNs K b
        · rw [(tabs b z).2.1] at e
          cases e
        · rw [hN b z] at y
          rcases only b with y' | ⟨rfl, y'⟩
          · rw [y'] at y; cases y
          · rw [notK (by rw [y']; simp)] at e
            cases e)
    have md : Mod K mg (hidT st.heap H) := ⟨kin2, ns2 T.g, ⟨mb, ns2 T.b, T.builtins⟩, by obtain ⟨mc, h1, h2⟩ := T.nolimit; exact ⟨mc, ns2 h1, h2⟩⟩
    have hok : HOk P w H st.heap := fun b v e => by
      by_cases z : IsTab K b ∨ IsNs K b
      · rcases z with z | z
        · rw [hT b z] at e
          cases e
          exact tblP_ok ⟨#[], (tabs b (.inl z)).1, trivial⟩
        · rw [hS b z] at e
          cases e
          exact (tabs b (.inr z)).1
      · rw [hN b z] at e
        rcases only b with y | ⟨rfl, y⟩
        · rw [y] at e; cases e
        · rw [y] at e
          cases e
          exact ⟨hat, by rw [List.length_map]; exact short, us, _, vals, hat⟩
    have en : Env0 P w K mg (hidT st.heap H) callerA [] st H := ⟨rfl, md, fun b o e => of_hidT e, Nat.le_of_eq (hidT_size _ _), trivial, (fun b hb => nomatch (show b ∈ ([] : List Addr) from hb)), hok, .of_eq nog⟩
    have ts : TsOk K H := ⟨fun y hy cc p hc => hT p ⟨y, hy, cc, hc⟩, fun y hy cc p hc => NdefX.TabN.nil (hS p ⟨y, hy, cc, hc⟩)⟩
    have TB1 : ∀ x ∈ tabNames ++ nestNames.map (·.1), ∀ cc p, PySem.W.tabIn K x = some (cc, p) → TabB (hidT st.heap H) mg cc p := fun y hy cc p hc => by
      obtain ⟨w1, w2, w3⟩ := tabs_at tok T kin hy hc
      refine ⟨?_, ?_, fun z => ?_⟩
      · obtain ⟨o, vs, file, tf, flags, tg, inF, text, tt, e1, r1, r2, r3, r⟩ := w1
        refine ⟨o, vs, file, tf, flags, tg, inF, text, tt, low e1 (by
          rw [r2]
          intro z
          cases z
          simp at r3) (fun n => by rw [r2]; exact fun z => nomatch z), r1, r2, r3, r⟩
      · obtain ⟨bm, ob, b1, b2, b3, b4, b5, b6⟩ := T.bmain
        refine ⟨bm, ob, b1, b2, fun z => ?_, fun z => ?_, low b3 (by rw [b6]; exact fun z => nomatch z) (fun n => by rw [b6]; exact fun z => nomatch z), b4, b5, b6⟩
        · obtain ⟨o, es, ep, e, hd, _⟩ := T.g
          rw [z, e] at b3
          cases b3
          rw [hd] at b6
          cases b6
        · rw [z, w2] at b3
          cases b3
          cases b6
      · obtain ⟨o, es, ep, e, hd, _⟩ := T.g
        rw [z, w2] at e
        cases e
        cases hd
    have TB : TbOk K mg (hidT st.heap H) := ⟨fun y hy => TB1 y (List.mem_append_left _ hy), fun y hy => TB1 y.1 (List.mem_append_right _ (List.mem_map_of_mem hy)), tabs_u tok⟩
    refine codeAny_mono ((F _ kin2 (ns2 T.g) TB).does callerA [] st H ⟨[.ref at_], []⟩ [.ref at_] [.ref at_] _ _ rfl room en (binds st (.ref at_)) (.cons rfl .nil) (want H ts sq)) fun r s' h => ?_
    cases r with
    | error e => exact absurd h (by intro z; exact z)
    | ok fl =>
      cases fl with
      | next => exact False.elim h
      | brk => exact False.elim h
      | cont => exact False.elim h
      | ret u2 =>
        obtain ⟨v, H', os, bare, un, hok', rv, q1, q2⟩ := h
        subst q1
        obtain rfl : u2 = Value.bool true := rv
        have grown : ∀ b, (IsTab K b ∨ IsNs K b) → ∃ ps : Array Value, s'.heap.get? b = some { cls := .none, data := .fields ps } := fun b z => by
          rcases z with z | z
          · obtain ⟨⟨ps, e, _⟩, _⟩ := hok' b _ (q2.k b _ (hT b z) noTb_ext)
            exact ⟨ps, e⟩
          · obtain ⟨more, e⟩ := un.tbls b _ (hS b z)
            exact ⟨_, hok' b _ e⟩
        have kept : ∀ b o, ¬ (IsTab K b ∨ IsNs K b) → st.heap.get? b = some o → s'.heap.get? b = some o := fun b o z e => by
          cases y : H b with
          | none => exact un.keep b o e y (by intro z; exact nomatch (show b ∈ ([] : List Addr) from z)) (by simp)
          | some v =>
            have y0 := y
            rw [hN b z] at y
            rcases only b with y' | ⟨rfl, y'⟩
            · rw [y'] at y; cases y
            · rw [y'] at y
              cases y
              obtain ⟨e1, _⟩ := hok b _ y0
              obtain ⟨e2, _⟩ := hok' b _ (un.frzs b _ _ y0)
              rw [e] at e1
              cases e1
              exact e2
        refine ⟨rfl, ⟨fun b o e => ?_, fun b o e => ?_⟩, os, bare⟩
        · by_cases z : IsTab K b ∨ IsNs K b
          · obtain ⟨e1, _, cc, hc⟩ := tabs b z
            obtain ⟨ps, e2⟩ := grown b z
            rw [e1] at e
            cases e
            exact .inr (.inl ⟨(hc.tab e1).isCodeTable, rfl, #[], ps, rfl, by rw [Array.empty_append]; exact e2⟩)
          · exact .inl (kept b o z e)
        · by_cases z : IsTab K b ∨ IsNs K b
          · obtain ⟨ps, e2⟩ := grown b z
            exact ⟨_, e2⟩
          · exact ⟨o, kept b o z e⟩
  cases hk : K.lookup at_ with
  | some o =>
    have e := kin at_ o hk
    rw [hat] at e
    cases e
    exact main (fun _ => none) (fun _ => .inl rfl) (.inr ⟨_, us.toArray, _, hk, rfl, rfl, rfl, by rw [List.size_toArray, many]; exact short, by simpa using vals⟩) fun z => absurd rfl z
  | none =>
    refine main (fun b => if b = at_ then some (.frz { cls := .type "list", data := .seq us.toArray } (.lst (ns.map V.int))) else none) (fun b => ?_) (.inl (.inr ⟨{ cls := .type "list", data := .seq us.toArray }, ?_⟩)) fun _ => hk
    · rcases Classical.em (b = at_) with hb | hb
      · exact .inr ⟨hb, if_pos hb⟩
      · exact .inl (if_neg hb)
    · exact (if_neg fun z => atT (.inl z)).trans ((if_neg fun z => atT (.inr z)).trans (if_pos rfl))
theorem walkt_of {l : PySem.W.OpenLaw} {n k : Nat} {q : Program} {loose : List Str} {XP : (Str → Option Value) → Heap → Prop} {YP : World → Heap → Prop} {d : DefRec} {K : Params → PySem.W.Frag} {sp : World → Sp} {x : Str}
    (most : l.most = some n) (short : n ≤ sizeLine) (nodef : d.params.defaults = []) (room : Room k callerA) (hY : ∀ (w : World) (h : Heap), YP w h → (K w.params).In h)
    (F : ∀ (w : World) (mg : Str → Option Value) (fa : Addr) (h : Heap), (K w.params).In h → h.Ns mainGlobals mg → mg d.name = some (.ref fa) →
      tabsOk (K w.params) q = true ∧ ∃ fd : FuncData, (∀ (s : Shared) (u : Value), BindsTo s fd ⟨[u], []⟩ [(x, u)]) ∧ ∀ bas : Heap, (K w.params).In bas → bas.Ns mainGlobals mg → TbOk (K w.params) mg bas → FnQ l.prog w (K w.params) mg bas k fa fd [x] (sp w))
    (want : ∀ (w : World) (H : Hp) (a : Addr) (ns : List Int), ns.length ≤ n → TsOk (K w.params) H → SqL (K w.params) H a (ns.map V.int) → sp w [.ref a] H (fun v H' => v = .bl true ∧ Kp (K w.params) H H') fun _ _ _ => False) :
    PySem.W.WalkO q loose XP YP l.row.toRowW d [] (fun f vs => PySem.call f vs) := by
  refine Att.attach_call most nodef fun w s₀ st mg mb fa o pm cd doc a vs ns G Y ho hd hcd hmg hobj hints hlen hg => ?_
  have kin := hY w _ Y
  obtain ⟨tok, fd, binds, hF⟩ := F w mg fa _ kin G.T.g hmg
  exact law_runsT kin G.T tok hg hobj hints (Nat.le_trans hlen short) room hF binds fun H ts sq => want w H a ns hlen ts sq
theorem law_spT {F1 : List PyData → Option PyData} {K : PySem.W.Frag} {H : Hp} {a : Addr} {ns : List Int} (ht : TsOk K H) (hS : SqL K H a (ns.map V.int)) (hF : F1 [RO (ns.map PyData.int)] = some (.bool true)) :
    spP K 1 F1 [.ref a] H (fun v H' => v = .bl true ∧ Kp K H H') fun _ _ _ => False := by
  refine ⟨rfl, ht, fun _ => False, [RO (ns.map PyData.int)], .bool true, .cons (.ro (xs := ns.map V.int) ?_ ?_) .nil, fun _ z => z.elim, hF, fun v H' kp r => by cases r; exact ⟨rfl, kp⟩⟩
  · rcases hS with h | h
    · exact .inl ⟨h, id⟩
    · exact .inr h
  · clear hS hF ht
    induction ns with
    | nil => exact .nil
    | cons i ns ih => exact .int i ih
end PG
end
section
set_option Elab.async false
set_option linter.all false
set_option maxRecDepth 100000
namespace PG
open PySem PySem.Spec PyProof.Rows L2
/-! ### a table of the module: whole-number keys, values of any plain kind -/
def kval (K : PySem.W.Frag) : Value → PyData → Bool
  | .int i _, .int j => decide (i = j)
  | .str x _, .str y => decide (x = y)
  | .bool a, .bool b => decide (a = b)
  | .none, .none => true
  | .ref a, .tuple ds => match K.lookup a with
    | some ⟨.type "tuple", _, .seq its _, _⟩ => flatOk its.toList ds && decide (its.size ≤ sizeLine)
    | _ => false
  | _, _ => false
def entOkD (K : PySem.W.Frag) : List DictEntry → List (Int × PyData) → Bool
  | [], [] => true
  | e :: r, p :: t => decide (e.hash = hashInt p.1) && Value.isInt p.1 e.key && kval K e.val p.2 && entOkD K r t
  | _, _ => false
structure DTab (K : PySem.W.Frag) (d : Addr) (tab : List (Int × PyData)) : Prop where
  at_ : ∃ es n, K.lookup d = some ⟨.type "dict", none, .dict es n, #[]⟩ ∧ entOkD K es.toList tab = true
  low : (d == sysModules) = false
def getD' (tab : List (Int × PyData)) (i : Int) : Option PyData := (tab.find? fun p => decide (p.1 = i)).map (·.2)
@[simp] def dGetD (tab : List (Int × PyData)) : PyData → PyData → Option PyData
  | .int i, y => some (match getD' tab i with
    | some v => v
    | none => y)
  | _, _ => none
@[simp] def dIxD (tab : List (Int × PyData)) : PyData → Option PyData
  | .int i => getD' tab i
  | _ => none
@[simp] def dInD (tab : List (Int × PyData)) : PyData → Option PyData
  | .int i => some (.bool (getD' tab i).isSome)
  | _ => none
@[simp] def dNotInD (tab : List (Int × PyData)) : PyData → Option PyData
  | .int i => some (.bool (!(getD' tab i).isSome))
  | _ => none
section
variable {K : PySem.W.Frag}
end
section
variable {X : Cx} {d : Addr} {tab : List (Int × PyData)} {o a b e e2 : Expr} {apos cpos pos : Pos} {f g : EF}
/-- what is handed back, as a value -/
def rGetD (K : PySem.W.Frag) (tab : List (Int × PyData)) : V → V → Hp → VK → Prop := fun y z H Q => ∃ i : Int, y = .int i ∧ (match getD' tab i with
  | some d => ∀ v, (∀ A H, Rp K A H v d) → Q v H
  | none => Q z H)
end
end PG
end
section
set_option Elab.async false
set_option linter.all false
set_option maxRecDepth 100000
set_option maxHeartbeats 1000000
namespace PG
open PySem PySem.Spec PyProof.Rows L2 GenW GxR
/-! ### slices of tuples and of texts; tuples of the module -/
section
variable {X : Cx} {a : Expr} {f : EF} {pos : Pos}
@[simp] def eSlX (f : EF) (lo hi : Option EF) : EF := fun ρ => match f ρ with
  | some (.tuple xs, ρ1) => (match oE lo ρ1 with
    | some (l, ρ2) => (match oE hi ρ2 with
      | some (u, ρ3) => some (.tuple (cutD xs l u), ρ3)
      | none => none)
    | none => none)
  | some (.str z, ρ1) => (match oE lo ρ1 with
    | some (l, ρ2) => (match oE hi ρ2 with
      | some (u, ρ3) => if z.length ≤ 16777216 then some (.str (cutS z l u), ρ3) else none
      | none => none)
    | none => none)
  | _ => none
theorem ev_slX {lo hi : Option Expr} {l u : Option EF} {p2 : Pos} (ha : PE X a (tE X.K f)) (hl : PO X lo (tO X.K l)) (hu : PO X hi (tO X.K u)) : PE X (.Subscript a (.Slice lo hi none p2) pos) (tE X.K (eSlX f l u)) :=
  pe_of (pe_slice (SlR.or sl_tupA sl_str) ha hl hu) fun σ H Q ⟨c, ρ, d, ρ', R, e, q⟩ => by
    unfold eSlX at e
    split at e
    · rename_i xs ρ1 h1
      split at e
      · rename_i l' ρ2 h2
        split at e
        · rename_i u' ρ3 h3
          obtain ⟨e1, e2⟩ := so e
          subst e1 e2
          refine ⟨c, ρ, _, ρ1, R, h1, fun v H1 R1 r1 m1 => ⟨c, ρ1, l', ρ2, R1, h2, fun H2 R2 m2 => ⟨c, ρ2, u', ρ3, R2, h3, fun H3 R3 m3 => .inl ?_⟩⟩⟩
          cases r1.mv (m2.trans m3) with
          | @tup p us _ ll al =>
            have mm := (m1.trans m2).trans m3
            refine ⟨p, us, rfl, ll.sq, fun hw => ?_, fun hw p2 hp => ?_⟩
            · have ec : cutD xs l' u' = xs := by
                have e1 : ∀ n d o, sIxD n d o = HT.sIx n d o := fun n d o => by cases o <;> rfl
                unfold cutD
                rw [← al.length, e1, e1, hw.1, hw.2, al.length]
                simp
              rw [ec] at q
              exact q _ H3 R3 (.tup ll al) mm
            · exact q _ _ (R3.alloc hp).1 (R3.newTup hp (cut_rp al l' u')) (mm.trans (R3.mvG (kp_upd hp)))
        · cases e
      · cases e
    · rename_i z ρ1 h1
      split at e
      · rename_i l' ρ2 h2
        split at e
        · rename_i u' ρ3 h3
          split at e
          · rename_i hz
            obtain ⟨e1, e2⟩ := so e
            subst e1 e2
            refine ⟨c, ρ, _, ρ1, R, h1, fun v H1 R1 r1 m1 => ⟨c, ρ1, l', ρ2, R1, h2, fun H2 R2 m2 => ⟨c, ρ2, u', ρ3, R2, h3, fun H3 R3 m3 => .inr ?_⟩⟩⟩
            cases r1.mv (m2.trans m3) with
            | str =>
              exact ⟨z, rfl, by simpa [sl16] using hz, q _ H3 R3 (.str _) ((m1.trans m2).trans m3)⟩
          · cases e
        · cases e
      · cases e
    · cases e
/-- a tuple of the module: whole numbers and texts -/
structure KTab (K : PySem.W.Frag) (d : Addr) (ds : List PyData) : Prop where
  at_ : ∃ its n, K.lookup d = some ⟨.type "tuple", none, .seq its n, #[]⟩ ∧ flatOk its.toList ds = true
  low : ds.length ≤ 1000
theorem KTab.tup {K : PySem.W.Frag} {d : Addr} {ds : List PyData} (D : KTab K d ds) (A : Addr → Prop) (H : Hp) : Rp K A H (.ref d) (.tuple ds) := by
  obtain ⟨its, n, hl, hf⟩ := D.at_
  obtain ⟨a, b, c⟩ := flatA_of hf
  have := D.low
  exact .tup (.inr ⟨_, its, n, hl, rfl, rfl, by rw [← Array.length_toList, c, sl16]; omega, b⟩) a.rp
end
end PG
end
section
set_option Elab.async false
set_option linter.all false
set_option maxRecDepth 100000
set_option maxHeartbeats 1000000
namespace PG
open PySem PySem.Spec PyProof.Rows L2 GenW GxR
/-! ### a def that lets an error of one own class out, with one field; its call within a try -/
abbrev SumD := PyData ⊕ PyData
def spX (K : PySem.W.Frag) (k : Nat) (C : Addr) (fld : Str) (F : List PyData → Option SumD) : Sp := fun vs H Q E => vs.length = k ∧ TsOk K H ∧ ∃ (A : Addr → Prop) (ds : List PyData) (r : SumD), RpA K A H vs ds ∧ (∀ a, A a → H a ≠ none) ∧ F ds = some r ∧
  match r with
  | .inl d => ∀ v H', Kp K H H' → Rp K A H' v d → Q v H'
  | .inr d => ∀ dd fs v H', Kp K H H' → H' dd = some (.xd fs) → fs.lookup fld = some v → Rp K A H' v d → E (.ref C) (some dd) H'
def xPost (K : PySem.W.Frag) (c : Act K) (ρ : Rho) (σ : L2.St) (H : Hp) (C : Addr) (fld : Str) (W : WX) (D : Ends) (ρ' : Rho) (o : Out) : Prop := match o with
  | .retL ds => ∃ d, ds = [d] ∧ ∀ dd fs v σ' H', Rel K c ρ' σ' H' → H' dd = some (.xd fs) → fs.lookup fld = some v → Rp K c.A H' v d → W (.ref C) (some dd) σ' H'
  | o => sPost K c ρ σ H D ρ' o
def tSx (K : PySem.W.Frag) (C : Addr) (fld : Str) (W : WX) (b : SF) : TS := fun D σ H => ∃ (c : Act K) (ρ : Rho) (o : Out) (ρ' : Rho), Rel K c ρ σ H ∧ b ρ = some (o, ρ') ∧ xPost K c ρ σ H C fld W D ρ' o
/-- nothing is let out here -/
def NoL (F : SF) : Prop := ∀ ρ ds ρ', F ρ ≠ some (.retL ds, ρ')
@[simp] def sRaiseX (f : EF) : SF := fun ρ => match f ρ with
  | some (d, ρ1) => some (.retL [d], ρ1)
  | none => none
@[simp] def endX : Option (Out × Rho) → Option SumD
  | some (.ret d, _) => some (.inl d)
  | some (.retL [d], _) => some (.inr d)
  | _ => none
def defX (b : SF) (k m : Nat) : List PyData → Option SumD := fun ds => if ds.length = k then endX (b (rho0 ds m)) else none
theorem nol_set {i : Nat} {f : EF} : NoL (sSet i f) := fun ρ ds ρ' e => by
  unfold sSet at e
  split at e
  · split at e <;> cases e
  · cases e
theorem nol_ret {f : EF} : NoL (sRet f) := fun ρ ds ρ' e => by
  unfold sRet at e
  split at e <;> cases e
theorem nol_asg {f : EF} {g : GF} : NoL (sAsg f g) := fun ρ ds ρ' e => by
  unfold sAsg at e
  split at e
  · split at e <;> cases e
  · cases e
def clsAt (s : Stmt) (j : Nat) : Stmt := match s with
  | .ClassDef _ _ _ b _ _ _ _ _ _ _ => b.getD j (.Pass ⟨0, 0, 0, 0⟩)
  | _ => .Pass ⟨0, 0, 0, 0⟩
section
variable {X : Cx} {e a b : Expr} {pos : Pos} {f g : EF} {tf : TF} {st : Stmt} {sts : List Stmt} {F G' : SF} {C : Addr} {fld : Str} {W : WX}
theorem ps_nox {t : TS} (h : PS X.nox st t) : PS X st t := ⟨fun pins s σ H D I hw => wpAny_mono (h.run pins s σ H D (I.wish _) hw) (fun _ _ q => q.unwish) fun _ _ z => False.elim z⟩
theorem xPost.pre {K : PySem.W.Frag} {c : Act K} {ρ ρ1 ρ' : Rho} {σ σ1 : L2.St} {H H1 : Hp} {D : Ends} {o : Out} (m : Stp c ρ σ H ρ1 σ1 H1) (p : xPost K c ρ σ H C fld W D ρ' o) : xPost K c ρ1 σ1 H1 C fld W D ρ' o := by
  cases o with
  | retL ds => exact p
  | next => exact sPost.pre (o := .next) (E := D) (ρ' := ρ') m p
  | brk => exact sPost.pre (o := .brk) (E := D) (ρ' := ρ') m p
  | cont => exact sPost.pre (o := .cont) (E := D) (ρ' := ρ') m p
  | ret d => exact sPost.pre (o := .ret d) (E := D) (ρ' := ρ') m p
end
/-! ### the class, its __init__ -/
/-- a field of a fresh error is set -/
def spI (K : PySem.W.Frag) (fld : Str) : Sp := fun vs H Q _ => ∃ (a C : Addr) (y : V), vs = [.ref a, y] ∧ OexC K C ∧ PySem.W.findIn K (.ref C) fld = some none ∧ H a = some (exo a C none) ∧
  ∀ dx, H dx = none → dx ≠ a → Q .non (upd (upd H dx (exd dx [(fld, y)])) a (exo a C (some dx)))
/-- what the written part says of an own error's class -/
structure ExT (K : PySem.W.Frag) (mg : Str → Option Value) (cn fld : Str) (C fI : Addr) : Prop where
  gC : mg cn = some (.ref C)
  T : OexC K C
  iC : PySem.W.findIn K (.ref C) "__init__" = some (some (.ref fI))
  tI : PySem.W.typeIn K (.ref fI) = some (.type "function")
  nf : PySem.W.findIn K (.ref C) fld = some none
  hg : PySem.W.findIn K (.ref C) "__getattribute__" = some (some (.builtin "BaseException.__getattribute__"))
  hk : PySem.W.findIn K (.ref C) "__getattr__" = some none
  hd : PySem.W.hasDictIn K C = true
  ha : PySem.W.findIn K (.ref C) "__class__" = some (some (.builtin "object.__class__"))
  hn : PySem.W.specialIn K (.builtin "object.__class__") "__get__" = some (some (.builtin "getset_descriptor.__get__"))
  ht : PySem.W.takesIn K (.builtin "object.__class__") = some true
  hm : PySem.W.mroIn K C (.type "object") = some true
  te : PySem.W.exmOne K (.ref C) (.ref C) = some true
section
variable {X : Cx} {e a b : Expr} {p pos pos2 : Pos} {f g : EF} {C fI : Addr} {cn fld : Str} {W : WX} {k : Nat} {fd : FuncData} {ps : List Str}
end
section
variable {P : Program} {w : World} {K : PySem.W.Frag} {mg : Str → Option Value} {base : Heap} {x qual fld : Str} {st : Stmt} {fa C : Addr} {fd : FuncData} {N ps : List Str} {j k m : Nat} {b : SF}
end
/-! ### the call within a try; its except suite -/
def rIsX (K : PySem.W.Frag) (D a dd : Addr) : List V → Hp → VK → Prop := fun xs H Q => ∃ (c : V) (cv : Value) (b : Bool) (fs : List (Str × V)), xs = [.ref a, c] ∧ (∀ u, RelV c u → u = cv) ∧ PySem.W.kitOne K (.ref D) cv = some b ∧ H dd = some (.xd fs) ∧ Q (.bl b) H
/-- asked of the error, known -/
def tKnow (i : Nat) (a dd : Addr) (b : Bool) : TE := fun σ H Q => σ[i]? = some (some (.ref a)) ∧ (∃ fs : List (Str × V), H dd = some (.xd fs)) ∧ Q (.bl b) H
section
variable {X : Cx} {a C fI dd : Addr} {oe : Obj} {pn : List (Addr × Obj)} {cn fld : Str} {i j : Nat} {c e e2 : Expr} {rest : List Expr} {p p1 pos : Pos} {b : Bool} {cv : Value} {cV : V}
theorem ExT.cl {K : PySem.W.Frag} {mg : Str → Option Value} (T : ExT K mg cn fld C fI) : (PySem.W.clsIn K C).isSome = true := by
  obtain ⟨cd, hc, _⟩ := PySem.W.any_some T.hd
  rw [hc]
  rfl
end
@[simp] def sTryX (tag : Str) (i j : Nat) (n : NF) (F : List PyData → Option SumD) : SF := fun ρ => match n ρ with
  | some (ds, ρ1) => if i < ρ1.length ∧ j < ρ1.length then (match F ds with
    | some (.inl d) => some (.ret d, ρ1)
    | some (.inr d) => some (.ret (.tuple [.str tag, d]), ρ1)
    | none => none) else none
  | none => none
/-- the suite: x = known; return (tag, e.f) if x else .. -/
def tSuite (K : PySem.W.Frag) (C : Addr) (fld tag : Str) (i j : Nat) (tO : TE) (a dd : Addr) : TS :=
  tSeq (tAsg (tKnow i a dd true) (gName j)) (tRet (tIf (tB (tVar j)) (tTup (tCons (tC (.str tag)) (tCons (tXf a (.ref C) (some dd) C fld (tVar i)) tNil))) tO))
section
variable {X : Cx} {C fI fa : Addr} {x cn en fld tag : Str} {i j k kk : Nat} {e : Expr} {es : List Expr} {p np hp pos rp tp : Pos} {n : NF} {F1 : List PyData → Option SumD} {fd : FuncData} {ps : List Str} {b₀ : Stmt} {suite : List Stmt} {tO : TE}
end
end PG
end
section
set_option Elab.async false
set_option linter.all false
set_option maxRecDepth 100000
set_option maxHeartbeats 1000000
namespace PG
open PySem PySem.Spec PyProof.Rows L2 GenW GxR
/-! ### the place of an item: lists of the module, a tuple that a def has just written; & of ints -/
def findS (ss : List Str) (z : Str) : Option Nat := ss.findIdx? fun y => decide (y = z)
@[simp] def dIdxS (ss : List Str) : PyData → Option PyData
  | .str z => (findS ss z).map fun j => .int (j : Nat)
  | _ => none
/-- a def that writes a tuple of texts: the object is known to have no dict -/
def spFz (ss : List Str) : Sp := fun vs H Q _ => vs = [] ∧ ∀ (p : Addr) (o : Obj), H p = none → o.cls = .type "tuple" → o.dict = none → Q (.ref p) (upd H p (.frz o (.tup (ss.map V.str))))
def tTupF (t : TA) : TE := fun σ H Q => t σ H fun xs H1 => xs.length ≤ sizeLine ∧ ∀ (p : Addr) (o : Obj), H1 p = none → o.cls = .type "tuple" → o.dict = none → Q (.ref p) (upd H1 p (.frz o (.tup xs)))
section
variable {X : Cx} {e o : Expr} {es : List Expr} {t : TA} {to : TE} {x1 : Nat} {pos p1 p2 apos cpos : Pos} {f : EF} {id : String} {name x : Str} {r : V → List V → Hp → VK → Prop}
@[simp] def dIdxR (ds : List PyData) : PyData → Option PyData := fun d => if SeqAt.shaped (.list ds) && SeqAt.shaped d then (ds.findIdx? fun z => PyData.eqv z d).map fun j => .int (j : Nat) else none
@[simp] def dBand := dI2 cT fun i j => .int (Builtin.bitAnd i j)
end
end PG
end
section
set_option Elab.async false
set_option linter.all false
set_option maxRecDepth 100000
set_option maxHeartbeats 1000000
namespace PG
open PySem PySem.Spec PyProof.Rows L2 GenW GxR
/-! ### an owned list that is handed to a def for reading; `[x] * n` as an owned list -/
mutual
/-- holds no list -/
def noLst : PyData → Bool
  | .none => true
  | .bool _ => true
  | .int _ => true
  | .str _ => true
  | .tuple ds => noLstA ds
  | .list _ => false
  | .dict _ => false
def noLstA : List PyData → Bool
  | [] => true
  | d :: ds => noLst d && noLstA ds
end
section
variable {K : PySem.W.Frag} {A B : Addr → Prop} {H : Hp}
mutual
/-- a result without lists holds nothing of the list that was lent -/
theorem Rp.unlend {a : Addr} {us : List V} (ha : H a = some (.lst us)) (hB : ∀ b, B b → b ≠ a → A b) : ∀ (d : PyData) (v : V), Rp K A H v d → noLst d = true → Rp K B H v d
  | .none, _, h, _ => by cases h; exact .non
  | .bool b, _, h, _ => by cases h; exact .bl b
  | .int i, _, h, _ => by cases h; exact .int i
  | .str x, _, h, _ => by cases h; exact .str x
  | .list ds, _, h, n => by simp [noLst] at n
  | .dict _, _, h, n => by simp [noLst] at n
  | .tuple ds, _, h, n => by
    cases h with
    | @tup b xs _ l r =>
      refine .tup ?_ (RpA.unlend ha hB ds _ r (by simpa [noLst] using n))
      rcases l with ⟨h1, h2⟩ | l
      · refine .inl ⟨h1, fun z => h2 (hB b z fun e => ?_)⟩
        subst e
        rcases h1 with h1 | ⟨o, h1⟩
        · rw [ha] at h1; cases h1
        · rw [ha] at h1; cases h1
      · exact .inr l
theorem RpA.unlend {a : Addr} {us : List V} (ha : H a = some (.lst us)) (hB : ∀ b, B b → b ≠ a → A b) : ∀ (ds : List PyData) (vs : List V), RpA K A H vs ds → noLstA ds = true → RpA K B H vs ds
  | [], _, h, _ => by cases h; exact .nil
  | d :: ds, _, h, n => by
    cases h with
    | cons h1 h2 =>
      simp only [noLstA, Bool.and_eq_true] at n
      exact .cons (Rp.unlend ha hB d _ h1 n.1) (RpA.unlend ha hB ds _ h2 n.2)
end
end
/-- all that is owned but the list at slot i -/
def AvB {K : PySem.W.Frag} (i : Nat) (c : Act K) (ρ : Rho) (σ : L2.St) (b : Addr) : Prop := Av c ρ σ b ∧ σ[i]? ≠ some (some (V.ref b))
def tAB (K : PySem.W.Frag) (i : Nat) (f : NF) : TA := fun σ H Q => ∃ (c : Act K) (ρ : Rho) (ds : List PyData) (ρ' : Rho), Rel K c ρ σ H ∧ f ρ = some (ds, ρ') ∧ (∃ es, ρ'[i]? = some (some (.l false es))) ∧
  ∀ vs H', Rel K c ρ' σ H' → RpA K (AvB i c ρ' σ) H' vs ds → Stp c ρ σ H ρ' σ H' → Q vs H'
@[simp] def nBor (i : Nat) (f : NF) : NF := fun ρ => match ρ[i]? with
  | some (some (.l false _)) => (match f ρ with
    | some (ds, ρ1) => (match ρ1[i]? with
      | some (some (.l false es)) => some (.list es :: ds, ρ1)
      | _ => none)
    | none => none)
  | _ => none
@[simp] def eCallB (F : List PyData → Option PyData) (i : Nat) (f : NF) : EF := fun ρ => match f ρ with
  | some (xs, ρ1) => (match ρ1[i]? with
    | some (some (.l false _)) => (match F xs with
      | some z => if noLst z then some (z, ρ1) else none
      | none => none)
    | _ => none)
  | none => none
section
variable {X : Cx} {e : Expr} {es : List Expr} {f : EF} {n : NF} {i : Nat}
variable {F1 : List PyData → Option PyData} {k j : Nat} {fa : Addr} {fd : FuncData} {ps : List Str} {x : Str} {p pos : Pos}
end
@[simp] def nRep (f g : EF) : NF := fun ρ => match f ρ with
  | some (.list xs, ρ1) => (match g ρ1 with
    | some (.int k, ρ2) => if -9223372036854775808 ≤ k ∧ k < 9223372036854775808 ∧ xs.length * k.toNat ≤ 16777216 then some ((List.replicate k.toNat xs).flatten, ρ2) else none
    | _ => none)
  | _ => none
section
variable {X : Cx} {a b : Expr} {f g : EF} {pos : Pos}
end
end PG
end
section
set_option Elab.async false
set_option linter.all false
set_option maxRecDepth 100000
namespace PG
open PySem PySem.Spec PyProof.Rows L2
/-! ### an owned list + a list, as a new owned list -/
@[simp] def nAddO (i : Nat) (g : EF) : NF := fun ρ => match eAddO i g ρ with
  | some (.list xs, ρ1) => some (xs, ρ1)
  | _ => none
section
variable {X : Cx} {a b : Expr} {g : EF} {pos : Pos}
end
end PG
end
section
set_option Elab.async false
set_option linter.all false
set_option maxRecDepth 100000
namespace PG
open PySem PySem.Spec PyProof.Rows L2
/-! ### set(xs) of a list of texts -/
/-- how many of the first i are there, each once -/
def cntS (xs : List Str) : Nat → Nat
  | 0 => 0
  | i + 1 => match xs[i]? with
    | some x => if x ∈ xs.take i then cntS xs i else cntS xs i + 1
    | none => cntS xs i
section
variable {P : Program} {w : World} {A : Around} {E : Value → Shared → Prop} {s : Shared}
end
end PG
end
section
set_option Elab.async false
set_option linter.all false
set_option maxRecDepth 100000
set_option maxHeartbeats 1000000
namespace PG
open PySem PySem.Spec PyProof.Rows L2 GenW GxR
/-! ### len(set(texts)) -/
def strsOf : List PyData → Option (List Str)
  | [] => some []
  | .str x :: r => (match strsOf r with
    | some l => some (x :: l)
    | none => none)
  | _ :: _ => none
theorem strsOf_map : ∀ {ds : List PyData} {ns : List Str}, strsOf ds = some ns → ds = ns.map PyData.str
  | [], ns, h => by cases h; rfl
  | d :: r, ns, h => by
    unfold strsOf at h
    split at h
    · rename_i hh; cases hh
    · rename_i i r' hh
      cases hh
      split at h
      · rename_i l hl
        cases h
        rw [strsOf_map hl]
        rfl
      · cases h
    · cases h
theorem strsOf_of : ∀ ns : List Str, strsOf (ns.map PyData.str) = some ns
  | [] => rfl
  | x :: ns => by simp [strsOf, strsOf_of ns]
theorem RpA.strs {K : PySem.W.Frag} {A : Addr → Prop} {H : Hp} : ∀ {vs : List V} {ns : List Str}, RpA K A H vs (ns.map PyData.str) → vs = ns.map V.str
  | _, [], h => by cases h; rfl
  | _, _ :: ns, h => by
    cases h with
    | cons h1 h2 => cases h1; simp [RpA.strs h2]
@[simp] def dLenSet : PyData → Option PyData
  | .list ds => (match strsOf ds with
    | some ns => if ns.length < 1000 then some (.int (cntS ns ns.length)) else none
    | none => none)
  | _ => none
section
variable {X : Cx} {a b e : Expr} {f g : EF} {pos : Pos}
def tLenSetA (K : PySem.W.Frag) (ta : TE) : TE := fun σ H Q => ta σ H fun x H1 => ∃ l, ∃ xs : List Str, x = .ref l ∧ SqL K H1 l (xs.map V.str) ∧ xs.length < 1000 ∧ Q (.int (cntS xs xs.length)) H1
/-! ### texts, sign by sign -/
def sgn (c : Nat) : PyData := .str ⟨#[c]⟩
def itY (f : EF) : NF := fun ρ => match f ρ with
  | some (.str z, ρ1) => some (z.cps.toList.map sgn, ρ1)
  | _ => none
theorem jok_str {K : PySem.W.Frag} {c : Act K} {ρ : Rho} {σ : L2.St} {H : Hp} (z : Str) : JOk K c ρ σ H (Its z) (z.cps.toList.map sgn) := fun c' ρi σi Hi m => by
  refine ⟨fun i d hd => ?_, ?_⟩
  · rw [List.getElem?_map] at hd
    cases hi : z.cps.toList[i]? with
    | none => rw [hi] at hd; cases hd
    | some k =>
      rw [hi] at hd
      cases hd
      have hi2 : z.cps[i]? = some k := by rw [← Array.getElem?_toList]; exact hi
      refine ⟨(Array.getElem?_eq_some_iff.mp hi2).1, fun x H' y => ⟨y.1, ?_⟩⟩
      obtain ⟨_, k', h1, rfl⟩ := y
      rw [hi2] at h1
      cases h1
      exact .str _
  · show z.cps.size ≤ (z.cps.toList.map sgn).length
    rw [List.length_map, Array.length_toList]
    exact Nat.le_refl _
theorem ei_str {tgt : Expr} (he : PE X e (tE X.K f)) : PI X tgt e (tI X.K (itY f)) := pi_of (pi_str he) fun σ H R ⟨c, ρ, ds, ρ', R0, e, q⟩ => by
  unfold itY at e
  split at e
  · rename_i z ρ1 h1
    obtain ⟨e1, e2⟩ := so e
    subst e1 e2
    refine ⟨c, ρ, _, ρ1, R0, h1, fun v H1 R1 r1 m1 => ?_⟩
    cases r1
    exact ⟨z, rfl, q _ H1 R1 m1 (jok_str z)⟩
  · cases e
@[simp] def dLeS : PyData → PyData → Option PyData
  | .str x, .str y => some (.bool (!decide (y.cps.toList < x.cps.toList)))
  | _, _ => none
theorem os_leS {K : PySem.W.Frag} : OpS K (fun x y H Q => ∃ i j, x = .str i ∧ y = .str j ∧ Q (.bl (!decide (j.cps.toList < i.cps.toList))) H) dLeS := by
  intro c ρ σ H v1 v2 x y d Q R r1 r2 ho q
  unfold dLeS at ho
  split at ho
  · cases ho
    cases r1
    cases r2
    exact ⟨_, _, rfl, rfl, os_same R q (.bl _)⟩
  · cases ho
/-- a sign in a text -/
def dMemS (neg : Bool) : PyData → PyData → Option PyData
  | .str ⟨⟨[c]⟩⟩, .str z => some (.bool (if neg then !decide (c ∈ z.cps.toList) else decide (c ∈ z.cps.toList)))
  | _, _ => none
theorem os_notInS {K : PySem.W.Frag} : OpS K (fun x y H Q => ∃ (c : Nat) (z : Str), x = .str ⟨#[c]⟩ ∧ y = .str z ∧ Q (.bl (!decide (c ∈ z.cps.toList))) H) (dMemS true) := by
  intro c ρ σ H v1 v2 x y d Q R r1 r2 ho q
  unfold dMemS at ho
  split at ho
  · rename_i k z
    cases ho
    cases r1
    cases r2
    exact ⟨k, z, rfl, rfl, os_same R q (.bl _)⟩
  · cases ho
/-- z[i] of a text -/
def dIxS : PyData → PyData → Option PyData
  | .str z, .int i => if z.length ≤ 16777216 then ((ixOf z.cps.toList.length i).bind fun j => z.cps.toList[j]?).map sgn else none
  | _, _ => none
theorem os_ixS {K : PySem.W.Frag} : OpS K (rIx K) dIxS := by
  intro c ρ σ H v1 v2 x y d Q R r1 r2 ho q
  unfold dIxS at ho
  split at ho
  · rename_i z i
    split at ho
    · rename_i hz
      cases hk : (ixOf z.cps.toList.length i).bind fun j => z.cps.toList[j]? with
      | none => rw [hk] at ho; cases ho
      | some k =>
        rw [hk] at ho
        cases ho
        cases r1
        cases r2
        exact .inr (.inr ⟨z, i, k, rfl, rfl, by rw [sl16]; exact hz, hk, os_same R q (.str _)⟩)
    · cases ho
  · cases ho
/-! a text, repeated -/
def rMulS : R2 := fun x y H Q => ∃ (z : Str) (n : Int), x = .str z ∧ y = .int n ∧ MulOk z n ∧ Q (.str (Txt.mul z n)) H
@[simp] def dMulS : PyData → PyData → Option PyData
  | .str z, .int n => if 0 ≤ n ∧ n ≤ 1000 ∧ z.length ≤ 1000 then some (.str (Txt.mul z n)) else none
  | _, _ => none
end
end PG
end
section
set_option Elab.async false
set_option linter.all false
set_option maxRecDepth 100000
set_option maxHeartbeats 1000000
namespace PG
open PySem PySem.Spec PyProof.Rows L2
/-! ### a comprehension with two walks, the second within the first -/
def compL2 (G : GF) (t : TF) (it1 : NF) (G1 : GF) (t1 : TF) (e : EF) (vs vs1 : List Nat) : List PyData → List PyData → Rho → Option (List PyData × Rho)
  | [], acc, ρ => some (acc, ρ)
  | d :: ds, acc, ρ => match G d ρ with
    | none => none
    | some ρ1 => match t ρ1 with
      | none => none
      | some (false, ρ2) => if plainAt ρ2 vs then compL2 G t it1 G1 t1 e vs vs1 ds acc (wipeR ρ2 vs) else none
      | some (true, ρ2) => match it1 ρ2 with
        | none => none
        | some (ds1, ρ3) => if plainAt ρ3 vs1 then (match compL G1 t1 e vs1 ds1 acc (wipeR ρ3 vs1) with
          | none => none
          | some (acc', ρ4) => if plainAt ρ4 vs then compL2 G t it1 G1 t1 e vs vs1 ds acc' (wipeR ρ4 vs) else none) else none
def nComp2 (it : NF) (G : GF) (t : TF) (it1 : NF) (G1 : GF) (t1 : TF) (e : EF) (vs vs1 : List Nat) : NF := fun ρ => match it ρ with
  | some (ds, ρ1) => if plainAt ρ1 vs then (match compL2 G t it1 G1 t1 e vs vs1 ds [] (wipeR ρ1 vs) with
    | some (out, ρ2) => some (out, restR ρ1 ρ2 vs)
    | none => none) else none
  | none => none
section
variable {X : Cx} {e a b : Expr} {pos : Pos} {f : EF} {tf tf1 : TF}
end
end PG
end
section
set_option Elab.async false
set_option linter.all false
set_option maxRecDepth 100000
set_option maxHeartbeats 1000000
namespace PG
open PySem PySem.Spec PyProof.Rows L2 GenW GxR
/-! ### in, not in of a list of the module -/
def dMemR (neg : Bool) : PyData → PyData → Option PyData
  | x, .dict [(.list ds, .none)] => if flatD x && ds.all flatD then some (.bool (if neg then !memD x ds else memD x ds)) else none
  | _, _ => none
section
variable {K : PySem.W.Frag}
end
end PG
end
section
set_option Elab.async false
set_option linter.all false
set_option maxRecDepth 100000
set_option maxHeartbeats 1000000
namespace PG
open PySem PySem.Spec PyProof.Rows L2 GenW GxR
/-! ### errors of own classes without fields: let out through calls, caught by clauses with a name -/
abbrev Cl := Addr → Value → Option Addr → TS
/-- a suite that only returns -/
def onlyRt (D : Ends) : Ends := { nx := fun _ _ => False, rt := D.rt, bk := fun _ _ => False, ct := fun _ _ => False }
def wCl (K : PySem.W.Frag) (i : Nat) (D : Ends) : List (Value × Cl) → WX
  | [] => fun _ _ _ _ => False
  | z :: r => fun cls d σ H => ∃ b, PySem.W.exmOne K cls z.1 = some b ∧ if b then ∀ a, H a = none → z.2 a cls d (onlyRt D) (σ.set i (some (.ref a))) H else wCl K i D r cls d σ H
inductive ClOk (X : Cx) (n : Str) : List ExceptHandler → List (Value × Cl) → Prop
  | nil : ClOk X n [] []
  | cons {x : Str} {z : Value × Cl} {st : Stmt} {sts : List Stmt} {np hp : Pos} {hds : List ExceptHandler} {l : List (Value × Cl)} (hc : Names X x z.1)
      (hsu : ∀ (a : Addr) (oe : Obj) (cls : Value) (d : Option Addr) (pn : List (Addr × Obj)), Zc cls d oe → (∃ vs, oe.data = .fields vs) → PSs (X.suite a ((a, oe) :: pn)) (st :: sts) (z.2 a cls d)) (r : ClOk X n hds l) :
      ClOk X n (.ExceptHandler (some (.Name x np)) (some n) (st :: sts) hp :: hds) (z :: l)
section
variable {X : Cx} {n : Str} {i : Nat} {body : List Stmt} {h₀ : ExceptHandler} {hds : List ExceptHandler} {l : List (Value × Cl)} {pos : Pos} {tb : WX → TS}
theorem ps_try_cl (hs : X.stack = X.env :: X.outer) (hf : X.env.frame = some X.env.locals) (hN : X.N.Nodup) (hi : X.N[i]? = some n) (hln : X.env.kindOf n = some .local)
    (hb : ∀ (W : WX) (pn : List (Addr × Obj)) (xe : Value → Shared → Prop), Takes (X.tr pn xe) W → PSs (X.tr pn xe) body (tb W))
    (hh : ClOk X n (h₀ :: hds) l) : PS X (.Try body (h₀ :: hds) [] [] pos) (fun D σ H => tb (wCl X.K i D l) D σ H) := by
  refine ⟨fun pins s σ H D inv want => wpAny_Try_except ?_⟩
  have good := inv.ok
  have frames : X.A.frames = some (X.env :: X.outer) := by rw [good.frames, hs]
  refine wpAny_mono ((hb (wCl X.K i D l) (X.pn ++ pins) _ (fun u t thrown => ?_)).run [] s σ H D (inv.toTry _) want) ?_ fun _ _ z => z
  · obtain ⟨a, B, sI, pins1, σ1, H1, cls, d, rfl, J1, nb, up, sky, na, os, ag, w⟩ := thrown
    have J := J1.ofTry good
    rw [hs] at sky
    refine Sky.land Zc.steady frames hf sky fun hp1 fly up1 => ?_
    have Jf : Inv X pins σ1 H1 { t with heap := hp1 } := J.landed nb fly.1 (up.trans up1) os ag
    obtain ⟨oe, vs, eo, ez, ed⟩ := fly.there
    have out : a ∉ frs (X.env :: X.outer) := fun hm => by
      obtain ⟨_, o2, e2, nf⟩ := fly.2.2.1.mem hm
      rw [eo] at e2
      cases e2
      exact nf _ ed
    have apart : a ≠ X.env.locals := fun z => out (List.mem_filterMap.mpr ⟨X.env, List.mem_cons_self, by rw [hf, z]⟩)
    have apart2 : a ∉ X.fs := fun hm => by
      obtain ⟨e, he, q⟩ := List.mem_filterMap.mp hm
      exact out (List.mem_filterMap.mpr ⟨e, List.mem_cons_of_mem _ he, q⟩)
    have inS := Jf.suite eo ed na apart apart2
    suffices go : ∀ {hds2 : List ExceptHandler} {l2 : List (Value × Cl)}, ClOk X n hds2 l2 → wCl X.K i D l2 cls d σ1 H1 → wpAny (model X.prog X.w) X.A (handleBy (.ref a) X.env hds2) (SP X pins D) X.xe { t with heap := hp1 } from go hh w
    intro hds2 l2 cl
    induction cl with
    | nil => exact fun z => z.elim
    | @cons x z st sts np hp hds3 l3 hc hsu _ ih =>
      rintro ⟨b, eb, w2⟩
      refine wpAny_handleBy_cons (codeAny_handlers_test ?_) (by intro q; cases q)
      have cl1 := PySem.W.exm_one (M := model X.prog X.w) Jf.kIn (fun A Q E s k q => wpAny_typeOf_ref (k _ _ eo) (by rw [ez.1]; exact q) : PySem.W.Looks (model X.prog X.w) hp1 (typeOf (.ref a)) cls) eb
      have asked : ∀ {Q : Value → Shared → Prop} {E : Value → Shared → Prop}, Q z.1 { t with heap := hp1 } → wpAny (model X.prog X.w) (X.A.mark (some (.ref a))) (eval (.Name x np) X.env) Q E { t with heap := hp1 } := fun q => by
        obtain ⟨hg, hdbg, hm⟩ := hc
        rcases hm with hm | ⟨hm, hv, hnn⟩
        · exact ld_glob (X := X.suite a ((a, oe) :: (X.pn ++ pins))) inS hg hm q hdbg
        · exact ld_blt (X := X.suite a ((a, oe) :: (X.pn ++ pins))) inS hg hm hv q hnn hdbg
      refine asked (cl1.here ?_)
      cases b with
      | false => exact ih w2
      | true =>
        refine codeAny_handlers_suite_as (HandSPX.lands_againZ fly fun hp2 fly2 up2 => ?_)
        have J2 : Inv X pins σ1 H1 { t with heap := hp2 } := J.landed nb fly2.1 ((up.trans up1).trans up2) os ag
        obtain ⟨oe2, vs2, eo2, ez2, ed2⟩ := fly2.there
        refine store_ok (X := X.suite a ((a, oe2) :: (X.pn ++ pins))) (v := .ref a) (J2.suite eo2 ed2 na apart apart2) hN hi (.inl hln) rfl (fun s5 S5 => ?_) (.inr hln)
        refine wpAny_mono ((hsu a oe2 cls d (X.pn ++ pins) ez2 ⟨_, ed2⟩).run [] s5 _ H1 _ S5 (w2 a na)) (fun f s6 q6 => ?_) fun _ _ z => z.elim
        cases f with
        | ret u =>
          obtain ⟨v6, σ6, H6, S6, r6, q⟩ := q6
          exact gone_ok (S6.unsuite good) hN hi hln fun s7 J7 => ⟨_, _, _, J7, r6, q⟩
        | next => obtain ⟨_, _, _, q⟩ := q6; exact q.elim
        | brk => obtain ⟨_, _, _, q⟩ := q6; exact q.elim
        | cont => obtain ⟨_, _, _, q⟩ := q6; exact q.elim
  · intro f s1 q
    cases f with
    | next =>
      obtain ⟨σ2, H2, J2, q⟩ := q
      exact wpAny_execs_nil ⟨σ2, H2, J2.ofTry good, q⟩
    | brk =>
      obtain ⟨σ2, H2, J2, q⟩ := q
      exact ⟨σ2, H2, J2.ofTry good, q⟩
    | cont =>
      obtain ⟨σ2, H2, J2, q⟩ := q
      exact ⟨σ2, H2, J2.ofTry good, q⟩
    | ret u =>
      obtain ⟨v, σ2, H2, J2, r, q⟩ := q
      exact ⟨v, σ2, H2, J2.ofTry good, r, q⟩
end
abbrev SumE := PyData ⊕ Nat
def clsV (Cs : List Addr) (n : Nat) : Value := match Cs[n]? with
  | some C => .ref C
  | none => .none
/-- a def that gives data or lets an error of the n-th class out -/
def spE (K : PySem.W.Frag) (k : Nat) (Cs : List Addr) (F : List PyData → Option SumE) : Sp := fun vs H Q E => vs.length = k ∧ TsOk K H ∧ ∃ (A : Addr → Prop) (ds : List PyData) (r : SumE), RpA K A H vs ds ∧ (∀ a, A a → H a ≠ none) ∧ F ds = some r ∧
  match r with
  | .inl d => ∀ v H', Kp K H H' → Rp K A H' v d → Q v H'
  | .inr n => ∀ H', Kp K H H' → E (clsV Cs n) none H'
def ePost (K : PySem.W.Frag) (c : Act K) (ρ : Rho) (σ : L2.St) (H : Hp) (Cs : List Addr) (W : WX) (D : Ends) (ρ' : Rho) (o : Out) : Prop := match o with
  | .retL ds => ∃ n : Nat, ds = [.int n] ∧ ∀ σ' H', Rel K c ρ' σ' H' → W (clsV Cs n) none σ' H'
  | o => sPost K c ρ σ H D ρ' o
def tSe (K : PySem.W.Frag) (Cs : List Addr) (W : WX) (b : SF) : TS := fun D σ H => ∃ (c : Act K) (ρ : Rho) (o : Out) (ρ' : Rho), Rel K c ρ σ H ∧ b ρ = some (o, ρ') ∧ ePost K c ρ σ H Cs W D ρ' o
@[simp] def sRaiseE (n : Nat) : SF := fun ρ => some (.retL [.int n], ρ)
/-- an expression that may let an error out -/
abbrev XF := Rho → Option (SumE × Rho)
def tX (K : PySem.W.Frag) (Cs : List Addr) (W : WX) (x : XF) : TE := fun σ H Q => ∃ (c : Act K) (ρ : Rho) (r : SumE) (ρ' : Rho), Rel K c ρ σ H ∧ x ρ = some (r, ρ') ∧
  match r with
  | .inl d => ∀ v H', Rel K c ρ' σ H' → Rp K (Av c ρ' σ) H' v d → Q v H'
  | .inr n => ∀ H', Rel K c ρ' σ H' → W (clsV Cs n) none σ H'
@[simp] def xCall (n : NF) (F : List PyData → Option SumE) : XF := fun ρ => match n ρ with
  | some (ds, ρ1) => (match F ds with
    | some r => some (r, ρ1)
    | none => none)
  | none => none
@[simp] def xIf (t : TF) (x y : XF) : XF := fun ρ => match t ρ with
  | some (true, ρ1) => x ρ1
  | some (false, ρ1) => y ρ1
  | none => none
@[simp] def sRetX (x : XF) : SF := fun ρ => match x ρ with
  | some (.inl d, ρ1) => some (.ret d, ρ1)
  | some (.inr n, ρ1) => some (.retL [.int n], ρ1)
  | none => none
@[simp] def sRetTag (tag : Str) (x : XF) : SF := fun ρ => match x ρ with
  | some (.inl d, ρ1) => some (.ret (.tuple [.str tag, d]), ρ1)
  | some (.inr n, ρ1) => some (.retL [.int n], ρ1)
  | none => none
@[simp] def endE : Option (Out × Rho) → Option SumE
  | some (.ret d, _) => some (.inl d)
  | some (.retL [.int (.ofNat n)], _) => some (.inr n)
  | _ => none
def defE (b : SF) (k m : Nat) : List PyData → Option SumE := fun ds => if ds.length = k then endE (b (rho0 ds m)) else none
theorem defE_len {b : SF} {k m : Nat} : ∀ (ds : List PyData) (r : SumE), defE b k m ds = some r → ds.length = k := fun ds r e => by
  unfold defE at e
  split at e
  · assumption
  · cases e
section
variable {X : Cx} {e a b : Expr} {es : List Expr} {pos p p2 pos2 : Pos} {f g : EF} {tf : TF} {st : Stmt} {sts : List Stmt} {F G' : SF} {Cs : List Addr} {W : WX} {x y : XF} {x1 : Nat}
theorem ese_leaf (h : PS X.nox st (tS X.K F)) (n : NoL F) : PS X st (tSe X.K Cs W F) := ps_of (ps_nox h) fun D σ H ⟨c, ρ, o, ρ', R, e, q⟩ => ⟨c, ρ, o, ρ', R, e, by
  cases o with
  | retL ds => exact absurd e (n _ _ _)
  | _ => exact q⟩
theorem ese_nil : PSs X [] (tSe X.K Cs W sNil) := pss_of pss_nil fun D σ H ⟨c, ρ, o, ρ', R, e, q⟩ => by
  cases e
  exact q σ H R Mv.refl
theorem ePost.pre {K : PySem.W.Frag} {c : Act K} {ρ ρ1 ρ' : Rho} {σ σ1 : L2.St} {H H1 : Hp} {D : Ends} {o : Out} (m : Stp c ρ σ H ρ1 σ1 H1) (p : ePost K c ρ σ H Cs W D ρ' o) : ePost K c ρ1 σ1 H1 Cs W D ρ' o := by
  cases o with
  | retL ds => exact p
  | next => exact sPost.pre (o := .next) (E := D) (ρ' := ρ') m p
  | brk => exact sPost.pre (o := .brk) (E := D) (ρ' := ρ') m p
  | cont => exact sPost.pre (o := .cont) (E := D) (ρ' := ρ') m p
  | ret d => exact sPost.pre (o := .ret d) (E := D) (ρ' := ρ') m p
theorem ese_cons (h1 : PS X st (tSe X.K Cs W F)) (h2 : PSs X sts (tSe X.K Cs W G')) : PSs X (st :: sts) (tSe X.K Cs W (sSeq F G')) := pss_of (pss_cons h1 h2) fun D σ H ⟨c, ρ, o, ρ', R, e, q⟩ => by
  unfold sSeq at e
  split at e
  · rename_i ρ1 e1
    exact ⟨c, ρ, .next, ρ1, R, e1, fun σ1 H1 R1 m1 => ⟨c, ρ1, o, ρ', R1, e, q.pre m1⟩⟩
  · rename_i hn
    refine ⟨c, ρ, o, ρ', R, e, ?_⟩
    cases o with
    | next => exact absurd e (hn ρ')
    | brk => exact q
    | cont => exact q
    | ret d => exact q
    | retL ds => exact q
theorem ese_if {A B : List Stmt} (hc : PT X.nox e (tT X.K tf)) (ha : PSs X A (tSe X.K Cs W F)) (hb : PSs X B (tSe X.K Cs W G')) : PS X (.If e A B pos) (tSe X.K Cs W (sIf tf F G')) := ps_of (ps_if hc.nox ha hb) fun D σ H ⟨c, ρ, o, ρ', R, e, q⟩ => by
  unfold sIf at e
  split at e
  · rename_i ρ1 h1
    exact ⟨c, ρ, true, ρ1, R, h1, fun H' R' m => iteT ⟨c, ρ1, o, ρ', R', e, q.pre m⟩⟩
  · rename_i ρ1 h1
    exact ⟨c, ρ, false, ρ1, R, h1, fun H' R' m => iteF ⟨c, ρ1, o, ρ', R', e, q.pre m⟩⟩
  · cases e
theorem int_nat {n m : Nat} (h : [PyData.int (n : Nat)] = [PyData.int (m : Nat)]) : n = m := by
  simp only [List.cons.injEq, PyData.int.injEq, and_true] at h
  omega
theorem ese_raise {C : Addr} {n : Nat} {cn m : Str} {j : Nat} (hc : X.calm = true) (tk : Takes X W) (q : PySem.W.excIn X.K C [.type "ValueError", .type "Exception", .type "BaseException", .type "object"] "ValueError.__new__" = true) (gC : X.mg cn = some (.ref C)) (kC : PySem.W.keepIn X.K (.ref C) = true) (r : Raises X (.ref C)) (hC : Cs[n]? = some C) (hg : Gl X cn)
    (hdb : (cn == ("__debug__" : Str)) = false := by decide) : PS X (.Raise (some (.Call (.Name cn p) [.Constant (.str m) j p2] [] pos)) none pos2) (tSe X.K Cs W (sRaiseE n)) :=
  ps_of (ps_raise hc tk (pmk_own PySem.F.excBase_ValueError q gC kC r hg hdb)) fun D σ H ⟨c, ρ, o, ρ', R, e, q⟩ => by
    cases e
    obtain ⟨n2, en, q⟩ := q
    cases int_nat en
    have := q σ H R
    unfold clsV at this
    rw [hC] at this
    exact this
theorem pe_xcall {fa : Addr} {fn : Str} {k kk : Nat} {n : NF} {F1 : List PyData → Option SumE} {fd : FuncData} {ps : List Str} (Fo : FnOk X.prog X.w X.K X.mg X.base (L2.CX X.prog X.w) k fa fd ps (spE X.K kk Cs F1)) (hlen : ∀ ds r, F1 ds = some r → ds.length = kk) (hr : Room k X.A) (hg : Gl X fn) (hm : X.mg fn = some (.ref fa)) (hkp : PySem.W.keepIn X.K (.ref fa) = true) (hb : L2.Binds X.K fd ps []) (tk : Takes X W)
    (ha : PA X (e :: es) (tA X.K n)) (hdb : (fn == ("__debug__" : Str)) = false := by decide) (he : starEach (e :: es) X.env = (false, eval e X.env) :: starEach es X.env := by rfl) (hpl : (backTo pos (starEach es X.env)).any (·.1) = false := by rfl) :
    PE X (.Call (.Name fn p) (e :: es) [] pos) (tX X.K Cs W (xCall n F1)) :=
  pe_of (pe_callS Fo hr hg hm hkp hb (fun σ => passAt tk σ) ha hdb he hpl) fun σ H Q ⟨c, ρ, r, ρ', R, e, q⟩ => by
    unfold xCall at e
    split at e
    · rename_i ds ρ1 h1
      split at e
      · rename_i r1 hF
        cases e
        refine ⟨c, ρ, ds, ρ', R, h1, fun vs H1 R1 rv m1 => ⟨rv.length.trans (hlen _ _ hF), R1.ts, Av c ρ' σ, ds, r, rv, fun a z => R1.avS z, hF, ?_⟩⟩
        cases r with
        | inl d => exact fun v H' kp r' => q v H' (R1.grow kp) r'
        | inr n => exact fun H' kp => q H' (R1.grow kp)
      · cases e
    · cases e
theorem ese_rettag {tag : Str} {j : Nat} {p1 : Pos} (h : PE X e (tX X.K Cs W x)) (h1 : starEach [e] X.env = (false, eval e X.env) :: starEach [] X.env := by rfl) (h2 : starEach [.Constant (.str tag) j p1, e] X.env = (false, eval (.Constant (.str tag) j p1) X.env) :: starEach [e] X.env := by rfl) : PS X (.Return (some (.Tuple [.Constant (.str tag) j p1, e] x1 p)) pos) (tSe X.K Cs W (sRetTag tag x)) := ps_of (ps_ret (pe_tup (pa_cons pe_str (pa_cons h pa_nil h1) h2))) fun D σ H ⟨c, ρ, o, ρ', R, e, q⟩ => by
  unfold sRetTag at e
  split at e
  · rename_i d ρ1 h1
    cases e
    exact ⟨c, ρ, .inl d, ρ', R, h1, fun v H' R' r' => ⟨(show 2 ≤ sizeLine by decide), fun pp hp => q _ σ _ (R'.alloc hp).1 ((R'.newTup hp (.cons (.str tag) (.cons r' .nil))).mv av_sub)⟩⟩
  · rename_i n ρ1 h1
    cases e
    obtain ⟨n2, en, q⟩ := q
    cases int_nat en
    exact ⟨c, ρ, .inr n, ρ', R, h1, fun H' R' => q σ H' R'⟩
  · cases e
end
section
variable {P : Program} {w : World} {K : PySem.W.Frag} {mg : Str → Option Value} {base : Heap} {x qual : Str} {st : Stmt} {fa : Addr} {fd : FuncData} {N ps : List Str} {j k m : Nat} {b : SF} {Cs : List Addr}
theorem ok_E (F : L2.Fun K x qual st fa fd) (S : FnScope N ps (defScope st)) (hk : ps.length = k) (hm : k + m = N.length)
    (hb : ∀ (cdv : Value) (A : Around) (outer : List Env) (s : Shared) (H : Hp) (E : XK), Room j (A.deeper (envOfC qual (defScope st) s.heap.objs.size fa cdv)) →
      Takes (cxOf (L2.CX P w) P w K mg base N qual (defScope st) fa cdv A outer s H E) (fun cls d _ H => E cls d H) →
      PSs (cxOf (L2.CX P w) P w K mg base N qual (defScope st) fa cdv A outer s H E) (defBody st) (tSe K Cs (fun cls d _ H => E cls d H) b)) :
    FnOk P w K mg base (L2.CX P w) (j + 1) fa fd ps (spE K k Cs (defE b k m)) := by
  refine F.okX S (fun vs H Q E h => h.1.trans hk.symm) fun cdv A outer s H vs Q E hr h => ?_
  obtain ⟨hl, ht, A', ds, r, ra, hA, e, q⟩ := h
  refine ⟨_, hb cdv A outer s H E hr (takes_of rfl rfl rfl rfl), ?_⟩
  have R := rel_start (m := m) (N := N) ht ra hA (by omega)
  unfold defE at e
  split at e
  · cases eb : b (rho0 ds m) with
    | none => rw [eb] at e; cases e
    | some z =>
      obtain ⟨o, ρ'⟩ := z
      rw [eb] at e
      have kp : ∀ σ' H', Rel K ⟨A', H, fun _ => none, ht, fun _ _ z => nomatch z⟩ ρ' σ' H' → Kp K H H' := fun σ' H' R' => ⟨fun a o h => R'.old a o h fun i z => (nomatch z), R'.on, fun _ => R'.nt⟩
      refine ⟨_, rho0 ds m, o, ρ', R, eb, ?_⟩
      cases o with
      | next => cases e
      | brk => cases e
      | cont => cases e
      | ret d => cases e; exact fun v σ' H' R' r' => q v H' (kp σ' H' R') r'
      | retL es =>
        match es, e with
        | [.int (.ofNat n)], e =>
          cases e
          exact ⟨n, rfl, fun σ' H' R' => q H' (kp σ' H' R')⟩
        | [.int (.negSucc n)], e => cases e
        | [.none], e => cases e
        | [.bool _], e => cases e
        | [.str _], e => cases e
        | [.list _], e => cases e
        | [.tuple _], e => cases e
        | [.dict _], e => cases e
        | [], e => cases e
        | _ :: _ :: _, e => simp [endE] at e
  · cases e
end
/-! the try -/
def sTryE (i : Nat) (b : SF) (ans : List Str) : SF := fun ρ => match b ρ with
  | some (.retL [.int n], ρ1) => if 0 ≤ n ∧ i < ρ1.length then (ans[n.toNat]?).map fun s => (.ret (.str s), ρ1) else none
  | some (.retL _, _) => none
  | r => r
def tAns (i : Nat) (C : Addr) (s : Str) : Cl := fun a cls d D σ H => cls = .ref C ∧ d = none ∧ σ[i]? = some (some (.ref a)) ∧ D.rt (.str s) H
def tKn (i : Nat) (a : Addr) (b : Bool) : TE := fun σ H Q => σ[i]? = some (some (.ref a)) ∧ Q (.bl b) H
section
variable {X : Cx} {n : Str} {i : Nat} {body : List Stmt} {h₀ : ExceptHandler} {hds : List ExceptHandler} {l : List (Value × Cl)} {pos p : Pos} {b : SF} {Cs : List Addr} {ans : List Str} {a C : Addr} {oe : Obj} {pn : List (Addr × Obj)} {c e e2 : Expr} {rest : List Expr} {cv : Value} {cV : V} {k : Bool}
theorem pe_isK (T : ExcC X.K C) (hz : Zc (.ref C) none oe) (hf : ∃ vs, oe.data = .fields vs) (hg : Gl X "isinstance") (hm : X.mg "isinstance" = none) (hv : PE (X.suite a ((a, oe) :: pn)) e (tVar i)) (hc : PE (X.suite a ((a, oe) :: pn)) c (tC cV)) (hcv : ∀ u, RelV cV u → u = cv) (hk : PySem.W.kitOne X.K (.ref C) cv = some k)
    (he : starEach [e, c] X.env = (false, eval e X.env) :: starEach [c] X.env := by rfl) (he2 : starEach [c] X.env = (false, eval c X.env) :: starEach [] X.env := by rfl) (hpl : (backTo pos (starEach [c] X.env)).any (·.1) = false := by rfl) :
    PE (X.suite a ((a, oe) :: pn)) (.Call (.Name "isinstance" p) [e, c] [] pos) (tKn i a k) :=
  pe_of (pe_callB (call_isE T hz hf) hg hm (by rfl) (pa_cons hv (pa_cons hc pa_nil he2) he) (by decide) (by decide) he hpl) fun σ H Q ⟨hs, q⟩ => ⟨.ref a, hs, cV, cv, k, rfl, hcv, hk, q⟩
theorem kn_and (h1 : PE X e (tKn i a true)) (h2 : PE X (.BoolOp .And (e2 :: rest) pos) (tKn i a k)) : PE X (.BoolOp .And (e :: e2 :: rest) pos) (tKn i a k) :=
  pe_of (pe_and h1 h2) fun σ H Q ⟨hs, q⟩ => ⟨hs, true, rfl, by rw [if_pos rfl]; exact ⟨hs, q⟩⟩
theorem kn_one (h1 : PE X e (tKn i a k)) : PE X (.BoolOp .And [e] pos) (tKn i a k) := pe_one h1
theorem kn_not (h1 : PE X e (tKn i a k)) : PE X (.UnaryOp .Not e pos) (tKn i a (!k)) :=
  pe_of (pe_not h1) fun σ H Q ⟨hs, q⟩ => ⟨hs, k, rfl, q⟩
end
end PG
end
section
set_option Elab.async false
set_option linter.all false
set_option maxRecDepth 100000
set_option maxHeartbeats 1000000
namespace PG
open PySem PySem.Spec PyProof.Rows L2 GenW GxR
/-! ### the place of an item in an owned list -/
@[simp] def eIdxO (i : Nat) (f : EF) : EF := fun ρ => match ρ[i]? with
  | some (some (.l _ _)) => (match f ρ with
    | some (d, ρ1) => (match ρ1[i]? with
      | some (some (.l _ ds)) => (match dIdxR ds d with
        | some z => some (z, ρ1)
        | none => none)
      | _ => none)
    | none => none)
  | _ => none
@[simp] def dIdxV : PyData → PyData → Option PyData
  | .list ds, d => dIdxR ds d
  | _, _ => none
section
variable {X : Cx} {e o : Expr} {apos cpos : Pos} {f : EF} {i : Nat}
end
/-! what a suite asks of the error, as tests -/
def tKt (i : Nat) (a : Addr) (b : Bool) : TT := fun σ H Q => σ[i]? = some (some (.ref a)) ∧ Q b H
section
variable {X : Cx} {a : Addr} {i : Nat} {e e2 : Expr} {rest : List Expr} {pos : Pos} {k : Bool}
end
end PG
end
section
set_option Elab.async false
set_option linter.all false
set_option maxRecDepth 100000
set_option maxHeartbeats 1000000
namespace PG
open PySem PySem.Spec PyProof.Rows L2
/-! ### dicts as values: made by a comprehension, read -/
def putD (acc : List (Key × PyData)) (k : Key) (d : PyData) : List (Key × PyData) := if (acc.any fun kv => decide (kv.1 = k)) = true then acc.map (fun kv => if kv.1 = k then (kv.1, d) else kv) else acc ++ [(k, d)]
def keyD1 : PyData → Option Key
  | .int i => some (.inl i)
  | .str x => some (.inr x)
  | _ => none
/-- the dict that holds these -/
def dv (kvs : List (Key × PyData)) : PyData := DV (kvs.map (·.1)) (kvs.map (·.2))
def KR (K : PySem.W.Frag) (A : Addr → Prop) (H : Hp) : List (Key × V) → List (Key × PyData) → Prop
  | [], [] => True
  | u :: us, d :: ds => u.1 = d.1 ∧ Rp K A H u.2 d.2 ∧ KR K A H us ds
  | _, _ => False
section
variable {K : PySem.W.Frag} {A A' : Addr → Prop} {H H' : Hp}
theorem KR.mv (m : Mv A H A' H') : ∀ {us : List (Key × V)} {ds : List (Key × PyData)}, KR K A H us ds → KR K A' H' us ds
  | [], [], _ => trivial
  | _ :: _, _ :: _, h => ⟨h.1, h.2.1.mv m, KR.mv m h.2.2⟩
  | [], _ :: _, h => h.elim
  | _ :: _, [], h => h.elim
theorem KR.length : ∀ {us : List (Key × V)} {ds : List (Key × PyData)}, KR K A H us ds → us.length = ds.length
  | [], [], _ => rfl
  | _ :: _, _ :: _, h => by rw [List.length_cons, List.length_cons, KR.length h.2.2]
  | [], _ :: _, h => h.elim
  | _ :: _, [], h => h.elim
theorem KR.any {k : Key} : ∀ {us : List (Key × V)} {ds : List (Key × PyData)}, KR K A H us ds → (us.any fun kv => decide (kv.1 = k)) = ds.any fun kv => decide (kv.1 = k)
  | [], [], _ => rfl
  | _ :: _, _ :: _, h => by rw [List.any_cons, List.any_cons, KR.any h.2.2, h.1]
  | [], _ :: _, h => h.elim
  | _ :: _, [], h => h.elim
theorem KR.over {k : Key} {v : V} {d : PyData} (r : Rp K A H v d) : ∀ {us : List (Key × V)} {ds : List (Key × PyData)}, KR K A H us ds → KR K A H (us.map fun kv => if kv.1 = k then (kv.1, v) else kv) (ds.map fun kv => if kv.1 = k then (kv.1, d) else kv)
  | [], [], _ => trivial
  | u :: _, e :: _, h => by
    by_cases hk : e.1 = k
    · have hu : u.1 = k := h.1.trans hk
      refine ⟨?_, ?_, KR.over r h.2.2⟩
      · simp only [if_pos hk, if_pos hu]; exact h.1
      · simp only [if_pos hk, if_pos hu]; exact r
    · have hu : ¬ u.1 = k := fun z => hk (h.1.symm.trans z)
      refine ⟨?_, ?_, KR.over r h.2.2⟩
      · simp only [if_neg hk, if_neg hu]; exact h.1
      · simp only [if_neg hk, if_neg hu]; exact h.2.1
  | [], _ :: _, h => h.elim
  | _ :: _, [], h => h.elim
theorem KR.fst : ∀ {us : List (Key × V)} {ds : List (Key × PyData)}, KR K A H us ds → us.map (·.1) = ds.map (·.1)
  | [], [], _ => rfl
  | _ :: _, _ :: _, h => by rw [List.map_cons, List.map_cons, KR.fst h.2.2, h.1]
  | [], _ :: _, h => h.elim
  | _ :: _, [], h => h.elim
theorem KR.snd : ∀ {us : List (Key × V)} {ds : List (Key × PyData)}, KR K A H us ds → RpA K A H (us.map (·.2)) (ds.map (·.2))
  | [], [], _ => .nil
  | _ :: _, _ :: _, h => .cons h.2.1 (KR.snd h.2.2)
  | [], _ :: _, h => h.elim
  | _ :: _, [], h => h.elim
theorem KR.rp {a : Addr} {us : List (Key × V)} {ds : List (Key × PyData)} (h : KR K A H us ds) (hd : DAt A H a us) : Rp K A H (.ref a) (dv ds) := by
  have := Rp.dct (K := K) hd h.snd
  rw [h.fst] at this
  exact this
end
theorem noCd_dK {kvs : List (Key × V)} : ¬ IsCd (.dK kvs) := fun t => by rcases t with ⟨ps, z⟩ | ⟨c, q, z⟩ <;> cases z
def dcompL (g : GF) (t : TF) (ek ev : EF) (vs : List Nat) : List PyData → List (Key × PyData) → Rho → Option (List (Key × PyData) × Rho)
  | [], acc, ρ => some (acc, ρ)
  | d :: ds, acc, ρ => match g d ρ with
    | none => none
    | some ρ1 => match t ρ1 with
      | none => none
      | some (false, ρ2) => if plainAt ρ2 vs then dcompL g t ek ev vs ds acc (wipeR ρ2 vs) else none
      | some (true, ρ2) => match ek ρ2 with
        | none => none
        | some (yk, ρ3) => match ev ρ3 with
          | none => none
          | some (y, ρ4) => match keyD1 yk with
            | none => none
            | some k => if plainAt ρ4 vs && decide (acc.length < 16777216) then dcompL g t ek ev vs ds (putD acc k y) (wipeR ρ4 vs) else none
/-- {k: v for x in it if t}, as a value -/
def eDComp (it : NF) (g : GF) (t : TF) (ek ev : EF) (vs : List Nat) : EF := fun ρ => match it ρ with
  | some (ds, ρ1) => if plainAt ρ1 vs then (match dcompL g t ek ev vs ds [] (wipeR ρ1 vs) with
    | some (out, ρ2) => some (dv out, restR ρ1 ρ2 vs)
    | none => none) else none
  | none => none
section
variable {X : Cx} {e a b : Expr} {pos : Pos} {f f2 g h : EF} {tf tg : TF} {n m : NF} {es : List Expr}
end
end PG
end
section
set_option Elab.async false
set_option linter.all false
set_option maxRecDepth 100000
set_option maxHeartbeats 1000000
namespace PG
open PySem PySem.Spec PyProof.Rows L2
/-! ### closures: cells shown to a callee, hidden from one -/
mutual
/-- holds no def -/
def noFn : PyData → Bool
  | .none => true
  | .bool _ => true
  | .int _ => true
  | .str _ => true
  | .list ds => noFnA ds
  | .tuple ds => noFnA ds
  | .dict [(.list _, .none)] => true
  | .dict _ => false
def noFnA : List PyData → Bool
  | [] => true
  | d :: ds => noFn d && noFnA ds
end
abbrev Cel := Addr × Obj × V
def shade (S : List Cel) (H : Hp) : Hp := fun b => match S.find? fun x => decide (x.1 = b) with
  | some x => some (.frz x.2.1 (CelO x.1 x.2.2))
  | none => H b
def unshade (S : List Cel) (H : Hp) : Hp := fun b => match S.find? fun x => decide (x.1 = b) with
  | some _ => none
  | none => H b
/-- they are cells of this heap -/
def CelsAt (S : List Cel) (h : Heap) : Prop := ∀ x ∈ S, h.get? x.1 = some x.2.1 ∧ ∃ u, RelV x.2.2 u ∧ x.2.1.data = .cell (some u)
/-- they are tracked -/
def CelsIn (S : List Cel) (H : Hp) : Prop := ∀ x ∈ S, H x.1 = some (.frz x.2.1 (CelO x.1 x.2.2))
def CelsNo (S : List Cel) (H : Hp) : Prop := ∀ x ∈ S, H x.1 = none
section
variable {S : List Cel} {H H' : Hp} {h h' : Heap} {P : Program} {w : World} {K : PySem.W.Frag} {A : Addr → Prop} {fs : List Addr}
theorem find_mem {b : Addr} {x : Cel} (e : S.find? (fun x => decide (x.1 = b)) = some x) : x ∈ S ∧ x.1 = b := ⟨List.mem_of_find?_eq_some e, by simpa using List.find?_some e⟩
theorem unshade_out {b : Addr} (n : ∀ x ∈ S, x.1 ≠ b) : unshade S H b = H b := by
  unfold unshade
  split
  · rename_i x hx
    obtain ⟨h1, h2⟩ := find_mem hx
    exact absurd h2 (n x h1)
  · rfl
/-- tracked, they are there -/
theorem CelsIn.at (c : CelsIn S H) (ok : HOk P w H h) : ∀ x ∈ S, h.get? x.1 = some x.2.1 ∧ ∃ u, RelV x.2.2 u ∧ h.IsCell x.1 (some u) := fun x hx => by
  obtain ⟨e, ⟨u, r, z⟩, _⟩ := ok x.1 _ (c x hx)
  exact ⟨e, u, r, z⟩
mutual
/-- what holds no def does not see the cells -/
theorem Rp.un (c : CelsIn S H) : ∀ (d : PyData) (v : V), Rp K A H v d → noFn d = true → Rp K A (unshade S H) v d
  | .none, _, h, _ => by cases h; exact .non
  | .bool b, _, h, _ => by cases h; exact .bl b
  | .int i, _, h, _ => by cases h; exact .int i
  | .str x, _, h, _ => by cases h; exact .str x
  | .list ds, _, h, n => by
    cases h with
    | lst l r => exact .lst ⟨by rw [unshade_out fun x hx z => by subst z; have := l.1; rw [c x hx] at this; cases this]; exact l.1, l.2⟩ (RpA.un c ds _ r (by simpa only [noFn] using n))
  | .tuple ds, _, h, n => by
    cases h with
    | tup l r =>
      refine .tup ?_ (RpA.un c ds _ r (by simpa only [noFn] using n))
      rcases l with ⟨l, k⟩ | l
      · refine .inl ⟨?_, k⟩
        rcases l with l | ⟨o, l⟩
        · exact .inl (by rw [unshade_out fun x hx z => by subst z; rw [c x hx] at l; cases l]; exact l)
        · exact .inr ⟨o, by rw [unshade_out fun x hx z => by subst z; rw [c x hx] at l; cases l]; exact l⟩
      · exact .inr l
  | .dict [(.list _, .none)], _, h, n => by
    cases h with
    | ro l f =>
      refine .ro ?_ f
      rcases l with ⟨l, k⟩ | l
      · refine .inl ⟨?_, k⟩
        rcases l with l | ⟨o, l⟩
        · exact .inl (by rw [unshade_out fun x hx z => by subst z; rw [c x hx] at l; cases l]; exact l)
        · exact .inr ⟨o, by rw [unshade_out fun x hx z => by subst z; rw [c x hx] at l; cases l]; exact l⟩
      · exact .inr l
  | .dict [(.str _, .tuple _)], _, _, n => by cases n
  | .dict [(.int _, .none)], _, _, n => by cases n
  | .dict [(.str _, .list _)], _, _, n => by cases n
  | .dict [(.none, .tuple _), (.none, .tuple _)], _, _, n => by cases n
theorem RpA.un (c : CelsIn S H) : ∀ (ds : List PyData) (vs : List V), RpA K A H vs ds → noFnA ds = true → RpA K A (unshade S H) vs ds
  | [], _, h, _ => by cases h; exact .nil
  | d :: ds, _, h, n => by
    cases h with
    | cons h1 h2 =>
      simp only [noFnA, Bool.and_eq_true] at n
      exact .cons (Rp.un c d _ h1 n.1) (RpA.un c ds _ h2 n.2)
end
end
end PG
end
section
set_option Elab.async false
set_option linter.all false
set_option maxRecDepth 100000
set_option maxHeartbeats 1000000
namespace PG
open PySem PySem.Spec PyProof.Rows L2
/-! ### a def within a def: made, handed to a def, called there -/
/-- st is the def that stands in the def x -/
def NestAt (K : PySem.W.Frag) (x : Str) (st : Stmt) : Prop := ∃ (y : Str) (i : Nat) (f : Addr) (o : Obj) (fd : FuncData), holdS x = y ∧ holdI x = i ∧ PySem.W.nsIn K mainGlobals y = some (some (.ref f)) ∧ K.lookup f = some o ∧ o.data = .func fd ∧ (nestDefs fd.body)[i]? = some st
theorem IsNest.st {K : PySem.W.Frag} {x : Str} {st : Stmt} {F : NdefX.NF} (h : IsNest K x F) (a : NestAt K x st) : F = NdefX.NF.of st F.name F.qual F.cl F.c := by
  obtain ⟨f, o, fd, st', h1, h2, h3, h4, h5⟩ := h.ex
  obtain ⟨y, i, f', o', fd', rfl, rfl, g1, g2, g3, g4⟩ := a
  rw [h1] at g1
  cases g1
  rw [h2] at g2
  cases g2
  rw [h3] at g3
  cases g3
  rw [h4] at g4
  cases g4
  exact h5
/-- the tables of all such defs -/
def nsT (K : PySem.W.Frag) : List NdefX.NTab := nestNames.filterMap fun x => (PySem.W.tabIn K x.1).map fun y => (y.2, nmAt K x)
def posOf (s : Stmt) : Pos := match defPos s with
  | some (_, p) => p
  | none => ⟨0, 0, 0, 0⟩
@[simp] def sNdef (i : Nat) (x : Str) (cl : List (Str × Addr)) : SF := fun ρ => match setV i (FN0 x cl) ρ with
  | some ρ2 => some (.next, ρ2)
  | none => none
section
variable {X : Cx}
end
/-! #### handed over -/
def decCl : List PyData → Option (List (Str × Addr))
  | [] => some []
  | .tuple [.str y, .int n] :: r => (decCl r).map fun l => (y, n.toNat) :: l
  | _ => none
def subF (x : Str) (cl : List (Str × Addr)) (cs : List PyData) : PyData → PyData
  | .dict [(.str y, .list l)] => if y = x ∧ decCl l = some cl then FN x cs else .dict [(.str y, .list l)]
  | d => d
def capsOf (ρ : Rho) : List Nat → Option (List PyData)
  | [] => some []
  | j :: js => match ρ[j]? with
    | some (some (.v d)) => (capsOf ρ js).map fun l => d :: l
    | _ => none
@[simp] def eCallC (F : List PyData → Option PyData) (x : Str) (cl : List (Str × Addr)) (js : List Nat) (f : NF) : EF := fun ρ => match f ρ with
  | some (ds, ρ1) => (match capsOf ρ1 js with
    | some cs => (match F (ds.map (subF x cl cs)) with
      | some z => if noFn z then some (z, ρ1) else none
      | none => none)
    | none => none)
  | none => none
open Classical in
section
variable {X : Cx} {e : Expr} {es : List Expr} {n : NF} {F1 : List PyData → Option PyData} {k j : Nat} {fa : Addr} {fd : FuncData} {ps : List Str} {x y : Str} {p pos : Pos} {st : Stmt} {js : List Nat}
end
end PG
end
section
set_option Elab.async false
set_option linter.all false
set_option maxRecDepth 100000
set_option maxHeartbeats 1000000
namespace PG
open PySem PySem.Spec PyProof.Rows L2
/-! ### a def that was handed over is called -/
def spF (K : PySem.W.Frag) (k : Nat) (G : List PyData → List PyData → Option PyData) : List (Option V) → Sp := fun ws vs H Q _ => vs.length = k ∧ TsOk K H ∧ ∃ (A : Addr → Prop) (ds : List PyData) (wv : List V) (cs : List PyData) (r : PyData), ws = wv.map some ∧ RpA K A H wv cs ∧ RpA K A H vs ds ∧ (∀ a, A a → H a ≠ none) ∧ G cs ds = some r ∧
  ∀ v H', Kp K H H' → Rp K A H' v r → Q v H'
/-- the def within x does G -/
structure NestP (P : Program) (w : World) (K : PySem.W.Frag) (mg : Str → Option Value) (base : Heap) (j : Nat) (x : Str) (G : List PyData → List PyData → Option PyData) : Prop where
  ex : ∃ ps : List Str, (∀ cs ds r, G cs ds = some r → ds.length = ps.length) ∧ ∀ (F : NdefX.NF) (f : Addr), IsNest K x F → NdefX.NOk P w K mg base CX0 j f F ps (freeOf F.scope) (spF K ps.length G)
abbrev NTb := Str → Option (List PyData → List PyData → Option PyData)
@[simp] def eCallV (T : NTb) (i : Nat) (f : NF) : EF := fun ρ => match ρ[i]? with
  | some (some (.v (.dict [(.str x, .tuple cs)]))) => (match f ρ with
    | some (ds, ρ1) => if noFnA ds && noFnA cs then (match T x with
      | some G => (match G cs ds with
        | some z => some (z, ρ1)
        | none => none)
      | none => none) else none
    | none => none)
  | _ => none
section
variable {X : Cx} {e : Expr} {es : List Expr} {n : NF} {j i : Nat} {nm : Str} {p pos : Pos} {T : NTb}
end
/-! ### the body of a def within a def -/
def defF (b : SF) (k nf m : Nat) : List PyData → List PyData → Option PyData := fun cs ds => if ds.length = k ∧ cs.length = nf then defP b (k + nf) m (ds ++ cs) else none
section
variable {P : Program} {w : World} {K : PySem.W.Frag} {mg : Str → Option Value} {base : Heap} {x : Str} {st : Stmt} {N ps fr : List Str} {j k m nf : Nat} {b : SF}
end
/-! ### a def that holds a def -/
open Classical in
/-- what it gives, wherever its cells may stand -/
noncomputable def defU (b : List (Str × Addr) → SF) (k m : Nat) : List PyData → Option PyData := fun ds => if h : ∃ d, ∀ cl, defP (b cl) k m ds = some d then some h.choose else none
theorem NestP.mono {P : Program} {w : World} {K : PySem.W.Frag} {mg : Str → Option Value} {base : Heap} {i j : Nat} {x : Str} {G : List PyData → List PyData → Option PyData} (n : NestP P w K mg base i x G) (h : i ≤ j) : NestP P w K mg base j x G := by
  obtain ⟨ps, h1, h2⟩ := n.ex
  exact ⟨ps, h1, fun F f hF => (h2 F f hF).mono h⟩
section
variable {P : Program} {w : World} {K : PySem.W.Frag} {mg : Str → Option Value} {base : Heap} {x qual : Str} {st : Stmt} {fa cc p : Addr} {fd : FuncData} {N ps : List Str} {j k m : Nat} {b : List (Str × Addr) → SF} {F1 : List PyData → Option PyData}
end
end PG
end
section
set_option Elab.async false
set_option linter.all false
set_option maxRecDepth 100000
set_option maxHeartbeats 1000000
namespace PG
open PySem PySem.Spec PyProof.Rows L2
/-! ### d[k] of a dict that is a value; xs.pop(); three new lists at once -/
def lookD : List PyData → List PyData → Key → Option PyData
  | k :: ks, d :: ds, q => if keyD1 k = some q then some d else lookD ks ds q
  | _, _, _ => none
def dGetV : PyData → PyData → Option PyData
  | .dict [(.none, .tuple ks), (.none, .tuple ds)], y => (match keyD1 y with
    | some q => lookD ks ds q
    | none => none)
  | _, _ => none
section
variable {X : Cx} {a b e : Expr} {pos : Pos} {f g : EF} {es : List Expr} {n : NF}
end
/-- xs.pop() of an owned list -/
def ePop (i : Nat) : EF := fun ρ => match ρ[i]? with
  | some (some (.l p ds)) => (match ds[ds.length - 1]? with
    | some d => some (d, ρ.set i (some (.l p ds.dropLast)))
    | none => none)
  | _ => none
section
variable {X : Cx} {a : Expr} {i : Nat}
/-- a, b, c = [], [], [] -/
def sNil3 (i j l : Nat) : SF := fun ρ => match setL i [] ρ with
  | some ρ1 => (match setL j [] ρ1 with
    | some ρ2 => (match setL l [] ρ2 with
      | some ρ3 => some (.next, ρ3)
      | none => none)
    | none => none)
  | none => none
end
end PG
end
section
set_option Elab.async false
set_option linter.all false
set_option maxRecDepth 100000
set_option maxHeartbeats 1000000
namespace PG
open PySem PySem.Spec PyProof.Rows L2
/-! ### lists within lists: what stands at known addresses beside the frame's own -/
inductive GO where
  | lst (ds : List PyData)
  | dk (kvs : List (Key × PyData))
abbrev Gam := List GO
def GRel (K : PySem.W.Frag) (A : Addr → Prop) (H : Hp) (b : Addr) : GO → Prop
  | .lst ds => ∃ vs, H b = some (.lst vs) ∧ RpA K A H vs ds
  | .dk kvs => ∃ us, H b = some (.dK us) ∧ KR K A H us kvs
def GAll (K : PySem.W.Frag) (A : Addr → Prop) (H : Hp) : List Addr → Gam → Prop
  | [], [] => True
  | b :: bs, u :: us => GRel K A H b u ∧ GAll K A H bs us
  | _, _ => False
section
variable {K : PySem.W.Frag} {A A' : Addr → Prop} {H H' : Hp} {b : Addr} {u : GO}
theorem GRel.there (r : GRel K A H b u) : ∃ o, H b = some o ∧ ¬ IsCd o ∧ NoTb o := by
  cases u with
  | lst ds => obtain ⟨vs, e, _⟩ := r; exact ⟨_, e, (fun t => by rcases t with ⟨ps, z⟩ | ⟨c, q, z⟩ <;> cases z), noTb_lst⟩
  | dk kvs => obtain ⟨us, e, _⟩ := r; exact ⟨_, e, noCd_dK, noTb_dK⟩
theorem GRel.mv (m : Mv A H A' H') (e : H' b = H b) (r : GRel K A H b u) : GRel K A' H' b u := by
  cases u with
  | lst ds => obtain ⟨vs, e1, r⟩ := r; exact ⟨vs, e.trans e1, r.mv m⟩
  | dk kvs => obtain ⟨us, e1, r⟩ := r; exact ⟨us, e.trans e1, r.mv m⟩
theorem GAll.mv (m : Mv A H A' H') : ∀ {bs : List Addr} {γ : Gam}, (∀ b ∈ bs, H' b = H b) → GAll K A H bs γ → GAll K A' H' bs γ
  | [], [], _, _ => trivial
  | b :: bs, u :: us, e, g => ⟨g.1.mv m (e b (by simp)), GAll.mv m (fun x hx => e x (by simp [hx])) g.2⟩
  | [], _ :: _, _, g => g.elim
  | _ :: _, [], _, g => g.elim
theorem GAll.there : ∀ {bs : List Addr} {γ : Gam}, GAll K A H bs γ → ∀ b ∈ bs, ∃ o, H b = some o ∧ ¬ IsCd o ∧ NoTb o
  | [], _, _, b, hb => by cases hb
  | b :: bs, [], g, _, _ => g.elim
  | b :: bs, u :: us, g, x, hx => by
    rcases List.mem_cons.mp hx with rfl | hx
    · exact g.1.there
    · exact GAll.there g.2 x hx
theorem GAll.at : ∀ {bs : List Addr} {γ : Gam} {i : Nat} {u : GO}, GAll K A H bs γ → γ[i]? = some u → ∃ b, bs[i]? = some b ∧ GRel K A H b u
  | [], [], _, _, _, e => by simp at e
  | b :: bs, u :: us, 0, v, g, e => by simp at e; subst e; exact ⟨b, rfl, g.1⟩
  | b :: bs, u :: us, i + 1, v, g, e => by
    obtain ⟨c, h1, h2⟩ := GAll.at (i := i) g.2 (by simpa using e)
    exact ⟨c, by simpa using h1, h2⟩
  | [], _ :: _, _, _, g, _ => g.elim
  | _ :: _, [], _, _, g, _ => g.elim
/-- one of them is another -/
theorem GAll.set (m : Mv A H A' H') : ∀ {bs : List Addr} {γ : Gam} {i : Nat} {b : Addr} {u : GO}, bs.Nodup → bs[i]? = some b → (∀ x ∈ bs, x ≠ b → H' x = H x) → GRel K A' H' b u → GAll K A H bs γ → GAll K A' H' bs (γ.set i u)
  | [], [], _, _, _, _, _, _, _, _ => trivial
  | c :: bs, v :: us, 0, b, u, nd, e, k, r, g => by
    simp at e
    subst e
    exact ⟨r, GAll.mv m (fun x hx => k x (by simp [hx]) fun z => (List.nodup_cons.mp nd).1 (z ▸ hx)) g.2⟩
  | c :: bs, v :: us, i + 1, b, u, nd, e, k, r, g => by
    have e' : bs[i]? = some b := by simpa using e
    refine ⟨g.1.mv m (k c (by simp) fun z => (List.nodup_cons.mp nd).1 (z ▸ List.mem_of_getElem? e')), ?_⟩
    exact GAll.set m (List.nodup_cons.mp nd).2 e' (fun x hx => k x (by simp [hx])) r g.2
  | [], _ :: _, _, _, _, _, _, _, _, g => g.elim
  | _ :: _, [], _, _, _, _, _, _, _, g => g.elim
end
structure RelG (K : PySem.W.Frag) (c : Act K) (bs : List Addr) (ρ : Rho) (γ : Gam) (σ : L2.St) (H : Hp) : Prop where
  r : Rel K c ρ σ H
  a : ∀ b ∈ bs, c.A b ∧ c.H0 b = none ∧ ∀ i, c.pn i ≠ some b
  g : GAll K (Av c ρ σ) H bs γ
  nd : bs.Nodup
section
variable {K : PySem.W.Frag} {ρ ρ' : Rho} {σ σ' : L2.St} {H H' : Hp} {bs : List Addr} {γ γ' : Gam}
theorem av_eq {c c1 : Act K} (h : c1.A = c.A) : Av c1 ρ σ = Av c ρ σ := by
  funext a
  show (c1.A a ∨ Own ρ σ a) = (c.A a ∨ Own ρ σ a)
  rw [h]
/-- for a while they are told as what stays -/
theorem memo_all : ∀ (bs : List Addr) (c : Act K), Rel K c ρ σ H → (∀ b ∈ bs, c.A b ∧ c.H0 b = none ∧ ∀ i, c.pn i ≠ some b) → (∀ b ∈ bs, ∃ o, H b = some o ∧ NoTb o) → bs.Nodup →
    ∃ c1 : Act K, c1.A = c.A ∧ (∀ a, c1.H0 a = none → c.H0 a = none) ∧ Rel K c1 ρ σ H ∧ ∀ ρ' σ' H', Rel K c1 ρ' σ' H' → Rel K c ρ' σ' H' ∧ ∀ b ∈ bs, H' b = H b
  | [], c, R, _, _, _ => ⟨c, rfl, fun _ h => h, R, fun _ _ _ R' => ⟨R', fun _ z => nomatch z⟩⟩
  | b :: bs, c, R, ha, hm, nd => by
    obtain ⟨o, hb, ht⟩ := hm b (by simp)
    obtain ⟨hA, h0, hp⟩ := ha b (by simp)
    obtain ⟨c1, e1, e2, R1, back⟩ := memo_all bs (c.mem b o h0) (R.memo h0 hA hb) (fun x hx => by
      obtain ⟨w1, w2, w3⟩ := ha x (by simp [hx])
      refine ⟨w1, ?_, w3⟩
      show upd c.H0 b o x = none
      rw [upd_ne (show x ≠ b from fun z => by subst z; exact (List.nodup_cons.mp nd).1 hx)]
      exact w2) (fun x hx => hm x (by simp [hx])) (List.nodup_cons.mp nd).2
    refine ⟨c1, e1, fun a h => ?_, R1, fun ρ' σ' H' R' => ?_⟩
    · have := e2 a h
      by_cases z : a = b
      · subst z; exact h0
      · have h3 : upd c.H0 b o a = none := this
        rw [upd_ne z] at h3
        exact h3
    · obtain ⟨R2, k⟩ := back ρ' σ' H' R'
      obtain ⟨R3, e3⟩ := R2.unmemo h0 hp ht
      exact ⟨R3, fun x hx => by
        rcases List.mem_cons.mp hx with rfl | hx
        · rw [e3, hb]
        · exact k x hx⟩
/-- a step that doesn't see them -/
theorem RelG.pure {c : Act K} (R : RelG K c bs ρ γ σ H) : ∃ c1 : Act K, c1.A = c.A ∧ (∀ a, c1.H0 a = none → c.H0 a = none) ∧ Rel K c1 ρ σ H ∧ ∀ ρ' σ' H', Rel K c1 ρ' σ' H' → Stp c1 ρ σ H ρ' σ' H' → RelG K c bs ρ' γ σ' H' ∧ Stp c ρ σ H ρ' σ' H' := by
  obtain ⟨c1, e1, e2, R1, back⟩ := memo_all bs c R.r R.a (fun b hb => by obtain ⟨o, h1, _, h2⟩ := R.g.there b hb; exact ⟨o, h1, h2⟩) R.nd
  refine ⟨c1, e1, e2, R1, fun ρ' σ' H' R' m => ?_⟩
  have m' : Stp c ρ σ H ρ' σ' H' := by
    have m : Mv (Av c1 ρ σ) H (Av c1 ρ' σ') H' := m
    rw [av_eq e1, av_eq e1] at m
    exact m
  obtain ⟨R2, k⟩ := back ρ' σ' H' R'
  exact ⟨⟨R2, R.a, R.g.mv m' k, R.nd⟩, m'⟩
end
abbrev SGf := Rho → Gam → Option (Out × Rho × Gam)
abbrev EGf := Rho → Gam → Option (PyData × Rho × Gam)
abbrev NGf := Rho → Gam → Option (List PyData × Rho × Gam)
@[simp] def gLift (f : SF) : SGf := fun ρ γ => match f ρ with
  | some (.next, ρ') => some (.next, ρ', γ)
  | _ => none
@[simp] def gCont : SGf := fun ρ γ => some (.cont, ρ, γ)
@[simp] def gBrk : SGf := fun ρ γ => some (.brk, ρ, γ)
@[simp] def gNil : SGf := fun ρ γ => some (.next, ρ, γ)
@[simp] def gRet (f : EGf) : SGf := fun ρ γ => match f ρ γ with
  | some (d, ρ1, γ1) => some (.ret d, ρ1, γ1)
  | none => none
@[simp] def gAsg (i : Nat) (f : EGf) : SGf := fun ρ γ => match f ρ γ with
  | some (d, ρ1, γ1) => (match setV i d ρ1 with
    | some ρ2 => some (.next, ρ2, γ1)
    | none => none)
  | none => none
@[simp] def gExpr (f : EGf) : SGf := fun ρ γ => match f ρ γ with
  | some (_, ρ1, γ1) => some (.next, ρ1, γ1)
  | none => none
def isAdr (bs : List Addr) (g : Nat) : PyData → Bool
  | .dict [(.int n, .none)] => decide (bs[g]?.map (fun b => ((b : Nat) : Int)) = some n)
  | _ => false
/-- xs[j].append(e), xs an owned list, at j what stands at the g-th address -/
def gApp (bs : List Addr) (i : Nat) (j : Int) (g : Nat) (f : EF) : SGf := fun ρ γ => match eIxL dIx i (eC (.int j)) ρ with
  | some (d, ρ0) => if isAdr bs g d then (match f ρ0 with
    | some (z, ρ1) => (match γ[g]? with
      | some (.lst es) => if es.length < 16777216 then some (.next, ρ1, γ.set g (.lst (es ++ [z]))) else none
      | _ => none)
    | none => none) else none
  | none => none
/-- tuple(xs[j]) -/
def eTupG (bs : List Addr) (i : Nat) (j : Int) (g : Nat) : EGf := fun ρ γ => match eIxL dIx i (eC (.int j)) ρ with
  | some (d, ρ1) => if isAdr bs g d then (match γ[g]? with
    | some (.lst es) => some (.tuple es, ρ1, γ)
    | _ => none) else none
  | none => none
@[simp] def nNilG : NGf := fun ρ γ => some ([], ρ, γ)
@[simp] def nConsG (f : EGf) (g : NGf) : NGf := fun ρ γ => match f ρ γ with
  | some (x, ρ1, γ1) => (match g ρ1 γ1 with
    | some (xs, ρ2, γ2) => some (x :: xs, ρ2, γ2)
    | none => none)
  | none => none
@[simp] def eTupD (f : NGf) : EGf := fun ρ γ => match f ρ γ with
  | some (xs, ρ1, γ1) => if xs.length ≤ 16777216 then some (.tuple xs, ρ1, γ1) else none
  | none => none
@[simp] def gLiftE (f : EF) : EGf := fun ρ γ => match f ρ with
  | some (d, ρ') => some (d, ρ', γ)
  | none => none
@[simp] def gSeq (f g : SGf) : SGf := fun ρ γ => match f ρ γ with
  | some (.next, ρ1, γ1) => g ρ1 γ1
  | r => r
@[simp] def gIf (t : TF) (f g : SGf) : SGf := fun ρ γ => match t ρ with
  | some (true, ρ1) => f ρ1 γ
  | some (false, ρ1) => g ρ1 γ
  | none => none
def forG (g : GF) (b : SGf) : List PyData → SGf
  | [], ρ, γ => some (.next, ρ, γ)
  | d :: ds, ρ, γ => match g d ρ with
    | none => none
    | some ρ1 => match b ρ1 γ with
      | some (.next, ρ2, γ2) => forG g b ds ρ2 γ2
      | some (.cont, ρ2, γ2) => forG g b ds ρ2 γ2
      | some (.brk, ρ2, γ2) => some (.next, ρ2, γ2)
      | r => r
def gFor (it : NF) (g : GF) (b : SGf) : SGf := fun ρ γ => match it ρ with
  | some (ds, ρ1) => forG g b ds ρ1 γ
  | none => none
def gPost (K : PySem.W.Frag) (c : Act K) (bs : List Addr) (ρ : Rho) (σ : L2.St) (H : Hp) (E : Ends) (ρ' : Rho) (γ' : Gam) : Out → Prop
  | .next => ∀ σ' H', RelG K c bs ρ' γ' σ' H' → Stp c ρ σ H ρ' σ' H' → E.nx σ' H'
  | .brk => ∀ σ' H', RelG K c bs ρ' γ' σ' H' → Stp c ρ σ H ρ' σ' H' → E.bk σ' H'
  | .cont => ∀ σ' H', RelG K c bs ρ' γ' σ' H' → Stp c ρ σ H ρ' σ' H' → E.ct σ' H'
  | .ret d => ∀ v σ' H', RelG K c bs ρ' γ' σ' H' → Rp K c.A H' v d → E.rt v H'
  | .retL _ => False
def tSg (K : PySem.W.Frag) (bs : List Addr) (f : SGf) : TS := fun E σ H => ∃ (c : Act K) (ρ : Rho) (γ : Gam) (o : Out) (ρ' : Rho) (γ' : Gam), RelG K c bs ρ γ σ H ∧ f ρ γ = some (o, ρ', γ') ∧ gPost K c bs ρ σ H E ρ' γ' o
def tEg (K : PySem.W.Frag) (bs : List Addr) (f : EGf) : TE := fun σ H Q => ∃ (c : Act K) (ρ : Rho) (γ : Gam) (d : PyData) (ρ' : Rho) (γ' : Gam), RelG K c bs ρ γ σ H ∧ f ρ γ = some (d, ρ', γ') ∧
  ∀ v H', RelG K c bs ρ' γ' σ H' → Rp K (Av c ρ' σ) H' v d → Stp c ρ σ H ρ' σ H' → Q v H'
def tAg (K : PySem.W.Frag) (bs : List Addr) (f : NGf) : TA := fun σ H Q => ∃ (c : Act K) (ρ : Rho) (γ : Gam) (ds : List PyData) (ρ' : Rho) (γ' : Gam), RelG K c bs ρ γ σ H ∧ f ρ γ = some (ds, ρ', γ') ∧
  ∀ vs H', RelG K c bs ρ' γ' σ H' → RpA K (Av c ρ' σ) H' vs ds → Stp c ρ σ H ρ' σ H' → Q vs H'
theorem gPost.pre {K : PySem.W.Frag} {c : Act K} {bs : List Addr} {ρ ρ1 ρ' : Rho} {γ' : Gam} {σ σ1 : L2.St} {H H1 : Hp} {E : Ends} {o : Out} (m : Stp c ρ σ H ρ1 σ1 H1) (p : gPost K c bs ρ σ H E ρ' γ' o) : gPost K c bs ρ1 σ1 H1 E ρ' γ' o := by
  cases o with
  | next => exact fun σ' H' R' m' => p σ' H' R' (m.trans m')
  | brk => exact fun σ' H' R' m' => p σ' H' R' (m.trans m')
  | cont => exact fun σ' H' R' m' => p σ' H' R' (m.trans m')
  | ret d => exact p
  | retL ds => exact p
section
variable {X : Cx} {e a : Expr} {pos : Pos} {f : EF} {tf : TF} {es : List Expr} {st : Stmt} {sts : List Stmt} {F : SF} {P Q' : SGf} {bs : List Addr} {fe : EGf}
end
end PG
end
section
set_option Elab.async false
set_option linter.all false
set_option maxRecDepth 100000
set_option maxHeartbeats 1000000
namespace PG
open PySem PySem.Spec PyProof.Rows L2
section
variable {X : Cx} {e a : Expr} {pos : Pos} {f : EF} {tf : TF} {es : List Expr} {st : Stmt} {sts : List Stmt} {F : SF} {P Q' : SGf} {bs : List Addr} {fe : EGf} {ne : NGf} {it : NF} {G : GF}
end
end PG
end
section
set_option Elab.async false
set_option linter.all false
set_option maxRecDepth 100000
set_option maxHeartbeats 1000000
namespace PG
open PySem PySem.Spec PyProof.Rows L2
section
variable {X : Cx} {e a b : Expr} {pos : Pos} {f : EF} {es : List Expr} {bs : List Addr} {fe : EGf} {ne : NGf}
end
/-! #### a def to which such a list goes, as its last argument -/
abbrev FG := List Addr → List PyData → List PyData → Gam → Option (PyData × List PyData × Gam)
def spG (K : PySem.W.Frag) (k : Nat) (F : FG) : Sp := fun vs H Q _ => vs.length = k + 1 ∧ TsOk K H ∧ ∃ (A : Addr → Prop) (a : Addr) (bs : List Addr) (ws us : List V) (ps ds : List PyData) (γ : Gam) (r : PyData) (ps' : List PyData) (γ' : Gam),
  vs = ws ++ [.ref a] ∧ H a = some (.lst us) ∧ RpA K A H us ps ∧ A a ∧ RpA K A H ws ds ∧ (∀ x, A x → H x ≠ none) ∧ GAll K A H bs γ ∧ (∀ b ∈ bs, A b ∧ b ≠ a) ∧ bs.Nodup ∧ F bs ds ps γ = some (r, ps', γ') ∧
  ∀ v H' us', KpX K (fun x => x = a ∨ x ∈ bs) H H' → H' a = some (.lst us') → RpA K A H' us' ps' → GAll K A H' bs γ' → Rp K A H' v r → Q v H'
def tAgS (K : PySem.W.Frag) (bs : List Addr) (i : Nat) (f : NGf) : TA := fun σ H Q => ∃ (c : Act K) (ρ : Rho) (γ : Gam) (ds : List PyData) (ρ' : Rho) (γ' : Gam), RelG K c bs ρ γ σ H ∧ f ρ γ = some (ds, ρ', γ') ∧
  ∀ vs a H', RelG K c bs ρ' γ' σ H' → RpA K (Av c ρ' σ) H' vs ds → Stp c ρ σ H ρ' σ H' → σ[i]? = some (some (.ref a)) → Q (vs ++ [.ref a]) H'
@[simp] def nLastG (i : Nat) : NGf := fun ρ γ => match ρ[i]? with
  | some (some (.l _ _)) => some ([], ρ, γ)
  | _ => none
@[simp] def eCallG (F : FG) (bs : List Addr) (i : Nat) (n : NGf) : EGf := fun ρ γ => match n ρ γ with
  | some (ds, ρ1, γ1) => (match ρ1[i]? with
    | some (some (.l p ps)) => (match F bs ds ps γ1 with
      | some (z, ps', γ2) => some (z, ρ1.set i (some (.l p ps')), γ2)
      | none => none)
    | _ => none)
  | none => none
section
variable {X : Cx} {e a : Expr} {pos p : Pos} {es : List Expr} {bs : List Addr} {fe : EGf} {ne : NGf} {F1 : FG} {k j i : Nat} {fa : Addr} {fd : FuncData} {ps : List Str} {x : Str}
open Classical in
end
end PG
end
section
set_option Elab.async false
set_option linter.all false
set_option maxRecDepth 100000
set_option maxHeartbeats 1000000
namespace PG
open PySem PySem.Spec PyProof.Rows L2
/-! ### the body of a def to which such a list goes; a def that makes one -/
open Classical in
noncomputable def hid (bs : List Addr) (H : Hp) : Hp := fun x => if x ∈ bs then none else H x
theorem GAll.kind {K : PySem.W.Frag} {A : Addr → Prop} {H : Hp} : ∀ {bs : List Addr} {γ : Gam}, GAll K A H bs γ → ∀ b ∈ bs, ∀ φ, H b ≠ some (.ext φ)
  | [], _, _, b, hb => by cases hb
  | b :: bs, [], g, _, _ => g.elim
  | b :: bs, u :: us, g, x, hx => by
    rcases List.mem_cons.mp hx with rfl | hx
    · cases u with
      | lst ds => obtain ⟨vs, e, _⟩ := g.1; intro φ z; rw [e] at z; cases z
      | dk kvs => obtain ⟨vs, e, _⟩ := g.1; intro φ z; rw [e] at z; cases z
    · exact GAll.kind g.2 x hx
def rhoG (ds ps : List PyData) (m : Nat) : Rho := ds.map (fun d => some (Cell.v d)) ++ some (.l true ps) :: List.replicate m none
def endG (k : Nat) : Option (Out × Rho × Gam) → Option (PyData × List PyData × Gam)
  | some (.ret d, ρ, γ) => (match ρ[k]? with
    | some (some (.l true ps)) => some (d, ps, γ)
    | _ => none)
  | _ => none
def defG (b : List Addr → SGf) (k m : Nat) : FG := fun bs ds ps γ => if ds.length = k then endG k (b bs (rhoG ds ps m) γ) else none
section
variable {P : Program} {w : World} {K : PySem.W.Frag} {mg : Str → Option Value} {base : Heap} {x qual : Str} {st : Stmt} {fa : Addr} {fd : FuncData} {N ps : List Str} {j k m : Nat} {b : List Addr → SGf}
end
/-! #### xs = [0, [], []] -/
def gNew (i : Nat) (b1 b2 : Addr) (R : List Addr → SGf) : SF := fun ρ => match setL i [.int 0, ADR b1, ADR b2] ρ with
  | some ρ1 => (match R [b1, b2] ρ1 [.lst [], .lst []] with
    | some (o, ρ2, _) => some (o, ρ2)
    | none => none)
  | none => none
def tW (K : PySem.W.Frag) (B : Addr → Addr → SF) : TS := fun E σ H => ∃ (c : Act K) (ρ : Rho) (d : PyData), Rel K c ρ σ H ∧ (∀ b1 b2 : Addr, b1 ≠ b2 → ∃ ρ', B b1 b2 ρ = some (.ret d, ρ')) ∧
  ∀ v ρ' σ' H', Rel K c ρ' σ' H' → Rp K c.A H' v d → E.rt v H'
section
variable {X : Cx} {i : Nat} {x : Str} {pos p0 p1 p2 p3 pos' : Pos} {rest : List Stmt} {R : List Addr → SGf} {kk}
end
open Classical in
/-- what such a def gives, wherever its lists may stand -/
noncomputable def defW (B : Addr → Addr → SF) (k m : Nat) : List PyData → Option PyData := fun ds => if h : ds.length = k ∧ ∃ d, ∀ b1 b2 : Addr, b1 ≠ b2 → ∃ ρ', B b1 b2 (rho0 ds m) = some (.ret d, ρ') then some h.2.choose else none
section
variable {P : Program} {w : World} {K : PySem.W.Frag} {mg : Str → Option Value} {base : Heap} {x qual : Str} {st : Stmt} {fa : Addr} {fd : FuncData} {N ps : List Str} {j k m : Nat} {B : Addr → Addr → SF}
end
end PG
end
section
set_option Elab.async false
set_option linter.all false
set_option maxRecDepth 100000
set_option maxHeartbeats 1000000
namespace L2
open PySem PySem.Spec PyProof.Rows
section
variable {X : Cx}
end
end L2
namespace PG
open PySem PySem.Spec PyProof.Rows L2
section
variable {X : Cx} {e a b : Expr} {pos : Pos} {f f2 g h : EF} {tf tg : TF}
end
end PG
end
section
set_option Elab.async false
set_option linter.all false
namespace PG
open PySem PySem.Spec PyProof.Rows L2
/-! small things for the texts that gen.py makes -/
section
variable {f : EGf} {n : NGf} {k i : Nat}
end
end PG
end
section
set_option Elab.async false
set_option linter.all false
namespace PG
/-- long enough for a walk over the leaves of a tree -/
def FUELB : Nat := 2 ^ 320
end PG
end
section
set_option Elab.async false
set_option linter.all false
set_option maxRecDepth 100000
set_option maxHeartbeats 1000000
namespace PG
open PySem PySem.Spec PyProof.Rows L2
/-! ### two defs made in a def are handed to a def -/
def subF2 (x1 : Str) (cl1 : List (Str × Addr)) (cs1 : List PyData) (x2 : Str) (cl2 : List (Str × Addr)) (cs2 : List PyData) : PyData → PyData
  | .dict [(.str y, .list l)] => if y = x1 ∧ decCl l = some cl1 then FN x1 cs1 else if y = x2 ∧ decCl l = some cl2 then FN x2 cs2 else .dict [(.str y, .list l)]
  | d => d
@[simp] def eCallC2 (F : List PyData → Option PyData) (x1 : Str) (cl1 : List (Str × Addr)) (js1 : List Nat) (x2 : Str) (cl2 : List (Str × Addr)) (js2 : List Nat) (f : NF) : EF := fun ρ => match f ρ with
  | some (ds, ρ1) => (match capsOf ρ1 js1 with
    | some cs1 => (match capsOf ρ1 js2 with
      | some cs2 => (match F (ds.map (subF2 x1 cl1 cs1 x2 cl2 cs2)) with
        | some z => if noFn z then some (z, ρ1) else none
        | none => none)
      | none => none)
    | none => none)
  | none => none
section
variable {X : Cx} {e : Expr} {es : List Expr} {n : NF} {F1 : List PyData → Option PyData} {k j : Nat} {fa : Addr} {fd : FuncData} {ps : List Str} {x1 x2 y : Str} {p pos : Pos} {st1 st2 : Stmt} {js1 js2 : List Nat}
end
end PG
end
section
set_option Elab.async false
set_option linter.all false
set_option maxRecDepth 100000
set_option maxHeartbeats 1000000
namespace PG
open PySem PySem.Spec PyProof.Rows L2
/-! ### a def that holds two defs; xs.reverse() -/
open Classical in
noncomputable def defU2 (b : List (Str × Addr) → List (Str × Addr) → SF) (k m : Nat) : List PyData → Option PyData := fun ds => if h : ∃ d, ∀ cl1 cl2, defP (b cl1 cl2) k m ds = some d then some h.choose else none
section
variable {P : Program} {w : World} {K : PySem.W.Frag} {mg : Str → Option Value} {base : Heap} {x qual : Str} {st : Stmt} {fa cc p : Addr} {fd : FuncData} {N ps : List Str} {j k m : Nat} {b : List (Str × Addr) → List (Str × Addr) → SF} {F1 : List PyData → Option PyData}
end

def rRev : V → List V → Hp → VK → Prop := fun x vs H Q => ∃ l xs, x = .ref l ∧ vs = [] ∧ H l = some (.lst xs) ∧ Q .non (upd H l (.lst xs.reverse))
section
variable {X : Cx}
end
def sRev (i : Nat) : SF := fun ρ => match ρ[i]? with
  | some (some (.l p ds)) => some (.next, ρ.set i (some (.l p ds.reverse)))
  | _ => none
/-! ### list(range(n)) -/
def nLstRg1 (f : EF) : NF := fun ρ => match f ρ with
  | some (.int j, ρ1) => if -1000000 ≤ j ∧ j ≤ 1000000 then some (rng 0 j.toNat, ρ1) else none
  | _ => none
end PG
end
section
set_option Elab.async false
set_option linter.all false
set_option maxRecDepth 100000
set_option maxHeartbeats 1000000
namespace PG
open PySem PySem.Spec PyProof.Rows L2 GenW GxR
/-! ### tuple(generator expression) -/
abbrev KL := { k : List V × Array Value × Nat // Vals k.1 k.2.1.toList }
abbrev lob (acc : Array Value) (c : Nat) : Obj := { cls := .type "list", dict := none, data := .seq acc c, slots := #[] }
abbrev poL (S : Addr) : KL → List (Addr × Obj) := fun k => [(S, lob k.1.2.1 k.1.2.2)]
abbrev gotL : KL → V → Hp → (KL → Hp → Prop) → Prop := fun k y H Nx => k.1.1.length < 16777216 ∧ ∀ k' : KL, k'.1.1 = k.1.1 ++ [y] → Nx k' H
section
variable {Y : Cx} {σ0 : L2.St} {Fin : KL → Hp → Prop} {a S : Addr} {g : Nat} {A : Around} {ob : Obj} {R : Result → Shared → Prop} {res : Value}
end
section
variable {X : Cx} {elt tg iter : Expr} {ifs : List Expr} {scope : Scope} {gpos p1 pos : Pos} {own : List (Str × Nat)} {c p : Addr} {wi : TI} {g : TG} {tt : TT} {te : TE} {j : Nat}
abbrev in4 (A : Around) : Around := A.in1.in1.in1.in1
end
section
variable {prog : Program} {w : World} {A : Around} {E : Value → Shared → Prop} {s : Shared}
end
end PG
end
section
set_option Elab.async false
set_option linter.all false
set_option maxRecDepth 100000
set_option maxHeartbeats 1000000
namespace PG
open PySem PySem.Spec PyProof.Rows L2 GenW GxR
/-! ### tuple(generator expression): the expression, and on data -/
def tGenT (wi : TI) (p : Addr) (g : TG) (tt : TT) (te : TE) (vs : List Nat) (Q : VK) : L2.St → Hp → Prop := fun σ H => wi σ H fun J H1 => H1 p = some (tblO p) ∧
  ∃ W : KL → Nat → Nat → Hp → Prop, (∃ m, ∀ k : KL, k.1.1 = [] → W k 0 m H1) ∧ GTurn (κ := KL) J g tt te vs (wipe σ vs) W (fun k H => k.1.1.length ≤ 16777216 ∧ ∀ l, H l = none → Q (.ref l) (upd H l (.tup k.1.1))) gotL
section
variable {X : Cx} {elt tg iter : Expr} {ifs : List Expr} {scope : Scope} {gpos p1 pos : Pos} {own : List (Str × Nat)} {c p : Addr} {wi : TI} {g : TG} {tt : TT} {te : TE} {j : Nat}
end
def eGenT (it : NF) (G : GF) (t : TF) (e : EF) (vs : List Nat) : EF := fun ρ => match nComp it G t e vs ρ with
  | some (zs, ρ1) => some (.tuple zs, ρ1)
  | none => none
section
variable {X : Cx} {elt tgt iter : Expr} {ifs : List Expr} {scope : Scope} {gpos p1 pos : Pos} {own : List (Str × Nat)} {c p : Addr} {j : Nat} {it : NF} {G : GF} {is : List Nat} {tf : TF} {f : EF} {x : Str}
end
end PG
end
section
set_option Elab.async false
set_option linter.all false
set_option maxRecDepth 100000
set_option maxHeartbeats 1000000
namespace PG
open PySem PySem.Spec PyProof.Rows L2
/-! ### a def is called where no text of an object is being made, and may ask repr there -/
end PG
end
section
set_option Elab.async false
set_option linter.all false
set_option maxRecDepth 100000
set_option maxHeartbeats 1000000
namespace PG
open PySem PySem.Spec PyProof.Rows L2
/-! ### found = {}, found[k] = v, sorted(found) -/
/-- found[k] = v, found what stands at the g-th address -/
def gPut (bs : List Addr) (i g : Nat) (fk fv : EF) : SGf := fun ρ γ => match fv ρ with
  | some (z, ρ1) => (match ρ1[i]? with
    | some (some (.v d)) => if isAdr bs g d then (match fk ρ1 with
      | some (kd, ρ2) => (match keyD1 kd, γ[g]? with
        | some k, some (.dk kvs) => if kvs.length < 16777216 then some (.next, ρ2, γ.set g (.dk (putD kvs k z))) else none
        | _, _ => none)
      | none => none) else none
    | _ => none)
  | none => none
section
variable {X : Cx} {o ix value : Expr} {pos pos' : Pos} {fk fv : EF} {bs : List Addr} {i g : Nat}
end
/-- found = {}; one thing more that fills it; then it is only read -/
def gNewD (i : Nat) (R : List Addr → SGf) (fin : SF) : Addr → SF := fun b ρ => match setV i (ADR b) ρ with
  | some ρ1 => (match R [b] ρ1 [.dk []] with
    | some (.next, ρ2, [.dk kvs]) => (match ρ2[i]? with
      | some (some (.v d)) => if isAdr [b] 0 d then (match setV i (dv kvs) ρ2 with
        | some ρ3 => fin ρ3
        | none => none) else none
      | _ => none)
    | _ => none)
  | none => none
section
variable {X : Cx} {i : Nat} {x : Str} {pos p0 pos' : Pos} {st : Stmt} {fin : List Stmt} {R : List Addr → SGf} {F : SF}
end
section
variable {X : Cx} {e a b : Expr} {pos : Pos} {f : EF}
/-- sorted(d): a dict whose keys are whole numbers -/
def dSortD : PyData → Option (List PyData)
  | .dict [(.none, .tuple ks), (.none, .tuple _)] => (match intsOf ks with
    | some ns => if ns.length < 4000 ∧ ns.Nodup then some ((sortI ns).map PyData.int) else none
    | none => none)
  | _ => none
end
end PG
end
section
set_option Elab.async false
set_option linter.all false
set_option maxRecDepth 100000
set_option maxHeartbeats 1000000
namespace PG
open PySem PySem.Spec PyProof.Rows L2 GenW GxR
/-! the run of a generator expression whose consumer keeps its count beside -/
def GYpS {κ : Type} (Y : Cx) (σ0 : L2.St) (po : κ → List (Addr × Obj)) (Ss : List Addr) (Got : κ → V → Hp → (κ → Hp → Prop) → Prop) : Protocol := fun _ s₀ v s kap =>
  ∃ (k : κ) (y : V) (H : Hp) (Nx : κ → Hp → Prop), RelV y v ∧ Inv Y (po k) σ0 H s ∧ Got k y H Nx ∧ (∀ p ∈ po k, s₀.heap.get? p.1 = some p.2) ∧ ∀ k' s2, Woke po Ss k' s s2 → Nx k' H → kap (.send .none) s2
def GReS {κ : Type} (Y : Cx) (σ0 : L2.St) (po : κ → List (Addr × Obj)) (Fin : κ → Hp → Prop) : GenEnd := fun _ s₀ r s =>
  ((r = .ok (.ret .none) ∨ r = .ok .next) ∧ ∃ k H, Inv Y (po k) σ0 H s ∧ Fin k H ∧ ∀ p ∈ po k, s₀.heap.get? p.1 = some p.2) ∨ ∃ e, r = .error e ∧ False
/-- the generator waits to be asked -/
structure WaitsS {κ : Type} (P : Program) (w : World) (B0 : Around) (Y : Cx) (σ0 : L2.St) (po : κ → List (Addr × Obj)) (Ss : List Addr) (Fin : κ → Hp → Prop) (Got : κ → V → Hp → (κ → Hp → Prop) → Prop) (a : Addr) (g n : Nat) (s : Shared) : Prop where
  gen : s.heap.IsGen a g
  nolimit : s.heap.NoLimit
  goes : ∃ gs, s.gens[g]? = some gs ∧ gs.Goes (model P w) B0 (GReS Y σ0 po Fin) (GYpS Y σ0 po Ss Got) n (.send .none) (s.setGen g .running)
section
variable {X : Cx} {elt tg iter : Expr} {ifs : List Expr} {scope : Scope} {gpos p1 pos : Pos} {own : List (Str × Nat)} {c p : Addr} {wi : TI} {g : TG} {tt : TT} {te : TE} {j : Nat}
end
/-! ### sum(generator expression) -/
abbrev KS := Int × Tok × Nat
abbrev lobS (k : KS) : Obj := { cls := .type "list", dict := none, data := .seq #[.int k.1 k.2.1] k.2.2, slots := #[] }
abbrev poS (S : Addr) : KS → List (Addr × Obj) := fun k => [(S, lobS k)]
abbrev gotS : KS → V → Hp → (KS → Hp → Prop) → Prop := fun k y H Nx => ∃ i : Int, y = .int i ∧ ∀ k' : KS, k'.1 = k.1 + i → Nx k' H
section
variable {Y : Cx} {σ0 : L2.St} {Fin : KS → Hp → Prop} {a S : Addr} {g : Nat} {A : Around} {ob : Obj} {R : Result → Shared → Prop}
end
def tGenS (wi : TI) (p : Addr) (g : TG) (tt : TT) (te : TE) (vs : List Nat) (Q : VK) : L2.St → Hp → Prop := fun σ H => wi σ H fun J H1 => H1 p = some (tblO p) ∧
  ∃ W : KS → Nat → Nat → Hp → Prop, (∃ m, ∀ k : KS, k.1 = 0 → W k 0 m H1) ∧ GTurn (κ := KS) J g tt te vs (wipe σ vs) W (fun k H => Q (.int k.1) H) gotS
section
variable {X : Cx} {elt tg iter : Expr} {ifs : List Expr} {scope : Scope} {gpos p1 pos : Pos} {own : List (Str × Nat)} {c p : Addr} {wi : TI} {g : TG} {tt : TT} {te : TE} {j : Nat}
end
end PG
end
section
set_option Elab.async false
set_option linter.all false
set_option maxRecDepth 100000
set_option maxHeartbeats 1000000
namespace PG
open PySem PySem.Spec PyProof.Rows L2 GenW GxR
/-! ### sum(generator expression), on data -/
def eGenS (it : NF) (G : GF) (t : TF) (e : EF) (vs : List Nat) : EF := fun ρ => match nComp it G t e vs ρ with
  | some (zs, ρ1) => (match intsOf zs with
    | some ns => some (.int ns.sum, ρ1)
    | none => none)
  | none => none
section
variable {X : Cx} {elt tgt iter : Expr} {ifs : List Expr} {scope : Scope} {gpos p1 pos : Pos} {own : List (Str × Nat)} {c p : Addr} {j : Nat} {it : NF} {G : GF} {is : List Nat} {tf : TF} {f : EF} {x : Str}
end
end PG
end
section
set_option Elab.async false
set_option linter.all false
set_option maxRecDepth 100000
set_option maxHeartbeats 1000000
namespace PG
open PySem PySem.Spec PyProof.Rows L2
/-! ### texts: str(int), int(text), join, split, partition, f-strings -/
@[simp] def dStrI : PyData → Option PyData
  | .int i => if i.natAbs.log2 < 1920 then some (.str (toString i)) else none
  | _ => none
theorem fs_strI {K : PySem.W.Frag} : FnS K (fun xs H Q => ∃ i, xs = [.int i] ∧ i.natAbs.log2 < 1920 ∧ Q (.str (toString i)) H) (o1of dStrI) := by
  intro c ρ σ H vs ds d Q R r ho q
  obtain ⟨x, rfl, h2⟩ := o1_inv ho
  obtain ⟨v, rfl, w1⟩ := rpa1 r
  unfold dStrI at h2
  split at h2
  · split at h2
    · rename_i hz
      cases h2
      cases w1
      exact ⟨_, rfl, hz, os_same R q (.str _)⟩
    · cases h2
  · cases h2
@[simp] def dIntS : PyData → Option PyData
  | .str a => (match PySem.intText? a with
    | some n => if a.length ≤ 640 then some (.int n) else none
    | none => none)
  | _ => none
theorem fs_intS {K : PySem.W.Frag} : FnS K (fun xs H Q => ∃ a n, xs = [.str a] ∧ PySem.intText? a = some n ∧ a.length ≤ 640 ∧ Q (.int n) H) (o1of dIntS) := by
  intro c ρ σ H vs ds d Q R r ho q
  obtain ⟨x, rfl, h2⟩ := o1_inv ho
  obtain ⟨v, rfl, w1⟩ := rpa1 r
  unfold dIntS at h2
  split at h2
  · split at h2
    · rename_i n hn
      split at h2
      · rename_i hz
        cases h2
        cases w1
        exact ⟨_, _, rfl, hn, hz, os_same R q (.int _)⟩
      · cases h2
    · cases h2
  · cases h2
/-- a.join(texts) -/
def dJoin : PyData → PyData → Option PyData
  | .str a, .list ds => (match strsOf ds with
    | some ys => if (ys.map (·.length)).sum + ys.length * a.length ≤ 16777216 then some (.str (Txt.join a ys)) else none
    | none => none)
  | _, _ => none
/-- a.split(b) -/
def dSplit : PyData → PyData → Option PyData
  | .str a, .str b => if (b.length == 0) = false ∧ a.length + 2 ≤ sizeLine then some (.list ((Txt.split a b).map PyData.str)) else none
  | _, _ => none
/-- a.partition(b) -/
def dPart : PyData → PyData → Option PyData
  | .str a, .str b => if (b.length == 0) = false ∧ a.length ≤ sizeLine then some (.tuple [.str (Txt.partition a b).1, .str (Txt.partition a b).2.1, .str (Txt.partition a b).2.2]) else none
  | _, _ => none
theorem RpA.ofStrs {K : PySem.W.Frag} {A : Addr → Prop} {H : Hp} : ∀ ns : List Str, RpA K A H (ns.map V.str) (ns.map PyData.str)
  | [] => .nil
  | x :: ns => .cons (.str x) (RpA.ofStrs ns)
/-- the texts one behind the other: each a text, or a whole number as a text -/
def fmtS : PyData → Option Str
  | .str y => if y.length ≤ sizeLine then some y else none
  | .int i => if i.natAbs.log2 < 1920 then some (toString i) else none
  | _ => none
def eFmt (f : EF) : EF := fun ρ => match f ρ with
  | some (d, ρ1) => (match fmtS d with
    | some y => some (.str y, ρ1)
    | none => none)
  | none => none
/-- f'..': the parts, from the left -/
def eJs : List EF → Str → EF
  | [], acc => fun ρ => some (.str acc, ρ)
  | f :: fs, acc => fun ρ => match f ρ with
    | some (.str y, ρ1) => if (acc ++ y).length ≤ sizeLine then eJs fs (acc ++ y) ρ1 else none
    | _ => none
section
variable {X : Cx} {o e v1 v2 : Expr} {f g : EF} {apos pos : Pos} {rest : List Expr} {fs : List EF}
theorem ev_join (ho : PE X o (tE X.K f)) (he : PE X e (tE X.K g)) (hs : starEach [e] X.env = [(false, eval e X.env)] := by rfl) (hbase : attributeBase o "join" X.env (eval o X.env) = eval o X.env := by rfl) (hline : (apos.endLine == pos.line) = true := by rfl) :
    PE X (.Call (.Attribute o "join" apos) [e] [] pos) (tE X.K (eBin dJoin f g)) := pe_of (pe_join ho he hs hbase hline) fun σ H Q ⟨c, ρ, d, ρ', R, e, q⟩ => by
  unfold eBin at e
  split at e
  · rename_i x ρ1 h1
    split at e
    · rename_i y ρ2 h2
      split at e
      · rename_i z h3
        obtain ⟨e1, e2⟩ := so e
        subst e1 e2
        unfold dJoin at h3
        split at h3
        · rename_i a ds
          split at h3
          · rename_i ys hys
            split at h3
            · rename_i hz
              cases h3
              refine ⟨c, ρ, _, ρ1, R, h1, fun v H1 R1 r1 m1 => ?_⟩
              cases r1
              refine ⟨⟨a, rfl⟩, c, ρ1, _, ρ2, R1, h2, fun v H2 R2 r2 m2 => ?_⟩
              cases r2 with
              | @lst p xs _ l al =>
                have hds := strsOf_map hys
                subst hds
                have hxs := al.strs
                subst hxs
                exact ⟨a, p, ys, rfl, rfl, .inl l.sq, hz, q _ _ R2 (.str _) (m1.trans m2)⟩
            · cases h3
          · cases h3
        · cases h3
      · cases e
    · cases e
  · cases e
theorem ev_split (ho : PE X o (tE X.K f)) (he : PE X e (tE X.K g)) (hs : starEach [e] X.env = [(false, eval e X.env)] := by rfl) (hbase : attributeBase o "split" X.env (eval o X.env) = eval o X.env := by rfl) (hline : (apos.endLine == pos.line) = true := by rfl) :
    PE X (.Call (.Attribute o "split" apos) [e] [] pos) (tE X.K (eBin dSplit f g)) := pe_of (pe_split ho he hs hbase hline) fun σ H Q ⟨c, ρ, d, ρ', R, e, q⟩ => by
  unfold eBin at e
  split at e
  · rename_i x ρ1 h1
    split at e
    · rename_i y ρ2 h2
      split at e
      · rename_i z h3
        obtain ⟨e1, e2⟩ := so e
        subst e1 e2
        unfold dSplit at h3
        split at h3
        · rename_i a b
          split at h3
          · rename_i hz
            cases h3
            refine ⟨c, ρ, _, ρ1, R, h1, fun v H1 R1 r1 m1 => ?_⟩
            cases r1
            refine ⟨⟨a, rfl⟩, c, ρ1, _, ρ2, R1, h2, fun v H2 R2 r2 m2 => ?_⟩
            cases r2
            refine ⟨a, b, rfl, rfl, hz.1, hz.2, fun p hp => ?_⟩
            exact q _ _ (R2.alloc hp).1 (R2.newLst hp (RpA.ofStrs _)) ((m1.trans m2).trans (R2.mvG (kp_upd hp)))
          · cases h3
        · cases h3
      · cases e
    · cases e
  · cases e
theorem ev_part (ho : PE X o (tE X.K f)) (he : PE X e (tE X.K g)) (hs : starEach [e] X.env = [(false, eval e X.env)] := by rfl) (hbase : attributeBase o "partition" X.env (eval o X.env) = eval o X.env := by rfl) (hline : (apos.endLine == pos.line) = true := by rfl) :
    PE X (.Call (.Attribute o "partition" apos) [e] [] pos) (tE X.K (eBin dPart f g)) := pe_of (pe_partition ho he hs hbase hline) fun σ H Q ⟨c, ρ, d, ρ', R, e, q⟩ => by
  unfold eBin at e
  split at e
  · rename_i x ρ1 h1
    split at e
    · rename_i y ρ2 h2
      split at e
      · rename_i z h3
        obtain ⟨e1, e2⟩ := so e
        subst e1 e2
        unfold dPart at h3
        split at h3
        · rename_i a b
          split at h3
          · rename_i hz
            cases h3
            refine ⟨c, ρ, _, ρ1, R, h1, fun v H1 R1 r1 m1 => ?_⟩
            cases r1
            refine ⟨⟨a, rfl⟩, c, ρ1, _, ρ2, R1, h2, fun v H2 R2 r2 m2 => ?_⟩
            cases r2
            refine ⟨a, b, rfl, rfl, hz.1, hz.2, fun p hp => ?_⟩
            exact q _ _ (R2.alloc hp).1 (R2.newTup hp (.cons (.str _) (.cons (.str _) (.cons (.str _) .nil)))) ((m1.trans m2).trans (R2.mvG (kp_upd hp)))
          · cases h3
        · cases h3
      · cases e
    · cases e
  · cases e
theorem ev_fmt (he : PE X e (tE X.K f)) : PE X (.FormattedValue e (-1) none pos) (tE X.K (eFmt f)) := pe_of (pe_fmt he) fun σ H Q ⟨c, ρ, d, ρ', R, e, q⟩ => by
  unfold eFmt at e
  split at e
  · rename_i d0 ρ1 h1
    split at e
    · rename_i y h2
      obtain ⟨e1, e2⟩ := so e
      subst e1 e2
      refine ⟨c, ρ, _, ρ1, R, h1, fun v H1 R1 r1 m1 => ?_⟩
      unfold fmtS at h2
      split at h2
      · split at h2
        · rename_i hz
          cases h2
          cases r1
          exact .inl ⟨_, rfl, hz, q _ _ R1 (.str _) m1⟩
        · cases h2
      · split at h2
        · rename_i hz
          cases h2
          cases r1
          exact .inr ⟨_, rfl, hz, q _ _ R1 (.str _) m1⟩
        · cases h2
      · cases h2
    · cases e
  · cases e
theorem tjs_of {K : PySem.W.Frag} : ∀ (fs : List EF) (acc : Str) (σ : L2.St) (H : Hp) (Q : VK), tE K (eJs fs acc) σ H Q → tJs (fs.map (tE K)) acc σ H fun out H1 => Q (.str out) H1
  | [], acc, σ, H, Q, ⟨c, ρ, d, ρ', R, e, q⟩ => by
    unfold eJs at e
    obtain ⟨e1, e2⟩ := so e
    subst e1 e2
    exact q _ H R (.str _) Mv.refl
  | f :: fs, acc, σ, H, Q, ⟨c, ρ, d, ρ', R, e, q⟩ => by
    unfold eJs at e
    split at e
    · rename_i y ρ1 h1
      split at e
      · rename_i hz
        refine ⟨c, ρ, _, ρ1, R, h1, fun v H1 R1 r1 m1 => ?_⟩
        cases r1
        exact ⟨y, rfl, hz, tjs_of fs (acc ++ y) σ H1 Q ⟨c, ρ1, d, ρ', R1, e, fun v H2 R2 r2 m2 => q v H2 R2 r2 (m1.trans m2)⟩⟩
      · cases e
    · cases e
inductive PJD (X : Cx) : List Expr → List EF → Prop where
  | nil : PJD X [] []
  | cons {e : Expr} {f : EF} {es : List Expr} {fs : List EF} (h : PE X e (tE X.K f)) (r : PJD X es fs) : PJD X (e :: es) (f :: fs)
theorem PJD.to {es : List Expr} {fs : List EF} (h : PJD X es fs) : PJ X es (fs.map (tE X.K)) := by
  induction h with
  | nil => exact .nil
  | cons h r ih => exact .cons h ih
theorem ev_js (h : PJD X (v1 :: v2 :: rest) fs) : PE X (.JoinedStr (v1 :: v2 :: rest) pos) (tE X.K (eJs fs Str.empty)) := pe_of (pe_joined h.to) fun σ H Q h => tjs_of fs _ σ H Q h
end
end PG
end
section
set_option Elab.async false
set_option linter.all false
set_option maxRecDepth 100000
set_option maxHeartbeats 1000000
namespace PG
open PySem PySem.Spec PyProof.Rows L2
/-! ### a def that lets errors out of a loop -/
theorem nol_setL {i : Nat} {f : NF} : NoL (sSetL i f) := fun ρ ds ρ' e => by
  simp only [sSetL] at e
  repeat (first | cases e | split at e)
theorem nol_app {i : Nat} {f : EF} : NoL (sApp i f) := fun ρ ds ρ' e => by
  simp only [sApp] at e
  repeat (first | cases e | split at e)
section
variable {X : Cx} {tg iter : Expr} {wi : TI} {g : TG}
theorem pi_nox (h : PI X.nox tg iter wi) : PI X tg iter wi := ⟨fun pins s σ H R I hw => wpAny_mono (h.run pins s σ H R (I.wish _) hw) (fun v s1 h1 => wpAny_mono h1 (fun itv s2 ⟨it, fp, tn, J, H', e, I2, T, st, f2, r⟩ => ⟨it, fp, tn, J, H', e, I2.unwish, T, st, f2, r⟩) fun _ _ z => False.elim z) fun _ _ z => False.elim z⟩
theorem pg_nox (h : PG X.nox tg g) : PG X tg g := ⟨fun pins s σ H v u Q I r hw => wpAny_mono (h.run pins s σ H v u Q (I.wish _) r hw) (fun _ s1 ⟨σ', H', I1, q⟩ => ⟨σ', H', I1.unwish, q⟩) fun _ _ z => False.elim z⟩
end
section
variable {X : Cx} {e a : Expr} {pos : Pos} {F : SF} {Cs : List Addr} {W : WX}
theorem ese_for {tgt iter : Expr} {body : List Stmt} {it : NF} {G : GF} {is : List Nat} (hp : PassesOwn (model X.prog X.w) X.A X.env X.xe) (hc : X.calm = true) (hi : PI X.nox tgt iter (tI X.K it)) (hg : PG X.nox tgt (tG X.K G is)) (hb : PSs X body (tSe X.K Cs W F)) (hs : ∀ x, foldedSetIterable iter X.env x = pure x := by intro _; rfl) :
    PS X (.For tgt iter body [] pos) (tSe X.K Cs W (sFor it G F)) := ps_of (ps_for hp hc (pi_nox hi) (pg_nox hg) hb hs) fun E σ H ⟨c, ρ, o, ρ', R, e, q⟩ => by
  unfold sFor at e
  split at e
  · rename_i ds ρ1 h1
    refine ⟨c, ρ, ds, ρ1, R, h1, fun J H1 R1 m1 jo => ?_⟩
    refine ⟨fun i m σi Hi => m = ds.length - i ∧ i ≤ ds.length ∧ ∃ ρi, Rel X.K c ρi σi Hi ∧ Stp c ρ1 σ H1 ρi σi Hi ∧ forL G F (ds.drop i) ρi = some (o, ρ'), ⟨ds.length, by simp, Nat.zero_le _, ρ1, R1, Mv.refl, e⟩, ?_⟩
    rintro i m σi Hi ⟨rfl, hi, ρi, Ri, mi, ei⟩
    obtain ⟨jg, js⟩ := jo c ρi σi Hi mi
    cases hd : ds.drop i with
    | nil =>
      rw [hd] at ei
      unfold forL at ei
      obtain ⟨e1, e2⟩ := so ei
      subst e1 e2
      have : i = ds.length := by
        have := congrArg List.length hd
        rw [List.length_drop, List.length_nil] at this
        omega
      subst this
      exact .inl ⟨js, q σi Hi Ri (m1.trans mi)⟩
    | cons d r =>
      obtain ⟨g1, g2⟩ := drop_cons hd
      rw [hd] at ei
      obtain ⟨k1, k2⟩ := jg i d g1
      have hlt := lt_of_get g1
      unfold forL at ei
      split at ei
      · cases ei
      · rename_i ρa ea
        refine .inr ⟨k1, fun σ' H' => ds.length - (i + 1) = ds.length - (i + 1) ∧ i + 1 ≤ ds.length ∧ ∃ ρi, Rel X.K c ρi σ' H' ∧ Stp c ρ1 σ H1 ρi σ' H' ∧ forL G F (ds.drop (i + 1)) ρi = some (o, ρ'), fun σ' H' z => ⟨ds.length - (i + 1), by omega, z⟩, fun x H' y => ?_⟩
        obtain ⟨rfl, rx⟩ := k2 x H' y
        refine ⟨c, ρi, d, ρa, Ri, rx, ea, fun σ2 Ra ma _ _ => ?_⟩
        rw [g2]
        have mm := mi.trans ma
        split at ei
        · rename_i ρb eb
          exact ⟨c, ρa, .next, ρb, Ra, eb, fun σ3 H3 R3 m3 => ⟨rfl, hlt, ρb, R3, mm.trans m3, ei⟩⟩
        · rename_i ρb eb
          exact ⟨c, ρa, .cont, ρb, Ra, eb, fun σ3 H3 R3 m3 => ⟨rfl, hlt, ρb, R3, mm.trans m3, ei⟩⟩
        · rename_i ρb eb
          obtain ⟨e1, e2⟩ := so ei
          subst e1 e2
          exact ⟨c, ρa, .brk, ρb, Ra, eb, fun σ3 H3 R3 m3 => q σ3 H3 R3 ((m1.trans mm).trans m3)⟩
        · rename_i hn1 hn2 hn3
          refine ⟨c, ρa, o, ρ', Ra, ei, ?_⟩
          cases o with
          | next => exact absurd ei (hn1 ρ')
          | brk => exact absurd ei (hn3 ρ')
          | cont => exact absurd ei (hn2 ρ')
          | ret d => exact q
          | retL d => exact q
  · cases e
end
end PG
end
section
set_option Elab.async false
set_option linter.all false
set_option maxRecDepth 100000
set_option maxHeartbeats 1000000
namespace PG
open PySem PySem.Spec PyProof.Rows L2
/-! ### a suite that keeps its finding in a name: x = isinstance(..) and ..; return s if x else t -/
def sTryE2 (i j : Nat) (b : SF) (ans : List Str) : SF := fun ρ => match b ρ with
  | some (.retL [.int n], ρ1) => if 0 ≤ n ∧ i < ρ1.length ∧ j < ρ1.length then (ans[n.toNat]?).map fun s => (.ret (.str s), ρ1) else none
  | some (.retL _, _) => none
  | r => r
def tAns2 (i j : Nat) (C : Addr) (s : Str) : Cl := fun a cls d D σ H => cls = .ref C ∧ d = none ∧ σ[i]? = some (some (.ref a)) ∧ j < σ.length ∧ D.rt (.str s) H
section
variable {X : Cx} {n : Str} {i j : Nat} {body : List Stmt} {h₀ : ExceptHandler} {hds : List ExceptHandler} {l : List (Value × Cl)} {pos p : Pos} {b : SF} {Cs : List Addr} {ans : List Str} {a : Addr}
theorem es_tryE2 (hs : X.stack = X.env :: X.outer) (hf : X.env.frame = some X.env.locals) (hN : X.N.Nodup) (hi : X.N[i]? = some n) (hln : X.env.kindOf n = some .local)
    (hb : ∀ (W : WX) (pn : List (Addr × Obj)) (xe : Value → Shared → Prop), Takes (X.tr pn xe) W → PSs (X.tr pn xe) body (tSe X.K Cs W b))
    (hh : ClOk X n (h₀ :: hds) l) (hl : ∀ (m : Nat) (s : Str), ans[m]? = some s → ∀ (D : Ends) (σ : L2.St) (H : Hp), i < σ.length → j < σ.length → D.rt (.str s) H → wCl X.K i D l (clsV Cs m) none σ H) :
    PS X (.Try body (h₀ :: hds) [] [] pos) (tS X.K (sTryE2 i j b ans)) :=
  ps_of (ps_try_cl hs hf hN hi hln hb hh) fun D σ H ⟨c, ρ, o, ρ', R, e, q⟩ => by
    unfold sTryE2 at e
    split at e
    · rename_i m ρ1 h1
      split at e
      · rename_i hc
        cases hs : ans[m.toNat]? with
        | none => rw [hs] at e; cases e
        | some s =>
          rw [hs] at e
          cases e
          exact ⟨c, ρ, .retL [.int m], ρ', R, h1, m.toNat, by rw [Int.toNat_of_nonneg hc.1], fun σ' H' R' => hl _ _ hs D σ' H' (by rw [← R'.len]; exact hc.2.1) (by rw [← R'.len]; exact hc.2.2) (q (.str s) σ' H' R' (.str s))⟩
      · cases e
    · cases e
    · rename_i hn hn2
      refine ⟨c, ρ, o, ρ', R, e, ?_⟩
      cases o with
      | retL ds => exact absurd e (hn2 ds ρ')
      | next => exact q
      | brk => exact q
      | cont => exact q
      | ret d => exact q
theorem suite_two {x : Str} {e : Expr} {pos' p1 p2 p3 p4 : Pos} {k1 k2 : Nat} {s1 s2 : Str} (hN : X.N.Nodup) (hj : X.N[j]? = some x) (hx : Loc X.env.scope x) (h1 : PE X e (tKn i a true)) (hv : PE X (.Name x p) (tVar j)) (hs : swapsWith e (some (.Name x pos')) pos.line X.env = pure false := by rfl)
    (hf : X.fn x = true ∨ X.env.scope.names.lookup x = some .local := by first | exact .inl rfl | exact .inr rfl | assumption) :
    PSs X [.Assign [.Name x pos'] e pos, .Return (some (.IfExp (.Name x p) (.Constant (.str s1) k1 p1) (.Constant (.str s2) k2 p2) p3)) p4] (fun D σ H => σ[i]? = some (some (.ref a)) ∧ j < σ.length ∧ D.rt (.str s1) H) :=
  pss_of (pss_cons (ps_set hN hj hx h1 hs hf) (pss_one (ps_ret (pe_ifExp (pt_val hv) pe_str pe_str)))) fun D σ H ⟨g, lj, q⟩ => by
    refine ⟨g, .bl true, List.getElem?_set_self lj, true, rfl, iteT q⟩
end
end PG
end
section
set_option Elab.async false
set_option linter.all false
set_option maxRecDepth 100000
namespace Pr_C
open PySem PG
/-! what each def does, on data -/
def X_law_same_1 (R : List PyData → Option PyData) : TF :=
  (tNot' (tTru (eCall R (nCons (eBin dIx (eName 0) (eName 2)) (nCons (eBin dIx (eName 1) (eName 2)) nNil)))))
def X_law_same_2 (R : List PyData → Option PyData) : EF :=
  (eName 2)
def B_law_same (R : List PyData → Option PyData) : SF :=
  (sSeq (sIf (tOr' (tTru (eUn (dIsi "tuple") (eName 1))) (tTru (eUn (dIsi "list") (eName 1))))
  (sSeq (sIf (tOr' (tBl (eBin dNe (eUn (dIsi "tuple") (eName 1)) (eUn (dIsi "tuple") (eName 0)))) (tOr' (tBl (eBin dNe (eUn (dIsi "list") (eName 1)) (eUn (dIsi "list") (eName 0)))) (tBl (eBin dNe (eCall (o1of dLen) (nCons (eName 0) nNil)) (eCall (o1of dLen) (nCons (eName 1) nNil))))))
  (sSeq (sRet (eC (.bool false)))
  sNil)
  sNil)
  (sSeq (sRet (eBin dEq (eCall (o1of dLen) (nCons (eLst (nComp (itR1 (nCons (eCall (o1of dLen) (nCons (eName 1) nNil)) nNil)) (gSet 2) (X_law_same_1 R) (X_law_same_2 R) [2])) nNil)) (eC (.int 0))))
  sNil))
  sNil)
  (sSeq (sIf (tBl (eUn dIsN (eName 1)))
  (sSeq (sRet (eUn dIsN (eName 0)))
  sNil)
  sNil)
  (sSeq (sIf (tOr' (tTru (eUn (dIsi "bool") (eName 1))) (tTru (eUn (dIsi "bool") (eName 0))))
  (sSeq (sRet (eAnd (eUn (dIsi "bool") (eName 1)) (eAnd (eUn (dIsi "bool") (eName 0)) (eBin dEq (eName 0) (eName 1)))))
  sNil)
  sNil)
  (sSeq (sIf (tTru (eUn (dIsi "int") (eName 1)))
  (sSeq (sRet (eAnd (eUn (dIsi "int") (eName 0)) (eBin dEq (eName 0) (eName 1))))
  sNil)
  sNil)
  (sSeq (sRet (eAnd (eUn (dIsi "str") (eName 0)) (eBin dEq (eName 0) (eName 1))))
  sNil)))))
def F_law_same : Nat → List PyData → Option PyData
  | 0 => fun _ => none
  | n + 1 => defP (B_law_same (F_law_same n)) 2 1
def X_law_pool_1 : SF :=
  (sSeq (sSet 1 (eBin dMod (eCall (o1of dInt) (nCons (eBin dAdd (eBin dMul (eName 1) (eC (.int 31))) (eName 2)) nNil)) (eC (.int 1000003))))
  sNil)
def B_law_pool : SF :=
  (sSeq (sSet 1 (eC (.int 7)))
  (sSeq (sFor (itS (eLst (nSl (eName 0) none (some (eC (.int 63)))))) (gSet 2)
  X_law_pool_1)
  (sSeq (sRetL (nDisp (nCons (eLst (nCall (n1of dLstOf) (nCons (eName 0) nNil))) (nCons (eC (.int 0)) (nCons (eC (.int 0)) (nCons (eC (.int 0)) (nCons (eName 1) nNil)))))))
  sNil)))
def F_law_pool : List PyData → Option (List PyData) := defN B_law_pool 1 2
def X_law_spread_1 : SF :=
  (sSeq (sSet 1 (eBin dMod (eCall (o1of dInt) (nCons (eBin dAdd (eBin dAdd (eBin dMul (eName 1) (eC (.int 48271))) (eC (.int 12345))) (eName 3)) nNil)) (eC (.int 2147483647))))
  (sSeq (sSet 2 (eBin dAdd (eBin dMul (eName 2) (eC (.int 2147483647))) (eName 1)))
  sNil))
def B_law_spread : SF :=
  (sSeq (sSet 1 (eBin dMod (eCall (o1of dInt) (nCons (eName 0) nNil)) (eC (.int 2147483647))))
  (sSeq (sSet 2 (eC (.int 1)))
  (sSeq (sFor (itR1 (nCons (eC (.int 4)) nNil)) (gSet 3)
  X_law_spread_1)
  (sSeq (sRet (eName 2))
  sNil))))
def F_law_spread : List PyData → Option PyData := defP B_law_spread 1 3
def B_law_draw : SF :=
  (sSeq (sIf (tAnd' (tBl (eBin dLe (eIxL dIx 0 (eC (.int 2))) (eC (.int 0)))) (tBl (eBin dLt (eIxL dIx 0 (eC (.int 1))) (eCall (o1of dLen) (nCons (eIxL dIx 0 (eC (.int 0))) nNil)))))
  (sSeq (sSet 3 (eBin dIx (eIxL dIx 0 (eC (.int 0))) (eIxL dIx 0 (eC (.int 1)))))
  (sSeq (sSto 0 (eC (.int 1)) (eBin dAdd (eIxL dIx 0 (eC (.int 1))) (eC (.int 1))))
  (sSeq (sSto 0 (eC (.int 2)) (eName 3))
  (sSeq (sIf (tBl (eBin dLt (eName 3) (eC (.int 1000000000000000000))))
  (sSeq (sSto 0 (eC (.int 2)) (eCall F_law_spread (nCons (eName 3) nNil)))
  sNil)
  sNil)
  sNil))))
  sNil)
  (sSeq (sSto 0 (eC (.int 3)) (eBin dAdd (eIxL dIx 0 (eC (.int 3))) (eC (.int 1))))
  (sSeq (sIf (tBl (eBin dLe (eIxL dIx 0 (eC (.int 2))) (eC (.int 0))))
  (sSeq (sSet 4 (eBin dMod (eCall (o1of dInt) (nCons (eBin dAdd (eBin dAdd (eBin dMul (eIxL dIx 0 (eC (.int 4))) (eC (.int 48271))) (eBin dMul (eIxL dIx 0 (eC (.int 3))) (eC (.int 69621)))) (eC (.int 1))) nNil)) (eC (.int 2147483647))))
  (sSeq (sSet 4 (eBin dMod (eCall (o1of dInt) (nCons (eBin dAdd (eBin dMul (eName 4) (eC (.int 16807))) (eIxL dIx 0 (eC (.int 3)))) nNil)) (eC (.int 2147483629))))
  (sSeq (sRet (eBin dMod (eBin dDiv (eName 4) (eC (.int 5))) (eName 1)))
  sNil)))
  sNil)
  (sSeq (sSet 2 (eBin dMod (eCall (o1of dInt) (nCons (eIxL dIx 0 (eC (.int 2))) nNil)) (eName 1)))
  (sSeq (sSto 0 (eC (.int 2)) (eBin dDiv (eIxL dIx 0 (eC (.int 2))) (eName 1)))
  (sSeq (sRet (eName 2))
  sNil))))))
def F_law_draw : List PyData → List PyData → Option (PyData × List PyData) := defL B_law_draw 1 3
def X_law_has_1 : TF :=
  (tAnd' (tBl (eBin dLe (eBin dIx (eName 2) (eC (.int 0))) (eName 1))) (tBl (eBin dLe (eName 1) (eBin dIx (eName 2) (eC (.int 1))))))
def X_law_has_2 : EF :=
  (eName 2)
def B_law_has : SF :=
  (sSeq (sRet (eBin dGt (eCall (o1of dLen) (nCons (eLst (nComp (itS (eName 0)) (gSet 2) X_law_has_1 X_law_has_2 [2])) nNil)) (eC (.int 0))))
  sNil)
def F_law_has : List PyData → Option PyData := defP B_law_has 2 1
def X_law_union_1 : EF :=
  (eCall (o2of dMin) (nCons (eBin dIx (eName 5) (eC (.int 0))) (nCons (eBin dAdd (eName 1) (eC (.int 1))) nNil)))
def X_law_union_2 : EF :=
  (eCall (o2of dMin) (nCons (eBin dAdd (eBin dIx (eName 5) (eC (.int 1))) (eC (.int 1))) (nCons (eBin dAdd (eName 1) (eC (.int 1))) nNil)))
def X_law_union_3 : SF :=
  (sSeq (sIf (tTru (eCall F_law_has (nCons (eName 0) (nCons (eBin dIx (eName 2) (eName 4)) nNil))))
  (sSeq (sIf (tAnd' (tBl (eBin dGt (eUnL dLen 3) (eC (.int 0)))) (tBl (eBin dEq (eBin dAdd (eBin dIx (eIxL dIx 3 (eUn dNeg (eC (.int 1)))) (eC (.int 1))) (eC (.int 1))) (eBin dIx (eName 2) (eName 4)))))
  (sSeq (sSto 3 (eUn dNeg (eC (.int 1))) (eTup (nCons (eBin dIx (eIxL dIx 3 (eUn dNeg (eC (.int 1)))) (eC (.int 0))) (nCons (eBin dSub (eBin dIx (eName 2) (eBin dAdd (eName 4) (eC (.int 1)))) (eC (.int 1))) nNil))))
  sNil)
  (sSeq (sApp 3 (eTup (nCons (eBin dIx (eName 2) (eName 4)) (nCons (eBin dSub (eBin dIx (eName 2) (eBin dAdd (eName 4) (eC (.int 1)))) (eC (.int 1))) nNil))))
  sNil))
  sNil)
  sNil)
  sNil)
def B_law_union : SF :=
  (sSeq (sSet 2 (eLst (nCall (n1of dSortSet) (nCons (eBin dAdd (eBin dAdd (eLst (nDisp (nCons (eC (.int 0)) (nCons (eBin dAdd (eName 1) (eC (.int 1))) nNil)))) (eLst (nComp (itS (eName 0)) (gSet 5) tYesF X_law_union_1 [5]))) (eLst (nComp (itS (eName 0)) (gSet 5) tYesF X_law_union_2 [5]))) nNil))))
  (sSeq (sSetL 3 (nDisp nNil))
  (sSeq (sFor (itR1 (nCons (eBin dSub (eCall (o1of dLen) (nCons (eName 2) nNil)) (eC (.int 1))) nNil)) (gSet 4)
  X_law_union_3)
  (sSeq (sRet (eUnL dTupOf 3))
  sNil))))
def F_law_union : List PyData → Option PyData := defP B_law_union 2 4
def B_law_number : SF :=
  (sSeq (sSet 2 (eCallL F_law_draw 0 (nCons (eC (.int 4)) nNil)))
  (sSeq (sIf (tBl (eBin dEq (eName 2) (eC (.int 0))))
  (sSeq (sRet (eCallL F_law_draw 0 (nCons (eBin dAdd (eName 1) (eC (.int 1))) nNil)))
  sNil)
  sNil)
  (sSeq (sIf (tBl (eBin dEq (eName 2) (eC (.int 1))))
  (sSeq (sRet (eCall (o2of dMin) (nCons (eName 1) (nCons (eCallL F_law_draw 0 (nCons (eC (.int 12)) nNil)) nNil))))
  sNil)
  sNil)
  (sSeq (sIf (tBl (eBin dEq (eName 2) (eC (.int 2))))
  (sSeq (sRet (eCall (o2of dMax) (nCons (eC (.int 0)) (nCons (eBin dSub (eName 1) (eCallL F_law_draw 0 (nCons (eC (.int 12)) nNil))) nNil))))
  sNil)
  sNil)
  (sSeq (sRet (eCall (o2of dMin) (nCons (eName 1) (nCons (eBin dMul (eC (.int 256)) (eCallL F_law_draw 0 (nCons (eC (.int 256)) nNil))) nNil))))
  sNil)))))
def F_law_number : List PyData → List PyData → Option (PyData × List PyData) := defL B_law_number 1 1
def X_law_pairs_1 : SF :=
  (sSeq (sSet 5 (eCallL F_law_number 0 (nCons (eName 1) nNil)))
  (sSeq (sApp 3 (eTup (nCons (eName 5) (nCons (eCall (o2of dMin) (nCons (eName 1) (nCons (eBin dAdd (eName 5) (eBin dIx (eTup (nCons (eC (.int 0)) (nCons (eC (.int 1)) (nCons (eC (.int 3)) (nCons (eC (.int 255)) (nCons (eC (.int 5000)) nNil)))))) (eCallL F_law_draw 0 (nCons (eC (.int 5)) nNil)))) nNil))) nNil))))
  sNil))
def B_law_pairs : SF :=
  (sSeq (sSetL 3 (nDisp nNil))
  (sSeq (sFor (itR1 (nCons (eName 2) nNil)) (gSet 4)
  X_law_pairs_1)
  (sSeq (sRetO 3)
  sNil)))
def F_law_pairs : List PyData → List PyData → Option (PyData × List PyData) := defL B_law_pairs 2 3
def B_law_drawn_set : SF :=
  (sSeq (sRet (eCall F_law_union (nCons (eCallL F_law_pairs 0 (nCons (eName 1) (nCons (eCallL F_law_draw 0 (nCons (eBin dAdd (eName 2) (eC (.int 1))) nNil)) nNil))) (nCons (eName 1) nNil))))
  sNil)
def F_law_drawn_set : List PyData → List PyData → Option (PyData × List PyData) := defL B_law_drawn_set 2 0
def X_law_power_1 : SF :=
  (sSeq (sSet 1 (eBin dMul (eName 1) (eC (.int 2))))
  sNil)
def B_law_power : SF :=
  (sSeq (sSet 1 (eC (.int 1)))
  (sSeq (sFor (itR1 (nCons (eName 0) nNil)) (gSet 2)
  X_law_power_1)
  (sSeq (sRet (eName 1))
  sNil)))
def F_law_power : List PyData → Option PyData := defP B_law_power 1 2
def B_law_pick : SF :=
  (sSeq (sRet (eBin dIx (eName 1) (eCallL F_law_draw 0 (nCons (eCall (o1of dLen) (nCons (eName 1) nNil)) nNil))))
  sNil)
def F_law_pick : List PyData → List PyData → Option (PyData × List PyData) := defL B_law_pick 1 0
def B_law_is_integer : SF :=
  (sSeq (sRet (eAnd (eUn (dIsi "int") (eName 0)) (eNot (eUn (dIsi "bool") (eName 0)))))
  sNil)
def F_law_is_integer : List PyData → Option PyData := defP B_law_is_integer 1 0
end Pr_C
end
section
set_option Elab.async false
set_option linter.all false
set_option maxRecDepth 100000
namespace Pr_D
open PySem PG Pr_C
/-! what each def does, on data -/
def B_is_tuple : SF :=
  (sSeq (sRet (eAnd (eUn (dTyIs "tuple") (eName 0)) (eBin dEq (eCall (o1of dLen) (nCons (eName 0) nNil)) (eName 1))))
  sNil)
def F_is_tuple : List PyData → Option PyData := defP B_is_tuple 2 0
def B_law_bent (R : List PyData → List PyData → Option (PyData × List PyData)) : SF :=
  (sSeq (sIf (tAnd' (tTru (eUn (dIsi "tuple") (eName 1))) (tAnd' (tBl (eBin dGt (eCall (o1of dLen) (nCons (eName 1) nNil)) (eC (.int 0)))) (tBl (eBin dGt (eCallL F_law_draw 0 (nCons (eC (.int 3)) nNil)) (eC (.int 0))))))
  (sSeq (sSet 3 (eCallL F_law_draw 0 (nCons (eCall (o1of dLen) (nCons (eName 1) nNil)) nNil)))
  (sSeq (sRet (eBin dAdd (eBin dAdd (eSlT (eName 1) none (some (eName 3))) (eTup (nCons (eCallL R 0 (nCons (eBin dIx (eName 1) (eName 3)) nNil)) nNil))) (eSlT (eName 1) (some (eBin dAdd (eName 3) (eC (.int 1)))) none)))
  sNil))
  sNil)
  (sSeq (sSet 2 (eCallL F_law_draw 0 (nCons (eC (.int 9)) nNil)))
  (sSeq (sIf (tBl (eBin dEq (eName 2) (eC (.int 0))))
  (sSeq (sRet (eBin dIx (eTup (nCons (eC (.str (Str.ofString "x"))) (nCons (eC (.bool true)) (nCons (eTup nNil) (nCons (eC (.int 0)) (nCons (eUn dNeg (eC (.int 1))) (nCons (eC .none) (nCons (eC (.bool false)) (nCons (eLst (nDisp nNil)) nNil))))))))) (eCallL F_law_draw 0 (nCons (eC (.int 8)) nNil))))
  sNil)
  sNil)
  (sSeq (sIf (tTru (eCall F_law_is_integer (nCons (eName 1) nNil)))
  (sSeq (sRet (eBin dAdd (eName 1) (eBin dIx (eTup (nCons (eC (.int 1)) (nCons (eUn dNeg (eC (.int 1))) (nCons (eC (.int 2)) (nCons (eC (.int 0)) nNil))))) (eCallL F_law_draw 0 (nCons (eC (.int 4)) nNil)))))
  sNil)
  sNil)
  (sSeq (sIf (tTru (eUn (dIsi "str") (eName 1)))
  (sSeq (sRet (eBin dIx (eTup (nCons (eBin dAdd (eName 1) (eC (.str (Str.ofString "a")))) (nCons (eSlT (eName 1) (some (eC (.int 1))) none) (nCons (eBin dAdd (eName 1) (eC (.str (Str.ofString "A")))) (nCons (eBin dAdd (eName 1) (eC (.str (Str.ofString " ")))) (nCons (eSlT (eName 1) none (some (eC (.int 1)))) nNil)))))) (eCallL F_law_draw 0 (nCons (eC (.int 5)) nNil))))
  sNil)
  sNil)
  (sSeq (sIf (tOr' (tNot' (tTru (eUn (dIsi "tuple") (eName 1)))) (tBl (eBin dEq (eCall (o1of dLen) (nCons (eName 1) nNil)) (eC (.int 0)))))
  (sSeq (sRet (eIf (tBl (eBin dLt (eName 2) (eC (.int 5)))) (eTup (nCons (eName 1) (nCons (eC (.int 0)) nNil))) (eTup nNil)))
  sNil)
  sNil)
  (sSeq (sSet 3 (eCallL F_law_draw 0 (nCons (eCall (o1of dLen) (nCons (eName 1) nNil)) nNil)))
  (sSeq (sIf (tBl (eBin dLt (eName 2) (eC (.int 3))))
  (sSeq (sRet (eBin dAdd (eSlT (eName 1) none (some (eName 3))) (eSlT (eName 1) (some (eBin dAdd (eName 3) (eC (.int 1)))) none)))
  sNil)
  sNil)
  (sSeq (sIf (tBl (eBin dLt (eName 2) (eC (.int 5))))
  (sSeq (sRet (eBin dAdd (eBin dAdd (eSlT (eName 1) none (some (eName 3))) (eTup (nCons (eBin dIx (eName 1) (eName 3)) nNil))) (eSlT (eName 1) (some (eName 3)) none)))
  sNil)
  sNil)
  (sSeq (sIf (tBl (eBin dEq (eName 2) (eC (.int 5))))
  (sSeq (sRet (eLst (nCall (n1of dLstOf) (nCons (eName 1) nNil))))
  sNil)
  sNil)
  (sSeq (sSet 4 (eCallL F_law_draw 0 (nCons (eCall (o1of dLen) (nCons (eName 1) nNil)) nNil)))
  (sSeq (sSetL 5 (nCall (n1of dLstOf) (nCons (eName 1) nNil)))
  (sSeq (sSto 5 (eName 3) (eBin dIx (eName 1) (eName 4)))
  (sSeq (sSto 5 (eName 4) (eBin dIx (eName 1) (eName 3)))
  (sSeq (sRet (eUnL dTupOf 5))
  sNil)))))))))))))))
def F_law_bent : Nat → List PyData → List PyData → Option (PyData × List PyData)
  | 0 => fun _ _ => none
  | n + 1 => defL (B_law_bent (F_law_bent n)) 1 4
def X_law_booled_1 (R : List PyData → Option PyData) : EF :=
  (eCall R (nCons (eName 1) nNil))
def B_law_booled (R : List PyData → Option PyData) : SF :=
  (sSeq (sIf (tTru (eUn (dIsi "tuple") (eName 0)))
  (sSeq (sRet (eCall (o1of dTupOf) (nCons (eLst (nComp (itS (eName 0)) (gSet 1) tYesF (X_law_booled_1 R) [1])) nNil)))
  sNil)
  sNil)
  (sSeq (sRet (eIf (tAnd' (tTru (eCall F_law_is_integer (nCons (eName 0) nNil))) (tAnd' (tBl (eBin dLe (eC (.int 0)) (eName 0))) (tBl (eBin dLt (eName 0) (eC (.int 2)))))) (eBin dIx (eTup (nCons (eC (.bool false)) (nCons (eC (.bool true)) nNil))) (eName 0)) (eName 0)))
  sNil))
def F_law_booled : Nat → List PyData → Option PyData
  | 0 => fun _ => none
  | n + 1 => defP (B_law_booled (F_law_booled n)) 1 1
def B_is_number : SF :=
  (sSeq (sRet (eAnd (eUn (dTyIs "int") (eName 0)) (eChain dLe dLe (eName 1) (eName 0) (eName 2))))
  sNil)
def F_is_number : List PyData → Option PyData := defP B_is_number 3 0
def B_is_address : SF :=
  (sSeq (sRet (eCall F_is_number (nCons (eName 0) (nCons (eC (.int 0)) (nCons (eC (.int 65535)) nNil)))))
  sNil)
def F_is_address : List PyData → Option PyData := defP B_is_address 1 0
def B_law_is_number : SF :=
  (sSeq (sRet (eAnd (eCall F_law_is_integer (nCons (eName 0) nNil)) (eAnd (eBin dLe (eC (.int 0)) (eName 0)) (eBin dLe (eName 0) (eName 1)))))
  sNil)
def F_law_is_number : List PyData → Option PyData := defP B_law_is_number 2 0
end Pr_D
end
section
set_option Elab.async false
set_option linter.all false
set_option maxRecDepth 100000
namespace Pr_S
open PySem PG Pr_C
/-! what each def does, on data -/
def X_words_of_1 : EF :=
  (eBin dAdd (eBin dMul (eC (.int 256)) (eBin dIx (eName 1) (eName 2))) (eBin dIx (eName 1) (eBin dAdd (eName 2) (eC (.int 1)))))
def B_words_of : SF :=
  (sSeq (sSet 1 (eIf (tBl (eBin dEq (eBin dMod (eCall (o1of dLen) (nCons (eName 0) nNil)) (eC (.int 2))) (eC (.int 0)))) (eName 0) (eTup (nStar (eName 0) (nCons (eC (.int 0)) nNil)))))
  (sSeq (sRet (eLst (nComp (itR3 (nCons (eC (.int 0)) (nCons (eCall (o1of dLen) (nCons (eName 1) nNil)) (nCons (eC (.int 2)) nNil)))) (gSet 2) tYesF X_words_of_1 [2])))
  sNil))
def F_words_of : List PyData → Option PyData := defP B_words_of 1 2
def B_folded : SF :=
  (sSeq (sSet 1 (eCall (o1of dSum) (nCons (eName 0) nNil)))
  (sSeq (sIf (tBl (eBin dEq (eName 1) (eC (.int 0))))
  (sSeq (sRet (eC (.int 0)))
  sNil)
  sNil)
  (sSeq (sRet (eBin dAdd (eBin dMod (eBin dSub (eName 1) (eC (.int 1))) (eC (.int 65535))) (eC (.int 1))))
  sNil)))
def F_folded : List PyData → Option PyData := defP B_folded 1 1
def B_sum_of : SF :=
  (sSeq (sRet (eBin dSub (eC (.int 65535)) (eCall F_folded (nCons (eCall F_words_of (nCons (eName 0) nNil)) nNil))))
  sNil)
def F_sum_of : List PyData → Option PyData := defP B_sum_of 1 0
def X_law_fold_1 : TF :=
  (tBl (eBin dGt (eName 1) (eC (.int 65535))))
def X_law_fold_2 : SF :=
  (sSeq (sSet 1 (eBin dAdd (eBin dDiv (eName 1) (eC (.int 65536))) (eBin dMod (eCall (o1of dInt) (nCons (eName 1) nNil)) (eC (.int 65536)))))
  sNil)
def B_law_fold : SF :=
  (sSeq (sSet 1 (eCall (o1of dSum) (nCons (eName 0) nNil)))
  (sSeq (sWhile (fun _ => FUEL) X_law_fold_1
  X_law_fold_2)
  (sSeq (sRet (eName 1))
  sNil)))
def F_law_fold : List PyData → Option PyData := defP B_law_fold 1 1
def X_law_words_1 : EF :=
  (eBin dAdd (eBin dMul (eC (.int 256)) (eBin dIx (eName 1) (eBin dMul (eC (.int 2)) (eName 2)))) (eBin dIx (eName 1) (eBin dAdd (eBin dMul (eC (.int 2)) (eName 2)) (eC (.int 1)))))
def B_law_words : SF :=
  (sSeq (sSet 1 (eBin dAdd (eLst (nCall (n1of dLstOf) (nCons (eName 0) nNil))) (eBin dRep (eLst (nDisp (nCons (eC (.int 0)) nNil))) (eBin dMod (eCall (o1of dInt) (nCons (eCall (o1of dLen) (nCons (eName 0) nNil)) nNil)) (eC (.int 2))))))
  (sSeq (sRet (eLst (nComp (itR1 (nCons (eBin dDiv (eCall (o1of dLen) (nCons (eName 1) nNil)) (eC (.int 2))) nNil)) (gSet 2) tYesF X_law_words_1 [2])))
  sNil))
def F_law_words : List PyData → Option PyData := defP B_law_words 1 2
def B_law_check : SF :=
  (sSeq (sRet (eBin dSub (eC (.int 65535)) (eCall F_law_fold (nCons (eCall F_law_words (nCons (eName 0) nNil)) nNil))))
  sNil)
def F_law_check : List PyData → Option PyData := defP B_law_check 1 0
def B_law_two : SF :=
  (sSeq (sRet (eTup (nCons (eBin dDiv (eName 0) (eC (.int 256))) (nCons (eBin dMod (eCall (o1of dInt) (nCons (eName 0) nNil)) (eC (.int 256))) nNil))))
  sNil)
def F_law_two : List PyData → Option PyData := defP B_law_two 1 0
def X_law_row_1 : EF :=
  (eBin dIx (eTup (nCons (eCallL F_law_draw 0 (nCons (eC (.int 256)) nNil)) (nCons (eC (.int 0)) (nCons (eC (.int 255)) (nCons (eC (.int 1)) nNil))))) (eCallL F_law_draw 0 (nCons (eC (.int 4)) nNil)))
def B_law_row : SF :=
  (sSeq (sRet (eCall (o1of dTupOf) (nCons (eLst (nComp (itR1 (nCons (eName 1) nNil)) (gSet 2) tYesF X_law_row_1 [2])) nNil)))
  sNil)
def F_law_row : List PyData → List PyData → Option (PyData × List PyData) := defL B_law_row 1 1
end Pr_S
end
section
set_option Elab.async false
set_option linter.all false
set_option maxRecDepth 100000
namespace Pr_P
open PySem PG Pr_C Pr_D Pr_S
/-! what each def does, on data -/
def B_head_bytes : SF :=
  (sSeq (sRet (eBin (dGetT [(6, 8), (17, 6), (1, 4)]) (eName 0) (eC (.int 0))))
  sNil)
def F_head_bytes : List PyData → Option PyData := defP B_head_bytes 1 0
def B_length_of : SF :=
  (sSeq (sPar [1, 2, 3] (nCons (eBin dIx (eName 0) (eC (.int 2))) (nCons (eBin dIx (eName 0) (eC (.int 4))) (nCons (eBin dIx (eName 0) (eC (.int 6))) nNil))))
  (sSeq (sRet (eBin dAdd (eBin dAdd (eBin dAdd (eC (.int 12)) (eCall (o1of dLen) (nCons (eName 2) nNil))) (eCall F_head_bytes (nCons (eName 1) nNil))) (eCall (o1of dLen) (nCons (eName 3) nNil))))
  sNil))
def F_length_of : List PyData → Option PyData := defP B_length_of 1 3
def B_law_inner_size : SF :=
  (sSeq (sRet (eIf (tBl (eBin dEq (eName 0) (eC (.int 6)))) (eC (.int 8)) (eIf (tBl (eBin dEq (eName 0) (eC (.int 17)))) (eC (.int 6)) (eIf (tBl (eBin dEq (eName 0) (eC (.int 1)))) (eC (.int 4)) (eC (.int 0))))))
  sNil)
def F_law_inner_size : List PyData → Option PyData := defP B_law_inner_size 1 0
def B_law_kind : SF :=
  (sSeq (sRet (eBin dIx (eTup (nCons (eC (.int 6)) (nCons (eC (.int 6)) (nCons (eC (.int 17)) (nCons (eC (.int 1)) (nCons (eCallL F_law_draw 0 (nCons (eC (.int 256)) nNil)) nNil)))))) (eCallL F_law_draw 0 (nCons (eC (.int 5)) nNil))))
  sNil)
def F_law_kind : List PyData → List PyData → Option (PyData × List PyData) := defL B_law_kind 0 0
def B_law_inner : SF :=
  (sSeq (sIf (tBl (eBin dEq (eName 1) (eC (.int 6))))
  (sSeq (sRet (eTup (nCons (eCallL F_law_number 0 (nCons (eC (.int 65535)) nNil)) (nCons (eCallL F_law_number 0 (nCons (eC (.int 65535)) nNil)) (nCons (eCallL F_law_draw 0 (nCons (eC (.int 8)) nNil)) nNil)))))
  sNil)
  sNil)
  (sSeq (sIf (tBl (eBin dEq (eName 1) (eC (.int 17))))
  (sSeq (sRet (eTup (nCons (eCallL F_law_number 0 (nCons (eC (.int 65535)) nNil)) (nCons (eCallL F_law_number 0 (nCons (eC (.int 65535)) nNil)) nNil))))
  sNil)
  sNil)
  (sSeq (sRet (eIf (tBl (eBin dEq (eName 1) (eC (.int 1)))) (eTup (nCons (eCallL F_law_draw 0 (nCons (eC (.int 256)) nNil)) (nCons (eCallL F_law_draw 0 (nCons (eC (.int 256)) nNil)) nNil))) (eTup nNil)))
  sNil)))
def F_law_inner : List PyData → List PyData → Option (PyData × List PyData) := defL B_law_inner 1 0
def B_law_packet : SF :=
  (sSeq (sSet 2 (eCallL F_law_kind 0 nNil))
  (sSeq (sSet 3 (eTup (nCons (eCallL F_law_number 0 (nCons (eC (.int 65535)) nNil)) (nCons (eCallL F_law_number 0 (nCons (eC (.int 65535)) nNil)) nNil))))
  (sSeq (sSet 4 (eCallL F_law_row 0 (nCons (eBin dMul (eC (.int 2)) (eCallL F_law_draw 0 (nCons (eC (.int 5)) nNil))) nNil)))
  (sSeq (sSet 5 (eCallL F_law_row 0 (nCons (eCallL F_law_draw 0 (nCons (eBin dAdd (eName 1) (eC (.int 1))) nNil)) nNil)))
  (sSeq (sRet (eBin dAdd (eName 3) (eTup (nCons (eName 2) (nCons (eBin dIx (eTup (nCons (eBin dAdd (eC (.int 1)) (eCallL F_law_draw 0 (nCons (eC (.int 255)) nNil))) (nCons (eC (.int 1)) (nCons (eC (.int 2)) (nCons (eC (.int 64)) nNil))))) (eCallL F_law_draw 0 (nCons (eC (.int 4)) nNil))) (nCons (eName 4) (nCons (eCallL F_law_inner 0 (nCons (eName 2) nNil)) (nCons (eName 5) nNil))))))))
  sNil)))))
def F_law_packet : List PyData → List PyData → Option (PyData × List PyData) := defL B_law_packet 1 4
def B_law_length : SF :=
  (sSeq (sRet (eBin dAdd (eBin dAdd (eBin dAdd (eC (.int 12)) (eCall (o1of dLen) (nCons (eBin dIx (eName 0) (eC (.int 4))) nNil))) (eCall F_law_inner_size (nCons (eBin dIx (eName 0) (eC (.int 2))) nNil))) (eCall (o1of dLen) (nCons (eBin dIx (eName 0) (eC (.int 6))) nNil))))
  sNil)
def F_law_length : List PyData → Option PyData := defP B_law_length 1 0
def X_law_is_row_1 : TF :=
  (tNot' (tTru (eCall F_law_is_number (nCons (eName 1) (nCons (eC (.int 255)) nNil)))))
def X_law_is_row_2 : EF :=
  (eName 1)
def B_law_is_row : SF :=
  (sSeq (sRet (eAnd (eUn (dIsi "tuple") (eName 0)) (eBin dEq (eCall (o1of dLen) (nCons (eLst (nComp (itS (eName 0)) (gSet 1) X_law_is_row_1 X_law_is_row_2 [1])) nNil)) (eC (.int 0)))))
  sNil)
def F_law_is_row : List PyData → Option PyData := defP B_law_is_row 1 1
def X_law_is_packet_1 : TF :=
  (tNot' (tTru (eCall F_law_is_number (nCons (eBin dIx (eBin dIx (eName 0) (eC (.int 5))) (eName 2)) (nCons (eBin dIx (eName 1) (eName 2)) nNil)))))
def X_law_is_packet_2 : EF :=
  (eName 2)
def B_law_is_packet : SF :=
  (sSeq (sIf (tOr' (tNot' (tTru (eUn (dIsi "tuple") (eName 0)))) (tOr' (tBl (eBin dNe (eCall (o1of dLen) (nCons (eName 0) nNil)) (eC (.int 7)))) (tOr' (tNot' (tTru (eCall F_law_is_number (nCons (eBin dIx (eName 0) (eC (.int 0))) (nCons (eC (.int 65535)) nNil))))) (tNot' (tTru (eCall F_law_is_number (nCons (eBin dIx (eName 0) (eC (.int 1))) (nCons (eC (.int 65535)) nNil))))))))
  (sSeq (sRet (eC (.bool false)))
  sNil)
  sNil)
  (sSeq (sIf (tOr' (tNot' (tTru (eCall F_law_is_number (nCons (eBin dIx (eName 0) (eC (.int 2))) (nCons (eC (.int 255)) nNil))))) (tOr' (tNot' (tTru (eCall F_law_is_number (nCons (eBin dIx (eName 0) (eC (.int 3))) (nCons (eC (.int 255)) nNil))))) (tBl (eBin dEq (eBin dIx (eName 0) (eC (.int 3))) (eC (.int 0))))))
  (sSeq (sRet (eC (.bool false)))
  sNil)
  sNil)
  (sSeq (sIf (tOr' (tNot' (tTru (eCall F_law_is_row (nCons (eBin dIx (eName 0) (eC (.int 4))) nNil)))) (tOr' (tBl (eBin dNotIn2 (eCall (o1of dLen) (nCons (eBin dIx (eName 0) (eC (.int 4))) nNil)) (eTup (nCons (eC (.int 0)) (nCons (eC (.int 2)) (nCons (eC (.int 4)) (nCons (eC (.int 6)) (nCons (eC (.int 8)) nNil)))))))) (tNot' (tTru (eCall F_law_is_row (nCons (eBin dIx (eName 0) (eC (.int 6))) nNil))))))
  (sSeq (sRet (eC (.bool false)))
  sNil)
  sNil)
  (sSeq (sSet 1 (eIf (tBl (eBin dEq (eBin dIx (eName 0) (eC (.int 2))) (eC (.int 6)))) (eTup (nCons (eC (.int 65535)) (nCons (eC (.int 65535)) (nCons (eC (.int 7)) nNil)))) (eIf (tBl (eBin dEq (eBin dIx (eName 0) (eC (.int 2))) (eC (.int 17)))) (eTup (nCons (eC (.int 65535)) (nCons (eC (.int 65535)) nNil))) (eIf (tBl (eBin dEq (eBin dIx (eName 0) (eC (.int 2))) (eC (.int 1)))) (eTup (nCons (eC (.int 255)) (nCons (eC (.int 255)) nNil))) (eTup nNil)))))
  (sSeq (sIf (tOr' (tNot' (tTru (eUn (dIsi "tuple") (eBin dIx (eName 0) (eC (.int 5)))))) (tBl (eBin dNe (eCall (o1of dLen) (nCons (eBin dIx (eName 0) (eC (.int 5))) nNil)) (eCall (o1of dLen) (nCons (eName 1) nNil)))))
  (sSeq (sRet (eC (.bool false)))
  sNil)
  sNil)
  (sSeq (sRet (eAnd (eBin dEq (eCall (o1of dLen) (nCons (eLst (nComp (itR1 (nCons (eCall (o1of dLen) (nCons (eName 1) nNil)) nNil)) (gSet 2) X_law_is_packet_1 X_law_is_packet_2 [2])) nNil)) (eC (.int 0))) (eBin dLe (eCall F_law_length (nCons (eName 0) nNil)) (eC (.int 1500)))))
  sNil))))))
def F_law_is_packet : List PyData → Option PyData := defP B_law_is_packet 1 2
def B_two : SF :=
  (sSeq (sRet (eTup (nCons (eBin dDiv (eName 0) (eC (.int 256))) (nCons (eBin dMod (eName 0) (eC (.int 256))) nNil))))
  sNil)
def F_two : List PyData → Option PyData := defP B_two 1 0
def B_inner_bytes : SF :=
  (sSeq (sIf (tBl (eBin dEq (eName 0) (eC (.int 6))))
  (sSeq (sRet (eTup (nStar (eCall F_two (nCons (eBin dIx (eName 1) (eC (.int 0))) nNil)) (nStar (eCall F_two (nCons (eBin dIx (eName 1) (eC (.int 1))) nNil)) (nCons (eBin dIx (eName 1) (eC (.int 2))) (nCons (eC (.int 0)) (nCons (eC (.int 0)) (nCons (eC (.int 0)) nNil))))))))
  sNil)
  sNil)
  (sSeq (sIf (tBl (eBin dEq (eName 0) (eC (.int 17))))
  (sSeq (sRet (eTup (nStar (eCall F_two (nCons (eBin dIx (eName 1) (eC (.int 0))) nNil)) (nStar (eCall F_two (nCons (eBin dIx (eName 1) (eC (.int 1))) nNil)) (nCons (eC (.int 0)) (nCons (eC (.int 0)) nNil))))))
  sNil)
  sNil)
  (sSeq (sIf (tBl (eBin dEq (eName 0) (eC (.int 1))))
  (sSeq (sRet (eTup (nStar (eName 1) (nCons (eC (.int 0)) (nCons (eC (.int 0)) nNil)))))
  sNil)
  sNil)
  (sSeq (sRet (eTup nNil))
  sNil))))
def F_inner_bytes : List PyData → Option PyData := defP B_inner_bytes 2 0
def B_inner_row : SF :=
  (sSeq (sRet (eTup (nStar (eCall F_two (nCons (eName 0) nNil)) (nStar (eCall F_two (nCons (eName 1) nNil)) (nStar (eCall F_two (nCons (eName 2) nNil)) (nStar (eCall F_two (nCons (eCall (o1of dLen) (nCons (eName 3) nNil)) nNil)) (nStar (eName 3) nNil)))))))
  sNil)
def F_inner_row : List PyData → Option PyData := defP B_inner_row 4 0
def B_write_packet : SF :=
  (sSeq (sAsg (eName 0) (gTupS [5, 6, 7, 8, 9, 10, 11]))
  (sSeq (sSet 1 (eTup (nCons (eBin dAdd (eC (.int 70)) (eBin dDiv (eCall (o1of dLen) (nCons (eName 9) nNil)) (eC (.int 2)))) (nCons (eName 7) (nStar (eCall F_two (nCons (eCall F_length_of (nCons (eName 0) nNil)) nNil)) (nCons (eName 8) (nCons (eC (.int 0)) nNil)))))))
  (sSeq (sSet 2 (eTup (nStar (eCall F_two (nCons (eName 5) nNil)) (nStar (eCall F_two (nCons (eName 6) nNil)) (nStar (eName 9) nNil)))))
  (sSeq (sSet 3 (eCall F_sum_of (nCons (eTup (nStar (eName 1) (nCons (eC (.int 0)) (nCons (eC (.int 0)) (nStar (eName 2) nNil))))) nNil)))
  (sSeq (sSet 4 (eTup (nStar (eCall F_inner_bytes (nCons (eName 7) (nCons (eName 10) nNil))) (nStar (eName 11) nNil))))
  (sSeq (sIf (tBl (eUn (dInT [(6, 6), (17, 4), (1, 2)]) (eName 7)))
  (sSeq (sSet 12 (eUn (dIxT [(6, 6), (17, 4), (1, 2)]) (eName 7)))
  (sSeq (sSet 13 (eCall F_sum_of (nCons (eCall F_inner_row (nCons (eName 5) (nCons (eName 6) (nCons (eName 7) (nCons (eName 4) nNil))))) nNil)))
  (sSeq (sSet 4 (eTup (nStar (eSlT (eName 4) none (some (eName 12))) (nStar (eCall F_two (nCons (eName 13) nNil)) (nStar (eSlT (eName 4) (some (eBin dAdd (eName 12) (eC (.int 2)))) none) nNil)))))
  sNil)))
  sNil)
  (sSeq (sRet (eTup (nStar (eName 1) (nStar (eCall F_two (nCons (eName 3) nNil)) (nStar (eName 2) (nStar (eName 4) nNil))))))
  sNil)))))))
def F_write_packet : List PyData → Option PyData := defP B_write_packet 1 13
def B_law_bytes : SF :=
  (sSeq (sSet 1 (eBin dAdd (eBin dAdd (eTup (nCons (eBin dAdd (eC (.int 70)) (eBin dDiv (eCall (o1of dLen) (nCons (eBin dIx (eName 0) (eC (.int 4))) nNil)) (eC (.int 2)))) (nCons (eBin dIx (eName 0) (eC (.int 2))) nNil))) (eCall F_law_two (nCons (eCall F_law_length (nCons (eName 0) nNil)) nNil))) (eTup (nCons (eBin dIx (eName 0) (eC (.int 3))) (nCons (eC (.int 0)) nNil)))))
  (sSeq (sSet 2 (eBin dAdd (eCall F_law_two (nCons (eBin dIx (eName 0) (eC (.int 0))) nNil)) (eCall F_law_two (nCons (eBin dIx (eName 0) (eC (.int 1))) nNil))))
  (sSeq (sSet 3 (eBin dAdd (eBin dAdd (eBin dAdd (eName 1) (eCall F_law_two (nCons (eCall F_law_check (nCons (eBin dAdd (eBin dAdd (eBin dAdd (eName 1) (eTup (nCons (eC (.int 0)) (nCons (eC (.int 0)) nNil)))) (eName 2)) (eBin dIx (eName 0) (eC (.int 4)))) nNil)) nNil))) (eName 2)) (eBin dIx (eName 0) (eC (.int 4)))))
  (sSeq (sSet 4 (eBin dIx (eName 0) (eC (.int 5))))
  (sSeq (sIf (tBl (eBin dEq (eBin dIx (eName 0) (eC (.int 2))) (eC (.int 6))))
  (sSeq (sSet 4 (eBin dAdd (eBin dAdd (eCall F_law_two (nCons (eBin dIx (eName 4) (eC (.int 0))) nNil)) (eCall F_law_two (nCons (eBin dIx (eName 4) (eC (.int 1))) nNil))) (eTup (nCons (eBin dIx (eName 4) (eC (.int 2))) (nCons (eC (.int 0)) nNil)))))
  sNil)
  sNil)
  (sSeq (sIf (tBl (eBin dEq (eBin dIx (eName 0) (eC (.int 2))) (eC (.int 17))))
  (sSeq (sSet 4 (eBin dAdd (eCall F_law_two (nCons (eBin dIx (eName 4) (eC (.int 0))) nNil)) (eCall F_law_two (nCons (eBin dIx (eName 4) (eC (.int 1))) nNil))))
  sNil)
  sNil)
  (sSeq (sIf (tBl (eBin dEq (eCall F_law_inner_size (nCons (eBin dIx (eName 0) (eC (.int 2))) nNil)) (eC (.int 0))))
  (sSeq (sRet (eBin dAdd (eName 3) (eBin dIx (eName 0) (eC (.int 6)))))
  sNil)
  sNil)
  (sSeq (sSet 5 (eBin dAdd (eBin dAdd (eName 4) (eTup (nCons (eC (.int 0)) (nCons (eC (.int 0)) nNil)))) (eBin dIx (eName 0) (eC (.int 6)))))
  (sSeq (sSet 6 (eCall F_law_check (nCons (eBin dAdd (eBin dAdd (eBin dAdd (eName 2) (eCall F_law_two (nCons (eBin dIx (eName 0) (eC (.int 2))) nNil))) (eCall F_law_two (nCons (eCall (o1of dLen) (nCons (eName 5) nNil)) nNil))) (eName 5)) nNil)))
  (sSeq (sRet (eBin dAdd (eBin dAdd (eBin dAdd (eName 3) (eName 4)) (eCall F_law_two (nCons (eName 6) nNil))) (eBin dIx (eName 0) (eC (.int 6)))))
  sNil))))))))))
def F_law_bytes : List PyData → Option PyData := defP B_law_bytes 1 6
def B_has_ports : SF :=
  (sSeq (sRet (eBin dIn2 (eName 0) (eTup (nCons (eC (.int 6)) (nCons (eC (.int 17)) nNil)))))
  sNil)
def F_has_ports : List PyData → Option PyData := defP B_has_ports 1 0
def B_least_length : SF :=
  (sSeq (sRet (eBin dAdd (eC (.int 12)) (eCall F_head_bytes (nCons (eName 0) nNil))))
  sNil)
def F_least_length : List PyData → Option PyData := defP B_least_length 1 0
def B_law_tops : SF :=
  (sSeq (sRet (eTup (nCons (eC (.int 1)) (nCons (eC (.int 255)) (nCons (eC (.int 65535)) (nCons (eC (.int 65535)) (nCons (eC (.int 65535)) (nCons (eC (.int 65535)) (nCons (eC (.int 7)) (nCons (eC (.int 65535)) (nCons (eC (.int 1500)) (nCons (eC (.int 6)) (nCons (eC (.int 1)) nNil)))))))))))))
  sNil)
def F_law_tops : List PyData → Option PyData := defP B_law_tops 0 0
def B_law_least : SF :=
  (sSeq (sRet (eBin dAdd (eC (.int 12)) (eCall F_law_inner_size (nCons (eName 0) nNil))))
  sNil)
def F_law_least : List PyData → Option PyData := defP B_law_least 1 0
def X_law_is_sight_1 : TF :=
  (tNot' (tTru (eCall F_law_is_number (nCons (eBin dIx (eName 0) (eName 2)) (nCons (eBin dIx (eCall F_law_tops nNil) (eName 2)) nNil)))))
def X_law_is_sight_2 : EF :=
  (eName 2)
def B_law_is_sight : SF :=
  (sSeq (sIf (tOr' (tNot' (tTru (eUn (dIsi "tuple") (eName 0)))) (tBl (eBin dNe (eCall (o1of dLen) (nCons (eName 0) nNil)) (eC (.int 9)))))
  (sSeq (sRet (eC (.bool false)))
  sNil)
  sNil)
  (sSeq (sIf (tOr' (tBl (eBin dGt (eCall (o1of dLen) (nCons (eLst (nComp (itR1 (nCons (eC (.int 9)) nNil)) (gSet 2) X_law_is_sight_1 X_law_is_sight_2 [2])) nNil)) (eC (.int 0)))) (tBl (eBin dEq (eBin dIx (eName 0) (eC (.int 2))) (eBin dIx (eName 0) (eC (.int 4))))))
  (sSeq (sRet (eC (.bool false)))
  sNil)
  sNil)
  (sSeq (sSet 1 (eBin dIx (eName 0) (eC (.int 1))))
  (sSeq (sIf (tOr' (tBl (eBin dLt (eBin dIx (eName 0) (eC (.int 8))) (eCall F_law_least (nCons (eName 1) nNil)))) (tAnd' (tBl (eBin dNotIn2 (eName 1) (eTup (nCons (eC (.int 6)) (nCons (eC (.int 17)) nNil))))) (tBl (eBin dGt (eBin dAdd (eBin dIx (eName 0) (eC (.int 3))) (eBin dIx (eName 0) (eC (.int 5)))) (eC (.int 0))))))
  (sSeq (sRet (eC (.bool false)))
  sNil)
  sNil)
  (sSeq (sRet (eAnd (eOr (eBin dEq (eName 1) (eC (.int 6))) (eBin dEq (eBin dIx (eName 0) (eC (.int 6))) (eC (.int 0)))) (eOr (eBin dEq (eName 1) (eC (.int 1))) (eBin dEq (eBin dIx (eName 0) (eC (.int 7))) (eC (.int 0))))))
  sNil)))))
def F_law_is_sight : List PyData → Option PyData := defP B_law_is_sight 1 2
def X_law_world_1 : TF :=
  (tBl (eBinO dIn2 (eName 3) 2))
def X_law_world_2 : SF :=
  (sSeq (sSet 3 (eBin dMod (eCall (o1of dInt) (nCons (eBin dAdd (eName 3) (eC (.int 1))) nNil)) (eC (.int 65536))))
  sNil)
def X_law_world_3 : TF :=
  (tBl (eBin dLt (eUnL dLen 2) (eC (.int 3))))
def X_law_world_4 : SF :=
  (sSeq (sSet 3 (eBin dIx (eTup (nCons (eBin dSub (eBin dAdd (eCallL F_law_number 0 (nCons (eC (.int 65535)) nNil)) (eUnL dLen 2)) (eC (.int 1))) (nCons (eBin dAdd (eName 1) (eUnL dLen 2)) nNil))) (eCallL F_law_draw 0 (nCons (eC (.int 2)) nNil))))
  (sSeq (sSet 3 (eBin dMod (eCall (o1of dInt) (nCons (eName 3) nNil)) (eC (.int 65536))))
  (sSeq (sWhile (fun _ => FUEL) X_law_world_1
  X_law_world_2)
  (sSeq (sApp 2 (eName 3))
  sNil))))
def B_law_world : SF :=
  (sSeq (sSet 1 (eCallL F_law_number 0 (nCons (eC (.int 65535)) nNil)))
  (sSeq (sSetL 2 (nDisp (nCons (eName 1) nNil)))
  (sSeq (sWhile (fun _ => FUEL) X_law_world_3
  X_law_world_4)
  (sSeq (sRet (eTup (nCons (eUnL dTupOf 2) (nCons (eTup (nCons (eCallL F_law_number 0 (nCons (eC (.int 65535)) nNil)) (nCons (eCallL F_law_number 0 (nCons (eC (.int 65535)) nNil)) nNil))) nNil))))
  sNil))))
def F_law_world : List PyData → List PyData → Option (PyData × List PyData) := defL B_law_world 0 3
def B_law_sight : SF :=
  (sSeq (sSet 3 (eBin dIx (eTup (nCons (eC (.int 6)) (nCons (eC (.int 6)) (nCons (eC (.int 6)) (nCons (eC (.int 17)) (nCons (eC (.int 17)) (nCons (eC (.int 1)) (nCons (eCallL F_law_draw 0 (nCons (eC (.int 256)) nNil)) nNil)))))))) (eCallL F_law_draw 0 (nCons (eC (.int 7)) nNil))))
  (sSeq (sSet 4 (eCallL F_law_draw 0 (nCons (eC (.int 3)) nNil)))
  (sSeq (sSet 5 (eBin dIx (eBin dIx (eName 1) (eC (.int 0))) (eName 4)))
  (sSeq (sSet 6 (eBin dIx (eBin dIx (eName 1) (eC (.int 0))) (eBin dMod (eCall (o1of dInt) (nCons (eBin dAdd (eBin dAdd (eName 4) (eC (.int 1))) (eCallL F_law_draw 0 (nCons (eC (.int 2)) nNil))) nNil)) (eC (.int 3)))))
  (sSeq (sSet 7 (eIf (tBl (eBin dIn2 (eName 3) (eTup (nCons (eC (.int 6)) (nCons (eC (.int 17)) nNil))))) (eTup (nCons (eBin dIx (eBin dIx (eName 1) (eC (.int 1))) (eCallL F_law_draw 0 (nCons (eC (.int 2)) nNil))) (nCons (eBin dIx (eBin dIx (eName 1) (eC (.int 1))) (eCallL F_law_draw 0 (nCons (eC (.int 2)) nNil))) nNil))) (eTup (nCons (eC (.int 0)) (nCons (eC (.int 0)) nNil)))))
  (sSeq (sSet 8 (eIf (tBl (eBin dEq (eName 3) (eC (.int 6)))) (eBin dIx (eTup (nCons (eC (.int 0)) (nCons (eC (.int 1)) (nCons (eC (.int 1)) (nCons (eC (.int 2)) (nCons (eC (.int 4)) (nCons (eCallL F_law_draw 0 (nCons (eC (.int 8)) nNil)) nNil))))))) (eCallL F_law_draw 0 (nCons (eC (.int 6)) nNil))) (eC (.int 0))))
  (sSeq (sSet 9 (eIf (tBl (eBin dEq (eName 3) (eC (.int 1)))) (eCallL F_law_draw 0 (nCons (eC (.int 65536)) nNil)) (eC (.int 0))))
  (sSeq (sSet 10 (eBin dAdd (eCall F_law_least (nCons (eName 3) nNil)) (eBin dIx (eTup (nCons (eC (.int 0)) (nCons (eC (.int 0)) (nCons (eC (.int 1)) (nCons (eCallL F_law_draw 0 (nCons (eBin dAdd (eName 2) (eC (.int 1))) nNil)) nNil))))) (eCallL F_law_draw 0 (nCons (eC (.int 4)) nNil)))))
  (sSeq (sRet (eTup (nCons (eCallL F_law_draw 0 (nCons (eC (.int 2)) nNil)) (nCons (eName 3) (nCons (eName 5) (nCons (eBin dIx (eName 7) (eC (.int 0))) (nCons (eName 6) (nCons (eBin dIx (eName 7) (eC (.int 1))) (nCons (eName 8) (nCons (eName 9) (nCons (eName 10) nNil)))))))))))
  sNil)))))))))
def F_law_sight : List PyData → List PyData → Option (PyData × List PyData) := defL B_law_sight 2 8
def B_sight_of : SF :=
  (sSeq (sAsg (eTup (nCons (eBin dIx (eName 1) (eC (.int 0))) (nCons (eBin dIx (eName 1) (eC (.int 1))) (nCons (eBin dIx (eName 1) (eC (.int 2))) (nCons (eBin dIx (eName 1) (eC (.int 5))) nNil))))) (gTupS [2, 3, 4, 5]))
  (sSeq (sAsg (eTup (nCons (eC (.int 0)) (nCons (eC (.int 0)) (nCons (eC (.int 0)) (nCons (eC (.int 0)) nNil))))) (gTupS [6, 7, 8, 9]))
  (sSeq (sIf (tTru (eCall F_has_ports (nCons (eName 4) nNil)))
  (sSeq (sAsg (eSlT (eName 5) none (some (eC (.int 2)))) (gTupS [6, 7]))
  sNil)
  sNil)
  (sSeq (sIf (tBl (eBin dEq (eName 4) (eC (.int 6))))
  (sSeq (sSet 8 (eBin dIx (eName 5) (eC (.int 2))))
  sNil)
  sNil)
  (sSeq (sIf (tBl (eBin dEq (eName 4) (eC (.int 1))))
  (sSeq (sSet 9 (eBin dAdd (eBin dMul (eC (.int 256)) (eBin dIx (eName 5) (eC (.int 0)))) (eBin dIx (eName 5) (eC (.int 1)))))
  sNil)
  sNil)
  (sSeq (sRet (eTup (nCons (eName 0) (nCons (eName 4) (nCons (eName 2) (nCons (eName 6) (nCons (eName 3) (nCons (eName 7) (nCons (eName 8) (nCons (eName 9) (nCons (eCall F_length_of (nCons (eName 1) nNil)) nNil)))))))))))
  sNil))))))
def F_sight_of : List PyData → Option PyData := defP B_sight_of 2 8
def B_packet_of : SF :=
  (sSeq (sAsg (eName 0) (gTupS [3, 4, 5, 6, 7, 8, 9, 10, 11]))
  (sSeq (sSet 1 (eTup nNil))
  (sSeq (sIf (tBl (eBin dEq (eName 4) (eC (.int 6))))
  (sSeq (sSet 1 (eTup (nCons (eName 6) (nCons (eName 8) (nCons (eName 9) nNil)))))
  sNil)
  sNil)
  (sSeq (sIf (tBl (eBin dEq (eName 4) (eC (.int 17))))
  (sSeq (sSet 1 (eTup (nCons (eName 6) (nCons (eName 8) nNil))))
  sNil)
  sNil)
  (sSeq (sIf (tBl (eBin dEq (eName 4) (eC (.int 1))))
  (sSeq (sSet 1 (eTup (nCons (eBin dDiv (eName 10) (eC (.int 256))) (nCons (eBin dMod (eName 10) (eC (.int 256))) nNil))))
  sNil)
  sNil)
  (sSeq (sSet 2 (eBin dRepT (eTup (nCons (eC (.int 0)) nNil)) (eBin dSub (eName 11) (eCall F_least_length (nCons (eName 4) nNil)))))
  (sSeq (sRet (eTup (nCons (eName 5) (nCons (eName 7) (nCons (eName 4) (nCons (eC (.int 64)) (nCons (eTup nNil) (nCons (eName 1) (nCons (eName 2) nNil)))))))))
  sNil)))))))
def F_packet_of : List PyData → Option PyData := defP B_packet_of 1 11
def B_law_seen : SF :=
  (sSeq (sSet 2 (eBin dIx (eName 1) (eC (.int 5))))
  (sSeq (sSet 3 (eIf (tBl (eBin dIn2 (eBin dIx (eName 1) (eC (.int 2))) (eTup (nCons (eC (.int 6)) (nCons (eC (.int 17)) nNil))))) (eSlT (eName 2) none (some (eC (.int 2)))) (eTup (nCons (eC (.int 0)) (nCons (eC (.int 0)) nNil)))))
  (sSeq (sSet 4 (eIf (tBl (eBin dEq (eBin dIx (eName 1) (eC (.int 2))) (eC (.int 6)))) (eBin dIx (eName 2) (eC (.int 2))) (eC (.int 0))))
  (sSeq (sSet 5 (eIf (tBl (eBin dEq (eBin dIx (eName 1) (eC (.int 2))) (eC (.int 1)))) (eBin dAdd (eBin dMul (eC (.int 256)) (eBin dIx (eName 2) (eC (.int 0)))) (eBin dIx (eName 2) (eC (.int 1)))) (eC (.int 0))))
  (sSeq (sRet (eTup (nCons (eName 0) (nCons (eBin dIx (eName 1) (eC (.int 2))) (nCons (eBin dIx (eName 1) (eC (.int 0))) (nCons (eBin dIx (eName 3) (eC (.int 0))) (nCons (eBin dIx (eName 1) (eC (.int 1))) (nCons (eBin dIx (eName 3) (eC (.int 1))) (nCons (eName 4) (nCons (eName 5) (nCons (eCall F_law_length (nCons (eName 1) nNil)) nNil)))))))))))
  sNil)))))
def F_law_seen : List PyData → Option PyData := defP B_law_seen 2 4
def B_law_plain_packet : SF :=
  (sSeq (sSet 1 (eBin dIx (eName 0) (eC (.int 1))))
  (sSeq (sSet 2 (eTup nNil))
  (sSeq (sIf (tBl (eBin dEq (eName 1) (eC (.int 6))))
  (sSeq (sSet 2 (eTup (nCons (eBin dIx (eName 0) (eC (.int 3))) (nCons (eBin dIx (eName 0) (eC (.int 5))) (nCons (eBin dIx (eName 0) (eC (.int 6))) nNil)))))
  sNil)
  sNil)
  (sSeq (sIf (tBl (eBin dEq (eName 1) (eC (.int 17))))
  (sSeq (sSet 2 (eTup (nCons (eBin dIx (eName 0) (eC (.int 3))) (nCons (eBin dIx (eName 0) (eC (.int 5))) nNil))))
  sNil)
  sNil)
  (sSeq (sIf (tBl (eBin dEq (eName 1) (eC (.int 1))))
  (sSeq (sSet 2 (eCall F_law_two (nCons (eBin dIx (eName 0) (eC (.int 7))) nNil)))
  sNil)
  sNil)
  (sSeq (sRet (eTup (nCons (eBin dIx (eName 0) (eC (.int 2))) (nCons (eBin dIx (eName 0) (eC (.int 4))) (nCons (eName 1) (nCons (eC (.int 64)) (nCons (eTup nNil) (nCons (eName 2) (nCons (eBin dRepT (eTup (nCons (eC (.int 0)) nNil)) (eBin dSub (eBin dIx (eName 0) (eC (.int 8))) (eCall F_law_least (nCons (eName 1) nNil)))) nNil)))))))))
  sNil))))))
def F_law_plain_packet : List PyData → Option PyData := defP B_law_plain_packet 1 2
end Pr_P
end
section
set_option Elab.async false
set_option linter.all false
set_option maxRecDepth 100000
namespace Pr_B
open PySem PG Pr_C Pr_D Pr_P
/-! what each def does, on data -/
def X_is_set_1 : SF :=
  (sSeq (sIf (tNot' (tTru (eCall F_is_tuple (nCons (eName 2) (nCons (eC (.int 2)) nNil)))))
  (sSeq (sRet (eC (.bool false)))
  sNil)
  sNil)
  (sSeq (sAsg (eName 2) (gTupS [3, 4]))
  (sSeq (sIf (tOr' (tBl (eUn (dTyNe "int") (eName 3))) (tOr' (tBl (eUn (dTyNe "int") (eName 4))) (tNot' (tBl (eChain dLe dLe (eName 1) (eName 3) (eName 4))))))
  (sSeq (sRet (eC (.bool false)))
  sNil)
  sNil)
  (sSeq (sSet 1 (eBin dAdd (eName 4) (eC (.int 2))))
  sNil))))
def B_is_set : SF :=
  (sSeq (sIf (tBl (eUn (dTyNe "tuple") (eName 0)))
  (sSeq (sRet (eC (.bool false)))
  sNil)
  sNil)
  (sSeq (sSet 1 (eC (.int 0)))
  (sSeq (sFor (itS (eName 0)) (gSet 2)
  X_is_set_1)
  (sSeq (sRet (eC (.bool true)))
  sNil))))
def F_is_set : List PyData → Option PyData := defP B_is_set 1 4
def X_law_listed_1 (R : List PyData → Option PyData) : EF :=
  (eCall R (nCons (eName 2) (nCons (eBin dSub (eName 1) (eC (.int 1))) nNil)))
def B_law_listed (R : List PyData → Option PyData) : SF :=
  (sSeq (sIf (tNot' (tTru (eUn (dIsi "tuple") (eName 0))))
  (sSeq (sRet (eName 0))
  sNil)
  sNil)
  (sSeq (sRet (eIf (tBl (eBin dEq (eName 1) (eC (.int 0)))) (eLst (nCall (n1of dLstOf) (nCons (eName 0) nNil))) (eCall (o1of dTupOf) (nCons (eLst (nComp (itS (eName 0)) (gSet 2) tYesF (X_law_listed_1 R) [2])) nNil))))
  sNil))
def F_law_listed : Nat → List PyData → Option PyData
  | 0 => fun _ => none
  | n + 1 => defP (B_law_listed (F_law_listed n)) 2 1
def X_law_is_set_1 : SF :=
  (sSeq (sIf (tOr' (tNot' (tTru (eUn (dIsi "tuple") (eName 2)))) (tOr' (tBl (eBin dNe (eCall (o1of dLen) (nCons (eName 2) nNil)) (eC (.int 2)))) (tOr' (tNot' (tTru (eCall F_law_is_integer (nCons (eBin dIx (eName 2) (eC (.int 0))) nNil)))) (tNot' (tTru (eCall F_law_is_integer (nCons (eBin dIx (eName 2) (eC (.int 1))) nNil)))))))
  (sSeq (sRet (eC (.bool false)))
  sNil)
  sNil)
  (sSeq (sIf (tOr' (tBl (eBin dLt (eBin dIx (eName 2) (eC (.int 0))) (eC (.int 0)))) (tOr' (tBl (eBin dGt (eBin dIx (eName 2) (eC (.int 0))) (eBin dIx (eName 2) (eC (.int 1))))) (tBl (eBin dLe (eBin dIx (eName 2) (eC (.int 0))) (eBin dAdd (eName 1) (eC (.int 1)))))))
  (sSeq (sRet (eC (.bool false)))
  sNil)
  sNil)
  (sSeq (sSet 1 (eBin dIx (eName 2) (eC (.int 1))))
  sNil)))
def B_law_is_set : SF :=
  (sSeq (sIf (tNot' (tTru (eUn (dIsi "tuple") (eName 0))))
  (sSeq (sRet (eC (.bool false)))
  sNil)
  sNil)
  (sSeq (sSet 1 (eUn dNeg (eC (.int 2))))
  (sSeq (sFor (itS (eName 0)) (gSet 2)
  X_law_is_set_1)
  (sSeq (sRet (eC (.bool true)))
  sNil))))
def F_law_is_set : List PyData → Option PyData := defP B_law_is_set 1 2
def B_law_fields : SF :=
  (sSeq (sRet (eTup (nCons (eC (.str (Str.ofString "interface"))) (nCons (eC (.str (Str.ofString "kind"))) (nCons (eC (.str (Str.ofString "source"))) (nCons (eC (.str (Str.ofString "sport"))) (nCons (eC (.str (Str.ofString "destination"))) (nCons (eC (.str (Str.ofString "dport"))) (nCons (eC (.str (Str.ofString "flags"))) (nCons (eC (.str (Str.ofString "code"))) (nCons (eC (.str (Str.ofString "length"))) (nCons (eC (.str (Str.ofString "talk"))) (nCons (eC (.str (Str.ofString "side"))) nNil)))))))))))))
  sNil)
def F_law_fields : List PyData → Option PyData := defP B_law_fields 0 0
def B_first_text : SF :=
  (sSeq (sIf (tAnd' (tBl (eUn (dTyIs "tuple") (eName 0))) (tAnd' (tBl (eBin dNe (eName 0) (eTup nNil))) (tBl (eUn (dTyIs "str") (eBin dIx (eName 0) (eC (.int 0)))))))
  (sSeq (sRet (eBin dIx (eName 0) (eC (.int 0))))
  sNil)
  sNil)
  (sSeq (sRet (eC (.str (Str.ofString ""))))
  sNil))
def F_first_text : List PyData → Option PyData := defP B_first_text 1 0
def X_is_word_1 : EF :=
  (eChain dLeS dLeS (eC (.str (Str.ofString "a"))) (eName 1) (eC (.str (Str.ofString "z"))))
def B_is_word : SF :=
  (sSeq (sRet (eAnd (eUn (dTyIs "str") (eName 0)) (eAnd (eChain dLe dLe (eC (.int 1)) (eCall (o1of dLen) (nCons (eName 0) nNil)) (eC (.int 12))) (eGen false (itY (eName 0)) (gSet 1) tYesF X_is_word_1 [1]))))
  sNil)
def F_is_word : List PyData → Option PyData := defP B_is_word 1 1
def B_top_of : SF :=
  (sSeq (sIf (tBl (eBin dEq (eName 0) (eC (.str (Str.ofString "mark")))))
  (sSeq (sRet (eC (.int 255)))
  sNil)
  sNil)
  (sSeq (sRet (eBin dIx (eC (RO [.int 1, .int 255, .int 65535, .int 65535, .int 65535, .int 65535, .int 7, .int 65535, .int 1500, .int 6, .int 1])) (eUn (dIdxR [.str (Str.ofString "interface"), .str (Str.ofString "kind"), .str (Str.ofString "source"), .str (Str.ofString "sport"), .str (Str.ofString "destination"), .str (Str.ofString "dport"), .str (Str.ofString "flags"), .str (Str.ofString "code"), .str (Str.ofString "length"), .str (Str.ofString "talk"), .str (Str.ofString "side")]) (eName 0))))
  sNil))
def F_top_of : List PyData → Option PyData := defP B_top_of 1 0
def B_is_condition : SF :=
  (sSeq (sIf (tNot' (tTru (eCall F_is_tuple (nCons (eName 0) (nCons (eC (.int 2)) nNil)))))
  (sSeq (sRet (eC (.bool false)))
  sNil)
  sNil)
  (sSeq (sAsg (eName 0) (gTupS [1, 2]))
  (sSeq (sIf (tOr' (tBl (eUn (dTyNe "str") (eName 1))) (tAnd' (tBl (eBin dNe (eName 1) (eC (.str (Str.ofString "mark"))))) (tBl (eBin (dMemR true) (eName 1) (eC (RO [.str (Str.ofString "interface"), .str (Str.ofString "kind"), .str (Str.ofString "source"), .str (Str.ofString "sport"), .str (Str.ofString "destination"), .str (Str.ofString "dport"), .str (Str.ofString "flags"), .str (Str.ofString "code"), .str (Str.ofString "length"), .str (Str.ofString "talk"), .str (Str.ofString "side")]))))))
  (sSeq (sRet (eC (.bool false)))
  sNil)
  sNil)
  (sSeq (sRet (eAnd (eCall F_is_set (nCons (eName 2) nNil)) (eOr (eBin dEq (eName 2) (eTup nNil)) (eBin dLe (eBin dIx (eBin dIx (eName 2) (eUn dNeg (eC (.int 1)))) (eC (.int 1))) (eCall F_top_of (nCons (eName 1) nNil))))))
  sNil))))
def F_is_condition : List PyData → Option PyData := defP B_is_condition 1 2
def B_is_decision : SF :=
  (sSeq (sSet 1 (eCall F_first_text (nCons (eName 0) nNil)))
  (sSeq (sIf (tBl (eBin dEq (eName 1) (eC (.str (Str.ofString "refuse")))))
  (sSeq (sRet (eAnd (eBin dEq (eCall (o1of dLen) (nCons (eName 0) nNil)) (eC (.int 2))) (eCall F_is_number (nCons (eBin dIx (eName 0) (eC (.int 1))) (nCons (eC (.int 0)) (nCons (eC (.int 255)) nNil))))))
  sNil)
  sNil)
  (sSeq (sRet (eAnd (eBin dIn2 (eName 1) (eTup (nCons (eC (.str (Str.ofString "accept"))) (nCons (eC (.str (Str.ofString "drop"))) nNil)))) (eBin dEq (eCall (o1of dLen) (nCons (eName 0) nNil)) (eC (.int 1)))))
  sNil)))
def F_is_decision : List PyData → Option PyData := defP B_is_decision 1 1
def B_is_back : SF :=
  (sSeq (sRet (eAnd (eBin dEq (eCall F_first_text (nCons (eName 0) nNil)) (eC (.str (Str.ofString "back")))) (eBin dEq (eCall (o1of dLen) (nCons (eName 0) nNil)) (eC (.int 1)))))
  sNil)
def F_is_back : List PyData → Option PyData := defP B_is_back 1 0
def B_is_action : SF :=
  (sSeq (sSet 1 (eCall F_first_text (nCons (eName 0) nNil)))
  (sSeq (sIf (tBl (eBin dEq (eName 1) (eC (.str (Str.ofString "jump")))))
  (sSeq (sRet (eAnd (eBin dEq (eCall (o1of dLen) (nCons (eName 0) nNil)) (eC (.int 2))) (eCall F_is_word (nCons (eBin dIx (eName 0) (eC (.int 1))) nNil))))
  sNil)
  sNil)
  (sSeq (sIf (tBl (eBin dEq (eName 1) (eC (.str (Str.ofString "mark")))))
  (sSeq (sRet (eAnd (eBin dEq (eCall (o1of dLen) (nCons (eName 0) nNil)) (eC (.int 2))) (eCall F_is_number (nCons (eBin dIx (eName 0) (eC (.int 1))) (nCons (eC (.int 0)) (nCons (eC (.int 255)) nNil))))))
  sNil)
  sNil)
  (sSeq (sIf (tBl (eBin dEq (eName 1) (eC (.str (Str.ofString "count")))))
  (sSeq (sRet (eAnd (eBin dEq (eCall (o1of dLen) (nCons (eName 0) nNil)) (eC (.int 2))) (eCall F_is_number (nCons (eBin dIx (eName 0) (eC (.int 1))) (nCons (eC (.int 0)) (nCons (eC (.int 99)) nNil))))))
  sNil)
  sNil)
  (sSeq (sRet (eOr (eCall F_is_back (nCons (eName 0) nNil)) (eCall F_is_decision (nCons (eName 0) nNil))))
  sNil)))))
def F_is_action : List PyData → Option PyData := defP B_is_action 1 1
def X_is_rule_1 : EF :=
  (eCall F_is_condition (nCons (eName 3) nNil))
def B_is_rule : SF :=
  (sSeq (sIf (tNot' (tTru (eCall F_is_tuple (nCons (eName 0) (nCons (eC (.int 2)) nNil)))))
  (sSeq (sRet (eC (.bool false)))
  sNil)
  sNil)
  (sSeq (sAsg (eName 0) (gTupS [1, 2]))
  (sSeq (sIf (tOr' (tBl (eUn (dTyNe "tuple") (eName 1))) (tBl (eBin dGt (eCall (o1of dLen) (nCons (eName 1) nNil)) (eC (.int 4)))))
  (sSeq (sRet (eC (.bool false)))
  sNil)
  sNil)
  (sSeq (sRet (eAnd (eGen false (itS (eName 1)) (gSet 3) tYesF X_is_rule_1 [3]) (eCall F_is_action (nCons (eName 2) nNil))))
  sNil))))
def F_is_rule : List PyData → Option PyData := defP B_is_rule 1 3
def X_is_chain_1 : EF :=
  (eCall F_is_rule (nCons (eName 4) nNil))
def B_is_chain : SF :=
  (sSeq (sIf (tNot' (tTru (eCall F_is_tuple (nCons (eName 0) (nCons (eC (.int 3)) nNil)))))
  (sSeq (sRet (eC (.bool false)))
  sNil)
  sNil)
  (sSeq (sAsg (eName 0) (gTupS [1, 2, 3]))
  (sSeq (sIf (tOr' (tNot' (tTru (eCall F_is_word (nCons (eName 1) nNil)))) (tOr' (tBl (eUn (dTyNe "tuple") (eName 2))) (tBl (eBin dGt (eCall (o1of dLen) (nCons (eName 2) nNil)) (eC (.int 20))))))
  (sSeq (sRet (eC (.bool false)))
  sNil)
  sNil)
  (sSeq (sRet (eAnd (eGen false (itS (eName 2)) (gSet 4) tYesF X_is_chain_1 [4]) (eOr (eCall F_is_back (nCons (eName 3) nNil)) (eCall F_is_decision (nCons (eName 3) nNil)))))
  sNil))))
def F_is_chain : List PyData → Option PyData := defP B_is_chain 1 4
def X_jumps_onwards_1 : EF :=
  (eOr (eBin dNe (eBin dIx (eName 3) (eC (.int 0))) (eC (.str (Str.ofString "jump")))) (eBin dIn2 (eBin dIx (eName 3) (eC (.int 1))) (eName 1)))
def B_jumps_onwards : SF :=
  (sSeq (sRet (eGen false (itS (eBin dIx (eName 0) (eC (.int 1)))) (gTupS [2, 3]) tYesF X_jumps_onwards_1 [2, 3]))
  sNil)
def F_jumps_onwards : List PyData → Option PyData := defP B_jumps_onwards 2 2
def X_is_book_1 : EF :=
  (eCall F_is_chain (nCons (eName 2) nNil))
def X_is_book_2 : EF :=
  (eBin dIx (eName 2) (eC (.int 0)))
def X_is_book_3 : EF :=
  (eCall F_is_back (nCons (eBin dIx (eName 4) (eC (.int 1))) nNil))
def X_is_book_4 : EF :=
  (eCall F_jumps_onwards (nCons (eBin dIx (eName 0) (eName 3)) (nCons (eLst (nSl (eName 1) (some (eBin dAdd (eName 3) (eC (.int 1)))) none)) nNil)))
def B_is_book : SF :=
  (sSeq (sIf (tOr' (tBl (eUn (dTyNe "tuple") (eName 0))) (tNot' (tBl (eChain dLe dLe (eC (.int 1)) (eCall (o1of dLen) (nCons (eName 0) nNil)) (eC (.int 6))))))
  (sSeq (sRet (eC (.bool false)))
  sNil)
  sNil)
  (sSeq (sIf (tNot' (tTru (eGen false (itS (eName 0)) (gSet 2) tYesF X_is_book_1 [2])))
  (sSeq (sRet (eC (.bool false)))
  sNil)
  sNil)
  (sSeq (sSet 1 (eLst (nComp (itS (eName 0)) (gSet 2) tYesF X_is_book_2 [2])))
  (sSeq (sIf (tBl (eBin dLt (eUn dLenSet (eName 1)) (eCall (o1of dLen) (nCons (eName 1) nNil))))
  (sSeq (sRet (eC (.bool false)))
  sNil)
  sNil)
  (sSeq (sIf (tOr' (tTru (eCall F_is_back (nCons (eBin dIx (eBin dIx (eName 0) (eC (.int 0))) (eC (.int 2))) nNil))) (tTru (eGen true (itS (eBin dIx (eBin dIx (eName 0) (eC (.int 0))) (eC (.int 1)))) (gSet 4) tYesF X_is_book_3 [4])))
  (sSeq (sRet (eC (.bool false)))
  sNil)
  sNil)
  (sSeq (sRet (eGen false (itR1 (nCons (eCall (o1of dLen) (nCons (eName 0) nNil)) nNil)) (gSet 3) tYesF X_is_book_4 [3]))
  sNil))))))
def F_is_book : List PyData → Option PyData := defP B_is_book 1 4
def X_rule_places_1 : NF :=
  (itR1 (nCons (eCall (o1of dLen) (nCons (eBin dIx (eBin dIx (eName 0) (eName 1)) (eC (.int 1))) nNil)) nNil))
def X_rule_places_2 : EF :=
  (eTup (nCons (eName 1) (nCons (eName 2) nNil)))
def B_rule_places : SF :=
  (sSeq (sRet (eLst (nComp2 (itR1 (nCons (eCall (o1of dLen) (nCons (eName 0) nNil)) nNil)) (gSet 1) tYesF X_rule_places_1 (gSet 2) tYesF X_rule_places_2 [1, 2] [2])))
  sNil)
def F_rule_places : List PyData → Option PyData := defP B_rule_places 1 2
def B_law_top_of : SF :=
  (sSeq (sRet (eIf (tBl (eBin dEq (eName 0) (eC (.str (Str.ofString "mark"))))) (eC (.int 255)) (eBin dIx (eCall F_law_tops nNil) (eUn (dIdxS [Str.ofString "interface", Str.ofString "kind", Str.ofString "source", Str.ofString "sport", Str.ofString "destination", Str.ofString "dport", Str.ofString "flags", Str.ofString "code", Str.ofString "length", Str.ofString "talk", Str.ofString "side"]) (eName 0)))))
  sNil)
def F_law_top_of : List PyData → Option PyData := defP B_law_top_of 1 0
def X_law_is_word_1 : TF :=
  (tBl (eBin (dMemS true) (eName 1) (eC (.str (Str.ofString "abcdefghijklmnopqrstuvwxyz")))))
def X_law_is_word_2 : EF :=
  (eName 1)
def B_law_is_word : SF :=
  (sSeq (sIf (tOr' (tNot' (tTru (eUn (dIsi "str") (eName 0)))) (tOr' (tBl (eBin dLt (eCall (o1of dLen) (nCons (eName 0) nNil)) (eC (.int 1)))) (tBl (eBin dGt (eCall (o1of dLen) (nCons (eName 0) nNil)) (eC (.int 12))))))
  (sSeq (sRet (eC (.bool false)))
  sNil)
  sNil)
  (sSeq (sRet (eBin dEq (eCall (o1of dLen) (nCons (eLst (nComp (itY (eName 0)) (gSet 1) X_law_is_word_1 X_law_is_word_2 [1])) nNil)) (eC (.int 0))))
  sNil))
def F_law_is_word : List PyData → Option PyData := defP B_law_is_word 1 1
def B_law_is_condition : SF :=
  (sSeq (sIf (tOr' (tNot' (tTru (eUn (dIsi "tuple") (eName 0)))) (tOr' (tBl (eBin dNe (eCall (o1of dLen) (nCons (eName 0) nNil)) (eC (.int 2)))) (tOr' (tNot' (tTru (eUn (dIsi "str") (eBin dIx (eName 0) (eC (.int 0)))))) (tNot' (tTru (eCall F_law_is_set (nCons (eBin dIx (eName 0) (eC (.int 1))) nNil)))))))
  (sSeq (sRet (eC (.bool false)))
  sNil)
  sNil)
  (sSeq (sIf (tBl (eBin dNotIn2 (eBin dIx (eName 0) (eC (.int 0))) (eBin dAdd (eCall F_law_fields nNil) (eTup (nCons (eC (.str (Str.ofString "mark"))) nNil)))))
  (sSeq (sRet (eC (.bool false)))
  sNil)
  sNil)
  (sSeq (sRet (eOr (eBin dEq (eCall (o1of dLen) (nCons (eBin dIx (eName 0) (eC (.int 1))) nNil)) (eC (.int 0))) (eBin dLe (eBin dIx (eBin dIx (eBin dIx (eName 0) (eC (.int 1))) (eBin dSub (eCall (o1of dLen) (nCons (eBin dIx (eName 0) (eC (.int 1))) nNil)) (eC (.int 1)))) (eC (.int 1))) (eCall F_law_top_of (nCons (eBin dIx (eName 0) (eC (.int 0))) nNil)))))
  sNil)))
def F_law_is_condition : List PyData → Option PyData := defP B_law_is_condition 1 0
def B_law_is_decision : SF :=
  (sSeq (sIf (tOr' (tNot' (tTru (eUn (dIsi "tuple") (eName 0)))) (tOr' (tBl (eBin dEq (eCall (o1of dLen) (nCons (eName 0) nNil)) (eC (.int 0)))) (tNot' (tTru (eUn (dIsi "str") (eBin dIx (eName 0) (eC (.int 0))))))))
  (sSeq (sRet (eC (.bool false)))
  sNil)
  sNil)
  (sSeq (sIf (tBl (eBin dEq (eBin dIx (eName 0) (eC (.int 0))) (eC (.str (Str.ofString "refuse")))))
  (sSeq (sRet (eAnd (eBin dEq (eCall (o1of dLen) (nCons (eName 0) nNil)) (eC (.int 2))) (eCall F_law_is_number (nCons (eBin dIx (eName 0) (eC (.int 1))) (nCons (eC (.int 255)) nNil)))))
  sNil)
  sNil)
  (sSeq (sRet (eAnd (eBin dEq (eCall (o1of dLen) (nCons (eName 0) nNil)) (eC (.int 1))) (eBin dIn2 (eBin dIx (eName 0) (eC (.int 0))) (eTup (nCons (eC (.str (Str.ofString "accept"))) (nCons (eC (.str (Str.ofString "drop"))) nNil))))))
  sNil)))
def F_law_is_decision : List PyData → Option PyData := defP B_law_is_decision 1 0
def B_law_is_action : SF :=
  (sSeq (sIf (tTru (eCall F_law_is_decision (nCons (eName 0) nNil)))
  (sSeq (sRet (eC (.bool true)))
  sNil)
  sNil)
  (sSeq (sIf (tOr' (tNot' (tTru (eUn (dIsi "tuple") (eName 0)))) (tOr' (tBl (eBin dEq (eCall (o1of dLen) (nCons (eName 0) nNil)) (eC (.int 0)))) (tNot' (tTru (eUn (dIsi "str") (eBin dIx (eName 0) (eC (.int 0))))))))
  (sSeq (sRet (eC (.bool false)))
  sNil)
  sNil)
  (sSeq (sIf (tBl (eBin dEq (eBin dIx (eName 0) (eC (.int 0))) (eC (.str (Str.ofString "back")))))
  (sSeq (sRet (eBin dEq (eCall (o1of dLen) (nCons (eName 0) nNil)) (eC (.int 1))))
  sNil)
  sNil)
  (sSeq (sIf (tBl (eBin dNe (eCall (o1of dLen) (nCons (eName 0) nNil)) (eC (.int 2))))
  (sSeq (sRet (eC (.bool false)))
  sNil)
  sNil)
  (sSeq (sIf (tBl (eBin dEq (eBin dIx (eName 0) (eC (.int 0))) (eC (.str (Str.ofString "jump")))))
  (sSeq (sRet (eCall F_law_is_word (nCons (eBin dIx (eName 0) (eC (.int 1))) nNil)))
  sNil)
  sNil)
  (sSeq (sRet (eOr (eAnd (eBin dEq (eBin dIx (eName 0) (eC (.int 0))) (eC (.str (Str.ofString "mark")))) (eCall F_law_is_number (nCons (eBin dIx (eName 0) (eC (.int 1))) (nCons (eC (.int 255)) nNil)))) (eAnd (eBin dEq (eBin dIx (eName 0) (eC (.int 0))) (eC (.str (Str.ofString "count")))) (eCall F_law_is_number (nCons (eBin dIx (eName 0) (eC (.int 1))) (nCons (eC (.int 99)) nNil))))))
  sNil))))))
def F_law_is_action : List PyData → Option PyData := defP B_law_is_action 1 0
def X_law_is_rule_1 : TF :=
  (tNot' (tTru (eCall F_law_is_condition (nCons (eName 1) nNil))))
def X_law_is_rule_2 : EF :=
  (eName 1)
def B_law_is_rule : SF :=
  (sSeq (sIf (tOr' (tNot' (tTru (eUn (dIsi "tuple") (eName 0)))) (tOr' (tBl (eBin dNe (eCall (o1of dLen) (nCons (eName 0) nNil)) (eC (.int 2)))) (tOr' (tNot' (tTru (eUn (dIsi "tuple") (eBin dIx (eName 0) (eC (.int 0)))))) (tBl (eBin dGt (eCall (o1of dLen) (nCons (eBin dIx (eName 0) (eC (.int 0))) nNil)) (eC (.int 4)))))))
  (sSeq (sRet (eC (.bool false)))
  sNil)
  sNil)
  (sSeq (sRet (eAnd (eBin dEq (eCall (o1of dLen) (nCons (eLst (nComp (itS (eBin dIx (eName 0) (eC (.int 0)))) (gSet 1) X_law_is_rule_1 X_law_is_rule_2 [1])) nNil)) (eC (.int 0))) (eCall F_law_is_action (nCons (eBin dIx (eName 0) (eC (.int 1))) nNil))))
  sNil))
def F_law_is_rule : List PyData → Option PyData := defP B_law_is_rule 1 1
def X_law_is_book_1 : TF :=
  (tNot' (tTru (eCall F_law_is_rule (nCons (eName 5) nNil))))
def X_law_is_book_2 : EF :=
  (eName 5)
def X_law_is_book_3 : SF :=
  (sSeq (sIf (tOr' (tNot' (tTru (eUn (dIsi "tuple") (eName 1)))) (tOr' (tBl (eBin dNe (eCall (o1of dLen) (nCons (eName 1) nNil)) (eC (.int 3)))) (tOr' (tNot' (tTru (eCall F_law_is_word (nCons (eBin dIx (eName 1) (eC (.int 0))) nNil)))) (tNot' (tTru (eUn (dIsi "tuple") (eBin dIx (eName 1) (eC (.int 1)))))))))
  (sSeq (sRet (eC (.bool false)))
  sNil)
  sNil)
  (sSeq (sIf (tOr' (tBl (eBin dGt (eCall (o1of dLen) (nCons (eBin dIx (eName 1) (eC (.int 1))) nNil)) (eC (.int 20)))) (tOr' (tBl (eBin dGt (eCall (o1of dLen) (nCons (eLst (nComp (itS (eBin dIx (eName 1) (eC (.int 1)))) (gSet 5) X_law_is_book_1 X_law_is_book_2 [5])) nNil)) (eC (.int 0)))) (tNot' (tTru (eUn (dIsi "tuple") (eBin dIx (eName 1) (eC (.int 2))))))))
  (sSeq (sRet (eC (.bool false)))
  sNil)
  sNil)
  (sSeq (sSet 4 (eAnd (eBin dEq (eCall (o1of dLen) (nCons (eBin dIx (eName 1) (eC (.int 2))) nNil)) (eC (.int 1))) (eAnd (eUn (dIsi "str") (eBin dIx (eBin dIx (eName 1) (eC (.int 2))) (eC (.int 0)))) (eBin dEq (eBin dIx (eBin dIx (eName 1) (eC (.int 2))) (eC (.int 0))) (eC (.str (Str.ofString "back")))))))
  (sSeq (sIf (tAnd' (tNot' (tTru (eName 4))) (tNot' (tTru (eCall F_law_is_decision (nCons (eBin dIx (eName 1) (eC (.int 2))) nNil)))))
  (sSeq (sRet (eC (.bool false)))
  sNil)
  sNil)
  sNil))))
def X_law_is_book_4 : EF :=
  (eBin dIx (eName 1) (eC (.int 0)))
def X_law_is_book_5 : SF :=
  (sSeq (sIf (tAnd' (tBl (eBin dEq (eBin dIx (eBin dIx (eName 5) (eC (.int 1))) (eC (.int 0))) (eC (.str (Str.ofString "back"))))) (tBl (eBin dEq (eName 3) (eC (.int 0)))))
  (sSeq (sRet (eC (.bool false)))
  sNil)
  sNil)
  (sSeq (sIf (tAnd' (tBl (eBin dEq (eBin dIx (eBin dIx (eName 5) (eC (.int 1))) (eC (.int 0))) (eC (.str (Str.ofString "jump"))))) (tBl (eBin dNotIn2 (eBin dIx (eBin dIx (eName 5) (eC (.int 1))) (eC (.int 1))) (eLst (nSl (eName 2) (some (eBin dAdd (eName 3) (eC (.int 1)))) none)))))
  (sSeq (sRet (eC (.bool false)))
  sNil)
  sNil)
  sNil))
def X_law_is_book_6 : SF :=
  (sSeq (sFor (itS (eBin dIx (eBin dIx (eName 0) (eName 3)) (eC (.int 1)))) (gSet 5)
  X_law_is_book_5)
  sNil)
def B_law_is_book : SF :=
  (sSeq (sIf (tOr' (tNot' (tTru (eUn (dIsi "tuple") (eName 0)))) (tOr' (tBl (eBin dLt (eCall (o1of dLen) (nCons (eName 0) nNil)) (eC (.int 1)))) (tBl (eBin dGt (eCall (o1of dLen) (nCons (eName 0) nNil)) (eC (.int 6))))))
  (sSeq (sRet (eC (.bool false)))
  sNil)
  sNil)
  (sSeq (sFor (itS (eName 0)) (gSet 1)
  X_law_is_book_3)
  (sSeq (sSet 2 (eLst (nComp (itS (eName 0)) (gSet 1) tYesF X_law_is_book_4 [1])))
  (sSeq (sIf (tOr' (tBl (eBin dNe (eUn dLenSet (eName 2)) (eCall (o1of dLen) (nCons (eName 2) nNil)))) (tBl (eBin dEq (eBin dIx (eBin dIx (eBin dIx (eName 0) (eC (.int 0))) (eC (.int 2))) (eC (.int 0))) (eC (.str (Str.ofString "back"))))))
  (sSeq (sRet (eC (.bool false)))
  sNil)
  sNil)
  (sSeq (sFor (itR1 (nCons (eCall (o1of dLen) (nCons (eName 0) nNil)) nNil)) (gSet 3)
  X_law_is_book_6)
  (sSeq (sRet (eC (.bool true)))
  sNil))))))
def F_law_is_book : List PyData → Option PyData := defP B_law_is_book 1 5
def X_law_places_1 : EF :=
  (eTup (nCons (eName 2) (nCons (eName 3) nNil)))
def X_law_places_2 : SF :=
  (sSeq (sSet 1 (eBin dAdd (eName 1) (eLst (nComp (itR1 (nCons (eCall (o1of dLen) (nCons (eBin dIx (eBin dIx (eName 0) (eName 2)) (eC (.int 1))) nNil)) nNil)) (gSet 3) tYesF X_law_places_1 [3]))))
  sNil)
def B_law_places : SF :=
  (sSeq (sSet 1 (eLst (nDisp nNil)))
  (sSeq (sFor (itR1 (nCons (eCall (o1of dLen) (nCons (eName 0) nNil)) nNil)) (gSet 2)
  X_law_places_2)
  (sSeq (sRet (eName 1))
  sNil)))
def F_law_places : List PyData → Option PyData := defP B_law_places 1 3
end Pr_B
end
section
set_option Elab.async false
set_option linter.all false
set_option maxRecDepth 100000
namespace Pr_gatewarden_k04_texts_of_sets
open PySem PG Pr_B Pr_C Pr_D
/-! what each def does, on data -/
def X_is_numeral_1 : EF :=
  (eChain dLeS dLeS (eC (.str (Str.ofString "0"))) (eName 1) (eC (.str (Str.ofString "9"))))
def B_is_numeral : SF :=
  (sSeq (sIf (tOr' (tNot' (tBl (eChain dLe dLe (eC (.int 1)) (eCall (o1of dLen) (nCons (eName 0) nNil)) (eC (.int 10))))) (tNot' (tTru (eGen false (itY (eName 0)) (gSet 1) tYesF X_is_numeral_1 [1]))))
  (sSeq (sRet (eC (.bool false)))
  sNil)
  sNil)
  (sSeq (sRet (eOr (eBin dEqS (eName 0) (eC (.str (Str.ofString "0")))) (eBin dNeS (eBin dIxS (eName 0) (eC (.int 0))) (eC (.str (Str.ofString "0"))))))
  sNil))
def F_is_numeral : List PyData → Option PyData := defP B_is_numeral 1 1
def B_write_pair : SF :=
  (sSeq (sIf (tBl (eBin dEq (eName 0) (eName 1)))
  (sSeq (sRet (eCall (o1of dStrI) (nCons (eName 0) nNil)))
  sNil)
  sNil)
  (sSeq (sRet (eJs [(eFmt (eName 0)), (eC (.str (Str.ofString "-"))), (eFmt (eName 1))] Str.empty))
  sNil))
def F_write_pair : List PyData → Option PyData := defP B_write_pair 2 0
def X_write_set_1 : EF :=
  (eCall F_write_pair (nCons (eName 1) (nCons (eName 2) nNil)))
def B_write_set : SF :=
  (sSeq (sIf (tNot' (tTru (eName 0)))
  (sSeq (sRet (eC (.str (Str.ofString "none"))))
  sNil)
  sNil)
  (sSeq (sRet (eBin dJoin (eC (.str (Str.ofString ","))) (eLst (nComp (itS (eName 0)) (gTupS [1, 2]) tYesF X_write_set_1 [1, 2]))))
  sNil))
def F_write_set : List PyData → Option PyData := defP B_write_set 1 2
def X_read_set_1 : SF :=
  (sSeq (sAsg (eBin dPart (eName 2) (eC (.str (Str.ofString "-")))) (gTupS [4, 5, 6]))
  (sSeq (sIf (tOr' (tNot' (tTru (eCall F_is_numeral (nCons (eName 4) nNil)))) (tAnd' (tTru (eName 5)) (tNot' (tTru (eCall F_is_numeral (nCons (eName 6) nNil))))))
  (sSeq (sRaiseE 0)
  sNil)
  sNil)
  (sSeq (sApp 1 (eTup (nCons (eCall (o1of dIntS) (nCons (eName 4) nNil)) (nCons (eIf (tTru (eName 5)) (eCall (o1of dIntS) (nCons (eName 6) nNil)) (eCall (o1of dIntS) (nCons (eName 4) nNil))) nNil))))
  sNil)))
def B_read_set : SF :=
  (sSeq (sIf (tBl (eBin dEqS (eName 0) (eC (.str (Str.ofString "none")))))
  (sSeq (sRet (eTup nNil))
  sNil)
  sNil)
  (sSeq (sSetL 1 (nDisp nNil))
  (sSeq (sFor (itS (eBin dSplit (eName 0) (eC (.str (Str.ofString ","))))) (gSet 2)
  X_read_set_1)
  (sSeq (sSet 3 (eUnL dTupOf 1))
  (sSeq (sIf (tOr' (tNot' (tTru (eCall F_is_set (nCons (eName 3) nNil)))) (tBl (eBin dNeS (eCall F_write_set (nCons (eName 3) nNil)) (eName 0))))
  (sSeq (sRaiseE 0)
  sNil)
  sNil)
  (sSeq (sRet (eName 3))
  sNil))))))
def F_read_set : List PyData → Option SumE := defE B_read_set 1 6
def B_law_pick : SF :=
  (sSeq (sRet (eBin dIxS (eName 1) (eCallL F_law_draw 0 (nCons (eCall (o1of dLen) (nCons (eName 1) nNil)) nNil))))
  sNil)
def F_law_pick : List PyData → List PyData → Option (PyData × List PyData) := defL B_law_pick 1 0
def B_law_wrapped : SF :=
  (sSeq (sRet (eIf (tTru (eUn (dIsi "str") (eName 0))) (eName 0) (eTup (nCons (eC (.str (Str.ofString "told"))) (nCons (eName 0) nNil)))))
  sNil)
def F_law_wrapped : List PyData → Option PyData := defP B_law_wrapped 1 0
def X_law_decimal_1 : TF :=
  (tBl (eBin (dMemS true) (eName 1) (eC (.str (Str.ofString "0123456789")))))
def X_law_decimal_2 : EF :=
  (eName 1)
def B_law_decimal : SF :=
  (sSeq (sIf (tOr' (tBl (eBin dLt (eCall (o1of dLen) (nCons (eName 0) nNil)) (eC (.int 1)))) (tOr' (tBl (eBin dGt (eCall (o1of dLen) (nCons (eName 0) nNil)) (eC (.int 10)))) (tBl (eBin dGt (eCall (o1of dLen) (nCons (eLst (nComp (itY (eName 0)) (gSet 1) X_law_decimal_1 X_law_decimal_2 [1])) nNil)) (eC (.int 0))))))
  (sSeq (sRet (eC .none))
  sNil)
  sNil)
  (sSeq (sRet (eIf (tAnd' (tBl (eBin dGt (eCall (o1of dLen) (nCons (eName 0) nNil)) (eC (.int 1)))) (tBl (eBin dEqS (eBin dIxS (eName 0) (eC (.int 0))) (eC (.str (Str.ofString "0")))))) (eC .none) (eCall (o1of dIntS) (nCons (eName 0) nNil))))
  sNil))
def F_law_decimal : List PyData → Option PyData := defP B_law_decimal 1 1
def X_law_set_text_1 : EF :=
  (eIf (tBl (eBin dEq (eBin dIx (eName 2) (eC (.int 0))) (eBin dIx (eName 2) (eC (.int 1))))) (eCall (o1of dStrI) (nCons (eBin dIx (eName 2) (eC (.int 0))) nNil)) (eBin dAdd (eBin dAdd (eCall (o1of dStrI) (nCons (eBin dIx (eName 2) (eC (.int 0))) nNil)) (eC (.str (Str.ofString "-")))) (eCall (o1of dStrI) (nCons (eBin dIx (eName 2) (eC (.int 1))) nNil))))
def B_law_set_text : SF :=
  (sSeq (sSet 1 (eLst (nComp (itS (eName 0)) (gSet 2) tYesF X_law_set_text_1 [2])))
  (sSeq (sRet (eIf (tBl (eBin dGt (eCall (o1of dLen) (nCons (eName 1) nNil)) (eC (.int 0)))) (eBin dJoin (eC (.str (Str.ofString ","))) (eName 1)) (eC (.str (Str.ofString "none")))))
  sNil))
def F_law_set_text : List PyData → Option PyData := defP B_law_set_text 1 2
def X_law_set_of_text_1 : EF :=
  (eCall F_law_decimal (nCons (eName 4) nNil))
def X_law_set_of_text_2 : SF :=
  (sSeq (sSet 3 (eLst (nComp (itS (eBin dSplit (eName 2) (eC (.str (Str.ofString "-"))))) (gSet 4) tYesF X_law_set_of_text_1 [4])))
  (sSeq (sIf (tOr' (tBl (eBin dIn2 (eC .none) (eName 3))) (tBl (eBin dGt (eCall (o1of dLen) (nCons (eName 3) nNil)) (eC (.int 2)))))
  (sSeq (sRet (eC .none))
  sNil)
  sNil)
  (sSeq (sApp 1 (eTup (nCons (eBin dIx (eName 3) (eC (.int 0))) (nCons (eBin dIx (eName 3) (eBin dSub (eCall (o1of dLen) (nCons (eName 3) nNil)) (eC (.int 1)))) nNil))))
  (sSeq (sIf (tAnd' (tBl (eBin dEq (eCall (o1of dLen) (nCons (eName 3) nNil)) (eC (.int 2)))) (tBl (eBin dEq (eBin dIx (eName 3) (eC (.int 0))) (eBin dIx (eName 3) (eC (.int 1))))))
  (sSeq (sRet (eC .none))
  sNil)
  sNil)
  sNil))))
def B_law_set_of_text : SF :=
  (sSeq (sIf (tBl (eBin dEqS (eName 0) (eC (.str (Str.ofString "none")))))
  (sSeq (sRet (eTup nNil))
  sNil)
  sNil)
  (sSeq (sSetL 1 (nDisp nNil))
  (sSeq (sFor (itS (eBin dSplit (eName 0) (eC (.str (Str.ofString ","))))) (gSet 2)
  X_law_set_of_text_2)
  (sSeq (sRet (eIf (tTru (eCall F_law_is_set (nCons (eUnL dTupOf 1) nNil))) (eUnL dTupOf 1) (eC .none)))
  sNil))))
def F_law_set_of_text : List PyData → Option PyData := defP B_law_set_of_text 1 4
def B_law_spoilt : SF :=
  (sSeq (sSet 3 (eCallL F_law_draw 0 (nCons (eBin dAdd (eCall (o1of dLen) (nCons (eName 1) nNil)) (eC (.int 1))) nNil)))
  (sSeq (sSet 4 (eCallL F_law_draw 0 (nCons (eC (.int 4)) nNil)))
  (sSeq (sIf (tBl (eBin dEq (eName 4) (eC (.int 0))))
  (sSeq (sRet (eBin dAdd (eSlX (eName 1) none (some (eName 3))) (eSlX (eName 1) (some (eBin dAdd (eName 3) (eC (.int 1)))) none)))
  sNil)
  sNil)
  (sSeq (sIf (tBl (eBin dEq (eName 4) (eC (.int 1))))
  (sSeq (sRet (eBin dAdd (eBin dAdd (eSlX (eName 1) none (some (eName 3))) (eCallL F_law_pick 0 (nCons (eName 2) nNil))) (eSlX (eName 1) (some (eBin dAdd (eName 3) (eC (.int 1)))) none)))
  sNil)
  sNil)
  (sSeq (sIf (tBl (eBin dEq (eName 4) (eC (.int 2))))
  (sSeq (sRet (eBin dAdd (eBin dAdd (eSlX (eName 1) none (some (eName 3))) (eCallL F_law_pick 0 (nCons (eName 2) nNil))) (eSlX (eName 1) (some (eName 3)) none)))
  sNil)
  sNil)
  (sSeq (sRet (eBin dAdd (eName 1) (eCallL F_law_pick 0 (nCons (eName 2) nNil))))
  sNil))))))
def F_law_spoilt : List PyData → List PyData → Option (PyData × List PyData) := defL B_law_spoilt 2 2
def B_law_set_read : SF :=
  (sSeq (sTryE2 1 2 (sSeq (sRetTag (Str.ofString "told") (xCall (nCons (eName 0) nNil) F_read_set))
  sNil) [(Str.ofString "refused")])
  sNil)
def F_law_set_read : List PyData → Option PyData := defP B_law_set_read 1 2
def X_law_1 : EF :=
  (eCallL F_law_spoilt 1 (nCons (eName 3) (nCons (eC (.str (Str.ofString "0189-, x"))) nNil)))
def X_law_2 : SF :=
  (sSeq (sSet 5 (eCall F_law_set_of_text (nCons (eName 3) nNil)))
  (sSeq (sIf (tNot' (tTru (eCall (F_law_same 40) (nCons (eCall F_law_set_read (nCons (eName 3) nNil)) (nCons (eCall F_law_wrapped (nCons (eIf (tBl (eUn dIsN (eName 5))) (eC (.str (Str.ofString "refused"))) (eName 5)) nNil)) nNil)))))
  (sSeq (sRet (eC (.bool false)))
  sNil)
  sNil)
  sNil))
def B_law : SF :=
  (sSeq (sSetL 1 (nCall F_law_pool (nCons (eName 0) nNil)))
  (sSeq (sSet 2 (eCallL F_law_drawn_set 1 (nCons (eC (.int 65535)) (nCons (eBin dIx (eTup (nCons (eC (.int 4)) (nCons (eC (.int 20)) nNil))) (eCallL F_law_draw 1 (nCons (eC (.int 2)) nNil))) nNil))))
  (sSeq (sSet 3 (eCall F_law_set_text (nCons (eName 2) nNil)))
  (sSeq (sIf (tNot' (tTru (eCall (F_law_same 40) (nCons (eCall F_write_set (nCons (eName 2) nNil)) (nCons (eName 3) nNil)))))
  (sSeq (sRet (eC (.bool false)))
  sNil)
  sNil)
  (sSeq (sSet 4 (eLst (nDisp (nCons (eName 3) (nCons (eC (.str (Str.ofString ""))) (nCons (eC (.str (Str.ofString "none"))) (nCons (eC (.str (Str.ofString "none,1"))) (nCons (eC (.str (Str.ofString "1,none"))) (nCons (eC (.str (Str.ofString "5-4"))) (nCons (eC (.str (Str.ofString "4-4"))) (nCons (eC (.str (Str.ofString "3,4"))) (nCons (eC (.str (Str.ofString "3-5,5"))) (nCons (eC (.str (Str.ofString "7,3"))) (nCons (eC (.str (Str.ofString "007"))) (nCons (eC (.str (Str.ofString "0"))) (nCons (eC (.str (Str.ofString "0-0"))) (nCons (eC (.str (Str.ofString "1-2-3"))) (nCons (eC (.str (Str.ofString "-1"))) (nCons (eC (.str (Str.ofString "1-"))) (nCons (eC (.str (Str.ofString "9999999999"))) (nCons (eC (.str (Str.ofString "10000000000"))) nNil)))))))))))))))))))))
  (sSeq (sSet 4 (eBin dAdd (eName 4) (eLst (nDisp (nCons (eC (.str (Str.ofString "1 ,2"))) (nCons (eC (.str (Str.ofString "1, 2"))) (nCons (eBin dAdd (eName 3) (eC (.str (Str.ofString ",")))) (nCons (eBin dAdd (eC (.str (Str.ofString ","))) (eName 3)) (nCons (eBin dAdd (eName 3) (eC (.str (Str.ofString "\n")))) nNil)))))))))
  (sSeq (sSet 4 (eBin dAdd (eName 4) (eLst (nComp (itR1 (nCons (eC (.int 6)) nNil)) (gSet 6) tYesF X_law_1 [6]))))
  (sSeq (sFor (itS (eName 4)) (gSet 3)
  X_law_2)
  (sSeq (sRet (eC (.bool true)))
  sNil)))))))))
def F_law : List PyData → Option PyData := defP B_law 1 6
end Pr_gatewarden_k04_texts_of_sets
end
section
set_option Elab.async false
set_option linter.all false
set_option maxRecDepth 100000
set_option maxHeartbeats 4000000
namespace Pr_gatewarden_k04_texts_of_sets
open PySem PySem.Spec PyProof.Rows L2 PG Pr_B Pr_C Pr_D
/-! the linked text does it -/
def topS (i : Nat) : Stmt := PySem.Challenge.pw_gatewarden_k04_texts_of_sets.main.body.getD i (.Pass ⟨0, 0, 0, 0⟩)
abbrev s_is_numeral : Stmt := topS 5
theorem sc_is_numeral : FnScope ["text", "sign"] ["text"] (defScope s_is_numeral) := ⟨rfl, rfl, rfl, by decide +kernel, rfl, by decide +kernel, by decide +kernel⟩
abbrev s_is_tuple : Stmt := topS 7
theorem sc_is_tuple : FnScope ["value", "count"] ["value", "count"] (defScope s_is_tuple) := ⟨rfl, rfl, rfl, by decide +kernel, rfl, by decide +kernel, by decide +kernel⟩
abbrev s_is_set : Stmt := topS 9
theorem sc_is_set : FnScope ["value", "least", "pair", "low", "high"] ["value"] (defScope s_is_set) := ⟨rfl, rfl, rfl, by decide +kernel, rfl, by decide +kernel, by decide +kernel⟩
abbrev s_write_pair : Stmt := topS 11
theorem sc_write_pair : FnScope ["low", "high"] ["low", "high"] (defScope s_write_pair) := ⟨rfl, rfl, rfl, by decide +kernel, rfl, by decide +kernel, by decide +kernel⟩
abbrev s_write_set : Stmt := topS 10
theorem sc_write_set : FnScope ["a", "low", "high"] ["a"] (defScope s_write_set) := ⟨rfl, rfl, rfl, by decide +kernel, rfl, by decide +kernel, by decide +kernel⟩
abbrev s_read_set : Stmt := topS 12
theorem sc_read_set : FnScope ["text", "pairs", "part", "found", "low", "dash", "high"] ["text"] (defScope s_read_set) := ⟨rfl, rfl, rfl, by decide +kernel, rfl, by decide +kernel, by decide +kernel⟩
abbrev s_law_same : Stmt := topS 14
theorem sc_law_same : FnScope ["actual", "due", "k"] ["actual", "due"] (defScope s_law_same) := ⟨rfl, rfl, rfl, by decide +kernel, rfl, by decide +kernel, by decide +kernel⟩
abbrev s_law_is_integer : Stmt := topS 15
theorem sc_law_is_integer : FnScope ["actual"] ["actual"] (defScope s_law_is_integer) := ⟨rfl, rfl, rfl, by decide +kernel, rfl, by decide +kernel, by decide +kernel⟩
abbrev s_law_pool : Stmt := topS 16
theorem sc_law_pool : FnScope ["script", "salt", "cell"] ["script"] (defScope s_law_pool) := ⟨rfl, rfl, rfl, by decide +kernel, rfl, by decide +kernel, by decide +kernel⟩
abbrev s_law_spread : Stmt := topS 17
theorem sc_law_spread : FnScope ["cell", "mixed", "total", "k"] ["cell"] (defScope s_law_spread) := ⟨rfl, rfl, rfl, by decide +kernel, rfl, by decide +kernel, by decide +kernel⟩
abbrev s_law_draw : Stmt := topS 18
theorem sc_law_draw : FnScope ["pool", "many", "value", "cell", "mixed"] ["pool", "many"] (defScope s_law_draw) := ⟨rfl, rfl, rfl, by decide +kernel, rfl, by decide +kernel, by decide +kernel⟩
abbrev s_law_pick : Stmt := topS 19
theorem sc_law_pick : FnScope ["pool", "items"] ["pool", "items"] (defScope s_law_pick) := ⟨rfl, rfl, rfl, by decide +kernel, rfl, by decide +kernel, by decide +kernel⟩
abbrev s_law_has : Stmt := topS 20
theorem sc_law_has : FnScope ["numbers", "number", "pair"] ["numbers", "number"] (defScope s_law_has) := ⟨rfl, rfl, rfl, by decide +kernel, rfl, by decide +kernel, by decide +kernel⟩
abbrev s_law_union : Stmt := topS 21
theorem sc_law_union : FnScope ["pairs", "top", "edges", "found", "k", "pair"] ["pairs", "top"] (defScope s_law_union) := ⟨rfl, rfl, rfl, by decide +kernel, rfl, by decide +kernel, by decide +kernel⟩
abbrev s_law_number : Stmt := topS 22
theorem sc_law_number : FnScope ["pool", "top", "turn"] ["pool", "top"] (defScope s_law_number) := ⟨rfl, rfl, rfl, by decide +kernel, rfl, by decide +kernel, by decide +kernel⟩
abbrev s_law_pairs : Stmt := topS 23
theorem sc_law_pairs : FnScope ["pool", "top", "many", "found", "k", "low"] ["pool", "top", "many"] (defScope s_law_pairs) := ⟨rfl, rfl, rfl, by decide +kernel, rfl, by decide +kernel, by decide +kernel⟩
abbrev s_law_drawn_set : Stmt := topS 24
theorem sc_law_drawn_set : FnScope ["pool", "top", "many"] ["pool", "top", "many"] (defScope s_law_drawn_set) := ⟨rfl, rfl, rfl, by decide +kernel, rfl, by decide +kernel, by decide +kernel⟩
abbrev s_law_is_set : Stmt := topS 25
theorem sc_law_is_set : FnScope ["value", "last", "pair"] ["value"] (defScope s_law_is_set) := ⟨rfl, rfl, rfl, by decide +kernel, rfl, by decide +kernel, by decide +kernel⟩
abbrev s_law_wrapped : Stmt := topS 26
theorem sc_law_wrapped : FnScope ["due"] ["due"] (defScope s_law_wrapped) := ⟨rfl, rfl, rfl, by decide +kernel, rfl, by decide +kernel, by decide +kernel⟩
abbrev s_law_decimal : Stmt := topS 27
theorem sc_law_decimal : FnScope ["text", "sign"] ["text"] (defScope s_law_decimal) := ⟨rfl, rfl, rfl, by decide +kernel, rfl, by decide +kernel, by decide +kernel⟩
abbrev s_law_set_text : Stmt := topS 28
theorem sc_law_set_text : FnScope ["numbers", "parts", "pair"] ["numbers"] (defScope s_law_set_text) := ⟨rfl, rfl, rfl, by decide +kernel, rfl, by decide +kernel, by decide +kernel⟩
abbrev s_law_set_of_text : Stmt := topS 29
theorem sc_law_set_of_text : FnScope ["text", "found", "part", "ends", "end"] ["text"] (defScope s_law_set_of_text) := ⟨rfl, rfl, rfl, by decide +kernel, rfl, by decide +kernel, by decide +kernel⟩
abbrev s_law_spoilt : Stmt := topS 30
theorem sc_law_spoilt : FnScope ["pool", "text", "signs", "at", "turn"] ["pool", "text", "signs"] (defScope s_law_spoilt) := ⟨rfl, rfl, rfl, by decide +kernel, rfl, by decide +kernel, by decide +kernel⟩
abbrev s_law_set_read : Stmt := topS 31
theorem sc_law_set_read : FnScope ["text", "e", "right"] ["text"] (defScope s_law_set_read) := ⟨rfl, rfl, rfl, by decide +kernel, rfl, by decide +kernel, by decide +kernel⟩
abbrev s_law : Stmt := topS 32
theorem sc_law : FnScope ["script", "pool", "numbers", "text", "tried", "due", "k"] ["script"] (defScope s_law) := ⟨rfl, rfl, rfl, by decide +kernel, rfl, by decide +kernel, by decide +kernel⟩
structure Tx (K : PySem.W.Frag) (mg : Str → Option Value) where
  a_is_numeral : Addr
  fd_is_numeral : FuncData
  cc_is_numeral : Addr
  pp_is_numeral : Addr
  F_is_numeral : FunT K "is_numeral" "is_numeral" s_is_numeral a_is_numeral fd_is_numeral cc_is_numeral pp_is_numeral
  b_is_numeral : L2.Binds K fd_is_numeral ["text"] []
  g_is_numeral : mg "is_numeral" = some (.ref a_is_numeral)
  a_is_tuple : Addr
  fd_is_tuple : FuncData
  F_is_tuple : L2.Fun K "is_tuple" "is_tuple" s_is_tuple a_is_tuple fd_is_tuple
  b_is_tuple : L2.Binds K fd_is_tuple ["value", "count"] []
  g_is_tuple : mg "is_tuple" = some (.ref a_is_tuple)
  a_is_set : Addr
  fd_is_set : FuncData
  F_is_set : L2.Fun K "is_set" "is_set" s_is_set a_is_set fd_is_set
  b_is_set : L2.Binds K fd_is_set ["value"] []
  g_is_set : mg "is_set" = some (.ref a_is_set)
  a_write_pair : Addr
  fd_write_pair : FuncData
  F_write_pair : L2.Fun K "_write_pair" "_write_pair" s_write_pair a_write_pair fd_write_pair
  b_write_pair : L2.Binds K fd_write_pair ["low", "high"] []
  g_write_pair : mg "_write_pair" = some (.ref a_write_pair)
  a_write_set : Addr
  fd_write_set : FuncData
  F_write_set : L2.Fun K "write_set" "write_set" s_write_set a_write_set fd_write_set
  b_write_set : L2.Binds K fd_write_set ["a"] []
  g_write_set : mg "write_set" = some (.ref a_write_set)
  a_read_set : Addr
  fd_read_set : FuncData
  F_read_set : L2.Fun K "read_set" "read_set" s_read_set a_read_set fd_read_set
  b_read_set : L2.Binds K fd_read_set ["text"] []
  g_read_set : mg "read_set" = some (.ref a_read_set)
  a_law_same : Addr
  fd_law_same : FuncData
  F_law_same : L2.Fun K "_law_same" "_law_same" s_law_same a_law_same fd_law_same
  b_law_same : L2.Binds K fd_law_same ["actual", "due"] []
  g_law_same : mg "_law_same" = some (.ref a_law_same)
  a_law_is_integer : Addr
  fd_law_is_integer : FuncData
  F_law_is_integer : L2.Fun K "_law_is_integer" "_law_is_integer" s_law_is_integer a_law_is_integer fd_law_is_integer
  b_law_is_integer : L2.Binds K fd_law_is_integer ["actual"] []
  g_law_is_integer : mg "_law_is_integer" = some (.ref a_law_is_integer)
  a_law_pool : Addr
  fd_law_pool : FuncData
  F_law_pool : L2.Fun K "_law_pool" "_law_pool" s_law_pool a_law_pool fd_law_pool
  b_law_pool : L2.Binds K fd_law_pool ["script"] []
  g_law_pool : mg "_law_pool" = some (.ref a_law_pool)
  a_law_spread : Addr
  fd_law_spread : FuncData
  F_law_spread : L2.Fun K "_law_spread" "_law_spread" s_law_spread a_law_spread fd_law_spread
  b_law_spread : L2.Binds K fd_law_spread ["cell"] []
  g_law_spread : mg "_law_spread" = some (.ref a_law_spread)
  a_law_draw : Addr
  fd_law_draw : FuncData
  F_law_draw : L2.Fun K "_law_draw" "_law_draw" s_law_draw a_law_draw fd_law_draw
  b_law_draw : L2.Binds K fd_law_draw ["pool", "many"] []
  g_law_draw : mg "_law_draw" = some (.ref a_law_draw)
  a_law_pick : Addr
  fd_law_pick : FuncData
  F_law_pick : L2.Fun K "_law_pick" "_law_pick" s_law_pick a_law_pick fd_law_pick
  b_law_pick : L2.Binds K fd_law_pick ["pool", "items"] []
  g_law_pick : mg "_law_pick" = some (.ref a_law_pick)
  a_law_has : Addr
  fd_law_has : FuncData
  F_law_has : L2.Fun K "_law_has" "_law_has" s_law_has a_law_has fd_law_has
  b_law_has : L2.Binds K fd_law_has ["numbers", "number"] []
  g_law_has : mg "_law_has" = some (.ref a_law_has)
  a_law_union : Addr
  fd_law_union : FuncData
  F_law_union : L2.Fun K "_law_union" "_law_union" s_law_union a_law_union fd_law_union
  b_law_union : L2.Binds K fd_law_union ["pairs", "top"] []
  g_law_union : mg "_law_union" = some (.ref a_law_union)
  a_law_number : Addr
  fd_law_number : FuncData
  F_law_number : L2.Fun K "_law_number" "_law_number" s_law_number a_law_number fd_law_number
  b_law_number : L2.Binds K fd_law_number ["pool", "top"] []
  g_law_number : mg "_law_number" = some (.ref a_law_number)
  a_law_pairs : Addr
  fd_law_pairs : FuncData
  F_law_pairs : L2.Fun K "_law_pairs" "_law_pairs" s_law_pairs a_law_pairs fd_law_pairs
  b_law_pairs : L2.Binds K fd_law_pairs ["pool", "top", "many"] []
  g_law_pairs : mg "_law_pairs" = some (.ref a_law_pairs)
  a_law_drawn_set : Addr
  fd_law_drawn_set : FuncData
  F_law_drawn_set : L2.Fun K "_law_drawn_set" "_law_drawn_set" s_law_drawn_set a_law_drawn_set fd_law_drawn_set
  b_law_drawn_set : L2.Binds K fd_law_drawn_set ["pool", "top", "many"] []
  g_law_drawn_set : mg "_law_drawn_set" = some (.ref a_law_drawn_set)
  a_law_is_set : Addr
  fd_law_is_set : FuncData
  F_law_is_set : L2.Fun K "_law_is_set" "_law_is_set" s_law_is_set a_law_is_set fd_law_is_set
  b_law_is_set : L2.Binds K fd_law_is_set ["value"] []
  g_law_is_set : mg "_law_is_set" = some (.ref a_law_is_set)
  a_law_wrapped : Addr
  fd_law_wrapped : FuncData
  F_law_wrapped : L2.Fun K "_law_wrapped" "_law_wrapped" s_law_wrapped a_law_wrapped fd_law_wrapped
  b_law_wrapped : L2.Binds K fd_law_wrapped ["due"] []
  g_law_wrapped : mg "_law_wrapped" = some (.ref a_law_wrapped)
  a_law_decimal : Addr
  fd_law_decimal : FuncData
  F_law_decimal : L2.Fun K "_law_decimal" "_law_decimal" s_law_decimal a_law_decimal fd_law_decimal
  b_law_decimal : L2.Binds K fd_law_decimal ["text"] []
  g_law_decimal : mg "_law_decimal" = some (.ref a_law_decimal)
  a_law_set_text : Addr
  fd_law_set_text : FuncData
  F_law_set_text : L2.Fun K "_law_set_text" "_law_set_text" s_law_set_text a_law_set_text fd_law_set_text
  b_law_set_text : L2.Binds K fd_law_set_text ["numbers"] []
  g_law_set_text : mg "_law_set_text" = some (.ref a_law_set_text)
  a_law_set_of_text : Addr
  fd_law_set_of_text : FuncData
  F_law_set_of_text : L2.Fun K "_law_set_of_text" "_law_set_of_text" s_law_set_of_text a_law_set_of_text fd_law_set_of_text
  b_law_set_of_text : L2.Binds K fd_law_set_of_text ["text"] []
  g_law_set_of_text : mg "_law_set_of_text" = some (.ref a_law_set_of_text)
  a_law_spoilt : Addr
  fd_law_spoilt : FuncData
  F_law_spoilt : L2.Fun K "_law_spoilt" "_law_spoilt" s_law_spoilt a_law_spoilt fd_law_spoilt
  b_law_spoilt : L2.Binds K fd_law_spoilt ["pool", "text", "signs"] []
  g_law_spoilt : mg "_law_spoilt" = some (.ref a_law_spoilt)
  a_law_set_read : Addr
  fd_law_set_read : FuncData
  F_law_set_read : L2.Fun K "_law_set_read" "_law_set_read" s_law_set_read a_law_set_read fd_law_set_read
  b_law_set_read : L2.Binds K fd_law_set_read ["text"] []
  g_law_set_read : mg "_law_set_read" = some (.ref a_law_set_read)
  a_law : Addr
  fd_law : FuncData
  F_law : L2.Fun K "law" "law" s_law a_law fd_law
  b_law : L2.Binds K fd_law ["script"] []
  g_law : mg "law" = some (.ref a_law)
  z_ValueError : mg "ValueError" = none
  z_all : mg "all" = none
  z_bool : mg "bool" = none
  z_int : mg "int" = none
  z_isinstance : mg "isinstance" = none
  z_len : mg "len" = none
  z_list : mg "list" = none
  z_max : mg "max" = none
  z_min : mg "min" = none
  z_range : mg "range" = none
  z_set : mg "set" = none
  z_sorted : mg "sorted" = none
  z_str : mg "str" = none
  z_tuple : mg "tuple" = none
  z_type : mg "type" = none
  C_BadText : Addr
  xi_BadText : PySem.W.excIn K C_BadText [.type "ValueError", .type "Exception", .type "BaseException", .type "object"] "ValueError.__new__" = true
  kC_BadText : PySem.W.keepIn K (.ref C_BadText) = true
  eC_BadText : PySem.W.subIn K (.ref C_BadText) (.type "BaseException") = some true
  tC_BadText : PySem.W.typeIn K (.ref C_BadText) = some (.type "type")
  X_BadText : ExcC K C_BadText
  gC_BadText : mg "BadText" = some (.ref C_BadText)
  C_GateError : Addr
  gC_GateError : mg "GateError" = some (.ref C_GateError)
  C_NoPlace : Addr
  gC_NoPlace : mg "NoPlace" = some (.ref C_NoPlace)
  kit_BadText_GateError : PySem.W.kitOne K (.ref C_BadText) (.ref C_GateError) = some true
  kit_BadText_NoPlace : PySem.W.kitOne K (.ref C_BadText) (.ref C_NoPlace) = some false
  kit_BadText_ValueError : PySem.W.kitOne K (.ref C_BadText) (.type "ValueError") = some true
  exm_BadText_BadText : PySem.W.exmOne K (.ref C_BadText) (.ref C_BadText) = some true
section
variable {P : Program} {w : World} {K : PySem.W.Frag} {mg : Str → Option Value} {base : Heap}
theorem ok_is_numeral (T : Tx K mg) (TB : TbOk K mg base) : FnOk P w K mg base CX0 2 T.a_is_numeral T.fd_is_numeral ["text"] (spP K 1 F_is_numeral) :=
  ok_PT T.F_is_numeral (by decide) TB sc_is_numeral rfl rfl fun A outer s H E tb hr =>
  (es_cons (es_if (PW.pt (ew_or (et_not (et_chain op_le os_le op_le os_le ev_int (ev_fn cl_len fs_len (by rfl) T.z_len PySem.boot_len (ea_cons (ev_name (pv 0)) ea_nil)) ev_int)) (ew_or1 (et_not (et_tru (ev_all (own := [("sign", 1)]) hr rfl sc_is_numeral.nd (by rfl) T.z_all (by decide) T.F_is_numeral.tab tb (ei_str (ev_name (pv 0))) ⟨blkOk_by (N := ["text", "sign"]) (sc := defScope s_is_numeral) (by decide +kernel), by decide +kernel, rfl, rfl⟩ ⟨fun _ _ _ _ _ _ _ _ hr => ⟨(eg_name sc_is_numeral.nd (i := 1) rfl (by first | exact Or.inl rfl | exact Or.inr rfl)), ptst_nil, (ev_chain op_le_str os_leS op_le_str os_leS ev_str (ev_name (pv 1)) ev_str)⟩⟩))))))
  (es_cons (es_ret ev_bool)
  es_nil)
  es_nil)
  (es_cons (es_ret (ev_or (ev_cmp op_eq os_eqS (ev_name (pv 0)) ev_str (by rfl)) (ev_one (ev_cmp op_ne os_neS (ev_ix ix_seq os_ixS (ev_name (pv 0)) ev_int (fun _ _ => rfl)) ev_str (by rfl)))))
  es_nil))
theorem ok_is_tuple (T : Tx K mg) (TB : TbOk K mg base) : FnOk P w K mg base CX0 1 T.a_is_tuple T.fd_is_tuple ["value", "count"] (spP K 2 F_is_tuple) :=
  ok_P T.F_is_tuple sc_is_tuple rfl rfl fun cdv A outer s H E hr =>
  (es_cons (es_ret (ev_and (ev_tyEq (by decide) (by rfl) T.z_type (ev_name (pv 0)) (pe_bltn (by rfl) T.z_tuple (by decide +kernel) rfl) (by rfl)) (ev_one (ev_cmp (op_eqD hr.units) os_eq (ev_fn cl_len fs_len (by rfl) T.z_len PySem.boot_len (ea_cons (ev_name (pv 0)) ea_nil)) (ev_name (pv 1)) (nomark _)))))
  es_nil)
theorem ok_is_set (T : Tx K mg) (TB : TbOk K mg base) : FnOk P w K mg base CX0 2 T.a_is_set T.fd_is_set ["value"] (spP K 1 F_is_set) :=
  ok_P T.F_is_set sc_is_set rfl rfl fun cdv A outer s H E hr =>
  (es_cons (es_if (et_tyNe hr.units (by decide) (by rfl) T.z_type (ev_name (pv 0)) (pe_bltn (by rfl) T.z_tuple (by decide +kernel) rfl) (by rfl))
  (es_cons (es_ret ev_bool)
  es_nil)
  es_nil)
  (es_cons (es_set sc_is_set.nd (i := 1) rfl (by first | exact Or.inl rfl | exact Or.inr rfl) ev_int)
  (es_cons (es_for PassesOwn.never rfl (ei_seq (ev_name (pv 0))) (eg_name sc_is_set.nd (i := 2) rfl (by first | exact Or.inl rfl | exact Or.inr rfl))
  (es_cons (es_if (et_not (et_tru (ev_call (ok_is_tuple T TB) (hr.mono (by decide)) (by rfl) T.g_is_tuple T.F_is_tuple.kp T.b_is_tuple (ea_cons (ev_name (pv 2)) (ea_cons ev_int ea_nil)) (nlen_cons (nlen_cons nlen_nil)))))
  (es_cons (es_ret ev_bool)
  es_nil)
  es_nil)
  (es_cons (es_asg (ev_name (pv 2)) (eg_tup (is := [3, 4]) rfl (pgs_cons (pg_name sc_is_set.nd (i := 3) rfl (by first | exact Or.inl rfl | exact Or.inr rfl)) (pgs_cons (pg_name sc_is_set.nd (i := 4) rfl (by first | exact Or.inl rfl | exact Or.inr rfl)) pgs_nil))))
  (es_cons (es_if (PW.pt (ew_or (et_tyNe hr.units (by decide) (by rfl) T.z_type (ev_name (pv 3)) (pe_bltn (by rfl) T.z_int (by decide +kernel) rfl) (by rfl)) (ew_or (et_tyNe hr.units (by decide) (by rfl) T.z_type (ev_name (pv 4)) (pe_bltn (by rfl) T.z_int (by decide +kernel) rfl) (by rfl)) (ew_or1 (et_not (et_chain op_le os_le op_le os_le (ev_name (pv 1)) (ev_name (pv 3)) (ev_name (pv 4))))))))
  (es_cons (es_ret ev_bool)
  es_nil)
  es_nil)
  (es_cons (es_set sc_is_set.nd (i := 1) rfl (by first | exact Or.inl rfl | exact Or.inr rfl) (ev_op op_addD os_add (ev_name (pv 4)) ev_int))
  es_nil)))))
  (es_cons (es_ret ev_bool)
  es_nil))))
theorem ok_write_pair (T : Tx K mg) (TB : TbOk K mg base) : FnOk P w K mg base CX0 1 T.a_write_pair T.fd_write_pair ["low", "high"] (spP K 2 F_write_pair) :=
  ok_P T.F_write_pair sc_write_pair rfl rfl fun cdv A outer s H E hr =>
  (es_cons (es_if (et_cmp (op_eqD hr.units) os_eq (ev_name (pv 0)) (ev_name (pv 1)) (nomark _))
  (es_cons (es_ret (ev_fnT call_str_int fs_strI (by rfl) T.z_str PyProof.Rows.boot_str (ea_cons (ev_name (pv 0)) ea_nil)))
  es_nil)
  es_nil)
  (es_cons (es_ret (ev_js (.cons (ev_fmt (ev_name (pv 0))) (.cons ev_str (.cons (ev_fmt (ev_name (pv 1))) .nil)))))
  es_nil))
theorem ok_write_set (T : Tx K mg) (TB : TbOk K mg base) : FnOk P w K mg base CX0 2 T.a_write_set T.fd_write_set ["a"] (spP K 1 F_write_set) :=
  ok_P T.F_write_set sc_write_set rfl rfl fun cdv A outer s H E hr =>
  (es_cons (es_if (et_not (et_tru (ev_name (pv 0))))
  (es_cons (es_ret ev_str)
  es_nil)
  es_nil)
  (es_cons (es_ret (ev_join ev_str (ev_new (en_comp rfl sc_write_set.nd (own := [("low", 1), ("high", 2)]) (ei_seq (ev_name (pv 0))) (blkOk_by (N := ["a", "low", "high"]) (sc := defScope s_write_set) (by decide +kernel)) (fun _ _ _ _ _ => (eg_tup (is := [1, 2]) rfl (pgs_cons (pg_name sc_write_set.nd (i := 1) rfl (by first | exact Or.inl rfl | exact Or.inr rfl)) (pgs_cons (pg_name sc_write_set.nd (i := 2) rfl (by first | exact Or.inl rfl | exact Or.inr rfl)) pgs_nil)))) (fun _ _ _ _ _ => ptst_nil) (fun _ _ _ _ _ => (ev_call (ok_write_pair T TB) (hr.mono (by decide)) (by rfl) T.g_write_pair T.F_write_pair.kp T.b_write_pair (ea_cons (ev_name (pv 1)) (ea_cons (ev_name (pv 2)) ea_nil)) (nlen_cons (nlen_cons nlen_nil))))))))
  es_nil))
theorem ok_read_set (T : Tx K mg) (TB : TbOk K mg base) : FnOk P w K mg base (L2.CX P w) 3 T.a_read_set T.fd_read_set ["text"] (spE K 1 [T.C_BadText] F_read_set) :=
  ok_E T.F_read_set sc_read_set rfl rfl fun cdv A outer s H E hr tk =>
  (ese_cons (ese_if (et_cmp op_eq os_eqS (ev_name (pv 0)) ev_str (by rfl))
  (ese_cons (ese_leaf (es_ret (ev_tup ea_nil)) nol_ret)
  ese_nil)
  ese_nil)
  (ese_cons (ese_leaf (es_setL sc_read_set.nd (i := 1) rfl (by first | exact Or.inl rfl | exact Or.inr rfl) (en_lst ea_nil)) nol_setL)
  (ese_cons (ese_for (passes_of rfl) rfl (ei_seq (ev_split (ev_name (pv 0)) ev_str)) (eg_name sc_read_set.nd (i := 2) rfl (by first | exact Or.inl rfl | exact Or.inr rfl))
  (ese_cons (ese_leaf (es_asg (ev_part (ev_name (pv 2)) ev_str) (eg_tup (is := [4, 5, 6]) rfl (pgs_cons (pg_name sc_read_set.nd (i := 4) rfl (by first | exact Or.inl rfl | exact Or.inr rfl)) (pgs_cons (pg_name sc_read_set.nd (i := 5) rfl (by first | exact Or.inl rfl | exact Or.inr rfl)) (pgs_cons (pg_name sc_read_set.nd (i := 6) rfl (by first | exact Or.inl rfl | exact Or.inr rfl)) pgs_nil))))) nol_asg)
  (ese_cons (ese_if (PW.pt (ew_or (et_not (et_tru (ev_call (ok_is_numeral T TB) (hr.mono (by decide)) (by rfl) T.g_is_numeral T.F_is_numeral.kp T.b_is_numeral (ea_cons (ev_name (pv 4)) ea_nil) (nlen_cons nlen_nil)))) (ew_or1 (PW.pt (ew_and (et_tru (ev_name (pv 5))) (ew_and1 (et_not (et_tru (ev_call (ok_is_numeral T TB) (hr.mono (by decide)) (by rfl) T.g_is_numeral T.F_is_numeral.kp T.b_is_numeral (ea_cons (ev_name (pv 6)) ea_nil) (nlen_cons nlen_nil))))))))))
  (ese_cons (ese_raise rfl tk T.xi_BadText T.gC_BadText T.kC_BadText (raises_own T.eC_BadText T.tC_BadText) (by rfl) (by rfl))
  ese_nil)
  ese_nil)
  (ese_cons (ese_leaf (es_app (pv 1) (ev_tup (ea_cons (ev_fnT call_int_str fs_intS (by rfl) T.z_int PyProof.Rows.boot_int (ea_cons (ev_name (pv 4)) ea_nil)) (ea_cons (ev_if (et_tru (ev_name (pv 5))) (ev_fnT call_int_str fs_intS (by rfl) T.z_int PyProof.Rows.boot_int (ea_cons (ev_name (pv 6)) ea_nil)) (ev_fnT call_int_str fs_intS (by rfl) T.z_int PyProof.Rows.boot_int (ea_cons (ev_name (pv 4)) ea_nil))) ea_nil)))) nol_app)
  ese_nil))))
  (ese_cons (ese_leaf (es_set sc_read_set.nd (i := 3) rfl (by first | exact Or.inl rfl | exact Or.inr rfl) (ev_tupO (pv 1) (by rfl) T.z_tuple)) nol_set)
  (ese_cons (ese_if (PW.pt (ew_or (et_not (et_tru (ev_call (ok_is_set T TB) (hr.mono (by decide)) (by rfl) T.g_is_set T.F_is_set.kp T.b_is_set (ea_cons (ev_name (pv 3)) ea_nil) (nlen_cons nlen_nil)))) (ew_or1 (et_cmp op_ne os_neS (ev_call (ok_write_set T TB) (hr.mono (by decide)) (by rfl) T.g_write_set T.F_write_set.kp T.b_write_set (ea_cons (ev_name (pv 3)) ea_nil) (nlen_cons nlen_nil)) (ev_name (pv 0)) (by rfl)))))
  (ese_cons (ese_raise rfl tk T.xi_BadText T.gC_BadText T.kC_BadText (raises_own T.eC_BadText T.tC_BadText) (by rfl) (by rfl))
  ese_nil)
  ese_nil)
  (ese_cons (ese_leaf (es_ret (ev_name (pv 3))) nol_ret)
  ese_nil))))))
theorem ok_law_same (T : Tx K mg) (TB : TbOk K mg base) : ∀ r : Nat, FnOk P w K mg base CX0 (0 + r) T.a_law_same T.fd_law_same ["actual", "due"] (spP K 2 (F_law_same r))
  | 0 => ⟨fun vs H Q E h => h.1, fun A outer s H args us vs Q E _ _ _ _ h => by obtain ⟨_, h⟩ := h; obtain ⟨_, _, _, _, _, _, e, _⟩ := h; cases e⟩
  | r + 1 => ok_P T.F_law_same sc_law_same rfl rfl fun cdv A outer s H E hr =>
  have HR := ok_law_same T TB r
  (es_cons (es_if (PW.pt (ew_or (et_tru (ev_isi (T := "tuple") (by decide) (by rfl) T.z_isinstance (ev_name (pv 1)) (pe_bltn (by rfl) T.z_tuple (by decide +kernel) rfl))) (ew_or1 (et_tru (ev_isi (T := "list") (by decide) (by rfl) T.z_isinstance (ev_name (pv 1)) (pe_bltn (by rfl) T.z_list (by decide +kernel) rfl))))))
  (es_cons (es_if (PW.pt (ew_or (et_cmp (op_neD hr.units) os_ne (ev_isi (T := "tuple") (by decide) (by rfl) T.z_isinstance (ev_name (pv 1)) (pe_bltn (by rfl) T.z_tuple (by decide +kernel) rfl)) (ev_isi (T := "tuple") (by decide) (by rfl) T.z_isinstance (ev_name (pv 0)) (pe_bltn (by rfl) T.z_tuple (by decide +kernel) rfl)) (nomark _)) (ew_or (et_cmp (op_neD hr.units) os_ne (ev_isi (T := "list") (by decide) (by rfl) T.z_isinstance (ev_name (pv 1)) (pe_bltn (by rfl) T.z_list (by decide +kernel) rfl)) (ev_isi (T := "list") (by decide) (by rfl) T.z_isinstance (ev_name (pv 0)) (pe_bltn (by rfl) T.z_list (by decide +kernel) rfl)) (nomark _)) (ew_or1 (et_cmp (op_neD hr.units) os_ne (ev_fn cl_len fs_len (by rfl) T.z_len PySem.boot_len (ea_cons (ev_name (pv 0)) ea_nil)) (ev_fn cl_len fs_len (by rfl) T.z_len PySem.boot_len (ea_cons (ev_name (pv 1)) ea_nil)) (nomark _))))))
  (es_cons (es_ret ev_bool)
  es_nil)
  es_nil)
  (es_cons (es_ret (ev_cmp (op_eqD hr.units) os_eq (ev_fn cl_len fs_len (by rfl) T.z_len PySem.boot_len (ea_cons (ev_new (en_comp rfl sc_law_same.nd (own := [("k", 2)]) (ei_rng1 (by rfl) T.z_range (ea_cons (ev_fn cl_len fs_len (by rfl) T.z_len PySem.boot_len (ea_cons (ev_name (pv 1)) ea_nil)) ea_nil)) (blkOk_by (N := ["actual", "due", "k"]) (sc := defScope s_law_same) (by decide +kernel)) (fun _ _ _ _ _ => (eg_name sc_law_same.nd (i := 2) rfl (by first | exact Or.inl rfl | exact Or.inr rfl))) (fun _ _ _ _ _ => (ptst_one (et_not (et_tru (ev_call HR hr (by rfl) T.g_law_same T.F_law_same.kp T.b_law_same (ea_cons (ev_ix ix_seq os_ix (ev_name (pv 0)) (ev_name (pv 2)) (fun _ _ => rfl)) (ea_cons (ev_ix ix_seq os_ix (ev_name (pv 1)) (ev_name (pv 2)) (fun _ _ => rfl)) ea_nil)) (nlen_cons (nlen_cons nlen_nil))))))) (fun _ _ _ _ _ => (ev_name (pv 2))))) ea_nil)) ev_int (nomark _)))
  es_nil))
  es_nil)
  (es_cons (es_if (et_isN (ev_name (pv 1)))
  (es_cons (es_ret (ev_isN (ev_name (pv 0))))
  es_nil)
  es_nil)
  (es_cons (es_if (PW.pt (ew_or (et_tru (ev_isi (T := "bool") (by decide) (by rfl) T.z_isinstance (ev_name (pv 1)) (pe_bltn (by rfl) T.z_bool (by decide +kernel) rfl))) (ew_or1 (et_tru (ev_isi (T := "bool") (by decide) (by rfl) T.z_isinstance (ev_name (pv 0)) (pe_bltn (by rfl) T.z_bool (by decide +kernel) rfl))))))
  (es_cons (es_ret (ev_and (ev_isi (T := "bool") (by decide) (by rfl) T.z_isinstance (ev_name (pv 1)) (pe_bltn (by rfl) T.z_bool (by decide +kernel) rfl)) (ev_and (ev_isi (T := "bool") (by decide) (by rfl) T.z_isinstance (ev_name (pv 0)) (pe_bltn (by rfl) T.z_bool (by decide +kernel) rfl)) (ev_one (ev_cmp (op_eqD hr.units) os_eq (ev_name (pv 0)) (ev_name (pv 1)) (nomark _))))))
  es_nil)
  es_nil)
  (es_cons (es_if (et_tru (ev_isi (T := "int") (by decide) (by rfl) T.z_isinstance (ev_name (pv 1)) (pe_bltn (by rfl) T.z_int (by decide +kernel) rfl)))
  (es_cons (es_ret (ev_and (ev_isi (T := "int") (by decide) (by rfl) T.z_isinstance (ev_name (pv 0)) (pe_bltn (by rfl) T.z_int (by decide +kernel) rfl)) (ev_one (ev_cmp (op_eqD hr.units) os_eq (ev_name (pv 0)) (ev_name (pv 1)) (nomark _)))))
  es_nil)
  es_nil)
  (es_cons (es_ret (ev_and (ev_isi (T := "str") (by decide) (by rfl) T.z_isinstance (ev_name (pv 0)) (pe_bltn (by rfl) T.z_str (by decide +kernel) rfl)) (ev_one (ev_cmp (op_eqD hr.units) os_eq (ev_name (pv 0)) (ev_name (pv 1)) (nomark _)))))
  es_nil)))))
theorem ok_law_is_integer (T : Tx K mg) (TB : TbOk K mg base) : FnOk P w K mg base CX0 1 T.a_law_is_integer T.fd_law_is_integer ["actual"] (spP K 1 F_law_is_integer) :=
  ok_P T.F_law_is_integer sc_law_is_integer rfl rfl fun cdv A outer s H E hr =>
  (es_cons (es_ret (ev_and (ev_isi (T := "int") (by decide) (by rfl) T.z_isinstance (ev_name (pv 0)) (pe_bltn (by rfl) T.z_int (by decide +kernel) rfl)) (ev_one (ev_not (ev_isi (T := "bool") (by decide) (by rfl) T.z_isinstance (ev_name (pv 0)) (pe_bltn (by rfl) T.z_bool (by decide +kernel) rfl))))))
  es_nil)
theorem ok_law_pool (T : Tx K mg) (TB : TbOk K mg base) : FnOk P w K mg base CX0 1 T.a_law_pool T.fd_law_pool ["script"] (spN K 1 F_law_pool) :=
  ok_N T.F_law_pool sc_law_pool rfl rfl fun cdv A outer s H E hr =>
  (es_cons (es_set sc_law_pool.nd (i := 1) rfl (by first | exact Or.inl rfl | exact Or.inr rfl) ev_int)
  (es_cons (es_for PassesOwn.never rfl (ei_seq (ev_new (en_sl (ev_name (pv 0)) eo_none (eo_some ev_int)))) (eg_name sc_law_pool.nd (i := 2) rfl (by first | exact Or.inl rfl | exact Or.inr rfl))
  (es_cons (es_set sc_law_pool.nd (i := 1) rfl (by first | exact Or.inl rfl | exact Or.inr rfl) (ev_op op_mod os_mod (ev_fnT call_int1 fs_int (by rfl) T.z_int PyProof.Rows.boot_int (ea_cons (ev_op op_addD os_add (ev_op op_mul os_mul (ev_name (pv 1)) ev_int) (ev_name (pv 2))) ea_nil)) ev_int))
  es_nil))
  (es_cons (es_retL (en_lst (ea_cons (ev_new (en_fnT call_list_of fn_list (by rfl) T.z_list PyProof.Rows.boot_list (ea_cons (ev_name (pv 0)) ea_nil))) (ea_cons ev_int (ea_cons ev_int (ea_cons ev_int (ea_cons (ev_name (pv 1)) ea_nil)))))))
  es_nil)))
theorem ok_law_spread (T : Tx K mg) (TB : TbOk K mg base) : FnOk P w K mg base CX0 1 T.a_law_spread T.fd_law_spread ["cell"] (spP K 1 F_law_spread) :=
  ok_P T.F_law_spread sc_law_spread rfl rfl fun cdv A outer s H E hr =>
  (es_cons (es_set sc_law_spread.nd (i := 1) rfl (by first | exact Or.inl rfl | exact Or.inr rfl) (ev_op op_mod os_mod (ev_fnT call_int1 fs_int (by rfl) T.z_int PyProof.Rows.boot_int (ea_cons (ev_name (pv 0)) ea_nil)) ev_int))
  (es_cons (es_set sc_law_spread.nd (i := 2) rfl (by first | exact Or.inl rfl | exact Or.inr rfl) ev_int)
  (es_cons (es_for PassesOwn.never rfl (ei_rng1 (by rfl) T.z_range (ea_cons ev_int ea_nil)) (eg_name sc_law_spread.nd (i := 3) rfl (by first | exact Or.inl rfl | exact Or.inr rfl))
  (es_cons (es_set sc_law_spread.nd (i := 1) rfl (by first | exact Or.inl rfl | exact Or.inr rfl) (ev_op op_mod os_mod (ev_fnT call_int1 fs_int (by rfl) T.z_int PyProof.Rows.boot_int (ea_cons (ev_op op_addD os_add (ev_op op_addD os_add (ev_op op_mul os_mul (ev_name (pv 1)) ev_int) ev_int) (ev_name (pv 3))) ea_nil)) ev_int))
  (es_cons (es_set sc_law_spread.nd (i := 2) rfl (by first | exact Or.inl rfl | exact Or.inr rfl) (ev_op op_addD os_add (ev_op op_mul os_mul (ev_name (pv 2)) ev_int) (ev_name (pv 1))))
  es_nil)))
  (es_cons (es_ret (ev_name (pv 2)))
  es_nil))))
theorem ok_law_draw (T : Tx K mg) (TB : TbOk K mg base) : FnOk P w K mg base CX0 2 T.a_law_draw T.fd_law_draw ["pool", "many"] (spL K 1 F_law_draw) :=
  ok_L T.F_law_draw sc_law_draw rfl rfl fun cdv A outer s H E hr =>
  (es_cons (es_if (PW.pt (ew_and (et_cmp op_le os_le (ev_ixO (pv 0) ev_int (fun _ _ => rfl)) ev_int (nomark _)) (ew_and1 (et_cmp op_lt os_lt (ev_ixO (pv 0) ev_int (fun _ _ => rfl)) (ev_fn cl_len fs_len (by rfl) T.z_len PySem.boot_len (ea_cons (ev_ixO (pv 0) ev_int (fun _ _ => rfl)) ea_nil)) (nomark _)))))
  (es_cons (es_set sc_law_draw.nd (i := 3) rfl (by first | exact Or.inl rfl | exact Or.inr rfl) (ev_ix ix_seq os_ix (ev_ixO (pv 0) ev_int (fun _ _ => rfl)) (ev_ixO (pv 0) ev_int (fun _ _ => rfl)) (fun _ _ => rfl)))
  (es_cons (es_sto (pv 0) ev_int (ev_op op_addD os_add (ev_ixO (pv 0) ev_int (fun _ _ => rfl)) ev_int))
  (es_cons (es_sto (pv 0) ev_int (ev_name (pv 3)))
  (es_cons (es_if (et_cmp op_lt os_lt (ev_name (pv 3)) ev_int (nomark _))
  (es_cons (es_sto (pv 0) ev_int (ev_call (ok_law_spread T TB) (hr.mono (by decide)) (by rfl) T.g_law_spread T.F_law_spread.kp T.b_law_spread (ea_cons (ev_name (pv 3)) ea_nil) (nlen_cons nlen_nil)))
  es_nil)
  es_nil)
  es_nil))))
  es_nil)
  (es_cons (es_sto (pv 0) ev_int (ev_op op_addD os_add (ev_ixO (pv 0) ev_int (fun _ _ => rfl)) ev_int))
  (es_cons (es_if (et_cmp op_le os_le (ev_ixO (pv 0) ev_int (fun _ _ => rfl)) ev_int (nomark _))
  (es_cons (es_set sc_law_draw.nd (i := 4) rfl (by first | exact Or.inl rfl | exact Or.inr rfl) (ev_op op_mod os_mod (ev_fnT call_int1 fs_int (by rfl) T.z_int PyProof.Rows.boot_int (ea_cons (ev_op op_addD os_add (ev_op op_addD os_add (ev_op op_mul os_mul (ev_ixO (pv 0) ev_int (fun _ _ => rfl)) ev_int) (ev_op op_mul os_mul (ev_ixO (pv 0) ev_int (fun _ _ => rfl)) ev_int)) ev_int) ea_nil)) ev_int))
  (es_cons (es_set sc_law_draw.nd (i := 4) rfl (by first | exact Or.inl rfl | exact Or.inr rfl) (ev_op op_mod os_mod (ev_fnT call_int1 fs_int (by rfl) T.z_int PyProof.Rows.boot_int (ea_cons (ev_op op_addD os_add (ev_op op_mul os_mul (ev_name (pv 4)) ev_int) (ev_ixO (pv 0) ev_int (fun _ _ => rfl))) ea_nil)) ev_int))
  (es_cons (es_ret (ev_op op_mod os_mod (ev_op op_fdivW os_div (ev_name (pv 4)) ev_int) (ev_name (pv 1))))
  es_nil)))
  es_nil)
  (es_cons (es_set sc_law_draw.nd (i := 2) rfl (by first | exact Or.inl rfl | exact Or.inr rfl) (ev_op op_mod os_mod (ev_fnT call_int1 fs_int (by rfl) T.z_int PyProof.Rows.boot_int (ea_cons (ev_ixO (pv 0) ev_int (fun _ _ => rfl)) ea_nil)) (ev_name (pv 1))))
  (es_cons (es_sto (pv 0) ev_int (ev_op op_fdivW os_div (ev_ixO (pv 0) ev_int (fun _ _ => rfl)) (ev_name (pv 1))))
  (es_cons (es_ret (ev_name (pv 2)))
  es_nil))))))
theorem ok_law_pick (T : Tx K mg) (TB : TbOk K mg base) : FnOk P w K mg base CX0 3 T.a_law_pick T.fd_law_pick ["pool", "items"] (spL K 1 F_law_pick) :=
  ok_L T.F_law_pick sc_law_pick rfl rfl fun cdv A outer s H E hr =>
  (es_cons (es_ret (ev_ix ix_seq os_ixS (ev_name (pv 1)) (ev_callL (ok_law_draw T TB) (hr.mono (by decide)) (by rfl) T.g_law_draw T.F_law_draw.kp T.b_law_draw (pv 0) (ea_cons (ev_fn cl_len fs_len (by rfl) T.z_len PySem.boot_len (ea_cons (ev_name (pv 1)) ea_nil)) ea_nil) (nlen_cons nlen_nil)) (fun _ _ => rfl)))
  es_nil)
theorem ok_law_has (T : Tx K mg) (TB : TbOk K mg base) : FnOk P w K mg base CX0 1 T.a_law_has T.fd_law_has ["numbers", "number"] (spP K 2 F_law_has) :=
  ok_P T.F_law_has sc_law_has rfl rfl fun cdv A outer s H E hr =>
  (es_cons (es_ret (ev_cmp op_gt os_gt (ev_fn cl_len fs_len (by rfl) T.z_len PySem.boot_len (ea_cons (ev_new (en_comp rfl sc_law_has.nd (own := [("pair", 2)]) (ei_seq (ev_name (pv 0))) (blkOk_by (N := ["numbers", "number", "pair"]) (sc := defScope s_law_has) (by decide +kernel)) (fun _ _ _ _ _ => (eg_name sc_law_has.nd (i := 2) rfl (by first | exact Or.inl rfl | exact Or.inr rfl))) (fun _ _ _ _ _ => (ptst_one (PW.pt (ew_and (et_cmp op_le os_le (ev_ix ix_seq os_ix (ev_name (pv 2)) ev_int (fun _ _ => rfl)) (ev_name (pv 1)) (nomark _)) (ew_and1 (et_cmp op_le os_le (ev_name (pv 1)) (ev_ix ix_seq os_ix (ev_name (pv 2)) ev_int (fun _ _ => rfl)) (nomark _))))))) (fun _ _ _ _ _ => (ev_name (pv 2))))) ea_nil)) ev_int (nomark _)))
  es_nil)
theorem ok_law_union (T : Tx K mg) (TB : TbOk K mg base) : FnOk P w K mg base CX0 2 T.a_law_union T.fd_law_union ["pairs", "top"] (spP K 2 F_law_union) :=
  ok_P T.F_law_union sc_law_union rfl rfl fun cdv A outer s H E hr =>
  (es_cons (es_set sc_law_union.nd (i := 2) rfl (by first | exact Or.inl rfl | exact Or.inr rfl) (ev_new (en_sortSet rfl (by rfl) T.z_sorted (by rfl) T.z_set (ev_op op_addD os_add (ev_op op_addD os_add (ev_new (en_lst (ea_cons ev_int (ea_cons (ev_op op_addD os_add (ev_name (pv 1)) ev_int) ea_nil)))) (ev_new (en_comp rfl sc_law_union.nd (own := [("pair", 5)]) (ei_seq (ev_name (pv 0))) (blkOk_by (N := ["pairs", "top", "edges", "found", "k", "pair"]) (sc := defScope s_law_union) (by decide +kernel)) (fun _ _ _ _ _ => (eg_name sc_law_union.nd (i := 5) rfl (by first | exact Or.inl rfl | exact Or.inr rfl))) (fun _ _ _ _ _ => ptst_nil) (fun _ _ _ _ _ => (ev_fn (call_min2 rfl) fs_min (by rfl) T.z_min (by decide +kernel) (ea_cons (ev_ix ix_seq os_ix (ev_name (pv 5)) ev_int (fun _ _ => rfl)) (ea_cons (ev_op op_addD os_add (ev_name (pv 1)) ev_int) ea_nil))))))) (ev_new (en_comp rfl sc_law_union.nd (own := [("pair", 5)]) (ei_seq (ev_name (pv 0))) (blkOk_by (N := ["pairs", "top", "edges", "found", "k", "pair"]) (sc := defScope s_law_union) (by decide +kernel)) (fun _ _ _ _ _ => (eg_name sc_law_union.nd (i := 5) rfl (by first | exact Or.inl rfl | exact Or.inr rfl))) (fun _ _ _ _ _ => ptst_nil) (fun _ _ _ _ _ => (ev_fn (call_min2 rfl) fs_min (by rfl) T.z_min (by decide +kernel) (ea_cons (ev_op op_addD os_add (ev_ix ix_seq os_ix (ev_name (pv 5)) ev_int (fun _ _ => rfl)) ev_int) (ea_cons (ev_op op_addD os_add (ev_name (pv 1)) ev_int) ea_nil))))))))))
  (es_cons (es_setL sc_law_union.nd (i := 3) rfl (by first | exact Or.inl rfl | exact Or.inr rfl) (en_lst ea_nil))
  (es_cons (es_for PassesOwn.never rfl (ei_rng1 (by rfl) T.z_range (ea_cons (ev_op op_sub os_sub (ev_fn cl_len fs_len (by rfl) T.z_len PySem.boot_len (ea_cons (ev_name (pv 2)) ea_nil)) ev_int) ea_nil)) (eg_name sc_law_union.nd (i := 4) rfl (by first | exact Or.inl rfl | exact Or.inr rfl))
  (es_cons (es_if (et_tru (ev_call (ok_law_has T TB) (hr.mono (by decide)) (by rfl) T.g_law_has T.F_law_has.kp T.b_law_has (ea_cons (ev_name (pv 0)) (ea_cons (ev_ix ix_seq os_ix (ev_name (pv 2)) (ev_name (pv 4)) (fun _ _ => rfl)) ea_nil)) (nlen_cons (nlen_cons nlen_nil))))
  (es_cons (es_if (PW.pt (ew_and (et_cmp op_gt os_gt (ev_lenO (pv 3) (by rfl) T.z_len) ev_int (nomark _)) (ew_and1 (et_cmp (op_eqD hr.units) os_eq (ev_op op_addD os_add (ev_ix ix_seq os_ix (ev_ixO (pv 3) (ev_un un_neg us_neg ev_int) (fun _ _ => rfl)) ev_int (fun _ _ => rfl)) ev_int) (ev_ix ix_seq os_ix (ev_name (pv 2)) (ev_name (pv 4)) (fun _ _ => rfl)) (nomark _)))))
  (es_cons (es_sto (pv 3) (ev_un un_neg us_neg ev_int) (ev_tup (ea_cons (ev_ix ix_seq os_ix (ev_ixO (pv 3) (ev_un un_neg us_neg ev_int) (fun _ _ => rfl)) ev_int (fun _ _ => rfl)) (ea_cons (ev_op op_sub os_sub (ev_ix ix_seq os_ix (ev_name (pv 2)) (ev_op op_addD os_add (ev_name (pv 4)) ev_int) (fun _ _ => rfl)) ev_int) ea_nil))))
  es_nil)
  (es_cons (es_app (pv 3) (ev_tup (ea_cons (ev_ix ix_seq os_ix (ev_name (pv 2)) (ev_name (pv 4)) (fun _ _ => rfl)) (ea_cons (ev_op op_sub os_sub (ev_ix ix_seq os_ix (ev_name (pv 2)) (ev_op op_addD os_add (ev_name (pv 4)) ev_int) (fun _ _ => rfl)) ev_int) ea_nil))))
  es_nil))
  es_nil)
  es_nil)
  es_nil))
  (es_cons (es_ret (ev_tupO (pv 3) (by rfl) T.z_tuple))
  es_nil))))
theorem ok_law_number (T : Tx K mg) (TB : TbOk K mg base) : FnOk P w K mg base CX0 3 T.a_law_number T.fd_law_number ["pool", "top"] (spL K 1 F_law_number) :=
  ok_L T.F_law_number sc_law_number rfl rfl fun cdv A outer s H E hr =>
  (es_cons (es_set sc_law_number.nd (i := 2) rfl (by first | exact Or.inl rfl | exact Or.inr rfl) (ev_callL (ok_law_draw T TB) (hr.mono (by decide)) (by rfl) T.g_law_draw T.F_law_draw.kp T.b_law_draw (pv 0) (ea_cons ev_int ea_nil) (nlen_cons nlen_nil)))
  (es_cons (es_if (et_cmp (op_eqD hr.units) os_eq (ev_name (pv 2)) ev_int (nomark _))
  (es_cons (es_ret (ev_callL (ok_law_draw T TB) (hr.mono (by decide)) (by rfl) T.g_law_draw T.F_law_draw.kp T.b_law_draw (pv 0) (ea_cons (ev_op op_addD os_add (ev_name (pv 1)) ev_int) ea_nil) (nlen_cons nlen_nil)))
  es_nil)
  es_nil)
  (es_cons (es_if (et_cmp (op_eqD hr.units) os_eq (ev_name (pv 2)) ev_int (nomark _))
  (es_cons (es_ret (ev_fn (call_min2 rfl) fs_min (by rfl) T.z_min (by decide +kernel) (ea_cons (ev_name (pv 1)) (ea_cons (ev_callL (ok_law_draw T TB) (hr.mono (by decide)) (by rfl) T.g_law_draw T.F_law_draw.kp T.b_law_draw (pv 0) (ea_cons ev_int ea_nil) (nlen_cons nlen_nil)) ea_nil))))
  es_nil)
  es_nil)
  (es_cons (es_if (et_cmp (op_eqD hr.units) os_eq (ev_name (pv 2)) ev_int (nomark _))
  (es_cons (es_ret (ev_fn (call_max2 rfl) fs_max (by rfl) T.z_max (by decide +kernel) (ea_cons ev_int (ea_cons (ev_op op_sub os_sub (ev_name (pv 1)) (ev_callL (ok_law_draw T TB) (hr.mono (by decide)) (by rfl) T.g_law_draw T.F_law_draw.kp T.b_law_draw (pv 0) (ea_cons ev_int ea_nil) (nlen_cons nlen_nil))) ea_nil))))
  es_nil)
  es_nil)
  (es_cons (es_ret (ev_fn (call_min2 rfl) fs_min (by rfl) T.z_min (by decide +kernel) (ea_cons (ev_name (pv 1)) (ea_cons (ev_op op_mul os_mul ev_int (ev_callL (ok_law_draw T TB) (hr.mono (by decide)) (by rfl) T.g_law_draw T.F_law_draw.kp T.b_law_draw (pv 0) (ea_cons ev_int ea_nil) (nlen_cons nlen_nil))) ea_nil))))
  es_nil)))))
theorem ok_law_pairs (T : Tx K mg) (TB : TbOk K mg base) : FnOk P w K mg base CX0 4 T.a_law_pairs T.fd_law_pairs ["pool", "top", "many"] (spL K 2 F_law_pairs) :=
  ok_L T.F_law_pairs sc_law_pairs rfl rfl fun cdv A outer s H E hr =>
  (es_cons (es_setL sc_law_pairs.nd (i := 3) rfl (by first | exact Or.inl rfl | exact Or.inr rfl) (en_lst ea_nil))
  (es_cons (es_for PassesOwn.never rfl (ei_rng1 (by rfl) T.z_range (ea_cons (ev_name (pv 2)) ea_nil)) (eg_name sc_law_pairs.nd (i := 4) rfl (by first | exact Or.inl rfl | exact Or.inr rfl))
  (es_cons (es_set sc_law_pairs.nd (i := 5) rfl (by first | exact Or.inl rfl | exact Or.inr rfl) (ev_callL (ok_law_number T TB) (hr.mono (by decide)) (by rfl) T.g_law_number T.F_law_number.kp T.b_law_number (pv 0) (ea_cons (ev_name (pv 1)) ea_nil) (nlen_cons nlen_nil)))
  (es_cons (es_app (pv 3) (ev_tup (ea_cons (ev_name (pv 5)) (ea_cons (ev_fn (call_min2 rfl) fs_min (by rfl) T.z_min (by decide +kernel) (ea_cons (ev_name (pv 1)) (ea_cons (ev_op op_addD os_add (ev_name (pv 5)) (ev_ix ix_seq os_ix (ev_tup (ea_cons ev_int (ea_cons ev_int (ea_cons ev_int (ea_cons ev_int (ea_cons ev_int ea_nil)))))) (ev_callL (ok_law_draw T TB) (hr.mono (by decide)) (by rfl) T.g_law_draw T.F_law_draw.kp T.b_law_draw (pv 0) (ea_cons ev_int ea_nil) (nlen_cons nlen_nil)) (fun _ _ => rfl))) ea_nil))) ea_nil))))
  es_nil)))
  (es_cons (es_retO (pv 3))
  es_nil)))
theorem ok_law_drawn_set (T : Tx K mg) (TB : TbOk K mg base) : FnOk P w K mg base CX0 5 T.a_law_drawn_set T.fd_law_drawn_set ["pool", "top", "many"] (spL K 2 F_law_drawn_set) :=
  ok_L T.F_law_drawn_set sc_law_drawn_set rfl rfl fun cdv A outer s H E hr =>
  (es_cons (es_ret (ev_call (ok_law_union T TB) (hr.mono (by decide)) (by rfl) T.g_law_union T.F_law_union.kp T.b_law_union (ea_cons (ev_callL (ok_law_pairs T TB) (hr.mono (by decide)) (by rfl) T.g_law_pairs T.F_law_pairs.kp T.b_law_pairs (pv 0) (ea_cons (ev_name (pv 1)) (ea_cons (ev_callL (ok_law_draw T TB) (hr.mono (by decide)) (by rfl) T.g_law_draw T.F_law_draw.kp T.b_law_draw (pv 0) (ea_cons (ev_op op_addD os_add (ev_name (pv 2)) ev_int) ea_nil) (nlen_cons nlen_nil)) ea_nil)) (nlen_cons (nlen_cons nlen_nil))) (ea_cons (ev_name (pv 1)) ea_nil)) (nlen_cons (nlen_cons nlen_nil))))
  es_nil)
theorem ok_law_is_set (T : Tx K mg) (TB : TbOk K mg base) : FnOk P w K mg base CX0 2 T.a_law_is_set T.fd_law_is_set ["value"] (spP K 1 F_law_is_set) :=
  ok_P T.F_law_is_set sc_law_is_set rfl rfl fun cdv A outer s H E hr =>
  (es_cons (es_if (et_not (et_tru (ev_isi (T := "tuple") (by decide) (by rfl) T.z_isinstance (ev_name (pv 0)) (pe_bltn (by rfl) T.z_tuple (by decide +kernel) rfl))))
  (es_cons (es_ret ev_bool)
  es_nil)
  es_nil)
  (es_cons (es_set sc_law_is_set.nd (i := 1) rfl (by first | exact Or.inl rfl | exact Or.inr rfl) (ev_un un_neg us_neg ev_int))
  (es_cons (es_for PassesOwn.never rfl (ei_seq (ev_name (pv 0))) (eg_name sc_law_is_set.nd (i := 2) rfl (by first | exact Or.inl rfl | exact Or.inr rfl))
  (es_cons (es_if (PW.pt (ew_or (et_not (et_tru (ev_isi (T := "tuple") (by decide) (by rfl) T.z_isinstance (ev_name (pv 2)) (pe_bltn (by rfl) T.z_tuple (by decide +kernel) rfl)))) (ew_or (et_cmp (op_neD hr.units) os_ne (ev_fn cl_len fs_len (by rfl) T.z_len PySem.boot_len (ea_cons (ev_name (pv 2)) ea_nil)) ev_int (nomark _)) (ew_or (et_not (et_tru (ev_call (ok_law_is_integer T TB) (hr.mono (by decide)) (by rfl) T.g_law_is_integer T.F_law_is_integer.kp T.b_law_is_integer (ea_cons (ev_ix ix_seq os_ix (ev_name (pv 2)) ev_int (fun _ _ => rfl)) ea_nil) (nlen_cons nlen_nil)))) (ew_or1 (et_not (et_tru (ev_call (ok_law_is_integer T TB) (hr.mono (by decide)) (by rfl) T.g_law_is_integer T.F_law_is_integer.kp T.b_law_is_integer (ea_cons (ev_ix ix_seq os_ix (ev_name (pv 2)) ev_int (fun _ _ => rfl)) ea_nil) (nlen_cons nlen_nil)))))))))
  (es_cons (es_ret ev_bool)
  es_nil)
  es_nil)
  (es_cons (es_if (PW.pt (ew_or (et_cmp op_lt os_lt (ev_ix ix_seq os_ix (ev_name (pv 2)) ev_int (fun _ _ => rfl)) ev_int (nomark _)) (ew_or (et_cmp op_gt os_gt (ev_ix ix_seq os_ix (ev_name (pv 2)) ev_int (fun _ _ => rfl)) (ev_ix ix_seq os_ix (ev_name (pv 2)) ev_int (fun _ _ => rfl)) (nomark _)) (ew_or1 (et_cmp op_le os_le (ev_ix ix_seq os_ix (ev_name (pv 2)) ev_int (fun _ _ => rfl)) (ev_op op_addD os_add (ev_name (pv 1)) ev_int) (nomark _))))))
  (es_cons (es_ret ev_bool)
  es_nil)
  es_nil)
  (es_cons (es_set sc_law_is_set.nd (i := 1) rfl (by first | exact Or.inl rfl | exact Or.inr rfl) (ev_ix ix_seq os_ix (ev_name (pv 2)) ev_int (fun _ _ => rfl)))
  es_nil))))
  (es_cons (es_ret ev_bool)
  es_nil))))
theorem ok_law_wrapped (T : Tx K mg) (TB : TbOk K mg base) : FnOk P w K mg base CX0 1 T.a_law_wrapped T.fd_law_wrapped ["due"] (spP K 1 F_law_wrapped) :=
  ok_P T.F_law_wrapped sc_law_wrapped rfl rfl fun cdv A outer s H E hr =>
  (es_cons (es_ret (ev_if (et_tru (ev_isi (T := "str") (by decide) (by rfl) T.z_isinstance (ev_name (pv 0)) (pe_bltn (by rfl) T.z_str (by decide +kernel) rfl))) (ev_name (pv 0)) (ev_tup (ea_cons ev_str (ea_cons (ev_name (pv 0)) ea_nil)))))
  es_nil)
theorem ok_law_decimal (T : Tx K mg) (TB : TbOk K mg base) : FnOk P w K mg base CX0 1 T.a_law_decimal T.fd_law_decimal ["text"] (spP K 1 F_law_decimal) :=
  ok_P T.F_law_decimal sc_law_decimal rfl rfl fun cdv A outer s H E hr =>
  (es_cons (es_if (PW.pt (ew_or (et_cmp op_lt os_lt (ev_fn cl_len fs_len (by rfl) T.z_len PySem.boot_len (ea_cons (ev_name (pv 0)) ea_nil)) ev_int (nomark _)) (ew_or (et_cmp op_gt os_gt (ev_fn cl_len fs_len (by rfl) T.z_len PySem.boot_len (ea_cons (ev_name (pv 0)) ea_nil)) ev_int (nomark _)) (ew_or1 (et_cmp op_gt os_gt (ev_fn cl_len fs_len (by rfl) T.z_len PySem.boot_len (ea_cons (ev_new (en_comp rfl sc_law_decimal.nd (own := [("sign", 1)]) (ei_str (ev_name (pv 0))) (blkOk_by (N := ["text", "sign"]) (sc := defScope s_law_decimal) (by decide +kernel)) (fun _ _ _ _ _ => (eg_name sc_law_decimal.nd (i := 1) rfl (by first | exact Or.inl rfl | exact Or.inr rfl))) (fun _ _ _ _ _ => (ptst_one (et_cmp op_notIn_sign os_notInS (ev_name (pv 1)) ev_str (by rfl)))) (fun _ _ _ _ _ => (ev_name (pv 1))))) ea_nil)) ev_int (nomark _))))))
  (es_cons (es_ret ev_none)
  es_nil)
  es_nil)
  (es_cons (es_ret (ev_if (PW.pt (ew_and (et_cmp op_gt os_gt (ev_fn cl_len fs_len (by rfl) T.z_len PySem.boot_len (ea_cons (ev_name (pv 0)) ea_nil)) ev_int (nomark _)) (ew_and1 (et_cmp op_eq os_eqS (ev_ix ix_seq os_ixS (ev_name (pv 0)) ev_int (fun _ _ => rfl)) ev_str (by rfl))))) ev_none (ev_fnT call_int_str fs_intS (by rfl) T.z_int PyProof.Rows.boot_int (ea_cons (ev_name (pv 0)) ea_nil))))
  es_nil))
theorem ok_law_set_text (T : Tx K mg) (TB : TbOk K mg base) : FnOk P w K mg base CX0 1 T.a_law_set_text T.fd_law_set_text ["numbers"] (spP K 1 F_law_set_text) :=
  ok_P T.F_law_set_text sc_law_set_text rfl rfl fun cdv A outer s H E hr =>
  (es_cons (es_setLcV rfl sc_law_set_text.nd (i := 1) rfl rfl (sw_true rfl rfl rfl (by decide +kernel)) (own := [("pair", 2)]) (ei_seq (ev_name (pv 0))) (blkOk_by (N := ["numbers", "parts", "pair"]) (sc := defScope s_law_set_text) (by decide +kernel)) (fun _ _ _ _ _ => (eg_name sc_law_set_text.nd (i := 2) rfl (by first | exact Or.inl rfl | exact Or.inr rfl))) (fun _ _ _ _ _ => ptst_nil) (fun _ _ _ _ _ => (ev_if (et_cmp (op_eqD hr.units) os_eq (ev_ix ix_seq os_ix (ev_name (pv 2)) ev_int (fun _ _ => rfl)) (ev_ix ix_seq os_ix (ev_name (pv 2)) ev_int (fun _ _ => rfl)) (nomark _)) (ev_fnT call_str_int fs_strI (by rfl) T.z_str PyProof.Rows.boot_str (ea_cons (ev_ix ix_seq os_ix (ev_name (pv 2)) ev_int (fun _ _ => rfl)) ea_nil)) (ev_op op_addD os_add (ev_op op_addD os_add (ev_fnT call_str_int fs_strI (by rfl) T.z_str PyProof.Rows.boot_str (ea_cons (ev_ix ix_seq os_ix (ev_name (pv 2)) ev_int (fun _ _ => rfl)) ea_nil)) ev_str) (ev_fnT call_str_int fs_strI (by rfl) T.z_str PyProof.Rows.boot_str (ea_cons (ev_ix ix_seq os_ix (ev_name (pv 2)) ev_int (fun _ _ => rfl)) ea_nil))))))
  (es_cons (es_ret (ev_if (et_cmp op_gt os_gt (ev_fn cl_len fs_len (by rfl) T.z_len PySem.boot_len (ea_cons (ev_name (pv 1)) ea_nil)) ev_int (nomark _)) (ev_join ev_str (ev_name (pv 1))) ev_str))
  es_nil))
theorem ok_law_set_of_text (T : Tx K mg) (TB : TbOk K mg base) : FnOk P w K mg base CX0 3 T.a_law_set_of_text T.fd_law_set_of_text ["text"] (spP K 1 F_law_set_of_text) :=
  ok_P T.F_law_set_of_text sc_law_set_of_text rfl rfl fun cdv A outer s H E hr =>
  (es_cons (es_if (et_cmp op_eq os_eqS (ev_name (pv 0)) ev_str (by rfl))
  (es_cons (es_ret (ev_tup ea_nil))
  es_nil)
  es_nil)
  (es_cons (es_setL sc_law_set_of_text.nd (i := 1) rfl (by first | exact Or.inl rfl | exact Or.inr rfl) (en_lst ea_nil))
  (es_cons (es_for PassesOwn.never rfl (ei_seq (ev_split (ev_name (pv 0)) ev_str)) (eg_name sc_law_set_of_text.nd (i := 2) rfl (by first | exact Or.inl rfl | exact Or.inr rfl))
  (es_cons (es_setLcV rfl sc_law_set_of_text.nd (i := 3) rfl rfl (sw_true rfl rfl rfl (by decide +kernel)) (own := [("end", 4)]) (ei_seq (ev_split (ev_name (pv 2)) ev_str)) (blkOk_by (N := ["text", "found", "part", "ends", "end"]) (sc := defScope s_law_set_of_text) (by decide +kernel)) (fun _ _ _ _ _ => (eg_name sc_law_set_of_text.nd (i := 4) rfl (by first | exact Or.inl rfl | exact Or.inr rfl))) (fun _ _ _ _ _ => ptst_nil) (fun _ _ _ _ _ => (ev_call (ok_law_decimal T TB) (hr.mono (by decide)) (by rfl) T.g_law_decimal T.F_law_decimal.kp T.b_law_decimal (ea_cons (ev_name (pv 4)) ea_nil) (nlen_cons nlen_nil))))
  (es_cons (es_if (PW.pt (ew_or (et_cmp (op_mem (u65 hr)) os_mem ev_none (ev_name (pv 3)) (by rfl)) (ew_or1 (et_cmp op_gt os_gt (ev_fn cl_len fs_len (by rfl) T.z_len PySem.boot_len (ea_cons (ev_name (pv 3)) ea_nil)) ev_int (nomark _)))))
  (es_cons (es_ret ev_none)
  es_nil)
  es_nil)
  (es_cons (es_app (pv 1) (ev_tup (ea_cons (ev_ix ix_seq os_ix (ev_name (pv 3)) ev_int (fun _ _ => rfl)) (ea_cons (ev_ix ix_seq os_ix (ev_name (pv 3)) (ev_op op_sub os_sub (ev_fn cl_len fs_len (by rfl) T.z_len PySem.boot_len (ea_cons (ev_name (pv 3)) ea_nil)) ev_int) (fun _ _ => rfl)) ea_nil))))
  (es_cons (es_if (PW.pt (ew_and (et_cmp (op_eqD hr.units) os_eq (ev_fn cl_len fs_len (by rfl) T.z_len PySem.boot_len (ea_cons (ev_name (pv 3)) ea_nil)) ev_int (nomark _)) (ew_and1 (et_cmp (op_eqD hr.units) os_eq (ev_ix ix_seq os_ix (ev_name (pv 3)) ev_int (fun _ _ => rfl)) (ev_ix ix_seq os_ix (ev_name (pv 3)) ev_int (fun _ _ => rfl)) (nomark _)))))
  (es_cons (es_ret ev_none)
  es_nil)
  es_nil)
  es_nil)))))
  (es_cons (es_ret (ev_if (et_tru (ev_call (ok_law_is_set T TB) (hr.mono (by decide)) (by rfl) T.g_law_is_set T.F_law_is_set.kp T.b_law_is_set (ea_cons (ev_tupO (pv 1) (by rfl) T.z_tuple) ea_nil) (nlen_cons nlen_nil))) (ev_tupO (pv 1) (by rfl) T.z_tuple) ev_none))
  es_nil))))
theorem ok_law_spoilt (T : Tx K mg) (TB : TbOk K mg base) : FnOk P w K mg base CX0 4 T.a_law_spoilt T.fd_law_spoilt ["pool", "text", "signs"] (spL K 2 F_law_spoilt) :=
  ok_L T.F_law_spoilt sc_law_spoilt rfl rfl fun cdv A outer s H E hr =>
  (es_cons (es_set sc_law_spoilt.nd (i := 3) rfl (by first | exact Or.inl rfl | exact Or.inr rfl) (ev_callL (ok_law_draw T TB) (hr.mono (by decide)) (by rfl) T.g_law_draw T.F_law_draw.kp T.b_law_draw (pv 0) (ea_cons (ev_op op_addD os_add (ev_fn cl_len fs_len (by rfl) T.z_len PySem.boot_len (ea_cons (ev_name (pv 1)) ea_nil)) ev_int) ea_nil) (nlen_cons nlen_nil)))
  (es_cons (es_set sc_law_spoilt.nd (i := 4) rfl (by first | exact Or.inl rfl | exact Or.inr rfl) (ev_callL (ok_law_draw T TB) (hr.mono (by decide)) (by rfl) T.g_law_draw T.F_law_draw.kp T.b_law_draw (pv 0) (ea_cons ev_int ea_nil) (nlen_cons nlen_nil)))
  (es_cons (es_if (et_cmp (op_eqD hr.units) os_eq (ev_name (pv 4)) ev_int (nomark _))
  (es_cons (es_ret (ev_op op_addD os_add (ev_slX (ev_name (pv 1)) eo_none (eo_some (ev_name (pv 3)))) (ev_slX (ev_name (pv 1)) (eo_some (ev_op op_addD os_add (ev_name (pv 3)) ev_int)) eo_none)))
  es_nil)
  es_nil)
  (es_cons (es_if (et_cmp (op_eqD hr.units) os_eq (ev_name (pv 4)) ev_int (nomark _))
  (es_cons (es_ret (ev_op op_addD os_add (ev_op op_addD os_add (ev_slX (ev_name (pv 1)) eo_none (eo_some (ev_name (pv 3)))) (ev_callL (ok_law_pick T TB) (hr.mono (by decide)) (by rfl) T.g_law_pick T.F_law_pick.kp T.b_law_pick (pv 0) (ea_cons (ev_name (pv 2)) ea_nil) (nlen_cons nlen_nil))) (ev_slX (ev_name (pv 1)) (eo_some (ev_op op_addD os_add (ev_name (pv 3)) ev_int)) eo_none)))
  es_nil)
  es_nil)
  (es_cons (es_if (et_cmp (op_eqD hr.units) os_eq (ev_name (pv 4)) ev_int (nomark _))
  (es_cons (es_ret (ev_op op_addD os_add (ev_op op_addD os_add (ev_slX (ev_name (pv 1)) eo_none (eo_some (ev_name (pv 3)))) (ev_callL (ok_law_pick T TB) (hr.mono (by decide)) (by rfl) T.g_law_pick T.F_law_pick.kp T.b_law_pick (pv 0) (ea_cons (ev_name (pv 2)) ea_nil) (nlen_cons nlen_nil))) (ev_slX (ev_name (pv 1)) (eo_some (ev_name (pv 3))) eo_none)))
  es_nil)
  es_nil)
  (es_cons (es_ret (ev_op op_addD os_add (ev_name (pv 1)) (ev_callL (ok_law_pick T TB) (hr.mono (by decide)) (by rfl) T.g_law_pick T.F_law_pick.kp T.b_law_pick (pv 0) (ea_cons (ev_name (pv 2)) ea_nil) (nlen_cons nlen_nil))))
  es_nil))))))
theorem ok_law_set_read (T : Tx K mg) (TB : TbOk K mg base) : FnOk P w K mg base CX0 4 T.a_law_set_read T.fd_law_set_read ["text"] (spP K 1 F_law_set_read) :=
  ok_P T.F_law_set_read sc_law_set_read rfl rfl fun cdv A outer s H E hr =>
  (es_cons (es_tryE2 (Cs := [T.C_BadText]) rfl rfl sc_law_set_read.nd (i := 1) (j := 2) rfl rfl (fun W pn xe tk => (ese_cons (ese_rettag (pe_xcall (ok_read_set T TB) defE_len (hr.mono (by decide)) (by rfl) T.g_read_set T.F_read_set.kp T.b_read_set tk (ea_cons (ev_name (pv 0)) ea_nil)))
  ese_nil)) (ClOk.cons (z := (.ref T.C_BadText, tAns2 1 2 T.C_BadText (Str.ofString "refused"))) ⟨by rfl, by decide, .inl T.gC_BadText⟩ (fun a oe cls d pn hz hf => ⟨fun pins s σ H D I h => by obtain ⟨h1, h2, h3, h4, h5⟩ := h; subst h1 h2; exact (suite_two sc_law_set_read.nd (j := 2) rfl (by first | exact Or.inl rfl | exact Or.inr rfl) (kn_and (pe_isK (i := 1) (k := true) (cV := .ref T.C_GateError) (cv := .ref T.C_GateError) T.X_BadText hz hf (by rfl) T.z_isinstance (pv 1) (pe_glob (v := .ref T.C_GateError) (by rfl) T.gC_GateError rfl) (fun _ r => r) T.kit_BadText_GateError) (kn_and (pe_isK (i := 1) (k := true) (cV := .ty "ValueError") (cv := .type "ValueError") T.X_BadText hz hf (by rfl) T.z_isinstance (pv 1) (pe_bltn (v := .ty "ValueError") (u := .type "ValueError") (by rfl) T.z_ValueError (by decide +kernel) rfl) (fun _ r => r) T.kit_BadText_ValueError) (kn_one (kn_not (pe_isK (i := 1) (k := false) (cV := .ref T.C_NoPlace) (cv := .ref T.C_NoPlace) T.X_BadText hz hf (by rfl) T.z_isinstance (pv 1) (pe_glob (v := .ref T.C_NoPlace) (by rfl) T.gC_NoPlace rfl) (fun _ r => r) T.kit_BadText_NoPlace))))) (pv 2)).run pins s σ H D I ⟨h3, h4, h5⟩⟩) .nil) (fun
    | 0, s, hs, D, σ, H, hlt, hlj, hq => by cases hs; exact ⟨true, T.exm_BadText_BadText, fun a na => ⟨rfl, rfl, List.getElem?_set_self hlt, by simpa using hlj, hq⟩⟩
    | n + 1, s, hs, D, σ, H, hlt, hlj, hq => by cases hs))
  es_nil)
theorem ok_law (T : Tx K mg) (TB : TbOk K mg base) : FnOk P w K mg base CX0 42 T.a_law T.fd_law ["script"] (spP K 1 F_law) :=
  ok_P T.F_law sc_law rfl rfl fun cdv A outer s H E hr =>
  (es_cons (es_setL sc_law.nd (i := 1) rfl (by first | exact Or.inl rfl | exact Or.inr rfl) (en_call (ok_law_pool T TB) (hr.mono (by decide)) (by rfl) T.g_law_pool T.F_law_pool.kp T.b_law_pool (ea_cons (ev_name (pv 0)) ea_nil) (nlen_cons nlen_nil)))
  (es_cons (es_set sc_law.nd (i := 2) rfl (by first | exact Or.inl rfl | exact Or.inr rfl) (ev_callL (ok_law_drawn_set T TB) (hr.mono (by decide)) (by rfl) T.g_law_drawn_set T.F_law_drawn_set.kp T.b_law_drawn_set (pv 1) (ea_cons ev_int (ea_cons (ev_ix ix_seq os_ix (ev_tup (ea_cons ev_int (ea_cons ev_int ea_nil))) (ev_callL (ok_law_draw T TB) (hr.mono (by decide)) (by rfl) T.g_law_draw T.F_law_draw.kp T.b_law_draw (pv 1) (ea_cons ev_int ea_nil) (nlen_cons nlen_nil)) (fun _ _ => rfl)) ea_nil)) (nlen_cons (nlen_cons nlen_nil))))
  (es_cons (es_set sc_law.nd (i := 3) rfl (by first | exact Or.inl rfl | exact Or.inr rfl) (ev_call (ok_law_set_text T TB) (hr.mono (by decide)) (by rfl) T.g_law_set_text T.F_law_set_text.kp T.b_law_set_text (ea_cons (ev_name (pv 2)) ea_nil) (nlen_cons nlen_nil)))
  (es_cons (es_if (et_not (et_tru (ev_call (ok_law_same T TB 40) (hr.mono (by decide)) (by rfl) T.g_law_same T.F_law_same.kp T.b_law_same (ea_cons (ev_call (ok_write_set T TB) (hr.mono (by decide)) (by rfl) T.g_write_set T.F_write_set.kp T.b_write_set (ea_cons (ev_name (pv 2)) ea_nil) (nlen_cons nlen_nil)) (ea_cons (ev_name (pv 3)) ea_nil)) (nlen_cons (nlen_cons nlen_nil)))))
  (es_cons (es_ret ev_bool)
  es_nil)
  es_nil)
  (es_cons (es_set sc_law.nd (i := 4) rfl (by first | exact Or.inl rfl | exact Or.inr rfl) (ev_new (en_lst (ea_cons (ev_name (pv 3)) (ea_cons ev_str (ea_cons ev_str (ea_cons ev_str (ea_cons ev_str (ea_cons ev_str (ea_cons ev_str (ea_cons ev_str (ea_cons ev_str (ea_cons ev_str (ea_cons ev_str (ea_cons ev_str (ea_cons ev_str (ea_cons ev_str (ea_cons ev_str (ea_cons ev_str (ea_cons ev_str (ea_cons ev_str ea_nil)))))))))))))))))))))
  (es_cons (es_set sc_law.nd (i := 4) rfl (by first | exact Or.inl rfl | exact Or.inr rfl) (ev_op op_addD os_add (ev_name (pv 4)) (ev_new (en_lst (ea_cons ev_str (ea_cons ev_str (ea_cons (ev_op op_addD os_add (ev_name (pv 3)) ev_str) (ea_cons (ev_op op_addD os_add ev_str (ev_name (pv 3))) (ea_cons (ev_op op_addD os_add (ev_name (pv 3)) ev_str) ea_nil)))))))))
  (es_cons (es_set sc_law.nd (i := 4) rfl (by first | exact Or.inl rfl | exact Or.inr rfl) (ev_op op_addD os_add (ev_name (pv 4)) (ev_new (en_comp rfl sc_law.nd (own := [("k", 6)]) (ei_rng1 (by rfl) T.z_range (ea_cons ev_int ea_nil)) (blkOk_by (N := ["script", "pool", "numbers", "text", "tried", "due", "k"]) (sc := defScope s_law) (by decide +kernel)) (fun _ _ _ _ _ => (eg_name sc_law.nd (i := 6) rfl (by first | exact Or.inl rfl | exact Or.inr rfl))) (fun _ _ _ _ _ => ptst_nil) (fun _ _ _ _ _ => (ev_callL (ok_law_spoilt T TB) (hr.mono (by decide)) (by rfl) T.g_law_spoilt T.F_law_spoilt.kp T.b_law_spoilt (pv 1) (ea_cons (ev_name (pv 3)) (ea_cons ev_str ea_nil)) (nlen_cons (nlen_cons nlen_nil))))))))
  (es_cons (es_for PassesOwn.never rfl (ei_seq (ev_name (pv 4))) (eg_name sc_law.nd (i := 3) rfl (by first | exact Or.inl rfl | exact Or.inr rfl))
  (es_cons (es_set sc_law.nd (i := 5) rfl (by first | exact Or.inl rfl | exact Or.inr rfl) (ev_call (ok_law_set_of_text T TB) (hr.mono (by decide)) (by rfl) T.g_law_set_of_text T.F_law_set_of_text.kp T.b_law_set_of_text (ea_cons (ev_name (pv 3)) ea_nil) (nlen_cons nlen_nil)))
  (es_cons (es_if (et_not (et_tru (ev_call (ok_law_same T TB 40) (hr.mono (by decide)) (by rfl) T.g_law_same T.F_law_same.kp T.b_law_same (ea_cons (ev_call (ok_law_set_read T TB) (hr.mono (by decide)) (by rfl) T.g_law_set_read T.F_law_set_read.kp T.b_law_set_read (ea_cons (ev_name (pv 3)) ea_nil) (nlen_cons nlen_nil)) (ea_cons (ev_call (ok_law_wrapped T TB) (hr.mono (by decide)) (by rfl) T.g_law_wrapped T.F_law_wrapped.kp T.b_law_wrapped (ea_cons (ev_if (et_isN (ev_name (pv 5))) ev_str (ev_name (pv 5))) ea_nil) (nlen_cons nlen_nil)) ea_nil)) (nlen_cons (nlen_cons nlen_nil)))))
  (es_cons (es_ret ev_bool)
  es_nil)
  es_nil)
  es_nil)))
  (es_cons (es_ret ev_bool)
  es_nil)))))))))
end

theorem all_mk {l : PySem.W.OpenLaw} {w : World} {K : PySem.W.Frag} {h : Heap} {mg : Str → Option Value} {fa : Addr} (X : K.In h) (G : h.Ns mainGlobals mg) (hfa : mg "law" = some (.ref fa))
    {f_is_numeral : Addr} {od_is_numeral an_is_numeral : Option Addr} {sl_is_numeral : Array (Option Value)} {oc_is_numeral kV_is_numeral dc_is_numeral pm_is_numeral ct_is_numeral : Value}{cc_is_numeral pp_is_numeral : Addr}{xe_is_numeral : Value} {xd_is_numeral : Option Addr} {xv_is_numeral : Array Value} {xs_is_numeral : Array (Option Value)}
    {f_is_tuple : Addr} {od_is_tuple an_is_tuple : Option Addr} {sl_is_tuple : Array (Option Value)} {oc_is_tuple kV_is_tuple dc_is_tuple pm_is_tuple cd_is_tuple ct_is_tuple : Value}
    {f_is_set : Addr} {od_is_set an_is_set : Option Addr} {sl_is_set : Array (Option Value)} {oc_is_set kV_is_set dc_is_set pm_is_set cd_is_set ct_is_set : Value}
    {f_write_pair : Addr} {od_write_pair an_write_pair : Option Addr} {sl_write_pair : Array (Option Value)} {oc_write_pair kV_write_pair dc_write_pair pm_write_pair cd_write_pair ct_write_pair : Value}
    {f_write_set : Addr} {od_write_set an_write_set : Option Addr} {sl_write_set : Array (Option Value)} {oc_write_set kV_write_set dc_write_set pm_write_set cd_write_set ct_write_set : Value}
    {f_read_set : Addr} {od_read_set an_read_set : Option Addr} {sl_read_set : Array (Option Value)} {oc_read_set kV_read_set dc_read_set pm_read_set cd_read_set ct_read_set : Value}
    {f_law_same : Addr} {od_law_same an_law_same : Option Addr} {sl_law_same : Array (Option Value)} {oc_law_same kV_law_same dc_law_same pm_law_same cd_law_same ct_law_same : Value}
    {f_law_is_integer : Addr} {od_law_is_integer an_law_is_integer : Option Addr} {sl_law_is_integer : Array (Option Value)} {oc_law_is_integer kV_law_is_integer dc_law_is_integer pm_law_is_integer cd_law_is_integer ct_law_is_integer : Value}
    {f_law_pool : Addr} {od_law_pool an_law_pool : Option Addr} {sl_law_pool : Array (Option Value)} {oc_law_pool kV_law_pool dc_law_pool pm_law_pool cd_law_pool ct_law_pool : Value}
    {f_law_spread : Addr} {od_law_spread an_law_spread : Option Addr} {sl_law_spread : Array (Option Value)} {oc_law_spread kV_law_spread dc_law_spread pm_law_spread cd_law_spread ct_law_spread : Value}
    {f_law_draw : Addr} {od_law_draw an_law_draw : Option Addr} {sl_law_draw : Array (Option Value)} {oc_law_draw kV_law_draw dc_law_draw pm_law_draw cd_law_draw ct_law_draw : Value}
    {f_law_pick : Addr} {od_law_pick an_law_pick : Option Addr} {sl_law_pick : Array (Option Value)} {oc_law_pick kV_law_pick dc_law_pick pm_law_pick cd_law_pick ct_law_pick : Value}
    {f_law_has : Addr} {od_law_has an_law_has : Option Addr} {sl_law_has : Array (Option Value)} {oc_law_has kV_law_has dc_law_has pm_law_has cd_law_has ct_law_has : Value}
    {f_law_union : Addr} {od_law_union an_law_union : Option Addr} {sl_law_union : Array (Option Value)} {oc_law_union kV_law_union dc_law_union pm_law_union cd_law_union ct_law_union : Value}
    {f_law_number : Addr} {od_law_number an_law_number : Option Addr} {sl_law_number : Array (Option Value)} {oc_law_number kV_law_number dc_law_number pm_law_number cd_law_number ct_law_number : Value}
    {f_law_pairs : Addr} {od_law_pairs an_law_pairs : Option Addr} {sl_law_pairs : Array (Option Value)} {oc_law_pairs kV_law_pairs dc_law_pairs pm_law_pairs cd_law_pairs ct_law_pairs : Value}
    {f_law_drawn_set : Addr} {od_law_drawn_set an_law_drawn_set : Option Addr} {sl_law_drawn_set : Array (Option Value)} {oc_law_drawn_set kV_law_drawn_set dc_law_drawn_set pm_law_drawn_set cd_law_drawn_set ct_law_drawn_set : Value}
    {f_law_is_set : Addr} {od_law_is_set an_law_is_set : Option Addr} {sl_law_is_set : Array (Option Value)} {oc_law_is_set kV_law_is_set dc_law_is_set pm_law_is_set cd_law_is_set ct_law_is_set : Value}
    {f_law_wrapped : Addr} {od_law_wrapped an_law_wrapped : Option Addr} {sl_law_wrapped : Array (Option Value)} {oc_law_wrapped kV_law_wrapped dc_law_wrapped pm_law_wrapped cd_law_wrapped ct_law_wrapped : Value}
    {f_law_decimal : Addr} {od_law_decimal an_law_decimal : Option Addr} {sl_law_decimal : Array (Option Value)} {oc_law_decimal kV_law_decimal dc_law_decimal pm_law_decimal cd_law_decimal ct_law_decimal : Value}
    {f_law_set_text : Addr} {od_law_set_text an_law_set_text : Option Addr} {sl_law_set_text : Array (Option Value)} {oc_law_set_text kV_law_set_text dc_law_set_text pm_law_set_text cd_law_set_text ct_law_set_text : Value}
    {f_law_set_of_text : Addr} {od_law_set_of_text an_law_set_of_text : Option Addr} {sl_law_set_of_text : Array (Option Value)} {oc_law_set_of_text kV_law_set_of_text dc_law_set_of_text pm_law_set_of_text cd_law_set_of_text ct_law_set_of_text : Value}
    {f_law_spoilt : Addr} {od_law_spoilt an_law_spoilt : Option Addr} {sl_law_spoilt : Array (Option Value)} {oc_law_spoilt kV_law_spoilt dc_law_spoilt pm_law_spoilt cd_law_spoilt ct_law_spoilt : Value}
    {f_law_set_read : Addr} {od_law_set_read an_law_set_read : Option Addr} {sl_law_set_read : Array (Option Value)} {oc_law_set_read kV_law_set_read dc_law_set_read pm_law_set_read cd_law_set_read ct_law_set_read : Value}
    {f_law : Addr} {od_law an_law : Option Addr} {sl_law : Array (Option Value)} {oc_law kV_law dc_law pm_law cd_law ct_law : Value}
    {C_BadText : Addr}
    {C_GateError : Addr}
    {C_NoPlace : Addr}
    (a_is_numeral : PySem.W.nsIn K mainGlobals "is_numeral" = some (some (.ref f_is_numeral))) (l_is_numeral : K.lookup f_is_numeral = some ⟨oc_is_numeral, od_is_numeral, .func (PySem.W.fnOf "is_numeral" "is_numeral" (defArgs s_is_numeral) (defBody s_is_numeral) (defScope s_is_numeral) .none kV_is_numeral dc_is_numeral pm_is_numeral an_is_numeral (.ref cc_is_numeral) ct_is_numeral), sl_is_numeral⟩) (c_is_numeral : PySem.W.codeIn K (.ref cc_is_numeral) "is_numeral" = true) (k_is_numeral : PySem.W.keepIn K (.ref f_is_numeral) = true) (x_is_numeral : K.lookup cc_is_numeral = some ⟨xe_is_numeral, xd_is_numeral, .fields xv_is_numeral, xs_is_numeral⟩) (p_is_numeral : xv_is_numeral[11]? = some (.ref pp_is_numeral))
    (a_is_tuple : PySem.W.nsIn K mainGlobals "is_tuple" = some (some (.ref f_is_tuple))) (l_is_tuple : K.lookup f_is_tuple = some ⟨oc_is_tuple, od_is_tuple, .func (PySem.W.fnOf "is_tuple" "is_tuple" (defArgs s_is_tuple) (defBody s_is_tuple) (defScope s_is_tuple) .none kV_is_tuple dc_is_tuple pm_is_tuple an_is_tuple cd_is_tuple ct_is_tuple), sl_is_tuple⟩) (c_is_tuple : PySem.W.codeIn K cd_is_tuple "is_tuple" = true) (k_is_tuple : PySem.W.keepIn K (.ref f_is_tuple) = true)
    (a_is_set : PySem.W.nsIn K mainGlobals "is_set" = some (some (.ref f_is_set))) (l_is_set : K.lookup f_is_set = some ⟨oc_is_set, od_is_set, .func (PySem.W.fnOf "is_set" "is_set" (defArgs s_is_set) (defBody s_is_set) (defScope s_is_set) .none kV_is_set dc_is_set pm_is_set an_is_set cd_is_set ct_is_set), sl_is_set⟩) (c_is_set : PySem.W.codeIn K cd_is_set "is_set" = true) (k_is_set : PySem.W.keepIn K (.ref f_is_set) = true)
    (a_write_pair : PySem.W.nsIn K mainGlobals "_write_pair" = some (some (.ref f_write_pair))) (l_write_pair : K.lookup f_write_pair = some ⟨oc_write_pair, od_write_pair, .func (PySem.W.fnOf "_write_pair" "_write_pair" (defArgs s_write_pair) (defBody s_write_pair) (defScope s_write_pair) .none kV_write_pair dc_write_pair pm_write_pair an_write_pair cd_write_pair ct_write_pair), sl_write_pair⟩) (c_write_pair : PySem.W.codeIn K cd_write_pair "_write_pair" = true) (k_write_pair : PySem.W.keepIn K (.ref f_write_pair) = true)
    (a_write_set : PySem.W.nsIn K mainGlobals "write_set" = some (some (.ref f_write_set))) (l_write_set : K.lookup f_write_set = some ⟨oc_write_set, od_write_set, .func (PySem.W.fnOf "write_set" "write_set" (defArgs s_write_set) (defBody s_write_set) (defScope s_write_set) .none kV_write_set dc_write_set pm_write_set an_write_set cd_write_set ct_write_set), sl_write_set⟩) (c_write_set : PySem.W.codeIn K cd_write_set "write_set" = true) (k_write_set : PySem.W.keepIn K (.ref f_write_set) = true)
    (a_read_set : PySem.W.nsIn K mainGlobals "read_set" = some (some (.ref f_read_set))) (l_read_set : K.lookup f_read_set = some ⟨oc_read_set, od_read_set, .func (PySem.W.fnOf "read_set" "read_set" (defArgs s_read_set) (defBody s_read_set) (defScope s_read_set) .none kV_read_set dc_read_set pm_read_set an_read_set cd_read_set ct_read_set), sl_read_set⟩) (c_read_set : PySem.W.codeIn K cd_read_set "read_set" = true) (k_read_set : PySem.W.keepIn K (.ref f_read_set) = true)
    (a_law_same : PySem.W.nsIn K mainGlobals "_law_same" = some (some (.ref f_law_same))) (l_law_same : K.lookup f_law_same = some ⟨oc_law_same, od_law_same, .func (PySem.W.fnOf "_law_same" "_law_same" (defArgs s_law_same) (defBody s_law_same) (defScope s_law_same) .none kV_law_same dc_law_same pm_law_same an_law_same cd_law_same ct_law_same), sl_law_same⟩) (c_law_same : PySem.W.codeIn K cd_law_same "_law_same" = true) (k_law_same : PySem.W.keepIn K (.ref f_law_same) = true)
    (a_law_is_integer : PySem.W.nsIn K mainGlobals "_law_is_integer" = some (some (.ref f_law_is_integer))) (l_law_is_integer : K.lookup f_law_is_integer = some ⟨oc_law_is_integer, od_law_is_integer, .func (PySem.W.fnOf "_law_is_integer" "_law_is_integer" (defArgs s_law_is_integer) (defBody s_law_is_integer) (defScope s_law_is_integer) .none kV_law_is_integer dc_law_is_integer pm_law_is_integer an_law_is_integer cd_law_is_integer ct_law_is_integer), sl_law_is_integer⟩) (c_law_is_integer : PySem.W.codeIn K cd_law_is_integer "_law_is_integer" = true) (k_law_is_integer : PySem.W.keepIn K (.ref f_law_is_integer) = true)
    (a_law_pool : PySem.W.nsIn K mainGlobals "_law_pool" = some (some (.ref f_law_pool))) (l_law_pool : K.lookup f_law_pool = some ⟨oc_law_pool, od_law_pool, .func (PySem.W.fnOf "_law_pool" "_law_pool" (defArgs s_law_pool) (defBody s_law_pool) (defScope s_law_pool) .none kV_law_pool dc_law_pool pm_law_pool an_law_pool cd_law_pool ct_law_pool), sl_law_pool⟩) (c_law_pool : PySem.W.codeIn K cd_law_pool "_law_pool" = true) (k_law_pool : PySem.W.keepIn K (.ref f_law_pool) = true)
    (a_law_spread : PySem.W.nsIn K mainGlobals "_law_spread" = some (some (.ref f_law_spread))) (l_law_spread : K.lookup f_law_spread = some ⟨oc_law_spread, od_law_spread, .func (PySem.W.fnOf "_law_spread" "_law_spread" (defArgs s_law_spread) (defBody s_law_spread) (defScope s_law_spread) .none kV_law_spread dc_law_spread pm_law_spread an_law_spread cd_law_spread ct_law_spread), sl_law_spread⟩) (c_law_spread : PySem.W.codeIn K cd_law_spread "_law_spread" = true) (k_law_spread : PySem.W.keepIn K (.ref f_law_spread) = true)
    (a_law_draw : PySem.W.nsIn K mainGlobals "_law_draw" = some (some (.ref f_law_draw))) (l_law_draw : K.lookup f_law_draw = some ⟨oc_law_draw, od_law_draw, .func (PySem.W.fnOf "_law_draw" "_law_draw" (defArgs s_law_draw) (defBody s_law_draw) (defScope s_law_draw) .none kV_law_draw dc_law_draw pm_law_draw an_law_draw cd_law_draw ct_law_draw), sl_law_draw⟩) (c_law_draw : PySem.W.codeIn K cd_law_draw "_law_draw" = true) (k_law_draw : PySem.W.keepIn K (.ref f_law_draw) = true)
    (a_law_pick : PySem.W.nsIn K mainGlobals "_law_pick" = some (some (.ref f_law_pick))) (l_law_pick : K.lookup f_law_pick = some ⟨oc_law_pick, od_law_pick, .func (PySem.W.fnOf "_law_pick" "_law_pick" (defArgs s_law_pick) (defBody s_law_pick) (defScope s_law_pick) .none kV_law_pick dc_law_pick pm_law_pick an_law_pick cd_law_pick ct_law_pick), sl_law_pick⟩) (c_law_pick : PySem.W.codeIn K cd_law_pick "_law_pick" = true) (k_law_pick : PySem.W.keepIn K (.ref f_law_pick) = true)
    (a_law_has : PySem.W.nsIn K mainGlobals "_law_has" = some (some (.ref f_law_has))) (l_law_has : K.lookup f_law_has = some ⟨oc_law_has, od_law_has, .func (PySem.W.fnOf "_law_has" "_law_has" (defArgs s_law_has) (defBody s_law_has) (defScope s_law_has) .none kV_law_has dc_law_has pm_law_has an_law_has cd_law_has ct_law_has), sl_law_has⟩) (c_law_has : PySem.W.codeIn K cd_law_has "_law_has" = true) (k_law_has : PySem.W.keepIn K (.ref f_law_has) = true)
    (a_law_union : PySem.W.nsIn K mainGlobals "_law_union" = some (some (.ref f_law_union))) (l_law_union : K.lookup f_law_union = some ⟨oc_law_union, od_law_union, .func (PySem.W.fnOf "_law_union" "_law_union" (defArgs s_law_union) (defBody s_law_union) (defScope s_law_union) .none kV_law_union dc_law_union pm_law_union an_law_union cd_law_union ct_law_union), sl_law_union⟩) (c_law_union : PySem.W.codeIn K cd_law_union "_law_union" = true) (k_law_union : PySem.W.keepIn K (.ref f_law_union) = true)
    (a_law_number : PySem.W.nsIn K mainGlobals "_law_number" = some (some (.ref f_law_number))) (l_law_number : K.lookup f_law_number = some ⟨oc_law_number, od_law_number, .func (PySem.W.fnOf "_law_number" "_law_number" (defArgs s_law_number) (defBody s_law_number) (defScope s_law_number) .none kV_law_number dc_law_number pm_law_number an_law_number cd_law_number ct_law_number), sl_law_number⟩) (c_law_number : PySem.W.codeIn K cd_law_number "_law_number" = true) (k_law_number : PySem.W.keepIn K (.ref f_law_number) = true)
    (a_law_pairs : PySem.W.nsIn K mainGlobals "_law_pairs" = some (some (.ref f_law_pairs))) (l_law_pairs : K.lookup f_law_pairs = some ⟨oc_law_pairs, od_law_pairs, .func (PySem.W.fnOf "_law_pairs" "_law_pairs" (defArgs s_law_pairs) (defBody s_law_pairs) (defScope s_law_pairs) .none kV_law_pairs dc_law_pairs pm_law_pairs an_law_pairs cd_law_pairs ct_law_pairs), sl_law_pairs⟩) (c_law_pairs : PySem.W.codeIn K cd_law_pairs "_law_pairs" = true) (k_law_pairs : PySem.W.keepIn K (.ref f_law_pairs) = true)
    (a_law_drawn_set : PySem.W.nsIn K mainGlobals "_law_drawn_set" = some (some (.ref f_law_drawn_set))) (l_law_drawn_set : K.lookup f_law_drawn_set = some ⟨oc_law_drawn_set, od_law_drawn_set, .func (PySem.W.fnOf "_law_drawn_set" "_law_drawn_set" (defArgs s_law_drawn_set) (defBody s_law_drawn_set) (defScope s_law_drawn_set) .none kV_law_drawn_set dc_law_drawn_set pm_law_drawn_set an_law_drawn_set cd_law_drawn_set ct_law_drawn_set), sl_law_drawn_set⟩) (c_law_drawn_set : PySem.W.codeIn K cd_law_drawn_set "_law_drawn_set" = true) (k_law_drawn_set : PySem.W.keepIn K (.ref f_law_drawn_set) = true)
    (a_law_is_set : PySem.W.nsIn K mainGlobals "_law_is_set" = some (some (.ref f_law_is_set))) (l_law_is_set : K.lookup f_law_is_set = some ⟨oc_law_is_set, od_law_is_set, .func (PySem.W.fnOf "_law_is_set" "_law_is_set" (defArgs s_law_is_set) (defBody s_law_is_set) (defScope s_law_is_set) .none kV_law_is_set dc_law_is_set pm_law_is_set an_law_is_set cd_law_is_set ct_law_is_set), sl_law_is_set⟩) (c_law_is_set : PySem.W.codeIn K cd_law_is_set "_law_is_set" = true) (k_law_is_set : PySem.W.keepIn K (.ref f_law_is_set) = true)
    (a_law_wrapped : PySem.W.nsIn K mainGlobals "_law_wrapped" = some (some (.ref f_law_wrapped))) (l_law_wrapped : K.lookup f_law_wrapped = some ⟨oc_law_wrapped, od_law_wrapped, .func (PySem.W.fnOf "_law_wrapped" "_law_wrapped" (defArgs s_law_wrapped) (defBody s_law_wrapped) (defScope s_law_wrapped) .none kV_law_wrapped dc_law_wrapped pm_law_wrapped an_law_wrapped cd_law_wrapped ct_law_wrapped), sl_law_wrapped⟩) (c_law_wrapped : PySem.W.codeIn K cd_law_wrapped "_law_wrapped" = true) (k_law_wrapped : PySem.W.keepIn K (.ref f_law_wrapped) = true)
    (a_law_decimal : PySem.W.nsIn K mainGlobals "_law_decimal" = some (some (.ref f_law_decimal))) (l_law_decimal : K.lookup f_law_decimal = some ⟨oc_law_decimal, od_law_decimal, .func (PySem.W.fnOf "_law_decimal" "_law_decimal" (defArgs s_law_decimal) (defBody s_law_decimal) (defScope s_law_decimal) .none kV_law_decimal dc_law_decimal pm_law_decimal an_law_decimal cd_law_decimal ct_law_decimal), sl_law_decimal⟩) (c_law_decimal : PySem.W.codeIn K cd_law_decimal "_law_decimal" = true) (k_law_decimal : PySem.W.keepIn K (.ref f_law_decimal) = true)
    (a_law_set_text : PySem.W.nsIn K mainGlobals "_law_set_text" = some (some (.ref f_law_set_text))) (l_law_set_text : K.lookup f_law_set_text = some ⟨oc_law_set_text, od_law_set_text, .func (PySem.W.fnOf "_law_set_text" "_law_set_text" (defArgs s_law_set_text) (defBody s_law_set_text) (defScope s_law_set_text) .none kV_law_set_text dc_law_set_text pm_law_set_text an_law_set_text cd_law_set_text ct_law_set_text), sl_law_set_text⟩) (c_law_set_text : PySem.W.codeIn K cd_law_set_text "_law_set_text" = true) (k_law_set_text : PySem.W.keepIn K (.ref f_law_set_text) = true)
    (a_law_set_of_text : PySem.W.nsIn K mainGlobals "_law_set_of_text" = some (some (.ref f_law_set_of_text))) (l_law_set_of_text : K.lookup f_law_set_of_text = some ⟨oc_law_set_of_text, od_law_set_of_text, .func (PySem.W.fnOf "_law_set_of_text" "_law_set_of_text" (defArgs s_law_set_of_text) (defBody s_law_set_of_text) (defScope s_law_set_of_text) .none kV_law_set_of_text dc_law_set_of_text pm_law_set_of_text an_law_set_of_text cd_law_set_of_text ct_law_set_of_text), sl_law_set_of_text⟩) (c_law_set_of_text : PySem.W.codeIn K cd_law_set_of_text "_law_set_of_text" = true) (k_law_set_of_text : PySem.W.keepIn K (.ref f_law_set_of_text) = true)
    (a_law_spoilt : PySem.W.nsIn K mainGlobals "_law_spoilt" = some (some (.ref f_law_spoilt))) (l_law_spoilt : K.lookup f_law_spoilt = some ⟨oc_law_spoilt, od_law_spoilt, .func (PySem.W.fnOf "_law_spoilt" "_law_spoilt" (defArgs s_law_spoilt) (defBody s_law_spoilt) (defScope s_law_spoilt) .none kV_law_spoilt dc_law_spoilt pm_law_spoilt an_law_spoilt cd_law_spoilt ct_law_spoilt), sl_law_spoilt⟩) (c_law_spoilt : PySem.W.codeIn K cd_law_spoilt "_law_spoilt" = true) (k_law_spoilt : PySem.W.keepIn K (.ref f_law_spoilt) = true)
    (a_law_set_read : PySem.W.nsIn K mainGlobals "_law_set_read" = some (some (.ref f_law_set_read))) (l_law_set_read : K.lookup f_law_set_read = some ⟨oc_law_set_read, od_law_set_read, .func (PySem.W.fnOf "_law_set_read" "_law_set_read" (defArgs s_law_set_read) (defBody s_law_set_read) (defScope s_law_set_read) .none kV_law_set_read dc_law_set_read pm_law_set_read an_law_set_read cd_law_set_read ct_law_set_read), sl_law_set_read⟩) (c_law_set_read : PySem.W.codeIn K cd_law_set_read "_law_set_read" = true) (k_law_set_read : PySem.W.keepIn K (.ref f_law_set_read) = true)
    (a_law : PySem.W.nsIn K mainGlobals "law" = some (some (.ref f_law))) (l_law : K.lookup f_law = some ⟨oc_law, od_law, .func (PySem.W.fnOf "law" "law" (defArgs s_law) (defBody s_law) (defScope s_law) .none kV_law dc_law pm_law an_law cd_law ct_law), sl_law⟩) (c_law : PySem.W.codeIn K cd_law "law" = true) (k_law : PySem.W.keepIn K (.ref f_law) = true)
    (z_ValueError : PySem.W.nsIn K mainGlobals "ValueError" = some none)
    (z_all : PySem.W.nsIn K mainGlobals "all" = some none)
    (z_bool : PySem.W.nsIn K mainGlobals "bool" = some none)
    (z_int : PySem.W.nsIn K mainGlobals "int" = some none)
    (z_isinstance : PySem.W.nsIn K mainGlobals "isinstance" = some none)
    (z_len : PySem.W.nsIn K mainGlobals "len" = some none)
    (z_list : PySem.W.nsIn K mainGlobals "list" = some none)
    (z_max : PySem.W.nsIn K mainGlobals "max" = some none)
    (z_min : PySem.W.nsIn K mainGlobals "min" = some none)
    (z_range : PySem.W.nsIn K mainGlobals "range" = some none)
    (z_set : PySem.W.nsIn K mainGlobals "set" = some none)
    (z_sorted : PySem.W.nsIn K mainGlobals "sorted" = some none)
    (z_str : PySem.W.nsIn K mainGlobals "str" = some none)
    (z_tuple : PySem.W.nsIn K mainGlobals "tuple" = some none)
    (z_type : PySem.W.nsIn K mainGlobals "type" = some none)
    (xi_BadText : PySem.W.excIn K C_BadText [.type "ValueError", .type "Exception", .type "BaseException", .type "object"] "ValueError.__new__" = true) (kC_BadText : PySem.W.keepIn K (.ref C_BadText) = true) (eC_BadText : PySem.W.subIn K (.ref C_BadText) (.type "BaseException") = some true) (tC_BadText : PySem.W.typeIn K (.ref C_BadText) = some (.type "type")) (ga_BadText : PySem.W.findIn K (.ref C_BadText) "__getattribute__" = some (some (.builtin "BaseException.__getattribute__"))) (gg_BadText : PySem.W.findIn K (.ref C_BadText) "__getattr__" = some none) (hC_BadText : PySem.W.hasDictIn K C_BadText = true) (hc_BadText : PySem.W.findIn K (.ref C_BadText) "__class__" = some (some (.builtin "object.__class__"))) (hn_BadText : PySem.W.specialIn K (.builtin "object.__class__") "__get__" = some (some (.builtin "getset_descriptor.__get__"))) (ht_BadText : PySem.W.takesIn K (.builtin "object.__class__") = some true) (hm_BadText : PySem.W.mroIn K C_BadText (.type "object") = some true)
    (gC_BadText : PySem.W.nsIn K mainGlobals "BadText" = some (some (.ref C_BadText)))
    (gC_GateError : PySem.W.nsIn K mainGlobals "GateError" = some (some (.ref C_GateError)))
    (gC_NoPlace : PySem.W.nsIn K mainGlobals "NoPlace" = some (some (.ref C_NoPlace)))
    (kit_BadText_GateError : PySem.W.kitOne K (.ref C_BadText) (.ref C_GateError) = some true)
    (kit_BadText_NoPlace : PySem.W.kitOne K (.ref C_BadText) (.ref C_NoPlace) = some false)
    (kit_BadText_ValueError : PySem.W.kitOne K (.ref C_BadText) (.type "ValueError") = some true)
    (sb_BadText_BadText : PySem.W.subIn K (.ref C_BadText) (.ref C_BadText) = some true) :
    ∃ fd : FuncData, (∀ (s : Shared) (v : Value), BindsTo s fd ⟨[v], []⟩ [("script", v)]) ∧ ∀ base : Heap, K.In base → base.Ns mainGlobals mg → TbOk K mg base → FnQ l.prog w K mg base 42 fa fd ["script"] (spP K 1 F_law) := by
  have e := hfa.symm.trans (PySem.W.mg_of X G a_law)
  cases e
  let T : Tx K mg := { xi_BadText := xi_BadText, kC_BadText := kC_BadText, eC_BadText := eC_BadText, tC_BadText := tC_BadText, X_BadText := ⟨ga_BadText, gg_BadText, eC_BadText, hC_BadText, hc_BadText, hn_BadText, ht_BadText, hm_BadText⟩, exm_BadText_BadText := PySem.W.exm_ref eC_BadText hC_BadText tC_BadText sb_BadText_BadText, C_BadText := C_BadText, gC_BadText := PySem.W.mg_of X G gC_BadText, C_GateError := C_GateError, gC_GateError := PySem.W.mg_of X G gC_GateError, C_NoPlace := C_NoPlace, gC_NoPlace := PySem.W.mg_of X G gC_NoPlace, kit_BadText_GateError := kit_BadText_GateError, kit_BadText_NoPlace := kit_BadText_NoPlace, kit_BadText_ValueError := kit_BadText_ValueError, a_is_numeral := f_is_numeral, fd_is_numeral := _, cc_is_numeral := cc_is_numeral, pp_is_numeral := pp_is_numeral, F_is_numeral := funT_mk (st := s_is_numeral) l_is_numeral c_is_numeral k_is_numeral (tabIn_mk a_is_numeral l_is_numeral x_is_numeral p_is_numeral), b_is_numeral := ((funT_mk (st := s_is_numeral) l_is_numeral c_is_numeral k_is_numeral (tabIn_mk a_is_numeral l_is_numeral x_is_numeral p_is_numeral)).fun).binds (ps := ["text"]) fun _ _ _ _ _ _ us hl => match us, hl with | [_], _ => rfl, g_is_numeral := PySem.W.mg_of X G a_is_numeral, a_is_tuple := f_is_tuple, fd_is_tuple := _, F_is_tuple := fun_mk (st := s_is_tuple) l_is_tuple c_is_tuple k_is_tuple, b_is_tuple := (fun_mk (st := s_is_tuple) l_is_tuple c_is_tuple k_is_tuple).binds (ps := ["value", "count"]) fun _ _ _ _ _ _ us hl => match us, hl with | [_, _], _ => rfl, g_is_tuple := PySem.W.mg_of X G a_is_tuple, a_is_set := f_is_set, fd_is_set := _, F_is_set := fun_mk (st := s_is_set) l_is_set c_is_set k_is_set, b_is_set := (fun_mk (st := s_is_set) l_is_set c_is_set k_is_set).binds (ps := ["value"]) fun _ _ _ _ _ _ us hl => match us, hl with | [_], _ => rfl, g_is_set := PySem.W.mg_of X G a_is_set, a_write_pair := f_write_pair, fd_write_pair := _, F_write_pair := fun_mk (st := s_write_pair) l_write_pair c_write_pair k_write_pair, b_write_pair := (fun_mk (st := s_write_pair) l_write_pair c_write_pair k_write_pair).binds (ps := ["low", "high"]) fun _ _ _ _ _ _ us hl => match us, hl with | [_, _], _ => rfl, g_write_pair := PySem.W.mg_of X G a_write_pair, a_write_set := f_write_set, fd_write_set := _, F_write_set := fun_mk (st := s_write_set) l_write_set c_write_set k_write_set, b_write_set := (fun_mk (st := s_write_set) l_write_set c_write_set k_write_set).binds (ps := ["a"]) fun _ _ _ _ _ _ us hl => match us, hl with | [_], _ => rfl, g_write_set := PySem.W.mg_of X G a_write_set, a_read_set := f_read_set, fd_read_set := _, F_read_set := fun_mk (st := s_read_set) l_read_set c_read_set k_read_set, b_read_set := (fun_mk (st := s_read_set) l_read_set c_read_set k_read_set).binds (ps := ["text"]) fun _ _ _ _ _ _ us hl => match us, hl with | [_], _ => rfl, g_read_set := PySem.W.mg_of X G a_read_set, a_law_same := f_law_same, fd_law_same := _, F_law_same := fun_mk (st := s_law_same) l_law_same c_law_same k_law_same, b_law_same := (fun_mk (st := s_law_same) l_law_same c_law_same k_law_same).binds (ps := ["actual", "due"]) fun _ _ _ _ _ _ us hl => match us, hl with | [_, _], _ => rfl, g_law_same := PySem.W.mg_of X G a_law_same, a_law_is_integer := f_law_is_integer, fd_law_is_integer := _, F_law_is_integer := fun_mk (st := s_law_is_integer) l_law_is_integer c_law_is_integer k_law_is_integer, b_law_is_integer := (fun_mk (st := s_law_is_integer) l_law_is_integer c_law_is_integer k_law_is_integer).binds (ps := ["actual"]) fun _ _ _ _ _ _ us hl => match us, hl with | [_], _ => rfl, g_law_is_integer := PySem.W.mg_of X G a_law_is_integer, a_law_pool := f_law_pool, fd_law_pool := _, F_law_pool := fun_mk (st := s_law_pool) l_law_pool c_law_pool k_law_pool, b_law_pool := (fun_mk (st := s_law_pool) l_law_pool c_law_pool k_law_pool).binds (ps := ["script"]) fun _ _ _ _ _ _ us hl => match us, hl with | [_], _ => rfl, g_law_pool := PySem.W.mg_of X G a_law_pool, a_law_spread := f_law_spread, fd_law_spread := _, F_law_spread := fun_mk (st := s_law_spread) l_law_spread c_law_spread k_law_spread, b_law_spread := (fun_mk (st := s_law_spread) l_law_spread c_law_spread k_law_spread).binds (ps := ["cell"]) fun _ _ _ _ _ _ us hl => match us, hl with | [_], _ => rfl, g_law_spread := PySem.W.mg_of X G a_law_spread, a_law_draw := f_law_draw, fd_law_draw := _, F_law_draw := fun_mk (st := s_law_draw) l_law_draw c_law_draw k_law_draw, b_law_draw := (fun_mk (st := s_law_draw) l_law_draw c_law_draw k_law_draw).binds (ps := ["pool", "many"]) fun _ _ _ _ _ _ us hl => match us, hl with | [_, _], _ => rfl, g_law_draw := PySem.W.mg_of X G a_law_draw, a_law_pick := f_law_pick, fd_law_pick := _, F_law_pick := fun_mk (st := s_law_pick) l_law_pick c_law_pick k_law_pick, b_law_pick := (fun_mk (st := s_law_pick) l_law_pick c_law_pick k_law_pick).binds (ps := ["pool", "items"]) fun _ _ _ _ _ _ us hl => match us, hl with | [_, _], _ => rfl, g_law_pick := PySem.W.mg_of X G a_law_pick, a_law_has := f_law_has, fd_law_has := _, F_law_has := fun_mk (st := s_law_has) l_law_has c_law_has k_law_has, b_law_has := (fun_mk (st := s_law_has) l_law_has c_law_has k_law_has).binds (ps := ["numbers", "number"]) fun _ _ _ _ _ _ us hl => match us, hl with | [_, _], _ => rfl, g_law_has := PySem.W.mg_of X G a_law_has, a_law_union := f_law_union, fd_law_union := _, F_law_union := fun_mk (st := s_law_union) l_law_union c_law_union k_law_union, b_law_union := (fun_mk (st := s_law_union) l_law_union c_law_union k_law_union).binds (ps := ["pairs", "top"]) fun _ _ _ _ _ _ us hl => match us, hl with | [_, _], _ => rfl, g_law_union := PySem.W.mg_of X G a_law_union, a_law_number := f_law_number, fd_law_number := _, F_law_number := fun_mk (st := s_law_number) l_law_number c_law_number k_law_number, b_law_number := (fun_mk (st := s_law_number) l_law_number c_law_number k_law_number).binds (ps := ["pool", "top"]) fun _ _ _ _ _ _ us hl => match us, hl with | [_, _], _ => rfl, g_law_number := PySem.W.mg_of X G a_law_number, a_law_pairs := f_law_pairs, fd_law_pairs := _, F_law_pairs := fun_mk (st := s_law_pairs) l_law_pairs c_law_pairs k_law_pairs, b_law_pairs := (fun_mk (st := s_law_pairs) l_law_pairs c_law_pairs k_law_pairs).binds (ps := ["pool", "top", "many"]) fun _ _ _ _ _ _ us hl => match us, hl with | [_, _, _], _ => rfl, g_law_pairs := PySem.W.mg_of X G a_law_pairs, a_law_drawn_set := f_law_drawn_set, fd_law_drawn_set := _, F_law_drawn_set := fun_mk (st := s_law_drawn_set) l_law_drawn_set c_law_drawn_set k_law_drawn_set, b_law_drawn_set := (fun_mk (st := s_law_drawn_set) l_law_drawn_set c_law_drawn_set k_law_drawn_set).binds (ps := ["pool", "top", "many"]) fun _ _ _ _ _ _ us hl => match us, hl with | [_, _, _], _ => rfl, g_law_drawn_set := PySem.W.mg_of X G a_law_drawn_set, a_law_is_set := f_law_is_set, fd_law_is_set := _, F_law_is_set := fun_mk (st := s_law_is_set) l_law_is_set c_law_is_set k_law_is_set, b_law_is_set := (fun_mk (st := s_law_is_set) l_law_is_set c_law_is_set k_law_is_set).binds (ps := ["value"]) fun _ _ _ _ _ _ us hl => match us, hl with | [_], _ => rfl, g_law_is_set := PySem.W.mg_of X G a_law_is_set, a_law_wrapped := f_law_wrapped, fd_law_wrapped := _, F_law_wrapped := fun_mk (st := s_law_wrapped) l_law_wrapped c_law_wrapped k_law_wrapped, b_law_wrapped := (fun_mk (st := s_law_wrapped) l_law_wrapped c_law_wrapped k_law_wrapped).binds (ps := ["due"]) fun _ _ _ _ _ _ us hl => match us, hl with | [_], _ => rfl, g_law_wrapped := PySem.W.mg_of X G a_law_wrapped, a_law_decimal := f_law_decimal, fd_law_decimal := _, F_law_decimal := fun_mk (st := s_law_decimal) l_law_decimal c_law_decimal k_law_decimal, b_law_decimal := (fun_mk (st := s_law_decimal) l_law_decimal c_law_decimal k_law_decimal).binds (ps := ["text"]) fun _ _ _ _ _ _ us hl => match us, hl with | [_], _ => rfl, g_law_decimal := PySem.W.mg_of X G a_law_decimal, a_law_set_text := f_law_set_text, fd_law_set_text := _, F_law_set_text := fun_mk (st := s_law_set_text) l_law_set_text c_law_set_text k_law_set_text, b_law_set_text := (fun_mk (st := s_law_set_text) l_law_set_text c_law_set_text k_law_set_text).binds (ps := ["numbers"]) fun _ _ _ _ _ _ us hl => match us, hl with | [_], _ => rfl, g_law_set_text := PySem.W.mg_of X G a_law_set_text, a_law_set_of_text := f_law_set_of_text, fd_law_set_of_text := _, F_law_set_of_text := fun_mk (st := s_law_set_of_text) l_law_set_of_text c_law_set_of_text k_law_set_of_text, b_law_set_of_text := (fun_mk (st := s_law_set_of_text) l_law_set_of_text c_law_set_of_text k_law_set_of_text).binds (ps := ["text"]) fun _ _ _ _ _ _ us hl => match us, hl with | [_], _ => rfl, g_law_set_of_text := PySem.W.mg_of X G a_law_set_of_text, a_law_spoilt := f_law_spoilt, fd_law_spoilt := _, F_law_spoilt := fun_mk (st := s_law_spoilt) l_law_spoilt c_law_spoilt k_law_spoilt, b_law_spoilt := (fun_mk (st := s_law_spoilt) l_law_spoilt c_law_spoilt k_law_spoilt).binds (ps := ["pool", "text", "signs"]) fun _ _ _ _ _ _ us hl => match us, hl with | [_, _, _], _ => rfl, g_law_spoilt := PySem.W.mg_of X G a_law_spoilt, a_law_set_read := f_law_set_read, fd_law_set_read := _, F_law_set_read := fun_mk (st := s_law_set_read) l_law_set_read c_law_set_read k_law_set_read, b_law_set_read := (fun_mk (st := s_law_set_read) l_law_set_read c_law_set_read k_law_set_read).binds (ps := ["text"]) fun _ _ _ _ _ _ us hl => match us, hl with | [_], _ => rfl, g_law_set_read := PySem.W.mg_of X G a_law_set_read, a_law := fa, fd_law := _, F_law := fun_mk (st := s_law) l_law c_law k_law, b_law := (fun_mk (st := s_law) l_law c_law k_law).binds (ps := ["script"]) fun _ _ _ _ _ _ us hl => match us, hl with | [_], _ => rfl, g_law := PySem.W.mg_of X G a_law, z_ValueError := PySem.W.mg_none_of X G z_ValueError, z_all := PySem.W.mg_none_of X G z_all, z_bool := PySem.W.mg_none_of X G z_bool, z_int := PySem.W.mg_none_of X G z_int, z_isinstance := PySem.W.mg_none_of X G z_isinstance, z_len := PySem.W.mg_none_of X G z_len, z_list := PySem.W.mg_none_of X G z_list, z_max := PySem.W.mg_none_of X G z_max, z_min := PySem.W.mg_none_of X G z_min, z_range := PySem.W.mg_none_of X G z_range, z_set := PySem.W.mg_none_of X G z_set, z_sorted := PySem.W.mg_none_of X G z_sorted, z_str := PySem.W.mg_none_of X G z_str, z_tuple := PySem.W.mg_none_of X G z_tuple, z_type := PySem.W.mg_none_of X G z_type }
  exact ⟨PySem.W.fnOf "law" "law" (defArgs s_law) (defBody s_law) (defScope s_law) .none kV_law dc_law pm_law an_law cd_law ct_law, fun s v => .of_eq rfl, fun base _ _ TB => PG.FnOk.q (ok_law T TB)⟩
end Pr_gatewarden_k04_texts_of_sets
end
section
set_option linter.all false
set_option maxRecDepth 100000
set_option Elab.async false
namespace Pr_C
open PySem PG
/-! ### the pool -/
structure Pool where
  cells : List Int
  at_ : Int
  cur : Int
  n : Int
  salt : Int
def Pool.d (p : Pool) : List PyData := [.list (p.cells.map PyData.int), .int p.at_, .int p.cur, .int p.n, .int p.salt]
def Pool.ok (p : Pool) : Prop := 0 ≤ p.at_
@[simp] theorem ixOf_len (n : Nat) (i : Int) (h0 : 0 ≤ i) (h1 : i < n) : ixOf n i = some i.toNat := by simp [ixOf, h0, h1]
theorem rng4 : rng 0 4 = [.int 0, .int 1, .int 2, .int 3] := rfl
theorem spread_ok (c : Int) : ∃ t, F_law_spread [.int c] = some (.int t) := by
  simp [F_law_spread, defP, B_law_spread, X_law_spread_1, sFor, itR1, in62, rng4, forL]
theorem atD_at {cells : List Int} {i : Int} (h0 : 0 ≤ i) (h1 : i < cells.length) : ∃ c, atD (cells.map PyData.int) i = some (.int c) := by
  refine ⟨cells[i.toNat]'(by omega), ?_⟩
  simp [atD, ixOf, h0, h1]

def zed (salt n : Int) : Int := ((salt * 48271 + (n + 1) * 69621 + 1) % 2147483647 * 16807 + (n + 1)) % 2147483629 / 5
theorem draw_ok (p : Pool) (h : p.ok) (many : Int) (h0 : 0 < many) (h1 : many < 18446744073709551616) : ∃ (v : Int) (p' : Pool), F_law_draw p.d [.int many] = some (.int v, p'.d) ∧ p'.ok ∧ 0 ≤ v ∧ v < many := by
  obtain ⟨cells, a, cur, n, salt⟩ := p
  have hk : (0 : Int) ≤ a := h
  have hk1 : (0 : Int) ≤ a + 1 := by omega
  have e1 : ∀ x : Int, 0 ≤ x % many := fun x => Int.emod_nonneg _ (by omega)
  have e2 : ∀ x : Int, x % many < many := fun x => Int.emod_lt_of_pos _ h0
  by_cases c1 : cur ≤ 0
  · by_cases c2 : a < cells.length
    · obtain ⟨c, hc⟩ := atD_at hk c2
      by_cases c3 : c < 1000000000000000000
      · obtain ⟨t, ht⟩ := spread_ok c
        by_cases c4 : t ≤ 0
        · refine ⟨zed salt n % many, ⟨cells, a + 1, t, n + 1, salt⟩, ?_, hk1, e1 _, e2 _⟩
          simp [F_law_draw, B_law_draw, defL, Pool.d, zed, atD, ixOf, c1, c2, hk, ht, c3, c4, h0, h1] at hc ⊢
          simp [hc, ht, c3, c4, h0, h1]
        · refine ⟨t % many, ⟨cells, a + 1, t / many, n + 1, salt⟩, ?_, hk1, e1 _, e2 _⟩
          simp [F_law_draw, B_law_draw, defL, Pool.d, zed, atD, ixOf, c1, c2, hk, ht, c3, c4, h0, h1] at hc ⊢
          simp [hc, ht, c3, c4, h0, h1]
      · have c4 : ¬ c ≤ 0 := by omega
        refine ⟨c % many, ⟨cells, a + 1, c / many, n + 1, salt⟩, ?_, hk1, e1 _, e2 _⟩
        simp [F_law_draw, B_law_draw, defL, Pool.d, zed, atD, ixOf, c1, c2, hk, c3, c4, h0, h1] at hc ⊢
        simp [hc, c3, c4, h0, h1]
    · refine ⟨zed salt n % many, ⟨cells, a, cur, n + 1, salt⟩, ?_, hk, e1 _, e2 _⟩
      simp [F_law_draw, B_law_draw, defL, Pool.d, zed, atD, ixOf, c1, c2, h0, h1]
  · refine ⟨cur % many, ⟨cells, a, cur / many, n + 1, salt⟩, ?_, hk, e1 _, e2 _⟩
    simp [F_law_draw, B_law_draw, defL, Pool.d, zed, atD, ixOf, c1, h0, h1]

/-! ### loops -/
theorem forL_ind {g : GF} {b : SF} {P : List PyData → Rho → Prop} : ∀ (ds : List PyData) (ρ : Rho), P ds ρ → (∀ d r ρ, P (d :: r) ρ → ∃ ρ1 ρ2, g d ρ = some ρ1 ∧ b ρ1 = some (.next, ρ2) ∧ P r ρ2) → ∃ ρ', forL g b ds ρ = some (.next, ρ') ∧ P [] ρ'
  | [], ρ, h, _ => ⟨ρ, rfl, h⟩
  | d :: r, ρ, h, hs => by
    obtain ⟨ρ1, ρ2, e1, e2, h2⟩ := hs d r ρ h
    obtain ⟨ρ', e3, h3⟩ := forL_ind r ρ2 h2 hs
    exact ⟨ρ', by simp [forL, e1, e2, e3], h3⟩
/-- a comprehension that changes nothing -/
theorem compL_pure {g : GF} {t : TF} {e : EF} {vs : List Nat} {ρ : Rho} (c : PyData → Bool) (m : PyData → PyData) : ∀ (ds acc : List PyData), acc.length + ds.length ≤ 16777216 →
    (∀ d ∈ ds, ∃ ρ1, g d ρ = some ρ1 ∧ t ρ1 = some (c d, ρ1) ∧ (c d = true → e ρ1 = some (m d, ρ1)) ∧ plainAt ρ1 vs = true ∧ wipeR ρ1 vs = ρ) → compL g t e vs ds acc ρ = some (acc ++ (ds.filter c).map m, ρ)
  | [], acc, _, _ => by simp [compL]
  | d :: ds, acc, hl, h => by
    obtain ⟨ρ1, e1, e2, e3, e4, e5⟩ := h d (by simp)
    have hl' : acc.length + ds.length + 1 ≤ 16777216 := by simp only [List.length_cons] at hl; omega
    cases hc : c d with
    | false =>
      have ih := compL_pure c m ds acc (by omega) fun x hx => h x (by simp [hx])
      simp [compL, e1, e2, hc, e4, e5, ih]
    | true =>
      have ih := compL_pure c m ds (acc ++ [m d]) (by simp; omega) fun x hx => h x (by simp [hx])
      have hlt : acc.length < 16777216 := by omega
      simp [compL, e1, e2, e3 hc, hc, e4, e5, ih, hlt]
/-- .. that changes the state -/
theorem compL_ind {g : GF} {t : TF} {e : EF} {vs : List Nat} {P : List PyData → List PyData → Rho → Prop} : ∀ (ds acc : List PyData) (ρ : Rho), acc.length + ds.length ≤ 16777216 → P ds acc ρ →
    (∀ d r acc ρ, P (d :: r) acc ρ → ∃ ρ1 ρ2 y ρ3, g d ρ = some ρ1 ∧ t ρ1 = some (true, ρ2) ∧ e ρ2 = some (y, ρ3) ∧ plainAt ρ3 vs = true ∧ P r (acc ++ [y]) (wipeR ρ3 vs)) →
    ∃ out ρ', compL g t e vs ds acc ρ = some (out, ρ') ∧ P [] out ρ' ∧ out.length = acc.length + ds.length
  | [], acc, ρ, _, h, _ => ⟨acc, ρ, rfl, h, rfl⟩
  | d :: r, acc, ρ, hl, h, hs => by
    obtain ⟨ρ1, ρ2, y, ρ3, e1, e2, e3, e4, h2⟩ := hs d r acc ρ h
    simp only [List.length_cons] at hl
    obtain ⟨out, ρ', e5, h5, h6⟩ := compL_ind r (acc ++ [y]) _ (by simp; omega) h2 hs
    have hlt : acc.length < 16777216 := by omega
    exact ⟨out, ρ', by simp [compL, e1, e2, e3, e4, hlt, e5], h5, by rw [h6]; simp; omega⟩

/-! ### two data that are one -/
mutual
def dep : PyData → Nat
  | .list xs => depA xs + 1
  | .tuple xs => depA xs + 1
  | _ => 1
def depA : List PyData → Nat
  | [] => 0
  | x :: xs => max (dep x) (depA xs)
end
mutual
def nod : PyData → Bool
  | .list xs => nodA xs
  | .tuple xs => nodA xs
  | .dict _ => false
  | .str x => PyData.canLay0 (.str x)
  | _ => true
def nodA : List PyData → Bool
  | [] => true
  | x :: xs => nod x && nodA xs
end
theorem atD_nat {xs : List PyData} {k : Nat} (h : k < xs.length) : atD xs (k : Int) = some xs[k] := by
  have h2 : (k : Int) < (xs.length : Int) := by omega
  simp [atD, ixOf, h2, h]
theorem same_turn (n : Nat) (xs : List PyData) (d : PyData) (hix : ∀ i, dIx d (.int i) = atD xs i) (ih : ∀ x ∈ xs, F_law_same n [x, x] = some (.bool true)) (j : Nat) (hj' : j < xs.length) :
    X_law_same_1 (F_law_same n) [some (.v d), some (.v d), some (.v (.int (j : Nat)))] = some (false, [some (.v d), some (.v d), some (.v (.int (j : Nat)))]) := by
  have e1 : dIx d (.int (j : Nat)) = some xs[j] := by rw [hix, atD_nat hj']
  have e2 := ih xs[j] (List.getElem_mem hj')
  simp [X_law_same_1, -dIx, e1, e2]
theorem same_comp (n : Nat) (xs : List PyData) (d : PyData) (hix : ∀ i, dIx d (.int i) = atD xs i) (hl : xs.length < 16777216) (ih : ∀ x ∈ xs, F_law_same n [x, x] = some (.bool true)) :
    compL (gSet 2) (X_law_same_1 (F_law_same n)) (X_law_same_2 (F_law_same n)) [2] (rng 0 xs.length) [] [some (.v d), some (.v d), none] = some ([], [some (.v d), some (.v d), none]) := by
  have hr : (rng 0 xs.length).length = xs.length := by simp [rng]
  have this := compL_pure (g := gSet 2) (t := X_law_same_1 (F_law_same n)) (e := X_law_same_2 (F_law_same n)) (vs := [2]) (ρ := [some (.v d), some (.v d), none]) (fun _ => false) id (rng 0 xs.length) [] (by rw [hr, List.length_nil]; omega) fun k hk => by
        unfold rng at hk
        obtain ⟨j, hj, rfl⟩ := List.mem_map.mp hk
        have hj' : j < xs.length := by simpa using hj
        rw [Int.zero_add]
        exact ⟨[some (.v d), some (.v d), some (.v (.int (j : Nat)))], by simp, same_turn n xs d hix ih j hj', (fun z => by cases z), by simp [plainAt], by simp [wipeR]⟩
  have ef : (rng 0 xs.length).filter (fun _ => false) = [] := by simp [List.filter_eq_nil_iff]
  rw [this, ef]
  simp
theorem same_n (n : Nat) (xs : List PyData) (d : PyData) (hix : ∀ i, dIx d (.int i) = atD xs i) (hlen : dLen d = some (.int xs.length)) (hl : xs.length < 16777216) (ih : ∀ x ∈ xs, F_law_same n [x, x] = some (.bool true)) :
    nComp (itR1 (nCons (eCall (o1of dLen) (nCons (eName 1) nNil)) nNil)) (gSet 2) (X_law_same_1 (F_law_same n)) (X_law_same_2 (F_law_same n)) [2] [some (.v d), some (.v d), none] = some ([], [some (.v d), some (.v d), none]) := by
  have hin : in62 (xs.length : Int) = true := by
    simp only [in62, Bool.and_eq_true, decide_eq_true_eq]
    omega
  have h1 := same_comp n xs d hix hl ih
  simp [nComp, itR1, hlen, -dLen, hin, plainAt, wipeR, h1, restR]
theorem ix_tup' (xs : List PyData) : ∀ i, dIx (.tuple xs) (.int i) = atD xs i := fun _ => rfl
theorem len_tup (xs : List PyData) : dLen (.tuple xs) = some (.int xs.length) := rfl
theorem same_end (f : NF) (d : PyData) (k2 : f [some (.v d), some (.v d), none] = some ([], [some (.v d), some (.v d), none])) :
    eBin dEq (eCall (o1of dLen) (nCons (eLst f) nNil)) (eC (.int 0)) [some (.v d), some (.v d), none] = some (.bool true, [some (.v d), some (.v d), none]) := by
  simp [k2]
theorem same_b5 (d : PyData) (hd : (∃ xs, d = .list xs) ∨ ∃ xs, d = .tuple xs) (B : SF) (g : EF) (h : g [some (.v d), some (.v d), none] = some (.bool true, [some (.v d), some (.v d), none])) :
 sSeq (sIf (tOr' (tTru (eUn (dIsi "tuple") (eName 1))) (tTru (eUn (dIsi "list") (eName 1))))
  (sSeq (sIf (tOr' (tBl (eBin dNe (eUn (dIsi "tuple") (eName 1)) (eUn (dIsi "tuple") (eName 0)))) (tOr' (tBl (eBin dNe (eUn (dIsi "list") (eName 1)) (eUn (dIsi "list") (eName 0)))) (tBl (eBin dNe (eCall (o1of dLen) (nCons (eName 0) nNil)) (eCall (o1of dLen) (nCons (eName 1) nNil))))))
  (sSeq (sRet (eC (.bool false)))
  sNil)
  sNil)
  (sSeq (sRet g)
  sNil))
  sNil) B [some (.v d), some (.v d), none] = some (.ret (.bool true), [some (.v d), some (.v d), none]) := by
  rcases hd with ⟨xs, rfl⟩ | ⟨xs, rfl⟩ <;> simp [h]
theorem same_last (b : SF) (d : PyData) (r : Rho) (h : b [some (.v d), some (.v d), none] = some (.ret (.bool true), r)) : defP b 2 1 [d, d] = some (.bool true) := by
  simp [defP, h]
theorem same_tup (n : Nat) (xs : List PyData) (hl : xs.length < 16777216) (ih : ∀ x ∈ xs, F_law_same n [x, x] = some (.bool true)) : F_law_same (n + 1) [.tuple xs, .tuple xs] = some (.bool true) := by
  rw [F_law_same]
  refine same_last _ _ [some (.v (.tuple xs)), some (.v (.tuple xs)), none] ?_
  unfold B_law_same
  exact same_b5 _ (.inr ⟨xs, rfl⟩) _ _ (same_end _ _ (same_n n xs (.tuple xs) (ix_tup' xs) (len_tup xs) hl ih))
theorem same_int (n : Nat) (i : Int) : F_law_same (n + 1) [.int i, .int i] = some (.bool true) := by
  simp [F_law_same, defP, B_law_same]
/-! ### pairs of ints -/
def pr (x : Int × Int) : PyData := .tuple [.int x.1, .int x.2]
def prs (l : List (Int × Int)) : List PyData := l.map pr
theorem same_pr (n : Nat) (x : Int × Int) : F_law_same (n + 2) [pr x, pr x] = some (.bool true) :=
  same_tup (n + 1) _ (by simp) fun y hy => by
    rcases List.mem_cons.mp hy with rfl | hy
    · exact same_int n _
    · rcases List.mem_cons.mp hy with rfl | hy
      · exact same_int n _
      · cases hy
theorem same_prsT (n : Nat) (l : List (Int × Int)) (hl : l.length < 16777216) : F_law_same (n + 3) [.tuple (prs l), .tuple (prs l)] = some (.bool true) :=
  same_tup (n + 2) _ (by simpa [prs] using hl) fun y hy => by
    obtain ⟨x, _, rfl⟩ := List.mem_map.mp hy
    exact same_pr n x
/-! ### drawn numbers -/
theorem number_ok (p : Pool) (h : p.ok) (top : Int) (h0 : 0 ≤ top) (h1 : top < 1000000000) : ∃ (v : Int) (p' : Pool), F_law_number p.d [.int top] = some (.int v, p'.d) ∧ p'.ok ∧ 0 ≤ v ∧ v ≤ top := by
  obtain ⟨t, p1, e1, k1, t0, t1⟩ := draw_ok p h 4 (by decide) (by decide)
  by_cases c0 : t = 0
  · subst c0
    obtain ⟨v, p2, e2, k2, v0, v1⟩ := draw_ok p1 k1 (top + 1) (by omega) (by omega)
    exact ⟨v, p2, by simp [F_law_number, B_law_number, defL, e1, e2], k2, v0, by omega⟩
  · by_cases c1 : t = 1
    · subst c1
      obtain ⟨v, p2, e2, k2, v0, v1⟩ := draw_ok p1 k1 12 (by decide) (by decide)
      exact ⟨if v < top then v else top, p2, by simp [F_law_number, B_law_number, defL, e1, e2], k2, by split <;> omega, by split <;> omega⟩
    · by_cases c2 : t = 2
      · subst c2
        obtain ⟨v, p2, e2, k2, v0, v1⟩ := draw_ok p1 k1 12 (by decide) (by decide)
        exact ⟨if top - v > 0 then top - v else 0, p2, by simp [F_law_number, B_law_number, defL, e1, e2], k2, by split <;> omega, by split <;> omega⟩
      · obtain ⟨v, p2, e2, k2, v0, v1⟩ := draw_ok p1 k1 256 (by decide) (by decide)
        exact ⟨if 256 * v < top then 256 * v else top, p2, by simp [F_law_number, B_law_number, defL, e1, e2, c0, c1, c2], k2, by split <;> omega, by split <;> omega⟩
/-! ### drawn pairs -/
def okPair (top : Int) (x : Int × Int) : Prop := 0 ≤ x.1 ∧ x.1 ≤ x.2 ∧ x.2 ≤ top
theorem rng_len (lo : Int) (n : Nat) : (rng lo n).length = n := by simp [rng]
theorem five_at {v : Int} (h0 : 0 ≤ v) (h1 : v < 5) : ∃ k : Int, 0 ≤ k ∧ k ≤ 5000 ∧ dIx (.tuple [.int 0, .int 1, .int 3, .int 255, .int 5000]) (.int v) = some (.int k) := by
  rcases (show v = 0 ∨ v = 1 ∨ v = 2 ∨ v = 3 ∨ v = 4 by omega) with rfl | rfl | rfl | rfl | rfl
  · exact ⟨0, by decide, by decide, rfl⟩
  · exact ⟨1, by decide, by decide, rfl⟩
  · exact ⟨3, by decide, by decide, rfl⟩
  · exact ⟨255, by decide, by decide, rfl⟩
  · exact ⟨5000, by decide, by decide, rfl⟩
def plainC (x : Option Cell) : Prop := x = none ∨ ∃ d, x = some (.v d)
theorem pairs_ok (p : Pool) (h : p.ok) (top many : Int) (h0 : 0 ≤ top) (h1 : top < 1000000000) (m0 : 0 ≤ many) (m1 : many ≤ 1000) :
    ∃ (l : List (Int × Int)) (p' : Pool), F_law_pairs p.d [.int top, .int many] = some (.list (prs l), p'.d) ∧ p'.ok ∧ (∀ x ∈ l, okPair top x) ∧ l.length = many.toNat := by
  have hin : in62 many = true := by simp only [in62, Bool.and_eq_true, decide_eq_true_eq]; omega
  obtain ⟨ρ', e, l, p', x4, x5, rfl, k, ol, ll, _, _⟩ := forL_ind (g := gSet 4) (b := X_law_pairs_1) (P := fun ds ρ => ∃ (l : List (Int × Int)) (p' : Pool) (x4 x5 : Option Cell), ρ = [some (.l true p'.d), some (.v (.int top)), some (.v (.int many)), some (.l false (prs l)), x4, x5] ∧ p'.ok ∧ (∀ x ∈ l, okPair top x) ∧ l.length + ds.length = many.toNat ∧ plainC x4 ∧ plainC x5)
    (rng 0 many.toNat) [some (.l true p.d), some (.v (.int top)), some (.v (.int many)), some (.l false []), none, none] ⟨[], p, none, none, rfl, h, by simp, by simp [rng_len], .inl rfl, .inl rfl⟩ (by
      rintro d r ρ ⟨l, p', x4, x5, rfl, k, ol, ll, q4, q5⟩
      obtain ⟨v, p1, e1, k1, v0, v1⟩ := number_ok p' k top h0 h1
      obtain ⟨t, p2, e2, k2, t0, t1⟩ := draw_ok p1 k1 5 (by decide) (by decide)
      obtain ⟨c, c0, c1, e3⟩ := five_at t0 t1
      have hl : l.length < 16777216 := by simp only [List.length_cons] at ll; omega
      refine ⟨[some (.l true p'.d), some (.v (.int top)), some (.v (.int many)), some (.l false (prs l)), some (.v d), x5], _, ?_, ?_, l ++ [(v, if v + c < top then v + c else top)], p2, some (.v d), some (.v (.int v)), rfl, k2, ?_, ?_, .inr ⟨_, rfl⟩, .inr ⟨_, rfl⟩⟩
      · rcases q4 with rfl | ⟨y, rfl⟩ <;> simp
      · rcases q5 with rfl | ⟨y, rfl⟩ <;> simp [X_law_pairs_1, e1, e2, -dIx, e3, hl, prs, pr]
      · intro x hx
        rcases List.mem_append.mp hx with hx | hx
        · exact ol x hx
        · simp only [List.mem_singleton] at hx
          subst hx
          refine ⟨v0, ?_, ?_⟩
          · show v ≤ if v + c < top then v + c else top
            split <;> omega
          · show (if v + c < top then v + c else top) ≤ top
            split <;> omega
      · simp only [List.length_append, List.length_cons, List.length_nil] at ll ⊢
        omega)
  refine ⟨l, p', ?_, k, ol, by simpa using ll⟩
  simp [F_law_pairs, B_law_pairs, defL, sFor, itR1, hin, e]
end Pr_C
end
section
set_option linter.all false
set_option maxRecDepth 100000
set_option Elab.async false
namespace Pr_C
open PySem PG
/-! ### loops over a range -/
theorem forL_rng {g : GF} {b : SF} {P : Nat → Rho → Prop} (n : Nat) (ρ : Rho) (h0 : P 0 ρ) (hs : ∀ k ρ, k < n → P k ρ → ∃ ρ1 ρ2, g (.int (k : Nat)) ρ = some ρ1 ∧ b ρ1 = some (.next, ρ2) ∧ P (k + 1) ρ2) : ∃ ρ', forL g b (rng 0 n) ρ = some (.next, ρ') ∧ P n ρ' := by
  obtain ⟨ρ', e, k, hk, hd, hp⟩ := forL_ind (g := g) (b := b) (P := fun ds ρ => ∃ k, k ≤ n ∧ ds = (rng 0 n).drop k ∧ P k ρ) (rng 0 n) ρ ⟨0, by omega, rfl, h0⟩ (by
    rintro d r ρ ⟨k, hk, hd, hp⟩
    have hl := congrArg List.length hd
    simp only [List.length_cons, List.length_drop, rng_len] at hl
    have hk' : k < (rng 0 n).length := by rw [rng_len]; omega
    rw [List.drop_eq_getElem_cons hk'] at hd
    obtain ⟨rfl, rfl⟩ := List.cons.inj hd
    have hx : (rng 0 n)[k] = .int (k : Nat) := by simp [rng]
    obtain ⟨ρ1, ρ2, e1, e2, h2⟩ := hs k ρ (by omega) hp
    exact ⟨ρ1, ρ2, by rw [hx]; exact e1, e2, k + 1, by omega, rfl, h2⟩)
  have hl := congrArg List.length hd
  simp only [List.length_nil, List.length_drop, rng_len] at hl
  have : k = n := by omega
  subst this
  exact ⟨ρ', e, hp⟩
/-! ### the pool -/
theorem pool_ok (ns : List Int) (h : ns.length ≤ 63) : ∃ p : Pool, F_law_pool [RO (ns.map PyData.int)] = some p.d ∧ p.ok := by
  obtain ⟨ρ', e, s, x2, rfl, _, _⟩ := forL_ind (g := gSet 2) (b := X_law_pool_1) (P := fun ds ρ => ∃ (s : Int) (x2 : Option Cell), ρ = [some (.v (RO (ns.map PyData.int))), some (.v (.int s)), x2] ∧ plainC x2 ∧ ∀ d ∈ ds, ∃ i : Int, d = .int i)
    (cutD (ns.map PyData.int) none (some 63)) [some (.v (RO (ns.map PyData.int))), some (.v (.int 7)), none] ⟨7, none, rfl, .inl rfl, by
      intro d hd
      have := List.mem_of_mem_drop (List.mem_of_mem_take hd)
      obtain ⟨i, _, rfl⟩ := List.mem_map.mp this
      exact ⟨i, rfl⟩⟩ (by
      rintro d r ρ ⟨s, x2, rfl, q2, hd⟩
      obtain ⟨i, rfl⟩ := hd d (by simp)
      refine ⟨[some (.v (RO (ns.map PyData.int))), some (.v (.int s)), some (.v (.int i))], [some (.v (RO (ns.map PyData.int))), some (.v (.int ((s * 31 + i) % 1000003))), some (.v (.int i))], ?_, ?_, _, _, rfl, .inr ⟨_, rfl⟩, fun d h => hd d (by simp [h])⟩
      · rcases q2 with rfl | ⟨y, rfl⟩ <;> simp
      · simp [X_law_pool_1])
  refine ⟨⟨ns, 0, 0, 0, s⟩, ?_, by simp [Pool.ok]⟩
  simp only [RO] at e ⊢
  simp [F_law_pool, B_law_pool, defN, sFor, e, Pool.d]
/-! ### has -/
def hasP (l : List (Int × Int)) (x : Int) : Bool := l.any fun p => decide (p.1 ≤ x) && decide (x ≤ p.2)
def cHas (x : Int) : PyData → Bool
  | .tuple [.int a, .int b] => decide (a ≤ x) && decide (x ≤ b)
  | _ => false
@[simp] theorem dIx_p0 (a b : PyData) : dIx (.tuple [a, b]) (.int 0) = some a := rfl
@[simp] theorem dIx_p1 (a b : PyData) : dIx (.tuple [a, b]) (.int 1) = some b := rfl
theorem has_filter (l : List (Int × Int)) (c : PyData → Bool) (c' : Int × Int → Bool) (h : ∀ p, c (pr p) = c' p) : decide ((0 : Int) < (((prs l).filter c).length : Nat)) = l.any c' := by
  induction l with
  | nil => rfl
  | cons p l ih =>
    simp only [prs, List.map_cons, List.filter_cons, List.any_cons] at ih ⊢
    rw [h p]
    cases c' p
    · simp only [Bool.false_eq_true, if_false, Bool.false_or]; exact ih
    · simp only [if_true, Bool.true_or, decide_eq_true_eq, List.length_cons]; omega
theorem has_ok (l : List (Int × Int)) (d : PyData) (x : Int) (hd : d = .list (prs l) ∨ d = .tuple (prs l)) (hl : l.length ≤ 16777216) : F_law_has [d, .int x] = some (.bool (hasP l x)) := by
  have hit : itS (eName 0) [some (.v d), some (.v (.int x)), none] = some (prs l, [some (.v d), some (.v (.int x)), none]) := by rcases hd with rfl | rfl <;> rfl
  have hc := compL_pure (g := gSet 2) (t := X_law_has_1) (e := X_law_has_2) (vs := [2]) (ρ := [some (.v d), some (.v (.int x)), none]) (cHas x) id (prs l) [] (by simpa [prs] using hl) (by
    intro y hy
    obtain ⟨p, _, rfl⟩ := List.mem_map.mp hy
    refine ⟨[some (.v d), some (.v (.int x)), some (.v (pr p))], by simp, ?_, by simp [X_law_has_2], by simp [plainAt], by simp [wipeR]⟩
    simp only [pr, X_law_has_1, cHas]
    by_cases c1 : p.1 ≤ x <;> simp [-dIx, c1])
  have hn : nComp (itS (eName 0)) (gSet 2) X_law_has_1 X_law_has_2 [2] [some (.v d), some (.v (.int x)), none] = some ((prs l).filter (cHas x), [some (.v d), some (.v (.int x)), none]) := by
    unfold nComp
    rw [hit]
    simp [plainAt, wipeR, restR, hc]
  have hf := has_filter l (cHas x) (fun p => decide (p.1 ≤ x) && decide (x ≤ p.2)) (fun p => rfl)
  simp only [F_law_has, B_law_has, defP]
  simp [hn, -Int.natCast_pos] at hf ⊢
  rw [hasP, ← hf]
/-! ### unions -/
theorem intsOf_ints : ∀ ns : List Int, intsOf (ns.map PyData.int) = some ns
  | [] => rfl
  | k :: r => by simp [intsOf, intsOf_ints r]
theorem dSortSet_ints (ns : List Int) (h : ns.length < 64) : dSortSet (.list (ns.map PyData.int)) = some ((sortI ns).map PyData.int) := by
  simp [dSortSet, intsOf_ints, h]
theorem atD_ints (ns : List Int) (k : Nat) (h : k < ns.length) : dIx (.list (ns.map PyData.int)) (.int (k : Nat)) = some (.int ns[k]) := by
  show atD _ _ = _
  rw [atD_nat (by simpa using h)]
  simp
theorem ixOf_last (xs : List PyData) (y : PyData) : ixOf (xs ++ [y]).length (-1) = some xs.length := by
  have h : (-1 : Int) + ((xs ++ [y]).length : Int) = xs.length := by simp; omega
  have h0 : ¬ (0 : Int) ≤ -1 := by decide
  have h1 : -((xs ++ [y]).length : Int) ≤ -1 := by simp; omega
  unfold ixOf
  rw [if_neg h0, if_pos h1, h]
  simp
theorem atD_last (xs : List PyData) (y : PyData) : dIx (.list (xs ++ [y])) (.int (-1)) = some y := by
  show atD _ _ = _
  unfold atD
  rw [ixOf_last]
  simp
def mn1 (top : Int) : PyData → PyData
  | .tuple [.int a, .int b] => .int (if top + 1 < a then top + 1 else a)
  | _ => .none
def mn2 (top : Int) : PyData → PyData
  | .tuple [.int a, .int b] => .int (if top + 1 < b + 1 then top + 1 else b + 1)
  | _ => .none
def edges (l : List (Int × Int)) (top : Int) : List Int := [0, top + 1] ++ l.map (fun p => if top + 1 < p.1 then top + 1 else p.1) ++ l.map (fun p => if top + 1 < p.2 + 1 then top + 1 else p.2 + 1)
theorem map_true (xs : List PyData) : xs.filter (fun _ => true) = xs := by simp
theorem comp_u1 (l : List (Int × Int)) (top : Int) (hl : l.length ≤ 30) : nComp (itS (eName 0)) (gSet 5) tYesF X_law_union_1 [5] [some (.v (.list (prs l))), some (.v (.int top)), none, none, none, none] = some (l.map (fun p => PyData.int (if top + 1 < p.1 then top + 1 else p.1)), [some (.v (.list (prs l))), some (.v (.int top)), none, none, none, none]) := by
  have hc := compL_pure (g := gSet 5) (t := tYesF) (e := X_law_union_1) (vs := [5]) (ρ := [some (.v (.list (prs l))), some (.v (.int top)), none, none, none, none]) (fun _ => true) (mn1 top) (prs l) [] (by simp [prs]; omega) (by
    intro y hy
    obtain ⟨p, _, rfl⟩ := List.mem_map.mp hy
    exact ⟨[some (.v (.list (prs l))), some (.v (.int top)), none, none, none, some (.v (pr p))], by simp, by simp, by simp [X_law_union_1, pr, mn1, -dIx], by simp [plainAt], by simp [wipeR]⟩)
  rw [map_true] at hc
  have e : (prs l).map (mn1 top) = l.map (fun p => PyData.int (if top + 1 < p.1 then top + 1 else p.1)) := by simp [prs, pr, mn1]
  rw [e] at hc
  unfold nComp
  simp [plainAt, wipeR, restR] at hc ⊢
  simp [hc]
theorem comp_u2 (l : List (Int × Int)) (top : Int) (hl : l.length ≤ 30) : nComp (itS (eName 0)) (gSet 5) tYesF X_law_union_2 [5] [some (.v (.list (prs l))), some (.v (.int top)), none, none, none, none] = some (l.map (fun p => PyData.int (if top + 1 < p.2 + 1 then top + 1 else p.2 + 1)), [some (.v (.list (prs l))), some (.v (.int top)), none, none, none, none]) := by
  have hc := compL_pure (g := gSet 5) (t := tYesF) (e := X_law_union_2) (vs := [5]) (ρ := [some (.v (.list (prs l))), some (.v (.int top)), none, none, none, none]) (fun _ => true) (mn2 top) (prs l) [] (by simp [prs]; omega) (by
    intro y hy
    obtain ⟨p, _, rfl⟩ := List.mem_map.mp hy
    exact ⟨[some (.v (.list (prs l))), some (.v (.int top)), none, none, none, some (.v (pr p))], by simp, by simp, by simp [X_law_union_2, pr, mn2, -dIx], by simp [plainAt], by simp [wipeR]⟩)
  rw [map_true] at hc
  have e : (prs l).map (mn2 top) = l.map (fun p => PyData.int (if top + 1 < p.2 + 1 then top + 1 else p.2 + 1)) := by simp [prs, pr, mn2]
  rw [e] at hc
  unfold nComp
  simp [plainAt, wipeR, restR] at hc ⊢
  simp [hc]
/-- one edge -/
theorem turn_no (L : PyData) (E F : List PyData) (top : Int) (k : PyData) (e0 : PyData) (h0 : dIx (.list E) k = some e0) (hh : F_law_has [L, e0] = some (.bool false)) :
    X_law_union_3 [some (.v L), some (.v (.int top)), some (.v (.list E)), some (.l false F), some (.v k), none] = some (.next, [some (.v L), some (.v (.int top)), some (.v (.list E)), some (.l false F), some (.v k), none]) := by
  simp [X_law_union_3, -dIx, h0, hh]
theorem turn_new (L : PyData) (E F : List PyData) (top k e0 e1 : Int) (h0 : dIx (.list E) (.int k) = some (.int e0)) (h1 : dIx (.list E) (.int (k + 1)) = some (.int e1)) (hh : F_law_has [L, .int e0] = some (.bool true)) (hf : F.length < 16777216) (hn : F = [] ∨ ∃ G a b, F = G ++ [.tuple [.int a, .int b]] ∧ b + 1 ≠ e0) :
    X_law_union_3 [some (.v L), some (.v (.int top)), some (.v (.list E)), some (.l false F), some (.v (.int k)), none] = some (.next, [some (.v L), some (.v (.int top)), some (.v (.list E)), some (.l false (F ++ [.tuple [.int e0, .int (e1 - 1)]])), some (.v (.int k)), none]) := by
  rcases hn with rfl | ⟨G, a, b, rfl, hne⟩
  · simp [X_law_union_3, -dIx, h0, h1, hh]
  · have hl := atD_last G (.tuple [.int a, .int b])
    have hp : (0 : Int) < ((G ++ [PyData.tuple [.int a, .int b]]).length : Int) := by simp
    generalize G ++ [PyData.tuple [.int a, .int b]] = F at *
    have hp' : 0 < F.length := by omega
    simp [X_law_union_3, -dIx, h0, h1, hh, hl, hne, hf, hp']
theorem turn_join (L : PyData) (E G : List PyData) (top k e0 e1 a b : Int) (h0 : dIx (.list E) (.int k) = some (.int e0)) (h1 : dIx (.list E) (.int (k + 1)) = some (.int e1)) (hh : F_law_has [L, .int e0] = some (.bool true)) (hne : b + 1 = e0) :
    X_law_union_3 [some (.v L), some (.v (.int top)), some (.v (.list E)), some (.l false (G ++ [.tuple [.int a, .int b]])), some (.v (.int k)), none] = some (.next, [some (.v L), some (.v (.int top)), some (.v (.list E)), some (.l false (G ++ [.tuple [.int a, .int (e1 - 1)]])), some (.v (.int k)), none]) := by
  have hl := atD_last G (.tuple [.int a, .int b])
  have hi := ixOf_last G (.tuple [.int a, .int b])
  have hs : (G ++ [PyData.tuple [.int a, .int b]]).set G.length (.tuple [.int a, .int (e1 - 1)]) = G ++ [.tuple [.int a, .int (e1 - 1)]] := by simp
  have hp : (0 : Int) < ((G ++ [PyData.tuple [.int a, .int b]]).length : Int) := by simp
  generalize G ++ [PyData.tuple [.int a, .int b]] = F at *
  have hp' : 0 < F.length := by omega
  simp [X_law_union_3, -dIx, h0, h1, hh, hl, hne, hi, hs, hp']
/-- a set as the document has it, but for the gaps -/
def PwS (l : List (Int × Int)) : Prop := l.Pairwise fun x y => x.2 < y.1
theorem pw_snoc {l : List (Int × Int)} {y : Int × Int} (h : PwS l) (hy : ∀ x ∈ l, x.2 < y.1) : PwS (l ++ [y]) := by
  unfold PwS
  rw [List.pairwise_append]
  exact ⟨h, by simp, fun x hx z hz => by simp only [List.mem_singleton] at hz; subst hz; exact hy x hx⟩
theorem pw_left {l m : List (Int × Int)} (h : PwS (l ++ m)) : PwS l := (List.pairwise_append.mp h).1
def Fin (L : PyData) (E : List PyData) (top k B : Int) (n : Nat) (r : List (Int × Int)) (r' : List (Int × Int)) : Prop := (∀ x ∈ r', okPair top x) ∧ PwS r' ∧ r'.length ≤ n ∧ (∀ x ∈ r', x.2 < B) ∧ X_law_union_3 [some (.v L), some (.v (.int top)), some (.v (.list E)), some (.l false (prs r)), some (.v (.int k)), none] = some (.next, [some (.v L), some (.v (.int top)), some (.v (.list E)), some (.l false (prs r')), some (.v (.int k)), none])
theorem union_loop (L : PyData) (l : List (Int × Int)) (hL : L = .list (prs l)) (hl : l.length ≤ 16777216) (top : Int) (E : List Int) (hE : E.Pairwise (· < ·)) (hlen : E.length ≤ 64) (hb : ∀ e ∈ E, 0 ≤ e ∧ e ≤ top + 1) :
    ∃ (r : List (Int × Int)) (x4 : Option Cell), forL (gSet 4) X_law_union_3 (rng 0 (E.length - 1)) [some (.v L), some (.v (.int top)), some (.v (.list (E.map PyData.int))), some (.l false []), none, none] = some (.next, [some (.v L), some (.v (.int top)), some (.v (.list (E.map PyData.int))), some (.l false (prs r)), x4, none]) ∧ (∀ x ∈ r, okPair top x) ∧ PwS r ∧ r.length ≤ 64 := by
  obtain ⟨ρ', e, r, x4, rfl, q4, o, w, c, _⟩ := forL_rng (g := gSet 4) (b := X_law_union_3) (P := fun k ρ => ∃ (r : List (Int × Int)) (x4 : Option Cell), ρ = [some (.v L), some (.v (.int top)), some (.v (.list (E.map PyData.int))), some (.l false (prs r)), x4, none] ∧ plainC x4 ∧ (∀ x ∈ r, okPair top x) ∧ PwS r ∧ r.length ≤ k ∧ ∀ e, E[k]? = some e → ∀ x ∈ r, x.2 < e)
    (E.length - 1) [some (.v L), some (.v (.int top)), some (.v (.list (E.map PyData.int))), some (.l false []), none, none] ⟨[], none, rfl, .inl rfl, by simp, by simp [PwS], by simp, by simp⟩ (by
      rintro k ρ hk ⟨r, x4, rfl, q4, o, w, c, he⟩
      have k0 : k < E.length := by omega
      have k1 : k + 1 < E.length := by omega
      have hlt : E[k] < E[k + 1] := List.pairwise_iff_getElem.mp hE k (k + 1) k0 k1 (by omega)
      have b0 := hb E[k] (List.getElem_mem k0)
      have b1 := hb E[k + 1] (List.getElem_mem k1)
      have a0 := atD_ints E k k0
      have a1 := atD_ints E (k + 1) k1
      have he := he E[k] (by simp [k0])
      have hs : ∀ e, E[k + 1]? = some e → e = E[k + 1] := fun e h => by simpa [k1, eq_comm] using h
      generalize hA : E[k] = A at *
      generalize hB : E[k + 1] = B at *
      have hg : ∀ (d : PyData), gSet 4 d [some (.v L), some (.v (.int top)), some (.v (.list (E.map PyData.int))), some (.l false (prs r)), x4, none] = some [some (.v L), some (.v (.int top)), some (.v (.list (E.map PyData.int))), some (.l false (prs r)), some (.v d), none] := by
        intro d
        rcases q4 with rfl | ⟨y, rfl⟩ <;> rfl
      have hh := has_ok l L A (.inl hL) hl
      cases hc : hasP l A with
      | false =>
        rw [hc] at hh
        exact ⟨_, _, hg _, turn_no _ _ _ _ _ _ a0 hh, r, _, rfl, .inr ⟨_, rfl⟩, o, w, by omega, fun e h x hx => by rw [hs e h]; have := he x hx; omega⟩
      | true =>
        rw [hc] at hh
        suffices hfin : ∃ r', Fin L (E.map PyData.int) top (k : Nat) B (k + 1) r r' by
          obtain ⟨r', o', w', c', h', e'⟩ := hfin
          exact ⟨_, _, hg _, e', r', _, rfl, .inr ⟨_, rfl⟩, o', w', c', fun e h x hx => by rw [hs e h]; exact h' x hx⟩
        have hfl : (prs r).length < 16777216 := by simp [prs]; omega
        have app : (r = [] ∨ ∃ G a b, r = G ++ [(a, b)] ∧ b + 1 ≠ A) → ∃ r', Fin L (E.map PyData.int) top (k : Nat) B (k + 1) r r' := fun hn => ⟨r ++ [(A, B - 1)], (by
            intro x hx
            rcases List.mem_append.mp hx with hx | hx
            · exact o x hx
            · simp only [List.mem_singleton] at hx
              subst hx
              exact ⟨b0.1, by show A ≤ B - 1; omega, by show B - 1 ≤ top; omega⟩), (pw_snoc w he), (by simp; omega), (by
            intro x hx
            rcases List.mem_append.mp hx with hx | hx
            · have := he x hx; omega
            · simp only [List.mem_singleton] at hx
              subst hx
              show B - 1 < B
              omega), (by
            have e2 : prs (r ++ [(A, B - 1)]) = prs r ++ [.tuple [.int A, .int (B - 1)]] := by simp [prs, pr]
            rw [e2]
            refine turn_new _ _ _ _ _ _ _ a0 a1 hh hfl ?_
            rcases hn with rfl | ⟨G, a, b, rfl, hne⟩
            · exact .inl rfl
            · exact .inr ⟨prs G, a, b, by simp [prs, pr], hne⟩)⟩
        rcases List.eq_nil_or_concat r with rfl | ⟨G, ⟨a, b⟩, rfl⟩
        · exact app (.inl rfl)
        · by_cases hne : b + 1 = A
          · refine ⟨G ++ [(a, B - 1)], ?_, ?_, ?_, ?_, ?_⟩
            · intro x hx
              rcases List.mem_append.mp hx with hx | hx
              · exact o x (by simp [hx])
              · simp only [List.mem_singleton] at hx
                subst hx
                obtain ⟨o1, o2, o3⟩ := o (a, b) (by simp)
                simp only at o1 o2 o3
                exact ⟨o1, by show a ≤ B - 1; omega, by show B - 1 ≤ top; omega⟩
            · have w2 := w
              simp only [List.concat_eq_append] at w2
              refine pw_snoc (pw_left w2) fun x hx => ?_
              exact (List.pairwise_append.mp w2).2.2 x hx (a, b) (by simp)
            · simp at c ⊢; omega
            · intro x hx
              rcases List.mem_append.mp hx with hx | hx
              · have := he x (by simp [hx]); omega
              · simp only [List.mem_singleton] at hx
                subst hx
                show B - 1 < B
                omega
            · have e2 : prs (G.concat (a, b)) = prs G ++ [.tuple [.int a, .int b]] := by simp [prs, pr]
              have e3 : prs (G ++ [(a, B - 1)]) = prs G ++ [.tuple [.int a, .int (B - 1)]] := by simp [prs, pr]
              rw [e2, e3]
              exact turn_join _ _ _ _ _ _ _ _ _ a0 a1 hh hne
          · exact app (.inr ⟨G, a, b, by simp, hne⟩))
  exact ⟨r, x4, e, o, w, by omega⟩
theorem union_ok (l : List (Int × Int)) (top : Int) (h0 : 0 ≤ top) (h1 : top < 1000000000) (hl : l.length ≤ 30) (hok : ∀ x ∈ l, okPair top x) :
    ∃ r : List (Int × Int), F_law_union [.list (prs l), .int top] = some (.tuple (prs r)) ∧ (∀ x ∈ r, okPair top x) ∧ PwS r ∧ r.length ≤ 64 := by
  have hb : ∀ e ∈ sortI (edges l top), 0 ≤ e ∧ e ≤ top + 1 := by
    intro e he
    rw [mem_sortI] at he
    simp only [edges, List.mem_append, List.mem_cons, List.not_mem_nil, or_false, List.mem_map] at he
    rcases he with ((rfl | rfl) | ⟨p, hp, rfl⟩) | ⟨p, hp, rfl⟩
    · omega
    · omega
    · obtain ⟨o1, o2, o3⟩ := hok p hp
      split <;> omega
    · obtain ⟨o1, o2, o3⟩ := hok p hp
      split <;> omega
  have hln : (edges l top).length = 2 + l.length + l.length := by simp [edges]; omega
  have hls := len_sortI (edges l top)
  have hne : 0 < (sortI (edges l top)).length := List.length_pos_of_mem ((mem_sortI 0 _).mpr (by simp [edges]))
  obtain ⟨r, x4, e, o, w, c⟩ := union_loop (.list (prs l)) l rfl (by omega) top (sortI (edges l top)) (pw_sortI _) (by omega) hb
  refine ⟨r, ?_, o, w, c⟩
  have g1 := comp_u1 l top hl
  have g2 := comp_u2 l top hl
  have g3 := dSortSet_ints (edges l top) (by omega)
  have g4 : (edges l top).map PyData.int = .int 0 :: .int (top + 1) :: (l.map (fun p => PyData.int (if top + 1 < p.1 then top + 1 else p.1)) ++ l.map (fun p => PyData.int (if top + 1 < p.2 + 1 then top + 1 else p.2 + 1))) := by
    simp only [edges, List.map_append, List.map_cons, List.map_nil, List.map_map, List.cons_append, List.nil_append]
    rfl
  rw [g4] at g3
  generalize sortI (edges l top) = E at *
  have g5 : in62 ((E.length : Int) - 1) = true := by simp only [in62, Bool.and_eq_true, decide_eq_true_eq]; omega
  have g6 : ((E.length : Int) - 1).toNat = E.length - 1 := by omega
  have m1 : (l.map (fun p => PyData.int (if top + 1 < p.1 then top + 1 else p.1))).length = l.length := by simp
  have m2 : (l.map (fun p => PyData.int (if top + 1 < p.2 + 1 then top + 1 else p.2 + 1))).length = l.length := by simp
  generalize l.map (fun p => PyData.int (if top + 1 < p.1 then top + 1 else p.1)) = M1 at *
  generalize l.map (fun p => PyData.int (if top + 1 < p.2 + 1 then top + 1 else p.2 + 1)) = M2 at *
  have s1 : 2 + M1.length ≤ 16777216 := by omega
  have s2 : M1.length + 1 + 1 + M2.length ≤ 16777216 := by omega
  simp only [F_law_union, B_law_union, defP]
  simp [g1, g2, g3, s1, s2, sFor, itR1, g5, g6, e]
/-! ### drawn sets -/
theorem drawn_gen (A B : List PyData → List PyData → Option (PyData × List PyData)) (U : List PyData → Option PyData) (pd p1 p2 : List PyData) (top many : Int) (v d r : PyData) (e1 : A pd [.int (many + 1)] = some (v, p1)) (e2 : B p1 [.int top, v] = some (d, p2)) (e3 : U [d, .int top] = some r) :
    defL (sSeq (sRet (eCall U (nCons (eCallL B 0 (nCons (eName 1) (nCons (eCallL A 0 (nCons (eBin dAdd (eName 2) (eC (.int 1))) nNil)) nNil))) (nCons (eName 1) nNil)))) sNil) 2 0 pd [.int top, .int many] = some (r, p2) := by
  simp [defL, e1, e2, e3]
theorem drawn_set_ok (p : Pool) (h : p.ok) (top many : Int) (h0 : 0 ≤ top) (h1 : top < 1000000000) (m0 : 0 ≤ many) (m1 : many ≤ 30) :
    ∃ (r : List (Int × Int)) (p' : Pool), F_law_drawn_set p.d [.int top, .int many] = some (.tuple (prs r), p'.d) ∧ p'.ok ∧ (∀ x ∈ r, okPair top x) ∧ PwS r ∧ r.length ≤ 64 := by
  obtain ⟨v, p1, e1, k1, v0, v1⟩ := draw_ok p h (many + 1) (by omega) (by omega)
  obtain ⟨l, p2, e2, k2, ol, ll⟩ := pairs_ok p1 k1 top v h0 h1 v0 (by omega)
  obtain ⟨r, e3, o, w, c⟩ := union_ok l top h0 h1 (by omega) ol
  exact ⟨r, p2, drawn_gen F_law_draw F_law_pairs F_law_union _ _ _ _ _ _ _ _ e1 e2 e3, k2, o, w, c⟩
end Pr_C
end
section
set_option linter.all false
set_option maxRecDepth 100000
set_option Elab.async false
namespace Pr_C
open PySem PG
/-! ### sets, as the document has them -/
def Mem (r : List (Int × Int)) (n : Int) : Prop := ∃ x ∈ r, x.1 ≤ n ∧ n ≤ x.2
def Can (r : List (Int × Int)) : Prop := r.Pairwise (fun x y => x.2 + 1 < y.1) ∧ ∀ x ∈ r, x.1 ≤ x.2
theorem mem_cons {x : Int × Int} {r : List (Int × Int)} {n : Int} : Mem (x :: r) n ↔ (x.1 ≤ n ∧ n ≤ x.2) ∨ Mem r n := by
  constructor
  · rintro ⟨y, hy, h⟩
    rcases List.mem_cons.mp hy with rfl | hy
    · exact .inl h
    · exact .inr ⟨y, hy, h⟩
  · rintro (h | ⟨y, hy, h⟩)
    · exact ⟨x, by simp, h⟩
    · exact ⟨y, by simp [hy], h⟩
/-! ### unions -/
def Fin2 (L : PyData) (E : List PyData) (top k B : Int) (n : Nat) (l r : List (Int × Int)) (r' : List (Int × Int)) : Prop := Can r' ∧ r'.length ≤ n ∧ (∀ x ∈ r', x.2 < B) ∧ (∀ m, Mem r' m ↔ Mem l m ∧ m < B) ∧ X_law_union_3 [some (.v L), some (.v (.int top)), some (.v (.list E)), some (.l false (prs r)), some (.v (.int k)), none] = some (.next, [some (.v L), some (.v (.int top)), some (.v (.list E)), some (.l false (prs r')), some (.v (.int k)), none])
end Pr_C
end
section
set_option Elab.async false
set_option linter.all false
set_option maxRecDepth 100000
namespace Pr_C
open PySem PG
end Pr_C
end
section
set_option Elab.async false
set_option linter.all false
set_option maxRecDepth 100000
namespace PG
open PySem
/-! ### what is wanted of a part, and what it then wants of its own parts -/
def WS (f : SF) (ρ : Rho) (Q : Out → Rho → Prop) : Prop := ∃ o ρ', f ρ = some (o, ρ') ∧ Q o ρ'
def WE (f : EF) (ρ : Rho) (Q : PyData → Rho → Prop) : Prop := ∃ d ρ', f ρ = some (d, ρ') ∧ Q d ρ'
def WN (f : NF) (ρ : Rho) (Q : List PyData → Rho → Prop) : Prop := ∃ d ρ', f ρ = some (d, ρ') ∧ Q d ρ'
def WT (f : TF) (ρ : Rho) (Q : Bool → Rho → Prop) : Prop := ∃ d ρ', f ρ = some (d, ρ') ∧ Q d ρ'
def WO (f : Option EF) (ρ : Rho) (Q : Option Int → Rho → Prop) : Prop := ∃ d ρ', oE f ρ = some (d, ρ') ∧ Q d ρ'
def WG (g : GF) (d : PyData) (ρ : Rho) (Q : Rho → Prop) : Prop := ∃ ρ', g d ρ = some ρ' ∧ Q ρ'
/-- an answer is there, and it is as wanted -/
def WA (x : Option PyData) (Q : PyData → Prop) : Prop := ∃ z, x = some z ∧ Q z
def WL (x : Option (List PyData)) (Q : List PyData → Prop) : Prop := ∃ z, x = some z ∧ Q z
def WP (x : Option (PyData × List PyData)) (Q : PyData → List PyData → Prop) : Prop := ∃ z ps, x = some (z, ps) ∧ Q z ps
def WB (x : Option Bool) (Q : Bool → Prop) : Prop := ∃ z, x = some z ∧ Q z
theorem WA.mono {x : Option PyData} {Q R : PyData → Prop} (h : WA x Q) (k : ∀ z, Q z → R z) : WA x R := let ⟨z, e, q⟩ := h; ⟨z, e, k z q⟩
theorem WL.mono {x : Option (List PyData)} {Q R : List PyData → Prop} (h : WL x Q) (k : ∀ z, Q z → R z) : WL x R := let ⟨z, e, q⟩ := h; ⟨z, e, k z q⟩
theorem WP.mono {x : Option (PyData × List PyData)} {Q R : PyData → List PyData → Prop} (h : WP x Q) (k : ∀ z ps, Q z ps → R z ps) : WP x R := let ⟨z, ps, e, q⟩ := h; ⟨z, ps, e, k z ps q⟩
theorem WS.mono {f : SF} {ρ : Rho} {Q R : Out → Rho → Prop} (h : WS f ρ Q) (k : ∀ o ρ', Q o ρ' → R o ρ') : WS f ρ R := let ⟨o, r, e, q⟩ := h; ⟨o, r, e, k _ _ q⟩
theorem WE.mono {f : EF} {ρ : Rho} {Q R : PyData → Rho → Prop} (h : WE f ρ Q) (k : ∀ o ρ', Q o ρ' → R o ρ') : WE f ρ R := let ⟨o, r, e, q⟩ := h; ⟨o, r, e, k _ _ q⟩
theorem WN.mono {f : NF} {ρ : Rho} {Q R : List PyData → Rho → Prop} (h : WN f ρ Q) (k : ∀ o ρ', Q o ρ' → R o ρ') : WN f ρ R := let ⟨o, r, e, q⟩ := h; ⟨o, r, e, k _ _ q⟩
theorem WT.mono {f : TF} {ρ : Rho} {Q R : Bool → Rho → Prop} (h : WT f ρ Q) (k : ∀ o ρ', Q o ρ' → R o ρ') : WT f ρ R := let ⟨o, r, e, q⟩ := h; ⟨o, r, e, k _ _ q⟩
theorem wa_eq {x : Option PyData} {e : PyData} {Q : PyData → Prop} (h : x = some e) (q : Q e) : WA x Q := ⟨e, h, q⟩
theorem wl_eq {x : Option (List PyData)} {e : List PyData} {Q : List PyData → Prop} (h : x = some e) (q : Q e) : WL x Q := ⟨e, h, q⟩
theorem wb_eq {x : Option Bool} {e : Bool} {Q : Bool → Prop} (h : x = some e) (q : Q e) : WB x Q := ⟨e, h, q⟩
theorem of_wa {x : Option PyData} {e : PyData} (h : WA x (· = e)) : x = some e := by obtain ⟨z, h, rfl⟩ := h; exact h
section
variable {ρ : Rho}
/-! slots that are stored -/
def PlainC (x : Option Cell) : Prop := x = none ∨ ∃ d, x = some (.v d)
inductive SetR : Nat → PyData → Rho → Rho → Prop
  | h0 {d : PyData} {r : Rho} : SetR 0 d (none :: r) (some (.v d) :: r)
  | h1 {d x : PyData} {r : Rho} : SetR 0 d (some (.v x) :: r) (some (.v d) :: r)
  | hl {d : PyData} {xs : List PyData} {r : Rho} : SetR 0 d (some (.l false xs) :: r) (some (.v d) :: r)
  | hc {d : PyData} {c : Option Cell} {r : Rho} : PlainC c → SetR 0 d (c :: r) (some (.v d) :: r)
  | s {i : Nat} {d : PyData} {c : Option Cell} {r r' : Rho} : SetR i d r r' → SetR (i + 1) d (c :: r) (c :: r')
inductive SetLR : Nat → List PyData → Rho → Rho → Prop
  | h0 {d : List PyData} {r : Rho} : SetLR 0 d (none :: r) (some (.l false d) :: r)
  | h1 {d : List PyData} {x : PyData} {r : Rho} : SetLR 0 d (some (.v x) :: r) (some (.l false d) :: r)
  | hl {d xs : List PyData} {r : Rho} : SetLR 0 d (some (.l false xs) :: r) (some (.l false d) :: r)
  | s {i : Nat} {d : List PyData} {c : Option Cell} {r r' : Rho} : SetLR i d r r' → SetLR (i + 1) d (c :: r) (c :: r')
/-- an owned list in its slot is another one -/
inductive PutR : Nat → List PyData → Rho → List PyData → Rho → Prop
  | h {p : Bool} {ds ds' : List PyData} {r : Rho} : PutR 0 ds (some (.l p ds) :: r) ds' (some (.l p ds') :: r)
  | s {i : Nat} {ds ds' : List PyData} {c : Option Cell} {r r' : Rho} : PutR i ds r ds' r' → PutR (i + 1) ds (c :: r) ds' (c :: r')
theorem SetR.eq : ∀ {i : Nat} {d : PyData} {r r' : Rho}, SetR i d r r' → setV i d r = some r'
  | _, _, _, _, .h0 => rfl
  | _, _, _, _, .h1 => rfl
  | _, _, _, _, .hl => rfl
  | _, _, _, _, .hc h => by rcases h with rfl | ⟨x, rfl⟩ <;> rfl
  | _, _, _, _, .s (i := i) (c := c) (r := r) h => by
    have := h.eq
    unfold setV at this ⊢
    rw [List.getElem?_cons_succ]
    split at this
    · cases this
    · cases this
    · rename_i x q1 q2
      cases e : r[i]? with
      | none => exact absurd e q1
      | some y =>
        cases y with
        | none => rw [e] at *; simp at this ⊢; exact this
        | some y =>
          cases y with
          | v y => rw [e] at *; simp at this ⊢; exact this
          | l p y =>
            cases p with
            | true => exact absurd e (q2 y)
            | false => rw [e] at *; simp at this ⊢; exact this
theorem SetLR.eq : ∀ {i : Nat} {d : List PyData} {r r' : Rho}, SetLR i d r r' → setL i d r = some r'
  | _, _, _, _, .h0 => rfl
  | _, _, _, _, .h1 => rfl
  | _, _, _, _, .hl => rfl
  | _, _, _, _, .s (i := i) (c := c) (r := r) h => by
    have := h.eq
    unfold setL at this ⊢
    rw [List.getElem?_cons_succ]
    split at this
    · cases this
    · cases this
    · rename_i x q1 q2
      cases e : r[i]? with
      | none => exact absurd e q1
      | some y =>
        cases y with
        | none => rw [e] at *; simp at this ⊢; exact this
        | some y =>
          cases y with
          | v y => rw [e] at *; simp at this ⊢; exact this
          | l p y =>
            cases p with
            | true => exact absurd e (q2 y)
            | false => rw [e] at *; simp at this ⊢; exact this
theorem PutR.get {i : Nat} {ds ds' : List PyData} {r r' : Rho} (h : PutR i ds r ds' r') : ∃ p, r[i]? = some (some (.l p ds)) ∧ r.set i (some (.l p ds')) = r' := by
  induction h with
  | h => exact ⟨_, rfl, rfl⟩
  | s h ih =>
    obtain ⟨p, e1, e2⟩ := ih
    exact ⟨p, by rw [List.getElem?_cons_succ]; exact e1, by rw [List.set_cons_succ, e2]⟩

/-! expressions -/
variable {Q : PyData → Rho → Prop} {f g h : EF} {n m : NF} {t u : TF}
theorem we_name {i : Nat} {d : PyData} (hget : ρ[i]? = some (some (.v d))) (q : Q d ρ) : WE (eName i) ρ Q := ⟨d, ρ, by simp [hget], q⟩
theorem we_frz {i : Nat} {ds : List PyData} {ρ' : Rho} (hget : ρ[i]? = some (some (.l false ds))) (hset : SetR i (.list ds) ρ ρ') (q : Q (.list ds) ρ') : WE (eFrz i) ρ Q := by
  refine ⟨.list ds, ρ', ?_, q⟩
  have := hset.eq
  simp only [setV, hget, Option.some.injEq] at this
  simp [hget, this]
theorem we_c {d : PyData} (q : Q d ρ) : WE (eC d) ρ Q := ⟨d, ρ, rfl, q⟩
theorem we_un {o : PyData → Option PyData} (w : WE f ρ fun x ρ1 => WA (o x) fun z => Q z ρ1) : WE (eUn o f) ρ Q := by
  obtain ⟨x, r, e, z, e2, q⟩ := w
  exact ⟨z, r, by simp [e, e2], q⟩
theorem we_bin {o : PyData → PyData → Option PyData} (w : WE f ρ fun x ρ1 => WE g ρ1 fun y ρ2 => WA (o x y) fun z => Q z ρ2) : WE (eBin o f g) ρ Q := by
  obtain ⟨x, r, e, y, r2, e2, z, e3, q⟩ := w
  exact ⟨z, r2, by simp [e, e2, e3], q⟩
theorem we_if (w : WT t ρ fun b ρ1 => (b = true → WE f ρ1 Q) ∧ (b = false → WE g ρ1 Q)) : WE (eIf t f g) ρ Q := by
  obtain ⟨b, r, e, q1, q2⟩ := w
  cases b with
  | true => obtain ⟨z, r2, e2, q⟩ := q1 rfl; exact ⟨z, r2, by simp [e, e2], q⟩
  | false => obtain ⟨z, r2, e2, q⟩ := q2 rfl; exact ⟨z, r2, by simp [e, e2], q⟩
theorem we_tup (w : WN n ρ fun xs ρ1 => xs.length ≤ 16777216 ∧ Q (.tuple xs) ρ1) : WE (eTup n) ρ Q := by
  obtain ⟨x, r, e, z, q⟩ := w
  exact ⟨_, r, by simp [e, z], q⟩
theorem we_lst (w : WN n ρ fun xs ρ1 => Q (.list xs) ρ1) : WE (eLst n) ρ Q := by
  obtain ⟨x, r, e, q⟩ := w
  exact ⟨_, r, by simp [e], q⟩
theorem we_call {F : List PyData → Option PyData} (w : WN n ρ fun xs ρ1 => WA (F xs) fun z => Q z ρ1) : WE (eCall F n) ρ Q := by
  obtain ⟨x, r, e, z, e2, q⟩ := w
  exact ⟨z, r, by simp [e, e2], q⟩
theorem PutR.uniq {i : Nat} {ds ds' : List PyData} {r r' : Rho} {p : Bool} {es : List PyData} (h : PutR i ds r ds' r') (e : r[i]? = some (some (.l p es))) : es = ds ∧ r.set i (some (.l p ds')) = r' := by
  obtain ⟨q, e1, e2⟩ := h.get
  rw [e1] at e
  cases e
  exact ⟨rfl, e2⟩
theorem we_callL {F : List PyData → List PyData → Option (PyData × List PyData)} {i : Nat} {p0 : Bool} {ps0 : List PyData} (hget : ρ[i]? = some (some (.l p0 ps0)))
    (w : WN n ρ fun xs ρ1 => ∃ p ps, ρ1[i]? = some (some (.l p ps)) ∧ WP (F ps xs) fun z ps' => ∃ ρ2, PutR i ps ρ1 ps' ρ2 ∧ Q z ρ2) : WE (eCallL F i n) ρ Q := by
  obtain ⟨x, r, e, p, ps, h1, z, ps', e2, r2, hp, q⟩ := w
  refine ⟨z, r2, ?_, q⟩
  simp [hget, e, h1, e2, (hp.uniq h1).2]
theorem we_ixL {o : PyData → PyData → Option PyData} {i : Nat} {p0 : Bool} {ps0 : List PyData} (hget : ρ[i]? = some (some (.l p0 ps0))) (w : WE g ρ fun y ρ1 => ∃ p ps, ρ1[i]? = some (some (.l p ps)) ∧ WA (o (.list ps) y) fun z => Q z ρ1) : WE (eIxL o i g) ρ Q := by
  obtain ⟨x, r, e, p, ps, h1, z, e2, q⟩ := w
  exact ⟨z, r, by simp [hget, e, h1, e2], q⟩
theorem we_unL {o : PyData → Option PyData} {i : Nat} {p0 : Bool} {ps0 : List PyData} (hget : ρ[i]? = some (some (.l p0 ps0))) (w : WA (o (.list ps0)) fun z => Q z ρ) : WE (eUnL o i) ρ Q := by
  obtain ⟨z, e2, q⟩ := w
  exact ⟨z, ρ, by simp [hget, e2], q⟩
theorem we_and (w : WE f ρ fun x ρ1 => WB (truth x) fun b => (b = true → WE g ρ1 Q) ∧ (b = false → Q x ρ1)) : WE (eAnd f g) ρ Q := by
  obtain ⟨x, r, e, b, e2, q1, q2⟩ := w
  cases b with
  | true => obtain ⟨z, r2, e3, q⟩ := q1 rfl; exact ⟨z, r2, by simp [-truth, e, e2, e3], q⟩
  | false => exact ⟨x, r, by simp [-truth, e, e2], q2 rfl⟩
theorem we_or (w : WE f ρ fun x ρ1 => WB (truth x) fun b => (b = true → Q x ρ1) ∧ (b = false → WE g ρ1 Q)) : WE (eOr f g) ρ Q := by
  obtain ⟨x, r, e, b, e2, q1, q2⟩ := w
  cases b with
  | true => exact ⟨x, r, by simp [-truth, e, e2], q1 rfl⟩
  | false => obtain ⟨z, r2, e3, q⟩ := q2 rfl; exact ⟨z, r2, by simp [-truth, e, e2, e3], q⟩
theorem we_not (w : WE f ρ fun x ρ1 => WB (truth x) fun b => Q (.bool (!b)) ρ1) : WE (eNot f) ρ Q := by
  obtain ⟨x, r, e, b, e2, q⟩ := w
  exact ⟨_, r, by simp [-truth, e, e2], q⟩
theorem we_chain {o o' : PyData → PyData → Option PyData} (w : WE f ρ fun x ρ1 => WE g ρ1 fun y ρ2 => ∃ b, o x y = some (.bool b) ∧ (b = true → WE h ρ2 fun z ρ3 => ∃ c, o' y z = some (.bool c) ∧ Q (.bool c) ρ3) ∧ (b = false → Q (.bool false) ρ2)) : WE (eChain o o' f g h) ρ Q := by
  obtain ⟨x, r, e, y, r2, e2, b, e3, q1, q2⟩ := w
  cases b with
  | true => obtain ⟨z, r3, e4, c, e5, q⟩ := q1 rfl; exact ⟨_, r3, by simp [e, e2, e3, e4, e5], q⟩
  | false => exact ⟨_, r2, by simp [e, e2, e3], q2 rfl⟩
theorem we_slT {lo hi : Option EF} (w : WE f ρ fun x ρ1 => ∃ xs, x = .tuple xs ∧ WO lo ρ1 fun l ρ2 => WO hi ρ2 fun u ρ3 => Q (.tuple (cutD xs l u)) ρ3) : WE (eSlT f lo hi) ρ Q := by
  obtain ⟨x, r, e, xs, rfl, l, r2, e2, u, r3, e3, q⟩ := w
  exact ⟨_, r3, by simp [-oE, e, e2, e3], q⟩
theorem wo_none {Q : Option Int → Rho → Prop} (q : Q none ρ) : WO none ρ Q := ⟨_, _, rfl, q⟩
theorem wo_some {Q : Option Int → Rho → Prop} (w : WE f ρ fun x ρ1 => ∃ i, x = .int i ∧ Q (some i) ρ1) : WO (some f) ρ Q := by
  obtain ⟨x, r, e, i, rfl, q⟩ := w
  exact ⟨_, r, by simp [e], q⟩
/-! argument lists, new lists -/
variable {R : List PyData → Rho → Prop}
theorem wn_nil (q : R [] ρ) : WN nNil ρ R := ⟨_, _, rfl, q⟩
theorem wn_cons (w : WE f ρ fun x ρ1 => WN n ρ1 fun xs ρ2 => R (x :: xs) ρ2) : WN (nCons f n) ρ R := by
  obtain ⟨x, r, e, xs, r2, e2, q⟩ := w
  exact ⟨_, r2, by simp [e, e2], q⟩
theorem wn_star (w : WE f ρ fun x ρ1 => ∃ xs, (x = .list xs ∨ x = .tuple xs) ∧ WN n ρ1 fun ys ρ2 => R (xs ++ ys) ρ2) : WN (nStar f n) ρ R := by
  obtain ⟨x, r, e, xs, hx, ys, r2, e2, q⟩ := w
  refine ⟨_, r2, ?_, q⟩
  rcases hx with rfl | rfl <;> simp [e, e2]
theorem wn_disp (w : WN n ρ fun xs ρ1 => xs.length ≤ 16777216 ∧ R xs ρ1) : WN (nDisp n) ρ R := by
  obtain ⟨x, r, e, z, q⟩ := w
  exact ⟨_, r, by simp [e, z], q⟩
theorem wn_call {F : List PyData → Option (List PyData)} (w : WN n ρ fun xs ρ1 => WL (F xs) fun z => R z ρ1) : WN (nCall F n) ρ R := by
  obtain ⟨x, r, e, z, e2, q⟩ := w
  exact ⟨z, r, by simp [e, e2], q⟩
theorem wn_sl {lo hi : Option EF} (w : WE f ρ fun x ρ1 => ∃ xs, (x = .list xs ∨ x = RO xs) ∧ WO lo ρ1 fun l ρ2 => WO hi ρ2 fun u ρ3 => R (cutD xs l u) ρ3) : WN (nSl f lo hi) ρ R := by
  obtain ⟨x, r, e, xs, hx, l, r2, e2, u, r3, e3, q⟩ := w
  refine ⟨_, r3, ?_, q⟩
  rcases hx with rfl | rfl <;> simp [-oE, RO, e, e2, e3]
theorem wn_its (w : WE f ρ fun x ρ1 => ∃ xs, (x = .list xs ∨ x = .tuple xs ∨ x = RO xs) ∧ R xs ρ1) : WN (itS f) ρ R := by
  obtain ⟨x, r, e, xs, hx, q⟩ := w
  refine ⟨_, r, ?_, q⟩
  rcases hx with rfl | rfl | rfl <;> simp [RO, e]
theorem wn_r1 (w : WN n ρ fun xs ρ1 => ∃ j, xs = [.int j] ∧ in62 j = true ∧ R (rng 0 j.toNat) ρ1) : WN (itR1 n) ρ R := by
  obtain ⟨x, r, e, j, rfl, e2, q⟩ := w
  exact ⟨_, r, by simp [itR1, e, e2], q⟩
theorem wn_r2 (w : WN n ρ fun xs ρ1 => ∃ i j, xs = [.int i, .int j] ∧ in62 i = true ∧ in62 j = true ∧ R (rng i (j - i).toNat) ρ1) : WN (itR2 n) ρ R := by
  obtain ⟨x, r, e, i, j, rfl, e2, e3, q⟩ := w
  exact ⟨_, r, by simp [itR2, e, e2, e3], q⟩
theorem wn_r3 (w : WN n ρ fun xs ρ1 => ∃ j, xs = [.int 0, .int j, .int 2] ∧ 0 ≤ j ∧ j ≤ 16777216 ∧ R (stp 2 ((j + 1) / 2).toNat) ρ1) : WN (itR3 n) ρ R := by
  obtain ⟨x, r, e, j, rfl, e2, e3, q⟩ := w
  exact ⟨_, r, by simp [itR3, e, e2, e3], q⟩
/-! tests -/
variable {P : Bool → Rho → Prop}
theorem wt_tru (w : WE f ρ fun x ρ1 => WB (truth x) fun b => P b ρ1) : WT (tTru f) ρ P := by
  obtain ⟨x, r, e, b, e2, q⟩ := w
  exact ⟨b, r, by simp [-truth, e, e2], q⟩
theorem wt_bl (w : WE f ρ fun x ρ1 => ∃ b, x = .bool b ∧ P b ρ1) : WT (tBl f) ρ P := by
  obtain ⟨x, r, e, b, rfl, q⟩ := w
  exact ⟨b, r, by simp [e], q⟩
theorem wt_truL {i : Nat} {p : Bool} {ds : List PyData} (hget : ρ[i]? = some (some (.l p ds))) (q : P (!ds.isEmpty) ρ) : WT (tTruL i) ρ P := ⟨_, ρ, by simp [hget], q⟩
theorem wt_and (w : WT t ρ fun b ρ1 => (b = true → WT u ρ1 P) ∧ (b = false → P false ρ1)) : WT (tAnd' t u) ρ P := by
  obtain ⟨b, r, e, q1, q2⟩ := w
  cases b with
  | true => obtain ⟨z, r2, e2, q⟩ := q1 rfl; exact ⟨z, r2, by simp [e, e2], q⟩
  | false => exact ⟨_, r, by simp [e], q2 rfl⟩
theorem wt_or (w : WT t ρ fun b ρ1 => (b = true → P true ρ1) ∧ (b = false → WT u ρ1 P)) : WT (tOr' t u) ρ P := by
  obtain ⟨b, r, e, q1, q2⟩ := w
  cases b with
  | false => obtain ⟨z, r2, e2, q⟩ := q2 rfl; exact ⟨z, r2, by simp [e, e2], q⟩
  | true => exact ⟨_, r, by simp [e], q1 rfl⟩
theorem wt_not (w : WT t ρ fun b ρ1 => P (!b) ρ1) : WT (tNot' t) ρ P := by
  obtain ⟨b, r, e, q⟩ := w
  exact ⟨_, r, by simp [e], q⟩
theorem wt_yes (q : P true ρ) : WT tYesF ρ P := ⟨_, _, rfl, q⟩
/-! statements -/
variable {S : Out → Rho → Prop} {a b c : SF}
theorem ws_asc (w : WS (sSeq a (sSeq b c)) ρ S) : WS (sSeq (sSeq a b) c) ρ S := by
  obtain ⟨o, r, e, q⟩ := w
  refine ⟨o, r, ?_, q⟩
  simp only [sSeq] at e ⊢
  cases h : a ρ with
  | none => rw [h] at e; cases e
  | some x =>
    obtain ⟨oa, ra⟩ := x
    rw [h] at e
    cases oa <;> exact e
theorem ws_nilc (w : WS c ρ S) : WS (sSeq sNil c) ρ S := by
  obtain ⟨o, r, e, q⟩ := w
  exact ⟨o, r, by simpa using e, q⟩
theorem ws_nil (q : S .next ρ) : WS sNil ρ S := ⟨_, _, rfl, q⟩
theorem ws_set {i : Nat} (w : WE f ρ fun d ρ1 => ∃ ρ2, SetR i d ρ1 ρ2 ∧ WS c ρ2 S) : WS (sSeq (sSet i f) c) ρ S := by
  obtain ⟨d, r, e, r2, s, o, r3, e3, q⟩ := w
  exact ⟨o, r3, by simp [-setV, e, s.eq, e3], q⟩
theorem ws_setL {i : Nat} (w : WN n ρ fun d ρ1 => ∃ ρ2, SetLR i d ρ1 ρ2 ∧ WS c ρ2 S) : WS (sSeq (sSetL i n) c) ρ S := by
  obtain ⟨d, r, e, r2, s, o, r3, e3, q⟩ := w
  exact ⟨o, r3, by simp [-setL, e, s.eq, e3], q⟩
theorem ws_if (w : WT t ρ fun x ρ1 => (x = true → WS (sSeq a c) ρ1 S) ∧ (x = false → WS (sSeq b c) ρ1 S)) : WS (sSeq (sIf t a b) c) ρ S := by
  obtain ⟨x, r, e, q1, q2⟩ := w
  cases x with
  | true => obtain ⟨o, r2, e2, q⟩ := q1 rfl; exact ⟨o, r2, by simp only [sSeq, sIf, e] at e2 ⊢; exact e2, q⟩
  | false => obtain ⟨o, r2, e2, q⟩ := q2 rfl; exact ⟨o, r2, by simp only [sSeq, sIf, e] at e2 ⊢; exact e2, q⟩
theorem ws_ret (w : WE f ρ fun d ρ1 => S (.ret d) ρ1) : WS (sSeq (sRet f) c) ρ S := by
  obtain ⟨d, r, e, q⟩ := w
  exact ⟨_, r, by simp [e], q⟩
theorem ws_retL (w : WN n ρ fun d ρ1 => S (.retL d) ρ1) : WS (sSeq (sRetL n) c) ρ S := by
  obtain ⟨d, r, e, q⟩ := w
  exact ⟨_, r, by simp [e], q⟩
theorem ws_retO {i : Nat} {ds : List PyData} (hget : ρ[i]? = some (some (.l false ds))) (q : S (.retL ds) ρ) : WS (sSeq (sRetO i) c) ρ S := ⟨_, ρ, by simp [hget], q⟩
theorem ws_expr (w : WE f ρ fun d ρ1 => WS c ρ1 S) : WS (sSeq (sExpr f) c) ρ S := by
  obtain ⟨d, r, e, o, r2, e2, q⟩ := w
  exact ⟨o, r2, by simp [e, e2], q⟩
theorem ws_brk (q : S .brk ρ) : WS (sSeq sBrk c) ρ S := ⟨_, ρ, rfl, q⟩
theorem ws_cont (q : S .cont ρ) : WS (sSeq sCont c) ρ S := ⟨_, ρ, rfl, q⟩
theorem ws_app {i : Nat} {p0 : Bool} {ps0 : List PyData} (hget : ρ[i]? = some (some (.l p0 ps0))) (w : WE f ρ fun d ρ1 => ∃ ds, ds.length < 16777216 ∧ ∃ ρ2, PutR i ds ρ1 (ds ++ [d]) ρ2 ∧ WS c ρ2 S) : WS (sSeq (sApp i f) c) ρ S := by
  obtain ⟨d, r, e, ds, z, r2, s, o, r3, e3, q⟩ := w
  obtain ⟨p, g1, g2⟩ := s.get
  exact ⟨o, r3, by simp [hget, e, g1, z, g2, e3], q⟩
theorem ws_sto {i : Nat} (w : WE f ρ fun d ρ1 => ∃ p0 ps0, ρ1[i]? = some (some (.l p0 ps0)) ∧ WE g ρ1 fun k ρ2 => ∃ kk j ds, k = .int kk ∧ ixOf ds.length kk = some j ∧ ∃ ρ3, PutR i ds ρ2 (ds.set j d) ρ3 ∧ WS c ρ3 S) : WS (sSeq (sSto i g f) c) ρ S := by
  obtain ⟨d, r, e, p0, ps0, h1, k, r2, e2, kk, j, ds, rfl, ej, r3, s, o, r4, e4, q⟩ := w
  obtain ⟨p, g1, g2⟩ := s.get
  exact ⟨o, r4, by simp [e, h1, e2, g1, ej, g2, e4], q⟩
theorem ws_for {it : NF} {g : GF} (w : WN it ρ fun ds ρ1 => WS (sSeq (forL g b ds) c) ρ1 S) : WS (sSeq (sFor it g b) c) ρ S := by
  obtain ⟨ds, r, e, o, r2, e2, q⟩ := w
  exact ⟨o, r2, by simp only [sSeq, sFor, e] at e2 ⊢; exact e2, q⟩
theorem ws_asg {g : GF} (w : WE f ρ fun d ρ1 => WG g d ρ1 fun ρ2 => WS c ρ2 S) : WS (sSeq (sAsg f g) c) ρ S := by
  obtain ⟨d, r, e, r2, e2, o, r3, e3, q⟩ := w
  exact ⟨o, r3, by simp [e, e2, e3], q⟩
theorem ws_par {is : List Nat} (w : WN n ρ fun ds ρ1 => WG (fun _ => gPairs is ds) .none ρ1 fun ρ2 => WS c ρ2 S) : WS (sSeq (sPar is n) c) ρ S := by
  obtain ⟨d, r, e, r2, e2, o, r3, e3, q⟩ := w
  exact ⟨o, r3, by simp [e, e2, e3], q⟩
theorem ws_aug {i : Nat} {o : PyData → PyData → Option PyData} {x : PyData} (hget : ρ[i]? = some (some (.v x))) (w : WE f ρ fun y ρ1 => WA (o x y) fun z => ∃ ρ2, SetR i z ρ1 ρ2 ∧ WS c ρ2 S) : WS (sSeq (sAug i o f) c) ρ S := by
  obtain ⟨d, r, e, z, e2, r2, s, o, r3, e3, q⟩ := w
  exact ⟨o, r3, by simp [-setV, hget, e, e2, s.eq, e3], q⟩
/-! targets -/
variable {T : Rho → Prop}
theorem wg_set {i : Nat} {d : PyData} {ρ' : Rho} (hset : SetR i d ρ ρ') (q : T ρ') : WG (gSet i) d ρ T := ⟨_, hset.eq, q⟩
theorem wg_tup {is : List Nat} {ds : List PyData} (w : WG (fun _ => gPairs is ds) .none ρ T) : WG (gTupS is) (.tuple ds) ρ T := by
  obtain ⟨r, e, q⟩ := w
  exact ⟨r, by simpa using e, q⟩
theorem wg_p0 {x : PyData} (q : T ρ) : WG (fun _ => gPairs [] []) x ρ T := ⟨ρ, rfl, q⟩
theorem wg_ps {i : Nat} {is : List Nat} {d x : PyData} {ds : List PyData} {ρ' : Rho} (hset : SetR i d ρ ρ') (w : WG (fun _ => gPairs is ds) x ρ' T) : WG (fun _ => gPairs (i :: is) (d :: ds)) x ρ T := by
  obtain ⟨r, e, q⟩ := w
  exact ⟨r, by simp only [gPairs, hset.eq]; exact e, q⟩
/-! the loop over known items -/
theorem ws_forn {g : GF} (w : WS c ρ S) : WS (sSeq (forL g b []) c) ρ S := by
  obtain ⟨o, r, e, q⟩ := w
  exact ⟨o, r, by simpa [forL] using e, q⟩
/-- behind one turn -/
def Turn (g : GF) (b c : SF) (ds : List PyData) (S : Out → Rho → Prop) : Out → Rho → Prop
  | .next, ρ => WS (sSeq (forL g b ds) c) ρ S
  | .cont, ρ => WS (sSeq (forL g b ds) c) ρ S
  | .brk, ρ => WS c ρ S
  | o, ρ => S o ρ
/-! comprehensions -/
/-- a comprehension by an invariant: what is left, what is made, the state; its own slots are empty ahead of it -/
theorem wn_compI {it : NF} {g : GF} {e : EF} {vs : List Nat} (I : List PyData → List PyData → Rho → Prop)
    (w : WN it ρ fun ds ρ1 => plainAt ρ1 vs = true ∧ I ds [] (wipeR ρ1 vs) ∧
      (∀ d r acc ρ2, I (d :: r) acc ρ2 → WG g d ρ2 fun ρ3 => WT t ρ3 fun b ρ4 => (b = true → WE e ρ4 fun y ρ5 => plainAt ρ5 vs = true ∧ acc.length < 16777216 ∧ I r (acc ++ [y]) (wipeR ρ5 vs)) ∧ (b = false → plainAt ρ4 vs = true ∧ I r acc (wipeR ρ4 vs))) ∧
      ∀ acc ρ2, I [] acc ρ2 → R acc (restR ρ1 ρ2 vs)) : WN (nComp it g t e vs) ρ R := by
  obtain ⟨ds, r1, e1, hp, h0, hs, hd⟩ := w
  have key : ∀ (ds acc : List PyData) (ρ2 : Rho), I ds acc ρ2 → ∃ acc' ρ3, compL g t e vs ds acc ρ2 = some (acc', ρ3) ∧ I [] acc' ρ3 := by
    intro ds
    induction ds with
    | nil => intro acc ρ2 h; exact ⟨acc, ρ2, rfl, h⟩
    | cons d r ih =>
      intro acc ρ2 h
      obtain ⟨r3, f3, b, r4, f4, q1, q2⟩ := hs d r acc ρ2 h
      cases b with
      | true =>
        obtain ⟨y, r5, f5, p5, l5, i5⟩ := q1 rfl
        obtain ⟨acc', r6, f6, i6⟩ := ih _ _ i5
        exact ⟨acc', r6, by rw [compL]; simp [f3, f4, f5, p5, l5, f6], i6⟩
      | false =>
        obtain ⟨p5, i5⟩ := q2 rfl
        obtain ⟨acc', r6, f6, i6⟩ := ih _ _ i5
        exact ⟨acc', r6, by rw [compL]; simp [f3, f4, p5, f6], i6⟩
  obtain ⟨acc', r3, e3, i3⟩ := key ds [] _ h0
  exact ⟨acc', _, by unfold nComp; simp only [e1, hp, if_true, e3], hd acc' r3 i3⟩
/-- one that changes nothing: an item x is kept if k x, and gives m x; its own slots are empty ahead of it -/
theorem wn_map {it : NF} {g : GF} {e : EF} {vs : List Nat} {α : Type} (en : α → PyData) (k : α → Bool) (m : α → PyData) (l : List α)
    (w : WN it ρ fun ds ρ1 => ds = l.map en ∧ l.length ≤ 16777216 ∧ plainAt ρ1 vs = true ∧
      (∀ x ∈ l, WG g (en x) (wipeR ρ1 vs) fun ρ3 => WT t ρ3 fun b ρ4 => b = k x ∧ (k x = true → WE e ρ4 fun y ρ5 => y = m x ∧ plainAt ρ5 vs = true ∧ wipeR ρ5 vs = wipeR ρ1 vs) ∧ (k x = false → plainAt ρ4 vs = true ∧ wipeR ρ4 vs = wipeR ρ1 vs)) ∧
      R ((l.filter k).map m) (restR ρ1 (wipeR ρ1 vs) vs)) : WN (nComp it g t e vs) ρ R := by
  obtain ⟨ds, r1, e1, rfl, hl, hp, hx, hd⟩ := w
  refine wn_compI (fun ds acc ρ2 => ∃ l2 l1, l = l1 ++ l2 ∧ ds = l2.map en ∧ acc = (l1.filter k).map m ∧ ρ2 = wipeR r1 vs) ⟨_, r1, e1, hp, ⟨l, [], rfl, rfl, rfl, rfl⟩, ?_, ?_⟩
  · rintro d r acc ρ2 ⟨l2, l1, el, ed, rfl, rfl⟩
    cases l2 with
    | nil => cases ed
    | cons x l2 =>
      simp only [List.map_cons, List.cons.injEq] at ed
      obtain ⟨rfl, rfl⟩ := ed
      obtain ⟨r3, f3, b, r4, f4, hb, q1, q2⟩ := hx x (by rw [el]; simp)
      refine ⟨r3, f3, b, r4, f4, fun hb1 => ?_, fun hb1 => ?_⟩
      · rw [hb] at hb1
        obtain ⟨y, r5, f5, rfl, p5, w5⟩ := q1 hb1
        refine ⟨_, r5, f5, p5, ?_, l2, l1 ++ [x], by simp [el], rfl, by simp [hb1], w5⟩
        have h1 := List.length_filter_le k l1
        have h2 : l1.length + (l2.length + 1) = l.length := by rw [el]; simp
        simp only [List.length_map]
        omega
      · rw [hb] at hb1
        obtain ⟨p5, w5⟩ := q2 hb1
        exact ⟨p5, l2, l1 ++ [x], by simp [el], rfl, by simp [hb1], w5⟩
  · rintro acc ρ2 ⟨l2, l1, el, ed, rfl, rfl⟩
    have : l2 = [] := by cases l2 with
      | nil => rfl
      | cons _ _ => cases ed
    subst this
    rw [List.append_nil] at el
    subst el
    exact hd
end

theorem setr_i {i : Nat} {d : PyData} {ρ ρ' : Rho} {P : Rho → Prop} (hset : SetR i d ρ ρ') (q : P ρ') : ∃ ρ2, SetR i d ρ ρ2 ∧ P ρ2 := ⟨_, hset, q⟩
theorem setl_i {i : Nat} {d : List PyData} {ρ ρ' : Rho} {P : Rho → Prop} (hset : SetLR i d ρ ρ') (q : P ρ') : ∃ ρ2, SetLR i d ρ ρ2 ∧ P ρ2 := ⟨_, hset, q⟩
theorem put_i {i : Nat} {ds ds' : List PyData} {ρ ρ' : Rho} {P : Rho → Prop} (hset : PutR i ds ρ ds' ρ') (q : P ρ') : ∃ ρ2, PutR i ds ρ ds' ρ2 ∧ P ρ2 := ⟨_, hset, q⟩
theorem pool_i {ρ : Rho} {i : Nat} {p : Bool} {ps : List PyData} {P : List PyData → Prop} (hget : ρ[i]? = some (some (.l p ps))) (q : P ps) : ∃ p ps, ρ[i]? = some (some (.l p ps)) ∧ P ps := ⟨_, _, hget, q⟩
theorem bool_i {b : Bool} {P : Bool → Prop} (q : P b) : ∃ c, PyData.bool b = .bool c ∧ P c := ⟨_, rfl, q⟩
theorem int_i {b : Int} {P : Int → Prop} (q : P b) : ∃ c, PyData.int b = .int c ∧ P c := ⟨_, rfl, q⟩
theorem r1_i {j : Int} {P : Int → Prop} (h : in62 j = true) (q : P j) : ∃ i, [PyData.int j] = [.int i] ∧ in62 i = true ∧ P i := ⟨_, rfl, h, q⟩
theorem seqL_i {xs : List PyData} {P : List PyData → Prop} (q : P xs) : ∃ ys, (PyData.list xs = .list ys ∨ PyData.list xs = .tuple ys ∨ PyData.list xs = RO ys) ∧ P ys := ⟨_, .inl rfl, q⟩
theorem seqT_i {xs : List PyData} {P : List PyData → Prop} (q : P xs) : ∃ ys, (PyData.tuple xs = .list ys ∨ PyData.tuple xs = .tuple ys ∨ PyData.tuple xs = RO ys) ∧ P ys := ⟨_, .inr (.inl rfl), q⟩
theorem seqR_i {xs : List PyData} {P : List PyData → Prop} (q : P xs) : ∃ ys, (RO xs = .list ys ∨ RO xs = .tuple ys ∨ RO xs = RO ys) ∧ P ys := ⟨_, .inr (.inr rfl), q⟩
theorem starT_i {xs : List PyData} {P : List PyData → Prop} (q : P xs) : ∃ ys, (PyData.tuple xs = .list ys ∨ PyData.tuple xs = .tuple ys) ∧ P ys := ⟨_, .inr rfl, q⟩
theorem starL_i {xs : List PyData} {P : List PyData → Prop} (q : P xs) : ∃ ys, (PyData.list xs = .list ys ∨ PyData.list xs = .tuple ys) ∧ P ys := ⟨_, .inl rfl, q⟩
theorem len_i {xs : List PyData} {P : Prop} (h : Nat.ble xs.length 16777216 = true) (q : P) : xs.length ≤ 16777216 ∧ P := ⟨Nat.le_of_ble_eq_true h, q⟩
theorem tup_i {xs : List PyData} {P : List PyData → Prop} (q : P xs) : ∃ ys, PyData.tuple xs = .tuple ys ∧ P ys := ⟨_, rfl, q⟩
theorem yes_i {A B : Prop} (q : A) : (true = true → A) ∧ (true = false → B) := ⟨fun _ => q, fun h => nomatch h⟩
theorem no_i {A B : Prop} (q : B) : (false = true → A) ∧ (false = false → B) := ⟨fun h => (nomatch h), fun _ => q⟩
theorem nyes_i {A B : Prop} (q : B) : ((!true) = true → A) ∧ ((!true) = false → B) := ⟨fun h => (nomatch h), fun _ => q⟩
theorem nno_i {A B : Prop} (q : A) : ((!false) = true → A) ∧ ((!false) = false → B) := ⟨fun _ => q, fun h => nomatch h⟩
theorem dec_i {p : Prop} [Decidable p] {A B : Prop} (q1 : p → A) (q2 : ¬ p → B) : (decide p = true → A) ∧ (decide p = false → B) := ⟨fun h => q1 (of_decide_eq_true h), fun h => q2 (of_decide_eq_false h)⟩
theorem decn_i {p : Prop} [Decidable p] {A B : Prop} (q1 : p → B) (q2 : ¬ p → A) : ((!decide p) = true → A) ∧ ((!decide p) = false → B) := ⟨fun h => q2 (by simpa using h), fun h => q1 (by simpa using h)⟩
theorem decy_i {p : Prop} [Decidable p] {A B : Prop} (h : p) (q : A) : (decide p = true → A) ∧ (decide p = false → B) := ⟨fun _ => q, fun k => absurd h (of_decide_eq_false k)⟩
theorem decno_i {p : Prop} [Decidable p] {A B : Prop} (h : ¬ p) (q : B) : (decide p = true → A) ∧ (decide p = false → B) := ⟨fun k => absurd (of_decide_eq_true k) h, fun _ => q⟩
theorem ndecy_i {p : Prop} [Decidable p] {A B : Prop} (h : ¬ p) (q : A) : ((!decide p) = true → A) ∧ ((!decide p) = false → B) := ⟨fun _ => q, fun k => absurd (by simpa using k) h⟩
theorem ndecno_i {p : Prop} [Decidable p] {A B : Prop} (h : p) (q : B) : ((!decide p) = true → A) ∧ ((!decide p) = false → B) := ⟨fun k => absurd h (by simpa using k), fun _ => q⟩
theorem bit_i {b : Bool} {A B : Prop} (q1 : b = true → A) (q2 : b = false → B) : (b = true → A) ∧ (b = false → B) := ⟨q1, q2⟩
/-! ### defs -/
def EndP (Q : PyData → Prop) : Out → Rho → Prop
  | .ret d, _ => Q d
  | .retL ds, _ => Q (.list ds)
  | .next, _ => Q .none
  | _, _ => False
def EndN (Q : List PyData → Prop) : Out → Rho → Prop
  | .retL ds, _ => Q ds
  | _, _ => False
def EndL (Q : PyData → List PyData → Prop) : Out → Rho → Prop
  | .ret d, ρ => ∃ ps, pool0 ρ = some ps ∧ Q d ps
  | .retL ds, ρ => ∃ ps, pool0 ρ = some ps ∧ Q (.list ds) ps
  | .next, ρ => ∃ ps, pool0 ρ = some ps ∧ Q .none ps
  | _, _ => False
theorem wa_def {b : SF} {k m : Nat} {ds : List PyData} {Q : PyData → Prop} (hl : ds.length = k) (w : WS b (rho0 ds m) (EndP Q)) : WA (defP b k m ds) Q := by
  obtain ⟨o, r, e, q⟩ := w
  cases o with
  | ret d => exact ⟨d, by simp only [defP, hl, if_true, e, endP], q⟩
  | retL d => exact ⟨_, by simp only [defP, hl, if_true, e, endP], q⟩
  | next => exact ⟨_, by simp only [defP, hl, if_true, e, endP], q⟩
  | brk => exact q.elim
  | cont => exact q.elim
theorem wp_def {b : SF} {k m : Nat} {ps ds : List PyData} {Q : PyData → List PyData → Prop} (hl : ds.length = k) (w : WS b (rhoL ps ds m) (EndL Q)) : WP (defL b k m ps ds) Q := by
  obtain ⟨o, r, e, q⟩ := w
  cases o with
  | ret d => obtain ⟨ps', e2, q⟩ := q; exact ⟨d, ps', by simp only [defL, hl, if_true, e, endL, e2], q⟩
  | retL d => obtain ⟨ps', e2, q⟩ := q; exact ⟨_, ps', by simp only [defL, hl, if_true, e, endL, e2], q⟩
  | next => obtain ⟨ps', e2, q⟩ := q; exact ⟨_, ps', by simp only [defL, hl, if_true, e, endL, e2], q⟩
  | brk => exact q.elim
  | cont => exact q.elim
theorem endP_ret {d : PyData} {r : Rho} {Q : PyData → Prop} (q : Q d) : EndP Q (.ret d) r := q
theorem endP_retL {d : List PyData} {r : Rho} {Q : PyData → Prop} (q : Q (.list d)) : EndP Q (.retL d) r := q
theorem endN_ret {d : List PyData} {r : Rho} {Q : List PyData → Prop} (q : Q d) : EndN Q (.retL d) r := q
theorem endL_ret {d : PyData} {ps : List PyData} {r : Rho} {Q : PyData → List PyData → Prop} (q : Q d ps) : EndL Q (.ret d) (some (.l true ps) :: r) := ⟨ps, rfl, q⟩
theorem endL_retL {d : List PyData} {ps : List PyData} {r : Rho} {Q : PyData → List PyData → Prop} (q : Q (.list d) ps) : EndL Q (.retL d) (some (.l true ps) :: r) := ⟨ps, rfl, q⟩
theorem rho0_eq (ds : List PyData) (m : Nat) : rho0 ds m = ds.map (fun d => some (Cell.v d)) ++ List.replicate m none := rfl
theorem rhoL_eq (ps ds : List PyData) (m : Nat) : rhoL ps ds m = some (Cell.l true ps) :: (ds.map (fun d => some (Cell.v d)) ++ List.replicate m none) := rfl
/-! ### operations that ask something -/
theorem wa_add {i j : Int} {Q : PyData → Prop} (q : Q (.int (i + j))) : WA (dAdd (.int i) (.int j)) Q := ⟨_, rfl, q⟩
theorem wa_addL {xs ys : List PyData} {Q : PyData → Prop} (hl : xs.length + ys.length ≤ 16777216) (q : Q (.list (xs ++ ys))) : WA (dAdd (.list xs) (.list ys)) Q := ⟨_, if_pos hl, q⟩
theorem wa_sub {i j : Int} {Q : PyData → Prop} (q : Q (.int (i - j))) : WA (dSub (.int i) (.int j)) Q := ⟨_, rfl, q⟩
theorem wa_mulR {i j : Int} {Q : PyData → Prop} (h1 : -18446744073709551616 < j) (h2 : j < 18446744073709551616) (q : Q (.int (i * j))) : WA (dMul (.int i) (.int j)) Q := ⟨_, by simp [h1, h2], q⟩
theorem wa_mulL {i j : Int} {Q : PyData → Prop} (h1 : -18446744073709551616 < i) (h2 : i < 18446744073709551616) (q : Q (.int (i * j))) : WA (dMul (.int i) (.int j)) Q := ⟨_, by simp [h1, h2], q⟩
theorem wa_div {i j : Int} {Q : PyData → Prop} (h1 : 0 < j) (h2 : j < 18446744073709551616) (q : Q (.int (i / j))) : WA (dDiv (.int i) (.int j)) Q := ⟨_, by simp [h1, h2], q⟩
theorem wa_mod {i j : Int} {Q : PyData → Prop} (h1 : 0 < j) (q : Q (.int (i % j))) : WA (dMod (.int i) (.int j)) Q := ⟨_, by simp [h1], q⟩
theorem wa_shr {i j : Int} {Q : PyData → Prop} (h1 : 0 ≤ j) (q : Q (.int (i / 2 ^ j.toNat))) : WA (dShr (.int i) (.int j)) Q := ⟨_, by simp [h1], q⟩
theorem wa_lt {i j : Int} {Q : PyData → Prop} (q : Q (.bool (decide (i < j)))) : WA (dLt (.int i) (.int j)) Q := ⟨_, rfl, q⟩
theorem wa_le {i j : Int} {Q : PyData → Prop} (q : Q (.bool (decide (i ≤ j)))) : WA (dLe (.int i) (.int j)) Q := ⟨_, rfl, q⟩
theorem wa_gt {i j : Int} {Q : PyData → Prop} (q : Q (.bool (decide (j < i)))) : WA (dGt (.int i) (.int j)) Q := ⟨_, rfl, q⟩
theorem wa_ge {i j : Int} {Q : PyData → Prop} (q : Q (.bool (decide (j ≤ i)))) : WA (dGe (.int i) (.int j)) Q := ⟨_, rfl, q⟩
theorem wa_eqI {i j : Int} {Q : PyData → Prop} (q : Q (.bool (decide (i = j)))) : WA (dEq (.int i) (.int j)) Q := ⟨_, rfl, q⟩
theorem wa_neI {i j : Int} {Q : PyData → Prop} (q : Q (.bool (!decide (i = j)))) : WA (dNe (.int i) (.int j)) Q := ⟨_, rfl, q⟩
theorem wa_neg {i : Int} {Q : PyData → Prop} (q : Q (.int (-i))) : WA (dNeg (.int i)) Q := ⟨_, rfl, q⟩
theorem wa_lenL {xs : List PyData} {Q : PyData → Prop} (q : Q (.int xs.length)) : WA (o1of dLen [.list xs]) Q := ⟨_, rfl, q⟩
theorem wa_lenT {xs : List PyData} {Q : PyData → Prop} (q : Q (.int xs.length)) : WA (o1of dLen [.tuple xs]) Q := ⟨_, rfl, q⟩
theorem wa_int {i : Int} {Q : PyData → Prop} (q : Q (.int i)) : WA (o1of dInt [.int i]) Q := ⟨_, rfl, q⟩
theorem wa_max {i j : Int} {Q : PyData → Prop} (q : Q (.int (if j > i then j else i))) : WA (o2of dMax [.int i, .int j]) Q := ⟨_, rfl, q⟩
theorem wa_min {i j : Int} {Q : PyData → Prop} (q : Q (.int (if j < i then j else i))) : WA (o2of dMin [.int i, .int j]) Q := ⟨_, rfl, q⟩
theorem wb_bool {b : Bool} {Q : Bool → Prop} (q : Q b) : WB (truth (.bool b)) Q := ⟨b, rfl, q⟩
theorem wb_int {i : Int} {Q : Bool → Prop} (q : Q (i != 0)) : WB (truth (.int i)) Q := ⟨_, rfl, q⟩
/-! ### guards -/
section
variable {ρ : Rho} {f : EF} {n : NF} {t : TF} {s : SF} {g : GF} {o : Option EF} {d : PyData}
theorem gS {S : Out → Rho → Prop} (q : WS s ρ S) : WS s ρ S := q
theorem gE {Q : PyData → Rho → Prop} (q : WE f ρ Q) : WE f ρ Q := q
theorem gN {Q : List PyData → Rho → Prop} (q : WN n ρ Q) : WN n ρ Q := q
theorem gT {Q : Bool → Rho → Prop} (q : WT t ρ Q) : WT t ρ Q := q
theorem gO {Q : Option Int → Rho → Prop} (q : WO o ρ Q) : WO o ρ Q := q
theorem gG {Q : Rho → Prop} (q : WG g d ρ Q) : WG g d ρ Q := q
theorem gA {a : Option PyData} {Q : PyData → Prop} (q : WA a Q) : WA a Q := q
theorem gI {x i : PyData} {Q : PyData → Prop} (q : WA (dIx x i) Q) : WA (dIx x i) Q := q
theorem gP {a : Option (PyData × List PyData)} {Q : PyData → List PyData → Prop} (q : WP a Q) : WP a Q := q
theorem gB {a : Option Bool} {Q : Bool → Prop} (q : WB a Q) : WB a Q := q
theorem gX {α : Type} {p : α → Prop} (q : ∃ x, p x) : ∃ x, p x := q
theorem gC {a b : Prop} (q : a ∧ b) : a ∧ b := q
end
end PG
end
section
set_option Elab.async false
set_option linter.all false
set_option maxRecDepth 100000
namespace PG
open PySem
/-! ### answers found by instances -/
class Ev1 (o : PyData → Option PyData) (x : PyData) (z : outParam PyData) : Prop where
  h : o x = some z
class Ev (F : List PyData → Option PyData) (xs : List PyData) (z : outParam PyData) : Prop where
  h : F xs = some z
class EvN (F : List PyData → Option (List PyData)) (xs : List PyData) (z : outParam (List PyData)) : Prop where
  h : F xs = some z
class EvB (x : PyData) (b : outParam Bool) : Prop where
  h : truth x = some b
theorem wa_ev1 {o : PyData → Option PyData} {x z : PyData} {Q : PyData → Prop} [e : Ev1 o x z] (q : Q z) : WA (o x) Q := ⟨z, e.h, q⟩
theorem wa_ev {F : List PyData → Option PyData} {xs : List PyData} {z : PyData} {Q : PyData → Prop} [e : Ev F xs z] (q : Q z) : WA (F xs) Q := ⟨z, e.h, q⟩
theorem wl_ev {F : List PyData → Option (List PyData)} {xs z : List PyData} {Q : List PyData → Prop} [e : EvN F xs z] (q : Q z) : WL (F xs) Q := ⟨z, e.h, q⟩
theorem wb_ev {x : PyData} {b : Bool} {Q : Bool → Prop} [e : EvB x b] (q : Q b) : WB (truth x) Q := ⟨b, e.h, q⟩
instance : Ev1 (dIsi "tuple") .none (.bool false) := ⟨by simp [isTy, isN, tyName]⟩
instance : Ev1 (dTyIs "tuple") .none (.bool false) := ⟨by simp [tyName]⟩
instance : Ev1 (dTyNe "tuple") .none (.bool true) := ⟨by simp [tyName]⟩
instance {b : Bool} : Ev1 (dIsi "tuple") (.bool b) (.bool false) := ⟨by simp [isTy, isN, tyName]⟩
instance {b : Bool} : Ev1 (dTyIs "tuple") (.bool b) (.bool false) := ⟨by simp [tyName]⟩
instance {b : Bool} : Ev1 (dTyNe "tuple") (.bool b) (.bool true) := ⟨by simp [tyName]⟩
instance {i : Int} : Ev1 (dIsi "tuple") (.int i) (.bool false) := ⟨by simp [isTy, isN, tyName]⟩
instance {i : Int} : Ev1 (dTyIs "tuple") (.int i) (.bool false) := ⟨by simp [tyName]⟩
instance {i : Int} : Ev1 (dTyNe "tuple") (.int i) (.bool true) := ⟨by simp [tyName]⟩
instance {x : Str} : Ev1 (dIsi "tuple") (.str x) (.bool false) := ⟨by simp [isTy, isN, tyName]⟩
instance {x : Str} : Ev1 (dTyIs "tuple") (.str x) (.bool false) := ⟨by simp [tyName]⟩
instance {x : Str} : Ev1 (dTyNe "tuple") (.str x) (.bool true) := ⟨by simp [tyName]⟩
instance {xs : List PyData} : Ev1 (dIsi "tuple") (.list xs) (.bool false) := ⟨by simp [isTy, isN, tyName]⟩
instance {xs : List PyData} : Ev1 (dTyIs "tuple") (.list xs) (.bool false) := ⟨by simp [tyName]⟩
instance {xs : List PyData} : Ev1 (dTyNe "tuple") (.list xs) (.bool true) := ⟨by simp [tyName]⟩
instance {xs : List PyData} : Ev1 (dIsi "tuple") (.tuple xs) (.bool true) := ⟨by simp [isTy, isN, tyName]⟩
instance {xs : List PyData} : Ev1 (dTyIs "tuple") (.tuple xs) (.bool true) := ⟨by simp [tyName]⟩
instance {xs : List PyData} : Ev1 (dTyNe "tuple") (.tuple xs) (.bool false) := ⟨by simp [tyName]⟩
instance : Ev1 (dIsi "list") .none (.bool false) := ⟨by simp [isTy, isN, tyName]⟩
instance : Ev1 (dTyIs "list") .none (.bool false) := ⟨by simp [tyName]⟩
instance : Ev1 (dTyNe "list") .none (.bool true) := ⟨by simp [tyName]⟩
instance {b : Bool} : Ev1 (dIsi "list") (.bool b) (.bool false) := ⟨by simp [isTy, isN, tyName]⟩
instance {b : Bool} : Ev1 (dTyIs "list") (.bool b) (.bool false) := ⟨by simp [tyName]⟩
instance {b : Bool} : Ev1 (dTyNe "list") (.bool b) (.bool true) := ⟨by simp [tyName]⟩
instance {i : Int} : Ev1 (dIsi "list") (.int i) (.bool false) := ⟨by simp [isTy, isN, tyName]⟩
instance {i : Int} : Ev1 (dTyIs "list") (.int i) (.bool false) := ⟨by simp [tyName]⟩
instance {i : Int} : Ev1 (dTyNe "list") (.int i) (.bool true) := ⟨by simp [tyName]⟩
instance {x : Str} : Ev1 (dIsi "list") (.str x) (.bool false) := ⟨by simp [isTy, isN, tyName]⟩
instance {x : Str} : Ev1 (dTyIs "list") (.str x) (.bool false) := ⟨by simp [tyName]⟩
instance {x : Str} : Ev1 (dTyNe "list") (.str x) (.bool true) := ⟨by simp [tyName]⟩
instance {xs : List PyData} : Ev1 (dIsi "list") (.list xs) (.bool true) := ⟨by simp [isTy, isN, tyName]⟩
instance {xs : List PyData} : Ev1 (dTyIs "list") (.list xs) (.bool true) := ⟨by simp [tyName]⟩
instance {xs : List PyData} : Ev1 (dTyNe "list") (.list xs) (.bool false) := ⟨by simp [tyName]⟩
instance {xs : List PyData} : Ev1 (dIsi "list") (.tuple xs) (.bool false) := ⟨by simp [isTy, isN, tyName]⟩
instance {xs : List PyData} : Ev1 (dTyIs "list") (.tuple xs) (.bool false) := ⟨by simp [tyName]⟩
instance {xs : List PyData} : Ev1 (dTyNe "list") (.tuple xs) (.bool true) := ⟨by simp [tyName]⟩
instance : Ev1 (dIsi "int") .none (.bool false) := ⟨by simp [isTy, isN, tyName]⟩
instance : Ev1 (dTyIs "int") .none (.bool false) := ⟨by simp [tyName]⟩
instance : Ev1 (dTyNe "int") .none (.bool true) := ⟨by simp [tyName]⟩
instance {b : Bool} : Ev1 (dIsi "int") (.bool b) (.bool true) := ⟨by simp [isTy, isN, tyName]⟩
instance {b : Bool} : Ev1 (dTyIs "int") (.bool b) (.bool false) := ⟨by simp [tyName]⟩
instance {b : Bool} : Ev1 (dTyNe "int") (.bool b) (.bool true) := ⟨by simp [tyName]⟩
instance {i : Int} : Ev1 (dIsi "int") (.int i) (.bool true) := ⟨by simp [isTy, isN, tyName]⟩
instance {i : Int} : Ev1 (dTyIs "int") (.int i) (.bool true) := ⟨by simp [tyName]⟩
instance {i : Int} : Ev1 (dTyNe "int") (.int i) (.bool false) := ⟨by simp [tyName]⟩
instance {x : Str} : Ev1 (dIsi "int") (.str x) (.bool false) := ⟨by simp [isTy, isN, tyName]⟩
instance {x : Str} : Ev1 (dTyIs "int") (.str x) (.bool false) := ⟨by simp [tyName]⟩
instance {x : Str} : Ev1 (dTyNe "int") (.str x) (.bool true) := ⟨by simp [tyName]⟩
instance {xs : List PyData} : Ev1 (dIsi "int") (.list xs) (.bool false) := ⟨by simp [isTy, isN, tyName]⟩
instance {xs : List PyData} : Ev1 (dTyIs "int") (.list xs) (.bool false) := ⟨by simp [tyName]⟩
instance {xs : List PyData} : Ev1 (dTyNe "int") (.list xs) (.bool true) := ⟨by simp [tyName]⟩
instance {xs : List PyData} : Ev1 (dIsi "int") (.tuple xs) (.bool false) := ⟨by simp [isTy, isN, tyName]⟩
instance {xs : List PyData} : Ev1 (dTyIs "int") (.tuple xs) (.bool false) := ⟨by simp [tyName]⟩
instance {xs : List PyData} : Ev1 (dTyNe "int") (.tuple xs) (.bool true) := ⟨by simp [tyName]⟩
instance : Ev1 (dIsi "bool") .none (.bool false) := ⟨by simp [isTy, isN, tyName]⟩
instance : Ev1 (dTyIs "bool") .none (.bool false) := ⟨by simp [tyName]⟩
instance : Ev1 (dTyNe "bool") .none (.bool true) := ⟨by simp [tyName]⟩
instance {b : Bool} : Ev1 (dIsi "bool") (.bool b) (.bool true) := ⟨by simp [isTy, isN, tyName]⟩
instance {b : Bool} : Ev1 (dTyIs "bool") (.bool b) (.bool true) := ⟨by simp [tyName]⟩
instance {b : Bool} : Ev1 (dTyNe "bool") (.bool b) (.bool false) := ⟨by simp [tyName]⟩
instance {i : Int} : Ev1 (dIsi "bool") (.int i) (.bool false) := ⟨by simp [isTy, isN, tyName]⟩
instance {i : Int} : Ev1 (dTyIs "bool") (.int i) (.bool false) := ⟨by simp [tyName]⟩
instance {i : Int} : Ev1 (dTyNe "bool") (.int i) (.bool true) := ⟨by simp [tyName]⟩
instance {x : Str} : Ev1 (dIsi "bool") (.str x) (.bool false) := ⟨by simp [isTy, isN, tyName]⟩
instance {x : Str} : Ev1 (dTyIs "bool") (.str x) (.bool false) := ⟨by simp [tyName]⟩
instance {x : Str} : Ev1 (dTyNe "bool") (.str x) (.bool true) := ⟨by simp [tyName]⟩
instance {xs : List PyData} : Ev1 (dIsi "bool") (.list xs) (.bool false) := ⟨by simp [isTy, isN, tyName]⟩
instance {xs : List PyData} : Ev1 (dTyIs "bool") (.list xs) (.bool false) := ⟨by simp [tyName]⟩
instance {xs : List PyData} : Ev1 (dTyNe "bool") (.list xs) (.bool true) := ⟨by simp [tyName]⟩
instance {xs : List PyData} : Ev1 (dIsi "bool") (.tuple xs) (.bool false) := ⟨by simp [isTy, isN, tyName]⟩
instance {xs : List PyData} : Ev1 (dTyIs "bool") (.tuple xs) (.bool false) := ⟨by simp [tyName]⟩
instance {xs : List PyData} : Ev1 (dTyNe "bool") (.tuple xs) (.bool true) := ⟨by simp [tyName]⟩
instance : Ev1 (dIsi "str") .none (.bool false) := ⟨by simp [isTy, isN, tyName]⟩
instance : Ev1 (dTyIs "str") .none (.bool false) := ⟨by simp [tyName]⟩
instance : Ev1 (dTyNe "str") .none (.bool true) := ⟨by simp [tyName]⟩
instance {b : Bool} : Ev1 (dIsi "str") (.bool b) (.bool false) := ⟨by simp [isTy, isN, tyName]⟩
instance {b : Bool} : Ev1 (dTyIs "str") (.bool b) (.bool false) := ⟨by simp [tyName]⟩
instance {b : Bool} : Ev1 (dTyNe "str") (.bool b) (.bool true) := ⟨by simp [tyName]⟩
instance {i : Int} : Ev1 (dIsi "str") (.int i) (.bool false) := ⟨by simp [isTy, isN, tyName]⟩
instance {i : Int} : Ev1 (dTyIs "str") (.int i) (.bool false) := ⟨by simp [tyName]⟩
instance {i : Int} : Ev1 (dTyNe "str") (.int i) (.bool true) := ⟨by simp [tyName]⟩
instance {x : Str} : Ev1 (dIsi "str") (.str x) (.bool true) := ⟨by simp [isTy, isN, tyName]⟩
instance {x : Str} : Ev1 (dTyIs "str") (.str x) (.bool true) := ⟨by simp [tyName]⟩
instance {x : Str} : Ev1 (dTyNe "str") (.str x) (.bool false) := ⟨by simp [tyName]⟩
instance {xs : List PyData} : Ev1 (dIsi "str") (.list xs) (.bool false) := ⟨by simp [isTy, isN, tyName]⟩
instance {xs : List PyData} : Ev1 (dTyIs "str") (.list xs) (.bool false) := ⟨by simp [tyName]⟩
instance {xs : List PyData} : Ev1 (dTyNe "str") (.list xs) (.bool true) := ⟨by simp [tyName]⟩
instance {xs : List PyData} : Ev1 (dIsi "str") (.tuple xs) (.bool false) := ⟨by simp [isTy, isN, tyName]⟩
instance {xs : List PyData} : Ev1 (dTyIs "str") (.tuple xs) (.bool false) := ⟨by simp [tyName]⟩
instance {xs : List PyData} : Ev1 (dTyNe "str") (.tuple xs) (.bool true) := ⟨by simp [tyName]⟩
instance : Ev1 dIsN .none (.bool true) := ⟨rfl⟩
instance : Ev1 dNotN .none (.bool false) := ⟨rfl⟩
instance {b : Bool} : Ev1 dIsN (.bool b) (.bool false) := ⟨rfl⟩
instance {b : Bool} : Ev1 dNotN (.bool b) (.bool true) := ⟨rfl⟩
instance {i : Int} : Ev1 dIsN (.int i) (.bool false) := ⟨rfl⟩
instance {i : Int} : Ev1 dNotN (.int i) (.bool true) := ⟨rfl⟩
instance {x : Str} : Ev1 dIsN (.str x) (.bool false) := ⟨rfl⟩
instance {x : Str} : Ev1 dNotN (.str x) (.bool true) := ⟨rfl⟩
instance {xs : List PyData} : Ev1 dIsN (.list xs) (.bool false) := ⟨rfl⟩
instance {xs : List PyData} : Ev1 dNotN (.list xs) (.bool true) := ⟨rfl⟩
instance {xs : List PyData} : Ev1 dIsN (.tuple xs) (.bool false) := ⟨rfl⟩
instance {xs : List PyData} : Ev1 dNotN (.tuple xs) (.bool true) := ⟨rfl⟩
instance : EvB .none false := ⟨rfl⟩
instance {xs : List PyData} : EvB (.list xs) (!xs.isEmpty) := ⟨rfl⟩
instance {xs : List PyData} : EvB (.tuple xs) (!xs.isEmpty) := ⟨rfl⟩
instance {xs : List PyData} : Ev (o1of dTupOf) [.list xs] (.tuple xs) := ⟨rfl⟩
instance {xs : List PyData} : Ev (o1of dTupOf) [.tuple xs] (.tuple xs) := ⟨rfl⟩
instance {xs : List PyData} : EvN (n1of dLstOf) [.list xs] xs := ⟨rfl⟩
instance {xs : List PyData} : EvN (n1of dLstOf) [.tuple xs] xs := ⟨rfl⟩
instance {xs : List PyData} : EvN (n1of dLstOf) [RO xs] xs := ⟨rfl⟩
instance {i : Int} : Ev (o1of dAbs) [.int i] (.int (if i < 0 then -i else i)) := ⟨rfl⟩
theorem ch_le {i j : Int} {P : Bool → Prop} (q : P (decide (i ≤ j))) : ∃ b, dLe (.int i) (.int j) = some (.bool b) ∧ P b := ⟨_, rfl, q⟩
theorem ch_lt {i j : Int} {P : Bool → Prop} (q : P (decide (i < j))) : ∃ b, dLt (.int i) (.int j) = some (.bool b) ∧ P b := ⟨_, rfl, q⟩
theorem ch_eq {i j : Int} {P : Bool → Prop} (q : P (decide (i = j))) : ∃ b, dEq (.int i) (.int j) = some (.bool b) ∧ P b := ⟨_, rfl, q⟩
theorem wa_binO {o : PyData → PyData → Option PyData} {f : EF} {i : Nat} {ρ : Rho} {Q : PyData → Rho → Prop} (w : WE f ρ fun x ρ1 => ∃ p ps, ρ1[i]? = some (some (.l p ps)) ∧ WA (o x (.list ps)) fun z => Q z ρ1) : WE (eBinO o f i) ρ Q := by
  obtain ⟨x, r, e, p, ps, h, z, e2, q⟩ := w
  exact ⟨z, r, by simp [e, h, e2], q⟩
/-- an item of a written tuple at a drawn place -/
theorem wa_pick {xs : List PyData} {v : Int} (P : PyData → Prop) {Q : PyData → Prop} (h0 : 0 ≤ v) (h1 : v < xs.length) (hP : ∀ x ∈ xs, P x) (q : ∀ x, P x → Q x) : WA (dIx (.tuple xs) (.int v)) Q := by
  have h2 : v.toNat < xs.length := by omega
  refine ⟨xs[v.toNat], ?_, q _ (hP _ (List.getElem_mem h2))⟩
  show atD xs v = _
  simp [atD, ixOf, h0, h1, h2]
theorem wa_pickI (ns : List Int) (P : Int → Prop) {v : Int} {Q : PyData → Prop} (h0 : 0 ≤ v) (h1 : v < ns.length) (hP : ∀ n ∈ ns, P n) (q : ∀ n, P n → Q (.int n)) : WA (dIx (.tuple (ns.map PyData.int)) (.int v)) Q :=
  wa_pick (fun d => ∃ n, d = .int n ∧ P n) h0 (by simpa using h1) (fun x hx => by
    obtain ⟨n, hn, rfl⟩ := List.mem_map.mp hx
    exact ⟨n, rfl, hP n hn⟩) (fun x ⟨n, e, hn⟩ => by subst e; exact q n hn)
/-- the item at a place that is written -/
theorem wa_ixn {xs : List PyData} {k : Nat} {d : PyData} {Q : PyData → Prop} (hget : xs[k]? = some d) (q : Q d) : WA (dIx (.tuple xs) (.int (k : Nat))) Q := by
  obtain ⟨h, e⟩ := List.getElem?_eq_some_iff.mp hget
  refine ⟨d, ?_, q⟩
  show atD xs _ = _
  have h2 : (k : Int) < (xs.length : Int) := by omega
  simp [atD, ixOf, h2, hget]
theorem wa_ix0 {xs : List PyData} {d : PyData} {Q : PyData → Prop} (hget : xs[0]? = some d) (q : Q d) : WA (dIx (.tuple xs) (.int 0)) Q := wa_ixn (k := 0) hget q
theorem wa_ix1 {xs : List PyData} {d : PyData} {Q : PyData → Prop} (hget : xs[1]? = some d) (q : Q d) : WA (dIx (.tuple xs) (.int 1)) Q := wa_ixn (k := 1) hget q
theorem wa_ix2 {xs : List PyData} {d : PyData} {Q : PyData → Prop} (hget : xs[2]? = some d) (q : Q d) : WA (dIx (.tuple xs) (.int 2)) Q := wa_ixn (k := 2) hget q
theorem wa_ix3 {xs : List PyData} {d : PyData} {Q : PyData → Prop} (hget : xs[3]? = some d) (q : Q d) : WA (dIx (.tuple xs) (.int 3)) Q := wa_ixn (k := 3) hget q
theorem wa_ix4 {xs : List PyData} {d : PyData} {Q : PyData → Prop} (hget : xs[4]? = some d) (q : Q d) : WA (dIx (.tuple xs) (.int 4)) Q := wa_ixn (k := 4) hget q
theorem wa_ix5 {xs : List PyData} {d : PyData} {Q : PyData → Prop} (hget : xs[5]? = some d) (q : Q d) : WA (dIx (.tuple xs) (.int 5)) Q := wa_ixn (k := 5) hget q
theorem wa_ix6 {xs : List PyData} {d : PyData} {Q : PyData → Prop} (hget : xs[6]? = some d) (q : Q d) : WA (dIx (.tuple xs) (.int 6)) Q := wa_ixn (k := 6) hget q
theorem wa_ix7 {xs : List PyData} {d : PyData} {Q : PyData → Prop} (hget : xs[7]? = some d) (q : Q d) : WA (dIx (.tuple xs) (.int 7)) Q := wa_ixn (k := 7) hget q
theorem wa_ix8 {xs : List PyData} {d : PyData} {Q : PyData → Prop} (hget : xs[8]? = some d) (q : Q d) : WA (dIx (.tuple xs) (.int 8)) Q := wa_ixn (k := 8) hget q
theorem wa_il0 {xs : List PyData} {d : PyData} {Q : PyData → Prop} (hget : xs[0]? = some d) (q : Q d) : WA (dIx (.list xs) (.int 0)) Q := wa_ixn (k := 0) hget q
theorem wa_il1 {xs : List PyData} {d : PyData} {Q : PyData → Prop} (hget : xs[1]? = some d) (q : Q d) : WA (dIx (.list xs) (.int 1)) Q := wa_ixn (k := 1) hget q
theorem wa_il2 {xs : List PyData} {d : PyData} {Q : PyData → Prop} (hget : xs[2]? = some d) (q : Q d) : WA (dIx (.list xs) (.int 2)) Q := wa_ixn (k := 2) hget q
end PG
end
section
set_option Elab.async false
set_option linter.all false
set_option maxRecDepth 100000
namespace PG
open PySem
instance {xs : List PyData} : Ev1 dLen (.list xs) (.int xs.length) := ⟨rfl⟩
instance {xs : List PyData} : Ev1 dLen (.tuple xs) (.int xs.length) := ⟨rfl⟩
instance {xs : List PyData} : Ev1 dTupOf (.list xs) (.tuple xs) := ⟨rfl⟩
instance {xs : List PyData} : Ev1 dTupOf (.tuple xs) (.tuple xs) := ⟨rfl⟩
/-! ### while, by a measure -/
section
variable {ρ : Rho} {t : TF} {b c : SF} {S : Out → Rho → Prop}
/-- for, by an invariant over what is left -/
theorem ws_forI {g : GF} (I : List PyData → Rho → Prop) (ds : List PyData) (h : I ds ρ)
    (step : ∀ d r ρ, I (d :: r) ρ → WG g d ρ fun ρ1 => WS b ρ1 fun o ρ2 => o = .next ∧ I r ρ2)
    (q : ∀ ρ1, I [] ρ1 → WS c ρ1 S) : WS (sSeq (forL g b ds) c) ρ S := by
  have key : ∀ (ds : List PyData) (ρ : Rho), I ds ρ → ∃ ρ', forL g b ds ρ = some (.next, ρ') ∧ I [] ρ' := by
    intro ds
    induction ds with
    | nil => intro ρ h; exact ⟨ρ, rfl, h⟩
    | cons d r ih =>
      intro ρ h
      obtain ⟨ρ1, e1, o, ρ2, e2, rfl, h2⟩ := step d r ρ h
      obtain ⟨ρ3, e3, h3⟩ := ih ρ2 h2
      exact ⟨ρ3, by simp [forL, e1, e2, e3], h3⟩
  obtain ⟨ρ1, e, j⟩ := key ds ρ h
  obtain ⟨o, ρ2, e2, q2⟩ := q ρ1 j
  refine ⟨o, ρ2, ?_, q2⟩
  show sSeq (forL g b ds) c ρ = _
  simp only [sSeq, e]
  exact e2
end
end PG
end
section
set_option Elab.async false
set_option linter.all false
set_option maxRecDepth 100000
namespace Pr_C
open PySem PG
abbrev IL (e : List Int) : List PyData := e.map PyData.int
theorem wp_draw {p : Pool} {n : Int} {Q : PyData → List PyData → Prop} (hp : p.ok) (h0 : 0 < n) (h1 : n < 18446744073709551616) (q : ∀ (v : Int) (p' : Pool), p'.ok → 0 ≤ v → v < n → Q (.int v) p'.d) : WP (F_law_draw p.d [.int n]) Q := by
  obtain ⟨v, p', e, k, a, b⟩ := draw_ok p hp n h0 h1
  exact ⟨_, _, e, q v p' k a b⟩
/-- what a def that draws gives, whatever the pool holds -/
def LS (F : List PyData → List PyData → Option (PyData × List PyData)) (xs : List PyData) (R : PyData → Prop) : Prop := ∀ p : Pool, p.ok → WP (F p.d xs) fun z ps => ∃ p' : Pool, p'.ok ∧ ps = p'.d ∧ R z
theorem wp_ls {F : List PyData → List PyData → Option (PyData × List PyData)} {xs : List PyData} {R : PyData → Prop} {p : Pool} {Q : PyData → List PyData → Prop} (h : LS F xs R) (hp : p.ok) (q : ∀ (z : PyData) (p' : Pool), p'.ok → R z → Q z p'.d) : WP (F p.d xs) Q :=
  (h p hp).mono fun z ps ⟨p', k, e, r⟩ => by subst e; exact q z p' k r
theorem ls_i {p : Pool} {Q : Prop} (hp : p.ok) (q : Q) : ∃ p' : Pool, p'.ok ∧ p.d = p'.d ∧ Q := ⟨p, hp, rfl, q⟩
local macro_rules | `(tactic| fail "6000") => `(tactic| repeat' (first | apply PG.SetR.s | exact PG.SetR.h0 | exact PG.SetR.h1 | exact PG.SetR.hl | exact PG.SetR.hc (by assumption)))
local macro_rules | `(tactic| fail "6001") => `(tactic| repeat' (first | apply PG.SetLR.s | exact PG.SetLR.h0 | exact PG.SetLR.h1 | exact PG.SetLR.hl))
local macro_rules | `(tactic| fail "6002") => `(tactic| repeat' (first | apply PG.PutR.s | exact PG.PutR.h))
local macro_rules | `(tactic| fail "7001") => `(tactic| first | ((with_reducible apply PG.ws_set)) | ((with_reducible apply PG.ws_if)) | ((with_reducible apply PG.ws_ret)) | ((with_reducible apply PG.ws_setL)) | ((with_reducible apply PG.ws_expr)) | ((with_reducible apply PG.ws_nilc)) | ((with_reducible apply PG.ws_asc)) | ((with_reducible apply PG.ws_nil)) | ((with_reducible apply PG.ws_for)) | ((with_reducible apply PG.ws_asg)) | ((with_reducible apply PG.ws_par)) | ((with_reducible apply PG.ws_retL)) | ((with_reducible apply PG.ws_brk)) | ((with_reducible apply PG.ws_cont)) | ((with_reducible apply PG.ws_forn)) | ((with_reducible apply PG.ws_sto)) | ((with_reducible apply PG.ws_aug); (case hget => rfl)) | ((with_reducible apply PG.ws_app); (case hget => rfl)) | ((with_reducible apply PG.ws_retO); (case hget => rfl)))
local macro_rules | `(tactic| fail "7002") => `(tactic| first | ((with_reducible apply PG.we_name); (case hget => rfl)) | ((with_reducible apply PG.we_c)) | ((with_reducible apply PG.we_bin)) | ((with_reducible apply PG.we_un)) | ((with_reducible apply PG.we_call)) | ((with_reducible apply PG.we_callL); (case hget => rfl)) | ((with_reducible apply PG.we_tup)) | ((with_reducible apply PG.we_lst)) | ((with_reducible apply PG.we_if)) | ((with_reducible apply PG.we_ixL); (case hget => rfl)) | ((with_reducible apply PG.we_unL); (case hget => rfl)) | ((with_reducible apply PG.we_and)) | ((with_reducible apply PG.we_or)) | ((with_reducible apply PG.we_not)) | ((with_reducible apply PG.we_chain)) | ((with_reducible apply PG.we_slT)) | ((with_reducible apply PG.we_frz); (case hget => rfl); (case hset => fail "6000")) | ((with_reducible apply PG.wa_binO)))
local macro_rules | `(tactic| fail "7003") => `(tactic| first | ((with_reducible apply PG.wn_cons)) | ((with_reducible apply PG.wn_nil)) | ((with_reducible apply PG.wn_star)) | ((with_reducible apply PG.wn_disp)) | ((with_reducible apply PG.wn_call)) | ((with_reducible apply PG.wn_sl)) | ((with_reducible apply PG.wn_its)) | ((with_reducible apply PG.wn_r1)) | ((with_reducible apply PG.wn_r2)) | ((with_reducible apply PG.wn_r3)))
local macro_rules | `(tactic| fail "7004") => `(tactic| first | ((with_reducible apply PG.wt_tru)) | ((with_reducible apply PG.wt_bl)) | ((with_reducible apply PG.wt_and)) | ((with_reducible apply PG.wt_or)) | ((with_reducible apply PG.wt_not)) | ((with_reducible apply PG.wt_yes)) | ((with_reducible apply PG.wt_truL); (case hget => rfl)))
local macro_rules | `(tactic| fail "7005") => `(tactic| first | ((with_reducible apply PG.wo_none)) | ((with_reducible apply PG.wo_some)))
local macro_rules | `(tactic| fail "7006") => `(tactic| first | ((with_reducible apply PG.wg_p0)) | ((with_reducible apply PG.wg_tup)) | ((with_reducible apply PG.wg_ps); (case hset => fail "6000")) | ((with_reducible apply PG.wg_set); (case hset => fail "6000")))
local macro_rules | `(tactic| fail "7007") => `(tactic| first | ((with_reducible apply PG.setr_i); (case hset => fail "6000")) | ((with_reducible apply PG.setl_i); (case hset => fail "6001")) | ((with_reducible apply PG.put_i); (case hset => fail "6002")) | ((with_reducible apply PG.pool_i); (case hget => rfl)) | ((with_reducible apply PG.bool_i)) | ((with_reducible apply PG.int_i)) | ((with_reducible apply PG.seqL_i)) | ((with_reducible apply PG.seqT_i)) | ((with_reducible apply PG.seqR_i)) | ((with_reducible apply PG.starT_i)) | ((with_reducible apply PG.starL_i)) | ((with_reducible apply PG.tup_i)) | ((with_reducible apply PG.ch_le)) | ((with_reducible apply PG.ch_lt)) | ((with_reducible apply PG.ch_eq)))
local macro_rules | `(tactic| fail "7008") => `(tactic| first | ((with_reducible apply PG.len_i); (case h => rfl)) | ((with_reducible apply PG.yes_i)) | ((with_reducible apply PG.no_i)) | ((with_reducible apply PG.nyes_i)) | ((with_reducible apply PG.nno_i)))
local macro_rules | `(tactic| fail "7009") => `(tactic| first | ((with_reducible apply PG.wa_add)) | ((with_reducible apply PG.wa_sub)) | ((with_reducible apply PG.wa_lt)) | ((with_reducible apply PG.wa_le)) | ((with_reducible apply PG.wa_gt)) | ((with_reducible apply PG.wa_ge)) | ((with_reducible apply PG.wa_eqI)) | ((with_reducible apply PG.wa_neI)) | ((with_reducible apply PG.wa_neg)) | ((with_reducible apply PG.wa_lenL)) | ((with_reducible apply PG.wa_lenT)) | ((with_reducible apply PG.wa_int)) | ((with_reducible apply PG.wa_max)) | ((with_reducible apply PG.wa_min)) | ((with_reducible apply PG.wa_ev1)) | ((with_reducible apply PG.wa_ev)) | ((with_reducible apply PG.wa_mod); (case h1 => omega)) | ((with_reducible apply PG.wa_div); (case h1 => omega); (case h2 => omega)) | ((with_reducible apply PG.wa_mulR); (case h1 => omega); (case h2 => omega)) | ((with_reducible apply PG.wa_mulL); (case h1 => omega); (case h2 => omega)) | ((with_reducible apply PG.wa_shr); (case h1 => omega)))
local macro_rules | `(tactic| fail "7010") => `(tactic| first | ((with_reducible apply PG.wb_bool)) | ((with_reducible apply PG.wb_int)) | ((with_reducible apply PG.wb_ev)))
local macro_rules | `(tactic| fail "7011") => `(tactic| first | ((with_reducible apply PG.wa_ix0); (case hget => rfl)) | ((with_reducible apply PG.wa_ix1); (case hget => rfl)) | ((with_reducible apply PG.wa_ix2); (case hget => rfl)) | ((with_reducible apply PG.wa_ix3); (case hget => rfl)) | ((with_reducible apply PG.wa_ix4); (case hget => rfl)) | ((with_reducible apply PG.wa_ix5); (case hget => rfl)) | ((with_reducible apply PG.wa_ix6); (case hget => rfl)) | ((with_reducible apply PG.wa_ix7); (case hget => rfl)) | ((with_reducible apply PG.wa_ix8); (case hget => rfl)) | ((with_reducible apply PG.wa_il0); (case hget => rfl)) | ((with_reducible apply PG.wa_il1); (case hget => rfl)) | ((with_reducible apply PG.wa_il2); (case hget => rfl)))
local macro_rules | `(tactic| array_get_dec) => `(tactic| first | ((with_reducible apply PG.gS); fail "7001") | ((with_reducible apply PG.gE); fail "7002") | ((with_reducible apply PG.gN); fail "7003") | ((with_reducible apply PG.gT); fail "7004") | ((with_reducible apply PG.gO); fail "7005") | ((with_reducible apply PG.gG); fail "7006") | ((with_reducible apply PG.gX); fail "7007") | ((with_reducible apply PG.gC); fail "7008") | ((with_reducible apply PG.gA); fail "7009") | ((with_reducible apply PG.gB); fail "7010") | ((with_reducible apply PG.endP_ret)) | ((with_reducible apply PG.endP_retL)) | ((with_reducible apply PG.endN_ret)) | ((with_reducible apply PG.endL_ret)) | ((with_reducible apply PG.endL_retL)) | ((with_reducible apply PG.gI); fail "7011") | ((with_reducible apply PG.wl_ev)))
local macro_rules | `(tactic| array_get_dec) => `(tactic| first | ((with_reducible apply Pr_C.wp_draw); (case hp => assumption); (case h0 => omega); (case h1 => omega)) | ((with_reducible apply Pr_C.ls_i); (case hp => assumption)))

end Pr_C
end
section
set_option linter.all false
set_option maxRecDepth 100000
set_option Elab.async false
namespace Pr_D
open PySem PG Pr_C
/-! ### data of which the text is short -/
def okS (x : Str) : Bool := PyData.strOk x && decide (x.length ≤ 20)
mutual
def okd (B : Int) : PyData → Bool
  | .none => true
  | .bool _ => true
  | .int i => decide (-B ≤ i) && decide (i ≤ B)
  | .str x => okS x
  | .list xs => okA B xs
  | .tuple xs => okA B xs
  | .dict _ => false
def okA (B : Int) : List PyData → Bool
  | [] => true
  | x :: xs => okd B x && okA B xs
end
mutual
def wt : PyData → Nat
  | .list xs => wtA xs + 1
  | .tuple xs => wtA xs + 1
  | _ => 1
def wtA : List PyData → Nat
  | [] => 0
  | x :: xs => wt x + wtA xs
end
theorem okA_mem {B : Int} : ∀ {xs : List PyData}, okA B xs = true ↔ ∀ x ∈ xs, okd B x = true
  | [] => by simp [okA]
  | x :: xs => by simp [okA, okA_mem (xs := xs)]
theorem wtA_app : ∀ (xs ys : List PyData), wtA (xs ++ ys) = wtA xs + wtA ys
  | [], ys => by simp [wtA]
  | x :: xs, ys => by simp only [List.cons_append, wtA, wtA_app xs ys]; omega
theorem wt_pos : ∀ d : PyData, 1 ≤ wt d
  | .none => Nat.le_refl _
  | .bool _ => Nat.le_refl _
  | .int _ => Nat.le_refl _
  | .str _ => Nat.le_refl _
  | .list xs => by simp only [wt]; omega
  | .tuple xs => by simp only [wt]; omega
  | .dict _ => Nat.le_refl _
theorem wtA_len : ∀ xs : List PyData, xs.length ≤ wtA xs
  | [] => Nat.le_refl _
  | x :: xs => by
    have := wtA_len xs
    have := wt_pos x
    simp only [List.length_cons, wtA]
    omega
theorem wtA_mem : ∀ {xs : List PyData} {x : PyData}, x ∈ xs → wt x ≤ wtA xs
  | y :: ys, x, h => by
    simp only [wtA]
    rcases List.mem_cons.mp h with rfl | h
    · omega
    · have := wtA_mem h; omega
theorem wtA_take (xs : List PyData) (n : Nat) : wtA (xs.take n) ≤ wtA xs := by
  have h := wtA_app (xs.take n) (xs.drop n)
  rw [List.take_append_drop] at h
  omega
theorem wtA_drop (xs : List PyData) (n : Nat) : wtA (xs.drop n) ≤ wtA xs := by
  have h := wtA_app (xs.take n) (xs.drop n)
  rw [List.take_append_drop] at h
  omega
theorem wtA_set : ∀ (xs : List PyData) (i : Nat) (y : PyData), wtA (xs.set i y) ≤ wtA xs + wt y
  | [], i, y => by simp [wtA]
  | x :: xs, 0, y => by simp only [List.set_cons_zero, wtA]; omega
  | x :: xs, i + 1, y => by
    have := wtA_set xs i y
    simp only [List.set_cons_succ, wtA]
    omega
theorem okS_leaf {x : Str} (h : okS x = true) : PyData.strOk x = true ∧ (x.cps.toList.all fun c => decide (c < 16 ^ 8)) = true ∧ x.cps.size ≤ 20 := by
  unfold okS at h
  rw [Bool.and_eq_true, decide_eq_true_eq] at h
  refine ⟨h.1, ?_, h.2⟩
  have h1 := h.1
  unfold PyData.strOk at h1
  rw [Array.all_eq_true] at h1
  rw [List.all_eq_true]
  intro c hc
  obtain ⟨i, hi, rfl⟩ := List.mem_iff_getElem.mp hc
  have := h1 i (by simpa using hi)
  simp only [decide_eq_true_eq] at this ⊢
  simp only [Array.getElem_toList]
  omega
mutual
theorem ok_lay {B : Int} (hB : B ≤ 1000000000000) : ∀ d : PyData, okd B d = true → d.canLay0 = true ∧ d.showable = true ∧ d.leavesShort 25 = true ∧ d.weight + 1 ≤ 62 * wt d
  | .none, _ => ⟨rfl, rfl, rfl, by simp [PyData.weight, wt]⟩
  | .bool _, _ => ⟨rfl, rfl, rfl, by simp [PyData.weight, wt]⟩
  | .int i, h => by
    simp only [okd, Bool.and_eq_true, decide_eq_true_eq] at h
    have h1 : i.natAbs < 2 ^ 60 := by omega
    have h2 : i.natAbs.log2 < 60 := by
      by_cases hz : i.natAbs = 0
      · rw [hz]; decide
      · exact (Nat.log2_lt hz).mpr h1
    refine ⟨rfl, by simp only [PyData.showable, decide_eq_true_eq]; omega, ?_, ?_⟩
    · have h3 := int_text_length_le10 (a := i) (k := 20) (by decide) (by omega)
      simp only [PyData.leavesShort, decide_eq_true_eq]
      show (Str.ofString (toString i)).length ≤ 25
      rw [ofString_length]
      omega
    · simp only [PyData.weight, wt]
      split <;> omega
  | .str x, h => by
    have h := okS_leaf h
    exact ⟨h.1, rfl, h.2.1, by simp only [PyData.weight, wt]; omega⟩
  | .list xs, h => by
    obtain ⟨h1, h2, h3, h4⟩ := ok_layA hB xs h
    exact ⟨h1, h2, h3, by simp only [PyData.weight, wt]; omega⟩
  | .tuple xs, h => by
    obtain ⟨h1, h2, h3, h4⟩ := ok_layA hB xs h
    exact ⟨h1, h2, h3, by simp only [PyData.weight, wt]; omega⟩
  | .dict _, h => by cases h
theorem ok_layA {B : Int} (hB : B ≤ 1000000000000) : ∀ xs : List PyData, okA B xs = true → PyData.canLayAll0 xs = true ∧ PyData.showableAll xs = true ∧ PyData.leavesShortAll 25 xs = true ∧ PyData.weightAll xs ≤ 62 * wtA xs
  | [], _ => ⟨rfl, rfl, rfl, by simp [PyData.weightAll, wtA]⟩
  | x :: xs, h => by
    simp only [okA, Bool.and_eq_true] at h
    obtain ⟨a1, a2, a3, a4⟩ := ok_lay hB x h.1
    obtain ⟨b1, b2, b3, b4⟩ := ok_layA hB xs h.2
    refine ⟨by simp [PyData.canLayAll0, a1, b1], by simp [PyData.showableAll, a2, b2], by simp [PyData.leavesShortAll, a3, b3], ?_⟩
    simp only [PyData.weightAll, wtA]
    omega
end
/-- what can be shown -/
structure Gd (B : Int) (D W : Nat) (d : PyData) : Prop where
  ok : okd B d = true
  dp : d.depth ≤ D
  w : wt d ≤ W
theorem Gd.repr {B : Int} {D W : Nat} {d : PyData} (g : Gd B D W d) (hB : B ≤ 1000000000000) (hD : D ≤ 60) (hW : W ≤ 9000) : dRepr d = some (.str d.shown) := by
  obtain ⟨h1, h2, h3, h4⟩ := ok_lay hB d g.ok
  have h5 := PyData.shown_le 25 (by decide) d h3
  have h6 := g.w
  have h7 := g.dp
  have h8 : d.shown.length ≤ 16777216 := by
    have : (25 + 2) * d.weight ≤ (25 + 2) * (62 * 9000) := Nat.mul_le_mul_left _ (by omega)
    omega
  unfold dRepr reprOk
  rw [if_pos]
  simp only [h1, h2, Bool.and_eq_true, decide_eq_true_eq]
  exact ⟨⟨⟨trivial, by omega⟩, trivial⟩, h8⟩
end Pr_D
end
section
set_option linter.all false
set_option maxRecDepth 100000
set_option Elab.async false
namespace Pr_D
open PySem PG Pr_C
theorem cut_sub {xs : List PyData} {lo hi : Option Int} : ∀ x ∈ cutD xs lo hi, x ∈ xs := fun x hx => List.mem_of_mem_drop (List.mem_of_mem_take hx)
theorem cut_wt {xs : List PyData} {lo hi : Option Int} : wtA (cutD xs lo hi) ≤ wtA xs := Nat.le_trans (wtA_take _ _) (wtA_drop _ _)
theorem cut_len {xs : List PyData} {lo hi : Option Int} : (cutD xs lo hi).length ≤ xs.length := by
  unfold cutD
  simp only [List.length_take, List.length_drop]
  omega
theorem depthAll_le {D : Nat} : ∀ {xs : List PyData}, PyData.depthAll xs ≤ D ↔ ∀ x ∈ xs, x.depth ≤ D
  | [] => by simp [PyData.depthAll]
  | x :: xs => by
    have := depthAll_le (D := D) (xs := xs)
    simp only [PyData.depthAll, List.mem_cons, forall_eq_or_imp, Nat.max_le, this]
/-- the items of a sequence that can be shown -/
structure Gs (B : Int) (D W : Nat) (xs : List PyData) : Prop where
  ok : ∀ x ∈ xs, okd B x = true ∧ x.depth ≤ D
  w : wtA xs ≤ W
theorem Gs.tup {B : Int} {D W : Nat} {xs : List PyData} (g : Gs B D W xs) : Gd B (D + 1) (W + 1) (.tuple xs) :=
  ⟨by simp only [okd]; exact okA_mem.mpr fun x hx => (g.ok x hx).1, by simp only [PyData.depth]; exact Nat.succ_le_succ (depthAll_le.mpr fun x hx => (g.ok x hx).2), by simp only [wt]; have := g.w; omega⟩
theorem Gs.lst {B : Int} {D W : Nat} {xs : List PyData} (g : Gs B D W xs) : Gd B (D + 1) (W + 1) (.list xs) :=
  ⟨by simp only [okd]; exact okA_mem.mpr fun x hx => (g.ok x hx).1, by simp only [PyData.depth]; exact Nat.succ_le_succ (depthAll_le.mpr fun x hx => (g.ok x hx).2), by simp only [wt]; have := g.w; omega⟩
theorem Gs.app {B : Int} {D W V : Nat} {xs ys : List PyData} (g : Gs B D W xs) (h : Gs B D V ys) : Gs B D (W + V) (xs ++ ys) :=
  ⟨fun x hx => (List.mem_append.mp hx).elim (g.ok x) (h.ok x), by rw [wtA_app]; have := g.w; have := h.w; omega⟩
theorem Gs.one {B : Int} {D W : Nat} {x : PyData} (g : Gd B D W x) : Gs B D W [x] := ⟨fun y hy => by simp at hy; subst hy; exact ⟨g.ok, g.dp⟩, by simp only [wtA]; have := g.w; omega⟩
theorem Gs.cut {B : Int} {D W : Nat} {xs : List PyData} {lo hi : Option Int} (g : Gs B D W xs) : Gs B D W (cutD xs lo hi) := ⟨fun x hx => g.ok x (cut_sub x hx), Nat.le_trans cut_wt g.w⟩
theorem Gs.nil {B : Int} {D W : Nat} : Gs B D W [] := ⟨fun x hx => (nomatch hx), Nat.zero_le _⟩
theorem Gs.mem {B : Int} {D W : Nat} {xs : List PyData} {x : PyData} (g : Gs B D W xs) (h : x ∈ xs) : Gd B D W x := ⟨(g.ok x h).1, (g.ok x h).2, Nat.le_trans (wtA_mem h) g.w⟩
theorem Gs.set {B : Int} {D W V : Nat} {xs : List PyData} {i : Nat} {y : PyData} (g : Gs B D W xs) (h : Gd B D V y) : Gs B D (W + V) (xs.set i y) :=
  ⟨fun x hx => by
    rcases List.mem_or_eq_of_mem_set hx with hx | rfl
    · exact g.ok x hx
    · exact ⟨h.ok, h.dp⟩, Nat.le_trans (wtA_set _ _ _) (Nat.add_le_add g.w h.w)⟩
theorem Gs.len {B : Int} {D W : Nat} {xs : List PyData} (g : Gs B D W xs) : xs.length ≤ W := Nat.le_trans (wtA_len xs) g.w
mutual
theorem okd_mono {B C : Int} (h : B ≤ C) : ∀ d : PyData, okd B d = true → okd C d = true
  | .none, _ => rfl
  | .bool _, _ => rfl
  | .int i, g => by simp only [okd, Bool.and_eq_true, decide_eq_true_eq] at g ⊢; omega
  | .str _, g => g
  | .list xs, g => by simp only [okd] at g ⊢; exact okA_mono h xs g
  | .tuple xs, g => by simp only [okd] at g ⊢; exact okA_mono h xs g
  | .dict _, g => by cases g
theorem okA_mono {B C : Int} (h : B ≤ C) : ∀ xs : List PyData, okA B xs = true → okA C xs = true
  | [], _ => rfl
  | x :: xs, g => by
    simp only [okA, Bool.and_eq_true] at g ⊢
    exact ⟨okd_mono h x g.1, okA_mono h xs g.2⟩
end
theorem Gd.mono {B C : Int} {D E W V : Nat} {d : PyData} (g : Gd B D W d) (h1 : B ≤ C) (h2 : D ≤ E) (h3 : W ≤ V) : Gd C E V d := ⟨okd_mono h1 d g.ok, Nat.le_trans g.dp h2, Nat.le_trans g.w h3⟩
theorem Gs.mono {B C : Int} {D E W V : Nat} {d : List PyData} (g : Gs B D W d) (h1 : B ≤ C) (h2 : D ≤ E) (h3 : W ≤ V) : Gs C E V d := ⟨fun x hx => ⟨okd_mono h1 x (g.ok x hx).1, Nat.le_trans (g.ok x hx).2 h2⟩, Nat.le_trans g.w h3⟩
theorem Gd.int {B : Int} {D W : Nat} {i : Int} (h0 : -B ≤ i) (h1 : i ≤ B) (hW : 1 ≤ W) : Gd B D W (.int i) := ⟨by simp [okd, h0, h1], Nat.zero_le _, hW⟩
/-- made of whole numbers and tuples alone -/
inductive It : PyData → Prop
  | int (i : Int) : It (.int i)
  | tup {xs : List PyData} : (∀ x ∈ xs, It x) → It (.tuple xs)
theorem ixOf_nat {n : Nat} {v : Int} (h0 : 0 ≤ v) (h1 : v < n) : ixOf n v = some v.toNat := by simp [ixOf, h0, h1]
instance : Ev F_law_is_integer [.none] (.bool false) := ⟨rfl⟩
instance {i : Int} : Ev F_law_is_integer [.int i] (.bool true) := ⟨rfl⟩
instance {b : Bool} : Ev F_law_is_integer [.bool b] (.bool false) := ⟨rfl⟩
instance {x : Str} : Ev F_law_is_integer [.str x] (.bool false) := ⟨rfl⟩
instance {xs : List PyData} : Ev F_law_is_integer [.list xs] (.bool false) := ⟨rfl⟩
instance {xs : List PyData} : Ev F_law_is_integer [.tuple xs] (.bool false) := ⟨rfl⟩
local macro_rules | `(tactic| fail "6000") => `(tactic| repeat' (first | apply PG.SetR.s | exact PG.SetR.h0 | exact PG.SetR.h1 | exact PG.SetR.hl | exact PG.SetR.hc (by assumption)))
local macro_rules | `(tactic| fail "6001") => `(tactic| repeat' (first | apply PG.SetLR.s | exact PG.SetLR.h0 | exact PG.SetLR.h1 | exact PG.SetLR.hl))
local macro_rules | `(tactic| fail "6002") => `(tactic| repeat' (first | apply PG.PutR.s | exact PG.PutR.h))
local macro_rules | `(tactic| fail "7001") => `(tactic| first | ((with_reducible apply PG.ws_set)) | ((with_reducible apply PG.ws_if)) | ((with_reducible apply PG.ws_ret)) | ((with_reducible apply PG.ws_setL)) | ((with_reducible apply PG.ws_expr)) | ((with_reducible apply PG.ws_nilc)) | ((with_reducible apply PG.ws_asc)) | ((with_reducible apply PG.ws_nil)) | ((with_reducible apply PG.ws_for)) | ((with_reducible apply PG.ws_asg)) | ((with_reducible apply PG.ws_par)) | ((with_reducible apply PG.ws_retL)) | ((with_reducible apply PG.ws_brk)) | ((with_reducible apply PG.ws_cont)) | ((with_reducible apply PG.ws_forn)) | ((with_reducible apply PG.ws_sto)) | ((with_reducible apply PG.ws_aug); (case hget => rfl)) | ((with_reducible apply PG.ws_app); (case hget => rfl)) | ((with_reducible apply PG.ws_retO); (case hget => rfl)))
local macro_rules | `(tactic| fail "7002") => `(tactic| first | ((with_reducible apply PG.we_name); (case hget => rfl)) | ((with_reducible apply PG.we_c)) | ((with_reducible apply PG.we_bin)) | ((with_reducible apply PG.we_un)) | ((with_reducible apply PG.we_call)) | ((with_reducible apply PG.we_callL); (case hget => rfl)) | ((with_reducible apply PG.we_tup)) | ((with_reducible apply PG.we_lst)) | ((with_reducible apply PG.we_if)) | ((with_reducible apply PG.we_ixL); (case hget => rfl)) | ((with_reducible apply PG.we_unL); (case hget => rfl)) | ((with_reducible apply PG.we_and)) | ((with_reducible apply PG.we_or)) | ((with_reducible apply PG.we_not)) | ((with_reducible apply PG.we_chain)) | ((with_reducible apply PG.we_slT)) | ((with_reducible apply PG.we_frz); (case hget => rfl); (case hset => fail "6000")) | ((with_reducible apply PG.wa_binO)))
local macro_rules | `(tactic| fail "7003") => `(tactic| first | ((with_reducible apply PG.wn_cons)) | ((with_reducible apply PG.wn_nil)) | ((with_reducible apply PG.wn_star)) | ((with_reducible apply PG.wn_disp)) | ((with_reducible apply PG.wn_call)) | ((with_reducible apply PG.wn_sl)) | ((with_reducible apply PG.wn_its)) | ((with_reducible apply PG.wn_r1)) | ((with_reducible apply PG.wn_r2)) | ((with_reducible apply PG.wn_r3)))
local macro_rules | `(tactic| fail "7004") => `(tactic| first | ((with_reducible apply PG.wt_tru)) | ((with_reducible apply PG.wt_bl)) | ((with_reducible apply PG.wt_and)) | ((with_reducible apply PG.wt_or)) | ((with_reducible apply PG.wt_not)) | ((with_reducible apply PG.wt_yes)) | ((with_reducible apply PG.wt_truL); (case hget => rfl)))
local macro_rules | `(tactic| fail "7005") => `(tactic| first | ((with_reducible apply PG.wo_none)) | ((with_reducible apply PG.wo_some)))
local macro_rules | `(tactic| fail "7006") => `(tactic| first | ((with_reducible apply PG.wg_p0)) | ((with_reducible apply PG.wg_tup)) | ((with_reducible apply PG.wg_ps); (case hset => fail "6000")) | ((with_reducible apply PG.wg_set); (case hset => fail "6000")))
local macro_rules | `(tactic| fail "7007") => `(tactic| first | ((with_reducible apply PG.setr_i); (case hset => fail "6000")) | ((with_reducible apply PG.setl_i); (case hset => fail "6001")) | ((with_reducible apply PG.put_i); (case hset => fail "6002")) | ((with_reducible apply PG.pool_i); (case hget => rfl)) | ((with_reducible apply PG.bool_i)) | ((with_reducible apply PG.int_i)) | ((with_reducible apply PG.seqL_i)) | ((with_reducible apply PG.seqT_i)) | ((with_reducible apply PG.seqR_i)) | ((with_reducible apply PG.starT_i)) | ((with_reducible apply PG.starL_i)) | ((with_reducible apply PG.tup_i)) | ((with_reducible apply PG.ch_le)) | ((with_reducible apply PG.ch_lt)) | ((with_reducible apply PG.ch_eq)))
local macro_rules | `(tactic| fail "7008") => `(tactic| first | ((with_reducible apply PG.len_i); (case h => rfl)) | ((with_reducible apply PG.yes_i)) | ((with_reducible apply PG.no_i)) | ((with_reducible apply PG.nyes_i)) | ((with_reducible apply PG.nno_i)))
local macro_rules | `(tactic| fail "7009") => `(tactic| first | ((with_reducible apply PG.wa_add)) | ((with_reducible apply PG.wa_sub)) | ((with_reducible apply PG.wa_lt)) | ((with_reducible apply PG.wa_le)) | ((with_reducible apply PG.wa_gt)) | ((with_reducible apply PG.wa_ge)) | ((with_reducible apply PG.wa_eqI)) | ((with_reducible apply PG.wa_neI)) | ((with_reducible apply PG.wa_neg)) | ((with_reducible apply PG.wa_lenL)) | ((with_reducible apply PG.wa_lenT)) | ((with_reducible apply PG.wa_int)) | ((with_reducible apply PG.wa_max)) | ((with_reducible apply PG.wa_min)) | ((with_reducible apply PG.wa_ev1)) | ((with_reducible apply PG.wa_ev)) | ((with_reducible apply PG.wa_mod); (case h1 => omega)) | ((with_reducible apply PG.wa_div); (case h1 => omega); (case h2 => omega)) | ((with_reducible apply PG.wa_mulR); (case h1 => omega); (case h2 => omega)) | ((with_reducible apply PG.wa_mulL); (case h1 => omega); (case h2 => omega)) | ((with_reducible apply PG.wa_shr); (case h1 => omega)))
local macro_rules | `(tactic| fail "7010") => `(tactic| first | ((with_reducible apply PG.wb_bool)) | ((with_reducible apply PG.wb_int)) | ((with_reducible apply PG.wb_ev)))
local macro_rules | `(tactic| fail "7011") => `(tactic| first | ((with_reducible apply PG.wa_ix0); (case hget => rfl)) | ((with_reducible apply PG.wa_ix1); (case hget => rfl)) | ((with_reducible apply PG.wa_ix2); (case hget => rfl)) | ((with_reducible apply PG.wa_ix3); (case hget => rfl)) | ((with_reducible apply PG.wa_ix4); (case hget => rfl)) | ((with_reducible apply PG.wa_ix5); (case hget => rfl)) | ((with_reducible apply PG.wa_ix6); (case hget => rfl)) | ((with_reducible apply PG.wa_ix7); (case hget => rfl)) | ((with_reducible apply PG.wa_ix8); (case hget => rfl)) | ((with_reducible apply PG.wa_il0); (case hget => rfl)) | ((with_reducible apply PG.wa_il1); (case hget => rfl)) | ((with_reducible apply PG.wa_il2); (case hget => rfl)))
local macro_rules | `(tactic| array_get_dec) => `(tactic| first | ((with_reducible apply PG.gS); fail "7001") | ((with_reducible apply PG.gE); fail "7002") | ((with_reducible apply PG.gN); fail "7003") | ((with_reducible apply PG.gT); fail "7004") | ((with_reducible apply PG.gO); fail "7005") | ((with_reducible apply PG.gG); fail "7006") | ((with_reducible apply PG.gX); fail "7007") | ((with_reducible apply PG.gC); fail "7008") | ((with_reducible apply PG.gA); fail "7009") | ((with_reducible apply PG.gB); fail "7010") | ((with_reducible apply PG.endP_ret)) | ((with_reducible apply PG.endP_retL)) | ((with_reducible apply PG.endN_ret)) | ((with_reducible apply PG.endL_ret)) | ((with_reducible apply PG.endL_retL)) | ((with_reducible apply PG.gI); fail "7011") | ((with_reducible apply PG.wl_ev)))
local macro_rules | `(tactic| array_get_dec) => `(tactic| first | ((with_reducible apply Pr_C.wp_draw); (case hp => assumption); (case h0 => omega); (case h1 => omega)) | ((with_reducible apply Pr_C.ls_i); (case hp => assumption)))

end Pr_D
end
section
set_option linter.all false
set_option maxRecDepth 100000
set_option Elab.async false
namespace Pr_D
open PySem PG Pr_C
local macro_rules | `(tactic| fail "6000") => `(tactic| repeat' (first | apply PG.SetR.s | exact PG.SetR.h0 | exact PG.SetR.h1 | exact PG.SetR.hl | exact PG.SetR.hc (by assumption)))
local macro_rules | `(tactic| fail "6001") => `(tactic| repeat' (first | apply PG.SetLR.s | exact PG.SetLR.h0 | exact PG.SetLR.h1 | exact PG.SetLR.hl))
local macro_rules | `(tactic| fail "6002") => `(tactic| repeat' (first | apply PG.PutR.s | exact PG.PutR.h))
local macro_rules | `(tactic| fail "7001") => `(tactic| first | ((with_reducible apply PG.ws_set)) | ((with_reducible apply PG.ws_if)) | ((with_reducible apply PG.ws_ret)) | ((with_reducible apply PG.ws_setL)) | ((with_reducible apply PG.ws_expr)) | ((with_reducible apply PG.ws_nilc)) | ((with_reducible apply PG.ws_asc)) | ((with_reducible apply PG.ws_nil)) | ((with_reducible apply PG.ws_for)) | ((with_reducible apply PG.ws_asg)) | ((with_reducible apply PG.ws_par)) | ((with_reducible apply PG.ws_retL)) | ((with_reducible apply PG.ws_brk)) | ((with_reducible apply PG.ws_cont)) | ((with_reducible apply PG.ws_forn)) | ((with_reducible apply PG.ws_sto)) | ((with_reducible apply PG.ws_aug); (case hget => rfl)) | ((with_reducible apply PG.ws_app); (case hget => rfl)) | ((with_reducible apply PG.ws_retO); (case hget => rfl)))
local macro_rules | `(tactic| fail "7002") => `(tactic| first | ((with_reducible apply PG.we_name); (case hget => rfl)) | ((with_reducible apply PG.we_c)) | ((with_reducible apply PG.we_bin)) | ((with_reducible apply PG.we_un)) | ((with_reducible apply PG.we_call)) | ((with_reducible apply PG.we_callL); (case hget => rfl)) | ((with_reducible apply PG.we_tup)) | ((with_reducible apply PG.we_lst)) | ((with_reducible apply PG.we_if)) | ((with_reducible apply PG.we_ixL); (case hget => rfl)) | ((with_reducible apply PG.we_unL); (case hget => rfl)) | ((with_reducible apply PG.we_and)) | ((with_reducible apply PG.we_or)) | ((with_reducible apply PG.we_not)) | ((with_reducible apply PG.we_chain)) | ((with_reducible apply PG.we_slT)) | ((with_reducible apply PG.we_frz); (case hget => rfl); (case hset => fail "6000")) | ((with_reducible apply PG.wa_binO)))
local macro_rules | `(tactic| fail "7003") => `(tactic| first | ((with_reducible apply PG.wn_cons)) | ((with_reducible apply PG.wn_nil)) | ((with_reducible apply PG.wn_star)) | ((with_reducible apply PG.wn_disp)) | ((with_reducible apply PG.wn_call)) | ((with_reducible apply PG.wn_sl)) | ((with_reducible apply PG.wn_its)) | ((with_reducible apply PG.wn_r1)) | ((with_reducible apply PG.wn_r2)) | ((with_reducible apply PG.wn_r3)))
local macro_rules | `(tactic| fail "7004") => `(tactic| first | ((with_reducible apply PG.wt_tru)) | ((with_reducible apply PG.wt_bl)) | ((with_reducible apply PG.wt_and)) | ((with_reducible apply PG.wt_or)) | ((with_reducible apply PG.wt_not)) | ((with_reducible apply PG.wt_yes)) | ((with_reducible apply PG.wt_truL); (case hget => rfl)))
local macro_rules | `(tactic| fail "7005") => `(tactic| first | ((with_reducible apply PG.wo_none)) | ((with_reducible apply PG.wo_some)))
local macro_rules | `(tactic| fail "7006") => `(tactic| first | ((with_reducible apply PG.wg_p0)) | ((with_reducible apply PG.wg_tup)) | ((with_reducible apply PG.wg_ps); (case hset => fail "6000")) | ((with_reducible apply PG.wg_set); (case hset => fail "6000")))
local macro_rules | `(tactic| fail "7007") => `(tactic| first | ((with_reducible apply PG.setr_i); (case hset => fail "6000")) | ((with_reducible apply PG.setl_i); (case hset => fail "6001")) | ((with_reducible apply PG.put_i); (case hset => fail "6002")) | ((with_reducible apply PG.pool_i); (case hget => rfl)) | ((with_reducible apply PG.bool_i)) | ((with_reducible apply PG.int_i)) | ((with_reducible apply PG.seqL_i)) | ((with_reducible apply PG.seqT_i)) | ((with_reducible apply PG.seqR_i)) | ((with_reducible apply PG.starT_i)) | ((with_reducible apply PG.starL_i)) | ((with_reducible apply PG.tup_i)) | ((with_reducible apply PG.ch_le)) | ((with_reducible apply PG.ch_lt)) | ((with_reducible apply PG.ch_eq)))
local macro_rules | `(tactic| fail "7008") => `(tactic| first | ((with_reducible apply PG.len_i); (case h => rfl)) | ((with_reducible apply PG.yes_i)) | ((with_reducible apply PG.no_i)) | ((with_reducible apply PG.nyes_i)) | ((with_reducible apply PG.nno_i)))
local macro_rules | `(tactic| fail "7009") => `(tactic| first | ((with_reducible apply PG.wa_add)) | ((with_reducible apply PG.wa_sub)) | ((with_reducible apply PG.wa_lt)) | ((with_reducible apply PG.wa_le)) | ((with_reducible apply PG.wa_gt)) | ((with_reducible apply PG.wa_ge)) | ((with_reducible apply PG.wa_eqI)) | ((with_reducible apply PG.wa_neI)) | ((with_reducible apply PG.wa_neg)) | ((with_reducible apply PG.wa_lenL)) | ((with_reducible apply PG.wa_lenT)) | ((with_reducible apply PG.wa_int)) | ((with_reducible apply PG.wa_max)) | ((with_reducible apply PG.wa_min)) | ((with_reducible apply PG.wa_ev1)) | ((with_reducible apply PG.wa_ev)) | ((with_reducible apply PG.wa_mod); (case h1 => omega)) | ((with_reducible apply PG.wa_div); (case h1 => omega); (case h2 => omega)) | ((with_reducible apply PG.wa_mulR); (case h1 => omega); (case h2 => omega)) | ((with_reducible apply PG.wa_mulL); (case h1 => omega); (case h2 => omega)) | ((with_reducible apply PG.wa_shr); (case h1 => omega)))
local macro_rules | `(tactic| fail "7010") => `(tactic| first | ((with_reducible apply PG.wb_bool)) | ((with_reducible apply PG.wb_int)) | ((with_reducible apply PG.wb_ev)))
local macro_rules | `(tactic| fail "7011") => `(tactic| first | ((with_reducible apply PG.wa_ix0); (case hget => rfl)) | ((with_reducible apply PG.wa_ix1); (case hget => rfl)) | ((with_reducible apply PG.wa_ix2); (case hget => rfl)) | ((with_reducible apply PG.wa_ix3); (case hget => rfl)) | ((with_reducible apply PG.wa_ix4); (case hget => rfl)) | ((with_reducible apply PG.wa_ix5); (case hget => rfl)) | ((with_reducible apply PG.wa_ix6); (case hget => rfl)) | ((with_reducible apply PG.wa_ix7); (case hget => rfl)) | ((with_reducible apply PG.wa_ix8); (case hget => rfl)) | ((with_reducible apply PG.wa_il0); (case hget => rfl)) | ((with_reducible apply PG.wa_il1); (case hget => rfl)) | ((with_reducible apply PG.wa_il2); (case hget => rfl)))
local macro_rules | `(tactic| array_get_dec) => `(tactic| first | ((with_reducible apply PG.gS); fail "7001") | ((with_reducible apply PG.gE); fail "7002") | ((with_reducible apply PG.gN); fail "7003") | ((with_reducible apply PG.gT); fail "7004") | ((with_reducible apply PG.gO); fail "7005") | ((with_reducible apply PG.gG); fail "7006") | ((with_reducible apply PG.gX); fail "7007") | ((with_reducible apply PG.gC); fail "7008") | ((with_reducible apply PG.gA); fail "7009") | ((with_reducible apply PG.gB); fail "7010") | ((with_reducible apply PG.endP_ret)) | ((with_reducible apply PG.endP_retL)) | ((with_reducible apply PG.endN_ret)) | ((with_reducible apply PG.endL_ret)) | ((with_reducible apply PG.endL_retL)) | ((with_reducible apply PG.gI); fail "7011") | ((with_reducible apply PG.wl_ev)))
local macro_rules | `(tactic| array_get_dec) => `(tactic| first | ((with_reducible apply Pr_C.wp_draw); (case hp => assumption); (case h0 => omega); (case h1 => omega)) | ((with_reducible apply Pr_C.ls_i); (case hp => assumption)))

end Pr_D
end
section
set_option Elab.async false
set_option linter.all false
set_option maxRecDepth 100000
namespace PG
open PySem
/-! ### all, any of a generator expression; a table's get -/
section
variable {ρ : Rho}
/-- every item can be asked -/
theorem we_gen {stop : Bool} {it : NF} {g : GF} {t : TF} {e : EF} {vs : List Nat} {Q : PyData → Rho → Prop} {α : Type} (en : α → PyData) (k m : α → Bool) (l : List α)
    (w : WN it ρ fun ds ρ1 => ds = l.map en ∧ plainAt ρ1 vs = true ∧
      (∀ x ∈ l, WG g (en x) (wipeR ρ1 vs) fun ρ3 => WT t ρ3 fun b ρ4 => b = k x ∧ (k x = true → WE e ρ4 fun y ρ5 => y = .bool (m x) ∧ plainAt ρ5 vs = true ∧ wipeR ρ5 vs = wipeR ρ1 vs) ∧ (k x = false → plainAt ρ4 vs = true ∧ wipeR ρ4 vs = wipeR ρ1 vs)) ∧
      Q (.bool (if stop then (l.filter k).any m else (l.filter k).all m)) (restR ρ1 (wipeR ρ1 vs) vs)) : WE (eGen stop it g t e vs) ρ Q := by
  obtain ⟨ds, r1, e1, rfl, hp, hx, hd⟩ := w
  refine ⟨_, _, ?_, hd⟩
  have key : ∀ l : List α, (∀ x ∈ l, WG g (en x) (wipeR r1 vs) fun ρ3 => WT t ρ3 fun b ρ4 => b = k x ∧ (k x = true → WE e ρ4 fun y ρ5 => y = .bool (m x) ∧ plainAt ρ5 vs = true ∧ wipeR ρ5 vs = wipeR r1 vs) ∧ (k x = false → plainAt ρ4 vs = true ∧ wipeR ρ4 vs = wipeR r1 vs)) →
      genL stop g t e vs (l.map en) (wipeR r1 vs) = some (if stop then (l.filter k).any m else (l.filter k).all m, wipeR r1 vs) := by
    intro l
    induction l with
    | nil => intro _; cases stop <;> rfl
    | cons x l ih =>
      intro hx
      obtain ⟨r3, f3, b, r4, f4, hb, q1, q2⟩ := hx x (by simp)
      have ih' := ih fun y hy => hx y (by simp [hy])
      subst hb
      cases hk : k x with
      | false =>
        obtain ⟨p5, w5⟩ := q2 hk
        rw [List.map_cons, genL]
        simp only [f3, f4, hk, p5, if_true, w5, ih', List.filter_cons, Bool.false_eq_true, if_false]
      | true =>
        obtain ⟨y, r5, f5, rfl, p5, w5⟩ := q1 hk
        rw [List.map_cons, genL]
        simp only [f3, f4, hk, f5, p5, if_true, w5, List.filter_cons]
        by_cases hm : m x = stop
        · rw [if_pos hm]
          cases stop with
          | true => simp [hm]
          | false => simp [hm]
        · rw [if_neg hm, ih']
          cases stop with
          | true =>
            have hm' : m x = false := by cases h : m x <;> simp_all
            simp [hm']
          | false =>
            have hm' : m x = true := by cases h : m x <;> simp_all
            simp [hm']
  unfold eGen
  simp only [e1, hp, if_true, key l hx]
/-- .. and there is no test -/
theorem we_gen1 {stop : Bool} {it : NF} {g : GF} {e : EF} {vs : List Nat} {Q : PyData → Rho → Prop} {α : Type} (en : α → PyData) (m : α → Bool) (l : List α)
    (w : WN it ρ fun ds ρ1 => ds = l.map en ∧ plainAt ρ1 vs = true ∧ (∀ x ∈ l, WG g (en x) (wipeR ρ1 vs) fun ρ4 => WE e ρ4 fun y ρ5 => y = .bool (m x) ∧ plainAt ρ5 vs = true ∧ wipeR ρ5 vs = wipeR ρ1 vs) ∧
      Q (.bool (if stop then l.any m else l.all m)) (restR ρ1 (wipeR ρ1 vs) vs)) : WE (eGen stop it g tYesF e vs) ρ Q := by
  obtain ⟨ds, r1, e1, rfl, hp, hx, hd⟩ := w
  refine we_gen en (fun _ => true) m l ⟨_, r1, e1, rfl, hp, fun x hx' => ?_, by rw [List.filter_eq_self.mpr (by simp)]; exact hd⟩
  obtain ⟨r3, f3, w3⟩ := hx x hx'
  exact ⟨r3, f3, true, r3, rfl, rfl, fun _ => w3, fun z => nomatch z⟩
end
end PG
end
section
set_option Elab.async false
set_option linter.all false
set_option maxRecDepth 100000
namespace PG
open PySem
/-! ### slices of tuples and texts; texts joined -/
section
variable {ρ : Rho} {f : EF}
def SlX (x : PyData) (lo hi : Option EF) (ρ1 : Rho) (Q : PyData → Rho → Prop) : Prop := match x with
  | .tuple xs => WO lo ρ1 fun l ρ2 => WO hi ρ2 fun u ρ3 => Q (.tuple (cutD xs l u)) ρ3
  | .str z => z.length ≤ 16777216 ∧ WO lo ρ1 fun l ρ2 => WO hi ρ2 fun u ρ3 => Q (.str (L2.cutS z l u)) ρ3
  | _ => False
theorem we_slX {lo hi : Option EF} {Q : PyData → Rho → Prop} (w : WE f ρ fun x ρ1 => SlX x lo hi ρ1 Q) : WE (eSlX f lo hi) ρ Q := by
  obtain ⟨x, r, e, q⟩ := w
  unfold SlX at q
  split at q
  · obtain ⟨l, r2, e2, u, r3, e3, q⟩ := q
    exact ⟨_, r3, by simp [-oE, e, e2, e3], q⟩
  · obtain ⟨hl, l, r2, e2, u, r3, e3, q⟩ := q
    exact ⟨_, r3, by simp [-oE, e, e2, e3, hl], q⟩
  · exact q.elim
theorem slx_s {z : Str} {lo hi : Option EF} {Q : PyData → Rho → Prop} (hl : z.length ≤ 16777216) (q : WO lo ρ fun l ρ2 => WO hi ρ2 fun u ρ3 => Q (.str (L2.cutS z l u)) ρ3) : SlX (.str z) lo hi ρ Q := ⟨hl, q⟩
end
end PG
end
section
set_option Elab.async false
set_option linter.all false
set_option maxRecDepth 100000
namespace PG
open PySem
/-! ### texts sign by sign; two walks; a loop that tells no at the first -/
section
variable {ρ : Rho} {f : EF}
theorem wn_ity {Q : List PyData → Rho → Prop} (w : WE f ρ fun x ρ1 => ∃ z, x = .str z ∧ Q (z.cps.toList.map sgn) ρ1) : WN (itY f) ρ Q := by
  obtain ⟨x, r, e, z, rfl, q⟩ := w
  exact ⟨_, r, by simp [itY, e], q⟩
theorem str_i {z : Str} {P : Str → Prop} (q : P z) : ∃ y, PyData.str z = .str y ∧ P y := ⟨z, rfl, q⟩
theorem slL_i {xs : List PyData} {P : List PyData → Prop} (q : P xs) : ∃ ys, (PyData.list xs = .list ys ∨ PyData.list xs = RO ys) ∧ P ys := ⟨_, .inl rfl, q⟩
theorem ch_leS {x y : Str} {P : Bool → Prop} (q : P (!decide (y.cps.toList < x.cps.toList))) : ∃ b, dLeS (.str x) (.str y) = some (.bool b) ∧ P b := ⟨_, rfl, q⟩
end
end PG
end
section
set_option Elab.async false
set_option linter.all false
set_option maxRecDepth 100000
namespace PG
open PySem
/-! ### defs that let errors out; the place of an item -/
def WX2 (x : XF) (ρ : Rho) (Q : SumE → Rho → Prop) : Prop := ∃ r ρ', x ρ = some (r, ρ') ∧ Q r ρ'
def WF (y : Option SumE) (R : SumE → Prop) : Prop := ∃ r, y = some r ∧ R r
/-- what a def ends with -/
def EndE (R : SumE → Prop) : Out → Rho → Prop
  | .ret d, _ => R (.inl d)
  | .retL [.int (.ofNat n)], _ => R (.inr n)
  | _, _ => False
section
variable {ρ : Rho} {c b : SF} {S : Out → Rho → Prop} {x y : XF} {Q : SumE → Rho → Prop} {n : NF} {t : TF} {f g : EF}
end
end PG
end
section
set_option Elab.async false
set_option linter.all false
set_option maxRecDepth 100000
namespace PG
open PySem
/-! ### closures, dicts, pop, three new lists; while that returns; lists within a list -/
def WWh (t : TF) (b : SF) (N : Nat) (ρ : Rho) (S : Out → Rho → Prop) : Prop := ∃ o ρ', whl t b N ρ = some (o, ρ') ∧ S o ρ'
section
variable {ρ : Rho} {c b : SF} {S : Out → Rho → Prop} {Q : PyData → Rho → Prop} {n : NF} {f : EF}
end
/-! #### lists within a list -/
def WSg (f : SGf) (ρ : Rho) (γ : Gam) (S : Out → Rho → Gam → Prop) : Prop := ∃ o ρ' γ', f ρ γ = some (o, ρ', γ') ∧ S o ρ' γ'
def WEg (f : EGf) (ρ : Rho) (γ : Gam) (Q : PyData → Rho → Gam → Prop) : Prop := ∃ d ρ' γ', f ρ γ = some (d, ρ', γ') ∧ Q d ρ' γ'
def WNg (f : NGf) (ρ : Rho) (γ : Gam) (Q : List PyData → Rho → Gam → Prop) : Prop := ∃ d ρ' γ', f ρ γ = some (d, ρ', γ') ∧ Q d ρ' γ'
section
variable {ρ : Rho} {γ : Gam} {a b c : SGf} {S : Out → Rho → Gam → Prop} {Q : PyData → Rho → Gam → Prop} {R : List PyData → Rho → Gam → Prop} {n : NGf} {fe : EGf} {f : EF} {t : TF} {bs : List Addr} {s : SF}
end
end PG
namespace PG
open PySem
end PG
namespace PG
end PG
namespace PG
open PySem
end PG
end
section
set_option linter.all false
set_option maxRecDepth 100000
set_option Elab.async false
namespace Pr_gatewarden_k04_texts_of_sets
open PySem PG Pr_C Pr_D L2
/-! ### texts as rows of signs -/
/-- cut at each c -/
def cut (c : Nat) (l : List Nat) : List (List Nat) := TL.spl [c] 0 [] l
theorem cut_none {c : Nat} {l : List Nat} (h : c ∉ l) : cut c l = [l] := by
  have := TL.spl_last1 (S := []) (acc := []) h
  rw [List.nil_append] at this
  exact this
theorem cut_at {c : Nat} {p : List Nat} (q : List Nat) (h : c ∉ p) : cut c (p ++ c :: q) = p :: cut c q := by
  have := TL.spl_part1 (S := []) (acc := []) (rest := q) h
  rw [List.nil_append] at this
  exact this
theorem par_none' {c : Nat} {l : List Nat} (h : c ∉ l) : TL.par [c] [] l = none := TL.par_none1 h
theorem par_at' {c : Nat} {p : List Nat} (q : List Nat) (h : c ∉ p) : TL.par [c] [] (p ++ c :: q) = some (p, q) := by
  have := TL.par_part1 (S := []) (acc := []) (rest := q) h
  rw [List.nil_append] at this
  exact this
theorem first_c (c : Nat) : ∀ l : List Nat, c ∉ l ∨ ∃ p q, l = p ++ c :: q ∧ c ∉ p
  | [] => .inl (by simp)
  | x :: l => by
    by_cases h : x = c
    · subst h
      exact .inr ⟨[], l, rfl, by simp⟩
    · rcases first_c c l with k | ⟨p, q, e, k⟩
      · exact .inl (by simp only [List.mem_cons, not_or]; exact ⟨fun z => h z.symm, k⟩)
      · exact .inr ⟨x :: p, q, by rw [e]; rfl, by simp only [List.mem_cons, not_or]; exact ⟨fun z => h z.symm, k⟩⟩
theorem cut_facts (c : Nat) : ∀ (n : Nat) (l : List Nat), l.length ≤ n → cut c l ≠ [] ∧ (∀ p ∈ cut c l, c ∉ p ∧ p.length ≤ l.length) ∧ TL.joinL [c] (cut c l) = l ∧ (cut c l).length ≤ l.length + 1 := by
  intro n
  induction n with
  | zero =>
    intro l hl
    have : l = [] := List.length_eq_zero_iff.mp (by omega)
    subst this
    rw [cut_none (by simp)]
    exact ⟨by simp, by simp, rfl, by simp⟩
  | succ n ih =>
    intro l hl
    rcases first_c c l with h | ⟨p, q, rfl, h⟩
    · rw [cut_none h]
      exact ⟨by simp, by simp [h], rfl, by simp⟩
    · simp only [List.length_append, List.length_cons] at hl
      obtain ⟨h1, h2, h3, h4⟩ := ih q (by omega)
      rw [cut_at q h]
      refine ⟨by simp, fun x hx => ?_, ?_, by simp only [List.length_cons, List.length_append]; omega⟩
      · rcases List.mem_cons.mp hx with rfl | hx
        · exact ⟨h, by simp⟩
        · have := h2 x hx
          exact ⟨this.1, by simp only [List.length_append, List.length_cons]; omega⟩
      · cases hc : cut c q with
        | nil => exact absurd hc h1
        | cons y r =>
          rw [hc] at h3
          show p ++ ([c] ++ TL.joinL [c] (y :: r)) = _
          rw [h3]
          rfl
theorem cut_join {c : Nat} {l : List Nat} : TL.joinL [c] (cut c l) = l := (cut_facts c l.length l (Nat.le_refl _)).2.2.1
theorem cut_ne {c : Nat} {l : List Nat} : cut c l ≠ [] := (cut_facts c l.length l (Nat.le_refl _)).1
theorem cut_free {c : Nat} {l p : List Nat} (h : p ∈ cut c l) : c ∉ p ∧ p.length ≤ l.length := (cut_facts c l.length l (Nat.le_refl _)).2.1 p h
theorem cut_len {c : Nat} {l : List Nat} : (cut c l).length ≤ l.length + 1 := (cut_facts c l.length l (Nat.le_refl _)).2.2.2
theorem cut_two {c : Nat} {l : List Nat} (h : c ∈ l) : 2 ≤ (cut c l).length := by
  rcases first_c c l with k | ⟨p, q, rfl, k⟩
  · exact absurd h k
  · rw [cut_at q k, List.length_cons]
    have := List.length_pos_iff.mpr (cut_ne (c := c) (l := q))
    omega
/-! ### numerals -/
def digs (l : List Nat) : Bool := l.all fun c => decide (48 ≤ c) && decide (c ≤ 57)
def numB (l : List Nat) : Bool := decide (1 ≤ l.length) && (decide (l.length ≤ 10) && (digs l && (decide (l = [48]) || decide (l.head? ≠ some 48))))
def val (l : List Nat) : Nat := NumText.digitsVal l
theorem val_snoc (l : List Nat) (c : Nat) : val (l ++ [c]) = val l * 10 + (c - 48) := by
  unfold val NumText.digitsVal
  rw [List.foldl_append]
  rfl
theorem digs_snoc {l : List Nat} {c : Nat} : digs (l ++ [c]) = (digs l && (decide (48 ≤ c) && decide (c ≤ 57))) := by
  unfold digs
  rw [List.all_append]
  simp
/-- a numeral is what its number is written as -/
theorem num_back : ∀ (n : Nat) (l : List Nat), l.length = n + 1 → digs l = true → (l = [48] ∨ l.head? ≠ some 48) → TL.numL (val l) = l ∧ (l.head? ≠ some 48 → 1 ≤ val l) := by
  intro n
  induction n with
  | zero =>
    intro l hl hd hh
    match l, hl with
    | [c], _ =>
      simp only [digs, List.all_cons, List.all_nil, Bool.and_true, Bool.and_eq_true, decide_eq_true_eq] at hd
      have hv : val [c] = c - 48 := by simp [val, NumText.digitsVal]
      rw [hv]
      refine ⟨?_, fun h => ?_⟩
      · rw [TL.numL_lt (by omega)]
        congr 1
        omega
      · have : c ≠ 48 := fun z => h (by rw [z]; rfl)
        omega
  | succ n ih =>
    intro l hl hd hh
    rcases List.eq_nil_or_concat l with rfl | ⟨m, c, rfl⟩
    · simp at hl
    · rw [List.concat_eq_append] at *
      rw [digs_snoc, Bool.and_eq_true, Bool.and_eq_true, decide_eq_true_eq, decide_eq_true_eq] at hd
      have hm : m.length = n + 1 := by simp at hl; omega
      have hne : m ≠ [] := fun z => by rw [z] at hm; cases hm
      have hhead : (m ++ [c]).head? = m.head? := by
        cases m with
        | nil => exact absurd rfl hne
        | cons x m => rfl
      have h8 : m.head? ≠ some 48 := by
        rcases hh with h | h
        · have := congrArg List.length h
          simp at this
          exact absurd this hne
        · rw [hhead] at h
          exact h
      obtain ⟨e1, e2⟩ := ih m hm hd.1 (.inr h8)
      have e2 := e2 h8
      rw [val_snoc]
      refine ⟨?_, fun _ => by omega⟩
      rw [TL.numL_step (by omega)]
      rw [show (val m * 10 + (c - 48)) / 10 = val m by omega, show (val m * 10 + (c - 48)) % 10 = c - 48 by omega, e1]
      congr 2
      omega
theorem num_of {l : List Nat} (h : numB l = true) : TL.numL (val l) = l := by
  unfold numB at h
  simp only [Bool.and_eq_true, Bool.or_eq_true, decide_eq_true_eq] at h
  exact (num_back (l.length - 1) l (by omega) h.2.2.1 h.2.2.2).1
theorem num_free {l : List Nat} (h : numB l = true) {c : Nat} (hc : c < 48 ∨ 57 < c) : c ∉ l := by
  rw [← num_of h]
  exact TL.numL_free hc
end Pr_gatewarden_k04_texts_of_sets
end
section
set_option linter.all false
set_option maxRecDepth 100000
set_option Elab.async false
namespace Pr_gatewarden_k04_texts_of_sets
open PySem PG Pr_C Pr_D L2
/-! ### a part of a text, read both ways -/
def prog1 (p : List Nat) : Option (Int × Int) := match TL.par [45] [] p with
  | none => if numB p = true then some ((val p : Nat), (val p : Nat)) else none
  | some (lo, hi) => if (numB lo && numB hi) = true then some ((val lo : Nat), (val hi : Nat)) else none
def law1 (p : List Nat) : Option (Int × Int) := match cut 45 p with
  | [x] => if numB x = true then some ((val x : Nat), (val x : Nat)) else none
  | [x, y] => if (numB x && (numB y && decide (val x ≠ val y))) = true then some ((val x : Nat), (val y : Nat)) else none
  | _ => none
def pairT (x : Int × Int) : List Nat := if x.1 = x.2 then TL.numL x.1.toNat else TL.numL x.1.toNat ++ 45 :: TL.numL x.2.toNat
theorem pairT_free {x : Int × Int} : 44 ∉ pairT x := by
  unfold pairT
  split
  · exact TL.numL_free (.inl (by decide))
  · intro h
    rcases List.mem_append.mp h with h | h
    · exact TL.numL_free (.inl (by decide)) h
    · rcases List.mem_cons.mp h with h | h
      · cases h
      · exact TL.numL_free (.inl (by decide)) h
theorem part_one (p : List Nat) : (∀ v, law1 p = some v → prog1 p = some v ∧ pairT v = p) ∧ (law1 p = none → ∀ v, prog1 p = some v → pairT v ≠ p) := by
  rcases first_c 45 p with h | ⟨lo, hi, rfl, h⟩
  · unfold law1 prog1
    rw [cut_none h, par_none' h]
    simp only
    by_cases hn : numB p = true
    · rw [if_pos hn]
      refine ⟨fun v e => ?_, fun e => by cases e⟩
      cases e
      refine ⟨rfl, ?_⟩
      unfold pairT
      rw [if_pos rfl]
      exact num_of hn
    · rw [if_neg hn]
      exact ⟨fun v e => (by cases e), fun _ v e => by cases e⟩
  · unfold law1 prog1
    rw [cut_at hi h, par_at' hi h]
    simp only
    by_cases h2 : 45 ∈ hi
    · have hno : numB hi = false := by
        cases e : numB hi with
        | false => rfl
        | true => exact absurd h2 (num_free e (.inl (by decide)))
      rw [hno, Bool.and_false, if_neg (by decide)]
      have h3 := cut_two h2
      refine ⟨fun v e => ?_, fun _ v e => by cases e⟩
      match hc : cut 45 hi, h3 with
      | x :: y :: r, _ => rw [hc] at e; cases e
    · rw [cut_none h2]
      simp only
      by_cases h3 : (numB lo && (numB hi && decide (val lo ≠ val hi))) = true
      · rw [if_pos h3]
        simp only [Bool.and_eq_true, decide_eq_true_eq] at h3
        refine ⟨fun v e => ?_, fun e => by cases e⟩
        cases e
        refine ⟨by rw [if_pos (by rw [h3.1, h3.2.1]; rfl)], ?_⟩
        unfold pairT
        have hne : ¬ ((val lo : Nat) : Int) = ((val hi : Nat) : Int) := fun z => h3.2.2 (by exact Int.ofNat.inj z)
        simp only
        rw [if_neg hne]
        simp only [Int.toNat_natCast]
        rw [num_of h3.1, num_of h3.2.1]
      · rw [if_neg h3]
        refine ⟨fun v e => (by cases e), fun _ v e => ?_⟩
        by_cases h4 : (numB lo && numB hi) = true
        · rw [if_pos h4] at e
          cases e
          rw [Bool.and_eq_true] at h4
          have hv : val lo = val hi := by
            by_cases z : val lo = val hi
            · exact z
            · exact absurd (by rw [h4.1, h4.2]; simp [z]) h3
          unfold pairT
          rw [if_pos (by show ((val lo : Nat) : Int) = ((val hi : Nat) : Int); rw [hv])]
          show TL.numL (((val lo : Nat) : Int)).toNat ≠ _
          simp only [Int.toNat_natCast]
          rw [num_of h4.1]
          intro z
          have := congrArg List.length z
          simp at this
        · rw [if_neg h4] at e
          cases e
def allO (f : List Nat → Option (Int × Int)) : List (List Nat) → Option (List (Int × Int))
  | [] => some []
  | p :: r => match f p with
    | none => none
    | some v => (allO f r).map (v :: ·)
theorem parts_all : ∀ ps : List (List Nat), (∀ vs, allO law1 ps = some vs → allO prog1 ps = some vs ∧ vs.map pairT = ps) ∧ (allO law1 ps = none → ∀ vs, allO prog1 ps = some vs → vs.map pairT ≠ ps)
  | [] => ⟨fun vs e => by cases e; exact ⟨rfl, rfl⟩, fun e => by cases e⟩
  | p :: r => by
    obtain ⟨a1, a2⟩ := part_one p
    obtain ⟨b1, b2⟩ := parts_all r
    unfold allO
    cases hl : law1 p with
    | none =>
      refine ⟨fun vs e => (by cases e), fun _ vs e => ?_⟩
      cases hp : prog1 p with
      | none => rw [hp] at e; cases e
      | some v =>
        rw [hp] at e
        simp only at e
        cases hr : allO prog1 r with
        | none => rw [hr] at e; cases e
        | some ws =>
          rw [hr] at e
          cases e
          intro z
          rw [List.map_cons] at z
          exact a2 hl v hp (List.cons.inj z).1
    | some v =>
      obtain ⟨c1, c2⟩ := a1 v hl
      rw [c1]
      simp only
      cases hr : allO law1 r with
      | none =>
        refine ⟨fun vs e => (by cases e), fun _ vs e => ?_⟩
        cases hq : allO prog1 r with
        | none => rw [hq] at e; cases e
        | some ws =>
          rw [hq] at e
          cases e
          intro z
          rw [List.map_cons] at z
          exact b2 hr ws hq (List.cons.inj z).2
      | some ws =>
        obtain ⟨d1, d2⟩ := b1 ws hr
        refine ⟨fun vs e => ?_, fun e => by cases e⟩
        cases e
        rw [d1]
        exact ⟨rfl, by rw [List.map_cons, c2, d2]⟩
/-- the whole text: as the program tells it, as the law does -/
theorem whole (l : List Nat) : (∀ vs, allO law1 (cut 44 l) = some vs → allO prog1 (cut 44 l) = some vs ∧ TL.joinL [44] (vs.map pairT) = l) ∧ (allO law1 (cut 44 l) = none → ∀ vs, allO prog1 (cut 44 l) = some vs → TL.joinL [44] (vs.map pairT) ≠ l) := by
  obtain ⟨a1, a2⟩ := parts_all (cut 44 l)
  refine ⟨fun vs e => ?_, fun e vs e2 z => ?_⟩
  · obtain ⟨b1, b2⟩ := a1 vs e
    exact ⟨b1, by rw [b2]; exact cut_join⟩
  · refine a2 e vs e2 ?_
    have hne : vs.map pairT ≠ [] := fun y => by
      have : vs = [] := List.map_eq_nil_iff.mp y
      subst this
      have key : ∀ ps : List (List Nat), allO prog1 ps = some [] → ps = [] := fun ps h => by
        cases ps with
        | nil => rfl
        | cons p r =>
          unfold allO at h
          cases hp : prog1 p with
          | none => rw [hp] at h; cases h
          | some v =>
            rw [hp] at h
            cases hr : allO prog1 r <;> rw [hr] at h <;> cases h
      exact cut_ne (key _ e2)
    have := TL.spl_join (s := 44) (S := []) hne (fun p hp => by obtain ⟨x, _, rfl⟩ := List.mem_map.mp hp; exact pairT_free)
    rw [z] at this
    exact this.symm
end Pr_gatewarden_k04_texts_of_sets
end
section
set_option linter.all false
set_option maxRecDepth 100000
set_option Elab.async false
namespace Pr_gatewarden_k04_texts_of_sets
open PySem PG Pr_C Pr_D L2
open SX (S S_inj S_len split_S join_S partition_some partition_none num_S int_S S_cat)
/-! ### numerals, by both -/
theorem o0 : Str.ofString "0" = S [48] := by decide +kernel
theorem o9 : Str.ofString "9" = S [57] := by decide +kernel
theorem oD : (Str.ofString "0123456789").cps.toList = List.range' 48 10 := by decide +kernel
theorem S_eq (a b : List Nat) : decide (S a = S b) = decide (a = b) := by
  apply decide_eq_decide.mpr
  exact ⟨S_inj, fun h => by rw [h]⟩
theorem S_tl' (a : List Nat) : (S a).cps.toList = a := by simp [S]
def isD (c : Nat) : Bool := decide (48 ≤ c) && decide (c ≤ 57)
theorem lt_one (a b : Nat) : decide (([a] : List Nat) < [b]) = decide (a < b) := by
  apply decide_eq_decide.mpr
  simp [List.cons_lt_cons_iff]
theorem num_elt (x0 : Option Cell) (c : Nat) : X_is_numeral_1 [x0, some (.v (sgn c))] = some (.bool (isD c), [x0, some (.v (sgn c))]) := by
  have e1 : dLeS (.str (Str.ofString "0")) (sgn c) = some (.bool (decide (48 ≤ c))) := by
    show some (PyData.bool (!decide (([c] : List Nat) < (Str.ofString "0").cps.toList))) = _
    rw [o0, S_tl', lt_one, ← decide_not, decide_eq_decide.mpr Nat.not_lt]
  have e2 : dLeS (sgn c) (.str (Str.ofString "9")) = some (.bool (decide (c ≤ 57))) := by
    show some (PyData.bool (!decide ((Str.ofString "9").cps.toList < ([c] : List Nat)))) = _
    rw [o9, S_tl', lt_one, ← decide_not, decide_eq_decide.mpr Nat.not_lt]
  unfold X_is_numeral_1 isD
  simp only [eChain, eC, eName, List.getElem?_cons_succ, List.getElem?_cons_zero, e1, e2]
  cases decide (48 ≤ c) <;> rfl
theorem dec_elt (x0 : Option Cell) (c : Nat) : X_law_decimal_1 [x0, some (.v (sgn c))] = some (!isD c, [x0, some (.v (sgn c))]) := by
  have e : dMemS true (sgn c) (.str (Str.ofString "0123456789")) = some (.bool (!isD c)) := by
    have : decide (c ∈ (Str.ofString "0123456789").cps.toList) = isD c := by
      rw [oD]
      unfold isD
      rw [← Bool.decide_and]
      apply decide_eq_decide.mpr
      rw [List.mem_range'_1]
      omega
    rw [← this]
    rfl
  unfold X_law_decimal_1
  simp only [tBl, eBin, eC, eName, List.getElem?_cons_succ, List.getElem?_cons_zero, e]
theorem lenS (l : List Nat) (h : l.length ≤ 100000) : o1of dLen [.str (S l)] = some (.int (l.length : Nat)) := by
  have h2 : (S l).length ≤ 16777216 := by rw [S_len]; omega
  have h3 : l.length ≤ 16777216 := by omega
  simp only [o1of, dLen, h2, h3, if_true, S_len]
theorem ix0 {c : Nat} {l : List Nat} (h : (c :: l).length ≤ 100000) : dIxS (.str (S (c :: l))) (.int 0) = some (sgn c) := by
  unfold dIxS
  simp only
  rw [if_pos (by rw [S_len]; omega)]
  have : ixOf (c :: l).length 0 = some 0 := ixOf_nat (v := 0) (by decide) (by simp)
  rw [this]
  rfl
theorem sg0 (c : Nat) : dNeS (sgn c) (.str (Str.ofString "0")) = some (.bool (decide (c ≠ 48))) := by
  show some (PyData.bool (!decide ((S [c]) = Str.ofString "0"))) = _
  rw [o0, S_eq, ← decide_not]
  congr 2
  apply decide_eq_decide.mpr
  simp
theorem sg1 (c : Nat) : dEqS (sgn c) (.str (Str.ofString "0")) = some (.bool (decide (c = 48))) := by
  show some (PyData.bool (decide ((S [c]) = Str.ofString "0"))) = _
  rw [o0, S_eq]
  congr 2
  apply decide_eq_decide.mpr
  simp
theorem eq0 (l : List Nat) : dEqS (.str (S l)) (.str (Str.ofString "0")) = some (.bool (decide (l = [48]))) := by
  show some (PyData.bool (decide ((S l) = Str.ofString "0"))) = _
  rw [o0, S_eq]
theorem wipe1' (a : Option Cell) : wipeR [a, none] [1] = [a, none] := rfl
theorem digs_isD (l : List Nat) : l.all isD = digs l := rfl
local macro_rules | `(tactic| fail "6000") => `(tactic| repeat' (first | apply PG.SetR.s | exact PG.SetR.h0 | exact PG.SetR.h1 | exact PG.SetR.hl | exact PG.SetR.hc (by assumption)))
local macro_rules | `(tactic| fail "6001") => `(tactic| repeat' (first | apply PG.SetLR.s | exact PG.SetLR.h0 | exact PG.SetLR.h1 | exact PG.SetLR.hl))
local macro_rules | `(tactic| fail "6002") => `(tactic| repeat' (first | apply PG.PutR.s | exact PG.PutR.h))
local macro_rules | `(tactic| fail "7001") => `(tactic| first | ((with_reducible apply PG.ws_set)) | ((with_reducible apply PG.ws_if)) | ((with_reducible apply PG.ws_ret)) | ((with_reducible apply PG.ws_setL)) | ((with_reducible apply PG.ws_expr)) | ((with_reducible apply PG.ws_nilc)) | ((with_reducible apply PG.ws_asc)) | ((with_reducible apply PG.ws_nil)) | ((with_reducible apply PG.ws_for)) | ((with_reducible apply PG.ws_asg)) | ((with_reducible apply PG.ws_par)) | ((with_reducible apply PG.ws_retL)) | ((with_reducible apply PG.ws_brk)) | ((with_reducible apply PG.ws_cont)) | ((with_reducible apply PG.ws_forn)) | ((with_reducible apply PG.ws_sto)) | ((with_reducible apply PG.ws_aug); (case hget => rfl)) | ((with_reducible apply PG.ws_app); (case hget => rfl)) | ((with_reducible apply PG.ws_retO); (case hget => rfl)))
local macro_rules | `(tactic| fail "7002") => `(tactic| first | ((with_reducible apply PG.we_name); (case hget => rfl)) | ((with_reducible apply PG.we_c)) | ((with_reducible apply PG.we_bin)) | ((with_reducible apply PG.we_un)) | ((with_reducible apply PG.we_call)) | ((with_reducible apply PG.we_callL); (case hget => rfl)) | ((with_reducible apply PG.we_tup)) | ((with_reducible apply PG.we_lst)) | ((with_reducible apply PG.we_if)) | ((with_reducible apply PG.we_ixL); (case hget => rfl)) | ((with_reducible apply PG.we_unL); (case hget => rfl)) | ((with_reducible apply PG.we_and)) | ((with_reducible apply PG.we_or)) | ((with_reducible apply PG.we_not)) | ((with_reducible apply PG.we_chain)) | ((with_reducible apply PG.we_slT)) | ((with_reducible apply PG.we_frz); (case hget => rfl); (case hset => fail "6000")) | ((with_reducible apply PG.wa_binO)))
local macro_rules | `(tactic| fail "7003") => `(tactic| first | ((with_reducible apply PG.wn_cons)) | ((with_reducible apply PG.wn_nil)) | ((with_reducible apply PG.wn_star)) | ((with_reducible apply PG.wn_disp)) | ((with_reducible apply PG.wn_call)) | ((with_reducible apply PG.wn_sl)) | ((with_reducible apply PG.wn_its)) | ((with_reducible apply PG.wn_r1)) | ((with_reducible apply PG.wn_r2)) | ((with_reducible apply PG.wn_r3)))
local macro_rules | `(tactic| fail "7004") => `(tactic| first | ((with_reducible apply PG.wt_tru)) | ((with_reducible apply PG.wt_bl)) | ((with_reducible apply PG.wt_and)) | ((with_reducible apply PG.wt_or)) | ((with_reducible apply PG.wt_not)) | ((with_reducible apply PG.wt_yes)) | ((with_reducible apply PG.wt_truL); (case hget => rfl)))
local macro_rules | `(tactic| fail "7005") => `(tactic| first | ((with_reducible apply PG.wo_none)) | ((with_reducible apply PG.wo_some)))
local macro_rules | `(tactic| fail "7006") => `(tactic| first | ((with_reducible apply PG.wg_p0)) | ((with_reducible apply PG.wg_tup)) | ((with_reducible apply PG.wg_ps); (case hset => fail "6000")) | ((with_reducible apply PG.wg_set); (case hset => fail "6000")))
local macro_rules | `(tactic| fail "7007") => `(tactic| first | ((with_reducible apply PG.setr_i); (case hset => fail "6000")) | ((with_reducible apply PG.setl_i); (case hset => fail "6001")) | ((with_reducible apply PG.put_i); (case hset => fail "6002")) | ((with_reducible apply PG.pool_i); (case hget => rfl)) | ((with_reducible apply PG.bool_i)) | ((with_reducible apply PG.int_i)) | ((with_reducible apply PG.seqL_i)) | ((with_reducible apply PG.seqT_i)) | ((with_reducible apply PG.seqR_i)) | ((with_reducible apply PG.starT_i)) | ((with_reducible apply PG.starL_i)) | ((with_reducible apply PG.tup_i)) | ((with_reducible apply PG.ch_le)) | ((with_reducible apply PG.ch_lt)) | ((with_reducible apply PG.ch_eq)))
local macro_rules | `(tactic| fail "7008") => `(tactic| first | ((with_reducible apply PG.len_i); (case h => rfl)) | ((with_reducible apply PG.yes_i)) | ((with_reducible apply PG.no_i)) | ((with_reducible apply PG.nyes_i)) | ((with_reducible apply PG.nno_i)))
local macro_rules | `(tactic| fail "7009") => `(tactic| first | ((with_reducible apply PG.wa_add)) | ((with_reducible apply PG.wa_sub)) | ((with_reducible apply PG.wa_lt)) | ((with_reducible apply PG.wa_le)) | ((with_reducible apply PG.wa_gt)) | ((with_reducible apply PG.wa_ge)) | ((with_reducible apply PG.wa_eqI)) | ((with_reducible apply PG.wa_neI)) | ((with_reducible apply PG.wa_neg)) | ((with_reducible apply PG.wa_lenL)) | ((with_reducible apply PG.wa_lenT)) | ((with_reducible apply PG.wa_int)) | ((with_reducible apply PG.wa_max)) | ((with_reducible apply PG.wa_min)) | ((with_reducible apply PG.wa_ev1)) | ((with_reducible apply PG.wa_ev)) | ((with_reducible apply PG.wa_mod); (case h1 => omega)) | ((with_reducible apply PG.wa_div); (case h1 => omega); (case h2 => omega)) | ((with_reducible apply PG.wa_mulR); (case h1 => omega); (case h2 => omega)) | ((with_reducible apply PG.wa_mulL); (case h1 => omega); (case h2 => omega)) | ((with_reducible apply PG.wa_shr); (case h1 => omega)))
local macro_rules | `(tactic| fail "7010") => `(tactic| first | ((with_reducible apply PG.wb_bool)) | ((with_reducible apply PG.wb_int)) | ((with_reducible apply PG.wb_ev)))
local macro_rules | `(tactic| fail "7011") => `(tactic| first | ((with_reducible apply PG.wa_ix0); (case hget => rfl)) | ((with_reducible apply PG.wa_ix1); (case hget => rfl)) | ((with_reducible apply PG.wa_ix2); (case hget => rfl)) | ((with_reducible apply PG.wa_ix3); (case hget => rfl)) | ((with_reducible apply PG.wa_ix4); (case hget => rfl)) | ((with_reducible apply PG.wa_ix5); (case hget => rfl)) | ((with_reducible apply PG.wa_ix6); (case hget => rfl)) | ((with_reducible apply PG.wa_ix7); (case hget => rfl)) | ((with_reducible apply PG.wa_ix8); (case hget => rfl)) | ((with_reducible apply PG.wa_il0); (case hget => rfl)) | ((with_reducible apply PG.wa_il1); (case hget => rfl)) | ((with_reducible apply PG.wa_il2); (case hget => rfl)))
local macro_rules | `(tactic| array_get_dec) => `(tactic| first | ((with_reducible apply PG.gS); fail "7001") | ((with_reducible apply PG.gE); fail "7002") | ((with_reducible apply PG.gN); fail "7003") | ((with_reducible apply PG.gT); fail "7004") | ((with_reducible apply PG.gO); fail "7005") | ((with_reducible apply PG.gG); fail "7006") | ((with_reducible apply PG.gX); fail "7007") | ((with_reducible apply PG.gC); fail "7008") | ((with_reducible apply PG.gA); fail "7009") | ((with_reducible apply PG.gB); fail "7010") | ((with_reducible apply PG.endP_ret)) | ((with_reducible apply PG.endP_retL)) | ((with_reducible apply PG.endN_ret)) | ((with_reducible apply PG.endL_ret)) | ((with_reducible apply PG.endL_retL)) | ((with_reducible apply PG.gI); fail "7011") | ((with_reducible apply PG.wl_ev)))
local macro_rules | `(tactic| array_get_dec) => `(tactic| first | ((with_reducible apply Pr_C.wp_draw); (case hp => assumption); (case h0 => omega); (case h1 => omega)) | ((with_reducible apply Pr_C.ls_i); (case hp => assumption)))

local macro_rules | `(tactic| fail "7012") => `(tactic| first | ((with_reducible apply PG.str_i)) | ((with_reducible apply PG.ch_leS)) | ((with_reducible apply PG.slL_i)))
local macro_rules | `(tactic| array_get_dec) => `(tactic| first | ((with_reducible apply PG.wn_ity)) | ((with_reducible apply PG.gX); fail "7012"))

theorem numeral_ok (l : List Nat) (hl : l.length ≤ 100000) : F_is_numeral [.str (S l)] = some (.bool (numB l)) := by
  refine of_wa ?_
  unfold F_is_numeral; refine PG.wa_def rfl ?_; simp only [PG.rho0_eq, List.map_cons, List.map_nil, List.replicate_succ, List.replicate_zero, List.cons_append, List.nil_append]; unfold B_is_numeral
  (repeat array_get_dec)
  refine wa_eq (lenS l hl) ?_
  (repeat array_get_dec)
  unfold numB
  cases e1 : decide ((1 : Int) ≤ (l.length : Nat)) with
  | false =>
    (repeat array_get_dec)
    have : decide (1 ≤ l.length) = false := decide_eq_false (by have := of_decide_eq_false e1; omega)
    rw [this, Bool.false_and]
  | true =>
  have f1 : decide (1 ≤ l.length) = true := decide_eq_true (by have := of_decide_eq_true e1; omega)
  rw [f1, Bool.true_and]
  (repeat array_get_dec)
  cases e2 : decide (((l.length : Nat) : Int) ≤ 10) with
  | false =>
    (repeat array_get_dec)
    have : decide (l.length ≤ 10) = false := decide_eq_false (by have := of_decide_eq_false e2; omega)
    rw [this, Bool.false_and]
  | true =>
  have f2 : decide (l.length ≤ 10) = true := decide_eq_true (by have := of_decide_eq_true e2; omega)
  rw [f2, Bool.true_and]
  (repeat array_get_dec)
  refine we_gen1 sgn isD l ?_
  (repeat array_get_dec)
  refine ⟨by rw [S_tl'], rfl, fun c hc => ?_, ?_⟩
  · simp only [wipe1']
    (repeat array_get_dec)
    exact ⟨_, _, num_elt _ _, rfl, rfl, rfl⟩
  · rw [show (if false = true then l.any isD else l.all isD) = digs l from rfl]
    cases e3 : digs l with
    | false =>
      (repeat array_get_dec)
      rfl
    | true =>
    (repeat array_get_dec)
    rw [Bool.true_and]
    refine wa_eq (eq0 l) ?_
    cases e4 : decide (l = [48]) with
    | true =>
      (repeat array_get_dec)
      rfl
    | false =>
    rw [Bool.false_or]
    (repeat array_get_dec)
    cases l with
    | nil => cases f1
    | cons c r =>
      refine wa_eq (ix0 hl) ?_
      (repeat array_get_dec)
      refine wa_eq (sg0 c) ?_
      (repeat array_get_dec)
      congr 1
      apply decide_eq_decide.mpr
      simp
end Pr_gatewarden_k04_texts_of_sets
end
section
set_option linter.all false
set_option maxRecDepth 100000
set_option Elab.async false
namespace Pr_gatewarden_k04_texts_of_sets
open PySem PG Pr_C Pr_D L2
open SX (S S_inj S_len split_S join_S partition_some partition_none num_S int_S S_cat)
theorem intS_ok {l : List Nat} (h : digs l = true) (hne : l ≠ []) (hl : l.length ≤ 10) : o1of dIntS [.str (S l)] = some (.int (val l : Nat)) := by
  have e := int_S (a := l) h hne (by omega)
  have h2 : (S l).length ≤ 640 := by rw [S_len]; omega
  show (match PySem.intText? (S l) with | some n => if (S l).length ≤ 640 then some (PyData.int n) else none | none => none) = _
  rw [e]
  simp only [h2, if_true]
  rfl
theorem bad_signs (l : List Nat) : decide ((0 : Int) < (((l.filter fun c => !isD c).map sgn).length : Nat)) = !digs l := by
  rw [List.length_map, Bool.eq_iff_iff, decide_eq_true_eq, Bool.not_eq_true', ← Bool.not_eq_true, ← digs_isD, List.all_eq_true]
  constructor
  · intro h hall
    have : (l.filter fun c => !isD c) = [] := List.filter_eq_nil_iff.mpr fun x hx => by rw [hall x hx]; simp
    rw [this] at h
    simp at h
  · intro h
    cases hf : l.filter fun c => !isD c with
    | nil =>
      exact absurd (fun x hx => by
        have := List.filter_eq_nil_iff.mp hf x hx
        simpa using this) h
    | cons x r => simp
local macro_rules | `(tactic| fail "6000") => `(tactic| repeat' (first | apply PG.SetR.s | exact PG.SetR.h0 | exact PG.SetR.h1 | exact PG.SetR.hl | exact PG.SetR.hc (by assumption)))
local macro_rules | `(tactic| fail "6001") => `(tactic| repeat' (first | apply PG.SetLR.s | exact PG.SetLR.h0 | exact PG.SetLR.h1 | exact PG.SetLR.hl))
local macro_rules | `(tactic| fail "6002") => `(tactic| repeat' (first | apply PG.PutR.s | exact PG.PutR.h))
local macro_rules | `(tactic| fail "7001") => `(tactic| first | ((with_reducible apply PG.ws_set)) | ((with_reducible apply PG.ws_if)) | ((with_reducible apply PG.ws_ret)) | ((with_reducible apply PG.ws_setL)) | ((with_reducible apply PG.ws_expr)) | ((with_reducible apply PG.ws_nilc)) | ((with_reducible apply PG.ws_asc)) | ((with_reducible apply PG.ws_nil)) | ((with_reducible apply PG.ws_for)) | ((with_reducible apply PG.ws_asg)) | ((with_reducible apply PG.ws_par)) | ((with_reducible apply PG.ws_retL)) | ((with_reducible apply PG.ws_brk)) | ((with_reducible apply PG.ws_cont)) | ((with_reducible apply PG.ws_forn)) | ((with_reducible apply PG.ws_sto)) | ((with_reducible apply PG.ws_aug); (case hget => rfl)) | ((with_reducible apply PG.ws_app); (case hget => rfl)) | ((with_reducible apply PG.ws_retO); (case hget => rfl)))
local macro_rules | `(tactic| fail "7002") => `(tactic| first | ((with_reducible apply PG.we_name); (case hget => rfl)) | ((with_reducible apply PG.we_c)) | ((with_reducible apply PG.we_bin)) | ((with_reducible apply PG.we_un)) | ((with_reducible apply PG.we_call)) | ((with_reducible apply PG.we_callL); (case hget => rfl)) | ((with_reducible apply PG.we_tup)) | ((with_reducible apply PG.we_lst)) | ((with_reducible apply PG.we_if)) | ((with_reducible apply PG.we_ixL); (case hget => rfl)) | ((with_reducible apply PG.we_unL); (case hget => rfl)) | ((with_reducible apply PG.we_and)) | ((with_reducible apply PG.we_or)) | ((with_reducible apply PG.we_not)) | ((with_reducible apply PG.we_chain)) | ((with_reducible apply PG.we_slT)) | ((with_reducible apply PG.we_frz); (case hget => rfl); (case hset => fail "6000")) | ((with_reducible apply PG.wa_binO)))
local macro_rules | `(tactic| fail "7003") => `(tactic| first | ((with_reducible apply PG.wn_cons)) | ((with_reducible apply PG.wn_nil)) | ((with_reducible apply PG.wn_star)) | ((with_reducible apply PG.wn_disp)) | ((with_reducible apply PG.wn_call)) | ((with_reducible apply PG.wn_sl)) | ((with_reducible apply PG.wn_its)) | ((with_reducible apply PG.wn_r1)) | ((with_reducible apply PG.wn_r2)) | ((with_reducible apply PG.wn_r3)))
local macro_rules | `(tactic| fail "7004") => `(tactic| first | ((with_reducible apply PG.wt_tru)) | ((with_reducible apply PG.wt_bl)) | ((with_reducible apply PG.wt_and)) | ((with_reducible apply PG.wt_or)) | ((with_reducible apply PG.wt_not)) | ((with_reducible apply PG.wt_yes)) | ((with_reducible apply PG.wt_truL); (case hget => rfl)))
local macro_rules | `(tactic| fail "7005") => `(tactic| first | ((with_reducible apply PG.wo_none)) | ((with_reducible apply PG.wo_some)))
local macro_rules | `(tactic| fail "7006") => `(tactic| first | ((with_reducible apply PG.wg_p0)) | ((with_reducible apply PG.wg_tup)) | ((with_reducible apply PG.wg_ps); (case hset => fail "6000")) | ((with_reducible apply PG.wg_set); (case hset => fail "6000")))
local macro_rules | `(tactic| fail "7007") => `(tactic| first | ((with_reducible apply PG.setr_i); (case hset => fail "6000")) | ((with_reducible apply PG.setl_i); (case hset => fail "6001")) | ((with_reducible apply PG.put_i); (case hset => fail "6002")) | ((with_reducible apply PG.pool_i); (case hget => rfl)) | ((with_reducible apply PG.bool_i)) | ((with_reducible apply PG.int_i)) | ((with_reducible apply PG.seqL_i)) | ((with_reducible apply PG.seqT_i)) | ((with_reducible apply PG.seqR_i)) | ((with_reducible apply PG.starT_i)) | ((with_reducible apply PG.starL_i)) | ((with_reducible apply PG.tup_i)) | ((with_reducible apply PG.ch_le)) | ((with_reducible apply PG.ch_lt)) | ((with_reducible apply PG.ch_eq)))
local macro_rules | `(tactic| fail "7008") => `(tactic| first | ((with_reducible apply PG.len_i); (case h => rfl)) | ((with_reducible apply PG.yes_i)) | ((with_reducible apply PG.no_i)) | ((with_reducible apply PG.nyes_i)) | ((with_reducible apply PG.nno_i)))
local macro_rules | `(tactic| fail "7009") => `(tactic| first | ((with_reducible apply PG.wa_add)) | ((with_reducible apply PG.wa_sub)) | ((with_reducible apply PG.wa_lt)) | ((with_reducible apply PG.wa_le)) | ((with_reducible apply PG.wa_gt)) | ((with_reducible apply PG.wa_ge)) | ((with_reducible apply PG.wa_eqI)) | ((with_reducible apply PG.wa_neI)) | ((with_reducible apply PG.wa_neg)) | ((with_reducible apply PG.wa_lenL)) | ((with_reducible apply PG.wa_lenT)) | ((with_reducible apply PG.wa_int)) | ((with_reducible apply PG.wa_max)) | ((with_reducible apply PG.wa_min)) | ((with_reducible apply PG.wa_ev1)) | ((with_reducible apply PG.wa_ev)) | ((with_reducible apply PG.wa_mod); (case h1 => omega)) | ((with_reducible apply PG.wa_div); (case h1 => omega); (case h2 => omega)) | ((with_reducible apply PG.wa_mulR); (case h1 => omega); (case h2 => omega)) | ((with_reducible apply PG.wa_mulL); (case h1 => omega); (case h2 => omega)) | ((with_reducible apply PG.wa_shr); (case h1 => omega)))
local macro_rules | `(tactic| fail "7010") => `(tactic| first | ((with_reducible apply PG.wb_bool)) | ((with_reducible apply PG.wb_int)) | ((with_reducible apply PG.wb_ev)))
local macro_rules | `(tactic| fail "7011") => `(tactic| first | ((with_reducible apply PG.wa_ix0); (case hget => rfl)) | ((with_reducible apply PG.wa_ix1); (case hget => rfl)) | ((with_reducible apply PG.wa_ix2); (case hget => rfl)) | ((with_reducible apply PG.wa_ix3); (case hget => rfl)) | ((with_reducible apply PG.wa_ix4); (case hget => rfl)) | ((with_reducible apply PG.wa_ix5); (case hget => rfl)) | ((with_reducible apply PG.wa_ix6); (case hget => rfl)) | ((with_reducible apply PG.wa_ix7); (case hget => rfl)) | ((with_reducible apply PG.wa_ix8); (case hget => rfl)) | ((with_reducible apply PG.wa_il0); (case hget => rfl)) | ((with_reducible apply PG.wa_il1); (case hget => rfl)) | ((with_reducible apply PG.wa_il2); (case hget => rfl)))
local macro_rules | `(tactic| array_get_dec) => `(tactic| first | ((with_reducible apply PG.gS); fail "7001") | ((with_reducible apply PG.gE); fail "7002") | ((with_reducible apply PG.gN); fail "7003") | ((with_reducible apply PG.gT); fail "7004") | ((with_reducible apply PG.gO); fail "7005") | ((with_reducible apply PG.gG); fail "7006") | ((with_reducible apply PG.gX); fail "7007") | ((with_reducible apply PG.gC); fail "7008") | ((with_reducible apply PG.gA); fail "7009") | ((with_reducible apply PG.gB); fail "7010") | ((with_reducible apply PG.endP_ret)) | ((with_reducible apply PG.endP_retL)) | ((with_reducible apply PG.endN_ret)) | ((with_reducible apply PG.endL_ret)) | ((with_reducible apply PG.endL_retL)) | ((with_reducible apply PG.gI); fail "7011") | ((with_reducible apply PG.wl_ev)))
local macro_rules | `(tactic| array_get_dec) => `(tactic| first | ((with_reducible apply Pr_C.wp_draw); (case hp => assumption); (case h0 => omega); (case h1 => omega)) | ((with_reducible apply Pr_C.ls_i); (case hp => assumption)))

local macro_rules | `(tactic| fail "7012") => `(tactic| first | ((with_reducible apply PG.str_i)) | ((with_reducible apply PG.ch_leS)) | ((with_reducible apply PG.slL_i)))
local macro_rules | `(tactic| array_get_dec) => `(tactic| first | ((with_reducible apply PG.wn_ity)) | ((with_reducible apply PG.gX); fail "7012"))

theorem decimal_ok (l : List Nat) (hl : l.length ≤ 100000) : F_law_decimal [.str (S l)] = some (if numB l = true then .int (val l : Nat) else .none) := by
  refine of_wa ?_
  unfold F_law_decimal; refine PG.wa_def rfl ?_; simp only [PG.rho0_eq, List.map_cons, List.map_nil, List.replicate_succ, List.replicate_zero, List.cons_append, List.nil_append]; unfold B_law_decimal
  (repeat array_get_dec)
  refine wa_eq (lenS l hl) ?_
  (repeat array_get_dec)
  unfold numB
  cases e1 : decide (((l.length : Nat) : Int) < 1) with
  | true =>
    (repeat array_get_dec)
    have : decide (1 ≤ l.length) = false := decide_eq_false (by have := of_decide_eq_true e1; omega)
    rw [this, Bool.false_and, if_neg (by decide)]
  | false =>
  have f1 : decide (1 ≤ l.length) = true := decide_eq_true (by have := of_decide_eq_false e1; omega)
  rw [f1, Bool.true_and]
  (repeat array_get_dec)
  refine wa_eq (lenS l hl) ?_
  (repeat array_get_dec)
  cases e2 : decide ((10 : Int) < (l.length : Nat)) with
  | true =>
    (repeat array_get_dec)
    have : decide (l.length ≤ 10) = false := decide_eq_false (by have := of_decide_eq_true e2; omega)
    rw [this, Bool.false_and, if_neg (by decide)]
  | false =>
  have f2 : decide (l.length ≤ 10) = true := decide_eq_true (by have := of_decide_eq_false e2; omega)
  rw [f2, Bool.true_and]
  (repeat array_get_dec)
  refine wn_map sgn (fun c => !isD c) sgn l ?_
  (repeat array_get_dec)
  refine ⟨by rw [S_tl'], by omega, rfl, fun c hc => ?_, ?_⟩
  · simp only [wipe1']
    (repeat array_get_dec)
    refine ⟨_, _, dec_elt _ _, rfl, fun _ => ?_, fun _ => ⟨rfl, rfl⟩⟩
    unfold X_law_decimal_2
    (repeat array_get_dec)
    exact ⟨rfl, rfl, rfl⟩
  (repeat array_get_dec)
  rw [bad_signs]
  cases e3 : digs l with
  | false =>
    (repeat array_get_dec)
    rfl
  | true =>
  rw [Bool.true_and]
  (repeat array_get_dec)
  have hne : l ≠ [] := fun z => by rw [z] at f1; cases f1
  have h10 : l.length ≤ 10 := of_decide_eq_true f2
  refine wa_eq (lenS l hl) ?_
  (repeat array_get_dec)
  cases l with
  | nil => exact absurd rfl hne
  | cons c r =>
  cases e4 : decide ((1 : Int) < ((c :: r).length : Nat)) with
  | false =>
    (repeat array_get_dec)
    refine wa_eq (intS_ok e3 hne h10) ?_
    (repeat array_get_dec)
    have hr : r = [] := List.length_eq_zero_iff.mp (by have := of_decide_eq_false e4; simp only [List.length_cons] at this; omega)
    subst hr
    have : (decide ([c] = [48]) || decide (([c] : List Nat).head? ≠ some 48)) = true := by
      by_cases h : c = 48
      · subst h; rfl
      · rw [Bool.or_eq_true]
        exact .inr (decide_eq_true fun z => h (Option.some.inj z))
    rw [if_pos this]
  | true =>
    have hlen := of_decide_eq_true e4
    have f3 : decide (c :: r = [48]) = false := decide_eq_false fun z => by rw [z] at hlen; simp at hlen
    rw [f3, Bool.false_or]
    (repeat array_get_dec)
    refine wa_eq (ix0 hl) ?_
    (repeat array_get_dec)
    refine wa_eq (sg1 c) ?_
    (repeat array_get_dec)
    cases e5 : decide (c = 48) with
    | true =>
      (repeat array_get_dec)
      have := of_decide_eq_true e5
      subst this
      rfl
    | false =>
      (repeat array_get_dec)
      refine wa_eq (intS_ok e3 hne h10) ?_
      (repeat array_get_dec)
      have h5 := of_decide_eq_false e5
      have h6 : decide ((c :: r).head? ≠ some 48) = true := decide_eq_true fun z => h5 (Option.some.inj z)
      rw [if_pos h6]
end Pr_gatewarden_k04_texts_of_sets
end
section
set_option linter.all false
set_option maxRecDepth 100000
set_option Elab.async false
namespace Pr_gatewarden_k04_texts_of_sets
open PySem PG Pr_C Pr_D L2
open SX (S S_inj S_len split_S join_S partition_some partition_none num_S int_S S_cat)
/-! ### read_set's turn at a part -/
theorem o45 : Str.ofString "-" = S [45] := by decide +kernel
theorem o44 : Str.ofString "," = S [44] := by decide +kernel
theorem part_no {p : List Nat} (hl : p.length ≤ 100000) (h : TL.par [45] [] p = none) : dPart (.str (S p)) (.str (Str.ofString "-")) = some (.tuple [.str (S p), .str (S []), .str (S [])]) := by
  have e := partition_none (a := p) (b := [45]) (by simp) h
  unfold dPart
  rw [o45]
  simp only
  rw [if_pos ⟨rfl, by rw [S_len, sizeLine_eq]; omega⟩, e]
theorem part_yes {p lo hi : List Nat} (hl : p.length ≤ 100000) (h : TL.par [45] [] p = some (lo, hi)) : dPart (.str (S p)) (.str (Str.ofString "-")) = some (.tuple [.str (S lo), .str (S [45]), .str (S hi)]) := by
  have e := partition_some (a := p) (b := [45]) (by simp) h
  unfold dPart
  rw [o45]
  simp only
  rw [if_pos ⟨rfl, by rw [S_len, sizeLine_eq]; omega⟩, e]
theorem num_ne {l : List Nat} (h : numB l = true) : digs l = true ∧ l ≠ [] ∧ l.length ≤ 10 := by
  unfold numB at h
  simp only [Bool.and_eq_true, decide_eq_true_eq] at h
  exact ⟨h.2.2.1, fun z => by rw [z] at h; simp at h, h.2.1⟩
theorem intN {l : List Nat} (h : numB l = true) : o1of dIntS [.str (S l)] = some (.int (val l : Nat)) := intS_ok (num_ne h).1 (num_ne h).2.1 (num_ne h).2.2
theorem par_len {p lo hi : List Nat} (h : TL.par [45] [] p = some (lo, hi)) : lo.length ≤ p.length ∧ hi.length ≤ p.length := by
  rcases first_c 45 p with k | ⟨a, b, rfl, k⟩
  · rw [par_none' k] at h; cases h
  · rw [par_at' b k] at h
    cases h
    simp only [List.length_append, List.length_cons]
    omega
local macro_rules | `(tactic| fail "6000") => `(tactic| repeat' (first | apply PG.SetR.s | exact PG.SetR.h0 | exact PG.SetR.h1 | exact PG.SetR.hl | exact PG.SetR.hc (by assumption)))
local macro_rules | `(tactic| fail "6001") => `(tactic| repeat' (first | apply PG.SetLR.s | exact PG.SetLR.h0 | exact PG.SetLR.h1 | exact PG.SetLR.hl))
local macro_rules | `(tactic| fail "6002") => `(tactic| repeat' (first | apply PG.PutR.s | exact PG.PutR.h))
local macro_rules | `(tactic| fail "7001") => `(tactic| first | ((with_reducible apply PG.ws_set)) | ((with_reducible apply PG.ws_if)) | ((with_reducible apply PG.ws_ret)) | ((with_reducible apply PG.ws_setL)) | ((with_reducible apply PG.ws_expr)) | ((with_reducible apply PG.ws_nilc)) | ((with_reducible apply PG.ws_asc)) | ((with_reducible apply PG.ws_nil)) | ((with_reducible apply PG.ws_for)) | ((with_reducible apply PG.ws_asg)) | ((with_reducible apply PG.ws_par)) | ((with_reducible apply PG.ws_retL)) | ((with_reducible apply PG.ws_brk)) | ((with_reducible apply PG.ws_cont)) | ((with_reducible apply PG.ws_forn)) | ((with_reducible apply PG.ws_sto)) | ((with_reducible apply PG.ws_aug); (case hget => rfl)) | ((with_reducible apply PG.ws_app); (case hget => rfl)) | ((with_reducible apply PG.ws_retO); (case hget => rfl)))
local macro_rules | `(tactic| fail "7002") => `(tactic| first | ((with_reducible apply PG.we_name); (case hget => rfl)) | ((with_reducible apply PG.we_c)) | ((with_reducible apply PG.we_bin)) | ((with_reducible apply PG.we_un)) | ((with_reducible apply PG.we_call)) | ((with_reducible apply PG.we_callL); (case hget => rfl)) | ((with_reducible apply PG.we_tup)) | ((with_reducible apply PG.we_lst)) | ((with_reducible apply PG.we_if)) | ((with_reducible apply PG.we_ixL); (case hget => rfl)) | ((with_reducible apply PG.we_unL); (case hget => rfl)) | ((with_reducible apply PG.we_and)) | ((with_reducible apply PG.we_or)) | ((with_reducible apply PG.we_not)) | ((with_reducible apply PG.we_chain)) | ((with_reducible apply PG.we_slT)) | ((with_reducible apply PG.we_frz); (case hget => rfl); (case hset => fail "6000")) | ((with_reducible apply PG.wa_binO)))
local macro_rules | `(tactic| fail "7003") => `(tactic| first | ((with_reducible apply PG.wn_cons)) | ((with_reducible apply PG.wn_nil)) | ((with_reducible apply PG.wn_star)) | ((with_reducible apply PG.wn_disp)) | ((with_reducible apply PG.wn_call)) | ((with_reducible apply PG.wn_sl)) | ((with_reducible apply PG.wn_its)) | ((with_reducible apply PG.wn_r1)) | ((with_reducible apply PG.wn_r2)) | ((with_reducible apply PG.wn_r3)))
local macro_rules | `(tactic| fail "7004") => `(tactic| first | ((with_reducible apply PG.wt_tru)) | ((with_reducible apply PG.wt_bl)) | ((with_reducible apply PG.wt_and)) | ((with_reducible apply PG.wt_or)) | ((with_reducible apply PG.wt_not)) | ((with_reducible apply PG.wt_yes)) | ((with_reducible apply PG.wt_truL); (case hget => rfl)))
local macro_rules | `(tactic| fail "7005") => `(tactic| first | ((with_reducible apply PG.wo_none)) | ((with_reducible apply PG.wo_some)))
local macro_rules | `(tactic| fail "7006") => `(tactic| first | ((with_reducible apply PG.wg_p0)) | ((with_reducible apply PG.wg_tup)) | ((with_reducible apply PG.wg_ps); (case hset => fail "6000")) | ((with_reducible apply PG.wg_set); (case hset => fail "6000")))
local macro_rules | `(tactic| fail "7007") => `(tactic| first | ((with_reducible apply PG.setr_i); (case hset => fail "6000")) | ((with_reducible apply PG.setl_i); (case hset => fail "6001")) | ((with_reducible apply PG.put_i); (case hset => fail "6002")) | ((with_reducible apply PG.pool_i); (case hget => rfl)) | ((with_reducible apply PG.bool_i)) | ((with_reducible apply PG.int_i)) | ((with_reducible apply PG.seqL_i)) | ((with_reducible apply PG.seqT_i)) | ((with_reducible apply PG.seqR_i)) | ((with_reducible apply PG.starT_i)) | ((with_reducible apply PG.starL_i)) | ((with_reducible apply PG.tup_i)) | ((with_reducible apply PG.ch_le)) | ((with_reducible apply PG.ch_lt)) | ((with_reducible apply PG.ch_eq)))
local macro_rules | `(tactic| fail "7008") => `(tactic| first | ((with_reducible apply PG.len_i); (case h => rfl)) | ((with_reducible apply PG.yes_i)) | ((with_reducible apply PG.no_i)) | ((with_reducible apply PG.nyes_i)) | ((with_reducible apply PG.nno_i)))
local macro_rules | `(tactic| fail "7009") => `(tactic| first | ((with_reducible apply PG.wa_add)) | ((with_reducible apply PG.wa_sub)) | ((with_reducible apply PG.wa_lt)) | ((with_reducible apply PG.wa_le)) | ((with_reducible apply PG.wa_gt)) | ((with_reducible apply PG.wa_ge)) | ((with_reducible apply PG.wa_eqI)) | ((with_reducible apply PG.wa_neI)) | ((with_reducible apply PG.wa_neg)) | ((with_reducible apply PG.wa_lenL)) | ((with_reducible apply PG.wa_lenT)) | ((with_reducible apply PG.wa_int)) | ((with_reducible apply PG.wa_max)) | ((with_reducible apply PG.wa_min)) | ((with_reducible apply PG.wa_ev1)) | ((with_reducible apply PG.wa_ev)) | ((with_reducible apply PG.wa_mod); (case h1 => omega)) | ((with_reducible apply PG.wa_div); (case h1 => omega); (case h2 => omega)) | ((with_reducible apply PG.wa_mulR); (case h1 => omega); (case h2 => omega)) | ((with_reducible apply PG.wa_mulL); (case h1 => omega); (case h2 => omega)) | ((with_reducible apply PG.wa_shr); (case h1 => omega)))
local macro_rules | `(tactic| fail "7010") => `(tactic| first | ((with_reducible apply PG.wb_bool)) | ((with_reducible apply PG.wb_int)) | ((with_reducible apply PG.wb_ev)))
local macro_rules | `(tactic| fail "7011") => `(tactic| first | ((with_reducible apply PG.wa_ix0); (case hget => rfl)) | ((with_reducible apply PG.wa_ix1); (case hget => rfl)) | ((with_reducible apply PG.wa_ix2); (case hget => rfl)) | ((with_reducible apply PG.wa_ix3); (case hget => rfl)) | ((with_reducible apply PG.wa_ix4); (case hget => rfl)) | ((with_reducible apply PG.wa_ix5); (case hget => rfl)) | ((with_reducible apply PG.wa_ix6); (case hget => rfl)) | ((with_reducible apply PG.wa_ix7); (case hget => rfl)) | ((with_reducible apply PG.wa_ix8); (case hget => rfl)) | ((with_reducible apply PG.wa_il0); (case hget => rfl)) | ((with_reducible apply PG.wa_il1); (case hget => rfl)) | ((with_reducible apply PG.wa_il2); (case hget => rfl)))
local macro_rules | `(tactic| array_get_dec) => `(tactic| first | ((with_reducible apply PG.gS); fail "7001") | ((with_reducible apply PG.gE); fail "7002") | ((with_reducible apply PG.gN); fail "7003") | ((with_reducible apply PG.gT); fail "7004") | ((with_reducible apply PG.gO); fail "7005") | ((with_reducible apply PG.gG); fail "7006") | ((with_reducible apply PG.gX); fail "7007") | ((with_reducible apply PG.gC); fail "7008") | ((with_reducible apply PG.gA); fail "7009") | ((with_reducible apply PG.gB); fail "7010") | ((with_reducible apply PG.endP_ret)) | ((with_reducible apply PG.endP_retL)) | ((with_reducible apply PG.endN_ret)) | ((with_reducible apply PG.endL_ret)) | ((with_reducible apply PG.endL_retL)) | ((with_reducible apply PG.gI); fail "7011") | ((with_reducible apply PG.wl_ev)))
local macro_rules | `(tactic| array_get_dec) => `(tactic| first | ((with_reducible apply Pr_C.wp_draw); (case hp => assumption); (case h0 => omega); (case h1 => omega)) | ((with_reducible apply Pr_C.ls_i); (case hp => assumption)))

local macro_rules | `(tactic| fail "7012") => `(tactic| first | ((with_reducible apply PG.str_i)) | ((with_reducible apply PG.ch_leS)) | ((with_reducible apply PG.slL_i)))
local macro_rules | `(tactic| array_get_dec) => `(tactic| first | ((with_reducible apply PG.wn_ity)) | ((with_reducible apply PG.gX); fail "7012"))

theorem turn_read (T : PyData) (F : List (Int × Int)) (p : List Nat) (hp : p.length ≤ 100000) (hF : F.length ≤ 100000) (c3 c4 c5 c6 : Option Cell) (q4 : PlainC c4) (q5 : PlainC c5) (q6 : PlainC c6) :
    WS X_read_set_1 [some (.v T), some (.l false (prs F)), some (.v (.str (S p))), c3, c4, c5, c6] fun o ρ2 => match prog1 p with
      | some v => o = .next ∧ ∃ c4 c5 c6, PlainC c4 ∧ PlainC c5 ∧ PlainC c6 ∧ ρ2 = [some (.v T), some (.l false (prs (F ++ [v]))), some (.v (.str (S p))), c3, c4, c5, c6]
      | none => o = .retL [.int 0] := by
  unfold X_read_set_1 prog1
  cases hpar : TL.par [45] [] p with
  | none =>
    simp only
    (repeat array_get_dec)
    refine wa_eq (part_no hp hpar) ?_
    (repeat array_get_dec)
    refine wa_eq (numeral_ok p hp) ?_
    (repeat array_get_dec)
    cases hn : numB p with
    | false =>
      (repeat array_get_dec)
      exact ⟨_, _, rfl, rfl⟩
    | true =>
      (repeat array_get_dec)
      refine wb_eq (show truth (.str (S [])) = some false from rfl) ?_
      (repeat array_get_dec)
      refine wa_eq (intN hn) ?_
      (repeat array_get_dec)
      refine wb_eq (show truth (.str (S [])) = some false from rfl) ?_
      (repeat array_get_dec)
      refine wa_eq (intN hn) ?_
      (repeat array_get_dec)
      refine ⟨prs F, by simp [prs]; omega, ?_⟩
      (repeat array_get_dec)
      exact ⟨rfl, some (.v (.str (S p))), some (.v (.str (S []))), some (.v (.str (S []))), .inr ⟨_, rfl⟩, .inr ⟨_, rfl⟩, .inr ⟨_, rfl⟩, by simp [prs, pr]⟩
  | some lh =>
    obtain ⟨lo, hi⟩ := lh
    obtain ⟨l1, l2⟩ := par_len hpar
    simp only
    (repeat array_get_dec)
    refine wa_eq (part_yes hp hpar) ?_
    (repeat array_get_dec)
    refine wa_eq (numeral_ok lo (by omega)) ?_
    (repeat array_get_dec)
    cases hn : numB lo with
    | false =>
      (repeat array_get_dec)
      exact ⟨_, _, rfl, rfl⟩
    | true =>
      (repeat array_get_dec)
      refine wb_eq (show truth (.str (S [45])) = some true from rfl) ?_
      (repeat array_get_dec)
      refine wa_eq (numeral_ok hi (by omega)) ?_
      (repeat array_get_dec)
      cases hm : numB hi with
      | false =>
        (repeat array_get_dec)
        exact ⟨_, _, rfl, rfl⟩
      | true =>
        (repeat array_get_dec)
        refine wa_eq (intN hn) ?_
        (repeat array_get_dec)
        refine wb_eq (show truth (.str (S [45])) = some true from rfl) ?_
        (repeat array_get_dec)
        refine wa_eq (intN hm) ?_
        (repeat array_get_dec)
        refine ⟨prs F, by simp [prs]; omega, ?_⟩
        (repeat array_get_dec)
        exact ⟨rfl, some (.v (.str (S lo))), some (.v (.str (S [45]))), some (.v (.str (S hi))), .inr ⟨_, rfl⟩, .inr ⟨_, rfl⟩, .inr ⟨_, rfl⟩, by simp [prs, pr]⟩
end Pr_gatewarden_k04_texts_of_sets
end
section
set_option linter.all false
set_option maxRecDepth 100000
set_option Elab.async false
namespace Pr_gatewarden_k04_texts_of_sets
open PySem PG Pr_C Pr_D L2
open SX (S S_inj S_len split_S join_S partition_some partition_none num_S int_S S_cat)
/-! ### the law's turn at a part -/
def decD (l : List Nat) : PyData := if numB l = true then .int (val l : Nat) else .none
theorem decD_yes {l : List Nat} (h : numB l = true) : decD l = .int (val l : Nat) := if_pos h
theorem decD_no {l : List Nat} (h : numB l = false) : decD l = .none := if_neg (by rw [h]; decide)
theorem splitD {l : List Nat} (c : Nat) (s : Str) (hs : s = S [c]) (hc : c < 256) (hl : l.length ≤ 100000) : dSplit (.str (S l)) (.str s) = some (.list ((cut c l).map fun p => .str (S p))) := by
  subst hs
  have e := split_S (a := l) (b := [c]) (by simp) (by simp [hc])
  unfold dSplit
  simp only
  rw [if_pos ⟨rfl, by rw [S_len, sizeLine_eq]; omega⟩, e, List.map_map]
  rfl
theorem none_in (es : List (List Nat)) : dIn2 .none (.list (es.map decD)) = some (.bool (!es.all numB)) := by
  have key : memD .none (es.map decD) = !es.all numB := by
    induction es with
    | nil => rfl
    | cons a r ih =>
      rw [List.map_cons, List.all_cons]
      have ih : (r.map decD).any (fun z => PyData.eqv z .none) = !r.all numB := ih
      show (decD a :: r.map decD).any (fun z => PyData.eqv z .none) = _
      rw [List.any_cons, ih]
      cases hn : numB a with
      | true =>
        rw [decD_yes hn]
        simp [PyData.eqv]
      | false =>
        rw [decD_no hn]
        simp [PyData.eqv]
  have hf : (es.map decD).all flatD = true := by
    rw [List.all_eq_true]
    intro x hx
    obtain ⟨a, _, rfl⟩ := List.mem_map.mp hx
    cases hn : numB a with
    | true => rw [decD_yes hn]; rfl
    | false => rw [decD_no hn]; rfl
  show (if ((flatD .none && (es.map decD).all flatD) || _) = true then some (PyData.bool (if false = true then !memD .none (es.map decD) else memD .none (es.map decD))) else none) = _
  rw [hf, key]
  rfl
end Pr_gatewarden_k04_texts_of_sets
end
section
set_option linter.all false
set_option maxRecDepth 100000
set_option Elab.async false
namespace Pr_gatewarden_k04_texts_of_sets
open PySem PG Pr_C Pr_D L2
open SX (S S_inj S_len split_S join_S partition_some partition_none num_S int_S S_cat)
theorem wp4 (a0 a1 a2 a3 : Option Cell) : wipeR [a0, a1, a2, a3, none] [4] = [a0, a1, a2, a3, none] := rfl
def lawE : List (List Nat) → Option (Int × Int)
  | [x] => if numB x = true then some ((val x : Nat), (val x : Nat)) else none
  | [x, y] => if (numB x && (numB y && decide (val x ≠ val y))) = true then some ((val x : Nat), (val y : Nat)) else none
  | _ => none
theorem law1_E (p : List Nat) : law1 p = lawE (cut 45 p) := by
  unfold law1 lawE
  rfl
theorem lawE_bad {es : List (List Nat)} (ha : es.all numB = false) : lawE es = none := by
  match es, ha with
  | [], ha => rfl
  | [x], ha =>
    simp only [List.all_cons, List.all_nil, Bool.and_true] at ha
    show (if numB x = true then _ else none) = none
    rw [ha]
    rfl
  | [x, y], ha =>
    simp only [List.all_cons, List.all_nil, Bool.and_true] at ha
    show (if (numB x && (numB y && decide (val x ≠ val y))) = true then _ else none) = none
    rw [if_neg]
    intro h
    simp only [Bool.and_eq_true] at h
    rw [h.1, h.2.1] at ha
    cases ha
  | x :: y :: z :: r, ha => rfl
local macro_rules | `(tactic| fail "6000") => `(tactic| repeat' (first | apply PG.SetR.s | exact PG.SetR.h0 | exact PG.SetR.h1 | exact PG.SetR.hl | exact PG.SetR.hc (by assumption)))
local macro_rules | `(tactic| fail "6001") => `(tactic| repeat' (first | apply PG.SetLR.s | exact PG.SetLR.h0 | exact PG.SetLR.h1 | exact PG.SetLR.hl))
local macro_rules | `(tactic| fail "6002") => `(tactic| repeat' (first | apply PG.PutR.s | exact PG.PutR.h))
local macro_rules | `(tactic| fail "7001") => `(tactic| first | ((with_reducible apply PG.ws_set)) | ((with_reducible apply PG.ws_if)) | ((with_reducible apply PG.ws_ret)) | ((with_reducible apply PG.ws_setL)) | ((with_reducible apply PG.ws_expr)) | ((with_reducible apply PG.ws_nilc)) | ((with_reducible apply PG.ws_asc)) | ((with_reducible apply PG.ws_nil)) | ((with_reducible apply PG.ws_for)) | ((with_reducible apply PG.ws_asg)) | ((with_reducible apply PG.ws_par)) | ((with_reducible apply PG.ws_retL)) | ((with_reducible apply PG.ws_brk)) | ((with_reducible apply PG.ws_cont)) | ((with_reducible apply PG.ws_forn)) | ((with_reducible apply PG.ws_sto)) | ((with_reducible apply PG.ws_aug); (case hget => rfl)) | ((with_reducible apply PG.ws_app); (case hget => rfl)) | ((with_reducible apply PG.ws_retO); (case hget => rfl)))
local macro_rules | `(tactic| fail "7002") => `(tactic| first | ((with_reducible apply PG.we_name); (case hget => rfl)) | ((with_reducible apply PG.we_c)) | ((with_reducible apply PG.we_bin)) | ((with_reducible apply PG.we_un)) | ((with_reducible apply PG.we_call)) | ((with_reducible apply PG.we_callL); (case hget => rfl)) | ((with_reducible apply PG.we_tup)) | ((with_reducible apply PG.we_lst)) | ((with_reducible apply PG.we_if)) | ((with_reducible apply PG.we_ixL); (case hget => rfl)) | ((with_reducible apply PG.we_unL); (case hget => rfl)) | ((with_reducible apply PG.we_and)) | ((with_reducible apply PG.we_or)) | ((with_reducible apply PG.we_not)) | ((with_reducible apply PG.we_chain)) | ((with_reducible apply PG.we_slT)) | ((with_reducible apply PG.we_frz); (case hget => rfl); (case hset => fail "6000")) | ((with_reducible apply PG.wa_binO)))
local macro_rules | `(tactic| fail "7003") => `(tactic| first | ((with_reducible apply PG.wn_cons)) | ((with_reducible apply PG.wn_nil)) | ((with_reducible apply PG.wn_star)) | ((with_reducible apply PG.wn_disp)) | ((with_reducible apply PG.wn_call)) | ((with_reducible apply PG.wn_sl)) | ((with_reducible apply PG.wn_its)) | ((with_reducible apply PG.wn_r1)) | ((with_reducible apply PG.wn_r2)) | ((with_reducible apply PG.wn_r3)))
local macro_rules | `(tactic| fail "7004") => `(tactic| first | ((with_reducible apply PG.wt_tru)) | ((with_reducible apply PG.wt_bl)) | ((with_reducible apply PG.wt_and)) | ((with_reducible apply PG.wt_or)) | ((with_reducible apply PG.wt_not)) | ((with_reducible apply PG.wt_yes)) | ((with_reducible apply PG.wt_truL); (case hget => rfl)))
local macro_rules | `(tactic| fail "7005") => `(tactic| first | ((with_reducible apply PG.wo_none)) | ((with_reducible apply PG.wo_some)))
local macro_rules | `(tactic| fail "7006") => `(tactic| first | ((with_reducible apply PG.wg_p0)) | ((with_reducible apply PG.wg_tup)) | ((with_reducible apply PG.wg_ps); (case hset => fail "6000")) | ((with_reducible apply PG.wg_set); (case hset => fail "6000")))
local macro_rules | `(tactic| fail "7007") => `(tactic| first | ((with_reducible apply PG.setr_i); (case hset => fail "6000")) | ((with_reducible apply PG.setl_i); (case hset => fail "6001")) | ((with_reducible apply PG.put_i); (case hset => fail "6002")) | ((with_reducible apply PG.pool_i); (case hget => rfl)) | ((with_reducible apply PG.bool_i)) | ((with_reducible apply PG.int_i)) | ((with_reducible apply PG.seqL_i)) | ((with_reducible apply PG.seqT_i)) | ((with_reducible apply PG.seqR_i)) | ((with_reducible apply PG.starT_i)) | ((with_reducible apply PG.starL_i)) | ((with_reducible apply PG.tup_i)) | ((with_reducible apply PG.ch_le)) | ((with_reducible apply PG.ch_lt)) | ((with_reducible apply PG.ch_eq)))
local macro_rules | `(tactic| fail "7008") => `(tactic| first | ((with_reducible apply PG.len_i); (case h => rfl)) | ((with_reducible apply PG.yes_i)) | ((with_reducible apply PG.no_i)) | ((with_reducible apply PG.nyes_i)) | ((with_reducible apply PG.nno_i)))
local macro_rules | `(tactic| fail "7009") => `(tactic| first | ((with_reducible apply PG.wa_add)) | ((with_reducible apply PG.wa_sub)) | ((with_reducible apply PG.wa_lt)) | ((with_reducible apply PG.wa_le)) | ((with_reducible apply PG.wa_gt)) | ((with_reducible apply PG.wa_ge)) | ((with_reducible apply PG.wa_eqI)) | ((with_reducible apply PG.wa_neI)) | ((with_reducible apply PG.wa_neg)) | ((with_reducible apply PG.wa_lenL)) | ((with_reducible apply PG.wa_lenT)) | ((with_reducible apply PG.wa_int)) | ((with_reducible apply PG.wa_max)) | ((with_reducible apply PG.wa_min)) | ((with_reducible apply PG.wa_ev1)) | ((with_reducible apply PG.wa_ev)) | ((with_reducible apply PG.wa_mod); (case h1 => omega)) | ((with_reducible apply PG.wa_div); (case h1 => omega); (case h2 => omega)) | ((with_reducible apply PG.wa_mulR); (case h1 => omega); (case h2 => omega)) | ((with_reducible apply PG.wa_mulL); (case h1 => omega); (case h2 => omega)) | ((with_reducible apply PG.wa_shr); (case h1 => omega)))
local macro_rules | `(tactic| fail "7010") => `(tactic| first | ((with_reducible apply PG.wb_bool)) | ((with_reducible apply PG.wb_int)) | ((with_reducible apply PG.wb_ev)))
local macro_rules | `(tactic| fail "7011") => `(tactic| first | ((with_reducible apply PG.wa_ix0); (case hget => rfl)) | ((with_reducible apply PG.wa_ix1); (case hget => rfl)) | ((with_reducible apply PG.wa_ix2); (case hget => rfl)) | ((with_reducible apply PG.wa_ix3); (case hget => rfl)) | ((with_reducible apply PG.wa_ix4); (case hget => rfl)) | ((with_reducible apply PG.wa_ix5); (case hget => rfl)) | ((with_reducible apply PG.wa_ix6); (case hget => rfl)) | ((with_reducible apply PG.wa_ix7); (case hget => rfl)) | ((with_reducible apply PG.wa_ix8); (case hget => rfl)) | ((with_reducible apply PG.wa_il0); (case hget => rfl)) | ((with_reducible apply PG.wa_il1); (case hget => rfl)) | ((with_reducible apply PG.wa_il2); (case hget => rfl)))
local macro_rules | `(tactic| array_get_dec) => `(tactic| first | ((with_reducible apply PG.gS); fail "7001") | ((with_reducible apply PG.gE); fail "7002") | ((with_reducible apply PG.gN); fail "7003") | ((with_reducible apply PG.gT); fail "7004") | ((with_reducible apply PG.gO); fail "7005") | ((with_reducible apply PG.gG); fail "7006") | ((with_reducible apply PG.gX); fail "7007") | ((with_reducible apply PG.gC); fail "7008") | ((with_reducible apply PG.gA); fail "7009") | ((with_reducible apply PG.gB); fail "7010") | ((with_reducible apply PG.endP_ret)) | ((with_reducible apply PG.endP_retL)) | ((with_reducible apply PG.endN_ret)) | ((with_reducible apply PG.endL_ret)) | ((with_reducible apply PG.endL_retL)) | ((with_reducible apply PG.gI); fail "7011") | ((with_reducible apply PG.wl_ev)))
local macro_rules | `(tactic| array_get_dec) => `(tactic| first | ((with_reducible apply Pr_C.wp_draw); (case hp => assumption); (case h0 => omega); (case h1 => omega)) | ((with_reducible apply Pr_C.ls_i); (case hp => assumption)))

local macro_rules | `(tactic| fail "7012") => `(tactic| first | ((with_reducible apply PG.str_i)) | ((with_reducible apply PG.ch_leS)) | ((with_reducible apply PG.slL_i)))
local macro_rules | `(tactic| array_get_dec) => `(tactic| first | ((with_reducible apply PG.wn_ity)) | ((with_reducible apply PG.gX); fail "7012"))

theorem ends_comp (p : List Nat) (hp : p.length ≤ 90000) (a0 a1 a3 : Option Cell) : WN (nComp (itS (eBin dSplit (eName 2) (eC (.str (Str.ofString "-"))))) (gSet 4) tYesF X_law_set_of_text_1 [4]) [a0, a1, some (.v (.str (S p))), a3, none] fun zs ρ => zs = (cut 45 p).map decD ∧ ρ = [a0, a1, some (.v (.str (S p))), a3, none] := by
  refine wn_map (fun q => PyData.str (S q)) (fun _ => true) decD (cut 45 p) ?_
  (repeat array_get_dec)
  refine wa_eq (splitD 45 _ o45 (by decide) (by omega)) ?_
  (repeat array_get_dec)
  refine ⟨rfl, by have := cut_len (c := 45) (l := p); omega, rfl, fun q hq => ?_, ?_⟩
  · simp only [wp4]
    (repeat array_get_dec)
    refine ⟨rfl, fun _ => ?_, fun z => (nomatch z)⟩
    unfold X_law_set_of_text_1
    (repeat array_get_dec)
    refine wa_eq (decimal_ok q (by have := (cut_free hq).2; omega)) ?_
    (repeat array_get_dec)
    exact ⟨rfl, rfl, rfl⟩
  · rw [List.filter_eq_self.mpr (fun _ _ => rfl)]
    exact ⟨rfl, rfl⟩
theorem turn_law (T : PyData) (F : List (Int × Int)) (p : List Nat) (hp : p.length ≤ 90000) (hF : F.length ≤ 100000) (c3 : Option Cell) (q3 : PlainC c3) :
    WS X_law_set_of_text_2 [some (.v T), some (.l false (prs F)), some (.v (.str (S p))), c3, none] fun o ρ2 => match law1 p with
      | some v => o = .next ∧ ∃ c3, PlainC c3 ∧ ρ2 = [some (.v T), some (.l false (prs (F ++ [v]))), some (.v (.str (S p))), c3, none]
      | none => o = .ret .none := by
  rw [law1_E]
  unfold X_law_set_of_text_2
  (repeat array_get_dec)
  refine (ends_comp p hp _ _ _).mono fun zs ρ ⟨e1, e2⟩ => ?_
  subst e1 e2
  have hne := cut_ne (c := 45) (l := p)
  have hlen := cut_len (c := 45) (l := p)
  generalize cut 45 p = es at hne hlen ⊢
  (repeat array_get_dec)
  refine wa_eq (none_in es) ?_
  (repeat array_get_dec)
  cases ha : es.all numB with
  | false =>
    (repeat array_get_dec)
    rw [lawE_bad ha]
  | true =>
    match es, ha, hne, hlen with
    | [x], ha, _, _ =>
      simp only [List.all_cons, List.all_nil, Bool.and_true] at ha
      have hE : lawE [x] = some (((val x : Nat) : Int), ((val x : Nat) : Int)) := if_pos ha
      rw [hE]
      simp only [List.map_cons, List.map_nil, decD_yes ha]
      (repeat array_get_dec)
      refine ⟨fun z => by simp at z, fun _ => ?_⟩
      (repeat array_get_dec)
      refine wa_eq (show dIx (.list [.int (val x : Nat)]) (.int _) = some (.int (val x : Nat)) from rfl) ?_
      (repeat array_get_dec)
      refine ⟨prs F, by simp [prs]; omega, ?_⟩
      (repeat array_get_dec)
      refine ⟨fun z => by simp at z, fun _ => ?_⟩
      (repeat array_get_dec)
      exact ⟨rfl, some (.v (.list [.int (val x : Nat)])), .inr ⟨_, rfl⟩, by simp [prs, pr]⟩
    | [x, y], ha, _, _ =>
      simp only [List.all_cons, List.all_nil, Bool.and_true, Bool.and_eq_true] at ha
      have hE : lawE [x, y] = if val x ≠ val y then some (((val x : Nat) : Int), ((val y : Nat) : Int)) else none := by
        show (if (numB x && (numB y && decide (val x ≠ val y))) = true then _ else none) = _
        rw [ha.1, ha.2]
        simp
      rw [hE]
      simp only [List.map_cons, List.map_nil, decD_yes ha.1, decD_yes ha.2]
      (repeat array_get_dec)
      refine ⟨fun z => by simp at z, fun _ => ?_⟩
      (repeat array_get_dec)
      refine wa_eq (show dIx (.list [.int (val x : Nat), .int (val y : Nat)]) (.int _) = some (.int (val y : Nat)) from rfl) ?_
      (repeat array_get_dec)
      refine ⟨prs F, by simp [prs]; omega, ?_⟩
      (repeat array_get_dec)
      refine ⟨fun _ => ?_, fun z => by simp at z⟩
      (repeat array_get_dec)
      by_cases hv : val x = val y
      · rw [if_neg (fun z => z hv)]
        have : ((val x : Nat) : Int) = ((val y : Nat) : Int) := by rw [hv]
        (first | ((with_reducible apply PG.decy_i); (case h => omega)) | ((with_reducible apply PG.decno_i); (case h => omega)) | ((with_reducible apply PG.ndecy_i); (case h => omega)) | ((with_reducible apply PG.ndecno_i); (case h => omega))); (repeat array_get_dec)
        rfl
      · rw [if_pos hv]
        have : ¬ ((val x : Nat) : Int) = ((val y : Nat) : Int) := fun z => hv (Int.ofNat.inj z)
        (first | ((with_reducible apply PG.decy_i); (case h => omega)) | ((with_reducible apply PG.decno_i); (case h => omega)) | ((with_reducible apply PG.ndecy_i); (case h => omega)) | ((with_reducible apply PG.ndecno_i); (case h => omega))); (repeat array_get_dec)
        exact ⟨rfl, some (.v (.list [.int (val x : Nat), .int (val y : Nat)])), .inr ⟨_, rfl⟩, by simp [prs, pr]⟩
    | x :: y :: z :: r, ha, _, hlen =>
      have hE : lawE (x :: y :: z :: r) = none := rfl
      rw [hE]
      simp only [List.map_cons]
      (repeat array_get_dec)
      refine ⟨fun _ => ?_, fun z => ?_⟩
      · (repeat array_get_dec)
        rfl
      · simp only [List.length_cons] at z
        have := of_decide_eq_false z
        omega
end Pr_gatewarden_k04_texts_of_sets
end
section
set_option linter.all false
set_option maxRecDepth 100000
set_option Elab.async false
namespace Pr_gatewarden_k04_texts_of_sets
open PySem PG Pr_C Pr_D L2
open SX (S S_inj S_len split_S join_S partition_some partition_none num_S int_S S_cat)
/-! ### a set's text -/
def small (x : Int × Int) : Prop := 0 ≤ x.1 ∧ x.1 < 10000000000 ∧ 0 ≤ x.2 ∧ x.2 < 10000000000
theorem log_small {n : Nat} (h : n < 10000000000) : n.log2 < 1920 := by
  by_cases z : n = 0
  · subst z; decide
  · refine (Nat.log2_lt z).mpr (Nat.lt_of_lt_of_le h ?_)
    exact Nat.le_trans (by decide : 10000000000 ≤ 2 ^ 34) (Nat.pow_le_pow_right (by decide) (by decide))
theorem strI {i : Int} (h0 : 0 ≤ i) (h1 : i < 10000000000) : o1of dStrI [.int i] = some (.str (S (TL.numL i.toNat))) := by
  obtain ⟨n, rfl⟩ := Int.eq_ofNat_of_zero_le h0
  have hz : (n : Int).natAbs.log2 < 1920 := log_small (by simp; omega)
  show (if ((n : Nat) : Int).natAbs.log2 < 1920 then some (PyData.str (Str.ofString (toString ((n : Nat) : Int)))) else none) = _
  rw [if_pos hz, num_S]
  rfl
theorem fmtI {i : Int} (h0 : 0 ≤ i) (h1 : i < 10000000000) : fmtS (.int i) = some (S (TL.numL i.toNat)) := by
  have := strI h0 h1
  obtain ⟨n, rfl⟩ := Int.eq_ofNat_of_zero_le h0
  have hz : (n : Int).natAbs.log2 < 1920 := log_small (by simp; omega)
  show (if ((n : Nat) : Int).natAbs.log2 < 1920 then some (Str.ofString (toString ((n : Nat) : Int))) else none) = _
  rw [if_pos hz, num_S]
  rfl
theorem num_len {i : Int} (h0 : 0 ≤ i) (h1 : i < 10000000000) : (TL.numL i.toNat).length ≤ 10 := TL.numL_len (by decide) (by omega)
theorem pairT_len {x : Int × Int} (h : small x) : (pairT x).length ≤ 21 := by
  unfold pairT
  have a := num_len h.1 h.2.1
  have b := num_len h.2.2.1 h.2.2.2
  split
  · omega
  · rw [List.length_append, List.length_cons]
    omega
theorem emp : Str.empty = S [] := rfl
local macro_rules | `(tactic| fail "6000") => `(tactic| repeat' (first | apply PG.SetR.s | exact PG.SetR.h0 | exact PG.SetR.h1 | exact PG.SetR.hl | exact PG.SetR.hc (by assumption)))
local macro_rules | `(tactic| fail "6001") => `(tactic| repeat' (first | apply PG.SetLR.s | exact PG.SetLR.h0 | exact PG.SetLR.h1 | exact PG.SetLR.hl))
local macro_rules | `(tactic| fail "6002") => `(tactic| repeat' (first | apply PG.PutR.s | exact PG.PutR.h))
local macro_rules | `(tactic| fail "7001") => `(tactic| first | ((with_reducible apply PG.ws_set)) | ((with_reducible apply PG.ws_if)) | ((with_reducible apply PG.ws_ret)) | ((with_reducible apply PG.ws_setL)) | ((with_reducible apply PG.ws_expr)) | ((with_reducible apply PG.ws_nilc)) | ((with_reducible apply PG.ws_asc)) | ((with_reducible apply PG.ws_nil)) | ((with_reducible apply PG.ws_for)) | ((with_reducible apply PG.ws_asg)) | ((with_reducible apply PG.ws_par)) | ((with_reducible apply PG.ws_retL)) | ((with_reducible apply PG.ws_brk)) | ((with_reducible apply PG.ws_cont)) | ((with_reducible apply PG.ws_forn)) | ((with_reducible apply PG.ws_sto)) | ((with_reducible apply PG.ws_aug); (case hget => rfl)) | ((with_reducible apply PG.ws_app); (case hget => rfl)) | ((with_reducible apply PG.ws_retO); (case hget => rfl)))
local macro_rules | `(tactic| fail "7002") => `(tactic| first | ((with_reducible apply PG.we_name); (case hget => rfl)) | ((with_reducible apply PG.we_c)) | ((with_reducible apply PG.we_bin)) | ((with_reducible apply PG.we_un)) | ((with_reducible apply PG.we_call)) | ((with_reducible apply PG.we_callL); (case hget => rfl)) | ((with_reducible apply PG.we_tup)) | ((with_reducible apply PG.we_lst)) | ((with_reducible apply PG.we_if)) | ((with_reducible apply PG.we_ixL); (case hget => rfl)) | ((with_reducible apply PG.we_unL); (case hget => rfl)) | ((with_reducible apply PG.we_and)) | ((with_reducible apply PG.we_or)) | ((with_reducible apply PG.we_not)) | ((with_reducible apply PG.we_chain)) | ((with_reducible apply PG.we_slT)) | ((with_reducible apply PG.we_frz); (case hget => rfl); (case hset => fail "6000")) | ((with_reducible apply PG.wa_binO)))
local macro_rules | `(tactic| fail "7003") => `(tactic| first | ((with_reducible apply PG.wn_cons)) | ((with_reducible apply PG.wn_nil)) | ((with_reducible apply PG.wn_star)) | ((with_reducible apply PG.wn_disp)) | ((with_reducible apply PG.wn_call)) | ((with_reducible apply PG.wn_sl)) | ((with_reducible apply PG.wn_its)) | ((with_reducible apply PG.wn_r1)) | ((with_reducible apply PG.wn_r2)) | ((with_reducible apply PG.wn_r3)))
local macro_rules | `(tactic| fail "7004") => `(tactic| first | ((with_reducible apply PG.wt_tru)) | ((with_reducible apply PG.wt_bl)) | ((with_reducible apply PG.wt_and)) | ((with_reducible apply PG.wt_or)) | ((with_reducible apply PG.wt_not)) | ((with_reducible apply PG.wt_yes)) | ((with_reducible apply PG.wt_truL); (case hget => rfl)))
local macro_rules | `(tactic| fail "7005") => `(tactic| first | ((with_reducible apply PG.wo_none)) | ((with_reducible apply PG.wo_some)))
local macro_rules | `(tactic| fail "7006") => `(tactic| first | ((with_reducible apply PG.wg_p0)) | ((with_reducible apply PG.wg_tup)) | ((with_reducible apply PG.wg_ps); (case hset => fail "6000")) | ((with_reducible apply PG.wg_set); (case hset => fail "6000")))
local macro_rules | `(tactic| fail "7007") => `(tactic| first | ((with_reducible apply PG.setr_i); (case hset => fail "6000")) | ((with_reducible apply PG.setl_i); (case hset => fail "6001")) | ((with_reducible apply PG.put_i); (case hset => fail "6002")) | ((with_reducible apply PG.pool_i); (case hget => rfl)) | ((with_reducible apply PG.bool_i)) | ((with_reducible apply PG.int_i)) | ((with_reducible apply PG.seqL_i)) | ((with_reducible apply PG.seqT_i)) | ((with_reducible apply PG.seqR_i)) | ((with_reducible apply PG.starT_i)) | ((with_reducible apply PG.starL_i)) | ((with_reducible apply PG.tup_i)) | ((with_reducible apply PG.ch_le)) | ((with_reducible apply PG.ch_lt)) | ((with_reducible apply PG.ch_eq)))
local macro_rules | `(tactic| fail "7008") => `(tactic| first | ((with_reducible apply PG.len_i); (case h => rfl)) | ((with_reducible apply PG.yes_i)) | ((with_reducible apply PG.no_i)) | ((with_reducible apply PG.nyes_i)) | ((with_reducible apply PG.nno_i)))
local macro_rules | `(tactic| fail "7009") => `(tactic| first | ((with_reducible apply PG.wa_add)) | ((with_reducible apply PG.wa_sub)) | ((with_reducible apply PG.wa_lt)) | ((with_reducible apply PG.wa_le)) | ((with_reducible apply PG.wa_gt)) | ((with_reducible apply PG.wa_ge)) | ((with_reducible apply PG.wa_eqI)) | ((with_reducible apply PG.wa_neI)) | ((with_reducible apply PG.wa_neg)) | ((with_reducible apply PG.wa_lenL)) | ((with_reducible apply PG.wa_lenT)) | ((with_reducible apply PG.wa_int)) | ((with_reducible apply PG.wa_max)) | ((with_reducible apply PG.wa_min)) | ((with_reducible apply PG.wa_ev1)) | ((with_reducible apply PG.wa_ev)) | ((with_reducible apply PG.wa_mod); (case h1 => omega)) | ((with_reducible apply PG.wa_div); (case h1 => omega); (case h2 => omega)) | ((with_reducible apply PG.wa_mulR); (case h1 => omega); (case h2 => omega)) | ((with_reducible apply PG.wa_mulL); (case h1 => omega); (case h2 => omega)) | ((with_reducible apply PG.wa_shr); (case h1 => omega)))
local macro_rules | `(tactic| fail "7010") => `(tactic| first | ((with_reducible apply PG.wb_bool)) | ((with_reducible apply PG.wb_int)) | ((with_reducible apply PG.wb_ev)))
local macro_rules | `(tactic| fail "7011") => `(tactic| first | ((with_reducible apply PG.wa_ix0); (case hget => rfl)) | ((with_reducible apply PG.wa_ix1); (case hget => rfl)) | ((with_reducible apply PG.wa_ix2); (case hget => rfl)) | ((with_reducible apply PG.wa_ix3); (case hget => rfl)) | ((with_reducible apply PG.wa_ix4); (case hget => rfl)) | ((with_reducible apply PG.wa_ix5); (case hget => rfl)) | ((with_reducible apply PG.wa_ix6); (case hget => rfl)) | ((with_reducible apply PG.wa_ix7); (case hget => rfl)) | ((with_reducible apply PG.wa_ix8); (case hget => rfl)) | ((with_reducible apply PG.wa_il0); (case hget => rfl)) | ((with_reducible apply PG.wa_il1); (case hget => rfl)) | ((with_reducible apply PG.wa_il2); (case hget => rfl)))
local macro_rules | `(tactic| array_get_dec) => `(tactic| first | ((with_reducible apply PG.gS); fail "7001") | ((with_reducible apply PG.gE); fail "7002") | ((with_reducible apply PG.gN); fail "7003") | ((with_reducible apply PG.gT); fail "7004") | ((with_reducible apply PG.gO); fail "7005") | ((with_reducible apply PG.gG); fail "7006") | ((with_reducible apply PG.gX); fail "7007") | ((with_reducible apply PG.gC); fail "7008") | ((with_reducible apply PG.gA); fail "7009") | ((with_reducible apply PG.gB); fail "7010") | ((with_reducible apply PG.endP_ret)) | ((with_reducible apply PG.endP_retL)) | ((with_reducible apply PG.endN_ret)) | ((with_reducible apply PG.endL_ret)) | ((with_reducible apply PG.endL_retL)) | ((with_reducible apply PG.gI); fail "7011") | ((with_reducible apply PG.wl_ev)))
local macro_rules | `(tactic| array_get_dec) => `(tactic| first | ((with_reducible apply Pr_C.wp_draw); (case hp => assumption); (case h0 => omega); (case h1 => omega)) | ((with_reducible apply Pr_C.ls_i); (case hp => assumption)))

local macro_rules | `(tactic| fail "7012") => `(tactic| first | ((with_reducible apply PG.str_i)) | ((with_reducible apply PG.ch_leS)) | ((with_reducible apply PG.slL_i)))
local macro_rules | `(tactic| array_get_dec) => `(tactic| first | ((with_reducible apply PG.wn_ity)) | ((with_reducible apply PG.gX); fail "7012"))

theorem js_ok {x : Int × Int} (h : small x) (hne : ¬ x.1 = x.2) : eJs [(eFmt (eName 0)), (eC (.str (Str.ofString "-"))), (eFmt (eName 1))] Str.empty [some (.v (.int x.1)), some (.v (.int x.2))] = some (.str (S (pairT x)), [some (.v (.int x.1)), some (.v (.int x.2))]) := by
  have a := num_len h.1 h.2.1
  have b := num_len h.2.2.1 h.2.2.2
  have e1 := fmtI h.1 h.2.1
  have e2 := fmtI h.2.2.1 h.2.2.2
  have s16 := sizeLine_eq
  have c1 : (Str.empty ++ S (TL.numL x.1.toNat)).length ≤ sizeLine := by rw [emp, S_cat, S_len, List.nil_append]; omega
  have c2 : (Str.empty ++ S (TL.numL x.1.toNat) ++ S [45]).length ≤ sizeLine := by
    have : Str.empty ++ S (TL.numL x.1.toNat) ++ S [45] = S ([] ++ TL.numL x.1.toNat ++ [45]) := by rw [emp, S_cat, S_cat]
    rw [this, S_len]
    simp only [List.nil_append, List.length_append, List.length_singleton]
    omega
  have c3 : (Str.empty ++ S (TL.numL x.1.toNat) ++ S [45] ++ S (TL.numL x.2.toNat)).length ≤ sizeLine := by
    have : Str.empty ++ S (TL.numL x.1.toNat) ++ S [45] ++ S (TL.numL x.2.toNat) = S ([] ++ TL.numL x.1.toNat ++ [45] ++ TL.numL x.2.toNat) := by rw [emp, S_cat, S_cat, S_cat]
    rw [this, S_len]
    simp only [List.nil_append, List.length_append, List.length_singleton]
    omega
  rw [o45]
  simp only [eJs, eFmt, eName, eC, List.getElem?_cons_zero, List.getElem?_cons_succ, e1, e2, c1, c2, c3, if_true]
  congr 2
  rw [emp, S_cat, S_cat, S_cat]
  unfold pairT
  rw [if_neg hne]
  simp
theorem write_pair_ok {x : Int × Int} (h : small x) : F_write_pair [.int x.1, .int x.2] = some (.str (S (pairT x))) := by
  refine of_wa ?_
  unfold F_write_pair; refine PG.wa_def rfl ?_; simp only [PG.rho0_eq, List.map_cons, List.map_nil, List.replicate_succ, List.replicate_zero, List.cons_append, List.nil_append]; unfold B_write_pair
  (repeat array_get_dec)
  by_cases hne : x.1 = x.2
  · (first | ((with_reducible apply PG.decy_i); (case h => omega)) | ((with_reducible apply PG.decno_i); (case h => omega)) | ((with_reducible apply PG.ndecy_i); (case h => omega)) | ((with_reducible apply PG.ndecno_i); (case h => omega))); (repeat array_get_dec)
    refine wa_eq (strI h.1 h.2.1) ?_
    (repeat array_get_dec)
    unfold pairT
    rw [if_pos hne]
  · (first | ((with_reducible apply PG.decy_i); (case h => omega)) | ((with_reducible apply PG.decno_i); (case h => omega)) | ((with_reducible apply PG.ndecy_i); (case h => omega)) | ((with_reducible apply PG.ndecno_i); (case h => omega))); (repeat array_get_dec)
    exact ⟨_, _, js_ok h hne, rfl⟩
theorem strs_S (ts : List (List Nat)) : strsOf (ts.map fun t => PyData.str (S t)) = some (ts.map S) := by
  have := strsOf_of (ts.map S)
  rw [List.map_map] at this
  exact this
theorem joinS (ts : List (List Nat)) (hb : ∀ t ∈ ts, t.length ≤ 21) (hl : ts.length ≤ 100000) : dJoin (.str (Str.ofString ",")) (.list (ts.map fun t => PyData.str (S t))) = some (.str (S (TL.joinL [44] ts))) := by
  have key : ∀ ts : List (List Nat), (∀ t ∈ ts, t.length ≤ 21) → ((ts.map S).map (·.length)).sum ≤ 21 * ts.length := by
    intro ts
    induction ts with
    | nil => intro _; exact Nat.le_refl _
    | cons t r ih =>
      intro h
      have h1 := h t (by simp)
      have h2 := ih fun y hy => h y (by simp [hy])
      simp only [List.map_cons, List.sum_cons, List.length_cons]
      have : (S t).length = t.length := S_len t
      omega
  have := key ts hb
  rw [o44]
  show (match strsOf (ts.map fun t => PyData.str (S t)) with
    | some (ys : List Str) => if (ys.map fun z : Str => z.length).sum + ys.length * (S [44]).length ≤ 16777216 then some (PyData.str (Txt.join (S [44]) ys)) else none
    | none => none) = _
  rw [strs_S]
  simp only
  rw [if_pos (by
    have : (S [44]).length = 1 := S_len [44]
    rw [this, List.length_map]
    omega), join_S]
theorem wpw (a0 : Option Cell) : wipeR [a0, none, none] [1, 2] = [a0, none, none] := rfl
theorem oN : Str.ofString "none" = S [110, 111, 110, 101] := by decide +kernel
def textOf (vs : List (Int × Int)) : List Nat := match vs with
  | [] => [110, 111, 110, 101]
  | x :: r => TL.joinL [44] ((x :: r).map pairT)
theorem write_ok (vs : List (Int × Int)) (h : ∀ x ∈ vs, small x) (hl : vs.length ≤ 100000) : F_write_set [.tuple (prs vs)] = some (.str (S (textOf vs))) := by
  refine of_wa ?_
  unfold F_write_set; refine PG.wa_def rfl ?_; simp only [PG.rho0_eq, List.map_cons, List.map_nil, List.replicate_succ, List.replicate_zero, List.cons_append, List.nil_append]; unfold B_write_set
  cases vs with
  | nil =>
    have ht : (!!(prs ([] : List (Int × Int))).isEmpty) = true := rfl
    (repeat array_get_dec)
    rw [ht]
    (repeat array_get_dec)
    rw [oN]
    rfl
  | cons x r =>
    have ht : (!!(prs (x :: r)).isEmpty) = false := rfl
    (repeat array_get_dec)
    rw [ht]
    (repeat array_get_dec)
    refine wn_map pr (fun _ => true) (fun y => .str (S (pairT y))) (x :: r) ?_
    (repeat array_get_dec)
    refine ⟨rfl, by omega, rfl, fun y hy => ?_, ?_⟩
    · simp only [wpw]
      unfold pr
      (repeat array_get_dec)
      refine ⟨rfl, fun _ => ?_, fun z => (nomatch z)⟩
      unfold X_write_set_1
      (repeat array_get_dec)
      refine wa_eq (write_pair_ok (h y hy)) ?_
      (repeat array_get_dec)
      exact ⟨rfl, rfl, rfl⟩
    · rw [List.filter_eq_self.mpr (fun _ _ => rfl)]
      (repeat array_get_dec)
      have e : ((x :: r).map fun y => PyData.str (S (pairT y))) = ((x :: r).map pairT).map fun t => PyData.str (S t) := by rw [List.map_map]; rfl
      rw [e]
      refine wa_eq (joinS _ (fun t ht => by obtain ⟨y, hy, rfl⟩ := List.mem_map.mp ht; exact pairT_len (h y hy)) (by rw [List.length_map]; exact hl)) ?_
      (repeat array_get_dec)
      rfl
end Pr_gatewarden_k04_texts_of_sets
end
section
set_option linter.all false
set_option maxRecDepth 100000
set_option Elab.async false
namespace Pr_S
open PySem PG Pr_C
def fo (t : Int) : Int := if t = 0 then 0 else (t - 1) % 65535 + 1
def wds : List Int → List Int
  | a :: b :: r => (256 * a + b) :: wds r
  | [a] => [256 * a + 0]
  | [] => []
def pad (e : List Int) : List Int := if e.length % 2 = 0 then e else e ++ [0]
def wat (e : List Int) (k : Nat) : Int := 256 * e.getD (2 * k) 0 + e.getD (2 * k + 1) 0
/-! ### the sums of the program -/
def mW (E : List Int) (c : Nat) : PyData → PyData
  | .int k => .int (wat E (k.toNat / c))
  | _ => .none
/-! ### folding -/
def Row (e : List Int) : Prop := (∀ x ∈ e, 0 ≤ x ∧ x ≤ 255) ∧ e.length ≤ 2000
/-! ### drawn rows -/
theorem rowe_gen (A : List PyData → List PyData → Option (PyData × List PyData)) (pd p1 p2 : List PyData) (a v z : PyData) (x y : Option Cell) (e1 : A pd [.int 256] = some (a, p1)) (e2 : A p1 [.int 4] = some (v, p2)) (e3 : dIx (.tuple [a, .int 0, .int 255, .int 1]) v = some z) :
    eBin dIx (eTup (nCons (eCallL A 0 (nCons (eC (.int 256)) nNil)) (nCons (eC (.int 0)) (nCons (eC (.int 255)) (nCons (eC (.int 1)) nNil))))) (eCallL A 0 (nCons (eC (.int 4)) nNil)) [some (.l true pd), x, y] = some (z, [some (.l true p2), x, y]) := by
  simp [-dIx, e1, e2, e3]
theorem four_at {a v : Int} (ha : 0 ≤ a) (ha2 : a < 256) (h0 : 0 ≤ v) (h1 : v < 4) : ∃ z : Int, 0 ≤ z ∧ z ≤ 255 ∧ dIx (.tuple [.int a, .int 0, .int 255, .int 1]) (.int v) = some (.int z) := by
  rcases (show v = 0 ∨ v = 1 ∨ v = 2 ∨ v = 3 by omega) with rfl | rfl | rfl | rfl
  · exact ⟨a, ha, by omega, rfl⟩
  · exact ⟨0, by decide, by decide, rfl⟩
  · exact ⟨255, by decide, by decide, rfl⟩
  · exact ⟨1, by decide, by decide, rfl⟩
theorem row_comp (p : Pool) (hp : p.ok) (m : PyData) (n : Nat) (hn : n ≤ 1000) : ∃ (e : List Int) (p' : Pool), compL (gSet 2) tYesF X_law_row_1 [2] (rng 0 n) [] [some (.l true p.d), some (.v m), none] = some (IL e, [some (.l true p'.d), some (.v m), none]) ∧ p'.ok ∧ Row e ∧ e.length = n := by
  obtain ⟨out, ρ', e, ⟨p', l, hr, hp', ha, ho⟩, hl⟩ := compL_ind (g := gSet 2) (t := tYesF) (e := X_law_row_1) (vs := [2]) (P := fun ds acc ρ => ∃ (p : Pool) (l : List Int), ρ = [some (.l true p.d), some (.v m), none] ∧ p.ok ∧ acc = IL l ∧ (∀ x ∈ l, 0 ≤ x ∧ x ≤ 255))
    (rng 0 n) [] [some (.l true p.d), some (.v m), none] (by simp [rng_len]; omega) ⟨p, [], rfl, hp, rfl, by simp⟩ (by
    rintro d r acc ρ ⟨p, l, rfl, hp, rfl, ho⟩
    obtain ⟨a, p1, e1, k1, a0, a1⟩ := draw_ok p hp 256 (by decide) (by decide)
    obtain ⟨v, p2, e2, k2, v0, v1⟩ := draw_ok p1 k1 4 (by decide) (by decide)
    obtain ⟨z, z0, z1, e3⟩ := four_at a0 a1 v0 v1
    refine ⟨[some (.l true p.d), some (.v m), some (.v d)], [some (.l true p.d), some (.v m), some (.v d)], .int z, [some (.l true p2.d), some (.v m), some (.v d)], rfl, rfl, rowe_gen F_law_draw _ _ _ _ _ _ _ _ e1 e2 e3, rfl, p2, l ++ [z], rfl, k2, by simp [IL], ?_⟩
    intro x hx
    rcases List.mem_append.mp hx with hx | hx
    · exact ho x hx
    · simp only [List.mem_singleton] at hx
      subst hx
      exact ⟨z0, z1⟩)
  rw [hr] at e
  rw [ha] at e hl
  simp only [IL, List.length_map, List.length_nil, rng_len, Nat.zero_add] at hl
  exact ⟨l, p', e, hp', ⟨ho, by omega⟩, hl⟩
theorem row_gen (e : EF) (pd p2 : List PyData) (z : Int) (n : Nat) (out : List PyData) (hz : z.toNat = n) (hin : in62 z = true) (h : compL (gSet 2) tYesF e [2] (rng 0 n) [] [some (.l true pd), some (.v (.int z)), none] = some (out, [some (.l true p2), some (.v (.int z)), none])) :
    defL (sSeq (sRet (eCall (o1of dTupOf) (nCons (eLst (nComp (itR1 (nCons (eName 1) nNil)) (gSet 2) tYesF e [2])) nNil))) sNil) 1 1 pd [.int z] = some (.tuple out, p2) := by
  subst hz
  simp [-tYesF, defL, nComp, itR1, hin, plainAt, wipeR, restR, h]
theorem in62_ok {z : Int} (h0 : 0 ≤ z) (h1 : z ≤ 1000000) : in62 z = true := by simp only [in62, Bool.and_eq_true, decide_eq_true_eq]; omega
theorem law_row_ok (p : Pool) (hp : p.ok) (z : Int) (h0 : 0 ≤ z) (h1 : z ≤ 1000) : ∃ (e : List Int) (p' : Pool), F_law_row p.d [.int z] = some (.tuple (IL e), p'.d) ∧ p'.ok ∧ Row e ∧ e.length = z.toNat := by
  obtain ⟨e, p', h, hp', hr, hl⟩ := row_comp p hp (.int z) z.toNat (by omega)
  exact ⟨e, p', row_gen X_law_row_1 _ _ z _ _ rfl (in62_ok h0 (by omega)) h, hp', hr, hl⟩
/-! ### single statements -/
end Pr_S
end
section
set_option linter.all false
set_option maxRecDepth 100000
set_option Elab.async false
namespace Pr_P
open PySem PG Pr_C Pr_D Pr_S
/-! ### equal data are the same -/
def sz : Nat → PyData → Bool
  | 0, _ => false
  | _ + 1, .int _ => true
  | _ + 1, .bool _ => true
  | _ + 1, .none => true
  | n + 1, .tuple xs => decide (xs.length < 16777216) && xs.all (sz n)
  | n + 1, .list xs => decide (xs.length < 16777216) && xs.all (sz n)
  | _ + 1, _ => false
/-! ### packets -/
inductive Inn where
  | st (a b f : Int)
  | ask (a b : Int)
  | note (t c : Int)
  | oth
def Inn.l : Inn → List Int
  | .st a b f => [a, b, f]
  | .ask a b => [a, b]
  | .note t c => [t, c]
  | .oth => []
def Inn.ok (k : Int) : Inn → Prop
  | .st a b f => k = 6 ∧ (0 ≤ a ∧ a ≤ 65535) ∧ (0 ≤ b ∧ b ≤ 65535) ∧ 0 ≤ f ∧ f ≤ 7
  | .ask a b => k = 17 ∧ (0 ≤ a ∧ a ≤ 65535) ∧ 0 ≤ b ∧ b ≤ 65535
  | .note t c => k = 1 ∧ (0 ≤ t ∧ t ≤ 255) ∧ 0 ≤ c ∧ c ≤ 255
  | .oth => k ≠ 6 ∧ k ≠ 17 ∧ k ≠ 1
structure Pk where
  s : Int
  d : Int
  k : Int
  t : Int
  o : List Int
  i : Inn
  p : List Int
def Pk.v (p : Pk) : PyData := .tuple [.int p.s, .int p.d, .int p.k, .int p.t, .tuple (IL p.o), .tuple (IL p.i.l), .tuple (IL p.p)]
structure Pk.Ok (p : Pk) : Prop where
  s : 0 ≤ p.s ∧ p.s ≤ 65535
  d : 0 ≤ p.d ∧ p.d ≤ 65535
  k : 0 ≤ p.k ∧ p.k ≤ 255
  t : 1 ≤ p.t ∧ p.t ≤ 255
  o : (∀ x ∈ p.o, 0 ≤ x ∧ x ≤ 255) ∧ p.o.length ≤ 8 ∧ p.o.length % 2 = 0
  i : p.i.ok p.k
  p : (∀ x ∈ p.p, 0 ≤ x ∧ x ≤ 255) ∧ p.p.length ≤ 1500
def isz (k : Int) : Int := if k = 6 then 8 else if k = 17 then 6 else if k = 1 then 4 else 0
def Pk.len (p : Pk) : Int := 12 + p.o.length + isz p.k + p.p.length
local macro_rules | `(tactic| fail "6000") => `(tactic| repeat' (first | apply PG.SetR.s | exact PG.SetR.h0 | exact PG.SetR.h1 | exact PG.SetR.hl | exact PG.SetR.hc (by assumption)))
local macro_rules | `(tactic| fail "6001") => `(tactic| repeat' (first | apply PG.SetLR.s | exact PG.SetLR.h0 | exact PG.SetLR.h1 | exact PG.SetLR.hl))
local macro_rules | `(tactic| fail "6002") => `(tactic| repeat' (first | apply PG.PutR.s | exact PG.PutR.h))
local macro_rules | `(tactic| fail "7001") => `(tactic| first | ((with_reducible apply PG.ws_set)) | ((with_reducible apply PG.ws_if)) | ((with_reducible apply PG.ws_ret)) | ((with_reducible apply PG.ws_setL)) | ((with_reducible apply PG.ws_expr)) | ((with_reducible apply PG.ws_nilc)) | ((with_reducible apply PG.ws_asc)) | ((with_reducible apply PG.ws_nil)) | ((with_reducible apply PG.ws_for)) | ((with_reducible apply PG.ws_asg)) | ((with_reducible apply PG.ws_par)) | ((with_reducible apply PG.ws_retL)) | ((with_reducible apply PG.ws_brk)) | ((with_reducible apply PG.ws_cont)) | ((with_reducible apply PG.ws_forn)) | ((with_reducible apply PG.ws_sto)) | ((with_reducible apply PG.ws_aug); (case hget => rfl)) | ((with_reducible apply PG.ws_app); (case hget => rfl)) | ((with_reducible apply PG.ws_retO); (case hget => rfl)))
local macro_rules | `(tactic| fail "7002") => `(tactic| first | ((with_reducible apply PG.we_name); (case hget => rfl)) | ((with_reducible apply PG.we_c)) | ((with_reducible apply PG.we_bin)) | ((with_reducible apply PG.we_un)) | ((with_reducible apply PG.we_call)) | ((with_reducible apply PG.we_callL); (case hget => rfl)) | ((with_reducible apply PG.we_tup)) | ((with_reducible apply PG.we_lst)) | ((with_reducible apply PG.we_if)) | ((with_reducible apply PG.we_ixL); (case hget => rfl)) | ((with_reducible apply PG.we_unL); (case hget => rfl)) | ((with_reducible apply PG.we_and)) | ((with_reducible apply PG.we_or)) | ((with_reducible apply PG.we_not)) | ((with_reducible apply PG.we_chain)) | ((with_reducible apply PG.we_slT)) | ((with_reducible apply PG.we_frz); (case hget => rfl); (case hset => fail "6000")) | ((with_reducible apply PG.wa_binO)))
local macro_rules | `(tactic| fail "7003") => `(tactic| first | ((with_reducible apply PG.wn_cons)) | ((with_reducible apply PG.wn_nil)) | ((with_reducible apply PG.wn_star)) | ((with_reducible apply PG.wn_disp)) | ((with_reducible apply PG.wn_call)) | ((with_reducible apply PG.wn_sl)) | ((with_reducible apply PG.wn_its)) | ((with_reducible apply PG.wn_r1)) | ((with_reducible apply PG.wn_r2)) | ((with_reducible apply PG.wn_r3)))
local macro_rules | `(tactic| fail "7004") => `(tactic| first | ((with_reducible apply PG.wt_tru)) | ((with_reducible apply PG.wt_bl)) | ((with_reducible apply PG.wt_and)) | ((with_reducible apply PG.wt_or)) | ((with_reducible apply PG.wt_not)) | ((with_reducible apply PG.wt_yes)) | ((with_reducible apply PG.wt_truL); (case hget => rfl)))
local macro_rules | `(tactic| fail "7005") => `(tactic| first | ((with_reducible apply PG.wo_none)) | ((with_reducible apply PG.wo_some)))
local macro_rules | `(tactic| fail "7006") => `(tactic| first | ((with_reducible apply PG.wg_p0)) | ((with_reducible apply PG.wg_tup)) | ((with_reducible apply PG.wg_ps); (case hset => fail "6000")) | ((with_reducible apply PG.wg_set); (case hset => fail "6000")))
local macro_rules | `(tactic| fail "7007") => `(tactic| first | ((with_reducible apply PG.setr_i); (case hset => fail "6000")) | ((with_reducible apply PG.setl_i); (case hset => fail "6001")) | ((with_reducible apply PG.put_i); (case hset => fail "6002")) | ((with_reducible apply PG.pool_i); (case hget => rfl)) | ((with_reducible apply PG.bool_i)) | ((with_reducible apply PG.int_i)) | ((with_reducible apply PG.seqL_i)) | ((with_reducible apply PG.seqT_i)) | ((with_reducible apply PG.seqR_i)) | ((with_reducible apply PG.starT_i)) | ((with_reducible apply PG.starL_i)) | ((with_reducible apply PG.tup_i)) | ((with_reducible apply PG.ch_le)) | ((with_reducible apply PG.ch_lt)) | ((with_reducible apply PG.ch_eq)))
local macro_rules | `(tactic| fail "7008") => `(tactic| first | ((with_reducible apply PG.len_i); (case h => rfl)) | ((with_reducible apply PG.yes_i)) | ((with_reducible apply PG.no_i)) | ((with_reducible apply PG.nyes_i)) | ((with_reducible apply PG.nno_i)))
local macro_rules | `(tactic| fail "7009") => `(tactic| first | ((with_reducible apply PG.wa_add)) | ((with_reducible apply PG.wa_sub)) | ((with_reducible apply PG.wa_lt)) | ((with_reducible apply PG.wa_le)) | ((with_reducible apply PG.wa_gt)) | ((with_reducible apply PG.wa_ge)) | ((with_reducible apply PG.wa_eqI)) | ((with_reducible apply PG.wa_neI)) | ((with_reducible apply PG.wa_neg)) | ((with_reducible apply PG.wa_lenL)) | ((with_reducible apply PG.wa_lenT)) | ((with_reducible apply PG.wa_int)) | ((with_reducible apply PG.wa_max)) | ((with_reducible apply PG.wa_min)) | ((with_reducible apply PG.wa_ev1)) | ((with_reducible apply PG.wa_ev)) | ((with_reducible apply PG.wa_mod); (case h1 => omega)) | ((with_reducible apply PG.wa_div); (case h1 => omega); (case h2 => omega)) | ((with_reducible apply PG.wa_mulR); (case h1 => omega); (case h2 => omega)) | ((with_reducible apply PG.wa_mulL); (case h1 => omega); (case h2 => omega)) | ((with_reducible apply PG.wa_shr); (case h1 => omega)))
local macro_rules | `(tactic| fail "7010") => `(tactic| first | ((with_reducible apply PG.wb_bool)) | ((with_reducible apply PG.wb_int)) | ((with_reducible apply PG.wb_ev)))
local macro_rules | `(tactic| fail "7011") => `(tactic| first | ((with_reducible apply PG.wa_ix0); (case hget => rfl)) | ((with_reducible apply PG.wa_ix1); (case hget => rfl)) | ((with_reducible apply PG.wa_ix2); (case hget => rfl)) | ((with_reducible apply PG.wa_ix3); (case hget => rfl)) | ((with_reducible apply PG.wa_ix4); (case hget => rfl)) | ((with_reducible apply PG.wa_ix5); (case hget => rfl)) | ((with_reducible apply PG.wa_ix6); (case hget => rfl)) | ((with_reducible apply PG.wa_ix7); (case hget => rfl)) | ((with_reducible apply PG.wa_ix8); (case hget => rfl)) | ((with_reducible apply PG.wa_il0); (case hget => rfl)) | ((with_reducible apply PG.wa_il1); (case hget => rfl)) | ((with_reducible apply PG.wa_il2); (case hget => rfl)))
local macro_rules | `(tactic| array_get_dec) => `(tactic| first | ((with_reducible apply PG.gS); fail "7001") | ((with_reducible apply PG.gE); fail "7002") | ((with_reducible apply PG.gN); fail "7003") | ((with_reducible apply PG.gT); fail "7004") | ((with_reducible apply PG.gO); fail "7005") | ((with_reducible apply PG.gG); fail "7006") | ((with_reducible apply PG.gX); fail "7007") | ((with_reducible apply PG.gC); fail "7008") | ((with_reducible apply PG.gA); fail "7009") | ((with_reducible apply PG.gB); fail "7010") | ((with_reducible apply PG.endP_ret)) | ((with_reducible apply PG.endP_retL)) | ((with_reducible apply PG.endN_ret)) | ((with_reducible apply PG.endL_ret)) | ((with_reducible apply PG.endL_retL)) | ((with_reducible apply PG.gI); fail "7011") | ((with_reducible apply PG.wl_ev)))
local macro_rules | `(tactic| array_get_dec) => `(tactic| first | ((with_reducible apply Pr_C.wp_draw); (case hp => assumption); (case h0 => omega); (case h1 => omega)) | ((with_reducible apply Pr_C.ls_i); (case hp => assumption)))

theorem wp_number {p : Pool} {top : Int} {Q : PyData → List PyData → Prop} (hp : p.ok) (h0 : 0 ≤ top) (h1 : top < 1000000000) (q : ∀ (v : Int) (p' : Pool), p'.ok → 0 ≤ v → v ≤ top → Q (.int v) p'.d) : WP (F_law_number p.d [.int top]) Q := by
  obtain ⟨v, p', e, k, a, b⟩ := number_ok p hp top h0 h1
  exact ⟨_, _, e, q v p' k a b⟩
theorem wp_row {p : Pool} {z : Int} {Q : PyData → List PyData → Prop} (hp : p.ok) (h0 : 0 ≤ z) (h1 : z ≤ 1000) (q : ∀ (e : List Int) (p' : Pool), p'.ok → Row e → e.length = z.toNat → Q (.tuple (IL e)) p'.d) : WP (F_law_row p.d [.int z]) Q := by
  obtain ⟨e, p', h, k, a, b⟩ := law_row_ok p hp z h0 h1
  exact ⟨_, _, h, q e p' k a b⟩
local macro_rules | `(tactic| fail "7012") => `(tactic| first | ((with_reducible apply Pr_P.wp_number); (case hp => assumption); (case h0 => omega); (case h1 => omega)) | ((with_reducible apply Pr_P.wp_row); (case hp => assumption); (case h0 => omega); (case h1 => omega)))
local macro_rules | `(tactic| array_get_dec) => `(tactic| first | ((with_reducible apply PG.gP); fail "7012"))

theorem kind_ls : LS F_law_kind [] fun d => ∃ k, d = .int k ∧ 0 ≤ k ∧ k ≤ 255 := by
  intro p hp
  unfold F_law_kind; refine PG.wp_def rfl ?_; simp only [PG.rhoL_eq, List.map_cons, List.map_nil, List.replicate_succ, List.replicate_zero, List.cons_append, List.nil_append]; unfold B_law_kind
  (repeat array_get_dec); intro v1 p1 k1 a1 b1; (repeat array_get_dec); intro v2 p2 k2 a2 b2; (repeat array_get_dec)
  refine wa_pickI [6, 6, 17, 1, v1] (fun k => 0 ≤ k ∧ k ≤ 255) a2 b2 (by simp; omega) ?_
  intro k hk; (repeat array_get_dec)
  exact hk
theorem wp_kind {p : Pool} {Q : PyData → List PyData → Prop} (hp : p.ok) (q : ∀ (k : Int) (p' : Pool), p'.ok → 0 ≤ k → k ≤ 255 → Q (.int k) p'.d) : WP (F_law_kind p.d []) Q :=
  wp_ls kind_ls hp fun z p' hp' ⟨k, e, a, b⟩ => by subst e; exact q k p' hp' a b
theorem inner_ls (k : Int) : LS F_law_inner [.int k] fun d => ∃ i : Inn, d = .tuple (IL i.l) ∧ i.ok k := by
  intro p hp
  unfold F_law_inner; refine PG.wp_def rfl ?_; simp only [PG.rhoL_eq, List.map_cons, List.map_nil, List.replicate_succ, List.replicate_zero, List.cons_append, List.nil_append]; unfold B_law_inner
  (repeat array_get_dec)
  (first | (with_reducible apply PG.dec_i) | (with_reducible apply PG.decn_i) | (with_reducible apply PG.bit_i)) <;> intro h
  · (repeat array_get_dec); intro v1 p1 k1 a1 b1; (repeat array_get_dec); intro v2 p2 k2 a2 b2; (repeat array_get_dec); intro v3 p3 k3 a3 b3; (repeat array_get_dec)
    exact ⟨.st v1 v2 v3, rfl, h, ⟨a1, b1⟩, ⟨a2, b2⟩, a3, by omega⟩
  (repeat array_get_dec)
  (first | (with_reducible apply PG.dec_i) | (with_reducible apply PG.decn_i) | (with_reducible apply PG.bit_i)) <;> intro h2
  · (repeat array_get_dec); intro v1 p1 k1 a1 b1; (repeat array_get_dec); intro v2 p2 k2 a2 b2; (repeat array_get_dec)
    exact ⟨.ask v1 v2, rfl, h2, ⟨a1, b1⟩, a2, b2⟩
  (repeat array_get_dec)
  (first | (with_reducible apply PG.dec_i) | (with_reducible apply PG.decn_i) | (with_reducible apply PG.bit_i)) <;> intro h3
  · (repeat array_get_dec); intro v1 p1 k1 a1 b1; (repeat array_get_dec); intro v2 p2 k2 a2 b2; (repeat array_get_dec)
    exact ⟨.note v1 v2, rfl, h3, ⟨a1, by omega⟩, a2, by omega⟩
  · (repeat array_get_dec)
    exact ⟨.oth, rfl, h, h2, h3⟩
theorem wp_inner {p : Pool} {k : Int} {Q : PyData → List PyData → Prop} (hp : p.ok) (q : ∀ (i : Inn) (p' : Pool), p'.ok → i.ok k → Q (.tuple (IL i.l)) p'.d) : WP (F_law_inner p.d [.int k]) Q :=
  wp_ls (inner_ls k) hp fun z p' hp' ⟨i, e, a⟩ => by subst e; exact q i p' hp' a
local macro_rules | `(tactic| fail "7013") => `(tactic| first | ((with_reducible apply Pr_P.wp_kind); (case hp => assumption)) | ((with_reducible apply Pr_P.wp_inner); (case hp => assumption)))
local macro_rules | `(tactic| array_get_dec) => `(tactic| first | ((with_reducible apply PG.gP); fail "7013"))

end Pr_P
end
section
set_option linter.all false
set_option maxRecDepth 100000
set_option Elab.async false
namespace Pr_P
open PySem PG Pr_C Pr_D Pr_S
local macro_rules | `(tactic| fail "6000") => `(tactic| repeat' (first | apply PG.SetR.s | exact PG.SetR.h0 | exact PG.SetR.h1 | exact PG.SetR.hl | exact PG.SetR.hc (by assumption)))
local macro_rules | `(tactic| fail "6001") => `(tactic| repeat' (first | apply PG.SetLR.s | exact PG.SetLR.h0 | exact PG.SetLR.h1 | exact PG.SetLR.hl))
local macro_rules | `(tactic| fail "6002") => `(tactic| repeat' (first | apply PG.PutR.s | exact PG.PutR.h))
local macro_rules | `(tactic| fail "7001") => `(tactic| first | ((with_reducible apply PG.ws_set)) | ((with_reducible apply PG.ws_if)) | ((with_reducible apply PG.ws_ret)) | ((with_reducible apply PG.ws_setL)) | ((with_reducible apply PG.ws_expr)) | ((with_reducible apply PG.ws_nilc)) | ((with_reducible apply PG.ws_asc)) | ((with_reducible apply PG.ws_nil)) | ((with_reducible apply PG.ws_for)) | ((with_reducible apply PG.ws_asg)) | ((with_reducible apply PG.ws_par)) | ((with_reducible apply PG.ws_retL)) | ((with_reducible apply PG.ws_brk)) | ((with_reducible apply PG.ws_cont)) | ((with_reducible apply PG.ws_forn)) | ((with_reducible apply PG.ws_sto)) | ((with_reducible apply PG.ws_aug); (case hget => rfl)) | ((with_reducible apply PG.ws_app); (case hget => rfl)) | ((with_reducible apply PG.ws_retO); (case hget => rfl)))
local macro_rules | `(tactic| fail "7002") => `(tactic| first | ((with_reducible apply PG.we_name); (case hget => rfl)) | ((with_reducible apply PG.we_c)) | ((with_reducible apply PG.we_bin)) | ((with_reducible apply PG.we_un)) | ((with_reducible apply PG.we_call)) | ((with_reducible apply PG.we_callL); (case hget => rfl)) | ((with_reducible apply PG.we_tup)) | ((with_reducible apply PG.we_lst)) | ((with_reducible apply PG.we_if)) | ((with_reducible apply PG.we_ixL); (case hget => rfl)) | ((with_reducible apply PG.we_unL); (case hget => rfl)) | ((with_reducible apply PG.we_and)) | ((with_reducible apply PG.we_or)) | ((with_reducible apply PG.we_not)) | ((with_reducible apply PG.we_chain)) | ((with_reducible apply PG.we_slT)) | ((with_reducible apply PG.we_frz); (case hget => rfl); (case hset => fail "6000")) | ((with_reducible apply PG.wa_binO)))
local macro_rules | `(tactic| fail "7003") => `(tactic| first | ((with_reducible apply PG.wn_cons)) | ((with_reducible apply PG.wn_nil)) | ((with_reducible apply PG.wn_star)) | ((with_reducible apply PG.wn_disp)) | ((with_reducible apply PG.wn_call)) | ((with_reducible apply PG.wn_sl)) | ((with_reducible apply PG.wn_its)) | ((with_reducible apply PG.wn_r1)) | ((with_reducible apply PG.wn_r2)) | ((with_reducible apply PG.wn_r3)))
local macro_rules | `(tactic| fail "7004") => `(tactic| first | ((with_reducible apply PG.wt_tru)) | ((with_reducible apply PG.wt_bl)) | ((with_reducible apply PG.wt_and)) | ((with_reducible apply PG.wt_or)) | ((with_reducible apply PG.wt_not)) | ((with_reducible apply PG.wt_yes)) | ((with_reducible apply PG.wt_truL); (case hget => rfl)))
local macro_rules | `(tactic| fail "7005") => `(tactic| first | ((with_reducible apply PG.wo_none)) | ((with_reducible apply PG.wo_some)))
local macro_rules | `(tactic| fail "7006") => `(tactic| first | ((with_reducible apply PG.wg_p0)) | ((with_reducible apply PG.wg_tup)) | ((with_reducible apply PG.wg_ps); (case hset => fail "6000")) | ((with_reducible apply PG.wg_set); (case hset => fail "6000")))
local macro_rules | `(tactic| fail "7007") => `(tactic| first | ((with_reducible apply PG.setr_i); (case hset => fail "6000")) | ((with_reducible apply PG.setl_i); (case hset => fail "6001")) | ((with_reducible apply PG.put_i); (case hset => fail "6002")) | ((with_reducible apply PG.pool_i); (case hget => rfl)) | ((with_reducible apply PG.bool_i)) | ((with_reducible apply PG.int_i)) | ((with_reducible apply PG.seqL_i)) | ((with_reducible apply PG.seqT_i)) | ((with_reducible apply PG.seqR_i)) | ((with_reducible apply PG.starT_i)) | ((with_reducible apply PG.starL_i)) | ((with_reducible apply PG.tup_i)) | ((with_reducible apply PG.ch_le)) | ((with_reducible apply PG.ch_lt)) | ((with_reducible apply PG.ch_eq)))
local macro_rules | `(tactic| fail "7008") => `(tactic| first | ((with_reducible apply PG.len_i); (case h => rfl)) | ((with_reducible apply PG.yes_i)) | ((with_reducible apply PG.no_i)) | ((with_reducible apply PG.nyes_i)) | ((with_reducible apply PG.nno_i)))
local macro_rules | `(tactic| fail "7009") => `(tactic| first | ((with_reducible apply PG.wa_add)) | ((with_reducible apply PG.wa_sub)) | ((with_reducible apply PG.wa_lt)) | ((with_reducible apply PG.wa_le)) | ((with_reducible apply PG.wa_gt)) | ((with_reducible apply PG.wa_ge)) | ((with_reducible apply PG.wa_eqI)) | ((with_reducible apply PG.wa_neI)) | ((with_reducible apply PG.wa_neg)) | ((with_reducible apply PG.wa_lenL)) | ((with_reducible apply PG.wa_lenT)) | ((with_reducible apply PG.wa_int)) | ((with_reducible apply PG.wa_max)) | ((with_reducible apply PG.wa_min)) | ((with_reducible apply PG.wa_ev1)) | ((with_reducible apply PG.wa_ev)) | ((with_reducible apply PG.wa_mod); (case h1 => omega)) | ((with_reducible apply PG.wa_div); (case h1 => omega); (case h2 => omega)) | ((with_reducible apply PG.wa_mulR); (case h1 => omega); (case h2 => omega)) | ((with_reducible apply PG.wa_mulL); (case h1 => omega); (case h2 => omega)) | ((with_reducible apply PG.wa_shr); (case h1 => omega)))
local macro_rules | `(tactic| fail "7010") => `(tactic| first | ((with_reducible apply PG.wb_bool)) | ((with_reducible apply PG.wb_int)) | ((with_reducible apply PG.wb_ev)))
local macro_rules | `(tactic| fail "7011") => `(tactic| first | ((with_reducible apply PG.wa_ix0); (case hget => rfl)) | ((with_reducible apply PG.wa_ix1); (case hget => rfl)) | ((with_reducible apply PG.wa_ix2); (case hget => rfl)) | ((with_reducible apply PG.wa_ix3); (case hget => rfl)) | ((with_reducible apply PG.wa_ix4); (case hget => rfl)) | ((with_reducible apply PG.wa_ix5); (case hget => rfl)) | ((with_reducible apply PG.wa_ix6); (case hget => rfl)) | ((with_reducible apply PG.wa_ix7); (case hget => rfl)) | ((with_reducible apply PG.wa_ix8); (case hget => rfl)) | ((with_reducible apply PG.wa_il0); (case hget => rfl)) | ((with_reducible apply PG.wa_il1); (case hget => rfl)) | ((with_reducible apply PG.wa_il2); (case hget => rfl)))
local macro_rules | `(tactic| array_get_dec) => `(tactic| first | ((with_reducible apply PG.gS); fail "7001") | ((with_reducible apply PG.gE); fail "7002") | ((with_reducible apply PG.gN); fail "7003") | ((with_reducible apply PG.gT); fail "7004") | ((with_reducible apply PG.gO); fail "7005") | ((with_reducible apply PG.gG); fail "7006") | ((with_reducible apply PG.gX); fail "7007") | ((with_reducible apply PG.gC); fail "7008") | ((with_reducible apply PG.gA); fail "7009") | ((with_reducible apply PG.gB); fail "7010") | ((with_reducible apply PG.endP_ret)) | ((with_reducible apply PG.endP_retL)) | ((with_reducible apply PG.endN_ret)) | ((with_reducible apply PG.endL_ret)) | ((with_reducible apply PG.endL_retL)) | ((with_reducible apply PG.gI); fail "7011") | ((with_reducible apply PG.wl_ev)))
local macro_rules | `(tactic| array_get_dec) => `(tactic| first | ((with_reducible apply Pr_C.wp_draw); (case hp => assumption); (case h0 => omega); (case h1 => omega)) | ((with_reducible apply Pr_C.ls_i); (case hp => assumption)))

local macro_rules | `(tactic| fail "7012") => `(tactic| first | ((with_reducible apply Pr_P.wp_number); (case hp => assumption); (case h0 => omega); (case h1 => omega)) | ((with_reducible apply Pr_P.wp_row); (case hp => assumption); (case h0 => omega); (case h1 => omega)) | ((with_reducible apply Pr_P.wp_kind); (case hp => assumption)) | ((with_reducible apply Pr_P.wp_inner); (case hp => assumption)))
local macro_rules | `(tactic| array_get_dec) => `(tactic| first | ((with_reducible apply PG.gP); fail "7012"))

def Inn.tops : Inn → List Int
  | .st .. => [65535, 65535, 7] | .ask .. => [65535, 65535] | .note .. => [255, 255] | .oth => []
end Pr_P
end
section
set_option linter.all false
set_option maxRecDepth 100000
set_option Elab.async false
namespace Pr_N
open PySem PG Pr_C Pr_D
/-! ### any value, told: a whole number between two, a tuple of so many -/
def Nd (d : PyData) : Prop := ∃ B, okd B d = true
def isI : PyData → Bool
  | .int _ => true
  | _ => false
def nb (lo hi : Int) : PyData → Bool
  | .int i => decide (lo ≤ i) && decide (i ≤ hi)
  | _ => false
def isT : PyData → Bool
  | .tuple _ => true
  | _ => false
theorem integer_is {a : PyData} (h : Nd a) : F_law_is_integer [a] = some (.bool (isI a)) := by
  cases a with
  | dict _ => obtain ⟨B, h⟩ := h; cases h
  | _ => rfl
theorem nd_tup {xs : List PyData} (h : Nd (.tuple xs)) : ∀ x ∈ xs, Nd x := fun x hx => by
  obtain ⟨B, h⟩ := h
  simp only [okd] at h
  exact ⟨B, okA_mem.mp h x hx⟩
/-- it is a tuple of k items -/
def tupN (k : Int) : PyData → Bool
  | .tuple xs => decide ((xs.length : Int) = k)
  | _ => false
end Pr_N
end
section
set_option linter.all false
set_option maxRecDepth 100000
set_option Elab.async false
namespace Pr_B
open PySem PG Pr_C Pr_D Pr_N
/-! ### any value, told: decisions, sets -/
local macro_rules | `(tactic| fail "6000") => `(tactic| repeat' (first | apply PG.SetR.s | exact PG.SetR.h0 | exact PG.SetR.h1 | exact PG.SetR.hl | exact PG.SetR.hc (by assumption)))
local macro_rules | `(tactic| fail "6001") => `(tactic| repeat' (first | apply PG.SetLR.s | exact PG.SetLR.h0 | exact PG.SetLR.h1 | exact PG.SetLR.hl))
local macro_rules | `(tactic| fail "6002") => `(tactic| repeat' (first | apply PG.PutR.s | exact PG.PutR.h))
local macro_rules | `(tactic| fail "7001") => `(tactic| first | ((with_reducible apply PG.ws_set)) | ((with_reducible apply PG.ws_if)) | ((with_reducible apply PG.ws_ret)) | ((with_reducible apply PG.ws_setL)) | ((with_reducible apply PG.ws_expr)) | ((with_reducible apply PG.ws_nilc)) | ((with_reducible apply PG.ws_asc)) | ((with_reducible apply PG.ws_nil)) | ((with_reducible apply PG.ws_for)) | ((with_reducible apply PG.ws_asg)) | ((with_reducible apply PG.ws_par)) | ((with_reducible apply PG.ws_retL)) | ((with_reducible apply PG.ws_brk)) | ((with_reducible apply PG.ws_cont)) | ((with_reducible apply PG.ws_forn)) | ((with_reducible apply PG.ws_sto)) | ((with_reducible apply PG.ws_aug); (case hget => rfl)) | ((with_reducible apply PG.ws_app); (case hget => rfl)) | ((with_reducible apply PG.ws_retO); (case hget => rfl)))
local macro_rules | `(tactic| fail "7002") => `(tactic| first | ((with_reducible apply PG.we_name); (case hget => rfl)) | ((with_reducible apply PG.we_c)) | ((with_reducible apply PG.we_bin)) | ((with_reducible apply PG.we_un)) | ((with_reducible apply PG.we_call)) | ((with_reducible apply PG.we_callL); (case hget => rfl)) | ((with_reducible apply PG.we_tup)) | ((with_reducible apply PG.we_lst)) | ((with_reducible apply PG.we_if)) | ((with_reducible apply PG.we_ixL); (case hget => rfl)) | ((with_reducible apply PG.we_unL); (case hget => rfl)) | ((with_reducible apply PG.we_and)) | ((with_reducible apply PG.we_or)) | ((with_reducible apply PG.we_not)) | ((with_reducible apply PG.we_chain)) | ((with_reducible apply PG.we_slT)) | ((with_reducible apply PG.we_frz); (case hget => rfl); (case hset => fail "6000")) | ((with_reducible apply PG.wa_binO)))
local macro_rules | `(tactic| fail "7003") => `(tactic| first | ((with_reducible apply PG.wn_cons)) | ((with_reducible apply PG.wn_nil)) | ((with_reducible apply PG.wn_star)) | ((with_reducible apply PG.wn_disp)) | ((with_reducible apply PG.wn_call)) | ((with_reducible apply PG.wn_sl)) | ((with_reducible apply PG.wn_its)) | ((with_reducible apply PG.wn_r1)) | ((with_reducible apply PG.wn_r2)) | ((with_reducible apply PG.wn_r3)))
local macro_rules | `(tactic| fail "7004") => `(tactic| first | ((with_reducible apply PG.wt_tru)) | ((with_reducible apply PG.wt_bl)) | ((with_reducible apply PG.wt_and)) | ((with_reducible apply PG.wt_or)) | ((with_reducible apply PG.wt_not)) | ((with_reducible apply PG.wt_yes)) | ((with_reducible apply PG.wt_truL); (case hget => rfl)))
local macro_rules | `(tactic| fail "7005") => `(tactic| first | ((with_reducible apply PG.wo_none)) | ((with_reducible apply PG.wo_some)))
local macro_rules | `(tactic| fail "7006") => `(tactic| first | ((with_reducible apply PG.wg_p0)) | ((with_reducible apply PG.wg_tup)) | ((with_reducible apply PG.wg_ps); (case hset => fail "6000")) | ((with_reducible apply PG.wg_set); (case hset => fail "6000")))
local macro_rules | `(tactic| fail "7007") => `(tactic| first | ((with_reducible apply PG.setr_i); (case hset => fail "6000")) | ((with_reducible apply PG.setl_i); (case hset => fail "6001")) | ((with_reducible apply PG.put_i); (case hset => fail "6002")) | ((with_reducible apply PG.pool_i); (case hget => rfl)) | ((with_reducible apply PG.bool_i)) | ((with_reducible apply PG.int_i)) | ((with_reducible apply PG.seqL_i)) | ((with_reducible apply PG.seqT_i)) | ((with_reducible apply PG.seqR_i)) | ((with_reducible apply PG.starT_i)) | ((with_reducible apply PG.starL_i)) | ((with_reducible apply PG.tup_i)) | ((with_reducible apply PG.ch_le)) | ((with_reducible apply PG.ch_lt)) | ((with_reducible apply PG.ch_eq)))
local macro_rules | `(tactic| fail "7008") => `(tactic| first | ((with_reducible apply PG.len_i); (case h => rfl)) | ((with_reducible apply PG.yes_i)) | ((with_reducible apply PG.no_i)) | ((with_reducible apply PG.nyes_i)) | ((with_reducible apply PG.nno_i)))
local macro_rules | `(tactic| fail "7009") => `(tactic| first | ((with_reducible apply PG.wa_add)) | ((with_reducible apply PG.wa_sub)) | ((with_reducible apply PG.wa_lt)) | ((with_reducible apply PG.wa_le)) | ((with_reducible apply PG.wa_gt)) | ((with_reducible apply PG.wa_ge)) | ((with_reducible apply PG.wa_eqI)) | ((with_reducible apply PG.wa_neI)) | ((with_reducible apply PG.wa_neg)) | ((with_reducible apply PG.wa_lenL)) | ((with_reducible apply PG.wa_lenT)) | ((with_reducible apply PG.wa_int)) | ((with_reducible apply PG.wa_max)) | ((with_reducible apply PG.wa_min)) | ((with_reducible apply PG.wa_ev1)) | ((with_reducible apply PG.wa_ev)) | ((with_reducible apply PG.wa_mod); (case h1 => omega)) | ((with_reducible apply PG.wa_div); (case h1 => omega); (case h2 => omega)) | ((with_reducible apply PG.wa_mulR); (case h1 => omega); (case h2 => omega)) | ((with_reducible apply PG.wa_mulL); (case h1 => omega); (case h2 => omega)) | ((with_reducible apply PG.wa_shr); (case h1 => omega)))
local macro_rules | `(tactic| fail "7010") => `(tactic| first | ((with_reducible apply PG.wb_bool)) | ((with_reducible apply PG.wb_int)) | ((with_reducible apply PG.wb_ev)))
local macro_rules | `(tactic| fail "7011") => `(tactic| first | ((with_reducible apply PG.wa_ix0); (case hget => rfl)) | ((with_reducible apply PG.wa_ix1); (case hget => rfl)) | ((with_reducible apply PG.wa_ix2); (case hget => rfl)) | ((with_reducible apply PG.wa_ix3); (case hget => rfl)) | ((with_reducible apply PG.wa_ix4); (case hget => rfl)) | ((with_reducible apply PG.wa_ix5); (case hget => rfl)) | ((with_reducible apply PG.wa_ix6); (case hget => rfl)) | ((with_reducible apply PG.wa_ix7); (case hget => rfl)) | ((with_reducible apply PG.wa_ix8); (case hget => rfl)) | ((with_reducible apply PG.wa_il0); (case hget => rfl)) | ((with_reducible apply PG.wa_il1); (case hget => rfl)) | ((with_reducible apply PG.wa_il2); (case hget => rfl)))
local macro_rules | `(tactic| array_get_dec) => `(tactic| first | ((with_reducible apply PG.gS); fail "7001") | ((with_reducible apply PG.gE); fail "7002") | ((with_reducible apply PG.gN); fail "7003") | ((with_reducible apply PG.gT); fail "7004") | ((with_reducible apply PG.gO); fail "7005") | ((with_reducible apply PG.gG); fail "7006") | ((with_reducible apply PG.gX); fail "7007") | ((with_reducible apply PG.gC); fail "7008") | ((with_reducible apply PG.gA); fail "7009") | ((with_reducible apply PG.gB); fail "7010") | ((with_reducible apply PG.endP_ret)) | ((with_reducible apply PG.endP_retL)) | ((with_reducible apply PG.endN_ret)) | ((with_reducible apply PG.endL_ret)) | ((with_reducible apply PG.endL_retL)) | ((with_reducible apply PG.gI); fail "7011") | ((with_reducible apply PG.wl_ev)))
local macro_rules | `(tactic| array_get_dec) => `(tactic| first | ((with_reducible apply Pr_C.wp_draw); (case hp => assumption); (case h0 => omega); (case h1 => omega)) | ((with_reducible apply Pr_C.ls_i); (case hp => assumption)))

local macro_rules | `(tactic| fail "7012") => `(tactic| first | ((with_reducible apply PG.str_i)) | ((with_reducible apply PG.ch_leS)))
local macro_rules | `(tactic| array_get_dec) => `(tactic| first | ((with_reducible apply PG.wn_ity)) | ((with_reducible apply PG.gX); fail "7012"))

abbrev G (d : PyData) : Prop := Gd 70000 20 29000 d
mutual
theorem ok_bulk {B : Int} : ∀ d : PyData, okd B d = true → d.bulk + 1 ≤ 21 * wt d
  | .none, _ => by simp [PyData.bulk, wt]
  | .bool _, _ => by simp [PyData.bulk, wt]
  | .int i, h => by simp [PyData.bulk, wt]
  | .str x, h => by
    have h := (okS_leaf h).2.2
    simp only [PyData.bulk, wt]; omega
  | .list xs, h => by
    have := ok_bulkA xs h
    simp only [PyData.bulk, wt]; omega
  | .tuple xs, h => by
    have := ok_bulkA xs h
    simp only [PyData.bulk, wt]; omega
  | .dict _, h => by cases h
theorem ok_bulkA {B : Int} : ∀ xs : List PyData, okA B xs = true → PyData.bulkAll xs ≤ 21 * wtA xs
  | [], _ => by simp [PyData.bulkAll, wtA]
  | x :: xs, h => by
    simp only [okA, Bool.and_eq_true] at h
    have a := ok_bulk x h.1
    have b := ok_bulkA xs h.2
    simp only [PyData.bulkAll, wtA]
    omega
end
def anyS (s : Str) (ts : List Str) : Bool := ts.any fun t => decide (t = s)
def isS : PyData → Bool
  | .str _ => true
  | _ => false
/-- the first text -/
def ft : PyData → Str
  | .tuple (.str s :: _) => s
  | _ => Str.ofString ""
abbrev L (x : String) : Str := Str.ofString x
def dcB : PyData → Bool
  | .tuple (.str s :: r) => if decide (s = L "refuse") then decide (((.str s :: r : List PyData).length : Int) = 2) && nb 0 255 ((.str s :: r : List PyData).getD 1 .none) else anyS s [L "accept", L "drop"] && decide (((.str s :: r : List PyData).length : Int) = 1)
  | _ => false
def stepS (l : Int) : PyData → Option Int
  | .tuple [.int a, .int b] => if l ≤ a ∧ a ≤ b then some (b + 2) else none
  | _ => none
def runS : Int → List PyData → Bool
  | _, [] => true
  | l, d :: ds => match stepS l d with
    | some l' => runS l' ds
    | none => false
def setB : PyData → Bool
  | .tuple xs => runS 0 xs
  | _ => false
theorem ws_forS {g : GF} {b c : SF} {ρ : Rho} {S : Out → Rho → Prop} (R : Int → Rho → Prop) (ok : PyData → Prop) (step : ∀ (l : Int) (d : PyData) (ρ : Rho), 0 ≤ l → ok d → R l ρ → WG g d ρ fun ρ1 => WS b ρ1 fun o ρ2 => match stepS l d with
      | some l' => o = .next ∧ R l' ρ2
      | none => o = .ret (.bool false))
    (ds : List PyData) (ho : ∀ d ∈ ds, ok d) (h : R 0 ρ) (q1 : runS 0 ds = true → ∀ ρ1, (∃ l, R l ρ1) → WS c ρ1 S) (q2 : runS 0 ds = false → ∀ ρ1, S (.ret (.bool false)) ρ1) : WS (sSeq (forL g b ds) c) ρ S := by
  have key : ∀ (ds : List PyData) (l : Int) (ρ : Rho), 0 ≤ l → (∀ d ∈ ds, ok d) → R l ρ → if runS l ds then ∃ ρ', forL g b ds ρ = some (.next, ρ') ∧ ∃ l, R l ρ' else ∃ ρ', forL g b ds ρ = some (.ret (.bool false), ρ') := by
    intro ds
    induction ds with
    | nil => intro l ρ _ _ h; exact ⟨ρ, rfl, l, h⟩
    | cons d ds ih =>
      intro l ρ h0 ho h
      obtain ⟨ρ1, e1, o, ρ2, e2, m⟩ := step l d ρ h0 (ho d (by simp)) h
      unfold runS
      cases e : stepS l d with
      | none =>
        rw [e] at m
        subst m
        exact ⟨ρ2, by simp [forL, e1, e2]⟩
      | some l' =>
        rw [e] at m
        obtain ⟨rfl, h2⟩ := m
        have h0' : 0 ≤ l' := by
          unfold stepS at e
          split at e
          · split at e
            · cases e; omega
            · cases e
          · cases e
        have ih := ih l' ρ2 h0' (fun d hd => ho d (by simp [hd])) h2
        dsimp only
        split at ih
        · rename_i hr
          rw [if_pos hr]
          obtain ⟨ρ', e3, h3⟩ := ih
          exact ⟨ρ', by simp [forL, e1, e2, e3], h3⟩
        · rename_i hr
          rw [if_neg hr]
          obtain ⟨ρ', e3⟩ := ih
          exact ⟨ρ', by simp [forL, e1, e2, e3]⟩
  have k := key ds 0 ρ (Int.le_refl _) ho h
  split at k
  · rename_i hr
    obtain ⟨ρ1, e, h1⟩ := k
    obtain ⟨o, ρ2, e2, s⟩ := q1 hr ρ1 h1
    exact ⟨o, ρ2, by simp [e, e2], s⟩
  · rename_i hr
    obtain ⟨ρ1, e⟩ := k
    exact ⟨_, ρ1, by simp [e], q2 (by simpa using hr) ρ1⟩
theorem tyne_int {a : PyData} (h : Nd a) : dTyNe "int" a = some (.bool (!isI a)) := by
  cases a with
  | dict _ => obtain ⟨B, h⟩ := h; cases h
  | _ => simp [isI, tyName]
theorem isI_int {a : PyData} (h : isI a = true) : ∃ i, a = .int i := by
  cases a with
  | int i => exact ⟨i, rfl⟩
  | _ => cases h
theorem is_tuple_no {d : PyData} {k : Int} (h : Nd d) (hn : ∀ xs, d ≠ .tuple xs) : F_is_tuple [d, .int k] = some (.bool false) := by
  cases d with
  | dict _ => obtain ⟨B, h⟩ := h; cases h
  | tuple xs => exact absurd rfl (hn xs)
  | _ => simp [F_is_tuple, B_is_tuple, defP, tyName]
theorem is_tuple_len {xs : List PyData} {k : Int} : F_is_tuple [.tuple xs, .int k] = some (.bool (decide ((xs.length : Int) = k))) := by
  simp [F_is_tuple, B_is_tuple, defP, tyName, dEq]
theorem isi_no {d : PyData} (h : Nd d) (hn : ∀ xs, d ≠ .tuple xs) : dIsi "tuple" d = some (.bool false) := by
  cases d with
  | dict _ => obtain ⟨B, h⟩ := h; cases h
  | tuple xs => exact absurd rfl (hn xs)
  | _ => simp [isTy, isN, tyName]
theorem tyne_no {d : PyData} (h : Nd d) (hn : ∀ xs, d ≠ .tuple xs) : dTyNe "tuple" d = some (.bool true) := by
  cases d with
  | dict _ => obtain ⟨B, h⟩ := h; cases h
  | tuple xs => exact absurd rfl (hn xs)
  | _ => simp [tyName]
theorem step_no {l : Int} {d : PyData} (hn : ∀ xs, d ≠ .tuple xs) : stepS l d = none := by
  unfold stepS
  split
  · exact absurd rfl (hn _)
  · rfl
theorem step_len {l : Int} {xs : List PyData} (h : xs.length ≠ 2) : stepS l (.tuple xs) = none := by
  unfold stepS
  split
  · rename_i a b e
    cases e
    exact absurd rfl h
  · rfl
theorem step_ab {l : Int} {a b : PyData} (h : (isI a && isI b) = false) : stepS l (.tuple [a, b]) = none := by
  unfold stepS
  split
  · rename_i i j e
    cases e
    cases h
  · rfl
theorem two_of {xs : List PyData} (h : xs.length = 2) : ∃ a b, xs = [a, b] := by
  match xs, h with
  | [a, b], _ => exact ⟨a, b, rfl⟩
theorem step_prog (l : Int) (d A : PyData) (c3 c4 : Option Cell) (h3 : PlainC c3) (h4 : PlainC c4) (hd : Nd d) :
    WS X_is_set_1 [some (.v A), some (.v (.int l)), some (.v d), c3, c4] fun o ρ2 => match stepS l d with
      | some l' => o = .next ∧ ∃ c3 c4, ρ2 = [some (.v A), some (.v (.int l')), some (.v d), c3, c4] ∧ PlainC c3 ∧ PlainC c4
      | none => o = .ret (.bool false) := by
  unfold X_is_set_1
  by_cases ht : ∃ xs, d = .tuple xs
  · obtain ⟨xs, rfl⟩ := ht
    (repeat array_get_dec)
    refine wa_eq is_tuple_len ?_
    (repeat array_get_dec)
    by_cases hl : xs.length = 2
    · obtain ⟨a, b, rfl⟩ := two_of hl
      have na := nd_tup hd a (by simp)
      have nb := nd_tup hd b (by simp)
      (first | ((with_reducible apply PG.decy_i); (case h => omega)) | ((with_reducible apply PG.decno_i); (case h => omega)) | ((with_reducible apply PG.ndecy_i); (case h => omega)) | ((with_reducible apply PG.ndecno_i); (case h => omega)))
      (repeat array_get_dec)
      refine wa_eq (tyne_int na) ?_
      (repeat array_get_dec)
      cases ha : isI a with
      | false =>
        (repeat array_get_dec)
        rw [step_ab (by simp [ha])]
      | true =>
        (repeat array_get_dec)
        refine wa_eq (tyne_int nb) ?_
        (repeat array_get_dec)
        cases hb : isI b with
        | false =>
          (repeat array_get_dec)
          rw [step_ab (by simp [hb])]
        | true =>
          obtain ⟨i, rfl⟩ := isI_int ha
          obtain ⟨j, rfl⟩ := isI_int hb
          (repeat array_get_dec)
          (first | (with_reducible apply PG.dec_i) | (with_reducible apply PG.decn_i) | (with_reducible apply PG.bit_i)) <;> intro h1
          · (repeat array_get_dec)
            (first | (with_reducible apply PG.dec_i) | (with_reducible apply PG.decn_i) | (with_reducible apply PG.bit_i)) <;> intro h2
            · (repeat array_get_dec)
              rw [show stepS l (.tuple [.int i, .int j]) = some (j + 2) by simp [stepS, h1, h2]]
              exact ⟨rfl, _, _, rfl, .inr ⟨_, rfl⟩, .inr ⟨_, rfl⟩⟩
            · (repeat array_get_dec)
              rw [show stepS l (.tuple [.int i, .int j]) = none by simp [stepS, h1, h2]]
          · (repeat array_get_dec)
            rw [show stepS l (.tuple [.int i, .int j]) = none by simp [stepS, h1]]
    · rw [step_len hl]
      (first | ((with_reducible apply PG.decy_i); (case h => omega)) | ((with_reducible apply PG.decno_i); (case h => omega)) | ((with_reducible apply PG.ndecy_i); (case h => omega)) | ((with_reducible apply PG.ndecno_i); (case h => omega)))
      (repeat array_get_dec)
      rfl
  · have hn : ∀ xs, d ≠ .tuple xs := fun xs e => ht ⟨xs, e⟩
    rw [step_no hn]
    (repeat array_get_dec)
    refine wa_eq (is_tuple_no hd hn) ?_
    (repeat array_get_dec)
    rfl
theorem is_set_ok (d : PyData) (hd : Nd d) : F_is_set [d] = some (.bool (setB d)) := by
  refine of_wa ?_
  unfold F_is_set; refine PG.wa_def rfl ?_; simp only [PG.rho0_eq, List.map_cons, List.map_nil, List.replicate_succ, List.replicate_zero, List.cons_append, List.nil_append]; unfold B_is_set
  by_cases ht : ∃ xs, d = .tuple xs
  · obtain ⟨xs, rfl⟩ := ht
    (repeat array_get_dec)
    refine ws_forS (fun l ρ => ∃ c2 c3 c4 : Option Cell, ρ = [some (.v (.tuple xs)), some (.v (.int l)), c2, c3, c4] ∧ PlainC c2 ∧ PlainC c3 ∧ PlainC c4) Nd ?_ xs (nd_tup hd) ⟨none, none, none, rfl, .inl rfl, .inl rfl, .inl rfl⟩ ?_ ?_
    · rintro l d ρ h0 hd ⟨c2, c3, c4, rfl, q2, q3, q4⟩
      (repeat array_get_dec)
      obtain ⟨o, ρ2, e, m⟩ := step_prog l d (.tuple xs) c3 c4 q3 q4 hd
      refine ⟨o, ρ2, e, ?_⟩
      cases es : stepS l d with
      | none => rw [es] at m; exact m
      | some l' =>
        rw [es] at m
        obtain ⟨rfl, d3, d4, rfl, w3, w4⟩ := m
        exact ⟨rfl, _, _, _, rfl, .inr ⟨_, rfl⟩, w3, w4⟩
    · rintro hr ρ1 ⟨l, c2, c3, c4, rfl, _⟩
      (repeat array_get_dec)
      rw [show setB (.tuple xs) = true from hr]
    · intro hr ρ1
      show PyData.bool false = _
      rw [show setB (.tuple xs) = false from hr]
  · have hn : ∀ xs, d ≠ .tuple xs := fun xs e => ht ⟨xs, e⟩
    (repeat array_get_dec)
    refine wa_eq (tyne_no hd hn) ?_
    (repeat array_get_dec)
    cases d <;> first | exact absurd rfl (hn _) | rfl
theorem step_law (l : Int) (h0 : 0 ≤ l) (d A : PyData) (hd : Nd d) :
    WS X_law_is_set_1 [some (.v A), some (.v (.int (l - 2))), some (.v d)] fun o ρ2 => match stepS l d with
      | some l' => o = .next ∧ ρ2 = [some (.v A), some (.v (.int (l' - 2))), some (.v d)]
      | none => o = .ret (.bool false) := by
  unfold X_law_is_set_1
  by_cases ht : ∃ xs, d = .tuple xs
  · obtain ⟨xs, rfl⟩ := ht
    (repeat array_get_dec)
    by_cases hl : xs.length = 2
    · obtain ⟨a, b, rfl⟩ := two_of hl
      have na := nd_tup hd a (by simp)
      have nb := nd_tup hd b (by simp)
      (first | ((with_reducible apply PG.decy_i); (case h => omega)) | ((with_reducible apply PG.decno_i); (case h => omega)) | ((with_reducible apply PG.ndecy_i); (case h => omega)) | ((with_reducible apply PG.ndecno_i); (case h => omega)))
      (repeat array_get_dec)
      refine wa_eq (integer_is na) ?_
      (repeat array_get_dec)
      cases ha : isI a with
      | false =>
        (repeat array_get_dec)
        rw [step_ab (by simp [ha])]
      | true =>
        (repeat array_get_dec)
        refine wa_eq (integer_is nb) ?_
        (repeat array_get_dec)
        cases hb : isI b with
        | false =>
          (repeat array_get_dec)
          rw [step_ab (by simp [hb])]
        | true =>
          obtain ⟨i, rfl⟩ := isI_int ha
          obtain ⟨j, rfl⟩ := isI_int hb
          (repeat array_get_dec)
          (first | (with_reducible apply PG.dec_i) | (with_reducible apply PG.decn_i) | (with_reducible apply PG.bit_i)) <;> intro h1
          · (repeat array_get_dec)
            rw [show stepS l (.tuple [.int i, .int j]) = none by simp [stepS]; omega]
          · (repeat array_get_dec)
            (first | (with_reducible apply PG.dec_i) | (with_reducible apply PG.decn_i) | (with_reducible apply PG.bit_i)) <;> intro h2
            · (repeat array_get_dec)
              rw [show stepS l (.tuple [.int i, .int j]) = none by simp [stepS]; omega]
            · (repeat array_get_dec)
              (first | (with_reducible apply PG.dec_i) | (with_reducible apply PG.decn_i) | (with_reducible apply PG.bit_i)) <;> intro h3
              · (repeat array_get_dec)
                rw [show stepS l (.tuple [.int i, .int j]) = none by simp [stepS]; omega]
              · (repeat array_get_dec)
                rw [show stepS l (.tuple [.int i, .int j]) = some (j + 2) by simp [stepS]; omega]
                exact ⟨rfl, by rw [show j + 2 - 2 = j by omega]⟩
    · rw [step_len hl]
      (first | ((with_reducible apply PG.decy_i); (case h => omega)) | ((with_reducible apply PG.decno_i); (case h => omega)) | ((with_reducible apply PG.ndecy_i); (case h => omega)) | ((with_reducible apply PG.ndecno_i); (case h => omega)))
      (repeat array_get_dec)
      rfl
  · have hn : ∀ xs, d ≠ .tuple xs := fun xs e => ht ⟨xs, e⟩
    rw [step_no hn]
    (repeat array_get_dec)
    refine wa_eq (isi_no hd hn) ?_
    (repeat array_get_dec)
    rfl
theorem law_is_set_ok (d : PyData) (hd : Nd d) : F_law_is_set [d] = some (.bool (setB d)) := by
  refine of_wa ?_
  unfold F_law_is_set; refine PG.wa_def rfl ?_; simp only [PG.rho0_eq, List.map_cons, List.map_nil, List.replicate_succ, List.replicate_zero, List.cons_append, List.nil_append]; unfold B_law_is_set
  by_cases ht : ∃ xs, d = .tuple xs
  · obtain ⟨xs, rfl⟩ := ht
    (repeat array_get_dec)
    refine ws_forS (fun l ρ => ∃ c2 : Option Cell, ρ = [some (.v (.tuple xs)), some (.v (.int (l - 2))), c2] ∧ PlainC c2) Nd ?_ xs (nd_tup hd) ⟨none, rfl, .inl rfl⟩ ?_ ?_
    · rintro l d ρ h0 hd ⟨c2, rfl, q2⟩
      (repeat array_get_dec)
      obtain ⟨o, ρ2, e, m⟩ := step_law l h0 d (.tuple xs) hd
      refine ⟨o, ρ2, e, ?_⟩
      cases es : stepS l d with
      | none => rw [es] at m; exact m
      | some l' =>
        rw [es] at m
        obtain ⟨rfl, rfl⟩ := m
        exact ⟨rfl, _, rfl, .inr ⟨_, rfl⟩⟩
    · rintro hr ρ1 ⟨l, c2, rfl, _⟩
      (repeat array_get_dec)
      rw [show setB (.tuple xs) = true from hr]
    · intro hr ρ1
      show PyData.bool false = _
      rw [show setB (.tuple xs) = false from hr]
  · have hn : ∀ xs, d ≠ .tuple xs := fun xs e => ht ⟨xs, e⟩
    (repeat array_get_dec)
    refine wa_eq (isi_no hd hn) ?_
    (repeat array_get_dec)
    cases d <;> first | exact absurd rfl (hn _) | rfl
end Pr_B
end
section
set_option linter.all false
set_option maxRecDepth 100000
set_option Elab.async false
namespace Pr_gatewarden_k04_texts_of_sets
open PySem PG Pr_C Pr_D L2
open SX (S S_inj S_len split_S join_S partition_some partition_none num_S int_S S_cat)
theorem ws_forX {ρ : Rho} {g : GF} {b c : SF} {Sx : Out → Rho → Prop} (f : List Nat → Option (Int × Int)) (X : Out) (hX : (∃ d, X = .ret d) ∨ ∃ ds, X = .retL ds) (I : List (Int × Int) → Rho → Prop) (l : List (List Nat))
    (step : ∀ x ∈ l, ∀ bs ρ, bs.length ≤ l.length → I bs ρ → WG g (.str (S x)) ρ fun ρ1 => WS b ρ1 fun o ρ2 => match f x with
      | some v => o = .next ∧ I (bs ++ [v]) ρ2
      | none => o = X)
    (h : I [] ρ) (q1 : ∀ vs, allO f l = some vs → ∀ ρ1, I vs ρ1 → WS c ρ1 Sx) (q2 : allO f l = none → ∀ ρ1, Sx X ρ1) : WS (sSeq (forL g b (l.map fun x => PyData.str (S x))) c) ρ Sx := by
  have key : ∀ (m : List (List Nat)) (bs : List (Int × Int)) (ρ : Rho), (∀ x ∈ m, x ∈ l) → bs.length + m.length ≤ l.length → I bs ρ →
      (∃ vs ρ', allO f m = some vs ∧ forL g b (m.map fun x => PyData.str (S x)) ρ = some (.next, ρ') ∧ I (bs ++ vs) ρ') ∨ (allO f m = none ∧ ∃ ρ', forL g b (m.map fun x => PyData.str (S x)) ρ = some (X, ρ')) := by
    intro m
    induction m with
    | nil => intro bs ρ _ _ h; exact .inl ⟨[], ρ, rfl, rfl, by rw [List.append_nil]; exact h⟩
    | cons x m ih =>
      intro bs ρ hm hl h
      simp only [List.length_cons] at hl
      obtain ⟨r1, e1, o, r2, e2, k⟩ := step x (hm x (by simp)) bs ρ (by omega) h
      cases hf : f x with
      | none =>
        rw [hf] at k
        have k : o = X := k
        subst k
        refine .inr ⟨by unfold allO; rw [hf], r2, ?_⟩
        rcases hX with ⟨d, rfl⟩ | ⟨ds, rfl⟩ <;> simp [forL, e1, e2]
      | some v =>
        rw [hf] at k
        obtain ⟨rfl, hi⟩ := k
        have e4 : forL g b ((x :: m).map fun x => PyData.str (S x)) ρ = forL g b (m.map fun x => PyData.str (S x)) r2 := by simp [forL, e1, e2]
        rcases ih (bs ++ [v]) r2 (fun y hy => hm y (by simp [hy])) (by rw [List.length_append, List.length_singleton]; omega) hi with ⟨vs, ρ', a1, a2, a3⟩ | ⟨a1, ρ', a2⟩
        · refine .inl ⟨v :: vs, ρ', by unfold allO; rw [hf]; simp only; rw [a1]; rfl, by rw [e4]; exact a2, by rw [List.append_assoc] at a3; exact a3⟩
        · exact .inr ⟨by unfold allO; rw [hf]; simp only; rw [a1]; rfl, ρ', by rw [e4]; exact a2⟩
  rcases key l [] ρ (fun x hx => hx) (by simp) h with ⟨vs, ρ', a1, a2, a3⟩ | ⟨a1, ρ', a2⟩
  · rw [List.nil_append] at a3
    obtain ⟨o, r, e2, q⟩ := q1 vs a1 ρ' a3
    exact ⟨o, r, by simp only [sSeq, a2]; exact e2, q⟩
  · refine ⟨X, ρ', ?_, q2 a1 ρ'⟩
    rcases hX with ⟨d, rfl⟩ | ⟨ds, rfl⟩ <;> simp only [sSeq, a2]
theorem val_lt : ∀ (n : Nat) (l : List Nat), l.length = n → digs l = true → val l < 10 ^ n := by
  intro n
  induction n with
  | zero =>
    intro l hl _
    have : l = [] := List.length_eq_zero_iff.mp hl
    subst this
    decide
  | succ n ih =>
    intro l hl hd
    rcases List.eq_nil_or_concat l with rfl | ⟨m, c, rfl⟩
    · cases hl
    · rw [List.concat_eq_append] at *
      rw [digs_snoc, Bool.and_eq_true, Bool.and_eq_true, decide_eq_true_eq, decide_eq_true_eq] at hd
      have := ih m (by simp at hl; omega) hd.1
      rw [val_snoc, Nat.pow_succ]
      omega
theorem val_num {l : List Nat} (h : numB l = true) : val l < 10000000000 := by
  obtain ⟨h1, _, h3⟩ := num_ne h
  exact Nat.lt_of_lt_of_le (val_lt _ l rfl h1) (Nat.le_trans (Nat.pow_le_pow_right (by decide) h3) (by decide))
theorem small_prog {p : List Nat} {v : Int × Int} (h : prog1 p = some v) : small v := by
  unfold prog1 at h
  split at h
  · split at h
    · rename_i hn
      cases h
      have := val_num hn
      exact ⟨by simp, by simp only; omega, by simp, by simp only; omega⟩
    · cases h
  · split at h
    · rename_i hn
      rw [Bool.and_eq_true] at hn
      cases h
      have a := val_num hn.1
      have b := val_num hn.2
      exact ⟨by simp, by simp only; omega, by simp, by simp only; omega⟩
    · cases h
theorem allO_mem {f : List Nat → Option (Int × Int)} : ∀ {l : List (List Nat)} {vs : List (Int × Int)}, allO f l = some vs → vs.length = l.length ∧ ∀ v ∈ vs, ∃ p ∈ l, f p = some v
  | [], vs, h => by cases h; exact ⟨rfl, fun v hv => nomatch hv⟩
  | p :: r, vs, h => by
    unfold allO at h
    cases hf : f p with
    | none => rw [hf] at h; cases h
    | some v =>
      rw [hf] at h
      cases hr : allO f r with
      | none => rw [hr] at h; cases h
      | some ws =>
        rw [hr] at h
        cases h
        obtain ⟨a, b⟩ := allO_mem hr
        refine ⟨by simp [a], fun w hw => ?_⟩
        rcases List.mem_cons.mp hw with rfl | hw
        · exact ⟨p, by simp, hf⟩
        · obtain ⟨q, hq, e⟩ := b w hw
          exact ⟨q, by simp [hq], e⟩
end Pr_gatewarden_k04_texts_of_sets
end
section
set_option linter.all false
set_option maxRecDepth 100000
set_option Elab.async false
namespace Pr_gatewarden_k04_texts_of_sets
open PySem PG Pr_C Pr_D L2
open SX (S S_inj S_len split_S join_S partition_some partition_none num_S int_S S_cat)
/-! ### any text, read both ways -/
theorem nd_prs {vs : List (Int × Int)} (h : ∀ x ∈ vs, small x) : Pr_N.Nd (.tuple (prs vs)) := by
  refine ⟨10000000000, ?_⟩
  show okA 10000000000 (prs vs) = true
  refine okA_mem.mpr fun x hx => ?_
  obtain ⟨y, hy, rfl⟩ := List.mem_map.mp hx
  obtain ⟨a, b, c, d⟩ := h y hy
  show okA _ [.int y.1, .int y.2] = true
  simp only [okA, okd, Bool.and_eq_true, decide_eq_true_eq]
  exact ⟨⟨by omega, by omega⟩, ⟨by omega, by omega⟩, trivial⟩
def NONE : List Nat := [110, 111, 110, 101]
theorem eqN (l : List Nat) : dEqS (.str (S l)) (.str (Str.ofString "none")) = some (.bool (decide (l = NONE))) := by
  show some (PyData.bool (decide ((S l) = Str.ofString "none"))) = _
  rw [oN, S_eq]
  rfl
theorem neS (a b : List Nat) : dNeS (.str (S a)) (.str (S b)) = some (.bool (!decide (a = b))) := by
  show some (PyData.bool (!decide ((S a) = S b))) = _
  rw [S_eq]
def setV' (vs : List (Int × Int)) : Bool := Pr_B.setB (.tuple (prs vs))
def readF (l : List Nat) : SumE := if l = NONE then .inl (.tuple []) else match allO prog1 (cut 44 l) with
  | none => .inr 0
  | some vs => if setV' vs = true ∧ textOf vs = l then .inl (.tuple (prs vs)) else .inr 0
def lawF (l : List Nat) : PyData := if l = NONE then .tuple [] else match allO law1 (cut 44 l) with
  | none => .none
  | some vs => if setV' vs = true then .tuple (prs vs) else .none
local macro_rules | `(tactic| fail "6000") => `(tactic| repeat' (first | apply PG.SetR.s | exact PG.SetR.h0 | exact PG.SetR.h1 | exact PG.SetR.hl | exact PG.SetR.hc (by assumption)))
local macro_rules | `(tactic| fail "6001") => `(tactic| repeat' (first | apply PG.SetLR.s | exact PG.SetLR.h0 | exact PG.SetLR.h1 | exact PG.SetLR.hl))
local macro_rules | `(tactic| fail "6002") => `(tactic| repeat' (first | apply PG.PutR.s | exact PG.PutR.h))
local macro_rules | `(tactic| fail "7001") => `(tactic| first | ((with_reducible apply PG.ws_set)) | ((with_reducible apply PG.ws_if)) | ((with_reducible apply PG.ws_ret)) | ((with_reducible apply PG.ws_setL)) | ((with_reducible apply PG.ws_expr)) | ((with_reducible apply PG.ws_nilc)) | ((with_reducible apply PG.ws_asc)) | ((with_reducible apply PG.ws_nil)) | ((with_reducible apply PG.ws_for)) | ((with_reducible apply PG.ws_asg)) | ((with_reducible apply PG.ws_par)) | ((with_reducible apply PG.ws_retL)) | ((with_reducible apply PG.ws_brk)) | ((with_reducible apply PG.ws_cont)) | ((with_reducible apply PG.ws_forn)) | ((with_reducible apply PG.ws_sto)) | ((with_reducible apply PG.ws_aug); (case hget => rfl)) | ((with_reducible apply PG.ws_app); (case hget => rfl)) | ((with_reducible apply PG.ws_retO); (case hget => rfl)))
local macro_rules | `(tactic| fail "7002") => `(tactic| first | ((with_reducible apply PG.we_name); (case hget => rfl)) | ((with_reducible apply PG.we_c)) | ((with_reducible apply PG.we_bin)) | ((with_reducible apply PG.we_un)) | ((with_reducible apply PG.we_call)) | ((with_reducible apply PG.we_callL); (case hget => rfl)) | ((with_reducible apply PG.we_tup)) | ((with_reducible apply PG.we_lst)) | ((with_reducible apply PG.we_if)) | ((with_reducible apply PG.we_ixL); (case hget => rfl)) | ((with_reducible apply PG.we_unL); (case hget => rfl)) | ((with_reducible apply PG.we_and)) | ((with_reducible apply PG.we_or)) | ((with_reducible apply PG.we_not)) | ((with_reducible apply PG.we_chain)) | ((with_reducible apply PG.we_slT)) | ((with_reducible apply PG.we_frz); (case hget => rfl); (case hset => fail "6000")) | ((with_reducible apply PG.wa_binO)))
local macro_rules | `(tactic| fail "7003") => `(tactic| first | ((with_reducible apply PG.wn_cons)) | ((with_reducible apply PG.wn_nil)) | ((with_reducible apply PG.wn_star)) | ((with_reducible apply PG.wn_disp)) | ((with_reducible apply PG.wn_call)) | ((with_reducible apply PG.wn_sl)) | ((with_reducible apply PG.wn_its)) | ((with_reducible apply PG.wn_r1)) | ((with_reducible apply PG.wn_r2)) | ((with_reducible apply PG.wn_r3)))
local macro_rules | `(tactic| fail "7004") => `(tactic| first | ((with_reducible apply PG.wt_tru)) | ((with_reducible apply PG.wt_bl)) | ((with_reducible apply PG.wt_and)) | ((with_reducible apply PG.wt_or)) | ((with_reducible apply PG.wt_not)) | ((with_reducible apply PG.wt_yes)) | ((with_reducible apply PG.wt_truL); (case hget => rfl)))
local macro_rules | `(tactic| fail "7005") => `(tactic| first | ((with_reducible apply PG.wo_none)) | ((with_reducible apply PG.wo_some)))
local macro_rules | `(tactic| fail "7006") => `(tactic| first | ((with_reducible apply PG.wg_p0)) | ((with_reducible apply PG.wg_tup)) | ((with_reducible apply PG.wg_ps); (case hset => fail "6000")) | ((with_reducible apply PG.wg_set); (case hset => fail "6000")))
local macro_rules | `(tactic| fail "7007") => `(tactic| first | ((with_reducible apply PG.setr_i); (case hset => fail "6000")) | ((with_reducible apply PG.setl_i); (case hset => fail "6001")) | ((with_reducible apply PG.put_i); (case hset => fail "6002")) | ((with_reducible apply PG.pool_i); (case hget => rfl)) | ((with_reducible apply PG.bool_i)) | ((with_reducible apply PG.int_i)) | ((with_reducible apply PG.seqL_i)) | ((with_reducible apply PG.seqT_i)) | ((with_reducible apply PG.seqR_i)) | ((with_reducible apply PG.starT_i)) | ((with_reducible apply PG.starL_i)) | ((with_reducible apply PG.tup_i)) | ((with_reducible apply PG.ch_le)) | ((with_reducible apply PG.ch_lt)) | ((with_reducible apply PG.ch_eq)))
local macro_rules | `(tactic| fail "7008") => `(tactic| first | ((with_reducible apply PG.len_i); (case h => rfl)) | ((with_reducible apply PG.yes_i)) | ((with_reducible apply PG.no_i)) | ((with_reducible apply PG.nyes_i)) | ((with_reducible apply PG.nno_i)))
local macro_rules | `(tactic| fail "7009") => `(tactic| first | ((with_reducible apply PG.wa_add)) | ((with_reducible apply PG.wa_sub)) | ((with_reducible apply PG.wa_lt)) | ((with_reducible apply PG.wa_le)) | ((with_reducible apply PG.wa_gt)) | ((with_reducible apply PG.wa_ge)) | ((with_reducible apply PG.wa_eqI)) | ((with_reducible apply PG.wa_neI)) | ((with_reducible apply PG.wa_neg)) | ((with_reducible apply PG.wa_lenL)) | ((with_reducible apply PG.wa_lenT)) | ((with_reducible apply PG.wa_int)) | ((with_reducible apply PG.wa_max)) | ((with_reducible apply PG.wa_min)) | ((with_reducible apply PG.wa_ev1)) | ((with_reducible apply PG.wa_ev)) | ((with_reducible apply PG.wa_mod); (case h1 => omega)) | ((with_reducible apply PG.wa_div); (case h1 => omega); (case h2 => omega)) | ((with_reducible apply PG.wa_mulR); (case h1 => omega); (case h2 => omega)) | ((with_reducible apply PG.wa_mulL); (case h1 => omega); (case h2 => omega)) | ((with_reducible apply PG.wa_shr); (case h1 => omega)))
local macro_rules | `(tactic| fail "7010") => `(tactic| first | ((with_reducible apply PG.wb_bool)) | ((with_reducible apply PG.wb_int)) | ((with_reducible apply PG.wb_ev)))
local macro_rules | `(tactic| fail "7011") => `(tactic| first | ((with_reducible apply PG.wa_ix0); (case hget => rfl)) | ((with_reducible apply PG.wa_ix1); (case hget => rfl)) | ((with_reducible apply PG.wa_ix2); (case hget => rfl)) | ((with_reducible apply PG.wa_ix3); (case hget => rfl)) | ((with_reducible apply PG.wa_ix4); (case hget => rfl)) | ((with_reducible apply PG.wa_ix5); (case hget => rfl)) | ((with_reducible apply PG.wa_ix6); (case hget => rfl)) | ((with_reducible apply PG.wa_ix7); (case hget => rfl)) | ((with_reducible apply PG.wa_ix8); (case hget => rfl)) | ((with_reducible apply PG.wa_il0); (case hget => rfl)) | ((with_reducible apply PG.wa_il1); (case hget => rfl)) | ((with_reducible apply PG.wa_il2); (case hget => rfl)))
local macro_rules | `(tactic| array_get_dec) => `(tactic| first | ((with_reducible apply PG.gS); fail "7001") | ((with_reducible apply PG.gE); fail "7002") | ((with_reducible apply PG.gN); fail "7003") | ((with_reducible apply PG.gT); fail "7004") | ((with_reducible apply PG.gO); fail "7005") | ((with_reducible apply PG.gG); fail "7006") | ((with_reducible apply PG.gX); fail "7007") | ((with_reducible apply PG.gC); fail "7008") | ((with_reducible apply PG.gA); fail "7009") | ((with_reducible apply PG.gB); fail "7010") | ((with_reducible apply PG.endP_ret)) | ((with_reducible apply PG.endP_retL)) | ((with_reducible apply PG.endN_ret)) | ((with_reducible apply PG.endL_ret)) | ((with_reducible apply PG.endL_retL)) | ((with_reducible apply PG.gI); fail "7011") | ((with_reducible apply PG.wl_ev)))
local macro_rules | `(tactic| array_get_dec) => `(tactic| first | ((with_reducible apply Pr_C.wp_draw); (case hp => assumption); (case h0 => omega); (case h1 => omega)) | ((with_reducible apply Pr_C.ls_i); (case hp => assumption)))

local macro_rules | `(tactic| fail "7012") => `(tactic| first | ((with_reducible apply PG.str_i)) | ((with_reducible apply PG.ch_leS)) | ((with_reducible apply PG.slL_i)))
local macro_rules | `(tactic| array_get_dec) => `(tactic| first | ((with_reducible apply PG.wn_ity)) | ((with_reducible apply PG.gX); fail "7012"))

theorem law_text_ok (l : List Nat) (hl : l.length ≤ 50000) : F_law_set_of_text [.str (S l)] = some (lawF l) := by
  refine of_wa ?_
  unfold F_law_set_of_text; refine PG.wa_def rfl ?_; simp only [PG.rho0_eq, List.map_cons, List.map_nil, List.replicate_succ, List.replicate_zero, List.cons_append, List.nil_append]; unfold B_law_set_of_text
  (repeat array_get_dec)
  refine wa_eq (eqN l) ?_
  unfold lawF
  cases e1 : decide (l = NONE) with
  | true =>
    (repeat array_get_dec)
    rw [if_pos (of_decide_eq_true e1)]
  | false =>
    rw [if_neg (of_decide_eq_false e1)]
    (repeat array_get_dec)
    refine wa_eq (splitD 44 _ o44 (by decide) (by omega)) ?_
    (repeat array_get_dec)
    have hcl := cut_len (c := 44) (l := l)
    refine ws_forX law1 (.ret .none) (.inl ⟨_, rfl⟩) (fun bs ρ => ∃ c2 c3, PlainC c2 ∧ PlainC c3 ∧ ρ = [some (.v (.str (S l))), some (.l false (prs bs)), c2, c3, none]) (cut 44 l) ?_ ⟨none, none, .inl rfl, .inl rfl, rfl⟩ ?_ ?_
    · rintro x hx bs ρ hb ⟨c2, c3, q2, q3, rfl⟩
      (repeat array_get_dec)
      have := (cut_free hx).2
      refine (turn_law _ bs x (by omega) (by omega) c3 q3).mono fun o ρ2 h => ?_
      cases hf : law1 x with
      | none => rw [hf] at h; exact h
      | some v =>
        rw [hf] at h
        obtain ⟨h1, c3', q3', h2⟩ := h
        exact ⟨h1, _, c3', .inr ⟨_, rfl⟩, q3', h2⟩
    · rintro vs hvs ρ ⟨c2, c3, q2, q3, rfl⟩
      have hsm : ∀ x ∈ vs, small x := fun x hx => by
        obtain ⟨p, hp, e⟩ := (allO_mem hvs).2 x hx
        exact small_prog (((part_one p).1 x e).1)
      rw [hvs]
      simp only
      (repeat array_get_dec)
      refine wa_eq (Pr_B.law_is_set_ok _ (nd_prs hsm)) ?_
      (repeat array_get_dec)
      show (setV' vs = true → _) ∧ (setV' vs = false → _)
      cases hs : setV' vs with
      | true =>
        refine ⟨fun _ => ?_, fun z => (nomatch z)⟩
        (repeat array_get_dec)
        rfl
      | false =>
        refine ⟨fun z => (nomatch z), fun _ => ?_⟩
        (repeat array_get_dec)
        rfl
    · intro hno ρ
      rw [hno]
      (repeat array_get_dec)
      rfl
theorem read_ok (l : List Nat) (hl : l.length ≤ 50000) : F_read_set [.str (S l)] = some (readF l) := by
  have key : WS B_read_set [some (.v (.str (S l))), none, none, none, none, none, none] fun o ρ => endE (some (o, ρ)) = some (readF l) := by
    unfold B_read_set
    (repeat array_get_dec)
    refine wa_eq (eqN l) ?_
    unfold readF
    cases e1 : decide (l = NONE) with
    | true =>
      (repeat array_get_dec)
      rw [if_pos (of_decide_eq_true e1)]
      rfl
    | false =>
      rw [if_neg (of_decide_eq_false e1)]
      (repeat array_get_dec)
      refine wa_eq (splitD 44 _ o44 (by decide) (by omega)) ?_
      (repeat array_get_dec)
      have hcl := cut_len (c := 44) (l := l)
      refine ws_forX prog1 (.retL [.int 0]) (.inr ⟨_, rfl⟩) (fun bs ρ => ∃ c2 c4 c5 c6, PlainC c2 ∧ PlainC c4 ∧ PlainC c5 ∧ PlainC c6 ∧ ρ = [some (.v (.str (S l))), some (.l false (prs bs)), c2, none, c4, c5, c6]) (cut 44 l) ?_ ⟨none, none, none, none, .inl rfl, .inl rfl, .inl rfl, .inl rfl, rfl⟩ ?_ ?_
      · rintro x hx bs ρ hb ⟨c2, c4, c5, c6, q2, q4, q5, q6, rfl⟩
        (repeat array_get_dec)
        have := (cut_free hx).2
        refine (turn_read _ bs x (by omega) (by omega) none c4 c5 c6 q4 q5 q6).mono fun o ρ2 h => ?_
        cases hf : prog1 x with
        | none => rw [hf] at h; exact h
        | some v =>
          rw [hf] at h
          obtain ⟨h1, c4', c5', c6', q4', q5', q6', h2⟩ := h
          exact ⟨h1, _, c4', c5', c6', .inr ⟨_, rfl⟩, q4', q5', q6', h2⟩
      · rintro vs hvs ρ ⟨c2, c4, c5, c6, q2, q4, q5, q6, rfl⟩
        have hlen := (allO_mem hvs).1
        have hsm : ∀ x ∈ vs, small x := fun x hx => by
          obtain ⟨p, hp, e⟩ := (allO_mem hvs).2 x hx
          exact small_prog e
        rw [hvs]
        simp only
        (repeat array_get_dec)
        refine wa_eq (Pr_B.is_set_ok _ (nd_prs hsm)) ?_
        rw [show Pr_B.setB (.tuple (prs vs)) = setV' vs from rfl]
        cases hs : setV' vs with
        | false =>
          (repeat array_get_dec)
          exact ⟨_, _, rfl, rfl⟩
        | true =>
          (repeat array_get_dec)
          refine wa_eq (write_ok vs hsm (by omega)) ?_
          (repeat array_get_dec)
          refine wa_eq (neS _ _) ?_
          cases ht : decide (textOf vs = l) with
          | false =>
            (repeat array_get_dec)
            rw [if_neg fun z => (of_decide_eq_false ht) z.2]
            exact ⟨_, _, rfl, rfl⟩
          | true =>
            (repeat array_get_dec)
            rw [if_pos ⟨rfl, of_decide_eq_true ht⟩]
            rfl
      · intro hno ρ
        rw [hno]
        rfl
  obtain ⟨o, ρ, e, q⟩ := key
  show (if [PyData.str (S l)].length = 1 then endE (B_read_set [some (.v (.str (S l))), none, none, none, none, none, none]) else none) = _
  rw [if_pos (by rfl : [PyData.str (S l)].length = 1), e]
  exact q
/-- the two agree -/
theorem agree (l : List Nat) : (∃ d, readF l = .inl d ∧ lawF l = d ∧ d ≠ .none ∧ ∃ xs, d = .tuple (prs xs) ∧ xs.length ≤ l.length + 1) ∨ (readF l = .inr 0 ∧ lawF l = .none) := by
  unfold readF lawF
  by_cases h : l = NONE
  · rw [if_pos h, if_pos h]
    exact .inl ⟨_, rfl, rfl, (fun z => by cases z), [], rfl, by simp⟩
  · rw [if_neg h, if_neg h]
    obtain ⟨w1, w2⟩ := whole l
    cases hl : allO law1 (cut 44 l) with
    | some vs =>
      obtain ⟨a, b⟩ := w1 vs hl
      rw [a]
      simp only
      have ht : textOf vs = l := by
        have hne : vs ≠ [] := fun z => by
          have := (allO_mem a).1
          rw [z] at this
          exact cut_ne (List.length_eq_zero_iff.mp this.symm)
        cases vs with
        | nil => exact absurd rfl hne
        | cons x r => exact b
      by_cases hs : setV' vs = true
      · rw [if_pos ⟨hs, ht⟩, if_pos hs]
        exact .inl ⟨_, rfl, rfl, (fun z => by cases z), vs, rfl, by have := (allO_mem a).1; have := cut_len (c := 44) (l := l); omega⟩
      · rw [if_neg fun z => hs z.1, if_neg hs]
        exact .inr ⟨rfl, by trivial⟩
    | none =>
      simp only
      cases hp : allO prog1 (cut 44 l) with
      | none => exact .inr ⟨rfl, by trivial⟩
      | some vs =>
        simp only
        have hne : vs ≠ [] := fun z => by
          have := (allO_mem hp).1
          rw [z] at this
          exact cut_ne (List.length_eq_zero_iff.mp this.symm)
        have ht : textOf vs ≠ l := by
          cases vs with
          | nil => exact absurd rfl hne
          | cons x r => exact w2 hl _ hp
        rw [if_neg fun z => ht z.2]
        exact .inr ⟨rfl, by trivial⟩
end Pr_gatewarden_k04_texts_of_sets
end
section
set_option linter.all false
set_option maxRecDepth 100000
set_option Elab.async false
namespace Pr_gatewarden_k04_texts_of_sets
open PySem PG Pr_C Pr_D L2
open SX (S S_inj S_len split_S join_S partition_some partition_none num_S int_S S_cat)
theorem set_read_in {l : List Nat} {d : PyData} (h : F_read_set [.str (S l)] = some (.inl d)) : F_law_set_read [.str (S l)] = some (.tuple [.str (Str.ofString "told"), d]) := by
  unfold F_law_set_read B_law_set_read defP rho0
  simp [sSeq, sTryE2, sRetTag, xCall, nCons, nNil, eName, h, endP]
theorem set_read_no {l : List Nat} (h : F_read_set [.str (S l)] = some (.inr 0)) : F_law_set_read [.str (S l)] = some (.str (Str.ofString "refused")) := by
  unfold F_law_set_read B_law_set_read defP rho0
  simp [sSeq, sTryE2, sRetTag, xCall, nCons, nNil, eName, h, endP]
theorem same_word (x : Str) (h1 : SeqAt.shaped (.str x) = true) (n : Nat) : F_law_same (n + 1) [.str x, .str x] = some (.bool true) := by
  have e : dEq (.str x) (.str x) = some (.bool true) := dEq_self h1 (by simp [PyData.eqv])
  simp [F_law_same, defP, B_law_same, e, rho0]
end Pr_gatewarden_k04_texts_of_sets
end
section
set_option linter.all false
set_option maxRecDepth 100000
set_option Elab.async false
namespace Pr_gatewarden_k04_texts_of_sets
open PySem PG Pr_C Pr_D L2
open SX (S S_inj S_len split_S join_S partition_some partition_none num_S int_S S_cat)
theorem join_mem {c : Nat} : ∀ {ts : List (List Nat)}, c ∈ TL.joinL [44] ts → c = 44 ∨ ∃ t ∈ ts, c ∈ t
  | [], h => by cases h
  | [p], h => .inr ⟨p, by simp, h⟩
  | p :: q :: r, h => by
    have h : c ∈ p ++ ([44] ++ TL.joinL [44] (q :: r)) := h
    rcases List.mem_append.mp h with h | h
    · exact .inr ⟨p, by simp, h⟩
    · rcases List.mem_append.mp h with h | h
      · exact .inl (List.mem_singleton.mp h)
      · rcases join_mem h with h | ⟨t, ht, h⟩
        · exact .inl h
        · exact .inr ⟨t, by simp [ht], h⟩
theorem pairT_sm {x : Int × Int} {c : Nat} (h : c ∈ pairT x) : c < 256 := by
  unfold pairT at h
  split at h
  · have := TL.numL_digits _ c h; omega
  · rcases List.mem_append.mp h with h | h
    · have := TL.numL_digits _ c h; omega
    · rcases List.mem_cons.mp h with rfl | h
      · decide
      · have := TL.numL_digits _ c h; omega
theorem textOf_sm (vs : List (Int × Int)) : ∀ c ∈ textOf vs, c < 256 := fun c h => by
  cases vs with
  | nil =>
    simp only [textOf, List.mem_cons, List.not_mem_nil, or_false] at h
    omega
  | cons x r =>
    rcases join_mem (show c ∈ TL.joinL [44] ((x :: r).map pairT) from h) with rfl | ⟨t, ht, h⟩
    · decide
    · obtain ⟨y, _, rfl⟩ := List.mem_map.mp ht
      exact pairT_sm h
theorem shp_S {l : List Nat} (h : ∀ c ∈ l, c < 256) : SeqAt.shaped (.str (S l)) = true := by
  unfold SeqAt.shaped
  rw [Bool.and_eq_true, decide_eq_true_eq]
  refine ⟨?_, by simp [PyData.depth]⟩
  show (S l).cps.all (· < 0x110000) = true
  rw [← Array.all_toList, List.all_eq_true]
  intro c hc
  have := h c (by simpa [S] using hc)
  exact decide_eq_true (by omega)
theorem join_len {ts : List (List Nat)} (h : ∀ t ∈ ts, t.length ≤ 21) : (TL.joinL [44] ts).length ≤ 22 * ts.length := by
  induction ts with
  | nil => exact Nat.le_refl _
  | cons p r ih =>
    have h1 := h p (by simp)
    have h2 := ih fun t ht => h t (by simp [ht])
    cases r with
    | nil => show p.length ≤ _; simp only [List.length_cons, List.length_nil]; omega
    | cons q r =>
      show (p ++ ([44] ++ TL.joinL [44] (q :: r))).length ≤ _
      simp only [List.length_append, List.length_cons, List.length_nil] at *
      omega
theorem textOf_len {vs : List (Int × Int)} (h : ∀ x ∈ vs, small x) : (textOf vs).length ≤ 22 * vs.length + 4 := by
  cases vs with
  | nil => decide
  | cons x r =>
    have := join_len (ts := (x :: r).map pairT) fun t ht => by obtain ⟨y, hy, rfl⟩ := List.mem_map.mp ht; exact pairT_len (h y hy)
    rw [List.length_map] at this
    show (TL.joinL [44] ((x :: r).map pairT)).length ≤ _
    omega
theorem wpl (a0 : Option Cell) : wipeR [a0, none, none] [2] = [a0, none, none] := rfl
theorem addS {a b : List Nat} (h : a.length + b.length ≤ 100000) : dAdd (.str (S a)) (.str (S b)) = some (.str (S (a ++ b))) := by
  show (if (S a).length + (S b).length ≤ 16777216 then some (PyData.str (S a ++ S b)) else none) = _
  have h1 := S_len a
  have h2 := S_len b
  rw [if_pos (by omega), S_cat]
local macro_rules | `(tactic| fail "6000") => `(tactic| repeat' (first | apply PG.SetR.s | exact PG.SetR.h0 | exact PG.SetR.h1 | exact PG.SetR.hl | exact PG.SetR.hc (by assumption)))
local macro_rules | `(tactic| fail "6001") => `(tactic| repeat' (first | apply PG.SetLR.s | exact PG.SetLR.h0 | exact PG.SetLR.h1 | exact PG.SetLR.hl))
local macro_rules | `(tactic| fail "6002") => `(tactic| repeat' (first | apply PG.PutR.s | exact PG.PutR.h))
local macro_rules | `(tactic| fail "7001") => `(tactic| first | ((with_reducible apply PG.ws_set)) | ((with_reducible apply PG.ws_if)) | ((with_reducible apply PG.ws_ret)) | ((with_reducible apply PG.ws_setL)) | ((with_reducible apply PG.ws_expr)) | ((with_reducible apply PG.ws_nilc)) | ((with_reducible apply PG.ws_asc)) | ((with_reducible apply PG.ws_nil)) | ((with_reducible apply PG.ws_for)) | ((with_reducible apply PG.ws_asg)) | ((with_reducible apply PG.ws_par)) | ((with_reducible apply PG.ws_retL)) | ((with_reducible apply PG.ws_brk)) | ((with_reducible apply PG.ws_cont)) | ((with_reducible apply PG.ws_forn)) | ((with_reducible apply PG.ws_sto)) | ((with_reducible apply PG.ws_aug); (case hget => rfl)) | ((with_reducible apply PG.ws_app); (case hget => rfl)) | ((with_reducible apply PG.ws_retO); (case hget => rfl)))
local macro_rules | `(tactic| fail "7002") => `(tactic| first | ((with_reducible apply PG.we_name); (case hget => rfl)) | ((with_reducible apply PG.we_c)) | ((with_reducible apply PG.we_bin)) | ((with_reducible apply PG.we_un)) | ((with_reducible apply PG.we_call)) | ((with_reducible apply PG.we_callL); (case hget => rfl)) | ((with_reducible apply PG.we_tup)) | ((with_reducible apply PG.we_lst)) | ((with_reducible apply PG.we_if)) | ((with_reducible apply PG.we_ixL); (case hget => rfl)) | ((with_reducible apply PG.we_unL); (case hget => rfl)) | ((with_reducible apply PG.we_and)) | ((with_reducible apply PG.we_or)) | ((with_reducible apply PG.we_not)) | ((with_reducible apply PG.we_chain)) | ((with_reducible apply PG.we_slT)) | ((with_reducible apply PG.we_frz); (case hget => rfl); (case hset => fail "6000")) | ((with_reducible apply PG.wa_binO)))
local macro_rules | `(tactic| fail "7003") => `(tactic| first | ((with_reducible apply PG.wn_cons)) | ((with_reducible apply PG.wn_nil)) | ((with_reducible apply PG.wn_star)) | ((with_reducible apply PG.wn_disp)) | ((with_reducible apply PG.wn_call)) | ((with_reducible apply PG.wn_sl)) | ((with_reducible apply PG.wn_its)) | ((with_reducible apply PG.wn_r1)) | ((with_reducible apply PG.wn_r2)) | ((with_reducible apply PG.wn_r3)))
local macro_rules | `(tactic| fail "7004") => `(tactic| first | ((with_reducible apply PG.wt_tru)) | ((with_reducible apply PG.wt_bl)) | ((with_reducible apply PG.wt_and)) | ((with_reducible apply PG.wt_or)) | ((with_reducible apply PG.wt_not)) | ((with_reducible apply PG.wt_yes)) | ((with_reducible apply PG.wt_truL); (case hget => rfl)))
local macro_rules | `(tactic| fail "7005") => `(tactic| first | ((with_reducible apply PG.wo_none)) | ((with_reducible apply PG.wo_some)))
local macro_rules | `(tactic| fail "7006") => `(tactic| first | ((with_reducible apply PG.wg_p0)) | ((with_reducible apply PG.wg_tup)) | ((with_reducible apply PG.wg_ps); (case hset => fail "6000")) | ((with_reducible apply PG.wg_set); (case hset => fail "6000")))
local macro_rules | `(tactic| fail "7007") => `(tactic| first | ((with_reducible apply PG.setr_i); (case hset => fail "6000")) | ((with_reducible apply PG.setl_i); (case hset => fail "6001")) | ((with_reducible apply PG.put_i); (case hset => fail "6002")) | ((with_reducible apply PG.pool_i); (case hget => rfl)) | ((with_reducible apply PG.bool_i)) | ((with_reducible apply PG.int_i)) | ((with_reducible apply PG.seqL_i)) | ((with_reducible apply PG.seqT_i)) | ((with_reducible apply PG.seqR_i)) | ((with_reducible apply PG.starT_i)) | ((with_reducible apply PG.starL_i)) | ((with_reducible apply PG.tup_i)) | ((with_reducible apply PG.ch_le)) | ((with_reducible apply PG.ch_lt)) | ((with_reducible apply PG.ch_eq)))
local macro_rules | `(tactic| fail "7008") => `(tactic| first | ((with_reducible apply PG.len_i); (case h => rfl)) | ((with_reducible apply PG.yes_i)) | ((with_reducible apply PG.no_i)) | ((with_reducible apply PG.nyes_i)) | ((with_reducible apply PG.nno_i)))
local macro_rules | `(tactic| fail "7009") => `(tactic| first | ((with_reducible apply PG.wa_add)) | ((with_reducible apply PG.wa_sub)) | ((with_reducible apply PG.wa_lt)) | ((with_reducible apply PG.wa_le)) | ((with_reducible apply PG.wa_gt)) | ((with_reducible apply PG.wa_ge)) | ((with_reducible apply PG.wa_eqI)) | ((with_reducible apply PG.wa_neI)) | ((with_reducible apply PG.wa_neg)) | ((with_reducible apply PG.wa_lenL)) | ((with_reducible apply PG.wa_lenT)) | ((with_reducible apply PG.wa_int)) | ((with_reducible apply PG.wa_max)) | ((with_reducible apply PG.wa_min)) | ((with_reducible apply PG.wa_ev1)) | ((with_reducible apply PG.wa_ev)) | ((with_reducible apply PG.wa_mod); (case h1 => omega)) | ((with_reducible apply PG.wa_div); (case h1 => omega); (case h2 => omega)) | ((with_reducible apply PG.wa_mulR); (case h1 => omega); (case h2 => omega)) | ((with_reducible apply PG.wa_mulL); (case h1 => omega); (case h2 => omega)) | ((with_reducible apply PG.wa_shr); (case h1 => omega)))
local macro_rules | `(tactic| fail "7010") => `(tactic| first | ((with_reducible apply PG.wb_bool)) | ((with_reducible apply PG.wb_int)) | ((with_reducible apply PG.wb_ev)))
local macro_rules | `(tactic| fail "7011") => `(tactic| first | ((with_reducible apply PG.wa_ix0); (case hget => rfl)) | ((with_reducible apply PG.wa_ix1); (case hget => rfl)) | ((with_reducible apply PG.wa_ix2); (case hget => rfl)) | ((with_reducible apply PG.wa_ix3); (case hget => rfl)) | ((with_reducible apply PG.wa_ix4); (case hget => rfl)) | ((with_reducible apply PG.wa_ix5); (case hget => rfl)) | ((with_reducible apply PG.wa_ix6); (case hget => rfl)) | ((with_reducible apply PG.wa_ix7); (case hget => rfl)) | ((with_reducible apply PG.wa_ix8); (case hget => rfl)) | ((with_reducible apply PG.wa_il0); (case hget => rfl)) | ((with_reducible apply PG.wa_il1); (case hget => rfl)) | ((with_reducible apply PG.wa_il2); (case hget => rfl)))
local macro_rules | `(tactic| array_get_dec) => `(tactic| first | ((with_reducible apply PG.gS); fail "7001") | ((with_reducible apply PG.gE); fail "7002") | ((with_reducible apply PG.gN); fail "7003") | ((with_reducible apply PG.gT); fail "7004") | ((with_reducible apply PG.gO); fail "7005") | ((with_reducible apply PG.gG); fail "7006") | ((with_reducible apply PG.gX); fail "7007") | ((with_reducible apply PG.gC); fail "7008") | ((with_reducible apply PG.gA); fail "7009") | ((with_reducible apply PG.gB); fail "7010") | ((with_reducible apply PG.endP_ret)) | ((with_reducible apply PG.endP_retL)) | ((with_reducible apply PG.endN_ret)) | ((with_reducible apply PG.endL_ret)) | ((with_reducible apply PG.endL_retL)) | ((with_reducible apply PG.gI); fail "7011") | ((with_reducible apply PG.wl_ev)))
local macro_rules | `(tactic| array_get_dec) => `(tactic| first | ((with_reducible apply Pr_C.wp_draw); (case hp => assumption); (case h0 => omega); (case h1 => omega)) | ((with_reducible apply Pr_C.ls_i); (case hp => assumption)))

local macro_rules | `(tactic| fail "7012") => `(tactic| first | ((with_reducible apply PG.str_i)) | ((with_reducible apply PG.ch_leS)) | ((with_reducible apply PG.slL_i)))
local macro_rules | `(tactic| array_get_dec) => `(tactic| first | ((with_reducible apply PG.wn_ity)) | ((with_reducible apply PG.gX); fail "7012"))

theorem law_text_of (vs : List (Int × Int)) (h : ∀ x ∈ vs, small x) (hl : vs.length ≤ 1000) : F_law_set_text [.tuple (prs vs)] = some (.str (S (textOf vs))) := by
  refine of_wa ?_
  unfold F_law_set_text; refine PG.wa_def rfl ?_; simp only [PG.rho0_eq, List.map_cons, List.map_nil, List.replicate_succ, List.replicate_zero, List.cons_append, List.nil_append]; unfold B_law_set_text
  (repeat array_get_dec)
  refine wn_map pr (fun _ => true) (fun y => .str (S (pairT y))) vs ?_
  (repeat array_get_dec)
  refine ⟨rfl, by omega, rfl, fun y hy => ?_, ?_⟩
  · simp only [wpl]
    unfold pr
    (repeat array_get_dec)
    refine ⟨rfl, fun _ => ?_, fun z => (nomatch z)⟩
    unfold X_law_set_text_1
    have hs := h y hy
    have a := num_len hs.1 hs.2.1
    have b := num_len hs.2.2.1 hs.2.2.2
    (repeat array_get_dec)
    by_cases hne : y.1 = y.2
    · (first | ((with_reducible apply PG.decy_i); (case h => omega)) | ((with_reducible apply PG.decno_i); (case h => omega)) | ((with_reducible apply PG.ndecy_i); (case h => omega)) | ((with_reducible apply PG.ndecno_i); (case h => omega))); (repeat array_get_dec)
      refine wa_eq (strI hs.1 hs.2.1) ?_
      (repeat array_get_dec)
      exact ⟨by unfold pairT; rw [if_pos hne], rfl, rfl⟩
    · (first | ((with_reducible apply PG.decy_i); (case h => omega)) | ((with_reducible apply PG.decno_i); (case h => omega)) | ((with_reducible apply PG.ndecy_i); (case h => omega)) | ((with_reducible apply PG.ndecno_i); (case h => omega))); (repeat array_get_dec)
      refine wa_eq (strI hs.1 hs.2.1) ?_
      (repeat array_get_dec)
      rw [o45]
      refine wa_eq (addS (by simp only [List.length_singleton]; omega)) ?_
      (repeat array_get_dec)
      refine wa_eq (strI hs.2.2.1 hs.2.2.2) ?_
      (repeat array_get_dec)
      refine wa_eq (addS (by rw [List.length_append, List.length_singleton]; omega)) ?_
      (repeat array_get_dec)
      exact ⟨by unfold pairT; rw [if_neg hne]; simp, rfl, rfl⟩
  · rw [List.filter_eq_self.mpr (fun _ _ => rfl)]
    (repeat array_get_dec)
    cases vs with
    | nil =>
      refine ⟨fun z => by simp at z, fun _ => ?_⟩
      (repeat array_get_dec)
      rw [oN]
      rfl
    | cons x r =>
      refine ⟨fun _ => ?_, fun z => ?_⟩
      · (repeat array_get_dec)
        have e : ((x :: r).map fun y => PyData.str (S (pairT y))) = ((x :: r).map pairT).map fun t => PyData.str (S t) := by rw [List.map_map]; rfl
        rw [e]
        refine wa_eq (joinS _ (fun t ht => by obtain ⟨y, hy, rfl⟩ := List.mem_map.mp ht; exact pairT_len (h y hy)) (by rw [List.length_map]; omega)) ?_
        (repeat array_get_dec)
        rfl
      · simp only [List.map_cons, List.length_cons] at z
        have := of_decide_eq_false z
        omega
end Pr_gatewarden_k04_texts_of_sets
end
section
set_option linter.all false
set_option maxRecDepth 100000
set_option Elab.async false
namespace Pr_gatewarden_k04_texts_of_sets
open PySem PG Pr_C Pr_D L2
open SX (S S_inj S_len split_S join_S partition_some partition_none num_S int_S S_cat)
theorem S_of (x : Str) : ∃ l, x = S l ∧ l.length = x.length := ⟨x.cps.toList, by simp [S], by simp [Str.length]⟩
theorem addT {x y : Str} (h : x.length + y.length ≤ 16777216) : dAdd (.str x) (.str y) = some (.str (x ++ y)) := by simp [dAdd, h]
theorem len_app (x y : Str) : (x ++ y).length = x.length + y.length := by
  show (x.cps ++ y.cps).size = _
  rw [Array.size_append]
  rfl
theorem len_cut (x : Str) (lo hi : Option Int) : (L2.cutS x lo hi).length ≤ x.length := by
  show (L2.cutS x lo hi).cps.size ≤ x.cps.size
  simp only [L2.cutS, List.size_toArray, List.length_take, List.length_drop, Array.length_toList]
  omega
theorem ixSv (s : List Nat) (hs : s.length ≤ 1000) {v : Int} (h0 : 0 ≤ v) (h1 : v < (s.length : Nat)) : ∃ c : Nat, dIxS (.str (S s)) (.int v) = some (.str (S [c])) := by
  have e : ixOf s.length v = some v.toNat := ixOf_nat h0 h1
  have hv : v.toNat < s.length := by omega
  refine ⟨s[v.toNat], ?_⟩
  unfold dIxS
  simp only
  rw [if_pos (by rw [S_len]; omega)]
  show Option.map sgn ((ixOf s.length v).bind fun j => s[j]?) = _
  rw [e]
  show Option.map sgn (s[v.toNat]?) = _
  rw [List.getElem?_eq_getElem hv]
  rfl
def T (n : Nat) (d : PyData) : Prop := ∃ x : Str, d = .str x ∧ x.length ≤ n
theorem wp_pairs {p : Pool} {many : Int} {Q : PyData → List PyData → Prop} (hp : p.ok) (h0 : 0 ≤ many) (h1 : many ≤ 1000) (q : ∀ (l : List (Int × Int)) (p' : Pool), p'.ok → (∀ x ∈ l, okPair 65535 x) → l.length = many.toNat → Q (.list (prs l)) p'.d) : WP (F_law_pairs p.d [.int 65535, .int many]) Q := by
  obtain ⟨l, p', e, k, o, hl⟩ := pairs_ok p hp 65535 many (by decide) (by decide) h0 h1
  exact ⟨_, _, e, q l p' k o hl⟩
local macro_rules | `(tactic| fail "6000") => `(tactic| repeat' (first | apply PG.SetR.s | exact PG.SetR.h0 | exact PG.SetR.h1 | exact PG.SetR.hl | exact PG.SetR.hc (by assumption)))
local macro_rules | `(tactic| fail "6001") => `(tactic| repeat' (first | apply PG.SetLR.s | exact PG.SetLR.h0 | exact PG.SetLR.h1 | exact PG.SetLR.hl))
local macro_rules | `(tactic| fail "6002") => `(tactic| repeat' (first | apply PG.PutR.s | exact PG.PutR.h))
local macro_rules | `(tactic| fail "7001") => `(tactic| first | ((with_reducible apply PG.ws_set)) | ((with_reducible apply PG.ws_if)) | ((with_reducible apply PG.ws_ret)) | ((with_reducible apply PG.ws_setL)) | ((with_reducible apply PG.ws_expr)) | ((with_reducible apply PG.ws_nilc)) | ((with_reducible apply PG.ws_asc)) | ((with_reducible apply PG.ws_nil)) | ((with_reducible apply PG.ws_for)) | ((with_reducible apply PG.ws_asg)) | ((with_reducible apply PG.ws_par)) | ((with_reducible apply PG.ws_retL)) | ((with_reducible apply PG.ws_brk)) | ((with_reducible apply PG.ws_cont)) | ((with_reducible apply PG.ws_forn)) | ((with_reducible apply PG.ws_sto)) | ((with_reducible apply PG.ws_aug); (case hget => rfl)) | ((with_reducible apply PG.ws_app); (case hget => rfl)) | ((with_reducible apply PG.ws_retO); (case hget => rfl)))
local macro_rules | `(tactic| fail "7002") => `(tactic| first | ((with_reducible apply PG.we_name); (case hget => rfl)) | ((with_reducible apply PG.we_c)) | ((with_reducible apply PG.we_bin)) | ((with_reducible apply PG.we_un)) | ((with_reducible apply PG.we_call)) | ((with_reducible apply PG.we_callL); (case hget => rfl)) | ((with_reducible apply PG.we_tup)) | ((with_reducible apply PG.we_lst)) | ((with_reducible apply PG.we_if)) | ((with_reducible apply PG.we_ixL); (case hget => rfl)) | ((with_reducible apply PG.we_unL); (case hget => rfl)) | ((with_reducible apply PG.we_and)) | ((with_reducible apply PG.we_or)) | ((with_reducible apply PG.we_not)) | ((with_reducible apply PG.we_chain)) | ((with_reducible apply PG.we_slT)) | ((with_reducible apply PG.we_frz); (case hget => rfl); (case hset => fail "6000")) | ((with_reducible apply PG.wa_binO)))
local macro_rules | `(tactic| fail "7003") => `(tactic| first | ((with_reducible apply PG.wn_cons)) | ((with_reducible apply PG.wn_nil)) | ((with_reducible apply PG.wn_star)) | ((with_reducible apply PG.wn_disp)) | ((with_reducible apply PG.wn_call)) | ((with_reducible apply PG.wn_sl)) | ((with_reducible apply PG.wn_its)) | ((with_reducible apply PG.wn_r1)) | ((with_reducible apply PG.wn_r2)) | ((with_reducible apply PG.wn_r3)))
local macro_rules | `(tactic| fail "7004") => `(tactic| first | ((with_reducible apply PG.wt_tru)) | ((with_reducible apply PG.wt_bl)) | ((with_reducible apply PG.wt_and)) | ((with_reducible apply PG.wt_or)) | ((with_reducible apply PG.wt_not)) | ((with_reducible apply PG.wt_yes)) | ((with_reducible apply PG.wt_truL); (case hget => rfl)))
local macro_rules | `(tactic| fail "7005") => `(tactic| first | ((with_reducible apply PG.wo_none)) | ((with_reducible apply PG.wo_some)))
local macro_rules | `(tactic| fail "7006") => `(tactic| first | ((with_reducible apply PG.wg_p0)) | ((with_reducible apply PG.wg_tup)) | ((with_reducible apply PG.wg_ps); (case hset => fail "6000")) | ((with_reducible apply PG.wg_set); (case hset => fail "6000")))
local macro_rules | `(tactic| fail "7007") => `(tactic| first | ((with_reducible apply PG.setr_i); (case hset => fail "6000")) | ((with_reducible apply PG.setl_i); (case hset => fail "6001")) | ((with_reducible apply PG.put_i); (case hset => fail "6002")) | ((with_reducible apply PG.pool_i); (case hget => rfl)) | ((with_reducible apply PG.bool_i)) | ((with_reducible apply PG.int_i)) | ((with_reducible apply PG.seqL_i)) | ((with_reducible apply PG.seqT_i)) | ((with_reducible apply PG.seqR_i)) | ((with_reducible apply PG.starT_i)) | ((with_reducible apply PG.starL_i)) | ((with_reducible apply PG.tup_i)) | ((with_reducible apply PG.ch_le)) | ((with_reducible apply PG.ch_lt)) | ((with_reducible apply PG.ch_eq)))
local macro_rules | `(tactic| fail "7008") => `(tactic| first | ((with_reducible apply PG.len_i); (case h => rfl)) | ((with_reducible apply PG.yes_i)) | ((with_reducible apply PG.no_i)) | ((with_reducible apply PG.nyes_i)) | ((with_reducible apply PG.nno_i)))
local macro_rules | `(tactic| fail "7009") => `(tactic| first | ((with_reducible apply PG.wa_add)) | ((with_reducible apply PG.wa_sub)) | ((with_reducible apply PG.wa_lt)) | ((with_reducible apply PG.wa_le)) | ((with_reducible apply PG.wa_gt)) | ((with_reducible apply PG.wa_ge)) | ((with_reducible apply PG.wa_eqI)) | ((with_reducible apply PG.wa_neI)) | ((with_reducible apply PG.wa_neg)) | ((with_reducible apply PG.wa_lenL)) | ((with_reducible apply PG.wa_lenT)) | ((with_reducible apply PG.wa_int)) | ((with_reducible apply PG.wa_max)) | ((with_reducible apply PG.wa_min)) | ((with_reducible apply PG.wa_ev1)) | ((with_reducible apply PG.wa_ev)) | ((with_reducible apply PG.wa_mod); (case h1 => omega)) | ((with_reducible apply PG.wa_div); (case h1 => omega); (case h2 => omega)) | ((with_reducible apply PG.wa_mulR); (case h1 => omega); (case h2 => omega)) | ((with_reducible apply PG.wa_mulL); (case h1 => omega); (case h2 => omega)) | ((with_reducible apply PG.wa_shr); (case h1 => omega)))
local macro_rules | `(tactic| fail "7010") => `(tactic| first | ((with_reducible apply PG.wb_bool)) | ((with_reducible apply PG.wb_int)) | ((with_reducible apply PG.wb_ev)))
local macro_rules | `(tactic| fail "7011") => `(tactic| first | ((with_reducible apply PG.wa_ix0); (case hget => rfl)) | ((with_reducible apply PG.wa_ix1); (case hget => rfl)) | ((with_reducible apply PG.wa_ix2); (case hget => rfl)) | ((with_reducible apply PG.wa_ix3); (case hget => rfl)) | ((with_reducible apply PG.wa_ix4); (case hget => rfl)) | ((with_reducible apply PG.wa_ix5); (case hget => rfl)) | ((with_reducible apply PG.wa_ix6); (case hget => rfl)) | ((with_reducible apply PG.wa_ix7); (case hget => rfl)) | ((with_reducible apply PG.wa_ix8); (case hget => rfl)) | ((with_reducible apply PG.wa_il0); (case hget => rfl)) | ((with_reducible apply PG.wa_il1); (case hget => rfl)) | ((with_reducible apply PG.wa_il2); (case hget => rfl)))
local macro_rules | `(tactic| array_get_dec) => `(tactic| first | ((with_reducible apply PG.gS); fail "7001") | ((with_reducible apply PG.gE); fail "7002") | ((with_reducible apply PG.gN); fail "7003") | ((with_reducible apply PG.gT); fail "7004") | ((with_reducible apply PG.gO); fail "7005") | ((with_reducible apply PG.gG); fail "7006") | ((with_reducible apply PG.gX); fail "7007") | ((with_reducible apply PG.gC); fail "7008") | ((with_reducible apply PG.gA); fail "7009") | ((with_reducible apply PG.gB); fail "7010") | ((with_reducible apply PG.endP_ret)) | ((with_reducible apply PG.endP_retL)) | ((with_reducible apply PG.endN_ret)) | ((with_reducible apply PG.endL_ret)) | ((with_reducible apply PG.endL_retL)) | ((with_reducible apply PG.gI); fail "7011") | ((with_reducible apply PG.wl_ev)))
local macro_rules | `(tactic| array_get_dec) => `(tactic| first | ((with_reducible apply Pr_C.wp_draw); (case hp => assumption); (case h0 => omega); (case h1 => omega)) | ((with_reducible apply Pr_C.ls_i); (case hp => assumption)))

local macro_rules | `(tactic| fail "7012") => `(tactic| first | ((with_reducible apply PG.str_i)) | ((with_reducible apply PG.ch_leS)) | ((with_reducible apply PG.slL_i)))
local macro_rules | `(tactic| array_get_dec) => `(tactic| first | ((with_reducible apply PG.wn_ity)) | ((with_reducible apply PG.gX); fail "7012") | ((with_reducible apply PG.we_slX)) | ((with_reducible apply PG.slx_s); (case hl => (omega))))

theorem pick_ls (s : List Nat) (h0 : 0 < s.length) (h1 : s.length ≤ 1000) : LS F_law_pick [.str (S s)] fun d => ∃ c : Nat, d = .str (S [c]) := by
  intro p hp
  unfold F_law_pick; refine PG.wp_def rfl ?_; simp only [PG.rhoL_eq, List.map_cons, List.map_nil, List.replicate_succ, List.replicate_zero, List.cons_append, List.nil_append]; unfold B_law_pick
  (repeat array_get_dec)
  refine wa_eq (lenS s (by omega)) ?_
  (repeat array_get_dec)
  intro v p1 k1 a1 b1
  obtain ⟨c, e⟩ := ixSv s h1 a1 b1
  (repeat array_get_dec)
  refine wa_eq e ?_
  (repeat array_get_dec)
  exact ⟨c, rfl⟩
theorem spoilt_ls (x : Str) (hx : x.length ≤ 40000) (s : List Nat) (h0 : 0 < s.length) (h1 : s.length ≤ 1000) : LS F_law_spoilt [.str x, .str (S s)] (T (2 * x.length + 10)) := by
  intro p hp
  have hlen : o1of dLen [.str x] = some (.int (x.length : Nat)) := by
    have : x.length ≤ 16777216 := by omega
    simp [o1of, dLen, this]
  unfold F_law_spoilt; refine PG.wp_def rfl ?_; simp only [PG.rhoL_eq, List.map_cons, List.map_nil, List.replicate_succ, List.replicate_zero, List.cons_append, List.nil_append]; unfold B_law_spoilt
  (repeat array_get_dec)
  refine wa_eq hlen ?_
  (repeat array_get_dec)
  intro v p1 k1 a1 b1
  (repeat array_get_dec)
  intro w p2 k2 a2 b2
  (repeat array_get_dec)
  have cl := len_cut x
  by_cases w0 : w = 0
  · (first | ((with_reducible apply PG.decy_i); (case h => omega)) | ((with_reducible apply PG.decno_i); (case h => omega)) | ((with_reducible apply PG.ndecy_i); (case h => omega)) | ((with_reducible apply PG.ndecno_i); (case h => omega))); (repeat array_get_dec)
    have c1 := cl none (some v)
    have c2 := cl (some (v + 1)) none
    refine wa_eq (addT (by omega)) ?_
    (repeat array_get_dec)
    exact ⟨_, rfl, by rw [len_app]; omega⟩
  · (first | ((with_reducible apply PG.decy_i); (case h => omega)) | ((with_reducible apply PG.decno_i); (case h => omega)) | ((with_reducible apply PG.ndecy_i); (case h => omega)) | ((with_reducible apply PG.ndecno_i); (case h => omega))); (repeat array_get_dec)
    have c1 := cl none (some v)
    have c2 := cl (some (v + 1)) none
    have c3 := cl (some v) none
    by_cases w1 : w = 1
    · (first | ((with_reducible apply PG.decy_i); (case h => omega)) | ((with_reducible apply PG.decno_i); (case h => omega)) | ((with_reducible apply PG.ndecy_i); (case h => omega)) | ((with_reducible apply PG.ndecno_i); (case h => omega))); (repeat array_get_dec)
      refine wp_ls (pick_ls s h0 h1) k2 ?_
      rintro z p3 k3 ⟨c, rfl⟩
      have l1 : (S [c]).length = 1 := S_len [c]
      (repeat array_get_dec)
      refine wa_eq (addT (by omega)) ?_
      (repeat array_get_dec)
      refine wa_eq (addT (by rw [len_app]; omega)) ?_
      (repeat array_get_dec)
      exact ⟨_, rfl, by rw [len_app, len_app]; omega⟩
    · (first | ((with_reducible apply PG.decy_i); (case h => omega)) | ((with_reducible apply PG.decno_i); (case h => omega)) | ((with_reducible apply PG.ndecy_i); (case h => omega)) | ((with_reducible apply PG.ndecno_i); (case h => omega))); (repeat array_get_dec)
      by_cases w2 : w = 2
      · (first | ((with_reducible apply PG.decy_i); (case h => omega)) | ((with_reducible apply PG.decno_i); (case h => omega)) | ((with_reducible apply PG.ndecy_i); (case h => omega)) | ((with_reducible apply PG.ndecno_i); (case h => omega))); (repeat array_get_dec)
        refine wp_ls (pick_ls s h0 h1) k2 ?_
        rintro z p3 k3 ⟨c, rfl⟩
        have l1 : (S [c]).length = 1 := S_len [c]
        (repeat array_get_dec)
        refine wa_eq (addT (by omega)) ?_
        (repeat array_get_dec)
        refine wa_eq (addT (by rw [len_app]; omega)) ?_
        (repeat array_get_dec)
        exact ⟨_, rfl, by rw [len_app, len_app]; omega⟩
      · (first | ((with_reducible apply PG.decy_i); (case h => omega)) | ((with_reducible apply PG.decno_i); (case h => omega)) | ((with_reducible apply PG.ndecy_i); (case h => omega)) | ((with_reducible apply PG.ndecno_i); (case h => omega))); (repeat array_get_dec)
        refine wp_ls (pick_ls s h0 h1) k2 ?_
        rintro z p3 k3 ⟨c, rfl⟩
        have l1 : (S [c]).length = 1 := S_len [c]
        (repeat array_get_dec)
        refine wa_eq (addT (by omega)) ?_
        (repeat array_get_dec)
        exact ⟨_, rfl, by rw [len_app]; omega⟩
end Pr_gatewarden_k04_texts_of_sets
end
section
set_option linter.all false
set_option maxRecDepth 100000
set_option Elab.async false
namespace Pr_gatewarden_k04_texts_of_sets
open PySem PG Pr_C Pr_D L2
open SX (S S_inj S_len split_S join_S partition_some partition_none num_S int_S S_cat)
theorem wrapped_t (xs : List PyData) : F_law_wrapped [.tuple xs] = some (.tuple [.str (Str.ofString "told"), .tuple xs]) := by
  simp [F_law_wrapped, B_law_wrapped, defP, rho0, dIsi]
theorem wrapped_r : F_law_wrapped [.str (Str.ofString "refused")] = some (.str (Str.ofString "refused")) := by
  simp [F_law_wrapped, B_law_wrapped, defP, rho0, dIsi]
theorem oT : Str.ofString "told" = S [116, 111, 108, 100] := by decide +kernel
theorem oR : Str.ofString "refused" = S [114, 101, 102, 117, 115, 101, 100] := by decide +kernel
theorem shT : SeqAt.shaped (.str (Str.ofString "told")) = true := by rw [oT]; exact shp_S (by decide)
theorem shR : SeqAt.shaped (.str (Str.ofString "refused")) = true := by rw [oR]; exact shp_S (by decide)
theorem same_told {xs : List (Int × Int)} (hl : xs.length < 16777216) : F_law_same 40 [.tuple [.str (Str.ofString "told"), .tuple (prs xs)], .tuple [.str (Str.ofString "told"), .tuple (prs xs)]] = some (.bool true) :=
  same_tup 39 _ (by simp) fun d hd => by
    simp only [List.mem_cons, List.not_mem_nil, or_false] at hd
    rcases hd with rfl | rfl
    · exact same_word _ shT 38
    · exact same_prsT 36 xs hl
local macro_rules | `(tactic| fail "6000") => `(tactic| repeat' (first | apply PG.SetR.s | exact PG.SetR.h0 | exact PG.SetR.h1 | exact PG.SetR.hl | exact PG.SetR.hc (by assumption)))
local macro_rules | `(tactic| fail "6001") => `(tactic| repeat' (first | apply PG.SetLR.s | exact PG.SetLR.h0 | exact PG.SetLR.h1 | exact PG.SetLR.hl))
local macro_rules | `(tactic| fail "6002") => `(tactic| repeat' (first | apply PG.PutR.s | exact PG.PutR.h))
local macro_rules | `(tactic| fail "7001") => `(tactic| first | ((with_reducible apply PG.ws_set)) | ((with_reducible apply PG.ws_if)) | ((with_reducible apply PG.ws_ret)) | ((with_reducible apply PG.ws_setL)) | ((with_reducible apply PG.ws_expr)) | ((with_reducible apply PG.ws_nilc)) | ((with_reducible apply PG.ws_asc)) | ((with_reducible apply PG.ws_nil)) | ((with_reducible apply PG.ws_for)) | ((with_reducible apply PG.ws_asg)) | ((with_reducible apply PG.ws_par)) | ((with_reducible apply PG.ws_retL)) | ((with_reducible apply PG.ws_brk)) | ((with_reducible apply PG.ws_cont)) | ((with_reducible apply PG.ws_forn)) | ((with_reducible apply PG.ws_sto)) | ((with_reducible apply PG.ws_aug); (case hget => rfl)) | ((with_reducible apply PG.ws_app); (case hget => rfl)) | ((with_reducible apply PG.ws_retO); (case hget => rfl)))
local macro_rules | `(tactic| fail "7002") => `(tactic| first | ((with_reducible apply PG.we_name); (case hget => rfl)) | ((with_reducible apply PG.we_c)) | ((with_reducible apply PG.we_bin)) | ((with_reducible apply PG.we_un)) | ((with_reducible apply PG.we_call)) | ((with_reducible apply PG.we_callL); (case hget => rfl)) | ((with_reducible apply PG.we_tup)) | ((with_reducible apply PG.we_lst)) | ((with_reducible apply PG.we_if)) | ((with_reducible apply PG.we_ixL); (case hget => rfl)) | ((with_reducible apply PG.we_unL); (case hget => rfl)) | ((with_reducible apply PG.we_and)) | ((with_reducible apply PG.we_or)) | ((with_reducible apply PG.we_not)) | ((with_reducible apply PG.we_chain)) | ((with_reducible apply PG.we_slT)) | ((with_reducible apply PG.we_frz); (case hget => rfl); (case hset => fail "6000")) | ((with_reducible apply PG.wa_binO)))
local macro_rules | `(tactic| fail "7003") => `(tactic| first | ((with_reducible apply PG.wn_cons)) | ((with_reducible apply PG.wn_nil)) | ((with_reducible apply PG.wn_star)) | ((with_reducible apply PG.wn_disp)) | ((with_reducible apply PG.wn_call)) | ((with_reducible apply PG.wn_sl)) | ((with_reducible apply PG.wn_its)) | ((with_reducible apply PG.wn_r1)) | ((with_reducible apply PG.wn_r2)) | ((with_reducible apply PG.wn_r3)))
local macro_rules | `(tactic| fail "7004") => `(tactic| first | ((with_reducible apply PG.wt_tru)) | ((with_reducible apply PG.wt_bl)) | ((with_reducible apply PG.wt_and)) | ((with_reducible apply PG.wt_or)) | ((with_reducible apply PG.wt_not)) | ((with_reducible apply PG.wt_yes)) | ((with_reducible apply PG.wt_truL); (case hget => rfl)))
local macro_rules | `(tactic| fail "7005") => `(tactic| first | ((with_reducible apply PG.wo_none)) | ((with_reducible apply PG.wo_some)))
local macro_rules | `(tactic| fail "7006") => `(tactic| first | ((with_reducible apply PG.wg_p0)) | ((with_reducible apply PG.wg_tup)) | ((with_reducible apply PG.wg_ps); (case hset => fail "6000")) | ((with_reducible apply PG.wg_set); (case hset => fail "6000")))
local macro_rules | `(tactic| fail "7007") => `(tactic| first | ((with_reducible apply PG.setr_i); (case hset => fail "6000")) | ((with_reducible apply PG.setl_i); (case hset => fail "6001")) | ((with_reducible apply PG.put_i); (case hset => fail "6002")) | ((with_reducible apply PG.pool_i); (case hget => rfl)) | ((with_reducible apply PG.bool_i)) | ((with_reducible apply PG.int_i)) | ((with_reducible apply PG.seqL_i)) | ((with_reducible apply PG.seqT_i)) | ((with_reducible apply PG.seqR_i)) | ((with_reducible apply PG.starT_i)) | ((with_reducible apply PG.starL_i)) | ((with_reducible apply PG.tup_i)) | ((with_reducible apply PG.ch_le)) | ((with_reducible apply PG.ch_lt)) | ((with_reducible apply PG.ch_eq)))
local macro_rules | `(tactic| fail "7008") => `(tactic| first | ((with_reducible apply PG.len_i); (case h => rfl)) | ((with_reducible apply PG.yes_i)) | ((with_reducible apply PG.no_i)) | ((with_reducible apply PG.nyes_i)) | ((with_reducible apply PG.nno_i)))
local macro_rules | `(tactic| fail "7009") => `(tactic| first | ((with_reducible apply PG.wa_add)) | ((with_reducible apply PG.wa_sub)) | ((with_reducible apply PG.wa_lt)) | ((with_reducible apply PG.wa_le)) | ((with_reducible apply PG.wa_gt)) | ((with_reducible apply PG.wa_ge)) | ((with_reducible apply PG.wa_eqI)) | ((with_reducible apply PG.wa_neI)) | ((with_reducible apply PG.wa_neg)) | ((with_reducible apply PG.wa_lenL)) | ((with_reducible apply PG.wa_lenT)) | ((with_reducible apply PG.wa_int)) | ((with_reducible apply PG.wa_max)) | ((with_reducible apply PG.wa_min)) | ((with_reducible apply PG.wa_ev1)) | ((with_reducible apply PG.wa_ev)) | ((with_reducible apply PG.wa_mod); (case h1 => omega)) | ((with_reducible apply PG.wa_div); (case h1 => omega); (case h2 => omega)) | ((with_reducible apply PG.wa_mulR); (case h1 => omega); (case h2 => omega)) | ((with_reducible apply PG.wa_mulL); (case h1 => omega); (case h2 => omega)) | ((with_reducible apply PG.wa_shr); (case h1 => omega)))
local macro_rules | `(tactic| fail "7010") => `(tactic| first | ((with_reducible apply PG.wb_bool)) | ((with_reducible apply PG.wb_int)) | ((with_reducible apply PG.wb_ev)))
local macro_rules | `(tactic| fail "7011") => `(tactic| first | ((with_reducible apply PG.wa_ix0); (case hget => rfl)) | ((with_reducible apply PG.wa_ix1); (case hget => rfl)) | ((with_reducible apply PG.wa_ix2); (case hget => rfl)) | ((with_reducible apply PG.wa_ix3); (case hget => rfl)) | ((with_reducible apply PG.wa_ix4); (case hget => rfl)) | ((with_reducible apply PG.wa_ix5); (case hget => rfl)) | ((with_reducible apply PG.wa_ix6); (case hget => rfl)) | ((with_reducible apply PG.wa_ix7); (case hget => rfl)) | ((with_reducible apply PG.wa_ix8); (case hget => rfl)) | ((with_reducible apply PG.wa_il0); (case hget => rfl)) | ((with_reducible apply PG.wa_il1); (case hget => rfl)) | ((with_reducible apply PG.wa_il2); (case hget => rfl)))
local macro_rules | `(tactic| array_get_dec) => `(tactic| first | ((with_reducible apply PG.gS); fail "7001") | ((with_reducible apply PG.gE); fail "7002") | ((with_reducible apply PG.gN); fail "7003") | ((with_reducible apply PG.gT); fail "7004") | ((with_reducible apply PG.gO); fail "7005") | ((with_reducible apply PG.gG); fail "7006") | ((with_reducible apply PG.gX); fail "7007") | ((with_reducible apply PG.gC); fail "7008") | ((with_reducible apply PG.gA); fail "7009") | ((with_reducible apply PG.gB); fail "7010") | ((with_reducible apply PG.endP_ret)) | ((with_reducible apply PG.endP_retL)) | ((with_reducible apply PG.endN_ret)) | ((with_reducible apply PG.endL_ret)) | ((with_reducible apply PG.endL_retL)) | ((with_reducible apply PG.gI); fail "7011") | ((with_reducible apply PG.wl_ev)))
local macro_rules | `(tactic| array_get_dec) => `(tactic| first | ((with_reducible apply Pr_C.wp_draw); (case hp => assumption); (case h0 => omega); (case h1 => omega)) | ((with_reducible apply Pr_C.ls_i); (case hp => assumption)))

local macro_rules | `(tactic| fail "7012") => `(tactic| first | ((with_reducible apply PG.str_i)) | ((with_reducible apply PG.ch_leS)) | ((with_reducible apply PG.slL_i)))
local macro_rules | `(tactic| array_get_dec) => `(tactic| first | ((with_reducible apply wp_pairs); (case hp => assumption); (case h0 => omega); (case h1 => omega)) | ((with_reducible apply PG.wn_ity)) | ((with_reducible apply PG.gX); fail "7012"))

theorem turn_text (l : List Nat) (hl : l.length ≤ 50000) (c0 c1 c2 c4 c5 c6 : Option Cell) (q5 : PlainC c5) :
    WS X_law_2 [c0, c1, c2, some (.v (.str (S l))), c4, c5, c6] fun o ρ2 => o = .next ∧ ∃ c5, PlainC c5 ∧ ρ2 = [c0, c1, c2, some (.v (.str (S l))), c4, c5, c6] := by
  unfold X_law_2
  (repeat array_get_dec)
  refine wa_eq (law_text_ok l hl) ?_
  rcases agree l with ⟨d, hr, hd, hn, xs, rfl, hx⟩ | ⟨hr, hd⟩
  · have e1 := set_read_in ((read_ok l hl).trans (by rw [hr]))
    rw [hd]
    (repeat array_get_dec)
    refine wa_eq e1 ?_
    (repeat array_get_dec)
    refine wa_eq (wrapped_t (prs xs)) ?_
    (repeat array_get_dec)
    refine wa_eq (same_told (by omega)) ?_
    (repeat array_get_dec)
    exact ⟨rfl, _, .inr ⟨_, rfl⟩, rfl⟩
  · have e1 := set_read_no ((read_ok l hl).trans (by rw [hr]))
    rw [hd]
    (repeat array_get_dec)
    refine wa_eq e1 ?_
    (repeat array_get_dec)
    refine wa_eq wrapped_r ?_
    (repeat array_get_dec)
    refine wa_eq (same_word _ shR 39) ?_
    (repeat array_get_dec)
    exact ⟨rfl, _, .inr ⟨_, rfl⟩, rfl⟩
theorem drawn_ls (many : Int) (m0 : 0 ≤ many) (m1 : many ≤ 20) : LS F_law_drawn_set [.int 65535, .int many] fun d => ∃ r, d = .tuple (prs r) ∧ (∀ x ∈ r, small x) ∧ r.length ≤ 64 := by
  intro p hp
  obtain ⟨r, p', e, k, o, w, l⟩ := drawn_set_ok p hp 65535 many (by decide) (by decide) m0 (by omega)
  refine ⟨_, _, e, p', k, rfl, r, rfl, fun x hx => ?_, l⟩
  obtain ⟨a, b, c⟩ := o x hx
  exact ⟨a, by omega, by omega, by omega⟩
end Pr_gatewarden_k04_texts_of_sets
end
section
set_option linter.all false
set_option maxRecDepth 100000
set_option Elab.async false
namespace Pr_gatewarden_k04_texts_of_sets
open PySem PG Pr_C Pr_D L2
open SX (S S_inj S_len split_S join_S partition_some partition_none num_S int_S S_cat)
theorem sgS : Str.ofString "0189-, x" = S [48, 49, 56, 57, 45, 44, 32, 120] := by decide +kernel
theorem two_at {v : Int} (h0 : 0 ≤ v) (h1 : v < 2) : ∃ m : Int, 0 ≤ m ∧ m ≤ 20 ∧ dIx (.tuple [.int 4, .int 20]) (.int v) = some (.int m) := by
  have : v = 0 ∨ v = 1 := by omega
  rcases this with rfl | rfl
  · exact ⟨4, by decide, by decide, rfl⟩
  · exact ⟨20, by decide, by decide, rfl⟩
theorem Tc (x : Str) (h : x.length ≤ 50000) : T 50000 (.str x) := ⟨x, rfl, h⟩
local macro_rules | `(tactic| fail "6000") => `(tactic| repeat' (first | apply PG.SetR.s | exact PG.SetR.h0 | exact PG.SetR.h1 | exact PG.SetR.hl | exact PG.SetR.hc (by assumption)))
local macro_rules | `(tactic| fail "6001") => `(tactic| repeat' (first | apply PG.SetLR.s | exact PG.SetLR.h0 | exact PG.SetLR.h1 | exact PG.SetLR.hl))
local macro_rules | `(tactic| fail "6002") => `(tactic| repeat' (first | apply PG.PutR.s | exact PG.PutR.h))
local macro_rules | `(tactic| fail "7001") => `(tactic| first | ((with_reducible apply PG.ws_set)) | ((with_reducible apply PG.ws_if)) | ((with_reducible apply PG.ws_ret)) | ((with_reducible apply PG.ws_setL)) | ((with_reducible apply PG.ws_expr)) | ((with_reducible apply PG.ws_nilc)) | ((with_reducible apply PG.ws_asc)) | ((with_reducible apply PG.ws_nil)) | ((with_reducible apply PG.ws_for)) | ((with_reducible apply PG.ws_asg)) | ((with_reducible apply PG.ws_par)) | ((with_reducible apply PG.ws_retL)) | ((with_reducible apply PG.ws_brk)) | ((with_reducible apply PG.ws_cont)) | ((with_reducible apply PG.ws_forn)) | ((with_reducible apply PG.ws_sto)) | ((with_reducible apply PG.ws_aug); (case hget => rfl)) | ((with_reducible apply PG.ws_app); (case hget => rfl)) | ((with_reducible apply PG.ws_retO); (case hget => rfl)))
local macro_rules | `(tactic| fail "7002") => `(tactic| first | ((with_reducible apply PG.we_name); (case hget => rfl)) | ((with_reducible apply PG.we_c)) | ((with_reducible apply PG.we_bin)) | ((with_reducible apply PG.we_un)) | ((with_reducible apply PG.we_call)) | ((with_reducible apply PG.we_callL); (case hget => rfl)) | ((with_reducible apply PG.we_tup)) | ((with_reducible apply PG.we_lst)) | ((with_reducible apply PG.we_if)) | ((with_reducible apply PG.we_ixL); (case hget => rfl)) | ((with_reducible apply PG.we_unL); (case hget => rfl)) | ((with_reducible apply PG.we_and)) | ((with_reducible apply PG.we_or)) | ((with_reducible apply PG.we_not)) | ((with_reducible apply PG.we_chain)) | ((with_reducible apply PG.we_slT)) | ((with_reducible apply PG.we_frz); (case hget => rfl); (case hset => fail "6000")) | ((with_reducible apply PG.wa_binO)))
local macro_rules | `(tactic| fail "7003") => `(tactic| first | ((with_reducible apply PG.wn_cons)) | ((with_reducible apply PG.wn_nil)) | ((with_reducible apply PG.wn_star)) | ((with_reducible apply PG.wn_disp)) | ((with_reducible apply PG.wn_call)) | ((with_reducible apply PG.wn_sl)) | ((with_reducible apply PG.wn_its)) | ((with_reducible apply PG.wn_r1)) | ((with_reducible apply PG.wn_r2)) | ((with_reducible apply PG.wn_r3)))
local macro_rules | `(tactic| fail "7004") => `(tactic| first | ((with_reducible apply PG.wt_tru)) | ((with_reducible apply PG.wt_bl)) | ((with_reducible apply PG.wt_and)) | ((with_reducible apply PG.wt_or)) | ((with_reducible apply PG.wt_not)) | ((with_reducible apply PG.wt_yes)) | ((with_reducible apply PG.wt_truL); (case hget => rfl)))
local macro_rules | `(tactic| fail "7005") => `(tactic| first | ((with_reducible apply PG.wo_none)) | ((with_reducible apply PG.wo_some)))
local macro_rules | `(tactic| fail "7006") => `(tactic| first | ((with_reducible apply PG.wg_p0)) | ((with_reducible apply PG.wg_tup)) | ((with_reducible apply PG.wg_ps); (case hset => fail "6000")) | ((with_reducible apply PG.wg_set); (case hset => fail "6000")))
local macro_rules | `(tactic| fail "7007") => `(tactic| first | ((with_reducible apply PG.setr_i); (case hset => fail "6000")) | ((with_reducible apply PG.setl_i); (case hset => fail "6001")) | ((with_reducible apply PG.put_i); (case hset => fail "6002")) | ((with_reducible apply PG.pool_i); (case hget => rfl)) | ((with_reducible apply PG.bool_i)) | ((with_reducible apply PG.int_i)) | ((with_reducible apply PG.seqL_i)) | ((with_reducible apply PG.seqT_i)) | ((with_reducible apply PG.seqR_i)) | ((with_reducible apply PG.starT_i)) | ((with_reducible apply PG.starL_i)) | ((with_reducible apply PG.tup_i)) | ((with_reducible apply PG.ch_le)) | ((with_reducible apply PG.ch_lt)) | ((with_reducible apply PG.ch_eq)))
local macro_rules | `(tactic| fail "7008") => `(tactic| first | ((with_reducible apply PG.len_i); (case h => rfl)) | ((with_reducible apply PG.yes_i)) | ((with_reducible apply PG.no_i)) | ((with_reducible apply PG.nyes_i)) | ((with_reducible apply PG.nno_i)))
local macro_rules | `(tactic| fail "7009") => `(tactic| first | ((with_reducible apply PG.wa_add)) | ((with_reducible apply PG.wa_sub)) | ((with_reducible apply PG.wa_lt)) | ((with_reducible apply PG.wa_le)) | ((with_reducible apply PG.wa_gt)) | ((with_reducible apply PG.wa_ge)) | ((with_reducible apply PG.wa_eqI)) | ((with_reducible apply PG.wa_neI)) | ((with_reducible apply PG.wa_neg)) | ((with_reducible apply PG.wa_lenL)) | ((with_reducible apply PG.wa_lenT)) | ((with_reducible apply PG.wa_int)) | ((with_reducible apply PG.wa_max)) | ((with_reducible apply PG.wa_min)) | ((with_reducible apply PG.wa_ev1)) | ((with_reducible apply PG.wa_ev)) | ((with_reducible apply PG.wa_mod); (case h1 => omega)) | ((with_reducible apply PG.wa_div); (case h1 => omega); (case h2 => omega)) | ((with_reducible apply PG.wa_mulR); (case h1 => omega); (case h2 => omega)) | ((with_reducible apply PG.wa_mulL); (case h1 => omega); (case h2 => omega)) | ((with_reducible apply PG.wa_shr); (case h1 => omega)))
local macro_rules | `(tactic| fail "7010") => `(tactic| first | ((with_reducible apply PG.wb_bool)) | ((with_reducible apply PG.wb_int)) | ((with_reducible apply PG.wb_ev)))
local macro_rules | `(tactic| fail "7011") => `(tactic| first | ((with_reducible apply PG.wa_ix0); (case hget => rfl)) | ((with_reducible apply PG.wa_ix1); (case hget => rfl)) | ((with_reducible apply PG.wa_ix2); (case hget => rfl)) | ((with_reducible apply PG.wa_ix3); (case hget => rfl)) | ((with_reducible apply PG.wa_ix4); (case hget => rfl)) | ((with_reducible apply PG.wa_ix5); (case hget => rfl)) | ((with_reducible apply PG.wa_ix6); (case hget => rfl)) | ((with_reducible apply PG.wa_ix7); (case hget => rfl)) | ((with_reducible apply PG.wa_ix8); (case hget => rfl)) | ((with_reducible apply PG.wa_il0); (case hget => rfl)) | ((with_reducible apply PG.wa_il1); (case hget => rfl)) | ((with_reducible apply PG.wa_il2); (case hget => rfl)))
local macro_rules | `(tactic| array_get_dec) => `(tactic| first | ((with_reducible apply PG.gS); fail "7001") | ((with_reducible apply PG.gE); fail "7002") | ((with_reducible apply PG.gN); fail "7003") | ((with_reducible apply PG.gT); fail "7004") | ((with_reducible apply PG.gO); fail "7005") | ((with_reducible apply PG.gG); fail "7006") | ((with_reducible apply PG.gX); fail "7007") | ((with_reducible apply PG.gC); fail "7008") | ((with_reducible apply PG.gA); fail "7009") | ((with_reducible apply PG.gB); fail "7010") | ((with_reducible apply PG.endP_ret)) | ((with_reducible apply PG.endP_retL)) | ((with_reducible apply PG.endN_ret)) | ((with_reducible apply PG.endL_ret)) | ((with_reducible apply PG.endL_retL)) | ((with_reducible apply PG.gI); fail "7011") | ((with_reducible apply PG.wl_ev)))
local macro_rules | `(tactic| array_get_dec) => `(tactic| first | ((with_reducible apply Pr_C.wp_draw); (case hp => assumption); (case h0 => omega); (case h1 => omega)) | ((with_reducible apply Pr_C.ls_i); (case hp => assumption)))

local macro_rules | `(tactic| fail "7012") => `(tactic| first | ((with_reducible apply PG.str_i)) | ((with_reducible apply PG.ch_leS)) | ((with_reducible apply PG.slL_i)))
local macro_rules | `(tactic| array_get_dec) => `(tactic| first | ((with_reducible apply wp_pairs); (case hp => assumption); (case h0 => omega); (case h1 => omega)) | ((with_reducible apply PG.wn_ity)) | ((with_reducible apply PG.gX); fail "7012"))

theorem law_true (ns : List Int) (h : ns.length ≤ 63) : F_law [RO (ns.map PyData.int)] = some (.bool true) := by
  obtain ⟨p, e, hp⟩ := pool_ok ns h
  refine of_wa ?_
  unfold F_law; refine PG.wa_def rfl ?_; simp only [PG.rho0_eq, List.map_cons, List.map_nil, List.replicate_succ, List.replicate_zero, List.cons_append, List.nil_append]; unfold B_law
  (repeat array_get_dec)
  refine wl_eq e ?_
  (repeat array_get_dec)
  intro v p1 k1 a1 b1
  (repeat array_get_dec)
  obtain ⟨m, m0, m1, em⟩ := two_at a1 b1
  refine wa_eq em ?_
  (repeat array_get_dec)
  refine wp_ls (drawn_ls m m0 m1) k1 ?_
  rintro z p2 k2 ⟨vs, rfl, hs, hl⟩
  have htl := textOf_len hs
  have ht16 : (S (textOf vs)).length ≤ 2000 := by rw [S_len]; omega
  (repeat array_get_dec)
  refine wa_eq (law_text_of vs hs (by omega)) ?_
  (repeat array_get_dec)
  refine wa_eq (write_ok vs hs (by omega)) ?_
  (repeat array_get_dec)
  refine wa_eq (same_word _ (shp_S (textOf_sm vs)) 39) ?_
  (repeat array_get_dec)
  generalize textOf vs = t at *
  have lc : (Str.ofString ",").length = 1 := by rw [o44]; exact S_len [44]
  have ln : (Str.ofString "\n").length = 1 := by decide +kernel
  refine wa_eq (addT (by omega)) ?_
  (repeat array_get_dec)
  refine wa_eq (addT (by omega)) ?_
  (repeat array_get_dec)
  refine wa_eq (addT (by omega)) ?_
  (repeat array_get_dec)
  refine wa_addL (by simp only [List.length_cons, List.length_nil]; omega) ?_
  generalize hL : (([_, _, _, _, _, _, _, _, _, _, _, _, _, _, _, _, _, _] : List PyData) ++ [_, _, _, _, _]) = L
  have hlen : L.length = 23 := by subst hL; rfl
  have hT : ∀ d ∈ L, T 50000 d := by
    subst hL
    intro d hd
    simp only [List.cons_append, List.nil_append, List.mem_cons, List.not_mem_nil, or_false] at hd
    rcases hd with rfl | rfl | rfl | rfl | rfl | rfl | rfl | rfl | rfl | rfl | rfl | rfl | rfl | rfl | rfl | rfl | rfl | rfl | rfl | rfl | rfl | rfl | rfl
    all_goals first | exact Tc _ (by omega) | exact Tc _ (by rw [len_app]; omega) | exact Tc _ (by decide +kernel)
  clear hL
  (repeat array_get_dec)
  refine wn_compI (fun ds acc ρ => ∃ p' : Pool, ρ = [some (.v (RO (ns.map PyData.int))), some (.l false p'.d), some (.v (.tuple (prs vs))), some (.v (.str (S t))), some (.v (.list L)), none, none] ∧ p'.ok ∧ acc.length + ds.length = 6 ∧ ∀ d ∈ acc, T 50000 d) ?_
  (repeat array_get_dec)
  refine r1_i (by decide) ?_
  refine ⟨rfl, ⟨p2, rfl, k2, rfl, by simp⟩, ?_, ?_⟩
  · rintro d ds acc ρ ⟨p', rfl, kp, hl2, ha⟩
    unfold X_law_1
    (repeat array_get_dec)
    rw [sgS]
    refine wp_ls (spoilt_ls (S t) (by omega) _ (by decide) (by decide)) kp ?_
    rintro z p4 k4 ⟨x, rfl, hx⟩
    (repeat array_get_dec)
    simp only [List.length_cons] at hl2
    refine ⟨rfl, by omega, p4, rfl, k4, by rw [List.length_append, List.length_singleton]; omega, fun d hd => ?_⟩
    rcases List.mem_append.mp hd with hd | hd
    · exact ha d hd
    · rw [List.mem_singleton.mp hd]
      exact Tc _ (by omega)
  · rintro acc ρ ⟨p', rfl, kp, hl2, ha⟩
    have hacc : acc.length = 6 := by simpa using hl2
    (repeat array_get_dec)
    refine wa_addL (by omega) ?_
    (repeat array_get_dec)
    refine ws_forI (fun ds ρ => ∃ c3 c5, PlainC c3 ∧ PlainC c5 ∧ (∀ d ∈ ds, T 50000 d) ∧ ρ = [some (.v (RO (ns.map PyData.int))), some (.l false p'.d), some (.v (.tuple (prs vs))), c3, some (.v (.list (L ++ acc))), c5, none]) _
      ⟨_, none, .inr ⟨_, rfl⟩, .inl rfl, fun d hd => (List.mem_append.mp hd).elim (hT d) (ha d), rfl⟩ ?_ ?_
    · rintro d ds ρ ⟨c3, c5, q3, q5, hd, rfl⟩
      obtain ⟨x, rfl, hx⟩ := hd d (by simp)
      obtain ⟨l, rfl, hl3⟩ := S_of x
      (repeat array_get_dec)
      refine (turn_text l (by omega) _ _ _ _ c5 _ q5).mono fun o ρ2 ⟨ho, c5', q5', e2⟩ => ?_
      exact ⟨ho, _, c5', .inr ⟨_, rfl⟩, q5', fun y hy => hd y (by simp [hy]), e2⟩
    · rintro ρ ⟨c3, c5, q3, q5, hd, rfl⟩
      (repeat array_get_dec)
      rfl
end Pr_gatewarden_k04_texts_of_sets
end
open PySem PySem.W PyProof.Rows
set_option maxRecDepth 100000 in
set_option maxHeartbeats 0 in
theorem PySem.Challenge.cw_gatewarden_k04_texts_of_sets_holds : PySem.Challenge.rw_gatewarden_k04_texts_of_sets.Holds := by
  w_on; o_law; k_head; (case hw => w_witness2)
  k_fill
  refine PG.walkt_of (l := PySem.Challenge.rw_gatewarden_k04_texts_of_sets) (n := 63) (k := 42) (x := "script") (sp := fun w => PG.spP _ 1 Pr_gatewarden_k04_texts_of_sets.F_law) rfl (by decide) rfl ⟨rfl, by decide, by decide⟩ (fun w h Y => PySem.W.kIn_of Y) ?F (fun _ _ a ns hl ht hS => PG.law_spT ht hS (Pr_gatewarden_k04_texts_of_sets.law_true ns hl))
  case F =>
    intro w mg fa h KX G hmg
    refine ⟨by kernel_rfl, ?_⟩
    refine' Pr_gatewarden_k04_texts_of_sets.all_mk KX G hmg ?a_is_numeral ?l_is_numeral ?c_is_numeral ?k_is_numeral ?x_is_numeral ?p_is_numeral ?a_is_tuple ?l_is_tuple ?c_is_tuple ?k_is_tuple ?a_is_set ?l_is_set ?c_is_set ?k_is_set ?a_write_pair ?l_write_pair ?c_write_pair ?k_write_pair ?a_write_set ?l_write_set ?c_write_set ?k_write_set ?a_read_set ?l_read_set ?c_read_set ?k_read_set ?a_law_same ?l_law_same ?c_law_same ?k_law_same ?a_law_is_integer ?l_law_is_integer ?c_law_is_integer ?k_law_is_integer ?a_law_pool ?l_law_pool ?c_law_pool ?k_law_pool ?a_law_spread ?l_law_spread ?c_law_spread ?k_law_spread ?a_law_draw ?l_law_draw ?c_law_draw ?k_law_draw ?a_law_pick ?l_law_pick ?c_law_pick ?k_law_pick ?a_law_has ?l_law_has ?c_law_has ?k_law_has ?a_law_union ?l_law_union ?c_law_union ?k_law_union ?a_law_number ?l_law_number ?c_law_number ?k_law_number ?a_law_pairs ?l_law_pairs ?c_law_pairs ?k_law_pairs ?a_law_drawn_set ?l_law_drawn_set ?c_law_drawn_set ?k_law_drawn_set ?a_law_is_set ?l_law_is_set ?c_law_is_set ?k_law_is_set ?a_law_wrapped ?l_law_wrapped ?c_law_wrapped ?k_law_wrapped ?a_law_decimal ?l_law_decimal ?c_law_decimal ?k_law_decimal ?a_law_set_text ?l_law_set_text ?c_law_set_text ?k_law_set_text ?a_law_set_of_text ?l_law_set_of_text ?c_law_set_of_text ?k_law_set_of_text ?a_law_spoilt ?l_law_spoilt ?c_law_spoilt ?k_law_spoilt ?a_law_set_read ?l_law_set_read ?c_law_set_read ?k_law_set_read ?a_law ?l_law ?c_law ?k_law ?z_ValueError ?z_all ?z_bool ?z_int ?z_isinstance ?z_len ?z_list ?z_max ?z_min ?z_range ?z_set ?z_sorted ?z_str ?z_tuple ?z_type ?xi_BadText ?kC_BadText ?eC_BadText ?tC_BadText ?ga_BadText ?gg_BadText ?hC_BadText ?hc_BadText ?hn_BadText ?ht_BadText ?hm_BadText ?gC_BadText ?gC_GateError ?gC_NoPlace ?kit_BadText_GateError ?kit_BadText_NoPlace ?kit_BadText_ValueError ?sb_BadText_BadText
    (case gC_BadText => k_is); (case gC_GateError => k_is); (case gC_NoPlace => k_is); (case a_is_numeral => k_is); (case l_is_numeral => k_is); (case c_is_numeral => k_is); (case k_is_numeral => k_is); (case x_is_numeral => k_is); (case p_is_numeral => rfl); (case a_is_tuple => k_is); (case l_is_tuple => k_is); (case c_is_tuple => k_is); (case k_is_tuple => k_is); (case a_is_set => k_is); (case l_is_set => k_is); (case c_is_set => k_is); (case k_is_set => k_is); (case a_write_pair => k_is); (case l_write_pair => k_is); (case c_write_pair => k_is); (case k_write_pair => k_is); (case a_write_set => k_is); (case l_write_set => k_is); (case c_write_set => k_is); (case k_write_set => k_is); (case a_read_set => k_is); (case l_read_set => k_is); (case c_read_set => k_is); (case k_read_set => k_is); (case a_law_same => k_is); (case l_law_same => k_is); (case c_law_same => k_is); (case k_law_same => k_is); (case a_law_is_integer => k_is); (case l_law_is_integer => k_is); (case c_law_is_integer => k_is); (case k_law_is_integer => k_is); (case a_law_pool => k_is); (case l_law_pool => k_is); (case c_law_pool => k_is); (case k_law_pool => k_is); (case a_law_spread => k_is); (case l_law_spread => k_is); (case c_law_spread => k_is); (case k_law_spread => k_is); (case a_law_draw => k_is); (case l_law_draw => k_is); (case c_law_draw => k_is); (case k_law_draw => k_is); (case a_law_pick => k_is); (case l_law_pick => k_is); (case c_law_pick => k_is); (case k_law_pick => k_is); (case a_law_has => k_is); (case l_law_has => k_is); (case c_law_has => k_is); (case k_law_has => k_is); (case a_law_union => k_is); (case l_law_union => k_is); (case c_law_union => k_is); (case k_law_union => k_is); (case a_law_number => k_is); (case l_law_number => k_is); (case c_law_number => k_is); (case k_law_number => k_is); (case a_law_pairs => k_is); (case l_law_pairs => k_is); (case c_law_pairs => k_is); (case k_law_pairs => k_is); (case a_law_drawn_set => k_is); (case l_law_drawn_set => k_is); (case c_law_drawn_set => k_is); (case k_law_drawn_set => k_is); (case a_law_is_set => k_is); (case l_law_is_set => k_is); (case c_law_is_set => k_is); (case k_law_is_set => k_is); (case a_law_wrapped => k_is); (case l_law_wrapped => k_is); (case c_law_wrapped => k_is); (case k_law_wrapped => k_is); (case a_law_decimal => k_is); (case l_law_decimal => k_is); (case c_law_decimal => k_is); (case k_law_decimal => k_is); (case a_law_set_text => k_is); (case l_law_set_text => k_is); (case c_law_set_text => k_is); (case k_law_set_text => k_is); (case a_law_set_of_text => k_is); (case l_law_set_of_text => k_is); (case c_law_set_of_text => k_is); (case k_law_set_of_text => k_is); (case a_law_spoilt => k_is); (case l_law_spoilt => k_is); (case c_law_spoilt => k_is); (case k_law_spoilt => k_is); (case a_law_set_read => k_is); (case l_law_set_read => k_is); (case c_law_set_read => k_is); (case k_law_set_read => k_is); (case a_law => k_is); (case l_law => k_is); (case c_law => k_is); (case k_law => k_is); (case z_ValueError => k_is); (case z_all => k_is); (case z_bool => k_is); (case z_int => k_is); (case z_isinstance => k_is); (case z_len => k_is); (case z_list => k_is); (case z_max => k_is); (case z_min => k_is); (case z_range => k_is); (case z_set => k_is); (case z_sorted => k_is); (case z_str => k_is); (case z_tuple => k_is); (case z_type => k_is); (case xi_BadText => k_exc); (case kC_BadText => k_is); (case eC_BadText => k_is); (case tC_BadText => k_is); (case ga_BadText => k_is); (case gg_BadText => k_is); (case hC_BadText => k_is); (case hc_BadText => k_is); (case hn_BadText => k_is); (case ht_BadText => k_is); (case hm_BadText => k_is); (case kit_BadText_GateError => first | k_is | rfl | decide +kernel | kernel_rfl); (case kit_BadText_NoPlace => first | k_is | rfl | decide +kernel | kernel_rfl); (case kit_BadText_ValueError => first | k_is | rfl | decide +kernel | kernel_rfl); (case sb_BadText_BadText => k_is)
