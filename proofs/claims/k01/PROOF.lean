import PyProof.Rows.All
import Wide.All
import OpenK.AllK
import Wide.FinOn
import HandS.ForMost
import HandS.Walk
import HandS.More
import HandS.IsInst
import HandS.AnyAll
import HandS.Defaults
import HandS.Exc
import HandS.HeadHook4
import HandS.HeadWalk
import KE.KStateDown
import HandS.Head0
import HandS.Head1
import HandS.Head2
import PySem.Challenge.RW_gapyard_k01_names_and_numbers
set_option Elab.async false
set_option linter.all false
set_option maxRecDepth 100000
set_option maxHeartbeats 4000000
/-! Lay: what a reading comes to, over heaps that only grow (code tables may grow too). -/
namespace Gy
open PySem PySem.Spec PyProof.Rows L2
/-! ### heaps that grow -/
def Kept (H' : Hp) (a : Addr) : HO → Prop
  | .tbl ps => ∃ qs : Array Value, H' a = some (.tbl qs) ∧ (TriplesOk ps.toList → TriplesOk qs.toList)
  | .lst xs => H' a = some (.lst xs)
  | .tup xs => H' a = some (.tup xs)
  | .dK xs => H' a = some (.dK xs)
  | .dT xs => H' a = some (.dT xs)
  | .set S n => H' a = some (.set S n)
  | .ins C dx fs => H' a = some (.ins C dx fs)
  | .own x => H' a = some (.own x)
  | .xd fs => H' a = some (.xd fs)
  | .met f x => H' a = some (.met f x)
  | .rng lo hi => H' a = some (.rng lo hi)
  | .frz o u => H' a = some (.frz o u)
  | .ext φ => H' a = some (.ext φ)
def Ge (H H' : Hp) : Prop := ∀ a o, H a = some o → Kept H' a o
theorem Kept.of {H' : Hp} {a : Addr} : ∀ {o : HO}, H' a = some o → Kept H' a o
  | .tbl ps, h => ⟨ps, h, fun z => z⟩
  | .lst _, h => h
  | .tup _, h => h
  | .dK _, h => h
  | .dT _, h => h
  | .set _ _, h => h
  | .ins _ _ _, h => h
  | .own _, h => h
  | .xd _, h => h
  | .met _ _, h => h
  | .rng _ _, h => h
  | .frz _ _, h => h
  | .ext _, h => h
theorem Kept.there {H' : Hp} {a : Addr} : ∀ {o : HO}, Kept H' a o → ∃ u, H' a = some u
  | .tbl _, ⟨qs, h, _⟩ => ⟨_, h⟩
  | .lst _, h => ⟨_, h⟩
  | .tup _, h => ⟨_, h⟩
  | .dK _, h => ⟨_, h⟩
  | .dT _, h => ⟨_, h⟩
  | .set _ _, h => ⟨_, h⟩
  | .ins _ _ _, h => ⟨_, h⟩
  | .own _, h => ⟨_, h⟩
  | .xd _, h => ⟨_, h⟩
  | .met _ _, h => ⟨_, h⟩
  | .rng _ _, h => ⟨_, h⟩
  | .frz _ _, h => ⟨_, h⟩
  | .ext _, h => ⟨_, h⟩
theorem Kept.step {H' H2 : Hp} {a : Addr} (g : Ge H' H2) : ∀ {o : HO}, Kept H' a o → Kept H2 a o
  | .tbl _, ⟨qs, h, t⟩ => by
    obtain ⟨rs, h2, t2⟩ := (show ∃ rs : Array Value, H2 a = some (.tbl rs) ∧ (TriplesOk qs.toList → TriplesOk rs.toList) from g a _ h)
    exact ⟨rs, h2, fun z => t2 (t z)⟩
  | .lst _, h => g a _ h
  | .tup _, h => g a _ h
  | .dK _, h => g a _ h
  | .dT _, h => g a _ h
  | .set _ _, h => g a _ h
  | .ins _ _ _, h => g a _ h
  | .own _, h => g a _ h
  | .xd _, h => g a _ h
  | .met _ _, h => g a _ h
  | .rng _ _, h => g a _ h
  | .frz _ _, h => g a _ h
  | .ext _, h => g a _ h
theorem Ge.refl (H : Hp) : Ge H H := fun _ _ h => .of h
theorem Ge.trans {H H1 H2 : Hp} (a : Ge H H1) (b : Ge H1 H2) : Ge H H2 := fun x o h => (a x o h).step b
theorem Ge.same {H H' : Hp} (h : ∀ a o, H a = some o → H' a = some o) : Ge H H' := fun a o e => .of (h a o e)
theorem Ge.new {H : Hp} {p : Addr} {o : HO} (h : H p = none) : Ge H (upd H p o) := .same fun a u e => by
  rw [upd_ne (ne_of_none e h)]
  exact e
theorem Ge.free {H H' : Hp} {p : Addr} (g : Ge H H') (h : H' p = none) : H p = none := by
  cases e : H p with
  | none => rfl
  | some o =>
    obtain ⟨u, z⟩ := (g p o e).there
    rw [h] at z
    cases z
/-- an object that H does not know may change -/
theorem Ge.mut {H H' : Hp} {p : Addr} {o : HO} (g : Ge H H') (h : H p = none) : Ge H (upd H' p o) := fun a u e => by
  have n : a ≠ p := ne_of_none e h
  have k := g a u e
  cases u with
  | tbl ps =>
    obtain ⟨qs, h1, h2⟩ := k
    exact ⟨qs, by rw [upd_ne n]; exact h1, h2⟩
  | _ => exact (upd_ne n).trans k
/-- the same object is written on both sides -/
theorem Ge.upd {H H' : Hp} {p : Addr} {o : HO} (g : Ge H H') : Ge (upd H p o) (upd H' p o) := fun a u e => by
  by_cases n : a = p
  · subst n
    rw [upd_same] at e
    cases e
    exact .of upd_same
  · rw [upd_ne n] at e
    have k := g a u e
    cases u with
    | tbl ps =>
      obtain ⟨qs, h1, h2⟩ := k
      exact ⟨qs, by rw [upd_ne n]; exact h1, h2⟩
    | _ => exact (upd_ne n).trans k
theorem Ge.tabG {H H' : Hp} {P : Addr} (g : Ge H H') (h : GxR.TabG H P) : GxR.TabG H' P := by
  obtain ⟨ps, h1, h2⟩ := h
  obtain ⟨qs, h3, h4⟩ := (show ∃ qs : Array Value, H' P = some (.tbl qs) ∧ (TriplesOk ps.toList → TriplesOk qs.toList) from g P _ h1)
  exact ⟨qs, h3, h4 h2⟩
theorem Ge.tabbed {H H' : Hp} {P : Addr} (h : GxR.TabG H P) (t : GxR.Tabbed P H H') : Ge H H' := fun a o e => by
  by_cases n : a = P
  · subst n
    obtain ⟨ps, h1, _⟩ := h
    obtain ⟨⟨qs, h3, h4⟩, _⟩ := t
    rw [h1] at e
    cases e
    exact ⟨qs, h3, fun _ => h4⟩
  · exact .of ((t.2 a n).trans e)
theorem Ge.rd {H H' : Hp} {a : Addr} {xs : List V} (g : Ge H H') (h : Rd H a (.lst xs)) : Rd H' a (.lst xs) := by
  rcases h with h | ⟨o, h⟩
  · exact .inl (g a _ h)
  · exact .inr ⟨o, g a _ h⟩
theorem Ge.rdT {H H' : Hp} {a : Addr} {xs : List V} (g : Ge H H') (h : Rd H a (.tup xs)) : Rd H' a (.tup xs) := by
  rcases h with h | ⟨o, h⟩
  · exact .inl (g a _ h)
  · exact .inr ⟨o, g a _ h⟩
theorem Ge.l {K : PySem.W.Frag} {H H' : Hp} {a : Addr} {xs : List V} (g : Ge H H') (h : SqL K H a xs) : SqL K H' a xs := by
  rcases h with h | h
  · exact .inl (g.rd h)
  · exact .inr h
theorem Ge.t {K : PySem.W.Frag} {H H' : Hp} {a : Addr} {xs : List V} (g : Ge H H') (h : SqT K H a xs) : SqT K H' a xs := by
  rcases h with h | h
  · exact .inl (g.rdT h)
  · exact .inr h
mutual
theorem Ge.d {K : PySem.W.Frag} {H H' : Hp} (g : Ge H H') : ∀ {v : V} {d : PyData}, Dp K H v d → Dp K H' v d
  | _, _, .non => .non
  | _, _, .bl b => .bl b
  | _, _, .int i => .int i
  | _, _, .str x => .str x
  | _, _, .lst h a => .lst (g.l h) (Ge.ds g a)
  | _, _, .tup h a => .tup (g.t h) (Ge.ds g a)
theorem Ge.ds {K : PySem.W.Frag} {H H' : Hp} (g : Ge H H') : ∀ {vs : List V} {ds : List PyData}, DpAll K H vs ds → DpAll K H' vs ds
  | _, _, .nil => .nil
  | _, _, .cons h a => .cons (Ge.d g h) (Ge.ds g a)
end
/-! ### what a reading comes to -/
def EvR (te : TE) (σ : L2.St) (H : Hp) (R : Hp → V → Hp → Prop) : Prop := ∀ H1, Ge H H1 → ∀ Q : VK, (∀ v H2, Ge H1 H2 → R H1 v H2 → Q v H2) → te σ H1 Q
def Ev (te : TE) (σ : L2.St) (H : Hp) (v : V) : Prop := EvR te σ H (fun _ u _ => u = v)
def EvF (te : TE) (σ : L2.St) (H : Hp) (o : HO) : Prop := EvR te σ H (fun H1 u H2 => ∃ p, u = .ref p ∧ H1 p = none ∧ H2 p = some o)
def EvD (K : PySem.W.Frag) (te : TE) (σ : L2.St) (H : Hp) (d : PyData) : Prop := EvR te σ H (fun _ u H2 => Dp K H2 u d)
def EvT (tt : TT) (σ : L2.St) (H : Hp) (b : Bool) : Prop := ∀ H1, Ge H H1 → ∀ Q : Bool → Hp → Prop, (∀ H2, Ge H1 H2 → Q b H2) → tt σ H1 Q
def EvA (ta : TA) (σ : L2.St) (H : Hp) (vs : List V) : Prop := ∀ H1, Ge H H1 → ∀ Q : List V → Hp → Prop, (∀ H2, Ge H1 H2 → Q vs H2) → ta σ H1 Q
def EvO (to : TO) (σ : L2.St) (H : Hp) (o : Option Int) : Prop := ∀ H1, Ge H H1 → ∀ Q : Option Int → Hp → Prop, (∀ H2, Ge H1 H2 → Q o H2) → to σ H1 Q
/-- an operation on values -/
def RV (r : R2) (x y : V) (H : Hp) (z : V) : Prop := ∀ H1, Ge H H1 → ∀ Q : VK, (∀ H2, Ge H1 H2 → Q z H2) → r x y H1 Q
def RC (r : List V → Hp → VK → Prop) (vs : List V) (H : Hp) (z : V) : Prop := ∀ H1, Ge H H1 → ∀ Q : VK, (∀ H2, Ge H1 H2 → Q z H2) → r vs H1 Q
/-- a def's promise: the value; by R -/
def PvR (sp : Sp) (vs : List V) (H : Hp) (R : Hp → V → Hp → Prop) : Prop := ∀ H1, Ge H H1 → ∀ (Q : VK) (E : XK), (∀ v H2, Ge H1 H2 → R H1 v H2 → Q v H2) → sp vs H1 Q E
section
variable {K : PySem.W.Frag} {σ : L2.St} {H H' : Hp} {ta tb te tc : TE} {t u : TT} {x y z v : V} {r : R2} {o : HO} {R : Hp → V → Hp → Prop} {b : Bool}
theorem EvR.mono (g : Ge H H') (h : EvR te σ H R) : EvR te σ H' R := fun H1 g1 Q q => h H1 (g.trans g1) Q q
theorem Ev.mono (g : Ge H H') (h : Ev te σ H v) : Ev te σ H' v := EvR.mono g h
theorem EvF.mono (g : Ge H H') (h : EvF te σ H o) : EvF te σ H' o := EvR.mono g h
theorem EvD.mono {d : PyData} (g : Ge H H') (h : EvD K te σ H d) : EvD K te σ H' d := EvR.mono g h
theorem EvT.mono (g : Ge H H') (h : EvT t σ H b) : EvT t σ H' b := fun H1 g1 Q q => h H1 (g.trans g1) Q q
theorem EvA.mono {ta : TA} {vs : List V} (g : Ge H H') (h : EvA ta σ H vs) : EvA ta σ H' vs := fun H1 g1 Q q => h H1 (g.trans g1) Q q
/-- the value as it goes on -/
theorem Ev.go (h : Ev te σ H v) {H1 : Hp} (g : Ge H H1) {Q : VK} (q : ∀ H2, Ge H1 H2 → Q v H2) : te σ H1 Q := h H1 g Q fun w H2 g2 e => by
  subst e
  exact q H2 g2
theorem Ev.mk (h : ∀ H1, Ge H H1 → ∀ Q : VK, (∀ H2, Ge H1 H2 → Q v H2) → te σ H1 Q) : Ev te σ H v := fun H1 g Q q => h H1 g Q fun H2 g2 => q v H2 g2 rfl
theorem EvF.mk (h : ∀ H1, Ge H H1 → ∀ Q : VK, (∀ p H2, H1 p = none → Ge H1 H2 → H2 p = some o → Q (.ref p) H2) → te σ H1 Q) : EvF te σ H o := fun H1 g Q q => h H1 g Q fun p H2 n g2 e => q _ H2 g2 ⟨p, rfl, n, e⟩
theorem EvF.go (h : EvF te σ H o) {H1 : Hp} (g : Ge H H1) {Q : VK} (q : ∀ p H2, H1 p = none → Ge H1 H2 → H2 p = some o → Q (.ref p) H2) : te σ H1 Q := h H1 g Q fun w H2 g2 ⟨p, e, n, z⟩ => by
  subst e
  exact q p H2 n g2 z
theorem Ev.is {w : V} (h : Ev te σ H v) (e : v = w) : Ev te σ H w := e ▸ h
theorem EvT.is {c : Bool} (h : EvT t σ H b) (e : b = c) : EvT t σ H c := e ▸ h
theorem EvF.is {o' : HO} (h : EvF te σ H o) (e : o = o') : EvF te σ H o' := e ▸ h
theorem ev_var {i : Nat} (h : σ[i]? = some (some v)) : Ev (tVar i) σ H v := .mk fun H1 _ _ q => ⟨v, h, q H1 (Ge.refl H1)⟩
theorem ev_c : Ev (tC v) σ H v := .mk fun H1 _ _ q => q H1 (Ge.refl H1)
theorem ev_op (ha : Ev ta σ H x) (hb : Ev tb σ H y) (hr : RV r x y H z) : Ev (tOp r ta tb) σ H z := .mk fun H1 g Q q =>
  ha.go g fun H2 g2 => hb.go (g.trans g2) fun H3 g3 => hr H3 ((g.trans g2).trans g3) Q fun H4 g4 => q H4 ((g2.trans g3).trans g4)
theorem ev_opF (ha : EvF ta σ H o) (hb : Ev tb σ H y) (hr : ∀ p H1, Ge H H1 → H1 p = some o → RV r (.ref p) y H1 z) (ho : ∀ ps, o ≠ .tbl ps := by intro _ e; cases e) : Ev (tOp r ta tb) σ H z := .mk fun H1 g Q q =>
  ha.go g fun p H2 _ g2 e => hb.go (g.trans g2) fun H3 g3 => hr p H2 (g.trans g2) e H3 g3 Q fun H4 g4 => q H4 ((g2.trans g3).trans g4)
theorem ev_opR (ha : Ev ta σ H x) (hb : EvF tb σ H o) (hr : ∀ p H1, Ge H H1 → H1 p = some o → RV r x (.ref p) H1 z) : Ev (tOp r ta tb) σ H z := .mk fun H1 g Q q =>
  ha.go g fun H2 g2 => hb.go (g.trans g2) fun p H3 _ g3 e => hr p H3 ((g.trans g2).trans g3) e H3 (Ge.refl H3) Q fun H4 g4 => q H4 ((g2.trans g3).trans g4)
theorem rv_mk (h : ∀ H1, Ge H H1 → ∀ Q : VK, Q z H1 → r x y H1 Q) : RV r x y H z := fun H1 g Q q => h H1 g Q (q H1 (Ge.refl H1))
theorem rv_I0 {f : Int → Int → V} {i j : Int} : RV (rI0 f) (.int i) (.int j) H (f i j) := rv_mk fun H1 _ Q q => ⟨i, j, rfl, rfl, q⟩
theorem rv_I {C : Int → Int → Prop} {f : Int → Int → V} {i j : Int} (hc : C i j) : RV (rI C f) (.int i) (.int j) H (f i j) := rv_mk fun H1 _ Q q => ⟨i, j, rfl, rfl, hc, q⟩
theorem rv_eq (h : scal x y = true) : RV rEq x y H (.bl (decide (x = y))) := rv_mk fun H1 _ Q q => ⟨h, q⟩
theorem rv_ne (h : scal x y = true) : RV rNe x y H (.bl (!decide (x = y))) := rv_mk fun H1 _ Q q => ⟨h, q⟩
theorem ev_un {r : V → Hp → VK → Prop} (ha : Ev ta σ H x) (hr : ∀ H1 (Q : VK), Q z H1 → r x H1 Q) : Ev (tUn r ta) σ H z := .mk fun H1 g Q q => ha.go g fun H2 g2 => hr H2 Q (q H2 g2)
theorem ev_neg {i : Int} (ha : Ev ta σ H (.int i)) : Ev (tUn (rU fun i => .int (-i)) ta) σ H (.int (-i)) := ev_un ha fun _ _ q => ⟨i, rfl, q⟩
theorem rv_ixL {p : Addr} {xs : List V} {i : Int} (h : SqL K H p xs) (ha : atI xs i = some v) : RV (rIxL K) (.ref p) (.int i) H v := rv_mk fun H1 g Q q => ⟨p, xs, i, v, rfl, rfl, g.l h, ha, q⟩
theorem rv_ixT {p : Addr} {xs : List V} {i : Int} (h : SqT K H p xs) (ha : atI xs i = some v) : RV (rIxT K) (.ref p) (.int i) H v := rv_mk fun H1 g Q q => ⟨p, xs, i, v, rfl, rfl, g.t h, ha, q⟩
theorem rv_ixS {w : Str} {i : Int} {c : Nat} (h : w.length ≤ sizeLine) (ha : atI w.cps.toList i = some c) : RV rIxS (.str w) (.int i) H (.str ⟨#[c]⟩) := rv_mk fun H1 _ Q q => ⟨w, i, c, rfl, rfl, h, ha, q⟩
theorem rv_addS {a b : Str} (h : a.length + b.length ≤ sizeLine) : RV (fun x y H Q => ∃ i j, x = V.str i ∧ y = .str j ∧ i.length + j.length ≤ sizeLine ∧ Q (.str (i ++ j)) H) (.str a) (.str b) H (.str (a ++ b)) :=
  rv_mk fun H1 _ Q q => ⟨a, b, rfl, rfl, h, q⟩
theorem et_test (h : Ev te σ H (.bl b)) : EvT (tTest te) σ H b := fun H1 g _ q => h.go g fun H2 g2 => ⟨b, rfl, q H2 g2⟩
theorem et_B (h : Ev te σ H (.bl b)) : EvT (tB te) σ H b := fun H1 g _ q => h.go g fun H2 g2 => ⟨b, rfl, q H2 g2⟩
theorem et_and {a b : Bool} (h1 : EvT t σ H a) (h2 : a = true → EvT u σ H b) : EvT (tAnd t u) σ H (a && b) := fun H1 g Q q => h1 H1 g _ fun H2 g2 => by
  cases a with
  | true => exact h2 rfl H2 (g.trans g2) Q fun H3 g3 => q H3 (g2.trans g3)
  | false => exact q H2 g2
theorem et_or {a b : Bool} (h1 : EvT t σ H a) (h2 : a = false → EvT u σ H b) : EvT (tOr t u) σ H (a || b) := fun H1 g Q q => h1 H1 g _ fun H2 g2 => by
  cases a with
  | true => exact q H2 g2
  | false => exact h2 rfl H2 (g.trans g2) Q fun H3 g3 => q H3 (g2.trans g3)
theorem et_not {a : Bool} (h1 : EvT t σ H a) : EvT (tNot t) σ H (!a) := fun H1 g _ q => h1 H1 g _ q
theorem ev_andV {a b : Bool} (h1 : Ev ta σ H (.bl a)) (h2 : a = true → Ev tb σ H (.bl b)) : Ev (tAndV ta tb) σ H (.bl (a && b)) := .mk fun H1 g Q q => h1.go g fun H2 g2 => ⟨a, rfl, by
  cases a with
  | true => exact (h2 rfl).go (g.trans g2) fun H3 g3 => q H3 (g2.trans g3)
  | false => exact q H2 g2⟩
theorem ev_orV {a b : Bool} (h1 : Ev ta σ H (.bl a)) (h2 : a = false → Ev tb σ H (.bl b)) : Ev (tOrV ta tb) σ H (.bl (a || b)) := .mk fun H1 g Q q => h1.go g fun H2 g2 => ⟨a, rfl, by
  cases a with
  | true => exact q H2 g2
  | false => exact (h2 rfl).go (g.trans g2) fun H3 g3 => q H3 (g2.trans g3)⟩
theorem ev_notV {a : Bool} (h1 : Ev ta σ H (.bl a)) : Ev (tNotV ta) σ H (.bl (!a)) := .mk fun H1 g _ q => h1.go g fun H2 g2 => ⟨a, rfl, q H2 g2⟩
theorem ev_ifR (h : EvT t σ H b) (h1 : b = true → EvR ta σ H R) (h2 : b = false → EvR tb σ H R) (hR : ∀ H1 H2 v H3, Ge H1 H2 → R H2 v H3 → R H1 v H3) : EvR (tIf t ta tb) σ H R := fun H1 g Q q => h H1 g _ fun H2 g2 => by
  cases b with
  | true => exact h1 rfl H2 (g.trans g2) Q fun v H3 g3 e => q v H3 (g2.trans g3) (hR H1 H2 v H3 g2 e)
  | false => exact h2 rfl H2 (g.trans g2) Q fun v H3 g3 e => q v H3 (g2.trans g3) (hR H1 H2 v H3 g2 e)
theorem ev_if (h : EvT t σ H b) (h1 : b = true → Ev ta σ H v) (h2 : b = false → Ev tb σ H v) : Ev (tIf t ta tb) σ H v := ev_ifR h h1 h2 fun _ _ _ _ _ e => e
theorem ev_ifF (h : EvT t σ H b) (h1 : b = true → EvF ta σ H o) (h2 : b = false → EvF tb σ H o) : EvF (tIf t ta tb) σ H o := ev_ifR h h1 h2 fun _ _ _ _ g ⟨p, e1, e2, e3⟩ => ⟨p, e1, g.free e2, e3⟩
/-- a op1 b op2 c -/
theorem ev_chain {r' : R2} {k k' : Bool} (ha : Ev ta σ H x) (hb : Ev tb σ H y) (hr : RV r x y H (.bl k)) (hc : k = true → Ev tc σ H z) (hr' : k = true → RV r' y z H (.bl k')) : Ev (tChain r r' ta tb tc) σ H (.bl (k && k')) := .mk fun H1 g Q q =>
  ha.go g fun H2 g2 => hb.go (g.trans g2) fun H3 g3 => hr H3 ((g.trans g2).trans g3) _ fun H4 g4 => ⟨k, rfl, by
    have g5 := ((g.trans g2).trans g3).trans g4
    have g6 := (g2.trans g3).trans g4
    cases k with
    | true =>
      refine iteT ((hc rfl).go g5 fun H5 g7 => ?_)
      exact hr' rfl H5 (g5.trans g7) Q fun H6 g8 => q H6 ((g6.trans g7).trans g8)
    | false => exact iteF (q H4 g6)⟩
theorem ea_nil : EvA tNil σ H [] := fun H1 _ _ q => q H1 (Ge.refl H1)
theorem ea_cons {tr : TA} {vs : List V} (h : Ev ta σ H x) (hr : EvA tr σ H vs) : EvA (tCons ta tr) σ H (x :: vs) := fun H1 g _ q =>
  h.go g fun H2 g2 => hr H2 (g.trans g2) _ fun H3 g3 => q H3 (g2.trans g3)
theorem ef_tup {ta : TA} {vs : List V} (h : EvA ta σ H vs) (hl : vs.length ≤ sizeLine) : EvF (tTup ta) σ H (.tup vs) := .mk fun H1 g _ q =>
  h H1 g _ fun H2 g2 => ⟨hl, fun p hp => q p _ (g2.free hp) (g2.trans (Ge.new hp)) upd_same⟩
theorem ef_lst {ta : TA} {vs : List V} (h : EvA ta σ H vs) (hl : vs.length ≤ sizeLine) : EvF (tLst ta) σ H (.lst vs) := .mk fun H1 g _ q =>
  h H1 g _ fun H2 g2 => ⟨hl, fun p hp => q p _ (g2.free hp) (g2.trans (Ge.new hp)) upd_same⟩
theorem eo_none : EvO tNoPart σ H none := fun H1 _ _ q => q H1 (Ge.refl H1)
theorem eo_some {i : Int} (h : Ev te σ H (.int i)) : EvO (tPart te) σ H (some i) := fun H1 g _ q => h.go g fun H2 g2 => ⟨i, rfl, q H2 g2⟩
theorem ef_sl {tl th : TO} {a : Addr} {xs : List V} {lo hi : Option Int} (h : Ev te σ H (.ref a)) (h1 : EvO tl σ H lo) (h2 : EvO th σ H hi) (hs : SqL K H a xs) : EvF (tSl (rSlL K) te tl th) σ H (.lst (cutV xs lo hi)) := .mk fun H1 g _ q =>
  h.go g fun H2 g2 => h1 H2 (g.trans g2) _ fun H3 g3 => h2 H3 ((g.trans g2).trans g3) _ fun H4 g4 =>
    ⟨a, xs, rfl, (((g.trans g2).trans g3).trans g4).l hs, fun p hp => q p _ (((g2.trans g3).trans g4).free hp) (((g2.trans g3).trans g4).trans (Ge.new hp)) upd_same⟩
theorem ev_slS {tl th : TO} {w : Str} {lo hi : Option Int} (h : Ev te σ H (.str w)) (h1 : EvO tl σ H lo) (h2 : EvO th σ H hi) (hs : w.length ≤ sizeLine) : Ev (tSl rSlS te tl th) σ H (.str (cutS w lo hi)) := .mk fun H1 g _ q =>
  h.go g fun H2 g2 => h1 H2 (g.trans g2) _ fun H3 g3 => h2 H3 ((g.trans g2).trans g3) _ fun H4 g4 => ⟨w, rfl, hs, q H4 ((g2.trans g3).trans g4)⟩
theorem ev_cb {r : List V → Hp → VK → Prop} {ta : TA} {vs : List V} (h : EvA ta σ H vs) (hr : RC r vs H z) : Ev (tCB r ta) σ H z := .mk fun H1 g Q q =>
  h H1 g _ fun H2 g2 => hr H2 (g.trans g2) Q fun H3 g3 => q H3 (g2.trans g3)
/-- of one argument by R -/
theorem ev_cbR {r : List V → Hp → VK → Prop} (h : EvR te σ H R) (hr : ∀ H1 w H2, Ge H H1 → Ge H1 H2 → R H1 w H2 → RC r [w] H2 z) : Ev (tCB r (tCons te tNil)) σ H z := .mk fun H1 g Q q =>
  h H1 g _ fun w H2 g2 e => hr H1 w H2 g g2 e H2 (Ge.refl H2) Q fun H3 g3 => q H3 (g2.trans g3)
theorem ev_cbF {r : List V → Hp → VK → Prop} (h : EvF te σ H o) (hr : ∀ p H1, Ge H H1 → H1 p = some o → RC r [.ref p] H1 z) : Ev (tCB r (tCons te tNil)) σ H z := ev_cbR h fun H1 w H2 g g2 ⟨p, e, _, h2⟩ => by
  subst e
  exact hr p H2 (g.trans g2) h2
theorem rc_mk {r : List V → Hp → VK → Prop} {vs : List V} (h : ∀ H1, Ge H H1 → ∀ Q : VK, Q z H1 → r vs H1 Q) : RC r vs H z := fun H1 g Q q => h H1 g Q (q H1 (Ge.refl H1))
/-- a call of a def by its promise -/
theorem ev_callR {sp : Sp} {E : XK} {ta : TA} {vs : List V} (h : EvA ta σ H vs) (hs : PvR sp vs H R) (hR : ∀ H1 H2 v H3, Ge H1 H2 → R H2 v H3 → R H1 v H3) : EvR (tCall sp [] E ta) σ H R := fun H1 g Q q =>
  h H1 g _ fun H2 g2 => by
    show sp (vs ++ []) H2 Q E
    rw [List.append_nil]
    exact hs H2 (g.trans g2) Q E fun v H3 g3 e => q v H3 (g2.trans g3) (hR H1 H2 v H3 g2 e)
theorem ev_call {sp : Sp} {E : XK} {ta : TA} {vs : List V} (h : EvA ta σ H vs) (hs : PvR sp vs H (fun _ u _ => u = v)) : Ev (tCall sp [] E ta) σ H v := ev_callR h hs fun _ _ _ _ _ e => e
theorem ef_call {sp : Sp} {E : XK} {ta : TA} {vs : List V} (h : EvA ta σ H vs) (hs : PvR sp vs H (fun H1 u H2 => ∃ p, u = .ref p ∧ H1 p = none ∧ H2 p = some o)) : EvF (tCall sp [] E ta) σ H o := ev_callR h hs fun _ _ _ _ g ⟨p, e1, e2, e3⟩ => ⟨p, e1, g.free e2, e3⟩
theorem ed_call {sp : Sp} {E : XK} {ta : TA} {vs : List V} {d : PyData} (h : EvA ta σ H vs) (hs : PvR sp vs H (fun _ u H2 => Dp K H2 u d)) : EvD K (tCall sp [] E ta) σ H d := ev_callR h hs fun _ _ _ _ _ e => e
end
/-! ### walks -/
def EvI (wi : TI) (σ : L2.St) (H : Hp) (n : Nat) (Y : Nat → Hp → V → Hp → Prop) (S : Addr → Hp → Prop) : Prop :=
  (∀ p Ha Hb, Ge Ha Hb → S p Ha → S p Hb) ∧ ∀ H1, Ge H H1 → ∀ R : It → Hp → Prop, (∀ (J : It) p H2, Ge H1 H2 → Walk J n (S p) Y → S p H2 → R J H2) → wi σ H1 R
/-- a target: the slots behind it -/
def EvG (g : TG) (x : V) (σ : L2.St) (H : Hp) (σ' : L2.St) : Prop := ∀ H1, Ge H H1 → ∀ Q : L2.St → Hp → Prop, Q σ' H1 → g x σ H1 Q
abbrev YStr (z : Str) : Nat → Hp → V → Hp → Prop := fun i H v H' => H' = H ∧ ∃ c, z.cps[i]? = some c ∧ v = .str ⟨#[c]⟩
section
variable {K : PySem.W.Frag} {σ : L2.St} {H H' : Hp} {tl te : TE} {xs : List V} {a : Addr}
theorem ei_list (h : Ev tl σ H (.ref a)) (hs : SqL K H a xs) : EvI (iList K tl) σ H xs.length (YAt xs) (fun _ H => SqL K H a xs) := ⟨fun _ _ _ g h => g.l h, fun H1 g R q =>
  h.go g fun H2 g2 => ⟨a, rfl, ⟨xs, (g.trans g2).l hs⟩, q _ a H2 g2 walk_list ((g.trans g2).l hs)⟩⟩
theorem ei_listF (h : EvF tl σ H (.lst xs)) : EvI (iList K tl) σ H xs.length (YAt xs) (fun p H => H p = some (.lst xs)) := ⟨fun p _ _ g h => g p _ h, fun H1 g R q =>
  h.go g fun p H2 _ g2 e => ⟨p, rfl, ⟨xs, .of e⟩, q _ p H2 g2 (walk_list.mono (fun _ z => .of z) fun _ _ _ _ _ _ y => y) e⟩⟩
theorem ei_range {n : Nat} {ta : TE} (h : Ev ta σ H (.int (n : Int))) (hn : n ≤ 1000000) : EvI (iRng1 (tCons ta tNil)) σ H n (YFn fun i => .int (i : Int)) (fun _ _ => True) := ⟨fun _ _ _ _ _ => trivial, fun H1 g R q =>
  h.go g fun H2 g2 => ⟨(n : Int), rfl, by omega, by omega, by
    rw [Int.toNat_natCast]
    exact q _ 0 H2 g2 (walk_range.mono (fun _ z => z) fun i H x H' _ _ y => ⟨y.1, y.2.trans (congrArg V.int (Int.zero_add _))⟩) trivial⟩⟩
theorem ei_str {z : Str} (h : Ev te σ H (.str z)) : EvI (iStr te) σ H z.cps.size (YStr z) (fun _ _ => True) := ⟨fun _ _ _ _ _ => trivial, fun H1 g R q =>
  h.go g fun H2 g2 => ⟨z, rfl, q _ 0 H2 g2 walk_str trivial⟩⟩
theorem eg_name {i : Nat} {x : V} : EvG (gName i) x σ H (σ.set i (some x)) := fun _ _ _ q => q
theorem eg_tup2 {i j : Nat} {p : Addr} {x y : V} (h : SqT K H p [x, y]) : EvG (gTup K 2 (gCons (gName i) (gCons (gName j) gNil))) (.ref p) σ H ((σ.set i (some x)).set j (some y)) := fun H1 g _ q =>
  ⟨p, [x, y], rfl, g.t h, rfl, x, [y], rfl, y, [], rfl, rfl, q⟩
theorem eg_tup3 {i j k : Nat} {p : Addr} {x y z : V} (h : SqT K H p [x, y, z]) : EvG (gTup K 3 (gCons (gName i) (gCons (gName j) (gCons (gName k) gNil)))) (.ref p) σ H (((σ.set i (some x)).set j (some y)).set k (some z)) := fun H1 g _ q =>
  ⟨p, [x, y, z], rfl, g.t h, rfl, x, [y, z], rfl, y, [z], rfl, z, [], rfl, rfl, q⟩
end
/-- the places that are kept -/
def kps (keep : Nat → Bool) (n : Nat) : List Nat := (List.range n).filter keep
theorem kps_succ (keep : Nat → Bool) (n : Nat) : kps keep (n + 1) = if keep n = true then kps keep n ++ [n] else kps keep n := by
  unfold kps
  rw [List.range_succ, List.filter_append]
  cases h : keep n <;> simp [h]
theorem kps_le (keep : Nat → Bool) (n : Nat) : (kps keep n).length ≤ n := by
  have h := List.length_filter_le keep (List.range n)
  rw [List.length_range] at h
  exact h
theorem paired_snoc {α β : Type} {F : α → β → Prop} : ∀ {l : List α} {m : List β} {x : α} {y : β}, Paired F l m → F x y → Paired F (l ++ [x]) (m ++ [y])
  | _, _, _, _, .nil, h => .cons h .nil
  | _, _, _, _, .cons r t, h => .cons r (paired_snoc t h)
/-- all but D is kept -/
def But (D : Addr) (H H' : Hp) : Prop := ∀ a o, a ≠ D → H a = some o → Kept H' a o
/-- a list comprehension: keep tells which turns are kept, E what an element is when it comes, F what it is later (the list at D grows meanwhile) -/
theorem elc {σ : L2.St} {H : Hp} {wi : TI} {g : TG} {tt : TT} {te : TE} {vs : List Nat} {n : Nat} {Y : Nat → Hp → V → Hp → Prop} {S : Addr → Hp → Prop} (hi : EvI wi σ H n Y S) (hn : n ≤ sizeLine) (hY : ∀ i H1 x H2, Y i H1 x H2 → Ge H1 H2)
    (keep : Nat → Bool) (E : Nat → Hp → V → Hp → Prop) (F : Addr → Nat → V → Hp → Prop) (hF : ∀ D i y H1 H2 acc, H1 D = some (.lst acc) → E i H1 y H2 → F D i y H2) (kF : ∀ D i y H1 H2, But D H1 H2 → F D i y H1 → F D i y H2)
    (turn : ∀ i x H1 H2, i < n → Ge H H1 → Y i H1 x H2 → ∃ σ2, EvG g x (wipe σ vs) H2 σ2 ∧ wipe σ2 vs = wipe σ vs ∧ EvT tt σ2 H2 (keep i) ∧ (keep i = true → EvR te σ2 H2 (E i))) :
    EvR (tLc wi g tt te vs) σ H (fun H1 v H2 => ∃ p ys, v = .ref p ∧ H1 p = none ∧ H2 p = some (.lst ys) ∧ Paired (fun i y => F p i y H2) (kps keep n) ys) := fun H1 g1 Q q =>
  hi.2 H1 g1 _ fun J p H2 g2 w hG D hD => by
    have nD : H1 D = none := g2.free hD
    have frame : ∀ {Ha Hb : Hp} {acc : List V}, Ge H2 Ha → Ge Ha Hb → Ge H2 (upd Hb D (.lst acc)) := fun k1 k2 => (k1.trans k2).mut hD
    refine lc_it w (fun i Hh => ∃ acc, Ge H2 Hh ∧ Hh D = some (.lst acc) ∧ Paired (fun i y => F D i y Hh) (kps keep i) acc) ⟨[], .new hD, upd_same, .nil⟩ ?_ ?_ ?_
    · rintro i Hh _ ⟨acc, k1, k2, k4⟩
      exact hi.1 p _ _ k1 hG
    · rintro i x Hh Hi hlt ⟨acc, k1, k2, k4⟩ y
      have kH := (g1.trans g2).trans k1
      obtain ⟨σ2, e1, e2, e3, e4⟩ := turn i x Hh Hi hlt kH y
      have ky := hY i Hh x Hi y
      have len : acc.length ≤ i := by
        rw [← k4.length]
        exact kps_le keep i
      refine e1 Hi (.refl _) _ ⟨e2, ?_⟩
      refine e3 Hi (.refl _) _ fun Hj kj => ?_
      have gj := ky.trans kj
      cases hk : keep i with
      | false =>
        refine iteF ⟨acc, k1.trans gj, gj D _ k2, ?_⟩
        rw [kps_succ, hk]
        exact L2.Paired.mapP k4 fun a b h => kF D a b _ _ (fun c o _ e => gj c o e) h
      | true =>
        refine iteT ((e4 hk) Hj kj _ fun z Hk kk ez => ?_)
        have gk := gj.trans kk
        have hb : But D Hk (upd Hk D (.lst (acc ++ [z]))) := fun a o n e => .of ((upd_ne n).trans e)
        refine ⟨acc, gk D _ k2, by omega, acc ++ [z], frame k1 gk, upd_same, ?_⟩
        rw [kps_succ, hk, if_pos rfl]
        refine paired_snoc (L2.Paired.mapP k4 fun a b h => kF D a b _ _ hb (kF D a b _ _ (fun c o _ e => gk c o e) h)) ?_
        exact kF D i z _ _ hb (hF D i z _ _ acc (gj D _ k2) ez)
    · rintro Hh ⟨acc, k1, k2, k4⟩
      exact q _ Hh (g2.trans k1) ⟨D, acc, rfl, nD, k2, k4⟩
theorem paired_map {α β : Type} {f : α → β} : ∀ {l : List α} {m : List β}, Paired (fun a b => b = f a) l m → m = l.map f
  | _, _, .nil => rfl
  | _, _, .cons h t => by rw [h, paired_map t] <;> rfl
/-- elements that are known values -/
theorem elc_val {σ : L2.St} {H : Hp} {wi : TI} {g : TG} {tt : TT} {te : TE} {vs : List Nat} {n : Nat} {Y : Nat → Hp → V → Hp → Prop} {S : Addr → Hp → Prop} (hi : EvI wi σ H n Y S) (hn : n ≤ sizeLine) (hY : ∀ i H1 x H2, Y i H1 x H2 → Ge H1 H2)
    (keep : Nat → Bool) (val : Nat → V)
    (turn : ∀ i x H1 H2, i < n → Ge H H1 → Y i H1 x H2 → ∃ σ2, EvG g x (wipe σ vs) H2 σ2 ∧ wipe σ2 vs = wipe σ vs ∧ EvT tt σ2 H2 (keep i) ∧ (keep i = true → Ev te σ2 H2 (val i))) :
    EvF (tLc wi g tt te vs) σ H (.lst ((kps keep n).map val)) := fun H1 g1 Q q =>
  elc hi hn hY keep (fun i _ y _ => y = val i) (fun _ i y _ => y = val i) (fun _ _ _ _ _ _ _ e => e) (fun _ _ _ _ _ _ e => e) turn H1 g1 Q fun v H2 g2 ⟨p, ys, e1, e2, e3, e4⟩ => q v H2 g2 ⟨p, e1, e2, by rw [e3, paired_map e4]⟩
/-- elements that are new objects -/
theorem elc_obj {σ : L2.St} {H : Hp} {wi : TI} {g : TG} {tt : TT} {te : TE} {vs : List Nat} {n : Nat} {Y : Nat → Hp → V → Hp → Prop} {S : Addr → Hp → Prop} (hi : EvI wi σ H n Y S) (hn : n ≤ sizeLine) (hY : ∀ i H1 x H2, Y i H1 x H2 → Ge H1 H2)
    (keep : Nat → Bool) (ob : Nat → HO) (ht : ∀ i ps, ob i ≠ .tbl ps)
    (turn : ∀ i x H1 H2, i < n → Ge H H1 → Y i H1 x H2 → ∃ σ2, EvG g x (wipe σ vs) H2 σ2 ∧ wipe σ2 vs = wipe σ vs ∧ EvT tt σ2 H2 (keep i) ∧ (keep i = true → EvF te σ2 H2 (ob i))) :
    EvR (tLc wi g tt te vs) σ H (fun H1 v H2 => ∃ p ys, v = .ref p ∧ H1 p = none ∧ H2 p = some (.lst ys) ∧ Paired (fun i y => ∃ a, y = .ref a ∧ H2 a = some (ob i)) (kps keep n) ys) := fun H1 g1 Q q =>
  elc hi hn hY keep (fun i H1 y H2 => ∃ a, y = .ref a ∧ H1 a = none ∧ H2 a = some (ob i)) (fun D i y H => ∃ a, a ≠ D ∧ y = .ref a ∧ H a = some (ob i))
    (fun D i y H1 H2 acc hD ⟨a, e1, e2, e3⟩ => ⟨a, (fun z => by
      rw [z, hD] at e2
      cases e2), e1, e3⟩)
    (fun D i y H1 H2 hb ⟨a, n, e1, e2⟩ => ⟨a, n, e1, by
      have k := hb a _ n e2
      have t := ht i
      cases ho : ob i with
      | tbl ps => exact absurd ho (t ps)
      | _ =>
        rw [ho] at k
        exact k⟩)
    turn H1 g1 Q fun v H2 g2 ⟨p, ys, e1, e2, e3, e4⟩ => q v H2 g2 ⟨p, ys, e1, e2, e3, L2.Paired.mapP e4 fun i y ⟨a, _, x1, x2⟩ => ⟨a, x1, x2⟩⟩
/-! ### statements -/
def Do (t : TS) (D : Ends) (σ : L2.St) (H : Hp) : Prop := ∀ H1, Ge H H1 → t D σ H1
section
variable {K : PySem.W.Frag} {σ : L2.St} {H H' : Hp} {te tb : TE} {t u : TS} {tc : TT} {v : V} {D : Ends} {i : Nat} {b : Bool} {o : HO} {R : Hp → V → Hp → Prop}
theorem Do.mono (g : Ge H H') (h : Do t D σ H) : Do t D σ H' := fun H1 g1 => h H1 (g.trans g1)
theorem s_set (h : Ev te σ H v) (k : Do u D (σ.set i (some v)) H) : Do (tSeq (tAsg te (gName i)) u) D σ H := fun H1 g => h.go g fun H2 g2 => k H2 (g.trans g2)
theorem s_setR (h : EvR te σ H R) (k : ∀ H1 v H2, Ge H H1 → Ge H1 H2 → R H1 v H2 → Do u D (σ.set i (some v)) H2) : Do (tSeq (tAsg te (gName i)) u) D σ H := fun H1 g => h H1 g _ fun v H2 g2 r => k H1 v H2 g g2 r H2 (.refl _)
theorem s_setF (h : EvF te σ H o) (k : ∀ p H2, H p = none → Ge H H2 → H2 p = some o → Do u D (σ.set i (some (.ref p))) H2) : Do (tSeq (tAsg te (gName i)) u) D σ H := s_setR h fun H1 v H2 g g2 ⟨p, e, n, h2⟩ => by
  subst e
  exact k p H2 (g.free n) (g.trans g2) h2
theorem s_drop (h : Ev te σ H v) (k : Do u D σ H) : Do (tSeq (tDrop te) u) D σ H := fun H1 g => h.go g fun H2 g2 => k H2 (g.trans g2)
theorem s_ret (h : Ev te σ H v) (k : ∀ H1, Ge H H1 → D.rt v H1) : Do (tRet te) D σ H := fun H1 g => h.go g fun H2 g2 => k H2 (g.trans g2)
theorem s_retR (h : EvR te σ H R) (k : ∀ H1 v H2, Ge H H1 → Ge H1 H2 → R H1 v H2 → D.rt v H2) : Do (tRet te) D σ H := fun H1 g => h H1 g _ fun v H2 g2 r => k H1 v H2 g g2 r
theorem s_retF (h : EvF te σ H o) (k : ∀ p H2, H p = none → Ge H H2 → H2 p = some o → D.rt (.ref p) H2) : Do (tRet te) D σ H := s_retR h fun H1 v H2 g g2 ⟨p, e, n, h2⟩ => by
  subst e
  exact k p H2 (g.free n) (g.trans g2) h2
theorem s_if (h : EvT tc σ H b) (h1 : b = true → Do t D σ H) (h2 : b = false → Do u D σ H) : Do (tIfS tc t u) D σ H := fun H1 g => h H1 g _ fun H2 g2 => by
  cases b with
  | true => exact h1 rfl H2 (g.trans g2)
  | false => exact h2 rfl H2 (g.trans g2)
theorem s_seq (h : Do t { D with nx := u D } σ H) : Do (tSeq t u) D σ H := h
theorem s_next (k : ∀ H1, Ge H H1 → D.nx σ H1) : Do tNext D σ H := k
/-- if c: .. (and on) -/
theorem s_ifN (h : EvT tc σ H b) (h1 : b = true → Do t { D with nx := u D } σ H) (h2 : b = false → Do u D σ H) : Do (tSeq (tIfS tc t tNext) u) D σ H := s_seq (s_if h h1 fun e => h2 e)
theorem l_set (h : Ev te σ H v) (k : ∀ H1, Ge H H1 → D.nx (σ.set i (some v)) H1) : Do (tAsg te (gName i)) D σ H := fun H1 g => h.go g fun H2 g2 => k H2 (g.trans g2)
/-- a for over a walk: I is what holds between two turns; S p keeps the source -/
theorem s_for {wi : TI} {gg : TG} {ts : TS} {n : Nat} {Y : Nat → Hp → V → Hp → Prop} {S : Addr → Hp → Prop} (hi : EvI wi σ H n Y S) (I : Addr → Nat → L2.St → Hp → Prop) (h0 : ∀ p H1, Ge H H1 → S p H1 → I p 0 σ H1) (hS : ∀ p i σ' H', I p i σ' H' → S p H')
    (turn : ∀ p i x σ1 H1 H2, i < n → I p i σ1 H1 → Y i H1 x H2 → ∃ σ2, EvG gg x σ1 H2 σ2 ∧ Do ts { D with nx := I p (i + 1), ct := I p (i + 1), bk := D.nx } σ2 H2)
    (hd : ∀ p σ1 H1, I p n σ1 H1 → D.nx σ1 H1) : Do (tFor wi gg ts) D σ H := fun H1 g1 =>
  hi.2 H1 g1 _ fun J p H2 g2 w hp => by
    refine for_it w (I p) (h0 p H2 (g1.trans g2) hp) (fun i σ' Hh _ q => hS p i σ' Hh q) ?_ (fun σ1 Hh q => hd p σ1 Hh q)
    rintro i x σ1 Ha Hb hlt q y
    obtain ⟨σ2, e1, e2⟩ := turn p i x σ1 Ha Hb hlt q y
    exact e1 Hb (.refl _) _ (e2 Hb (.refl _))
end
end Gy
/-! Lay2: further rules, callees, the module's facts. -/
namespace Gy
open PySem PySem.Spec PyProof.Rows L2
/-! ### the letters of a text, tested -/
theorem elt_letter {prog : Program} {w : World} {scope : Scope} {x a b : Str} {j j' : Nat} {p1 p2 p3 p4 : Pos} (hk : scope.kind = .function) (hl : scope.names.lookup x = some .local) (hd : (x == ("__debug__" : Str)) = false := by decide) :
    GxR.EltP prog w scope x (.Compare (.Constant (.str a) j p1) [.LtE, .LtE] [.Name x p2, .Constant (.str b) j' p3] p4) (fun c => (!decide (([c] : List Nat) < a.cps.toList)) && (!decide (b.cps.toList < [c]))) := by
  intro cenv A' E' c t s2 m2 hs hn hm
  refine Compare_chain (Calls.Constant_str ?_) (by with_unfolding_all rfl)
  refine chain_link (wpAny_Name (wpAny_loadName_local (by rw [hs]; exact hk) (show cenv.scope.names.lookup x = some .local by rw [hs]; exact hl) hn hm ?_) hd)
  refine PySem.P.le_str (wpAny_truthy_bool ?_)
  cases e : decide (([c] : List Nat) < a.cps.toList) with
  | true =>
    refine ite_ff ⟨?_, GxR.keeps_tok _ _⟩
    show Value.bool false = Value.bool ((!decide (([c] : List Nat) < a.cps.toList)) && !decide (b.cps.toList < [c]))
    rw [e]
    rfl
  | false =>
    refine ite_tt (chain_last (Calls.Constant_str (PySem.P.le_str ⟨?_, GxR.keeps_tok _ _⟩)))
    show Value.bool (!decide (b.cps.toList < [c])) = Value.bool ((!decide (([c] : List Nat) < a.cps.toList)) && !decide (b.cps.toList < [c]))
    rw [e]
    cases decide (b.cps.toList < [c]) <;> rfl
/-! ### == of two built-in types -/
def rEqTy : R2 := fun x y H Q => ∃ a b, x = .ty a ∧ y = .ty b ∧ (∀ s : Shared, s.TypeIs (.type a) "type") ∧ (∀ s : Shared, s.TypeIs (.type b) "type") ∧ Q (.bl (decide (a = b))) H
def rNeTy : R2 := fun x y H Q => ∃ a b, x = .ty a ∧ y = .ty b ∧ (∀ s : Shared, s.TypeIs (.type a) "type") ∧ (∀ s : Shared, s.TypeIs (.type b) "type") ∧ Q (.bl (!decide (a = b))) H
section
variable {X : Cx}
theorem op_eqTy : OpR X (compareOp .Eq) rEqTy := by
  intro pins s σ H x y v u Q I rx ry h
  obtain ⟨a, b, rfl, rfl, ha, hb, q⟩ := h
  cases (show v = Value.type a from rx)
  cases (show u = Value.type b from ry)
  by_cases e : a = b
  · subst e
    refine TypeEq.eq_type_same ha ?_
    exact fin_bl I q (decide_eq_true rfl)
  · refine TypeEq.eq_type_other ha hb ((ty_beq a b).trans (decide_eq_false e)) ?_
    exact fin_bl I q (decide_eq_false e)
/-- a name of the module that holds a constant -/
theorem pe_const {x : Str} {v : V} {pos : Pos} (hg : Gl X x) (h : ∃ u, X.mg x = some u ∧ RelV v u) (hd : (x == ("__debug__" : Str)) = false := by decide) : PE X (.Name x pos) (tC v) := by
  obtain ⟨u, hm, r⟩ := h
  exact pe_glob hg hm r hd
end
/-! ### callees -/
/-- the def that the module's name x stands for, with its promise -/
structure Callee (P : Program) (w : World) (K : PySem.W.Frag) (mg : Str → Option Value) (base : Heap) (CX : CXT) (k : Nat) (x : Str) (ps : List Str) (sp : Sp) : Prop where
  ex : ∃ (f : Addr) (fd : FuncData), FnOk P w K mg base CX k f fd ps sp ∧ mg x = some (.ref f) ∧ PySem.W.keepIn K (.ref f) = true ∧ Binds K fd ps []
section
variable {X : Cx} {CX : CXT} {k : Nat} {ps : List Str} {sp : Sp} {E : XK} {x : Str} {p pos : Pos} {e : Expr} {es : List Expr} {t : TA}
theorem pe_callC (C : Callee X.prog X.w X.K X.mg X.base CX k x ps sp) (hr : Room k X.A) (hg : Gl X x) (hx : Passes CX X E) (ha : PA X (e :: es) t) (hdb : (x == ("__debug__" : Str)) = false := by decide)
    (he : starEach (e :: es) X.env = (false, eval e X.env) :: starEach es X.env := by rfl) (hpl : (backTo pos (starEach es X.env)).any (·.1) = false := by rfl) : PE X (.Call (.Name x p) (e :: es) [] pos) (tCall sp [] E t) := by
  obtain ⟨f, fd, F, hm, hk, hb⟩ := C.ex
  exact pe_call F hr hg hm hk hb .nil hx ha hdb he hpl
end
section
variable {P : Program} {w : World} {K : PySem.W.Frag} {mg : Str → Option Value} {base : Heap}
/-- a def of the module that lets no exception out -/
theorem callee_mk {x qual : Str} {pa : Arguments} {bd : List Stmt} {sc : Scope} {f : Addr} {N ps : List Str} {k : Nat} {sp : Sp} (D : ∃ fd, FunD K x qual pa bd sc [] [] f fd) (hm : mg x = some (.ref f)) (S : FnScope N ps sc)
    (hb : ∀ (kV doc pm : Value) (an : Option Addr) (cdv ct : Value) (us : List Value), us.length = ps.length → bindArgs (PySem.W.fnOf x qual pa bd sc .none kV doc pm an cdv ct) ⟨us, []⟩ = pure (ps.zip us))
    (len : ∀ vs H Q E, sp vs H Q E → vs.length = ps.length)
    (body : ∀ (cdv : Value) (A : Around) (outer : List Env) (s : Shared) (H : Hp) (vs : List V) (Q : VK) (E : XK), Room k (A.deeper (envOfC qual sc s.heap.objs.size f cdv)) → sp vs H Q E →
      ∃ t, PSs (cxOf CX0 P w K mg base N qual sc f cdv A outer s H E).nox bd t ∧ t { nx := fun _ H' => Q .non H', rt := Q } (start N vs) H) : Callee P w K mg base CX0 (k + 1) x ps sp := by
  obtain ⟨fd, F⟩ := D
  refine ⟨f, fd, F.ok S len (fun cdv A outer s H vs Q E hr h => ?_), hm, F.kp, F.bindsN hb⟩
  obtain ⟨t, h1, h2⟩ := body cdv A outer s H vs Q E hr h
  exact ⟨t, h1.nox, h2⟩
theorem do_go {t : TS} {D : Ends} {σ : L2.St} {H : Hp} (h : Do t D σ H) : t D σ H := h H (.refl H)
end
/-- a promise: a datum a, the arguments that it is handed, what must be so, what comes -/
def spOf {A : Type} (arg : A → List V) (pre : A → Hp → Prop) (R : A → Hp → V → Hp → Prop) : Sp := fun vs H Q _ => ∃ a : A, vs = arg a ∧ pre a H ∧ ∀ v H', Ge H H' → R a H v H' → Q v H'
/-- a plain value -/
abbrev spV {A : Type} (arg : A → List V) (pre : A → Hp → Prop) (val : A → V) : Sp := spOf arg pre (fun a _ v _ => v = val a)
theorem pv_of {A : Type} {arg : A → List V} {pre : A → Hp → Prop} {R : A → Hp → V → Hp → Prop} {R' : Hp → V → Hp → Prop} {H : Hp} (a : A) (hp : ∀ H1, Ge H H1 → pre a H1) (hR : ∀ H1 v H2, Ge H H1 → Ge H1 H2 → R a H1 v H2 → R' H1 v H2) :
    PvR (spOf arg pre R) (arg a) H R' := fun H1 g Q E q => ⟨a, rfl, hp H1 g, fun v H2 g2 r => q v H2 g2 (hR H1 v H2 g g2 r)⟩
theorem pv_V {A : Type} {arg : A → List V} {pre : A → Hp → Prop} {val : A → V} {H : Hp} (a : A) (hp : ∀ H1, Ge H H1 → pre a H1) : PvR (spV arg pre val) (arg a) H (fun _ u _ => u = val a) := pv_of a hp fun _ _ _ _ _ r => r
/-! ### the module's facts -/
structure Mo (fa : List He.Fa) (fn : List He.DefD) (K : PySem.W.Frag) (mg : Str → Option Value) : Prop where
  ex : ∃ h : Heap, K.In h ∧ h.Ns mainGlobals mg ∧ He.SaysD fa fn K
section
variable {fa : List He.Fa} {fn : List He.DefD} {K : PySem.W.Frag} {mg : Str → Option Value}
theorem Mo.free (M : Mo fa fn K mg) (i : Nat) {x : Str} (h : fa[i]? = some (.free x) := by rfl) : mg x = none := by
  obtain ⟨_, X, G, c⟩ := M.ex
  exact He.free_ok X G (c.fact i h)
theorem Mo.glo (M : Mo fa fn K mg) (i : Nat) {x : Str} (h : fa[i]? = some (.glo x) := by rfl) : mg x = some (.ref (He.ga K x)) := by
  obtain ⟨_, X, G, c⟩ := M.ex
  exact He.glo_ok X G (c.fact i h)
theorem Mo.int (M : Mo fa fn K mg) (i : Nat) {x : Str} {n : Int} (h : fa[i]? = some (.int x n) := by rfl) : ∃ u, mg x = some u ∧ RelV (.int n) u := by
  obtain ⟨_, X, G, c⟩ := M.ex
  obtain ⟨t, e⟩ := He.int_ok X G (c.fact i h)
  exact ⟨_, e, t, rfl⟩
theorem Mo.fact (M : Mo fa fn K mg) (i : Nat) {f : He.Fa} (h : fa[i]? = some f := by rfl) : f.ok K = true := by
  obtain ⟨_, X, G, c⟩ := M.ex
  exact c.fact i h
theorem Mo.defn (M : Mo fa fn K mg) (i : Nat) {d : He.DefD} (h : fn[i]? = some d := by rfl) : ∃ fd, FunD K d.name d.qual d.params d.body d.scope (d.dvs K) (d.kws K) (He.fAd K d.at_) fd := by
  obtain ⟨_, X, G, c⟩ := M.ex
  exact c.def_ i h
end
end Gy
namespace Gy
open PySem PySem.Spec PyProof.Rows L2
/-- .. whose code object is asked for -/
theorem callee_mkT {P : Program} {w : World} {K : PySem.W.Frag} {mg : Str → Option Value} {base : Heap} {x qual : Str} {pa : Arguments} {bd : List Stmt} {sc : Scope} {p : He.Defn} {N ps : List Str} {k : Nat} {sp : Sp} (D : ∃ fd, FunD K x qual pa bd sc [] [] (He.fAd K p) fd) (hm : mg x = some (.ref (He.fAd K p))) (S : FnScope N ps sc)
    (hb : ∀ (kV doc pm : Value) (an : Option Addr) (cdv ct : Value) (us : List Value), us.length = ps.length → bindArgs (PySem.W.fnOf x qual pa bd sc .none kV doc pm an cdv ct) ⟨us, []⟩ = pure (ps.zip us))
    (len : ∀ vs H Q E, sp vs H Q E → vs.length = ps.length)
    (body : ∀ (cdv : Value) (A : Around) (outer : List Env) (s : Shared) (H : Hp) (vs : List V) (Q : VK) (E : XK), cdv = .ref (He.cT K p).1 → Room k (A.deeper (envOfC qual sc s.heap.objs.size (He.fAd K p) cdv)) → sp vs H Q E →
      ∃ t, PSs (cxOf CX0 P w K mg base N qual sc (He.fAd K p) cdv A outer s H E).nox bd t ∧ t { nx := fun _ H' => Q .non H', rt := Q } (start N vs) H) : Callee P w K mg base CX0 (k + 1) x ps sp := by
  obtain ⟨fd, F⟩ := D
  have F0 := F
  obtain ⟨oc, od, dV, kV, doc, pm, an, cdv, ct, osl, rfl, lk, hcd, hD, hK⟩ := F.ex
  obtain ⟨c, rfl⟩ := He.codeIn_ref hcd
  have ec : He.codeOf K p = c := He.codeOf_eq lk rfl
  refine ⟨_, _, fn_of lk hcd S len (fun A outer s H vs Q E hr h => ?_), hm, F0.kp, F0.bindsN hb⟩
  obtain ⟨t, h1, h2⟩ := body (.ref c) A outer s H vs Q E (by rw [← ec] <;> rfl) hr h
  exact ⟨t, h1.nox, h2⟩
end Gy
/-! ### the rules with the written part said (within a comprehension it cannot be read off) -/
namespace Gy
open PySem PySem.Spec PyProof.Rows L2
section
variable {X : Cx} (K : PySem.W.Frag)
theorem k_isi (h : X.K = K := by rfl) : CallR X (.builtin "isinstance") (rIsi K) := by subst h; exact call_isi
theorem k_ixL (h : X.K = K := by rfl) : IxR X (rIxL K) := by subst h; exact ix_list
theorem k_ixT (h : X.K = K := by rfl) : IxR X (rIxT K) := by subst h; exact ix_tup
theorem k_slL (h : X.K = K := by rfl) : SlR X (rSlL K) := by subst h; exact sl_list
theorem k_slT (h : X.K = K := by rfl) : SlR X (rSlT K) := by subst h; exact sl_tup
abbrev rLenQ (K : PySem.W.Frag) : List V → Hp → VK → Prop := fun xs H Q => ∃ p ys, xs = [V.ref p] ∧ (SqL K H p ys ∨ SqT K H p ys) ∧ Q (.int ys.length) H
theorem k_len (h : X.K = K := by rfl) : CallR X (.builtin "len") (rLenQ K) := by subst h; exact call_len_seq
theorem k_eqD (hu : X.A.units + 64 < cLine) (h : X.K = K := by rfl) : OpR X (compareOp .Eq) (rEqD K) := by subst h; exact op_eqD hu
theorem k_neD (hu : X.A.units + 64 < cLine) (h : X.K = K := by rfl) : OpR X (compareOp .NotEq) (rNeD K) := by subst h; exact op_neD hu
theorem k_inQ (h : X.K = K := by rfl) : OpR X (compareOp .In) (rIn K false) := by subst h; exact op_in_seq
theorem k_notInQ (h : X.K = K := by rfl) : OpR X (compareOp .NotIn) (rIn K true) := by subst h; exact op_notIn_seq
theorem k_all (hc : X.calm = true) (h : X.K = K := by rfl) : CallR X (.builtin "all") (rAll K) := by subst h; exact cr_all hc
theorem k_any (hc : X.calm = true) (h : X.K = K := by rfl) : CallR X (.builtin "any") (rAny K) := by subst h; exact cr_any hc
theorem k_sum (hc : X.calm = true) (h : X.K = K := by rfl) : CallR X (.builtin "sum") (rSum K) := by subst h; exact cr_sum hc
abbrev rListQ (K : PySem.W.Frag) : List V → Hp → VK → Prop := fun xs H Q => ∃ p ys, xs = [V.ref p] ∧ (SqL K H p ys ∨ SqT K H p ys) ∧ ∀ l, H l = none → Q (.ref l) (upd H l (.lst ys))
theorem k_list (h : X.K = K := by rfl) : CallR X (.type "list") (rListQ K) := by subst h; exact call_list_of
theorem k_type (h : X.K = K := by rfl) : CallR X (.type "type") (rTyp K) := by subst h; exact call_type1
theorem k_index (h : X.K = K := by rfl) : MtR X "list.index" (rIndex K) := by subst h; exact mt_index
variable {o e : Expr} {to te : TE} {f : Str} {pos : Pos}
theorem k_fld (he : PE X e te) (hb : attributeBase e f X.env (eval e X.env) = eval e X.env) (h : X.K = K := by rfl) : PE X (.Attribute e f pos) (tFld K te f) := by subst h; exact pe_fld he hb
theorem k_list_it {tg l : Expr} (hl : PE X l te) (h : X.K = K := by rfl) : PI X tg l (iList K te) := by subst h; exact pi_list hl
theorem k_tup {es : List Expr} {k : Nat} {t : TGs} {n : Nat} (hc : X.calm = true) (hh : PGs X es t) (hn : (assignEach es X.env).length = n := by rfl) (hst : (assignEach es X.env).findIdx? (·.1) = none := by rfl) (h : X.K = K := by rfl) : PG X (.Tuple es k pos) (gTup K n t) := by
  subst h
  exact pg_tup hc hh hn hst
end
end Gy
namespace Gy
open PySem PySem.Spec PyProof.Rows L2
/-- the law's own def: the function object is told -/
theorem fnok_mk {P : Program} {w : World} {K : PySem.W.Frag} {mg : Str → Option Value} {base : Heap} {x qual : Str} {pa : Arguments} {bd : List Stmt} {sc : Scope} {f : Addr} {fd : FuncData} {N ps : List Str} {k : Nat} {sp : Sp} (F : FunD K x qual pa bd sc [] [] f fd) (S : FnScope N ps sc)
    (len : ∀ vs H Q E, sp vs H Q E → vs.length = ps.length)
    (body : ∀ (cdv : Value) (A : Around) (outer : List Env) (s : Shared) (H : Hp) (vs : List V) (Q : VK) (E : XK), Room k (A.deeper (envOfC qual sc s.heap.objs.size f cdv)) → sp vs H Q E →
      ∃ t, PSs (cxOf CX0 P w K mg base N qual sc f cdv A outer s H E).nox bd t ∧ t { nx := fun _ H' => Q .non H', rt := Q } (start N vs) H) : FnOk P w K mg base CX0 (k + 1) f fd ps sp :=
  F.ok S len (fun cdv A outer s H vs Q E hr h => by
    obtain ⟨t, h1, h2⟩ := body cdv A outer s H vs Q E hr h
    exact ⟨t, h1.nox, h2⟩)
theorem tab_of {base : Heap} {mg : Str → Option Value} {c P : Addr} (t : LamX.TabB base mg c P) : GxR.TabB base mg c P := ⟨t.code, t.bm, t.gP⟩
/-- a law's end: what the head tells, the law's def over every base -/
theorem law_at {l : PySem.W.OpenLaw} {w : World} {K : PySem.W.Frag} {k : Nat} {x : Str} {mg : Str → Option Value} {f : Addr} {h : Heap} {fa : List He.Fa} {fn : List He.DefD} {tf : List He.Defn} {ex : PySem.W.Frag → Bool} {fd : FuncData} {sp : Sp}
    (X : K.In h) (c : He.SaysX fa fn [] tf ex w h K) (hb : ∀ (s : Shared) (u : Value), BindsTo s fd ⟨[u], []⟩ [(x, u)])
    (hsp : ∀ (H : Hp) (a : Addr) (ns : List Int), ns.length ≤ 63 → (∀ z ∈ ns, Builtin.Int.intBits z ≤ 1048576) → (∀ p ∈ tf, GxR.TabG H (He.cT K p).2) → SqL K H a (ns.map V.int) → sp [.ref a] H (fun v _ => v = .bl true) fun _ _ _ => False)
    (ok : ∀ base : Heap, K.In base → base.Ns mainGlobals mg → (∀ p ∈ tf, GxR.TabB base mg (He.cT K p).1 (He.cT K p).2) → FnOk l.prog w K mg base CX0 k f fd [x] sp) : LamX.LawAtS l w K CX0 k 63 x mg f h := by
  refine ⟨fd, tf.map (He.cT K), sp, fun p hp => ?_, fun p hp => ?_, fun p hp => ?_, hb, fun H a ns h1 h2 h3 h4 => hsp H a ns h1 h2 (fun p hp => ⟨#[], h3 _ (List.mem_map.mpr ⟨p, hp, rfl⟩), trivial⟩) h4, fun base b1 b2 b3 => ok base b1 b2 fun p hp => tab_of (b3 _ (List.mem_map.mpr ⟨p, hp, rfl⟩))⟩
  · obtain ⟨q, hq, rfl⟩ := List.mem_map.mp hp
    exact c.empty q hq
  · obtain ⟨q, hq, rfl⟩ := List.mem_map.mp hp
    exact c.out q hq
  · obtain ⟨q, hq, rfl⟩ := List.mem_map.mp hp
    exact PySem.W.codeHd_of_K X (c.hd q hq)
end Gy
/-! Lay3: small lemmas: places, texts, lists by a property. -/
namespace Gy
open PySem PySem.Spec PyProof.Rows L2
theorem atI_mem {α : Type} {xs : List α} {i : Int} (h0 : 0 ≤ i) (h1 : i < xs.length) : ∃ v, atI xs i = some v ∧ v ∈ xs := by
  obtain ⟨j, rfl⟩ := Int.eq_ofNat_of_zero_le h0
  have hj : j < xs.length := by omega
  exact ⟨xs[j], atI_nat (List.getElem?_eq_getElem hj), List.getElem_mem hj⟩
theorem atI_ok {α : Type} {xs : List α} {i : Int} {j : Nat} {v : α} (h : i = (j : Int)) (e : xs[j]? = some v) : atI xs i = some v := by
  rw [h]
  exact atI_nat e
/-! ### lists by a property of their items -/
def EvAll (ta : TA) (σ : L2.St) (H : Hp) (n : Nat) (P : V → Hp → Prop) : Prop := ∀ H1, Ge H H1 → ∀ Q : List V → Hp → Prop, (∀ vs H2, Ge H1 H2 → vs.length = n → (∀ v ∈ vs, P v H2) → Q vs H2) → ta σ H1 Q
section
variable {K : PySem.W.Frag} {σ : L2.St} {H : Hp} {te ti : TE} {tr : TA} {n : Nat} {P : V → Hp → Prop}
theorem eall_nil : EvAll tNil σ H 0 P := fun H1 _ _ q => q [] H1 (.refl H1) rfl fun _ h => by cases h
theorem eall_cons (mono : ∀ v Ha Hb, Ge Ha Hb → P v Ha → P v Hb) (h : EvR te σ H (fun _ v H2 => P v H2)) (hr : EvAll tr σ H n P) : EvAll (tCons te tr) σ H (n + 1) P := fun H1 g Q q =>
  h H1 g _ fun v H2 g2 p => hr H2 (g.trans g2) _ fun vs H3 g3 l a => q (v :: vs) H3 (g2.trans g3) (by rw [List.length_cons, l]) fun u hu => by
    rcases List.mem_cons.mp hu with e | hu
    · rw [e]
      exact mono v _ _ g3 p
    · exact a u hu
theorem eall_item {v : V} (h : Ev te σ H v) (p : ∀ H, P v H) : EvR te σ H (fun _ v H2 => P v H2) := fun H1 g Q q => h.go g fun H2 g2 => q v H2 g2 (p H2)
/-- an item of a displayed list -/
theorem ev_pick {i : Int} (h : EvAll tr σ H n P) (hi : Ev ti σ H (.int i)) (h0 : 0 ≤ i) (h1 : i < n) (hn : n ≤ sizeLine) (mono : ∀ v Ha Hb, Ge Ha Hb → P v Ha → P v Hb) : EvR (tOp (rIxL K) (tLst tr) ti) σ H (fun _ v H2 => P v H2) := fun H1 g Q q =>
  h H1 g _ fun vs H2 g2 l a => ⟨by omega, fun p hp => hi.go ((g.trans g2).trans (.new hp)) fun H3 g3 => by
    obtain ⟨v, e1, e2⟩ := atI_mem (xs := vs) h0 (by omega)
    have hv := g3 p _ upd_same
    exact ⟨p, vs, i, v, rfl, rfl, .of hv, e1, q v H3 (g2.trans ((Ge.new hp).trans g3)) (mono v _ _ ((Ge.new hp).trans g3) (a v e2))⟩⟩
end
/-! ### texts -/
theorem len_tl (x : Str) : x.length = (TL.tl x).length := TL.len_tl x
theorem empty_tl : TL.tl ("" : Str) = [] := by decide +kernel
theorem joinL_nil : ∀ ps : List (List Nat), TL.joinL [] ps = ps.flatten
  | [] => rfl
  | [p] => by simp [TL.joinL]
  | p :: q :: r => by
    have ih := joinL_nil (q :: r)
    rw [TL.joinL, ih]
    simp
theorem tl_join0 (ys : List Str) : TL.tl (Txt.join ("" : Str) ys) = (ys.map TL.tl).flatten := by
  rw [TL.join_eq, TL.tl_join, empty_tl, joinL_nil]
theorem tl_one (c : Nat) : TL.tl ⟨#[c]⟩ = [c] := rfl
theorem flatten_ones : ∀ l : List Nat, ((l.map fun c => (⟨#[c]⟩ : Str)).map TL.tl).flatten = l
  | [] => rfl
  | c :: r => by
    have ih := flatten_ones r
    rw [List.map_cons, List.map_cons, List.flatten_cons, ih] <;> rfl
theorem join_ones (l : List Nat) : TL.tl (Txt.join ("" : Str) (l.map fun c => (⟨#[c]⟩ : Str))) = l := by
  rw [tl_join0, flatten_ones]
theorem tl_add (x y : Str) : TL.tl (x ++ y) = TL.tl x ++ TL.tl y := TL.tl_append x y
theorem length_add (x y : Str) : (x ++ y).length = x.length + y.length := by
  rw [len_tl, len_tl, len_tl, tl_add, List.length_append]
theorem size_cps (x : Str) : x.cps.size = x.length := rfl
theorem small_line {n : Nat} (h : n ≤ 1000) : n ≤ sizeLine := Nat.le_trans h (by decide)
theorem lineR {n : Nat} (h : Nat.ble n 1000 = true) : n ≤ sizeLine := small_line (Nat.le_of_ble_eq_true h)
/-! ### what is a name, what is a number -/
/-- a letter a to z -/
def lowc (c : Nat) : Bool := (!decide (([c] : List Nat) < TL.tl "a")) && (!decide (TL.tl "z" < [c]))
theorem lowc_eq (c : Nat) : lowc c = (decide (97 ≤ c) && decide (c ≤ 122)) := by
  unfold lowc
  rw [show TL.tl "a" = [97] by decide +kernel, show TL.tl "z" = [122] by decide +kernel]
  have h1 : (([c] : List Nat) < [97]) ↔ c < 97 := by
    rw [List.cons_lt_cons_iff]
    simp
  have h2 : (([122] : List Nat) < [c]) ↔ 122 < c := by
    rw [List.cons_lt_cons_iff]
    simp
  have e1 : decide (([c] : List Nat) < [97]) = decide (c < 97) := decide_eq_decide.mpr h1
  have e2 : decide (([122] : List Nat) < [c]) = decide (122 < c) := decide_eq_decide.mpr h2
  rw [e1, e2]
  by_cases a : 97 ≤ c <;> by_cases b : c ≤ 122 <;> simp [a, b] <;> omega
def nameS (z : Str) : Bool := (decide ((1 : Int) ≤ (z.length : Int)) && decide ((z.length : Int) ≤ 8)) && (TL.tl z).all lowc
def nameV : V → Bool
  | .str z => nameS z
  | _ => false
def numI (n : Int) : Bool := decide (-(10 : Int) ^ 60 ≤ n) && decide (n ≤ (10 : Int) ^ 60)
def numV : V → Bool
  | .int n => numI n
  | _ => false
/-- what may be asked -/
def Askable (K : PySem.W.Frag) (x : V) (H : Hp) : Prop := (∃ T, TyB K H x T) ∧ ∀ z, x = .str z → z.length ≤ sizeLine
theorem tyb_mono {K : PySem.W.Frag} {x : V} {T : String} {H H' : Hp} (g : Ge H H') (h : TyB K H x T) : TyB K H' x T := by
  cases h with
  | non => exact .non
  | bl b => exact .bl b
  | int i => exact .int i
  | str x => exact .str x
  | byt b => exact .byt b
  | lst h => exact .lst (g.l h)
  | tup h => exact .tup (g.t h)
  | dK h => exact .dK (g _ _ h)
theorem Askable.mono {K : PySem.W.Frag} {x : V} {H H' : Hp} (g : Ge H H') (h : Askable K x H) : Askable K x H' := by
  obtain ⟨⟨T, t⟩, l⟩ := h
  exact ⟨⟨T, tyb_mono g t⟩, l⟩
theorem tyb_str {K : PySem.W.Frag} {x : V} {H : Hp} {T : String} (t : TyB K H x T) : (decide (T = "str") = true ↔ ∃ z, x = .str z) := by
  cases t <;> simp
theorem tyb_int {K : PySem.W.Frag} {x : V} {H : Hp} {T : String} (t : TyB K H x T) : (decide (T = "int") = true ↔ ∃ z, x = .int z) := by
  cases t <;> simp
theorem tyb_lst {K : PySem.W.Frag} {x : V} {H : Hp} {T : String} (t : TyB K H x T) : (decide (T = "list") = true → ∃ p xs, x = .ref p ∧ SqL K H p xs) := by
  cases t <;> simp
  rename_i a xs h
  exact ⟨xs, h⟩
theorem ty_T {K : PySem.W.Frag} {x : V} {H : Hp} {T : String} (t : TyB K H x T) : ∀ s : Shared, s.TypeIs (.type T) "type" := by
  intro s
  cases t <;> rfl
section
variable {K : PySem.W.Frag} {σ : L2.St} {H : Hp} {te : TE} {x : V}
/-- type(e) == T -/
theorem ev_typeIs {T U : String} (h : Ev te σ H x) (t : TyB K H x T) (hU : ∀ s : Shared, s.TypeIs (.type U) "type") : Ev (tOp rEqTy (tCB (rTyp K) (tCons te tNil)) (tC (.ty U))) σ H (.bl (decide (T = U))) := by
  refine ev_op (x := .ty T) (y := .ty U) ?_ ev_c (rv_mk fun H1 g Q q => ⟨T, U, rfl, rfl, ty_T t, hU, q⟩)
  exact ev_cb (ea_cons h ea_nil) (rc_mk fun H1 g Q q => ⟨x, T, rfl, tyb_mono g t, q⟩)
theorem rc_lenS {z : Str} (h : z.length ≤ sizeLine) : RC (fun xs H Q => ∃ z, xs = [V.str z] ∧ z.length ≤ sizeLine ∧ Q (.int z.length) H) [.str z] H (.int z.length) := rc_mk fun H1 _ Q q => ⟨z, rfl, h, q⟩
theorem ev_lenS {z : Str} (h : Ev te σ H (.str z)) (hz : z.length ≤ sizeLine) : Ev (tCB (fun xs H Q => ∃ z, xs = [V.str z] ∧ z.length ≤ sizeLine ∧ Q (.int z.length) H) (tCons te tNil)) σ H (.int z.length) := ev_cb (ea_cons h ea_nil) (rc_lenS hz)
theorem ev_allS {P : Addr} {pb : Nat → Bool} {a : Str} (h : Ev te σ H (.str a)) (hT : GxR.TabG H P) : Ev (GxR.tAllS P pb te) σ H (.bl (a.cps.toList.all pb)) := .mk fun H1 g Q q =>
  h.go g fun H2 g2 => ⟨a, rfl, (g.trans g2).tabG hT, fun H3 t => q H3 (g2.trans (.tabbed ((g.trans g2).tabG hT) t))⟩
/-- sep.join of a new list of texts -/
abbrev rJoin (K : PySem.W.Frag) : V → List V → Hp → VK → Prop := fun x xs H Q => ∃ a p, ∃ ys : List Str, x = .str a ∧ xs = [.ref p] ∧ (SqL K H p (ys.map V.str) ∨ SqT K H p (ys.map V.str)) ∧
  (ys.map (·.length)).sum + ys.length * a.length ≤ 16777216 ∧ Q (.str (Txt.join a ys)) H
theorem ev_join {to : TE} {a : Str} {ys : List Str} (h : Ev to σ H (.str a)) (hl : EvF te σ H (.lst (ys.map V.str))) (hb : (ys.map (·.length)).sum + ys.length * a.length ≤ 16777216) : Ev (tM1 (rJoin K) to te) σ H (.str (Txt.join a ys)) := .mk fun H1 g Q q =>
  h.go g fun H2 g2 => ⟨⟨a, rfl⟩, hl.go (g.trans g2) fun p H3 _ g3 e => ⟨a, p, ys, rfl, rfl, .inl (.of e), hb, q H3 (g2.trans g3)⟩⟩
theorem map_strs {α : Type} (f : α → Str) (l : List α) : l.map (fun i => V.str (f i)) = (l.map f).map V.str := by
  rw [List.map_map] <;> rfl
theorem sum_ones {α : Type} (f : α → Nat) : ∀ l : List α, ((l.map fun i => (⟨#[f i]⟩ : Str)).map (·.length)).sum = l.length
  | [] => rfl
  | a :: r => by
    have ih := sum_ones f r
    rw [List.map_cons, List.map_cons, List.sum_cons, ih, List.length_cons]
    show 1 + r.length = r.length + 1
    omega
theorem length_join_ones {α : Type} (f : α → Nat) (l : List α) : (Txt.join ("" : Str) (l.map fun i => (⟨#[f i]⟩ : Str))).length = l.length := by
  have e : (l.map fun i => (⟨#[f i]⟩ : Str)) = (l.map f).map fun c => (⟨#[c]⟩ : Str) := by
    rw [List.map_map] <;> rfl
  rw [e, len_tl, join_ones, List.length_map]
end
/-! ### texts whose codes are codes -/
def okS (z : Str) : Prop := ∀ c ∈ TL.tl z, c < 0x110000
theorem strOk_of {z : Str} (h : okS z) : PyData.strOk z = true := by
  unfold PyData.strOk
  rw [Array.all_eq_true']
  intro c hc
  exact decide_eq_true (h c (Array.mem_toList_iff.mpr hc))
theorem okS_add {x y : Str} (h1 : okS x) (h2 : okS y) : okS (x ++ y) := fun c hc => by
  rw [tl_add] at hc
  rcases List.mem_append.mp hc with z | z
  · exact h1 c z
  · exact h2 c z
theorem okS_cut {z : Str} (h : okS z) (lo hi : Option Int) : okS (cutS z lo hi) := fun c hc => h c (List.mem_of_mem_drop (List.mem_of_mem_take hc))
theorem okS_join_ones {α : Type} {f : α → Nat} {l : List α} (h : ∀ a ∈ l, f a < 0x110000) : okS (Txt.join ("" : Str) (l.map fun i => (⟨#[f i]⟩ : Str))) := fun c hc => by
  have e : (l.map fun i => (⟨#[f i]⟩ : Str)) = (l.map f).map fun c => (⟨#[c]⟩ : Str) := by
    rw [List.map_map] <;> rfl
  rw [e, join_ones] at hc
  obtain ⟨a, ha, rfl⟩ := List.mem_map.mp hc
  exact h a ha
/-! ### flat data -/
def fD : V → PyData
  | .bl b => .bool b
  | .int i => .int i
  | .str z => .str z
  | _ => .none
def Flat : V → Prop
  | .non => True
  | .bl _ => True
  | .int _ => True
  | .str z => okS z
  | _ => False
theorem fD_dp {K : PySem.W.Frag} {H : Hp} : ∀ {v : V}, Flat v → Dp K H v (fD v)
  | .non, _ => .non
  | .bl b, _ => .bl b
  | .int i, _ => .int i
  | .str z, _ => .str z
theorem fD_dps {K : PySem.W.Frag} {H : Hp} : ∀ {vs : List V}, (∀ v ∈ vs, Flat v) → DpAll K H vs (vs.map fD)
  | [], _ => .nil
  | v :: r, h => .cons (fD_dp (h v (List.mem_cons_self ..))) (fD_dps fun u hu => h u (List.mem_cons_of_mem _ hu))
theorem fD_lay : ∀ {v : V}, Flat v → (fD v).canLay0 = true ∧ (fD v).depth = 0
  | .non, _ => ⟨rfl, rfl⟩
  | .bl b, _ => ⟨rfl, rfl⟩
  | .int i, _ => ⟨rfl, rfl⟩
  | .str z, h => ⟨by
      show PyData.strOk z = true
      exact strOk_of h, rfl⟩
theorem fD_lays : ∀ {vs : List V}, (∀ v ∈ vs, Flat v) → PyData.canLayAll0 (vs.map fD) = true ∧ PyData.depthAll (vs.map fD) = 0
  | [], _ => ⟨rfl, rfl⟩
  | v :: r, h => by
    obtain ⟨a1, a2⟩ := fD_lay (h v (List.mem_cons_self ..))
    obtain ⟨b1, b2⟩ := fD_lays (vs := r) fun u hu => h u (List.mem_cons_of_mem _ hu)
    constructor
    · show ((fD v).canLay0 && PyData.canLayAll0 (r.map fD)) = true
      rw [a1, b1] <;> rfl
    · show max (fD v).depth (PyData.depthAll (r.map fD)) = 0
      rw [a2, b2] <;> rfl
theorem shaped_flat {vs : List V} (h : ∀ v ∈ vs, Flat v) : SeqAt.shaped (.list (vs.map fD)) = true := by
  obtain ⟨b1, b2⟩ := fD_lays h
  have e1 : (PyData.list (vs.map fD)).canLay0 = true := b1
  have e2 : (PyData.list (vs.map fD)).depth ≤ 64 := by
    show PyData.depthAll (vs.map fD) + 1 ≤ 64
    omega
  unfold SeqAt.shaped
  rw [e1, decide_eq_true e2] <;> rfl
theorem eqv_self {d : PyData} (h : SeqAt.shaped d = true) : PyData.eqv d d = true := SeqAt.eqv_refl d (SeqAt.canLay_of_shaped h)
section
variable {K : PySem.W.Frag} {σ : L2.St} {H : Hp} {ta tb te : TE} {x y : V} {d e : PyData}
/-- == and != by data -/
theorem rv_eqD (hx : Dp K H x d) (hy : Dp K H y e) (sd : SeqAt.shaped d = true) (se : SeqAt.shaped e = true) : RV (rEqD K) x y H (.bl (PyData.eqv d e)) := rv_mk fun H1 g Q q => ⟨d, e, g.d hx, g.d hy, sd, se, q⟩
theorem rv_neD (hx : Dp K H x d) (hy : Dp K H y e) (sd : SeqAt.shaped d = true) (se : SeqAt.shaped e = true) : RV (rNeD K) x y H (.bl (!PyData.eqv d e)) := rv_mk fun H1 g Q q => ⟨d, e, g.d hx, g.d hy, sd, se, q⟩
theorem ev_eqD (ha : EvD K ta σ H d) (hb : EvD K tb σ H e) (sd : SeqAt.shaped d = true) (se : SeqAt.shaped e = true) : Ev (tOp (rEqD K) ta tb) σ H (.bl (PyData.eqv d e)) := .mk fun H1 g Q q =>
  ha H1 g _ fun x H2 g2 dx => hb H2 (g.trans g2) _ fun y H3 g3 dy => ⟨d, e, g3.d dx, dy, sd, se, q H3 (g2.trans g3)⟩
theorem ev_neD (ha : EvD K ta σ H d) (hb : EvD K tb σ H e) (sd : SeqAt.shaped d = true) (se : SeqAt.shaped e = true) : Ev (tOp (rNeD K) ta tb) σ H (.bl (!PyData.eqv d e)) := .mk fun H1 g Q q =>
  ha H1 g _ fun x H2 g2 dx => hb H2 (g.trans g2) _ fun y H3 g3 dy => ⟨d, e, g3.d dx, dy, sd, se, q H3 (g2.trans g3)⟩
theorem ed_val {v : V} (h : Ev te σ H v) (hd : ∀ H1, Ge H H1 → Dp K H1 v d) : EvD K te σ H d := fun H1 g Q q => h.go g fun H2 g2 => q v H2 g2 (hd H2 (g.trans g2))
theorem ed_flat {vs : List V} (h : EvF te σ H (.lst vs)) (hf : ∀ v ∈ vs, Flat v) : EvD K te σ H (.list (vs.map fD)) := fun H1 g Q q => h.go g fun p H2 _ g2 e => q _ H2 g2 (.lst (.of e) (fD_dps hf))
theorem ed_lst {p : Addr} {vs : List V} (h : Ev te σ H (.ref p)) (e : SqL K H p vs) (hf : ∀ v ∈ vs, Flat v) : EvD K te σ H (.list (vs.map fD)) := ed_val h fun H1 g => .lst (g.l e) (fD_dps hf)
/-- two lists joined to a new one -/
theorem ef_cat {p : Addr} {xs zs : List V} (ha : Ev ta σ H (.ref p)) (hp : H p = some (.lst xs)) (hb : EvF tb σ H (.lst zs)) (hl : xs.length + zs.length ≤ sizeLine) : EvF (tOp rCat ta tb) σ H (.lst (xs ++ zs)) := .mk fun H1 g Q q =>
  ha.go g fun H2 g2 => hb.go (g.trans g2) fun b H3 n g3 e => ⟨p, b, xs, zs, rfl, rfl, ((g.trans g2).trans g3) p _ hp, e, hl, fun l hn => q l _ ((g2.trans g3).free hn) ((g2.trans g3).trans (.new hn)) upd_same⟩
theorem ef_catF {xs zs : List V} (ha : EvF ta σ H (.lst xs)) (hb : EvF tb σ H (.lst zs)) (hl : xs.length + zs.length ≤ sizeLine) : EvF (tOp rCat ta tb) σ H (.lst (xs ++ zs)) := .mk fun H1 g Q q =>
  ha.go g fun a H2 _ g2 ea => hb.go (g.trans g2) fun b H3 n g3 e => ⟨a, b, xs, zs, rfl, rfl, g3 a _ ea, e, hl, fun l hn => q l _ ((g2.trans g3).free hn) ((g2.trans g3).trans (.new hn)) upd_same⟩
/-- isinstance(e, T), T a built-in class -/
theorem ev_isi {T U : String} {b : Bool} (h : Ev te σ H x) (t : TyX K H x (.type T)) (hm : ∀ H1, Ge H H1 → TyX K H1 x (.type T)) (hk : kitB T U = some b) : Ev (tCB (rIsi K) (tCons te (tCons (tC (.ty U)) tNil))) σ H (.bl b) :=
  ev_cb (ea_cons h (ea_cons ev_c ea_nil)) (rc_mk fun H1 g Q q => ⟨x, .ty U, .type T, .type U, b, rfl, .ty U, hm H1 g, kit_ty hk, q⟩)
/-- all of a new list of truths -/
theorem ev_all {bs : List Bool} (h : EvF te σ H (.lst (bs.map V.bl))) : Ev (tCB (rAll K) (tCons te tNil)) σ H (.bl (bs.all id)) := ev_cbF h fun p H1 g e => rc_mk fun H2 g2 Q q => ⟨p, bs, rfl, g2.l (.of e), q⟩
end
/-! ### numbers as texts -/
theorem tl_ofString_app (a b : String) : TL.tl (Str.ofString (a ++ b)) = TL.tl (Str.ofString a) ++ TL.tl (Str.ofString b) := by
  rw [TL.tl_ofString, TL.tl_ofString, TL.tl_ofString]
  simp
/-- the signs of a number -/
def numT (n : Int) : List Nat := if n < 0 then 45 :: TL.numL n.natAbs else TL.numL n.natAbs
theorem tl_int (n : Int) : TL.tl (Str.ofString (toString n)) = numT n := by
  cases n with
  | ofNat m =>
    have e : numT (Int.ofNat m) = TL.numL m := if_neg (Int.not_lt.mpr (Int.natCast_nonneg m))
    rw [e]
    exact TL.tl_num m
  | negSucc m =>
    have e : numT (Int.negSucc m) = 45 :: TL.numL (m + 1) := if_pos (Int.negSucc_lt_zero m)
    rw [e]
    have h : toString (Int.negSucc m) = "-" ++ toString (((m + 1 : Nat) : Int)) := rfl
    rw [h, tl_ofString_app, TL.tl_num]
    have : TL.tl (Str.ofString "-") = [45] := by decide +kernel
    rw [this] <;> rfl
theorem digits_low {l : List Nat} (h : NumText.AllDigits l) : ∀ c ∈ l, 48 ≤ c ∧ c ≤ 57 := by
  intro c hc
  exact h c hc
theorem numT_first (n : Int) : ∃ c r, numT n = c :: r ∧ c < 97 := by
  unfold numT
  split
  · exact ⟨45, _, rfl, by decide⟩
  · have h1 := TL.numL_ne n.natAbs
    have h2 := digits_low (TL.numL_digits n.natAbs)
    cases e : TL.numL n.natAbs with
    | nil => exact absurd e h1
    | cons c r =>
      rw [e] at h2
      have := (h2 c (List.mem_cons_self ..)).2
      exact ⟨c, r, rfl, by omega⟩
theorem numT_len {n : Int} {k : Nat} (hk : 0 < k) (h : n.natAbs < 10 ^ k) : (numT n).length ≤ k + 1 := by
  have q := TL.numL_len hk h
  unfold numT
  split
  · rw [List.length_cons]
    omega
  · omega
theorem numT_ok (n : Int) : ∀ c ∈ numT n, c < 0x110000 := by
  intro c hc
  have h2 := digits_low (TL.numL_digits n.natAbs)
  unfold numT at hc
  split at hc
  · rcases List.mem_cons.mp hc with e | e
    · omega
    · have := (h2 c e).2
      omega
  · have := (h2 c hc).2
    omega
theorem num_not_name (n : Int) : nameS (Str.ofString (toString n)) = false := by
  unfold nameS
  rw [tl_int]
  obtain ⟨c, r, e, hc⟩ := numT_first n
  rw [e]
  have : lowc c = false := by
    rw [lowc_eq]
    simp
    omega
  rw [List.all_cons, this]
  simp
theorem len_int {n : Int} {k : Nat} (hk : 0 < k) (h : n.natAbs < 10 ^ k) : (Str.ofString (toString n)).length ≤ k + 1 := by
  rw [len_tl, tl_int]
  exact numT_len hk h
theorem log_small {n : Int} (h : n.natAbs < 10 ^ 70) : n.natAbs.log2 < 1920 := by
  by_cases e : n.natAbs = 0
  · rw [e]
    decide
  · rw [Nat.log2_lt e]
    exact Nat.lt_trans h (by decide +kernel)
theorem ev_strI {te : TE} {σ : L2.St} {H : Hp} {n : Int} (h : Ev te σ H (.int n)) (hl : n.natAbs.log2 < 1920) : Ev (tCB (fun xs H Q => ∃ i : Int, xs = [V.int i] ∧ i.natAbs.log2 < 1920 ∧ Q (.str (toString i)) H) (tCons te tNil)) σ H (.str (Str.ofString (toString n))) :=
  ev_cb (ea_cons h ea_nil) (rc_mk fun H1 _ Q q => ⟨n, rfl, hl, q⟩)
theorem ef_newK {σ : L2.St} {H : Hp} : EvF tDNewK σ H (.dK []) := .mk fun H1 _ _ q => fun p hp => q p _ hp (.new hp) upd_same
theorem ef_newT {σ : L2.St} {H : Hp} : EvF tDNewT σ H (.dT []) := .mk fun H1 _ _ q => fun p hp => q p _ hp (.new hp) upd_same
theorem rv_notInS {c : Nat} {z : Str} {H : Hp} : RV (fun x y H Q => ∃ (c : Nat) (z : Str), x = V.str ⟨#[c]⟩ ∧ y = .str z ∧ Q (.bl (!decide (c ∈ z.cps.toList))) H) (.str ⟨#[c]⟩) (.str z) H (.bl (!decide (c ∈ TL.tl z))) := rv_mk fun H1 _ Q q => ⟨c, z, rfl, rfl, q⟩
theorem letters_tl : TL.tl "abcdefghijklmnopqrstuvwxyz" = List.range' 97 26 := by decide +kernel
theorem lowc_mem (c : Nat) : lowc c = decide (c ∈ TL.tl "abcdefghijklmnopqrstuvwxyz") := by
  rw [letters_tl, lowc_eq, ← Bool.decide_and]
  apply decide_eq_decide.mpr
  rw [List.mem_range'_1]
  omega
theorem map_bls {α : Type} (f : α → Bool) (l : List α) : l.map (fun i => V.bl (f i)) = (l.map f).map V.bl := by
  rw [List.map_map] <;> rfl
end Gy
namespace Gy
open PySem PySem.Spec PyProof.Rows L2
def top (i : Nat) : Stmt := PySem.Challenge.pw_gapyard_k01_names_and_numbers.main.body.getD i (.Pass ⟨0, 0, 0, 0⟩)
abbrev s_is_name : Stmt := top 3
abbrev n_is_name : List Str := ["thing"]
theorem sc_is_name : FnScope n_is_name ["thing"] (defScope s_is_name) := ⟨rfl, rfl, rfl, by decide +kernel, rfl, by decide +kernel, by decide +kernel⟩
def d_is_name : He.DefD := ⟨("is_name", none), "is_name", "is_name", defArgs s_is_name, defBody s_is_name, defScope s_is_name, [], []⟩
abbrev s_is_number : Stmt := top 4
abbrev n_is_number : List Str := ["thing"]
theorem sc_is_number : FnScope n_is_number ["thing"] (defScope s_is_number) := ⟨rfl, rfl, rfl, by decide +kernel, rfl, by decide +kernel, by decide +kernel⟩
def d_is_number : He.DefD := ⟨("is_number", none), "is_number", "is_number", defArgs s_is_number, defBody s_is_number, defScope s_is_number, [], []⟩
abbrev s_is_whole : Stmt := top 5
abbrev n_is_whole : List Str := ["thing"]
theorem sc_is_whole : FnScope n_is_whole ["thing"] (defScope s_is_whole) := ⟨rfl, rfl, rfl, by decide +kernel, rfl, by decide +kernel, by decide +kernel⟩
def d_is_whole : He.DefD := ⟨("is_whole", none), "is_whole", "is_whole", defArgs s_is_whole, defBody s_is_whole, defScope s_is_whole, [], []⟩
abbrev s__law_draw : Stmt := top 7
abbrev n__law_draw : List Str := ["_law_script", "_law_k"]
theorem sc__law_draw : FnScope n__law_draw ["_law_script", "_law_k"] (defScope s__law_draw) := ⟨rfl, rfl, rfl, by decide +kernel, rfl, by decide +kernel, by decide +kernel⟩
def d__law_draw : He.DefD := ⟨("_law_draw", none), "_law_draw", "_law_draw", defArgs s__law_draw, defBody s__law_draw, defScope s__law_draw, [], []⟩
abbrev s__law_spread : Stmt := top 8
abbrev n__law_spread : List Str := ["_law_cell", "_law_k"]
theorem sc__law_spread : FnScope n__law_spread ["_law_cell", "_law_k"] (defScope s__law_spread) := ⟨rfl, rfl, rfl, by decide +kernel, rfl, by decide +kernel, by decide +kernel⟩
def d__law_spread : He.DefD := ⟨("_law_spread", none), "_law_spread", "_law_spread", defArgs s__law_spread, defBody s__law_spread, defScope s__law_spread, [], []⟩
abbrev s__law_text : Stmt := top 9
abbrev n__law_text : List Str := ["_law_draw_here", "_law_letters", "_law_text_here", "_law_at", "_law_sign", "_law_k"]
theorem sc__law_text : FnScope n__law_text ["_law_draw_here"] (defScope s__law_text) := ⟨rfl, rfl, rfl, by decide +kernel, rfl, by decide +kernel, by decide +kernel⟩
def d__law_text : He.DefD := ⟨("_law_text", none), "_law_text", "_law_text", defArgs s__law_text, defBody s__law_text, defScope s__law_text, [], []⟩
abbrev s__law_number : Stmt := top 10
abbrev n__law_number : List Str := ["_law_cell", "_law_draw_here", "_law_most", "_law_some"]
theorem sc__law_number : FnScope n__law_number ["_law_cell", "_law_draw_here"] (defScope s__law_number) := ⟨rfl, rfl, rfl, by decide +kernel, rfl, by decide +kernel, by decide +kernel⟩
def d__law_number : He.DefD := ⟨("_law_number", none), "_law_number", "_law_number", defArgs s__law_number, defBody s__law_number, defScope s__law_number, [], []⟩
abbrev s_law : Stmt := top 11
abbrev n_law : List Str := ["_law_script", "_law_cell", "_law_draw_here", "_law_text_here", "_law_good", "_law_number_here", "_law_odd", "_law_found", "_law_fits", "_law_sign", "_law_one"]
theorem sc_law : FnScope n_law ["_law_script"] (defScope s_law) := ⟨rfl, rfl, rfl, by decide +kernel, rfl, by decide +kernel, by decide +kernel⟩
def d_law : He.DefD := ⟨("law", none), "law", "law", defArgs s_law, defBody s_law, defScope s_law, [], []⟩
def fn : List He.DefD := [d_is_name, d_is_number, d_is_whole, d__law_draw, d__law_spread, d__law_text, d__law_number, d_law]
def sds : List SupD := []
def fa : List He.Fa := [.glo "is_name", .glo "is_number", .glo "is_whole", .glo "_law_draw", .glo "_law_spread", .glo "_law_text", .glo "_law_number", .glo "law", .free "len", .free "range", .free "int", .free "str", .free "bool", .free "isinstance", .free "all", .free "type", .int "LONGEST_NAME" (8), .int "GREATEST_NUMBER" (1000000000000000000000000000000000000000000000000000000000000)]
section
variable {K : PySem.W.Frag} {mg : Str → Option Value}
theorem Mo.g_is_name (M : Mo fa fn K mg) : mg "is_name" = some (.ref (He.ga K "is_name")) := M.glo 0
theorem Mo.g_is_number (M : Mo fa fn K mg) : mg "is_number" = some (.ref (He.ga K "is_number")) := M.glo 1
theorem Mo.g_is_whole (M : Mo fa fn K mg) : mg "is_whole" = some (.ref (He.ga K "is_whole")) := M.glo 2
theorem Mo.g__law_draw (M : Mo fa fn K mg) : mg "_law_draw" = some (.ref (He.ga K "_law_draw")) := M.glo 3
theorem Mo.g__law_spread (M : Mo fa fn K mg) : mg "_law_spread" = some (.ref (He.ga K "_law_spread")) := M.glo 4
theorem Mo.g__law_text (M : Mo fa fn K mg) : mg "_law_text" = some (.ref (He.ga K "_law_text")) := M.glo 5
theorem Mo.g__law_number (M : Mo fa fn K mg) : mg "_law_number" = some (.ref (He.ga K "_law_number")) := M.glo 6
theorem Mo.g_law (M : Mo fa fn K mg) : mg "law" = some (.ref (He.ga K "law")) := M.glo 7
theorem Mo.z_len (M : Mo fa fn K mg) : mg "len" = none := M.free 8
theorem Mo.z_range (M : Mo fa fn K mg) : mg "range" = none := M.free 9
theorem Mo.z_int (M : Mo fa fn K mg) : mg "int" = none := M.free 10
theorem Mo.z_str (M : Mo fa fn K mg) : mg "str" = none := M.free 11
theorem Mo.z_bool (M : Mo fa fn K mg) : mg "bool" = none := M.free 12
theorem Mo.z_isinstance (M : Mo fa fn K mg) : mg "isinstance" = none := M.free 13
theorem Mo.z_all (M : Mo fa fn K mg) : mg "all" = none := M.free 14
theorem Mo.z_type (M : Mo fa fn K mg) : mg "type" = none := M.free 15
theorem Mo.con_LONGEST_NAME (M : Mo fa fn K mg) : ∃ u, mg "LONGEST_NAME" = some u ∧ RelV (.int (8)) u := M.int 16
theorem Mo.con_GREATEST_NUMBER (M : Mo fa fn K mg) : ∃ u, mg "GREATEST_NUMBER" = some u ∧ RelV (.int (1000000000000000000000000000000000000000000000000000000000000)) u := M.int 17
theorem Mo.d_is_name (M : Mo fa fn K mg) : ∃ fd, FunD K (d_is_name).name (d_is_name).qual (defArgs s_is_name) (defBody s_is_name) (defScope s_is_name) [] [] (He.fAd K (d_is_name).at_) fd := M.defn 0
theorem Mo.d_is_number (M : Mo fa fn K mg) : ∃ fd, FunD K (d_is_number).name (d_is_number).qual (defArgs s_is_number) (defBody s_is_number) (defScope s_is_number) [] [] (He.fAd K (d_is_number).at_) fd := M.defn 1
theorem Mo.d_is_whole (M : Mo fa fn K mg) : ∃ fd, FunD K (d_is_whole).name (d_is_whole).qual (defArgs s_is_whole) (defBody s_is_whole) (defScope s_is_whole) [] [] (He.fAd K (d_is_whole).at_) fd := M.defn 2
theorem Mo.d__law_draw (M : Mo fa fn K mg) : ∃ fd, FunD K (d__law_draw).name (d__law_draw).qual (defArgs s__law_draw) (defBody s__law_draw) (defScope s__law_draw) [] [] (He.fAd K (d__law_draw).at_) fd := M.defn 3
theorem Mo.d__law_spread (M : Mo fa fn K mg) : ∃ fd, FunD K (d__law_spread).name (d__law_spread).qual (defArgs s__law_spread) (defBody s__law_spread) (defScope s__law_spread) [] [] (He.fAd K (d__law_spread).at_) fd := M.defn 4
theorem Mo.d__law_text (M : Mo fa fn K mg) : ∃ fd, FunD K (d__law_text).name (d__law_text).qual (defArgs s__law_text) (defBody s__law_text) (defScope s__law_text) [] [] (He.fAd K (d__law_text).at_) fd := M.defn 5
theorem Mo.d__law_number (M : Mo fa fn K mg) : ∃ fd, FunD K (d__law_number).name (d__law_number).qual (defArgs s__law_number) (defBody s__law_number) (defScope s__law_number) [] [] (He.fAd K (d__law_number).at_) fd := M.defn 6
theorem Mo.d_law (M : Mo fa fn K mg) : ∃ fd, FunD K (d_law).name (d_law).qual (defArgs s_law) (defBody s_law) (defScope s_law) [] [] (He.fAd K (d_law).at_) fd := M.defn 7
end
section
variable {P : Program} {w : World} {K : PySem.W.Frag} {mg : Str → Option Value} {base : Heap}
/-! ### is_name, is_number -/
abbrev tabN (K : PySem.W.Frag) : Addr × Addr := He.cT K ("is_name", none)
abbrev spName (K : PySem.W.Frag) : Sp := spV (A := V) (fun x => [x]) (fun x H => Askable K x H ∧ GxR.TabG H (tabN K).2) (fun x => .bl (nameV x))
abbrev spNumber (K : PySem.W.Frag) : Sp := spV (A := V) (fun x => [x]) (fun x H => Askable K x H) (fun x => .bl (numV x))
theorem ty_str : ∀ s : Shared, s.TypeIs (.type "str") "type" := fun s => rfl
theorem ty_int : ∀ s : Shared, s.TypeIs (.type "int") "type" := fun s => rfl
theorem ok_is_name (M : Mo fa fn K mg) (TB : GxR.TabB base mg (tabN K).1 (tabN K).2) : Callee P w K mg base CX0 1 "is_name" ["thing"] (spName K) := by
  refine callee_mkT M.d_is_name M.g_is_name sc_is_name (fun _ _ _ _ _ _ us hl => match us, hl with | [_], _ => rfl) (fun vs H Q E h => ?_) (fun cdv A outer s H vs Q E hc hr h => ?_)
  · obtain ⟨x, rfl, _⟩ := h
    rfl
  · obtain ⟨x, rfl, ⟨hx, hT⟩, k⟩ := h
    refine ⟨_, (pss_cons (ps_if (PW.pt (pw_and (pt_cmpR op_eqTy (pe_callTy (k_type K) rfl M.z_type (by decide +kernel) (pa_cons (pv 0) pa_nil)) (pe_bltn (v := .ty "str") rfl M.z_str (by decide +kernel) rfl) (nomark _)) (pw_and1 (pt_chain op_le op_le pe_int (pe_callB call_len_str rfl M.z_len (by decide +kernel) (pa_cons (pv 0) pa_nil)) (pe_const rfl M.con_LONGEST_NAME))))) (pss_one (ps_ret (GxR.pe_allS hr rfl M.z_all (by decide +kernel) TB hc ⟨rfl, rfl, by decide +kernel, rfl, rfl, fun y hy e => absurd e (by revert y; decide +kernel)⟩ (pv 0) (elt_letter rfl rfl) (fun _ => rfl)))) pss_nil)
  (pss_one (ps_ret pe_bl))), do_go ?_⟩
    obtain ⟨⟨T, t⟩, hl⟩ := hx
    have e0 := ev_typeIs (σ := start n_is_name [x]) (H := H) (te := tVar 0) (ev_var rfl) t ty_str
    cases x with
    | str z =>
      have hz := hl z rfl
      cases t
      refine s_ifN (b := decide ((1 : Int) ≤ (z.length : Int)) && decide ((z.length : Int) ≤ 8)) ?_ (fun hb => ?_) fun hb => ?_
      · refine (et_and (et_test e0) (fun _ => et_test (ev_chain ev_c (ev_lenS (ev_var rfl) hz) rv_I0 (fun _ => ev_c) fun _ => rv_I0))).is ?_
        rfl
      · refine s_ret (ev_allS (ev_var rfl) hT) fun H1 g => k _ H1 g ?_
        show V.bl _ = V.bl (nameS z)
        unfold nameS
        rw [hb]
        rfl
      · refine s_ret ev_c fun H2 g2 => k _ H2 g2 ?_
        show V.bl _ = V.bl (nameS z)
        unfold nameS
        rw [hb]
        rfl
    | _ =>
      refine s_ifN (b := false) ?_ (fun hb => by cases hb) fun hb => ?_
      · refine (et_and (b := false) (et_test e0) (fun e => ?_)).is ?_
        · obtain ⟨z, hz⟩ := (tyb_str t).mp e
          cases hz
        · simp
      · exact s_ret ev_c fun H2 g2 => k _ H2 g2 rfl
def intV : V → Bool
  | .int _ => true
  | _ => false
abbrev spWhole (K : PySem.W.Frag) : Sp := spV (A := V) (fun x => [x]) (fun x H => ∃ T, TyB K H x T) (fun x => .bl (intV x))
theorem ok_is_whole (M : Mo fa fn K mg) : Callee P w K mg base CX0 1 "is_whole" ["thing"] (spWhole K) := by
  refine callee_mk M.d_is_whole M.g_is_whole sc_is_whole (fun _ _ _ _ _ _ us hl => match us, hl with | [_], _ => rfl) (fun vs H Q E h => ?_) (fun cdv A outer s H vs Q E hr h => ?_)
  · obtain ⟨x, rfl, _⟩ := h
    rfl
  · obtain ⟨x, rfl, ⟨T, t⟩, k⟩ := h
    refine ⟨_, (pss_one (ps_ret (pe_cmpR op_eqTy (pe_callTy (k_type K) rfl M.z_type (by decide +kernel) (pa_cons (pv 0) pa_nil)) (pe_bltn (v := .ty "int") rfl M.z_int (by decide +kernel) rfl) (nomark _)))), do_go ?_⟩
    refine s_ret (ev_typeIs (ev_var rfl) t ty_int) fun H1 g => k _ H1 g ?_
    cases t <;> rfl
theorem ok_is_number (M : Mo fa fn K mg) : Callee P w K mg base CX0 2 "is_number" ["thing"] (spNumber K) := by
  have C_is_whole := ok_is_whole (P := P) (w := w) (base := base) M
  refine callee_mk M.d_is_number M.g_is_number sc_is_number (fun _ _ _ _ _ _ us hl => match us, hl with | [_], _ => rfl) (fun vs H Q E h => ?_) (fun cdv A outer s H vs Q E hr h => ?_)
  · obtain ⟨x, rfl, _⟩ := h
    rfl
  · obtain ⟨x, rfl, hx, k⟩ := h
    refine ⟨_, (pss_one (ps_ret (pe_and (pe_callC C_is_whole (hr.mono (by decide)) rfl pass0 (pa_cons (pv 0) pa_nil)) (pe_one (pe_chain op_le op_le (pe_un un_neg (pe_const rfl M.con_GREATEST_NUMBER)) (pv 0) (pe_const rfl M.con_GREATEST_NUMBER)))))), do_go ?_⟩
    have e0 : ∀ {E : XK}, Ev (tCall (spWhole K) [] E (tCons (tVar 0) tNil)) (start n_is_number [x]) H (.bl (intV x)) := fun {E} => ev_call (ea_cons (ev_var (i := 0) rfl) ea_nil) (pv_V (arg := fun x => [x]) (pre := fun x H => ∃ T, TyB K H x T) (val := fun x => .bl (intV x)) x fun H1 g => (hx.mono g).1)
    cases x with
    | int n =>
      refine s_ret (ev_andV e0 fun _ => ev_chain (ev_neg ev_c) (ev_var rfl) rv_I0 (fun _ => ev_c) fun _ => rv_I0) fun H1 g => k _ H1 g ?_
      rfl
    | _ =>
      refine s_ret (ev_andV (b := false) e0 fun e => ?_) fun H1 g => k _ H1 g ?_
      · cases e
      · rfl
/-! ### the law's draws -/
def spreadI (c k : Int) : Int := (c + 3) * (48271 + 2 * k * k + k) % 2147483647
theorem spreadI_ge (c k : Int) : 0 ≤ spreadI c k := Int.emod_nonneg _ (by decide)
theorem spreadI_lt (c k : Int) : spreadI c k < 2147483647 := Int.emod_lt_of_pos _ (by decide)
abbrev spSpread : Sp := spV (A := Int × Int) (fun a => [.int a.1, .int a.2]) (fun a _ => 0 ≤ a.2 ∧ a.2 ≤ 1000) (fun a => .int (spreadI a.1 a.2))
theorem ok__law_spread (M : Mo fa fn K mg) : Callee P w K mg base CX0 1 "_law_spread" ["_law_cell", "_law_k"] spSpread := by
  refine callee_mk M.d__law_spread M.g__law_spread sc__law_spread (fun _ _ _ _ _ _ us hl => match us, hl with | [_, _], _ => rfl) (fun vs H Q E h => ?_) (fun cdv A outer s H vs Q E hr h => ?_)
  · obtain ⟨x, rfl, _⟩ := h
    rfl
  · obtain ⟨⟨c, k⟩, rfl, ⟨h0, h1⟩, kk⟩ := h
    refine ⟨_, (pss_one (ps_ret (pe_op op_mod (pe_op op_mul (pe_op op_add (pv 0) pe_int) (pe_op op_add (pe_op op_add pe_int (pe_op op_mul (pe_op op_mul pe_int (pv 1)) (pv 1))) (pv 1))) pe_int))), do_go ?_⟩
    have hq : 0 ≤ k * k ∧ k * k ≤ 1000000 := ⟨Int.mul_nonneg h0 h0, Int.le_trans (Int.mul_le_mul_of_nonneg_right h1 h0) (by omega)⟩
    have e2 : 2 * k * k = 2 * (k * k) := Int.mul_assoc _ _ _
    refine s_ret (ev_op (ev_op (ev_op (ev_var rfl) ev_c rv_I0) (ev_op (ev_op ev_c (ev_op (ev_op ev_c (ev_var rfl) (rv_I ?_)) (ev_var rfl) (rv_I ?_)) rv_I0) (ev_var rfl) rv_I0) (rv_I ?_)) ev_c (rv_I ?_)) fun H1 g => kk _ H1 g rfl
    · exact .inl (by decide)
    · exact .inr (by omega)
    · refine .inr ?_
      dsimp only
      rw [e2]
      omega
    · decide
/-- the letter at a place -/
theorem letter_at {i : Int} (h0 : 0 ≤ i) (h1 : i < 26) : atI (TL.tl "abcdefghijklmnopqrstuvwxyz") i = some (97 + i.toNat) := by
  obtain ⟨j, rfl⟩ := Int.eq_ofNat_of_zero_le h0
  have hj : j < 26 := by omega
  have all : ∀ j < 26, (TL.tl "abcdefghijklmnopqrstuvwxyz")[j]? = some (97 + j) := by decide +kernel
  exact atI_nat (all j hj)
abbrev spText : Sp := spOf (A := Int) (fun d => [.int d]) (fun d _ => 0 ≤ d) (fun _ _ v _ => ∃ t : Str, v = .str t ∧ t.length ≤ 100 ∧ okS t)
theorem cutS_le (z : Str) (lo hi : Option Int) : (cutS z lo hi).length ≤ z.length := cutS_length z lo hi
theorem ok__law_text (M : Mo fa fn K mg) : Callee P w K mg base CX0 1 "_law_text" ["_law_draw_here"] spText := by
  refine callee_mk M.d__law_text M.g__law_text sc__law_text (fun _ _ _ _ _ _ us hl => match us, hl with | [_], _ => rfl) (fun vs H Q E h => ?_) (fun cdv A outer s H vs Q E hr h => ?_)
  · obtain ⟨x, rfl, _⟩ := h
    rfl
  · obtain ⟨d, rfl, h0, kk⟩ := h
    refine ⟨_, (pss_cons (ps_set (i := 1) sc__law_text.nd rfl (Or.inr rfl) pe_str)
  (pss_cons (ps_set (i := 2) sc__law_text.nd rfl (Or.inl rfl) (pe_join pe_str (pe_lc (own := [("_law_k", 5)]) (g := (gName 5)) (tt := tYes) rfl sc__law_text.nd (pi_range1 rfl M.z_range (pa_cons (pe_op op_mod (pv 0) pe_int) pa_nil)) (blkOk_by (own := [("_law_k", 5)]) (N := n__law_text) (sc := defScope s__law_text) (by decide +kernel)) (fun _ _ _ _ _ => (pg_name (i := 5) sc__law_text.nd rfl (Or.inl rfl))) (fun _ _ _ _ _ => pts_nil) (fun _ _ _ _ _ => (pe_ix ix_str (pv 1) (pe_op op_mod (pe_op op_fdiv (pv 0) (pe_op op_add pe_int (pe_op op_mul pe_int (pv 5)))) pe_int) (fun _ _ => rfl))))))
  (pss_cons (ps_set (i := 3) sc__law_text.nd rfl (Or.inl rfl) (pe_op op_mod (pe_op op_fdiv (pv 0) pe_int) (pe_op op_add (pe_callB call_len_str rfl M.z_len (by decide +kernel) (pa_cons (pv 2) pa_nil)) pe_int)))
  (pss_cons (ps_set (i := 4) sc__law_text.nd rfl (Or.inl rfl) (pe_ix (k_ixL K) (pe_lst (pa_cons pe_str (pa_cons pe_str (pa_cons pe_str (pa_cons pe_str (pa_cons pe_str (pa_cons pe_str (pa_cons pe_str (pa_cons pe_str pa_nil))))))))) (pe_op op_mod (pe_op op_fdiv (pv 0) pe_int) pe_int) (fun _ _ => rfl)))
  (pss_one (ps_ret (pe_op op_add_str (pe_op op_add_str (pe_slice sl_str (pv 2) po_none (po_some (pv 3))) (pv 4)) (pe_slice sl_str (pv 2) (po_some (pv 3)) po_none)))))))), do_go ?_⟩
    have hm : 0 ≤ d % 10 ∧ d % 10 < 10 := ⟨Int.emod_nonneg _ (by decide), Int.emod_lt_of_pos _ (by decide)⟩
    obtain ⟨n, hn⟩ := Int.eq_ofNat_of_zero_le hm.1
    have hn10 : n < 10 := by omega
    refine s_set ev_c ?_
    have hk := kps_le (fun _ => true) n
    refine s_set (v := .str (Txt.join "" ((kps (fun _ => true) n).map fun (i : Nat) => (⟨#[97 + (d / (1 + 3 * (i : Int)) % 26).toNat]⟩ : Str)))) ?_ ?_
    · refine ev_join ev_c ?_ ?_
      · refine (elc_val (ei_range (n := n) ((ev_op (ev_var rfl) ev_c (rv_I (by decide))).is (congrArg V.int hn)) (by omega)) (small_line (by omega)) (fun i H1 x H2 y => y.1 ▸ .refl _) (fun _ => true) (fun i => .str ⟨#[97 + (d / (1 + 3 * (i : Int)) % 26).toNat]⟩) ?_).is (congrArg HO.lst (map_strs _ _))
        rintro i x H1 H2 hi g ⟨rfl, rfl⟩
        refine ⟨_, eg_name, rfl, fun H3 g3 Q q => q H3 (.refl _), fun _ => ?_⟩
        refine ev_op (ev_var rfl) (ev_op (ev_op (ev_var rfl) (ev_op ev_c (ev_op ev_c (ev_var rfl) (rv_I ?_)) rv_I0) (rv_I ?_)) ev_c (rv_I (by decide))) (rv_ixS (by decide +kernel) (letter_at (Int.emod_nonneg _ (by decide)) (Int.emod_lt_of_pos _ (by decide))))
        · exact .inl (by decide)
        · exact ⟨by omega, by omega⟩
      · rw [sum_ones, List.length_map]
        show _ + _ * 0 ≤ _
        omega
    have hl := length_join_ones (fun i : Nat => 97 + (d / (1 + 3 * (i : Int)) % 26).toNat) (kps (fun _ => true) n)
    have ho : okS (Txt.join ("" : Str) ((kps (fun _ => true) n).map fun (i : Nat) => (⟨#[97 + (d / (1 + 3 * (i : Int)) % 26).toNat]⟩ : Str))) := okS_join_ones (f := fun i : Nat => 97 + (d / (1 + 3 * (i : Int)) % 26).toNat) fun i _ => by
      have q1 := Int.emod_nonneg (d / (1 + 3 * (i : Int))) (b := 26) (by decide)
      have q2 := Int.emod_lt_of_pos (d / (1 + 3 * (i : Int))) (b := 26) (by decide)
      omega
    generalize Txt.join ("" : Str) ((kps (fun _ => true) n).map fun (i : Nat) => (⟨#[97 + (d / (1 + 3 * (i : Int)) % 26).toNat]⟩ : Str)) = t at hl ho ⊢
    have ht : t.length ≤ 10 := by omega
    have hm2 := Int.emod_nonneg (d / 10) (b := (t.length : Int) + 1) (by omega)
    refine s_set (ev_op (ev_op (ev_var rfl) ev_c (rv_I ⟨by decide, by decide⟩)) (ev_op (ev_lenS (ev_var rfl) (small_line (by omega))) ev_c rv_I0) (rv_I (by omega))) ?_
    have hm3 : 0 ≤ d / 100 % 8 ∧ d / 100 % 8 < 8 := ⟨Int.emod_nonneg _ (by decide), Int.emod_lt_of_pos _ (by decide)⟩
    obtain ⟨v, hv1, hv2⟩ := atI_mem (xs := [V.str "", V.str "", V.str "A", V.str " ", V.str "1", V.str "-", V.str "_", V.str "\n"]) hm3.1 hm3.2
    have hv : ∃ z : Str, v = .str z ∧ z.length ≤ 1 ∧ okS z := by
      simp only [List.mem_cons, List.mem_nil_iff, or_false] at hv2
      rcases hv2 with rfl | rfl | rfl | rfl | rfl | rfl | rfl | rfl <;> exact ⟨_, rfl, by decide +kernel, by unfold okS; decide +kernel⟩
    obtain ⟨z, rfl, hz, hzo⟩ := hv
    refine s_set (v := .str z) (ev_opF (ef_lst (ea_cons ev_c (ea_cons ev_c (ea_cons ev_c (ea_cons ev_c (ea_cons ev_c (ea_cons ev_c (ea_cons ev_c (ea_cons ev_c ea_nil)))))))) (by decide)) (ev_op (ev_op (ev_var rfl) ev_c (rv_I ⟨by decide, by decide⟩)) ev_c (rv_I (by decide))) fun p H1 g e => rv_ixL (.of e) hv1) ?_
    have c1 := cutS_le t none (some (d / 10 % ((t.length : Int) + 1)))
    have c2 := cutS_le t (some (d / 10 % ((t.length : Int) + 1))) none
    refine s_ret (ev_op (ev_op (ev_slS (ev_var rfl) eo_none (eo_some (ev_var rfl)) (small_line (by omega))) (ev_var rfl) (rv_addS (small_line (by omega)))) (ev_slS (ev_var rfl) (eo_some (ev_var rfl)) eo_none (small_line (by omega))) (rv_addS (small_line (by rw [length_add]; omega)))) fun H1 g => kk _ H1 g ⟨_, rfl, ?_, okS_add (okS_add (okS_cut ho _ _) hzo) (okS_cut ho _ _)⟩
    rw [length_add, length_add]
    omega
abbrev spNum : Sp := spOf (A := Int × Int) (fun a => [.int a.1, .int a.2]) (fun a _ => 0 ≤ a.2 ∧ a.2 < 2147483647) (fun _ _ v _ => ∃ n : Int, v = .int n ∧ -(2 * (10 : Int) ^ 60) ≤ n ∧ n ≤ 2 * (10 : Int) ^ 60)
theorem pow60 : (10 : Int) ^ (60 : Int).toNat = (10 : Int) ^ 60 := rfl
theorem big60 : (2147483647 : Int) < (10 : Int) ^ 60 := by decide +kernel
theorem big60m : (2 : Int) ≤ (10 : Int) ^ 60 := by decide +kernel
theorem cpow60 : CPow 10 60 := ⟨by decide, by decide, by decide⟩
theorem ok__law_number (M : Mo fa fn K mg) : Callee P w K mg base CX0 1 "_law_number" ["_law_cell", "_law_draw_here"] spNum := by
  refine callee_mk M.d__law_number M.g__law_number sc__law_number (fun _ _ _ _ _ _ us hl => match us, hl with | [_, _], _ => rfl) (fun vs H Q E h => ?_) (fun cdv A outer s H vs Q E hr h => ?_)
  · obtain ⟨x, rfl, _⟩ := h
    rfl
  · obtain ⟨⟨c, d⟩, rfl, ⟨h0, h1⟩, kk⟩ := h
    refine ⟨_, (pss_cons (ps_set (i := 2) sc__law_number.nd rfl (Or.inl rfl) (pe_op op_pow pe_int pe_int))
  (pss_cons (ps_set (i := 3) sc__law_number.nd rfl (Or.inl rfl) (pe_lst (pa_cons (pv 2) (pa_cons (pe_op op_add (pv 2) pe_int) (pa_cons (pe_un un_neg (pv 2)) (pa_cons (pe_op op_sub (pe_un un_neg (pv 2)) pe_int) (pa_cons (pe_op op_sub (pv 2) pe_int) (pa_cons pe_int (pa_cons (pe_op op_mod (pv 0) (pe_op op_mul pe_int (pv 2))) (pa_cons (pe_un un_neg (pe_op op_mod (pv 0) (pe_op op_mul pe_int (pv 2)))) pa_nil))))))))))
  (pss_one (ps_ret (pe_ix (k_ixL K) (pe_op op_cat (pv 3) (pe_lst (pa_cons (pe_op op_mul (pe_op op_mod (pv 0) (pv 2)) (pe_op op_mod (pv 1) pe_int)) (pa_cons (pv 1) pa_nil)))) (pe_op op_mod (pe_op op_fdiv (pv 1) pe_int) pe_int) (fun _ _ => rfl)))))), do_go ?_⟩
    have hm3 : 0 ≤ d / 3 % 10 ∧ d / 3 % 10 < 10 := ⟨Int.emod_nonneg _ (by decide), Int.emod_lt_of_pos _ (by decide)⟩
    have b1 := big60
    refine s_set (v := .int ((10 : Int) ^ 60)) (ev_op ev_c ev_c (rv_I (f := fun i j => .int (i ^ j.toNat)) cpow60)) ?_
    generalize hM : (10 : Int) ^ 60 = T at b1 kk ⊢
    have m1 := Int.emod_nonneg c (b := 2 * T) (by omega)
    have m2 := Int.emod_lt_of_pos c (b := 2 * T) (by omega)
    have m3 := Int.emod_nonneg c (b := T) (by omega)
    have m4 := Int.emod_lt_of_pos c (b := T) (by omega)
    have m5 := Int.emod_nonneg d (b := 3) (by decide)
    have m6 := Int.emod_lt_of_pos d (b := 3) (by decide)
    refine s_setF (ef_lst (ea_cons (ev_var rfl) (ea_cons (ev_op (ev_var rfl) ev_c rv_I0) (ea_cons (ev_neg (ev_var rfl)) (ea_cons (ev_op (ev_neg (ev_var rfl)) ev_c rv_I0) (ea_cons (ev_op (ev_var rfl) ev_c rv_I0)
      (ea_cons ev_c (ea_cons (ev_op (ev_var rfl) (ev_op ev_c (ev_var rfl) (rv_I (.inl (by decide)))) (rv_I (by omega))) (ea_cons (ev_neg (ev_op (ev_var rfl) (ev_op ev_c (ev_var rfl) (rv_I (.inl (by decide)))) (rv_I (by omega)))) ea_nil)))))))) (lineR rfl)) ?_
    intro p H1 np g e
    obtain ⟨v, hv1, hv2⟩ := atI_mem (xs := [V.int T, .int (T + 1), .int (-T), .int (-T - 1), .int (T - 1), .int 0, .int (c % (2 * T)), .int (-(c % (2 * T)))] ++ [V.int (c % T * (d % 3)), .int d]) hm3.1 hm3.2
    refine s_ret (v := v) (ev_opF (ef_cat (ev_var rfl) e (ef_lst (ea_cons (ev_op (ev_op (ev_var rfl) (ev_var rfl) (rv_I (by omega))) (ev_op (ev_var rfl) ev_c (rv_I (by decide))) (rv_I (.inr (by omega)))) (ea_cons (ev_var rfl) ea_nil)) (lineR rfl)) (lineR rfl)) (ev_op (ev_op (ev_var rfl) ev_c (rv_I ⟨by decide, by decide⟩)) ev_c (rv_I (by decide))) fun p H1 g e => rv_ixL (.of e) hv1) fun H2 g2 => kk v H2 (g.trans g2) ?_
    have q1 : 0 ≤ c % T * (d % 3) := Int.mul_nonneg m3 m5
    have q2 : c % T * (d % 3) ≤ c % T * 2 := Int.mul_le_mul_of_nonneg_left (by omega) m3
    simp only [List.cons_append, List.nil_append, List.mem_cons, List.mem_nil_iff, or_false] at hv2
    rcases hv2 with rfl | rfl | rfl | rfl | rfl | rfl | rfl | rfl | rfl | rfl <;> exact ⟨_, rfl, by omega, by omega⟩
/-- what the odd thing is -/
def Odd (K : PySem.W.Frag) (v : V) (H : Hp) : Prop := Askable K v H ∧ nameV v = false ∧ numV v = false
theorem odd_mono {K : PySem.W.Frag} : ∀ (v : V) (Ha Hb : Hp), Ge Ha Hb → Odd K v Ha → Odd K v Hb := fun v Ha Hb g ⟨a, b, c⟩ => ⟨a.mono g, b, c⟩
theorem ask_int {K : PySem.W.Frag} {H : Hp} (n : Int) : Askable K (.int n) H := ⟨⟨_, .int n⟩, fun z e => by cases e⟩
theorem ask_str {K : PySem.W.Frag} {H : Hp} {z : Str} (h : z.length ≤ sizeLine) : Askable K (.str z) H := ⟨⟨_, .str z⟩, fun y e => by cases e; exact h⟩
abbrev spLaw (K : PySem.W.Frag) : Sp := fun vs H Q _ => ∃ (a : Addr) (ns : List Int), vs = [.ref a] ∧ SqL K H a (ns.map V.int) ∧ ns.length ≤ 63 ∧ GxR.TabG H (tabN K).2 ∧ ∀ H', Q (.bl true) H'
theorem cut_ints (ns : List Int) (lo hi : Option Int) : ∃ ms : List Int, cutV (ns.map V.int) lo hi = ms.map V.int ∧ ms.length ≤ ns.length := by
  unfold cutV
  rw [← List.map_drop, ← List.map_take]
  refine ⟨_, rfl, ?_⟩
  rw [List.length_take, List.length_drop]
  omega
theorem eqv_nil (vs : List V) : PyData.eqv (.list (vs.map fD)) (.list (([] : List V).map fD)) = vs.isEmpty := by
  cases vs <;> rfl
theorem signs_eq (t : Str) : ((kps (fun i => !decide ((TL.tl t)[i]?.getD 0 ∈ TL.tl "abcdefghijklmnopqrstuvwxyz")) t.length).map fun i => V.str ⟨#[(TL.tl t)[i]?.getD 0]⟩).isEmpty = (TL.tl t).all lowc := by
  rw [Bool.eq_iff_iff, List.isEmpty_iff, List.map_eq_nil_iff, List.all_eq_true]
  unfold kps
  rw [List.filter_eq_nil_iff]
  constructor
  · intro h c hc
    obtain ⟨i, hi, e⟩ := List.getElem_of_mem hc
    have q := h i (List.mem_range.mpr (by rw [len_tl]; exact hi))
    rw [List.getElem?_eq_getElem hi, e] at q
    rw [lowc_mem]
    simpa using q
  · intro h i hi
    have hi' : i < (TL.tl t).length := by
      rw [← len_tl]
      exact List.mem_range.mp hi
    have q := h _ (List.getElem_mem hi')
    rw [lowc_mem] at q
    rw [List.getElem?_eq_getElem hi']
    simpa using q
theorem ok_law {fd : FuncData} (M : Mo fa fn K mg) (TB : GxR.TabB base mg (tabN K).1 (tabN K).2) (F : FunD K d_law.name d_law.qual (defArgs s_law) (defBody s_law) (defScope s_law) [] [] (He.fAd K d_law.at_) fd) : FnOk P w K mg base CX0 4 (He.fAd K d_law.at_) fd ["_law_script"] (spLaw K) := by
  have C_is_name := ok_is_name (P := P) (w := w) (base := base) M TB
  have C_is_number := ok_is_number (P := P) (w := w) (base := base) M
  have C__law_spread := ok__law_spread (P := P) (w := w) (base := base) M
  have C__law_text := ok__law_text (P := P) (w := w) (base := base) M
  have C__law_number := ok__law_number (P := P) (w := w) (base := base) M
  refine fnok_mk F sc_law (fun vs H Q E h => ?_) (fun cdv A outer s H vs Q E hr h => ?_)
  · obtain ⟨x, _, rfl, _⟩ := h
    rfl
  · obtain ⟨a, ns, rfl, hS, hlen, hT, kk⟩ := h
    refine ⟨_, (pss_cons (ps_for PassesOwn.never rfl (k_list_it K (pe_op op_cat (pe_slice (k_slL K) (pv 0) po_none (po_some pe_int)) (pe_lst (pa_cons pe_int pa_nil)))) (pg_name (i := 1) sc_law.nd rfl (Or.inl rfl)) (pss_cons (ps_set (i := 2) sc_law.nd rfl (Or.inl rfl) (pe_callC C__law_spread (hr.mono (by decide)) rfl pass0 (pa_cons (pv 1) (pa_cons pe_int pa_nil))))
  (pss_cons (ps_set (i := 3) sc_law.nd rfl (Or.inl rfl) (pe_callC C__law_text (hr.mono (by decide)) rfl pass0 (pa_cons (pv 2) pa_nil)))
  (pss_cons (ps_set (i := 4) sc_law.nd rfl (Or.inl rfl) (pe_and (pe_chain op_le op_le pe_int (pe_callB call_len_str rfl M.z_len (by decide +kernel) (pa_cons (pv 3) pa_nil)) pe_int) (pe_one (pe_cmpR (k_eqD K hr.units) (pe_lc (own := [("_law_sign", 9)]) (g := (gName 9)) (tt := _) rfl sc_law.nd (pi_str (pv 3)) (blkOk_by (own := [("_law_sign", 9)]) (N := n_law) (sc := defScope s_law) (by decide +kernel)) (fun _ _ _ _ _ => (pg_name (i := 9) sc_law.nd rfl (Or.inl rfl))) (fun _ _ _ _ _ => pts_one (pt_cmpR op_notIn_sign (pv 9) pe_str (by rfl))) (fun _ _ _ _ _ => (pv 9))) (pe_lst pa_nil) (nomark _)))))
  (pss_cons (ps_set (i := 5) sc_law.nd rfl (Or.inl rfl) (pe_callC C__law_number (hr.mono (by decide)) rfl pass0 (pa_cons (pv 1) (pa_cons (pv 2) pa_nil))))
  (pss_cons (ps_set (i := 6) sc_law.nd rfl (Or.inl rfl) (pe_ix (k_ixL K) (pe_lst (pa_cons pe_non (pa_cons pe_bl (pa_cons pe_bl (pa_cons (pe_lst (pa_cons (pv 3) pa_nil)) (pa_cons (pe_tup (pa_cons (pv 3) pa_nil)) (pa_cons pe_dnewK (pa_cons (pe_lst pa_nil) (pa_cons pe_str (pa_cons (pe_callTy call_str_int rfl M.z_str (by decide +kernel) (pa_cons (pv 5) pa_nil)) pa_nil)))))))))) (pe_op op_mod (pv 2) pe_int) (fun _ _ => rfl)))
  (pss_cons (ps_set (i := 7) sc_law.nd rfl (Or.inl rfl) (pe_lst (pa_cons (pe_callC C_is_name (hr.mono (by decide)) rfl pass0 (pa_cons (pv 3) pa_nil)) (pa_cons (pe_callC C_is_number (hr.mono (by decide)) rfl pass0 (pa_cons (pv 3) pa_nil)) (pa_cons (pe_callC C_is_name (hr.mono (by decide)) rfl pass0 (pa_cons (pv 5) pa_nil)) (pa_cons (pe_callC C_is_number (hr.mono (by decide)) rfl pass0 (pa_cons (pv 5) pa_nil)) (pa_cons (pe_callC C_is_name (hr.mono (by decide)) rfl pass0 (pa_cons (pv 6) pa_nil)) (pa_cons (pe_callC C_is_number (hr.mono (by decide)) rfl pass0 (pa_cons (pv 6) pa_nil)) pa_nil))))))))
  (pss_cons (ps_set (i := 8) sc_law.nd rfl (Or.inl rfl) (pe_chain op_le op_le (pe_un un_neg (pe_op op_pow pe_int pe_int)) (pv 5) (pe_op op_pow pe_int pe_int)))
  (pss_one (ps_if (PW.pt (pw_or (pt_cmpR (k_neD K hr.units) (pv 7) (pe_lst (pa_cons (pv 4) (pa_cons pe_bl (pa_cons pe_bl (pa_cons (pv 8) (pa_cons pe_bl (pa_cons pe_bl pa_nil))))))) (nomark _)) (pw_or1 (pt_not (pt_val (pe_callB (k_all K rfl) rfl M.z_all (by decide +kernel) (pa_cons (pe_lc (own := [("_law_one", 10)]) (g := (gName 10)) (tt := tYes) rfl sc_law.nd (k_list_it K (pv 7)) (blkOk_by (own := [("_law_one", 10)]) (N := n_law) (sc := defScope s_law) (by decide +kernel)) (fun _ _ _ _ _ => (pg_name (i := 10) sc_law.nd rfl (Or.inl rfl))) (fun _ _ _ _ _ => pts_nil) (fun _ _ _ _ _ => (pe_callB (k_isi K) rfl M.z_isinstance (by decide +kernel) (pa_cons (pv 10) (pa_cons (pe_bltn (v := .ty "bool") rfl M.z_bool (by decide +kernel) rfl) pa_nil))))) pa_nil))))))) (pss_one (ps_ret pe_bl)) pss_nil))))))))))
  (pss_one (ps_ret pe_bl))), do_go ?_⟩
    obtain ⟨ms, em, hm⟩ := cut_ints ns none (some 60)
    refine s_seq (s_for (ei_listF (xs := ms.map V.int ++ [.int 0]) (ef_catF ((ef_sl (ev_var rfl) eo_none (eo_some ev_c) hS).is (congrArg HO.lst em)) (ef_lst (ea_cons ev_c ea_nil) (lineR rfl)) ?_))
      (fun p i σ' H' => (∃ v1 v2 v3 v4 v5 v6 v7 v8 v9 v10, σ' = [some (.ref a), v1, v2, v3, v4, v5, v6, v7, v8, v9, v10]) ∧ H' p = some (.lst (ms.map V.int ++ [.int 0])) ∧ Ge H H')
      (fun p H1 g hp => ⟨⟨_, _, _, _, _, _, _, _, _, _, rfl⟩, hp, g⟩) (fun p i σ' H' q => q.2.1) ?_ ?_)
    · rw [List.length_map]
      exact small_line (by simp; omega)
    · rintro p i x σ1 H1 _ hi ⟨⟨v1, v2, v3, v4, v5, v6, v7, v8, v9, v10, rfl⟩, hp, g⟩ ⟨rfl, hx⟩
      obtain ⟨c, rfl⟩ : ∃ c, x = V.int c := by
        have q := List.mem_of_getElem? hx
        rcases List.mem_append.mp q with q | q
        · obtain ⟨c, _, e⟩ := List.mem_map.mp q
          exact ⟨c, e.symm⟩
        · exact ⟨0, List.mem_singleton.mp q⟩
      have hT1 := g.tabG hT
      refine ⟨_, eg_name, ?_⟩
      refine s_set (ev_call (ea_cons (ev_var rfl) (ea_cons ev_c ea_nil)) (pv_V (c, 3) fun _ _ => ⟨by show (0 : Int) ≤ 3; decide, by show (3 : Int) ≤ 1000; decide⟩)) ?_
      have d0 := spreadI_ge c 3
      have d1 := spreadI_lt c 3
      dsimp only
      generalize spreadI c 3 = d at d0 d1 ⊢
      refine s_setR (ev_callR (ea_cons (ev_var rfl) ea_nil) (pv_of d (fun _ _ => d0) fun _ _ _ _ _ r => r) fun _ _ _ _ _ r => r) ?_
      rintro Ha _ Hb ga gb ⟨t, rfl, ht, hto⟩
      have g1 := ga.trans gb
      have hline : t.length ≤ sizeLine := small_line (by omega)
      have flatN : ∀ v ∈ ([] : List V), Flat v := fun v hv => by cases hv
      have flatL : ∀ v ∈ ((kps (fun i => !decide ((TL.tl t)[i]?.getD 0 ∈ TL.tl "abcdefghijklmnopqrstuvwxyz")) t.cps.size).map fun i => V.str ⟨#[(TL.tl t)[i]?.getD 0]⟩), Flat v := fun v hv => by
        obtain ⟨i, _, rfl⟩ := List.mem_map.mp hv
        intro c hc
        have e : c = (TL.tl t)[i]?.getD 0 := List.mem_singleton.mp hc
        rw [e]
        cases q : (TL.tl t)[i]? with
        | none => decide
        | some u => exact hto u (List.mem_of_getElem? q)
      refine s_set (v := .bl (nameS t)) ((ev_andV (b := (TL.tl t).all lowc) (ev_chain ev_c (ev_lenS (ev_var rfl) hline) rv_I0 (fun _ => ev_c) fun _ => rv_I0) fun _ => ?_).is rfl) ?_
      · refine (ev_eqD (ed_flat (elc_val (ei_str (ev_var rfl)) hline (fun i H1 x H2 y => y.1 ▸ .refl _) (fun i => !decide ((TL.tl t)[i]?.getD 0 ∈ TL.tl "abcdefghijklmnopqrstuvwxyz")) (fun i => .str ⟨#[(TL.tl t)[i]?.getD 0]⟩) ?_) ?_) (ed_flat (ef_lst ea_nil (lineR rfl)) ?_) (shaped_flat ?_) (shaped_flat ?_)).is ?_
        · rintro i x Hc _ hi gc ⟨rfl, c', hc', rfl⟩
          have ec : (TL.tl t)[i]?.getD 0 = c' := by
            rw [show (TL.tl t)[i]? = some c' from (Array.getElem?_toList).trans hc'] <;> rfl
          rw [ec]
          exact ⟨_, eg_name, rfl, et_test (ev_op (ev_var rfl) ev_c rv_notInS), fun _ => ev_var rfl⟩
        · exact flatL
        · exact flatN
        · exact flatL
        · exact flatN
        · exact congrArg V.bl ((eqv_nil _).trans (signs_eq t))
      have hT2 := g1.tabG hT1
      refine s_setR (ev_callR (ea_cons (ev_var rfl) (ea_cons (ev_var rfl) ea_nil)) (pv_of (c, d) (fun _ _ => ⟨d0, d1⟩) fun _ _ _ _ _ r => r) fun _ _ _ _ _ r => r) ?_
      rintro Hc _ Hd gc gd ⟨m, rfl, m0, m1⟩
      have g2 := gc.trans gd
      have hm70 : m.natAbs < 10 ^ 70 := by
        have b3 : (2 : Int) * (10 : Int) ^ 60 < (10 : Int) ^ 70 := by decide +kernel
        have b4 : (((10 : Nat) ^ 70 : Nat) : Int) = (10 : Int) ^ 70 := by decide +kernel
        generalize (10 : Int) ^ 60 = T at m0 m1 b3
        generalize (10 : Int) ^ 70 = U at b3 b4
        generalize (10 : Nat) ^ 70 = W at b4 ⊢
        omega
      have hd9 : 0 ≤ d % 9 ∧ d % 9 < 9 := ⟨Int.emod_nonneg _ (by decide), Int.emod_lt_of_pos _ (by decide)⟩
      have mlen := len_int (k := 70) (by decide) hm70
      refine s_setR (ev_pick (P := Odd K) (n := 9) (eall_cons odd_mono (eall_item ev_c fun H => ⟨⟨⟨_, .non⟩, fun z e => by cases e⟩, rfl, rfl⟩) (eall_cons odd_mono (eall_item ev_c fun H => ⟨⟨⟨_, .bl _⟩, fun z e => by cases e⟩, rfl, rfl⟩) (eall_cons odd_mono (eall_item ev_c fun H => ⟨⟨⟨_, .bl _⟩, fun z e => by cases e⟩, rfl, rfl⟩)
        (eall_cons odd_mono (fun H1 g Q q => (ef_lst (ea_cons (ev_var rfl) ea_nil) (lineR rfl)).go g fun p H2 _ g2 e => q _ H2 g2 ⟨⟨⟨_, .lst (.of e)⟩, fun z e => by cases e⟩, rfl, rfl⟩)
        (eall_cons odd_mono (fun H1 g Q q => (ef_tup (ea_cons (ev_var rfl) ea_nil) (lineR rfl)).go g fun p H2 _ g2 e => q _ H2 g2 ⟨⟨⟨_, .tup (.of e)⟩, fun z e => by cases e⟩, rfl, rfl⟩)
        (eall_cons odd_mono (fun H1 g Q q => ef_newK.go g fun p H2 _ g2 e => q _ H2 g2 ⟨⟨⟨_, .dK e⟩, fun z e => by cases e⟩, rfl, rfl⟩)
        (eall_cons odd_mono (fun H1 g Q q => (ef_lst ea_nil (lineR rfl)).go g fun p H2 _ g2 e => q _ H2 g2 ⟨⟨⟨_, .lst (.of e)⟩, fun z e => by cases e⟩, rfl, rfl⟩)
        (eall_cons odd_mono (eall_item ev_c fun H => ⟨ask_str (by decide +kernel), by decide +kernel, rfl⟩)
        (eall_cons odd_mono (eall_item (ev_strI (ev_var rfl) (log_small hm70)) fun H => ⟨ask_str (small_line (by omega)), num_not_name m, rfl⟩) eall_nil))))))))) (ev_op (ev_var rfl) ev_c (rv_I (by decide))) hd9.1 hd9.2 (by decide) odd_mono) ?_
      intro He y Hf ge gf ho
      have g3 := ge.trans gf
      have hT3 := g3.tabG (g2.tabG hT2)
      have at1 : Askable K (.str t) Hf := ask_str hline
      have at2 : Askable K (.int m) Hf := ask_int m
      refine s_setF (ef_lst (vs := [.bl (nameS t), .bl false, .bl false, .bl (numI m), .bl false, .bl false]) (ea_cons (ev_call (ea_cons (ev_var rfl) ea_nil) (pv_V (V.str t) fun H g => ⟨at1.mono g, g.tabG hT3⟩)) (ea_cons (ev_call (ea_cons (ev_var rfl) ea_nil) (pv_V (V.str t) fun H g => at1.mono g))
        (ea_cons (ev_call (ea_cons (ev_var rfl) ea_nil) (pv_V (V.int m) fun H g => ⟨at2.mono g, g.tabG hT3⟩)) (ea_cons (ev_call (ea_cons (ev_var rfl) ea_nil) (pv_V (V.int m) fun H g => at2.mono g))
        (ea_cons ((ev_call (ea_cons (ev_var rfl) ea_nil) (pv_V y fun H g => ⟨ho.1.mono g, g.tabG hT3⟩)).is (congrArg V.bl ho.2.1)) (ea_cons ((ev_call (ea_cons (ev_var rfl) ea_nil) (pv_V y fun H g => ho.1.mono g)).is (congrArg V.bl ho.2.2)) ea_nil)))))) (lineR rfl)) ?_
      intro q Hg nq gg eq
      refine s_set (v := .bl (numI m)) (ev_chain (ev_neg (ev_op ev_c ev_c (rv_I cpow60))) (ev_var rfl) rv_I0 (fun _ => ev_op ev_c ev_c (rv_I cpow60)) fun _ => rv_I0) ?_
      have flatB : ∀ v ∈ [V.bl (nameS t), .bl false, .bl false, .bl (numI m), .bl false, .bl false], Flat v := fun v hv => by
        simp only [List.mem_cons, List.mem_nil_iff, or_false] at hv
        rcases hv with rfl | rfl | rfl | rfl | rfl | rfl <;> trivial
      refine s_if (b := false) ((et_or (a := false) (b := false) (et_test ((ev_neD (ed_lst (ev_var rfl) (.of eq) flatB) (ed_flat (ef_lst (ea_cons (ev_var rfl) (ea_cons ev_c (ea_cons ev_c (ea_cons (ev_var rfl) (ea_cons ev_c (ea_cons ev_c ea_nil)))))) (lineR rfl)) flatB) (shaped_flat flatB) (shaped_flat flatB)).is ?_)) fun _ => ?_).is rfl) (fun e => by cases e) fun _ => s_next fun H2 gn => ?_
      · rw [eqv_self (shaped_flat flatB)] <;> rfl
      · refine (et_not (et_B (ev_all (bs := (kps (fun _ => true) 6).map fun _ => true) ((elc_val (ei_list (ev_var rfl) (.of eq)) (lineR rfl) (fun i H1 x H2 y => y.1 ▸ .refl _) (fun _ => true) (fun _ => .bl true) ?_).is (congrArg HO.lst (map_bls _ _)))))).is ?_
        · rintro i x Hh _ hi gh ⟨rfl, hx⟩
          obtain ⟨b, rfl⟩ : ∃ b, x = V.bl b := by
            have q := List.mem_of_getElem? hx
            simp only [List.mem_cons, List.mem_nil_iff, or_false] at q
            rcases q with rfl | rfl | rfl | rfl | rfl | rfl <;> exact ⟨_, rfl⟩
          exact ⟨_, eg_name, rfl, fun H3 g3 Q q => q H3 (.refl _), fun _ => ev_isi (ev_var rfl) (.base (.bl b)) (fun _ _ => .base (.bl b)) (by decide +kernel)⟩
        · decide +kernel
      · have gall := (((g1.trans g2).trans g3).trans gg).trans gn
        exact ⟨⟨_, _, _, _, _, _, _, _, _, _, rfl⟩, gall p _ hp, g.trans gall⟩
    · rintro p σ1 H1 _
      exact kk H1
end
theorem sp_law_ok (K : PySem.W.Frag) : ∀ (H : Hp) (a : Addr) (ns : List Int), ns.length ≤ 63 → (∀ z ∈ ns, Builtin.Int.intBits z ≤ 1048576) → (∀ p ∈ ([("is_name", none)] : List He.Defn), GxR.TabG H (He.cT K p).2) → SqL K H a (ns.map V.int) → spLaw K [.ref a] H (fun v _ => v = .bl true) fun _ _ _ => False :=
  fun H a ns h1 _ h3 h4 => ⟨a, ns, rfl, h4, h1, h3 _ (List.mem_singleton.mpr rfl), fun _ => rfl⟩
theorem ok_law_at {P : Program} {w : World} {K : PySem.W.Frag} {mg : Str → Option Value} {base : Heap} {fd : FuncData} (M : Mo fa fn K mg) (TB : ∀ p ∈ ([("is_name", none)] : List He.Defn), GxR.TabB base mg (He.cT K p).1 (He.cT K p).2) (F : FunD K d_law.name d_law.qual (defArgs s_law) (defBody s_law) (defScope s_law) [] [] (He.fAd K d_law.at_) fd) : FnOk P w K mg base CX0 4 (He.fAd K d_law.at_) fd ["_law_script"] (spLaw K) :=
  ok_law M (TB _ (List.mem_singleton.mpr rfl)) F
def tf : List He.Defn := [("is_name", none)]
abbrev RR : PySem.W.OpenRow := PySem.W.OpenLaw.row PySem.Challenge.rw_gapyard_k01_names_and_numbers
abbrev hk : PySem.W.Hook := He.hookX 5 fa fn [] tf (fun _ => true)
def ob (s : PySem.W.SharedT) : He.AlX := He.obsX 5 fa fn [] tf (fun _ => true) (HandSHeadRun.getT s)
theorem ob_eq (s : PySem.W.SharedT) : ob s = hk.obs s.abs := He.obsX_eq (HandSHeadRun.getT_eq s)
def loose : List Str := (["LONGEST_NAME", "GREATEST_NUMBER", "is_name", "is_number", "is_whole", "_law_draw", "_law_spread", "_law_text", "_law_number"] : List Str)
set_option maxHeartbeats 0 in
theorem run (w : World) : HandSHeadRun.RunEq RR (PySem.W.view RR.prog [11]) hk ob 4000 loose w := by
  intro os
  kernel_rfl
end Gy
open PySem PySem.W PySem.Calls PyProof.Rows in
set_option maxRecDepth 100000 in
set_option maxHeartbeats 0 in
theorem PySem.Challenge.cw_gapyard_k01_names_and_numbers_holds : PySem.Challenge.rw_gapyard_k01_names_and_numbers.Holds := by
  w_on; o_law
  refine HandSHeadRun.head_any (r := OpenLaw.row PySem.Challenge.rw_gapyard_k01_names_and_numbers) (q := view (OpenLaw.row PySem.Challenge.rw_gapyard_k01_names_and_numbers).prog [11]) (H := Gy.hk) (ob := Gy.ob) (loose := Gy.loose) (d := HandSHeadRun.topDef (OpenLaw.row PySem.Challenge.rw_gapyard_k01_names_and_numbers).prog 11) (kwd := []) Gy.ob_eq
    (by kernel_rfl) (fun s => by kernel_rfl) Gy.run (by kernel_rfl) (by kernel_rfl) (by kernel_rfl) (by rfl) (by first | assumption | decide +kernel) (by decide +kernel) ⟨rfl, rfl, rfl, rfl, rfl, by decide +kernel⟩ ?hw ?hc
  case hw => w_witness2
  case hc =>
    refine LamX.walk_ofTsE (l := PySem.Challenge.rw_gapyard_k01_names_and_numbers) (n := 63) (k := 4) (x := "_law_script") (CX := fun _ => L2.CX0) rfl (by decide) (by kernel_rfl) ⟨rfl, by decide, by decide⟩ ?F (fun _ _ _ _ _ z => z)
    intro w mg f h Y G hmg0
    obtain ⟨K, KX, c⟩ := Y
    have hmg : mg ("law" : PySem.Str) = some (.ref f) := by
      have e : (HandSHeadRun.topDef (OpenLaw.row PySem.Challenge.rw_gapyard_k01_names_and_numbers).prog 11).name = ("law" : PySem.Str) := by kernel_rfl
      rw [← e]
      exact hmg0
    have M : Gy.Mo Gy.fa Gy.fn K mg := ⟨h, KX, G, c.t.d⟩
    obtain ⟨fd, F⟩ := M.d_law
    have e := hmg.symm.trans M.g_law
    cases e
    have b := L2.FunD.bindsA (ps := ["_law_script"]) F fun _ _ _ _ _ _ us hl => match us, hl with | [_], _ => rfl
    exact ⟨K, KX, Gy.law_at KX c (fun s v => b s [v] rfl) (Gy.sp_law_ok K) fun base b1 b2 b3 => Gy.ok_law_at ⟨base, b1, b2, c.t.d⟩ b3 F⟩
