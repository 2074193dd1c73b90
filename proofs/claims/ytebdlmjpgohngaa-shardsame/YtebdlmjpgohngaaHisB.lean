/-
  HISTOGRAMS: two moments made one by ways that are handed over: their sum, what is left of one without the other one. Condition: each number is of 64 bits with a sign.
-/
import Derived.Test.YtebdlmjpgohngaaHisA
namespace Go.Proofs.Ytebdlmjpgohngaa
open Go.RowKit

/-- A moment. -/
def mv (x y z : Int) : Value := .agg #[.int .i64 x, .int .i64 y, .int .i64 z]
/-- A way to make one moment of two, as it is handed over. -/
structure WayM (F : Nat) (V0 V1 V2 E0 E1 E2 : Int → Int → Int) : Prop where
  enter : ∀ x y z x' y' z' w, (callFunc F #[.agg #[.int .i64 x, .int .i64 y, .int .i64 z], .agg #[.int .i64 x', .int .i64 y', .int .i64 z']]).run Try.prog w = .ok (.enter F #[.agg #[.int .i64 x, .int .i64 y, .int .i64 z], .agg #[.int .i64 x', .int .i64 y', .int .i64 z']]) w
  run : ∀ x y z x' y' z' w, Whole x → Whole y → Whole z → Whole x' → Whole y' → Whole z' → Calls Try.prog F #[.agg #[.int .i64 x, .int .i64 y, .int .i64 z], .agg #[.int .i64 x', .int .i64 y', .int .i64 z']] w fun e w' =>
    e = .returned (.tuple #[.agg #[.int .i64 (okV (or3 (E0 x x') (E1 y y') (E2 z z')) (V0 x x')), .int .i64 (okV (or3 (E0 x x') (E1 y y') (E2 z z')) (V1 y y')), .int .i64 (okV (or3 (E0 x x') (E1 y y') (E2 z z')) (V2 z z'))], .int .i64 (or3 (E0 x x') (E1 y y') (E2 z z'))]) ∧ Below w.heap.size w w'

theorem alloc4_below (w : World) (o1 o2 o3 o4 : Obj) : Below w.heap.size w ((((w.alloc o1).alloc o2).alloc o3).alloc o4) :=
  ((((Below.refl _ w).alloc (Nat.le_refl _) o1).alloc (by simp) o2).alloc (by simp; omega) o3).alloc (by simp; omega) o4
theorem alloc3_below (w : World) (o1 o2 o3 : Obj) : Below w.heap.size w (((w.alloc o1).alloc o2).alloc o3) :=
  (((Below.refl _ w).alloc (Nat.le_refl _) o1).alloc (by simp) o2).alloc (by simp; omega) o3

set_option maxHeartbeats 1000000 in
theorem moment_any (F G : Nat) (V E V' E' : Int → Int → Int) (hF : Way F V E) (hG : Way G V' E') (x y z x' y' z' : Int) (w : World) (k0 : Whole x) (k1 : Whole y) (k2 : Whole z) (k3 : Whole x') (k4 : Whole y') (k5 : Whole z') :
    Calls Try.prog 66 #[.agg #[.int .i64 x, .int .i64 y, .int .i64 z], .agg #[.int .i64 x', .int .i64 y', .int .i64 z'], .func (.func F) #[] #[], .func (.func G) #[] #[]] w fun e w' =>
      e = .returned (.tuple #[.agg #[.int .i64 (okV (or3 (E x x') (E' y y') (E z z')) (V x x')), .int .i64 (okV (or3 (E x x') (E' y y') (E z z')) (V' y y')), .int .i64 (okV (or3 (E x x') (E' y y') (E z z')) (V z z'))], .int .i64 (or3 (E x x') (E' y y') (E z z'))]) ∧ Below w.heap.size w w' := by
  have eF := hF.enter
  have eG := hG.enter
  have r1 := fun w => hF.run x x' w k0 k3
  have r2 := fun w => hG.run y y' w k1 k4
  have r3 := fun w => hF.run z z' w k2 k5
  clear hF hG k0 k1 k2 k3 k4 k5
  generalize E x x' = e1 at *
  generalize E' y y' = e2 at *
  generalize E z z' = e3 at *
  generalize V x x' = v1 at *
  generalize V' y y' = v2 at *
  generalize V z z' = v3 at *
  obtain ⟨e, HE⟩ : ∃ e, Hid (or3 e1 e2 e3 = e) := ⟨_, rfl⟩
  rw [HE.out]
  by_cases h : e = 0
  · subst h
    rw [show okV 0 v1 = v1 from if_pos rfl, show okV 0 v2 = v2 from if_pos rfl, show okV 0 v3 = v3 from if_pos rfl]
    go_enter Try.func66, Try.ntmps66
    go_wp2_with fail
    refine (r1 _).mono ?_
    rintro a wa ⟨rfl, rfl⟩
    clear r1
    go_wp2_with fail
    refine (r2 _).mono ?_
    rintro a wa ⟨rfl, rfl⟩
    clear r2
    go_wp2_with fail
    refine (r3 _).mono ?_
    rintro a wa ⟨rfl, rfl⟩
    clear r3
    go_wp2_with fail
    refine (or_any _ e1 e2 e3 _ (by simp [go_sem]) (by simp [go_sem]) (by simp [go_sem])).mono ?_
    rintro a wa ⟨rfl, rfl⟩
    rw [HE.out]
    go_wp2_with fail
    simp [bodyPost, results, Try.results66, go_sem]
    exact alloc4_below _ _ _ _ _
  · rw [show okV e v1 = 0 from if_neg h, show okV e v2 = 0 from if_neg h, show okV e v3 = 0 from if_neg h]
    have gb : (e != 0) = true := by simpa using h
    clear h
    go_enter Try.func66, Try.ntmps66
    go_wp2_with fail
    refine (r1 _).mono ?_
    rintro a wa ⟨rfl, rfl⟩
    clear r1
    go_wp2_with fail
    refine (r2 _).mono ?_
    rintro a wa ⟨rfl, rfl⟩
    clear r2
    go_wp2_with fail
    refine (r3 _).mono ?_
    rintro a wa ⟨rfl, rfl⟩
    clear r3
    go_wp2_with fail
    refine (or_any _ e1 e2 e3 _ (by simp [go_sem]) (by simp [go_sem]) (by simp [go_sem])).mono ?_
    rintro a wa ⟨rfl, rfl⟩
    rw [HE.out]
    go_wp2_with fail
    simp [bodyPost, results, Try.results66, go_sem]
    exact alloc4_below _ _ _ _ _

/-- Three cells written one behind the other. -/
def set3 (w : World) (b o : Nat) (x y z : Value) : World := ((w.setCell ⟨b, o, none⟩ x).setCell ⟨b, o + 1, none⟩ y).setCell ⟨b, o + 2, none⟩ z
theorem set3_cell {w : World} {b o : Nat} {x y z x' y' z' : Value} (h0 : w.cell? ⟨b, o, none⟩ = some x') (h1 : w.cell? ⟨b, o + 1, none⟩ = some y') (h2 : w.cell? ⟨b, o + 2, none⟩ = some z') :
    (set3 w b o x y z).cell? ⟨b, o, none⟩ = some x ∧ (set3 w b o x y z).cell? ⟨b, o + 1, none⟩ = some y ∧ (set3 w b o x y z).cell? ⟨b, o + 2, none⟩ = some z := by
  refine ⟨?_, ?_, ?_⟩
  · unfold set3
    rw [World.cell?_setCell_other _ _ _ _ (by simp), World.cell?_setCell_other _ _ _ _ (by simp)]
    exact World.cell?_setCell_same _ _ _ h0
  · unfold set3
    rw [World.cell?_setCell_other _ _ _ _ (by simp)]
    exact World.cell?_setCell_same _ _ _ (by rw [World.cell?_setCell_other _ _ _ _ (by simp)]; exact h1)
  · unfold set3
    exact World.cell?_setCell_same _ _ _ (by rw [World.cell?_setCell_other _ _ _ _ (by simp), World.cell?_setCell_other _ _ _ _ (by simp)]; exact h2)
theorem set3_other {w : World} {b o : Nat} {x y z : Value} (p : Addr) (h : p.block ≠ b ∨ (p.off < o ∨ o + 3 ≤ p.off)) : (set3 w b o x y z).cell? p = w.cell? p := by
  unfold set3
  have hn : ∀ k, k < 3 → p ≠ ⟨b, o + k, none⟩ := by
    rintro k hk rfl
    rcases h with h | h
    · exact h rfl
    · simp at h; omega
  rw [World.cell?_setCell_other _ _ _ _ (fun e => hn 2 (by omega) e.symm), World.cell?_setCell_other _ _ _ _ (fun e => hn 1 (by omega) e.symm), World.cell?_setCell_other _ _ _ _ (fun e => by have := hn 0 (by omega); rw [Nat.add_zero] at this; exact this e.symm)]
theorem set3_frozen {w : World} {b o : Nat} {x y z : Value} (p : Addr) : (set3 w b o x y z).frozen? p = w.frozen? p := by
  unfold set3; simp only [World.frozen?_setCell]
theorem set3_below {B b o : Nat} {x y z : Value} {w w' : World} (h : Below B w w') (hb : B ≤ b) : Below B w (set3 w' b o x y z) := ((h.setCell hb x).setCell hb y).setCell hb z
theorem set3_but {b o : Nat} {x y z : Value} (w : World) : But b w (set3 w b o x y z) := ((But.setCell b o w x).trans (But.setCell b (o + 1) _ y)).trans (But.setCell b (o + 2) _ z)

set_option maxHeartbeats 1000000 in
theorem mplus_any (x y z x' y' z' : Int) (w : World) (k0 : Whole x) (k1 : Whole y) (k2 : Whole z) (k3 : Whole x') (k4 : Whole y') (k5 : Whole z') :
    Calls Try.prog 61 #[.agg #[.int .i64 x, .int .i64 y, .int .i64 z], .agg #[.int .i64 x', .int .i64 y', .int .i64 z']] w fun e w' =>
      e = .returned (.tuple #[.agg #[.int .i64 (okV (or3 (plE x x') (plE y y') (plE z z')) (plV x x')), .int .i64 (okV (or3 (plE x x') (plE y y') (plE z z')) (plV y y')), .int .i64 (okV (or3 (plE x x') (plE y y') (plE z z')) (plV z z'))], .int .i64 (or3 (plE x x') (plE y y') (plE z z'))]) ∧ Below w.heap.size w w' := by
  have hm := fun w => moment_any _ _ _ _ _ _ way_plus way_plus x y z x' y' z' w k0 k1 k2 k3 k4 k5
  generalize or3 (plE x x') (plE y y') (plE z z') = e at *
  generalize okV e (plV x x') = v1 at *
  generalize okV e (plV y y') = v2 at *
  generalize okV e (plV z z') = v3 at *
  clear k0 k1 k2 k3 k4 k5
  go_enter Try.func61, Try.ntmps61
  have HB := Lib.hid (alloc3_below w (.cells #[.int .i64 x, .int .i64 y, .int .i64 z] 74) (.cells #[.int .i64 x', .int .i64 y', .int .i64 z'] 74) (.cells #[.int .i64 0, .int .i64 0, .int .i64 0] 74))
  go_wp2_with fail
  refine (hm _).mono ?_
  rintro a wa ⟨rfl, c⟩
  have c0 : wa.cell? ⟨w.heap.size + 1 + 1, 0, none⟩ = some (.int .i64 0) := (c.cell (by simp)).trans (by simp [go_sem])
  have c1 : wa.cell? ⟨w.heap.size + 1 + 1, 1, none⟩ = some (.int .i64 0) := (c.cell (by simp)).trans (by simp [go_sem])
  have c2 : wa.cell? ⟨w.heap.size + 1 + 1, 2, none⟩ = some (.int .i64 0) := (c.cell (by simp)).trans (by simp [go_sem])
  have f0 : wa.frozen? ⟨w.heap.size + 1 + 1, 0, none⟩ = false := (c.frozen (by simp)).trans (by simp [go_sem])
  have f1 : wa.frozen? ⟨w.heap.size + 1 + 1, 1, none⟩ = false := (c.frozen (by simp)).trans (by simp [go_sem])
  have f2 : wa.frozen? ⟨w.heap.size + 1 + 1, 2, none⟩ = false := (c.frozen (by simp)).trans (by simp [go_sem])
  have HC := Lib.hid (HB.out.trans (c.mono (by simp; omega)))
  clear hm c HB
  go_wp2_with fail
  obtain ⟨d0, d1, d2⟩ := set3_cell (x := .int .i64 v1) (y := .int .i64 v2) (z := .int .i64 v3) c0 c1 c2
  have HD := set3_below (b := w.heap.size + 1 + 1) (o := 0) (x := .int .i64 v1) (y := .int .i64 v2) (z := .int .i64 v3) HC.out (by omega)
  change bodyPost _ _ _ _ _ (set3 wa (w.heap.size + 1 + 1) 0 (.int .i64 v1) (.int .i64 v2) (.int .i64 v3))
  generalize set3 wa (w.heap.size + 1 + 1) 0 (.int .i64 v1) (.int .i64 v2) (.int .i64 v3) = W at *
  simp [bodyPost, results, Try.results61, go_sem, d0, d1, d2]
  exact HD
theorem way_mplus : WayM 61 plV plV plV plE plE plE := ⟨fun _ _ _ _ _ _ _ => by simp [go_sem], mplus_any⟩
end Go.Proofs.Ytebdlmjpgohngaa
