/-
  HISTOGRAMS: the document's sum and difference of two moments. Condition: each number is of 64 bits with a sign.
-/
import Derived.Test.YtebdlmjpgohngaaHisS
namespace Go.Proofs.Ytebdlmjpgohngaa
open Go.RowKit

theorem lf_6 {x y : Int} (h : miE x y ≠ 0) : lfE x y = miE x y := by unfold miE lfE leE at *; rw [if_neg (fun q => h q.1)]
theorem lf_5 {x y : Int} (h : miE x y = 0) (h2 : miV x y < 0) : lfE x y = 5 := by
  unfold miE miV lfE leE at *
  have := fitE_in h
  rw [fitV_yes this] at h2
  exact if_pos ⟨h, h2⟩
theorem lf_0 {x y : Int} (h : miE x y = 0) (h2 : ¬ miV x y < 0) : lfE x y = 0 ∧ lfV x y = miV x y := by
  unfold miE miV lfE lfV leE leV at *
  have := fitE_in h
  rw [fitV_yes this] at h2 ⊢
  exact ⟨(if_neg (fun q => h2 q.2)).trans h, if_pos (by omega)⟩
theorem or3_a {x y z : Int} (h : x ≠ 0) : or3 x y z = x := if_pos h
theorem or3_b {x y z : Int} (h : x = 0) (h2 : y ≠ 0) : or3 x y z = y := by unfold or3; rw [if_neg (by omega), if_pos h2]
theorem or3_c {x y z : Int} (h : x = 0) (h2 : y = 0) : or3 x y z = z := by unfold or3; rw [if_neg (by omega), if_neg (by omega)]


set_option maxHeartbeats 1000000 in
theorem rmplus_any (x y z x' y' z' : Int) (w : World) (k0 : Whole x) (k1 : Whole y) (k2 : Whole z) (k3 : Whole x') (k4 : Whole y') (k5 : Whole z') :
    Calls Try.prog 43 #[.agg #[.int .i64 x, .int .i64 y, .int .i64 z], .agg #[.int .i64 x', .int .i64 y', .int .i64 z']] w fun e w' =>
      e = .returned (.tuple #[.agg #[.int .i64 (okV (or3 (plE x x') (plE y y') (plE z z')) (plV x x')), .int .i64 (okV (or3 (plE x x') (plE y y') (plE z z')) (plV y y')), .int .i64 (okV (or3 (plE x x') (plE y y') (plE z z')) (plV z z'))], .int .i64 (or3 (plE x x') (plE y y') (plE z z'))]) ∧ Below w.heap.size w w' := by
  have r0 := fun w => refP x x' k0 k3 w
  have r1 := fun w => refP y y' k1 k4 w
  have r2 := fun w => refP z z' k2 k5 w
  clear k0 k1 k2 k3 k4 k5
  obtain ⟨W1, hW1⟩ : ∃ W1, w.alloc (.cells #[.int .i64 x, .int .i64 y, .int .i64 z] 74) = W1 := ⟨_, rfl⟩
  have vA : AtM w.heap.size 0 x y z W1 ∧ Below w.heap.size w W1 ∧ W1.heap.size = w.heap.size + 1 := by subst hW1; exact ⟨AtM.new w x y z _, alloc_below _ _, by simp⟩
  obtain ⟨vA, b1, s1⟩ := vA
  obtain ⟨W2, hW2⟩ : ∃ W2, W1.alloc (.cells #[.int .i64 x', .int .i64 y', .int .i64 z'] 74) = W2 := ⟨_, rfl⟩
  have vB : AtM W1.heap.size 0 x' y' z' W2 ∧ Below W1.heap.size W1 W2 ∧ W2.heap.size = W1.heap.size + 1 := by subst hW2; exact ⟨AtM.new W1 x' y' z' _, alloc_below _ _, by simp⟩
  obtain ⟨vB, b2, s2⟩ := vB
  obtain ⟨W3, hW3⟩ : ∃ W3, W2.alloc (.cells #[.int .i64 0, .int .i64 0, .int .i64 0] 74) = W3 := ⟨_, rfl⟩
  have vR : VarM W2.heap.size 0 0 0 W3 ∧ Below W2.heap.size W2 W3 ∧ W3.heap.size = W2.heap.size + 1 := by subst hW3; exact ⟨VarM.new W2 0 0 0 _, alloc_below _ _, by simp⟩
  obtain ⟨vR, b3, s3⟩ := vR
  have HB : Hid (Below w.heap.size w W3) := (b1.trans (b2.mono b1.size)).trans (b3.mono (by omega))
  replace vA := Lib.hid ((vA.below b2 vA.lt).below b3 (by have := vA.lt; omega))
  replace vB := Lib.hid (vB.below b3 vB.lt)
  rw [s1] at vB s2
  rw [s2] at vR s3
  replace vR := Lib.hid vR
  have HS : Hid (w.heap.size + 1 + 1 < W3.heap.size) := by show _ < _; omega
  clear b1 b2 b3 s3
  go_enter Try.func43, Try.ntmps43
  go_upto_region 1 with fail
  clear hW1 hW2 hW3 s1 s2
  obtain ⟨_, a0, a1, a2⟩ := vA.out
  obtain ⟨_, c0, c1, c2⟩ := vB.out
  go_wp2_with fail
  refine (r0 _).mono ?_
  rintro e U0 ⟨rfl, cc⟩
  clear a0 a1 a2 c0 c1 c2 r0
  replace vA := Lib.hid (vA.out.below cc vA.out.lt)
  replace vB := Lib.hid (vB.out.below cc vB.out.lt)
  replace vR := Lib.hid (vR.out.below cc)
  replace HB := Lib.hid (HB.out.trans (cc.mono HB.out.size))
  clear cc
  by_cases q0 : plE x x' = 0
  · have z0 : plE x x' = 0 := q0
    obtain ⟨_, a0, a1, a2⟩ := vA.out
    obtain ⟨_, c0, c1, c2⟩ := vB.out
    go_wp2_with fail
    refine (r1 _).mono ?_
    rintro e U1 ⟨rfl, cc⟩
    clear a0 a1 a2 c0 c1 c2 r1
    replace vA := Lib.hid (vA.out.below cc vA.out.lt)
    replace vB := Lib.hid (vB.out.below cc vB.out.lt)
    replace vR := Lib.hid (vR.out.below cc)
    replace HB := Lib.hid (HB.out.trans (cc.mono HB.out.size))
    clear cc
    by_cases q1 : plE y y' = 0
    · have z1 : plE y y' = 0 := q1
      obtain ⟨_, a0, a1, a2⟩ := vA.out
      obtain ⟨_, c0, c1, c2⟩ := vB.out
      go_wp2_with fail
      refine (r2 _).mono ?_
      rintro e U2 ⟨rfl, cc⟩
      clear a0 a1 a2 c0 c1 c2 r2
      replace vA := Lib.hid (vA.out.below cc vA.out.lt)
      replace vB := Lib.hid (vB.out.below cc vB.out.lt)
      replace vR := Lib.hid (vR.out.below cc)
      replace HB := Lib.hid (HB.out.trans (cc.mono HB.out.size))
      clear cc
      by_cases q2 : plE z z' = 0
      · have z2 : plE z z' = 0 := q2
        have HT : Hid (or3 (plE x x') (plE y y') (plE z z') = 0) := (or3_c z0 z1).trans z2
        have HFIN : Hid (∀ W, Below w.heap.size w W → ((Ending.returned (.tuple #[.agg #[.int .i64 (plV x x'), .int .i64 (plV y y'), .int .i64 (plV z z')], .int .i64 (0)])) = .returned (.tuple #[.agg #[.int .i64 (okV (or3 (plE x x') (plE y y') (plE z z')) (plV x x')), .int .i64 (okV (or3 (plE x x') (plE y y') (plE z z')) (plV y y')), .int .i64 (okV (or3 (plE x x') (plE y y') (plE z z')) (plV z z'))], .int .i64 (or3 (plE x x') (plE y y') (plE z z'))])) ∧ Below w.heap.size w W) := by
          intro W hW
          rw [HT.out]
          have okz : ∀ v : Int, okV 0 v = v := fun v => if_pos rfl
          rw [okz, okz, okz]
          exact ⟨rfl, hW⟩

        obtain ⟨⟨_, R0, R1, R2⟩, f0, f1, f2⟩ := vR.out
        go_wp2_with fail
        have HBX := HB.out
        obtain ⟨d0, d1, d2⟩ := set3_cell (x := .int .i64 (plV x x')) (y := .int .i64 (plV y y')) (z := .int .i64 (plV z z')) vR.out.at_.c0 vR.out.at_.c1 vR.out.at_.c2
        have HD := set3_below (b := w.heap.size + 1 + 1) (o := 0) (x := .int .i64 (plV x x')) (y := .int .i64 (plV y y')) (z := .int .i64 (plV z z')) HBX (by omega)
        change bodyPost _ _ _ _ _ (set3 U2 (w.heap.size + 1 + 1) 0 (.int .i64 (plV x x')) (.int .i64 (plV y y')) (.int .i64 (plV z z')))
        generalize set3 U2 (w.heap.size + 1 + 1) 0 (.int .i64 (plV x x')) (.int .i64 (plV y y')) (.int .i64 (plV z z')) = WZ at *
        have HZ := HFIN.out _ HD
        simp only [Nat.zero_add] at d0 d1 d2
        simp [bodyPost, results, Try.results43, go_sem, d0, d1, d2]
        simpa using HZ
      · have HT : Hid (or3 (plE x x') (plE y y') (plE z z') = plE z z') := (or3_c z0 z1).trans (show plE z z' = plE z z' from rfl)
        have HFIN : Hid (∀ W, Below w.heap.size w W → ((Ending.returned (.tuple #[.agg #[.int .i64 (0), .int .i64 (0), .int .i64 (0)], .int .i64 (plE z z')])) = .returned (.tuple #[.agg #[.int .i64 (okV (or3 (plE x x') (plE y y') (plE z z')) (plV x x')), .int .i64 (okV (or3 (plE x x') (plE y y') (plE z z')) (plV y y')), .int .i64 (okV (or3 (plE x x') (plE y y') (plE z z')) (plV z z'))], .int .i64 (or3 (plE x x') (plE y y') (plE z z'))])) ∧ Below w.heap.size w W) := by
          intro W hW
          rw [HT.out]
          have okz : ∀ v : Int, okV (plE z z') v = 0 := fun v => if_neg q2
          rw [okz, okz, okz]
          exact ⟨rfl, hW⟩
        have gb2 : (plE z z' != 0) = true := by simpa using q2
        obtain ⟨⟨_, R0, R1, R2⟩, f0, f1, f2⟩ := vR.out
        go_wp2_with fail
        have HBX := HB.out
        obtain ⟨d0, d1, d2⟩ := set3_cell (x := .int .i64 (0)) (y := .int .i64 (0)) (z := .int .i64 (0)) vR.out.at_.c0 vR.out.at_.c1 vR.out.at_.c2
        have HD := set3_below (b := w.heap.size + 1 + 1) (o := 0) (x := .int .i64 (0)) (y := .int .i64 (0)) (z := .int .i64 (0)) HBX (by omega)
        change bodyPost _ _ _ _ _ (set3 U2 (w.heap.size + 1 + 1) 0 (.int .i64 (0)) (.int .i64 (0)) (.int .i64 (0)))
        generalize set3 U2 (w.heap.size + 1 + 1) 0 (.int .i64 (0)) (.int .i64 (0)) (.int .i64 (0)) = WZ at *
        have HZ := HFIN.out _ HD
        simp only [Nat.zero_add] at d0 d1 d2
        simp [bodyPost, results, Try.results43, go_sem, d0, d1, d2]
        simpa using HZ
    · have HT : Hid (or3 (plE x x') (plE y y') (plE z z') = plE y y') := (or3_b z0 (by rw [show plE y y' = plE y y' from rfl]; exact q1)).trans (show plE y y' = plE y y' from rfl)
      have HFIN : Hid (∀ W, Below w.heap.size w W → ((Ending.returned (.tuple #[.agg #[.int .i64 (0), .int .i64 (0), .int .i64 (0)], .int .i64 (plE y y')])) = .returned (.tuple #[.agg #[.int .i64 (okV (or3 (plE x x') (plE y y') (plE z z')) (plV x x')), .int .i64 (okV (or3 (plE x x') (plE y y') (plE z z')) (plV y y')), .int .i64 (okV (or3 (plE x x') (plE y y') (plE z z')) (plV z z'))], .int .i64 (or3 (plE x x') (plE y y') (plE z z'))])) ∧ Below w.heap.size w W) := by
        intro W hW
        rw [HT.out]
        have okz : ∀ v : Int, okV (plE y y') v = 0 := fun v => if_neg q1
        rw [okz, okz, okz]
        exact ⟨rfl, hW⟩
      have gb1 : (plE y y' != 0) = true := by simpa using q1
      obtain ⟨⟨_, R0, R1, R2⟩, f0, f1, f2⟩ := vR.out
      go_wp2_with fail
      have HBX := HB.out
      obtain ⟨d0, d1, d2⟩ := set3_cell (x := .int .i64 (0)) (y := .int .i64 (0)) (z := .int .i64 (0)) vR.out.at_.c0 vR.out.at_.c1 vR.out.at_.c2
      have HD := set3_below (b := w.heap.size + 1 + 1) (o := 0) (x := .int .i64 (0)) (y := .int .i64 (0)) (z := .int .i64 (0)) HBX (by omega)
      change bodyPost _ _ _ _ _ (set3 U1 (w.heap.size + 1 + 1) 0 (.int .i64 (0)) (.int .i64 (0)) (.int .i64 (0)))
      generalize set3 U1 (w.heap.size + 1 + 1) 0 (.int .i64 (0)) (.int .i64 (0)) (.int .i64 (0)) = WZ at *
      have HZ := HFIN.out _ HD
      simp only [Nat.zero_add] at d0 d1 d2
      simp [bodyPost, results, Try.results43, go_sem, d0, d1, d2]
      simpa using HZ
  · have HT : Hid (or3 (plE x x') (plE y y') (plE z z') = plE x x') := (or3_a (by rw [show plE x x' = plE x x' from rfl]; exact q0)).trans (show plE x x' = plE x x' from rfl)
    have HFIN : Hid (∀ W, Below w.heap.size w W → ((Ending.returned (.tuple #[.agg #[.int .i64 (0), .int .i64 (0), .int .i64 (0)], .int .i64 (plE x x')])) = .returned (.tuple #[.agg #[.int .i64 (okV (or3 (plE x x') (plE y y') (plE z z')) (plV x x')), .int .i64 (okV (or3 (plE x x') (plE y y') (plE z z')) (plV y y')), .int .i64 (okV (or3 (plE x x') (plE y y') (plE z z')) (plV z z'))], .int .i64 (or3 (plE x x') (plE y y') (plE z z'))])) ∧ Below w.heap.size w W) := by
      intro W hW
      rw [HT.out]
      have okz : ∀ v : Int, okV (plE x x') v = 0 := fun v => if_neg q0
      rw [okz, okz, okz]
      exact ⟨rfl, hW⟩
    have gb0 : (plE x x' != 0) = true := by simpa using q0
    obtain ⟨⟨_, R0, R1, R2⟩, f0, f1, f2⟩ := vR.out
    go_wp2_with fail
    have HBX := HB.out
    obtain ⟨d0, d1, d2⟩ := set3_cell (x := .int .i64 (0)) (y := .int .i64 (0)) (z := .int .i64 (0)) vR.out.at_.c0 vR.out.at_.c1 vR.out.at_.c2
    have HD := set3_below (b := w.heap.size + 1 + 1) (o := 0) (x := .int .i64 (0)) (y := .int .i64 (0)) (z := .int .i64 (0)) HBX (by omega)
    change bodyPost _ _ _ _ _ (set3 U0 (w.heap.size + 1 + 1) 0 (.int .i64 (0)) (.int .i64 (0)) (.int .i64 (0)))
    generalize set3 U0 (w.heap.size + 1 + 1) 0 (.int .i64 (0)) (.int .i64 (0)) (.int .i64 (0)) = WZ at *
    have HZ := HFIN.out _ HD
    simp only [Nat.zero_add] at d0 d1 d2
    simp [bodyPost, results, Try.results43, go_sem, d0, d1, d2]
    simpa using HZ

end Go.Proofs.Ytebdlmjpgohngaa
