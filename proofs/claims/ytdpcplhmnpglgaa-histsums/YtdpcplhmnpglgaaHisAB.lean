/-
  HISTOGRAMS: the document's Sum, where it refuses.
-/
import Derived.Test.YtdpcplhmnpglgaaHisY
import Derived.Test.YtdpcplhmnpglgaaHisV
namespace Go.Proofs.Ytdpcplhmnpglgaa
open Go.RowKit

set_option maxHeartbeats 1000000 in
theorem rsum_wrong (d : HD) (ac am : Option Addr) (nc cc nm cm : Nat) (f t : Int) (w : World) (hr : rightB d.k d.b d.c nc nm = false) :
    Calls Try.prog 24 #[.agg #[.int .i64 d.k, .int .i64 d.b, .int .i64 d.c, .slice ac nc cc, .slice am nm cm], .int .i64 f, .int .i64 t] w fun e w' => SumQ [] 0 0 0 8 w e w' := by
  have hq := fun w => refRight_any d.k d.b d.c ac am nc cc nm cm w
  rw [hr] at hq
  have bA := VarH.new w d.k d.b d.c (.slice ac nc cc) (.slice am nm cm) 29
  obtain ⟨W1, hW1⟩ : ∃ W1, w.alloc (.cells #[.int .i64 d.k, .int .i64 d.b, .int .i64 d.c, .slice ac nc cc, .slice am nm cm] 29) = W1 := ⟨_, rfl⟩
  rw [hW1] at bA
  have s1 : W1.heap.size = w.heap.size + 1 := by rw [← hW1]; simp
  have bR := VarM.new W1 0 0 0 47
  obtain ⟨W2, hW2⟩ : ∃ W2, W1.alloc (.cells #[.int .i64 0, .int .i64 0, .int .i64 0] 47) = W2 := ⟨_, rfl⟩
  rw [hW2, s1] at bR
  have k1 : Below w.heap.size w W1 := hW1 ▸ alloc_below w _
  have k2 : Below W1.heap.size W1 W2 := hW2 ▸ alloc_below W1 _
  have HB : Hid (Below w.heap.size w W2) := k1.trans (k2.mono k1.size)
  replace bA := Lib.hid (bA.below k2 bA.lt)
  replace bR := Lib.hid bR
  clear k1 k2 hr

  go_enter Try.func24, Try.ntmps24
  go_upto_region 1 with fail
  clear hW1 hW2 s1
  obtain ⟨a0, a1, a2, a3, a4⟩ := bA.out.five
  go_wp2_with fail
  refine (hq _).mono ?_
  rintro e W3 ⟨rfl, c3⟩
  clear a0 a1 a2 a3 a4 hq
  replace bA := Lib.hid (bA.out.below c3 bA.out.lt)
  replace bR := Lib.hid (bR.out.below c3)
  replace HB := Lib.hid (HB.out.trans (c3.mono HB.out.size))
  clear c3
  obtain ⟨a0, a1, a2, a3, a4⟩ := bA.out.five
  obtain ⟨⟨_, r0, r1, r2⟩, f0, f1, f2⟩ := bR.out
  go_wp2_with fail
  obtain ⟨d0, d1, d2⟩ := set3_cell (x := .int .i64 0) (y := .int .i64 0) (z := .int .i64 0) bR.out.at_.c0 bR.out.at_.c1 bR.out.at_.c2
  have HD := set3_below (b := w.heap.size + 1) (o := 0) (x := .int .i64 0) (y := .int .i64 0) (z := .int .i64 0) HB.out (by omega)
  change bodyPost _ _ _ _ _ (set3 W3 (w.heap.size + 1) 0 (.int .i64 0) (.int .i64 0) (.int .i64 0))
  generalize set3 W3 (w.heap.size + 1) 0 (.int .i64 0) (.int .i64 0) (.int .i64 0) = WZ at *
  have HQ := sumQ_none (err := 8) HD
  simp only [Nat.zero_add] at d0 d1 d2
  simp [bodyPost, results, Try.results24, go_sem, d0, d1, d2]
  exact HQ

set_option maxHeartbeats 1000000 in
theorem rsum_range (d : HD) (ac am : Option Addr) (nc cc nm cm : Nat) (f t : Int) (w : World) (hr : rightB d.k d.b d.c nc nm = true) (hf : f < 0 ∨ t < f ∨ d.b < t) :
    Calls Try.prog 24 #[.agg #[.int .i64 d.k, .int .i64 d.b, .int .i64 d.c, .slice ac nc cc, .slice am nm cm], .int .i64 f, .int .i64 t] w fun e w' => SumQ [] 0 0 0 1 w e w' := by
  have hq := fun w => refRight_any d.k d.b d.c ac am nc cc nm cm w
  rw [hr] at hq
  have bA := VarH.new w d.k d.b d.c (.slice ac nc cc) (.slice am nm cm) 29
  obtain ⟨W1, hW1⟩ : ∃ W1, w.alloc (.cells #[.int .i64 d.k, .int .i64 d.b, .int .i64 d.c, .slice ac nc cc, .slice am nm cm] 29) = W1 := ⟨_, rfl⟩
  rw [hW1] at bA
  have s1 : W1.heap.size = w.heap.size + 1 := by rw [← hW1]; simp
  have bR := VarM.new W1 0 0 0 47
  obtain ⟨W2, hW2⟩ : ∃ W2, W1.alloc (.cells #[.int .i64 0, .int .i64 0, .int .i64 0] 47) = W2 := ⟨_, rfl⟩
  rw [hW2, s1] at bR
  have k1 : Below w.heap.size w W1 := hW1 ▸ alloc_below w _
  have k2 : Below W1.heap.size W1 W2 := hW2 ▸ alloc_below W1 _
  have HB : Hid (Below w.heap.size w W2) := k1.trans (k2.mono k1.size)
  replace bA := Lib.hid (bA.below k2 bA.lt)
  replace bR := Lib.hid bR
  clear k1 k2 hr
  have HF := Lib.hid hf
  clear hf

  by_cases g1 : f < 0
  · clear HF
    go_enter Try.func24, Try.ntmps24
    go_upto_region 1 with fail
    clear hW1 hW2 s1
    obtain ⟨a0, a1, a2, a3, a4⟩ := bA.out.five
    go_wp2_with fail
    refine (hq _).mono ?_
    rintro e W3 ⟨rfl, c3⟩
    clear a0 a1 a2 a3 a4 hq
    replace bA := Lib.hid (bA.out.below c3 bA.out.lt)
    replace bR := Lib.hid (bR.out.below c3)
    replace HB := Lib.hid (HB.out.trans (c3.mono HB.out.size))
    clear c3
    obtain ⟨a0, a1, a2, a3, a4⟩ := bA.out.five
    obtain ⟨⟨_, r0, r1, r2⟩, f0, f1, f2⟩ := bR.out
    go_wp2_with fail
    obtain ⟨d0, d1, d2⟩ := set3_cell (x := .int .i64 0) (y := .int .i64 0) (z := .int .i64 0) bR.out.at_.c0 bR.out.at_.c1 bR.out.at_.c2
    have HD := set3_below (b := w.heap.size + 1) (o := 0) (x := .int .i64 0) (y := .int .i64 0) (z := .int .i64 0) HB.out (by omega)
    change bodyPost _ _ _ _ _ (set3 W3 (w.heap.size + 1) 0 (.int .i64 0) (.int .i64 0) (.int .i64 0))
    generalize set3 W3 (w.heap.size + 1) 0 (.int .i64 0) (.int .i64 0) (.int .i64 0) = WZ at *
    have HQ := sumQ_none (err := 1) HD
    simp only [Nat.zero_add] at d0 d1 d2
    simp [bodyPost, results, Try.results24, go_sem, d0, d1, d2]
    exact HQ
  · by_cases g2 : t < f
    · clear HF
      go_enter Try.func24, Try.ntmps24
      go_upto_region 1 with fail
      clear hW1 hW2 s1
      obtain ⟨a0, a1, a2, a3, a4⟩ := bA.out.five
      go_wp2_with fail
      refine (hq _).mono ?_
      rintro e W3 ⟨rfl, c3⟩
      clear a0 a1 a2 a3 a4 hq
      replace bA := Lib.hid (bA.out.below c3 bA.out.lt)
      replace bR := Lib.hid (bR.out.below c3)
      replace HB := Lib.hid (HB.out.trans (c3.mono HB.out.size))
      clear c3
      obtain ⟨a0, a1, a2, a3, a4⟩ := bA.out.five
      obtain ⟨⟨_, r0, r1, r2⟩, f0, f1, f2⟩ := bR.out
      go_wp2_with fail
      obtain ⟨d0, d1, d2⟩ := set3_cell (x := .int .i64 0) (y := .int .i64 0) (z := .int .i64 0) bR.out.at_.c0 bR.out.at_.c1 bR.out.at_.c2
      have HD := set3_below (b := w.heap.size + 1) (o := 0) (x := .int .i64 0) (y := .int .i64 0) (z := .int .i64 0) HB.out (by omega)
      change bodyPost _ _ _ _ _ (set3 W3 (w.heap.size + 1) 0 (.int .i64 0) (.int .i64 0) (.int .i64 0))
      generalize set3 W3 (w.heap.size + 1) 0 (.int .i64 0) (.int .i64 0) (.int .i64 0) = WZ at *
      have HQ := sumQ_none (err := 1) HD
      simp only [Nat.zero_add] at d0 d1 d2
      simp [bodyPost, results, Try.results24, go_sem, d0, d1, d2]
      exact HQ
    · have g3 : d.b < t := by have := HF.out; omega
      clear HF
      go_enter Try.func24, Try.ntmps24
      go_upto_region 1 with fail
      clear hW1 hW2 s1
      obtain ⟨a0, a1, a2, a3, a4⟩ := bA.out.five
      go_wp2_with fail
      refine (hq _).mono ?_
      rintro e W3 ⟨rfl, c3⟩
      clear a0 a1 a2 a3 a4 hq
      replace bA := Lib.hid (bA.out.below c3 bA.out.lt)
      replace bR := Lib.hid (bR.out.below c3)
      replace HB := Lib.hid (HB.out.trans (c3.mono HB.out.size))
      clear c3
      obtain ⟨a0, a1, a2, a3, a4⟩ := bA.out.five
      obtain ⟨⟨_, r0, r1, r2⟩, f0, f1, f2⟩ := bR.out
      go_wp2_with fail
      obtain ⟨d0, d1, d2⟩ := set3_cell (x := .int .i64 0) (y := .int .i64 0) (z := .int .i64 0) bR.out.at_.c0 bR.out.at_.c1 bR.out.at_.c2
      have HD := set3_below (b := w.heap.size + 1) (o := 0) (x := .int .i64 0) (y := .int .i64 0) (z := .int .i64 0) HB.out (by omega)
      change bodyPost _ _ _ _ _ (set3 W3 (w.heap.size + 1) 0 (.int .i64 0) (.int .i64 0) (.int .i64 0))
      generalize set3 W3 (w.heap.size + 1) 0 (.int .i64 0) (.int .i64 0) (.int .i64 0) = WZ at *
      have HQ := sumQ_none (err := 1) HD
      simp only [Nat.zero_add] at d0 d1 d2
      simp [bodyPost, results, Try.results24, go_sem, d0, d1, d2]
      exact HQ
end Go.Proofs.Ytdpcplhmnpglgaa
