/-
  HISTOGRAMS: the document's New, of moments. Conditions: none.
-/
import Derived.Test.YtdpcplhmnpglgaaHisAD
namespace Go.Proofs.Ytdpcplhmnpglgaa
open Go.RowKit

set_option maxHeartbeats 2000000 in
theorem rnew_1 (B : Nat) (hB1 : 1 ≤ B) (hB2 : B ≤ 257) (w : World) :
    Calls Try.prog 11 #[.int .i64 1, .int .i64 (B : Int), .int .i64 0] w fun e w' => RNewP 1 B 0 0 B w e w' := by
  have hm := fun w => refMay_any 1 (B : Int) 0 w
  rw [(may_1 (k := 1) (b := (B : Int)) (c := 0) (by omega) (by omega) rfl rfl).1] at hm
  have HN := Lib.hid (And.intro hB1 hB2)
  obtain ⟨W1, hW1⟩ : ∃ W1, w.alloc (.cells #[.int .i64 0, .int .i64 0, .int .i64 0, .slice none 0 0, .slice none 0 0] 29) = W1 := ⟨_, rfl⟩
  have vR : VarH w.heap.size 0 0 0 (.slice none 0 0) (.slice none 0 0) W1 ∧ Below w.heap.size w W1 ∧ W1.heap.size = w.heap.size + 1 := by subst hW1; exact ⟨VarH.new _ _ _ _ _ _ _, alloc_below _ _, by simp⟩
  obtain ⟨vR, b1, s1⟩ := vR
  obtain ⟨W2, hW2⟩ : ∃ W2, W1.alloc (.cells #[.int .i64 1, .int .i64 (B : Int), .int .i64 0, .slice none 0 0, .slice none 0 0] 29) = W2 := ⟨_, rfl⟩
  have vH : VarH W1.heap.size 1 B 0 (.slice none 0 0) (.slice none 0 0) W2 ∧ Below W1.heap.size W1 W2 ∧ W2.heap.size = W1.heap.size + 1 := by subst hW2; exact ⟨VarH.new _ _ _ _ _ _ _, alloc_below _ _, by simp⟩
  obtain ⟨vH, b2, s2⟩ := vH
  have vR1 := vR
  replace vR := Lib.hid (vR.below b2 vR.lt)
  rw [s1] at vH s2
  replace vH := Lib.hid vH
  have HB := Lib.hid (b1.trans (b2.mono b1.size))
  have HS := Lib.hid s2
  have HW2 := Lib.hid hW2
  clear hB1 hB2 b1 b2 s2 hW2
  go_enter Try.func11, Try.ntmps11
  go_upto_region 1 with fail
  clear hW1
  go_wp2_with fail
  refine (hm _).mono ?_
  rintro e w1 ⟨rfl, rfl⟩
  clear vR1 hm
  go_upto_region 4 with fail
  rw [HW2.out]
  go_wp2_with fail
  go_loopw [9] (fun iv wr => ∃ (i : Nat) (v : Value), i ≤ B ∧ iv = .int .i64 (i : Int) ∧ Hid (Own3 wr (w.heap.size + 2) v i (List.replicate (i * 3) 0)) ∧ Hid (VarH (w.heap.size + 1) 1 B 0 (.slice none 0 0) v wr) ∧ Hid (VarH w.heap.size 0 0 0 (.slice none 0 0) (.slice none 0 0) wr) ∧ Hid (Below w.heap.size w wr) ∧ Hid (w.heap.size + 2 ≤ wr.heap.size)) (fun iv _ => B - (intOf iv).toNat)
  case atStart => exact ⟨0, _, by omega, rfl, Own3.nil _ _, vH.out, vR.out, HB.out, (by have := HS.out; show _ ≤ _; omega)⟩
  case round =>
    obtain ⟨i, v, hj, rfl, HO, vH, vR, HB, HW⟩ := hrel
    by_cases hlt : i < B
    · have i1 : (i : Int) < (B : Int) := by omega
      have HLT := Lib.hid hlt
      clear hj hlt
      go_upto_region 7 with fail
      go_wp2_with fail
      go_loopw [10] (fun iv wr => iv = .int .i64 0 ∧ Hid (Own3 wr (w.heap.size + 2) v i (List.replicate (i * 3) 0)) ∧ Hid (VarH (w.heap.size + 1) 1 B 0 (.slice none 0 0) v wr) ∧ Hid (VarH w.heap.size 0 0 0 (.slice none 0 0) (.slice none 0 0) wr) ∧ Hid (Below w.heap.size w wr) ∧ Hid (w.heap.size + 2 ≤ wr.heap.size)) (fun _ _ => 0)
      case atStart => exact ⟨rfl, HO.out, vH.out, vR.out, HB.out, HW.out⟩
      case round =>
        obtain ⟨rfl, HO, vH, vR, HB, HW⟩ := hrel
        obtain ⟨a9, m9, k9, rfl⟩ := HO.out.form
        obtain ⟨a0, a1, a2, a3, a4⟩ := vH.out.five
        obtain ⟨f0, f1, f2, f3, f4⟩ := vH.out.soft
        have bA := alloc_below wr (.cells #[.int .i64 0, .int .i64 0, .int .i64 0] 47)
        have own2 := HO.out.below bA
        have cam : HoldsE KL (wr.alloc (.cells #[.int .i64 0, .int .i64 0, .int .i64 0] 47)) (some ⟨wr.heap.size, 0, none⟩) [0, 0, 0] := (Lst.madeT wr [0, 0, 0] 47).holds
        have vH2 := vH.out.below bA vH.out.lt
        obtain ⟨c0, c1, c2, c3, c4⟩ := vH2.five
        obtain ⟨e0, e1, e2, e3, e4⟩ := vH2.soft
        have vR2 := vR.out.below bA vR.out.lt
        have HB2 := Lib.hid (HB.out.trans (bA.mono HB.out.size))
        have hs2 : w.heap.size + 2 ≤ (wr.alloc (.cells #[.int .i64 0, .int .i64 0, .int .i64 0] 47)).heap.size := Nat.le_trans HW.out bA.size
        have HRM : Hid (i + 1 ≤ 1048576) := by have := HN.out; have := HLT.out; show _ ≤ _; omega
        have HNX : Hid (List.replicate (i * 3) (0 : Int) ++ [0, 0, 0] = List.replicate ((i + 1) * 3) 0) := by
          show _ = _
          rw [Nat.add_mul, Nat.one_mul, show ([0, 0, 0] : List Int) = List.replicate 3 0 from rfl, List.replicate_append_replicate]
        have HT3 : Hid (B ≤ 1048576) := by have := HN.out; show _ ≤ _; omega
        have HNM := Lib.hid (next_num HLT.out HT3.out)
        clear bA
        go_wp2_with (at_builtin; refine app3_own rfl _ _ rfl (w.heap.size + 2) hs2 _ i _ rfl own2 _ 1 1 [0, 0, 0] rfl rfl cam HRM.out ?_)
        intro v6 w6 ho6 hb6
        obtain ⟨a6, m6, k6, rfl⟩ := ho6.form
        have vH6 := vH2.below hb6 (by omega)
        have vR6 := vR2.below hb6 (by omega)
        obtain ⟨q0, q1, q2, q3, q4⟩ := vH6.five
        obtain ⟨r0, r1, r2, r3, r4⟩ := vH6.soft
        clear c0 c1 c2 c3 c4 e0 e1 e2 e3 e4 a0 a1 a2 a3 a4 f0 f1 f2 f3 f4
        have bz := But.setCell (w.heap.size + 1) 4 w6 (.slice a6 m6 k6)
        have n1 := Lib.hid (vH6.setM (.slice a6 m6 k6))
        have n2 := Lib.hid (vR6.but bz (by omega))
        have n3 := Lib.hid (ho6.but bz (by omega))
        rw [HNX.out] at n3
        have n4 := Lib.hid ((HB2.out.trans (hb6.mono (by omega))).trans (bz.below (by omega) (Nat.le_trans HB2.out.size hb6.size)))
        have n5 : Hid (w.heap.size + 2 ≤ (w6.setCell ⟨w.heap.size + 1, 4, none⟩ (.slice a6 m6 k6)).heap.size) := Nat.le_trans hs2 (Nat.le_trans hb6.size bz.size)
        clear bz
        go_wp2_with fail
        exact ⟨⟨i + 1, _, HLT.out, (by first | exact congrArg (Value.int .i64) HNM.out.1 | exact congrArg (Value.int .i64) (Int.natCast_succ i).symm), n3.out, n1.out, n2.out, n4.out, n5.out⟩, (by first | exact HNM.out.2 | (have := HLT.out; simp only [intOf]; omega))⟩
    · obtain rfl : B = i := by omega
      obtain ⟨a6, m6, k6, rfl⟩ := HO.out.form
      obtain ⟨a0, a1, a2, a3, a4⟩ := vH.out.five
      obtain ⟨x0, x1, x2, x3, x4⟩ := vR.out.five
      obtain ⟨y0, y1, y2, y3, y4⟩ := vR.out.soft
      clear hj hlt
      go_wp2_with fail
      obtain ⟨d0, d1, d2, d3, d4⟩ := (vR.out.set 1 B 0 (.slice none 0 0) (.slice a6 m6 k6)).five
      have HBW := set5_below (g := w.heap.size) (x0 := .int .i64 1) (x1 := .int .i64 (B : Int)) (x2 := .int .i64 0) (x3 := .slice none 0 0) (x4 := .slice a6 m6 k6) HB.out (Nat.le_refl _)
      have HBT := set5_but wr w.heap.size (.int .i64 1) (.int .i64 (B : Int)) (.int .i64 0) (.slice none 0 0) (.slice a6 m6 k6)
      change bodyPost _ _ _ _ _ (set5 wr w.heap.size (.int .i64 1) (.int .i64 (B : Int)) (.int .i64 0) (.slice none 0 0) (.slice a6 m6 k6))
      have hO := HO.out.but HBT (by omega)
      generalize set5 wr w.heap.size (.int .i64 1) (.int .i64 (B : Int)) (.int .i64 0) (.slice none 0 0) (.slice a6 m6 k6) = WX at *
      have HF : RNewP 1 B 0 0 B w (.returned (.tuple #[.agg #[.int .i64 1, .int .i64 (B : Int), .int .i64 0, .slice none 0 0, .slice a6 m6 k6], .int .i64 0])) WX := ⟨_, _, rfl, Own.nil _ _, hO, HBW⟩
      simp [bodyPost, results, Try.results11, go_sem, d0, d1, d2, d3, d4]
      exact HF
end Go.Proofs.Ytdpcplhmnpglgaa
