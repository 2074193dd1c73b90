/-
  THE DOCUMENT'S OWN DRAW: it answers what is drawn, how many are taken and the error, and turns nothing. Conditions: n and the numbers are at least 0 and below 2^64; the place is below 2^40.
-/
import Derived.Test.YtmhggfgbefjcmaaFairNum
namespace Go.Proofs.Ytmhggfgbefjcmaa
open Go.RowKit

theorem whole_wraps (n : Int) (h0 : 0 < n) : IntKind.u64.wrap (18446744073709551615 / n * n) = 18446744073709551615 / n * n ∧ IntKind.u64.wrap (18446744073709551615 - IntKind.u64.wrap (18446744073709551615 / n * n)) = 18446744073709551615 % n := by
  have a := Int.emod_add_ediv_mul 18446744073709551615 n
  have b := Int.emod_nonneg 18446744073709551615 (by omega : n ≠ 0)
  have c : 0 ≤ 18446744073709551615 / n * n := Int.mul_nonneg (Int.ediv_nonneg (by decide) (by omega)) (by omega)
  have e : IntKind.u64.wrap (18446744073709551615 / n * n) = 18446744073709551615 / n * n := by rw [IntKind.wrap_u64]; omega
  refine ⟨e, ?_⟩
  rw [e, IntKind.wrap_u64]; omega
theorem whole_yes (x n : Int) (h0 : 0 < n) (hx : x < 18446744073709551616) (h : (IntKind.u64.wrap (18446744073709551615 - IntKind.u64.wrap (18446744073709551615 / n * n)) == n - 1) = true) : x ≤ lastI n := by
  rw [(whole_wraps n h0).2, beq_iff_eq] at h
  rw [lastI_eq n h0]
  have a := Int.emod_add_ediv_mul 18446744073709551616 n
  have e : (18446744073709551616 : Int) % n = 0 := by
    rw [show (18446744073709551616 : Int) = 18446744073709551615 + 1 from rfl, Int.add_emod, h, Int.add_emod_emod, show n - 1 + 1 = n by omega, Int.emod_self]
  omega
theorem whole_no (x n : Int) (h0 : 0 < n) (h : (IntKind.u64.wrap (18446744073709551615 - IntKind.u64.wrap (18446744073709551615 / n * n)) == n - 1) = false) : decide (x < IntKind.u64.wrap (18446744073709551615 / n * n)) = decide (x ≤ lastI n) := by
  rw [(whole_wraps n h0).2, beq_eq_false_iff_ne] at h
  rw [lastI_eq n h0, (whole_wraps n h0).1]
  have a := Int.emod_add_ediv_mul 18446744073709551615 n
  have b := Int.emod_nonneg 18446744073709551615 (by omega : n ≠ 0)
  have c := Int.emod_lt_of_pos 18446744073709551615 h0
  have e : (18446744073709551616 : Int) / n = 18446744073709551615 / n := by
    apply Int.le_antisymm
    · have : (18446744073709551616 : Int) / n < 18446744073709551615 / n + 1 := (Int.ediv_lt_iff_lt_mul h0).2 (by rw [Int.add_mul]; omega)
      omega
    · exact (Int.le_ediv_iff_mul_le h0).2 (by omega)
  rw [e, decide_eq_decide]
  omega

theorem whole_any (x n : Int) (h0 : 0 < n) (h1 : n < 18446744073709551616) (hx1 : x < 18446744073709551616) (w : World) :
    Calls Try.prog 36 #[.int .u64 x, .int .u64 n] w fun e w' => e = .returned (.bool (decide (x ≤ lastI n))) ∧ w = w' := by
  have hn : n ≠ 0 := by omega
  have hy := Lib.hid (whole_yes x n h0 hx1)
  have hz := Lib.hid (whole_no x n h0)
  go_enter Try.func36, Try.ntmps36
  go_wp2
  · go_ret
    exact ⟨congrArg (fun b => Ending.returned (.bool b)) (decide_eq_true (hy.out (by assumption))).symm, rfl⟩
  · go_ret
    exact ⟨congrArg (fun b => Ending.returned (.bool b)) (hz.out (by assumption)), rfl⟩

theorem drawTo_le (xs : Nat → Int) (n : Int) : ∀ f k, k ≤ (drawTo xs n f k).2.1 ∧ (drawTo xs n f k).2.1 ≤ k + f := by
  intro f
  induction f with
  | zero => intro k; exact ⟨Nat.le_refl _, Nat.le_refl _⟩
  | succ f ih =>
    intro k
    unfold drawTo
    split
    · exact ⟨by simp, by show k + 1 ≤ k + (f + 1); omega⟩
    · have := ih (k + 1); omega
theorem draw_le (xs : Nat → Int) (n : Int) (k : Nat) : k ≤ (draw xs n k).2.1 ∧ (draw xs n k).2.1 ≤ k + 64 := by
  unfold draw
  split
  · exact ⟨Nat.le_refl _, by simp⟩
  · exact drawTo_le xs n 64 k

set_option maxHeartbeats 400000 in
theorem refBelow_any (a : Option Addr) (cap : Nat) (l : List Int) (hl : All64 l) (hlen : l.length ≤ 1000000) (t : Nat) (ht : t ≤ 1000000) (n : Int) (h0 : 0 ≤ n) (h1 : n < 18446744073709551616) (w : World) (hr : HoldsRow w a l) :
    Calls Try.prog 27 #[.slice a l.length cap, .int .i64 t, .int .u64 n] w fun e w' => (∃ m : Nat, (draw (nums l) n t).2.1 = t + m ∧ e = .returned (.tuple #[.int .u64 (draw (nums l) n t).1, .int .i64 m, .int .i64 (draw (nums l) n t).2.2])) ∧ w = w' := by
  by_cases hn : n = 0
  · subst hn
    go_enter Try.func27, Try.ntmps27
    go_wp2
    go_returns
    exact ⟨⟨0, rfl, rfl⟩, rfl⟩
  · have hnb : (n == 0) = false := by simpa using hn
    go_enter Try.func27, Try.ntmps27
    go_wp2_with fail
    go_loopw [9] (fun i wr => ∃ j : Nat, j ≤ 64 ∧ i = .int .i64 j ∧ w = wr ∧ Hid (draw (nums l) n t = drawTo (nums l) n (64 - j) (t + j))) (fun i _ => 64 - (intOf i).toNat)
    case atStart => exact ⟨0, by omega, rfl, rfl, by show draw (nums l) n t = _; unfold draw; rw [if_neg hn]; rfl⟩
    case round =>
      obtain ⟨j, hj, rfl, rfl, HD⟩ := hrel
      by_cases hlt : j < 64
      · have hx := hl.nums (t + j)
        obtain ⟨x, HX⟩ : ∃ x, Hid (nums l (t + j) = x) := ⟨_, rfl⟩
        rw [HX.out] at hx
        have hd : drawTo (nums l) n (64 - j) (t + j) = if nums l (t + j) ≤ lastI n then (nums l (t + j) % n, t + j + 1, 0) else drawTo (nums l) n (63 - j) (t + j + 1) := by
          rw [show 64 - j = (63 - j) + 1 by omega]; rfl
        rw [HX.out] at hd
        have HE := Lib.hid (HD.out.trans hd)
        clear hd HD
        by_cases hin : t + j < l.length
        · obtain ⟨g, off, rfl, hg, hrow⟩ : ∃ g off, a = some ⟨g, off, none⟩ ∧ g < w.heap.size ∧ Row w g off l := by
            rcases hr with rfl | h'
            · simp at hin
            · exact h'
          have hc : w.cell? ⟨g, off + (t + j), none⟩ = some (.int .u64 x) := by rw [← HX.out]; exact hrow _ hin
          clear hr hrow
          go_wp2_with fail
          refine (whole_any _ n (by omega) h1 hx.2 _).mono ?_
          rintro e w1 ⟨rfl, rfl⟩
          by_cases hle : x ≤ lastI n
          · have HE2 := Lib.hid (HE.out.trans (if_pos hle))
            clear HE
            go_wp2
            go_returns
            refine ⟨⟨j + 1, ?_, ?_⟩, rfl⟩
            · rw [HE2.out]; rfl
            · rw [HE2.out]; rfl
          · have HE2 : Hid (draw (nums l) n t = drawTo (nums l) n (64 - (j + 1)) (t + (j + 1))) := by
              show _ = _
              rw [HE.out, if_neg hle, show 64 - (j + 1) = 63 - j by omega, show t + (j + 1) = t + j + 1 by omega]
            clear HE
            go_wp2
            go_roundw
            case rel => exact ⟨j + 1, by omega, by go_num, by trivial, HE2⟩
            case measure => simp [intOf]; omega
        · have hx0 : x = 0 := by rw [← HX.out]; unfold nums; rw [List.getD_eq_getElem?_getD, List.getElem?_eq_none (by omega)]; rfl
          subst hx0
          go_wp2_with fail
          refine (whole_any _ n (by omega) h1 hx.2 _).mono ?_
          rintro e w1 ⟨rfl, rfl⟩
          by_cases hle : (0 : Int) ≤ lastI n
          · have HE2 := Lib.hid (HE.out.trans (if_pos hle))
            clear HE
            go_wp2
            go_returns
            refine ⟨⟨j + 1, ?_, ?_⟩, rfl⟩
            · rw [HE2.out]; rfl
            · rw [HE2.out]; rfl
          · have HE2 : Hid (draw (nums l) n t = drawTo (nums l) n (64 - (j + 1)) (t + (j + 1))) := by
              show _ = _
              rw [HE.out, if_neg hle, show 64 - (j + 1) = 63 - j by omega, show t + (j + 1) = t + j + 1 by omega]
            clear HE
            go_wp2
            go_roundw
            case rel => exact ⟨j + 1, by omega, by go_num, by trivial, HE2⟩
            case measure => simp [intOf]; omega
      · have hj2 : j = 64 := by omega
        subst hj2
        have HE := Lib.hid (show draw (nums l) n t = (0, t + 64, 7) from HD.out)
        clear HD
        go_wp2
        go_returns
        refine ⟨⟨64, ?_, ?_⟩, rfl⟩
        · rw [HE.out]
        · rw [HE.out]; rfl
end Go.Proofs.Ytmhggfgbefjcmaa
