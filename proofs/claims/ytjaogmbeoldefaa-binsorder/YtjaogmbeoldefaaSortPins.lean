/-
  THE LIBRARY's SORT AT NUMBERS OF 64 BITS: a range that may be nearly in order, by a few steps. Condition: at most 2^20 numbers.
-/
import Derived.Test.YtjaogmbeoldefaaSortPeq
import Derived.Sort.WalkA6
namespace Go.Proofs.Ytjaogmbeoldefaa
open Go.RowKit Go.Sort

set_option maxHeartbeats 8000000 in
set_option maxRecDepth 100000 in
theorem pins_any (g off cap a b : Nat) (d : Array Int) (hab : a < b) (hb : b ≤ d.size) (hsz : d.size ≤ 1048576) (w : World) (hA : Arr g off d w) :
    Calls Try.prog 68 #[.slice (some ⟨g, off, none⟩) d.size cap, .int .i64 (a : Int), .int .i64 (b : Int)] w fun e w' =>
      e = .returned (.bool (partialInsertionSort ltInt d a b).2) ∧ Arr g off (partialInsertionSort ltInt d a b).1 w' ∧ But g w w' := by
  go_enter Try.func68, Try.ntmps68
  go_wp2_with fail
  go_loopw [7, 8] (fun v u wr => ∃ (i s : Nat) (dk : Array Int), v = .int .i64 (i : Int) ∧ u = .int .i64 (s : Int) ∧ a < i ∧ i ≤ b ∧ s ≤ 5 ∧ dk.size = d.size ∧ Arr g off dk wr ∧ But g w wr ∧ Hid (partialIns ltInt a b (5 - s) i dk = partialInsertionSort ltInt d a b)) (fun _ u _ => 5 - (intOf u).toNat)
  case atStart => exact ⟨a + 1, 0, d, by go_num, rfl, by omega, by omega, by omega, rfl, hA, But.refl _ _, rfl⟩
  case round =>
    obtain ⟨i, s, dk, rfl, rfl, hai, hib, hs5, hdk, hAk, hBk, HO⟩ := hrel
    clear hA
    by_cases hs : s < 5
    · go_wp2_with fail
      go_loopw [7] (fun v wr => ∃ (i2 : Nat), v = .int .i64 (i2 : Int) ∧ i ≤ i2 ∧ i2 ≤ b ∧ Arr g off dk wr ∧ But g w wr ∧ Hid (scanSorted ltInt dk b i2 = scanSorted ltInt dk b i)) (fun v _ => b - (intOf v).toNat)
      case atStart => exact ⟨i, rfl, Nat.le_refl _, hib, hAk, hBk, rfl⟩
      case round =>
        obtain ⟨i2, rfl, hi2, hi2b, hA2, hB2, HU⟩ := hrel
        clear hAk hBk
        obtain ⟨hc, hf⟩ := hA2.cells hdk
        have HA := Lib.hid hA2
        have HB := Lib.hid hB2
        clear hA2 hB2
        go_wp2_with fail
        by_cases h1 : i2 < b
        · go_big_quiet (first | (go_at_call 69; refine Calls.quiet_of_same (less_same _ _ _)))
          go_wp2_with fail
          · have hl' : (!ltInt (el dk i2) (el dk (i2 - 1))) = true := by assumption
            have hl : ltInt (el dk i2) (el dk (i2 - 1)) = false := by simpa using hl'
            go_roundw
            case rel => exact ⟨i2 + 1, by go_num, by omega, by omega, HA.out.drewN _, HB.out.drewN _, (scanSorted_go ltInt dk b i2 h1 hl).symm.trans HU.out⟩
            case measure => simp [intOf]; omega
          · have hl' : (!ltInt (el dk i2) (el dk (i2 - 1))) = false := by assumption
            have hl : ltInt (el dk i2) (el dk (i2 - 1)) = true := by simpa using hl'
            have HS : Hid (scanSorted ltInt dk b i = i2) := by show _ = _; rw [← HU.out, scanSorted_stop ltInt dk b i2 (.inr hl)]
            have HE : Hid (partialInsertionSort ltInt d a b = (dk, false)) := by
              show _ = _
              rw [← HO.out]; exact pi_short ltInt a b s i dk hs (by rw [HS.out]; omega) (by omega)
            go_ret
            rw [HE.out]
            exact ⟨rfl, HA.out.drewN _, HB.out.drewN _⟩
          · have hl' : (!ltInt (el dk i2) (el dk (i2 - 1))) = false := by assumption
            have hl : ltInt (el dk i2) (el dk (i2 - 1)) = true := by simpa using hl'
            have h50 : a + 50 ≤ b := by omega
            have HS : Hid (scanSorted ltInt dk b i = i2) := by show _ = _; rw [← HU.out, scanSorted_stop ltInt dk b i2 (.inr hl)]
            clear HU
            obtain ⟨w2, hw2, hA3, hB3⟩ : ∃ w2, w2 = wr.drewN nq ∧ Arr g off dk w2 ∧ But g w w2 := ⟨_, rfl, HA.out.drewN _, HB.out.drewN _⟩
            rw [← hw2]
            clear hw2 HA HB hc hf
            obtain ⟨hc, hf⟩ := hA3.cells hdk
            have HA := Lib.hid hA3
            have HB := Lib.hid hB3
            clear hA3 hB3
            go_region
            all_goals by_cases hd : a + 2 ≤ i2
            all_goals by_cases hu : i2 + 2 ≤ b
            all_goals
              have hA5 : Arr g off (swp dk i2 (i2 - 1)) _ := HA.out.drew.swap i2 (i2 - 1) (by omega) (by omega)
              have hB5 := HB.out.drew.trans (But.swap g (off + i2) (off + (i2 - 1)) _ (.int .u64 (el dk (i2 - 1))) (.int .u64 (el dk i2)))
              clear hc hf HA HB
            · 
              go_wp2_with fail
              go_loopw [9] (fun v wr => ∃ (j : Nat) (dj : Array Int), v = .int .i64 (j : Int) ∧ j < i2 ∧ dj.size = d.size ∧ Arr g off dj wr ∧ But g w wr ∧ Hid (shiftDown ltInt j dj = shiftDown ltInt (i2 - 1) (swp dk i2 (i2 - 1)))) (fun v _ => (intOf v).toNat)
              case atStart => exact ⟨i2 - 1, (swp dk i2 (i2 - 1)), by congr 1; omega, by omega, by rw [size_swp]; exact hdk, hA5, hB5, rfl⟩
              case round =>
                obtain ⟨j, dj, rfl, hji, hdj, hA4, hB4, HW⟩ := hrel
                clear hA5 hB5
                obtain ⟨hc, hf⟩ := hA4.cells hdj
                have HA4 := Lib.hid hA4
                have HB4 := Lib.hid hB4
                clear hA4 hB4
                by_cases hj : 1 ≤ j
                · go_wp2_with fail
                  go_big_quiet (first | (go_at_call 69; refine Calls.quiet_of_same (less_same _ _ _)))
                  go_wp2_with fail
                  · have hl' : (!ltInt (el dj j) (el dj (j - 1))) = true := by assumption
                    have hl : ltInt (el dj j) (el dj (j - 1)) = false := by simpa using hl'
                    have HD : Hid (dj = fixDown ltInt a i2 (swp dk i2 (i2 - 1))) := by
                      show _ = _; unfold fixDown; rw [if_pos (by omega), ← HW.out, shiftDown_stop ltInt j dj (.inr hl)]
                    clear hc hf
                    go_loopw [10] (fun v wr => ∃ (j : Nat) (dm : Array Int), v = .int .i64 (j : Int) ∧ i2 < j ∧ j ≤ b ∧ dm.size = d.size ∧ Arr g off dm wr ∧ But g w wr ∧ Hid (shiftUp ltInt b j dm = shiftUp ltInt b (i2 + 1) dj)) (fun v _ => b - (intOf v).toNat)
                    case atStart => exact ⟨i2 + 1, dj, by go_num, by omega, by omega, hdj, HA4.out.drewN _, HB4.out.drewN _, rfl⟩
                    case round =>
                      obtain ⟨j, dm, rfl, hij, hjb, hdm, hA6, hB6, HV⟩ := hrel
                      obtain ⟨hc, hf⟩ := hA6.cells hdm
                      have HA6 := Lib.hid hA6
                      have HB6 := Lib.hid hB6
                      clear hA6 hB6
                      by_cases hj : j < b
                      · go_wp2_with fail
                        go_big_quiet (first | (go_at_call 69; refine Calls.quiet_of_same (less_same _ _ _)))
                        go_wp2_with fail
                        · have hl' : (!ltInt (el dm j) (el dm (j - 1))) = true := by assumption
                          have hl : ltInt (el dm j) (el dm (j - 1)) = false := by simpa using hl'
                          have HF : Hid (dm = fixUp ltInt b i2 dj) := by
                            show _ = _; unfold fixUp; rw [if_pos (by omega), ← HV.out, shiftUp_stop ltInt b j dm (.inr hl)]
                          go_roundw
                          case rel =>
                            refine ⟨i2, s + 1, dm, rfl, by go_num, by omega, by omega, by omega, by omega, HA6.out.drewN _, HB6.out.drewN _, ?_⟩
                            show _ = _
                            rw [← HO.out, pi_go ltInt a b s i i2 dk hs HS.out (by omega) (by omega), ← HD.out, ← HF.out]
                          case measure => simp [intOf]; omega
                        · have hl' : (!ltInt (el dm j) (el dm (j - 1))) = false := by assumption
                          have hl : ltInt (el dm j) (el dm (j - 1)) = true := by simpa using hl'
                          go_region
                          all_goals go_wp2_with fail
                          go_roundw
                          case rel =>
                            refine ⟨j + 1, swp dm j (j - 1), by go_num, by omega, by omega, by rw [size_swp]; exact hdm, (HA6.out.drewN _).swap j (j - 1) (by omega) (by omega), (HB6.out.drewN _).trans (But.swap _ _ _ _ _ _), ?_⟩
                            show _ = _
                            rw [← HV.out, shiftUp_go ltInt b j dm hj hl]
                          case measure => simp [intOf]; omega
                      · go_wp2_with fail
                        have HF : Hid (dm = fixUp ltInt b i2 dj) := by
                          show _ = _; unfold fixUp; rw [if_pos (by omega), ← HV.out, shiftUp_stop ltInt b j dm (.inl hj)]
                        go_roundw
                        case rel =>
                          refine ⟨i2, s + 1, dm, rfl, by go_num, by omega, by omega, by omega, by omega, HA6.out, HB6.out, ?_⟩
                          show _ = _
                          rw [← HO.out, pi_go ltInt a b s i i2 dk hs HS.out (by omega) (by omega), ← HD.out, ← HF.out]
                        case measure => simp [intOf]; omega
                  · have hl' : (!ltInt (el dj j) (el dj (j - 1))) = false := by assumption
                    have hl : ltInt (el dj j) (el dj (j - 1)) = true := by simpa using hl'
                    go_region
                    all_goals go_wp2_with fail
                    go_roundw
                    case rel =>
                      refine ⟨j - 1, swp dj j (j - 1), by congr 1; omega, by omega, by rw [size_swp]; exact hdj, (HA4.out.drewN _).swap j (j - 1) (by omega) (by omega), (HB4.out.drewN _).trans (But.swap _ _ _ _ _ _), ?_⟩
                      show _ = _
                      rw [← HW.out, shiftDown_go ltInt j dj hj hl]
                    case measure => simp [intOf]; omega
                · go_wp2_with fail
                  have HD : Hid (dj = fixDown ltInt a i2 (swp dk i2 (i2 - 1))) := by
                    show _ = _; unfold fixDown; rw [if_pos (by omega), ← HW.out, shiftDown_stop ltInt j dj (.inl (by omega))]
                  clear hc hf
                  go_loopw [10] (fun v wr => ∃ (j : Nat) (dm : Array Int), v = .int .i64 (j : Int) ∧ i2 < j ∧ j ≤ b ∧ dm.size = d.size ∧ Arr g off dm wr ∧ But g w wr ∧ Hid (shiftUp ltInt b j dm = shiftUp ltInt b (i2 + 1) dj)) (fun v _ => b - (intOf v).toNat)
                  case atStart => exact ⟨i2 + 1, dj, by go_num, by omega, by omega, hdj, HA4.out, HB4.out, rfl⟩
                  case round =>
                    obtain ⟨j, dm, rfl, hij, hjb, hdm, hA6, hB6, HV⟩ := hrel
                    obtain ⟨hc, hf⟩ := hA6.cells hdm
                    have HA6 := Lib.hid hA6
                    have HB6 := Lib.hid hB6
                    clear hA6 hB6
                    by_cases hj : j < b
                    · go_wp2_with fail
                      go_big_quiet (first | (go_at_call 69; refine Calls.quiet_of_same (less_same _ _ _)))
                      go_wp2_with fail
                      · have hl' : (!ltInt (el dm j) (el dm (j - 1))) = true := by assumption
                        have hl : ltInt (el dm j) (el dm (j - 1)) = false := by simpa using hl'
                        have HF : Hid (dm = fixUp ltInt b i2 dj) := by
                          show _ = _; unfold fixUp; rw [if_pos (by omega), ← HV.out, shiftUp_stop ltInt b j dm (.inr hl)]
                        go_roundw
                        case rel =>
                          refine ⟨i2, s + 1, dm, rfl, by go_num, by omega, by omega, by omega, by omega, HA6.out.drewN _, HB6.out.drewN _, ?_⟩
                          show _ = _
                          rw [← HO.out, pi_go ltInt a b s i i2 dk hs HS.out (by omega) (by omega), ← HD.out, ← HF.out]
                        case measure => simp [intOf]; omega
                      · have hl' : (!ltInt (el dm j) (el dm (j - 1))) = false := by assumption
                        have hl : ltInt (el dm j) (el dm (j - 1)) = true := by simpa using hl'
                        go_region
                        all_goals go_wp2_with fail
                        go_roundw
                        case rel =>
                          refine ⟨j + 1, swp dm j (j - 1), by go_num, by omega, by omega, by rw [size_swp]; exact hdm, (HA6.out.drewN _).swap j (j - 1) (by omega) (by omega), (HB6.out.drewN _).trans (But.swap _ _ _ _ _ _), ?_⟩
                          show _ = _
                          rw [← HV.out, shiftUp_go ltInt b j dm hj hl]
                        case measure => simp [intOf]; omega
                    · go_wp2_with fail
                      have HF : Hid (dm = fixUp ltInt b i2 dj) := by
                        show _ = _; unfold fixUp; rw [if_pos (by omega), ← HV.out, shiftUp_stop ltInt b j dm (.inl hj)]
                      go_roundw
                      case rel =>
                        refine ⟨i2, s + 1, dm, rfl, by go_num, by omega, by omega, by omega, by omega, HA6.out, HB6.out, ?_⟩
                        show _ = _
                        rw [← HO.out, pi_go ltInt a b s i i2 dk hs HS.out (by omega) (by omega), ← HD.out, ← HF.out]
                      case measure => simp [intOf]; omega
            · 
              go_wp2_with fail
              go_loopw [9] (fun v wr => ∃ (j : Nat) (dj : Array Int), v = .int .i64 (j : Int) ∧ j < i2 ∧ dj.size = d.size ∧ Arr g off dj wr ∧ But g w wr ∧ Hid (shiftDown ltInt j dj = shiftDown ltInt (i2 - 1) (swp dk i2 (i2 - 1)))) (fun v _ => (intOf v).toNat)
              case atStart => exact ⟨i2 - 1, (swp dk i2 (i2 - 1)), by congr 1; omega, by omega, by rw [size_swp]; exact hdk, hA5, hB5, rfl⟩
              case round =>
                obtain ⟨j, dj, rfl, hji, hdj, hA4, hB4, HW⟩ := hrel
                clear hA5 hB5
                obtain ⟨hc, hf⟩ := hA4.cells hdj
                have HA4 := Lib.hid hA4
                have HB4 := Lib.hid hB4
                clear hA4 hB4
                by_cases hj : 1 ≤ j
                · go_wp2_with fail
                  go_big_quiet (first | (go_at_call 69; refine Calls.quiet_of_same (less_same _ _ _)))
                  go_wp2_with fail
                  · have hl' : (!ltInt (el dj j) (el dj (j - 1))) = true := by assumption
                    have hl : ltInt (el dj j) (el dj (j - 1)) = false := by simpa using hl'
                    have HD : Hid (dj = fixDown ltInt a i2 (swp dk i2 (i2 - 1))) := by
                      show _ = _; unfold fixDown; rw [if_pos (by omega), ← HW.out, shiftDown_stop ltInt j dj (.inr hl)]
                    clear hc hf
                    have HF : Hid (dj = fixUp ltInt b i2 dj) := by show _ = _; unfold fixUp; rw [if_neg (by omega)]
                    go_roundw
                    case rel =>
                      refine ⟨i2, s + 1, dj, rfl, by go_num, by omega, by omega, by omega, by omega, HA4.out.drewN _, HB4.out.drewN _, ?_⟩
                      show _ = _
                      rw [← HO.out, pi_go ltInt a b s i i2 dk hs HS.out (by omega) (by omega), ← HD.out, ← HF.out]
                    case measure => simp [intOf]; omega
                  · have hl' : (!ltInt (el dj j) (el dj (j - 1))) = false := by assumption
                    have hl : ltInt (el dj j) (el dj (j - 1)) = true := by simpa using hl'
                    go_region
                    all_goals go_wp2_with fail
                    go_roundw
                    case rel =>
                      refine ⟨j - 1, swp dj j (j - 1), by congr 1; omega, by omega, by rw [size_swp]; exact hdj, (HA4.out.drewN _).swap j (j - 1) (by omega) (by omega), (HB4.out.drewN _).trans (But.swap _ _ _ _ _ _), ?_⟩
                      show _ = _
                      rw [← HW.out, shiftDown_go ltInt j dj hj hl]
                    case measure => simp [intOf]; omega
                · go_wp2_with fail
                  have HD : Hid (dj = fixDown ltInt a i2 (swp dk i2 (i2 - 1))) := by
                    show _ = _; unfold fixDown; rw [if_pos (by omega), ← HW.out, shiftDown_stop ltInt j dj (.inl (by omega))]
                  clear hc hf
                  have HF : Hid (dj = fixUp ltInt b i2 dj) := by show _ = _; unfold fixUp; rw [if_neg (by omega)]
                  go_roundw
                  case rel =>
                    refine ⟨i2, s + 1, dj, rfl, by go_num, by omega, by omega, by omega, by omega, HA4.out, HB4.out, ?_⟩
                    show _ = _
                    rw [← HO.out, pi_go ltInt a b s i i2 dk hs HS.out (by omega) (by omega), ← HD.out, ← HF.out]
                  case measure => simp [intOf]; omega
            · 
              have HD : Hid ((swp dk i2 (i2 - 1)) = fixDown ltInt a i2 (swp dk i2 (i2 - 1))) := by show _ = _; unfold fixDown; rw [if_neg (by omega)]
              go_wp2_with fail
              go_loopw [10] (fun v wr => ∃ (j : Nat) (dm : Array Int), v = .int .i64 (j : Int) ∧ i2 < j ∧ j ≤ b ∧ dm.size = d.size ∧ Arr g off dm wr ∧ But g w wr ∧ Hid (shiftUp ltInt b j dm = shiftUp ltInt b (i2 + 1) (swp dk i2 (i2 - 1)))) (fun v _ => b - (intOf v).toNat)
              case atStart => exact ⟨i2 + 1, (swp dk i2 (i2 - 1)), by go_num, by omega, by omega, by rw [size_swp]; exact hdk, hA5, hB5, rfl⟩
              case round =>
                obtain ⟨j, dm, rfl, hij, hjb, hdm, hA6, hB6, HV⟩ := hrel
                obtain ⟨hc, hf⟩ := hA6.cells hdm
                have HA6 := Lib.hid hA6
                have HB6 := Lib.hid hB6
                clear hA6 hB6
                by_cases hj : j < b
                · go_wp2_with fail
                  go_big_quiet (first | (go_at_call 69; refine Calls.quiet_of_same (less_same _ _ _)))
                  go_wp2_with fail
                  · have hl' : (!ltInt (el dm j) (el dm (j - 1))) = true := by assumption
                    have hl : ltInt (el dm j) (el dm (j - 1)) = false := by simpa using hl'
                    have HF : Hid (dm = fixUp ltInt b i2 (swp dk i2 (i2 - 1))) := by
                      show _ = _; unfold fixUp; rw [if_pos (by omega), ← HV.out, shiftUp_stop ltInt b j dm (.inr hl)]
                    go_roundw
                    case rel =>
                      refine ⟨i2, s + 1, dm, rfl, by go_num, by omega, by omega, by omega, by omega, HA6.out.drewN _, HB6.out.drewN _, ?_⟩
                      show _ = _
                      rw [← HO.out, pi_go ltInt a b s i i2 dk hs HS.out (by omega) (by omega), ← HD.out, ← HF.out]
                    case measure => simp [intOf]; omega
                  · have hl' : (!ltInt (el dm j) (el dm (j - 1))) = false := by assumption
                    have hl : ltInt (el dm j) (el dm (j - 1)) = true := by simpa using hl'
                    go_region
                    all_goals go_wp2_with fail
                    go_roundw
                    case rel =>
                      refine ⟨j + 1, swp dm j (j - 1), by go_num, by omega, by omega, by rw [size_swp]; exact hdm, (HA6.out.drewN _).swap j (j - 1) (by omega) (by omega), (HB6.out.drewN _).trans (But.swap _ _ _ _ _ _), ?_⟩
                      show _ = _
                      rw [← HV.out, shiftUp_go ltInt b j dm hj hl]
                    case measure => simp [intOf]; omega
                · go_wp2_with fail
                  have HF : Hid (dm = fixUp ltInt b i2 (swp dk i2 (i2 - 1))) := by
                    show _ = _; unfold fixUp; rw [if_pos (by omega), ← HV.out, shiftUp_stop ltInt b j dm (.inl hj)]
                  go_roundw
                  case rel =>
                    refine ⟨i2, s + 1, dm, rfl, by go_num, by omega, by omega, by omega, by omega, HA6.out, HB6.out, ?_⟩
                    show _ = _
                    rw [← HO.out, pi_go ltInt a b s i i2 dk hs HS.out (by omega) (by omega), ← HD.out, ← HF.out]
                  case measure => simp [intOf]; omega
            · exfalso; omega
        · have HS : Hid (scanSorted ltInt dk b i = b) := by show _ = _; rw [← HU.out, scanSorted_stop ltInt dk b i2 (.inl h1)]; omega
          have HE : Hid (partialInsertionSort ltInt d a b = (dk, true)) := by
            show _ = _
            rw [← HO.out]; exact pi_true ltInt a b s i dk hs HS.out
          go_big_quiet (first | (go_at_call 69; refine Calls.quiet_of_same (less_same _ _ _)))
          go_wp2_with fail
          go_ret
          rw [HE.out]
          exact ⟨rfl, HA.out.drewN _, HB.out.drewN _⟩
    · have HE : Hid (partialInsertionSort ltInt d a b = (dk, false)) := by
        show _ = _
        rw [← HO.out, show s = 5 by omega]; exact pi_end ltInt a b i dk
      clear HO
      go_wp2_with fail
      go_ret
      rw [HE.out]
      exact ⟨rfl, hAk, hBk⟩

end Go.Proofs.Ytjaogmbeoldefaa
