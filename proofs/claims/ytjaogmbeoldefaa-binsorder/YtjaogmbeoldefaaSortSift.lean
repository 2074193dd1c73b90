/-
  THE LIBRARY's SORT AT NUMBERS OF 64 BITS: by a heap. Condition: at most 2^20 numbers.
-/
import Derived.Test.YtjaogmbeoldefaaSortU
import Derived.BigRegion
import Derived.Sort.WalkB3
namespace Go.Proofs.Ytjaogmbeoldefaa
open Go.RowKit Go.Sort

set_option maxHeartbeats 2000000 in
theorem sift_any (g off cap lo hi first : Nat) (d : Array Int) (hlo : lo ≤ hi) (hb : first + hi ≤ d.size) (hsz : d.size ≤ 1048576) (w : World) (hA : Arr g off d w) :
    Calls Try.prog 76 #[.slice (some ⟨g, off, none⟩) d.size cap, .int .i64 (lo : Int), .int .i64 (hi : Int), .int .i64 (first : Int)] w fun e w' =>
      e = .returned (.tuple #[]) ∧ Arr g off (siftDown ltInt hi first lo d) w' ∧ But g w w' := by
  go_enter Try.func76, Try.ntmps76
  go_wp2_with fail
  go_loopw [8] (fun v wr => ∃ (r : Nat) (dk : Array Int), v = .int .i64 (r : Int) ∧ r ≤ hi ∧ dk.size = d.size ∧ Arr g off dk wr ∧ But g w wr ∧ Hid (siftDown ltInt hi first r dk = siftDown ltInt hi first lo d)) (fun v _ => hi - (intOf v).toNat)
  case atStart => exact ⟨lo, d, rfl, hlo, rfl, hA, But.refl _ _, rfl⟩
  case round =>
    obtain ⟨r, dk, rfl, hr, hdk, hAk, hBk, HO⟩ := hrel
    clear hA
    have hc : ∀ t, t < d.size → wr.cell? ⟨g, off + t, none⟩ = some (.int .u64 (el dk t)) := fun t ht => hAk.cell t (by omega)
    have hf : ∀ t, t < d.size → wr.frozen? ⟨g, off + t, none⟩ = false := fun t ht => hAk.frozen t (by omega)
    have HA := Lib.hid hAk
    have HB := Lib.hid hBk
    clear hAk hBk
    by_cases h1 : 2 * r + 1 < hi
    · go_wp2_with fail
      by_cases h2 : 2 * r + 2 < hi
      · have hg : decide (2 * (r : Int) + 1 + 1 < (hi : Int)) = true := decide_eq_true (by omega)
        go_big_quiet (first | (go_at_call 69; refine Calls.quiet_of_same (less_same _ _ _)))
        go_wp2_with fail
        · have hk : ltInt (el dk (first + (2 * r + 1))) (el dk (first + (2 * r + 2))) = true := by assumption
          obtain ⟨w2, hw2, hA2, hB2⟩ : ∃ w2, w2 = wr.drewN nq ∧ Arr g off dk w2 ∧ But g w w2 := ⟨_, rfl, HA.out.drewN _, HB.out.drewN _⟩
          rw [← hw2]
          clear hw2 HA HB hc hf
          have hc : ∀ t, t < d.size → w2.cell? ⟨g, off + t, none⟩ = some (.int .u64 (el dk t)) := fun t ht => hA2.cell t (by omega)
          have hf : ∀ t, t < d.size → w2.frozen? ⟨g, off + t, none⟩ = false := fun t ht => hA2.frozen t (by omega)
          have HA := Lib.hid hA2
          have HB := Lib.hid hB2
          clear hA2 hB2
          go_big_quiet (first | (go_at_call 69; refine Calls.quiet_of_same (less_same _ _ _)))
          go_wp2_with fail
          · have hl' : (!ltInt (el dk (first + r)) (el dk (first + (2 * r + 2)))) = true := by assumption
            have hl : ltInt (el dk (first + r)) (el dk (first + (2 * r + 2))) = false := by simpa using hl'
            go_returns
            refine ⟨rfl, ?_, HB.out.drewN _⟩
            rw [← HO.out, sd_right_stop _ _ h2 hk hl]
            exact HA.out.drewN _
          · have hl' : (!ltInt (el dk (first + r)) (el dk (first + (2 * r + 2)))) = false := by assumption
            have hl : ltInt (el dk (first + r)) (el dk (first + (2 * r + 2))) = true := by simpa using hl'
            go_region
            all_goals go_wp2_with fail
            go_roundw
            case rel =>
              refine ⟨2 * r + 2, swp dk (first + r) (first + (2 * r + 2)), by congr 1, by omega, by rw [size_swp]; exact hdk, ?_, ?_, ?_⟩
              · exact (HA.out.drewN _).swap (first + r) (first + (2 * r + 2)) (by omega) (by omega)
              · exact (HB.out.drewN _).trans (But.swap _ _ _ _ _ _)
              · show _ = _
                rw [← HO.out, sd_right_go _ _ h2 hk hl]
            case measure => simp [intOf]; omega
        · have hk : ltInt (el dk (first + (2 * r + 1))) (el dk (first + (2 * r + 2))) = false := by assumption
          obtain ⟨w2, hw2, hA2, hB2⟩ : ∃ w2, w2 = wr.drewN nq ∧ Arr g off dk w2 ∧ But g w w2 := ⟨_, rfl, HA.out.drewN _, HB.out.drewN _⟩
          rw [← hw2]
          clear hw2 HA HB hc hf
          have hc : ∀ t, t < d.size → w2.cell? ⟨g, off + t, none⟩ = some (.int .u64 (el dk t)) := fun t ht => hA2.cell t (by omega)
          have hf : ∀ t, t < d.size → w2.frozen? ⟨g, off + t, none⟩ = false := fun t ht => hA2.frozen t (by omega)
          have HA := Lib.hid hA2
          have HB := Lib.hid hB2
          clear hA2 hB2
          go_big_quiet (first | (go_at_call 69; refine Calls.quiet_of_same (less_same _ _ _)))
          go_wp2_with fail
          · have hl' : (!ltInt (el dk (first + r)) (el dk (first + (2 * r + 1)))) = true := by assumption
            have hl : ltInt (el dk (first + r)) (el dk (first + (2 * r + 1))) = false := by simpa using hl'
            go_returns
            refine ⟨rfl, ?_, HB.out.drewN _⟩
            rw [← HO.out, sd_left_stop _ _ h1 (fun _ => hk) hl]
            exact HA.out.drewN _
          · have hl' : (!ltInt (el dk (first + r)) (el dk (first + (2 * r + 1)))) = false := by assumption
            have hl : ltInt (el dk (first + r)) (el dk (first + (2 * r + 1))) = true := by simpa using hl'
            go_region
            all_goals go_wp2_with fail
            go_roundw
            case rel =>
              refine ⟨2 * r + 1, swp dk (first + r) (first + (2 * r + 1)), by congr 1, by omega, by rw [size_swp]; exact hdk, ?_, ?_, ?_⟩
              · exact (HA.out.drewN _).swap (first + r) (first + (2 * r + 1)) (by omega) (by omega)
              · exact (HB.out.drewN _).trans (But.swap _ _ _ _ _ _)
              · show _ = _
                rw [← HO.out, sd_left_go _ _ h1 (fun _ => hk) hl]
            case measure => simp [intOf]; omega
      · have hg : decide (2 * (r : Int) + 1 + 1 < (hi : Int)) = false := decide_eq_false (by omega)
        go_big_quiet (first | (go_at_call 69; refine Calls.quiet_of_same (less_same _ _ _)))
        go_wp2_with fail
        obtain ⟨w2, hw2, hA2, hB2⟩ : ∃ w2, w2 = wr.drewN nq ∧ Arr g off dk w2 ∧ But g w w2 := ⟨_, rfl, HA.out.drewN _, HB.out.drewN _⟩
        rw [← hw2]
        clear hw2 HA HB hc hf
        have hc : ∀ t, t < d.size → w2.cell? ⟨g, off + t, none⟩ = some (.int .u64 (el dk t)) := fun t ht => hA2.cell t (by omega)
        have hf : ∀ t, t < d.size → w2.frozen? ⟨g, off + t, none⟩ = false := fun t ht => hA2.frozen t (by omega)
        have HA := Lib.hid hA2
        have HB := Lib.hid hB2
        clear hA2 hB2
        go_big_quiet (first | (go_at_call 69; refine Calls.quiet_of_same (less_same _ _ _)))
        go_wp2_with fail
        · have hl' : (!ltInt (el dk (first + r)) (el dk (first + (2 * r + 1)))) = true := by assumption
          have hl : ltInt (el dk (first + r)) (el dk (first + (2 * r + 1))) = false := by simpa using hl'
          go_returns
          refine ⟨rfl, ?_, HB.out.drewN _⟩
          rw [← HO.out, sd_left_stop _ _ h1 (fun h => absurd h h2) hl]
          exact HA.out.drewN _
        · have hl' : (!ltInt (el dk (first + r)) (el dk (first + (2 * r + 1)))) = false := by assumption
          have hl : ltInt (el dk (first + r)) (el dk (first + (2 * r + 1))) = true := by simpa using hl'
          go_region
          all_goals go_wp2_with fail
          go_roundw
          case rel =>
            refine ⟨2 * r + 1, swp dk (first + r) (first + (2 * r + 1)), by congr 1, by omega, by rw [size_swp]; exact hdk, ?_, ?_, ?_⟩
            · exact (HA.out.drewN _).swap (first + r) (first + (2 * r + 1)) (by omega) (by omega)
            · exact (HB.out.drewN _).trans (But.swap _ _ _ _ _ _)
            · show _ = _
              rw [← HO.out, sd_left_go _ _ h1 (fun h => absurd h h2) hl]
          case measure => simp [intOf]; omega
    · go_wp2_with fail
      go_end0
      refine ⟨rfl, ?_, HB.out⟩
      rw [← HO.out, sd_end _ _ (by omega)]
      exact HA.out

end Go.Proofs.Ytjaogmbeoldefaa
