/-
  THE LIBRARY's SORT AT NUMBERS OF 64 BITS: the short rows, by putting in one by one. Condition: at most 2^20 numbers.
-/
import Derived.Test.YtjaogmbeoldefaaSortU
namespace Go.Proofs.Ytjaogmbeoldefaa
open Go.RowKit Go.Sort

set_option maxHeartbeats 1000000 in
theorem ins_any (g off cap a b : Nat) (d : Array Int) (hab : a ≤ b) (hb : b ≤ d.size) (hsz : d.size ≤ 1048576) (w : World) (hA : Arr g off d w) :
    Calls Try.prog 63 #[.slice (some ⟨g, off, none⟩) d.size cap, .int .i64 (a : Int), .int .i64 (b : Int)] w fun e w' =>
      e = .returned (.tuple #[]) ∧ Arr g off (insertionSort ltInt d a b) w' ∧ But g w w' := by
  go_enter Try.func63, Try.ntmps63
  go_wp2_with fail
  go_loopw [6] (fun v wr => ∃ (i : Nat) (dk : Array Int), v = .int .i64 (i : Int) ∧ a < i ∧ i ≤ b + 1 ∧ dk.size = d.size ∧ Arr g off dk wr ∧ But g w wr ∧ Hid (insOuter ltInt a b i dk = insertionSort ltInt d a b)) (fun v _ => b + 1 - (intOf v).toNat)
  case atStart => exact ⟨a + 1, d, by go_num, by omega, by omega, rfl, hA, But.refl _ _, rfl⟩
  case round =>
    obtain ⟨i, dk, rfl, hai, hib, hdk, hAk, hBk, HO⟩ := hrel
    clear hA
    by_cases hlt : i < b
    · go_wp2_with fail
      go_loopw [7] (fun v wj => ∃ (j : Nat) (dj : Array Int), v = .int .i64 (j : Int) ∧ a ≤ j ∧ j ≤ i ∧ dj.size = d.size ∧ Arr g off dj wj ∧ But g w wj ∧ Hid (insInner ltInt a j dj = insInner ltInt a i dk)) (fun v _ => (intOf v).toNat)
      case atStart => exact ⟨i, dk, rfl, by omega, Nat.le_refl _, hdk, hAk, hBk, rfl⟩
      case round =>
        obtain ⟨j, dj, rfl, haj, hji, hdj, hAj, hBj, HI⟩ := hrel
        clear hAk hBk
        have hc : ∀ t, t < d.size → wr.cell? ⟨g, off + t, none⟩ = some (.int .u64 (el dj t)) := fun t ht => hAj.cell t (by omega)
        have hf : ∀ t, t < d.size → wr.frozen? ⟨g, off + t, none⟩ = false := fun t ht => hAj.frozen t (by omega)
        have HA := Lib.hid hAj
        have HB := Lib.hid hBj
        clear hAj hBj
        go_wp2_with fail
        by_cases hja : a < j
        · go_quiet (first | (go_at_call 69; refine Calls.quiet_of_same (less_same _ _ _)))
          go_wp2_with fail
          · have hl : ltInt (el dj j) (el dj (j - 1)) = true := by assumption
            go_region
            all_goals go_wp2_with fail
            go_roundw
            case rel =>
              refine ⟨j - 1, swp dj j (j - 1), by congr 1; omega, by omega, by omega, by rw [size_swp]; exact hdj, ?_, ?_, ?_⟩
              · exact (HA.out.drewN _).swap j (j - 1) (by omega) (by omega)
              · exact (HB.out.drewN _).trans (But.swap _ _ _ _ _ _)
              · show _ = _
                rw [← HI.out, insInner_go ltInt a j dj hja hl]
            case measure => simp [intOf]; omega
          · have hl : ltInt (el dj j) (el dj (j - 1)) = false := by assumption
            go_roundw
            case rel =>
              refine ⟨i + 1, dj, by go_num, by omega, by omega, hdj, HA.out.drewN _, HB.out.drewN _, ?_⟩
              show _ = _
              rw [← HO.out, insOuter_go _ _ _ _ _ hlt, ← HI.out, insInner_stop ltInt a j dj (.inr hl)]
            case measure => simp [intOf]; omega
        · go_quiet (first | (go_at_call 69; refine Calls.quiet_of_same (less_same _ _ _)))
          go_wp2_with fail
          go_roundw
          case rel =>
            refine ⟨i + 1, dj, by go_num, by omega, by omega, hdj, HA.out.drewN _, HB.out.drewN _, ?_⟩
            show _ = _
            rw [← HO.out, insOuter_go _ _ _ _ _ hlt, ← HI.out, insInner_stop ltInt a j dj (.inl (by omega))]
          case measure => simp [intOf]; omega
    · go_wp2_with fail
      go_end0
      refine ⟨rfl, ?_, hBk⟩
      rw [← HO.out, insOuter_stop _ _ _ _ _ hlt]
      exact hAk

end Go.Proofs.Ytjaogmbeoldefaa
