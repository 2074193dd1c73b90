/-
  THE LIBRARY's SORT AT NUMBERS OF 64 BITS: a range turned round. Condition: at most 2^20 numbers.
-/
import Derived.Test.YtjaogmbeoldefaaSortU
import Derived.BigRegion
namespace Go.Proofs.Ytjaogmbeoldefaa
open Go.RowKit Go.Sort

theorem rev_go (i j : Nat) (d : Array Int) (h : i < j) : reverseLoop i j d = reverseLoop (i + 1) (j - 1) (swp d i j) := by rw [reverseLoop, if_pos h]
theorem rev_stop (i j : Nat) (d : Array Int) (h : ¬ i < j) : reverseLoop i j d = d := by rw [reverseLoop, if_neg h]

set_option maxHeartbeats 1000000 in
theorem rev_any (g off cap a b : Nat) (d : Array Int) (hab : a < b) (hb : b ≤ d.size) (hsz : d.size ≤ 1048576) (w : World) (hA : Arr g off d w) :
    Calls Try.prog 67 #[.slice (some ⟨g, off, none⟩) d.size cap, .int .i64 (a : Int), .int .i64 (b : Int)] w fun e w' =>
      e = .returned (.tuple #[]) ∧ Arr g off (reverseRange d a b) w' ∧ But g w w' := by
  go_enter Try.func67, Try.ntmps67
  go_wp2_with fail
  go_loopw [6, 7] (fun v u wr => ∃ (i j : Nat) (dk : Array Int), v = .int .i64 (i : Int) ∧ u = .int .i64 (j : Int) ∧ j < b ∧ i ≤ b ∧ dk.size = d.size ∧ Arr g off dk wr ∧ But g w wr ∧ Hid (reverseLoop i j dk = reverseRange d a b)) (fun v u _ => (intOf u).toNat + 1 - (intOf v).toNat)
  case atStart => exact ⟨a, b - 1, d, rfl, by congr 1; omega, by omega, by omega, rfl, hA, But.refl _ _, rfl⟩
  case round =>
    obtain ⟨i, j, dk, rfl, rfl, hjb, hib, hdk, hAk, hBk, HO⟩ := hrel
    clear hA
    have hc : ∀ t, t < d.size → wr.cell? ⟨g, off + t, none⟩ = some (.int .u64 (el dk t)) := fun t ht => hAk.cell t (by omega)
    have hf : ∀ t, t < d.size → wr.frozen? ⟨g, off + t, none⟩ = false := fun t ht => hAk.frozen t (by omega)
    have HA := Lib.hid hAk
    have HB := Lib.hid hBk
    clear hAk hBk
    by_cases hlt : i < j
    · go_wp2_with fail
      go_region
      all_goals go_wp2_with fail
      go_roundw
      case rel =>
        refine ⟨i + 1, j - 1, swp dk i j, by go_num, by congr 1; omega, by omega, by omega, by rw [size_swp]; exact hdk, ?_, ?_, ?_⟩
        · exact HA.out.drew.swap i j (by omega) (by omega)
        · exact HB.out.drew.trans (But.swap _ _ _ _ _ _)
        · show _ = _
          rw [← HO.out, rev_go i j dk hlt]
      case measure => simp [intOf]; omega
    · go_wp2_with fail
      go_end0
      refine ⟨rfl, ?_, HB.out⟩
      rw [← HO.out, rev_stop _ _ _ hlt]
      exact HA.out

end Go.Proofs.Ytjaogmbeoldefaa
