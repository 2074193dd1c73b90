/-
  THE LIBRARY's SORT AT NUMBERS OF 64 BITS: three numbers of a range change places with others of it. Condition: at most 2^20 numbers. (With which others is not told.)
-/
import Derived.Test.YtjaogmbeoldefaaSortPeq
import Derived.Test.YtjaogmbeoldefaaLenLay
namespace Go.Proofs.Ytjaogmbeoldefaa
open Go.RowKit Go.Sort

theorem xor_word (a b : Int) : 0 ≤ bits .xor .u64 a b ∧ bits .xor .u64 a b < 18446744073709551616 := by
  have : bits .xor .u64 a b = IntKind.u64.wrap (bits .xor .u64 a b) := by
    unfold bits
    simp only [IntKind.wrap_u64]
    omega
  rw [this, IntKind.wrap_u64]
  omega

/-- The seed of the call's own. -/
structure Seed (c : Nat) (w : World) : Prop where
  lt : c < w.heap.size
  cell : ∃ n : Int, w.cell? ⟨c, 0, none⟩ = some (.int .u64 n) ∧ 0 ≤ n ∧ n < 18446744073709551616
  frozen : w.frozen? ⟨c, 0, none⟩ = false

theorem Seed.set {c : Nat} {w : World} (h : Seed c w) (n : Int) (h0 : 0 ≤ n ∧ n < 18446744073709551616) : Seed c (w.setCell ⟨c, 0, none⟩ (.int .u64 n)) := by
  obtain ⟨m, hm, _⟩ := h.cell
  exact ⟨by have := h.lt; simp [World.setCell]; omega, ⟨n, World.cell?_setCell_same _ _ _ hm, h0⟩, by rw [World.frozen?_setCell]; exact h.frozen⟩

set_option maxHeartbeats 1000000 in
theorem next_any (c : Nat) (w : World) (hS : Seed c w) :
    Calls Try.prog 78 #[.pointer (some ⟨c, 0, none⟩)] w fun e w' => ∃ y : Nat, e = .returned (.int .u64 (y : Int)) ∧ y < 18446744073709551616 ∧ Seed c w' ∧ But c w w' := by
  obtain ⟨n, hn, h0, h1⟩ := hS.cell
  have hf := hS.frozen
  have hl := hS.lt
  have once : ∀ (w : World) (n x : Int), Seed c w → Seed c (w.setCell ⟨c, 0, none⟩ (.int .u64 (bits .xor .u64 n x))).drew ∧ But c w (w.setCell ⟨c, 0, none⟩ (.int .u64 (bits .xor .u64 n x))).drew := fun w n x h =>
    ⟨⟨(h.set _ (xor_word n x)).lt, (h.set _ (xor_word n x)).cell, (h.set _ (xor_word n x)).frozen⟩, (But.setCell c 0 w _).drew⟩
  go_enter Try.func78, Try.ntmps78
  go_wp2_with fail
  go_region
  all_goals go_wp2_with fail
  obtain ⟨hS1, hB1⟩ := once w n (IntKind.u64.wrap (n * 8192)) hS
  generalize (w.setCell ⟨c, 0, none⟩ (.int .u64 (bits .xor .u64 n (IntKind.u64.wrap (n * 8192))))).drew = w1 at *
  clear hn h0 h1 hf hl
  obtain ⟨n1, hn, h0, h1⟩ := hS1.cell
  have hf := hS1.frozen
  go_region
  all_goals go_wp2_with fail
  obtain ⟨hS2, hB2⟩ := once w1 n1 (n1 / 128) hS1
  generalize (w1.setCell ⟨c, 0, none⟩ (.int .u64 (bits .xor .u64 n1 (n1 / 128)))).drew = w2 at *
  clear hn h0 h1 hf
  obtain ⟨n2, hn, h0, h1⟩ := hS2.cell
  have hf := hS2.frozen
  go_region
  all_goals go_wp2_with fail
  obtain ⟨hS3, hB3⟩ := once w2 n2 (IntKind.u64.wrap (n2 * 131072)) hS2
  obtain ⟨g0, g1⟩ := xor_word n2 (IntKind.u64.wrap (n2 * 131072))
  go_ret
  exact ⟨(bits .xor .u64 n2 (IntKind.u64.wrap (n2 * 131072))).toNat, congrArg (fun x => Ending.returned (Value.int .u64 x)) (by omega), by omega, hS3, (hB1.trans hB2).trans hB3⟩

set_option maxHeartbeats 1000000 in
theorem npow_any (n : Nat) (h0 : 0 < n) (h : n ≤ 1048576) (w : World) :
    Calls Try.prog 77 #[.int .i64 (n : Int)] w fun e w' => ∃ m : Nat, e = .returned (.int .u64 (m : Int)) ∧ n < m ∧ m ≤ 2 * n ∧ w = w' := by
  obtain ⟨h1, h2⟩ := len_room n h0
  obtain ⟨k, hk⟩ : ∃ k, bitsLen n = k := ⟨_, rfl⟩
  rw [hk] at h1 h2
  have hk2 : k ≤ 21 := by
    rcases Nat.lt_or_ge 21 k with h' | h'
    · have : 2 ^ 22 ≤ 2 ^ k := Nat.pow_le_pow_right (by decide) h'
      omega
    · exact h'
  have hl := len_any n (by omega) w
  rw [hk] at hl
  go_enter Try.func77, Try.ntmps77
  go_wp2_with fail
  refine hl.mono ?_
  rintro e w' ⟨rfl, rfl⟩
  go_wp2_with fail
  go_ret
  refine ⟨2 ^ k, congrArg (fun x => Ending.returned (Value.int .u64 x)) ?_, h1, h2, rfl⟩
  have e : ((2 ^ k : Nat) : Int) = (2 : Int) ^ k := by simp
  show IntKind.u64.wrap ((2 : Int) ^ k) = _
  rw [IntKind.wrap_u64, ← e]
  omega

end Go.Proofs.Ytjaogmbeoldefaa
