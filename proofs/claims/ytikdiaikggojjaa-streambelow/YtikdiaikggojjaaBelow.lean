/-
  StreamBelow's walk: for every list of numbers and of bounds the law answers true and turns no memory that was there. Conditions: the numbers are at least 0 and below 2^64.
-/
import Derived.Test.YtikdiaikggojjaaRefBelow
namespace Go.Proofs.Ytikdiaikggojjaa
open Go.RowKit

set_option maxHeartbeats 400000 in
theorem sbelow_long (a a2 : Option Addr) (len cap m cap2 : Nat) (h : 200 < len ∨ 50 < m) (w : World) :
    Calls Try.prog 3 #[.slice a len cap, .slice a2 m cap2] w fun e w' => e = .returned (.bool true) ∧ Below w.heap.size w w' := by
  by_cases h1 : 200 < len
  · go_enter Try.func3, Try.ntmps3
    go_wp2_with fail
    refine (fixed_any _).mono ?_
    rintro e w1 ⟨rfl, b1⟩
    go_wp2_with fail
    go_ret
    exact ⟨rfl, b1⟩
  · have h2 : 50 < m := by omega
    go_enter Try.func3, Try.ntmps3
    go_wp2_with fail
    refine (fixed_any _).mono ?_
    rintro e w1 ⟨rfl, b1⟩
    go_wp2_with fail
    go_ret
    exact ⟨rfl, b1⟩

set_option maxHeartbeats 1000000 in
theorem sbelow_short (a a2 : Option Addr) (cap cap2 : Nat) (l zs : List Int) (hl : All64 l) (hz : All64 zs) (h1 : l.length ≤ 200) (h2 : zs.length ≤ 50) (w : World) (hr : HoldsRow w a l) (hr2 : HoldsRow w a2 zs) :
    Calls Try.prog 3 #[.slice a l.length cap, .slice a2 zs.length cap2] w fun e w' => e = .returned (.bool true) ∧ Below w.heap.size w w' := by
  have g1 : ¬ 200 < l.length := by omega
  have g2 : ¬ 50 < zs.length := by omega
  go_enter Try.func3, Try.ntmps3
  go_wp2_with fail
  go_loopw [6, 28] (fun s i wr => ∃ (k t : Nat), k ≤ zs.length ∧ t ≤ 64 * k ∧ i = .int .i64 k ∧ s = .int .i64 t ∧ Below w.heap.size w wr ∧ ListAt w.heap.size a cap l t wr) (fun _ i _ => zs.length - (intOf i).toNat)
  case atStart => exact ⟨0, 0, by omega, by omega, rfl, rfl, (Below.refl _ w).alloc (Nat.le_refl _) _, ListAt.made w a cap l hr⟩
  case round =>
    obtain ⟨k, t, hk, ht, rfl, rfl, hB, hL⟩ := hrel
    by_cases hlt : k < zs.length
    · obtain ⟨g, off, rfl, hg, hrow⟩ : ∃ g off, a2 = some ⟨g, off, none⟩ ∧ g < w.heap.size ∧ Row w g off zs := by
        rcases hr2 with rfl | h'
        · simp at hlt
        · exact h'
      have hx := hz.nums k
      obtain ⟨n, HN⟩ : ∃ n, Hid (nums zs k = n) := ⟨_, rfl⟩
      rw [HN.out] at hx
      have hc : wr.cell? ⟨g, off + k, none⟩ = some (.int .u64 n) := by rw [← HN.out]; exact (hB.cell (by exact hg)).trans (hrow _ hlt)
      have hdl := draw_le (nums l) n t
      obtain ⟨y, t', e', HD⟩ : ∃ y t' e', Hid (draw (nums l) n t = (y, t', e')) := ⟨_, _, _, rfl⟩
      rw [HD.out] at hdl
      simp only at hdl
      clear hr2 hrow
      go_wp2_with fail
      refine (below_list _ _ _ _ hl n hx.1 hx.2 t _ (by omega) hL y t' e' HD.out).mono ?_
      rintro e w1 ⟨rfl, l1, hB1⟩
      have b1 := hB.trans (hB1.below (Nat.le_refl _) (by have := hL.lt; omega))
      have hr1 := hr.below b1
      clear hB hB1 hL hc
      go_wp2_with fail
      refine (refBelow_any a cap l hl (by omega) t (by omega) n hx.1 hx.2 w1 hr1).mono ?_
      rintro e w2 ⟨⟨m, hm, rfl⟩, rfl⟩
      rw [HD.out] at hm ⊢
      simp only at hm ⊢
      subst hm
      have c1 := l1.c1
      have HL := Lib.hid l1
      clear l1 hr1
      go_wp2_with fail
      exact ⟨⟨k + 1, t + m, by omega, by omega, by go_num, by go_num, b1, HL.out⟩, by simp [intOf]; omega⟩
    · go_wp2_with fail
      refine (fixed_any _).mono ?_
      rintro e w1 ⟨rfl, b1⟩
      have b2 := hB.trans (b1.mono hB.size)
      go_wp2_with fail
      go_ret
      exact ⟨rfl, b2⟩
end Go.Proofs.Ytikdiaikggojjaa
