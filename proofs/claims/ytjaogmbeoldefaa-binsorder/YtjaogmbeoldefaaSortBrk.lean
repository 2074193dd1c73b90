/-
  THE LIBRARY's SORT AT NUMBERS OF 64 BITS: breakPatterns leaves a permutation of the range. Condition: at most 2^20 numbers.
-/
import Derived.Test.YtjaogmbeoldefaaSortBreak
import Derived.Laws.BitsAllLaws
namespace Go.Proofs.Ytjaogmbeoldefaa
open Go.RowKit Go.Sort

theorem But.over {g c : Nat} {w w1 w2 : World} (h : But g w w1) (k : But c w1 w2) (hc : w.heap.size ≤ c) : But g w w2 :=
  ⟨k.os.trans h.os, k.tape.trans h.tape, k.output.trans h.output, Nat.le_trans h.size k.size, fun i hi hn => (k.block i (Nat.lt_of_lt_of_le hi h.size) (by omega)).trans (h.block i hi hn)⟩
theorem Seed.but {c g : Nat} {w w' : World} (h : Seed c w) (hb : But g w w') (hn : c ≠ g) : Seed c w' := by
  obtain ⟨n, hc, hr⟩ := h.cell
  exact ⟨Nat.lt_of_lt_of_le h.lt hb.size, ⟨n, (hb.cell (by exact h.lt) (by exact hn)).trans hc, hr⟩, (hb.frozen (by exact h.lt) (by exact hn)).trans h.frozen⟩
theorem Seed.made (w : World) (n : Int) (h : 0 ≤ n ∧ n < 18446744073709551616) : Seed w.heap.size (w.alloc (.cells #[.int .u64 n] 109)) := by
  have hh : (w.alloc (.cells #[.int .u64 n] 109)).heap[w.heap.size]? = some (.cells #[.int .u64 n] 109) := by rw [World.alloc]; simp
  refine ⟨by simp, ⟨n, ?_, h⟩, ?_⟩
  · unfold World.cell?
    simp only [hh]
    simp
  · unfold World.frozen?
    simp only [hh]
    simp

set_option maxHeartbeats 4000000 in
theorem break_any (g off cap a b : Nat) (d : Array Int) (hab : a + 8 ≤ b) (hb : b ≤ d.size) (hsz : d.size ≤ 1048576) (w : World) (hA : Arr g off d w) :
    Calls Try.prog 65 #[.slice (some ⟨g, off, none⟩) d.size cap, .int .i64 (a : Int), .int .i64 (b : Int)] w fun e w' =>
      ∃ d', e = .returned (.tuple #[]) ∧ PermIn a b d d' ∧ Arr g off d' w' ∧ But g w w' := by
  obtain ⟨l, HL⟩ : ∃ l, Hid (b = a + l) := ⟨b - a, by show _ = _; omega⟩
  obtain ⟨q, HQ⟩ : ∃ q, Hid (q = l / 4) := ⟨_, rfl⟩
  have hba : (b : Int) - (a : Int) = (l : Int) := by have := HL.out; omega
  have hq : (l : Int) / 4 = (q : Int) := by have := HQ.out; omega
  have hl8 : 8 ≤ l := by have := HL.out; omega
  have hlb : a + l ≤ d.size := by have := HL.out; omega
  have hq2 : 2 ≤ q := by have := HQ.out; omega
  have hqb : 4 * q ≤ l := by have := HQ.out; omega
  have hgc : g ≠ w.heap.size := by have := hA.lt; omega
  have hs1 := Seed.made w (l : Int) (by omega)
  have hB0 := (Go.RowKit.Below.refl w.heap.size w).alloc (Nat.le_refl _) (.cells #[.int .u64 (l : Int)] 109)
  have HA := Lib.hid (hA.below hB0 hA.lt)
  have HS := Lib.hid hs1
  have HB := Lib.hid (But.of_below (b := g) hB0)
  clear hA hs1 hB0
  go_enter Try.func65, Try.ntmps65
  go_wp2_with fail
  refine (npow_any l (by omega) (by omega) _).mono ?_
  rintro e w1 ⟨m, rfl, hm1, hm2, rfl⟩
  go_wp2_with fail
  go_loopw [9] (fun v wr => ∃ (j : Nat) (dk : Array Int), v = .int .i64 (j : Int) ∧ a + q * 2 ≤ j + 1 ∧ j ≤ a + q * 2 + 2 ∧ dk.size = d.size ∧ PermIn a b d dk ∧ Arr g off dk wr ∧ Seed w.heap.size wr ∧ But g w wr) (fun v _ => a + q * 2 + 2 - (intOf v).toNat)
  case atStart => exact ⟨a + q * 2 - 1, d, by congr 1; omega, by omega, by omega, rfl, permIn_refl _ _ _, HA.out, HS.out, HB.out⟩
  case round =>
    obtain ⟨j, dk, rfl, hj1, hj2, hdk, hP, hAk, hSk, hBk⟩ := hrel
    clear HA HS HB
    have HP := Lib.hid hP
    clear hP
    by_cases h3 : j < a + q * 2 + 2
    · go_wp2_with fail
      refine (next_any w.heap.size wr hSk).mono ?_
      rintro e w2 ⟨y, rfl, hy, hS2, hB2⟩
      obtain ⟨o, ho, hom⟩ : ∃ o : Nat, bits .and .u64 (y : Int) ((m : Int) - 1) = (o : Int) ∧ o < m := by
        have e := u64_and_nat y (m - 1) hy (by omega)
        rw [show ((m - 1 : Nat) : Int) = (m : Int) - 1 by omega] at e
        exact ⟨_, e, by have := Nat.and_le_right (n := y) (m := m - 1); omega⟩
      have hA2 := hAk.but hB2 hgc
      obtain ⟨hc, hf⟩ := hA2.cells hdk
      have HA := Lib.hid hA2
      have HS := Lib.hid hS2
      have HB := Lib.hid (hBk.over hB2 (Nat.le_refl _))
      have cv : ∀ o, o < l → ∃ v, (w2.setCell ⟨g, off + j, none⟩ (.int .u64 (el dk (a + o)))).cell? ⟨g, off + (a + o), none⟩ = some v := fun o ho => ⟨_, (HA.out.set j (el dk (a + o)) (by omega)).cell (a + o) (by simp; omega)⟩
      clear hAk hSk hBk hS2 hB2 hA2 hy
      by_cases hol : l ≤ o
      · obtain ⟨v, cv⟩ := cv (o - l) (by omega)
        go_wp2_with fail
        go_region
        all_goals go_wp2_with fail
        go_roundw
        case rel =>
          have hb1 : But g w2 _ := (But.refl g w2).drew.trans (But.swap g (off + j) (off + (a + (o - l))) _ (.int .u64 (el dk (a + (o - l)))) (.int .u64 (el dk j)))
          refine ⟨j + 1, swp dk j (a + (o - l)), by go_num, by omega, by omega, by rw [size_swp]; exact hdk, ?_, HA.out.drew.swap j (a + (o - l)) (by omega) (by omega), HS.out.but hb1 (Ne.symm hgc), HB.out.trans hb1⟩
          exact permIn_trans _ _ _ a b HP.out (swp_permIn dk a b j (a + (o - l)) (by have := HL.out; omega) (by have := HL.out; omega) (by have := HL.out; omega) (by have := HL.out; omega) (by have := HL.out; omega))
        case measure => simp [intOf]; omega
      · obtain ⟨v, cv⟩ := cv o (by omega)
        go_wp2_with fail
        go_region
        all_goals go_wp2_with fail
        go_roundw
        case rel =>
          have hb1 : But g w2 _ := (But.refl g w2).drew.trans (But.swap g (off + j) (off + (a + (o))) _ (.int .u64 (el dk (a + (o)))) (.int .u64 (el dk j)))
          refine ⟨j + 1, swp dk j (a + (o)), by go_num, by omega, by omega, by rw [size_swp]; exact hdk, ?_, HA.out.drew.swap j (a + (o)) (by omega) (by omega), HS.out.but hb1 (Ne.symm hgc), HB.out.trans hb1⟩
          exact permIn_trans _ _ _ a b HP.out (swp_permIn dk a b j (a + (o)) (by have := HL.out; omega) (by have := HL.out; omega) (by have := HL.out; omega) (by have := HL.out; omega) (by have := HL.out; omega))
        case measure => simp [intOf]; omega
    · go_wp2_with fail
      go_end0
      exact ⟨dk, rfl, HP.out, hAk, hBk⟩

end Go.Proofs.Ytjaogmbeoldefaa
