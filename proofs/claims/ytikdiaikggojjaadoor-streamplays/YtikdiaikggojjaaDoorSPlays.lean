/-
  StreamPlays's walk: for every four numbers, i and n the law answers true and turns no memory that was there. Conditions: the package's table of rounds reads as its text lays it; n is at least 0 and below 256.
-/
import Derived.Test.YtikdiaikggojjaaDoorRefStream
import Derived.Test.YtikdiaikggojjaaDoorListSrc
namespace Go.Proofs.YtikdiaikggojjaaDoor
open Go.RowKit

set_option maxHeartbeats 1000000 in
theorem splays_any (a b c d i n : Int) (hn0 : 0 ≤ n) (hn1 : n < 256) (t : TypeId) (fr : Nat × Nat) (w : World) (hg : w.heap[0]? = some (.cells cs9 t fr)) :
    Calls Tryd.prog 3 #[.agg #[.int .u64 a, .int .u64 b, .int .u64 c, .int .u64 d], .int .u64 i, .int .u8 n] w fun e w' => e = .returned (.bool true) ∧ Below w.heap.size w w' := by
  have h0 : 0 < w.heap.size := (Array.getElem?_eq_some_iff.1 hg).1
  have HG := Lib.hid hg; clear hg
  go_enter Tryd.func3, Tryd.ntmps3
  go_wp2_with fail
  have b0 := (Below.refl w.heap.size w).alloc (Nat.le_refl _) (.cells #[.int .u64 a, .int .u64 b, .int .u64 c, .int .u64 d] 23)
  refine (key_any _ _ _ _ t fr _ (laid_below HG.out h0 b0)).mono ?_
  rintro e w1 ⟨rfl, b1'⟩
  have e0 : w1.cell? ⟨w.heap.size, 0, none⟩ = some (.int .u64 a) := (b1'.cell (by simp)).trans (by simp)
  have e1 : w1.cell? ⟨w.heap.size, 1, none⟩ = some (.int .u64 b) := (b1'.cell (by simp)).trans (by simp)
  have e2 : w1.cell? ⟨w.heap.size, 2, none⟩ = some (.int .u64 c) := (b1'.cell (by simp)).trans (by simp)
  have e3 : w1.cell? ⟨w.heap.size, 3, none⟩ = some (.int .u64 d) := (b1'.cell (by simp)).trans (by simp)
  have b1 := b0.trans (b1'.mono b0.size)
  clear b1' b0
  obtain ⟨k, HK⟩ : ∃ k, Hid (foldI [a, b, c, d] = k) := ⟨_, rfl⟩
  rw [HK.out]
  go_wp2_with fail
  refine (refKey_any _ _ _ _ _).mono ?_
  rintro e w2 ⟨rfl, b2'⟩
  rw [HK.out]
  have b2 := b1.trans (b2'.mono b1.size)
  clear b2' b1 e0 e1 e2 e3
  go_wp2_with fail
  refine (at_any _ _ t fr _ (laid_below HG.out h0 b2)).mono ?_
  rintro e w3 ⟨rfl, b3'⟩
  have b3 := b2.trans (b3'.mono b2.size)
  clear b3' b2
  go_wp2_with fail
  refine (refAt_any _ _ _).mono ?_
  rintro e w4 ⟨rfl, rfl⟩
  go_wp2_with fail
  refine (new_any k _).mono ?_
  rintro e w4 ⟨rfl, e4⟩
  have s4 : StreamAt w3.heap.size k 0 w4 := by rw [← e4]; exact StreamAt.made w3 k
  have b4 : Below w.heap.size w w4 := by rw [← e4]; exact b3.alloc b3.size _
  have g3 := b3.size
  have g4 : w4.heap.size = w3.heap.size + 1 := by rw [← e4]; simp
  clear e4 b3
  obtain ⟨m, hm, hmm⟩ : ∃ m : Nat, m < 60 ∧ n % 60 = m := ⟨(n % 60).toNat, by omega, by omega⟩
  go_wp2_with fail
  refine (refRow_any k m (by omega) _).mono ?_
  rintro e w5 ⟨⟨A, cp, rfl, o5⟩, b5'⟩
  have r5 : Apart w5 w3.heap.size A (rowI k m) := by
    obtain ⟨a', c', ev, hr⟩ := o5.slice
    obtain ⟨rfl, _, _⟩ := Value.slice.inj ev
    rcases hr with hr | ⟨g, off, ha, hlt, hB, hr⟩
    · exact .inl hr
    · exact .inr ⟨g, off, ha, hlt, by omega, hr⟩
  have s5 := s4.below b5'
  have b5 := b4.trans (b5'.mono b4.size)
  clear b5' b4 s4 o5
  go_wp2_with fail
  go_loopw [50] (fun v wr => ∃ j : Nat, j ≤ m ∧ v = .int .i64 j ∧ Below w.heap.size w wr ∧ StreamAt w3.heap.size k j wr ∧ Apart wr w3.heap.size A (rowI k m)) (fun v _ => m - (intOf v).toNat)
  case atStart => exact ⟨0, by omega, rfl, b5, s5, r5⟩
  case round =>
    clear b5 s5 r5
    obtain ⟨j, hj, rfl, hB, hS, hR⟩ := hrel
    have hl := hS.lt
    by_cases hlt : j < m
    · obtain ⟨g, off, rfl, hgl, hgn, hrow⟩ : ∃ g off, A = some ⟨g, off, none⟩ ∧ g < wr.heap.size ∧ g ≠ w3.heap.size ∧ Row wr g off (rowI k m) := by
        rcases hR with h' | h'
        · have := rowI_length k m; rw [h'] at this; simp at this; omega
        · exact h'
      have hc : wr.cell? ⟨g, off + j, none⟩ = some (.int .u64 (atI k j)) := by rw [← rowI_at k m j hlt]; exact hrow j (by rw [rowI_length]; exact hlt)
      have hu : IntKind.u64.wrap (j : Int) = (j : Int) := by rw [IntKind.wrap_u64]; omega
      have HR := Lib.hid hR
      clear hrow hR
      go_wp2_with fail
      refine (taken_any _ _ _ _ hS).mono ?_
      rintro e w6 ⟨rfl, rfl⟩
      go_wp2_with fail
      refine (next_any _ k j t fr _ (laid_below HG.out h0 hB) (by omega) hS).mono ?_
      rintro e w6 ⟨rfl, s6, hB6⟩
      have r6 := HR.out.but hB6
      have b6 := hB.trans (hB6.below g3 (by omega))
      clear hB hB6 hS HR hc
      go_wp2_with fail
      go_roundw
      case rel => exact ⟨j + 1, by omega, by go_num, b6, s6, r6⟩
      case measure => simp [intOf]; omega
    · have hjm : j = m := by omega
      subst hjm
      have hu : IntKind.u64.wrap (j : Int) = (j : Int) := by rw [IntKind.wrap_u64]; omega
      go_wp2_with fail
      refine (fixed_any _).mono ?_
      rintro e w6 ⟨rfl, b6'⟩
      have s6 := hS.below b6'
      have b6 := hB.trans (b6'.mono hB.size)
      clear b6' hB hS hR
      go_wp2_with fail
      refine (taken_any _ _ _ _ s6).mono ?_
      rintro e w7 ⟨rfl, rfl⟩
      go_wp2_with fail
      go_ret
      exact ⟨rfl, b6⟩
end Go.Proofs.YtikdiaikggojjaaDoor
