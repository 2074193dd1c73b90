/-
  StreamAlone's walk: for every a, b and order the law answers true and turns no memory that was there. Condition: the package's table of rounds reads as its text lays it.
-/
import Derived.Test.YtikdiaikggojjaaDoorStream
import Derived.Test.YtikdiaikggojjaaDoorListSrc
namespace Go.Proofs.YtikdiaikggojjaaDoor
open Go.RowKit

/-- These bools lie where a slice leads to. -/
def HoldsBools (w : World) (a : Option Addr) (n : Nat) : Prop := n = 0 ∨ ∃ g off, a = some ⟨g, off, none⟩ ∧ g < w.heap.size ∧ ∀ j, j < n → ∃ c, w.cell? ⟨g, off + j, none⟩ = some (.bool c)

set_option maxHeartbeats 400000 in
theorem alone_long (a b : Int) (o : Option Addr) (n cap : Nat) (h : 100 < n) (w : World) :
    Calls Tryd.prog 4 #[.int .u64 a, .int .u64 b, .slice o n cap] w fun e w' => e = .returned (.bool true) ∧ Below w.heap.size w w' := by
  go_enter Tryd.func4, Tryd.ntmps4
  go_wp2_with fail
  refine (fixed_any _).mono ?_
  rintro e w1 ⟨rfl, b1⟩
  go_wp2_with fail
  go_ret
  exact ⟨rfl, b1⟩

set_option maxHeartbeats 1000000 in
theorem alone_short (a b : Int) (o : Option Addr) (n cap : Nat) (h : n ≤ 100) (t : TypeId) (fr : Nat × Nat) (w : World) (hg : w.heap[0]? = some (.cells cs9 t fr)) (hr : HoldsBools w o n) :
    Calls Tryd.prog 4 #[.int .u64 a, .int .u64 b, .slice o n cap] w fun e w' => e = .returned (.bool true) ∧ Below w.heap.size w w' := by
  have h0 : 0 < w.heap.size := (Array.getElem?_eq_some_iff.1 hg).1
  have HG := Lib.hid hg; clear hg
  have hn : ¬ 100 < n := by omega
  go_enter Tryd.func4, Tryd.ntmps4
  go_wp2_with fail
  refine (new_any a _).mono ?_
  rintro e w1 ⟨rfl, rfl⟩
  go_wp2_with fail
  refine (new_any b _).mono ?_
  rintro e w2 ⟨rfl, e2⟩
  have s1 : StreamAt w.heap.size a 0 w2 := by rw [← e2]; exact (StreamAt.made w a).below ((Below.refl _ _).alloc (Nat.le_refl _) _)
  have s2 : StreamAt (w.heap.size + 1) b 0 w2 := by rw [← e2]; simpa using StreamAt.made (w.alloc (.cells #[.int .u64 a, .int .u64 0] 39)) b
  have b2 : Below w.heap.size w w2 := by rw [← e2]; exact ((Below.refl _ _).alloc (Nat.le_refl _) _).alloc (by simp) _
  clear e2
  go_wp2_with fail
  go_loopw [9, 10, 29] (fun v9 v10 v29 wr => ∃ (k i j : Nat), k ≤ n ∧ i ≤ k ∧ j ≤ k ∧ v29 = .int .i64 k ∧ v9 = .int .u64 i ∧ v10 = .int .u64 j ∧ Below w.heap.size w wr ∧ StreamAt w.heap.size a i wr ∧ StreamAt (w.heap.size + 1) b j wr) (fun _ _ v29 _ => n - (intOf v29).toNat)
  case atStart => exact ⟨0, 0, 0, by omega, by omega, by omega, rfl, rfl, rfl, b2, s1, s2⟩
  case round =>
    clear s1 s2 b2
    obtain ⟨k, i, j, hk, hi, hj, rfl, rfl, rfl, hB, s1, s2⟩ := hrel
    have l1 := s1.lt
    have l2 := s2.lt
    by_cases hlt : k < n
    · obtain ⟨g, off, rfl, hgl, hrow⟩ : ∃ g off, o = some ⟨g, off, none⟩ ∧ g < w.heap.size ∧ ∀ j, j < n → ∃ c, w.cell? ⟨g, off + j, none⟩ = some (.bool c) := by
        rcases hr with rfl | h'
        · omega
        · exact h'
      obtain ⟨c, hc0⟩ := hrow k hlt
      have hc : wr.cell? ⟨g, off + k, none⟩ = some (.bool c) := (hB.cell (by exact hgl)).trans hc0
      clear hr hrow hc0
      cases c
      · go_wp2_with fail
        refine (next_any _ b j t fr _ (laid_below HG.out h0 hB) (by omega) s2).mono ?_
        rintro e w3 ⟨rfl, s3, hB3⟩
        have s4 := s1.but (by omega) hB3
        have b3 := hB.trans (hB3.below (by omega) (by omega))
        clear hB hB3 s1 s2 hc
        go_wp2_with fail
        refine (at_any b j t fr _ (laid_below HG.out h0 b3)).mono ?_
        rintro e w4 ⟨rfl, b4'⟩
        have s5 := s3.below b4'
        have s6 := s4.below b4'
        have b4 := b3.trans (b4'.mono b3.size)
        clear b4' b3 s3 s4
        go_wp2_with fail
        go_roundw
        case rel => exact ⟨k + 1, i, j + 1, by omega, by omega, by omega, by go_num, rfl, by go_num, b4, s6, s5⟩
        case measure => simp [intOf]; omega
      · go_wp2_with fail
        refine (next_any _ a i t fr _ (laid_below HG.out h0 hB) (by omega) s1).mono ?_
        rintro e w3 ⟨rfl, s3, hB3⟩
        have s4 := s2.but (by omega) hB3
        have b3 := hB.trans (hB3.below (by omega) (by omega))
        clear hB hB3 s1 s2 hc
        go_wp2_with fail
        refine (at_any a i t fr _ (laid_below HG.out h0 b3)).mono ?_
        rintro e w4 ⟨rfl, b4'⟩
        have s5 := s3.below b4'
        have s6 := s4.below b4'
        have b4 := b3.trans (b4'.mono b3.size)
        clear b4' b3 s3 s4
        go_wp2_with fail
        go_roundw
        case rel => exact ⟨k + 1, i + 1, j, by omega, by omega, by omega, by go_num, by go_num, rfl, b4, s5, s6⟩
        case measure => simp [intOf]; omega
    · go_wp2_with fail
      refine (fixed_any _).mono ?_
      rintro e w3 ⟨rfl, b3⟩
      have s3 := s1.below b3
      have s4 := s2.below b3
      have b4 := hB.trans (b3.mono hB.size)
      clear b3 hB s1 s2
      go_wp2_with fail
      refine (taken_any _ _ _ _ s3).mono ?_
      rintro e w4 ⟨rfl, rfl⟩
      go_wp2_with fail
      refine (taken_any _ _ _ _ s4).mono ?_
      rintro e w4 ⟨rfl, rfl⟩
      go_wp2_with fail
      go_ret
      exact ⟨rfl, b4⟩
end Go.Proofs.YtikdiaikggojjaaDoor
