/-
  The chapter's examples, as each statement asks them. No condition.
-/
import Derived.Test.YtodejnligocadaaCPut
namespace Go.Proofs.Ytodejnligocadaa
open Go.RowKit

/-- The three configs of the examples, as they are laid. -/
def fixW (w : World) (x y : Int) : World := (((w.alloc (.cells #[.int .i64 0, .int .i64 2, .int .i64 2, .int .i64 1, .int .i64 0, .int .i64 1, .int .i64 1] 23)).alloc (.cells #[.int .i64 0, .int .i64 x, .int .i64 2, .int .i64 1, .int .i64 0, .int .i64 1, .int .i64 1] 23)).alloc (.cells #[.int .i64 0, .int .i64 y, .int .i64 2, .int .i64 1, .int .i64 0, .int .i64 1, .int .i64 1] 23)).drew
theorem fixW_facts (w : World) (x y : Int) : Seven w.heap.size (nf 0 2 2 1 0 1 1) (fixW w x y) ∧ Seven (w.heap.size + 1) (nf 0 x 2 1 0 1 1) (fixW w x y) ∧ Seven (w.heap.size + 1 + 1) (nf 0 y 2 1 0 1 1) (fixW w x y) ∧ Below w.heap.size w (fixW w x y) := by
  have q0 := Seven.new 0 2 2 1 0 1 1 w 23
  have b0 := (Below.refl w.heap.size w).alloc (Nat.le_refl _) (.cells #[.int .i64 0, .int .i64 2, .int .i64 2, .int .i64 1, .int .i64 0, .int .i64 1, .int .i64 1] 23)
  have s0 : (w.alloc (.cells #[.int .i64 0, .int .i64 2, .int .i64 2, .int .i64 1, .int .i64 0, .int .i64 1, .int .i64 1] 23)).heap.size = w.heap.size + 1 := by simp
  unfold fixW
  generalize w.alloc (.cells #[.int .i64 0, .int .i64 2, .int .i64 2, .int .i64 1, .int .i64 0, .int .i64 1, .int .i64 1] 23) = w0 at *
  have q1 := Seven.new 0 x 2 1 0 1 1 w0 23
  have b1 := (Below.refl w0.heap.size w0).alloc (Nat.le_refl _) (.cells #[.int .i64 0, .int .i64 x, .int .i64 2, .int .i64 1, .int .i64 0, .int .i64 1, .int .i64 1] 23)
  have s1 : (w0.alloc (.cells #[.int .i64 0, .int .i64 x, .int .i64 2, .int .i64 1, .int .i64 0, .int .i64 1, .int .i64 1] 23)).heap.size = w0.heap.size + 1 := by simp
  generalize w0.alloc (.cells #[.int .i64 0, .int .i64 x, .int .i64 2, .int .i64 1, .int .i64 0, .int .i64 1, .int .i64 1] 23) = w1 at *
  have q2 := Seven.new 0 y 2 1 0 1 1 w1 23
  have b2 := ((Below.refl w1.heap.size w1).alloc (Nat.le_refl _) (.cells #[.int .i64 0, .int .i64 y, .int .i64 2, .int .i64 1, .int .i64 0, .int .i64 1, .int .i64 1] 23))
  rw [s0] at q1
  rw [s1, s0] at q2
  have l0 : w.heap.size < w1.heap.size := by omega
  have l1 : w.heap.size + 1 < w1.heap.size := by omega
  have r0 := (q0.below b1 q0.1).below b2 l0
  have r1 := q1.below b2 l1
  refine ⟨r0, r1, q2, ?_⟩
  exact ((b0.trans (b1.mono (by omega))).trans (b2.mono (by omega))).drew

set_option maxHeartbeats 4000000 in
theorem fixed_any (w : World) : Calls Try.prog 7 #[] w fun e w' => e = .returned (.bool true) ∧ Below w.heap.size w w' := by
  have k1 := check_any 0 2 2 1 0 1 1
  have k2 := check_any 0 1 2 1 0 1 1
  have k3 := check_any 0 257 2 1 0 1 1
  rw [show chk 0 2 2 1 0 1 1 = 0 by decide] at k1
  rw [show chk 0 1 2 1 0 1 1 = 3 by decide] at k2
  rw [show chk 0 257 2 1 0 1 1 = 4 by decide] at k3
  have pp := fun w => cput_any none 0 0 [] rfl (by decide) (fun _ => rfl) 0 2 2 1 0 1 1 w (.inl rfl)
  have HL : Hid (([] ++ cbs 0 2 2 1 0 1 1).length = 14) := by
    show _ = _
    rw [List.nil_append, show cbs 0 2 2 1 0 1 1 = cb 0 2 2 1 0 1 1 from if_pos (by decide), cb_len]
  unfold cf at *
  go_enter Try.func7, Try.ntmps7
  go_wp2_with fail
  go_region
  · obtain ⟨q0, q1, q2, bb⟩ := fixW_facts w 1 257
    go_wp2_with fail
    change Calls Try.prog _ _ (fixW w 1 257) _
    generalize fixW w 1 257 = W at *
    obtain ⟨c00, c01, c02, c03, c04, c05, c06⟩ := q0.cells
    refine (k1 _).mono ?_
    rintro e w1 ⟨rfl, b1⟩
    replace q0 := q0.below b1 q0.1
    replace q1 := q1.below b1 q1.1
    replace q2 := q2.below b1 q2.1
    replace bb := bb.trans (b1.mono bb.size)
    clear b1 k1 c00 c01 c02 c03 c04 c05 c06
    obtain ⟨c00, c01, c02, c03, c04, c05, c06⟩ := q1.cells
    go_wp2_with fail
    refine (k2 _).mono ?_
    rintro e w2 ⟨rfl, b1⟩
    replace q0 := q0.below b1 q0.1
    replace q2 := q2.below b1 q2.1
    replace bb := bb.trans (b1.mono bb.size)
    clear b1 k2 q1 c00 c01 c02 c03 c04 c05 c06
    obtain ⟨c00, c01, c02, c03, c04, c05, c06⟩ := q2.cells
    go_wp2_with fail
    refine (k3 _).mono ?_
    rintro e w3 ⟨rfl, b1⟩
    replace q0 := q0.below b1 q0.1
    replace bb := bb.trans (b1.mono bb.size)
    clear b1 k3 q2 c00 c01 c02 c03 c04 c05 c06
    obtain ⟨c00, c01, c02, c03, c04, c05, c06⟩ := q0.cells
    go_wp2_with fail
    refine (pp _).mono ?_
    rintro e w4 ⟨v, rfl, ta, b1⟩
    have HB := Lib.hid (bb.trans (b1.mono bb.size))
    clear b1 bb q0 pp c00 c01 c02 c03 c04 c05 c06
    obtain ⟨a, cap, rfl, -, -⟩ := ta
    rw [HL.out]
    go_wp2_with fail
    go_ret
    exact ⟨rfl, HB.out⟩
  · obtain ⟨q0, q2, q1, bb⟩ := fixW_facts w 257 1
    go_wp2_with fail
    change Calls Try.prog _ _ (fixW w 257 1) _
    generalize fixW w 257 1 = W at *
    obtain ⟨c00, c01, c02, c03, c04, c05, c06⟩ := q0.cells
    refine (k1 _).mono ?_
    rintro e w1 ⟨rfl, b1⟩
    replace q0 := q0.below b1 q0.1
    replace q1 := q1.below b1 q1.1
    replace q2 := q2.below b1 q2.1
    replace bb := bb.trans (b1.mono bb.size)
    clear b1 k1 c00 c01 c02 c03 c04 c05 c06
    obtain ⟨c00, c01, c02, c03, c04, c05, c06⟩ := q1.cells
    go_wp2_with fail
    refine (k2 _).mono ?_
    rintro e w2 ⟨rfl, b1⟩
    replace q0 := q0.below b1 q0.1
    replace q2 := q2.below b1 q2.1
    replace bb := bb.trans (b1.mono bb.size)
    clear b1 k2 q1 c00 c01 c02 c03 c04 c05 c06
    obtain ⟨c00, c01, c02, c03, c04, c05, c06⟩ := q2.cells
    go_wp2_with fail
    refine (k3 _).mono ?_
    rintro e w3 ⟨rfl, b1⟩
    replace q0 := q0.below b1 q0.1
    replace bb := bb.trans (b1.mono bb.size)
    clear b1 k3 q2 c00 c01 c02 c03 c04 c05 c06
    obtain ⟨c00, c01, c02, c03, c04, c05, c06⟩ := q0.cells
    go_wp2_with fail
    refine (pp _).mono ?_
    rintro e w4 ⟨v, rfl, ta, b1⟩
    have HB := Lib.hid (bb.trans (b1.mono bb.size))
    clear b1 bb q0 pp c00 c01 c02 c03 c04 c05 c06
    obtain ⟨a, cap, rfl, -, -⟩ := ta
    rw [HL.out]
    go_wp2_with fail
    go_ret
    exact ⟨rfl, HB.out⟩
end Go.Proofs.Ytodejnligocadaa
