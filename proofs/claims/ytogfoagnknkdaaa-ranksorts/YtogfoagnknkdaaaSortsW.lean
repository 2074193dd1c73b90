/-
  THE WALK OF RankSorts: it returns true; nothing that was there turns. Condition: the numbers are of 64 bits each.
-/
import Derived.Test.YtogfoagnknkdaaaRefSort
namespace Go.Proofs.Ytogfoagnknkdaaa
open Go.RowKit

theorem sorts_great (a : Option Addr) (n cap : Nat) (hg : 100 < n) (w : World) :
    Calls Try.prog 6 #[.slice a n cap] w fun e w' => e = .returned (.bool true) ∧ Go.RowKit.Below w.heap.size w w' := by
  go_enter Try.func6, Try.ntmps6
  go_wp2_with (go_at_call 12; refine (fixed_any _).mono ?_; rintro e w' ⟨rfl, rfl⟩)
  go_ret
  exact ⟨rfl, Go.RowKit.Below.refl _ _⟩

set_option maxHeartbeats 1000000 in
theorem sorts_any (a : Option Addr) (n cap : Nat) (l : List Int) (hn : l.length = n) (hb : n ≤ 100) (h64 : ∀ z ∈ l, 0 ≤ z ∧ z < 18446744073709551616) (w : World) (hr : HoldsE KU w a l) :
    Calls Try.prog 6 #[.slice a n cap] w fun e w' => e = .returned (.bool true) ∧ Go.RowKit.Below w.heap.size w w' := by
  have hB64 := bits64_of h64
  have hbl : (bitsOf l).length = n := by rw [bitsOf_len]; exact hn
  have hil : (inOrder (bitsOf l)).length = n := by rw [inOrder_len]; exact hbl
  have HN := Lib.hid (And.intro hn (And.intro hbl hil))
  clear hn hbl hil
  go_enter Try.func6, Try.ntmps6
  go_wp2_with fail
  refine (refOf_any a cap n l HN.out.1 hb w hr).mono ?_
  rintro e w1 ⟨⟨g1, c1, rfl, hg1, hL1⟩, hB1⟩
  go_wp2_with fail
  refine (rankSort_any (some ⟨g1, 0, none⟩) c1 n (bitsOf l) HN.out.2.1 (by omega) hB64 w1 hL1.holds).mono ?_
  rintro e w2 ⟨⟨g2, rfl, hg2, hL2⟩, hB2⟩
  have b2 := hB1.trans (hB2.mono hB1.size)
  have hL1' := hL1.below hB2 hL1.lt
  go_wp2_with fail
  refine (fixed_any _).mono ?_
  rintro e w2' ⟨rfl, rfl⟩
  go_wp2_with fail
  refine (refSort_any (some ⟨g1, 0, none⟩) n c1 (bitsOf l) HN.out.2.1 hb hB64 w2 hL1'.holds).mono ?_
  rintro e w3 ⟨⟨g3, c3, rfl, hL3⟩, hB3⟩
  have b3 := b2.trans (hB3.mono b2.size)
  have hL1'' := hL1'.below hB3 hL1'.lt
  have hL2' := hL2.below hB3 hL2.lt
  go_wp2_with fail
  refine (refSame_any (some ⟨g2, 0, none⟩) (some ⟨g3, 0, none⟩) n c3 n n (inOrder (bitsOf l)) (inOrder (bitsOf l)) HN.out.2.2 HN.out.2.2 hb hb w3 hL2'.holds hL3.holds).mono ?_
  rintro e w4 ⟨rfl, hB4⟩
  have b4 := b3.trans (hB4.mono b3.size)
  have hL1''' := hL1''.below hB4 hL1''.lt
  go_wp2_with fail
  refine (refOf_any a cap n l HN.out.1 hb w4 (hr.below b4)).mono ?_
  rintro e w5 ⟨⟨g5, c5, rfl, hg5, hL5⟩, hB5⟩
  have b5 := b4.trans (hB5.mono b4.size)
  have hL1q := hL1'''.below hB5 hL1'''.lt
  go_wp2_with fail
  refine (refSame_any (some ⟨g1, 0, none⟩) (some ⟨g5, 0, none⟩) c1 c5 n n (bitsOf l) (bitsOf l) HN.out.2.1 HN.out.2.1 hb hb w5 hL1q.holds hL5.holds).mono ?_
  rintro e w6 ⟨rfl, hB6⟩
  have b6 := b5.trans (hB6.mono b5.size)
  go_wp2_with fail
  go_ret
  exact ⟨rfl, b6⟩

end Go.Proofs.Ytogfoagnknkdaaa
