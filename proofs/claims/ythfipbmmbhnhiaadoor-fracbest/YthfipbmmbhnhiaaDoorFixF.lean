/-
  The chapter's examples; FracTexts' walk. Condition: each number is of 64 bits, with a sign; the library's table of powers of ten reads as its own text lays it.
-/
import Derived.Test.YthfipbmmbhnhiaaDoorText
namespace Go.Proofs.YthfipbmmbhnhiaaDoor
open Go.RowKit

theorem fix_txt : txt (-1) 4 = ⟨#[45, 49, 47, 52]⟩ := by
  have e1 : dec (-1) = ⟨#[45, 49]⟩ := by
    unfold dec Lib.itoa
    rw [if_pos (by omega), show ((-1 : Int)).natAbs = 1 from rfl, Lib.decDigits_one (by omega)]
    rfl
  have e2 : dec 4 = ⟨#[52]⟩ := by
    unfold dec Lib.itoa
    rw [if_neg (by omega), show ((4 : Int)).toNat = 4 from rfl, Lib.decDigits_one (by omega)]
    rfl
  unfold txt
  rw [if_neg (by omega), e1, e2]
  rfl

set_option maxHeartbeats 1000000 in
theorem fixed_any (w : World) (ht : Tab w) : Calls Tryd.prog 8 #[] w fun e w' => e = .returned (.bool true) ∧ Below w.heap.size w w' := by
  have f1 : cmpF 1 3 18446744073709551616 3 = -1 := by decide
  have f2 : cmpF 1 3 2 6 = 0 := by decide
  have f3 := fix_txt
  have W0 : Word 0 := by unfold Word; omega
  have W1 : Word 1 := by unfold Word; omega
  have W2 : Word 2 := by unfold Word; omega
  have W3 : Word 3 := by unfold Word; omega
  have W6 : Word 6 := by unfold Word; omega
  have X1 : Whole (-1) := by unfold Whole; omega
  have X2 : Whole 4 := by unfold Whole; omega
  go_enter Tryd.func8, Tryd.ntmps8
  go_wp2_with fail
  refine (of_any _ _ _).mono ?_
  rintro e w1 ⟨rfl, b1⟩
  go_wp2_with fail
  refine (fCmp_any _ _ _ _ _ _ (by assumption) (by assumption) (by assumption) (by assumption) (by assumption) (by assumption) _).mono ?_
  rintro e w2 ⟨rfl, c2⟩
  have b2 := onto b1 c2
  clear c2 b1
  go_wp2_with fail
  refine (of_any _ _ _).mono ?_
  rintro e w3 ⟨rfl, c3⟩
  have b3 := onto b2 c3
  clear c3 b2
  go_wp2_with fail
  refine (of_any _ _ _).mono ?_
  rintro e w4 ⟨rfl, c4⟩
  have b4 := onto b3 c4
  clear c4 b3
  go_wp2_with fail
  refine (fCmp_any _ _ _ _ _ _ (by assumption) (by assumption) (by assumption) (by assumption) (by assumption) (by assumption) _).mono ?_
  rintro e w5 ⟨rfl, c5⟩
  have b5 := onto b4 c5
  clear c5 b4
  go_wp2_with fail
  refine (text_any _ _ X1 X2 _ (ht.below b5)).mono ?_
  rintro e w6 ⟨rfl, c6⟩
  have b6 := onto b5 c6
  clear c6 b5
  rw [f3]
  go_wp2_with fail
  go_ret
  exact ⟨rfl, b6⟩

set_option maxHeartbeats 1000000 in
theorem texts_any (n d : Int) (hn : Whole n) (hd : Whole d) (w : World) (ht : Tab w) :
    Calls Tryd.prog 7 #[sg n d] w fun e w' => e = .returned (.bool true) ∧ Below w.heap.size w w' := by
  have p0 := AtS.new w n d
  have p2 := alloc_below w (.cells #[.int .i64 n, .int .i64 d] 28)
  have p1 := ht.below p2
  go_enter Tryd.func7, Tryd.ntmps7
  go_wp2_with fail
  generalize w.alloc (.cells #[.int .i64 n, .int .i64 d] 28) = W at *
  have q0 := p0.below (Below.refl _ W).drew
  have q1 := p1.below (Below.refl _ W).drew
  have q2 := onto p2 (Below.refl _ W).drew
  go_region_held3 (fun w' => (w'.cell? ⟨w.heap.size, 0, none⟩ = some (.int .i64 n) ∧ w'.cell? ⟨w.heap.size, 1, none⟩ = some (.int .i64 d))) (first | exact ⟨q0.c0, q0.c1⟩ | exact ⟨p0.c0, p0.c1⟩)
    (first
      | (go_at_call 8; refine (fixed_any _ q1).mono ?_; rintro x w' ⟨rfl, c⟩; replace q0 := q0.below c; replace q1 := q1.below c; replace q2 := onto q2 c; clear c)
      | (go_at_call 17; refine (text_any _ _ hn hd _ q1).mono ?_; rintro x w' ⟨rfl, c⟩; replace q0 := q0.below c; replace q1 := q1.below c; replace q2 := onto q2 c; clear c)
      | (go_at_call 18; refine (refText_any _ _ hn hd _).mono ?_; rintro x w' ⟨rfl, c⟩; replace q0 := q0.below c; replace q1 := q1.below c; replace q2 := onto q2 c; clear c))
  go_wp2_with fail
  go_ret
  exact ⟨rfl, q2⟩
end Go.Proofs.YthfipbmmbhnhiaaDoor
