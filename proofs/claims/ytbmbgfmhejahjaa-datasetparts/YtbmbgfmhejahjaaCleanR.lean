/-
  rank.Missing and rank.Clean, and the document's: floats by their bits. Condition: the bits are 64.
-/
import Derived.Test.YtbmbgfmhejahjaaFloNum
import Derived.Test.YtbmbgfmhejahjaaReader
import Derived.Laws.Externs
import Derived.Laws.BitsAllLaws
import Derived.BigQuiet
namespace Go.Proofs.Ytbmbgfmhejahjaa
open Go.RowKit

theorem low63 (b : Nat) (h : b < 18446744073709551616) : bits .andNot .u64 (b : Int) 9223372036854775808 = ((b % 9223372036854775808 : Nat) : Int) := by
  have e := u64_andNot_nat b 9223372036854775808 h (by decide)
  have : b &&& (18446744073709551615 - 9223372036854775808) = b % 9223372036854775808 := Nat.and_two_pow_sub_one_eq_mod b 63
  rw [this] at e
  exact e

theorem frombI (n : Int) (w : World) : (callFunc 34 #[.int .u64 n]).run Try.prog w = .ok (.value (.float .f64 n.toNat)) w := by
  rw [run_callFunc_extern Try.func34 (by kernel_rfl) (by kernel_rfl) (by kernel_rfl) (e := Extern.MathFloatBits.float64frombits) (by kernel_rfl)]
  rfl
theorem missing_any (b : Nat) (h : b < 18446744073709551616) (w : World) :
    Calls Try.prog 74 #[.float .f64 b] w fun e w' => e = .returned (.bool (decide (mis b))) ∧ w = w' := by
  have e := low63 b h
  have HM : Hid (decide (9218868437227405312 < (b : Int) % 9223372036854775808) = decide (mis b)) := by
    show _ = _; unfold mis; exact decide_eq_decide.2 (by omega)
  go_enter Try.func74, Try.ntmps74
  go_wp2_with (simp only [tob])
  go_ret
  exact ⟨congrArg (fun x => Ending.returned (Value.bool x)) HM.out, rfl⟩

theorem mis_zero : ¬ mis 0 := by decide
theorem key_zero : key 0 = 9223372036854775808 := by decide
theorem key_is {b : Nat} (h : ¬ mis b) (hb : b < 18446744073709551616) : key b = 9223372036854775808 ↔ b % 9223372036854775808 = 0 := by
  unfold key
  rw [if_neg h]
  unfold mis at h
  split
  · simp_all
  · split <;> omega

theorem clean_any (b : Nat) (h : b < 18446744073709551616) (w : World) :
    Calls Try.prog 67 #[.float .f64 b] w fun e w' => e = .returned (.float .f64 (cln b)) ∧ w = w' := by
  by_cases hm : mis b
  · have HC : Hid (cln b = 9221120237041090561) := if_pos hm
    rw [HC.out]
    go_enter Try.func67, Try.ntmps67
    go_wp2_with (first | (go_at_call 74; refine (missing_any b h _).mono ?_; rintro e w' ⟨rfl, rfl⟩) | simp only [frombI])
    go_ret
    exact ⟨rfl, rfl⟩
  · by_cases hz : b % 9223372036854775808 = 0
    · have HC : Hid (cln b = 0) := by show _ = _; unfold cln; rw [if_neg hm, if_pos hz]
      have ho : (FloatKind.f64.format.order b 0 == some .eq) = true := beq_iff_eq.2 (order_eq hm mis_zero h (by decide) (by rw [(key_is hm h).2 hz, key_zero]))
      rw [HC.out]
      clear hz
      go_enter Try.func67, Try.ntmps67
      go_wp2_with (go_at_call 74; refine (missing_any b h _).mono ?_; rintro e w' ⟨rfl, rfl⟩)
      go_ret
      exact ⟨rfl, rfl⟩
    · have HC : Hid (cln b = b) := by show _ = _; unfold cln; rw [if_neg hm, if_neg hz]
      have ho : (FloatKind.f64.format.order b 0 == some .eq) = false := by
        have hk : key b ≠ key 0 := by rw [key_zero]; intro e; exact hz ((key_is hm h).1 e)
        rcases Nat.lt_or_gt_of_ne hk with k | k
        · show (Ieee.double.order b 0 == some .eq) = false
          rw [order_lt hm mis_zero h (by decide) k]; rfl
        · show (Ieee.double.order b 0 == some .eq) = false
          rw [order_gt hm mis_zero h (by decide) k]; rfl
      rw [HC.out]
      clear hz
      go_enter Try.func67, Try.ntmps67
      go_wp2_with (go_at_call 74; refine (missing_any b h _).mono ?_; rintro e w' ⟨rfl, rfl⟩)
      go_ret
      exact ⟨rfl, rfl⟩

theorem cln_lt {b : Nat} (h : b < 18446744073709551616) : cln b < 18446744073709551616 := by
  unfold cln
  split
  · decide
  · split <;> omega

theorem ord_mis {a : Nat} (b : Nat) (h : mis a) :
    (FloatKind.f64.format.order a b == some .lt) = false ∧ (FloatKind.f64.format.order a b == some .eq) = false ∧ (FloatKind.f64.format.order a b == some .gt) = false := by
  have e : FloatKind.f64.format.order a b = none := order_mis1 b h
  rw [e]; exact ⟨rfl, rfl, rfl⟩
theorem ord_lt {a b : Nat} (ha : ¬ mis a) (hb : ¬ mis b) (h1 : a < 18446744073709551616) (h2 : b < 18446744073709551616) (h : key a < key b) :
    (FloatKind.f64.format.order a b == some .lt) = true ∧ (FloatKind.f64.format.order a b == some .eq) = false ∧ (FloatKind.f64.format.order a b == some .gt) = false := by
  have e : FloatKind.f64.format.order a b = some .lt := order_lt ha hb h1 h2 h
  rw [e]; exact ⟨rfl, rfl, rfl⟩
theorem ord_gt {a b : Nat} (ha : ¬ mis a) (hb : ¬ mis b) (h1 : a < 18446744073709551616) (h2 : b < 18446744073709551616) (h : key b < key a) :
    (FloatKind.f64.format.order a b == some .lt) = false ∧ (FloatKind.f64.format.order a b == some .eq) = false ∧ (FloatKind.f64.format.order a b == some .gt) = true := by
  have e : FloatKind.f64.format.order a b = some .gt := order_gt ha hb h1 h2 h
  rw [e]; exact ⟨rfl, rfl, rfl⟩
theorem ord_eq {a b : Nat} (ha : ¬ mis a) (hb : ¬ mis b) (h1 : a < 18446744073709551616) (h2 : b < 18446744073709551616) (h : key a = key b) :
    (FloatKind.f64.format.order a b == some .lt) = false ∧ (FloatKind.f64.format.order a b == some .eq) = true ∧ (FloatKind.f64.format.order a b == some .gt) = false := by
  have e : FloatKind.f64.format.order a b = some .eq := order_eq ha hb h1 h2 h
  rw [e]; exact ⟨rfl, rfl, rfl⟩

theorem refMissing_any (b : Nat) (h : b < 18446744073709551616) (w : World) :
    Calls Try.prog 63 #[.float .f64 b] w fun e w' => e = .returned (.bool (decide (mis b))) ∧ w = w' := by
  by_cases hm : mis b
  · have HM := Lib.hid (decide_eq_true hm)
    obtain ⟨g1, g2, g3⟩ := ord_mis 0 hm
    rw [HM.out]
    go_enter Try.func63, Try.ntmps63
    go_wp2
    go_ret
    exact ⟨rfl, rfl⟩
  · have HM := Lib.hid (decide_eq_false hm)
    rw [HM.out]
    rcases Nat.lt_trichotomy (key b) (key 0) with hk | hk | hk
    · obtain ⟨g1, g2, g3⟩ := ord_lt hm mis_zero h (by decide) hk
      clear hk
      go_enter Try.func63, Try.ntmps63
      go_wp2
      go_ret
      exact ⟨rfl, rfl⟩
    · obtain ⟨g1, g2, g3⟩ := ord_eq hm mis_zero h (by decide) hk
      clear hk
      go_enter Try.func63, Try.ntmps63
      go_wp2
      go_ret
      exact ⟨rfl, rfl⟩
    · obtain ⟨g1, g2, g3⟩ := ord_gt hm mis_zero h (by decide) hk
      clear hk
      go_enter Try.func63, Try.ntmps63
      go_wp2
      go_ret
      exact ⟨rfl, rfl⟩

theorem refBits_any (b : Nat) (h : b < 18446744073709551616) (w : World) :
    Calls Try.prog 33 #[.float .f64 b] w fun e w' => e = .returned (.int .u64 (cln b)) ∧ w = w' := by
  by_cases hm : mis b
  · have HC : Hid (((cln b : Nat) : Int) = 9221120237041090561) := by show _ = _; unfold cln; rw [if_pos hm]; rfl
    rw [HC.out]
    go_enter Try.func33, Try.ntmps33
    go_wp2_with (go_at_call 63; refine (refMissing_any b h _).mono ?_; rintro e w' ⟨rfl, rfl⟩)
    go_ret
    exact ⟨rfl, rfl⟩
  · rcases Nat.lt_trichotomy (key b) (key 0) with hk | hk | hk
    · have HC : Hid (((cln b : Nat) : Int) = (b : Int)) := by
        show _ = _; unfold cln; rw [if_neg hm, if_neg]; intro hz; have := (key_is hm h).2 hz; rw [key_zero] at hk; omega
      obtain ⟨g1, g2, g3⟩ := ord_lt hm mis_zero h (by decide) hk
      clear hk
      rw [HC.out]
      go_enter Try.func33, Try.ntmps33
      go_wp2_with (first | (go_at_call 63; refine (refMissing_any b h _).mono ?_; rintro e w' ⟨rfl, rfl⟩) | simp only [tob])
      go_ret
      exact ⟨rfl, rfl⟩
    · have HC : Hid (((cln b : Nat) : Int) = 0) := by
        show _ = _; unfold cln; rw [if_neg hm, if_pos]; · rfl
        rw [key_zero] at hk; exact (key_is hm h).1 hk
      obtain ⟨g1, g2, g3⟩ := ord_eq hm mis_zero h (by decide) hk
      clear hk
      rw [HC.out]
      go_enter Try.func33, Try.ntmps33
      go_wp2_with (go_at_call 63; refine (refMissing_any b h _).mono ?_; rintro e w' ⟨rfl, rfl⟩)
      go_ret
      exact ⟨rfl, rfl⟩
    · have HC : Hid (((cln b : Nat) : Int) = (b : Int)) := by
        show _ = _; unfold cln; rw [if_neg hm, if_neg]; intro hz; have := (key_is hm h).2 hz; rw [key_zero] at hk; omega
      obtain ⟨g1, g2, g3⟩ := ord_gt hm mis_zero h (by decide) hk
      clear hk
      rw [HC.out]
      go_enter Try.func33, Try.ntmps33
      go_wp2_with (first | (go_at_call 63; refine (refMissing_any b h _).mono ?_; rintro e w' ⟨rfl, rfl⟩) | simp only [tob])
      go_ret
      exact ⟨rfl, rfl⟩

theorem refClean_any (b : Nat) (h : b < 18446744073709551616) (w : World) :
    Calls Try.prog 20 #[.float .f64 b] w fun e w' => e = .returned (.float .f64 (cln b)) ∧ w = w' := by
  go_enter Try.func20, Try.ntmps20
  go_wp2_with (first | (go_at_call 33; refine (refBits_any b h _).mono ?_; rintro e w' ⟨rfl, rfl⟩) | simp only [fromb])
  go_ret
  exact ⟨rfl, rfl⟩

end Go.Proofs.Ytbmbgfmhejahjaa
