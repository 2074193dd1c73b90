/-
  THE DOCUMENT's ANSWERS OF rank, by the values themselves, as what they come to over the bits; and the chapter's examples. Condition: the bits are 64.
-/
import Derived.Test.YtjaogmbeoldefaaRank
namespace Go.Proofs.Ytjaogmbeoldefaa
open Go.RowKit

theorem ord_mis {a : Nat} (b : Nat) (h : mis a) :
    (FloatKind.f64.format.order a b == some .lt) = false ∧ (FloatKind.f64.format.order a b == some .eq) = false ∧ (FloatKind.f64.format.order a b == some .gt) = false := by
  have e : FloatKind.f64.format.order a b = none := order_mis1 b h
  rw [e]; exact ⟨rfl, rfl, rfl⟩
theorem ord_lt {a b : Nat} (ha : ¬ mis a) (hb : ¬ mis b) (h1 : a < 18446744073709551616) (h2 : b < 18446744073709551616) (h : key a < key b) :
    (FloatKind.f64.format.order a b == some .lt) = true ∧ (FloatKind.f64.format.order a b == some .eq) = false ∧ (FloatKind.f64.format.order a b == some .gt) = false := by
  have e : FloatKind.f64.format.order a b = some .lt := order_lt ha hb h1 h2 h
  rw [e]; exact ⟨rfl, rfl, rfl⟩
theorem ord_gt {a b : Nat} (ha : ¬ mis a) (hb : ¬ mis b) (h1 : a < 18446744073709551616) (h2 : b < 18446744073709551616) (h : key b < key a) :
    (FloatKind.f64.format.order a b == some .lt) = false ∧ (FloatKind.f64.format.order a b == some .eq) = false ∧ (FloatKind.f64.format.order a b == some .gt) = true := by
  have e : FloatKind.f64.format.order a b = some .gt := order_gt ha hb h1 h2 h
  rw [e]; exact ⟨rfl, rfl, rfl⟩
theorem ord_eq {a b : Nat} (ha : ¬ mis a) (hb : ¬ mis b) (h1 : a < 18446744073709551616) (h2 : b < 18446744073709551616) (h : key a = key b) :
    (FloatKind.f64.format.order a b == some .lt) = false ∧ (FloatKind.f64.format.order a b == some .eq) = true ∧ (FloatKind.f64.format.order a b == some .gt) = false := by
  have e : FloatKind.f64.format.order a b = some .eq := order_eq ha hb h1 h2 h
  rw [e]; exact ⟨rfl, rfl, rfl⟩

theorem refMissing_any (b : Nat) (h : b < 18446744073709551616) (w : World) :
    Calls Try.prog 27 #[.float .f64 b] w fun e w' => e = .returned (.bool (decide (mis b))) ∧ w = w' := by
  by_cases hm : mis b
  · have HM := Lib.hid (decide_eq_true hm)
    obtain ⟨g1, g2, g3⟩ := ord_mis 0 hm
    rw [HM.out]
    go_enter Try.func27, Try.ntmps27
    go_wp2
    go_ret
    exact ⟨rfl, rfl⟩
  · have HM := Lib.hid (decide_eq_false hm)
    rw [HM.out]
    rcases Nat.lt_trichotomy (key b) (key 0) with hk | hk | hk
    · obtain ⟨g1, g2, g3⟩ := ord_lt hm mis_zero h (by decide) hk
      clear hk
      go_enter Try.func27, Try.ntmps27
      go_wp2
      go_ret
      exact ⟨rfl, rfl⟩
    · obtain ⟨g1, g2, g3⟩ := ord_eq hm mis_zero h (by decide) hk
      clear hk
      go_enter Try.func27, Try.ntmps27
      go_wp2
      go_ret
      exact ⟨rfl, rfl⟩
    · obtain ⟨g1, g2, g3⟩ := ord_gt hm mis_zero h (by decide) hk
      clear hk
      go_enter Try.func27, Try.ntmps27
      go_wp2
      go_ret
      exact ⟨rfl, rfl⟩

theorem refBits_any (b : Nat) (h : b < 18446744073709551616) (w : World) :
    Calls Try.prog 75 #[.float .f64 b] w fun e w' => e = .returned (.int .u64 (cln b)) ∧ w = w' := by
  by_cases hm : mis b
  · have HC : Hid (((cln b : Nat) : Int) = 9221120237041090561) := by show _ = _; unfold cln; rw [if_pos hm]; rfl
    rw [HC.out]
    go_enter Try.func75, Try.ntmps75
    go_wp2_with (go_at_call 27; refine (refMissing_any b h _).mono ?_; rintro e w' ⟨rfl, rfl⟩)
    go_ret
    exact ⟨rfl, rfl⟩
  · rcases Nat.lt_trichotomy (key b) (key 0) with hk | hk | hk
    · have HC : Hid (((cln b : Nat) : Int) = (b : Int)) := by
        show _ = _; unfold cln; rw [if_neg hm, if_neg]; intro hz; have := (key_is hm h).2 hz; rw [key_zero] at hk; omega
      obtain ⟨g1, g2, g3⟩ := ord_lt hm mis_zero h (by decide) hk
      clear hk
      rw [HC.out]
      go_enter Try.func75, Try.ntmps75
      go_wp2_with (first | (go_at_call 27; refine (refMissing_any b h _).mono ?_; rintro e w' ⟨rfl, rfl⟩) | simp only [tob])
      go_ret
      exact ⟨rfl, rfl⟩
    · have HC : Hid (((cln b : Nat) : Int) = 0) := by
        show _ = _; unfold cln; rw [if_neg hm, if_pos]; · rfl
        rw [key_zero] at hk; exact (key_is hm h).1 hk
      obtain ⟨g1, g2, g3⟩ := ord_eq hm mis_zero h (by decide) hk
      clear hk
      rw [HC.out]
      go_enter Try.func75, Try.ntmps75
      go_wp2_with (go_at_call 27; refine (refMissing_any b h _).mono ?_; rintro e w' ⟨rfl, rfl⟩)
      go_ret
      exact ⟨rfl, rfl⟩
    · have HC : Hid (((cln b : Nat) : Int) = (b : Int)) := by
        show _ = _; unfold cln; rw [if_neg hm, if_neg]; intro hz; have := (key_is hm h).2 hz; rw [key_zero] at hk; omega
      obtain ⟨g1, g2, g3⟩ := ord_gt hm mis_zero h (by decide) hk
      clear hk
      rw [HC.out]
      go_enter Try.func75, Try.ntmps75
      go_wp2_with (first | (go_at_call 27; refine (refMissing_any b h _).mono ?_; rintro e w' ⟨rfl, rfl⟩) | simp only [tob])
      go_ret
      exact ⟨rfl, rfl⟩

theorem refClean_any (b : Nat) (h : b < 18446744073709551616) (w : World) :
    Calls Try.prog 62 #[.float .f64 b] w fun e w' => e = .returned (.float .f64 (cln b)) ∧ w = w' := by
  go_enter Try.func62, Try.ntmps62
  go_wp2_with (first | (go_at_call 75; refine (refBits_any b h _).mono ?_; rintro e w' ⟨rfl, rfl⟩) | simp only [fromb_nat])
  go_ret
  exact ⟨rfl, rfl⟩

theorem key_mis {b : Nat} (h : mis b) : key b = 0 := if_pos h
theorem key_pos {b : Nat} (h : ¬ mis b) (hb : b < 18446744073709551616) : 0 < key b := by
  unfold key
  rw [if_neg h]
  unfold mis at h
  split
  · decide
  · split <;> omega

theorem refCmp_any (a b : Nat) (ha : a < 18446744073709551616) (hb : b < 18446744073709551616) (w : World) :
    Calls Try.prog 28 #[.float .f64 a, .float .f64 b] w fun e w' => e = .returned (.int .i64 (cmpI (key a) (key b))) ∧ w = w' := by
  by_cases h1 : mis a
  · by_cases h2 : mis b
    · have HK : Hid (cmpI (key a) (key b) = 0) := cmpI_eq (by rw [key_mis h1, key_mis h2])
      rw [HK.out]
      go_enter Try.func28, Try.ntmps28
      go_wp2_with (go_at_call 27; refine (refMissing_any _ (by assumption) _).mono ?_; rintro e w' ⟨rfl, rfl⟩)
      go_ret
      exact ⟨rfl, rfl⟩
    · have HK : Hid (cmpI (key a) (key b) = -1) := cmpI_lt (by have := key_pos h2 hb; rw [key_mis h1]; omega)
      rw [HK.out]
      go_enter Try.func28, Try.ntmps28
      go_wp2_with (go_at_call 27; refine (refMissing_any _ (by assumption) _).mono ?_; rintro e w' ⟨rfl, rfl⟩)
      go_ret
      exact ⟨rfl, rfl⟩
  · by_cases h2 : mis b
    · have HK : Hid (cmpI (key a) (key b) = 1) := cmpI_gt (by have := key_pos h1 ha; rw [key_mis h2]; omega)
      rw [HK.out]
      go_enter Try.func28, Try.ntmps28
      go_wp2_with (go_at_call 27; refine (refMissing_any _ (by assumption) _).mono ?_; rintro e w' ⟨rfl, rfl⟩)
      go_ret
      exact ⟨rfl, rfl⟩
    · rcases Nat.lt_trichotomy (key a) (key b) with hk | hk | hk
      · have HK : Hid (cmpI (key a) (key b) = -1) := cmpI_lt (by omega)
        obtain ⟨g1, g2, g3⟩ := ord_lt h1 h2 ha hb hk
        rw [HK.out]
        clear hk
        go_enter Try.func28, Try.ntmps28
        go_wp2_with (go_at_call 27; refine (refMissing_any _ (by assumption) _).mono ?_; rintro e w' ⟨rfl, rfl⟩)
        go_ret
        exact ⟨rfl, rfl⟩
      · have HK : Hid (cmpI (key a) (key b) = 0) := cmpI_eq (by omega)
        obtain ⟨g1, g2, g3⟩ := ord_eq h1 h2 ha hb hk
        rw [HK.out]
        clear hk
        go_enter Try.func28, Try.ntmps28
        go_wp2_with (go_at_call 27; refine (refMissing_any _ (by assumption) _).mono ?_; rintro e w' ⟨rfl, rfl⟩)
        go_ret
        exact ⟨rfl, rfl⟩
      · have HK : Hid (cmpI (key a) (key b) = 1) := cmpI_gt (by omega)
        obtain ⟨g1, g2, g3⟩ := ord_gt h1 h2 ha hb hk
        rw [HK.out]
        clear hk
        go_enter Try.func28, Try.ntmps28
        go_wp2_with (go_at_call 27; refine (refMissing_any _ (by assumption) _).mono ?_; rintro e w' ⟨rfl, rfl⟩)
        go_ret
        exact ⟨rfl, rfl⟩

end Go.Proofs.Ytjaogmbeoldefaa
