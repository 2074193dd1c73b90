/-
  DATASETS: whether there are as many values as rows and columns multiplied; the first thing that is wrong with a dataset. Conditions: rows and columns are of 64 bits with a sign; at most 2^20 values and targets; values of 64 bits.
-/
import Derived.Test.YtbmbgfmhejahjaaDWrong
namespace Go.Proofs.Ytbmbgfmhejahjaa
open Go.RowKit

/-- As many values as rows and columns multiplied. -/
def fullB (r q : Int) (n : Nat) : Bool := decide (0 ≤ r ∧ 0 ≤ q ∧ r * q = (n : Int))

set_option maxHeartbeats 1000000 in
theorem full_any (k c b t d l p r q : Int) (aV : Option Addr) (nV cV : Nat) (T : Value) (hr : -9223372036854775808 ≤ r ∧ r ≤ 9223372036854775807) (hq : -9223372036854775808 ≤ q ∧ q ≤ 9223372036854775807) (hn : nV ≤ 1048576) (w : World) :
    Calls Try.prog 36 #[ds k c b t d l p r q (.slice aV nV cV) T] w fun e w' => e = .returned (.bool (fullB r q nV)) ∧ Below w.heap.size w w' := by
  have hb := fun o => (Below.refl w.heap.size w).alloc (Nat.le_refl _) o
  have hm := mul64 (IntKind.u64.wrap r) (IntKind.u64.wrap q) (by rw [IntKind.wrap_u64]; exact ⟨by omega, by omega⟩) (by rw [IntKind.wrap_u64]; exact ⟨by omega, by omega⟩)
  have wn : IntKind.u64.wrap (nV : Int) = nV := by rw [IntKind.wrap_u64]; omega
  unfold ds
  by_cases h1 : r < 0
  · have HE : Hid (fullB r q nV = false) := decide_eq_false (by omega)
    have g1 : decide (r ≥ 0) = false := by simpa using h1
    clear hr hq
    generalize hi _ _ = H at *
    generalize lo _ _ = L at *
    go_enter Try.func36, Try.ntmps36
    go_wp2_with (go_at_call 64; refine (hm _).mono ?_; rintro e w' ⟨rfl, rfl⟩)
    go_ret
    exact ⟨by rw [HE.out]; rfl, hb _⟩

  have g1 : decide (r ≥ 0) = true := by simpa using h1
  by_cases h2 : q < 0
  · have HE : Hid (fullB r q nV = false) := decide_eq_false (by omega)
    have g2 : decide (q ≥ 0) = false := by simpa using h2
    clear hr hq
    generalize hi _ _ = H at *
    generalize lo _ _ = L at *
    go_enter Try.func36, Try.ntmps36
    go_wp2_with (go_at_call 64; refine (hm _).mono ?_; rintro e w' ⟨rfl, rfl⟩)
    go_ret
    exact ⟨by rw [HE.out]; rfl, hb _⟩

  have g2 : decide (q ≥ 0) = true := by simpa using h2
  have wr : IntKind.u64.wrap r = r := by rw [IntKind.wrap_u64]; omega
  have wq : IntKind.u64.wrap q = q := by rw [IntKind.wrap_u64]; omega
  have HHL : Hid (hi (IntKind.u64.wrap r) (IntKind.u64.wrap q) * 18446744073709551616 + lo (IntKind.u64.wrap r) (IntKind.u64.wrap q) = r * q) := by
    show _ = _
    rw [wr, wq]; unfold hi lo; omega
  have HLO : Hid (0 ≤ lo (IntKind.u64.wrap r) (IntKind.u64.wrap q) ∧ lo (IntKind.u64.wrap r) (IntKind.u64.wrap q) < 18446744073709551616) := by
    show _ ∧ _
    unfold lo; omega
  generalize hi _ _ = H at *
  generalize lo _ _ = L at *
  by_cases h3 : H = 0
  · have g3 : (H == 0) = true := by simpa using h3
    by_cases h4 : L = nV
    · have HE : Hid (fullB r q nV = true) := decide_eq_true ⟨by omega, by omega, by have := HHL.out; omega⟩
      have g4 : (L == (nV : Int)) = true := by simpa using h4
      clear hr hq h3 h4 wr wq HHL HLO
      go_enter Try.func36, Try.ntmps36
      go_wp2_with (go_at_call 64; refine (hm _).mono ?_; rintro e w' ⟨rfl, rfl⟩)
      go_ret
      exact ⟨by rw [HE.out]; rfl, hb _⟩

    · have HE : Hid (fullB r q nV = false) := decide_eq_false (by have := HHL.out; omega)
      have g4 : (L == (nV : Int)) = false := by simpa using h4
      clear hr hq h3 h4 wr wq HHL HLO
      go_enter Try.func36, Try.ntmps36
      go_wp2_with (go_at_call 64; refine (hm _).mono ?_; rintro e w' ⟨rfl, rfl⟩)
      go_ret
      exact ⟨by rw [HE.out]; rfl, hb _⟩

  · have HE : Hid (fullB r q nV = false) := decide_eq_false (by have := HHL.out; have := HLO.out; omega)
    have g3 : (H == 0) = false := by simpa using h3
    clear hr hq h3 wr wq HHL HLO
    go_enter Try.func36, Try.ntmps36
    go_wp2_with (go_at_call 64; refine (hm _).mono ?_; rintro e w' ⟨rfl, rfl⟩)
    go_ret
    exact ⟨by rw [HE.out]; rfl, hb _⟩

end Go.Proofs.Ytbmbgfmhejahjaa
