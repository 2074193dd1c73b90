/-
  DATASETS: what is wrong with rows, columns, a value, a target; the first one of a row that is wrong; whether there are as many values as rows and columns multiplied. Conditions: bits are 64; no more than 2^20 elements.
-/
import Derived.Test.YtbmbgfmhejahjaaCleanR
import Derived.Test.YtbmbgfmhejahjaaDat
import Derived.Test.YtbmbgfmhejahjaaMulLay
namespace Go.Proofs.Ytbmbgfmhejahjaa
open Go.RowKit

def eR (r : Int) : Int := if r = 0 then 3 else if 1048576 < r then 4 else 0
def eC (r q : Int) : Int := if q = 0 then 3 else if 1024 < q then 4 else if 16777216 < r * q then 4 else 0
def eV (b : Nat) : Int := if cln b = b then 0 else 3
def eM (t : Int) : Int := if t < -1048576 then 4 else if 1048576 < t then 4 else 0
def eL (c t : Int) : Int := if t < 0 then 5 else if c ≤ t then 5 else 0
def eT (k c t : Int) : Int := if k = 1 then eM t else eL c t
/-- The first one that is wrong. -/
def eI {α : Type} (L : α → Int) : List α → Int
  | [] => 0
  | x :: l => if L x = 0 then eI L l else L x

theorem rows_any (r : Int) (w : World) : Calls Try.prog 39 #[.int .i64 r] w fun e w' => e = .returned (.int .i64 (eR r)) ∧ w' = w := by
  by_cases h0 : r = 0
  · have HE : Hid (eR r = 3) := if_pos h0
    have g : (r == 0) = true := by simpa using h0
    clear h0
    go_enter Try.func39, Try.ntmps39
    go_wp2
    go_ret
    exact ⟨by rw [HE.out]; rfl, rfl⟩
  · have g : (r == 0) = false := by simpa using h0
    by_cases h1 : 1048576 < r
    · have HE : Hid (eR r = 4) := by show _ = _; unfold eR; rw [if_neg h0, if_pos h1]
      have g1 : decide (r > 1048576) = true := by simpa using h1
      clear h0
      go_enter Try.func39, Try.ntmps39
      go_wp2
      go_ret
      exact ⟨by rw [HE.out]; rfl, rfl⟩
    · have HE : Hid (eR r = 0) := by show _ = _; unfold eR; rw [if_neg h0, if_neg h1]
      have g1 : decide (r > 1048576) = false := by simpa using h1
      clear h0
      go_enter Try.func39, Try.ntmps39
      go_wp2
      go_ret
      exact ⟨by rw [HE.out]; rfl, rfl⟩

theorem cols_any (r q : Int) (hr0 : 0 ≤ r) (hr : r ≤ 1048576) (hq : 0 ≤ q) (w : World) : Calls Try.prog 40 #[.int .i64 r, .int .i64 q] w fun e w' => e = .returned (.int .i64 (eC r q)) ∧ w' = w := by
  by_cases h0 : q = 0
  · have HE : Hid (eC r q = 3) := if_pos h0
    have g : (q == 0) = true := by simpa using h0
    clear h0
    go_enter Try.func40, Try.ntmps40
    go_wp2
    go_ret
    exact ⟨by rw [HE.out]; rfl, rfl⟩
  · have g : (q == 0) = false := by simpa using h0
    by_cases h1 : 1024 < q
    · have HE : Hid (eC r q = 4) := by show _ = _; unfold eC; rw [if_neg h0, if_pos h1]
      have g1 : decide (q > 1024) = true := by simpa using h1
      clear h0
      go_enter Try.func40, Try.ntmps40
      go_wp2
      go_ret
      exact ⟨by rw [HE.out]; rfl, rfl⟩
    · have m0 : 0 ≤ r * q := Int.mul_nonneg hr0 hq
      have m1 : r * q ≤ 1048576 * 1024 := Int.mul_le_mul hr (by omega) hq (by decide)
      have hw : wrap64 (r * q) = r * q := by unfold wrap64; omega
      by_cases h2 : 16777216 < r * q
      · have HE : Hid (eC r q = 4) := by show _ = _; unfold eC; rw [if_neg h0, if_neg h1, if_pos h2]
        have g1 : decide (q > 1024) = false := by simpa using h1
        have g2 : decide (r * q > 16777216) = true := by simpa using h2
        clear h0 m0 m1 hr hr0 hq
        go_enter Try.func40, Try.ntmps40
        go_wp2
        go_ret
        exact ⟨by rw [HE.out]; rfl, rfl⟩
      · have HE : Hid (eC r q = 0) := by show _ = _; unfold eC; rw [if_neg h0, if_neg h1, if_neg h2]
        have g1 : decide (q > 1024) = false := by simpa using h1
        have g2 : decide (r * q > 16777216) = false := by simpa using h2
        clear h0 m0 m1 hr hr0 hq
        go_enter Try.func40, Try.ntmps40
        go_wp2
        go_ret
        exact ⟨by rw [HE.out]; rfl, rfl⟩

theorem value_any (b : Nat) (h : b < 18446744073709551616) (w : World) : Calls Try.prog 42 #[.float .f64 b] w fun e w' => e = .returned (.int .i64 (eV b)) ∧ w' = w := by
  have hc := clean_any b h
  by_cases h0 : cln b = b
  · have HE : Hid (eV b = 0) := if_pos h0
    rw [h0] at hc
    clear h0
    go_enter Try.func42, Try.ntmps42
    go_wp2_with (first | (go_at_call 67; refine (hc _).mono ?_; rintro e w' ⟨rfl, rfl⟩) | simp only [tob])
    go_ret
    exact ⟨by rw [HE.out]; rfl, rfl⟩
  · have HE : Hid (eV b = 3) := if_neg h0
    have g : ((b : Int) != (cln b : Int)) = true := by simp; omega
    clear h0
    generalize cln b = y at *
    go_enter Try.func42, Try.ntmps42
    go_wp2_with (first | (go_at_call 67; refine (hc _).mono ?_; rintro e w' ⟨rfl, rfl⟩) | simp only [tob])
    go_ret
    exact ⟨by rw [HE.out]; rfl, rfl⟩

theorem number_any (k c b t d l p x : Int) (w : World) : Calls Try.prog 68 #[cf k c b t d l p, .int .i64 x] w fun e w' => e = .returned (.int .i64 (eM x)) ∧ Below w.heap.size w w' := by
  have hb := fun o => (Below.refl w.heap.size w).alloc (Nat.le_refl _) o
  unfold cf
  by_cases h1 : x < -1048576
  · have HE : Hid (eM x = 4) := if_pos h1
    have g1 : decide (x < -1048576) = true := by simpa using h1
    go_enter Try.func68, Try.ntmps68
    go_wp2
    go_ret
    exact ⟨by rw [HE.out]; rfl, hb _⟩
  · have g1 : decide (x < -1048576) = false := by simpa using h1
    by_cases h2 : 1048576 < x
    · have HE : Hid (eM x = 4) := by show _ = _; unfold eM; rw [if_neg h1, if_pos h2]
      have g2 : decide (x > 1048576) = true := by simpa using h2
      go_enter Try.func68, Try.ntmps68
      go_wp2
      go_ret
      exact ⟨by rw [HE.out]; rfl, hb _⟩
    · have HE : Hid (eM x = 0) := by show _ = _; unfold eM; rw [if_neg h1, if_neg h2]
      have g2 : decide (x > 1048576) = false := by simpa using h2
      go_enter Try.func68, Try.ntmps68
      go_wp2
      go_ret
      exact ⟨by rw [HE.out]; rfl, hb _⟩

theorem class_any (k c b t d l p x : Int) (w : World) : Calls Try.prog 69 #[cf k c b t d l p, .int .i64 x] w fun e w' => e = .returned (.int .i64 (eL c x)) ∧ Below w.heap.size w w' := by
  have hb := fun o => (Below.refl w.heap.size w).alloc (Nat.le_refl _) o
  unfold cf
  by_cases h1 : x < 0
  · have HE : Hid (eL c x = 5) := if_pos h1
    have g1 : decide (x < 0) = true := by simpa using h1
    go_enter Try.func69, Try.ntmps69
    go_wp2
    go_ret
    exact ⟨by rw [HE.out]; rfl, hb _⟩
  · have g1 : decide (x < 0) = false := by simpa using h1
    by_cases h2 : c ≤ x
    · have HE : Hid (eL c x = 5) := by show _ = _; unfold eL; rw [if_neg h1, if_pos h2]
      have g2 : decide (x ≥ c) = true := by simpa using h2
      go_enter Try.func69, Try.ntmps69
      go_wp2
      go_ret
      exact ⟨by rw [HE.out]; rfl, hb _⟩
    · have HE : Hid (eL c x = 0) := by show _ = _; unfold eL; rw [if_neg h1, if_neg h2]
      have g2 : decide (x ≥ c) = false := by simpa using h2
      go_enter Try.func69, Try.ntmps69
      go_wp2
      go_ret
      exact ⟨by rw [HE.out]; rfl, hb _⟩

/-- What tells what is wrong with a target. -/
def wtF (k : Int) : Nat := if k = 1 then 68 else 69
theorem wt_any (k c b t d l p : Int) (w : World) : Calls Try.prog 44 #[cf k c b t d l p] w fun e w' => e = .returned (.func (.func (wtF k)) #[cf k c b t d l p] #[]) ∧ Below w.heap.size w w' := by
  have hb := fun o => (Below.refl w.heap.size w).alloc (Nat.le_refl _) o
  have hmf : ∀ (fn : Fn) (first cap : Array Value) (w : World), (Instr.makeFunc fn first cap).run Try.prog w = .ok (.func fn first cap) w := fun _ _ _ _ => rfl
  unfold cf
  by_cases h : k = 1
  · have HE : Hid (wtF k = 68) := if_pos h
    have g : (k == 1) = true := by simpa using h
    clear h
    go_enter Try.func44, Try.ntmps44
    go_wp2
    go_ret
    exact ⟨by rw [HE.out]; rfl, hb _⟩
  · have HE : Hid (wtF k = 69) := if_neg h
    have g : (k == 1) = false := by simpa using h
    clear h
    go_enter Try.func44, Try.ntmps44
    go_wp2
    go_ret
    exact ⟨by rw [HE.out]; rfl, hb _⟩
theorem wtF_calls (k c b t d l p x : Int) (w : World) : Calls Try.prog (wtF k) #[cf k c b t d l p, .int .i64 x] w fun e w' => e = .returned (.int .i64 (eT k c x)) ∧ Below w.heap.size w w' := by
  unfold wtF eT
  by_cases h : k = 1
  · rw [if_pos h, if_pos h]; exact number_any k c b t d l p x w
  · rw [if_neg h, if_neg h]; exact class_any k c b t d l p x w
theorem wtF_enters (k : Int) (x y : Value) (w : World) : (callFunc (wtF k) #[x, y]).run Try.prog w = .ok (.enter (wtF k) #[x, y]) w := by
  unfold wtF
  by_cases h : k = 1
  · rw [if_pos h]; simp [go_sem]
  · rw [if_neg h]; simp [go_sem]
end Go.Proofs.Ytbmbgfmhejahjaa
