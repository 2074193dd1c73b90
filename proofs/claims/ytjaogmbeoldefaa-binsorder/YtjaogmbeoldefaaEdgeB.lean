/-
  edges: which of two values stands behind, is a value clean, a value's bin by any edges; and the document's bin. Condition: the bits are 64, at most 2^20 edges.
-/
import Derived.Test.YtjaogmbeoldefaaRowE
import Derived.Test.YtjaogmbeoldefaaRankW
namespace Go.Proofs.Ytjaogmbeoldefaa
open Go.RowKit

theorem cmpI_pos (x y : Int) : decide (0 < cmpI x y) = decide (y < x) := by
  rcases Int.lt_trichotomy x y with h | h | h
  · rw [cmpI_lt h]; simp; omega
  · rw [cmpI_eq h]; simp; omega
  · rw [cmpI_gt h]; simp; omega
theorem cmpI_le (x y : Int) : decide (cmpI x y ≤ 0) = decide (x ≤ y) := by
  rcases Int.lt_trichotomy x y with h | h | h
  · rw [cmpI_lt h]; simp; omega
  · rw [cmpI_eq h]; simp; omega
  · rw [cmpI_gt h]; simp; omega

theorem behind_any (a b : Nat) (ha : a < 18446744073709551616) (hb : b < 18446744073709551616) (w : World) :
    Calls Try.prog 54 #[.float .f64 a, .float .f64 b] w fun e w' => e = .returned (.bool (decide (key b < key a))) ∧ w = w' := by
  have HK : Hid (decide (key b < key a) = decide (0 < cmpI (key a) (key b))) := by show _ = _; rw [cmpI_pos]; exact decide_eq_decide.2 (by omega)
  rw [HK.out]
  go_enter Try.func54, Try.ntmps54
  go_wp2_with (go_at_call 61; refine (cmp_any _ _ ha hb _).mono ?_; rintro e w' ⟨rfl, rfl⟩)
  go_ret
  exact ⟨rfl, rfl⟩

/-- A value's bin. -/
def binL (E : List Nat) (f : Nat) : Nat := if mis f then 0 else 1 + E.countP fun e => decide (key e ≤ key f)
theorem binL_mis {E : List Nat} {f : Nat} (h : mis f) : binL E f = 0 := if_pos h
theorem binL_is {E : List Nat} {f : Nat} (h : ¬ mis f) : binL E f = 1 + E.countP fun e => decide (key e ≤ key f) := if_neg h
theorem binL_le (E : List Nat) (f : Nat) : binL E f ≤ E.length + 1 := by
  unfold binL
  split
  · omega
  · have := List.countP_le_length (p := fun e => decide (key e ≤ key f)) (l := E); omega
/-- How many of the first j, and 1. -/
def binTo (E : List Nat) (f j : Nat) : Nat := 1 + (E.take j).countP fun e => decide (key e ≤ key f)
theorem binTo_zero (E : List Nat) (f : Nat) : binTo E f 0 = 1 := by simp [binTo]
theorem binTo_all {E : List Nat} {f j : Nat} (hj : E.length ≤ j) (h : ¬ mis f) : binTo E f j = binL E f := by
  rw [binL_is h, binTo, List.take_of_length_le hj]
theorem binTo_le (E : List Nat) (f j : Nat) : binTo E f j ≤ j + 1 := by
  unfold binTo
  have := List.countP_le_length (p := fun e => decide (key e ≤ key f)) (l := E.take j)
  rw [List.length_take] at this
  omega
theorem binTo_yes {E : List Nat} {f j : Nat} (hj : j < E.length) (h : key (E.getD j 0) ≤ key f) : binTo E f (j + 1) = binTo E f j + 1 := by
  unfold binTo
  rw [List.take_add_one, List.getElem?_eq_getElem hj, List.countP_append]
  have : E.getD j 0 = E[j] := by simp [List.getD_eq_getElem?_getD, hj]
  rw [this] at h
  simp [h]
  omega
theorem binTo_no {E : List Nat} {f j : Nat} (hj : j < E.length) (h : ¬ key (E.getD j 0) ≤ key f) : binTo E f (j + 1) = binTo E f j := by
  unfold binTo
  rw [List.take_add_one, List.getElem?_eq_getElem hj, List.countP_append]
  have : E.getD j 0 = E[j] := by simp [List.getD_eq_getElem?_getD, hj]
  rw [this] at h
  simp [h]

theorem HoldsE.some {α : Type} {K : Kind α} {w : World} {a : Option Addr} {l : List α} {n j : Nat} (h : HoldsE K w a l) (hn : l.length = n) (hj : j < n) :
    ∃ g off, a = some ⟨g, off, none⟩ ∧ g < w.heap.size ∧ ∀ j, j < l.length → w.cell? ⟨g, off + j, none⟩ = some (K.enc (l.getD j K.z)) := by
  rcases h with rfl | h
  · simp at hn; omega
  · exact h
theorem at64 {E : List Nat} (h64 : ∀ e ∈ E, e < 18446744073709551616) {j : Nat} (hj : j < E.length) : E.getD j 0 < 18446744073709551616 := by
  rw [List.getD_eq_getElem?_getD, List.getElem?_eq_getElem hj]
  exact h64 _ (List.getElem_mem hj)

set_option maxHeartbeats 1000000 in
theorem bin_any (a : Option Addr) (cap n : Nat) (E : List Nat) (hn : E.length = n) (hb : n ≤ 1048576) (h64 : ∀ e ∈ E, e < 18446744073709551616) (f : Nat) (hf : f < 18446744073709551616) (w : World) (hr : HoldsE KF w a E) :
    Calls Try.prog 48 #[.slice a n cap, .float .f64 f] w fun e w' => e = .returned (.int .i64 ((binL E f : Nat) : Int)) ∧ w = w' := by
  by_cases hm : mis f
  · have HZ : Hid (((binL E f : Nat) : Int) = 0) := by show _ = _; rw [binL_mis hm]; rfl
    rw [HZ.out]
    clear hn hr h64
    go_enter Try.func48, Try.ntmps48
    go_wp2_with (go_at_call 43; refine (missing_any f hf _).mono ?_; rintro e w' ⟨rfl, rfl⟩)
    go_ret
    exact ⟨rfl, rfl⟩
  · have HN := Lib.hid hn
    have HB := Lib.hid hb
    clear hn hb
    go_enter Try.func48, Try.ntmps48
    go_wp2_with (first
      | (go_at_call 43; refine (missing_any f hf _).mono ?_; rintro e w' ⟨rfl, rfl⟩)
      | (go_at_call 50; refine (key_any f hf _).mono ?_; rintro e w' ⟨rfl, rfl⟩))
    go_loopw [6, 15] (fun c i wr => ∃ j : Nat, j ≤ n ∧ i = .int .i64 (j : Int) ∧ c = .int .i64 ((binTo E f j : Nat) : Int) ∧ wr = w) (fun _ i _ => n - (intOf i).toNat)
    case atStart => exact ⟨0, by omega, rfl, by rw [binTo_zero]; rfl, rfl⟩
    case round =>
      obtain ⟨j, hj, rfl, rfl, rfl⟩ := hrel
      have hn := HN.out
      have hb := HB.out
      by_cases hlt : j < n
      · obtain ⟨g, off, rfl, hg, hrow⟩ := hr.some hn hlt
        have hx := at64 h64 (show j < E.length by omega)
        have cx : wr.cell? ⟨g, off + j, none⟩ = some (.float .f64 (E.getD j 0)) := hrow j (by omega)
        have hbt := binTo_le E f j
        have hj1 : (j : Int) < (n : Int) := by omega
        have hj2 : (j : Int) ≤ 1048576 := by omega
        have HJ := Lib.hid hlt
        by_cases hk : key (E.getD j 0) ≤ key f
        · have e := binTo_yes (show j < E.length by omega) hk
          have HE : Hid (binTo E f (j + 1) = binTo E f j + 1) := e
          generalize binTo E f j = c at *
          generalize E.getD j 0 = x at *
          have hk : ((key x : Nat) : Int) ≤ ((key f : Nat) : Int) := by omega
          have hc : (c : Int) ≤ 1048577 := by omega
          clear hn hb hrow h64 hr hlt e hbt
          go_wp2_with (go_at_call 50; refine (key_any x hx _).mono ?_; rintro e w' ⟨rfl, rfl⟩)
          go_roundw
          case rel => have h1 := HJ.out; have h2 := HB.out; exact ⟨j + 1, by omega, by go_num, by rw [HE.out]; go_num, trivial⟩
          case measure => have h1 := HJ.out; have h2 := HB.out; simp [intOf]; omega
        · have e := binTo_no (show j < E.length by omega) hk
          have HE : Hid (binTo E f (j + 1) = binTo E f j) := e
          generalize binTo E f j = c at *
          generalize E.getD j 0 = x at *
          have hk : ¬ ((key x : Nat) : Int) ≤ ((key f : Nat) : Int) := by omega
          clear hn hb hrow h64 hr hlt e hbt
          go_wp2_with (go_at_call 50; refine (key_any x hx _).mono ?_; rintro e w' ⟨rfl, rfl⟩)
          go_roundw
          case rel => have h1 := HJ.out; have h2 := HB.out; exact ⟨j + 1, by omega, by go_num, by rw [HE.out], trivial⟩
          case measure => have h1 := HJ.out; have h2 := HB.out; simp [intOf]; omega
      · have HZ := Lib.hid (binTo_all (E := E) (f := f) (j := j) (by omega) hm)
        clear hn hb h64 hr
        go_wp2_with fail
        go_ret
        exact ⟨by rw [HZ.out]; rfl, rfl⟩

end Go.Proofs.Ytjaogmbeoldefaa
