/-
  What the laws ask of a matrix: is it more than is gone through; a cell, or -1; a row's bins, or none; what a walk's worlds hold. Condition: the cells are numbers of 16 bits.
-/
import Derived.Test.YtjaogmbeoldefaaBinF
namespace Go.Proofs.Ytjaogmbeoldefaa
open Go.RowKit

/-- Is that more than is gone through? -/
def greatB (r q : Int) (n : Nat) : Bool := decide (500 < n ∨ (1000 < q ∧ r = 0 ∧ n = 0))
set_option maxHeartbeats 1000000 in
theorem great_any (r q : Int) (a : Option Addr) (n c : Nat) (w : World) : Calls Try.prog 18 #[mx r q (.slice a n c)] w fun x w' => x = .returned (.bool (greatB r q n)) ∧ Below w.heap.size w w' := by
  have HB := Lib.hid (lay3_below w r q (.slice a n c))
  unfold mx
  obtain ⟨z, HZ⟩ : ∃ z, Hid (greatB r q n = z) := ⟨_, rfl⟩
  rw [HZ.out]
  have HT : Hid (500 < n ∨ (1000 < q ∧ r = 0 ∧ n = 0) → z = true) := fun h => by rw [← HZ.out]; exact decide_eq_true h
  have HF : Hid (¬ (500 < n ∨ (1000 < q ∧ r = 0 ∧ n = 0)) → z = false) := fun h => by rw [← HZ.out]; exact decide_eq_false h
  by_cases h1 : 500 < n
  · have hz := HT.out (.inl h1)
    subst hz
    have g1 : decide ((n : Int) > 500) = true := decide_eq_true (by omega)
    have g1' : (500 : Int) < (n : Int) := by omega
    clear h1
    go_enter Try.func18, Try.ntmps18
    go_wp2_with fail
    go_ret
    exact ⟨rfl, HB.out⟩
  have g1' : ¬ (500 : Int) < (n : Int) := by omega
  by_cases h2 : 1000 < q
  · by_cases h3 : r = 0
    · by_cases h4 : n = 0
      · have hz := HT.out (.inr ⟨h2, h3, h4⟩)
        subst hz
        have g2 : decide (q > 1000) = true := decide_eq_true h2
        subst h3 h4
        clear h1
        go_enter Try.func18, Try.ntmps18
        go_wp2_with fail
        go_ret
        exact ⟨rfl, HB.out⟩
      · have hz := HF.out (by omega)
        subst hz
        subst h3
        have g2 : decide (q > 1000) = true := decide_eq_true h2
        have g4 : ((n : Int) == 0) = false := by simp; omega
        clear h1 h4
        go_enter Try.func18, Try.ntmps18
        go_wp2_with fail
        go_ret
        exact ⟨rfl, HB.out⟩
    · have hz := HF.out (by omega)
      subst hz
      have g2 : decide (q > 1000) = true := decide_eq_true h2
      have g3 : (r == 0) = false := by simpa using h3
      clear h1 h3
      go_enter Try.func18, Try.ntmps18
      go_wp2_with fail
      go_ret
      exact ⟨rfl, HB.out⟩
  · have hz := HF.out (by omega)
    subst hz
    have g2 : decide (q > 1000) = false := decide_eq_false h2
    clear h1
    go_enter Try.func18, Try.ntmps18
    go_wp2_with fail
    go_ret
    exact ⟨rfl, HB.out⟩

instance (r q x y : Int) (n : Nat) : Decidable (InM r q x y n) := inferInstanceAs (Decidable (_ ∧ _ ∧ _))
/-- A cell, or -1. -/
def wantI (C : List Int) (r q x y : Int) (n : Nat) : Int := if InM r q x y n then C.getD (y.toNat * r.toNat + x.toNat) 0 else -1
theorem cellM_any (r q x y : Int) (a : Option Addr) (n c : Nat) (C : List Int) (hC : C.length = n) (hn : n ≤ 1048576) (h16 : In16 C) (w : World) (hw : HoldsE KW w a C) :
    Calls Try.prog 19 #[mx r q (.slice a n c), .int .i64 x, .int .i64 y] w fun e w' => e = .returned (.tuple #[.int .i64 (max (wantI C r q x y n) 0), .bool (decide (0 ≤ wantI C r q x y n))]) ∧ Below w.heap.size w w' := by
  by_cases h : InM r q x y n
  · have hf := h.2.2
    obtain ⟨r', q', i, j, rfl, rfl, rfl, rfl, hi, hj, hrq⟩ := h.nat
    have e : wantI C r' q' i j n = C.getD (j * r' + i) 0 := by unfold wantI; rw [if_pos h]; simp
    have hz := (h16.at (show j * r' + i < C.length by rw [hC]; exact (idx_lt hrq hi hj).1)).1
    rw [e, decide_eq_true hz, show max (C.getD (j * r' + i) 0) 0 = C.getD (j * r' + i) 0 by omega]
    exact cellM_ok r' q' i j n a c C hC hn h16 hf hi hj w hw
  · have e : wantI C r q x y n = -1 := if_neg h
    rw [e]
    exact cellM_no r q a n c x y h w
theorem refCell_any (r q x y : Int) (a : Option Addr) (n c : Nat) (C : List Int) (hC : C.length = n) (hn : n ≤ 1048576) (h16 : In16 C) (w : World) (hw : HoldsE KW w a C) :
    Calls Try.prog 20 #[mx r q (.slice a n c), .int .i64 x, .int .i64 y] w fun e w' => e = .returned (.int .i64 (wantI C r q x y n)) ∧ Below w.heap.size w w' := by
  by_cases h : InM r q x y n
  · have hf := h.2.2
    obtain ⟨r', q', i, j, rfl, rfl, rfl, rfl, hi, hj, hrq⟩ := h.nat
    have e : wantI C r' q' i j n = C.getD (j * r' + i) 0 := by unfold wantI; rw [if_pos h]; simp
    rw [e]
    exact refCell_ok r' q' i j n a c C hC hn h16 hf hi hj w hw
  · have e : wantI C r q x y n = -1 := if_neg h
    rw [e]
    exact refCell_no r q a n c x y h w
/-- A row's bins, or none. -/
def rowR (C : List Int) (r q x : Int) (n : Nat) : List Int := if (0 ≤ x ∧ x < r) ∧ fitB r q n = true then rowL C r.toNat q.toNat x.toNat else []
theorem rowM_any (r q x : Int) (a : Option Addr) (n c : Nat) (C : List Int) (hC : C.length = n) (hn : n ≤ 1048576) (h16 : In16 C) (w : World) (hw : HoldsE KW w a C) :
    Calls Try.prog 21 #[mx r q (.slice a n c), .int .i64 x] w fun e w' => (∃ a2 c2, e = .returned (.slice a2 (rowR C r q x n).length c2) ∧ HoldsE KN w' a2 (rowR C r q x n)) ∧ Below w.heap.size w w' := by
  by_cases h : (0 ≤ x ∧ x < r) ∧ fitB r q n = true
  · obtain ⟨h1, hf⟩ := h
    obtain ⟨k1, k2, k3⟩ := of_decide_eq_true hf
    obtain ⟨r', rfl⟩ := Int.eq_ofNat_of_zero_le k1.1
    obtain ⟨q', rfl⟩ := Int.eq_ofNat_of_zero_le k2.1
    obtain ⟨i, rfl⟩ := Int.eq_ofNat_of_zero_le h1.1
    have e : rowR C r' q' i n = rowL C r' q' i := by unfold rowR; rw [if_pos ⟨h1, hf⟩]; simp
    rw [e, rowL_len]
    refine (rowM_ok r' q' i n a c C hC hn h16 hf (by omega) w hw).mono ?_
    rintro e w' ⟨⟨g, rfl, _, hL⟩, b⟩
    exact ⟨⟨_, _, rfl, hL.holds⟩, b⟩
  · have e : rowR C r q x n = [] := if_neg h
    rw [e]
    refine (rowM_no r q a n c x h w).mono ?_
    rintro e w' ⟨rfl, b⟩
    exact ⟨⟨_, _, rfl, .inl rfl⟩, b⟩
theorem row_none {C : List Int} {r q x : Int} {n : Nat} (hC : C.length = n) (h16 : In16 C) (h : wantI C r q x 0 n < 0) : (rowR C r q x n).length = 0 := by
  unfold rowR
  by_cases h1 : (0 ≤ x ∧ x < r) ∧ fitB r q n = true
  · rw [if_pos h1, rowL_len]
    by_cases hq : 0 < q
    · have hin : InM r q x 0 n := ⟨h1.1, by omega, h1.2⟩
      unfold wantI at h
      rw [if_pos hin] at h
      obtain ⟨r', q', i, j, rfl, rfl, rfl, hj0, hi, hj, hrq⟩ := hin.nat
      have := idx_lt hrq hi hj
      have hz := (h16.at (show j * r' + i < C.length by omega)).1
      obtain rfl : j = 0 := by omega
      simp only [Int.toNat_natCast, Int.toNat_zero] at h
      omega
    · omega
  · rw [if_neg h1]; rfl
theorem row_some {C : List Int} {r q x : Int} {n : Nat} (h : 0 ≤ wantI C r q x 0 n) : ((rowR C r q x n).length : Int) = q ∧ ∀ j, j < (rowR C r q x n).length → (rowR C r q x n).getD j 0 = wantI C r q x j n := by
  have hin : InM r q x 0 n := by
    unfold wantI at h
    by_cases h' : InM r q x 0 n
    · exact h'
    · rw [if_neg h'] at h; omega
  have h1 : (0 ≤ x ∧ x < r) ∧ fitB r q n = true := ⟨hin.1, hin.2.2⟩
  have hq : 0 < q := hin.2.1.2
  have e : rowR C r q x n = rowL C r.toNat q.toNat x.toNat := if_pos h1
  rw [e, rowL_len]
  refine ⟨by omega, fun j hj => ?_⟩
  rw [rowL_at _ _ _ _ _ hj]
  unfold wantI
  rw [if_pos ⟨hin.1, ⟨by omega, by omega⟩, hin.2.2⟩, Int.toNat_natCast]
/-- What the walk's worlds hold: the matrix, its cells, and what was there ahead of all as it was. -/
structure MatS (N : Nat) (r q : Int) (a : Option Addr) (n c : Nat) (C : List Int) (w0 w : World) : Prop where
  on : M3 N r q (.slice a n c) w
  ho : HoldsE KW w a C
  bel : Below w0.heap.size w0 w
theorem MatS.below {N : Nat} {r q : Int} {a : Option Addr} {n c : Nat} {C : List Int} {w0 w w' : World} (h : MatS N r q a n c C w0 w) (b : Below w.heap.size w w') : MatS N r q a n c C w0 w' := ⟨h.on.on b, h.ho.below b, h.bel.trans (b.mono h.bel.size)⟩
theorem MatS.drew {N : Nat} {r q : Int} {a : Option Addr} {n c : Nat} {C : List Int} {w0 w : World} (h : MatS N r q a n c C w0 w) : MatS N r q a n c C w0 w.drew := h.below (Below.refl _ w).drew
theorem MatS.cells {N : Nat} {r q : Int} {a : Option Addr} {n c : Nat} {C : List Int} {w0 w : World} (h : MatS N r q a n c C w0 w) : w.cell? ⟨N, 0, none⟩ = some (.int .i64 r) ∧ w.cell? ⟨N, 1, none⟩ = some (.int .i64 q) ∧ w.cell? ⟨N, 2, none⟩ = some (.slice a n c) := ⟨h.on.c0, h.on.c1, h.on.c2⟩
theorem MatS.start (r q : Int) (a : Option Addr) (n c : Nat) (C : List Int) (w : World) (h : HoldsE KW w a C) : MatS w.heap.size r q a n c C w (lay3 w r q (.slice a n c)) := ⟨lay3_m w r q (.slice a n c), h.below (lay3_below w r q (.slice a n c)), lay3_below w r q (.slice a n c)⟩

end Go.Proofs.Ytjaogmbeoldefaa
