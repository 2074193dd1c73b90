/-
  DATASETS: wrong: the first thing that is wrong with a dataset. Conditions: at most 2^20 values and targets; values of 64 bits; rows and columns of 64 bits with a sign.
-/
import Derived.Test.YtbmbgfmhejahjaaDSmall
namespace Go.Proofs.Ytbmbgfmhejahjaa
open Go.RowKit

theorem eI_drop {α : Type} (L : α → Int) (z : α) (l : List α) (j : Nat) (hj : j < l.length) : eI L (l.drop j) = if L (l.getD j z) = 0 then eI L (l.drop (j + 1)) else L (l.getD j z) := by
  rw [List.drop_eq_getElem_cons hj]
  simp [eI, List.getD_eq_getElem?_getD, hj]

set_option maxHeartbeats 1000000 in
theorem wrongV_any (a : Option Addr) (n cap : Nat) (l : List Nat) (hl : l.length = n) (hm : n ≤ 1048576) (h64 : ∀ b ∈ l, b < 18446744073709551616) (w : World) (h : HoldsE KF w a l) :
    Calls Try.prog 41 #[.slice a n cap, .func (.func 42) #[] #[]] w fun e w' => e = .returned (.int .i64 (eI eV l)) ∧ w' = w := by
  go_enter Try.func41, Try.ntmps41
  go_wp2_with fail
  go_loopw [10] (fun v wr => ∃ j : Nat, v = .int .i64 (j : Int) ∧ j ≤ n ∧ Hid (eI eV l = eI eV (l.drop j)) ∧ wr = w) (fun v _ => n - (intOf v).toNat)
  case atStart => exact ⟨0, rfl, by omega, rfl, rfl⟩
  case round =>
    obtain ⟨j, rfl, hj, HE, rfl⟩ := hrel
    by_cases hlt : j < n
    · obtain ⟨ga, off, rfl, hga, hrow⟩ : ∃ g off, a = some ⟨g, off, none⟩ ∧ g < wr.heap.size ∧ ∀ j, j < l.length → wr.cell? ⟨g, off + j, none⟩ = some (.float .f64 (l.getD j 0)) := by
        rcases h with rfl | h'
        · simp at hl; omega
        · exact h'
      have hst := Lib.hid (eI_drop eV 0 l j (by omega))
      have cx := hrow j (by omega)
      have hb : l.getD j 0 < 18446744073709551616 := by
        rw [List.getD_eq_getElem?_getD, List.getElem?_eq_getElem (by omega)]
        exact h64 _ (List.getElem_mem _)
      obtain ⟨x, HX⟩ : ∃ x, Hid (l.getD j 0 = x) := ⟨_, rfl⟩
      rw [HX.out] at cx hb hst
      have i1 : (j : Int) < (n : Int) := by omega
      clear h hrow h64 hl
      by_cases hz : eV x = 0
      · have HE2 : Hid (eI eV l = eI eV (l.drop (j + 1))) := HE.out.trans (hst.out.trans (if_pos hz))
        have hv := value_any x hb
        rw [hz] at hv
        clear HE hst hz
        go_wp2_with (go_at_call 42; refine (hv _).mono ?_; rintro e w' ⟨rfl, rfl⟩)
        go_roundw
        case rel => exact ⟨j + 1, by go_num, by omega, HE2, trivial⟩
        case measure => simp [intOf]; omega
      · have HE2 : Hid (eI eV l = eV x) := HE.out.trans (hst.out.trans (if_neg hz))
        have hv := value_any x hb
        have g : (eV x != 0) = true := by simpa using hz
        clear HE hst hz
        generalize eV x = y at *
        go_wp2_with (go_at_call 42; refine (hv _).mono ?_; rintro e w' ⟨rfl, rfl⟩)
        go_ret
        exact ⟨by rw [HE2.out]; rfl, rfl⟩
    · have hz : Hid (eI eV l = 0) := HE.out.trans (by rw [List.drop_of_length_le (by omega)]; rfl)
      go_wp2_with fail
      go_ret
      exact ⟨by rw [hz.out]; rfl, rfl⟩

set_option maxHeartbeats 1000000 in
theorem wrongT_any (k c b t d lf p : Int) (a : Option Addr) (n cap : Nat) (l : List Int) (hl : l.length = n) (hm : n ≤ 1048576) (w : World) (h : HoldsE K64 w a l) :
    Calls Try.prog 43 #[.slice a n cap, .func (.func (wtF k)) #[cf k c b t d lf p] #[]] w fun e w' => e = .returned (.int .i64 (eI (eT k c) l)) ∧ Below w.heap.size w w' := by
  have hcall := fun x => wtF_calls k c b t d lf p x
  have hent := wtF_enters k (cf k c b t d lf p)
  generalize cf k c b t d lf p = CF at *
  generalize wtF k = F at *
  generalize eT k c = L at *
  go_enter Try.func43, Try.ntmps43
  go_wp2_with fail
  go_loopw [10] (fun v wr => ∃ j : Nat, v = .int .i64 (j : Int) ∧ j ≤ n ∧ Hid (eI L l = eI L (l.drop j)) ∧ Below w.heap.size w wr) (fun v _ => n - (intOf v).toNat)
  case atStart => exact ⟨0, rfl, by omega, rfl, Below.refl _ _⟩
  case round =>
    obtain ⟨j, rfl, hj, HE, bel⟩ := hrel
    by_cases hlt : j < n
    · obtain ⟨ga, off, rfl, hga, hrow⟩ : ∃ g off, a = some ⟨g, off, none⟩ ∧ g < w.heap.size ∧ ∀ j, j < l.length → w.cell? ⟨g, off + j, none⟩ = some (.int .i64 (l.getD j 0)) := by
        rcases h with rfl | h'
        · simp at hl; omega
        · exact h'
      have hst := Lib.hid (eI_drop L 0 l j (by omega))
      have cx := (bel.cell (by exact hga)).trans (hrow j (by omega))
      obtain ⟨x, HX⟩ : ∃ x, Hid (l.getD j 0 = x) := ⟨_, rfl⟩
      rw [HX.out] at cx hst
      have i1 : (j : Int) < (n : Int) := by omega
      have hv := hcall x wr
      clear h hrow hl
      by_cases hz : L x = 0
      · have HE2 : Hid (eI L l = eI L (l.drop (j + 1))) := HE.out.trans (hst.out.trans (if_pos hz))
        rw [hz] at hv
        clear HE hst hz hcall
        go_wp2_with fail
        refine hv.mono ?_
        rintro e w1 ⟨rfl, b1⟩
        have HB := Lib.hid (bel.trans (b1.mono bel.size))
        clear bel b1 hv cx
        go_wp2_with fail
        go_roundw
        case rel => exact ⟨j + 1, by go_num, by omega, HE2, HB.out⟩
        case measure => simp [intOf]; omega
      · have HE2 : Hid (eI L l = L x) := HE.out.trans (hst.out.trans (if_neg hz))
        have g : (L x != 0) = true := by simpa using hz
        clear HE hst hz hcall
        generalize L x = y at *
        go_wp2_with fail
        refine hv.mono ?_
        rintro e w1 ⟨rfl, b1⟩
        have HB := Lib.hid (bel.trans (b1.mono bel.size))
        clear bel b1 hv cx
        go_wp2_with fail
        go_ret
        exact ⟨by rw [HE2.out]; rfl, HB.out⟩
    · have hz : Hid (eI L l = 0) := HE.out.trans (by rw [List.drop_of_length_le (by omega)]; rfl)
      go_wp2_with fail
      go_ret
      exact ⟨by rw [hz.out]; rfl, bel⟩
end Go.Proofs.Ytbmbgfmhejahjaa
