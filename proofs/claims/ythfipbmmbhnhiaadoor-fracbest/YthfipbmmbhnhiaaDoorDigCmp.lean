/-
  THE DOCUMENT'S COMPARISON of rows of digits, and of long numbers place by place. Condition: digits, as many of each.
-/
import Derived.Test.YthfipbmmbhnhiaaDoorDigRow
namespace Go.Proofs.YthfipbmmbhnhiaaDoor
open Go.RowKit

theorem drawn {B : Nat} {w0 w : World} (h : Below B w0 w) (n : Nat) : Below B w0 (w.drewN n) := ⟨h.os, h.tape, h.output, h.size, h.block⟩

set_option maxHeartbeats 1000000 in
theorem compare_rows (ga gb n ca cb : Nat) (a b : List Int) (ha : a.length = n) (hb : b.length = n) (h8 : n ≤ 100) (da : Dig a) (db : Dig b) (w : World) (na : Nums ga a w) (nb : Nums gb b w) :
    Calls Tryd.prog 22 #[.slice (some ⟨ga, 0, none⟩) n ca, .slice (some ⟨gb, 0, none⟩) n cb] w fun e w' => e = .returned (.int .i64 (cmpI (val a) (val b))) ∧ Below w.heap.size w w' := by
  have HL := Lib.hid (fun i hi ht h => cmpI_lt (val_lt a b i da db (by omega) hi ht h))
  have HG := Lib.hid (fun i hi ht h => cmpI_gt (val_lt b a i db da (by omega) hi ht h))
  have HE := Lib.hid (fun ht => cmpI_eq (val_eq a b (by omega) ht))
  have wn : wrap64 ((n : Int) - 1) = (n : Int) - 1 := by unfold wrap64; omega
  clear da db
  go_enter Tryd.func22, Tryd.ntmps22
  go_wp2_with fail
  go_loopw [5] (fun i wr => ∃ j : Nat, j ≤ n ∧ i = .int .i64 ((j : Int) - 1) ∧ Nums ga a wr ∧ Nums gb b wr ∧ Below w.heap.size w wr ∧ Hid (∀ t, j ≤ t → t < n → a.getD t 0 = b.getD t 0)) (fun i _ => (intOf i + 1).toNat)
  case atStart => exact ⟨n, by omega, rfl, na, nb, Below.refl _ _, fun t h1 h2 => by omega⟩
  case round =>
    obtain ⟨j, hj, rfl, na, nb, hB, HT⟩ := hrel
    match j, hj, HT with
    | 0, hj, HT =>
      have HR : Hid (cmpI (val a) (val b) = 0) := HE.out (fun t ht => HT.out t (by omega) (by omega))
      have hneg : decide (0 ≤ ((0 : Nat) : Int) - 1) = false := by decide
      clear HL HG HE HT
      go_wp2_with fail
      go_ret
      exact ⟨by rw [HR.out]; rfl, hB⟩
    | j + 1, hj, HT =>
      have e0 : ((j + 1 : Nat) : Int) - 1 = (j : Int) := by omega
      rw [e0]
      obtain ⟨x, HX⟩ : ∃ x, Hid (a.getD j 0 = x) := ⟨_, rfl⟩
      obtain ⟨y, HY⟩ : ∃ y, Hid (b.getD j 0 = y) := ⟨_, rfl⟩
      have c1 := na.cell j (by omega)
      have c2 := nb.cell j (by omega)
      rw [HX.out] at c1
      rw [HY.out] at c2
      have j0 : (0 : Int) ≤ (j : Int) := by omega
      have j1 : (j : Int) < (n : Int) := by omega
      rcases Int.lt_trichotomy x y with h | h | h
      · have HR : Hid (cmpI (val a) (val b) = -1) := HL.out j (by omega) (fun t h1 h2 => HT.out t (by omega) (by omega)) (by rw [HX.out, HY.out]; exact h)
        have HNA := Lib.hid na
        have HNB := Lib.hid nb
        clear HL HG HE HT na nb e0
        go_wp2_with fail
        go_quiet (fail)
        go_wp2_with fail
        go_ret
        exact ⟨by rw [HR.out]; rfl, drawn hB _⟩
      · subst h
        have HT2 : Hid (∀ t, j ≤ t → t < n → a.getD t 0 = b.getD t 0) := fun t h1 h2 => by
          by_cases e : t = j
          · subst e; rw [HX.out, HY.out]
          · exact HT.out t (by omega) h2
        have d1 : decide (x < x) = false := by simp
        have HNA := Lib.hid na
        have HNB := Lib.hid nb
        clear HL HG HE HT na nb e0
        go_wp2_with fail
        go_quiet (fail)
        go_wp2_with fail
        go_quiet (fail)
        go_wp2_with fail
        go_roundw
        case rel => exact ⟨j, by omega, by go_num, HNA.out.drewN _, HNB.out.drewN _, drawn hB _, HT2⟩
        case measure => simp [intOf]
      · have HR : Hid (cmpI (val a) (val b) = 1) := HG.out j (by omega) (fun t h1 h2 => (HT.out t (by omega) (by omega)).symm) (by rw [HX.out, HY.out]; exact h)
        have d1 : decide (x < y) = false := by simp; omega
        have HNA := Lib.hid na
        have HNB := Lib.hid nb
        clear HL HG HE HT na nb e0
        go_wp2_with fail
        go_quiet (fail)
        go_wp2_with fail
        go_quiet (fail)
        go_wp2_with fail
        go_ret
        exact ⟨by rw [HR.out]; rfl, drawn (drawn hB _) _⟩

end Go.Proofs.YthfipbmmbhnhiaaDoor
