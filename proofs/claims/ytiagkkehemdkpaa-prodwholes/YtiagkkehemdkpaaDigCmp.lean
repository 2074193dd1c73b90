/-
  THE DOCUMENT'S COMPARISON of rows of digits, and of long numbers place by place. Condition: digits, as many of each.
-/
import Derived.Test.YtiagkkehemdkpaaDigRow
namespace Go.Proofs.Ytiagkkehemdkpaa
open Go.RowKit

theorem drawn {B : Nat} {w0 w : World} (h : Below B w0 w) (n : Nat) : Below B w0 (w.drewN n) := ⟨h.os, h.tape, h.output, h.size, h.block⟩

set_option maxHeartbeats 1000000 in
theorem compare_rows (ga gb n ca cb : Nat) (a b : List Int) (ha : a.length = n) (hb : b.length = n) (h8 : n ≤ 100) (da : Dig a) (db : Dig b) (w : World) (na : Nums ga a w) (nb : Nums gb b w) :
    Calls Try.prog 37 #[.slice (some ⟨ga, 0, none⟩) n ca, .slice (some ⟨gb, 0, none⟩) n cb] w fun e w' => e = .returned (.int .i64 (cmpI (val a) (val b))) ∧ Below w.heap.size w w' := by
  have HL := Lib.hid (fun i hi ht h => cmpI_lt (val_lt a b i da db (by omega) hi ht h))
  have HG := Lib.hid (fun i hi ht h => cmpI_gt (val_lt b a i db da (by omega) hi ht h))
  have HE := Lib.hid (fun ht => cmpI_eq (val_eq a b (by omega) ht))
  have wn : wrap64 ((n : Int) - 1) = (n : Int) - 1 := by unfold wrap64; omega
  clear da db
  go_enter Try.func37, Try.ntmps37
  go_wp2_with fail
  go_loopw [5] (fun i wr => ∃ j : Nat, j ≤ n ∧ i = .int .i64 ((j : Int) - 1) ∧ Nums ga a wr ∧ Nums gb b wr ∧ Below w.heap.size w wr ∧ Hid (∀ t, j ≤ t → t < n → a.getD t 0 = b.getD t 0)) (fun i _ => (intOf i + 1).toNat)
  case atStart => exact ⟨n, by omega, rfl, na, nb, Below.refl _ _, fun t h1 h2 => by omega⟩
  case round =>
    obtain ⟨j, hj, rfl, na, nb, hB, HT⟩ := hrel
    match j, hj, HT with
    | 0, hj, HT =>
      have HR : Hid (cmpI (val a) (val b) = 0) := HE.out (fun t ht => HT.out t (by omega) (by omega))
      have hneg : decide (0 ≤ ((0 : Nat) : Int) - 1) = false := by decide
      clear HL HG HE HT
      go_wp2_with fail
      go_ret
      exact ⟨by rw [HR.out]; rfl, hB⟩
    | j + 1, hj, HT =>
      have e0 : ((j + 1 : Nat) : Int) - 1 = (j : Int) := by omega
      rw [e0]
      obtain ⟨x, HX⟩ : ∃ x, Hid (a.getD j 0 = x) := ⟨_, rfl⟩
      obtain ⟨y, HY⟩ : ∃ y, Hid (b.getD j 0 = y) := ⟨_, rfl⟩
      have c1 := na.cell j (by omega)
      have c2 := nb.cell j (by omega)
      rw [HX.out] at c1
      rw [HY.out] at c2
      have j0 : (0 : Int) ≤ (j : Int) := by omega
      have j1 : (j : Int) < (n : Int) := by omega
      rcases Int.lt_trichotomy x y with h | h | h
      · have HR : Hid (cmpI (val a) (val b) = -1) := HL.out j (by omega) (fun t h1 h2 => HT.out t (by omega) (by omega)) (by rw [HX.out, HY.out]; exact h)
        have HNA := Lib.hid na
        have HNB := Lib.hid nb
        clear HL HG HE HT na nb e0
        go_wp2_with fail
        go_quiet (fail)
        go_wp2_with fail
        go_ret
        exact ⟨by rw [HR.out]; rfl, drawn hB _⟩
      · subst h
        have HT2 : Hid (∀ t, j ≤ t → t < n → a.getD t 0 = b.getD t 0) := fun t h1 h2 => by
          by_cases e : t = j
          · subst e; rw [HX.out, HY.out]
          · exact HT.out t (by omega) h2
        have d1 : decide (x < x) = false := by simp
        have HNA := Lib.hid na
        have HNB := Lib.hid nb
        clear HL HG HE HT na nb e0
        go_wp2_with fail
        go_quiet (fail)
        go_wp2_with fail
        go_quiet (fail)
        go_wp2_with fail
        go_roundw
        case rel => exact ⟨j, by omega, by go_num, HNA.out.drewN _, HNB.out.drewN _, drawn hB _, HT2⟩
        case measure => simp [intOf]
      · have HR : Hid (cmpI (val a) (val b) = 1) := HG.out j (by omega) (fun t h1 h2 => (HT.out t (by omega) (by omega)).symm) (by rw [HX.out, HY.out]; exact h)
        have d1 : decide (x < y) = false := by simp; omega
        have HNA := Lib.hid na
        have HNB := Lib.hid nb
        clear HL HG HE HT na nb e0
        go_wp2_with fail
        go_quiet (fail)
        go_wp2_with fail
        go_quiet (fail)
        go_wp2_with fail
        go_ret
        exact ⟨by rw [HR.out]; rfl, drawn (drawn hB _) _⟩

set_option maxHeartbeats 1000000 in
theorem refCmpLong_any (a0 a1 a2 b0 b1 b2 : Int) (w : World) :
    Calls Try.prog 18 #[.agg #[.int .u64 a0, .int .u64 a1, .int .u64 a2], .agg #[.int .u64 b0, .int .u64 b1, .int .u64 b2]] w fun e w' =>
      e = .returned (.int .i64 (cmpL a0 a1 a2 b0 b1 b2)) ∧ Below w.heap.size w w' := by
  have HB : Hid (Below w.heap.size w ((w.alloc (.cells #[.int .u64 a0, .int .u64 a1, .int .u64 a2] 30)).alloc (.cells #[.int .u64 b0, .int .u64 b1, .int .u64 b2] 30))) := ((Below.refl _ w).alloc (Nat.le_refl _) _).alloc (by simp) _
  have HX : Hid (At3 w.heap.size a0 a1 a2 ((w.alloc (.cells #[.int .u64 a0, .int .u64 a1, .int .u64 a2] 30)).alloc (.cells #[.int .u64 b0, .int .u64 b1, .int .u64 b2] 30))) := (At3.new w a0 a1 a2).alloc _
  have HY : Hid (At3 (w.heap.size + 1) b0 b1 b2 ((w.alloc (.cells #[.int .u64 a0, .int .u64 a1, .int .u64 a2] 30)).alloc (.cells #[.int .u64 b0, .int .u64 b1, .int .u64 b2] 30))) := by
    have := At3.new (w.alloc (.cells #[.int .u64 a0, .int .u64 a1, .int .u64 a2] 30)) b0 b1 b2
    rw [show (w.alloc (.cells #[.int .u64 a0, .int .u64 a1, .int .u64 a2] 30)).heap.size = w.heap.size + 1 by simp] at this
    exact this
  have HC : Hid (∀ j, j < 3 → (∀ t, t < j → [a0, a1, a2].getD t 0 = [b0, b1, b2].getD t 0) → [a0, a1, a2].getD j 0 ≠ [b0, b1, b2].getD j 0 → cmpL a0 a1 a2 b0 b1 b2 = cmpI ([a0, a1, a2].getD j 0) ([b0, b1, b2].getD j 0)) := by
    intro j hj ht hn
    unfold cmpL
    match j, hj with
    | 0, _ => rw [if_neg (show ¬ a0 = b0 from hn)]; rfl
    | 1, _ => rw [if_pos (show a0 = b0 from ht 0 (by omega)), if_neg (show ¬ a1 = b1 from hn)]; rfl
    | 2, _ => rw [if_pos (show a0 = b0 from ht 0 (by omega)), if_pos (show a1 = b1 from ht 1 (by omega))]; rfl
  have HE : Hid ((∀ t, t < 3 → [a0, a1, a2].getD t 0 = [b0, b1, b2].getD t 0) → cmpL a0 a1 a2 b0 b1 b2 = 0) := by
    intro ht
    unfold cmpL
    rw [if_pos (show a0 = b0 from ht 0 (by omega)), if_pos (show a1 = b1 from ht 1 (by omega)), cmpI_eq (show a2 = b2 from ht 2 (by omega))]
  go_enter Try.func18, Try.ntmps18
  go_wp2_with fail
  go_loopw [5] (fun i wr => ∃ j : Nat, j ≤ 3 ∧ i = .int .i64 j ∧ Below w.heap.size w wr ∧ At3 w.heap.size a0 a1 a2 wr ∧ At3 (w.heap.size + 1) b0 b1 b2 wr ∧ Hid (∀ t, t < j → [a0, a1, a2].getD t 0 = [b0, b1, b2].getD t 0)) (fun i _ => 3 - (intOf i).toNat)
  case atStart => exact ⟨0, by omega, rfl, HB.out, HX.out, HY.out, fun t ht => by omega⟩
  case round =>
    obtain ⟨j, hj, rfl, hB, hX, hY, HT⟩ := hrel
    by_cases hlt : j < 3
    · have c1 := fetch3 (m := j) (by omega) hX.c0 hX.c1 hX.c2
      have c2 := fetch3 (m := j) (by omega) hY.c0 hY.c1 hY.c2
      have HX2 := Lib.hid hX
      have HY2 := Lib.hid hY
      have HC2 := Lib.hid (HC.out j hlt HT.out)
      obtain ⟨x, H1⟩ : ∃ x, Hid ([a0, a1, a2].getD j 0 = x) := ⟨_, rfl⟩
      obtain ⟨y, H2⟩ : ∃ y, Hid ([b0, b1, b2].getD j 0 = y) := ⟨_, rfl⟩
      rw [H1.out] at c1 HC2
      rw [H2.out] at c2 HC2
      have j1 : (j : Int) < 3 := by omega
      clear hX hY HX HY HB HC HE
      rcases Int.lt_trichotomy x y with h | h | h
      · have HR : Hid (cmpL a0 a1 a2 b0 b1 b2 = -1) := (HC2.out (by omega)).trans (cmpI_lt h)
        clear HC2
        go_wp2_with fail
        go_quiet (fail)
        go_wp2_with fail
        go_ret
        exact ⟨by rw [HR.out]; rfl, drawn hB _⟩
      · subst h
        have HT2 : Hid (∀ t, t < j + 1 → [a0, a1, a2].getD t 0 = [b0, b1, b2].getD t 0) := fun t ht => by
          by_cases e : t = j
          · subst e; rw [H1.out, H2.out]
          · exact HT.out t (by omega)
        have d1 : decide (x < x) = false := by simp
        clear HC2 HT
        go_wp2_with fail
        go_quiet (fail)
        go_wp2_with fail
        go_quiet (fail)
        go_wp2_with fail
        go_roundw
        case rel => exact ⟨j + 1, by omega, by go_num, drawn hB _, HX2.out.below (drawn (Below.refl _ _) _), HY2.out.below (drawn (Below.refl _ _) _), HT2⟩
        case measure => simp [intOf]; omega
      · have HR : Hid (cmpL a0 a1 a2 b0 b1 b2 = 1) := (HC2.out (by omega)).trans (cmpI_gt h)
        have d1 : decide (x < y) = false := by simp; omega
        clear HC2
        go_wp2_with fail
        go_quiet (fail)
        go_wp2_with fail
        go_quiet (fail)
        go_wp2_with fail
        go_ret
        exact ⟨by rw [HR.out]; rfl, drawn (drawn hB _) _⟩
    · have HR : Hid (cmpL a0 a1 a2 b0 b1 b2 = 0) := HE.out (fun t ht => HT.out t (by omega))
      have hj3 : j = 3 := by omega
      subst hj3
      clear HX HY HB HC HE HT hX hY
      go_wp2_with fail
      go_ret
      exact ⟨by rw [HR.out]; rfl, hB⟩
end Go.Proofs.Ytiagkkehemdkpaa
