/-
  The document's Get: the number of so many bytes at a place of a text, and the next place. Condition: no more than 2^20 bytes, a place within.
-/
import Derived.Test.YtbmbgfmhejahjaaPut
namespace Go.Proofs.Ytbmbgfmhejahjaa
open Go.RowKit

/-- A byte of a text. -/
theorem sb_index (l : List UInt8) (i : Nat) (hi : i < l.length) (w : World) : (Instr.index 9 (.string (sb l)) (.int .i64 (i : Int))).run Try.prog w = .ok (.int .u8 ((l.getD i 0).toNat : Int)) w := by
  have h1 : (0 : Int) ≤ (i : Int) ∧ (i : Int) < ((sb l).size : Int) := by rw [sb_size]; omega
  rw [run_index_string w _ _ _ _ Try.underlying9, dif_pos h1]
  have e : (sb l)[(i : Int).toNat]'(by omega) = l.getD i 0 := by
    show l.toArray[i]'(by simpa using hi) = _
    simp [List.getD_eq_getElem?_getD, hi]
  rw [e]

theorem refGet_none (l : List UInt8) (at' : Nat) (n : Int) (ha : at' ≤ l.length) (hn : l.length < at' + cnt n) (hm : l.length ≤ 1048576) (w : World) :
    Calls Try.prog 32 #[.string (sb l), .int .i64 (at' : Int), .int .i64 n] w fun e w' => e = .returned (.tuple #[.int .u64 0, .int .i64 (at' : Int), .bool false]) ∧ w' = w := by
  have hw := count_any n
  have hs := sb_size l
  obtain ⟨k, hk⟩ : ∃ k, cnt n = k := ⟨_, rfl⟩
  rw [hk] at hn hw
  clear hk
  have g : ((sb l).size : Int) - (at' : Int) < (k : Int) := by omega
  go_enter Try.func32, Try.ntmps32
  go_wp2_with fail
  refine (hw _).mono ?_
  rintro e w1 ⟨rfl, rfl⟩
  go_wp2_with fail
  go_returns
  exact ⟨rfl, rfl⟩

theorem refGet_some (l : List UInt8) (at' : Nat) (n : Int) (hn : at' + cnt n ≤ l.length) (hm : l.length ≤ 1048576) (w : World) :
    Calls Try.prog 32 #[.string (sb l), .int .i64 (at' : Int), .int .i64 n] w fun e w' => e = .returned (.tuple #[.int .u64 (num ((l.drop at').take (cnt n)) : Int), .int .i64 ((at' + cnt n : Nat) : Int), .bool true]) ∧ w' = w := by
  have hw := count_any n
  have h8 := cnt_le n
  have hs := sb_size l
  obtain ⟨k, hk⟩ : ∃ k, cnt n = k := ⟨_, rfl⟩
  rw [hk] at hn hw h8 ⊢
  clear hk
  have g : ¬ ((sb l).size : Int) - (at' : Int) < (k : Int) := by omega
  go_enter Try.func32, Try.ntmps32
  go_wp2_with fail
  refine (hw _).mono ?_
  rintro e w1 ⟨rfl, rfl⟩
  go_wp2_with fail
  go_loop [10, 11] (fun nv iv => ∃ j : Nat, j ≤ k ∧ iv = .int .i64 (j : Int) ∧ nv = .int .u64 (num ((l.drop at').take j) : Int)) (fun _ iv => k - (intOf iv).toNat)
  case atStart => exact ⟨0, by omega, rfl, rfl⟩
  case round =>
    obtain ⟨j, hj, rfl, rfl⟩ := hrel
    by_cases hlt : j < k
    · have i1 : (j : Int) < (k : Int) := by omega
      have hjl : at' + j < l.length := by omega
      obtain ⟨x, hx⟩ : ∃ x, l.getD (at' + j) 0 = x := ⟨_, rfl⟩
      have HN : Hid (num ((l.drop at').take (j + 1)) = 256 * num ((l.drop at').take j) + x.toNat) := by
        show _ = _
        have hd : j < (l.drop at').length := by rw [List.length_drop]; omega
        rw [List.take_add_one, List.getElem?_eq_getElem hd, ← hx]
        simp only [Option.toList_some, num_snoc, List.getD_eq_getElem?_getD, List.getElem_drop, List.getElem?_eq_getElem hjl, Option.getD_some]
      have hnl : num ((l.drop at').take j) < 72057594037927936 := by
        have h1 := num_lt ((l.drop at').take j)
        have h2 : 256 ^ ((l.drop at').take j).length ≤ 256 ^ 7 := Nat.pow_le_pow_right (by decide) (by simp; omega)
        exact Nat.lt_of_lt_of_le h1 h2
      have hxl : x.toNat < 256 := x.toNat_lt
      have hix := sb_index l (at' + j) hjl
      rw [hx] at hix
      have e1 : ((at' + j : Nat) : Int) = (at' : Int) + (j : Int) := by omega
      rw [e1] at hix
      clear hx
      generalize x.toNat = y at *
      generalize num ((l.drop at').take j) = z at *
      have x1 : IntKind.u64.wrap (y : Int) = (y : Int) := by rw [IntKind.wrap_u64]; omega
      clear e1 hjl
      go_wp2_with fail
      go_round
      case rel => exact ⟨j + 1, by omega, by go_num, by rw [HN.out]; rfl⟩
      case measure => simp [intOf]; omega
    · have i1 : ¬ (j : Int) < (k : Int) := by omega
      obtain rfl : j = k := by omega
      go_wp2_with fail
      go_returns
      exact ⟨rfl, rfl⟩
end Go.Proofs.Ytbmbgfmhejahjaa
