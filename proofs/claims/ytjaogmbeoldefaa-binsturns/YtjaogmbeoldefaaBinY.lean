/-
  TURN, whatever the column and the numbers, by the program and by the document. Condition: at most 2^20 cells and numbers.
-/
import Derived.Test.YtjaogmbeoldefaaBinX
import Derived.Test.YtjaogmbeoldefaaBinM
namespace Go.Proofs.Ytjaogmbeoldefaa
open Go.RowKit

theorem MayTurn.nat {r q x : Int} {n : Nat} {p : List Int} (h : MayTurn r q x n p) : ∃ r' q' j : Nat, r = (r' : Int) ∧ q = (q' : Int) ∧ x = (j : Int) ∧ j < q' ∧ r' * q' = n ∧ p.length = r' ∧ q' ≤ 16777216 := by
  obtain ⟨h1, h2, h3⟩ := h
  obtain ⟨k1, k2, k3⟩ := of_decide_eq_true h2
  obtain ⟨r', rfl⟩ := Int.eq_ofNat_of_zero_le k1.1
  obtain ⟨q', rfl⟩ := Int.eq_ofNat_of_zero_le k2.1
  obtain ⟨j, rfl⟩ := Int.eq_ofNat_of_zero_le h1.1
  rw [← Int.natCast_mul] at k3
  exact ⟨r', q', j, rfl, rfl, rfl, by omega, by omega, (permB_is h3).1, by omega⟩
/-- The cells with this column turned. -/
def turnI (C : List Int) (r x : Int) (p : List Int) : List Int := turnL C r.toNat x.toNat p
theorem turnM_yes (r q x : Int) (a aP : Option Addr) (n c nP cP : Nat) (C p : List Int) (hC : C.length = n) (hn : n ≤ 1048570) (hP : p.length = nP) (h64 : In64s p) (h : MayTurn r q x n p) (hcc : n ≤ c) (ha : a = none → c = 0) (w : World) (hw : HoldsE KW w a C) (hp : HoldsE KN w aP p) :
    Calls Try.prog 24 #[mx r q (.slice a n c), .int .i64 x, .slice aP nP cP] w fun e w' => GotT e w' w.heap.size r q n (turnI C r x p) ∧ Below w.heap.size w w' := by
  have h' := h
  obtain ⟨r', q', j, rfl, rfl, rfl, hj, hrq, hpl, hq⟩ := h.nat
  obtain ⟨_, hf, hg⟩ := h'
  unfold turnI
  rw [Int.toNat_natCast, Int.toNat_natCast]
  by_cases hr : 0 < r'
  · exact turnM_pos r' q' j n a aP c nP cP C p hC hn hP h64 hf hj hg hr hcc w hw hp
  · obtain rfl : r' = 0 := by omega
    rw [Nat.zero_mul] at hrq
    subst hrq
    obtain rfl : C = [] := List.eq_nil_of_length_eq_zero hC
    exact turnM_zero q' j a aP c nP cP p hP h64 hq hj hg ha w hp
theorem refTurn_yes (r q x : Int) (a aP : Option Addr) (n c nP cP : Nat) (C p : List Int) (hC : C.length = n) (hn : n ≤ 1048570) (hP : p.length = nP) (hPb : nP ≤ 1048576) (h : MayTurn r q x n p) (w : World) (hw : HoldsE KW w a C) (hp : HoldsE KN w aP p) :
    Calls Try.prog 25 #[mx r q (.slice a n c), .int .i64 x, .slice aP nP cP] w fun e w' => GotT e w' w.heap.size r q n (turnI C r x p) ∧ Below w.heap.size w w' := by
  have h' := h
  obtain ⟨r', q', j, rfl, rfl, rfl, hj, hrq, hpl, hq⟩ := h.nat
  obtain ⟨_, hf, hg⟩ := h'
  unfold turnI
  rw [Int.toNat_natCast, Int.toNat_natCast]
  exact refTurn_ok r' q' j n a aP c nP cP C p hC hn hP hPb hf hj hg w hw hp
theorem turnI_len (C : List Int) (r x : Int) (p : List Int) : (turnI C r x p).length = C.length := turnL_len _ _ _ _
theorem turnI_16 {C : List Int} (h : In16 C) (r x : Int) (p : List Int) : In16 (turnI C r x p) := by
  intro z hz
  unfold turnI turnL turnTo at hz
  obtain ⟨t, ht, rfl⟩ := List.mem_map.1 hz
  have aux : ∀ k, 0 ≤ C.getD k 0 ∧ C.getD k 0 < 65536 := fun k => by
    by_cases hk : k < C.length
    · exact h.at hk
    · rw [List.getD_eq_getElem?_getD, List.getElem?_eq_none (by omega)]
      exact ⟨by decide, by decide⟩
  split
  · exact aux _
  · exact aux _
theorem holds_got {w : World} {a : Option Addr} {B : Nat} {D : List Int} (h : D = [] ∨ ∃ g, a = some ⟨g, 0, none⟩ ∧ B ≤ g ∧ Lst KW g 0 D w) : HoldsE KW w a D := by
  rcases h with h | ⟨g, h1, _, h2⟩
  · exact .inl h
  · rw [h1]; exact h2.holds

set_option maxHeartbeats 1000000 in
theorem turns_great (r q x : Int) (a aP : Option Addr) (n c nP cP : Nat) (h : greatB r q n = true ∨ 200 < nP) (w : World) :
    Calls Try.prog 5 #[mx r q (.slice a n c), .int .i64 x, .slice aP nP cP] w fun e w' => e = .returned (.bool true) ∧ Below w.heap.size w w' := by
  have HB := lay3_below w r q (.slice a n c)
  have cg := great_any r q a n c (lay3 w r q (.slice a n c))
  have HH := Lib.hid h
  unfold mx at *
  clear h
  cases hg : greatB r q n with
  | true =>
    rw [hg] at cg
    clear hg HH
    go_enter Try.func5, Try.ntmps5
    go_wp2_with fail
    refine cg.mono ?_
    rintro e w1 ⟨rfl, b1⟩
    have HB1 := HB.trans (b1.mono HB.size)
    clear cg HB b1
    go_wp2_with fail
    refine (bfixed_any w1).mono ?_
    rintro e w2 ⟨rfl, b2⟩
    have HB2 := Lib.hid (HB1.trans (b2.mono HB1.size))
    clear b2 HB1
    go_wp2_with fail
    go_ret
    exact ⟨rfl, HB2.out⟩
  | false =>
    rw [hg] at cg
    have h2 : (200 : Int) < (nP : Int) := by
      rcases HH.out with h | h
      · rw [hg] at h; cases h
      · omega
    clear hg HH
    go_enter Try.func5, Try.ntmps5
    go_wp2_with fail
    refine cg.mono ?_
    rintro e w1 ⟨rfl, b1⟩
    have HB1 := HB.trans (b1.mono HB.size)
    clear cg HB b1
    go_wp2_with fail
    refine (bfixed_any w1).mono ?_
    rintro e w2 ⟨rfl, b2⟩
    have HB2 := Lib.hid (HB1.trans (b2.mono HB1.size))
    clear b2 HB1
    go_wp2_with fail
    go_ret
    exact ⟨rfl, HB2.out⟩
end Go.Proofs.Ytjaogmbeoldefaa
