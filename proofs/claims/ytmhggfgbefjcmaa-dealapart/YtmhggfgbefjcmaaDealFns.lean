/-
  THE SMALL FUNCTIONS OF deal: the bounds' test, the row 0, 1, .., the change of two places, and the closures that are handed on. Conditions: the places are within the row; no more than 2^20 things.
-/
import Derived.Test.YtmhggfgbefjcmaaRowi
import Derived.Deep.RegionHeld3
namespace Go.Proofs.Ytmhggfgbefjcmaa
open Go.RowKit

theorem may_any (n : Int) (w : World) :
    Calls Try.prog 20 #[.int .i64 n] w fun e w' => e = .returned (.bool (decide (0 ≤ n) && decide (n ≤ 1048576))) ∧ w = w' := by
  by_cases h0 : 0 ≤ n
  · by_cases h1 : n ≤ 1048576
    · go_enter Try.func20, Try.ntmps20
      go_wp2
      go_ret
      exact ⟨by simp [h0, h1], rfl⟩
    · go_enter Try.func20, Try.ntmps20
      go_wp2
      go_ret
      exact ⟨by simp [h1], rfl⟩
  · go_enter Try.func20, Try.ntmps20
    go_wp2
    go_ret
    exact ⟨by rw [decide_eq_false (by omega : ¬ 0 ≤ n)]; rfl, rfl⟩

/-- 0, 1, .. up to n - 1. -/
def upto (n : Nat) : List Int := (List.range n).map (fun i : Nat => (i : Int))
theorem upto_len (n : Nat) : (upto n).length = n := by simp [upto]
theorem upto_getD (n j : Nat) (h : j < n) : (upto n).getD j 0 = j := by simp [upto, List.getD_eq_getElem?_getD, h]
/-- The first j of the row are laid, the rest are 0. -/
def part (n j : Nat) : List Int := upto j ++ List.replicate (n - j) 0
theorem part_len (n j : Nat) (h : j ≤ n) : (part n j).length = n := by simp [part, upto_len]; omega
theorem part_zero (n : Nat) : part n 0 = List.replicate n 0 := by simp [part, upto]
theorem part_full (n : Nat) : part n n = upto n := by simp [part]
theorem part_set (n j : Nat) (h : j < n) : (part n j).set j (j : Int) = part n (j + 1) := by
  unfold part
  rw [List.set_append_right _ _ (by rw [upto_len]; omega), upto_len, Nat.sub_self, show n - j = (n - (j + 1)) + 1 by omega, List.replicate_succ]
  simp [upto, List.range_succ]

set_option maxHeartbeats 400000 in
theorem inOrder_any (n : Nat) (hn : n ≤ 1048576) (w : World) :
    Calls Try.prog 21 #[.int .i64 (n : Int)] w fun e w' => e = .returned (.slice (some ⟨w.heap.size, 0, none⟩) n n) ∧ Ints w.heap.size (upto n) w' ∧ Below w.heap.size w w' := by
  have hmk := run_made w n hn
  have HI := Lib.hid (Ints.made w (List.replicate n 0))
  have HB := Lib.hid ((Below.refl w.heap.size w).alloc (Nat.le_refl _) (.cells ((List.replicate n (0 : Int)).map (Value.int .i64)).toArray 3))
  generalize (Obj.cells ((List.replicate n (0 : Int)).map (Value.int .i64)).toArray 3) = ob at *
  go_enter Try.func21, Try.ntmps21
  go_wp2_with fail
  go_loopw [9] (fun i wr => ∃ j : Nat, j ≤ n ∧ i = .int .i64 j ∧ Below w.heap.size w wr ∧ Ints w.heap.size (part n j) wr) (fun i _ => n - (intOf i).toNat)
  case atStart => exact ⟨0, by omega, rfl, HB.out, by rw [part_zero]; exact HI.out⟩
  case round =>
    obtain ⟨j, hj, rfl, hB, hI⟩ := hrel
    by_cases hlt : j < n
    · have hl := part_len n j hj
      have c := hI.cell j (by omega)
      have f := hI.frozen j (by omega)
      have HI2 := Lib.hid (hI.set j j (by omega))
      rw [part_set n j hlt] at HI2
      have HB2 := Lib.hid (hB.setCell (p := ⟨w.heap.size, j, none⟩) (Nat.le_refl _) (.int .i64 (j : Int)))
      clear hI hB
      go_wp2_with fail
      go_roundw
      case rel => exact ⟨j + 1, by omega, by go_num, HB2.out, HI2.out⟩
      case measure => simp [intOf]; omega
    · have hj2 : j = n := by omega
      subst hj2
      rw [part_full] at hI
      go_wp2_with fail
      go_ret
      exact ⟨rfl, hI, hB⟩

/-- Two places changed. -/
def swapL (l : List Int) (i j : Nat) : List Int := (l.set i (l.getD j 0)).set j (l.getD i 0)
theorem swapL_len (l : List Int) (i j : Nat) : (swapL l i j).length = l.length := by simp [swapL]

set_option maxHeartbeats 1000000 in
theorem swap_any (g n cap : Nat) (l : List Int) (i j : Nat) (hi : i < n) (hj : j < n) (hn : l.length = n) (_hb : n ≤ 1048576) (w : World) (hI : Ints g l w) :
    Calls Try.prog 25 #[.slice (some ⟨g, 0, none⟩) n cap, .int .i64 (i : Int), .int .i64 (j : Int)] w fun e w' => e = .returned (.tuple #[]) ∧ Ints g (swapL l i j) w' ∧ But g w w' := by
  obtain ⟨x, HX⟩ : ∃ x, Hid (l.getD i 0 = x) := ⟨_, rfl⟩
  obtain ⟨y, HY⟩ : ∃ y, Hid (l.getD j 0 = y) := ⟨_, rfl⟩
  have ci := hI.cell i (by omega)
  have cj := hI.cell j (by omega)
  have fi := hI.frozen i (by omega)
  have fj := hI.frozen j (by omega)
  rw [HX.out] at ci
  rw [HY.out] at cj
  have hi0 : (0 : Int) ≤ (i : Int) := by omega
  have hj0 : (0 : Int) ≤ (j : Int) := by omega
  have hi1 : (i : Int) < (n : Int) := by omega
  have hj1 : (j : Int) < (n : Int) := by omega
  have HS := Lib.hid ((hI.set i y (by omega)).set j x (by simp; omega))
  have HB := Lib.hid ((But.setCell g i w (.int .i64 y)).trans (But.setCell g j _ (.int .i64 x)))
  obtain ⟨v, cv⟩ : ∃ v, (w.setCell ⟨g, i, none⟩ (.int .i64 y)).cell? ⟨g, j, none⟩ = some v := ⟨_, (hI.set i y (by omega)).cell j (by simp; omega)⟩
  clear hI
  go_enter Try.func25, Try.ntmps25
  go_wp2_with fail
  go_region
  go_end0
  refine ⟨rfl, ?_, HB.out.drew⟩
  have := HS.out
  unfold swapL
  rw [HX.out, HY.out]
  exact ⟨this.lt, this.cell, this.frozen⟩

theorem fewer_any (n : Int) (w : World) :
    Calls Try.prog 23 #[.int .i64 n] w fun e w' => e = .returned (.func (.func 35) #[] #[.pointer (some ⟨w.heap.size, 0, none⟩)]) ∧ w.alloc (.cells #[.int .i64 n] 3) = w' := by
  have hmf : ∀ (fn : Fn) (first cap : Array Value) (w : World), (Instr.makeFunc fn first cap).run Try.prog w = .ok (.func fn first cap) w := fun _ _ _ _ => rfl
  go_enter Try.func23, Try.ntmps23
  go_wp2
  go_ret
  exact ⟨rfl, rfl⟩

theorem fewer1_any (c : Nat) (n i : Int) (h0 : 0 ≤ i) (h1 : i ≤ n) (h2 : n ≤ 1048576) (w : World) (hc : w.cell? ⟨c, 0, none⟩ = some (.int .i64 n)) :
    Calls Try.prog 35 #[.int .i64 i, .pointer (some ⟨c, 0, none⟩)] w fun e w' => e = .returned (.int .i64 (n - i)) ∧ w = w' := by
  go_enter Try.func35, Try.ntmps35
  go_wp2
  go_ret
  exact ⟨rfl, rfl⟩

theorem deal1_any (c : Nat) (n i : Int) (w : World) (hc : w.cell? ⟨c, 0, none⟩ = some (.int .i64 n)) :
    Calls Try.prog 32 #[.int .i64 i, .pointer (some ⟨c, 0, none⟩)] w fun e w' => e = .returned (.int .i64 n) ∧ w = w' := by
  go_enter Try.func32, Try.ntmps32
  go_wp2
  go_ret
  exact ⟨rfl, rfl⟩

set_option maxHeartbeats 400000 in
theorem perm1_any (cl cn g n i x cap : Nat) (l : List Int) (hi : i < n) (hx : x < n) (hn : l.length = n) (hb : n ≤ 1048576) (w : World) (hI : Ints g l w)
    (c1 : w.cell? ⟨cl, 0, none⟩ = some (.slice (some ⟨g, 0, none⟩) n cap)) (c2 : w.cell? ⟨cn, 0, none⟩ = some (.int .i64 n)) :
    Calls Try.prog 24 #[.int .i64 (i : Int), .int .i64 (x : Int), .pointer (some ⟨cl, 0, none⟩), .pointer (some ⟨cn, 0, none⟩)] w fun e w' => e = .returned (.tuple #[]) ∧ Ints g (swapL l (n - 1 - i) x) w' ∧ But g w w' := by
  have hs := swap_any g n cap l (n - 1 - i) x (by omega) hx hn hb w hI
  rw [show ((n - 1 - i : Nat) : Int) = (n : Int) - 1 - i by omega] at hs
  clear hI
  go_enter Try.func24, Try.ntmps24
  go_wp2_with fail
  refine hs.mono ?_
  rintro e w1 ⟨rfl, hI, hB⟩
  go_wp2_with fail
  go_end0
  exact ⟨rfl, hI, hB⟩

set_option maxHeartbeats 400000 in
theorem choose1_any (cl g n i x cap : Nat) (l : List Int) (hx : i + x < n) (hn : l.length = n) (hb : n ≤ 1048576) (w : World) (hI : Ints g l w)
    (c1 : w.cell? ⟨cl, 0, none⟩ = some (.slice (some ⟨g, 0, none⟩) n cap)) :
    Calls Try.prog 28 #[.int .i64 (i : Int), .int .i64 (x : Int), .pointer (some ⟨cl, 0, none⟩)] w fun e w' => e = .returned (.tuple #[]) ∧ Ints g (swapL l i (i + x)) w' ∧ But g w w' := by
  have hs := swap_any g n cap l i (i + x) (by omega) hx hn hb w hI
  rw [show ((i + x : Nat) : Int) = (i : Int) + x by omega] at hs
  clear hI
  go_enter Try.func28, Try.ntmps28
  go_wp2_with fail
  refine hs.mono ?_
  rintro e w1 ⟨rfl, hI, hB⟩
  go_wp2_with fail
  go_end0
  exact ⟨rfl, hI, hB⟩

/-- One more of row x. -/
def addOne (l : List Int) (x : Nat) : List Int := l.set x (l.getD x 0 + 1)
theorem addOne_len (l : List Int) (x : Nat) : (addOne l x).length = l.length := by simp [addOne]

set_option maxHeartbeats 400000 in
theorem deal2_any (cl g n x cap : Nat) (i : Int) (l : List Int) (hx : x < n) (hn : l.length = n) (_hb : n ≤ 1048576) (h0 : 0 ≤ l.getD x 0) (h1 : l.getD x 0 ≤ 4194304) (w : World) (hI : Ints g l w)
    (c1 : w.cell? ⟨cl, 0, none⟩ = some (.slice (some ⟨g, 0, none⟩) n cap)) :
    Calls Try.prog 33 #[.int .i64 i, .int .i64 (x : Int), .pointer (some ⟨cl, 0, none⟩)] w fun e w' => e = .returned (.tuple #[]) ∧ Ints g (addOne l x) w' ∧ But g w w' := by
  have HS := Lib.hid (hI.set x (l.getD x 0 + 1) (by omega))
  have cx := hI.cell x (by omega)
  have fx := hI.frozen x (by omega)
  have HB := Lib.hid (But.setCell g x w (.int .i64 (l.getD x 0 + 1)))
  have HA : Hid (addOne l x = l.set x (l.getD x 0 + 1)) := rfl
  generalize l.getD x 0 = y at *
  clear hI
  go_enter Try.func33, Try.ntmps33
  go_wp2_with fail
  go_end0
  refine ⟨rfl, ?_, HB.out⟩
  rw [HA.out]
  exact HS.out
end Go.Proofs.Ytmhggfgbefjcmaa
