/-
  A CELL and a row of a matrix, by the program and by the document; two matrices held against one another. Condition: at most 2^20 cells.
-/
import Derived.Test.YtjaogmbeoldefaaBinP
import Derived.Test.YtjaogmbeoldefaaRankSort
namespace Go.Proofs.Ytjaogmbeoldefaa
open Go.RowKit

/-- Numbers of 16 bits. -/
def In16 (C : List Int) : Prop := ∀ x ∈ C, 0 ≤ x ∧ x < 65536
theorem In16.at {C : List Int} (h : In16 C) {k : Nat} (hk : k < C.length) : 0 ≤ C.getD k 0 ∧ C.getD k 0 < 65536 := h _ (getD_mem hk)
theorem idx_lt {r q i j n : Nat} (h : r * q = n) (hi : i < r) (hj : j < q) : j * r + i < n ∧ j * r + r ≤ n := by
  have := Nat.mul_le_mul_right r (show j + 1 ≤ q by omega)
  rw [Nat.add_mul, Nat.one_mul, Nat.mul_comm q r, h] at this
  omega
theorem idx_wrap {r q i j n : Nat} (h : r * q = n) (hi : i < r) (hj : j < q) (hn : n ≤ 1048576) : wrap64 ((j : Int) * (r : Int)) = ((j * r : Nat) : Int) ∧ wrap64 (((j * r : Nat) : Int) + (i : Int)) = ((j * r + i : Nat) : Int) := by
  have := idx_lt h hi hj
  rw [← Int.natCast_mul]
  generalize j * r = m at *
  unfold wrap64
  omega
theorem conv16 {x : Int} (h : 0 ≤ x ∧ x < 65536) : wrap64 x = x := by
  unfold wrap64
  omega

/-- There is such a cell. -/
def InM (r q x y : Int) (n : Nat) : Prop := (0 ≤ x ∧ x < r) ∧ (0 ≤ y ∧ y < q) ∧ fitB r q n = true
theorem InM.nat {r q x y : Int} {n : Nat} (h : InM r q x y n) : ∃ r' q' i j : Nat, r = (r' : Int) ∧ q = (q' : Int) ∧ x = (i : Int) ∧ y = (j : Int) ∧ i < r' ∧ j < q' ∧ r' * q' = n := by
  obtain ⟨h1, h2, h3⟩ := h
  obtain ⟨k1, k2, k3⟩ := of_decide_eq_true h3
  refine ⟨r.toNat, q.toNat, x.toNat, y.toNat, by omega, by omega, by omega, by omega, by omega, by omega, ?_⟩
  obtain ⟨r', rfl⟩ := Int.eq_ofNat_of_zero_le k1.1
  obtain ⟨q', rfl⟩ := Int.eq_ofNat_of_zero_le k2.1
  rw [← Int.natCast_mul] at k3
  simp only [Int.toNat_natCast]
  omega
theorem fit_nat {r q n : Nat} (h : r * q = n) (hr : r ≤ 16777216) (hq : q ≤ 16777216) : fitB (r : Int) (q : Int) (n : Int) = true :=
  decide_eq_true ⟨by omega, by omega, by rw [← Int.natCast_mul, h]⟩

set_option maxHeartbeats 1000000 in
theorem cellM_no (r q : Int) (a : Option Addr) (n c : Nat) (x y : Int) (h : ¬ InM r q x y n) (w : World) :
    Calls Try.prog 19 #[mx r q (.slice a n c), .int .i64 x, .int .i64 y] w fun e w' => e = .returned (.tuple #[.int .i64 0, .bool false]) ∧ Below w.heap.size w w' := by
  have HB := Lib.hid (lay3_below w r q (.slice a n c))
  have HM := Lib.hid (lay3_m w r q (.slice a n c))
  obtain ⟨W0, hW0⟩ : ∃ W0, lay3 w r q (.slice a n c) = W0 := ⟨_, rfl⟩
  have c1 := within_any x r (lay3 w r q (.slice a n c))
  have c2 := within_any y q (lay3 w r q (.slice a n c))
  have c3 := rightM_any r q a n c (lay3 w r q (.slice a n c))
  unfold mx at *
  by_cases h1 : 0 ≤ x ∧ x < r
  · rw [decide_eq_true h1] at c1
    by_cases h2 : 0 ≤ y ∧ y < q
    · rw [decide_eq_true h2] at c2
      have h3 : fitB r q n = false := by
        cases hf : fitB r q n with
        | false => rfl
        | true => exact absurd ⟨h1, h2, hf⟩ h
      rw [h3] at c3
      clear h h1 h2 h3 hW0
      go_enter Try.func19, Try.ntmps19
      go_wp2_with fail
      refine c1.mono ?_
      rintro e w' ⟨rfl, rfl⟩
      have m0 := HM.out.c0
      have m1 := HM.out.c1
      have m2 := HM.out.c2
      go_wp2_with fail
      refine c2.mono ?_
      rintro e w' ⟨rfl, rfl⟩
      go_wp2_with fail
      refine c3.mono ?_
      rintro e w' ⟨rfl, b3⟩
      have HB2 := Lib.hid (HB.out.trans (b3.mono HB.out.size))
      clear b3 m0 m1 m2 c1 c2 c3
      go_wp2_with fail
      go_returns
      exact ⟨rfl, HB2.out⟩
    · rw [decide_eq_false h2] at c2
      clear h h1 h2 hW0 c3
      go_enter Try.func19, Try.ntmps19
      go_wp2_with fail
      refine c1.mono ?_
      rintro e w' ⟨rfl, rfl⟩
      have m1 := HM.out.c1
      go_wp2_with fail
      refine c2.mono ?_
      rintro e w' ⟨rfl, rfl⟩
      go_wp2_with fail
      go_returns
      exact ⟨rfl, HB.out⟩
  · rw [decide_eq_false h1] at c1
    clear h h1 hW0 c2 c3
    go_enter Try.func19, Try.ntmps19
    go_wp2_with fail
    refine c1.mono ?_
    rintro e w' ⟨rfl, rfl⟩
    go_wp2_with fail
    go_returns
    exact ⟨rfl, HB.out⟩

set_option maxHeartbeats 1000000 in
theorem cellM_ok (r q i j n : Nat) (a : Option Addr) (c : Nat) (C : List Int) (hC : C.length = n) (hn : n ≤ 1048576) (h16 : In16 C) (hf : fitB r q n = true) (hi : i < r) (hj : j < q) (w : World) (hw : HoldsE KW w a C) :
    Calls Try.prog 19 #[mx r q (.slice a n c), .int .i64 (i : Int), .int .i64 (j : Int)] w fun e w' => e = .returned (.tuple #[.int .i64 (C.getD (j * r + i) 0), .bool true]) ∧ Below w.heap.size w w' := by
  have HB := Lib.hid (lay3_below w r q (.slice a n c))
  have HM := Lib.hid (lay3_m w r q (.slice a n c))
  have hrq : r * q = n := by
    have := (of_decide_eq_true hf).2.2
    rw [← Int.natCast_mul] at this
    omega
  have c1 := within_any i r (lay3 w r q (.slice a n c))
  have c2 := within_any j q (lay3 w r q (.slice a n c))
  have c3 := rightM_any r q a n c (lay3 w r q (.slice a n c))
  rw [decide_eq_true (by omega)] at c1 c2
  rw [hf] at c3
  have hlt := idx_lt hrq hi hj
  have HK := Lib.hid (idx_wrap hrq hi hj hn)
  obtain ⟨g, off, rfl, hg, hrow⟩ := hw.at (show j * r + i < C.length by omega)
  obtain ⟨z, HZ⟩ : ∃ z, Hid (C.getD (j * r + i) 0 = z) := ⟨_, rfl⟩
  have hz := h16.at (show j * r + i < C.length by omega)
  have hcell := (HB.out.cell (by exact hg)).trans (hrow (j * r + i) (by omega))
  have hzz : C.getD (j * r + i) KW.z = z := HZ.out
  rw [hzz] at hcell
  clear hzz
  rw [HZ.out] at hz ⊢
  have hcl : (lay3 w r q (.slice (some ⟨g, off, none⟩) n c)).cell? ⟨g, off + (j * r + i), none⟩ = some (.int .u16 z) := hcell
  obtain ⟨m2, hm2⟩ : ∃ m2, j * r + i = m2 := ⟨_, rfl⟩
  clear hcell
  rw [hm2] at hcl hlt
  have i1 : (m2 : Int) < (n : Int) := by omega
  have i0 : (0 : Int) ≤ (m2 : Int) := by omega
  have HCV := Lib.hid (conv16 hz)
  obtain ⟨k1, k2⟩ := HK.out
  rw [hm2] at k2
  generalize j * r = m at *
  unfold mx at *
  clear hC hn h16 hf hi hj hw hrq hlt hrow hz hm2
  go_enter Try.func19, Try.ntmps19
  go_wp2_with fail
  refine c1.mono ?_
  rintro e w' ⟨rfl, rfl⟩
  have m0 := HM.out.c0
  have m1 := HM.out.c1
  have m2 := HM.out.c2
  go_wp2_with fail
  refine c2.mono ?_
  rintro e w' ⟨rfl, rfl⟩
  go_wp2_with fail
  refine c3.mono ?_
  rintro e w' ⟨rfl, b3⟩
  have HB2 := Lib.hid (HB.out.trans (b3.mono HB.out.size))
  have M2 := HM.out.on b3
  have e0 := M2.c0
  have e2 := M2.c2
  replace hcl := (b3.cell (by show g < _; have := HB.out.size; omega)).trans hcl
  clear b3 m0 m1 m2 c1 c2 c3 M2
  go_wp2_with fail
  go_returns
  exact ⟨congrArg (fun x => Ending.returned (Value.tuple #[.int .i64 x, .bool true])) HCV.out, HB2.out⟩

set_option maxHeartbeats 1000000 in
theorem refCell_no (r q : Int) (a : Option Addr) (n c : Nat) (x y : Int) (h : ¬ InM r q x y n) (w : World) :
    Calls Try.prog 20 #[mx r q (.slice a n c), .int .i64 x, .int .i64 y] w fun e w' => e = .returned (.int .i64 (-1)) ∧ Below w.heap.size w w' := by
  have HB := Lib.hid (lay3_below w r q (.slice a n c))
  have HM := Lib.hid (lay3_m w r q (.slice a n c))
  have c3 := refRightM_any r q a n c (lay3 w r q (.slice a n c))
  have HH : Hid (fitB r q n = false ∨ x < 0 ∨ x ≥ r ∨ y < 0 ∨ y ≥ q) := by
    show _ ∨ _
    cases hf : fitB r q n with
    | false => exact .inl rfl
    | true =>
      by_cases h1 : 0 ≤ x ∧ x < r
      · by_cases h2 : 0 ≤ y ∧ y < q
        · exact absurd ⟨h1, h2, hf⟩ h
        · omega
      · omega
  clear h
  unfold mx at *
  cases hf : fitB r q n with
  | false =>
    rw [hf] at c3
    clear hf
    go_enter Try.func20, Try.ntmps20
    go_wp2_with fail
    refine c3.mono ?_
    rintro e w' ⟨rfl, b3⟩
    have HB2 := Lib.hid (HB.out.trans (b3.mono HB.out.size))
    clear b3
    go_wp2_with fail
    go_ret
    exact ⟨rfl, HB2.out⟩
  | true =>
    rw [hf] at c3
    have HH2 : Hid (x < 0 ∨ x ≥ r ∨ y < 0 ∨ y ≥ q) := by
      rcases HH.out with h | h
      · rw [hf] at h; cases h
      · exact h
    clear hf HH
    go_enter Try.func20, Try.ntmps20
    go_wp2_with fail
    refine c3.mono ?_
    rintro e w' ⟨rfl, b3⟩
    have HB2 := Lib.hid (HB.out.trans (b3.mono HB.out.size))
    have M2 := HM.out.on b3
    have e0 := M2.c0
    have e1 := M2.c1
    have h := HH2.out
    clear b3 M2 c3
    by_cases h1 : x < 0
    · have g1 : decide (x < 0) = true := decide_eq_true h1
      clear h h1
      go_wp2_with fail
      go_ret
      exact ⟨rfl, HB2.out⟩
    have g1 : decide (x < 0) = false := decide_eq_false h1
    by_cases h2 : x ≥ r
    · have g2 : decide (x ≥ r) = true := decide_eq_true h2
      clear h h1 h2
      go_wp2_with fail
      go_ret
      exact ⟨rfl, HB2.out⟩
    have g2 : decide (x ≥ r) = false := decide_eq_false h2
    by_cases h3 : y < 0
    · have g3 : decide (y < 0) = true := decide_eq_true h3
      clear h h1 h2 h3
      go_wp2_with fail
      go_ret
      exact ⟨rfl, HB2.out⟩
    have g3 : decide (y < 0) = false := decide_eq_false h3
    have g4 : decide (y ≥ q) = true := decide_eq_true (by omega)
    clear h h1 h2 h3
    go_wp2_with fail
    go_ret
    exact ⟨rfl, HB2.out⟩

set_option maxHeartbeats 1000000 in
theorem refCell_ok (r q i j n : Nat) (a : Option Addr) (c : Nat) (C : List Int) (hC : C.length = n) (hn : n ≤ 1048576) (h16 : In16 C) (hf : fitB r q n = true) (hi : i < r) (hj : j < q) (w : World) (hw : HoldsE KW w a C) :
    Calls Try.prog 20 #[mx r q (.slice a n c), .int .i64 (i : Int), .int .i64 (j : Int)] w fun e w' => e = .returned (.int .i64 (C.getD (j * r + i) 0)) ∧ Below w.heap.size w w' := by
  have HB := Lib.hid (lay3_below w r q (.slice a n c))
  have HM := Lib.hid (lay3_m w r q (.slice a n c))
  have hrq : r * q = n := by
    have := (of_decide_eq_true hf).2.2
    rw [← Int.natCast_mul] at this
    omega
  have c3 := refRightM_any r q a n c (lay3 w r q (.slice a n c))
  rw [hf] at c3
  have g1 : decide ((i : Int) < 0) = false := decide_eq_false (by omega)
  have g2 : decide ((i : Int) ≥ (r : Int)) = false := decide_eq_false (by omega)
  have g2' : decide (r ≤ i) = false := decide_eq_false (by omega)
  have g3 : decide ((j : Int) < 0) = false := decide_eq_false (by omega)
  have g4 : decide ((j : Int) ≥ (q : Int)) = false := decide_eq_false (by omega)
  have g4' : decide (q ≤ j) = false := decide_eq_false (by omega)
  have hlt := idx_lt hrq hi hj
  have HK := Lib.hid (idx_wrap hrq hi hj hn)
  obtain ⟨g, off, rfl, hg, hrow⟩ := hw.at (show j * r + i < C.length by omega)
  obtain ⟨z, HZ⟩ : ∃ z, Hid (C.getD (j * r + i) 0 = z) := ⟨_, rfl⟩
  have hz := h16.at (show j * r + i < C.length by omega)
  have hcell := (HB.out.cell (by exact hg)).trans (hrow (j * r + i) (by omega))
  have hzz : C.getD (j * r + i) KW.z = z := HZ.out
  rw [hzz] at hcell
  clear hzz
  rw [HZ.out] at hz ⊢
  have hcl : (lay3 w r q (.slice (some ⟨g, off, none⟩) n c)).cell? ⟨g, off + (j * r + i), none⟩ = some (.int .u16 z) := hcell
  obtain ⟨m2, hm2⟩ : ∃ m2, j * r + i = m2 := ⟨_, rfl⟩
  clear hcell
  rw [hm2] at hcl hlt
  have i1 : (m2 : Int) < (n : Int) := by omega
  have i0 : (0 : Int) ≤ (m2 : Int) := by omega
  have HCV := Lib.hid (conv16 hz)
  obtain ⟨k1, k2⟩ := HK.out
  rw [hm2] at k2
  generalize j * r = m at *
  unfold mx at *
  clear hC hn h16 hf hi hj hw hrq hlt hrow hz hm2
  go_enter Try.func20, Try.ntmps20
  go_wp2_with fail
  refine c3.mono ?_
  rintro e w' ⟨rfl, b3⟩
  have HB2 := Lib.hid (HB.out.trans (b3.mono HB.out.size))
  have M2 := HM.out.on b3
  have e0 := M2.c0
  have e1 := M2.c1
  have e2 := M2.c2
  replace hcl := (b3.cell (by show g < _; have := HB.out.size; omega)).trans hcl
  clear b3 c3 M2
  go_wp2_with fail
  go_ret
  exact ⟨congrArg (fun x => Ending.returned (Value.int .i64 x)) HCV.out, HB2.out⟩

/-- The bins of a row. -/
def rowL (C : List Int) (r q i : Nat) : List Int := (List.range q).map fun j => C.getD (j * r + i) 0
theorem rowL_len (C : List Int) (r q i : Nat) : (rowL C r q i).length = q := by simp [rowL]
theorem rowL_at (C : List Int) (r q i j : Nat) (hj : j < q) : (rowL C r q i).getD j 0 = C.getD (j * r + i) 0 := by
  unfold rowL
  rw [List.getD_eq_getElem?_getD, List.getElem?_map, List.getElem?_range hj]
  rfl

set_option maxHeartbeats 1000000 in
theorem rowM_no (r q : Int) (a : Option Addr) (n c : Nat) (x : Int) (h : ¬ ((0 ≤ x ∧ x < r) ∧ fitB r q n = true)) (w : World) :
    Calls Try.prog 21 #[mx r q (.slice a n c), .int .i64 x] w fun e w' => e = .returned (.slice none 0 0) ∧ Below w.heap.size w w' := by
  have HB := Lib.hid (lay3_below w r q (.slice a n c))
  have HM := Lib.hid (lay3_m w r q (.slice a n c))
  have c1 := within_any x r (lay3 w r q (.slice a n c))
  have c3 := rightM_any r q a n c (lay3 w r q (.slice a n c))
  unfold mx at *
  by_cases h1 : 0 ≤ x ∧ x < r
  · rw [decide_eq_true h1] at c1
    have h3 : fitB r q n = false := by
      cases hf : fitB r q n with
      | false => rfl
      | true => exact absurd ⟨h1, hf⟩ h
    rw [h3] at c3
    clear h h1 h3
    go_enter Try.func21, Try.ntmps21
    go_wp2_with fail
    refine c1.mono ?_
    rintro e w' ⟨rfl, rfl⟩
    have m0 := HM.out.c0
    have m1 := HM.out.c1
    have m2 := HM.out.c2
    go_wp2_with fail
    refine c3.mono ?_
    rintro e w' ⟨rfl, b3⟩
    have HB2 := Lib.hid (HB.out.trans (b3.mono HB.out.size))
    clear b3 m0 m1 m2 c1 c3
    go_wp2_with fail
    go_ret
    exact ⟨rfl, HB2.out⟩
  · rw [decide_eq_false h1] at c1
    clear h h1 c3
    go_enter Try.func21, Try.ntmps21
    go_wp2_with fail
    refine c1.mono ?_
    rintro e w' ⟨rfl, rfl⟩
    go_wp2_with fail
    go_ret
    exact ⟨rfl, HB.out⟩

set_option maxRecDepth 20000 in
set_option maxHeartbeats 2000000 in
theorem rowM_ok (r q i n : Nat) (a : Option Addr) (c : Nat) (C : List Int) (hC : C.length = n) (hn : n ≤ 1048576) (h16 : In16 C) (hf : fitB r q n = true) (hi : i < r) (w : World) (hw : HoldsE KW w a C) :
    Calls Try.prog 21 #[mx r q (.slice a n c), .int .i64 (i : Int)] w fun e w' => (∃ g, e = .returned (.slice (some ⟨g, 0, none⟩) q q) ∧ w.heap.size ≤ g ∧ Lst KN g 0 (rowL C r q i) w') ∧ Below w.heap.size w w' := by
  have HB := Lib.hid (lay3_below w r q (.slice a n c))
  have HM := Lib.hid (lay3_m w r q (.slice a n c))
  have hrq : r * q = n := by
    have := (of_decide_eq_true hf).2.2
    rw [← Int.natCast_mul] at this
    omega
  have hq : q ≤ 1048576 := by
    have := Nat.mul_le_mul_right q (show 1 ≤ r by omega)
    omega
  have HRQ := Lib.hid hrq
  have HQ := Lib.hid hq
  have HN := Lib.hid hn
  have HC := Lib.hid hC
  have HI := Lib.hid hi
  have c1 := within_any i r (lay3 w r q (.slice a n c))
  have c3 := rightM_any r q a n c (lay3 w r q (.slice a n c))
  rw [decide_eq_true (by omega)] at c1
  rw [hf] at c3
  unfold mx at *
  have hsz := lay3_size w r q (.slice a n c)
  clear hC hn hf hi hrq hq
  go_enter Try.func21, Try.ntmps21
  go_wp2_with fail
  refine c1.mono ?_
  rintro e w' ⟨rfl, rfl⟩
  have m0 := HM.out.c0
  have m1 := HM.out.c1
  have m2 := HM.out.c2
  go_wp2_with fail
  refine c3.mono ?_
  rintro e w3 ⟨rfl, b3⟩
  have M3' := HM.out.on b3
  have hB3 := HB.out.trans (b3.mono HB.out.size)
  clear b3 m0 m1 m2 c1 c3 hsz
  have hmk := run_madeE okN w3 q HQ.out
  have HL := Lib.hid (Lst.made (K := KN) w3 (List.replicate q 0))
  have b4 := (Below.refl w3.heap.size w3).alloc (Nat.le_refl _) (.cells ((List.replicate q (0 : Int)).map KN.enc).toArray KN.e)
  have hmk : (Instr.makeSlice 54 (.int .i64 (q : Int)) (.int .i64 (q : Int))).run Try.prog w3 = .ok (.slice (some ⟨w3.heap.size, 0, none⟩) q q) (w3.alloc (.cells ((List.replicate q (0 : Int)).map KN.enc).toArray KN.e)) := hmk
  generalize (Obj.cells ((List.replicate q (0 : Int)).map KN.enc).toArray KN.e) = ob at *
  have M4 := M3'.on b4
  have hB4 := hB3.trans (b4.mono hB3.size)
  have hs3 := hB3.size
  have hN3 := M3'.lt
  have e1 := M3'.c1
  have HM4 := Lib.hid M4
  have HB4 := Lib.hid hB4
  clear M4 hB4 b4 hB3
  go_wp2_with fail
  obtain ⟨N, hN⟩ : ∃ N, w.heap.size = N := ⟨_, rfl⟩
  have HNN := Lib.hid hN
  obtain ⟨G, hG⟩ : ∃ G, w3.heap.size = G := ⟨_, rfl⟩
  rw [hG] at hs3 hN3 HL ⊢
  rw [hN] at HM4 hN3 ⊢
  clear hmk e1 M3' hN hG
  go_loopw [22] (fun v wr => ∃ k : Nat, v = .int .i64 (k : Int) ∧ k ≤ q ∧ Lst KN G 0 (partE (rowL C r q i) 0 k) wr ∧ M3 N r q (.slice a n c) wr ∧ Below w.heap.size w wr) (fun v _ => q - (intOf v).toNat)
  case atStart => exact ⟨0, rfl, by omega, by rw [partE_zero, rowL_len]; exact HL.out, HM4.out, HB4.out⟩
  case round =>
    obtain ⟨k, rfl, hk, hL, hM, hB⟩ := hrel
    clear HM HB HM4 HB4 HL
    by_cases hlt : k < q
    · have hpl : (partE (rowL C r q i) 0 k).length = q := by rw [partE_len, rowL_len]
      have HS := Lib.hid (partE_set (rowL C r q i) 0 k (by rw [rowL_len]; exact hlt))
      have hix := idx_lt HRQ.out HI.out hlt
      have HK := Lib.hid (idx_wrap HRQ.out HI.out hlt HN.out)
      have hcl := HC.out
      obtain ⟨g, off, rfl, hg, hrow⟩ := hw.at (show k * r + i < C.length by omega)
      obtain ⟨z, HZ⟩ : ∃ z, Hid (C.getD (k * r + i) 0 = z) := ⟨_, rfl⟩
      have hz := h16.at (show k * r + i < C.length by omega)
      have hcell : wr.cell? ⟨g, off + (k * r + i), none⟩ = some (.int .u16 z) := by rw [← HZ.out]; exact (hB.cell (by exact hg)).trans (hrow (k * r + i) (by omega))
      rw [rowL_at _ _ _ _ _ hlt, HZ.out] at HS
      rw [HZ.out] at hz
      have HCV := Lib.hid (conv16 hz)
      have HST := hL.set k z (by rw [hpl]; exact hlt)
      have hc0 : wr.cell? ⟨G, 0 + k, none⟩ = some (.int .i64 ((partE (rowL C r q i) 0 k).getD k 0)) := hL.cell k (by rw [hpl]; exact hlt)
      have hf0 : wr.frozen? ⟨G, 0 + k, none⟩ = false := hL.frozen k (by rw [hpl]; exact hlt)
      have bt := But.setCell G (0 + k) wr (.int .i64 z)
      have HM' := Lib.hid (hM.but bt (by omega))
      have HB' := Lib.hid (hB.trans (bt.below (B := w.heap.size) hs3 hB.size))
      rw [HS.out] at HST
      have HST2 : Hid (Lst KN G 0 (partE (rowL C r q i) 0 (k + 1)) (wr.setCell ⟨G, 0 + k, none⟩ (.int .i64 z))) := HST
      obtain ⟨m2, hm2⟩ : ∃ m2, k * r + i = m2 := ⟨_, rfl⟩
      rw [hm2] at hcell hix
      have i1 : (m2 : Int) < (n : Int) := by omega
      have i0 : (0 : Int) ≤ (m2 : Int) := by omega
      have j1 : (k : Int) < (q : Int) := by omega
      have HU := Lib.hid (up_is hlt (show q ≤ 16777216 by have := HQ.out; omega))
      have HV := Lib.hid (up_less hlt (show q ≤ 16777216 by have := HQ.out; omega))
      have HLT := Lib.hid hlt
      have e0 := hM.c0
      have e2 := hM.c2
      generalize (partE (rowL C r q i) 0 k).getD k 0 = zz at *
      clear HS HST hL hM bt hpl hrow hw hz hg hcl hix hlt hk
      obtain ⟨k1, k2⟩ := HK.out
      rw [hm2] at k2
      have w0 := HCV.out
      clear hm2
      generalize k * r = m at *
      rw [Nat.zero_add] at *
      go_wp2_with fail
      go_roundw
      case rel => exact ⟨k + 1, HU.out, HLT.out, HST2.out, HM'.out, HB'.out⟩
      case measure => exact HV.out
    · obtain rfl : k = q := by omega
      rw [partE_full _ _ _ (by rw [rowL_len]; omega)] at hL
      clear hlt hk hM HC hw h16 HRQ HQ HN HI
      go_wp2_with fail
      go_ret
      exact ⟨⟨_, rfl, hs3, hL⟩, hB⟩
end Go.Proofs.Ytjaogmbeoldefaa
