/-
  BinsCells' walk: whether any matrix is right, its cells and its rows, are the document's. Condition: the cells are numbers of 16 bits.
-/
import Derived.Test.YtjaogmbeoldefaaBinM
namespace Go.Proofs.Ytjaogmbeoldefaa
open Go.RowKit

set_option maxHeartbeats 1000000 in
theorem cells_great (r q x y : Int) (a : Option Addr) (n c : Nat) (h : greatB r q n = true) (w : World) :
    Calls Try.prog 4 #[mx r q (.slice a n c), .int .i64 x, .int .i64 y] w fun e w' => e = .returned (.bool true) ∧ Below w.heap.size w w' := by
  have HB := lay3_below w r q (.slice a n c)
  have cg := great_any r q a n c (lay3 w r q (.slice a n c))
  rw [h] at cg
  unfold mx at *
  clear h
  go_enter Try.func4, Try.ntmps4
  go_wp2_with fail
  refine cg.mono ?_
  rintro e w1 ⟨rfl, b1⟩
  have HB1 := HB.trans (b1.mono HB.size)
  clear cg HB b1
  go_wp2_with fail
  refine (bfixed_any w1).mono ?_
  rintro e w2 ⟨rfl, b2⟩
  have HB2 := Lib.hid (HB1.trans (b2.mono HB1.size))
  clear b2 HB1
  go_wp2_with fail
  go_ret
  exact ⟨rfl, HB2.out⟩

set_option maxRecDepth 20000 in
set_option maxHeartbeats 4000000 in
theorem cells_any (r q x y : Int) (a : Option Addr) (n c : Nat) (C : List Int) (hC : C.length = n) (h16 : In16 C) (h : greatB r q n = false) (w : World) (hw : HoldsE KW w a C) :
    Calls Try.prog 4 #[mx r q (.slice a n c), .int .i64 x, .int .i64 y] w fun e w' => e = .returned (.bool true) ∧ Below w.heap.size w w' := by
  have hn : n ≤ 500 := by
    have := of_decide_eq_false h
    omega
  have q0 := MatS.start r q a n c C w hw
  have cg := great_any r q a n c (lay3 w r q (.slice a n c))
  rw [h] at cg
  have HCE : Hid (∀ W y, HoldsE KW W a C → Calls Try.prog 19 #[mx r q (.slice a n c), .int .i64 x, .int .i64 y] W fun e w' => e = .returned (.tuple #[.int .i64 (max (wantI C r q x y n) 0), .bool (decide (0 ≤ wantI C r q x y n))]) ∧ Below W.heap.size W w') := fun W y h => cellM_any r q x y a n c C hC (by omega) h16 W h
  have HRC : Hid (∀ W y, HoldsE KW W a C → Calls Try.prog 20 #[mx r q (.slice a n c), .int .i64 x, .int .i64 y] W fun e w' => e = .returned (.int .i64 (wantI C r q x y n)) ∧ Below W.heap.size W w') := fun W y h => refCell_any r q x y a n c C hC (by omega) h16 W h
  have HRO : Hid (∀ W, HoldsE KW W a C → Calls Try.prog 21 #[mx r q (.slice a n c), .int .i64 x] W fun e w' => (∃ a2 c2, e = .returned (.slice a2 (rowR C r q x n).length c2) ∧ HoldsE KN w' a2 (rowR C r q x n)) ∧ Below W.heap.size W w') := fun W h => rowM_any r q x a n c C hC (by omega) h16 W h
  have HNO := Lib.hid (fun h => row_none (C := C) (r := r) (q := q) (x := x) (n := n) hC h16 h)
  have HYES := Lib.hid (fun h => row_some (C := C) (r := r) (q := q) (x := x) (n := n) h)
  have hri := rightM_any r q a n c
  have hrr := refRightM_any r q a n c
  obtain ⟨z, HZ⟩ : ∃ z, Hid (wantI C r q x y n = z) := ⟨_, rfl⟩
  obtain ⟨z0, HZ0⟩ : ∃ z, Hid (wantI C r q x 0 n = z) := ⟨_, rfl⟩
  obtain ⟨R, HR⟩ : ∃ R, Hid (rowR C r q x n = R) := ⟨_, rfl⟩
  obtain ⟨m, HM⟩ : ∃ m, Hid (R.length = m) := ⟨_, rfl⟩
  have c1 := HCE.out (y := y)
  have c2 := HRC.out (y := y)
  have c4 := HRC.out (y := 0)
  rw [HZ.out] at c2
  rw [HZ0.out] at c4
  have c3 := HRO.out
  rw [HR.out, HM.out] at c3
  rw [HR.out, HM.out, HZ0.out] at HNO
  rw [HR.out, HZ0.out] at HYES
  simp only [HZ.out] at c1
  generalize fitB r q n = bf at *
  have HN := Lib.hid hn
  have g0 : (bf != bf) = false := by simp
  have g1 : (decide (0 ≤ z) != decide (z ≥ 0)) = false := by simp
  have g2 : (max z 0 != max z 0) = false := by simp
  have HC4 := Lib.hid c4
  have HRC2 := Lib.hid HRC.out
  unfold mx at *
  clear hC h16 h hw hn HCE HRO c4
  go_enter Try.func4, Try.ntmps4
  go_wp2_with fail
  change Calls _ _ _ (lay3 w r q (.slice a n c)) _
  generalize lay3 w r q (.slice a n c) = w0 at *
  obtain ⟨N, hN⟩ : ∃ N, w.heap.size = N := ⟨_, rfl⟩
  have HNN := Lib.hid hN
  rw [hN] at q0 ⊢
  clear hN
  refine cg.mono ?_
  rintro e w1 ⟨rfl, b1⟩
  have q1 := q0.below b1
  obtain ⟨e0, e1, e2⟩ := q1.cells
  have d1 := c1 w1 q1.ho
  clear cg q0 b1 c1
  go_wp2_with fail
  refine d1.mono ?_
  rintro e w2 ⟨rfl, b2⟩
  have q2 := q1.below b2
  have d2 := c2 w2 q2.ho
  clear d1 q1 b2 e0 e1 e2 c2
  obtain ⟨e0, e1, e2⟩ := q2.cells
  go_wp2_with fail
  refine d2.mono ?_
  rintro e w3 ⟨rfl, b3⟩
  have q3 := q2.below b3
  have d3 := c3 w3 q3.ho
  clear d2 q2 b3 e0 e1 e2 c3
  obtain ⟨e0, e1, e2⟩ := q3.cells
  go_wp2_with fail
  refine d3.mono ?_
  rintro e w4 ⟨⟨aR, cR, rfl, hRh⟩, b4⟩
  have q4 := q3.below b4
  clear d3 q3 b4 e0 e1 e2
  go_wp2_with fail
  have qq := q4.drew
  have hRd : HoldsE KN w4.drew aR R := hRh
  go_region_held3 (fun W => W.cell? ⟨N, 0, none⟩ = some (.int .i64 r) ∧ W.cell? ⟨N, 1, none⟩ = some (.int .i64 q) ∧ W.cell? ⟨N, 2, none⟩ = some (.slice a n c)) (first | exact qq.cells | exact q4.cells)
    (first
      | (go_at_call 22; refine (hri _).mono ?_; rintro _ _ ⟨rfl, c9⟩; replace qq := qq.below c9; replace hRd := hRd.below c9; clear c9)
      | (go_at_call 23; refine (hrr _).mono ?_; rintro _ _ ⟨rfl, c9⟩; replace qq := qq.below c9; replace hRd := hRd.below c9; clear c9))
  rename_i w5 hh5
  clear hh5 hRh q4 hri hrr
  obtain ⟨e0, e1, e2⟩ := qq.cells
  have d4 := HC4.out w5 qq.ho
  go_wp2_with fail
  refine d4.mono ?_
  rintro e w6 ⟨rfl, b6⟩
  have q6 := qq.below b6
  have hR6 := hRd.below b6
  clear d4 qq hRd b6 e0 e1 e2 g0 g1 g2 HC4
  by_cases hz0 : z0 < 0
  · have g3 : decide (z0 < 0) = true := decide_eq_true hz0
    obtain rfl := HNO.out hz0
    have HBB := Lib.hid q6.bel
    clear hz0 q6 hR6
    go_wp2_with fail
    refine (bfixed_any w6).mono ?_
    rintro e w7 ⟨rfl, b7⟩
    have HB7 := Lib.hid (HBB.out.trans (b7.mono HBB.out.size))
    clear b7
    go_wp2_with fail
    go_ret
    exact ⟨rfl, HB7.out⟩
  · have g3 : decide (z0 < 0) = false := decide_eq_false hz0
    obtain ⟨y1, y2⟩ := HYES.out (by omega)
    have HY2 := Lib.hid y2
    have HMQ : Hid ((m : Int) = q) := by show _ = _; rw [← HM.out]; exact y1
    have HMB : Hid (m ≤ 16777216) := by
      have h1 := HM.out
      have h2 := y1
      have h3 : q ≤ 16777216 := by
        by_cases h : 0 ≤ z0
        · have := HZ0.out
          unfold wantI at this
          by_cases hin : InM r q x 0 n
          · have := (of_decide_eq_true hin.2.2).2.1
            omega
          · rw [if_neg hin] at this; omega
        · omega
      show _ ≤ _
      omega
    clear hz0 y1 y2 HYES HNO
    go_wp2_with fail
    go_loopw [59] (fun v wr => ∃ j : Nat, v = .int .i64 (j : Int) ∧ j ≤ m ∧ MatS N r q a n c C w wr ∧ HoldsE KN wr aR R) (fun v _ => m - (intOf v).toNat)
    case atStart => exact ⟨0, rfl, by omega, q6, hR6⟩
    case round =>
      obtain ⟨j, rfl, hj, qr, hRr⟩ := hrel
      clear q6 hR6
      by_cases hlt : j < m
      · have hjR : j < R.length := by rw [HM.out]; exact hlt
        obtain ⟨g, off, rfl, hg, hrow⟩ := hRr.at hjR
        have hrr := hRr
        have cx : wr.cell? ⟨g, off + j, none⟩ = some (.int .i64 (wantI C r q x j n)) := by rw [← HY2.out j hjR]; exact hrow j hjR
        have d5 := HRC.out wr (j : Int) qr.ho
        generalize wantI C r q x j n = zj at *
        obtain ⟨e0, e1, e2⟩ := qr.cells
        have i1 : (j : Int) < (m : Int) := by omega
        have HU := Lib.hid (up_is hlt HMB.out)
        have HV := Lib.hid (up_less hlt HMB.out)
        have HLT := Lib.hid hlt
        have g4 : (zj != zj) = false := by simp
        clear hjR hg hrow hlt hj
        go_wp2_with fail
        refine d5.mono ?_
        rintro e w8 ⟨rfl, b8⟩
        have q8 := qr.below b8
        have hR8 := hRr.below b8
        clear d5 b8 qr hRr hrr e0 e1 e2 cx
        go_wp2_with fail
        go_roundw
        case rel => exact ⟨j + 1, HU.out, HLT.out, q8, hR8⟩
        case measure => exact HV.out
      · obtain rfl : m = j := by omega
        obtain ⟨e0, e1, e2⟩ := qr.cells
        have g5 : ((m : Int) == q) = true := by rw [HMQ.out]; simp
        clear hlt hj hRr
        go_wp2_with fail
        refine (bfixed_any wr).mono ?_
        rintro e w7 ⟨rfl, b7⟩
        have q7 := qr.below b7
        have HB7 := Lib.hid q7.bel
        obtain ⟨k0, k1, k2⟩ := q7.cells
        clear b7 q7 qr e0 e1 e2
        go_wp2_with fail
        go_ret
        exact ⟨rfl, HB7.out⟩
end Go.Proofs.Ytjaogmbeoldefaa
