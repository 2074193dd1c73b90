/-
  THE DOCUMENT's Of: the matrix of a dataset by any edges, cell by cell; or why not. Conditions: at most 500 values, of 64 bits each; rows and columns of 64 bits with a sign; at most 2^20 edges of a column, of 64 bits each.
-/
import Derived.Test.YtjaogmbeoldefaaBinQ
import Derived.Test.YtjaogmbeoldefaaEdgeR
import Derived.IntWalk
namespace Go.Proofs.Ytjaogmbeoldefaa
open Go.RowKit

theorem fit_no' {r q : Int} {n : Nat} (h : fitB r q n = false) : ¬ (0 ≤ r ∧ r < 16777217) ∨ (0 ≤ r ∧ r < 16777217) ∧ (¬ (0 ≤ q ∧ q < 16777217) ∨ (0 ≤ q ∧ q < 16777217) ∧ ((n : Int) != wrap64 (r * q)) = true) := by
  by_cases h1 : 0 ≤ r ∧ r < 16777217
  · refine .inr ⟨h1, ?_⟩
    by_cases h2 : 0 ≤ q ∧ q < 16777217
    · refine .inr ⟨h2, ?_⟩
      rw [mul_wrap h1 h2]
      have : ¬ r * q = (n : Int) := fun h3 => by
        have : fitB r q n = true := decide_eq_true ⟨h1, h2, h3⟩
        rw [h] at this
        cases this
      simp
      omega
    · exact .inl h2
  · exact .inl h1
theorem fit_yes' {r q : Int} {n : Nat} (h : fitB r q n = true) : (0 ≤ r ∧ r < 16777217) ∧ (0 ≤ q ∧ q < 16777217) ∧ ((n : Int) != wrap64 (r * q)) = false := by
  obtain ⟨k1, k2, k3⟩ := of_decide_eq_true h
  refine ⟨k1, k2, ?_⟩
  rw [mul_wrap k1 k2, k3]
  simp

set_option maxRecDepth 20000 in
set_option maxHeartbeats 2000000 in
theorem refOf_no (k c b t d l p r q : Int) (aV a1 : Option Addr) (nV cV n1 c1 : Nat) (T : Value) (h : (n1 : Int) ≠ q ∨ fitB r q nV = false) (w : World) :
    Calls Try.prog 16 #[ds k c b t d l p r q (.slice aV nV cV) T, .slice a1 n1 c1] w fun e w' => NoTurn e ∧ Below w.heap.size w w' := by
  have D0 := lay_dat w 33 k c b t d l p r q (.slice aV nV cV) T
  have b0 := lay_below w 33 k c b t d l p r q (.slice aV nV cV) T
  have z0 := lay_size w 33 k c b t d l p r q (.slice aV nV cV) T
  have HB1 := lay3_below (lay w 33 k c b t d l p r q (.slice aV nV cV) T) 0 0 (.slice none 0 0)
  have HM1 := lay3_m (lay w 33 k c b t d l p r q (.slice aV nV cV) T) 0 0 (.slice none 0 0)
  rw [z0] at HM1
  have D1 := D0.on' HB1
  have HB := b0.trans (HB1.mono b0.size)
  have HH : Hid (¬ (0 ≤ r ∧ r < 16777217) ∨ (0 ≤ r ∧ r < 16777217) ∧ (¬ (0 ≤ q ∧ q < 16777217) ∨ (0 ≤ q ∧ q < 16777217) ∧ (((nV : Int) != wrap64 (r * q)) = true ∨ ((nV : Int) != wrap64 (r * q)) = false ∧ ((n1 : Int) != q) = true))) := by
    show _ ∨ _
    cases hf : fitB r q nV with
    | false =>
      rcases fit_no' hf with h | ⟨h1, h | ⟨h2, h3⟩⟩
      · exact .inl h
      · exact .inr ⟨h1, .inl h⟩
      · exact .inr ⟨h1, .inr ⟨h2, .inl h3⟩⟩
    | true =>
      obtain ⟨k1, k2, k3⟩ := fit_yes' hf
      rcases h with h | h
      · exact .inr ⟨k1, .inr ⟨k2, .inr ⟨k3, by simpa using h⟩⟩⟩
      · rw [hf] at h; cases h
  clear D0 b0 z0 HB1 h
  unfold ds
  go_enter Try.func16, Try.ntmps16
  go_wp2_with fail
  change Calls _ _ _ (lay3 (lay w 33 k c b t d l p r q (.slice aV nV cV) T) 0 0 (.slice none 0 0)) _
  generalize lay3 (lay w 33 k c b t d l p r q (.slice aV nV cV) T) 0 0 (.slice none 0 0) = w1 at *
  obtain ⟨N, hN⟩ : ∃ N, w.heap.size = N := ⟨_, rfl⟩
  have HNN : Hid (w.heap.size ≤ N) := Nat.le_of_eq hN
  rw [hN] at HM1 D1 ⊢
  have HB1 := Lib.hid HB
  have n0' := HM1
  obtain ⟨x0, x1, x2, x3, x4, x5, x6, x7, x8, x9, x10⟩ := D1.cells
  have f1 := few_any r w1
  have f2 := few_any q w1
  clear hN HB D1 x0 x1 x2 x3 x4 x5 x6 x10
  obtain ⟨hlt, d0, d1, d2, g0, g1, g2⟩ := HM1
  rcases HH.out with h1 | ⟨h1, h2 | ⟨h2, h3 | ⟨h3, h4⟩⟩⟩
  · rw [decide_eq_false h1] at f1
    clear h1 HH f2
    refine f1.mono ?_
    rintro e w' ⟨rfl, rfl⟩
    go_wp2_with fail
    change bodyPost _ _ _ _ _ (put3 w1 (N + 1) 0 0 (.slice none 0 0))
    obtain ⟨k1, k2⟩ := put3_facts n0' 0 0 (.slice none 0 0)
    have HB2 := HB1.out.trans (k2.below (by have := HNN.out; omega) HB1.out.size)
    obtain ⟨_, j0, j1, j2, _, _, _⟩ := k1
    generalize put3 w1 (N + 1) 0 0 (.slice none 0 0) = w9 at *
    refine bodyPost_ret (v := .tuple #[mx 0 0 (.slice none 0 0), .int .i64 8]) (by simp [mx, results, Try.results16, go_sem, j0, j1, j2]) rfl ?_
    exact ⟨rfl, HB2⟩
  · rw [decide_eq_true h1] at f1
    rw [decide_eq_false h2] at f2
    clear h1 h2 HH
    refine f1.mono ?_
    rintro e w' ⟨rfl, rfl⟩
    go_wp2_with fail
    refine f2.mono ?_
    rintro e w' ⟨rfl, rfl⟩
    go_wp2_with fail
    change bodyPost _ _ _ _ _ (put3 w1 (N + 1) 0 0 (.slice none 0 0))
    obtain ⟨k1, k2⟩ := put3_facts n0' 0 0 (.slice none 0 0)
    have HB2 := HB1.out.trans (k2.below (by have := HNN.out; omega) HB1.out.size)
    obtain ⟨_, j0, j1, j2, _, _, _⟩ := k1
    generalize put3 w1 (N + 1) 0 0 (.slice none 0 0) = w9 at *
    refine bodyPost_ret (v := .tuple #[mx 0 0 (.slice none 0 0), .int .i64 8]) (by simp [mx, results, Try.results16, go_sem, j0, j1, j2]) rfl ?_
    exact ⟨rfl, HB2⟩
  · rw [decide_eq_true h1] at f1
    rw [decide_eq_true h2] at f2
    clear h1 h2 HH
    refine f1.mono ?_
    rintro e w' ⟨rfl, rfl⟩
    go_wp2_with fail
    refine f2.mono ?_
    rintro e w' ⟨rfl, rfl⟩
    go_wp2_with fail
    change bodyPost _ _ _ _ _ (put3 w1 (N + 1) 0 0 (.slice none 0 0))
    obtain ⟨k1, k2⟩ := put3_facts n0' 0 0 (.slice none 0 0)
    have HB2 := HB1.out.trans (k2.below (by have := HNN.out; omega) HB1.out.size)
    obtain ⟨_, j0, j1, j2, _, _, _⟩ := k1
    generalize put3 w1 (N + 1) 0 0 (.slice none 0 0) = w9 at *
    refine bodyPost_ret (v := .tuple #[mx 0 0 (.slice none 0 0), .int .i64 8]) (by simp [mx, results, Try.results16, go_sem, j0, j1, j2]) rfl ?_
    exact ⟨rfl, HB2⟩
  · rw [decide_eq_true h1] at f1
    rw [decide_eq_true h2] at f2
    clear h1 h2 HH
    refine f1.mono ?_
    rintro e w' ⟨rfl, rfl⟩
    go_wp2_with fail
    refine f2.mono ?_
    rintro e w' ⟨rfl, rfl⟩
    go_wp2_with fail
    change bodyPost _ _ _ _ _ (put3 w1 (N + 1) 0 0 (.slice none 0 0))
    obtain ⟨k1, k2⟩ := put3_facts n0' 0 0 (.slice none 0 0)
    have HB2 := HB1.out.trans (k2.below (by have := HNN.out; omega) HB1.out.size)
    obtain ⟨_, j0, j1, j2, _, _, _⟩ := k1
    generalize put3 w1 (N + 1) 0 0 (.slice none 0 0) = w9 at *
    refine bodyPost_ret (v := .tuple #[mx 0 0 (.slice none 0 0), .int .i64 8]) (by simp [mx, results, Try.results16, go_sem, j0, j1, j2]) rfl ?_
    exact ⟨rfl, HB2⟩

set_option maxRecDepth 20000 in
set_option maxHeartbeats 8000000 in
theorem refOf_ok (k c b t d l p : Int) (r q : Nat) (aV a1 : Option Addr) (nV cV c1 : Nat) (T : Value) (V : List Nat) (L : List (List Nat)) (hVl : V.length = nV) (hn : nV ≤ 500) (hf : fitB r q nV = true) (hq : q ≤ 1000) (h64 : Bits64 V) (hL : L.length = q) (hLb : ∀ E ∈ L, E.length ≤ 1048576 ∧ Bits64 E) (w : World) (hV0 : HoldsE KF w aV V) (hR0 : HoldsR w a1 L) :
    Calls Try.prog 16 #[ds k c b t d l p r q (.slice aV nV cV) T, .slice a1 q c1] w fun e w' => GotT e w' w.heap.size r q nV (cellsL V r L) ∧ Below w.heap.size w w' := by
  have hrq : r * q = nV := by
    have := (of_decide_eq_true hf).2.2
    rw [← Int.natCast_mul] at this
    omega
  obtain ⟨v1, v2, v3⟩ := fit_yes' hf
  have D0 := lay_dat w 33 k c b t d l p r q (.slice aV nV cV) T
  have b0 := lay_below w 33 k c b t d l p r q (.slice aV nV cV) T
  have z0 := lay_size w 33 k c b t d l p r q (.slice aV nV cV) T
  have B1 := lay3_below (lay w 33 k c b t d l p r q (.slice aV nV cV) T) 0 0 (.slice none 0 0)
  have R1 := lay3_m (lay w 33 k c b t d l p r q (.slice aV nV cV) T) 0 0 (.slice none 0 0)
  rw [z0] at R1
  have D1 := D0.on' B1
  have HB := b0.trans (B1.mono b0.size)
  have HNUM := Lib.hid (And.intro hVl (And.intro hrq (And.intro hq (And.intro hn (And.intro hL (show r ≤ 16777216 by omega))))))
  have H64 := Lib.hid h64
  have HLB := Lib.hid hLb
  have HV0 := Lib.hid hV0
  have HR0 := Lib.hid hR0
  obtain ⟨D, HD⟩ : ∃ D, Hid (cellsL V r L = D) := ⟨_, rfl⟩
  rw [HD.out]
  have HDL : Hid (D.length = nV) := by show _ = _; rw [← HD.out, cellsL_len]; exact hVl
  have w4 : ((q : Int) != (q : Int)) = false := by simp
  have f1 := few_any r (lay3 (lay w 33 k c b t d l p r q (.slice aV nV cV) T) 0 0 (.slice none 0 0))
  have f2 := few_any q (lay3 (lay w 33 k c b t d l p r q (.slice aV nV cV) T) 0 0 (.slice none 0 0))
  rw [decide_eq_true v1] at f1
  rw [decide_eq_true v2] at f2
  unfold ds
  clear hVl hn hrq hq hf h64 hL hLb hV0 hR0 D0 b0 z0 B1 v1 v2
  go_enter Try.func16, Try.ntmps16
  go_wp2_with fail
  change Calls _ _ _ (lay3 (lay w 33 k c b t d l p r q (.slice aV nV cV) T) 0 0 (.slice none 0 0)) _
  generalize lay3 (lay w 33 k c b t d l p r q (.slice aV nV cV) T) 0 0 (.slice none 0 0) = w0 at *
  obtain ⟨N, hN⟩ : ∃ N, w.heap.size = N := ⟨_, rfl⟩
  have HN := Lib.hid hN
  rw [hN] at D1 R1 ⊢
  clear hN
  obtain ⟨x0, x1, x2, x3, x4, x5, x6, x7, x8, x9, x10⟩ := D1.cells
  refine f1.mono ?_
  rintro e w' ⟨rfl, rfl⟩
  go_wp2_with fail
  refine f2.mono ?_
  rintro e w' ⟨rfl, rfl⟩
  have bX := lay3_below w0 r q (.slice none 0 0)
  have X0 := lay3_m w0 r q (.slice none 0 0)
  have zX := lay3_size w0 r q (.slice none 0 0)
  have D2 := D1.on' bX
  have R2 := R1.on bX
  have bel2 := HB.trans (bX.mono HB.size)
  have hNX := R1.lt
  have hXw := HB.size
  clear f1 f2 x0 x1 x2 x3 x4 x5 x6 x10 D1 R1 HB bX
  go_wp2_with fail
  change Code.wp _ _ _ _ (lay3 w0 r q (.slice none 0 0))
  generalize lay3 w0 r q (.slice none 0 0) = w1 at *
  obtain ⟨X, hX⟩ : ∃ X, w0.heap.size = X := ⟨_, rfl⟩
  rw [hX] at X0 zX hNX hXw ⊢
  have hsX : X + 1 ≤ w1.heap.size := Nat.le_of_eq zX.symm
  have HNX := Lib.hid hNX
  have HXW := Lib.hid hXw
  clear hX hNX hXw zX x7 x8 x9 v3 w4
  go_loopw [7] (fun v wr => ∃ (jj : Nat) (av : Option Addr) (mm cc : Nat), v = .int .i64 (jj : Int) ∧ jj ≤ q ∧ Dat N (dv k c b t d l p r q (.slice aV nV cV) T) wr ∧ M3 (N + 1) 0 0 (.slice none 0 0) wr ∧ M3 X r q (.slice av mm cc) wr ∧ Own KW wr (X + 1) (.slice av mm cc) (D.take (jj * r)) ∧ X + 1 ≤ wr.heap.size ∧ Below w.heap.size w wr) (fun v _ => q - (intOf v).toNat)
  case atStart => exact ⟨0, none, 0, 0, rfl, by omega, D2, R2, X0, by rw [Nat.zero_mul, List.take_zero]; exact Own.nil _ _, hsX, bel2⟩
  case round =>
    obtain ⟨jj, av, mm, cc, rfl, hjj, Da, R, Y, own, hsz, bel⟩ := hrel
    clear D2 R2 X0 hsX bel2
    have e8 : wr.cell? ⟨N, 8, none⟩ = some (.int .i64 (q : Int)) := Da.c 8 (by decide)
    by_cases hlt : jj < q
    · have HJ := Lib.hid hlt
      have HJU := Lib.hid (up_is hlt (show q ≤ 16777216 by have := HNUM.out.2.2.1; omega))
      have HJV := Lib.hid (up_less hlt (show q ≤ 16777216 by have := HNUM.out.2.2.1; omega))
      have i1 : (jj : Int) < (q : Int) := by omega
      have hjL : jj < L.length := by rw [HNUM.out.2.2.2.2.1]; exact hlt
      have HE64 := Lib.hid (HLB.out (L.getD jj []) (by rw [List.getD_eq_getElem?_getD, List.getElem?_eq_getElem hjL]; exact List.getElem_mem hjL))
      obtain ⟨ge, oe, ae, ce, rfl, hge, hce, hEE⟩ := HR0.out.at hjL
      obtain ⟨E, HE⟩ : ∃ E, Hid (L.getD jj [] = E) := ⟨_, rfl⟩
      rw [HE.out] at HE64 hce hEE
      obtain ⟨m3, HM3⟩ : ∃ m3, Hid (E.length = m3) := ⟨_, rfl⟩
      rw [HM3.out] at hce
      have HCE := Lib.hid hce
      have HGE := Lib.hid hge
      have HEE := Lib.hid hEE
      clear hjL hce hge hEE hlt hjj
      go_wp2_with fail
      clear e8
      go_loopw [8] (fun v wq => ∃ (i : Nat) (av : Option Addr) (mm cc : Nat), v = .int .i64 (i : Int) ∧ i ≤ r ∧ Dat N (dv k c b t d l p r q (.slice aV nV cV) T) wq ∧ M3 (N + 1) 0 0 (.slice none 0 0) wq ∧ M3 X r q (.slice av mm cc) wq ∧ Own KW wq (X + 1) (.slice av mm cc) (D.take (jj * r + i)) ∧ X + 1 ≤ wq.heap.size ∧ Below w.heap.size w wq) (fun v _ => r - (intOf v).toNat)
      case atStart => exact ⟨0, av, mm, cc, rfl, by omega, Da, R, Y, own, hsz, bel⟩
      case round =>
        obtain ⟨i, av, mm, cc, rfl, hi, Da, R, Y, own, hsz, bel⟩ := hrel
        have e7 : wr.cell? ⟨N, 7, none⟩ = some (.int .i64 (r : Int)) := Da.c 7 (by decide)
        by_cases hlt : i < r
        · have HI := Lib.hid hlt
          have HIU := Lib.hid (up_is hlt HNUM.out.2.2.2.2.2)
          have HIV := Lib.hid (up_less hlt HNUM.out.2.2.2.2.2)
          have hpos := (idx_lt HNUM.out.2.1 hlt HJ.out).1
          have hf64 := H64.out.at (show jj * r + i < V.length by rw [HNUM.out.1]; exact hpos)
          obtain ⟨gv, ov, rfl, hgv, hrow⟩ := HV0.out.at (show jj * r + i < V.length by rw [HNUM.out.1]; exact hpos)
          have hrw := hrow (jj * r + i) (by rw [HNUM.out.1]; exact hpos)
          have HSTP := Lib.hid (cells_step V r L (j := jj) (i := i) (by rw [HNUM.out.1]; exact hpos) hlt)
          have hmwr : wrap64 ((jj : Int) * (r : Int)) = ((jj * r : Nat) : Int) := mul_nat_wrap (n := nV) (by omega) (by have := HNUM.out.2.2.2.1; omega)
          have HMW := Lib.hid hmwr
          clear hmwr
          obtain ⟨m0, hm0⟩ : ∃ m0, jj * r = m0 := ⟨_, rfl⟩
          obtain ⟨m2, hm2⟩ : ∃ m2, jj * r + i = m2 := ⟨_, rfl⟩
          have HAW : Hid (wrap64 ((m0 : Int) + (i : Int)) = (m2 : Int)) := add_nat_wrap (by rw [← hm0]; exact hm2) (by have := HNUM.out.2.2.2.1; omega)
          have HMW2 : Hid (wrap64 ((jj : Int) * (r : Int)) = (m0 : Int)) := by have := HMW.out; rw [hm0] at this; exact this
          have HM2 := Lib.hid hm2
          rw [hm2] at hpos hf64 hrw HSTP
          obtain ⟨f, HF⟩ : ∃ f, Hid (V.getD m2 0 = f) := ⟨_, rfl⟩
          have hfv : V.getD m2 KF.z = f := HF.out
          rw [HF.out] at hf64 HSTP
          rw [hfv] at hrw
          rw [HE.out] at HSTP
          have hcf : wr.cell? ⟨gv, ov + m2, none⟩ = some (.float .f64 f) := (bel.cell (p := ⟨gv, ov + m2, none⟩) hgv).trans hrw
          have hcE := (bel.cell (p := ⟨ge, oe + jj, none⟩) HGE.out).trans HCE.out
          have cb := fun W (h : HoldsE KF W ae E) => refBin_any ae ce m3 E HM3.out (by rw [← HM3.out]; exact HE64.out.1) HE64.out.2 f hf64 W h
          have cb1 := cb wr.drew (HEE.out.below bel.drew)
          have hbl := binL_le E f
          obtain ⟨z, HZ⟩ : ∃ z, Hid (binL E f = z) := ⟨_, rfl⟩
          rw [HZ.out] at cb1 hbl
          have HZB : Hid (z ≤ 1048577) := by have := HE64.out.1; show _ ≤ _; omega
          have HCN : Hid (cellN E f = min z 65535) := by show _ = _; unfold cellN; rw [HZ.out]
          have k1 : (i : Int) < (r : Int) := by omega
          have k2 : (m2 : Int) < (nV : Int) := by omega
          have k3 : (0 : Int) ≤ (m2 : Int) := by omega
          have e9 : wr.cell? ⟨N, 9, none⟩ = some (.slice (some ⟨gv, ov, none⟩) nV cV) := Da.c 9 (by decide)
          have HGV := Lib.hid hgv
          clear hrow hrw hfv hbl hf64 hpos cb hm0 hm2 HMW hgv hlt hi
          have wa : IntKind.i64.wrap ((jj : Int) * (r : Int)) = (m0 : Int) := (wrap_i _).trans HMW2.out
          have wb : IntKind.i64.wrap ((m0 : Int) + (i : Int)) = (m2 : Int) := (wrap_i _).trans HAW.out
          go_wp2_with fail
          have HK := Lib.hid (show wr.drew.cell? ⟨N, 7, none⟩ = some (.int .i64 (r : Int)) ∧ wr.drew.cell? ⟨N, 9, none⟩ = some (.slice (some ⟨gv, ov, none⟩) nV cV) ∧ wr.drew.cell? ⟨ge, oe + jj, none⟩ = some (.slice ae m3 ce) ∧ wr.drew.cell? ⟨gv, ov + m2, none⟩ = some (.float .f64 f) from ⟨e7, e9, hcE, hcf⟩)
          clear e7 e9 hcE hcf
          replace Da : Dat N (dv k c b t d l p r q (.slice (some ⟨gv, ov, none⟩) nV cV) T) wr.drew := Da.drew
          replace R := R.drew
          replace Y := Y.drew
          replace own : Own KW wr.drew (X + 1) (.slice av mm cc) (D.take (jj * r + i)) := own
          replace hsz : X + 1 ≤ wr.drew.heap.size := hsz
          replace bel := bel.drew
          refine wp_region_held_drew (S := (fun W => W.cell? ⟨N, 7, none⟩ = some (.int .i64 (r : Int)) ∧ W.cell? ⟨N, 9, none⟩ = some (.slice (some ⟨gv, ov, none⟩) nV cV) ∧ W.cell? ⟨ge, oe + jj, none⟩ = some (.slice ae m3 ce) ∧ W.cell? ⟨gv, ov + m2, none⟩ = some (.float .f64 f))) (by kernel_rfl) (by exact HK.out) (fun hHeld => ?_)
          refine takeQ (i := 0) (v := ?_) rfl (by kernel_rfl) (by kernel_rfl) (by kernel_rfl) (fun _ _ _ h => h) (by rfl) hHeld ?_ ?_
          rotate_left
          · (intro w' hSw; (try dsimp only at hSw); go_simp <;> (with_reducible rfl))
          try simp only [Act.put, List.setIfInBounds_toArray, List.set_cons_zero, List.set_cons_succ]
          refine takeQ (i := 1) (v := ?_) rfl (by kernel_rfl) (by kernel_rfl) (by kernel_rfl) (fun _ _ _ h => h) (by rfl) hHeld ?_ ?_
          rotate_left
          · (intro w' hSw; (try dsimp only at hSw); go_simp <;> (with_reducible rfl))
          try simp only [Act.put, List.setIfInBounds_toArray, List.set_cons_zero, List.set_cons_succ]
          refine takeQ (i := 2) (v := ?_) rfl (by kernel_rfl) (by kernel_rfl) (by kernel_rfl) (fun _ _ _ h => h) (by rfl) hHeld ?_ ?_
          rotate_left
          · (intro w' hSw; (try dsimp only at hSw); go_simp <;> (with_reducible rfl))
          try simp only [Act.put, List.setIfInBounds_toArray, List.set_cons_zero, List.set_cons_succ]
          refine takeQ (i := 3) (v := ?_) rfl (by kernel_rfl) (by kernel_rfl) (by kernel_rfl) (fun _ _ _ h => h) (by rfl) hHeld ?_ ?_
          rotate_left
          · (intro w' hSw; (try dsimp only at hSw); go_simp <;> (with_reducible rfl))
          try simp only [Act.put, List.setIfInBounds_toArray, List.set_cons_zero, List.set_cons_succ]
          refine takeQ (i := 4) (v := ?_) rfl (by kernel_rfl) (by kernel_rfl) (by kernel_rfl) (fun _ _ _ h => h) (by rfl) hHeld ?_ ?_
          rotate_left
          · (intro w' hSw; (try dsimp only at hSw); go_simp <;> (with_reducible rfl))
          try simp only [Act.put, List.setIfInBounds_toArray, List.set_cons_zero, List.set_cons_succ]
          refine takeQ (i := 5) (v := ?_) rfl (by kernel_rfl) (by kernel_rfl) (by kernel_rfl) (fun _ _ _ h => h) (by rfl) hHeld ?_ ?_
          rotate_left
          · (intro w' hSw; (try dsimp only at hSw); go_simp <;> (with_reducible rfl))
          try simp only [Act.put, List.setIfInBounds_toArray, List.set_cons_zero, List.set_cons_succ]
          refine takeQ (i := 6) (v := ?_) rfl (by kernel_rfl) (by kernel_rfl) (by kernel_rfl) (fun _ _ _ h => h) (by rfl) hHeld ?_ ?_
          rotate_left
          · (intro w' hSw; (try dsimp only at hSw); go_simp <;> (with_reducible rfl))
          try simp only [Act.put, List.setIfInBounds_toArray, List.set_cons_zero, List.set_cons_succ]
          refine takeQ (i := 7) (v := ?_) rfl (by kernel_rfl) (by kernel_rfl) (by kernel_rfl) (fun _ _ _ h => h) (by rfl) hHeld ?_ ?_
          rotate_left
          · (intro w' hSw; (try dsimp only at hSw); go_simp <;> (with_reducible rfl))
          try simp only [Act.put, List.setIfInBounds_toArray, List.set_cons_zero, List.set_cons_succ]
          refine takeQ (i := 8) (v := ?_) rfl (by kernel_rfl) (by kernel_rfl) (by kernel_rfl) (fun _ _ _ h => h) (by rfl) hHeld ?_ ?_
          rotate_left
          · (intro w' hSw; (try dsimp only at hSw); go_simp <;> (with_reducible rfl))
          try simp only [Act.put, List.setIfInBounds_toArray, List.set_cons_zero, List.set_cons_succ]
          refine takeQ (i := 9) (v := ?_) rfl (by kernel_rfl) (by kernel_rfl) (by kernel_rfl) (fun _ _ _ h => h) (by rfl) hHeld ?_ ?_
          rotate_left
          · (intro w' hSw; (try dsimp only at hSw); go_simp <;> (with_reducible rfl))
          try simp only [Act.put, List.setIfInBounds_toArray, List.set_cons_zero, List.set_cons_succ]
          refine takeQ (i := 10) (v := ?_) rfl (by kernel_rfl) (by kernel_rfl) (by kernel_rfl) (fun _ _ _ h => h) (by rfl) hHeld ?_ ?_
          rotate_left
          · (intro w' hSw; (try dsimp only at hSw); go_simp <;> (with_reducible rfl))
          try simp only [Act.put, List.setIfInBounds_toArray, List.set_cons_zero, List.set_cons_succ]
          refine takeQ (i := 11) (v := ?_) rfl (by kernel_rfl) (by kernel_rfl) (by kernel_rfl) (fun _ _ _ h => h) (by rfl) hHeld ?_ ?_
          rotate_left
          · (intro w' hSw; (try dsimp only at hSw); go_simp <;> (with_reducible rfl))
          try simp only [Act.put, List.setIfInBounds_toArray, List.set_cons_zero, List.set_cons_succ]
          refine takeQ (i := 12) (v := ?_) rfl (by kernel_rfl) (by kernel_rfl) (by kernel_rfl) (fun _ _ _ h => h) (by rfl) hHeld ?_ ?_
          rotate_left
          · (intro w' hSw; (try dsimp only at hSw); go_simp <;> (with_reducible rfl))
          try simp only [Act.put, List.setIfInBounds_toArray, List.set_cons_zero, List.set_cons_succ]
          refine takeQ (i := 13) (v := ?_) rfl (by kernel_rfl) (by kernel_rfl) (by kernel_rfl) (fun _ _ _ h => h) (by rfl) hHeld ?_ ?_
          rotate_left
          · (intro w' hSw; (try dsimp only at hSw); go_simp <;> (with_reducible rfl))
          try simp only [Act.put, List.setIfInBounds_toArray, List.set_cons_zero, List.set_cons_succ]
          refine callL (i := 14) (by kernel_rfl) rfl (by rfl) (fun K hK => ?_)
          go_simp
          refine cb1.mono ?_
          rintro _ _ ⟨rfl, rfl⟩
          try dsimp only
          refine hK.out _ _ (by exact HK.out) (fun hHeld => ?_)
          clear hK K
          try simp only [Act.put, List.setIfInBounds_toArray, List.set_cons_zero, List.set_cons_succ]
          refine callL (i := 15) (by kernel_rfl) rfl (by rfl) (fun K hK => ?_)
          go_simp
          try dsimp only
          refine hK.out _ _ (by exact HK.out) (fun hHeld => ?_)
          clear hK K
          try simp only [Act.put, List.setIfInBounds_toArray, List.set_cons_zero, List.set_cons_succ]
          refine wpAnyH_done (by kernel_rfl) ?_ _
          clear hHeld
          clear wa wb k1 k2 k3 i1 cb1 HK
          have HST0 : Hid (D.take (jj * r + (i + 1)) = D.take (jj * r + i) ++ [((min z 65535 : Nat) : Int)]) := by
            show _ = _
            have := HSTP.out
            rw [HD.out, HCN.out, ← HM2.out] at this
            exact this
          by_cases hz : z ≤ 65535
          · have HST : Hid (D.take (jj * r + (i + 1)) = D.take (jj * r + i) ++ [(z : Int)]) := by
              have := HST0.out
              rw [Nat.min_eq_left hz] at this
              exact this
            have g1 : decide ((z : Int) > 65535) = false := decide_eq_false (by omega)
            have g2 : decide (65535 < z) = false := decide_eq_false (by omega)
            have wz : IntKind.u16.wrap (z : Int) = (z : Int) := IntWalk.u16_in _ (by omega)
            clear HST0 hz
            have bA := (Below.refl wr.drew.heap.size wr.drew).alloc (Nat.le_refl _) (.cells #[.int .u16 (z : Int)] 59)
            have YA := Y.on bA
            have DA := Da.on' bA
            have RA := R.on bA
            have belA := bel.trans (bA.mono bel.size)
            have hsA : X + 1 ≤ (wr.drew.alloc (.cells #[.int .u16 (z : Int)] 59)).heap.size := Nat.le_trans hsz bA.size
            have HRM : Hid ((D.take (jj * r + i)).length + [(z : Int)].length ≤ 1048576) := by
              have h1 := HDL.out
              have h2 := HNUM.out.2.2.2.1
              show _ ≤ _
              rw [List.length_take]
              simp
              omega
            have y2 := Y.c2
            go_wp2_with (at_builtin; refine app_own okW rfl _ _ rfl (X + 1) hsA _ (D.take (jj * r + i)) rfl (own.alloc _) _ 1 1 [(z : Int)] rfl (CameE.new (K := KW) _) HRM.out ?_; intro v6 w6 ho6 hb6; obtain ⟨a6, m6, c6, rfl⟩ := own_form ho6; have Y6 := YA.below hb6 (Nat.lt_succ_self X); have q2 := Y6.c2; have q2f := Y6.f2)
            have bz := But.setCell X 2 w6 (.slice a6 m6 c6)
            have YZ := Y6.set2 (.slice a6 m6 c6)
            have DZ := (DA.below hb6 (by have := HNX.out; omega)).but bz (by have := HNX.out; omega)
            have RZ := (RA.below hb6 (by have := HNX.out; omega)).but bz (by have := HNX.out; omega)
            have ownZ := ho6.but bz (Nat.lt_succ_self X)
            have belZ := (belA.trans (hb6.mono (by have := HXW.out; omega))).trans (bz.below HXW.out (Nat.le_trans belA.size hb6.size))
            have hsZ := Nat.le_trans hsA (Nat.le_trans hb6.size bz.size)
            rw [← HST.out] at ownZ
            have HQ := Lib.hid (And.intro DZ (And.intro RZ (And.intro YZ (And.intro ownZ (And.intro hsZ belZ)))))
            clear DZ RZ YZ ownZ hsZ belZ bz ho6 hb6 Y6 q2 q2f YA DA RA belA hsA bA Da R Y own hsz bel y2
            go_roundw
            case rel => exact ⟨i + 1, a6, m6, c6, HIU.out, HI.out, HQ.out.1, HQ.out.2.1, HQ.out.2.2.1, HQ.out.2.2.2.1, HQ.out.2.2.2.2.1, HQ.out.2.2.2.2.2⟩
            case measure => exact HIV.out
          · have HST : Hid (D.take (jj * r + (i + 1)) = D.take (jj * r + i) ++ [(65535 : Int)]) := by
              have := HST0.out
              rw [Nat.min_eq_right (by omega)] at this
              exact this
            have g1 : decide ((z : Int) > 65535) = true := decide_eq_true (by omega)
            have g2 : decide (65535 < z) = true := decide_eq_true (by omega)
            clear HST0 hz
            have bA := (Below.refl wr.drew.heap.size wr.drew).alloc (Nat.le_refl _) (.cells #[.int .u16 (65535 : Int)] 59)
            have YA := Y.on bA
            have DA := Da.on' bA
            have RA := R.on bA
            have belA := bel.trans (bA.mono bel.size)
            have hsA : X + 1 ≤ (wr.drew.alloc (.cells #[.int .u16 (65535 : Int)] 59)).heap.size := Nat.le_trans hsz bA.size
            have HRM : Hid ((D.take (jj * r + i)).length + [(65535 : Int)].length ≤ 1048576) := by
              have h1 := HDL.out
              have h2 := HNUM.out.2.2.2.1
              show _ ≤ _
              rw [List.length_take]
              simp
              omega
            have y2 := Y.c2
            go_wp2_with (at_builtin; refine app_own okW rfl _ _ rfl (X + 1) hsA _ (D.take (jj * r + i)) rfl (own.alloc _) _ 1 1 [(65535 : Int)] rfl (CameE.new (K := KW) _) HRM.out ?_; intro v6 w6 ho6 hb6; obtain ⟨a6, m6, c6, rfl⟩ := own_form ho6; have Y6 := YA.below hb6 (Nat.lt_succ_self X); have q2 := Y6.c2; have q2f := Y6.f2)
            have bz := But.setCell X 2 w6 (.slice a6 m6 c6)
            have YZ := Y6.set2 (.slice a6 m6 c6)
            have DZ := (DA.below hb6 (by have := HNX.out; omega)).but bz (by have := HNX.out; omega)
            have RZ := (RA.below hb6 (by have := HNX.out; omega)).but bz (by have := HNX.out; omega)
            have ownZ := ho6.but bz (Nat.lt_succ_self X)
            have belZ := (belA.trans (hb6.mono (by have := HXW.out; omega))).trans (bz.below HXW.out (Nat.le_trans belA.size hb6.size))
            have hsZ := Nat.le_trans hsA (Nat.le_trans hb6.size bz.size)
            rw [← HST.out] at ownZ
            have HQ := Lib.hid (And.intro DZ (And.intro RZ (And.intro YZ (And.intro ownZ (And.intro hsZ belZ)))))
            clear DZ RZ YZ ownZ hsZ belZ bz ho6 hb6 Y6 q2 q2f YA DA RA belA hsA bA Da R Y own hsz bel y2
            go_roundw
            case rel => exact ⟨i + 1, a6, m6, c6, HIU.out, HI.out, HQ.out.1, HQ.out.2.1, HQ.out.2.2.1, HQ.out.2.2.2.1, HQ.out.2.2.2.2.1, HQ.out.2.2.2.2.2⟩
            case measure => exact HIV.out
        · obtain rfl : r = i := by omega
          have HST : Hid (jj * r + r = (jj + 1) * r) := by show _ = _; rw [Nat.add_mul, Nat.one_mul]
          clear hlt hi
          go_wp2_with fail
          go_roundw
          case rel => exact ⟨jj + 1, av, mm, cc, HJU.out, HJ.out, Da, R, Y, by rw [← HST.out]; exact own, hsz, bel⟩
          case measure => exact HJV.out
    · obtain rfl : q = jj := by omega
      have HT : Hid (D.take (q * r) = D) := by show _ = _; rw [List.take_of_length_le]; rw [HDL.out, Nat.mul_comm]; exact Nat.le_of_eq HNUM.out.2.1.symm
      rw [HT.out] at own
      have HR := Lib.hid R
      obtain ⟨_, y0, y1, y2, _, _, _⟩ := Y
      obtain ⟨_, r0, r1, r2, rf0, rf1, rf2⟩ := R
      have HO := Lib.hid own
      have HBE := Lib.hid bel
      clear hlt hjj Da own bel
      go_wp2_with fail
      change bodyPost _ _ _ _ _ (put3 wr (N + 1) r q (.slice av mm cc))
      obtain ⟨k1, k2⟩ := put3_facts HR.out r q (.slice av mm cc)
      have HB4 := HBE.out.trans (k2.below (by have := HN.out; omega) HBE.out.size)
      have HO4 := HO.out.but k2 (by have := HNX.out; omega)
      obtain ⟨_, j0, j1, j2, _, _, _⟩ := k1
      generalize put3 wr (N + 1) r q (.slice av mm cc) = w9 at *
      refine bodyPost_ret (v := .tuple #[mx r q (.slice av mm cc), .int .i64 0]) (by simp [mx, results, Try.results16, go_sem, j0, j1, j2]) rfl ?_
      refine ⟨?_, HB4⟩
      have hdl := HDL.out
      rcases HO4.lst with ⟨h1, h2⟩ | ⟨G, cap, h1, hG, hc, _, hL⟩
      · cases h1
        rw [h2] at hdl
        exact ⟨none, 0, by rw [← hdl]; rfl, by rw [h2]; exact hdl, by rw [← hdl]; exact Nat.le_refl _, fun _ => rfl, .inl h2⟩
      · cases h1
        exact ⟨_, cc, by rw [← hdl], hdl, by rw [← hdl]; exact hc, (fun h => by cases h), .inr ⟨G, rfl, by have := HXW.out; omega, hL⟩⟩
end Go.Proofs.Ytjaogmbeoldefaa
