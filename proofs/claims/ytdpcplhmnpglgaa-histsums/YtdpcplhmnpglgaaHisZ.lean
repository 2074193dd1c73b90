/-
  HISTOGRAMS: the document's Sum. Conditions: each number is of 64 bits with a sign; no more than 2^20 of them.
-/
import Derived.Test.YtdpcplhmnpglgaaHisY
import Derived.Test.YtdpcplhmnpglgaaHisV
namespace Go.Proofs.Ytdpcplhmnpglgaa
open Go.RowKit


theorem Lst.belowS {g o : Nat} {l : List Int} {w w' : World} (h : Lst KL g o l w) (c : Below w.heap.size w w') : Lst KL g o l w' := h.below c h.lt

set_option maxHeartbeats 4000000 in
theorem rsum_0 (d : HD) (ac am : Option Addr) (nc cc nm cm : Nat) (f t : Nat) (w : World) (hR : Reads d ac nc am nm w) (hr : rightB d.k d.b d.c nc nm = true) (hk : d.k = 0) (cn : Nat) (hc : d.c = (cn : Int)) (hc0 : 0 < cn) (hc1 : cn ≤ 256) (hlen : ∀ bin, bin < t → bin * cn + cn ≤ nc) (hnc : nc ≤ 65792) (hft : f ≤ t) (htb : (t : Int) ≤ d.b) (hb : d.b ≤ 257) :
    Calls Try.prog 24 #[.agg #[.int .i64 d.k, .int .i64 d.b, .int .i64 d.c, .slice ac nc cc, .slice am nm cm], .int .i64 (f : Int), .int .i64 (t : Int)] w fun e w' =>
      SumQ (sumC d.k (runS cn d.lc (t - f) f (List.replicate cn 0))) (sumM d.k (runS cn d.lc (t - f) f (List.replicate cn 0)) 0) (sumM d.k (runS cn d.lc (t - f) f (List.replicate cn 0)) 1) (sumM d.k (runS cn d.lc (t - f) f (List.replicate cn 0)) 2) (runS cn d.lc (t - f) f (List.replicate cn 0)).2 w e w' := by
  have hq := fun w => refRight_any d.k d.b d.c ac am nc cc nm cm w
  rw [hr] at hq
  have HC := Lib.hid (And.intro hc (And.intro hc0 hc1))
  have HBIN := Lib.hid hlen
  have HNC := Lib.hid hnc
  have HT := Lib.hid (And.intro hft (And.intro htb hb))
  have HR := Lib.hid hR
  have HK := Lib.hid hk
  have m1 : ∀ w, (Instr.makeSlice 26 (.int .i64 d.c) (.int .i64 d.c)).run Try.prog w = .ok (.slice (some ⟨w.heap.size, 0, none⟩) cn cn) (w.alloc (.cells ((List.replicate cn (0 : Int)).map KL.enc).toArray 2)) := by
    intro w
    rw [hc]
    exact run_madeE okL w cn (by omega)
  obtain ⟨A1, hA1⟩ : ∃ A, A = ((List.replicate cn (0 : Int)).map KL.enc).toArray := ⟨_, rfl⟩
  rw [← hA1] at m1
  have HA1 := Lib.hid hA1
  have bA := VarH.new w d.k d.b d.c (.slice ac nc cc) (.slice am nm cm) 29
  obtain ⟨W1, hW1⟩ : ∃ W1, w.alloc (.cells #[.int .i64 d.k, .int .i64 d.b, .int .i64 d.c, .slice ac nc cc, .slice am nm cm] 29) = W1 := ⟨_, rfl⟩
  rw [hW1] at bA
  have s1 : W1.heap.size = w.heap.size + 1 := by rw [← hW1]; simp
  have bR := VarM.new W1 0 0 0 47
  obtain ⟨W2, hW2⟩ : ∃ W2, W1.alloc (.cells #[.int .i64 0, .int .i64 0, .int .i64 0] 47) = W2 := ⟨_, rfl⟩
  rw [hW2, s1] at bR
  have k1 : Below w.heap.size w W1 := hW1 ▸ alloc_below w _
  have k2 : Below W1.heap.size W1 W2 := hW2 ▸ alloc_below W1 _
  have HB : Hid (Below w.heap.size w W2) := k1.trans (k2.mono k1.size)
  replace bA := Lib.hid (bA.below k2 bA.lt)
  have s2 : W2.heap.size = w.heap.size + 1 + 1 := by rw [← hW2]; simp [s1]
  have HS2 := Lib.hid s2
  replace bR := Lib.hid bR
  have g1 : ¬ (f : Int) < 0 := by omega
  have g2 : ¬ (t : Int) < (f : Int) := by omega
  have g3 : ¬ d.b < (t : Int) := by omega
  clear hc0 hc1 hlen hnc
  clear hA1 hc hk hr hR hft htb hb k1 k2 s2
  go_enter Try.func24, Try.ntmps24
  go_upto_region 1 with fail
  clear hW1 hW2 s1
  obtain ⟨a0, a1, a2, a3, a4⟩ := bA.out.five
  go_wp2_with fail
  refine (hq _).mono ?_
  rintro e W3 ⟨rfl, c3⟩
  clear a0 a1 a2 a3 a4 hq
  replace bA := Lib.hid (bA.out.below c3 bA.out.lt)
  replace bR := Lib.hid (bR.out.below c3)
  replace HB := Lib.hid (HB.out.trans (c3.mono HB.out.size))
  have HS3 : Hid (w.heap.size + 1 + 1 ≤ W3.heap.size) := by have := c3.size; have := HS2.out; show _ ≤ _; omega
  clear c3 HS2
  obtain ⟨a0, a1, a2, a3, a4⟩ := bA.out.five
  go_upto_region 7 with fail
  have b1 : decide ((f : Int) < 0) = false := decide_eq_false (by omega)
  have b2 : decide (t < f) = false := decide_eq_false (by omega)
  have b3 : decide (d.b < (t : Int)) = false := decide_eq_false (by omega)
  rw [b1, b2, b3]
  simp only [Bool.or_false]
  clear a0 a1 a2 a3 a4 g1 g2 g3 m1 b1 b2 b3
  have e1 : (W3.alloc (.cells A1 2)).heap.size = W3.heap.size + 1 := by simp
  have lC := Lst.madeT W3 (List.replicate cn (0 : Int)) 2
  have lA := VarM.new (W3.alloc (.cells A1 2)) 0 0 0 47
  rw [← HA1.out] at lC
  rw [e1] at lA
  have c4 := alloc_below W3 (.cells A1 2)
  have c5 := alloc_below (W3.alloc (.cells A1 2)) (.cells #[.int .i64 0, .int .i64 0, .int .i64 0] 47)
  replace lC := lC.below c5 lC.lt
  have c45 := c4.trans (c5.mono c4.size)
  generalize (W3.alloc (.cells A1 2)).alloc (.cells #[.int .i64 0, .int .i64 0, .int .i64 0] 47) = W5 at *
  obtain ⟨gC, hgC⟩ : ∃ g, W3.heap.size = g := ⟨_, rfl⟩
  obtain ⟨gA, hgA⟩ : ∃ g, W3.heap.size + 1 = g := ⟨_, rfl⟩
  rw [hgC] at lC
  rw [hgA] at lA
  rw [hgA, hgC]
  have HG : Hid (w.heap.size + 1 + 1 ≤ gC ∧ gC + 1 = gA) := by have := HS3.out; show _ ∧ _; omega
  replace bA := Lib.hid (bA.out.below c45 bA.out.lt)
  replace bR := Lib.hid (bR.out.below c45)
  replace HB := Lib.hid (HB.out.trans (c45.mono HB.out.size))
  replace lC := Lib.hid lC
  replace lA := Lib.hid lA
  clear e1 c4 c5 c45 hgC hgA HS3 HA1
  obtain ⟨RS, HRS⟩ : ∃ r, Hid (runS cn d.lc (t - f) f (List.replicate cn 0) = r) := ⟨_, rfl⟩
  have HPOST : Hid (∀ e w', SumQ (sumC d.k RS) (sumM d.k RS 0) (sumM d.k RS 1) (sumM d.k RS 2) RS.2 w e w' → SumQ (sumC d.k (runS cn d.lc (t - f) f (List.replicate cn 0))) (sumM d.k (runS cn d.lc (t - f) f (List.replicate cn 0)) 0) (sumM d.k (runS cn d.lc (t - f) f (List.replicate cn 0)) 1) (sumM d.k (runS cn d.lc (t - f) f (List.replicate cn 0)) 2) (runS cn d.lc (t - f) f (List.replicate cn 0)).2 w e w') := by
    intro e w' h
    rw [HRS.out]; exact h
  go_wp2_with fail
  go_loopw [11] (fun iv wr => ∃ (bin : Nat) (s : List Int), bin ≤ t ∧ iv = .int .i64 (bin : Int) ∧ Hid (runS cn d.lc (t - bin) bin s = RS) ∧ Hid (Lst KL gC 0 s wr ∧ VarM gA 0 0 0 wr) ∧ Hid (s.length = cn ∧ Wholes s) ∧ Hid (VarH w.heap.size d.k d.b d.c (.slice ac nc cc) (.slice am nm cm) wr) ∧ Hid (VarM (w.heap.size + 1) 0 0 0 wr) ∧ Hid (Below w.heap.size w wr)) (fun iv _ => t - (intOf iv).toNat)
  case atStart => exact ⟨f, _, HT.out.1, rfl, HRS.out, ⟨lC.out, lA.out⟩, ⟨by simp, zeros_whole _⟩, bA.out, bR.out, HB.out⟩
  case round =>
    obtain ⟨bin, s, hj, rfl, HRN, HL, HS, bA, bR, HB⟩ := hrel
    by_cases hlt : bin < t
    · have i1 : (bin : Int) < (t : Int) := by omega
      have HLT := Lib.hid hlt
      clear hj hlt
      have HN := Lib.hid ((runS_more cn d.lc t bin s HLT.out).symm.trans HRN.out)
      have HT3 : Hid (t ≤ 1048576) := by have := HT.out; show _ ≤ _; omega
      clear HRN
      go_upto_region 10 with fail
      go_wp2_with fail
      go_loopw [12] (fun iv wr => ∃ j : Nat, j ≤ cn ∧ iv = .int .i64 (j : Int) ∧ Hid (∀ i, i < j → plE (s.getD i 0) (d.lc.getD (bin * cn + i) 0) = 0) ∧ Hid (Lst KL gC 0 (mixL (fun i => plV (s.getD i 0) (d.lc.getD (bin * cn + i) 0)) s j) wr ∧ VarM gA 0 0 0 wr) ∧ Hid (VarH w.heap.size d.k d.b d.c (.slice ac nc cc) (.slice am nm cm) wr) ∧ Hid (VarM (w.heap.size + 1) 0 0 0 wr) ∧ Hid (Below w.heap.size w wr)) (fun iv _ => cn - (intOf iv).toNat)
      case atStart => exact ⟨0, by omega, rfl, fun i h => by omega, HL.out, bA.out, bR.out, HB.out⟩
      case round =>
        obtain ⟨j, hj, rfl, HZ, HL, bA, bR, HB⟩ := hrel
        obtain ⟨a0, a1, a2, a3, a4⟩ := bA.out.five
        have hdc : d.c = (cn : Int) := HC.out.1
        rw [hdc] at a2
        clear hdc
        by_cases hlt : j < cn
        · have i2 : (j : Int) < (cn : Int) := by omega
          have HLT2 := Lib.hid hlt
          obtain ⟨pn, hpn⟩ : ∃ pn, bin * cn = pn := ⟨_, rfl⟩
          obtain ⟨qn, hqn⟩ : ∃ qn, pn + j = qn := ⟨_, rfl⟩
          have hbn := HBIN.out bin HLT.out
          have HW1 : Hid (IntKind.i64.wrap ((bin : Int) * (cn : Int)) = (pn : Int)) := by
            have e : (bin : Int) * (cn : Int) = (pn : Int) := by rw [← hpn]; simp
            show _ = _
            rw [e, IntKind.wrap_i64]
            have := HNC.out
            omega
          have HW2 : Hid (IntKind.i64.wrap ((pn : Int) + (j : Int)) = (qn : Int)) := by
            show _ = _
            rw [IntKind.wrap_i64]
            have := HNC.out
            omega
          have hidx : qn < nc := by omega
          obtain ⟨g, oo, rfl, hgl, cX⟩ := (HR.out.below HB.out).hc.cells (by have := HR.out.nc; omega)
          have cx := cX qn (by have := HR.out.nc; omega)
          have hLj : j < (mixL (fun i => plV (s.getD i 0) (d.lc.getD (bin * cn + i) 0)) s j).length := by rw [mixL_len, HS.out.1]; exact hlt
          have cs := HL.out.1.cell j hLj
          have fs := HL.out.1.frozen j hLj
          rw [Nat.zero_add] at cs fs
          have hgs : (mixL (fun i => plV (s.getD i 0) (d.lc.getD (bin * cn + i) 0)) s j).getD j KL.z = s.getD j 0 := by
            have := mixL_get (fun i => plV (s.getD i 0) (d.lc.getD (bin * cn + i) 0)) s j (by rw [HS.out.1]; omega) j
            rw [if_neg (by omega)] at this
            exact this
          rw [hgs] at cs
          have HLJ := Lib.hid hLj
          have hwx := HS.out.2 j (by rw [HS.out.1]; exact hlt)
          have hwy := HR.out.wc qn (by have := HR.out.nc; omega)
          have hcall := fun w => refP (s.getD j 0) (d.lc.getD qn 0) hwx hwy w
          have HVJ : Hid (∀ v, plV (s.getD j 0) (d.lc.getD qn 0) = v → (mixL (fun i => plV (s.getD i 0) (d.lc.getD (bin * cn + i) 0)) s j).set j v = mixL (fun i => plV (s.getD i 0) (d.lc.getD (bin * cn + i) 0)) s (j + 1)) := by
            rintro v rfl
            rw [← hqn, ← hpn]; rfl
          have HZJ : Hid (plE (s.getD j 0) (d.lc.getD qn 0) = 0 → ∀ i, i < j + 1 → plE (s.getD i 0) (d.lc.getD (bin * cn + i) 0) = 0) := by
            intro he i hi
            by_cases q : i < j
            · exact HZ.out i q
            · obtain rfl : i = j := by omega
              rw [hpn, hqn]; exact he
          have HRJ : Hid (∀ e, plE (s.getD j 0) (d.lc.getD qn 0) = e → e ≠ 0 → stE cn d.lc s bin = e) := by
            intro e he h0
            have hr : Ran (fun i => plE (s.getD i 0) (d.lc.getD (bin * cn + i) 0)) cn j e := ⟨hj, HZ.out, .inr ⟨hlt, by rw [hpn, hqn]; exact he, h0⟩⟩
            exact hr.first.symm
          have q0 : C4 w.heap.size 3 w.heap.size 2 gC j g (oo + qn) _ _ _ _ wr := ⟨bA.out.lt, bA.out.lt, HL.out.1.lt, hgl, a3, a2, cs, cx⟩
          have q3 : (0 : Int) ≤ (qn : Int) := by omega
          have q4 : (qn : Int) < (nc : Int) := by omega
          clear hlt hj cX cx cs hgs hLj hwx hwy hpn hqn hbn hidx hgl
          generalize s.getD j 0 = x at *
          generalize d.lc.getD qn 0 = y at *
          go_upto_region 13 with fail
          clear a0 a1 a2 a3 a4 fs
          have q1 := q0.drew
          have b1 := Lib.hid bA.out.drew
          have b2 := Lib.hid (VarM.drew bR.out)
          have b3 := Lib.hid HL.out.1.drew
          have b4 := Lib.hid (VarM.drew HL.out.2)
          have b5 := Lib.hid HB.out.drew
          have hw1 := HW1.out
          have hw2 := HW2.out
          go_region_held3 (fun w' => w'.cell? ⟨w.heap.size, 3, none⟩ = some (.slice (some ⟨g, oo, none⟩) nc cc) ∧ w'.cell? ⟨w.heap.size, 2, none⟩ = some (.int .i64 (cn : Int)) ∧ w'.cell? ⟨gC, j, none⟩ = some (.int .i64 x) ∧ w'.cell? ⟨g, oo + qn, none⟩ = some (.int .i64 y)) (first | exact q1.cells | exact q0.cells)
            ((go_at_call 31; refine (hcall _).mono ?_; rintro e w' ⟨rfl, c9⟩; replace q1 := q1.below c9; replace b1 := Lib.hid (b1.out.below c9 b1.out.lt); replace b2 := Lib.hid (b2.out.below c9); replace b3 := Lib.hid (b3.out.belowS c9); replace b4 := Lib.hid (b4.out.below c9); replace b5 := Lib.hid (b5.out.trans (c9.mono b5.out.size)); clear c9))
          clear q0 q1 hcall bA bR HL HB hw1 hw2 q3 q4
          obtain ⟨v, HVV⟩ : ∃ v, Hid (plV x y = v) := ⟨_, rfl⟩
          obtain ⟨er, HEE⟩ : ∃ v, Hid (plE x y = v) := ⟨_, rfl⟩
          rw [HVV.out, HEE.out]
          by_cases he : er = 0
          · have HX2 := Lib.hid (HZJ.out (HEE.out.trans he))
            subst he
            have st2 := b3.out.set j v HLJ.out
            rw [Nat.zero_add, HVJ.out _ HVV.out] at st2
            have cs := b3.out.cell j HLJ.out
            have fs := b3.out.frozen j HLJ.out
            rw [Nat.zero_add] at cs fs
            have hb9 := But.setCell gC j w' (.int .i64 v)
            have n1 := Lib.hid (b1.out.but hb9 (by have := HG.out; omega))
            have n2 := Lib.hid (VarM.but b2.out hb9 (by have := HG.out; omega))
            have n4 := Lib.hid (VarM.but b4.out hb9 (by have := HG.out; omega))
            have n5 := Lib.hid (b5.out.trans (hb9.below (by have := HG.out; omega) b5.out.size))
            have HCN : Hid (cn ≤ 1048576) := by have := HC.out; show _ ≤ _; omega
            replace st2 := Lib.hid st2
            clear HZ HZJ HRJ HVJ hb9
            go_wp2_with fail
            go_roundw
            case rel => exact ⟨j + 1, HLT2.out, (by first | exact congrArg (Value.int .i64) (next_num HLT2.out HCN.out).1 | exact congrArg (Value.int .i64) (Int.natCast_succ j).symm), HX2.out, ⟨st2.out, n4.out⟩, n1.out, n2.out, n5.out⟩
            case measure => first | exact (next_num HLT2.out HCN.out).2 | (have := HLT2.out; simp only [intOf]; omega)
          · have HSE := Lib.hid (HRJ.out er HEE.out he)
            have HRE : Hid (RS = ([], er)) := by
              have := HN.out
              rw [HSE.out, if_neg he] at this
              exact this.symm
            have HZE : Hid (∀ W, Below w.heap.size w W → SumQ (sumC d.k RS) (sumM d.k RS 0) (sumM d.k RS 1) (sumM d.k RS 2) RS.2 w (.returned (.tuple #[.slice none 0 0, .agg #[.int .i64 0, .int .i64 0, .int .i64 0], .int .i64 er])) W) := by
              intro W hW
              rw [HRE.out]
              have y1 : sumC d.k ([], er) = [] := if_neg (fun h => he h.1)
              have y2 : ∀ i, sumM d.k ([], er) i = 0 := fun i => if_neg (fun h => he h.1)
              rw [y1, y2, y2, y2]
              exact sumQ_none hW
            have gb : (er != 0) = true := by simpa using he
            obtain ⟨⟨_, r0, r1, r2⟩, f0, f1, f2⟩ := b2.out
            clear he HZ HZJ HRJ HVJ
            go_wp2_with fail
            obtain ⟨d0, d1, d2⟩ := set3_cell (x := .int .i64 0) (y := .int .i64 0) (z := .int .i64 0) b2.out.at_.c0 b2.out.at_.c1 b2.out.at_.c2
            have HD := set3_below (b := w.heap.size + 1) (o := 0) (x := .int .i64 0) (y := .int .i64 0) (z := .int .i64 0) b5.out (by omega)
            change bodyPost _ _ _ _ _ (set3 _ (w.heap.size + 1) 0 (.int .i64 0) (.int .i64 0) (.int .i64 0))
            generalize set3 _ (w.heap.size + 1) 0 (.int .i64 0) (.int .i64 0) (.int .i64 0) = WZ at *
            have HQ := HPOST.out _ _ (HZE.out _ HD)
            simp only [Nat.zero_add] at d0 d1 d2
            simp [bodyPost, results, Try.results24, go_sem, d0, d1, d2]
            exact HQ
        · have HSE : Hid (stE cn d.lc s bin = 0) := firstE_zero.2 (fun i hi => HZ.out i (by omega))
          have HSL : Hid (mixL (fun i => plV (s.getD i 0) (d.lc.getD (bin * cn + i) 0)) s j = stL cn d.lc s bin) := by
            have hjn : j = cn := by omega
            show _ = _
            rw [hjn, mixL_all _ _ HS.out.1]; rfl
          rw [HSL.out] at HL
          have HN2 : Hid (runS cn d.lc (t - (bin + 1)) (bin + 1) (stL cn d.lc s bin) = RS) := by
            have := HN.out
            rw [HSE.out, if_pos rfl] at this
            exact this
          have hdk : d.k = 0 := HK.out
          rw [hdk] at a0
          clear HZ hj
          have HNX := Lib.hid (next_num HLT.out HT3.out)
          go_wp2_with fail
          exact ⟨⟨bin + 1, _, HLT.out, (by first | exact congrArg (Value.int .i64) HNX.out.1 | exact congrArg (Value.int .i64) (Int.natCast_succ bin).symm), HN2.out, HL.out, ⟨stL_len _ _ _ _, stL_whole _ _ _ _⟩, bA.out, bR.out, HB.out⟩, (by first | exact HNX.out.2 | (have := HLT.out; simp only [intOf]; omega))⟩
    · have HRE : Hid (RS = (s, 0)) := by
        have hjt : bin = t := by omega
        have := HRN.out
        rw [hjt, Nat.sub_self] at this
        exact this.symm
      obtain rfl : t = bin := by omega
      have HZ : Hid (∀ W, HoldsE KL W (some ⟨gC, 0, none⟩) s → Below w.heap.size w W → SumQ (sumC d.k RS) (sumM d.k RS 0) (sumM d.k RS 1) (sumM d.k RS 2) RS.2 w (.returned (.tuple #[.slice (some ⟨gC, 0, none⟩) cn cn, .agg #[.int .i64 0, .int .i64 0, .int .i64 0], .int .i64 0])) W) := by
        intro W hH hW
        rw [HRE.out]
        have y1 : sumC d.k (s, 0) = s := if_pos ⟨rfl, HK.out⟩
        have y2 : ∀ i, sumM d.k (s, 0) i = 0 := fun i => if_neg (fun h => by have := HK.out; omega)
        rw [y1, y2, y2, y2]
        exact ⟨_, cn, by rw [HS.out.1], hH, hW⟩
      obtain ⟨⟨_, x0, x1, x2⟩, _, _, _⟩ := HL.out.2
      obtain ⟨⟨_, r0, r1, r2⟩, f0, f1, f2⟩ := bR.out
      simp only [Nat.zero_add] at x0 x1 x2
      have gne : gA ≠ w.heap.size + 1 := by have := HG.out; omega
      clear hlt hj HRN
      go_upto_region 22 with fail
      go_region
      go_wp2_with fail
      obtain ⟨d0, d1, d2⟩ := set3_cell (x := .int .i64 0) (y := .int .i64 0) (z := .int .i64 0) bR.out.at_.c0 bR.out.at_.c1 bR.out.at_.c2
      have HD := set3_below (b := w.heap.size + 1) (o := 0) (x := .int .i64 0) (y := .int .i64 0) (z := .int .i64 0) HB.out (by omega)
      have HBT := set3_but (b := w.heap.size + 1) (o := 0) (x := .int .i64 0) (y := .int .i64 0) (z := .int .i64 0) wr
      change bodyPost _ _ _ _ _ (set3 wr (w.heap.size + 1) 0 (.int .i64 0) (.int .i64 0) (.int .i64 0)).drew
      have HH := (HL.out.1.but HBT (by have := HG.out; omega)).drew.holds
      generalize set3 wr (w.heap.size + 1) 0 (.int .i64 0) (.int .i64 0) (.int .i64 0) = WZ at *
      have HQ := HPOST.out _ _ (HZ.out _ HH HD.drew)
      simp only [Nat.zero_add] at d0 d1 d2
      have d0' : WZ.drew.cell? ⟨w.heap.size + 1, 0, none⟩ = _ := d0
      have d1' : WZ.drew.cell? ⟨w.heap.size + 1, 1, none⟩ = _ := d1
      have d2' : WZ.drew.cell? ⟨w.heap.size + 1, 2, none⟩ = _ := d2
      simp [bodyPost, results, Try.results24, go_sem, d0', d1', d2']
      exact HQ

end Go.Proofs.Ytdpcplhmnpglgaa
