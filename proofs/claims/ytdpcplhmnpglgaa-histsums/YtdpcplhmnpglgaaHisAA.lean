/-
  HISTOGRAMS: the document's Sum, of moments. Conditions: each number is of 64 bits with a sign; no more than 2^20 of them.
-/
import Derived.Test.YtdpcplhmnpglgaaHisY
import Derived.Test.YtdpcplhmnpglgaaHisV
namespace Go.Proofs.Ytdpcplhmnpglgaa
open Go.RowKit

theorem VarM.set {g : Nat} {x y z x' y' z' : Int} {w : World} (h : VarM g x y z w) : VarM g x' y' z' (set3 w g 0 (.int .i64 x') (.int .i64 y') (.int .i64 z')) :=
  ⟨h.at_.set, (set3_frozen _).trans h.f0, (set3_frozen _).trans h.f1, (set3_frozen _).trans h.f2⟩

set_option maxHeartbeats 4000000 in
theorem rsum_1 (d : HD) (ac am : Option Addr) (nc cc nm cm : Nat) (f t : Nat) (w : World) (hR : Reads d ac nc am nm w) (hr : rightB d.k d.b d.c nc nm = true) (hk : d.k = 1) (cn : Nat) (hcn : cn = 0) (hc : d.c = (cn : Int)) (ht2 : t ≤ nm) (hft : f ≤ t) (htb : (t : Int) ≤ d.b) (hb : d.b ≤ 257) :
    Calls Try.prog 24 #[.agg #[.int .i64 d.k, .int .i64 d.b, .int .i64 d.c, .slice ac nc cc, .slice am nm cm], .int .i64 (f : Int), .int .i64 (t : Int)] w fun e w' =>
      SumQ (sumC d.k (runS 3 d.lm (t - f) f (List.replicate (1 * 3) 0))) (sumM d.k (runS 3 d.lm (t - f) f (List.replicate (1 * 3) 0)) 0) (sumM d.k (runS 3 d.lm (t - f) f (List.replicate (1 * 3) 0)) 1) (sumM d.k (runS 3 d.lm (t - f) f (List.replicate (1 * 3) 0)) 2) (runS 3 d.lm (t - f) f (List.replicate (1 * 3) 0)).2 w e w' := by
  have hq := fun w => refRight_any d.k d.b d.c ac am nc cc nm cm w
  rw [hr] at hq
  have HC0 : Hid (d.c = 0) := hc.trans (by rw [hcn]; rfl)
  have HCN := Lib.hid hcn
  have HT2 := Lib.hid ht2
  have HT := Lib.hid (And.intro hft (And.intro htb hb))
  have HR := Lib.hid hR
  have HK := Lib.hid hk
  have m1 : ∀ w, (Instr.makeSlice 26 (.int .i64 d.c) (.int .i64 d.c)).run Try.prog w = .ok (.slice (some ⟨w.heap.size, 0, none⟩) cn cn) (w.alloc (.cells ((List.replicate cn (0 : Int)).map KL.enc).toArray 2)) := by
    intro w
    rw [hc]
    exact run_madeE okL w cn (by omega)
  obtain ⟨A1, hA1⟩ : ∃ A, A = ((List.replicate cn (0 : Int)).map KL.enc).toArray := ⟨_, rfl⟩
  rw [← hA1] at m1
  have HA1 := Lib.hid hA1
  have bA := VarH.new w d.k d.b d.c (.slice ac nc cc) (.slice am nm cm) 29
  obtain ⟨W1, hW1⟩ : ∃ W1, w.alloc (.cells #[.int .i64 d.k, .int .i64 d.b, .int .i64 d.c, .slice ac nc cc, .slice am nm cm] 29) = W1 := ⟨_, rfl⟩
  rw [hW1] at bA
  have s1 : W1.heap.size = w.heap.size + 1 := by rw [← hW1]; simp
  have bR := VarM.new W1 0 0 0 47
  obtain ⟨W2, hW2⟩ : ∃ W2, W1.alloc (.cells #[.int .i64 0, .int .i64 0, .int .i64 0] 47) = W2 := ⟨_, rfl⟩
  rw [hW2, s1] at bR
  have k1 : Below w.heap.size w W1 := hW1 ▸ alloc_below w _
  have k2 : Below W1.heap.size W1 W2 := hW2 ▸ alloc_below W1 _
  have HB : Hid (Below w.heap.size w W2) := k1.trans (k2.mono k1.size)
  replace bA := Lib.hid (bA.below k2 bA.lt)
  have s2 : W2.heap.size = w.heap.size + 1 + 1 := by rw [← hW2]; simp [s1]
  have HS2 := Lib.hid s2
  replace bR := Lib.hid bR
  have g1 : ¬ (f : Int) < 0 := by omega
  have g2 : ¬ (t : Int) < (f : Int) := by omega
  have g3 : ¬ d.b < (t : Int) := by omega
  clear hcn ht2
  clear hA1 hc hk hr hR hft htb hb k1 k2 s2
  go_enter Try.func24, Try.ntmps24
  go_upto_region 1 with fail
  clear hW1 hW2 s1
  obtain ⟨a0, a1, a2, a3, a4⟩ := bA.out.five
  go_wp2_with fail
  refine (hq _).mono ?_
  rintro e W3 ⟨rfl, c3⟩
  clear a0 a1 a2 a3 a4 hq
  replace bA := Lib.hid (bA.out.below c3 bA.out.lt)
  replace bR := Lib.hid (bR.out.below c3)
  replace HB := Lib.hid (HB.out.trans (c3.mono HB.out.size))
  have HS3 : Hid (w.heap.size + 1 + 1 ≤ W3.heap.size) := by have := c3.size; have := HS2.out; show _ ≤ _; omega
  clear c3 HS2
  obtain ⟨a0, a1, a2, a3, a4⟩ := bA.out.five
  go_upto_region 7 with fail
  have b1 : decide ((f : Int) < 0) = false := decide_eq_false (by omega)
  have b2 : decide (t < f) = false := decide_eq_false (by omega)
  have b3 : decide (d.b < (t : Int)) = false := decide_eq_false (by omega)
  rw [b1, b2, b3]
  simp only [Bool.or_false]
  clear a0 a1 a2 a3 a4 g1 g2 g3 m1 b1 b2 b3
  have e1 : (W3.alloc (.cells A1 2)).heap.size = W3.heap.size + 1 := by simp
  have lC := Lst.madeT W3 (List.replicate cn (0 : Int)) 2
  have lA := VarM.new (W3.alloc (.cells A1 2)) 0 0 0 47
  rw [← HA1.out] at lC
  rw [e1] at lA
  have c4 := alloc_below W3 (.cells A1 2)
  have c5 := alloc_below (W3.alloc (.cells A1 2)) (.cells #[.int .i64 0, .int .i64 0, .int .i64 0] 47)
  replace lC := lC.below c5 lC.lt
  have c45 := c4.trans (c5.mono c4.size)
  generalize (W3.alloc (.cells A1 2)).alloc (.cells #[.int .i64 0, .int .i64 0, .int .i64 0] 47) = W5 at *
  obtain ⟨gC, hgC⟩ : ∃ g, W3.heap.size = g := ⟨_, rfl⟩
  obtain ⟨gA, hgA⟩ : ∃ g, W3.heap.size + 1 = g := ⟨_, rfl⟩
  rw [hgC] at lC
  rw [hgA] at lA
  rw [hgA, hgC]
  have HG : Hid (w.heap.size + 1 + 1 ≤ gC ∧ gC + 1 = gA) := by have := HS3.out; show _ ∧ _; omega
  replace bA := Lib.hid (bA.out.below c45 bA.out.lt)
  replace bR := Lib.hid (bR.out.below c45)
  replace HB := Lib.hid (HB.out.trans (c45.mono HB.out.size))
  clear lC
  replace lA := Lib.hid lA
  clear e1 c4 c5 c45 hgC hgA HS3 HA1
  obtain ⟨RS, HRS⟩ : ∃ r, Hid (runS 3 d.lm (t - f) f (List.replicate (1 * 3) 0) = r) := ⟨_, rfl⟩
  have HPOST : Hid (∀ e w', SumQ (sumC d.k RS) (sumM d.k RS 0) (sumM d.k RS 1) (sumM d.k RS 2) RS.2 w e w' → SumQ (sumC d.k (runS 3 d.lm (t - f) f (List.replicate (1 * 3) 0))) (sumM d.k (runS 3 d.lm (t - f) f (List.replicate (1 * 3) 0)) 0) (sumM d.k (runS 3 d.lm (t - f) f (List.replicate (1 * 3) 0)) 1) (sumM d.k (runS 3 d.lm (t - f) f (List.replicate (1 * 3) 0)) 2) (runS 3 d.lm (t - f) f (List.replicate (1 * 3) 0)).2 w e w') := by
    intro e w' h
    rw [HRS.out]; exact h
  go_wp2_with fail
  have LA0 : Hid (VarM gA ((List.replicate (1 * 3) (0 : Int)).getD 0 0) ((List.replicate (1 * 3) (0 : Int)).getD 1 0) ((List.replicate (1 * 3) (0 : Int)).getD 2 0) W5) := lA.out
  go_loopw [11] (fun iv wr => ∃ (bin : Nat) (s : List Int), bin ≤ t ∧ iv = .int .i64 (bin : Int) ∧ Hid (runS 3 d.lm (t - bin) bin s = RS) ∧ Hid (VarM gA (s.getD 0 0) (s.getD 1 0) (s.getD 2 0) wr) ∧ Hid (s.length = 3 ∧ Wholes s) ∧ Hid (VarH w.heap.size d.k d.b d.c (.slice ac nc cc) (.slice am nm cm) wr) ∧ Hid (VarM (w.heap.size + 1) 0 0 0 wr) ∧ Hid (Below w.heap.size w wr)) (fun iv _ => t - (intOf iv).toNat)
  case atStart => exact ⟨f, _, HT.out.1, rfl, HRS.out, LA0.out, ⟨by simp, zeros_whole _⟩, bA.out, bR.out, HB.out⟩
  case round =>
    obtain ⟨bin, s, hj, rfl, HRN, HL, HS, bA, bR, HB⟩ := hrel
    by_cases hlt : bin < t
    · have i1 : (bin : Int) < (t : Int) := by omega
      have HLT := Lib.hid hlt
      clear hj hlt LA0 lA
      have HN := Lib.hid ((runS_more 3 d.lm t bin s HLT.out).symm.trans HRN.out)
      have HT3 : Hid (t ≤ 1048576) := by have := HT.out; show _ ≤ _; omega
      clear HRN
      go_upto_region 10 with fail
      go_wp2_with fail
      go_loopw [12] (fun iv wx => iv = .int .i64 0 ∧ Hid (VarM gA (s.getD 0 0) (s.getD 1 0) (s.getD 2 0) wx) ∧ Hid (VarH w.heap.size d.k d.b d.c (.slice ac nc cc) (.slice am nm cm) wx) ∧ Hid (VarM (w.heap.size + 1) 0 0 0 wx) ∧ Hid (Below w.heap.size w wx)) (fun _ _ => 0)
      case atStart => exact ⟨rfl, HL.out, bA.out, bR.out, HB.out⟩
      case round =>
        obtain ⟨rfl, HL, bA, bR, HB⟩ := hrel
        obtain ⟨a0, a1, a2, a3, a4⟩ := bA.out.five
        have hdc : d.c = 0 := HC0.out
        rw [hdc] at a2
        clear hdc
        have hdk : d.k = 1 := HK.out
        rw [hdk] at a0
        have hbn : bin < nm := by have := HLT.out; have := HT2.out; omega
        obtain ⟨g, oo, rfl, hgl, cX⟩ := (HR.out.below HB.out).hm.cells (by have := HR.out.nm; omega)
        have q0 : X8 w.heap.size w.heap.size (.slice (some ⟨g, oo, none⟩) nm cm) (.slice (some ⟨g, oo, none⟩) nm cm) gA 0 g (oo + bin * 3) (s.getD 0 0) (s.getD 1 0) (s.getD 2 0) (d.lm.getD (bin * 3) 0) (d.lm.getD (bin * 3 + 1) 0) (d.lm.getD (bin * 3 + 2) 0) wr := ⟨⟨HL.out.at_, ⟨hgl, cX (bin * 3) (by have := HR.out.nm; omega), by rw [Nat.add_assoc]; exact cX (bin * 3 + 1) (by have := HR.out.nm; omega), by rw [Nat.add_assoc]; exact cX (bin * 3 + 2) (by have := HR.out.nm; omega)⟩⟩, bA.out.lt, bA.out.lt, a4, a4⟩
        have hcall := fun w => rmplus_any (s.getD 0 0) (s.getD 1 0) (s.getD 2 0) (d.lm.getD (bin * 3) 0) (d.lm.getD (bin * 3 + 1) 0) (d.lm.getD (bin * 3 + 2) 0) w (HS.out.2 _ (by have := HS.out.1; omega)) (HS.out.2 _ (by have := HS.out.1; omega)) (HS.out.2 _ (by have := HS.out.1; omega)) (HR.out.wm _ (by have := HR.out.nm; omega)) (HR.out.wm _ (by have := HR.out.nm; omega)) (HR.out.wm _ (by have := HR.out.nm; omega))
        have HEQ : Hid (or3 (plE (s.getD 0 0) (d.lm.getD (bin * 3) 0)) (plE (s.getD 1 0) (d.lm.getD (bin * 3 + 1) 0)) (plE (s.getD 2 0) (d.lm.getD (bin * 3 + 2) 0)) = stE 3 d.lm s bin) := or3_first (fun j => plE (s.getD j 0) (d.lm.getD (bin * 3 + j) 0))
        rw [HEQ.out] at hcall
        have HV0 : Hid (plV (s.getD 0 0) (d.lm.getD (bin * 3) 0) = (stL 3 d.lm s bin).getD 0 0) := by show _ = _; unfold stL; rw [mapN_get _ (by omega)]; rfl
        have HV1 : Hid (plV (s.getD 1 0) (d.lm.getD (bin * 3 + 1) 0) = (stL 3 d.lm s bin).getD 1 0) := by show _ = _; unfold stL; rw [mapN_get _ (by omega)]
        have HV2 : Hid (plV (s.getD 2 0) (d.lm.getD (bin * 3 + 2) 0) = (stL 3 d.lm s bin).getD 2 0) := by show _ = _; unfold stL; rw [mapN_get _ (by omega)]
        rw [HV0.out, HV1.out, HV2.out] at hcall
        have i2 : (bin : Int) < (nm : Int) := by omega
        clear cX hgl HEQ HV0 HV1 HV2 hbn
        obtain ⟨ee, HEE⟩ : ∃ v, Hid (stE 3 d.lm s bin = v) := ⟨_, rfl⟩
        obtain ⟨t0, HT0⟩ : ∃ v, Hid ((stL 3 d.lm s bin).getD 0 0 = v) := ⟨_, rfl⟩
        obtain ⟨t1, HT1⟩ : ∃ v, Hid ((stL 3 d.lm s bin).getD 1 0 = v) := ⟨_, rfl⟩
        obtain ⟨t2, HTT⟩ : ∃ v, Hid ((stL 3 d.lm s bin).getD 2 0 = v) := ⟨_, rfl⟩
        rw [HEE.out, HT0.out, HT1.out, HTT.out] at hcall
        generalize d.lm.getD (bin * 3) 0 = y0 at *
        generalize d.lm.getD (bin * 3 + 1) 0 = y1 at *
        generalize d.lm.getD (bin * 3 + 2) 0 = y2 at *
        generalize s.getD 0 0 = x0 at *
        generalize s.getD 1 0 = x1 at *
        generalize s.getD 2 0 = x2 at *
        go_upto_region 18 with fail
        clear a0 a1 a2 a3 a4
        go_cut [15, 16] (fun s10 s11 wx => ∃ gm : Nat, s10 = .pointer (some ⟨gm, 0, none⟩) ∧ s11 = .int .i64 ee ∧ AtM gm 0 (okV ee t0) (okV ee t1) (okV ee t2) wx ∧ wr.heap.size ≤ gm ∧ Below wr.heap.size wr wx)
        case first =>
          clear hdk
          have na : gA ≠ wr.heap.size := by have := q0.x.a.lt; omega
          have nb : g ≠ wr.heap.size := by have := q0.x.b.lt; omega
          have nA : w.heap.size ≠ wr.heap.size := by have := q0.l1; omega
          go_region_held3 (fun w' => (w'.cell? ⟨w.heap.size, 4, none⟩ = some (.slice (some ⟨g, oo, none⟩) nm cm) ∧ w'.cell? ⟨w.heap.size, 4, none⟩ = some (.slice (some ⟨g, oo, none⟩) nm cm)) ∧ ((w'.cell? ⟨gA, 0, none⟩ = some (.int .i64 x0) ∧ w'.cell? ⟨gA, 1, none⟩ = some (.int .i64 x1) ∧ w'.cell? ⟨gA, 2, none⟩ = some (.int .i64 x2)) ∧ (w'.cell? ⟨g, oo + bin * 3, none⟩ = some (.int .i64 y0) ∧ w'.cell? ⟨g, oo + bin * 3 + 1, none⟩ = some (.int .i64 y1) ∧ w'.cell? ⟨g, oo + bin * 3 + 2, none⟩ = some (.int .i64 y2))))
            ((refine X8.cells ?_; repeat (with_reducible (first | exact q0 | exact q9 | refine X8.alloc ?_ _ | refine X8.drew ?_ | refine X8.set ?_ na nb nA nA _ _))))
            ((go_at_call 33; refine (hcall _).mono ?_; rintro a9 w' ⟨rfl, c⟩; have q9 : X8 w.heap.size w.heap.size (.slice (some ⟨g, oo, none⟩) nm cm) (.slice (some ⟨g, oo, none⟩) nm cm) gA 0 g (oo + bin * 3) x0 x1 x2 y0 y1 y2 w' := X8.below (by (repeat (with_reducible (first | exact q0 | refine X8.alloc ?_ _ | refine X8.drew ?_)))) c; try (have mm : VarM wr.heap.size 0 0 0 w' := VarM.below (VarM.new wr 0 0 0 47).drew c; obtain ⟨⟨m9, m0, m1, m2⟩, mf0, mf1, mf2⟩ := mm)))
          · go_wp2_with fail
            go_meet
            exact ⟨_, rfl, rfl, AtM.new w' _ _ _ _, c.size, ((show Below wr.heap.size wr wr.drew from (Below.refl _ wr).drew).trans c).alloc c.size _⟩
          · go_wp2_with fail
            go_meet
            refine ⟨_, rfl, rfl, AtM.set (show AtM wr.heap.size 0 0 0 0 w' from ⟨m9, m0, m1, m2⟩), Nat.le_refl _, ?_⟩
            refine set3_below (b := wr.heap.size) (o := 0) (((Below.refl wr.heap.size wr).alloc (Nat.le_refl _) _).drew.trans (c.mono (by simp))) (Nat.le_refl _)
        case rest =>
          obtain ⟨gm, rfl, rfl, hM, hm, hW⟩ := hcut
          have HMLT : Hid (gA < wr.heap.size ∧ gm ≠ gA) := by have := HL.out.at_.lt; show _ ∧ _; omega
          replace HL := Lib.hid (VarM.below HL.out hW)
          replace bA := Lib.hid (bA.out.below hW bA.out.lt)
          replace bR := Lib.hid (VarM.below bR.out hW)
          replace HB := Lib.hid (HB.out.trans (hW.mono HB.out.size))
          clear hcall q0 hW hm
          by_cases he : ee = 0
          · have HN2 : Hid (runS 3 d.lm (t - (bin + 1)) (bin + 1) (stL 3 d.lm s bin) = RS) := by
              have := HN.out
              rw [HEE.out, if_pos he] at this
              exact this
            subst he
            have k0 : ∀ v, okV 0 v = v := fun v => if_pos rfl
            rw [k0, k0, k0] at hM
            obtain ⟨_, e0, e1, e2⟩ := hM
            obtain ⟨⟨_, d0, d1, d2⟩, f0, f1, f2⟩ := HL.out
            simp only [Nat.zero_add] at d0 d1 d2 e0 e1 e2
            have st2 : Hid (VarM gA ((stL 3 d.lm s bin).getD 0 0) ((stL 3 d.lm s bin).getD 1 0) ((stL 3 d.lm s bin).getD 2 0) (set3 wc gA 0 (.int .i64 t0) (.int .i64 t1) (.int .i64 t2))) := by
              rw [HT0.out, HT1.out, HTT.out]
              exact VarM.set HL.out
            have hb9 := set3_but (b := gA) (o := 0) (x := .int .i64 t0) (y := .int .i64 t1) (z := .int .i64 t2) wc
            have n1 := Lib.hid (bA.out.but hb9 (by have := HG.out; omega))
            have n2 := Lib.hid (VarM.but bR.out hb9 (by have := HG.out; omega))
            have n5 := Lib.hid (HB.out.trans (hb9.below (by have := HG.out; omega) HB.out.size))
            have HNX := Lib.hid (next_num HLT.out HT3.out)
            have g1 := HMLT.out.2
            clear hb9 k0
            go_wp2_with fail
            exact ⟨⟨bin + 1, _, HLT.out, (by first | exact congrArg (Value.int .i64) HNX.out.1 | exact congrArg (Value.int .i64) (Int.natCast_succ bin).symm), HN2.out, st2.out, ⟨stL_len _ _ _ _, stL_whole _ _ _ _⟩, n1.out, n2.out, n5.out⟩, (by first | exact HNX.out.2 | (have := HLT.out; simp only [intOf]; omega))⟩
          · have HRE : Hid (RS = ([], ee)) := by
              have := HN.out
              rw [HEE.out, if_neg he] at this
              exact this.symm
            have HZE : Hid (∀ W, Below w.heap.size w W → SumQ (sumC d.k RS) (sumM d.k RS 0) (sumM d.k RS 1) (sumM d.k RS 2) RS.2 w (.returned (.tuple #[.slice none 0 0, .agg #[.int .i64 0, .int .i64 0, .int .i64 0], .int .i64 ee])) W) := by
              intro W hW
              rw [HRE.out]
              have y1 : sumC d.k ([], ee) = [] := if_neg (fun h => he h.1)
              have y2 : ∀ i, sumM d.k ([], ee) i = 0 := fun i => if_neg (fun h => he h.1)
              rw [y1, y2, y2, y2]
              exact sumQ_none hW
            have gb : (ee != 0) = true := by simpa using he
            obtain ⟨⟨_, r0, r1, r2⟩, f0, f1, f2⟩ := bR.out
            clear he hM
            go_wp2_with fail
            obtain ⟨d0, d1, d2⟩ := set3_cell (x := .int .i64 0) (y := .int .i64 0) (z := .int .i64 0) bR.out.at_.c0 bR.out.at_.c1 bR.out.at_.c2
            have HD := set3_below (b := w.heap.size + 1) (o := 0) (x := .int .i64 0) (y := .int .i64 0) (z := .int .i64 0) HB.out (by omega)
            change bodyPost _ _ _ _ _ (set3 _ (w.heap.size + 1) 0 (.int .i64 0) (.int .i64 0) (.int .i64 0))
            generalize set3 _ (w.heap.size + 1) 0 (.int .i64 0) (.int .i64 0) (.int .i64 0) = WZ at *
            have HQ := HPOST.out _ _ (HZE.out _ HD)
            simp only [Nat.zero_add] at d0 d1 d2
            simp [bodyPost, results, Try.results24, go_sem, d0, d1, d2]
            exact HQ
    · have HRE : Hid (RS = (s, 0)) := by
        have hjt : bin = t := by omega
        have := HRN.out
        rw [hjt, Nat.sub_self] at this
        exact this.symm
      obtain rfl : t = bin := by omega
      have HZ : Hid (∀ W, Below w.heap.size w W → SumQ (sumC d.k RS) (sumM d.k RS 0) (sumM d.k RS 1) (sumM d.k RS 2) RS.2 w (.returned (.tuple #[.slice (some ⟨gC, 0, none⟩) cn cn, .agg #[.int .i64 (s.getD 0 0), .int .i64 (s.getD 1 0), .int .i64 (s.getD 2 0)], .int .i64 0])) W) := by
        intro W hW
        rw [HRE.out]
        have y1 : sumC d.k (s, 0) = [] := if_neg (fun h => by have := HK.out; omega)
        have y2 : ∀ i, sumM d.k (s, 0) i = s.getD i 0 := fun i => if_pos ⟨rfl, HK.out⟩
        rw [y1, y2, y2, y2]
        exact ⟨_, cn, by rw [HCN.out]; rfl, .inl rfl, hW⟩
      obtain ⟨⟨_, x0, x1, x2⟩, _, _, _⟩ := HL.out
      obtain ⟨⟨_, r0, r1, r2⟩, f0, f1, f2⟩ := bR.out
      simp only [Nat.zero_add] at x0 x1 x2
      have gne : gA ≠ w.heap.size + 1 := by have := HG.out; omega
      clear hlt hj HRN LA0 lA
      go_upto_region 22 with fail
      go_region
      go_wp2_with fail
      obtain ⟨d0, d1, d2⟩ := set3_cell (x := .int .i64 (s.getD 0 0)) (y := .int .i64 (s.getD 1 0)) (z := .int .i64 (s.getD 2 0)) bR.out.at_.c0 bR.out.at_.c1 bR.out.at_.c2
      have HD := set3_below (b := w.heap.size + 1) (o := 0) (x := .int .i64 (s.getD 0 0)) (y := .int .i64 (s.getD 1 0)) (z := .int .i64 (s.getD 2 0)) HB.out (by omega)
      change bodyPost _ _ _ _ _ (set3 wr (w.heap.size + 1) 0 (.int .i64 (s.getD 0 0)) (.int .i64 (s.getD 1 0)) (.int .i64 (s.getD 2 0))).drew
      generalize set3 wr (w.heap.size + 1) 0 (.int .i64 (s.getD 0 0)) (.int .i64 (s.getD 1 0)) (.int .i64 (s.getD 2 0)) = WZ at *
      have HQ := HPOST.out _ _ (HZ.out _ HD.drew)
      simp only [Nat.zero_add] at d0 d1 d2
      have d0' : WZ.drew.cell? ⟨w.heap.size + 1, 0, none⟩ = _ := d0
      have d1' : WZ.drew.cell? ⟨w.heap.size + 1, 1, none⟩ = _ := d1
      have d2' : WZ.drew.cell? ⟨w.heap.size + 1, 2, none⟩ = _ := d2
      simp [bodyPost, results, Try.results24, go_sem, d0', d1', d2']
      exact HQ

end Go.Proofs.Ytdpcplhmnpglgaa
