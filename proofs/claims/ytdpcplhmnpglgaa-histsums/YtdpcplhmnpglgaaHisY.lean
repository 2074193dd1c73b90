/-
  HISTOGRAMS: hist.Sum. Conditions: each number is of 64 bits with a sign; no more than 2^20 of them.
-/
import Derived.Test.YtdpcplhmnpglgaaHisX
namespace Go.Proofs.Ytdpcplhmnpglgaa
open Go.RowKit

/-- What a sum of bins hands back. -/
def SumQ (L : List Int) (m0 m1 m2 err : Int) (w : World) (e : Ending) (w' : World) : Prop :=
  ∃ a cap, e = .returned (.tuple #[.slice a L.length cap, .agg #[.int .i64 m0, .int .i64 m1, .int .i64 m2], .int .i64 err]) ∧ HoldsE KL w' a L ∧ Below w.heap.size w w'
theorem sumQ_none {err : Int} {w w' : World} (h : Below w.heap.size w w') : SumQ [] 0 0 0 err w (.returned (.tuple #[.slice Option.none 0 0, .agg #[.int .i64 0, .int .i64 0, .int .i64 0], .int .i64 err])) w' := ⟨Option.none, 0, rfl, .inl rfl, h⟩
/-- The counts, and the moment, of a row of sums. -/
def sumC (k : Int) (r : List Int × Int) : List Int := if r.2 = 0 ∧ k = 0 then r.1 else []
def sumM (k : Int) (r : List Int × Int) (i : Nat) : Int := if r.2 = 0 ∧ k = 1 then r.1.getD i 0 else 0
theorem runS_more (wd : Nat) (x : List Int) (n bin : Nat) (s : List Int) (h : bin < n) : runS wd x (n - bin) bin s = if stE wd x s bin = 0 then runS wd x (n - (bin + 1)) (bin + 1) (stL wd x s bin) else ([], stE wd x s bin) := by
  rw [show n - bin = (n - (bin + 1)) + 1 by omega]; rfl
theorem zeros_whole (n : Nat) : Wholes (List.replicate n (0 : Int)) := by
  intro j hj
  simp at hj
  rw [show (List.replicate n (0 : Int)).getD j 0 = 0 by simp [List.getD_eq_getElem?_getD, hj]]
  exact ⟨by omega, by omega⟩
theorem VarM.but {g b : Nat} {x y z : Int} {w w' : World} (h : VarM g x y z w) (c : But b w w') (hn : g ≠ b) : VarM g x y z w' :=
  ⟨h.at_.but c hn, (c.frozen (by exact h.at_.lt) (by exact hn)).trans h.f0, (c.frozen (by exact h.at_.lt) (by exact hn)).trans h.f1, (c.frozen (by exact h.at_.lt) (by exact hn)).trans h.f2⟩
theorem Outs.of_but {g b : Nat} {w w' : World} (h : But b w w') (hg : g < w.heap.size) (hn : g ≠ b) : w'.heap[g]? = w.heap[g]? := h.block g hg hn


set_option maxHeartbeats 2000000 in
theorem sum_0 (d : HD) (ac am : Option Addr) (nc cc nm cm : Nat) (f t : Nat) (w : World) (hR : Reads d ac nc am nm w) (hr : rightB d.k d.b d.c nc nm = true) (hk : d.k = 0) (cn : Nat) (hc : d.c = (cn : Int)) (hc0 : 0 < cn) (hc1 : cn ≤ 256) (hlen : ∀ bin, bin < t → bin * cn + cn ≤ nc) (hcc : nc ≤ cc) (hnc : nc ≤ 65792) (hft : f ≤ t) (htb : (t : Int) ≤ d.b) (hb : d.b ≤ 257) :
    Calls Try.prog 23 #[.agg #[.int .i64 d.k, .int .i64 d.b, .int .i64 d.c, .slice ac nc cc, .slice am nm cm], .int .i64 (f : Int), .int .i64 (t : Int)] w fun e w' =>
      SumQ (sumC d.k (runS cn d.lc (t - f) f (List.replicate cn 0))) (sumM d.k (runS cn d.lc (t - f) f (List.replicate cn 0)) 0) (sumM d.k (runS cn d.lc (t - f) f (List.replicate cn 0)) 1) (sumM d.k (runS cn d.lc (t - f) f (List.replicate cn 0)) 2) (runS cn d.lc (t - f) f (List.replicate cn 0)).2 w e w' := by
  have hq := fun w => right_any d.k d.b d.c ac am nc cc nm cm w
  rw [hr] at hq
  have HC := Lib.hid (And.intro hc (And.intro hc0 hc1))
  have HBIN := Lib.hid hlen
  have HCC := Lib.hid (And.intro hcc hnc)
  have HT := Lib.hid (And.intro hft (And.intro htb hb))
  have HR := Lib.hid hR
  have HK := Lib.hid hk
  have m1 : ∀ w, (Instr.makeSlice 26 (.int .i64 d.c) (.int .i64 d.c)).run Try.prog w = .ok (.slice (some ⟨w.heap.size, 0, none⟩) cn cn) (w.alloc (.cells ((List.replicate cn (0 : Int)).map KL.enc).toArray 2)) := by
    intro w
    rw [hc]
    exact run_madeE okL w cn (by omega)
  have m2 : ∀ w, (Instr.makeSlice 27 (.int .i64 1) (.int .i64 1)).run Try.prog w = .ok (.slice (some ⟨w.heap.size, 0, none⟩) 1 1) (w.alloc (.cells ((List.replicate (1 * 3) (0 : Int)).map KL.enc).toArray 47)) := fun w => run_madeM w 1 (by decide)
  obtain ⟨A1, hA1⟩ : ∃ A, A = ((List.replicate cn (0 : Int)).map KL.enc).toArray := ⟨_, rfl⟩
  obtain ⟨A2, hA2⟩ : ∃ A, A = ((List.replicate (1 * 3) (0 : Int)).map KL.enc).toArray := ⟨_, rfl⟩
  rw [← hA1] at m1
  rw [← hA2] at m2
  have HA1 := Lib.hid hA1
  have HA2 := Lib.hid hA2
  have bA := VarH.new w d.k d.b d.c (.slice ac nc cc) (.slice am nm cm) 29
  obtain ⟨W1, hW1⟩ : ∃ W1, w.alloc (.cells #[.int .i64 d.k, .int .i64 d.b, .int .i64 d.c, .slice ac nc cc, .slice am nm cm] 29) = W1 := ⟨_, rfl⟩
  rw [hW1] at bA
  have s1 : W1.heap.size = w.heap.size + 1 := by rw [← hW1]; simp
  have bR := VarM.new W1 0 0 0 47
  obtain ⟨W2, hW2⟩ : ∃ W2, W1.alloc (.cells #[.int .i64 0, .int .i64 0, .int .i64 0] 47) = W2 := ⟨_, rfl⟩
  rw [hW2, s1] at bR
  have k1 : Below w.heap.size w W1 := hW1 ▸ alloc_below w _
  have k2 : Below W1.heap.size W1 W2 := hW2 ▸ alloc_below W1 _
  have HB : Hid (Below w.heap.size w W2) := k1.trans (k2.mono k1.size)
  replace bA := Lib.hid (bA.below k2 bA.lt)
  have s2 : W2.heap.size = w.heap.size + 1 + 1 := by rw [← hW2]; simp [s1]
  have HS2 := Lib.hid s2
  replace bR := Lib.hid bR
  have g1 : ¬ (f : Int) < 0 := by omega
  have g2 : ¬ (t : Int) < (f : Int) := by omega
  have g3 : ¬ d.b < (t : Int) := by omega
  clear hc0 hc1 hlen hcc hnc
  clear hA1 hA2 hc hk hr hR hft htb hb k1 k2 s2
  go_enter Try.func23, Try.ntmps23
  go_upto_region 1 with fail
  clear hW1 hW2 s1
  obtain ⟨a0, a1, a2, a3, a4⟩ := bA.out.five
  go_wp2_with fail
  refine (hq _).mono ?_
  rintro e W3 ⟨rfl, c3⟩
  clear a0 a1 a2 a3 a4 hq
  replace bA := Lib.hid (bA.out.below c3 bA.out.lt)
  replace bR := Lib.hid (bR.out.below c3)
  replace HB := Lib.hid (HB.out.trans (c3.mono HB.out.size))
  have HS3 : Hid (w.heap.size + 1 + 1 ≤ W3.heap.size) := by have := c3.size; have := HS2.out; show _ ≤ _; omega
  clear c3 HS2
  obtain ⟨a0, a1, a2, a3, a4⟩ := bA.out.five
  go_upto_region 7 with fail
  have b1 : decide ((f : Int) < 0) = false := decide_eq_false (by omega)
  have b2 : decide (t < f) = false := decide_eq_false (by omega)
  have b3 : decide (d.b < (t : Int)) = false := decide_eq_false (by omega)
  rw [b1, b2, b3]
  simp only [Bool.or_false]
  clear a0 a1 a2 a3 a4 g1 g2 g3 m1 m2 b1 b2 b3
  have e1 : (W3.alloc (.cells A1 2)).heap.size = W3.heap.size + 1 := by simp
  have lC := Lst.madeT W3 (List.replicate cn (0 : Int)) 2
  have lA := Lst.madeT (W3.alloc (.cells A1 2)) (List.replicate (1 * 3) (0 : Int)) 47
  rw [← HA1.out] at lC
  rw [← HA2.out, e1] at lA
  have c4 := alloc_below W3 (.cells A1 2)
  have c5 := alloc_below (W3.alloc (.cells A1 2)) (.cells A2 47)
  replace lC := lC.below c5 lC.lt
  have c45 := c4.trans (c5.mono c4.size)
  generalize (W3.alloc (.cells A1 2)).alloc (.cells A2 47) = W5 at *
  obtain ⟨gC, hgC⟩ : ∃ g, W3.heap.size = g := ⟨_, rfl⟩
  obtain ⟨gA, hgA⟩ : ∃ g, W3.heap.size + 1 = g := ⟨_, rfl⟩
  rw [hgC] at lC
  rw [hgA] at lA
  rw [hgA, hgC]
  have HG : Hid (w.heap.size + 1 + 1 ≤ gC ∧ gC + 1 = gA) := by have := HS3.out; show _ ∧ _; omega
  replace bA := Lib.hid (bA.out.below c45 bA.out.lt)
  replace bR := Lib.hid (bR.out.below c45)
  replace HB := Lib.hid (HB.out.trans (c45.mono HB.out.size))
  replace lC := Lib.hid lC
  replace lA := Lib.hid lA
  clear e1 c4 c5 c45 hgC hgA HS3 HA1 HA2
  obtain ⟨RS, HRS⟩ : ∃ r, Hid (runS cn d.lc (t - f) f (List.replicate cn 0) = r) := ⟨_, rfl⟩
  have HPOST : Hid (∀ e w', SumQ (sumC d.k RS) (sumM d.k RS 0) (sumM d.k RS 1) (sumM d.k RS 2) RS.2 w e w' → SumQ (sumC d.k (runS cn d.lc (t - f) f (List.replicate cn 0))) (sumM d.k (runS cn d.lc (t - f) f (List.replicate cn 0)) 0) (sumM d.k (runS cn d.lc (t - f) f (List.replicate cn 0)) 1) (sumM d.k (runS cn d.lc (t - f) f (List.replicate cn 0)) 2) (runS cn d.lc (t - f) f (List.replicate cn 0)).2 w e w') := by
    intro e w' h
    rw [HRS.out]; exact h
  go_wp2_with fail
  go_loopw [11] (fun iv wr => ∃ (bin : Nat) (s : List Int), bin ≤ t ∧ iv = .int .i64 (bin : Int) ∧ Hid (runS cn d.lc (t - bin) bin s = RS) ∧ Hid (Lst KL gC 0 s wr ∧ Lst KL gA 0 (List.replicate (1 * 3) 0) wr) ∧ Hid (s.length = cn ∧ Wholes s) ∧ Hid (VarH w.heap.size d.k d.b d.c (.slice ac nc cc) (.slice am nm cm) wr) ∧ Hid (VarM (w.heap.size + 1) 0 0 0 wr) ∧ Hid (Below w.heap.size w wr)) (fun iv _ => t - (intOf iv).toNat)
  case atStart => exact ⟨f, _, HT.out.1, rfl, HRS.out, ⟨lC.out, lA.out⟩, ⟨by simp, zeros_whole _⟩, bA.out, bR.out, HB.out⟩
  case round =>
    obtain ⟨bin, s, hj, rfl, HRN, HL, HS, bA, bR, HB⟩ := hrel
    by_cases hlt : bin < t
    · have i1 : (bin : Int) < (t : Int) := by omega
      have HLT := Lib.hid hlt
      have hc := addBin_0 gC gA cn bin nc cc nm cm d.b d.c d.lc s ac am w wr HC.out.1 HC.out.2.1 HC.out.2.2 HR.out.nc (HBIN.out bin hlt) HCC.out.1 HCC.out.2 HR.out.hc HB.out (by have := HG.out; omega) HR.out.wc HS.out.2 HS.out.1 HL.out.1
      rw [← HK.out] at hc
      obtain ⟨a0, a1, a2, a3, a4⟩ := bA.out.five
      clear hj hlt
      go_wp2_with fail
      refine hc.mono ?_
      rintro e w1 ⟨rfl, hL2, hB2⟩
      clear hc a0 a1 a2 a3 a4
      replace bA := Lib.hid (bA.out.but hB2 (by have := HG.out; omega))
      replace bR := Lib.hid (VarM.but bR.out hB2 (by have := HG.out; omega))
      have HO := Lib.hid (HL.out.2.but hB2 (by have := HG.out; omega))
      replace HB := Lib.hid (HB.out.trans (hB2.below (by have := HG.out; omega) HB.out.size))
      have HN := Lib.hid ((runS_more cn d.lc t bin s HLT.out).symm.trans HRN.out)
      replace hL2 := Lib.hid hL2
      obtain ⟨er, HER⟩ : ∃ er, Hid (stE cn d.lc s bin = er) := ⟨_, rfl⟩
      rw [HER.out] at HN hL2 ⊢
      clear hB2 HRN HL
      by_cases he : er = 0
      · subst he
        have HN2 : Hid (runS cn d.lc (t - (bin + 1)) (bin + 1) (stL cn d.lc s bin) = RS) := by
          have := HN.out
          rw [if_pos rfl] at this
          exact this
        have HT3 : Hid (t ≤ 1048576) := by have := HT.out; show _ ≤ _; omega
        go_wp2_with fail
        go_roundw
        case rel => exact ⟨bin + 1, _, HLT.out, (by first | exact congrArg (Value.int .i64) (next_num HLT.out HT3.out).1 | exact congrArg (Value.int .i64) (Int.natCast_succ bin).symm), HN2.out, ⟨hL2.out (by simp), HO.out⟩, ⟨stL_len _ _ _ _, stL_whole _ _ _ _⟩, bA.out, bR.out, HB.out⟩
        case measure => first | exact (next_num HLT.out HT3.out).2 | (have := HLT.out; simp only [intOf]; omega)
      · have HRE : Hid (RS = ([], er)) := by
          have := HN.out
          rw [if_neg he] at this
          exact this.symm
        have HZ : Hid (∀ W, Below w.heap.size w W → SumQ (sumC d.k RS) (sumM d.k RS 0) (sumM d.k RS 1) (sumM d.k RS 2) RS.2 w (.returned (.tuple #[.slice none 0 0, .agg #[.int .i64 0, .int .i64 0, .int .i64 0], .int .i64 er])) W) := by
          intro W hW
          rw [HRE.out]
          have y1 : sumC d.k ([], er) = [] := if_neg (fun h => he h.1)
          have y2 : ∀ i, sumM d.k ([], er) i = 0 := fun i => if_neg (fun h => he h.1)
          rw [y1, y2, y2, y2]
          exact sumQ_none hW
        have gb : (er != 0) = true := by simpa using he
        obtain ⟨⟨_, r0, r1, r2⟩, f0, f1, f2⟩ := bR.out
        clear he
        go_wp2_with fail
        obtain ⟨d0, d1, d2⟩ := set3_cell (x := .int .i64 0) (y := .int .i64 0) (z := .int .i64 0) bR.out.at_.c0 bR.out.at_.c1 bR.out.at_.c2
        have HD := set3_below (b := w.heap.size + 1) (o := 0) (x := .int .i64 0) (y := .int .i64 0) (z := .int .i64 0) HB.out (by omega)
        change bodyPost _ _ _ _ _ (set3 w1 (w.heap.size + 1) 0 (.int .i64 0) (.int .i64 0) (.int .i64 0))
        generalize set3 w1 (w.heap.size + 1) 0 (.int .i64 0) (.int .i64 0) (.int .i64 0) = WZ at *
        have HQ := HPOST.out _ _ (HZ.out _ HD)
        simp only [Nat.zero_add] at d0 d1 d2
        simp [bodyPost, results, Try.results23, go_sem, d0, d1, d2]
        exact HQ
    · have HRE : Hid (RS = (s, 0)) := by
        have hjt : bin = t := by omega
        have := HRN.out
        rw [hjt, Nat.sub_self] at this
        exact this.symm
      obtain rfl : t = bin := by omega
      have LA := Lib.hid (HL.out.2)
      have LC := Lib.hid (HL.out.1)
      have HZ : Hid (∀ W, HoldsE KL W (some ⟨gC, 0, none⟩) (s) → Below w.heap.size w W → SumQ (sumC d.k RS) (sumM d.k RS 0) (sumM d.k RS 1) (sumM d.k RS 2) RS.2 w (.returned (.tuple #[.slice (some ⟨gC, 0, none⟩) cn cn, .agg #[.int .i64 0, .int .i64 0, .int .i64 0], .int .i64 0])) W) := by
        intro W hH hW
        rw [HRE.out]
        have y1 : sumC d.k (s, 0) = s := if_pos ⟨rfl, HK.out⟩
        have y2 : ∀ i, sumM d.k (s, 0) i = 0 := fun i => if_neg (fun h => by have := HK.out; omega)
        rw [y1, y2, y2, y2]
        exact ⟨_, cn, by rw [HS.out.1], hH, hW⟩
      obtain ⟨_, x0, x1, x2⟩ := LA.out.atM 0 (by simp)
      simp only [Nat.zero_mul, Nat.zero_add, Nat.add_zero] at x0 x1 x2
      simp [List.getD_eq_getElem?_getD] at x0 x1 x2
      obtain ⟨⟨_, r0, r1, r2⟩, f0, f1, f2⟩ := bR.out
      have gne : gA ≠ w.heap.size + 1 := by have := HG.out; omega
      clear hlt hj HRN HL
      go_upto_region 13 with fail
      go_region
      go_wp2_with fail
      obtain ⟨d0, d1, d2⟩ := set3_cell (x := .int .i64 0) (y := .int .i64 0) (z := .int .i64 0) bR.out.at_.c0 bR.out.at_.c1 bR.out.at_.c2
      have HD := set3_below (b := w.heap.size + 1) (o := 0) (x := .int .i64 0) (y := .int .i64 0) (z := .int .i64 0) HB.out (by omega)
      have HBT := set3_but (b := w.heap.size + 1) (o := 0) (x := .int .i64 0) (y := .int .i64 0) (z := .int .i64 0) wr
      change bodyPost _ _ _ _ _ (set3 wr (w.heap.size + 1) 0 (.int .i64 0) (.int .i64 0) (.int .i64 0)).drew
      have HH := (LC.out.but HBT (by have := HG.out; omega)).drew.holds
      generalize set3 wr (w.heap.size + 1) 0 (.int .i64 0) (.int .i64 0) (.int .i64 0) = WZ at *
      have HQ := HPOST.out _ _ (HZ.out _ HH HD.drew)
      simp only [Nat.zero_add] at d0 d1 d2
      have d0' : WZ.drew.cell? ⟨w.heap.size + 1, 0, none⟩ = _ := d0
      have d1' : WZ.drew.cell? ⟨w.heap.size + 1, 1, none⟩ = _ := d1
      have d2' : WZ.drew.cell? ⟨w.heap.size + 1, 2, none⟩ = _ := d2
      simp [bodyPost, results, Try.results23, go_sem, d0', d1', d2']
      exact HQ


set_option maxHeartbeats 2000000 in
theorem sum_1 (d : HD) (ac am : Option Addr) (nc cc nm cm : Nat) (f t : Nat) (w : World) (hR : Reads d ac nc am nm w) (hr : rightB d.k d.b d.c nc nm = true) (hk : d.k = 1) (cn : Nat) (hcn : cn = 0) (hc : d.c = (cn : Int)) (ht2 : t ≤ nm) (hcc : nm ≤ cm) (hft : f ≤ t) (htb : (t : Int) ≤ d.b) (hb : d.b ≤ 257) :
    Calls Try.prog 23 #[.agg #[.int .i64 d.k, .int .i64 d.b, .int .i64 d.c, .slice ac nc cc, .slice am nm cm], .int .i64 (f : Int), .int .i64 (t : Int)] w fun e w' =>
      SumQ (sumC d.k (runS 3 d.lm (t - f) f (List.replicate (1 * 3) 0))) (sumM d.k (runS 3 d.lm (t - f) f (List.replicate (1 * 3) 0)) 0) (sumM d.k (runS 3 d.lm (t - f) f (List.replicate (1 * 3) 0)) 1) (sumM d.k (runS 3 d.lm (t - f) f (List.replicate (1 * 3) 0)) 2) (runS 3 d.lm (t - f) f (List.replicate (1 * 3) 0)).2 w e w' := by
  have hq := fun w => right_any d.k d.b d.c ac am nc cc nm cm w
  rw [hr] at hq
  have HC0 := Lib.hid hcn
  have HT2 := Lib.hid ht2
  have HCC := Lib.hid (And.intro hcc True.intro)
  have HT := Lib.hid (And.intro hft (And.intro htb hb))
  have HR := Lib.hid hR
  have HK := Lib.hid hk
  have m1 : ∀ w, (Instr.makeSlice 26 (.int .i64 d.c) (.int .i64 d.c)).run Try.prog w = .ok (.slice (some ⟨w.heap.size, 0, none⟩) cn cn) (w.alloc (.cells ((List.replicate cn (0 : Int)).map KL.enc).toArray 2)) := by
    intro w
    rw [hc]
    exact run_madeE okL w cn (by omega)
  have m2 : ∀ w, (Instr.makeSlice 27 (.int .i64 1) (.int .i64 1)).run Try.prog w = .ok (.slice (some ⟨w.heap.size, 0, none⟩) 1 1) (w.alloc (.cells ((List.replicate (1 * 3) (0 : Int)).map KL.enc).toArray 47)) := fun w => run_madeM w 1 (by decide)
  obtain ⟨A1, hA1⟩ : ∃ A, A = ((List.replicate cn (0 : Int)).map KL.enc).toArray := ⟨_, rfl⟩
  obtain ⟨A2, hA2⟩ : ∃ A, A = ((List.replicate (1 * 3) (0 : Int)).map KL.enc).toArray := ⟨_, rfl⟩
  rw [← hA1] at m1
  rw [← hA2] at m2
  have HA1 := Lib.hid hA1
  have HA2 := Lib.hid hA2
  have bA := VarH.new w d.k d.b d.c (.slice ac nc cc) (.slice am nm cm) 29
  obtain ⟨W1, hW1⟩ : ∃ W1, w.alloc (.cells #[.int .i64 d.k, .int .i64 d.b, .int .i64 d.c, .slice ac nc cc, .slice am nm cm] 29) = W1 := ⟨_, rfl⟩
  rw [hW1] at bA
  have s1 : W1.heap.size = w.heap.size + 1 := by rw [← hW1]; simp
  have bR := VarM.new W1 0 0 0 47
  obtain ⟨W2, hW2⟩ : ∃ W2, W1.alloc (.cells #[.int .i64 0, .int .i64 0, .int .i64 0] 47) = W2 := ⟨_, rfl⟩
  rw [hW2, s1] at bR
  have k1 : Below w.heap.size w W1 := hW1 ▸ alloc_below w _
  have k2 : Below W1.heap.size W1 W2 := hW2 ▸ alloc_below W1 _
  have HB : Hid (Below w.heap.size w W2) := k1.trans (k2.mono k1.size)
  replace bA := Lib.hid (bA.below k2 bA.lt)
  have s2 : W2.heap.size = w.heap.size + 1 + 1 := by rw [← hW2]; simp [s1]
  have HS2 := Lib.hid s2
  replace bR := Lib.hid bR
  have g1 : ¬ (f : Int) < 0 := by omega
  have g2 : ¬ (t : Int) < (f : Int) := by omega
  have g3 : ¬ d.b < (t : Int) := by omega
  clear hcn ht2 hcc
  clear hA1 hA2 hc hk hr hR hft htb hb k1 k2 s2
  go_enter Try.func23, Try.ntmps23
  go_upto_region 1 with fail
  clear hW1 hW2 s1
  obtain ⟨a0, a1, a2, a3, a4⟩ := bA.out.five
  go_wp2_with fail
  refine (hq _).mono ?_
  rintro e W3 ⟨rfl, c3⟩
  clear a0 a1 a2 a3 a4 hq
  replace bA := Lib.hid (bA.out.below c3 bA.out.lt)
  replace bR := Lib.hid (bR.out.below c3)
  replace HB := Lib.hid (HB.out.trans (c3.mono HB.out.size))
  have HS3 : Hid (w.heap.size + 1 + 1 ≤ W3.heap.size) := by have := c3.size; have := HS2.out; show _ ≤ _; omega
  clear c3 HS2
  obtain ⟨a0, a1, a2, a3, a4⟩ := bA.out.five
  go_upto_region 7 with fail
  have b1 : decide ((f : Int) < 0) = false := decide_eq_false (by omega)
  have b2 : decide (t < f) = false := decide_eq_false (by omega)
  have b3 : decide (d.b < (t : Int)) = false := decide_eq_false (by omega)
  rw [b1, b2, b3]
  simp only [Bool.or_false]
  clear a0 a1 a2 a3 a4 g1 g2 g3 m1 m2 b1 b2 b3
  have e1 : (W3.alloc (.cells A1 2)).heap.size = W3.heap.size + 1 := by simp
  have lC := Lst.madeT W3 (List.replicate cn (0 : Int)) 2
  have lA := Lst.madeT (W3.alloc (.cells A1 2)) (List.replicate (1 * 3) (0 : Int)) 47
  rw [← HA1.out] at lC
  rw [← HA2.out, e1] at lA
  have c4 := alloc_below W3 (.cells A1 2)
  have c5 := alloc_below (W3.alloc (.cells A1 2)) (.cells A2 47)
  replace lC := lC.below c5 lC.lt
  have c45 := c4.trans (c5.mono c4.size)
  generalize (W3.alloc (.cells A1 2)).alloc (.cells A2 47) = W5 at *
  obtain ⟨gC, hgC⟩ : ∃ g, W3.heap.size = g := ⟨_, rfl⟩
  obtain ⟨gA, hgA⟩ : ∃ g, W3.heap.size + 1 = g := ⟨_, rfl⟩
  rw [hgC] at lC
  rw [hgA] at lA
  rw [hgA, hgC]
  have HG : Hid (w.heap.size + 1 + 1 ≤ gC ∧ gC + 1 = gA) := by have := HS3.out; show _ ∧ _; omega
  replace bA := Lib.hid (bA.out.below c45 bA.out.lt)
  replace bR := Lib.hid (bR.out.below c45)
  replace HB := Lib.hid (HB.out.trans (c45.mono HB.out.size))
  replace lC := Lib.hid lC
  replace lA := Lib.hid lA
  clear e1 c4 c5 c45 hgC hgA HS3 HA1 HA2
  obtain ⟨RS, HRS⟩ : ∃ r, Hid (runS 3 d.lm (t - f) f (List.replicate (1 * 3) 0) = r) := ⟨_, rfl⟩
  have HPOST : Hid (∀ e w', SumQ (sumC d.k RS) (sumM d.k RS 0) (sumM d.k RS 1) (sumM d.k RS 2) RS.2 w e w' → SumQ (sumC d.k (runS 3 d.lm (t - f) f (List.replicate (1 * 3) 0))) (sumM d.k (runS 3 d.lm (t - f) f (List.replicate (1 * 3) 0)) 0) (sumM d.k (runS 3 d.lm (t - f) f (List.replicate (1 * 3) 0)) 1) (sumM d.k (runS 3 d.lm (t - f) f (List.replicate (1 * 3) 0)) 2) (runS 3 d.lm (t - f) f (List.replicate (1 * 3) 0)).2 w e w') := by
    intro e w' h
    rw [HRS.out]; exact h
  go_wp2_with fail
  go_loopw [11] (fun iv wr => ∃ (bin : Nat) (s : List Int), bin ≤ t ∧ iv = .int .i64 (bin : Int) ∧ Hid (runS 3 d.lm (t - bin) bin s = RS) ∧ Hid (Lst KL gA 0 s wr ∧ Lst KL gC 0 (List.replicate cn 0) wr) ∧ Hid (s.length = 3 ∧ Wholes s) ∧ Hid (VarH w.heap.size d.k d.b d.c (.slice ac nc cc) (.slice am nm cm) wr) ∧ Hid (VarM (w.heap.size + 1) 0 0 0 wr) ∧ Hid (Below w.heap.size w wr)) (fun iv _ => t - (intOf iv).toNat)
  case atStart => exact ⟨f, _, HT.out.1, rfl, HRS.out, ⟨lA.out, lC.out⟩, ⟨by simp, zeros_whole _⟩, bA.out, bR.out, HB.out⟩
  case round =>
    obtain ⟨bin, s, hj, rfl, HRN, HL, HS, bA, bR, HB⟩ := hrel
    by_cases hlt : bin < t
    · have i1 : (bin : Int) < (t : Int) := by omega
      have HLT := Lib.hid hlt
      have hc := addBin_1 gA bin nc cc nm cm d.b d.c d.lm s ac am (some ⟨gC, 0, none⟩) cn cn w wr HR.out.nm (by have := HT2.out; omega) HCC.out.1 HR.out.hm HB.out (by have := HG.out; omega) HR.out.wm HS.out.2 HS.out.1 HL.out.1
      rw [← HK.out] at hc
      obtain ⟨a0, a1, a2, a3, a4⟩ := bA.out.five
      clear hj hlt
      go_wp2_with fail
      refine hc.mono ?_
      rintro e w1 ⟨rfl, hL2, hB2⟩
      clear hc a0 a1 a2 a3 a4
      replace bA := Lib.hid (bA.out.but hB2 (by have := HG.out; omega))
      replace bR := Lib.hid (VarM.but bR.out hB2 (by have := HG.out; omega))
      have HO := Lib.hid (HL.out.2.but hB2 (by have := HG.out; omega))
      replace HB := Lib.hid (HB.out.trans (hB2.below (by have := HG.out; omega) HB.out.size))
      have HN := Lib.hid ((runS_more 3 d.lm t bin s HLT.out).symm.trans HRN.out)
      replace hL2 := Lib.hid hL2
      obtain ⟨er, HER⟩ : ∃ er, Hid (stE 3 d.lm s bin = er) := ⟨_, rfl⟩
      rw [HER.out] at HN hL2 ⊢
      clear hB2 HRN HL
      by_cases he : er = 0
      · subst he
        have HN2 : Hid (runS 3 d.lm (t - (bin + 1)) (bin + 1) (stL 3 d.lm s bin) = RS) := by
          have := HN.out
          rw [if_pos rfl] at this
          exact this
        have HT3 : Hid (t ≤ 1048576) := by have := HT.out; show _ ≤ _; omega
        go_wp2_with fail
        go_roundw
        case rel => exact ⟨bin + 1, _, HLT.out, (by first | exact congrArg (Value.int .i64) (next_num HLT.out HT3.out).1 | exact congrArg (Value.int .i64) (Int.natCast_succ bin).symm), HN2.out, ⟨hL2.out (by simp), HO.out⟩, ⟨stL_len _ _ _ _, stL_whole _ _ _ _⟩, bA.out, bR.out, HB.out⟩
        case measure => first | exact (next_num HLT.out HT3.out).2 | (have := HLT.out; simp only [intOf]; omega)
      · have HRE : Hid (RS = ([], er)) := by
          have := HN.out
          rw [if_neg he] at this
          exact this.symm
        have HZ : Hid (∀ W, Below w.heap.size w W → SumQ (sumC d.k RS) (sumM d.k RS 0) (sumM d.k RS 1) (sumM d.k RS 2) RS.2 w (.returned (.tuple #[.slice none 0 0, .agg #[.int .i64 0, .int .i64 0, .int .i64 0], .int .i64 er])) W) := by
          intro W hW
          rw [HRE.out]
          have y1 : sumC d.k ([], er) = [] := if_neg (fun h => he h.1)
          have y2 : ∀ i, sumM d.k ([], er) i = 0 := fun i => if_neg (fun h => he h.1)
          rw [y1, y2, y2, y2]
          exact sumQ_none hW
        have gb : (er != 0) = true := by simpa using he
        obtain ⟨⟨_, r0, r1, r2⟩, f0, f1, f2⟩ := bR.out
        clear he
        go_wp2_with fail
        obtain ⟨d0, d1, d2⟩ := set3_cell (x := .int .i64 0) (y := .int .i64 0) (z := .int .i64 0) bR.out.at_.c0 bR.out.at_.c1 bR.out.at_.c2
        have HD := set3_below (b := w.heap.size + 1) (o := 0) (x := .int .i64 0) (y := .int .i64 0) (z := .int .i64 0) HB.out (by omega)
        change bodyPost _ _ _ _ _ (set3 w1 (w.heap.size + 1) 0 (.int .i64 0) (.int .i64 0) (.int .i64 0))
        generalize set3 w1 (w.heap.size + 1) 0 (.int .i64 0) (.int .i64 0) (.int .i64 0) = WZ at *
        have HQ := HPOST.out _ _ (HZ.out _ HD)
        simp only [Nat.zero_add] at d0 d1 d2
        simp [bodyPost, results, Try.results23, go_sem, d0, d1, d2]
        exact HQ
    · have HRE : Hid (RS = (s, 0)) := by
        have hjt : bin = t := by omega
        have := HRN.out
        rw [hjt, Nat.sub_self] at this
        exact this.symm
      obtain rfl : t = bin := by omega
      have LA := Lib.hid (HL.out.1)
      have LC := Lib.hid (HL.out.2)
      have HZ : Hid (∀ W, HoldsE KL W (some ⟨gC, 0, none⟩) (List.replicate cn 0) → Below w.heap.size w W → SumQ (sumC d.k RS) (sumM d.k RS 0) (sumM d.k RS 1) (sumM d.k RS 2) RS.2 w (.returned (.tuple #[.slice (some ⟨gC, 0, none⟩) cn cn, .agg #[.int .i64 (s.getD 0 0), .int .i64 (s.getD 1 0), .int .i64 (s.getD 2 0)], .int .i64 0])) W) := by
        intro W hH hW
        rw [HRE.out]
        have y1 : sumC d.k (s, 0) = [] := if_neg (fun h => by have := HK.out; omega)
        have y2 : ∀ i, sumM d.k (s, 0) i = s.getD i 0 := fun i => if_pos ⟨rfl, HK.out⟩
        rw [y1, y2, y2, y2]
        exact ⟨_, cn, by rw [HC0.out]; rfl, .inl rfl, hW⟩
      obtain ⟨_, x0, x1, x2⟩ := LA.out.atM 0 (by have := HS.out.1; omega)
      simp only [Nat.zero_mul, Nat.zero_add, Nat.add_zero] at x0 x1 x2
      obtain ⟨⟨_, r0, r1, r2⟩, f0, f1, f2⟩ := bR.out
      have gne : gA ≠ w.heap.size + 1 := by have := HG.out; omega
      clear hlt hj HRN HL
      go_upto_region 13 with fail
      go_region
      go_wp2_with fail
      obtain ⟨d0, d1, d2⟩ := set3_cell (x := .int .i64 (s.getD 0 0)) (y := .int .i64 (s.getD 1 0)) (z := .int .i64 (s.getD 2 0)) bR.out.at_.c0 bR.out.at_.c1 bR.out.at_.c2
      have HD := set3_below (b := w.heap.size + 1) (o := 0) (x := .int .i64 (s.getD 0 0)) (y := .int .i64 (s.getD 1 0)) (z := .int .i64 (s.getD 2 0)) HB.out (by omega)
      have HBT := set3_but (b := w.heap.size + 1) (o := 0) (x := .int .i64 (s.getD 0 0)) (y := .int .i64 (s.getD 1 0)) (z := .int .i64 (s.getD 2 0)) wr
      change bodyPost _ _ _ _ _ (set3 wr (w.heap.size + 1) 0 (.int .i64 (s.getD 0 0)) (.int .i64 (s.getD 1 0)) (.int .i64 (s.getD 2 0))).drew
      have HH := (LC.out.but HBT (by have := HG.out; omega)).drew.holds
      generalize set3 wr (w.heap.size + 1) 0 (.int .i64 (s.getD 0 0)) (.int .i64 (s.getD 1 0)) (.int .i64 (s.getD 2 0)) = WZ at *
      have HQ := HPOST.out _ _ (HZ.out _ HH HD.drew)
      simp only [Nat.zero_add] at d0 d1 d2
      have d0' : WZ.drew.cell? ⟨w.heap.size + 1, 0, none⟩ = _ := d0
      have d1' : WZ.drew.cell? ⟨w.heap.size + 1, 1, none⟩ = _ := d1
      have d2' : WZ.drew.cell? ⟨w.heap.size + 1, 2, none⟩ = _ := d2
      simp [bodyPost, results, Try.results23, go_sem, d0', d1', d2']
      exact HQ


set_option maxHeartbeats 1000000 in
theorem sum_wrong (d : HD) (ac am : Option Addr) (nc cc nm cm : Nat) (f t : Int) (w : World) (hr : rightB d.k d.b d.c nc nm = false) :
    Calls Try.prog 23 #[.agg #[.int .i64 d.k, .int .i64 d.b, .int .i64 d.c, .slice ac nc cc, .slice am nm cm], .int .i64 f, .int .i64 t] w fun e w' => SumQ [] 0 0 0 8 w e w' := by
  have hq := fun w => right_any d.k d.b d.c ac am nc cc nm cm w
  rw [hr] at hq
  have bA := VarH.new w d.k d.b d.c (.slice ac nc cc) (.slice am nm cm) 29
  obtain ⟨W1, hW1⟩ : ∃ W1, w.alloc (.cells #[.int .i64 d.k, .int .i64 d.b, .int .i64 d.c, .slice ac nc cc, .slice am nm cm] 29) = W1 := ⟨_, rfl⟩
  rw [hW1] at bA
  have s1 : W1.heap.size = w.heap.size + 1 := by rw [← hW1]; simp
  have bR := VarM.new W1 0 0 0 47
  obtain ⟨W2, hW2⟩ : ∃ W2, W1.alloc (.cells #[.int .i64 0, .int .i64 0, .int .i64 0] 47) = W2 := ⟨_, rfl⟩
  rw [hW2, s1] at bR
  have k1 : Below w.heap.size w W1 := hW1 ▸ alloc_below w _
  have k2 : Below W1.heap.size W1 W2 := hW2 ▸ alloc_below W1 _
  have HB : Hid (Below w.heap.size w W2) := k1.trans (k2.mono k1.size)
  replace bA := Lib.hid (bA.below k2 bA.lt)
  replace bR := Lib.hid bR
  clear k1 k2 hr

  go_enter Try.func23, Try.ntmps23
  go_upto_region 1 with fail
  clear hW1 hW2 s1
  obtain ⟨a0, a1, a2, a3, a4⟩ := bA.out.five
  go_wp2_with fail
  refine (hq _).mono ?_
  rintro e W3 ⟨rfl, c3⟩
  clear a0 a1 a2 a3 a4 hq
  replace bA := Lib.hid (bA.out.below c3 bA.out.lt)
  replace bR := Lib.hid (bR.out.below c3)
  replace HB := Lib.hid (HB.out.trans (c3.mono HB.out.size))
  clear c3
  obtain ⟨a0, a1, a2, a3, a4⟩ := bA.out.five
  obtain ⟨⟨_, r0, r1, r2⟩, f0, f1, f2⟩ := bR.out
  go_wp2_with fail
  obtain ⟨d0, d1, d2⟩ := set3_cell (x := .int .i64 0) (y := .int .i64 0) (z := .int .i64 0) bR.out.at_.c0 bR.out.at_.c1 bR.out.at_.c2
  have HD := set3_below (b := w.heap.size + 1) (o := 0) (x := .int .i64 0) (y := .int .i64 0) (z := .int .i64 0) HB.out (by omega)
  change bodyPost _ _ _ _ _ (set3 W3 (w.heap.size + 1) 0 (.int .i64 0) (.int .i64 0) (.int .i64 0))
  generalize set3 W3 (w.heap.size + 1) 0 (.int .i64 0) (.int .i64 0) (.int .i64 0) = WZ at *
  have HQ := sumQ_none (err := 8) HD
  simp only [Nat.zero_add] at d0 d1 d2
  simp [bodyPost, results, Try.results23, go_sem, d0, d1, d2]
  exact HQ

set_option maxHeartbeats 1000000 in
theorem sum_range (d : HD) (ac am : Option Addr) (nc cc nm cm : Nat) (f t : Int) (w : World) (hr : rightB d.k d.b d.c nc nm = true) (hf : f < 0 ∨ t < f ∨ d.b < t) :
    Calls Try.prog 23 #[.agg #[.int .i64 d.k, .int .i64 d.b, .int .i64 d.c, .slice ac nc cc, .slice am nm cm], .int .i64 f, .int .i64 t] w fun e w' => SumQ [] 0 0 0 1 w e w' := by
  have hq := fun w => right_any d.k d.b d.c ac am nc cc nm cm w
  rw [hr] at hq
  have bA := VarH.new w d.k d.b d.c (.slice ac nc cc) (.slice am nm cm) 29
  obtain ⟨W1, hW1⟩ : ∃ W1, w.alloc (.cells #[.int .i64 d.k, .int .i64 d.b, .int .i64 d.c, .slice ac nc cc, .slice am nm cm] 29) = W1 := ⟨_, rfl⟩
  rw [hW1] at bA
  have s1 : W1.heap.size = w.heap.size + 1 := by rw [← hW1]; simp
  have bR := VarM.new W1 0 0 0 47
  obtain ⟨W2, hW2⟩ : ∃ W2, W1.alloc (.cells #[.int .i64 0, .int .i64 0, .int .i64 0] 47) = W2 := ⟨_, rfl⟩
  rw [hW2, s1] at bR
  have k1 : Below w.heap.size w W1 := hW1 ▸ alloc_below w _
  have k2 : Below W1.heap.size W1 W2 := hW2 ▸ alloc_below W1 _
  have HB : Hid (Below w.heap.size w W2) := k1.trans (k2.mono k1.size)
  replace bA := Lib.hid (bA.below k2 bA.lt)
  replace bR := Lib.hid bR
  clear k1 k2 hr
  have HF := Lib.hid hf
  clear hf

  by_cases g1 : f < 0
  · clear HF
    go_enter Try.func23, Try.ntmps23
    go_upto_region 1 with fail
    clear hW1 hW2 s1
    obtain ⟨a0, a1, a2, a3, a4⟩ := bA.out.five
    go_wp2_with fail
    refine (hq _).mono ?_
    rintro e W3 ⟨rfl, c3⟩
    clear a0 a1 a2 a3 a4 hq
    replace bA := Lib.hid (bA.out.below c3 bA.out.lt)
    replace bR := Lib.hid (bR.out.below c3)
    replace HB := Lib.hid (HB.out.trans (c3.mono HB.out.size))
    clear c3
    obtain ⟨a0, a1, a2, a3, a4⟩ := bA.out.five
    obtain ⟨⟨_, r0, r1, r2⟩, f0, f1, f2⟩ := bR.out
    go_wp2_with fail
    obtain ⟨d0, d1, d2⟩ := set3_cell (x := .int .i64 0) (y := .int .i64 0) (z := .int .i64 0) bR.out.at_.c0 bR.out.at_.c1 bR.out.at_.c2
    have HD := set3_below (b := w.heap.size + 1) (o := 0) (x := .int .i64 0) (y := .int .i64 0) (z := .int .i64 0) HB.out (by omega)
    change bodyPost _ _ _ _ _ (set3 W3 (w.heap.size + 1) 0 (.int .i64 0) (.int .i64 0) (.int .i64 0))
    generalize set3 W3 (w.heap.size + 1) 0 (.int .i64 0) (.int .i64 0) (.int .i64 0) = WZ at *
    have HQ := sumQ_none (err := 1) HD
    simp only [Nat.zero_add] at d0 d1 d2
    simp [bodyPost, results, Try.results23, go_sem, d0, d1, d2]
    exact HQ
  · by_cases g2 : t < f
    · clear HF
      go_enter Try.func23, Try.ntmps23
      go_upto_region 1 with fail
      clear hW1 hW2 s1
      obtain ⟨a0, a1, a2, a3, a4⟩ := bA.out.five
      go_wp2_with fail
      refine (hq _).mono ?_
      rintro e W3 ⟨rfl, c3⟩
      clear a0 a1 a2 a3 a4 hq
      replace bA := Lib.hid (bA.out.below c3 bA.out.lt)
      replace bR := Lib.hid (bR.out.below c3)
      replace HB := Lib.hid (HB.out.trans (c3.mono HB.out.size))
      clear c3
      obtain ⟨a0, a1, a2, a3, a4⟩ := bA.out.five
      obtain ⟨⟨_, r0, r1, r2⟩, f0, f1, f2⟩ := bR.out
      go_wp2_with fail
      obtain ⟨d0, d1, d2⟩ := set3_cell (x := .int .i64 0) (y := .int .i64 0) (z := .int .i64 0) bR.out.at_.c0 bR.out.at_.c1 bR.out.at_.c2
      have HD := set3_below (b := w.heap.size + 1) (o := 0) (x := .int .i64 0) (y := .int .i64 0) (z := .int .i64 0) HB.out (by omega)
      change bodyPost _ _ _ _ _ (set3 W3 (w.heap.size + 1) 0 (.int .i64 0) (.int .i64 0) (.int .i64 0))
      generalize set3 W3 (w.heap.size + 1) 0 (.int .i64 0) (.int .i64 0) (.int .i64 0) = WZ at *
      have HQ := sumQ_none (err := 1) HD
      simp only [Nat.zero_add] at d0 d1 d2
      simp [bodyPost, results, Try.results23, go_sem, d0, d1, d2]
      exact HQ
    · have g3 : d.b < t := by have := HF.out; omega
      clear HF
      go_enter Try.func23, Try.ntmps23
      go_upto_region 1 with fail
      clear hW1 hW2 s1
      obtain ⟨a0, a1, a2, a3, a4⟩ := bA.out.five
      go_wp2_with fail
      refine (hq _).mono ?_
      rintro e W3 ⟨rfl, c3⟩
      clear a0 a1 a2 a3 a4 hq
      replace bA := Lib.hid (bA.out.below c3 bA.out.lt)
      replace bR := Lib.hid (bR.out.below c3)
      replace HB := Lib.hid (HB.out.trans (c3.mono HB.out.size))
      clear c3
      obtain ⟨a0, a1, a2, a3, a4⟩ := bA.out.five
      obtain ⟨⟨_, r0, r1, r2⟩, f0, f1, f2⟩ := bR.out
      go_wp2_with fail
      obtain ⟨d0, d1, d2⟩ := set3_cell (x := .int .i64 0) (y := .int .i64 0) (z := .int .i64 0) bR.out.at_.c0 bR.out.at_.c1 bR.out.at_.c2
      have HD := set3_below (b := w.heap.size + 1) (o := 0) (x := .int .i64 0) (y := .int .i64 0) (z := .int .i64 0) HB.out (by omega)
      change bodyPost _ _ _ _ _ (set3 W3 (w.heap.size + 1) 0 (.int .i64 0) (.int .i64 0) (.int .i64 0))
      generalize set3 W3 (w.heap.size + 1) 0 (.int .i64 0) (.int .i64 0) (.int .i64 0) = WZ at *
      have HQ := sumQ_none (err := 1) HD
      simp only [Nat.zero_add] at d0 d1 d2
      simp [bodyPost, results, Try.results23, go_sem, d0, d1, d2]
      exact HQ
end Go.Proofs.Ytdpcplhmnpglgaa
