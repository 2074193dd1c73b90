/-
  HISTOGRAMS: both sums of the same bins; HistSums' walk. Conditions: each number is of 64 bits with a sign; no more than 1000 counts and 300 moments.
-/
import Derived.Test.YtdpcplhmnpglgaaHisZ
import Derived.Test.YtdpcplhmnpglgaaHisAA
import Derived.Test.YtdpcplhmnpglgaaHisAB
import Derived.Test.YtdpcplhmnpglgaaHisP
namespace Go.Proofs.Ytdpcplhmnpglgaa
open Go.RowKit

theorem runS_short (wd : Nat) (x : List Int) (n bin : Nat) (s : List Int) (B : Nat) (h : s.length ≤ B) (hw : wd ≤ B) : (runS wd x n bin s).1.length ≤ B := by
  induction n generalizing bin s with
  | zero => exact h
  | succ n ih =>
    unfold runS
    split
    · exact ih _ _ (by rw [stL_len]; exact hw)
    · simp
theorem sumC_short (k : Int) (r : List Int × Int) (B : Nat) (h : r.1.length ≤ B) : (sumC k r).length ≤ B := by
  unfold sumC; split
  · exact h
  · simp

/-- Both sums. -/
def Both (d : HD) (ac am : Option Addr) (nc cc nm cm : Nat) (f t : Int) (w : World) (L : List Int) (m0 m1 m2 err : Int) : Prop :=
  ∀ w', Below w.heap.size w w' →
    (Calls Try.prog 23 #[.agg #[.int .i64 d.k, .int .i64 d.b, .int .i64 d.c, .slice ac nc cc, .slice am nm cm], .int .i64 f, .int .i64 t] w' fun e w'' => SumQ L m0 m1 m2 err w' e w'') ∧
    (Calls Try.prog 24 #[.agg #[.int .i64 d.k, .int .i64 d.b, .int .i64 d.c, .slice ac nc cc, .slice am nm cm], .int .i64 f, .int .i64 t] w' fun e w'' => SumQ L m0 m1 m2 err w' e w'')

theorem sums_both (d : HD) (ac am : Option Addr) (nc cc nm cm : Nat) (f t : Int) (w : World) (hR : Reads d ac nc am nm w) (hcc : nc ≤ cc) (hcm : nm ≤ cm) (hn : nc ≤ 1000) :
    ∃ L m0 m1 m2 err, L.length ≤ 1048576 ∧ Both d ac am nc cc nm cm f t w L m0 m1 m2 err := by
  by_cases hr : rightB d.k d.b d.c nc nm = true
  · by_cases hf : f < 0 ∨ t < f ∨ d.b < t
    · exact ⟨[], 0, 0, 0, 1, by simp, fun w' _ => ⟨sum_range d ac am nc cc nm cm f t w' hr hf, rsum_range d ac am nc cc nm cm f t w' hr hf⟩⟩
    · obtain ⟨F, rfl⟩ : ∃ F : Nat, f = (F : Int) := ⟨f.toNat, by omega⟩
      obtain ⟨T, rfl⟩ : ∃ T : Nat, t = (T : Int) := ⟨t.toNat, by omega⟩
      have h3 := of_decide_eq_true hr
      obtain ⟨p0, p1, p2⟩ := h3
      by_cases hk : 1 ≤ d.b ∧ d.b ≤ 257 ∧ d.k = 0 ∧ 2 ≤ d.c ∧ d.c ≤ 256
      · obtain ⟨cn, hc⟩ : ∃ cn : Nat, d.c = (cn : Int) := ⟨d.c.toNat, by omega⟩
        obtain ⟨B, hB⟩ : ∃ B : Nat, d.b = (B : Int) := ⟨d.b.toNat, by omega⟩
        have e1 : lenC d.k d.b d.c = d.b * d.c := if_pos hk
        rw [e1, hc, hB, ← Int.natCast_mul] at p1
        have e2 : nc = B * cn := Int.ofNat.inj p1
        have hlen : ∀ bin, bin < T → bin * cn + cn ≤ nc := by
          intro bin hb
          have h4 : (bin + 1) * cn ≤ B * cn := Nat.mul_le_mul_right cn (by omega)
          rw [Nat.add_mul, Nat.one_mul] at h4
          omega
        refine ⟨_, _, _, _, _, ?_, fun w' hb => ⟨sum_0 d ac am nc cc nm cm F T w' (hR.below hb) hr hk.2.2.1 cn hc (by omega) (by omega) hlen hcc (by omega) (by omega) (by omega) (by omega), rsum_0 d ac am nc cc nm cm F T w' (hR.below hb) hr hk.2.2.1 cn hc (by omega) (by omega) hlen (by omega) (by omega) (by omega) (by omega)⟩⟩
        exact sumC_short _ _ _ (runS_short _ _ _ _ _ _ (by simp; omega) (by omega))
      · have e1 : lenC d.k d.b d.c = 0 := if_neg hk
        by_cases hk2 : 1 ≤ d.b ∧ d.b ≤ 257 ∧ d.k = 1 ∧ d.c = 0
        · have e2 : lenM d.k d.b d.c = d.b := if_pos hk2
          rw [e2] at p2
          refine ⟨_, _, _, _, _, ?_, fun w' hb => ⟨sum_1 d ac am nc cc nm cm F T w' (hR.below hb) hr hk2.2.2.1 0 rfl (by omega) (by omega) hcm (by omega) (by omega) (by omega), rsum_1 d ac am nc cc nm cm F T w' (hR.below hb) hr hk2.2.2.1 0 rfl (by omega) (by omega) (by omega) (by omega) (by omega)⟩⟩
          exact sumC_short _ _ _ (runS_short _ _ _ _ _ _ (by simp) (by omega))
        · have e2 : lenM d.k d.b d.c = 0 := if_neg hk2
          omega
  · have hr' : rightB d.k d.b d.c nc nm = false := by simpa using hr
    exact ⟨[], 0, 0, 0, 8, by simp, fun w' _ => ⟨sum_wrong d ac am nc cc nm cm f t w' hr', rsum_wrong d ac am nc cc nm cm f t w' hr'⟩⟩

set_option maxHeartbeats 1000000 in
theorem samec_any (l : List Int) (a a' : Option Addr) (c c' : Nat) (w : World) (h : HoldsE KL w a l) (h' : HoldsE KL w a' l) (hn : l.length ≤ 1048576) :
    Calls Try.prog 25 #[.slice a l.length c, .slice a' l.length c'] w fun e w' => e = .returned (.bool true) ∧ Below w.heap.size w w' := by
  have HH := Lib.hid (And.intro h h')
  obtain ⟨n, hl⟩ : ∃ n, l.length = n := ⟨_, rfl⟩
  rw [hl] at hn ⊢
  have HL := Lib.hid hl
  have HN := Lib.hid hn
  clear h h' hl hn
  go_enter Try.func25, Try.ntmps25
  go_wp2_with fail
  go_loopw [5] (fun iv wr => ∃ j : Nat, j ≤ n ∧ iv = .int .i64 (j : Int) ∧ Hid (Below w.heap.size w wr)) (fun iv _ => n - (intOf iv).toNat)
  case atStart => exact ⟨0, by omega, rfl, Below.refl _ _⟩
  case round =>
    obtain ⟨j, hj, rfl, HB⟩ := hrel
    by_cases hlt : j < n
    · have i1 : (j : Int) < (n : Int) := by omega
      have HLT := Lib.hid hlt
      obtain ⟨g, o, rfl, hg, cX⟩ := (HH.out.1.below HB.out).cells (by have := HL.out; omega)
      obtain ⟨g', o', rfl, hg', cY⟩ := (HH.out.2.below HB.out).cells (by have := HL.out; omega)
      have c1 := cX j (by have := HL.out; omega)
      have c2 := cY j (by have := HL.out; omega)
      generalize l.getD j 0 = x at *
      clear cX cY hj hlt hg hg'
      go_upto_region 6 with fail
      go_region
      go_wp2_with fail
      go_roundw
      case rel => exact ⟨j + 1, HLT.out, (by first | exact congrArg (Value.int .i64) (next_num HLT.out HN.out).1 | exact congrArg (Value.int .i64) (Int.natCast_succ j).symm), (by first | exact HB.out.drew | exact HB.out)⟩
      case measure => first | exact (next_num HLT.out HN.out).2 | (have := HLT.out; simp only [intOf]; omega)
    · obtain rfl : n = j := by omega
      clear hj hlt
      go_wp2_with fail
      go_ret
      exact ⟨rfl, HB.out⟩

set_option maxHeartbeats 1000000 in
theorem sums_great (d : HD) (ac am : Option Addr) (nc cc nm cm : Nat) (f t : Int) (w : World) (hR : Reads d ac nc am nm w) (hg : 1000 < nc ∨ 300 < nm) :
    Calls Try.prog 5 #[.agg #[.int .i64 d.k, .int .i64 d.b, .int .i64 d.c, .slice ac nc cc, .slice am nm cm], .int .i64 f, .int .i64 t] w fun e w' => e = .returned (.bool true) ∧ Below w.heap.size w w' := by
  obtain ⟨W1, hW1⟩ : ∃ W1, w.alloc (.cells #[.int .i64 d.k, .int .i64 d.b, .int .i64 d.c, .slice ac nc cc, .slice am nm cm] 29) = W1 := ⟨_, rfl⟩
  obtain ⟨va, k1, s1⟩ := HV.new hR hW1
  have HB : Hid (Below w.heap.size w W1) := k1
  have gA := fun w => great_any d.k d.b d.c ac am nc cc nm cm w
  rw [decide_eq_true hg] at gA
  clear k1 s1 hR hg
  go_enter Try.func5, Try.ntmps5
  go_upto_region 1 with fail
  clear hW1
  obtain ⟨a0, a1, a2, a3, a4⟩ := va.v.five
  clear va
  go_wp2_with fail
  refine (gA _).mono ?_
  rintro e W4 ⟨rfl, c4⟩
  clear a0 a1 a2 a3 a4 gA
  replace HB := Lib.hid (HB.out.trans (c4.mono HB.out.size))
  clear c4
  go_wp2_with fail
  refine (fixed_any _).mono ?_
  rintro e W7 ⟨rfl, c7⟩
  replace HB := Lib.hid (HB.out.trans (c7.mono HB.out.size))
  clear c7
  go_wp2_with fail
  go_ret
  exact ⟨rfl, HB.out⟩

set_option maxHeartbeats 2000000 in
theorem sums_any (d : HD) (ac am : Option Addr) (nc cc nm cm : Nat) (f t : Int) (w : World) (hR : Reads d ac nc am nm w) (hcc : nc ≤ cc) (hcm : nm ≤ cm) (hg : ¬ (1000 < nc ∨ 300 < nm)) :
    Calls Try.prog 5 #[.agg #[.int .i64 d.k, .int .i64 d.b, .int .i64 d.c, .slice ac nc cc, .slice am nm cm], .int .i64 f, .int .i64 t] w fun e w' => e = .returned (.bool true) ∧ Below w.heap.size w w' := by
  obtain ⟨L, m0, m1, m2, err, hL, hS⟩ := sums_both d ac am nc cc nm cm f t w hR hcc hcm (by omega)
  have HL := Lib.hid hL
  have HS := Lib.hid hS
  obtain ⟨W1, hW1⟩ : ∃ W1, w.alloc (.cells #[.int .i64 d.k, .int .i64 d.b, .int .i64 d.c, .slice ac nc cc, .slice am nm cm] 29) = W1 := ⟨_, rfl⟩
  obtain ⟨va, k1, s1⟩ := HV.new hR hW1
  have HB : Hid (Below w.heap.size w W1) := k1
  have gA := fun w => great_any d.k d.b d.c ac am nc cc nm cm w
  rw [decide_eq_false hg] at gA
  clear k1 s1 hR hg hL hS hcc hcm
  go_enter Try.func5, Try.ntmps5
  go_upto_region 1 with fail
  clear hW1
  obtain ⟨a0, a1, a2, a3, a4⟩ := va.v.five
  have HV1 := Lib.hid va
  clear va
  go_wp2_with fail
  refine (gA _).mono ?_
  rintro e W4 ⟨rfl, c4⟩
  clear a0 a1 a2 a3 a4 gA
  replace HV1 := Lib.hid (HV1.out.below c4)
  replace HB := Lib.hid (HB.out.trans (c4.mono HB.out.size))
  clear c4
  obtain ⟨a0, a1, a2, a3, a4⟩ := HV1.out.v.five
  have hc1 := (HS.out W4 HB.out).1
  go_wp2_with fail
  refine hc1.mono ?_
  rintro e W5 ⟨b1, k1, rfl, hh1, c5⟩
  clear a0 a1 a2 a3 a4 hc1
  replace HV1 := Lib.hid (HV1.out.below c5)
  replace HB := Lib.hid (HB.out.trans (c5.mono HB.out.size))
  clear c5
  have bM := VarM.new W5 m0 m1 m2 47
  have c6 := alloc_below W5 (.cells #[.int .i64 m0, .int .i64 m1, .int .i64 m2] 47)
  go_upto_region 4 with fail
  generalize W5.alloc (.cells #[.int .i64 m0, .int .i64 m1, .int .i64 m2] 47) = W6 at *
  replace hh1 := hh1.below c6
  replace HV1 := Lib.hid (HV1.out.below c6)
  replace HB := Lib.hid (HB.out.trans (c6.mono HB.out.size))
  clear c6
  obtain ⟨g1, hg1⟩ : ∃ g, W5.heap.size = g := ⟨_, rfl⟩
  rw [hg1] at bM ⊢
  clear hg1
  obtain ⟨a0, a1, a2, a3, a4⟩ := HV1.out.v.five
  have hc2 := (HS.out W6 HB.out).2
  replace hh1 := Lib.hid hh1
  replace bM := Lib.hid bM
  go_wp2_with fail
  refine hc2.mono ?_
  rintro e W7 ⟨b2, k2, rfl, hh2, c7⟩
  clear a0 a1 a2 a3 a4 hc2 HV1
  replace hh1 := hh1.out.below c7
  replace bM := VarM.below bM.out c7
  replace HB := Lib.hid (HB.out.trans (c7.mono HB.out.size))
  clear c7
  have bN := VarM.new W7 m0 m1 m2 47
  have c8 := alloc_below W7 (.cells #[.int .i64 m0, .int .i64 m1, .int .i64 m2] 47)
  go_upto_region 5 with fail
  generalize W7.alloc (.cells #[.int .i64 m0, .int .i64 m1, .int .i64 m2] 47) = W8 at *
  replace hh1 := hh1.below c8
  replace hh2 := hh2.below c8
  replace bM := VarM.below bM c8
  replace HB := Lib.hid (HB.out.trans (c8.mono HB.out.size))
  clear c8
  obtain ⟨g2, hg2⟩ : ∃ g, W7.heap.size = g := ⟨_, rfl⟩
  rw [hg2] at bN ⊢
  clear hg2
  replace hh1 := Lib.hid hh1
  replace hh2 := Lib.hid hh2
  replace bM := Lib.hid bM
  replace bN := Lib.hid bN
  go_wp2_with fail
  refine (fixed_any _).mono ?_
  rintro e W9 ⟨rfl, c9⟩
  replace hh1 := hh1.out.below c9
  replace hh2 := hh2.out.below c9
  replace bM := Lib.hid (VarM.below bM.out c9)
  replace bN := Lib.hid (VarM.below bN.out c9)
  replace HB := Lib.hid (HB.out.trans (c9.mono HB.out.size))
  clear c9
  have hc3 := samec_any L b1 b2 k1 k2 W9 hh1 hh2 HL.out
  clear hh1 hh2
  go_wp2_with fail
  refine hc3.mono ?_
  rintro e W10 ⟨rfl, c10⟩
  clear hc3
  replace bM := VarM.below bM.out c10
  replace bN := VarM.below bN.out c10
  replace HB := Lib.hid (HB.out.trans (c10.mono HB.out.size))
  clear c10
  obtain ⟨⟨_, x0, x1, x2⟩, _, _, _⟩ := bM
  obtain ⟨⟨_, y0, y1, y2⟩, _, _, _⟩ := bN
  simp only [Nat.zero_add] at x0 x1 x2 y0 y1 y2
  go_wp2_with fail
  go_ret
  exact ⟨rfl, HB.out⟩
end Go.Proofs.Ytdpcplhmnpglgaa
