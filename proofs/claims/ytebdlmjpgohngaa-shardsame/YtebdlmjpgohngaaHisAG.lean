/-
  HISTOGRAMS: the document's Add, of a count. Conditions: each number is of 64 bits with a sign.
-/
import Derived.Test.YtebdlmjpgohngaaHisAF
namespace Go.Proofs.Ytebdlmjpgohngaa
open Go.RowKit

theorem Wholes.set {l : List Int} (h : Wholes l) (n : Nat) (x : Int) (hx : Whole x) : Wholes (l.set n x) := by
  intro j hj
  simp at hj
  by_cases q : n = j
  · subst q
    rw [show (l.set n x).getD n 0 = x by simp [List.getD_eq_getElem?_getD, hj]]
    exact hx
  · rw [show (l.set n x).getD j 0 = l.getD j 0 by simp [List.getD_eq_getElem?_getD, q]]
    exact h j hj

set_option maxRecDepth 20000 in
set_option maxHeartbeats 2000000 in
theorem radd_0 (B C : Int) (lc lm : List Int) (ac am : Option Addr) (nc cc nm cm : Nat) (b t v : Int) (w : World) (h : Reads ⟨0, B, C, lc, lm⟩ ac nc am nm w) (z1 : ac = none → cc = 0) (z2 : am = none → cm = 0) (hr : rightD ⟨0, B, C, lc, lm⟩ = true) (h0 : ¬ b < 0) (hb : b < B) (h1 : ¬ t < 0) (h2 : ¬ 255 < t) (h3 : t < C) (hv : ¬ v < 0) (hvw : Whole v)
    (P : Int) (pn : Nat) (hP : b * C = P) (hpn : P + t = (pn : Int)) (hpl : pn < nc) (x : Int) (hx : lc.getD pn 0 = x) (hn : nc ≤ 65792) (hnm : nm ≤ 1048576) :
    Calls Try.prog 24 #[.agg #[.int .i64 0, .int .i64 B, .int .i64 C, .slice ac nc cc, .slice am nm cm], .int .i64 b, .int .i64 t, .int .i64 v] w fun e w' => RAddP ⟨0, B, C, lc, lm⟩ b t v ac am w e w' := by
  have hplc : place ⟨0, B, C, lc, lm⟩ b t = pn := by show (b * C + t).toNat = pn; rw [hP]; omega
  have hE : addE ⟨0, B, C, lc, lm⟩ b t v = plE x v := by
    unfold addE
    rw [hr, if_neg (by decide), if_neg (by show ¬ (b < 0 ∨ B ≤ b); omega), if_neg (by show ¬ ((0 : Int) = 0 ∧ (t < 0 ∨ C ≤ t)); omega), if_neg hv, if_neg (by show ¬ (0 : Int) = 1; decide), hplc]
    show plE (lc.getD pn 0) v = plE x v
    rw [hx]
  have HK : Hid (∀ E, plE x v = E → E ≠ 0 → ∀ w', Below w.heap.size w w' → RAddP ⟨0, B, C, lc, lm⟩ b t v ac am w (.returned (.tuple #[.agg #[.int .i64 0, .int .i64 B, .int .i64 C, .slice ac nc cc, .slice am nm cm], .int .i64 E])) w') := fun E e1 e0 w' hb => RAddP.keep h z1 z2 (hE.trans e1) e0 hb
  have HO : Hid (plE x v = 0 → ∀ g m co mo w', Lst KL g 0 (lc.set pn (plV x v)) w' → Lst KL m 0 lm w' → w.heap.size ≤ g → w.heap.size ≤ m → Below w.heap.size w w' → RAddP ⟨0, B, C, lc, lm⟩ b t v ac am w (.returned (.tuple #[.agg #[.int .i64 0, .int .i64 B, .int .i64 C, .slice (some ⟨g, 0, none⟩) nc co, .slice (some ⟨m, 0, none⟩) nm mo], .int .i64 0])) w') := by
    intro e0 g m co mo w' L1 L2 hg hm hb
    have eD : addD ⟨0, B, C, lc, lm⟩ b t v = ⟨0, B, C, lc.set pn (plV x v), lm⟩ := by
      unfold addD
      rw [if_neg (by rw [hE, e0]; decide), if_neg (by show ¬ (0 : Int) = 1; decide), hplc]
      show HD.mk 0 B C (lc.set pn (plV (lc.getD pn 0) v)) lm = _
      rw [hx]
    refine ⟨_, _, _, _, _, _, by rw [hE, e0], ?_, ⟨fun h => (by cases h), fun h => (by cases h)⟩, fun N hN _ => ⟨fun ad h => (by obtain rfl := Option.some.inj h; exact hN _ hg), fun ad h => (by obtain rfl := Option.some.inj h; exact hN _ hm)⟩, hb⟩
    rw [eD]
    exact ⟨by simpa using h.nc, h.nm, L1.holds, L2.holds, Wholes.set h.wc pn _ (fitV_whole _), h.wm⟩
  have hq := fun w => refRight_any 0 B C ac am nc cc nm cm w
  rw [h.right, hr] at hq
  have hcp := fun w1 (b : Below w.heap.size w w1) => copy_any ⟨0, B, C, lc, lm⟩ ac am nc cc nm cm w1 (h.below b) z1 z2 (by omega) hnm
  have hcall := fun w => refP x v (hx ▸ h.wc pn (by have := h.nc; show pn < lc.length; simp only at this; omega)) hvw w
  have HX := Lib.hid hx
  have HLN : Hid (lc.length = nc ∧ lm.length = nm * 3 ∧ pn < nc) := ⟨h.nc, h.nm, hpl⟩
  have HR := Lib.hid h
  have bA := VarH.new w 0 B C (.slice ac nc cc) (.slice am nm cm) 45
  obtain ⟨W1, hW1⟩ : ∃ W1, w.alloc (.cells #[.int .i64 0, .int .i64 B, .int .i64 C, .slice ac nc cc, .slice am nm cm] 45) = W1 := ⟨_, rfl⟩
  rw [hW1] at bA
  have s1 : W1.heap.size = w.heap.size + 1 := by rw [← hW1]; simp
  have bR := VarH.new W1 0 0 0 (.slice none 0 0) (.slice none 0 0) 45
  obtain ⟨W2, hW2⟩ : ∃ W2, W1.alloc (.cells #[.int .i64 0, .int .i64 0, .int .i64 0, .slice none 0 0, .slice none 0 0] 45) = W2 := ⟨_, rfl⟩
  have s2 : W2.heap.size = w.heap.size + 1 + 1 := by rw [← hW2]; simp [s1]
  rw [hW2, s1] at bR
  have k1 : Below w.heap.size w W1 := hW1 ▸ alloc_below w _
  have k2 : Below W1.heap.size W1 W2 := hW2 ▸ alloc_below W1 _
  have HB : Hid (Below w.heap.size w W2) := k1.trans (k2.mono k1.size)
  replace bA := Lib.hid (bA.below k2 bA.lt)
  replace bR := Lib.hid bR
  have HS := Lib.hid s2
  have hw1 : wrap64 (b * C) = P := by rw [hP]; unfold wrap64; omega
  have hw2 : wrap64 (P + t) = (pn : Int) := by rw [hpn]; unfold wrap64; omega
  have i1 : (pn : Int) < (nc : Int) := by omega
  have HW1 := Lib.hid hw1
  have HW2 := Lib.hid hw2
  clear hw1 hw2
  clear k1 k2 hE h z1 z2 hr hplc hP hpn hvw hn hnm s2 hpl hx
  go_enter Try.func24, Try.ntmps24
  go_upto_region 1 with fail
  clear hW1 hW2 s1
  obtain ⟨a0, a1, a2, a3, a4⟩ := bA.out.five
  go_wp2_with fail
  refine (hq _).mono ?_
  rintro e W3 ⟨rfl, c3⟩
  clear a0 a1 a2 a3 a4 hq
  replace bA := Lib.hid (bA.out.below c3 bA.out.lt)
  replace bR := Lib.hid (bR.out.below c3 bR.out.lt)
  replace HB := Lib.hid (HB.out.trans (c3.mono HB.out.size))
  replace HS : Hid (w.heap.size + 1 + 1 ≤ W3.heap.size) := by have := c3.size; have := HS.out; show _ ≤ _; omega
  clear c3
  obtain ⟨a0, a1, a2, a3, a4⟩ := bA.out.five
  replace hcp := hcp W3 HB.out
  go_wp2_with fail
  refine hcp.mono ?_
  rintro e W5 ⟨g, m, nm2, co, mo, rfl, hnm2, hco, hmo, L1, L2, hg, hgm, c5⟩
  obtain rfl : nm2 = nm := by have := HLN.out; simp only at hnm2; omega
  simp only at L1 L2 hco
  rw [HLN.out.1] at hco
  rw [HLN.out.1]
  clear a0 a1 a2 a3 a4 hcp
  replace bA := bA.out.below c5 bA.out.lt
  replace bR := bR.out.below c5 bR.out.lt
  replace HB := HB.out.trans (c5.mono HB.out.size)
  have bO := VarH.new W5 0 B C (.slice (some ⟨g, 0, none⟩) nc co) (.slice (some ⟨m, 0, none⟩) nm2 mo) 45
  have HFAR : Hid (w.heap.size + 1 + 1 ≤ g ∧ g < m ∧ m < W5.heap.size) := by have := HS.out; have := L2.lt; show _ ∧ _; omega
  clear hnm2 hmo hg hgm c5 HS
  have i2 : (pn : Int) < (co : Int) := by omega
  go_upto_region 10 with fail
  have c6 := alloc_below W5 (.cells #[.int .i64 0, .int .i64 B, .int .i64 C, .slice (some ⟨g, 0, none⟩) nc co, .slice (some ⟨m, 0, none⟩) nm2 mo] 45)
  obtain ⟨W6, hW6⟩ : ∃ W6, W5.alloc (.cells #[.int .i64 0, .int .i64 B, .int .i64 C, .slice (some ⟨g, 0, none⟩) nc co, .slice (some ⟨m, 0, none⟩) nm2 mo] 45) = W6 := ⟨_, rfl⟩
  rw [hW6] at bO c6 ⊢
  obtain ⟨vO, hvO⟩ : ∃ v, W5.heap.size = v := ⟨_, rfl⟩
  rw [hvO] at bO HFAR ⊢
  replace bA := bA.below c6 bA.lt
  replace bR := bR.below c6 bR.lt
  replace L1 := L1.below c6 L1.lt
  replace L2 := L2.below c6 L2.lt
  replace HB := HB.trans (c6.mono HB.size)
  clear c6 hvO hW6
  obtain ⟨ga, oa, rfl, hga, cX⟩ := (HR.out.below HB).hc.cells (by have := HLN.out; show lc.length ≠ 0; omega)
  have cx0 := cX pn (by have := HLN.out; show pn < lc.length; omega)
  clear cX
  have cx : W6.cell? ⟨ga, oa + pn, none⟩ = some (.int .i64 (lc.getD pn 0)) := cx0
  clear cx0
  rw [HX.out] at cx
  obtain ⟨a0, a1, a2, a3, a4⟩ := bA.five
  have HAL := Lib.hid bA
  have HRL := Lib.hid bR
  have HOL := Lib.hid bO
  have HL1 := Lib.hid L1
  have HL2 := Lib.hid L2
  replace HB := Lib.hid HB
  clear bA bR bO L1 L2 hga
  have hw1 := HW1.out
  go_upto_region 13 with fail
  rw [HW2.out]
  clear hw1 HW1 HW2
  go_wp2_with fail
  refine (hcall _).mono ?_
  rintro e W7 ⟨rfl, c7⟩
  clear a0 a1 a2 a3 a4 cx hcall
  replace HAL := Lib.hid (HAL.out.below c7 HAL.out.lt)
  replace HRL := Lib.hid (HRL.out.below c7 HRL.out.lt)
  replace HOL := Lib.hid (HOL.out.below c7 HOL.out.lt)
  replace HL1 := Lib.hid (HL1.out.below c7 HL1.out.lt)
  replace HL2 := Lib.hid (HL2.out.below c7 HL2.out.lt)
  replace HB := Lib.hid (HB.out.trans (c7.mono HB.out.size))
  clear c7
  obtain ⟨er, her⟩ : ∃ e, plE x v = e := ⟨_, rfl⟩
  obtain ⟨y, hy⟩ : ∃ e, plV x v = e := ⟨_, rfl⟩
  rw [her, hy]
  by_cases he : er = 0
  · subst he
    have HF := Lib.hid (HO.out her)
    rw [hy] at HF
    have hlj : pn < lc.length := by have := HLN.out; omega
    have d0 := HL1.out.cell pn hlj
    have f0 := HL1.out.frozen pn hlj
    rw [Nat.zero_add] at d0 f0
    obtain ⟨o0, o1, o2, o3, o4⟩ := HOL.out.five
    have st1 := HL1.out.set pn y hlj
    rw [Nat.zero_add] at st1
    have st2 : Lst KL g 0 (lc.set pn y) (W7.setCell ⟨g, pn, none⟩ (.int .i64 y)) := st1
    clear st1
    have bz := But.setCell g pn W7 (.int .i64 y)
    have n1 := Lib.hid (HOL.out.but bz (by have := HFAR.out; omega))
    have n2 := Lib.hid (HRL.out.but bz (by have := HFAR.out; omega))
    have n3 := Lib.hid (HL2.out.but bz (by have := HFAR.out; omega))
    have n4 := Lib.hid (HB.out.trans (bz.below (by have := HFAR.out; omega) HB.out.size))
    replace st2 := Lib.hid st2
    clear bz hlj HK HO her hy HAL
    go_upto_region 17 with fail
    clear o0 o1 o2 o3 o4 d0 f0
    generalize W7.setCell ⟨g, pn, none⟩ (.int .i64 y) = W8 at *
    obtain ⟨o0, o1, o2, o3, o4⟩ := n1.out.five
    obtain ⟨r0, r1, r2, r3, r4⟩ := n2.out.five
    obtain ⟨y0, y1, y2, y3, y4⟩ := n2.out.soft
    go_wp2_with fail
    obtain ⟨d0, d1, d2, d3, d4⟩ := (n2.out.set 0 B C (.slice (some ⟨g, 0, none⟩) nc co) (.slice (some ⟨m, 0, none⟩) nm2 mo)).five
    have HBW := set5_below (g := w.heap.size + 1) (x0 := .int .i64 0) (x1 := .int .i64 B) (x2 := .int .i64 C) (x3 := .slice (some ⟨g, 0, none⟩) nc co) (x4 := .slice (some ⟨m, 0, none⟩) nm2 mo) n4.out (by omega)
    have HBT := set5_but W8 (w.heap.size + 1) (.int .i64 0) (.int .i64 B) (.int .i64 C) (.slice (some ⟨g, 0, none⟩) nc co) (.slice (some ⟨m, 0, none⟩) nm2 mo)
    change bodyPost _ _ _ _ _ (set5 W8 (w.heap.size + 1) (.int .i64 0) (.int .i64 B) (.int .i64 C) (.slice (some ⟨g, 0, none⟩) nc co) (.slice (some ⟨m, 0, none⟩) nm2 mo))
    have q1 : Lst KL g 0 (lc.set pn y) _ := st2.out.but HBT (by have := HFAR.out; omega)
    have q2 : Lst KL m 0 lm _ := n3.out.but HBT (by have := HFAR.out; omega)
    generalize set5 W8 (w.heap.size + 1) (.int .i64 0) (.int .i64 B) (.int .i64 C) (.slice (some ⟨g, 0, none⟩) nc co) (.slice (some ⟨m, 0, none⟩) nm2 mo) = WX at *
    simp [bodyPost, results, Try.results24, go_sem, d0, d1, d2, d3, d4]
    exact HF.out g m co mo WX q1 q2 (by have := HFAR.out; omega) (by have := HFAR.out; omega) HBW
  · have HF := Lib.hid (HK.out er her he)
    have gb : (er != 0) = true := by simpa using he
    obtain ⟨a0, a1, a2, a3, a4⟩ := HAL.out.five
    obtain ⟨r0, r1, r2, r3, r4⟩ := HRL.out.five
    obtain ⟨y0, y1, y2, y3, y4⟩ := HRL.out.soft
    clear HK HO her hy he HOL HL1 HL2
    go_wp2_with fail
    obtain ⟨d0, d1, d2, d3, d4⟩ := (HRL.out.set 0 B C (.slice (some ⟨ga, oa, none⟩) nc cc) (.slice am nm2 cm)).five
    have HBW := set5_below (g := w.heap.size + 1) (x0 := .int .i64 0) (x1 := .int .i64 B) (x2 := .int .i64 C) (x3 := .slice (some ⟨ga, oa, none⟩) nc cc) (x4 := .slice am nm2 cm) HB.out (by omega)
    change bodyPost _ _ _ _ _ (set5 W7 (w.heap.size + 1) (.int .i64 0) (.int .i64 B) (.int .i64 C) (.slice (some ⟨ga, oa, none⟩) nc cc) (.slice am nm2 cm))
    generalize set5 W7 (w.heap.size + 1) (.int .i64 0) (.int .i64 B) (.int .i64 C) (.slice (some ⟨ga, oa, none⟩) nc cc) (.slice am nm2 cm) = WX at *
    simp [bodyPost, results, Try.results24, go_sem, d0, d1, d2, d3, d4]
    exact HF.out _ HBW
end Go.Proofs.Ytebdlmjpgohngaa
