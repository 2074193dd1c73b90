/-
  HISTOGRAMS: the document's Add, of a moment. Conditions: each number is of 64 bits with a sign.
-/
import Derived.Test.YtebdlmjpgohngaaHisAF
namespace Go.Proofs.Ytebdlmjpgohngaa
open Go.RowKit

theorem Wholes.set' {l : List Int} (h : Wholes l) (n : Nat) (x : Int) (hx : Whole x) : Wholes (l.set n x) := by
  intro j hj
  simp at hj
  by_cases q : n = j
  · subst q
    rw [show (l.set n x).getD n 0 = x by simp [List.getD_eq_getElem?_getD, hj]]
    exact hx
  · rw [show (l.set n x).getD j 0 = l.getD j 0 by simp [List.getD_eq_getElem?_getD, q]]
    exact h j hj
theorem Wholes.lm3 {l : List Int} (h : Wholes l) (n : Nat) {x y z : Int} (hx : Whole x) (hy : Whole y) (hz : Whole z) : Wholes (Go.Proofs.Ytebdlmjpgohngaa.lm3 l n x y z) :=
  ((h.set' _ _ hx).set' _ _ hy).set' _ _ hz

set_option maxRecDepth 20000 in
set_option maxHeartbeats 2000000 in
theorem radd1_walk (B : Int) (lc lm : List Int) (ac am : Option Addr) (nc cc nm cm n : Nat) (t v : Int) (w : World) (h : Reads ⟨1, B, 0, lc, lm⟩ ac nc am nm w) (z1 : ac = none → cc = 0) (z2 : am = none → cm = 0) (hr : rightD ⟨1, B, 0, lc, lm⟩ = true) (hb : (n : Int) < B) (hv : ¬ v < 0)
    (x y z s1 e1 s2 e2 t0 t1 t2 e3 : Int) (hx : lm.getD (n * 3) 0 = x) (hy : lm.getD (n * 3 + 1) 0 = y) (hz : lm.getD (n * 3 + 2) 0 = z)
    (hT1 : ∀ w, Calls Try.prog 42 #[.int .i64 t, .int .i64 v] w fun e w' => e = .returned (.tuple #[.int .i64 s1, .int .i64 e1]) ∧ Below w.heap.size w w')
    (hT2 : ∀ w, Calls Try.prog 42 #[.int .i64 t, .int .i64 s1] w fun e w' => e = .returned (.tuple #[.int .i64 s2, .int .i64 e2]) ∧ Below w.heap.size w w')
    (hPl : ∀ w, Calls Try.prog 43 #[.agg #[.int .i64 x, .int .i64 y, .int .i64 z], .agg #[.int .i64 v, .int .i64 s1, .int .i64 s2]] w fun e w' => e = .returned (.tuple #[.agg #[.int .i64 (okV e3 t0), .int .i64 (okV e3 t1), .int .i64 (okV e3 t2)], .int .i64 e3]) ∧ Below w.heap.size w w')
    (hE : addE ⟨1, B, 0, lc, lm⟩ n t v = if e1 = 0 then if e2 = 0 then e3 else e2 else e1) (hD : addE ⟨1, B, 0, lc, lm⟩ n t v = 0 → addD ⟨1, B, 0, lc, lm⟩ n t v = ⟨1, B, 0, lc, lm3 lm n t0 t1 t2⟩) (k0 : Whole t0) (k1 : Whole t1) (k2 : Whole t2)
    (hpl : n < nm) (hn : nc ≤ 1048576) (hnm : nm ≤ 1048576) :
    Calls Try.prog 24 #[.agg #[.int .i64 1, .int .i64 B, .int .i64 0, .slice ac nc cc, .slice am nm cm], .int .i64 (n : Int), .int .i64 t, .int .i64 v] w fun e w' => RAddP ⟨1, B, 0, lc, lm⟩ n t v ac am w e w' := by
  have HK : Hid (∀ E, addE ⟨1, B, 0, lc, lm⟩ n t v = E → E ≠ 0 → ∀ w', Below w.heap.size w w' → RAddP ⟨1, B, 0, lc, lm⟩ n t v ac am w (.returned (.tuple #[.agg #[.int .i64 1, .int .i64 B, .int .i64 0, .slice ac nc cc, .slice am nm cm], .int .i64 E])) w') := fun E e1 e0 w' hb => RAddP.keep h z1 z2 e1 e0 hb
  have HO : Hid (addE ⟨1, B, 0, lc, lm⟩ n t v = 0 → ∀ g m co mo w', Lst KL g 0 lc w' → Lst KL m 0 (lm3 lm n t0 t1 t2) w' → w.heap.size ≤ g → w.heap.size ≤ m → Below w.heap.size w w' → RAddP ⟨1, B, 0, lc, lm⟩ n t v ac am w (.returned (.tuple #[.agg #[.int .i64 1, .int .i64 B, .int .i64 0, .slice (some ⟨g, 0, none⟩) nc co, .slice (some ⟨m, 0, none⟩) nm mo], .int .i64 0])) w') := by
    intro e0 g m co mo w' L1 L2 hg hm hb
    refine ⟨_, _, _, _, _, _, by rw [e0], ?_, ⟨fun h => (by cases h), fun h => (by cases h)⟩, fun N hN _ => ⟨fun ad h => (by obtain rfl := Option.some.inj h; exact hN _ hg), fun ad h => (by obtain rfl := Option.some.inj h; exact hN _ hm)⟩, hb⟩
    rw [hD e0]
    exact ⟨h.nc, by show (lm3 lm n t0 t1 t2).length = _; rw [lm3_len]; exact h.nm, L1.holds, L2.holds, h.wc, h.wm.lm3 n k0 k1 k2⟩
  have hq := fun w => refRight_any 1 B 0 ac am nc cc nm cm w
  rw [h.right, hr] at hq
  have hcp := fun w1 (b : Below w.heap.size w w1) => copy_any ⟨1, B, 0, lc, lm⟩ ac am nc cc nm cm w1 (h.below b) z1 z2 hn hnm
  have HLN : Hid (lc.length = nc ∧ lm.length = nm * 3 ∧ n < nm) := ⟨h.nc, h.nm, hpl⟩
  have HA := Lib.hid hE
  have HX := Lib.hid (And.intro hx (And.intro hy hz))
  have HR := Lib.hid h
  have bA := VarH.new w 1 B 0 (.slice ac nc cc) (.slice am nm cm) 45
  obtain ⟨W1, hW1⟩ : ∃ W1, w.alloc (.cells #[.int .i64 1, .int .i64 B, .int .i64 0, .slice ac nc cc, .slice am nm cm] 45) = W1 := ⟨_, rfl⟩
  rw [hW1] at bA
  have s1' : W1.heap.size = w.heap.size + 1 := by rw [← hW1]; simp
  have bR := VarH.new W1 0 0 0 (.slice none 0 0) (.slice none 0 0) 45
  obtain ⟨W2, hW2⟩ : ∃ W2, W1.alloc (.cells #[.int .i64 0, .int .i64 0, .int .i64 0, .slice none 0 0, .slice none 0 0] 45) = W2 := ⟨_, rfl⟩
  have s2' : W2.heap.size = w.heap.size + 1 + 1 := by rw [← hW2]; simp [s1']
  rw [hW2, s1'] at bR
  have b1 : Below w.heap.size w W1 := hW1 ▸ alloc_below w _
  have b2 : Below W1.heap.size W1 W2 := hW2 ▸ alloc_below W1 _
  have HB : Hid (Below w.heap.size w W2) := b1.trans (b2.mono b1.size)
  replace bA := Lib.hid (bA.below b2 bA.lt)
  replace bR := Lib.hid bR
  have HS := Lib.hid s2'
  have i1 : (n : Int) < (nm : Int) := by omega
  have i0 : ¬ (n : Int) < 0 := by omega
  clear b1 b2 hE hD h z1 z2 hr hn hnm s2' hpl hx hy hz k0 k1 k2
  go_enter Try.func24, Try.ntmps24
  go_upto_region 1 with fail
  clear hW1 hW2 s1'
  obtain ⟨a0, a1, a2, a3, a4⟩ := bA.out.five
  go_wp2_with fail
  refine (hq _).mono ?_
  rintro e W3 ⟨rfl, c3⟩
  clear a0 a1 a2 a3 a4 hq
  replace bA := Lib.hid (bA.out.below c3 bA.out.lt)
  replace bR := Lib.hid (bR.out.below c3 bR.out.lt)
  replace HB := Lib.hid (HB.out.trans (c3.mono HB.out.size))
  replace HS : Hid (w.heap.size + 1 + 1 ≤ W3.heap.size) := by have := c3.size; have := HS.out; show _ ≤ _; omega
  clear c3
  obtain ⟨a0, a1, a2, a3, a4⟩ := bA.out.five
  replace hcp := hcp W3 HB.out
  go_wp2_with fail
  refine hcp.mono ?_
  rintro e W5 ⟨g, m, nm2, co, mo, rfl, hnm2, hco, hmo, L1, L2, hg, hgm, c5⟩
  obtain rfl : nm2 = nm := by have := HLN.out; simp only at hnm2; omega
  simp only at L1 L2 hco
  rw [HLN.out.1] at hco
  rw [HLN.out.1]
  clear a0 a1 a2 a3 a4 hcp
  replace bA := bA.out.below c5 bA.out.lt
  replace bR := bR.out.below c5 bR.out.lt
  replace HB := HB.out.trans (c5.mono HB.out.size)
  have bO := VarH.new W5 1 B 0 (.slice (some ⟨g, 0, none⟩) nc co) (.slice (some ⟨m, 0, none⟩) nm2 mo) 45
  have HFAR : Hid (w.heap.size + 1 + 1 ≤ g ∧ g < m ∧ m < W5.heap.size) := by have := HS.out; have := L2.lt; show _ ∧ _; omega
  have HM2 := Lib.hid hmo
  clear hnm2 hco hmo hg hgm c5 HS
  go_upto_region 10 with fail
  have c6 := alloc_below W5 (.cells #[.int .i64 1, .int .i64 B, .int .i64 0, .slice (some ⟨g, 0, none⟩) nc co, .slice (some ⟨m, 0, none⟩) nm2 mo] 45)
  obtain ⟨W6, hW6⟩ : ∃ W6, W5.alloc (.cells #[.int .i64 1, .int .i64 B, .int .i64 0, .slice (some ⟨g, 0, none⟩) nc co, .slice (some ⟨m, 0, none⟩) nm2 mo] 45) = W6 := ⟨_, rfl⟩
  rw [hW6] at bO c6 ⊢
  obtain ⟨vO, hvO⟩ : ∃ v, W5.heap.size = v := ⟨_, rfl⟩
  rw [hvO] at bO HFAR ⊢
  replace bA := bA.below c6 bA.lt
  replace bR := bR.below c6 bR.lt
  replace L1 := L1.below c6 L1.lt
  replace L2 := L2.below c6 L2.lt
  replace HB := HB.trans (c6.mono HB.size)
  clear c6 hvO hW6
  obtain ⟨ga, oa, rfl, -, -⟩ := HR.out.hm.cells (by have := HLN.out; show lm.length ≠ 0; omega)
  have HAL := Lib.hid bA
  have HRL := Lib.hid bR
  have HOL := Lib.hid bO
  have HL1 := Lib.hid L1
  have HL2 := Lib.hid L2
  replace HB := Lib.hid HB
  obtain ⟨a0, a1, a2, a3, a4⟩ := HAL.out.five
  clear bA bR bO L1 L2
  go_wp2_with fail
  refine (hT1 _).mono ?_
  rintro e W7 ⟨rfl, c7⟩
  clear a0 a1 a2 a3 a4 hT1
  replace HAL := Lib.hid (HAL.out.below c7 HAL.out.lt)
  replace HRL := Lib.hid (HRL.out.below c7 HRL.out.lt)
  replace HOL := Lib.hid (HOL.out.below c7 HOL.out.lt)
  replace HL1 := Lib.hid (HL1.out.below c7 HL1.out.lt)
  replace HL2 := Lib.hid (HL2.out.below c7 HL2.out.lt)
  replace HB := Lib.hid (HB.out.trans (c7.mono HB.out.size))
  clear c7
  by_cases he : e1 = 0
  · subst he
    go_wp2_with fail
    refine (hT2 _).mono ?_
    rintro e W8 ⟨rfl, c8⟩
    clear hT2
    replace HAL := Lib.hid (HAL.out.below c8 HAL.out.lt)
    replace HRL := Lib.hid (HRL.out.below c8 HRL.out.lt)
    replace HOL := Lib.hid (HOL.out.below c8 HOL.out.lt)
    replace HL1 := Lib.hid (HL1.out.below c8 HL1.out.lt)
    replace HL2 := Lib.hid (HL2.out.below c8 HL2.out.lt)
    replace HB := Lib.hid (HB.out.trans (c8.mono HB.out.size))
    clear c8
    by_cases he : e2 = 0
    · subst he
      obtain ⟨a0, a1, a2, a3, a4⟩ := HAL.out.five
      obtain ⟨ga', oa', hga, -, cX⟩ := (HR.out.below HB.out).hm.cells (by have := HLN.out; show lm.length ≠ 0; omega)
      obtain ⟨rfl, rfl⟩ : ga = ga' ∧ oa = oa' := by simpa using hga
      have cx : W8.cell? ⟨ga, oa + n * 3, none⟩ = some (.int .i64 (lm.getD (n * 3) 0)) := cX (n * 3) (by have := HLN.out; show _ < lm.length; omega)
      have cy : W8.cell? ⟨ga, oa + n * 3 + 1, none⟩ = some (.int .i64 (lm.getD (n * 3 + 1) 0)) := by rw [Nat.add_assoc]; exact cX (n * 3 + 1) (by have := HLN.out; show _ < lm.length; omega)
      have cz : W8.cell? ⟨ga, oa + n * 3 + 2, none⟩ = some (.int .i64 (lm.getD (n * 3 + 2) 0)) := by rw [Nat.add_assoc]; exact cX (n * 3 + 2) (by have := HLN.out; show _ < lm.length; omega)
      rw [HX.out.1] at cx
      rw [HX.out.2.1] at cy
      rw [HX.out.2.2] at cz
      clear cX hga
      go_wp2_with fail
      refine (hPl _).mono ?_
      rintro e W9 ⟨rfl, c9⟩
      clear a0 a1 a2 a3 a4 cx cy cz hPl
      replace HAL := Lib.hid (HAL.out.below c9 HAL.out.lt)
      replace HRL := Lib.hid (HRL.out.below c9 HRL.out.lt)
      replace HOL := Lib.hid (HOL.out.below c9 HOL.out.lt)
      replace HL1 := Lib.hid (HL1.out.below c9 HL1.out.lt)
      replace HL2 := Lib.hid (HL2.out.below c9 HL2.out.lt)
      replace HB := Lib.hid (HB.out.trans (c9.mono HB.out.size))
      clear c9
      go_upto_region 25 with fail
      have hM := AtM.new W9 (okV e3 t0) (okV e3 t1) (okV e3 t2) 74
      have c10 := alloc_below W9 (.cells #[.int .i64 (okV e3 t0), .int .i64 (okV e3 t1), .int .i64 (okV e3 t2)] 74)
      obtain ⟨W10, hW10⟩ : ∃ W10, W9.alloc (.cells #[.int .i64 (okV e3 t0), .int .i64 (okV e3 t1), .int .i64 (okV e3 t2)] 74) = W10 := ⟨_, rfl⟩
      rw [hW10] at hM c10 ⊢
      obtain ⟨gm, hgm⟩ : ∃ v, W9.heap.size = v := ⟨_, rfl⟩
      rw [hgm] at hM ⊢
      clear hgm hW10
      replace HAL := Lib.hid (HAL.out.below c10 HAL.out.lt)
      replace HRL := Lib.hid (HRL.out.below c10 HRL.out.lt)
      replace HOL := Lib.hid (HOL.out.below c10 HOL.out.lt)
      replace HL1 := Lib.hid (HL1.out.below c10 HL1.out.lt)
      replace HL2 := Lib.hid (HL2.out.below c10 HL2.out.lt)
      replace HB := Lib.hid (HB.out.trans (c10.mono HB.out.size))
      clear c10
      by_cases he : e3 = 0
      · subst he
        have HF := Lib.hid (HO.out HA.out)
        have k0 : ∀ v, okV 0 v = v := fun v => if_pos rfl
        rw [k0, k0, k0] at hM
        have HLj : Hid (n * 3 + 2 < lm.length) := by have := HLN.out; show _ < _; omega
        obtain ⟨_, e0, e1, e2⟩ := hM
        obtain ⟨_, d0, d1, d2⟩ := HL2.out.atM n HLj.out
        have f0 := HL2.out.frozen (n * 3) (by have := HLj.out; omega)
        have f1 := HL2.out.frozen (n * 3 + 1) (by have := HLj.out; omega)
        have f2 := HL2.out.frozen (n * 3 + 2) HLj.out
        rw [← Nat.add_assoc] at f1 f2
        rw [Nat.zero_add] at d0 d1 d2 f0 f1 f2
        obtain ⟨o0, o1, o2, o3, o4⟩ := HOL.out.five
        have st2 := HL2.out.set3 n HLj.out t0 t1 t2
        rw [Nat.zero_add] at st2
        have bz := set3_but (b := m) (o := n * 3) (x := .int .i64 t0) (y := .int .i64 t1) (z := .int .i64 t2) W10
        have n1 := Lib.hid (HOL.out.but bz (by have := HFAR.out; omega))
        have n2 := Lib.hid (HRL.out.but bz (by have := HFAR.out; omega))
        have n3 := Lib.hid (HL1.out.but bz (by have := HFAR.out; omega))
        have n4 := Lib.hid (HB.out.trans (bz.below (by have := HFAR.out; omega) HB.out.size))
        replace st2 := Lib.hid st2
        clear bz HLj HK HO HAL k0
        go_upto_region 28 with fail
        rw [show ((W10.setCell ⟨m, n * 3, none⟩ (.int .i64 t0)).setCell ⟨m, n * 3 + 1, none⟩ (.int .i64 t1)).setCell ⟨m, n * 3 + 2, none⟩ (.int .i64 t2) = set3 W10 m (n * 3) (.int .i64 t0) (.int .i64 t1) (.int .i64 t2) from rfl]
        clear o0 o1 o2 o3 o4 d0 d1 d2 f0 f1 f2 e0 e1 e2
        generalize set3 W10 m (n * 3) (.int .i64 t0) (.int .i64 t1) (.int .i64 t2) = W11 at *
        obtain ⟨o0, o1, o2, o3, o4⟩ := n1.out.five
        obtain ⟨r0, r1, r2, r3, r4⟩ := n2.out.five
        obtain ⟨y0, y1, y2, y3, y4⟩ := n2.out.soft
        go_wp2_with fail
        obtain ⟨d0, d1, d2, d3, d4⟩ := (n2.out.set 1 B 0 (.slice (some ⟨g, 0, none⟩) nc co) (.slice (some ⟨m, 0, none⟩) nm2 mo)).five
        have HBW := set5_below (g := w.heap.size + 1) (x0 := .int .i64 1) (x1 := .int .i64 B) (x2 := .int .i64 0) (x3 := .slice (some ⟨g, 0, none⟩) nc co) (x4 := .slice (some ⟨m, 0, none⟩) nm2 mo) n4.out (by omega)
        have HBT := set5_but W11 (w.heap.size + 1) (.int .i64 1) (.int .i64 B) (.int .i64 0) (.slice (some ⟨g, 0, none⟩) nc co) (.slice (some ⟨m, 0, none⟩) nm2 mo)
        change bodyPost _ _ _ _ _ (set5 W11 (w.heap.size + 1) (.int .i64 1) (.int .i64 B) (.int .i64 0) (.slice (some ⟨g, 0, none⟩) nc co) (.slice (some ⟨m, 0, none⟩) nm2 mo))
        have q1 := n3.out.but HBT (by have := HFAR.out; omega)
        have q2 : Lst KL m 0 (lm3 lm n t0 t1 t2) _ := st2.out.but HBT (by have := HFAR.out; omega)
        generalize set5 W11 (w.heap.size + 1) (.int .i64 1) (.int .i64 B) (.int .i64 0) (.slice (some ⟨g, 0, none⟩) nc co) (.slice (some ⟨m, 0, none⟩) nm2 mo) = WX at *
        simp [bodyPost, results, Try.results24, go_sem, d0, d1, d2, d3, d4]
        exact HF.out g m co mo WX q1 q2 (by have := HFAR.out; omega) (by have := HFAR.out; omega) HBW
      · have HF := Lib.hid (HK.out e3 HA.out he)
        have gb : (e3 != 0) = true := by simpa using he
        obtain ⟨a0, a1, a2, a3, a4⟩ := HAL.out.five
        obtain ⟨r0, r1, r2, r3, r4⟩ := HRL.out.five
        obtain ⟨y0, y1, y2, y3, y4⟩ := HRL.out.soft
        clear HK HO he HOL HL1 HL2 HA hM
        go_wp2_with fail
        obtain ⟨d0, d1, d2, d3, d4⟩ := (HRL.out.set 1 B 0 (.slice ac nc cc) (.slice (some ⟨ga, oa, none⟩) nm2 cm)).five
        have HBW := set5_below (g := w.heap.size + 1) (x0 := .int .i64 1) (x1 := .int .i64 B) (x2 := .int .i64 0) (x3 := .slice ac nc cc) (x4 := .slice (some ⟨ga, oa, none⟩) nm2 cm) HB.out (by omega)
        change bodyPost _ _ _ _ _ (set5 W10 (w.heap.size + 1) (.int .i64 1) (.int .i64 B) (.int .i64 0) (.slice ac nc cc) (.slice (some ⟨ga, oa, none⟩) nm2 cm))
        generalize set5 W10 (w.heap.size + 1) (.int .i64 1) (.int .i64 B) (.int .i64 0) (.slice ac nc cc) (.slice (some ⟨ga, oa, none⟩) nm2 cm) = WX at *
        simp [bodyPost, results, Try.results24, go_sem, d0, d1, d2, d3, d4]
        exact HF.out _ HBW
    · have HF := Lib.hid (HK.out e2 (HA.out.trans (by simp [he])) he)
      have gb : (e2 != 0) = true := by simpa using he
      obtain ⟨a0, a1, a2, a3, a4⟩ := HAL.out.five
      obtain ⟨r0, r1, r2, r3, r4⟩ := HRL.out.five
      obtain ⟨y0, y1, y2, y3, y4⟩ := HRL.out.soft
      clear HK HO he HOL HL1 HL2 HA hPl
      go_wp2_with fail
      obtain ⟨d0, d1, d2, d3, d4⟩ := (HRL.out.set 1 B 0 (.slice ac nc cc) (.slice (some ⟨ga, oa, none⟩) nm2 cm)).five
      have HBW := set5_below (g := w.heap.size + 1) (x0 := .int .i64 1) (x1 := .int .i64 B) (x2 := .int .i64 0) (x3 := .slice ac nc cc) (x4 := .slice (some ⟨ga, oa, none⟩) nm2 cm) HB.out (by omega)
      change bodyPost _ _ _ _ _ (set5 W8 (w.heap.size + 1) (.int .i64 1) (.int .i64 B) (.int .i64 0) (.slice ac nc cc) (.slice (some ⟨ga, oa, none⟩) nm2 cm))
      generalize set5 W8 (w.heap.size + 1) (.int .i64 1) (.int .i64 B) (.int .i64 0) (.slice ac nc cc) (.slice (some ⟨ga, oa, none⟩) nm2 cm) = WX at *
      simp [bodyPost, results, Try.results24, go_sem, d0, d1, d2, d3, d4]
      exact HF.out _ HBW
  · have HF := Lib.hid (HK.out e1 (HA.out.trans (if_neg he)) he)
    have gb : (e1 != 0) = true := by simpa using he
    obtain ⟨a0, a1, a2, a3, a4⟩ := HAL.out.five
    obtain ⟨r0, r1, r2, r3, r4⟩ := HRL.out.five
    obtain ⟨y0, y1, y2, y3, y4⟩ := HRL.out.soft
    clear HK HO he HOL HL1 HL2 HA hT2 hPl
    go_wp2_with fail
    obtain ⟨d0, d1, d2, d3, d4⟩ := (HRL.out.set 1 B 0 (.slice ac nc cc) (.slice (some ⟨ga, oa, none⟩) nm2 cm)).five
    have HBW := set5_below (g := w.heap.size + 1) (x0 := .int .i64 1) (x1 := .int .i64 B) (x2 := .int .i64 0) (x3 := .slice ac nc cc) (x4 := .slice (some ⟨ga, oa, none⟩) nm2 cm) HB.out (by omega)
    change bodyPost _ _ _ _ _ (set5 W7 (w.heap.size + 1) (.int .i64 1) (.int .i64 B) (.int .i64 0) (.slice ac nc cc) (.slice (some ⟨ga, oa, none⟩) nm2 cm))
    generalize set5 W7 (w.heap.size + 1) (.int .i64 1) (.int .i64 B) (.int .i64 0) (.slice ac nc cc) (.slice (some ⟨ga, oa, none⟩) nm2 cm) = WX at *
    simp [bodyPost, results, Try.results24, go_sem, d0, d1, d2, d3, d4]
    exact HF.out _ HBW

theorem radd_1 (B : Int) (lc lm : List Int) (ac am : Option Addr) (nc cc nm cm n : Nat) (t v : Int) (w : World) (h : Reads ⟨1, B, 0, lc, lm⟩ ac nc am nm w) (z1 : ac = none → cc = 0) (z2 : am = none → cm = 0) (hr : rightD ⟨1, B, 0, lc, lm⟩ = true) (hb : (n : Int) < B) (hv : ¬ v < 0) (ht : Whole t) (hvw : Whole v)
    (hpl : n < nm) (hn : nc ≤ 1048576) (hnm : nm ≤ 1048576) :
    Calls Try.prog 24 #[.agg #[.int .i64 1, .int .i64 B, .int .i64 0, .slice ac nc cc, .slice am nm cm], .int .i64 (n : Int), .int .i64 t, .int .i64 v] w fun e w' => RAddP ⟨1, B, 0, lc, lm⟩ n t v ac am w e w' := by
  have hl : lm.length = nm * 3 := h.nm
  have g0 := h.wm (n * 3) (by show _ < lm.length; omega)
  have g1 := h.wm (n * 3 + 1) (by show _ < lm.length; omega)
  have g2 := h.wm (n * 3 + 2) (by show _ < lm.length; omega)
  have hE : addE ⟨1, B, 0, lc, lm⟩ n t v = adE t v (lm.getD (n * 3) 0) (lm.getD (n * 3 + 1) 0) (lm.getD (n * 3 + 2) 0) := by
    unfold addE
    rw [hr, if_neg (by decide), if_neg (by show ¬ ((n : Int) < 0 ∨ B ≤ (n : Int)); omega), if_neg (by show ¬ ((1 : Int) = 0 ∧ _); simp), if_neg hv, if_pos rfl]
    rfl
  have hD : addE ⟨1, B, 0, lc, lm⟩ n t v = 0 → addD ⟨1, B, 0, lc, lm⟩ n t v = ⟨1, B, 0, lc, lm3 lm n (plV (lm.getD (n * 3) 0) v) (plV (lm.getD (n * 3 + 1) 0) (t * v)) (plV (lm.getD (n * 3 + 2) 0) (t * (t * v)))⟩ := by
    intro e0
    unfold addD
    rw [if_neg (by rw [e0]; decide), if_pos rfl]
    rfl
  refine radd1_walk B lc lm ac am nc cc nm cm n t v w h z1 z2 hr hb hv (lm.getD (n * 3) 0) (lm.getD (n * 3 + 1) 0) (lm.getD (n * 3 + 2) 0) (fitV (t * v)) (fitE (t * v)) (fitV (t * fitV (t * v))) (fitE (t * fitV (t * v))) (plV (lm.getD (n * 3) 0) v) (plV (lm.getD (n * 3 + 1) 0) (fitV (t * v))) (plV (lm.getD (n * 3 + 2) 0) (fitV (t * fitV (t * v)))) _ rfl rfl rfl
    (fun w => refTimes64_any t v ht hvw w) (fun w => refTimes64_any t _ ht (fitV_whole _) w) (fun w => rmplus_any _ _ _ v _ _ w g0 g1 g2 hvw (fitV_whole _) (fitV_whole _)) ?_ ?_ (fitV_whole _) (fitV_whole _) (fitV_whole _) hpl hn hnm
  · rw [hE]
    unfold adE
    by_cases h1 : fitE (t * v) = 0
    · have h1' := fitV_yes (fitE_in h1)
      rw [if_pos h1, if_pos h1, h1']
      by_cases h2 : fitE (t * (t * v)) = 0
      · rw [if_pos h2, if_pos h2, fitV_yes (fitE_in h2)]
      · rw [if_neg h2, if_neg h2]
    · rw [if_neg h1, if_neg h1]
  · intro e0
    rw [hD e0]
    rw [hE] at e0
    unfold adE at e0
    by_cases h1 : fitE (t * v) = 0
    · rw [if_pos h1] at e0
      have h1' := fitV_yes (fitE_in h1)
      by_cases h2 : fitE (t * (t * v)) = 0
      · rw [h1', fitV_yes (fitE_in h2)]
      · rw [if_neg h2] at e0
        exact absurd e0 h2
    · rw [if_neg h1] at e0
      exact absurd e0 h1
end Go.Proofs.Ytebdlmjpgohngaa
