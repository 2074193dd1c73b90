/-
  HistParts: its walk. Conditions: as the law asks; else it is the chapter's example.
-/
import Derived.Test.YtdpcplhmnpglgaaHisQ
namespace Go.Proofs.Ytdpcplhmnpglgaa
open Go.RowKit

theorem AtM.newS (w : World) (x y z : Int) (t : TypeId) {w' : World} (e : w.alloc (.cells #[.int .i64 x, .int .i64 y, .int .i64 z] t) = w') : AtM w.heap.size 0 x y z w' ∧ Below w.heap.size w w' ∧ w'.heap.size = w.heap.size + 1 := by
  subst e
  exact ⟨AtM.new w x y z t, alloc_below _ _, by simp⟩
theorem AtM.but2 {g o b c : Nat} {x y z : Int} {w w' : World} (h : AtM g o x y z w) (hb : But2 b c w w') (h1 : g ≠ b) (h2 : g ≠ c) : AtM g o x y z w' :=
  ⟨Nat.lt_of_lt_of_le h.lt hb.size, (hb.cell (by exact h.lt) (by exact h1) (by exact h2)).trans h.c0, (hb.cell (by exact h.lt) (by exact h1) (by exact h2)).trans h.c1, (hb.cell (by exact h.lt) (by exact h1) (by exact h2)).trans h.c2⟩

theorem Kept.lt {v g m : Nat} {d : HD} {w : World} (h : Kept v g m d w) : v < w.heap.size := by
  obtain ⟨C, M, hv, _⟩ := h
  exact hv.lt

theorem parts_great (sk sb sc cut : Int) (n c : Nat) (a : Option Addr) (h : 100 < n) (w : World) :
    Calls Try.prog 6 #[.agg #[.int .i64 sk, .int .i64 sb, .int .i64 sc], .slice a n c, .int .u8 cut] w fun e w' => e = .returned (.bool true) ∧ Below w.heap.size w w' := by
  have i1 : (100 : Int) < (n : Int) := by omega
  have HB : Hid (Below w.heap.size w (w.alloc (.cells #[.int .i64 sk, .int .i64 sb, .int .i64 sc] 23))) := alloc_below _ _
  clear h
  go_enter Try.func6, Try.ntmps6
  go_wp2_with fail
  refine (fixed_any _).mono ?_
  rintro e w' ⟨rfl, c⟩
  replace HB := Lib.hid (HB.out.trans (c.mono HB.out.size))
  clear c
  go_wp2_with fail
  go_ret
  exact ⟨rfl, HB.out⟩


set_option maxHeartbeats 1000000 in
theorem parts_none (sk sb sc cut : Int) (n c : Nat) (a : Option Addr) (h : ¬ 100 < n) (h0 : lenC sk sb sc + lenM sk sb sc = 0) (w : World) :
    Calls Try.prog 6 #[.agg #[.int .i64 sk, .int .i64 sb, .int .i64 sc], .slice a n c, .int .u8 cut] w fun e w' => e = .returned (.bool true) ∧ Below w.heap.size w w' := by
  have i1 : ¬ (100 : Int) < (n : Int) := by omega
  have hN := fun w => new_no sk sb sc h0 w
  clear h h0
  obtain ⟨W1, hW1⟩ : ∃ W1, w.alloc (.cells #[.int .i64 sk, .int .i64 sb, .int .i64 sc] 23) = W1 := ⟨_, rfl⟩
  obtain ⟨vs, k1, s1⟩ := AtM.newS w sk sb sc _ hW1
  replace vs := Lib.hid vs
  have HW1 := Lib.hid k1.size
  replace k1 := Lib.hid k1
  obtain ⟨s0, s2, s3⟩ : W1.cell? ⟨w.heap.size, 0, none⟩ = some (.int .i64 sk) ∧ W1.cell? ⟨w.heap.size, 1, none⟩ = some (.int .i64 sb) ∧ W1.cell? ⟨w.heap.size, 2, none⟩ = some (.int .i64 sc) := ⟨vs.out.c0, vs.out.c1, vs.out.c2⟩
  go_enter Try.func6, Try.ntmps6
  go_upto_region 3 with fail
  clear hW1 s1
  go_wp2_with fail
  refine (hN _).mono ?_
  rintro e V ⟨rfl, c1⟩
  have c2 := Lib.hid (alloc_below V (.cells #[.int .i64 0, .int .i64 0, .int .i64 0, .slice none 0 0, .slice none 0 0] 29))
  replace c1 := Lib.hid c1
  clear s0 s2 s3
  go_upto_region 4 with fail
  generalize V.alloc (.cells #[.int .i64 0, .int .i64 0, .int .i64 0, .slice none 0 0, .slice none 0 0] 29) = W1z at *
  replace c2 := Lib.hid (c1.out.trans (c2.out.mono c1.out.size))
  replace vs := Lib.hid (vs.out.below c2.out vs.out.lt)
  replace k1 := Lib.hid (k1.out.trans (c2.out.mono k1.out.size))
  obtain ⟨s0, s2, s3⟩ : W1z.cell? ⟨w.heap.size, 0, none⟩ = some (.int .i64 sk) ∧ W1z.cell? ⟨w.heap.size, 1, none⟩ = some (.int .i64 sb) ∧ W1z.cell? ⟨w.heap.size, 2, none⟩ = some (.int .i64 sc) := ⟨vs.out.c0, vs.out.c1, vs.out.c2⟩
  clear c1 c2
  go_wp2_with fail
  refine (hN _).mono ?_
  rintro e V ⟨rfl, c1⟩
  have c2 := Lib.hid (alloc_below V (.cells #[.int .i64 0, .int .i64 0, .int .i64 0, .slice none 0 0, .slice none 0 0] 29))
  replace c1 := Lib.hid c1
  clear s0 s2 s3
  go_upto_region 5 with fail
  generalize V.alloc (.cells #[.int .i64 0, .int .i64 0, .int .i64 0, .slice none 0 0, .slice none 0 0] 29) = W2z at *
  replace c2 := Lib.hid (c1.out.trans (c2.out.mono c1.out.size))
  replace vs := Lib.hid (vs.out.below c2.out vs.out.lt)
  replace k1 := Lib.hid (k1.out.trans (c2.out.mono k1.out.size))
  obtain ⟨s0, s2, s3⟩ : W2z.cell? ⟨w.heap.size, 0, none⟩ = some (.int .i64 sk) ∧ W2z.cell? ⟨w.heap.size, 1, none⟩ = some (.int .i64 sb) ∧ W2z.cell? ⟨w.heap.size, 2, none⟩ = some (.int .i64 sc) := ⟨vs.out.c0, vs.out.c1, vs.out.c2⟩
  clear c1 c2
  go_wp2_with fail
  refine (hN _).mono ?_
  rintro e V ⟨rfl, c1⟩
  have c2 := Lib.hid (alloc_below V (.cells #[.int .i64 0, .int .i64 0, .int .i64 0, .slice none 0 0, .slice none 0 0] 29))
  replace c1 := Lib.hid c1
  clear s0 s2 s3
  go_upto_region 6 with fail
  generalize V.alloc (.cells #[.int .i64 0, .int .i64 0, .int .i64 0, .slice none 0 0, .slice none 0 0] 29) = W3z at *
  replace c2 := Lib.hid (c1.out.trans (c2.out.mono c1.out.size))
  replace vs := Lib.hid (vs.out.below c2.out vs.out.lt)
  replace k1 := Lib.hid (k1.out.trans (c2.out.mono k1.out.size))
  obtain ⟨s0, s2, s3⟩ : W3z.cell? ⟨w.heap.size, 0, none⟩ = some (.int .i64 sk) ∧ W3z.cell? ⟨w.heap.size, 1, none⟩ = some (.int .i64 sb) ∧ W3z.cell? ⟨w.heap.size, 2, none⟩ = some (.int .i64 sc) := ⟨vs.out.c0, vs.out.c1, vs.out.c2⟩
  clear c1 c2
  clear s0 s2 s3
  go_wp2_with fail
  refine (fixed_any _).mono ?_
  rintro e V ⟨rfl, c1⟩
  replace k1 := Lib.hid (k1.out.trans (c1.mono k1.out.size))
  clear c1
  go_wp2_with fail
  go_ret
  exact ⟨rfl, k1.out⟩


set_option maxRecDepth 20000 in
set_option maxHeartbeats 4000000 in
theorem parts_any (sk sb sc cut : Int) (n c : Nat) (a : Option Addr) (l : List Int) (hl : l.length = n * 3) (hwl : Wholes l) (hcut : 0 ≤ cut ∧ cut < 256) (h : ¬ 100 < n) (p q : Nat) (hp : lenC sk sb sc = p) (hq : lenM sk sb sc = q) (h0 : p + q ≠ 0) (w : World) (hh : HoldsE KL w a l) :
    Calls Try.prog 6 #[.agg #[.int .i64 sk, .int .i64 sb, .int .i64 sc], .slice a n c, .int .u8 cut] w fun e w' => e = .returned (.bool true) ∧ Below w.heap.size w w' := by
  have i1 : ¬ (100 : Int) < (n : Int) := by omega
  have hN := fun w => new_yes sk sb sc p q hp hq h0 w
  have HR : Hid (Inv 0 ⟨sk, sb, sc, List.replicate p 0, List.replicate (q * 3) 0⟩ ⟨sk, sb, sc, List.replicate p 0, List.replicate (q * 3) 0⟩ ⟨sk, sb, sc, List.replicate p 0, List.replicate (q * 3) 0⟩) := by
    have z : ∀ n i, (List.replicate n (0 : Int)).getD i 0 = 0 := by
      intro n i
      simp only [List.getD_eq_getElem?_getD, List.getElem?_replicate]
      split <;> rfl
    refine Inv.start ?_ (z _) (z _)
    simp only [rightD, List.length_replicate, decide_eq_true_eq]
    omega
  have HPQ : Hid (p ≤ 65792 ∧ q ≤ 257) := by
    have := lenC_in sk sb sc
    have := lenM_in sk sb sc
    show _ ∧ _
    omega
  have HL := Lib.hid (And.intro hl (show n ≤ 100 by omega))
  have HWL := Lib.hid hwl
  have HCUT := Lib.hid hcut
  have HH := Lib.hid hh
  clear h hp hq h0 hl hwl hcut hh
  obtain ⟨W1, hW1⟩ : ∃ W1, w.alloc (.cells #[.int .i64 sk, .int .i64 sb, .int .i64 sc] 23) = W1 := ⟨_, rfl⟩
  obtain ⟨vs, k1, s1⟩ := AtM.newS w sk sb sc _ hW1
  replace vs := Lib.hid vs
  have HW1 := Lib.hid k1.size
  replace k1 := Lib.hid k1
  obtain ⟨s0, s2, s3⟩ : W1.cell? ⟨w.heap.size, 0, none⟩ = some (.int .i64 sk) ∧ W1.cell? ⟨w.heap.size, 1, none⟩ = some (.int .i64 sb) ∧ W1.cell? ⟨w.heap.size, 2, none⟩ = some (.int .i64 sc) := ⟨vs.out.c0, vs.out.c1, vs.out.c2⟩
  go_enter Try.func6, Try.ntmps6
  go_upto_region 3 with fail
  clear hW1 s1
  go_wp2_with fail
  refine (hN _).mono ?_
  rintro e VA ⟨gA, mA, rfl, hG, hM, hgA, hmA, hgm, c1⟩
  have bH := VarH.new VA sk sb sc (.slice (some ⟨gA, 0, none⟩) p p) (.slice (some ⟨mA, 0, none⟩) q q) 29
  have c2 := alloc_below VA (.cells #[.int .i64 sk, .int .i64 sb, .int .i64 sc, .slice (some ⟨gA, 0, none⟩) p p, .slice (some ⟨mA, 0, none⟩) q q] 29)
  have hS : (VA.alloc (.cells #[.int .i64 sk, .int .i64 sb, .int .i64 sc, .slice (some ⟨gA, 0, none⟩) p p, .slice (some ⟨mA, 0, none⟩) q q] 29)).heap.size = VA.heap.size + 1 := by simp
  have l1 := hG.lt
  have l2 := hM.lt
  have l3 := c1.size
  obtain ⟨vA, hv⟩ : ∃ v, VA.heap.size = v := ⟨_, rfl⟩
  have HV := Lib.hid hv
  clear hv s0 s2 s3
  replace c1 := Lib.hid c1
  replace hS := Lib.hid hS
  replace l1 := Lib.hid (And.intro l1 (And.intro l2 l3))
  replace hgm := Lib.hid (And.intro hgm (And.intro hgA hmA))
  replace c2 := Lib.hid c2
  replace hG := Lib.hid hG
  replace hM := Lib.hid hM
  clear hgA hmA l2 l3
  go_upto_region 4 with fail
  obtain ⟨WA, hW⟩ : ∃ W, VA.alloc (.cells #[.int .i64 sk, .int .i64 sb, .int .i64 sc, .slice (some ⟨gA, 0, none⟩) p p, .slice (some ⟨mA, 0, none⟩) q q] 29) = W := ⟨_, rfl⟩
  rw [hW] at bH c2 hS ⊢
  rw [HV.out] at bH hS ⊢
  have KA : Kept vA gA mA ⟨sk, sb, sc, List.replicate p 0, List.replicate (q * 3) 0⟩ WA := NewP.kept bH (hG.out.below c2.out hG.out.lt) (hM.out.below c2.out hM.out.lt) hgm.out.1 (by have := l1.out; have := HV.out; omega) (by have := l1.out; have := HV.out; omega)
  have OA : Hid (gA < vA ∧ mA < vA ∧ W1.heap.size ≤ gA ∧ W1.heap.size ≤ mA ∧ WA.heap.size = vA + 1) := by
    have := l1.out; have := HV.out; have := hgm.out; have := hS.out
    show _ ∧ _
    omega
  replace KA := Lib.hid KA
  replace c2 := Lib.hid (c1.out.trans (c2.out.mono c1.out.size))
  clear hW bH HV l1 hS hG hM hgm c1
  replace vs := Lib.hid (vs.out.below c2.out vs.out.lt)
  replace k1 := Lib.hid (k1.out.trans (c2.out.mono k1.out.size))
  clear c2
  obtain ⟨s0, s2, s3⟩ : WA.cell? ⟨w.heap.size, 0, none⟩ = some (.int .i64 sk) ∧ WA.cell? ⟨w.heap.size, 1, none⟩ = some (.int .i64 sb) ∧ WA.cell? ⟨w.heap.size, 2, none⟩ = some (.int .i64 sc) := ⟨vs.out.c0, vs.out.c1, vs.out.c2⟩
  go_wp2_with fail
  refine (hN _).mono ?_
  rintro e VF ⟨gF, mF, rfl, hG, hM, hgF, hmF, hgm, c1⟩
  have bH := VarH.new VF sk sb sc (.slice (some ⟨gF, 0, none⟩) p p) (.slice (some ⟨mF, 0, none⟩) q q) 29
  have c2 := alloc_below VF (.cells #[.int .i64 sk, .int .i64 sb, .int .i64 sc, .slice (some ⟨gF, 0, none⟩) p p, .slice (some ⟨mF, 0, none⟩) q q] 29)
  have hS : (VF.alloc (.cells #[.int .i64 sk, .int .i64 sb, .int .i64 sc, .slice (some ⟨gF, 0, none⟩) p p, .slice (some ⟨mF, 0, none⟩) q q] 29)).heap.size = VF.heap.size + 1 := by simp
  have l1 := hG.lt
  have l2 := hM.lt
  have l3 := c1.size
  obtain ⟨vF, hv⟩ : ∃ v, VF.heap.size = v := ⟨_, rfl⟩
  have HV := Lib.hid hv
  clear hv s0 s2 s3
  replace c1 := Lib.hid c1
  replace hS := Lib.hid hS
  replace l1 := Lib.hid (And.intro l1 (And.intro l2 l3))
  replace hgm := Lib.hid (And.intro hgm (And.intro hgF hmF))
  replace c2 := Lib.hid c2
  replace hG := Lib.hid hG
  replace hM := Lib.hid hM
  clear hgF hmF l2 l3
  go_upto_region 5 with fail
  obtain ⟨WF, hW⟩ : ∃ W, VF.alloc (.cells #[.int .i64 sk, .int .i64 sb, .int .i64 sc, .slice (some ⟨gF, 0, none⟩) p p, .slice (some ⟨mF, 0, none⟩) q q] 29) = W := ⟨_, rfl⟩
  rw [hW] at bH c2 hS ⊢
  rw [HV.out] at bH hS ⊢
  have KF : Kept vF gF mF ⟨sk, sb, sc, List.replicate p 0, List.replicate (q * 3) 0⟩ WF := NewP.kept bH (hG.out.below c2.out hG.out.lt) (hM.out.below c2.out hM.out.lt) hgm.out.1 (by have := l1.out; have := HV.out; omega) (by have := l1.out; have := HV.out; omega)
  have OF : Hid (gF < vF ∧ mF < vF ∧ WA.heap.size ≤ gF ∧ WA.heap.size ≤ mF ∧ WF.heap.size = vF + 1) := by
    have := l1.out; have := HV.out; have := hgm.out; have := hS.out
    show _ ∧ _
    omega
  replace KF := Lib.hid KF
  replace c2 := Lib.hid (c1.out.trans (c2.out.mono c1.out.size))
  clear hW bH HV l1 hS hG hM hgm c1
  replace vs := Lib.hid (vs.out.below c2.out vs.out.lt)
  replace k1 := Lib.hid (k1.out.trans (c2.out.mono k1.out.size))
  replace KA := Lib.hid (KA.out.below c2.out)
  clear c2
  obtain ⟨s0, s2, s3⟩ : WF.cell? ⟨w.heap.size, 0, none⟩ = some (.int .i64 sk) ∧ WF.cell? ⟨w.heap.size, 1, none⟩ = some (.int .i64 sb) ∧ WF.cell? ⟨w.heap.size, 2, none⟩ = some (.int .i64 sc) := ⟨vs.out.c0, vs.out.c1, vs.out.c2⟩
  go_wp2_with fail
  refine (hN _).mono ?_
  rintro e VR ⟨gR, mR, rfl, hG, hM, hgR, hmR, hgm, c1⟩
  have bH := VarH.new VR sk sb sc (.slice (some ⟨gR, 0, none⟩) p p) (.slice (some ⟨mR, 0, none⟩) q q) 29
  have c2 := alloc_below VR (.cells #[.int .i64 sk, .int .i64 sb, .int .i64 sc, .slice (some ⟨gR, 0, none⟩) p p, .slice (some ⟨mR, 0, none⟩) q q] 29)
  have hS : (VR.alloc (.cells #[.int .i64 sk, .int .i64 sb, .int .i64 sc, .slice (some ⟨gR, 0, none⟩) p p, .slice (some ⟨mR, 0, none⟩) q q] 29)).heap.size = VR.heap.size + 1 := by simp
  have l1 := hG.lt
  have l2 := hM.lt
  have l3 := c1.size
  obtain ⟨vR, hv⟩ : ∃ v, VR.heap.size = v := ⟨_, rfl⟩
  have HV := Lib.hid hv
  clear hv s0 s2 s3
  replace c1 := Lib.hid c1
  replace hS := Lib.hid hS
  replace l1 := Lib.hid (And.intro l1 (And.intro l2 l3))
  replace hgm := Lib.hid (And.intro hgm (And.intro hgR hmR))
  replace c2 := Lib.hid c2
  replace hG := Lib.hid hG
  replace hM := Lib.hid hM
  clear hgR hmR l2 l3
  go_upto_region 6 with fail
  obtain ⟨WR, hW⟩ : ∃ W, VR.alloc (.cells #[.int .i64 sk, .int .i64 sb, .int .i64 sc, .slice (some ⟨gR, 0, none⟩) p p, .slice (some ⟨mR, 0, none⟩) q q] 29) = W := ⟨_, rfl⟩
  rw [hW] at bH c2 hS ⊢
  rw [HV.out] at bH hS ⊢
  have KR : Kept vR gR mR ⟨sk, sb, sc, List.replicate p 0, List.replicate (q * 3) 0⟩ WR := NewP.kept bH (hG.out.below c2.out hG.out.lt) (hM.out.below c2.out hM.out.lt) hgm.out.1 (by have := l1.out; have := HV.out; omega) (by have := l1.out; have := HV.out; omega)
  have OR : Hid (gR < vR ∧ mR < vR ∧ WF.heap.size ≤ gR ∧ WF.heap.size ≤ mR ∧ WR.heap.size = vR + 1) := by
    have := l1.out; have := HV.out; have := hgm.out; have := hS.out
    show _ ∧ _
    omega
  replace KR := Lib.hid KR
  replace c2 := Lib.hid (c1.out.trans (c2.out.mono c1.out.size))
  clear hW bH HV l1 hS hG hM hgm c1
  replace vs := Lib.hid (vs.out.below c2.out vs.out.lt)
  replace k1 := Lib.hid (k1.out.trans (c2.out.mono k1.out.size))
  replace KA := Lib.hid (KA.out.below c2.out)
  replace KF := Lib.hid (KF.out.below c2.out)
  clear c2
  obtain ⟨s0, s2, s3⟩ : WR.cell? ⟨w.heap.size, 0, none⟩ = some (.int .i64 sk) ∧ WR.cell? ⟨w.heap.size, 1, none⟩ = some (.int .i64 sb) ∧ WR.cell? ⟨w.heap.size, 2, none⟩ = some (.int .i64 sc) := ⟨vs.out.c0, vs.out.c1, vs.out.c2⟩
  clear s0 s2 s3 hN
  have HO : Hid (w.heap.size ≤ gA ∧ w.heap.size ≤ mA ∧ gA < vA ∧ mA < vA ∧ vA < gF ∧ vA < mF ∧ gF < vF ∧ mF < vF ∧ vF < gR ∧ vF < mR ∧ gR < vR ∧ mR < vR) := by
    have := OA.out; have := OF.out; have := OR.out; have := k1.out.size; have := vs.out.lt
    show _ ∧ _
    have hW1 : w.heap.size ≤ W1.heap.size := HW1.out
    omega
  clear OA OF vs
  go_wp2_with fail
  go_loopw [65] (fun iv wr => ∃ (j : Nat) (dA dF dR : HD), j ≤ n ∧ iv = .int .i64 j ∧ Hid (Kept vA gA mA dA wr) ∧ Hid (Kept vF gF mF dF wr) ∧ Hid (Kept vR gR mR dR wr) ∧ Hid (Inv (j : Int) dA dF dR) ∧ Hid (dA.lc.length ≤ 65792 ∧ dA.lm.length ≤ 771) ∧ Hid (Below w.heap.size w wr)) (fun iv _ => n - (intOf iv).toNat)
  case atStart =>
    refine ⟨0, _, _, _, by omega, rfl, KA.out, KF.out, KR.out, HR.out, ?_, k1.out⟩
    have := HPQ.out
    show (List.replicate p (0 : Int)).length ≤ _ ∧ (List.replicate (q * 3) (0 : Int)).length ≤ _
    simp
    omega
  case round =>
    obtain ⟨j, dA, dF, dR, hj, rfl, KA, KF, KR, HI, HLEN, HB⟩ := hrel
    by_cases hlt : j < n
    · have i2 : (j : Int) < (n : Int) := by omega
      have HLT := Lib.hid hlt
      obtain ⟨b, off, rfl, hb, hc⟩ := HH.out.cells (by have := HL.out; omega)
      have c0 := (HB.out.cell (by exact hb)).trans (hc (j * 3) (by have := HL.out; omega))
      have c1 := (HB.out.cell (by exact hb)).trans (hc (j * 3 + 1) (by have := HL.out; omega))
      have c2 := (HB.out.cell (by exact hb)).trans (hc (j * 3 + 2) (by have := HL.out; omega))
      rw [← Nat.add_assoc] at c1 c2
      have HT : Hid (Whole (l.getD (j * 3 + 1) 0)) := HWL.out _ (by have := HL.out; omega)
      have HX : Hid (Whole (l.getD (j * 3 + 2) 0)) := HWL.out _ (by have := HL.out; omega)
      generalize l.getD (j * 3) 0 = bin at *
      generalize l.getD (j * 3 + 1) 0 = t at *
      generalize l.getD (j * 3 + 2) 0 = x at *
      clear hb hc hlt hj
      obtain ⟨Wx, hWx⟩ : ∃ W, wr.alloc (.cells #[.int .i64 bin, .int .i64 t, .int .i64 x] 38) = W := ⟨_, rfl⟩
      obtain ⟨xv, kx, sx⟩ := AtM.newS wr bin t x _ hWx
      have HXV := Lib.hid xv
      have HSX := Lib.hid sx
      have HKX := Lib.hid kx
      clear xv sx kx
      have HRLT := Lib.hid KR.out.lt
      obtain ⟨vx, hvx⟩ : ∃ v, wr.heap.size = v := ⟨_, rfl⟩
      have HVX := Lib.hid hvx
      clear hvx
      go_upto_region 11 with fail
      clear hWx c0 c1 c2
      replace KA := Lib.hid (KA.out.below HKX.out)
      replace KF := Lib.hid (KF.out.below HKX.out)
      replace KR := Lib.hid (KR.out.below HKX.out)
      have HLTX : Hid (vR < vx) := by
        show _ < _
        rw [← HVX.out]
        exact HRLT.out
      replace HB := Lib.hid (HB.out.trans (HKX.out.mono HB.out.size))
      rw [HVX.out] at HXV
      try rw [HVX.out]
      obtain ⟨x0, x1, x2⟩ : Wx.cell? ⟨vx, 0, none⟩ = some (.int .i64 bin) ∧ Wx.cell? ⟨vx, 1, none⟩ = some (.int .i64 t) ∧ Wx.cell? ⟨vx, 2, none⟩ = some (.int .i64 x) := ⟨HXV.out.c0, HXV.out.c1, HXV.out.c2⟩
      have HNN : Hid (n ≤ 1048576) := by show _ ≤ _; have := HL.out; omega
      by_cases t1 : 1048576 < t
      · clear x0
        go_wp2_with fail
        go_roundw
        case rel => exact ⟨j + 1, dA, dF, dR, HLT.out, (by first | exact congrArg (Value.int .i64) (next_num HLT.out HNN.out).1 | exact congrArg (Value.int .i64) (Int.natCast_succ j).symm), KA.out, KF.out, KR.out, HI.out.more (by omega), HLEN.out, HB.out⟩
        case measure => first | exact (next_num HLT.out HNN.out).2 | (have := HLT.out; simp only [intOf]; omega)
      · by_cases t2 : t < -1048576
        · clear x0
          go_wp2_with fail
          go_roundw
          case rel => exact ⟨j + 1, dA, dF, dR, HLT.out, (by first | exact congrArg (Value.int .i64) (next_num HLT.out HNN.out).1 | exact congrArg (Value.int .i64) (Int.natCast_succ j).symm), KA.out, KF.out, KR.out, HI.out.more (by omega), HLEN.out, HB.out⟩
          case measure => first | exact (next_num HLT.out HNN.out).2 | (have := HLT.out; simp only [intOf]; omega)
        · by_cases t3 : 32768 < x
          · clear x0
            go_wp2_with fail
            go_roundw
            case rel => exact ⟨j + 1, dA, dF, dR, HLT.out, (by first | exact congrArg (Value.int .i64) (next_num HLT.out HNN.out).1 | exact congrArg (Value.int .i64) (Int.natCast_succ j).symm), KA.out, KF.out, KR.out, HI.out.more (by omega), HLEN.out, HB.out⟩
            case measure => first | exact (next_num HLT.out HNN.out).2 | (have := HLT.out; simp only [intOf]; omega)
          · have HTX := Lib.hid (And.intro t1 (And.intro t2 t3))
            have hcw : wrap64 cut = cut := by have := HCUT.out; unfold wrap64; omega
            by_cases t4 : cut ≤ (j : Int)
            · go_upto_region 15 with fail
              obtain ⟨n1, n2, n3⟩ := HI.out.rest (bin := bin) (t := t) (v := x) (by omega) (by have := HL.out; have := HLT.out; omega) (by have := HTX.out; omega) (by have := HTX.out; omega) (by have := HTX.out; omega)
              have nL := (bd_add HI.out.a (bin := bin) (t := t) (v := x) (by omega) (by have := HL.out; have := HLT.out; omega) (by have := HTX.out; omega) (by have := HTX.out; omega) (by have := HTX.out; omega)).2.2.2.2.2
              have HLEN2 : Hid ((addD dA bin t x).lc.length ≤ 65792 ∧ (addD dA bin t x).lm.length ≤ 771) := by rw [nL.1, nL.2.1]; exact HLEN.out
              have HI2 := Lib.hid n3
              obtain ⟨E, HE⟩ : ∃ E, Hid (addE dR bin t x = E) := ⟨_, rfl⟩
              have hA := fun w (k : Kept vA gA mA dA w) => add_any vA gA mA dA bin t x HT.out HX.out w k
              have hP := fun w (k : Kept vR gR mR dR w) => add_any vR gR mR dR bin t x HT.out HX.out w k
              unfold AddsP at hA hP
              rw [n1, HE.out] at hA
              rw [HE.out] at hP
              have e6 : (E == 6) = false := by rw [← HE.out]; simpa using n2
              clear n1 n2 n3 nL x0 x1 x2 hcw t1 t2 t3 t4
              have y0 := HXV.out.drew
              have kA := Lib.hid KA.out.drew
              have kP := Lib.hid KR.out.drew
              have kQ := Lib.hid KF.out.drew
              have hb := Lib.hid HB.out.drew
              have MARK : True := trivial
              go_region_held3 (fun w' => w'.cell? ⟨vx, 0, none⟩ = some (.int .i64 bin) ∧ w'.cell? ⟨vx, 1, none⟩ = some (.int .i64 t) ∧ w'.cell? ⟨vx, 2, none⟩ = some (.int .i64 x)) (first | exact ⟨y0.c0, y0.c1, y0.c2⟩ | exact ⟨HXV.out.c0, HXV.out.c1, HXV.out.c2⟩)
                (first
                  | (clear MARK; go_at_call 14; refine (hA _ kA.out).mono ?_; rintro e wq ⟨rfl, kA2, b1⟩; replace y0 := y0.but2 b1 (by have := HO.out; have := HLTX.out; omega) (by have := HO.out; have := HLTX.out; omega); replace kP := Lib.hid (kP.out.but2 b1 (by have := HO.out; omega) (by have := HO.out; omega) (by have := HO.out; omega) (by have := HO.out; omega) (by have := HO.out; omega) (by have := HO.out; omega)); replace kQ := Lib.hid (kQ.out.but2 b1 (by have := HO.out; omega) (by have := HO.out; omega) (by have := HO.out; omega) (by have := HO.out; omega) (by have := HO.out; omega) (by have := HO.out; omega)); replace hb := Lib.hid (hb.out.trans (b1.below (by have := HO.out; omega) (by have := HO.out; omega) hb.out.size)); replace kA2 := Lib.hid kA2; clear b1)
                  | (go_at_call 14; refine (hP _ kP.out).mono ?_; rintro e wq2 ⟨rfl, kP2, b2⟩; replace y0 := y0.but2 b2 (by have := HO.out; have := HLTX.out; omega) (by have := HO.out; have := HLTX.out; omega); replace kA2 := Lib.hid (kA2.out.but2 b2 (by have := HO.out; omega) (by have := HO.out; omega) (by have := HO.out; omega) (by have := HO.out; omega) (by have := HO.out; omega) (by have := HO.out; omega)); replace kQ := Lib.hid (kQ.out.but2 b2 (by have := HO.out; omega) (by have := HO.out; omega) (by have := HO.out; omega) (by have := HO.out; omega) (by have := HO.out; omega) (by have := HO.out; omega)); replace hb := Lib.hid (hb.out.trans (b2.below (by have := HO.out; omega) (by have := HO.out; omega) hb.out.size)); replace kP2 := Lib.hid kP2; clear b2))
              clear hA hP y0
              go_wp2_with fail
              go_roundw
              case rel => exact ⟨j + 1, addD dA bin t x, dF, addD dR bin t x, HLT.out, (by first | exact congrArg (Value.int .i64) (next_num HLT.out HNN.out).1 | exact congrArg (Value.int .i64) (Int.natCast_succ j).symm), kA2.out, kQ.out, kP2.out, HI2.out, HLEN2.out, hb.out⟩
              case measure => first | exact (next_num HLT.out HNN.out).2 | (have := HLT.out; simp only [intOf]; omega)
            · go_upto_region 15 with fail
              obtain ⟨n1, n2, n3⟩ := HI.out.first (bin := bin) (t := t) (v := x) (by omega) (by have := HL.out; have := HLT.out; omega) (by have := HTX.out; omega) (by have := HTX.out; omega) (by have := HTX.out; omega)
              have nL := (bd_add HI.out.a (bin := bin) (t := t) (v := x) (by omega) (by have := HL.out; have := HLT.out; omega) (by have := HTX.out; omega) (by have := HTX.out; omega) (by have := HTX.out; omega)).2.2.2.2.2
              have HLEN2 : Hid ((addD dA bin t x).lc.length ≤ 65792 ∧ (addD dA bin t x).lm.length ≤ 771) := by rw [nL.1, nL.2.1]; exact HLEN.out
              have HI2 := Lib.hid n3
              obtain ⟨E, HE⟩ : ∃ E, Hid (addE dF bin t x = E) := ⟨_, rfl⟩
              have hA := fun w (k : Kept vA gA mA dA w) => add_any vA gA mA dA bin t x HT.out HX.out w k
              have hP := fun w (k : Kept vF gF mF dF w) => add_any vF gF mF dF bin t x HT.out HX.out w k
              unfold AddsP at hA hP
              rw [n1, HE.out] at hA
              rw [HE.out] at hP
              have e6 : (E == 6) = false := by rw [← HE.out]; simpa using n2
              clear n1 n2 n3 nL x0 x1 x2 hcw t1 t2 t3 t4
              have y0 := HXV.out.drew
              have kA := Lib.hid KA.out.drew
              have kP := Lib.hid KF.out.drew
              have kQ := Lib.hid KR.out.drew
              have hb := Lib.hid HB.out.drew
              have MARK : True := trivial
              go_region_held3 (fun w' => w'.cell? ⟨vx, 0, none⟩ = some (.int .i64 bin) ∧ w'.cell? ⟨vx, 1, none⟩ = some (.int .i64 t) ∧ w'.cell? ⟨vx, 2, none⟩ = some (.int .i64 x)) (first | exact ⟨y0.c0, y0.c1, y0.c2⟩ | exact ⟨HXV.out.c0, HXV.out.c1, HXV.out.c2⟩)
                (first
                  | (clear MARK; go_at_call 14; refine (hA _ kA.out).mono ?_; rintro e wq ⟨rfl, kA2, b1⟩; replace y0 := y0.but2 b1 (by have := HO.out; have := HLTX.out; omega) (by have := HO.out; have := HLTX.out; omega); replace kP := Lib.hid (kP.out.but2 b1 (by have := HO.out; omega) (by have := HO.out; omega) (by have := HO.out; omega) (by have := HO.out; omega) (by have := HO.out; omega) (by have := HO.out; omega)); replace kQ := Lib.hid (kQ.out.but2 b1 (by have := HO.out; omega) (by have := HO.out; omega) (by have := HO.out; omega) (by have := HO.out; omega) (by have := HO.out; omega) (by have := HO.out; omega)); replace hb := Lib.hid (hb.out.trans (b1.below (by have := HO.out; omega) (by have := HO.out; omega) hb.out.size)); replace kA2 := Lib.hid kA2; clear b1)
                  | (go_at_call 14; refine (hP _ kP.out).mono ?_; rintro e wq2 ⟨rfl, kP2, b2⟩; replace y0 := y0.but2 b2 (by have := HO.out; have := HLTX.out; omega) (by have := HO.out; have := HLTX.out; omega); replace kA2 := Lib.hid (kA2.out.but2 b2 (by have := HO.out; omega) (by have := HO.out; omega) (by have := HO.out; omega) (by have := HO.out; omega) (by have := HO.out; omega) (by have := HO.out; omega)); replace kQ := Lib.hid (kQ.out.but2 b2 (by have := HO.out; omega) (by have := HO.out; omega) (by have := HO.out; omega) (by have := HO.out; omega) (by have := HO.out; omega) (by have := HO.out; omega)); replace hb := Lib.hid (hb.out.trans (b2.below (by have := HO.out; omega) (by have := HO.out; omega) hb.out.size)); replace kP2 := Lib.hid kP2; clear b2))
              clear hA hP y0
              go_wp2_with fail
              go_roundw
              case rel => exact ⟨j + 1, addD dA bin t x, addD dF bin t x, dR, HLT.out, (by first | exact congrArg (Value.int .i64) (next_num HLT.out HNN.out).1 | exact congrArg (Value.int .i64) (Int.natCast_succ j).symm), kA2.out, kP2.out, kQ.out, HI2.out, HLEN2.out, hb.out⟩
              case measure => first | exact (next_num HLT.out HNN.out).2 | (have := HLT.out; simp only [intOf]; omega)
    · obtain rfl : n = j := by omega
      obtain ⟨mE, mD⟩ := HI.out.merged (by omega) (by have := HL.out; omega)
      obtain ⟨lE, lD⟩ := HI.out.left (by omega) (by have := HL.out; omega)
      have HLR : Hid (dR.lc.length ≤ 65792 ∧ dR.lm.length ≤ 771) := by have := HI.out.s.rl; have := HI.out.s.rm; have := HLEN.out; show _ ∧ _; omega
      obtain ⟨acA, ncA, ccA, amA, nmA, cmA, hvA, rA⟩ := KA.out.read
      obtain ⟨acF, ncF, ccF, amF, nmF, cmF, hvF, rF⟩ := KF.out.read
      obtain ⟨acR, ncR, ccR, amR, nmR, cmR, hvR, rR⟩ := KR.out.read
      have xA : HV vA dA acA ncA ccA amA nmA cmA wr := ⟨hvA, rA⟩
      have xF : HV vF dF acF ncF ccF amF nmF cmF wr := ⟨hvF, rF⟩
      have xR : HV vR dR acR ncR ccR amR nmR cmR wr := ⟨hvR, rR⟩
      replace xA := Lib.hid xA
      replace xF := Lib.hid xF
      replace xR := Lib.hid xR
      have hm := merge_any dF dR acF amF acR amR ncF ccF nmF cmF ncR ccR nmR cmR wr rF rR
      rw [mE, mD] at hm
      have hless := fun w (h : Reads dA acA ncA amA nmA w) (h' : Reads dF acF ncF amF nmF w) => less_any dA dF acA amA acF amF ncA ccA nmA cmA ncF ccF nmF cmF w h h'
      rw [lE, lD] at hless
      obtain ⟨mA', HMA⟩ : ∃ d, Hid (d = dA) := ⟨_, rfl⟩
      obtain ⟨mR', HMR⟩ : ∃ d, Hid (d = dR) := ⟨_, rfl⟩
      rw [← HMA.out] at hm
      rw [← HMR.out] at hless
      clear mE mD lE lD hvA hvF hvR rA rF rR hlt KA KF KR
      obtain ⟨p0, p1, p2, p3, p4⟩ := xF.out.v.five
      obtain ⟨q0, q1, q2, q3, q4⟩ := xR.out.v.five
      go_wp2_with fail
      refine hm.mono ?_
      rintro e Vm ⟨v, rfl, ⟨acm, ncm, ccm, amm, nmm, cmm, rfl, rm, _⟩, cm⟩
      clear p0 p1 p2 p3 p4 q0 q1 q2 q3 q4 hm
      obtain ⟨Wm, hWm⟩ : ∃ W, Vm.alloc (.cells #[.int .i64 mA'.k, .int .i64 mA'.b, .int .i64 mA'.c, .slice acm ncm ccm, .slice amm nmm cmm] 29) = W := ⟨_, rfl⟩
      obtain ⟨xm, km, _⟩ := HV.new rm hWm
      have c2 := Lib.hid (cm.trans (km.mono cm.size))
      replace xm := Lib.hid xm
      clear rm cm km
      obtain ⟨om, hbm⟩ : ∃ n, Vm.heap.size = n := ⟨_, rfl⟩
      rw [hbm] at xm
      go_upto_region 20 with fail
      clear hWm hbm
      replace xA := Lib.hid (xA.out.below c2.out)
      replace xF := Lib.hid (xF.out.below c2.out)
      replace xR := Lib.hid (xR.out.below c2.out)
      replace HB := Lib.hid (HB.out.trans (c2.out.mono HB.out.size))
      clear c2
      have hm := hless Wm xA.out.r xF.out.r
      clear hless
      obtain ⟨p0, p1, p2, p3, p4⟩ := xA.out.v.five
      obtain ⟨q0, q1, q2, q3, q4⟩ := xF.out.v.five
      go_wp2_with fail
      refine hm.mono ?_
      rintro e Vr ⟨v, rfl, ⟨acr, ncr, ccr, amr, nmr, cmr, rfl, rr, _⟩, cr⟩
      clear p0 p1 p2 p3 p4 q0 q1 q2 q3 q4 hm
      obtain ⟨Wr, hWr⟩ : ∃ W, Vr.alloc (.cells #[.int .i64 mR'.k, .int .i64 mR'.b, .int .i64 mR'.c, .slice acr ncr ccr, .slice amr nmr cmr] 29) = W := ⟨_, rfl⟩
      obtain ⟨xr, kr, _⟩ := HV.new rr hWr
      have c2 := Lib.hid (cr.trans (kr.mono cr.size))
      replace xr := Lib.hid xr
      clear rr cr kr
      obtain ⟨or_, hbr⟩ : ∃ n, Vr.heap.size = n := ⟨_, rfl⟩
      rw [hbr] at xr
      go_upto_region 21 with fail
      clear hWr hbr
      replace xA := Lib.hid (xA.out.below c2.out)
      replace xR := Lib.hid (xR.out.below c2.out)
      replace xm := Lib.hid (xm.out.below c2.out)
      replace HB := Lib.hid (HB.out.trans (c2.out.mono HB.out.size))
      clear c2 xF
      go_wp2_with fail
      refine (fixed_any _).mono ?_
      rintro e W7 ⟨rfl, c7⟩
      replace HB := Lib.hid (HB.out.trans (c7.mono HB.out.size))
      replace xA := Lib.hid (xA.out.below c7)
      replace xR := Lib.hid (xR.out.below c7)
      replace xm := Lib.hid (xm.out.below c7)
      replace xr := Lib.hid (xr.out.below c7)
      clear c7
      obtain ⟨p0, p1, p2, p3, p4⟩ := xm.out.v.five
      obtain ⟨q0, q1, q2, q3, q4⟩ := xA.out.v.five
      have hs := same_any mA' dA acm amm acA amA ncm ccm nmm cmm ncA ccA nmA cmA W7 xm.out.r xA.out.r (by have := xm.out.r.nc; rw [HMA.out] at this; have := HLEN.out; omega) (by have := xm.out.r.nm; rw [HMA.out] at this; have := HLEN.out; omega)
      rw [show sameD mA' dA = true by rw [HMA.out]; exact sameD_refl dA] at hs
      go_wp2_with fail
      refine hs.mono ?_
      rintro e W8 ⟨rfl, c8⟩
      replace HB := Lib.hid (HB.out.trans (c8.mono HB.out.size))
      replace xR := Lib.hid (xR.out.below c8)
      replace xr := Lib.hid (xr.out.below c8)
      clear p0 p1 p2 p3 p4 q0 q1 q2 q3 q4 hs c8
      obtain ⟨p0, p1, p2, p3, p4⟩ := xr.out.v.five
      obtain ⟨q0, q1, q2, q3, q4⟩ := xR.out.v.five
      have hs := same_any mR' dR acr amr acR amR ncr ccr nmr cmr ncR ccR nmR cmR W8 xr.out.r xR.out.r (by have := xr.out.r.nc; rw [HMR.out] at this; have := HLR.out; omega) (by have := xr.out.r.nm; rw [HMR.out] at this; have := HLR.out; omega)
      rw [show sameD mR' dR = true by rw [HMR.out]; exact sameD_refl dR] at hs
      go_wp2_with fail
      refine hs.mono ?_
      rintro e W9 ⟨rfl, c9⟩
      replace HB := Lib.hid (HB.out.trans (c9.mono HB.out.size))
      clear p0 p1 p2 p3 p4 q0 q1 q2 q3 q4 hs c9
      go_wp2_with fail
      go_ret
      exact ⟨rfl, HB.out⟩
end Go.Proofs.Ytdpcplhmnpglgaa
