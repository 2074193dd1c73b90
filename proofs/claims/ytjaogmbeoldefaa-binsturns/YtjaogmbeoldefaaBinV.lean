/-
  TURN: the matrix with a column turned, in a row of the call's own. Condition: at most 2^20 cells and numbers.
-/
import Derived.Test.YtjaogmbeoldefaaBinT
namespace Go.Proofs.Ytjaogmbeoldefaa
open Go.RowKit

/-- A turned matrix is handed back. -/
def GotT (e : Ending) (w : World) (B : Nat) (r q : Int) (n : Nat) (D : List Int) : Prop := ∃ a c, e = .returned (.tuple #[mx r q (.slice a n c), .int .i64 0]) ∧ D.length = n ∧ n ≤ c ∧ (a = none → c = 0) ∧ (D = [] ∨ ∃ g, a = some ⟨g, 0, none⟩ ∧ B ≤ g ∧ Lst KW g 0 D w)

theorem permB_is {p : List Int} {r : Nat} (h : permB p (r : Int) = true) : p.length = r ∧ PermL p := by
  obtain ⟨h1, h2⟩ := of_decide_eq_true h
  exact ⟨by omega, h2⟩

set_option maxRecDepth 20000 in
set_option maxHeartbeats 2000000 in
theorem turnM_zero (q j : Nat) (a aP : Option Addr) (c nP cP : Nat) (p : List Int) (hP : p.length = nP) (h64 : In64s p) (hq : q ≤ 16777216) (hj : j < q) (hg : permB p 0 = true) (ha : a = none → c = 0) (w : World) (hp : HoldsE KN w aP p) :
    Calls Try.prog 24 #[mx 0 q (.slice a 0 c), .int .i64 (j : Int), .slice aP nP cP] w fun e w' => GotT e w' w.heap.size 0 q 0 [] ∧ Below w.heap.size w w' := by
  have hf : fitB 0 (q : Int) ((0 : Nat) : Int) = true := decide_eq_true ⟨by omega, by omega, by simp⟩
  have hP0 := (permB_is (r := 0) hg).1
  obtain rfl : nP = 0 := by omega
  have HB1 := lay3_below w 0 q (.slice a 0 c)
  have HM1 := lay3_m w 0 q (.slice a 0 c)
  have HB2 := lay3_below (lay3 w 0 q (.slice a 0 c)) 0 0 (.slice none 0 0)
  have HM2 := lay3_m (lay3 w 0 q (.slice a 0 c)) 0 0 (.slice none 0 0)
  have hs1 := lay3_size w 0 q (.slice a 0 c)
  have HM := HM1.on HB2
  have HB := HB1.trans (HB2.mono HB1.size)
  rw [hs1] at HM2
  clear HB1 HM1 HB2 hs1
  unfold mx at *
  go_enter Try.func24, Try.ntmps24
  go_wp2_with fail
  change Calls _ _ _ (lay3 (lay3 w 0 q (.slice a 0 c)) 0 0 (.slice none 0 0)) _
  generalize lay3 (lay3 w 0 q (.slice a 0 c)) 0 0 (.slice none 0 0) = w0 at *
  obtain ⟨N, hN⟩ : ∃ N, w.heap.size = N := ⟨_, rfl⟩
  have HNN := Lib.hid hN
  have hNw : w.heap.size ≤ N := Nat.le_of_eq hN
  rw [hN] at HM HM2 ⊢
  clear hN
  have c1 := within_any j q w0
  have c2 := rightM_any 0 q a 0 c w0
  unfold mx at c2
  rw [hf] at c2
  rw [decide_eq_true (by omega)] at c1
  have hp0 := hp.below HB
  refine c1.mono ?_
  rintro e w' ⟨rfl, rfl⟩
  have m0 := HM.c0
  have m1 := HM.c1
  have m2 := HM.c2
  have HB0 := Lib.hid HB
  have HN0 := Lib.hid hNw
  have HP := Lib.hid (And.intro hP (And.intro hP0 hj))
  clear c1 hf hP hP0 hj hq HB hNw
  go_wp2_with fail
  refine c2.mono ?_
  rintro e w1 ⟨rfl, b1⟩
  have A1 := HM.on b1
  have R1 := HM2.on b1
  have HB1 := Lib.hid (HB0.out.trans (b1.mono HB0.out.size))
  have c3 := permutes_any aP 0 cP p HP.out.1 (by decide) h64 0 w1 (hp0.below b1)
  rw [hg] at c3
  clear m0 m1 m2 c2 b1 HM HM2 hp0 hp hg h64
  have m0 := A1.c0
  go_wp2_with fail
  refine c3.mono ?_
  rintro e w2 ⟨rfl, b2⟩
  have A2 := A1.on b2
  have R2 := R1.on b2
  have HB2 := Lib.hid (HB1.out.trans (b2.mono HB1.out.size))
  have c4 := cloneW_any a 0 c [] rfl (by decide) ha w2 (.inl rfl)
  clear m0 c3 b2 A1 R1
  have m0 := A2.c0
  have m2 := A2.c2
  go_wp2_with fail
  refine c4.mono ?_
  rintro e w3 ⟨⟨v, rfl, ov⟩, b3⟩
  have A3 := A2.on b3
  have R3 := R2.on b3
  have HB3 := Lib.hid (HB2.out.trans (b3.mono HB2.out.size))
  obtain ⟨av, cv, rfl, hvn, hvc, _, _⟩ := ov.holds
  have HR2 := Lib.hid R2.lt
  have HVC := Lib.hid (And.intro hvn hvc)
  rw [List.length_nil] at *
  clear m0 m2 c4 b3 A2 R2 ov hvn hvc
  have m0 := A3.c0
  have m1 := A3.c1
  have m2 := A3.c2
  have hw0 : wrap64 ((j : Int) * 0) = 0 := by rw [Int.mul_zero]; unfold wrap64; omega
  go_wp2_with fail
  have R3' := R3
  obtain ⟨_, r0, r1, r2, rf0, rf1, rf2⟩ := R3
  refine wp_loop_rounds 1 ?_
  rw [rounds_succ]
  go_wp2_with fail
  change bodyPost _ _ _ _ _ (put3 w3 (N + 1) 0 (q : Int) (.slice av 0 cv))
  obtain ⟨k1, k2⟩ := put3_facts R3' 0 (q : Int) (.slice av 0 cv)
  have HB4 := HB3.out.trans (k2.below (by have := HN0.out; omega) HB3.out.size)
  obtain ⟨_, j0, j1, j2, _, _, _⟩ := k1
  generalize put3 w3 (N + 1) 0 (q : Int) (.slice av 0 cv) = w9 at *
  refine bodyPost_ret (v := .tuple #[mx 0 (q : Int) (.slice av 0 cv), .int .i64 0]) (by simp [mx, results, Try.results24, go_sem, j0, j1, j2]) rfl ?_
  exact ⟨⟨av, cv, rfl, rfl, HVC.out.2, HVC.out.1, .inl rfl⟩, HB4⟩

set_option maxRecDepth 20000 in
set_option maxHeartbeats 2000000 in
theorem turnM_pos (r q j n : Nat) (a aP : Option Addr) (c nP cP : Nat) (C p : List Int) (hC : C.length = n) (hn : n ≤ 1048570) (hP : p.length = nP) (h64 : In64s p) (hf : fitB r q n = true) (hj : j < q) (hg : permB p r = true) (hr : 0 < r) (hcc : n ≤ c) (w : World) (hw : HoldsE KW w a C) (hp : HoldsE KN w aP p) :
    Calls Try.prog 24 #[mx r q (.slice a n c), .int .i64 (j : Int), .slice aP nP cP] w fun e w' => GotT e w' w.heap.size r q n (turnL C r j p) ∧ Below w.heap.size w w' := by
  have hrq : r * q = n := by
    have := (of_decide_eq_true hf).2.2
    rw [← Int.natCast_mul] at this
    omega
  obtain ⟨hP0, hperm⟩ := permB_is hg
  obtain rfl : nP = r := by omega
  have hix := idx_lt hrq hr hj
  have HCHK := Lib.hid hperm.chk
  have hPb : nP ≤ 1048576 := by omega
  obtain ⟨ga, oa, rfl, hga, hrowa⟩ := hw.at (show 0 < C.length by omega)
  obtain ⟨gp, op, rfl, hgp, hrowp⟩ := hp.at (show 0 < p.length by omega)
  have HROWA := Lib.hid hrowa
  have HROWP := Lib.hid hrowp
  have HB1 := lay3_below w nP q (.slice (some ⟨ga, oa, none⟩) n c)
  have HM1 := lay3_m w nP q (.slice (some ⟨ga, oa, none⟩) n c)
  have HB2 := lay3_below (lay3 w nP q (.slice (some ⟨ga, oa, none⟩) n c)) 0 0 (.slice none 0 0)
  have HM2 := lay3_m (lay3 w nP q (.slice (some ⟨ga, oa, none⟩) n c)) 0 0 (.slice none 0 0)
  have hs1 := lay3_size w nP q (.slice (some ⟨ga, oa, none⟩) n c)
  have HM := HM1.on HB2
  have HB := HB1.trans (HB2.mono HB1.size)
  rw [hs1] at HM2
  clear HB1 HM1 HB2 hs1
  unfold mx at *
  go_enter Try.func24, Try.ntmps24
  go_wp2_with fail
  change Calls _ _ _ (lay3 (lay3 w nP q (.slice (some ⟨ga, oa, none⟩) n c)) 0 0 (.slice none 0 0)) _
  generalize lay3 (lay3 w nP q (.slice (some ⟨ga, oa, none⟩) n c)) 0 0 (.slice none 0 0) = w0 at *
  obtain ⟨N, hN⟩ : ∃ N, w.heap.size = N := ⟨_, rfl⟩
  have HNN := Lib.hid hN
  have hNw : w.heap.size ≤ N := Nat.le_of_eq hN
  rw [hN] at HM HM2 ⊢
  clear hN
  have c1 := within_any j q w0
  have c2 := rightM_any nP q (some ⟨ga, oa, none⟩) n c w0
  unfold mx at c2
  rw [hf] at c2
  rw [decide_eq_true (by omega)] at c1
  have hp0 := hp.below HB
  have hw0 := hw.below HB
  refine c1.mono ?_
  rintro e w' ⟨rfl, rfl⟩
  have m0 := HM.c0
  have m1 := HM.c1
  have m2 := HM.c2
  have HB0 := Lib.hid HB
  have HN0 := Lib.hid hNw
  have HPP := Lib.hid (And.intro hP (And.intro hPb (And.intro hC (And.intro hn (And.intro hrq (And.intro hj (And.intro hr hcc)))))))
  have HIX := Lib.hid hix
  have HGA := Lib.hid hga
  have HGP := Lib.hid hgp
  clear c1 hf hP hP0 hj HB hNw hPb hC hn hrq hr hix hperm hrowa hrowp hga hgp hw hp hcc
  go_wp2_with fail
  refine c2.mono ?_
  rintro e w1 ⟨rfl, b1⟩
  have A1 := HM.on b1
  have R1 := HM2.on b1
  have HB1 := Lib.hid (HB0.out.trans (b1.mono HB0.out.size))
  have hw1 := hw0.below b1
  have c3 := permutes_any (some ⟨gp, op, none⟩) nP cP p HPP.out.1 HPP.out.2.1 h64 nP w1 (hp0.below b1)
  rw [hg] at c3
  clear m0 m1 m2 c2 b1 HM HM2 hp0 hw0 hg h64
  have m0 := A1.c0
  go_wp2_with fail
  refine c3.mono ?_
  rintro e w2 ⟨rfl, b2⟩
  have A2 := A1.on b2
  have R2 := R1.on b2
  have HB2 := Lib.hid (HB1.out.trans (b2.mono HB1.out.size))
  have c4 := cloneW_any (some ⟨ga, oa, none⟩) n c C HPP.out.2.2.1 HPP.out.2.2.2.1 (fun h => by cases h) w2 (hw1.below b2)
  clear m0 c3 b2 A1 R1 hw1
  have m0 := A2.c0
  have m2 := A2.c2
  go_wp2_with fail
  refine c4.mono ?_
  rintro e w3 ⟨⟨v, rfl, ov⟩, b3⟩
  have A3 := A2.on b3
  have R3 := R2.on b3
  have HB3 := Lib.hid (HB2.out.trans (b3.mono HB2.out.size))
  have HR2 := Lib.hid R2.lt
  obtain ⟨h0, h1⟩ | ⟨G, cv, rfl, hG, hcv, hcv2, hL⟩ := ov.lst
  · have h2 : C.length = 0 := by rw [h1]; rfl
    have := HPP.out.2.2.1
    have := HIX.out.1
    omega
  rw [HPP.out.2.2.1] at hcv ov ⊢
  have HL := Lib.hid hL
  have HG := Lib.hid hG
  have HCV := Lib.hid hcv
  clear m0 m2 c4 b3 A2 R2 hL hG
  have m0 := A3.c0
  have m1 := A3.c1
  have m2 := A3.c2
  have HK := Lib.hid (idx_wrap HPP.out.2.2.2.2.1 HPP.out.2.2.2.2.2.2.1 HPP.out.2.2.2.2.2.1 (by have := HPP.out.2.2.2.1; omega)).1
  have hmn := HIX.out.2
  have hr0 := HPP.out.2.2.2.2.2.2.1
  have hcc := HPP.out.2.2.2.2.2.2.2
  obtain ⟨m, hm⟩ : ∃ m, j * nP = m := ⟨_, rfl⟩
  have HMM := Lib.hid hm
  rw [hm] at hmn HK
  have i1 : (m : Int) ≤ (n : Int) := by omega
  have i2 : (m : Int) ≤ (c : Int) := by omega
  have i3 : ¬ c = m := by omega
  have i4 : ¬ n < m := by omega
  have i5 : (n : Int) ≤ (c : Int) := by omega
  have k1 := HK.out
  clear hm hmn hr0 hcc hcv hcv2 ov
  go_wp2_with fail
  obtain ⟨l1, hl1⟩ : ∃ l1, n - m = l1 := ⟨_, rfl⟩
  have HL1 : Hid (nP ≤ l1 ∧ m + l1 = n) := by
    have h1 := HIX.out.2
    have h2 := HMM.out
    show _ ∧ _
    omega
  rw [hl1]
  clear hl1 i1 i2 i3 i4 i5 m0 m1 m2 HK
  have HWB := Lib.hid HB2.out.size
  go_loopw [42] (fun v wr => ∃ k : Nat, v = .int .i64 (k : Int) ∧ k ≤ nP ∧ Lst KW G 0 (turnTo C m p k) wr ∧ M3 N nP q (.slice (some ⟨ga, oa, none⟩) n c) wr ∧ M3 (N + 1) 0 0 (.slice none 0 0) wr ∧ Below w.heap.size w wr) (fun v _ => nP - (intOf v).toNat)
  case atStart => exact ⟨0, rfl, by omega, by rw [turnTo_zero]; exact HL.out, A3, R3, HB3.out⟩
  case round =>
    obtain ⟨k, rfl, hk, hL, hA, hR, hB⟩ := hrel
    clear A3 R3 HB3 HL HB0 HB1 HB2
    by_cases hlt : k < nP
    · have hkp : k < p.length := by rw [HPP.out.1]; exact hlt
      have hx := (HCHK.out k (by rw [HPP.out.1]; exact hlt)).1
      obtain ⟨x, HX⟩ : ∃ x : Nat, Hid (p.getD k 0 = (x : Int)) := ⟨(p.getD k 0).toNat, by show _ = _; omega⟩
      rw [HX.out, HPP.out.1] at hx
      have cp : wr.cell? ⟨gp, op + k, none⟩ = some (.int .i64 (x : Int)) := by rw [← HX.out]; exact (hB.cell (by exact HGP.out)).trans (HROWP.out k hkp)
      have hmn : m + l1 = n := HL1.out.2
      have hpl : nP ≤ l1 := HL1.out.1
      have hcl := HPP.out.2.2.1
      obtain ⟨z, HZ⟩ : ∃ z, Hid (C.getD (m + x) 0 = z) := ⟨_, rfl⟩
      have ca : wr.cell? ⟨ga, oa + m + x, none⟩ = some (.int .u16 z) := by
        rw [← HZ.out, Nat.add_assoc]; exact (hB.cell (by exact HGA.out)).trans (HROWA.out (m + x) (by omega))
      have HS := turnTo_step C m p k (by omega)
      rw [HX.out, Int.toNat_natCast, HZ.out] at HS
      have hST := hL.set (m + k) z (by rw [turnTo_len]; omega)
      rw [HS] at hST
      have HST : Hid (Lst KW G 0 (turnTo C m p (k + 1)) (wr.setCell ⟨G, 0 + (m + k), none⟩ (.int .u16 z))) := hST
      have ct := hL.cell (m + k) (by rw [turnTo_len]; omega)
      have ft := hL.frozen (m + k) (by rw [turnTo_len]; omega)
      have bt := But.setCell G (0 + (m + k)) wr (.int .u16 z)
      have hgl := HG.out
      have hr2 := HR2.out
      have HA' := Lib.hid (hA.but bt (by omega))
      have HR' := Lib.hid (hR.but bt (by omega))
      have HB' := Lib.hid (hB.trans (bt.below (B := w.heap.size) (by have := HWB.out; omega) hB.size))
      obtain ⟨y, HY⟩ : ∃ y, (turnTo C m p k).getD (m + k) KW.z = y := ⟨_, rfl⟩
      rw [HY] at ct
      have ct : wr.cell? ⟨G, 0 + (m + k), none⟩ = some (.int .u16 y) := ct
      obtain ⟨mk, hmk⟩ : ∃ mk, m + k = mk := ⟨_, rfl⟩
      have w2 : Hid (wrap64 ((m : Int) + (k : Int)) = (mk : Int)) := by
        have := HPP.out.2.2.2.1
        show wrap64 _ = _
        unfold wrap64
        omega
      rw [hmk] at ct ft HST HA' HR' HB'
      have j1 : (k : Int) < (nP : Int) := by omega
      have j2 : (x : Int) < (l1 : Int) := by omega
      have j3 : (mk : Int) < (n : Int) := by omega
      have j4 : (0 : Int) ≤ (mk : Int) := by omega
      have j5 : (0 : Int) ≤ (x : Int) := by omega
      have HU := Lib.hid (up_is hlt (show nP ≤ 16777216 by have := HPP.out.2.1; omega))
      have HV := Lib.hid (up_less hlt (show nP ≤ 16777216 by have := HPP.out.2.1; omega))
      have HLT := Lib.hid hlt
      have e0 := hA.c0
      clear HS hST HY bt hmk hgl hr2 hmn hpl hcl hx hkp hlt hk hL hA hR hB
      rw [Nat.zero_add] at *
      have ww := w2.out
      go_wp2_with fail
      go_region
      go_wp2_with fail
      go_roundw
      case rel => exact ⟨k + 1, HU.out, HLT.out, HST.out.drew, HA'.out.drew, HR'.out.drew, HB'.out.drew⟩
      case measure => exact HV.out
    · obtain rfl : nP = k := by omega
      have HT : Hid (turnL C nP j p = turnTo C m p nP) := by show _ = _; unfold turnL; rw [HMM.out]
      have hm0 := hA.c0
      have hm1 := hA.c1
      have hR3 := hR
      obtain ⟨_, r0, r1, r2, rf0, rf1, rf2⟩ := hR
      have HBB := Lib.hid hB
      have HLL := Lib.hid hL
      clear hlt hk hA hB hL
      go_wp2_with fail
      change bodyPost _ _ _ _ _ (put3 wr (N + 1) nP q (.slice (some ⟨G, 0, none⟩) n cv))
      obtain ⟨k1, k2⟩ := put3_facts hR3 nP q (.slice (some ⟨G, 0, none⟩) n cv)
      have HB4 := HBB.out.trans (k2.below (by have := HN0.out; omega) HBB.out.size)
      have HL4 := HLL.out.but k2 (by have := HG.out; have := HR2.out; omega)
      obtain ⟨_, j0, j1, j2, _, _, _⟩ := k1
      generalize put3 wr (N + 1) nP q (.slice (some ⟨G, 0, none⟩) n cv) = w9 at *
      refine bodyPost_ret (v := .tuple #[mx nP q (.slice (some ⟨G, 0, none⟩) n cv), .int .i64 0]) (by simp [mx, results, Try.results24, go_sem, j0, j1, j2]) rfl ?_
      exact ⟨⟨_, cv, rfl, by rw [turnL_len]; exact HPP.out.2.2.1, HCV.out, (fun h => by cases h), .inr ⟨G, rfl, Nat.le_trans HWB.out HG.out, by rw [HT.out]; exact HL4⟩⟩, HB4⟩
end Go.Proofs.Ytjaogmbeoldefaa
