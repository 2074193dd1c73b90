/-
  HistBounds: its walk. Conditions: as the law asks; else it is the chapter's example.
-/
import Derived.Test.YtdpcplhmnpglgaaHisL
namespace Go.Proofs.Ytdpcplhmnpglgaa
open Go.RowKit

theorem mul_in {a b A B : Int} (h1 : -A ≤ a) (h2 : a ≤ A) (h3 : -B ≤ b) (h4 : b ≤ B) : -(A * B) ≤ a * b ∧ a * b ≤ A * B := by
  have p1 := Int.mul_nonneg (show 0 ≤ A - a by omega) (show 0 ≤ B + b by omega)
  have p2 := Int.mul_nonneg (show 0 ≤ A + a by omega) (show 0 ≤ B - b by omega)
  have p3 := Int.mul_nonneg (show 0 ≤ A - a by omega) (show 0 ≤ B - b by omega)
  have p4 := Int.mul_nonneg (show 0 ≤ A + a by omega) (show 0 ≤ B + b by omega)
  simp only [Int.sub_mul, Int.add_mul, Int.mul_sub, Int.mul_add] at p1 p2 p3 p4
  omega

/-- So many targets. -/
def bL (R t : Int) : List Int := [R, R * t, R * t * t]
theorem bound_num (R t v : Int) (h0 : 0 ≤ R) (h1 : 0 ≤ v) (h2 : R + v ≤ 1048576) (h3 : -1048576 ≤ t) (h4 : t ≤ 1048576) :
    addE ⟨1, 1, 0, [], bL R t⟩ 0 t v = 0 ∧ addD ⟨1, 1, 0, [], bL R t⟩ 0 t v = ⟨1, 1, 0, [], bL (R + v) t⟩ := by
  have e1 : R * t + t * v = (R + v) * t := by rw [Int.add_mul, Int.mul_comm t v]
  have e2 : R * t * t + t * (t * v) = (R + v) * t * t := by rw [Int.add_mul, Int.add_mul, Int.mul_comm t (t * v), Int.mul_comm t v]
  have m1 := mul_in (a := t) (b := v) (A := 1048576) (B := 1048576) h3 h4 (by omega) (by omega)
  have m2 := mul_in (a := t) (b := t * v) (A := 1048576) (B := 1099511627776) h3 h4 (by omega) (by omega)
  have m3 := mul_in (a := R + v) (b := t) (A := 1048576) (B := 1048576) (by omega) h2 h3 h4
  have m4 := mul_in (a := (R + v) * t) (b := t) (A := 1099511627776) (B := 1048576) (by omega) (by omega) h3 h4
  have f0 : -9223372036854775808 ≤ R + v ∧ R + v < 9223372036854775808 := by omega
  have f1 : -9223372036854775808 ≤ t * v ∧ t * v < 9223372036854775808 := by omega
  have f2 : -9223372036854775808 ≤ t * (t * v) ∧ t * (t * v) < 9223372036854775808 := by omega
  have f3 : -9223372036854775808 ≤ (R + v) * t ∧ (R + v) * t < 9223372036854775808 := by omega
  have f4 : -9223372036854775808 ≤ (R + v) * t * t ∧ (R + v) * t * t < 9223372036854775808 := by omega
  have hr : rightD ⟨1, 1, 0, [], bL R t⟩ = true := by simp [rightD, lenC, lenM, bL]
  have hE : adE t v R (R * t) (R * t * t) = 0 := by
    unfold adE plE
    rw [if_pos (fitE_yes f1), if_pos (fitE_yes f2), e1, e2, fitE_yes f0, fitE_yes f3, fitE_yes f4]
    rfl
  have hA : addE ⟨1, 1, 0, [], bL R t⟩ 0 t v = 0 := by
    unfold addE
    rw [hr, if_neg (by decide), if_neg (by show ¬ ((0 : Int) < 0 ∨ (1 : Int) ≤ 0); decide), if_neg (by show ¬ ((1 : Int) = 0 ∧ _); omega), if_neg (by omega), if_pos rfl]
    exact hE
  refine ⟨hA, ?_⟩
  unfold addD
  rw [if_neg (by rw [hA]; decide), if_pos rfl]
  show (⟨1, 1, 0, [], [plV R v, plV (R * t) (t * v), plV (R * t * t) (t * (t * v))]⟩ : HD) = _
  unfold plV bL
  rw [e1, e2, fitV_yes f0, fitV_yes f3, fitV_yes f4]

theorem bounds_great (t : Int) (n c : Nat) (a : Option Addr) (h : t < -1048576 ∨ 1048576 < t ∨ 50 < n) (w : World) :
    Calls Try.prog 7 #[.int .i64 t, .slice a n c] w fun e w' => e = .returned (.bool true) ∧ Below w.heap.size w w' := by
  have hF := fixed_any w
  by_cases h1 : 1048576 < t
  · clear h
    go_enter Try.func7, Try.ntmps7
    go_wp2_with fail
    refine hF.mono ?_
    rintro e w' ⟨rfl, c⟩
    go_wp2_with fail
    go_ret
    exact ⟨rfl, c⟩
  · by_cases h2 : t < -1048576
    · clear h
      go_enter Try.func7, Try.ntmps7
      go_wp2_with fail
      refine hF.mono ?_
      rintro e w' ⟨rfl, c⟩
      go_wp2_with fail
      go_ret
      exact ⟨rfl, c⟩
    · have h3 : (50 : Int) < (n : Int) := by omega
      clear h
      go_enter Try.func7, Try.ntmps7
      go_wp2_with fail
      refine hF.mono ?_
      rintro e w' ⟨rfl, c⟩
      go_wp2_with fail
      go_ret
      exact ⟨rfl, c⟩

theorem rem_num (n R : Int) (h0 : 0 ≤ R) (h1 : R ≤ 1048576) (hn : 0 ≤ n) : 0 ≤ n.tmod (1048577 - R) ∧ R + n.tmod (1048577 - R) ≤ 1048576 := by
  rw [Int.tmod_eq_emod_of_nonneg hn]
  have := Int.emod_nonneg n (show 1048577 - R ≠ 0 by omega)
  have := Int.emod_lt_of_pos n (show 0 < 1048577 - R by omega)
  omega

/-- Numbers of 32 bits. -/
def K32 : Kind Int := ⟨55, 56, .int .u32, 0, 4⟩

set_option maxHeartbeats 1000000 in
theorem bounds_any (t : Int) (n c : Nat) (a : Option Addr) (l : List Int) (hl : l.length = n) (h32 : ∀ z ∈ l, 0 ≤ z ∧ z < 4294967296) (ht : -1048576 ≤ t ∧ t ≤ 1048576) (hn : n ≤ 50) (w : World) (hh : HoldsE K32 w a l) :
    Calls Try.prog 7 #[.int .i64 t, .slice a n c] w fun e w' => e = .returned (.bool true) ∧ Below w.heap.size w w' := by
  have hN := fun w => new_yes 1 1 0 0 1 (by decide) (by decide) (by decide) w
  have HT := Lib.hid ht
  have HL := Lib.hid hl
  have HN := Lib.hid hn
  have t1 : ¬ 1048576 < t := by omega
  have t2 : ¬ t < -1048576 := by omega
  have t3 : ¬ (50 : Int) < (n : Int) := by omega
  clear ht hl hn
  go_enter Try.func7, Try.ntmps7
  go_wp2_with fail
  refine (hN _).mono ?_
  rintro e W1 ⟨g, m, rfl, hG, hM, hg, hm, hgm, c1⟩
  have bH := VarH.new W1 1 1 0 (.slice (some ⟨g, 0, none⟩) 0 0) (.slice (some ⟨m, 0, none⟩) 1 1) 29
  clear hN t1 t2 t3
  go_upto_region 4 with fail
  have c2 := alloc_below W1 (.cells #[.int .i64 1, .int .i64 1, .int .i64 0, .slice (some ⟨g, 0, none⟩) 0 0, .slice (some ⟨m, 0, none⟩) 1 1] 29)
  have l1 := hG.lt
  have l2 := hM.lt
  generalize W1.alloc (.cells #[.int .i64 1, .int .i64 1, .int .i64 0, .slice (some ⟨g, 0, none⟩) 0 0, .slice (some ⟨m, 0, none⟩) 1 1] 29) = W2 at *
  have hK : Kept W1.heap.size g m ⟨1, 1, 0, [], bL 0 t⟩ W2 := by
    have := NewP.kept bH (hG.below c2 l1) (hM.below c2 l2) hgm (by omega) (by omega)
    have e : bL 0 t = [0, 0, 0] := by simp [bL]
    rw [e]
    exact this
  have HC := Lib.hid (c1.trans (c2.mono c1.size))
  have HG := Lib.hid (And.intro hg hm)
  have HV := Lib.hid c1.size
  generalize W1.heap.size = v at *
  clear bH c1 c2 hG hM hg hm l1 l2 hgm W1
  go_wp2_with fail
  go_loopw [31, 7] (fun iv rv wr => ∃ (j : Nat) (R : Int), j ≤ n ∧ iv = .int .i64 j ∧ rv = .int .i64 R ∧ Hid (0 ≤ R ∧ R ≤ 1048576) ∧ Kept v g m ⟨1, 1, 0, [], bL R t⟩ wr ∧ Hid (Below w.heap.size w wr)) (fun iv _ _ => n - (intOf iv).toNat)
  case atStart => exact ⟨0, 0, by omega, rfl, rfl, ⟨by decide, by decide⟩, hK, HC.out⟩
  case round =>
    obtain ⟨j, R, hj, rfl, rfl, HR, hK, HB⟩ := hrel
    by_cases hlt : j < n
    · have i1 : (j : Int) < (n : Int) := by omega
      obtain ⟨b, off, rfl, hb, hc⟩ : ∃ b off, a = some ⟨b, off, none⟩ ∧ b < w.heap.size ∧ ∀ j, j < l.length → w.cell? ⟨b, off + j, none⟩ = some (.int .u32 (l.getD j 0)) := by
        rcases hh with h | h
        · have := HL.out; rw [h] at this; simp at this; omega
        · exact h
      have cj := (HB.out.cell (by exact hb)).trans (hc j (by rw [HL.out]; exact hlt))
      have hz : 0 ≤ l.getD j 0 ∧ l.getD j 0 < 4294967296 := by
        have hj2 : j < l.length := by rw [HL.out]; exact hlt
        refine h32 _ ?_
        simp [List.getD_eq_getElem?_getD, hj2]
      generalize l.getD j 0 = z at *
      have hm := rem_num z R HR.out.1 HR.out.2 hz.1
      have hd : wrap64 (1048577 - R) ≠ 0 := by
        have := HR.out
        rw [show wrap64 (1048577 - R) = 1048577 - R by unfold wrap64; omega]
        omega
      have HZ := Lib.hid hz
      have HLT := Lib.hid hlt
      have HM := Lib.hid hm
      clear hc hz hlt hj hm
      go_upto_region 11 with fail
      have e1 : wrap64 z = z := by have := HZ.out; unfold wrap64; omega
      have e2 : wrap64 (1048577 - R) = 1048577 - R := by have := HR.out; unfold wrap64; omega
      rw [e1, e2]
      clear e1 e2 cj hd
      generalize z.tmod (1048577 - R) = x at *
      have hA := add_any v g m _ 0 t x ⟨by have := HT.out; omega, by have := HT.out; omega⟩ ⟨by have := HM.out; omega, by have := HM.out; have := HR.out; omega⟩ wr hK
      unfold AddsP at hA
      obtain ⟨n1, n2⟩ := bound_num R t x HR.out.1 HM.out.1 HM.out.2 HT.out.1 HT.out.2
      rw [n1, n2] at hA
      have HS : Hid (wrap64 (R + x) = R + x) := by show _ = _; have := HM.out; have := HR.out; unfold wrap64; omega
      have HRX : Hid (0 ≤ R + x ∧ R + x ≤ 1048576) := by show _ ∧ _; have := HM.out; have := HR.out; omega
      have HNN : Hid (n ≤ 1048576) := by show _ ≤ _; have := HN.out; omega
      clear n1 n2 hK
      go_wp2_with fail
      refine hA.mono ?_
      rintro e w' ⟨rfl, hK2, hb⟩
      have HB2 := Lib.hid (HB.out.trans (hb.below HG.out.1 HG.out.2 HB.out.size))
      clear hA hb
      have hS := HS.out
      go_wp2_with fail
      go_roundw
      case rel => exact ⟨j + 1, R + x, HLT.out, congrArg (Value.int .i64) (next_num HLT.out HNN.out).1, congrArg (Value.int .i64) HS.out, HRX.out, hK2, HB2.out⟩
      case measure => exact (next_num HLT.out HNN.out).2
    · obtain rfl : j = n := by omega
      have hr := HR.out
      have hA := add_any v g m _ 0 t (1048576 - R) ⟨by have := HT.out; omega, by have := HT.out; omega⟩ ⟨by omega, by omega⟩ wr hK
      unfold AddsP at hA
      obtain ⟨n1, n2⟩ := bound_num R t (1048576 - R) hr.1 (by omega) (by omega) HT.out.1 HT.out.2
      rw [n1, n2, show R + (1048576 - R) = 1048576 by omega] at hA
      have e2 : wrap64 (1048576 - R) = 1048576 - R := by unfold wrap64; omega
      clear n1 n2 hK hr hlt
      go_upto_region 15 with fail
      have HE2 := Lib.hid e2
      have hm1 := mul_in (a := 1048576) (b := t) (A := 1048576) (B := 1048576) (by omega) (by omega) HT.out.1 HT.out.2
      have hm2 := mul_in (a := 1048576 * t) (b := t) (A := 1099511627776) (B := 1048576) (by omega) (by omega) HT.out.1 HT.out.2
      have HP : Hid (wrap64 (1048576 * t) = 1048576 * t) := by show _ = _; unfold wrap64; omega
      have HQ : Hid (wrap64 (1048576 * t * t) = 1048576 * t * t) := by show _ = _; unfold wrap64; omega
      clear hm1 hm2
      go_wp2_with fail
      refine hA.mono ?_
      rintro e W3 ⟨rfl, ⟨C, M, hv, hr, _, _, _⟩, hb⟩
      rcases hr with ⟨h0, _, _⟩ | ⟨nm, cc, cm, rfl, rfl, e3, e4, e5, L1, L2⟩
      · simp [zD] at h0
      have hnm : nm = 1 := by simp [bL] at e3; omega
      subst hnm
      have HB2 := Lib.hid (HB.out.trans (hb.below HG.out.1 HG.out.2 HB.out.size))
      clear hA hb e2 e3 e4 e5 L1
      go_upto_region 17 with fail
      go_wp2_with fail
      refine (fixed_any _).mono ?_
      rintro e W4 ⟨rfl, c4⟩
      replace hv := hv.below c4 hv.lt
      replace L2 := L2.below c4 L2.lt
      have HB4 := Lib.hid (HB2.out.trans (c4.mono HB2.out.size))
      obtain ⟨a0, a1, a2, a3, a4⟩ := hv.five
      obtain ⟨_, m0, m1, m2⟩ := L2.atM 0 (by simp [bL])
      simp [bL] at m0 m1 m2
      have hP := HP.out
      have hQ := HQ.out
      obtain ⟨P, HPE⟩ : ∃ P, Hid (1048576 * t = P) := ⟨_, rfl⟩
      rw [HPE.out] at m1 m2 hQ
      rw [show wrap64 (1048576 * t) = P from hP.trans HPE.out] at hP
      obtain ⟨Q, HQE⟩ : ∃ Q, Hid (P * t = Q) := ⟨_, rfl⟩
      rw [HQE.out] at m2
      have hQ2 : wrap64 (P * t) = Q := by rw [hQ]; exact HQE.out
      have hP2 : wrap64 (1048576 * t) = P := HP.out.trans HPE.out
      clear hv L2 c4 hP hQ
      go_wp2_with fail
      go_ret
      exact ⟨rfl, HB4.out⟩
end Go.Proofs.Ytdpcplhmnpglgaa
