/-
  HISTOGRAMS: the document's New. Conditions: none.
-/
import Derived.Test.YtdpcplhmnpglgaaHisU
namespace Go.Proofs.Ytdpcplhmnpglgaa
open Go.RowKit

/-- What the document's New hands back. -/
def RNewP (k b c : Int) (p q : Nat) (w : World) (e : Ending) (w' : World) : Prop :=
  ∃ C M, e = .returned (.tuple #[.agg #[.int .i64 k, .int .i64 b, .int .i64 c, C, M], .int .i64 0]) ∧
    Own KL w' (w.heap.size + 2) C (List.replicate p 0) ∧ Own3 w' (w.heap.size + 2) M q (List.replicate (q * 3) 0) ∧ Below w.heap.size w w'

theorem Own.form {w : World} {B : Nat} {v : Value} {l : List Int} (h : Own KL w B v l) : ∃ a m c, v = .slice a m c := by
  obtain ⟨_, ⟨rfl, _⟩ | ⟨g, cap, cur, rfl, _⟩⟩ := h
  · exact ⟨_, _, _, rfl⟩
  · exact ⟨_, _, _, rfl⟩
theorem Own3.form {w : World} {B n : Nat} {v : Value} {l : List Int} (h : Own3 w B v n l) : ∃ a m c, v = .slice a m c := by
  obtain ⟨_, ⟨rfl, _⟩ | ⟨g, cap, cur, rfl, _⟩⟩ := h
  · exact ⟨_, _, _, rfl⟩
  · exact ⟨_, _, _, rfl⟩
theorem Own3.nil (w : World) (B : Nat) : Own3 w B (.slice none 0 0) 0 [] := ⟨rfl, .inl ⟨rfl, rfl⟩⟩
theorem Own3.below {w w' : World} {B n : Nat} {v : Value} {l : List Int} (h : Own3 w B v n l) (b : Go.RowKit.Below w.heap.size w w') : Own3 w' B v n l := h.keep fun k _ hk => b.block k hk
theorem Own3.but {w w' : World} {D b n : Nat} {v : Value} {l : List Int} (h : Own3 w D v n l) (hb : But b w w') (hn : b < D) : Own3 w' D v n l := h.keep fun k h1 h2 => hb.block k h2 (by omega)

/-- An append of a moment onto a row of the call's own, nil or not, outside a drawn region. -/
theorem app3_own {w : World} {ops : Array Oper} {rest : List Oper} {o : Oper} {a : Act} {Q : Exit → Act → World → Prop} (hw : Region.wanted o (yielded ops a.tmps) = true) (s x : Operand)
    (ho : o.op = .call { callee := .builtin .append, args := #[s, x], argTypes := #[27, 27] }) (B : Nat) (hB : B ≤ w.heap.size) (v : Value) (n : Nat) (l : List Int) (hs : a.eval s = v) (hown : Own3 w B v n l)
    (ad : Addr) (m c : Nat) (k : List Int) (hx : a.eval x = .slice (some ad) m c) (hl : k.length = m * 3) (hk : HoldsE KL w (some ad) k) (hm : n + m ≤ 1048576)
    (h : ∀ v' w', Own3 w' B v' (n + m) (l ++ k) → Go.RowKit.Below B w w' → wpList Try.prog ops Q rest (a.put o.dst v') w') : wpList Try.prog ops Q (o :: rest) a w := by
  obtain ⟨i0, hi, hz0, hz1, hz2⟩ := info_parts infoM
  refine wpList_step fun KK hK => ?_
  rw [if_pos hw]
  refine wp_append_own w s x 27 ho B 47 i0 _ 3 24 Try.underlying27 hi hz0 hz1 hz2 rfl (by decide) v _ _ hs hown ad m c (k.map KL.enc) hx (by simp [hl]) ?_ ?_ (by unfold maxLen; omega) (by omega) hB ?_
  · intro j u hu
    have hj : j < k.length := by
      rcases Nat.lt_or_ge j k.length with h' | h'
      · exact h'
      · rw [List.getElem?_eq_none (by simpa using h')] at hu; cases hu
    rcases hk with rfl | ⟨b, off, e, hb, hr⟩
    · simp at hj
    · obtain rfl := Option.some.inj e
      rw [Go.WideShapes.add_plain, hr j hj]
      simp [hj] at hu ⊢
      exact hu
  · intro u hu
    obtain ⟨z, _, rfl⟩ := List.mem_map.1 hu
    rfl
  · intro v' w' h2 h3 h4
    refine hK _ _ (h v' w' ?_ ((Go.RowKit.Below.refl B w).grown h3 hB (fun g hg => (World.ownsRow.lt hown g hg).1)))
    unfold Own3
    rw [List.map_append]; exact h2

set_option maxHeartbeats 1000000 in
theorem rnew_no (k b c : Int) (h0 : mayB k b c = false) (w : World) :
    Calls Try.prog 11 #[.int .i64 k, .int .i64 b, .int .i64 c] w fun e w' => e = .returned (.tuple #[.agg #[.int .i64 0, .int .i64 0, .int .i64 0, .slice none 0 0, .slice none 0 0], .int .i64 1]) ∧ Below w.heap.size w w' := by
  have hm := fun w => refMay_any k b c w
  rw [h0] at hm
  obtain ⟨W1, hW1⟩ : ∃ W1, w.alloc (.cells #[.int .i64 0, .int .i64 0, .int .i64 0, .slice none 0 0, .slice none 0 0] 29) = W1 := ⟨_, rfl⟩
  have vR : VarH w.heap.size 0 0 0 (.slice none 0 0) (.slice none 0 0) W1 ∧ Below w.heap.size w W1 := by subst hW1; exact ⟨VarH.new _ _ _ _ _ _ _, alloc_below _ _⟩
  obtain ⟨vR, HB⟩ := vR
  have HB := Lib.hid HB
  go_enter Try.func11, Try.ntmps11
  go_upto_region 1 with fail
  clear hW1
  obtain ⟨x0, x1, x2, x3, x4⟩ := vR.five
  obtain ⟨y0, y1, y2, y3, y4⟩ := vR.soft
  go_wp2_with fail
  refine (hm _).mono ?_
  rintro e w1 ⟨rfl, rfl⟩
  go_wp2_with fail
  obtain ⟨d0, d1, d2, d3, d4⟩ := (vR.set 0 0 0 (.slice none 0 0) (.slice none 0 0)).five
  have HBW := set5_below (g := w.heap.size) (x0 := .int .i64 0) (x1 := .int .i64 0) (x2 := .int .i64 0) (x3 := .slice none 0 0) (x4 := .slice none 0 0) HB.out (Nat.le_refl _)
  change bodyPost _ _ _ _ _ (set5 w1 w.heap.size (.int .i64 0) (.int .i64 0) (.int .i64 0) (.slice none 0 0) (.slice none 0 0))
  generalize set5 w1 w.heap.size (.int .i64 0) (.int .i64 0) (.int .i64 0) (.slice none 0 0) (.slice none 0 0) = WX at *
  simp [bodyPost, results, Try.results11, go_sem, d0, d1, d2, d3, d4]
  exact HBW

set_option maxHeartbeats 2000000 in
theorem rnew_0 (k : Int) (hk : k = 0) (B C : Nat) (hB1 : 1 ≤ B) (hB2 : B ≤ 257) (hC1 : 2 ≤ C) (hC2 : C ≤ 256) (w : World) :
    Calls Try.prog 11 #[.int .i64 k, .int .i64 (B : Int), .int .i64 (C : Int)] w fun e w' => RNewP k B C (B * C) 0 w e w' := by
  have hm := fun w => refMay_any k (B : Int) (C : Int) w
  rw [(may_0 (k := k) (b := (B : Int)) (c := (C : Int)) (by omega) (by omega) hk (by omega) (by omega)).1] at hm
  have HK := Lib.hid hk
  have HN := Lib.hid (And.intro (And.intro hB1 hB2) (And.intro hC1 hC2))
  have HBC : Hid (B * C ≤ 65792) := by have := Nat.mul_le_mul hB2 hC2; show _ ≤ _; omega
  obtain ⟨W1, hW1⟩ : ∃ W1, w.alloc (.cells #[.int .i64 0, .int .i64 0, .int .i64 0, .slice none 0 0, .slice none 0 0] 29) = W1 := ⟨_, rfl⟩
  have vR : VarH w.heap.size 0 0 0 (.slice none 0 0) (.slice none 0 0) W1 ∧ Below w.heap.size w W1 ∧ W1.heap.size = w.heap.size + 1 := by subst hW1; exact ⟨VarH.new _ _ _ _ _ _ _, alloc_below _ _, by simp⟩
  obtain ⟨vR, b1, s1⟩ := vR
  obtain ⟨W2, hW2⟩ : ∃ W2, W1.alloc (.cells #[.int .i64 k, .int .i64 (B : Int), .int .i64 (C : Int), .slice none 0 0, .slice none 0 0] 29) = W2 := ⟨_, rfl⟩
  have vH : VarH W1.heap.size k B C (.slice none 0 0) (.slice none 0 0) W2 ∧ Below W1.heap.size W1 W2 ∧ W2.heap.size = W1.heap.size + 1 := by subst hW2; exact ⟨VarH.new _ _ _ _ _ _ _, alloc_below _ _, by simp⟩
  obtain ⟨vH, b2, s2⟩ := vH
  have vR1 := vR
  replace vR := Lib.hid (vR.below b2 vR.lt)
  rw [s1] at vH s2
  replace vH := Lib.hid vH
  have HB := Lib.hid (b1.trans (b2.mono b1.size))
  have HS := Lib.hid s2
  have HW2 := Lib.hid hW2
  clear hk hB1 hB2 hC1 hC2 b1 b2 s2 hW2
  go_enter Try.func11, Try.ntmps11
  go_upto_region 1 with fail
  clear hW1
  go_wp2_with fail
  refine (hm _).mono ?_
  rintro e w1 ⟨rfl, rfl⟩
  clear vR1 hm
  go_upto_region 4 with fail
  rw [HW2.out]
  go_wp2_with fail
  go_loopw [9] (fun iv wr => ∃ (i : Nat) (v : Value), i ≤ B ∧ iv = .int .i64 (i : Int) ∧ Hid (Own KL wr (w.heap.size + 2) v (List.replicate (i * C) 0)) ∧ Hid (VarH (w.heap.size + 1) k B C v (.slice none 0 0) wr) ∧ Hid (VarH w.heap.size 0 0 0 (.slice none 0 0) (.slice none 0 0) wr) ∧ Hid (Below w.heap.size w wr) ∧ Hid (w.heap.size + 2 ≤ wr.heap.size)) (fun iv _ => B - (intOf iv).toNat)
  case atStart =>
    have O0 : Hid (Own KL W2 (w.heap.size + 2) (.slice none 0 0) (List.replicate (0 * C) 0)) := by
      show Own _ _ _ _ _
      simpa using Own.nil (K := KL) W2 (w.heap.size + 2)
    exact ⟨0, _, by omega, rfl, O0.out, vH.out, vR.out, HB.out, (by have := HS.out; show _ ≤ _; omega)⟩
  case round =>
    obtain ⟨i, v, hj, rfl, HO, vH, vR, HB, HW⟩ := hrel
    by_cases hlt : i < B
    · have i1 : (i : Int) < (B : Int) := by omega
      have HLT := Lib.hid hlt
      clear hj hlt
      go_upto_region 7 with fail
      go_wp2_with fail
      go_loopw [10] (fun iv wr => ∃ (j : Nat) (v : Value), j ≤ C ∧ iv = .int .i64 (j : Int) ∧ Hid (Own KL wr (w.heap.size + 2) v (List.replicate (i * C + j) 0)) ∧ Hid (VarH (w.heap.size + 1) k B C v (.slice none 0 0) wr) ∧ Hid (VarH w.heap.size 0 0 0 (.slice none 0 0) (.slice none 0 0) wr) ∧ Hid (Below w.heap.size w wr) ∧ Hid (w.heap.size + 2 ≤ wr.heap.size)) (fun iv _ => C - (intOf iv).toNat)
      case atStart => exact ⟨0, v, by omega, rfl, HO.out, vH.out, vR.out, HB.out, HW.out⟩
      case round =>
        obtain ⟨j, v, hj, rfl, HO, vH, vR, HB, HW⟩ := hrel
        by_cases hlt : j < C
        · have i2 : (j : Int) < (C : Int) := by omega
          have HLT2 := Lib.hid hlt
          obtain ⟨a0, a1, a2, a3, a4⟩ := vH.out.five
          obtain ⟨f0, f1, f2, f3, f4⟩ := vH.out.soft
          have bA := alloc_below wr (.cells #[.int .i64 0] 2)
          have own2 := HO.out.below bA
          have vH2 := vH.out.below bA vH.out.lt
          obtain ⟨c0, c1, c2, c3, c4⟩ := vH2.five
          obtain ⟨e0, e1, e2, e3, e4⟩ := vH2.soft
          have vR2 := vR.out.below bA vR.out.lt
          have HB2 := Lib.hid (HB.out.trans (bA.mono HB.out.size))
          have hs2 : w.heap.size + 2 ≤ (wr.alloc (.cells #[.int .i64 0] 2)).heap.size := Nat.le_trans HW.out bA.size
          have HRM : Hid ((List.replicate (i * C + j) (0 : Int)).length + [(0 : Int)].length ≤ 1048576) := by
            have h1 := HBC.out
            have h2 : (i + 1) * C ≤ B * C := Nat.mul_le_mul_right C HLT.out
            rw [Nat.add_mul, Nat.one_mul] at h2
            show _ ≤ _
            simp
            omega
          have HNX : Hid (List.replicate (i * C + j) (0 : Int) ++ [(0 : Int)] = List.replicate (i * C + (j + 1)) 0) := by
            show _ = _
            rw [← Nat.add_assoc, List.replicate_succ']
          have HCN : Hid (C ≤ 1048576) := by have := HN.out; show _ ≤ _; omega
          clear hj hlt bA
          go_wp2_with (at_builtin; refine app_own okL rfl _ _ rfl (w.heap.size + 2) hs2 _ _ rfl own2 _ 1 1 [(0 : Int)] rfl (CameE.new (K := KL) _) HRM.out ?_)
          intro v6 w6 ho6 hb6
          obtain ⟨a6, m6, k6, rfl⟩ := ho6.form
          have vH6 := vH2.below hb6 (by omega)
          have vR6 := vR2.below hb6 (by omega)
          obtain ⟨q0, q1, q2, q3, q4⟩ := vH6.five
          obtain ⟨r0, r1, r2, r3, r4⟩ := vH6.soft
          clear c0 c1 c2 c3 c4 e0 e1 e2 e3 e4 a0 a1 a2 a3 a4 f0 f1 f2 f3 f4
          have bz := But.setCell (w.heap.size + 1) 3 w6 (.slice a6 m6 k6)
          have n1 := Lib.hid (vH6.setC (.slice a6 m6 k6))
          have n2 := Lib.hid (vR6.but bz (by omega))
          have n3 := Lib.hid (ho6.but bz (by omega))
          rw [HNX.out] at n3
          have n4 := Lib.hid ((HB2.out.trans (hb6.mono (by omega))).trans (bz.below (by omega) (Nat.le_trans HB2.out.size hb6.size)))
          have n5 : Hid (w.heap.size + 2 ≤ (w6.setCell ⟨w.heap.size + 1, 3, none⟩ (.slice a6 m6 k6)).heap.size) := Nat.le_trans hs2 (Nat.le_trans hb6.size bz.size)
          clear bz
          go_wp2_with fail
          go_roundw
          case rel => exact ⟨j + 1, (.slice a6 m6 k6), HLT2.out, (by first | exact congrArg (Value.int .i64) (next_num HLT2.out HCN.out).1 | exact congrArg (Value.int .i64) (Int.natCast_succ j).symm), n3.out, n1.out, n2.out, n4.out, n5.out⟩
          case measure => first | exact (next_num HLT2.out HCN.out).2 | (have := HLT2.out; simp only [intOf]; omega)
        · obtain rfl : C = j := by omega
          have HO2 : Hid (Own KL wr (w.heap.size + 2) v (List.replicate ((i + 1) * C) 0)) := by
            rw [Nat.add_mul, Nat.one_mul]; exact HO.out
          have HT3 : Hid (B ≤ 1048576) := by have := HN.out; show _ ≤ _; omega
          have HNX := Lib.hid (next_num HLT.out HT3.out)
          have hk := HK.out
          clear hj hlt
          go_wp2_with fail
          exact ⟨⟨i + 1, v, HLT.out, (by first | exact congrArg (Value.int .i64) HNX.out.1 | exact congrArg (Value.int .i64) (Int.natCast_succ i).symm), HO2.out, vH.out, vR.out, HB.out, HW.out⟩, (by first | exact HNX.out.2 | (have := HLT.out; simp only [intOf]; omega))⟩
    · obtain rfl : B = i := by omega
      obtain ⟨a6, m6, k6, rfl⟩ := HO.out.form
      obtain ⟨a0, a1, a2, a3, a4⟩ := vH.out.five
      obtain ⟨x0, x1, x2, x3, x4⟩ := vR.out.five
      obtain ⟨y0, y1, y2, y3, y4⟩ := vR.out.soft
      clear hj hlt
      go_wp2_with fail
      obtain ⟨d0, d1, d2, d3, d4⟩ := (vR.out.set k B C (.slice a6 m6 k6) (.slice none 0 0)).five
      have HBW := set5_below (g := w.heap.size) (x0 := .int .i64 k) (x1 := .int .i64 (B : Int)) (x2 := .int .i64 (C : Int)) (x3 := (.slice a6 m6 k6)) (x4 := .slice none 0 0) HB.out (Nat.le_refl _)
      have HBT := set5_but wr w.heap.size (.int .i64 k) (.int .i64 (B : Int)) (.int .i64 (C : Int)) (.slice a6 m6 k6) (.slice none 0 0)
      change bodyPost _ _ _ _ _ (set5 wr w.heap.size (.int .i64 k) (.int .i64 (B : Int)) (.int .i64 (C : Int)) (.slice a6 m6 k6) (.slice none 0 0))
      have hO := HO.out.but HBT (by omega)
      generalize set5 wr w.heap.size (.int .i64 k) (.int .i64 (B : Int)) (.int .i64 (C : Int)) (.slice a6 m6 k6) (.slice none 0 0) = WX at *
      have HF : RNewP k B C (B * C) 0 w (.returned (.tuple #[.agg #[.int .i64 k, .int .i64 (B : Int), .int .i64 (C : Int), .slice a6 m6 k6, .slice none 0 0], .int .i64 0])) WX := ⟨_, _, rfl, hO, Own3.nil _ _, HBW⟩
      simp [bodyPost, results, Try.results11, go_sem, d0, d1, d2, d3, d4]
      exact HF
end Go.Proofs.Ytdpcplhmnpglgaa
