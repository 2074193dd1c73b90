/-
  Several texts in one: each says what it shows at its head.
-/
import Derived.Test.YtebdlmjpgohngaaHisAG
import Derived.Test.YtebdlmjpgohngaaHisAH
import Derived.Test.YtebdlmjpgohngaaHisU
import Derived.Test.YtebdlmjpgohngaaHisN
import Derived.Test.YtebdlmjpgohngaaShG
import Derived.StillTailTactics
/- HISTOGRAMS: the document's Add, of any histogram. Conditions: each number is of 64 bits with a sign. -/
namespace Go.Proofs.Ytebdlmjpgohngaa
open Go.RowKit

theorem right_kinds {k B C : Int} {lc lm : List Int} (hr : rightD ⟨k, B, C, lc, lm⟩ = true) :
    (k = 0 ∧ 1 ≤ B ∧ B ≤ 257 ∧ 2 ≤ C ∧ C ≤ 256 ∧ (lc.length : Int) = B * C ∧ lm.length = 0) ∨ (k = 1 ∧ 1 ≤ B ∧ B ≤ 257 ∧ C = 0 ∧ lc.length = 0 ∧ (lm.length : Int) = B * 3) := by
  unfold rightD at hr
  simp only [decide_eq_true_eq] at hr
  obtain ⟨h0, h1, h2⟩ := hr
  by_cases q0 : 1 ≤ B ∧ B ≤ 257 ∧ k = 0 ∧ 2 ≤ C ∧ C ≤ 256
  · have e1 : lenC k B C = B * C := if_pos q0
    have e2 : lenM k B C = 0 := if_neg (by omega)
    rw [e1] at h1
    rw [e2] at h2
    exact .inl ⟨q0.2.2.1, q0.1, q0.2.1, q0.2.2.2.1, q0.2.2.2.2, h1, by omega⟩
  · by_cases q1 : 1 ≤ B ∧ B ≤ 257 ∧ k = 1 ∧ C = 0
    · have e1 : lenC k B C = 0 := if_neg q0
      have e2 : lenM k B C = B := if_pos q1
      rw [e1] at h1
      rw [e2] at h2
      exact .inr ⟨q1.2.2.1, q1.1, q1.2.1, q1.2.2.2, by omega, h2⟩
    · have e1 : lenC k B C = 0 := if_neg q0
      have e2 : lenM k B C = 0 := if_neg q1
      rw [e1, e2] at h0
      exact absurd h0 (by decide)
theorem at_in {b B C t : Int} (h0 : 0 ≤ b) (h1 : b < B) (h2 : 2 ≤ C) (h4 : t < C) : 0 ≤ b * C ∧ b * C + t < B * C := by
  have p1 := Int.mul_nonneg h0 (show 0 ≤ C by omega)
  have p2 := Int.mul_le_mul_of_nonneg_right (show b ≤ B - 1 by omega) (show 0 ≤ C by omega)
  rw [Int.sub_mul, Int.one_mul] at p2
  omega

theorem radd_any (d : HD) (ac am : Option Addr) (nc cc nm cm : Nat) (b t v : Int) (w : World) (h : Reads d ac nc am nm w) (z1 : ac = none → cc = 0) (z2 : am = none → cm = 0) (ht : Whole t) (hvw : Whole v) :
    Calls Try.prog 24 #[.agg #[.int .i64 d.k, .int .i64 d.b, .int .i64 d.c, .slice ac nc cc, .slice am nm cm], .int .i64 b, .int .i64 t, .int .i64 v] w fun e w' => RAddP d b t v ac am w e w' := by
  obtain ⟨k, B, C, lc, lm⟩ := d
  show Calls Try.prog 24 #[.agg #[.int .i64 k, .int .i64 B, .int .i64 C, .slice ac nc cc, .slice am nm cm], .int .i64 b, .int .i64 t, .int .i64 v] w _
  cases hr : rightD ⟨k, B, C, lc, lm⟩
  · exact radd_wrong k B C lc lm ac am nc cc nm cm b t v w h z1 z2 hr
  · by_cases h0 : b < 0
    · exact radd_low k B C lc lm ac am nc cc nm cm b t v w h z1 z2 hr h0
    · by_cases hb : B ≤ b
      · exact radd_high k B C lc lm ac am nc cc nm cm b t v w h z1 z2 hr h0 hb
      · have hb : b < B := by omega
        have hc : lc.length = nc := h.nc
        have hm : lm.length = nm * 3 := h.nm
        rcases right_kinds hr with ⟨rfl, b1, b2, c1, c2, g1, g2⟩ | ⟨rfl, b1, b2, rfl, g1, g2⟩
        · by_cases t0 : t < 0
          · exact radd_under B C lc lm ac am nc cc nm cm b t v w h z1 z2 hr h0 hb t0
          · by_cases t1 : C ≤ t
            · by_cases t2 : 255 < t
              · exact radd_over B C lc lm ac am nc cc nm cm b t v w h z1 z2 hr h0 hb t0 t2 t1
              · exact radd_past B C lc lm ac am nc cc nm cm b t v w h z1 z2 hr h0 hb t0 t2 t1
            · have t1 : t < C := by omega
              have t2 : ¬ 255 < t := by omega
              by_cases v0 : v < 0
              · exact radd_less B C lc lm ac am nc cc nm cm b t v w h z1 z2 hr h0 hb t0 t2 t1 v0
              · have a0 := at_in (show 0 ≤ b by omega) hb c1 t1
                have m0 := mul_room b1 b2 c1 c2
                exact radd_0 B C lc lm ac am nc cc nm cm b t v w h z1 z2 hr h0 hb t0 t2 t1 v0 hvw (b * C) (b * C + t).toNat rfl (by omega) (by omega) _ rfl (by omega) (by omega)
        · by_cases v0 : v < 0
          · exact radd_minus B 0 lc lm ac am nc cc nm cm b t v w h z1 z2 hr h0 hb v0
          · obtain ⟨n, rfl⟩ : ∃ n : Nat, b = (n : Int) := ⟨b.toNat, by omega⟩
            exact radd_1 B lc lm ac am nc cc nm cm n t v w h z1 z2 hr hb v0 ht hvw (by omega) (by omega) (by omega)

theorem lm3_len' (l : List Int) (n : Nat) (x y z : Int) : (lm3 l n x y z).length = l.length := by unfold lm3; simp
theorem addD_len (d : HD) (b t v : Int) : (addD d b t v).lc.length = d.lc.length ∧ (addD d b t v).lm.length = d.lm.length := by
  unfold addD
  split
  · exact ⟨rfl, rfl⟩
  · split
    · exact ⟨rfl, lm3_len' _ _ _ _ _⟩
    · exact ⟨by simp, rfl⟩
theorem addD_zero (b t v : Int) : addE zD b t v = 8 ∧ addD zD b t v = zD := by
  have hr : rightD zD = false := by decide
  have hE : addE zD b t v = 8 := if_pos hr
  exact ⟨hE, if_pos (by rw [hE]; decide)⟩
end Go.Proofs.Ytebdlmjpgohngaa

/- HISTOGRAMS: the document's New. Conditions: none. -/
namespace Go.Proofs.Ytebdlmjpgohngaa
open Go.RowKit

/-- What the document's New hands back. -/
def RNewP (k b c : Int) (p q : Nat) (w : World) (e : Ending) (w' : World) : Prop :=
  ∃ C M, e = .returned (.tuple #[.agg #[.int .i64 k, .int .i64 b, .int .i64 c, C, M], .int .i64 0]) ∧
    Own KL w' (w.heap.size + 2) C (List.replicate p 0) ∧ Own3 w' (w.heap.size + 2) M q (List.replicate (q * 3) 0) ∧ Below w.heap.size w w'

theorem Own.form {w : World} {B : Nat} {v : Value} {l : List Int} (h : Own KL w B v l) : ∃ a m c, v = .slice a m c := by
  obtain ⟨_, ⟨rfl, _⟩ | ⟨g, cap, cur, rfl, _⟩⟩ := h
  · exact ⟨_, _, _, rfl⟩
  · exact ⟨_, _, _, rfl⟩
theorem Own3.form {w : World} {B n : Nat} {v : Value} {l : List Int} (h : Own3 w B v n l) : ∃ a m c, v = .slice a m c := by
  obtain ⟨_, ⟨rfl, _⟩ | ⟨g, cap, cur, rfl, _⟩⟩ := h
  · exact ⟨_, _, _, rfl⟩
  · exact ⟨_, _, _, rfl⟩
theorem Own3.nil (w : World) (B : Nat) : Own3 w B (.slice none 0 0) 0 [] := ⟨rfl, .inl ⟨rfl, rfl⟩⟩
theorem Own3.below {w w' : World} {B n : Nat} {v : Value} {l : List Int} (h : Own3 w B v n l) (b : Go.RowKit.Below w.heap.size w w') : Own3 w' B v n l := h.keep fun k _ hk => b.block k hk
theorem Own3.but {w w' : World} {D b n : Nat} {v : Value} {l : List Int} (h : Own3 w D v n l) (hb : But b w w') (hn : b < D) : Own3 w' D v n l := h.keep fun k h1 h2 => hb.block k h2 (by omega)

/-- An append of a moment onto a row of the call's own, nil or not, outside a drawn region. -/
theorem app3_own {w : World} {ops : Array Oper} {rest : List Oper} {o : Oper} {a : Act} {Q : Exit → Act → World → Prop} (hw : Region.wanted o (yielded ops a.tmps) = true) (s x : Operand)
    (ho : o.op = .call { callee := .builtin .append, args := #[s, x], argTypes := #[43, 43] }) (B : Nat) (hB : B ≤ w.heap.size) (v : Value) (n : Nat) (l : List Int) (hs : a.eval s = v) (hown : Own3 w B v n l)
    (ad : Addr) (m c : Nat) (k : List Int) (hx : a.eval x = .slice (some ad) m c) (hl : k.length = m * 3) (hk : HoldsE KL w (some ad) k) (hm : n + m ≤ 1048576)
    (h : ∀ v' w', Own3 w' B v' (n + m) (l ++ k) → Go.RowKit.Below B w w' → wpList Try.prog ops Q rest (a.put o.dst v') w') : wpList Try.prog ops Q (o :: rest) a w := by
  obtain ⟨i0, hi, hz0, hz1, hz2⟩ := info_parts infoM
  refine wpList_step fun KK hK => ?_
  rw [if_pos hw]
  refine wp_append_own w s x 43 ho B 74 i0 _ 3 24 Try.underlying43 hi hz0 hz1 hz2 rfl (by decide) v _ _ hs hown ad m c (k.map KL.enc) hx (by simp [hl]) ?_ ?_ (by unfold maxLen; omega) (by omega) hB ?_
  · intro j u hu
    have hj : j < k.length := by
      rcases Nat.lt_or_ge j k.length with h' | h'
      · exact h'
      · rw [List.getElem?_eq_none (by simpa using h')] at hu; cases hu
    rcases hk with rfl | ⟨b, off, e, hb, hr⟩
    · simp at hj
    · obtain rfl := Option.some.inj e
      rw [Go.WideShapes.add_plain, hr j hj]
      simp [hj] at hu ⊢
      exact hu
  · intro u hu
    obtain ⟨z, _, rfl⟩ := List.mem_map.1 hu
    rfl
  · intro v' w' h2 h3 h4
    refine hK _ _ (h v' w' ?_ ((Go.RowKit.Below.refl B w).grown h3 hB (fun g hg => (World.ownsRow.lt hown g hg).1)))
    unfold Own3
    rw [List.map_append]; exact h2

set_option maxHeartbeats 1000000 in
theorem rnew_no (k b c : Int) (h0 : mayB k b c = false) (w : World) :
    Calls Try.prog 23 #[.int .i64 k, .int .i64 b, .int .i64 c] w fun e w' => e = .returned (.tuple #[.agg #[.int .i64 0, .int .i64 0, .int .i64 0, .slice none 0 0, .slice none 0 0], .int .i64 1]) ∧ Below w.heap.size w w' := by
  have hm := fun w => refMay_any k b c w
  rw [h0] at hm
  obtain ⟨W1, hW1⟩ : ∃ W1, w.alloc (.cells #[.int .i64 0, .int .i64 0, .int .i64 0, .slice none 0 0, .slice none 0 0] 45) = W1 := ⟨_, rfl⟩
  have vR : VarH w.heap.size 0 0 0 (.slice none 0 0) (.slice none 0 0) W1 ∧ Below w.heap.size w W1 := by subst hW1; exact ⟨VarH.new _ _ _ _ _ _ _, alloc_below _ _⟩
  obtain ⟨vR, HB⟩ := vR
  have HB := Lib.hid HB
  go_enter Try.func23, Try.ntmps23
  go_upto_region 1 with fail
  clear hW1
  obtain ⟨x0, x1, x2, x3, x4⟩ := vR.five
  obtain ⟨y0, y1, y2, y3, y4⟩ := vR.soft
  go_wp2_with fail
  refine (hm _).mono ?_
  rintro e w1 ⟨rfl, rfl⟩
  go_wp2_with fail
  obtain ⟨d0, d1, d2, d3, d4⟩ := (vR.set 0 0 0 (.slice none 0 0) (.slice none 0 0)).five
  have HBW := set5_below (g := w.heap.size) (x0 := .int .i64 0) (x1 := .int .i64 0) (x2 := .int .i64 0) (x3 := .slice none 0 0) (x4 := .slice none 0 0) HB.out (Nat.le_refl _)
  change bodyPost _ _ _ _ _ (set5 w1 w.heap.size (.int .i64 0) (.int .i64 0) (.int .i64 0) (.slice none 0 0) (.slice none 0 0))
  generalize set5 w1 w.heap.size (.int .i64 0) (.int .i64 0) (.int .i64 0) (.slice none 0 0) (.slice none 0 0) = WX at *
  simp [bodyPost, results, Try.results23, go_sem, d0, d1, d2, d3, d4]
  exact HBW

set_option maxHeartbeats 2000000 in
theorem rnew_0 (k : Int) (hk : k = 0) (B C : Nat) (hB1 : 1 ≤ B) (hB2 : B ≤ 257) (hC1 : 2 ≤ C) (hC2 : C ≤ 256) (w : World) :
    Calls Try.prog 23 #[.int .i64 k, .int .i64 (B : Int), .int .i64 (C : Int)] w fun e w' => RNewP k B C (B * C) 0 w e w' := by
  have hm := fun w => refMay_any k (B : Int) (C : Int) w
  rw [(may_0 (k := k) (b := (B : Int)) (c := (C : Int)) (by omega) (by omega) hk (by omega) (by omega)).1] at hm
  have HK := Lib.hid hk
  have HN := Lib.hid (And.intro (And.intro hB1 hB2) (And.intro hC1 hC2))
  have HBC : Hid (B * C ≤ 65792) := by have := Nat.mul_le_mul hB2 hC2; show _ ≤ _; omega
  obtain ⟨W1, hW1⟩ : ∃ W1, w.alloc (.cells #[.int .i64 0, .int .i64 0, .int .i64 0, .slice none 0 0, .slice none 0 0] 45) = W1 := ⟨_, rfl⟩
  have vR : VarH w.heap.size 0 0 0 (.slice none 0 0) (.slice none 0 0) W1 ∧ Below w.heap.size w W1 ∧ W1.heap.size = w.heap.size + 1 := by subst hW1; exact ⟨VarH.new _ _ _ _ _ _ _, alloc_below _ _, by simp⟩
  obtain ⟨vR, b1, s1⟩ := vR
  obtain ⟨W2, hW2⟩ : ∃ W2, W1.alloc (.cells #[.int .i64 k, .int .i64 (B : Int), .int .i64 (C : Int), .slice none 0 0, .slice none 0 0] 45) = W2 := ⟨_, rfl⟩
  have vH : VarH W1.heap.size k B C (.slice none 0 0) (.slice none 0 0) W2 ∧ Below W1.heap.size W1 W2 ∧ W2.heap.size = W1.heap.size + 1 := by subst hW2; exact ⟨VarH.new _ _ _ _ _ _ _, alloc_below _ _, by simp⟩
  obtain ⟨vH, b2, s2⟩ := vH
  have vR1 := vR
  replace vR := Lib.hid (vR.below b2 vR.lt)
  rw [s1] at vH s2
  replace vH := Lib.hid vH
  have HB := Lib.hid (b1.trans (b2.mono b1.size))
  have HS := Lib.hid s2
  have HW2 := Lib.hid hW2
  clear hk hB1 hB2 hC1 hC2 b1 b2 s2 hW2
  go_enter Try.func23, Try.ntmps23
  go_upto_region 1 with fail
  clear hW1
  go_wp2_with fail
  refine (hm _).mono ?_
  rintro e w1 ⟨rfl, rfl⟩
  clear vR1 hm
  go_upto_region 4 with fail
  rw [HW2.out]
  go_wp2_with fail
  go_loopw [9] (fun iv wr => ∃ (i : Nat) (v : Value), i ≤ B ∧ iv = .int .i64 (i : Int) ∧ Hid (Own KL wr (w.heap.size + 2) v (List.replicate (i * C) 0)) ∧ Hid (VarH (w.heap.size + 1) k B C v (.slice none 0 0) wr) ∧ Hid (VarH w.heap.size 0 0 0 (.slice none 0 0) (.slice none 0 0) wr) ∧ Hid (Below w.heap.size w wr) ∧ Hid (w.heap.size + 2 ≤ wr.heap.size)) (fun iv _ => B - (intOf iv).toNat)
  case atStart =>
    have O0 : Hid (Own KL W2 (w.heap.size + 2) (.slice none 0 0) (List.replicate (0 * C) 0)) := by
      show Own _ _ _ _ _
      simpa using Own.nil (K := KL) W2 (w.heap.size + 2)
    exact ⟨0, _, by omega, rfl, O0.out, vH.out, vR.out, HB.out, (by have := HS.out; show _ ≤ _; omega)⟩
  case round =>
    obtain ⟨i, v, hj, rfl, HO, vH, vR, HB, HW⟩ := hrel
    by_cases hlt : i < B
    · have i1 : (i : Int) < (B : Int) := by omega
      have HLT := Lib.hid hlt
      clear hj hlt
      go_upto_region 7 with fail
      go_wp2_with fail
      go_loopw [10] (fun iv wr => ∃ (j : Nat) (v : Value), j ≤ C ∧ iv = .int .i64 (j : Int) ∧ Hid (Own KL wr (w.heap.size + 2) v (List.replicate (i * C + j) 0)) ∧ Hid (VarH (w.heap.size + 1) k B C v (.slice none 0 0) wr) ∧ Hid (VarH w.heap.size 0 0 0 (.slice none 0 0) (.slice none 0 0) wr) ∧ Hid (Below w.heap.size w wr) ∧ Hid (w.heap.size + 2 ≤ wr.heap.size)) (fun iv _ => C - (intOf iv).toNat)
      case atStart => exact ⟨0, v, by omega, rfl, HO.out, vH.out, vR.out, HB.out, HW.out⟩
      case round =>
        obtain ⟨j, v, hj, rfl, HO, vH, vR, HB, HW⟩ := hrel
        by_cases hlt : j < C
        · have i2 : (j : Int) < (C : Int) := by omega
          have HLT2 := Lib.hid hlt
          obtain ⟨a0, a1, a2, a3, a4⟩ := vH.out.five
          obtain ⟨f0, f1, f2, f3, f4⟩ := vH.out.soft
          have bA := alloc_below wr (.cells #[.int .i64 0] 2)
          have own2 := HO.out.below bA
          have vH2 := vH.out.below bA vH.out.lt
          obtain ⟨c0, c1, c2, c3, c4⟩ := vH2.five
          obtain ⟨e0, e1, e2, e3, e4⟩ := vH2.soft
          have vR2 := vR.out.below bA vR.out.lt
          have HB2 := Lib.hid (HB.out.trans (bA.mono HB.out.size))
          have hs2 : w.heap.size + 2 ≤ (wr.alloc (.cells #[.int .i64 0] 2)).heap.size := Nat.le_trans HW.out bA.size
          have HRM : Hid ((List.replicate (i * C + j) (0 : Int)).length + [(0 : Int)].length ≤ 1048576) := by
            have h1 := HBC.out
            have h2 : (i + 1) * C ≤ B * C := Nat.mul_le_mul_right C HLT.out
            rw [Nat.add_mul, Nat.one_mul] at h2
            show _ ≤ _
            simp
            omega
          have HNX : Hid (List.replicate (i * C + j) (0 : Int) ++ [(0 : Int)] = List.replicate (i * C + (j + 1)) 0) := by
            show _ = _
            rw [← Nat.add_assoc, List.replicate_succ']
          have HCN : Hid (C ≤ 1048576) := by have := HN.out; show _ ≤ _; omega
          clear hj hlt bA
          go_wp2_with (at_builtin; refine app_own okL rfl _ _ rfl (w.heap.size + 2) hs2 _ _ rfl own2 _ 1 1 [(0 : Int)] rfl (CameE.new (K := KL) _) HRM.out ?_)
          intro v6 w6 ho6 hb6
          obtain ⟨a6, m6, k6, rfl⟩ := ho6.form
          have vH6 := vH2.below hb6 (by omega)
          have vR6 := vR2.below hb6 (by omega)
          obtain ⟨q0, q1, q2, q3, q4⟩ := vH6.five
          obtain ⟨r0, r1, r2, r3, r4⟩ := vH6.soft
          clear c0 c1 c2 c3 c4 e0 e1 e2 e3 e4 a0 a1 a2 a3 a4 f0 f1 f2 f3 f4
          have bz := But.setCell (w.heap.size + 1) 3 w6 (.slice a6 m6 k6)
          have n1 := Lib.hid (vH6.setC (.slice a6 m6 k6))
          have n2 := Lib.hid (vR6.but bz (by omega))
          have n3 := Lib.hid (ho6.but bz (by omega))
          rw [HNX.out] at n3
          have n4 := Lib.hid ((HB2.out.trans (hb6.mono (by omega))).trans (bz.below (by omega) (Nat.le_trans HB2.out.size hb6.size)))
          have n5 : Hid (w.heap.size + 2 ≤ (w6.setCell ⟨w.heap.size + 1, 3, none⟩ (.slice a6 m6 k6)).heap.size) := Nat.le_trans hs2 (Nat.le_trans hb6.size bz.size)
          clear bz
          go_wp2_with fail
          go_roundw
          case rel => exact ⟨j + 1, (.slice a6 m6 k6), HLT2.out, (by first | exact congrArg (Value.int .i64) (next_num HLT2.out HCN.out).1 | exact congrArg (Value.int .i64) (Int.natCast_succ j).symm), n3.out, n1.out, n2.out, n4.out, n5.out⟩
          case measure => first | exact (next_num HLT2.out HCN.out).2 | (have := HLT2.out; simp only [intOf]; omega)
        · obtain rfl : C = j := by omega
          have HO2 : Hid (Own KL wr (w.heap.size + 2) v (List.replicate ((i + 1) * C) 0)) := by
            rw [Nat.add_mul, Nat.one_mul]; exact HO.out
          have HT3 : Hid (B ≤ 1048576) := by have := HN.out; show _ ≤ _; omega
          have HNX := Lib.hid (next_num HLT.out HT3.out)
          have hk := HK.out
          clear hj hlt
          go_wp2_with fail
          exact ⟨⟨i + 1, v, HLT.out, (by first | exact congrArg (Value.int .i64) HNX.out.1 | exact congrArg (Value.int .i64) (Int.natCast_succ i).symm), HO2.out, vH.out, vR.out, HB.out, HW.out⟩, (by first | exact HNX.out.2 | (have := HLT.out; simp only [intOf]; omega))⟩
    · obtain rfl : B = i := by omega
      obtain ⟨a6, m6, k6, rfl⟩ := HO.out.form
      obtain ⟨a0, a1, a2, a3, a4⟩ := vH.out.five
      obtain ⟨x0, x1, x2, x3, x4⟩ := vR.out.five
      obtain ⟨y0, y1, y2, y3, y4⟩ := vR.out.soft
      clear hj hlt
      go_wp2_with fail
      obtain ⟨d0, d1, d2, d3, d4⟩ := (vR.out.set k B C (.slice a6 m6 k6) (.slice none 0 0)).five
      have HBW := set5_below (g := w.heap.size) (x0 := .int .i64 k) (x1 := .int .i64 (B : Int)) (x2 := .int .i64 (C : Int)) (x3 := (.slice a6 m6 k6)) (x4 := .slice none 0 0) HB.out (Nat.le_refl _)
      have HBT := set5_but wr w.heap.size (.int .i64 k) (.int .i64 (B : Int)) (.int .i64 (C : Int)) (.slice a6 m6 k6) (.slice none 0 0)
      change bodyPost _ _ _ _ _ (set5 wr w.heap.size (.int .i64 k) (.int .i64 (B : Int)) (.int .i64 (C : Int)) (.slice a6 m6 k6) (.slice none 0 0))
      have hO := HO.out.but HBT (by omega)
      generalize set5 wr w.heap.size (.int .i64 k) (.int .i64 (B : Int)) (.int .i64 (C : Int)) (.slice a6 m6 k6) (.slice none 0 0) = WX at *
      have HF : RNewP k B C (B * C) 0 w (.returned (.tuple #[.agg #[.int .i64 k, .int .i64 (B : Int), .int .i64 (C : Int), .slice a6 m6 k6, .slice none 0 0], .int .i64 0])) WX := ⟨_, _, rfl, hO, Own3.nil _ _, HBW⟩
      simp [bodyPost, results, Try.results23, go_sem, d0, d1, d2, d3, d4]
      exact HF
end Go.Proofs.Ytebdlmjpgohngaa

/- HISTOGRAMS: the document's New, of moments. Conditions: none. -/
namespace Go.Proofs.Ytebdlmjpgohngaa
open Go.RowKit

set_option maxHeartbeats 2000000 in
theorem rnew_1 (B : Nat) (hB1 : 1 ≤ B) (hB2 : B ≤ 257) (w : World) :
    Calls Try.prog 23 #[.int .i64 1, .int .i64 (B : Int), .int .i64 0] w fun e w' => RNewP 1 B 0 0 B w e w' := by
  have hm := fun w => refMay_any 1 (B : Int) 0 w
  rw [(may_1 (k := 1) (b := (B : Int)) (c := 0) (by omega) (by omega) rfl rfl).1] at hm
  have HN := Lib.hid (And.intro hB1 hB2)
  obtain ⟨W1, hW1⟩ : ∃ W1, w.alloc (.cells #[.int .i64 0, .int .i64 0, .int .i64 0, .slice none 0 0, .slice none 0 0] 45) = W1 := ⟨_, rfl⟩
  have vR : VarH w.heap.size 0 0 0 (.slice none 0 0) (.slice none 0 0) W1 ∧ Below w.heap.size w W1 ∧ W1.heap.size = w.heap.size + 1 := by subst hW1; exact ⟨VarH.new _ _ _ _ _ _ _, alloc_below _ _, by simp⟩
  obtain ⟨vR, b1, s1⟩ := vR
  obtain ⟨W2, hW2⟩ : ∃ W2, W1.alloc (.cells #[.int .i64 1, .int .i64 (B : Int), .int .i64 0, .slice none 0 0, .slice none 0 0] 45) = W2 := ⟨_, rfl⟩
  have vH : VarH W1.heap.size 1 B 0 (.slice none 0 0) (.slice none 0 0) W2 ∧ Below W1.heap.size W1 W2 ∧ W2.heap.size = W1.heap.size + 1 := by subst hW2; exact ⟨VarH.new _ _ _ _ _ _ _, alloc_below _ _, by simp⟩
  obtain ⟨vH, b2, s2⟩ := vH
  have vR1 := vR
  replace vR := Lib.hid (vR.below b2 vR.lt)
  rw [s1] at vH s2
  replace vH := Lib.hid vH
  have HB := Lib.hid (b1.trans (b2.mono b1.size))
  have HS := Lib.hid s2
  have HW2 := Lib.hid hW2
  clear hB1 hB2 b1 b2 s2 hW2
  go_enter Try.func23, Try.ntmps23
  go_upto_region 1 with fail
  clear hW1
  go_wp2_with fail
  refine (hm _).mono ?_
  rintro e w1 ⟨rfl, rfl⟩
  clear vR1 hm
  go_upto_region 4 with fail
  rw [HW2.out]
  go_wp2_with fail
  go_loopw [9] (fun iv wr => ∃ (i : Nat) (v : Value), i ≤ B ∧ iv = .int .i64 (i : Int) ∧ Hid (Own3 wr (w.heap.size + 2) v i (List.replicate (i * 3) 0)) ∧ Hid (VarH (w.heap.size + 1) 1 B 0 (.slice none 0 0) v wr) ∧ Hid (VarH w.heap.size 0 0 0 (.slice none 0 0) (.slice none 0 0) wr) ∧ Hid (Below w.heap.size w wr) ∧ Hid (w.heap.size + 2 ≤ wr.heap.size)) (fun iv _ => B - (intOf iv).toNat)
  case atStart => exact ⟨0, _, by omega, rfl, Own3.nil _ _, vH.out, vR.out, HB.out, (by have := HS.out; show _ ≤ _; omega)⟩
  case round =>
    obtain ⟨i, v, hj, rfl, HO, vH, vR, HB, HW⟩ := hrel
    by_cases hlt : i < B
    · have i1 : (i : Int) < (B : Int) := by omega
      have HLT := Lib.hid hlt
      clear hj hlt
      go_upto_region 7 with fail
      go_wp2_with fail
      go_loopw [10] (fun iv wr => iv = .int .i64 0 ∧ Hid (Own3 wr (w.heap.size + 2) v i (List.replicate (i * 3) 0)) ∧ Hid (VarH (w.heap.size + 1) 1 B 0 (.slice none 0 0) v wr) ∧ Hid (VarH w.heap.size 0 0 0 (.slice none 0 0) (.slice none 0 0) wr) ∧ Hid (Below w.heap.size w wr) ∧ Hid (w.heap.size + 2 ≤ wr.heap.size)) (fun _ _ => 0)
      case atStart => exact ⟨rfl, HO.out, vH.out, vR.out, HB.out, HW.out⟩
      case round =>
        obtain ⟨rfl, HO, vH, vR, HB, HW⟩ := hrel
        obtain ⟨a9, m9, k9, rfl⟩ := HO.out.form
        obtain ⟨a0, a1, a2, a3, a4⟩ := vH.out.five
        obtain ⟨f0, f1, f2, f3, f4⟩ := vH.out.soft
        have bA := alloc_below wr (.cells #[.int .i64 0, .int .i64 0, .int .i64 0] 74)
        have own2 := HO.out.below bA
        have cam : HoldsE KL (wr.alloc (.cells #[.int .i64 0, .int .i64 0, .int .i64 0] 74)) (some ⟨wr.heap.size, 0, none⟩) [0, 0, 0] := (Lst.madeT wr [0, 0, 0] 74).holds
        have vH2 := vH.out.below bA vH.out.lt
        obtain ⟨c0, c1, c2, c3, c4⟩ := vH2.five
        obtain ⟨e0, e1, e2, e3, e4⟩ := vH2.soft
        have vR2 := vR.out.below bA vR.out.lt
        have HB2 := Lib.hid (HB.out.trans (bA.mono HB.out.size))
        have hs2 : w.heap.size + 2 ≤ (wr.alloc (.cells #[.int .i64 0, .int .i64 0, .int .i64 0] 74)).heap.size := Nat.le_trans HW.out bA.size
        have HRM : Hid (i + 1 ≤ 1048576) := by have := HN.out; have := HLT.out; show _ ≤ _; omega
        have HNX : Hid (List.replicate (i * 3) (0 : Int) ++ [0, 0, 0] = List.replicate ((i + 1) * 3) 0) := by
          show _ = _
          rw [Nat.add_mul, Nat.one_mul, show ([0, 0, 0] : List Int) = List.replicate 3 0 from rfl, List.replicate_append_replicate]
        have HT3 : Hid (B ≤ 1048576) := by have := HN.out; show _ ≤ _; omega
        have HNM := Lib.hid (next_num HLT.out HT3.out)
        clear bA
        go_wp2_with (at_builtin; refine app3_own rfl _ _ rfl (w.heap.size + 2) hs2 _ i _ rfl own2 _ 1 1 [0, 0, 0] rfl rfl cam HRM.out ?_)
        intro v6 w6 ho6 hb6
        obtain ⟨a6, m6, k6, rfl⟩ := ho6.form
        have vH6 := vH2.below hb6 (by omega)
        have vR6 := vR2.below hb6 (by omega)
        obtain ⟨q0, q1, q2, q3, q4⟩ := vH6.five
        obtain ⟨r0, r1, r2, r3, r4⟩ := vH6.soft
        clear c0 c1 c2 c3 c4 e0 e1 e2 e3 e4 a0 a1 a2 a3 a4 f0 f1 f2 f3 f4
        have bz := But.setCell (w.heap.size + 1) 4 w6 (.slice a6 m6 k6)
        have n1 := Lib.hid (vH6.setM (.slice a6 m6 k6))
        have n2 := Lib.hid (vR6.but bz (by omega))
        have n3 := Lib.hid (ho6.but bz (by omega))
        rw [HNX.out] at n3
        have n4 := Lib.hid ((HB2.out.trans (hb6.mono (by omega))).trans (bz.below (by omega) (Nat.le_trans HB2.out.size hb6.size)))
        have n5 : Hid (w.heap.size + 2 ≤ (w6.setCell ⟨w.heap.size + 1, 4, none⟩ (.slice a6 m6 k6)).heap.size) := Nat.le_trans hs2 (Nat.le_trans hb6.size bz.size)
        clear bz
        go_wp2_with fail
        exact ⟨⟨i + 1, _, HLT.out, (by first | exact congrArg (Value.int .i64) HNM.out.1 | exact congrArg (Value.int .i64) (Int.natCast_succ i).symm), n3.out, n1.out, n2.out, n4.out, n5.out⟩, (by first | exact HNM.out.2 | (have := HLT.out; simp only [intOf]; omega))⟩
    · obtain rfl : B = i := by omega
      obtain ⟨a6, m6, k6, rfl⟩ := HO.out.form
      obtain ⟨a0, a1, a2, a3, a4⟩ := vH.out.five
      obtain ⟨x0, x1, x2, x3, x4⟩ := vR.out.five
      obtain ⟨y0, y1, y2, y3, y4⟩ := vR.out.soft
      clear hj hlt
      go_wp2_with fail
      obtain ⟨d0, d1, d2, d3, d4⟩ := (vR.out.set 1 B 0 (.slice none 0 0) (.slice a6 m6 k6)).five
      have HBW := set5_below (g := w.heap.size) (x0 := .int .i64 1) (x1 := .int .i64 (B : Int)) (x2 := .int .i64 0) (x3 := .slice none 0 0) (x4 := .slice a6 m6 k6) HB.out (Nat.le_refl _)
      have HBT := set5_but wr w.heap.size (.int .i64 1) (.int .i64 (B : Int)) (.int .i64 0) (.slice none 0 0) (.slice a6 m6 k6)
      change bodyPost _ _ _ _ _ (set5 wr w.heap.size (.int .i64 1) (.int .i64 (B : Int)) (.int .i64 0) (.slice none 0 0) (.slice a6 m6 k6))
      have hO := HO.out.but HBT (by omega)
      generalize set5 wr w.heap.size (.int .i64 1) (.int .i64 (B : Int)) (.int .i64 0) (.slice none 0 0) (.slice a6 m6 k6) = WX at *
      have HF : RNewP 1 B 0 0 B w (.returned (.tuple #[.agg #[.int .i64 1, .int .i64 (B : Int), .int .i64 0, .slice none 0 0, .slice a6 m6 k6], .int .i64 0])) WX := ⟨_, _, rfl, Own.nil _ _, hO, HBW⟩
      simp [bodyPost, results, Try.results23, go_sem, d0, d1, d2, d3, d4]
      exact HF
end Go.Proofs.Ytebdlmjpgohngaa

/- HistAdds: a histogram that is added to, beside the document's own. Conditions: each number is of 64 bits with a sign. -/
namespace Go.Proofs.Ytebdlmjpgohngaa
open Go.RowKit

/-- All blocks are as they were, but those from B on below v. -/
structure ButI (B v : Nat) (w w' : World) : Prop where
  os : w'.os = w.os
  tape : w'.tape = w.tape
  output : w'.output = w.output
  size : w.heap.size ≤ w'.heap.size
  block : ∀ k, k < w.heap.size → k < B ∨ v ≤ k → w'.heap[k]? = w.heap[k]?
theorem ButI.below {B v B0 : Nat} {w w' : World} (h : ButI B v w w') (hB : B0 ≤ B) (hs : B0 ≤ w.heap.size) : Below B0 w w' :=
  ⟨h.os, h.tape, h.output, h.size, fun k hk => h.block k (by omega) (.inl (by omega))⟩
theorem AtM.keep {g o : Nat} {x y z : Int} {w w' : World} (h : AtM g o x y z w) (hs : w.heap.size ≤ w'.heap.size) (hb : w'.heap[g]? = w.heap[g]?) : AtM g o x y z w' :=
  ⟨Nat.lt_of_lt_of_le h.lt hs, (World.cell?_of_block (w := w) hb).trans h.c0, (World.cell?_of_block (w := w) hb).trans h.c1, (World.cell?_of_block (w := w) hb).trans h.c2⟩
theorem VarH.keep {v : Nat} {k b c : Int} {C M : Value} {w w' : World} (h : VarH v k b c C M w) (hs : w.heap.size ≤ w'.heap.size) (hb : w'.heap[v]? = w.heap[v]?) : VarH v k b c C M w' :=
  ⟨Nat.lt_of_lt_of_le h.lt hs, (World.cell?_of_block (w := w) hb).trans h.c0, (World.cell?_of_block (w := w) hb).trans h.c1, (World.cell?_of_block (w := w) hb).trans h.c2, (World.cell?_of_block (w := w) hb).trans h.c3, (World.cell?_of_block (w := w) hb).trans h.c4,
    (World.frozen?_of_block (w := w) hb).trans h.f0, (World.frozen?_of_block (w := w) hb).trans h.f1, (World.frozen?_of_block (w := w) hb).trans h.f2, (World.frozen?_of_block (w := w) hb).trans h.f3, (World.frozen?_of_block (w := w) hb).trans h.f4⟩
theorem HoldsE.keepN {N : Nat → Prop} {a : Option Addr} {l : List Int} {w w' : World} (h : HoldsE KL w a l) (o : ∀ ad, a = some ad → N ad.block) (hs : w.heap.size ≤ w'.heap.size) (hb : ∀ b, b < w.heap.size → N b → w'.heap[b]? = w.heap[b]?) : HoldsE KL w' a l := by
  rcases h with h | ⟨g, off, ha, hlt, hr⟩
  · exact .inl h
  · exact .inr ⟨g, off, ha, Nat.lt_of_lt_of_le hlt hs, fun j hj => (World.cell?_of_block (w := w) (hb g hlt (o _ ha))).trans (hr j hj)⟩
theorem Reads.keepN {N : Nat → Prop} {d : HD} {ac am : Option Addr} {nc nm : Nat} {w w' : World} (h : Reads d ac nc am nm w) (o : On N ac am) (hs : w.heap.size ≤ w'.heap.size) (hb : ∀ b, b < w.heap.size → N b → w'.heap[b]? = w.heap[b]?) : Reads d ac nc am nm w' :=
  ⟨h.nc, h.nm, h.hc.keepN o.1 hs hb, h.hm.keepN o.2 hs hb, h.wc, h.wm⟩

/-- A variable holds a histogram of the caller's own, whose numbers lie from B on below it. -/
def Hold (v B : Nat) (d : HD) (w : World) : Prop :=
  (d = zD ∧ VarH v 0 0 0 (.slice none 0 0) (.slice none 0 0) w) ∨ (∃ g m, Kept v g m d w ∧ B ≤ g ∧ g < v ∧ B ≤ m ∧ m < v)
theorem Hold.below {v B : Nat} {d : HD} {w w' : World} (h : Hold v B d w) (hb : Below w.heap.size w w') : Hold v B d w' := by
  rcases h with ⟨e, h⟩ | ⟨g, m, h, k⟩
  · exact .inl ⟨e, h.below hb h.lt⟩
  · exact .inr ⟨g, m, h.below hb, k⟩
theorem Hold.but {v B b : Nat} {d : HD} {w w' : World} (h : Hold v B d w) (hb : But b w w') (hn : v < b) : Hold v B d w' := by
  rcases h with ⟨e, h⟩ | ⟨g, m, h, k1, k2, k3, k4⟩
  · exact .inl ⟨e, h.but hb (by omega)⟩
  · exact .inr ⟨g, m, h.but2 (hb.fst (m := b)) (by omega) (by omega) (by omega) (by omega) (by omega) (by omega), k1, k2, k3, k4⟩
theorem Hold.read {v B : Nat} {d : HD} {w : World} (h : Hold v B d w) : ∃ ac nc cc am nm cm, VarH v d.k d.b d.c (.slice ac nc cc) (.slice am nm cm) w ∧ Reads d ac nc am nm w := by
  rcases h with ⟨rfl, h⟩ | ⟨g, m, h, k⟩
  · exact ⟨none, 0, 0, none, 0, 0, h, Reads.zero w⟩
  · exact h.read
theorem add_hold (v B : Nat) (d : HD) (b t x : Int) (ht : Whole t) (hx : Whole x) (w : World) (h : Hold v B d w) (D2 : HD) (E2 : Int) (hD : addD d b t x = D2) (hE : addE d b t x = E2) :
    Calls Try.prog 37 #[.pointer (some ⟨v, 0, none⟩), .int .i64 b, .int .i64 t, .int .i64 x] w fun e w' => e = .returned (.int .i64 E2) ∧ Hold v B D2 w' ∧ ButI B v w w' := by
  rcases h with ⟨rfl, h⟩ | ⟨g, m, h, k1, k2, k3, k4⟩
  · have hv := h.lt
    have hz : Wholes ([] : List Int) := fun j hj => absurd hj (Nat.not_lt_zero _)
    have hK : Kept v (w.heap.size + 1) (w.heap.size + 2) zD w := ⟨_, _, h, .inl ⟨rfl, rfl, rfl⟩, hz, hz, by omega, by omega, by omega⟩
    refine (add_any v _ _ zD b t x ht hx w hK).mono ?_
    rintro e w' ⟨rfl, -, hb⟩
    refine ⟨by rw [hE], .inl ⟨hD.symm.trans (addD_zero b t x).2, h.but2 hb (by omega) (by omega)⟩, hb.os, hb.tape, hb.output, hb.size, fun k hk _ => hb.block k hk (by omega) (by omega)⟩
  · refine (add_any v g m d b t x ht hx w h).mono ?_
    rintro e w' ⟨rfl, hK, hb⟩
    exact ⟨by rw [hE], .inr ⟨g, m, hD ▸ hK, k1, k2, k3, k4⟩, hb.os, hb.tape, hb.output, hb.size, fun k hk _ => hb.block k hk (by omega) (by omega)⟩

/-- A variable holds the document's own histogram; its numbers lie past v, and not in the variable. -/
structure Want (v vW : Nat) (d : HD) (ac : Option Addr) (nc cc : Nat) (am : Option Addr) (nm cm : Nat) (w : World) : Prop where
  V : VarH vW d.k d.b d.c (.slice ac nc cc) (.slice am nm cm) w
  R : Reads d ac nc am nm w
  Z : (ac = none → cc = 0) ∧ (am = none → cm = 0)
  O : On (fun b => v < b ∧ b ≠ vW) ac am
theorem Want.below {v vW : Nat} {d : HD} {ac : Option Addr} {nc cc : Nat} {am : Option Addr} {nm cm : Nat} {w w' : World} (h : Want v vW d ac nc cc am nm cm w) (hb : Below w.heap.size w w') : Want v vW d ac nc cc am nm cm w' :=
  ⟨h.V.below hb h.V.lt, h.R.below hb, h.Z, h.O⟩
theorem Want.butI {v B vW : Nat} {d : HD} {ac : Option Addr} {nc cc : Nat} {am : Option Addr} {nm cm : Nat} {w w' : World} (h : Want v vW d ac nc cc am nm cm w) (hb : ButI B v w w') (hv : v < vW) : Want v vW d ac nc cc am nm cm w' :=
  ⟨h.V.keep hb.size (hb.block vW h.V.lt (.inr (by omega))), h.R.keepN h.O hb.size (fun b hlt hN => hb.block b hlt (.inr (by omega))), h.Z, h.O⟩
theorem radd_want (d : HD) (ac am : Option Addr) (nc cc nm cm : Nat) (b t x : Int) (w : World) (h : Reads d ac nc am nm w) (z : (ac = none → cc = 0) ∧ (am = none → cm = 0)) (ht : Whole t) (hx : Whole x) (D2 : HD) (E2 : Int) (hD : addD d b t x = D2) (hE : addE d b t x = E2) :
    Calls Try.prog 24 #[.agg #[.int .i64 d.k, .int .i64 d.b, .int .i64 d.c, .slice ac nc cc, .slice am nm cm], .int .i64 b, .int .i64 t, .int .i64 x] w fun e w' =>
      ∃ ac' nc' cc' am' nm' cm', e = .returned (.tuple #[.agg #[.int .i64 D2.k, .int .i64 D2.b, .int .i64 D2.c, .slice ac' nc' cc', .slice am' nm' cm'], .int .i64 E2]) ∧ Reads D2 ac' nc' am' nm' w' ∧
        ((ac' = none → cc' = 0) ∧ (am' = none → cm' = 0)) ∧ (∀ N : Nat → Prop, (∀ b, w.heap.size ≤ b → N b) → On N ac am → On N ac' am') ∧ Below w.heap.size w w' := by
  have hk : D2.k = d.k ∧ D2.b = d.b ∧ D2.c = d.c := by
    subst hD
    unfold addD
    split
    · exact ⟨rfl, rfl, rfl⟩
    · split <;> exact ⟨rfl, rfl, rfl⟩
  refine (radd_any d ac am nc cc nm cm b t x w h z.1 z.2 ht hx).mono ?_
  rintro e w' ⟨ac', nc', cc', am', nm', cm', rfl, hR, hz, hO, hb⟩
  exact ⟨ac', nc', cc', am', nm', cm', by rw [hE, hk.1, hk.2.1, hk.2.2], hD ▸ hR, hz, hO, hb⟩

/-- What New hands back: once it lies in a variable. -/
def NewA (d : HD) (E : Int) (w : World) (e : Ending) (w' : World) : Prop :=
  ∃ ac nc cc am nm cm, e = .returned (.tuple #[.agg #[.int .i64 d.k, .int .i64 d.b, .int .i64 d.c, .slice ac nc cc, .slice am nm cm], .int .i64 E]) ∧ Below w.heap.size w w' ∧
    ∀ w2, Below w'.heap.size w' w2 → VarH w'.heap.size d.k d.b d.c (.slice ac nc cc) (.slice am nm cm) w2 → Hold w'.heap.size w.heap.size d w2
/-- What the document's New hands back. -/
def RNewA (d : HD) (E : Int) (w : World) (e : Ending) (w' : World) : Prop :=
  ∃ ac nc cc am nm cm, e = .returned (.tuple #[.agg #[.int .i64 d.k, .int .i64 d.b, .int .i64 d.c, .slice ac nc cc, .slice am nm cm], .int .i64 E]) ∧ Below w.heap.size w w' ∧ Reads d ac nc am nm w' ∧
    ((ac = none → cc = 0) ∧ (am = none → cm = 0)) ∧ On (fun b => w.heap.size ≤ b ∧ b < w'.heap.size) ac am
theorem NewP.are {k b c : Int} {p q : Nat} {w : World} {e : Ending} {w' : World} (h : NewP k b c p q w e w') : NewA ⟨k, b, c, List.replicate p 0, List.replicate (q * 3) 0⟩ 0 w e w' := by
  obtain ⟨g, m, rfl, h1, h2, g1, g2, hgm, hb⟩ := h
  refine ⟨_, _, _, _, _, _, rfl, hb, fun w2 b2 hv => .inr ⟨g, m, ?_, g1, h1.lt, g2, h2.lt⟩⟩
  have l1 := h1.lt
  have l2 := h2.lt
  exact NewP.kept hv (h1.below b2 h1.lt) (h2.below b2 h2.lt) hgm (by omega) (by omega)
theorem zeros_all (n : Nat) : Wholes (List.replicate n (0 : Int)) := by
  intro j hj
  simp at hj
  rw [show (List.replicate n (0 : Int)).getD j 0 = 0 by simp [List.getD_eq_getElem?_getD, hj]]
  exact ⟨by omega, by omega⟩
theorem RNewP.are {k b c : Int} {p q : Nat} {w : World} {e : Ending} {w' : World} (h : RNewP k b c p q w e w') : RNewA ⟨k, b, c, List.replicate p 0, List.replicate (q * 3) 0⟩ 0 w e w' := by
  obtain ⟨C, M, rfl, h1, h2, hb⟩ := h
  have a1 : ∃ ac nc cc, C = .slice ac nc cc ∧ (List.replicate p (0 : Int)).length = nc ∧ HoldsE KL w' ac (List.replicate p 0) ∧ (ac = none → cc = 0) ∧ ∀ ad, ac = some ad → w.heap.size ≤ ad.block ∧ ad.block < w'.heap.size := by
    rcases h1.lst with ⟨rfl, h0⟩ | ⟨g, cap, rfl, hB, -, -, hL⟩
    · exact ⟨none, 0, 0, rfl, by rw [h0]; rfl, .inl h0, fun _ => rfl, fun ad h => by cases h⟩
    · exact ⟨_, _, cap, rfl, rfl, hL.holds, fun h => (by cases h), fun ad h => (by
        obtain rfl := Option.some.inj h
        have := hL.lt
        show w.heap.size ≤ g ∧ g < _
        omega)⟩
  have a2 : ∃ am nm cm, M = .slice am nm cm ∧ (List.replicate (q * 3) (0 : Int)).length = nm * 3 ∧ HoldsE KL w' am (List.replicate (q * 3) 0) ∧ (am = none → cm = 0) ∧ ∀ ad, am = some ad → w.heap.size ≤ ad.block ∧ ad.block < w'.heap.size := by
    obtain ⟨hl, ⟨rfl, h0⟩ | ⟨g, cap, rfl, hB, -, -, hL⟩⟩ := h2.lst
    · exact ⟨none, 0, 0, rfl, by rw [hl, h0], .inl (by rw [h0]; rfl), fun _ => rfl, fun ad h => by cases h⟩
    · exact ⟨_, _, cap, rfl, hl, hL.holds, fun h => (by cases h), fun ad h => (by
        obtain rfl := Option.some.inj h
        have := hL.lt
        show w.heap.size ≤ g ∧ g < _
        omega)⟩
  obtain ⟨ac, nc, cc, rfl, c1, c2, c3, c4⟩ := a1
  obtain ⟨am, nm, cm, rfl, m1, m2, m3, m4⟩ := a2
  exact ⟨ac, nc, cc, am, nm, cm, rfl, hb, ⟨c1, m1, c2, m2, zeros_all _, zeros_all _⟩, ⟨c3, m3⟩, c4, m4⟩

theorem new_both (k b c : Int) : ∃ d E, (E = 0 → rightD d = true) ∧ d.lc.length ≤ 65792 ∧ d.lm.length ≤ 771 ∧
    (∀ w, Calls Try.prog 21 #[.int .i64 k, .int .i64 b, .int .i64 c] w fun e w' => NewA d E w e w') ∧
    (∀ w, Calls Try.prog 23 #[.int .i64 k, .int .i64 b, .int .i64 c] w fun e w' => RNewA d E w e w') := by
  by_cases hp : 1 ≤ b ∧ b ≤ 257 ∧ ((k = 0 ∧ 2 ≤ c ∧ c ≤ 256) ∨ (k = 1 ∧ c = 0))
  · obtain ⟨b1, b2, h⟩ := hp
    obtain ⟨B, rfl⟩ : ∃ B : Nat, b = (B : Int) := ⟨b.toNat, by omega⟩
    rcases h with ⟨rfl, c1, c2⟩ | ⟨rfl, rfl⟩
    · obtain ⟨C, rfl⟩ : ∃ C : Nat, c = (C : Int) := ⟨c.toNat, by omega⟩
      have hm := mul_room b1 b2 c1 c2
      have hl : lenC 0 (B : Int) (C : Int) = ((B * C : Nat) : Int) := by rw [(may_0 b1 b2 rfl c1 c2).2.1]; simp
      have hq : lenM 0 (B : Int) (C : Int) = ((0 : Nat) : Int) := (may_0 b1 b2 rfl c1 c2).2.2
      have hn : ((B * C : Nat) : Int) = (B : Int) * (C : Int) := by simp
      refine ⟨⟨0, B, C, List.replicate (B * C) 0, List.replicate (0 * 3) 0⟩, 0, fun _ => ?_, by simp only [List.length_replicate]; omega, by simp only [List.length_replicate]; omega,
        fun w => (new_yes 0 B C (B * C) 0 hl hq (by omega) w).mono fun e w' h => h.are, fun w => (rnew_0 0 rfl B C (by omega) (by omega) (by omega) (by omega) w).mono fun e w' h => h.are⟩
      unfold rightD
      simp only [List.length_replicate, decide_eq_true_eq]
      rw [hl, hq]
      omega
    · have hl : lenC 1 (B : Int) 0 = ((0 : Nat) : Int) := (may_1 b1 b2 rfl rfl).2.1
      have hq : lenM 1 (B : Int) 0 = (B : Int) := (may_1 b1 b2 rfl rfl).2.2
      refine ⟨⟨1, B, 0, List.replicate 0 0, List.replicate (B * 3) 0⟩, 0, fun _ => ?_, by simp only [List.length_replicate]; omega, by simp only [List.length_replicate]; omega,
        fun w => (new_yes 1 B 0 0 B hl hq (by omega) w).mono fun e w' h => h.are, fun w => (rnew_1 B (by omega) (by omega) w).mono fun e w' h => h.are⟩
      unfold rightD
      simp only [List.length_replicate, decide_eq_true_eq]
      rw [hl, hq]
      omega
  · have hm := may_no hp
    have h0 : lenC k b c + lenM k b c = 0 := by
      have e1 : lenC k b c = 0 := if_neg (by omega)
      have e2 : lenM k b c = 0 := if_neg (by omega)
      rw [e1, e2]; rfl
    refine ⟨zD, 1, fun h => (by cases h), Nat.zero_le _, Nat.zero_le _, fun w => (new_no k b c h0 w).mono ?_, fun w => (rnew_no k b c hm w).mono ?_⟩
    · rintro e w' ⟨rfl, hb⟩
      exact ⟨none, 0, 0, none, 0, 0, rfl, hb, fun w2 _ hv => .inl ⟨rfl, hv⟩⟩
    · rintro e w' ⟨rfl, hb⟩
      exact ⟨none, 0, 0, none, 0, 0, rfl, hb, Reads.zero w', ⟨fun _ => rfl, fun _ => rfl⟩, fun ad h => (by cases h), fun ad h => by cases h⟩
end Go.Proofs.Ytebdlmjpgohngaa

/- A ROW IS ADDED: what comes of one row of a sample, by the program. Conditions: a right sample of at most 2^20 cells, targets, weights of 64 bits; a column that there is. -/
namespace Go.Proofs.Ytebdlmjpgohngaa
open Go.RowKit

/-- What a sample says lies where its slices lead to. -/
structure HoldsS (s : SD) (aC aT aW : Option Addr) (w : World) : Prop where
  hC : HoldsE KW w aC s.C
  hT : HoldsE KL w aT s.T
  hW : HoldsE KN w aW s.W
  c16 : In16 s.C
  wT : Wholes s.T
  wW : Wholes s.W
  lC : s.C.length ≤ 1048576
theorem HoldsS.below {s : SD} {aC aT aW : Option Addr} {w w' : World} (h : HoldsS s aC aT aW w) (b : Go.RowKit.Below w.heap.size w w') : HoldsS s aC aT aW w' :=
  ⟨h.hC.below b, h.hT.below b, h.hW.below b, h.c16, h.wT, h.wW, h.lC⟩

/-- What comes of one row: the error's number; the histogram. -/
def stepE (s : SD) (col : Nat) (row : Int) (d : HD) : Int :=
  if row < 0 ∨ s.r ≤ row then 5 else addE d (s.C.getD (col * s.r.toNat + row.toNat) 0) (s.T.getD row.toNat 0) (s.W.getD row.toNat 0)
def stepD (s : SD) (col : Nat) (row : Int) (d : HD) : HD :=
  if row < 0 ∨ s.r ≤ row then d else addD d (s.C.getD (col * s.r.toNat + row.toNat) 0) (s.T.getD row.toNat 0) (s.W.getD row.toNat 0)

theorem ButI.of_below {B v : Nat} {w w' : World} (h : Below w.heap.size w w') : ButI B v w w' := ⟨h.os, h.tape, h.output, h.size, fun k hk _ => h.block k hk⟩
theorem ButI.trans {B v : Nat} {w1 w2 w3 : World} (h : ButI B v w1 w2) (k : ButI B v w2 w3) : ButI B v w1 w3 :=
  ⟨k.os.trans h.os, k.tape.trans h.tape, k.output.trans h.output, Nat.le_trans h.size k.size, fun i hi hn => (k.block i (Nat.lt_of_lt_of_le hi h.size) hn).trans (h.block i hi hn)⟩

theorem rightS_are {s : SD} (h : rightS s = true) : chk s.k s.c s.b s.t s.d s.l s.p = 0 ∧ fitB s.r s.q s.C.length = true ∧ (s.T.length : Int) = s.r ∧ (s.W.length : Int) = s.r := of_decide_eq_true h

set_option maxRecDepth 20000 in
set_option maxHeartbeats 1000000 in
theorem add_no (s : SD) (aC aT aW : Option Addr) (cC cT cW col : Nat) (row : Int) (hrow : row < 0 ∨ s.r ≤ row) (v B : Nat) (d : HD) (w : World) (hH : Hold v B d w) :
    Calls Try.prog 22 #[.pointer (some ⟨v, 0, none⟩), .agg (smpA s.k s.c s.b s.t s.d s.l s.p s.r s.q (.slice aC s.C.length cC) (.slice aT s.T.length cT) (.slice aW s.W.length cW)), .int .i64 (col : Int), .int .i64 row] w fun e w' =>
      e = .returned (.int .i64 5) ∧ Hold v B d w' ∧ ButI B v w w' := by
  have hc := fun w1 => cellM_no s.r s.q aC s.C.length cC row col (fun h => by have := h.1; omega) w1
  obtain ⟨k, c, b, t, d', l, p, r, q, C, T, W⟩ := s
  clear hrow
  simp only at *
  unfold mx at hc
  have hbx := BoxS.new w (smpA k c b t d' l p r q (.slice aC C.length cC) (.slice aT T.length cT) (.slice aW W.length cW))
  have hb0 := alloc_below w (.cells (smpA k c b t d' l p r q (.slice aC C.length cC) (.slice aT T.length cT) (.slice aW W.length cW)) 38)
  obtain ⟨w1, hw1⟩ : ∃ w1, w.alloc (.cells (smpA k c b t d' l p r q (.slice aC C.length cC) (.slice aT T.length cT) (.slice aW W.length cW)) 38) = w1 := ⟨_, rfl⟩
  rw [hw1] at hbx hb0
  have HB := Lib.hid hb0
  have HH := Lib.hid hH
  have HX := Lib.hid hbx
  unfold smpA at hw1
  unfold smpA
  clear hbx hb0 hH
  go_enter Try.func22, Try.ntmps22
  go_upto_region 1 with fail
  clear hw1
  obtain ⟨-, ⟨c7, c8, c9⟩, cT', cW'⟩ := HX.out.cells
  go_wp2_with fail
  refine (hc _).mono ?_
  rintro e w2 ⟨rfl, b2⟩
  have hb := HB.out.trans (b2.mono HB.out.size)
  clear c7 c8 c9 cT' cW' b2
  go_wp2_with fail
  go_ret
  exact ⟨rfl, HH.out.below hb, ButI.of_below hb⟩

set_option maxRecDepth 20000 in
set_option maxHeartbeats 1000000 in
theorem add_yes (s : SD) (aC aT aW : Option Addr) (cC cT cW col i : Nat) (w0 w : World) (hS : HoldsS s aC aT aW w0) (hb0 : Below w0.heap.size w0 w) (hr : rightS s = true) (hcol : (col : Int) < s.q) (hi : (i : Int) < s.r) (v B : Nat) (d : HD) (hH : Hold v B d w) :
    Calls Try.prog 22 #[.pointer (some ⟨v, 0, none⟩), .agg (smpA s.k s.c s.b s.t s.d s.l s.p s.r s.q (.slice aC s.C.length cC) (.slice aT s.T.length cT) (.slice aW s.W.length cW)), .int .i64 (col : Int), .int .i64 (i : Int)] w fun e w' =>
      e = .returned (.int .i64 (stepE s col i d)) ∧ Hold v B (stepD s col i d) w' ∧ ButI B v w w' := by
  obtain ⟨-, hf, hT, hW⟩ := rightS_are hr
  obtain ⟨rn, hrn⟩ : ∃ rn : Nat, s.r = (rn : Int) := ⟨s.T.length, hT.symm⟩
  obtain ⟨qn, hqn⟩ : ∃ qn : Nat, s.q = (qn : Int) := ⟨s.q.toNat, by omega⟩
  have hE : stepE s col i d = addE d (s.C.getD (col * rn + i) 0) (s.T.getD i 0) (s.W.getD i 0) := by
    unfold stepE; rw [if_neg (by omega), hrn]; rfl
  have hD : stepD s col i d = addD d (s.C.getD (col * rn + i) 0) (s.T.getD i 0) (s.W.getD i 0) := by
    unfold stepD; rw [if_neg (by omega), hrn]; rfl
  rw [hE, hD]
  clear hE hD hr
  have hiT : i < s.T.length := by omega
  have hiW : i < s.W.length := by omega
  have wt := hS.wT i hiT
  have ww := hS.wW i hiW
  obtain ⟨gT, oT, rfl, lgT, fT⟩ := hS.hT.at hiT
  obtain ⟨gW, oW, rfl, lgW, fW⟩ := hS.hW.at hiW
  have f1 := fT i hiT
  have f2 := fW i hiW
  obtain ⟨k, c, b, t, d', l, p, r, q, C, T, W⟩ := s
  simp only at *
  subst hrn hqn
  have hc := fun w1 (hb : Below w0.heap.size w0 w1) => cellM_ok rn qn i col C.length aC cC C rfl hS.lC hS.c16 hf (by omega) (by omega) w1 (hS.hC.below hb)
  change w0.cell? ⟨gT, oT + i, none⟩ = some (.int .i64 (T.getD i 0)) at f1
  change w0.cell? ⟨gW, oW + i, none⟩ = some (.int .i64 (W.getD i 0)) at f2
  generalize T.getD i 0 = t0 at *
  generalize W.getD i 0 = x0 at *
  generalize C.getD (col * rn + i) 0 = n0 at *
  unfold mx at hc
  have i1 : (i : Int) < (T.length : Int) := by omega
  have i2 : (i : Int) < (W.length : Int) := by omega
  have hA := fun w1 (h : Hold v B d w1) => add_hold v B d n0 t0 x0 wt ww w1 h _ _ rfl rfl
  have hbx := BoxS.new w (smpA k c b t d' l p rn qn (.slice aC C.length cC) (.slice (some ⟨gT, oT, none⟩) T.length cT) (.slice (some ⟨gW, oW, none⟩) W.length cW))
  have hb1 := alloc_below w (.cells (smpA k c b t d' l p rn qn (.slice aC C.length cC) (.slice (some ⟨gT, oT, none⟩) T.length cT) (.slice (some ⟨gW, oW, none⟩) W.length cW)) 38)
  obtain ⟨w1, hw1⟩ : ∃ w1, w.alloc (.cells (smpA k c b t d' l p rn qn (.slice aC C.length cC) (.slice (some ⟨gT, oT, none⟩) T.length cT) (.slice (some ⟨gW, oW, none⟩) W.length cW)) 38) = w1 := ⟨_, rfl⟩
  rw [hw1] at hbx hb1
  have HB := Lib.hid hb1
  have HB0 := Lib.hid hb0
  have HH := Lib.hid hH
  have HX := Lib.hid hbx
  have HF := Lib.hid (And.intro (And.intro lgT f1) (And.intro lgW f2))
  generalize T.length = nT at *
  generalize W.length = nW at *
  generalize C.length = nC at *
  unfold smpA at hw1
  unfold smpA
  clear hiT hiW hbx hb1 hb0 hH fT fW f1 f2 lgT lgW hT hW hf hcol hi wt ww hS
  go_enter Try.func22, Try.ntmps22
  go_upto_region 1 with fail
  clear hw1
  obtain ⟨-, ⟨c7, c8, c9⟩, cT', cW'⟩ := HX.out.cells
  go_wp2_with fail
  refine (hc _ (HB0.out.trans (HB.out.mono HB0.out.size))).mono ?_
  rintro e w2 ⟨rfl, b2⟩
  replace HX := Lib.hid (HX.out.on b2)
  replace HB := Lib.hid (HB.out.trans (b2.mono HB.out.size))
  have hb2 := HB0.out.trans (HB.out.mono HB0.out.size)
  have f1 := (hb2.cell (by exact HF.out.1.1)).trans HF.out.1.2
  have f2 := (hb2.cell (by exact HF.out.2.1)).trans HF.out.2.2
  clear c7 c8 c9 cT' cW' b2 hb2 hc
  obtain ⟨-, ⟨c7, c8, c9⟩, cT', cW'⟩ := HX.out.cells
  go_wp2_with fail
  go_still_tail 12, (by kernel_rfl)
  change wpList _ _ _ _ _ w2.drew
  have hbd : Below w2.heap.size w2 w2.drew := ⟨rfl, rfl, rfl, Nat.le_refl _, fun _ _ => rfl⟩
  replace HB := Lib.hid (HB.out.trans (hbd.mono HB.out.size))
  clear c7 c8 c9 cT' cW' f1 f2 HX hbd i1 i2
  generalize w2.drew = w3 at *
  go_wp2_with fail
  refine (hA _ (HH.out.below HB.out)).mono ?_
  rintro e w4 ⟨rfl, h4, b4⟩
  go_wp2_with fail
  go_ret
  exact ⟨rfl, h4, (ButI.of_below HB.out).trans b4⟩
end Go.Proofs.Ytebdlmjpgohngaa

/- A SAMPLE's HISTOGRAM, by the program. Conditions: at most 2^20 cells; targets, weights, rows of 64 bits with a sign; at most 2^20 rows that are asked for. -/
namespace Go.Proofs.Ytebdlmjpgohngaa
open Go.RowKit

/-- The rows from one on: the histogram; the error's number. -/
def rowsF (s : SD) (col : Nat) : List Int → HD → HD × Int
  | [], d => (d, 0)
  | row :: rest, d => if stepE s col row d = 0 then rowsF s col rest (stepD s col row d) else (zD, stepE s col row d)
/-- No number has come yet. -/
def zeroH (k b c : Int) : HD := ⟨k, b, c, List.replicate (lenC k b c).toNat 0, List.replicate ((lenM k b c).toNat * 3) 0⟩
/-- A sample's histogram, of a column and rows; the error's number. -/
def histF (s : SD) (col : Int) (rows : List Int) : HD × Int :=
  if (col < 0 ∨ s.q ≤ col) ∨ rightS s = false then (zD, 8) else rowsF s col.toNat rows (zeroH s.k (s.b + 1) s.c)

theorem rowsF_at (s : SD) (col : Nat) (rows : List Int) (t : Nat) (ht : t < rows.length) (d : HD) :
    rowsF s col (rows.drop t) d = if stepE s col (rows.getD t 0) d = 0 then rowsF s col (rows.drop (t + 1)) (stepD s col (rows.getD t 0) d) else (zD, stepE s col (rows.getD t 0) d) := by
  rw [List.drop_eq_getElem_cons ht, List.getD_eq_getElem?_getD, List.getElem?_eq_getElem ht]
  rfl

theorem st_zero {n lo hi ab r : Int} (hab : ab ≠ 0) (h : st n lo hi ab r = 0) : (lo ≤ n ∧ n ≤ hi) ∧ r = 0 := by
  unfold st at h
  split at h
  · omega
  · split at h
    · omega
    · omega
theorem chk_right {k c b t d l p : Int} (h : chk k c b t d l p = 0) : 1 ≤ b + 1 ∧ b + 1 ≤ 257 ∧ ((k = 0 ∧ 2 ≤ c ∧ c ≤ 256) ∨ (k = 1 ∧ c = 0)) := by
  unfold chk at h
  obtain ⟨hk, h⟩ := st_zero (by decide) h
  obtain ⟨hc, h⟩ := st_zero (by unfold cAb; split <;> omega) h
  obtain ⟨hb, h⟩ := st_zero (by decide) h
  unfold cLo cHi at hc
  split at hc <;> omega

/-- Where no number has come yet, by the program and by the document. -/
theorem new_ok (k b c : Int) (hp : 1 ≤ b ∧ b ≤ 257 ∧ ((k = 0 ∧ 2 ≤ c ∧ c ≤ 256) ∨ (k = 1 ∧ c = 0))) : rightD (zeroH k b c) = true ∧ (zeroH k b c).lc.length ≤ 65792 ∧ (zeroH k b c).lm.length ≤ 771 ∧
    (∀ w, Calls Try.prog 21 #[.int .i64 k, .int .i64 b, .int .i64 c] w fun e w' => NewA (zeroH k b c) 0 w e w') ∧
    (∀ w, Calls Try.prog 23 #[.int .i64 k, .int .i64 b, .int .i64 c] w fun e w' => RNewA (zeroH k b c) 0 w e w') := by
  obtain ⟨b1, b2, h⟩ := hp
  obtain ⟨B, rfl⟩ : ∃ B : Nat, b = (B : Int) := ⟨b.toNat, by omega⟩
  rcases h with ⟨rfl, c1, c2⟩ | ⟨rfl, rfl⟩
  · obtain ⟨C, rfl⟩ : ∃ C : Nat, c = (C : Int) := ⟨c.toNat, by omega⟩
    have hm := mul_room b1 b2 c1 c2
    have hl : lenC 0 (B : Int) (C : Int) = ((B * C : Nat) : Int) := by rw [(may_0 b1 b2 rfl c1 c2).2.1]; simp
    have hq : lenM 0 (B : Int) (C : Int) = ((0 : Nat) : Int) := (may_0 b1 b2 rfl c1 c2).2.2
    have hn : ((B * C : Nat) : Int) = (B : Int) * (C : Int) := by simp
    have hz : zeroH 0 B C = ⟨0, B, C, List.replicate (B * C) 0, List.replicate (0 * 3) 0⟩ := by
      unfold zeroH; rw [hl, hq]; rfl
    rw [hz]
    refine ⟨?_, by simp only [List.length_replicate]; omega, by simp only [List.length_replicate]; omega,
      fun w => (new_yes 0 B C (B * C) 0 hl hq (by omega) w).mono fun e w' h => h.are, fun w => (rnew_0 0 rfl B C (by omega) (by omega) (by omega) (by omega) w).mono fun e w' h => h.are⟩
    unfold rightD
    simp only [List.length_replicate, decide_eq_true_eq]
    rw [hl, hq]
    omega
  · have hl : lenC 1 (B : Int) 0 = ((0 : Nat) : Int) := (may_1 b1 b2 rfl rfl).2.1
    have hq : lenM 1 (B : Int) 0 = (B : Int) := (may_1 b1 b2 rfl rfl).2.2
    have hz : zeroH 1 B 0 = ⟨1, B, 0, List.replicate 0 0, List.replicate (B * 3) 0⟩ := by
      unfold zeroH; rw [hl, hq]; rfl
    rw [hz]
    refine ⟨?_, by simp only [List.length_replicate]; omega, by simp only [List.length_replicate]; omega,
      fun w => (new_yes 1 B 0 0 B hl hq (by omega) w).mono fun e w' h => h.are, fun w => (rnew_1 B (by omega) (by omega) w).mono fun e w' h => h.are⟩
    unfold rightD
    simp only [List.length_replicate, decide_eq_true_eq]
    rw [hl, hq]
    omega

/-- What a variable holds, and that its numbers lie past a place. -/
theorem Hold.readP {v B : Nat} {d : HD} {w : World} (h : Hold v B d w) : ∃ ac nc cc am nm cm, VarH v d.k d.b d.c (.slice ac nc cc) (.slice am nm cm) w ∧ Reads d ac nc am nm w ∧ Past B ac am ∧ ∀ N, (∀ b, B ≤ b → b < v → N b) → On N ac am := by
  rcases h with ⟨rfl, h⟩ | ⟨g, m, h, k1, k2, k3, k4⟩
  · exact ⟨none, 0, 0, none, 0, 0, h, Reads.zero w, ⟨fun _ h => (by cases h), fun _ h => (by cases h)⟩, fun N _ => ⟨fun _ h => (by cases h), fun _ h => (by cases h)⟩⟩
  · obtain ⟨C, M, hv, hr, h1, h2, h3, h4, h5⟩ := h
    rcases hr with ⟨rfl, rfl, rfl⟩ | ⟨nm, cc, cm, rfl, rfl, e3, e4, e5, l1, l2⟩
    · exact ⟨none, 0, 0, none, 0, 0, hv, Reads.zero w, ⟨fun _ h => (by cases h), fun _ h => (by cases h)⟩, fun N _ => ⟨fun _ h => (by cases h), fun _ h => (by cases h)⟩⟩
    · exact ⟨_, _, cc, _, nm, cm, hv, ⟨rfl, e3, l1.holds, l2.holds, h1, h2⟩, ⟨fun _ h => (by cases h; exact k1), fun _ h => (by cases h; exact k3)⟩, fun N hN => ⟨fun _ h => (by cases h; exact hN g k1 k2), fun _ h => (by cases h; exact hN m k3 k4)⟩⟩

/-- A row is added. -/
theorem add_all (s : SD) (aC aT aW : Option Addr) (cC cT cW col : Nat) (row : Int) (w0 w : World) (hS : HoldsS s aC aT aW w0) (hb0 : Below w0.heap.size w0 w) (hr : rightS s = true) (hcol : (col : Int) < s.q) (v B : Nat) (d : HD) (hH : Hold v B d w) (E : Int) (hE : stepE s col row d = E) (D : HD) (hD : stepD s col row d = D) :
    Calls Try.prog 22 #[.pointer (some ⟨v, 0, none⟩), .agg (smpA s.k s.c s.b s.t s.d s.l s.p s.r s.q (.slice aC s.C.length cC) (.slice aT s.T.length cT) (.slice aW s.W.length cW)), .int .i64 (col : Int), .int .i64 row] w fun e w' =>
      e = .returned (.int .i64 E) ∧ Hold v B D w' ∧ ButI B v w w' := by
  subst hE hD
  by_cases h : row < 0 ∨ s.r ≤ row
  · have e1 : stepE s col row d = 5 := if_pos h
    have e2 : stepD s col row d = d := if_pos h
    rw [e1, e2]
    exact add_no s aC aT aW cC cT cW col row h v B d w hH
  · obtain ⟨i, rfl⟩ : ∃ i : Nat, row = (i : Int) := ⟨row.toNat, by omega⟩
    exact add_yes s aC aT aW cC cT cW col i w0 w hS hb0 hr hcol (by omega) v B d hH

set_option maxRecDepth 20000 in
set_option maxHeartbeats 1000000 in
theorem hist_no (s : SD) (aC aT aW aR : Option Addr) (cC cT cW nR cR : Nat) (col : Int) (w : World) (h : (col < 0 ∨ s.q ≤ col) ∨ rightS s = false) :
    Calls Try.prog 12 #[.agg (smpA s.k s.c s.b s.t s.d s.l s.p s.r s.q (.slice aC s.C.length cC) (.slice aT s.T.length cT) (.slice aW s.W.length cW)), .int .i64 col, .slice aR nR cR] w fun e w' => Made zD 8 w e w' := by
  have hq := fun w1 => rightS_any s.k s.c s.b s.t s.d s.l s.p s.r s.q aC aT aW s.C.length cC s.T.length cT s.W.length cW w1
  change ∀ w1, Calls _ _ _ _ (fun e w' => e = .returned (.bool (rightS s)) ∧ _) at hq
  obtain ⟨R, HR⟩ : ∃ R, rightS s = R := ⟨_, rfl⟩
  rw [HR] at hq h
  obtain ⟨k, c, b, t, d', l, p, r, q, C, T, W⟩ := s
  simp only at *
  generalize T.length = nT at *
  generalize W.length = nW at *
  generalize C.length = nC at *
  obtain ⟨w1, hw1⟩ : ∃ w1, w.alloc (.cells (smpA k c b t d' l p r q (.slice aC nC cC) (.slice aT nT cT) (.slice aW nW cW)) 38) = w1 := ⟨_, rfl⟩
  have HX : BoxS w1 w.heap.size (smpA k c b t d' l p r q (.slice aC nC cC) (.slice aT nT cT) (.slice aW nW cW)) ∧ Below w.heap.size w w1 ∧ w1.heap.size = w.heap.size + 1 := by subst hw1; exact ⟨BoxS.new _ _, alloc_below _ _, by simp⟩
  obtain ⟨w2, hw2⟩ : ∃ w2, w1.alloc (.cells #[.int .i64 0, .int .i64 0, .int .i64 0, .slice none 0 0, .slice none 0 0] 45) = w2 := ⟨_, rfl⟩
  have HV : VarH w1.heap.size 0 0 0 (.slice none 0 0) (.slice none 0 0) w2 ∧ Below w1.heap.size w1 w2 := by subst hw2; exact ⟨VarH.new _ _ _ _ _ _ _, alloc_below _ _⟩
  obtain ⟨hX, hb1, s1⟩ := HX
  obtain ⟨hV, hb2⟩ := HV
  replace hX := hX.on hb2
  rw [s1] at hV
  have HB := Lib.hid (hb1.trans (hb2.mono (by omega)))
  have HX := Lib.hid hX
  have HV := Lib.hid hV
  clear hX hV hb1 hb2
  unfold smpA at hw1
  unfold smpA at hq ⊢
  by_cases h0 : col < 0
  · have e0 : decide (col < 0) = true := decide_eq_true h0
    clear h h0
    go_enter Try.func12, Try.ntmps12
    go_upto_region 1 with fail
    clear hw1 hw2 s1
    obtain ⟨r0, r1, r2, r3, r4⟩ := HV.out.five
    obtain ⟨y0, y1, y2, y3, y4⟩ := HV.out.soft
    go_wp2_with fail
    obtain ⟨z0, z1, z2, z3, z4⟩ := (HV.out.set 0 0 0 (.slice none 0 0) (.slice none 0 0)).five
    have HBW := set5_below (g := w.heap.size + 1) (x0 := .int .i64 0) (x1 := .int .i64 0) (x2 := .int .i64 0) (x3 := .slice none 0 0) (x4 := .slice none 0 0) HB.out (by omega)
    change bodyPost _ _ _ _ _ (set5 w2 (w.heap.size + 1) (.int .i64 0) (.int .i64 0) (.int .i64 0) (.slice none 0 0) (.slice none 0 0))
    generalize set5 w2 (w.heap.size + 1) (.int .i64 0) (.int .i64 0) (.int .i64 0) (.slice none 0 0) (.slice none 0 0) = WX at *
    simp [bodyPost, results, Try.results12, go_sem, z0, z1, z2, z3, z4]
    exact ⟨_, rfl, Is.zero _ _, HBW⟩
  · have e0 : decide (col < 0) = false := decide_eq_false h0
    by_cases h1 : q ≤ col
    · have e1 : decide (q ≤ col) = true := decide_eq_true h1
      clear h h0 h1
      go_enter Try.func12, Try.ntmps12
      go_upto_region 1 with fail
      clear hw1 hw2 s1
      obtain ⟨-, ⟨c7, c8, c9⟩, cT', cW'⟩ := HX.out.cells
      obtain ⟨r0, r1, r2, r3, r4⟩ := HV.out.five
      obtain ⟨y0, y1, y2, y3, y4⟩ := HV.out.soft
      go_wp2_with fail
      obtain ⟨z0, z1, z2, z3, z4⟩ := (HV.out.set 0 0 0 (.slice none 0 0) (.slice none 0 0)).five
      have HBW := set5_below (g := w.heap.size + 1) (x0 := .int .i64 0) (x1 := .int .i64 0) (x2 := .int .i64 0) (x3 := .slice none 0 0) (x4 := .slice none 0 0) HB.out (by omega)
      change bodyPost _ _ _ _ _ (set5 w2 (w.heap.size + 1) (.int .i64 0) (.int .i64 0) (.int .i64 0) (.slice none 0 0) (.slice none 0 0))
      generalize set5 w2 (w.heap.size + 1) (.int .i64 0) (.int .i64 0) (.int .i64 0) (.slice none 0 0) (.slice none 0 0) = WX at *
      simp [bodyPost, results, Try.results12, go_sem, z0, z1, z2, z3, z4]
      exact ⟨_, rfl, Is.zero _ _, HBW⟩
    · have e1 : decide (q ≤ col) = false := decide_eq_false h1
      obtain rfl : R = false := by
        rcases h with h | h
        · omega
        · exact h
      clear h h0 h1
      go_enter Try.func12, Try.ntmps12
      go_upto_region 1 with fail
      clear hw1 hw2 s1
      obtain ⟨⟨c0, c1, c2, c3, c4, c5, c6⟩, ⟨c7, c8, c9⟩, cT', cW'⟩ := HX.out.cells
      go_wp2_with fail
      refine (hq _).mono ?_
      rintro e w3 ⟨rfl, b3⟩
      replace HB := Lib.hid (HB.out.trans (b3.mono HB.out.size))
      replace HV := Lib.hid (HV.out.below b3 HV.out.lt)
      clear c0 c1 c2 c3 c4 c5 c6 c7 c8 c9 cT' cW' b3 e0 e1
      obtain ⟨r0, r1, r2, r3, r4⟩ := HV.out.five
      obtain ⟨y0, y1, y2, y3, y4⟩ := HV.out.soft
      go_wp2_with fail
      obtain ⟨z0, z1, z2, z3, z4⟩ := (HV.out.set 0 0 0 (.slice none 0 0) (.slice none 0 0)).five
      have HBW := set5_below (g := w.heap.size + 1) (x0 := .int .i64 0) (x1 := .int .i64 0) (x2 := .int .i64 0) (x3 := .slice none 0 0) (x4 := .slice none 0 0) HB.out (by omega)
      change bodyPost _ _ _ _ _ (set5 w3 (w.heap.size + 1) (.int .i64 0) (.int .i64 0) (.int .i64 0) (.slice none 0 0) (.slice none 0 0))
      generalize set5 w3 (w.heap.size + 1) (.int .i64 0) (.int .i64 0) (.int .i64 0) (.slice none 0 0) (.slice none 0 0) = WX at *
      simp [bodyPost, results, Try.results12, go_sem, z0, z1, z2, z3, z4]
      exact ⟨_, rfl, Is.zero _ _, HBW⟩

set_option maxRecDepth 20000 in
set_option maxHeartbeats 2000000 in
theorem hist_yes (s : SD) (aC aT aW aR : Option Addr) (cC cT cW nR cR col : Nat) (rows : List Int) (hnR : rows.length = nR) (hn2 : nR ≤ 1048576) (w : World) (hS : HoldsS s aC aT aW w) (hrow : HoldsE KN w aR rows) (hr : rightS s = true) (hcol : (col : Int) < s.q)
    (D : HD) (E : Int) (hDE : rowsF s col rows (zeroH s.k (s.b + 1) s.c) = (D, E)) :
    Calls Try.prog 12 #[.agg (smpA s.k s.c s.b s.t s.d s.l s.p s.r s.q (.slice aC s.C.length cC) (.slice aT s.T.length cT) (.slice aW s.W.length cW)), .int .i64 (col : Int), .slice aR nR cR] w fun e w' => Made D E w e w' := by
  have hq := fun w1 => rightS_any s.k s.c s.b s.t s.d s.l s.p s.r s.q aC aT aW s.C.length cC s.T.length cT s.W.length cW w1
  change ∀ w1, Calls _ _ _ _ (fun e w' => e = .returned (.bool (rightS s)) ∧ _) at hq
  rw [hr] at hq
  obtain ⟨hz1, hz2, hz3, hN, -⟩ := new_ok s.k (s.b + 1) s.c (chk_right (rightS_are hr).1)
  have wb : wrap64 (s.b + 1) = s.b + 1 := by
    have := chk_right (rightS_are hr).1
    exact wrap_in _ (by omega) (by omega)
  have hadd := fun w1 (hb1 : Below w.heap.size w w1) v B d (row : Int) (hH : Hold v B d w1) => add_all s aC aT aW cC cT cW col row w w1 hS hb1 hr hcol v B d hH _ rfl _ rfl
  have hRow := fun t ht d => rowsF_at s col rows t ht d
  obtain ⟨Z, hZ⟩ : ∃ Z, zeroH s.k (s.b + 1) s.c = Z := ⟨_, rfl⟩
  rw [hZ] at hN hDE
  have HDE := Lib.hid hDE
  have HRow : Hid (∀ t (ht : t < rows.length) d, rowsF s col (rows.drop t) d = if stepE s col (rows.getD t 0) d = 0 then rowsF s col (rows.drop (t + 1)) (stepD s col (rows.getD t 0) d) else (zD, stepE s col (rows.getD t 0) d)) := hRow
  obtain ⟨sE, hsE⟩ : ∃ sE, stepE s col = sE := ⟨_, rfl⟩
  obtain ⟨sD, hsD⟩ : ∃ sD, stepD s col = sD := ⟨_, rfl⟩
  obtain ⟨rF, hrF⟩ : ∃ rF, rowsF s col = rF := ⟨_, rfl⟩
  have HNil : Hid (∀ d, rF [] d = (d, 0)) := fun d => by rw [← hrF]; rfl
  rw [hsE, hsD] at hadd
  rw [hsE, hsD, hrF] at HRow
  rw [hrF] at HDE
  have hi2 : ((s.q : Int) ≤ (col : Int)) = False := by simp; omega
  have e1 : decide (s.q ≤ (col : Int)) = false := decide_eq_false (by omega)
  clear hS hr hcol hDE hRow hsE hsD hrF hZ hz1 hz2 hz3 hi2
  obtain ⟨k, c, b, t, d', l, p, r, q, C, T, W⟩ := s
  simp only at *
  generalize T.length = nT at *
  generalize W.length = nW at *
  generalize C.length = nC at *
  obtain ⟨w1, hw1⟩ : ∃ w1, w.alloc (.cells (smpA k c b t d' l p r q (.slice aC nC cC) (.slice aT nT cT) (.slice aW nW cW)) 38) = w1 := ⟨_, rfl⟩
  have HX : BoxS w1 w.heap.size (smpA k c b t d' l p r q (.slice aC nC cC) (.slice aT nT cT) (.slice aW nW cW)) ∧ Below w.heap.size w w1 ∧ w1.heap.size = w.heap.size + 1 := by subst hw1; exact ⟨BoxS.new _ _, alloc_below _ _, by simp⟩
  obtain ⟨w2, hw2⟩ : ∃ w2, w1.alloc (.cells #[.int .i64 0, .int .i64 0, .int .i64 0, .slice none 0 0, .slice none 0 0] 45) = w2 := ⟨_, rfl⟩
  have HV : VarH w1.heap.size 0 0 0 (.slice none 0 0) (.slice none 0 0) w2 ∧ Below w1.heap.size w1 w2 := by subst hw2; exact ⟨VarH.new _ _ _ _ _ _ _, alloc_below _ _⟩
  obtain ⟨hX, hb1, s1⟩ := HX
  obtain ⟨hV, hb2⟩ := HV
  replace hX := hX.on hb2
  rw [s1] at hV
  have HB := Lib.hid (hb1.trans (hb2.mono (by omega)))
  have HX := Lib.hid hX
  have HV := Lib.hid hV
  clear hX hV hb1 hb2
  unfold smpA at hw1
  unfold smpA at hq ⊢
  have e0 : decide ((col : Int) < 0) = false := decide_eq_false (by omega)
  have HROW := Lib.hid hrow
  have HADD := Lib.hid hadd
  have HNR := Lib.hid (And.intro hnR hn2)
  have HWB := Lib.hid wb
  clear hrow hadd hnR hn2 wb
  go_enter Try.func12, Try.ntmps12
  go_upto_region 1 with fail
  clear hw1 hw2 s1
  obtain ⟨⟨c0, c1, c2, c3, c4, c5, c6⟩, ⟨c7, c8, c9⟩, cT', cW'⟩ := HX.out.cells
  go_wp2_with fail
  refine (hq _).mono ?_
  rintro e w3 ⟨rfl, b3⟩
  replace HB := Lib.hid (HB.out.trans (b3.mono HB.out.size))
  replace HV := Lib.hid (HV.out.below b3 HV.out.lt)
  replace HX := Lib.hid (HX.out.on b3)
  clear c0 c1 c2 c3 c4 c5 c6 c7 c8 c9 cT' cW' b3 e0 e1 hq
  obtain ⟨⟨c0, c1, c2, c3, c4, c5, c6⟩, ⟨c7, c8, c9⟩, cT', cW'⟩ := HX.out.cells
  go_wp2_with fail
  rw [HWB.out]
  refine (hN _).mono ?_
  rintro e w4 ⟨ac, nc, cc, am, nm, cm, rfl, b4, hK⟩
  replace HB := Lib.hid (HB.out.trans (b4.mono HB.out.size))
  have HVs := HV.out.lt
  replace HV := Lib.hid (HV.out.below b4 HV.out.lt)
  replace HX := Lib.hid (HX.out.on b4)
  have HK := Lib.hid hK
  have HG := Lib.hid b4.size
  clear c0 c1 c2 c3 c4 c5 c6 c7 c8 c9 cT' cW' b4 hN hK
  go_wp2_with fail
  obtain ⟨w5, hw5⟩ : ∃ w5, w4.alloc (.cells #[.int .i64 Z.k, .int .i64 Z.b, .int .i64 Z.c, .slice ac nc cc, .slice am nm cm] 45) = w5 := ⟨_, rfl⟩
  have hK5 : Hold w4.heap.size w3.heap.size Z w5 ∧ Below w4.heap.size w4 w5 := by
    have b5 : Below w4.heap.size w4 w5 := by rw [← hw5]; exact alloc_below _ _
    exact ⟨HK.out w5 b5 (by rw [← hw5]; exact VarH.new _ _ _ _ _ _ _), b5⟩
  rw [hw5]
  clear hw5 HK
  replace HB := Lib.hid (HB.out.trans (hK5.2.mono HB.out.size))
  replace HV := Lib.hid (HV.out.below hK5.2 HV.out.lt)
  replace HX := Lib.hid (HX.out.on hK5.2)
  have HH := Lib.hid hK5.1
  have HVW : Hid (w.heap.size + 1 < w3.heap.size ∧ w3.heap.size ≤ w4.heap.size) := ⟨HVs, HG.out⟩
  clear hK5 HVs HG
  go_loopw [44] (fun iv wr => ∃ (j : Nat) (d : HD), j ≤ nR ∧ iv = .int .i64 (j : Int) ∧ Hid (Hold w4.heap.size w3.heap.size d wr) ∧ Hid (Below w.heap.size w wr) ∧ Hid (VarH (w.heap.size + 1) 0 0 0 (.slice none 0 0) (.slice none 0 0) wr) ∧
    Hid (BoxS wr w.heap.size (smpA k c b t d' l p r q (.slice aC nC cC) (.slice aT nT cT) (.slice aW nW cW))) ∧ Hid (rF (rows.drop j) d = (D, E))) (fun iv _ => nR - (intOf iv).toNat)
  case atStart => exact ⟨0, Z, Nat.zero_le _, rfl, HH, HB, HV, HX, HDE⟩
  case round =>
    obtain ⟨j, d, ht, rfl, HH, HB, HV, HX, HDE⟩ := hrel
    by_cases hlt : j < nR
    · have hlt2 : (j : Int) < (nR : Int) := by omega
      obtain ⟨gR, oR, rfl, lgR, fR⟩ := HROW.out.at (n := j) (by have := HNR.out; omega)
      have f0 := (HB.out.cell (by exact lgR)).trans (fR j (by have := HNR.out; omega))
      change wr.cell? ⟨gR, oR + j, none⟩ = some (.int .i64 (rows.getD j 0)) at f0
      have HN := Lib.hid (next_num hlt HNR.out.2)
      have HT := Lib.hid hlt
      have hst := HRow.out j (by have := HNR.out; omega) d
      rw [HDE.out] at hst
      have hA := HADD.out wr HB.out w4.heap.size w3.heap.size d (rows.getD j 0) HH.out
      generalize rows.getD j 0 = row at *
      obtain ⟨e, he⟩ : ∃ e, sE row d = e := ⟨_, rfl⟩
      rw [he] at hA hst
      obtain ⟨d2, hd2⟩ : ∃ d2, sD row d = d2 := ⟨_, rfl⟩
      rw [hd2] at hA hst
      have HST := Lib.hid hst
      clear hst hlt ht lgR fR he hd2
      obtain ⟨⟨c0, c1, c2, c3, c4, c5, c6⟩, ⟨c7, c8, c9⟩, cT', cW'⟩ := HX.out.cells
      by_cases h0 : e = 0
      · have HE := Lib.hid h0
        have q0 : (e != 0) = false := by simpa using h0
        clear h0
        go_wp2_with fail
        refine hA.mono ?_
        rintro e' w6 ⟨rfl, h6, b6⟩
        have HW6 : Hid (Below w.heap.size w w6) := HB.out.trans (b6.below (by have := HVW.out; omega) HB.out.size)
        have HV6 : Hid (VarH (w.heap.size + 1) 0 0 0 (.slice none 0 0) (.slice none 0 0) w6) := HV.out.keep b6.size (b6.block _ HV.out.lt (.inl (by have := HVW.out; omega)))
        have HX6 : Hid (BoxS w6 w.heap.size _) := HX.out.kept (b6.block _ HX.out.lt (.inl (by have := HVW.out; omega)))
        have HH6 := Lib.hid h6
        clear c0 c1 c2 c3 c4 c5 c6 c7 c8 c9 cT' cW' hA h6 b6 f0
        go_wp2_with fail
        clear q0
        go_roundw
        case rel => exact ⟨j + 1, d2, HT.out, congrArg (Value.int .i64) HN.out.1, HH6, HW6, HV6, HX6, by have := HST.out; rw [if_pos HE.out] at this; exact this.symm⟩
        case measure => exact HN.out.2
      · have q0 : (e != 0) = true := by simpa using h0
        have HQ := HST.out
        rw [if_neg h0] at HQ
        obtain ⟨rfl, rfl⟩ : D = zD ∧ E = e := by cases HQ; exact ⟨rfl, rfl⟩
        clear HQ h0
        go_wp2_with fail
        refine hA.mono ?_
        rintro e' w6 ⟨rfl, h6, b6⟩
        have HW6 : Hid (Below w.heap.size w w6) := HB.out.trans (b6.below (by have := HVW.out; omega) HB.out.size)
        have HV6 : Hid (VarH (w.heap.size + 1) 0 0 0 (.slice none 0 0) (.slice none 0 0) w6) := HV.out.keep b6.size (b6.block _ HV.out.lt (.inl (by have := HVW.out; omega)))
        clear c0 c1 c2 c3 c4 c5 c6 c7 c8 c9 cT' cW' hA h6 b6 f0 HST HDE HRow HADD
        obtain ⟨r0, r1, r2, r3, r4⟩ := HV6.out.five
        obtain ⟨y0, y1, y2, y3, y4⟩ := HV6.out.soft
        go_wp2_with fail
        obtain ⟨z0, z1, z2, z3, z4⟩ := (HV6.out.set 0 0 0 (.slice none 0 0) (.slice none 0 0)).five
        have HBW := set5_below (g := w.heap.size + 1) (x0 := .int .i64 0) (x1 := .int .i64 0) (x2 := .int .i64 0) (x3 := (.slice none 0 0)) (x4 := (.slice none 0 0)) HW6.out (by omega)
        have HBT := set5_but w6 (w.heap.size + 1) (.int .i64 0) (.int .i64 0) (.int .i64 0) (.slice none 0 0) (.slice none 0 0)
        change bodyPost _ _ _ _ _ (set5 w6 (w.heap.size + 1) (.int .i64 0) (.int .i64 0) (.int .i64 0) (.slice none 0 0) (.slice none 0 0))
        generalize set5 w6 (w.heap.size + 1) (.int .i64 0) (.int .i64 0) (.int .i64 0) (.slice none 0 0) (.slice none 0 0) = WX at *
        simp [bodyPost, results, Try.results12, go_sem, z0, z1, z2, z3, z4]
        exact ⟨_, rfl, Is.zero _ _, HBW⟩
    · have hlt2 : ¬ (j : Int) < (nR : Int) := by omega
      obtain rfl : j = nR := by omega
      have hst := HDE.out
      rw [List.drop_of_length_le (by have := HNR.out; omega), HNil.out] at hst
      obtain ⟨rfl, rfl⟩ : D = d ∧ E = 0 := by cases hst; exact ⟨rfl, rfl⟩
      obtain ⟨ac, nc, cc, am, nm, cm, hv, hR, hP, -⟩ := HH.out.readP
      have HR6 := Lib.hid (fun W' (b : But (w.heap.size + 1) wr W') => hR.but hP b (by have := HVW.out; omega))
      have HP6 : Hid (Past w.heap.size ac am) := ⟨fun ad e => by have := hP.1 ad e; have := HVW.out; omega, fun ad e => by have := hP.2 ad e; have := HVW.out; omega⟩
      obtain ⟨v0, v1, v2, v3, v4⟩ := hv.five
      obtain ⟨r0, r1, r2, r3, r4⟩ := HV.out.five
      clear hlt ht hst hR hP hv HRow HADD
      obtain ⟨y0, y1, y2, y3, y4⟩ := HV.out.soft
      go_wp2_with fail
      obtain ⟨z0, z1, z2, z3, z4⟩ := (HV.out.set D.k D.b D.c (.slice ac nc cc) (.slice am nm cm)).five
      have HBW := set5_below (g := w.heap.size + 1) (x0 := .int .i64 D.k) (x1 := .int .i64 D.b) (x2 := .int .i64 D.c) (x3 := (.slice ac nc cc)) (x4 := (.slice am nm cm)) HB.out (by omega)
      have HBT := set5_but wr (w.heap.size + 1) (.int .i64 D.k) (.int .i64 D.b) (.int .i64 D.c) (.slice ac nc cc) (.slice am nm cm)
      change bodyPost _ _ _ _ _ (set5 wr (w.heap.size + 1) (.int .i64 D.k) (.int .i64 D.b) (.int .i64 D.c) (.slice ac nc cc) (.slice am nm cm))
      generalize set5 wr (w.heap.size + 1) (.int .i64 D.k) (.int .i64 D.b) (.int .i64 D.c) (.slice ac nc cc) (.slice am nm cm) = WX at *
      simp [bodyPost, results, Try.results12, go_sem, z0, z1, z2, z3, z4]
      exact ⟨_, rfl, ⟨_, _, _, _, _, _, rfl, HR6.out _ HBT, HP6.out⟩, HBW⟩

/-- A SAMPLE's HISTOGRAM. -/
theorem hist_any (s : SD) (aC aT aW aR : Option Addr) (cC cT cW nR cR : Nat) (col : Int) (rows : List Int) (hnR : rows.length = nR) (hn2 : nR ≤ 1048576) (w : World) (hS : HoldsS s aC aT aW w) (hrow : HoldsE KN w aR rows) :
    Calls Try.prog 12 #[.agg (smpA s.k s.c s.b s.t s.d s.l s.p s.r s.q (.slice aC s.C.length cC) (.slice aT s.T.length cT) (.slice aW s.W.length cW)), .int .i64 col, .slice aR nR cR] w fun e w' => Made (histF s col rows).1 (histF s col rows).2 w e w' := by
  by_cases h : (col < 0 ∨ s.q ≤ col) ∨ rightS s = false
  · rw [show histF s col rows = (zD, 8) from if_pos h]
    exact hist_no s aC aT aW aR cC cT cW nR cR col w h
  · rw [show histF s col rows = rowsF s col.toNat rows (zeroH s.k (s.b + 1) s.c) from if_neg h]
    have h1 : rightS s = true := by
      cases hh : rightS s
      · exact absurd (.inr hh) h
      · rfl
    obtain ⟨c, rfl⟩ : ∃ c : Nat, col = (c : Int) := ⟨col.toNat, by omega⟩
    exact hist_yes s aC aT aW aR cC cT cW nR cR c rows hnR hn2 w hS hrow h1 (by omega) _ _ rfl
end Go.Proofs.Ytebdlmjpgohngaa
