/-
  HISTOGRAMS: the document's May, Right, like; its sum and difference of two moments. Condition: each number is of 64 bits with a sign.
-/
import Derived.Test.YtebdlmjpgohngaaHisN
import Derived.Test.YtebdlmjpgohngaaRefSums
namespace Go.Proofs.Ytebdlmjpgohngaa
open Go.RowKit

def mayB (k b c : Int) : Bool := decide (0 < lenC k b c + lenM k b c)
theorem may_no {k b c : Int} (h : ¬ (1 ≤ b ∧ b ≤ 257 ∧ ((k = 0 ∧ 2 ≤ c ∧ c ≤ 256) ∨ (k = 1 ∧ c = 0)))) : mayB k b c = false := by
  have e1 : lenC k b c = 0 := if_neg (by omega)
  have e2 : lenM k b c = 0 := if_neg (by omega)
  unfold mayB
  rw [e1, e2]; rfl
theorem may_0 {k b c : Int} (h1 : 1 ≤ b) (h2 : b ≤ 257) (h3 : k = 0) (h4 : 2 ≤ c) (h5 : c ≤ 256) : mayB k b c = true ∧ lenC k b c = b * c ∧ lenM k b c = 0 := by
  have e1 : lenC k b c = b * c := if_pos (by omega)
  have e2 : lenM k b c = 0 := if_neg (by omega)
  have := mul_room h1 h2 h4 h5
  refine ⟨?_, e1, e2⟩
  unfold mayB
  rw [e1, e2]
  simp; omega
theorem may_1 {k b c : Int} (h1 : 1 ≤ b) (h2 : b ≤ 257) (h3 : k = 1) (h4 : c = 0) : mayB k b c = true ∧ lenC k b c = 0 ∧ lenM k b c = b := by
  have e1 : lenC k b c = 0 := if_neg (by omega)
  have e2 : lenM k b c = b := if_pos (by omega)
  refine ⟨?_, e1, e2⟩
  unfold mayB
  rw [e1, e2]
  simp; omega

theorem refMay_any (k b c : Int) (w : World) : Calls Try.prog 38 #[.int .i64 k, .int .i64 b, .int .i64 c] w fun e w' => e = .returned (.bool (mayB k b c)) ∧ w' = w := by
  by_cases h1 : b < 1
  · rw [may_no (by omega)]
    go_enter Try.func38, Try.ntmps38
    go_wp2_with fail
    go_ret
    exact ⟨rfl, rfl⟩
  by_cases h2 : 257 < b
  · rw [may_no (by omega)]
    go_enter Try.func38, Try.ntmps38
    go_wp2_with fail
    go_ret
    exact ⟨rfl, rfl⟩
  by_cases h3 : k = 0
  · by_cases h4 : c < 2
    · rw [may_no (by omega)]
      have g : ¬ 2 ≤ c := by omega
      clear h4
      subst h3
      go_enter Try.func38, Try.ntmps38
      go_wp2_with fail
      go_ret
      exact ⟨rfl, rfl⟩
    · have g : 2 ≤ c := by omega
      by_cases h5 : 256 < c
      · rw [may_no (by omega)]
        have g2 : ¬ c ≤ 256 := by omega
        clear h4 h5
        subst h3
        go_enter Try.func38, Try.ntmps38
        go_wp2_with fail
        go_ret
        exact ⟨rfl, rfl⟩
      · have g2 : c ≤ 256 := by omega
        rw [(may_0 (by omega) (by omega) h3 g g2).1]
        clear h4 h5
        subst h3
        go_enter Try.func38, Try.ntmps38
        go_wp2_with fail
        go_ret
        exact ⟨rfl, rfl⟩
  · have g3 : (k == 0) = false := by simpa using h3
    by_cases h4 : k = 1
    · by_cases h5 : c = 0
      · rw [(may_1 (by omega) (by omega) h4 h5).1]
        subst h4 h5
        go_enter Try.func38, Try.ntmps38
        go_wp2_with fail
        go_ret
        exact ⟨rfl, rfl⟩
      · rw [may_no (by omega)]
        have g5 : (c == 0) = false := by simpa using h5
        clear h5 h3
        subst h4
        go_enter Try.func38, Try.ntmps38
        go_wp2_with fail
        go_ret
        exact ⟨rfl, rfl⟩
    · rw [may_no (by omega)]
      have g4 : (k == 1) = false := by simpa using h4
      clear h4 h3
      go_enter Try.func38, Try.ntmps38
      go_wp2_with fail
      go_ret
      exact ⟨rfl, rfl⟩

theorem refRight_any (k b c : Int) (ac am : Option Addr) (nc cc nm cm : Nat) (w : World) :
    Calls Try.prog 39 #[.agg #[.int .i64 k, .int .i64 b, .int .i64 c, .slice ac nc cc, .slice am nm cm]] w fun e w' => e = .returned (.bool (rightB k b c nc nm)) ∧ Below w.heap.size w w' := by
  have hm := fun w => refMay_any k b c w
  have hB : Hid (Below w.heap.size w (w.alloc (.cells #[.int .i64 k, .int .i64 b, .int .i64 c, .slice ac nc cc, .slice am nm cm] 45))) := alloc_below _ _
  by_cases hg : 1 ≤ b ∧ b ≤ 257 ∧ ((k = 0 ∧ 2 ≤ c ∧ c ≤ 256) ∨ (k = 1 ∧ c = 0))
  · by_cases hk : k = 0
    · obtain ⟨m1, m2, m3⟩ := may_0 hg.1 hg.2.1 hk (by omega) (by omega) (k := k) (c := c)
      have hr := mul_room hg.1 hg.2.1 (show 2 ≤ c by omega) (show c ≤ 256 by omega)
      have hw : wrap64 (b * c) = b * c := by unfold wrap64; omega
      have HR : Hid (rightB k b c nc nm = decide ((nc : Int) = b * c ∧ nm = 0)) := by
        show _ = _
        unfold rightB
        rw [m2, m3]
        congr 1
        simp only [eq_iff_iff]
        omega
      rw [m1] at hm
      rw [HR.out]
      subst hk
      clear hg m1 m2 m3 hr HR
      by_cases q1 : (nc : Int) = b * c
      · by_cases q2 : nm = 0
        · rw [decide_eq_true (And.intro q1 q2)]
          subst q2
          have e1 : ((nc : Int) == b * c) = true := by simpa using q1
          clear q1
          go_enter Try.func39, Try.ntmps39
          go_wp2_with fail
          refine (hm _).mono ?_
          rintro e w1 ⟨rfl, rfl⟩
          clear hm
          go_wp2_with fail
          go_ret
          exact ⟨rfl, hB.out⟩
        · rw [decide_eq_false (fun h => q2 h.2)]
          have e1 : ((nc : Int) == b * c) = true := by simpa using q1
          have e2 : ((nm : Int) == 0) = false := by simp; omega
          clear q1 q2
          go_enter Try.func39, Try.ntmps39
          go_wp2_with fail
          refine (hm _).mono ?_
          rintro e w1 ⟨rfl, rfl⟩
          clear hm
          go_wp2_with fail
          go_ret
          exact ⟨rfl, hB.out⟩
      · rw [decide_eq_false (fun h => q1 h.1)]
        have e1 : ((nc : Int) == b * c) = false := by simpa using q1
        clear q1
        go_enter Try.func39, Try.ntmps39
        go_wp2_with fail
        refine (hm _).mono ?_
        rintro e w1 ⟨rfl, rfl⟩
        clear hm
        go_wp2_with fail
        go_ret
        exact ⟨rfl, hB.out⟩
    · have hk1 : k = 1 := by omega
      obtain ⟨m1, m2, m3⟩ := may_1 hg.1 hg.2.1 hk1 (by omega) (k := k) (c := c)
      have HR : Hid (rightB k b c nc nm = decide (nc = 0 ∧ (nm : Int) = b)) := by
        show _ = _
        unfold rightB
        rw [m2, m3]
        congr 1
        simp only [eq_iff_iff]
        omega
      rw [m1] at hm
      rw [HR.out]
      subst hk1
      clear hg m1 m2 m3 HR hk
      by_cases q1 : nc = 0
      · by_cases q2 : (nm : Int) = b
        · rw [decide_eq_true (And.intro q1 q2)]
          subst q1
          have e2 : ((nm : Int) == b) = true := by simpa using q2
          clear q2
          go_enter Try.func39, Try.ntmps39
          go_wp2_with fail
          refine (hm _).mono ?_
          rintro e w1 ⟨rfl, rfl⟩
          clear hm
          go_wp2_with fail
          go_ret
          exact ⟨rfl, hB.out⟩
        · rw [decide_eq_false (fun h => q2 h.2)]
          subst q1
          have e2 : ((nm : Int) == b) = false := by simpa using q2
          clear q2
          go_enter Try.func39, Try.ntmps39
          go_wp2_with fail
          refine (hm _).mono ?_
          rintro e w1 ⟨rfl, rfl⟩
          clear hm
          go_wp2_with fail
          go_ret
          exact ⟨rfl, hB.out⟩
      · rw [decide_eq_false (fun h => q1 h.1)]
        have e1 : ((nc : Int) == 0) = false := by simp; omega
        clear q1
        go_enter Try.func39, Try.ntmps39
        go_wp2_with fail
        refine (hm _).mono ?_
        rintro e w1 ⟨rfl, rfl⟩
        clear hm
        go_wp2_with fail
        go_ret
        exact ⟨rfl, hB.out⟩
  · have m1 := may_no hg
    have HR : Hid (rightB k b c nc nm = false) := by
      show _ = _
      unfold rightB mayB at *
      simp only [decide_eq_false_iff_not] at m1 ⊢
      omega
    rw [m1] at hm
    rw [HR.out]
    clear hg m1 HR
    go_enter Try.func39, Try.ntmps39
    go_wp2_with fail
    refine (hm _).mono ?_
    rintro e w1 ⟨rfl, rfl⟩
    clear hm
    go_wp2_with fail
    go_ret
    exact ⟨rfl, hB.out⟩

theorem like_any (a a' : HD) (ac am ac' am' : Option Addr) (nc cc nm cm nc' cc' nm' cm' : Nat) (w0 w : World) (h : Reads a ac nc am nm w0) (h' : Reads a' ac' nc' am' nm' w0) :
    Calls Try.prog 45 #[.agg #[.int .i64 a.k, .int .i64 a.b, .int .i64 a.c, .slice ac nc cc, .slice am nm cm], .agg #[.int .i64 a'.k, .int .i64 a'.b, .int .i64 a'.c, .slice ac' nc' cc', .slice am' nm' cm']] w fun e w' =>
      e = .returned (.bool (likeD a a')) ∧ Below w.heap.size w w' := by
  have r1 := fun w => refRight_any a.k a.b a.c ac am nc cc nm cm w
  have r2 := fun w => refRight_any a'.k a'.b a'.c ac' am' nc' cc' nm' cm' w
  rw [h.right] at r1
  rw [h'.right] at r2
  unfold likeD
  obtain ⟨k, b, c, l, m⟩ := a
  obtain ⟨k', b', c', l', m'⟩ := a'
  generalize rightD ⟨k, b, c, l, m⟩ = ra at *
  generalize rightD ⟨k', b', c', l', m'⟩ = rb at *
  clear h h'
  simp only at *
  have bA := VarH.new w k b c (.slice ac nc cc) (.slice am nm cm) 45
  have bB := VarH.new (w.alloc (.cells #[.int .i64 k, .int .i64 b, .int .i64 c, .slice ac nc cc, .slice am nm cm] 45)) k' b' c' (.slice ac' nc' cc') (.slice am' nm' cm') 45
  rw [show (w.alloc (.cells #[.int .i64 k, .int .i64 b, .int .i64 c, .slice ac nc cc, .slice am nm cm] 45)).heap.size = w.heap.size + 1 by simp] at bB
  replace bA := bA.alloc (.cells #[.int .i64 k', .int .i64 b', .int .i64 c', .slice ac' nc' cc', .slice am' nm' cm'] 45)
  have hB := Lib.hid (((Below.refl _ w).alloc (Nat.le_refl _) (.cells #[.int .i64 k, .int .i64 b, .int .i64 c, .slice ac nc cc, .slice am nm cm] 45)).alloc (by simp) (.cells #[.int .i64 k', .int .i64 b', .int .i64 c', .slice ac' nc' cc', .slice am' nm' cm'] 45))
  go_enter Try.func45, Try.ntmps45
  go_upto_region 1 with fail
  generalize (w.alloc (.cells #[.int .i64 k, .int .i64 b, .int .i64 c, .slice ac nc cc, .slice am nm cm] 45)).alloc (.cells #[.int .i64 k', .int .i64 b', .int .i64 c', .slice ac' nc' cc', .slice am' nm' cm'] 45) = W at *
  obtain ⟨_, a0, a1, a2, a3, a4, _, _, _, _, _⟩ := id bA
  cases ra
  · clear bB
    go_wp2_with fail
    refine (r1 _).mono ?_
    rintro e w1 ⟨rfl, c1⟩
    go_wp2_with fail
    go_ret
    exact ⟨rfl, hB.out.trans (c1.mono hB.out.size)⟩
  · go_wp2_with fail
    refine (r1 _).mono ?_
    rintro e w1 ⟨rfl, c1⟩
    replace bA := bA.below c1 bA.lt
    replace bB := bB.below c1 bB.lt
    replace hB := Lib.hid (hB.out.trans (c1.mono hB.out.size))
    clear a0 a1 a2 a3 a4 r1 c1
    obtain ⟨_, a0, a1, a2, a3, a4, _, _, _, _, _⟩ := id bA
    obtain ⟨_, b0, b1, b2, b3, b4, _, _, _, _, _⟩ := id bB
    go_wp2_with fail
    refine (r2 _).mono ?_
    rintro e w2 ⟨rfl, c2⟩
    replace bA := bA.below c2 bA.lt
    replace bB := bB.below c2 bB.lt
    replace hB := Lib.hid (hB.out.trans (c2.mono hB.out.size))
    clear a0 a1 a2 a3 a4 b0 b1 b2 b3 b4 r2 c2
    obtain ⟨_, a0, a1, a2, a3, a4, _, _, _, _, _⟩ := bA
    obtain ⟨_, b0, b1, b2, b3, b4, _, _, _, _, _⟩ := bB
    cases rb
    · go_wp2_with fail
      go_ret
      exact ⟨rfl, hB.out⟩
    · cases g1 : (k == k')
      · go_wp2_with fail
        go_ret
        exact ⟨by (try rw [g1]); (try rw [g2]); (try rw [g3]); rfl, hB.out⟩
      · cases g2 : (b == b')
        · go_wp2_with fail
          go_ret
          exact ⟨by (try rw [g1]); (try rw [g2]); (try rw [g3]); rfl, hB.out⟩
        · cases g3 : (c == c')
          · go_wp2_with fail
            go_ret
            exact ⟨by (try rw [g1]); (try rw [g2]); (try rw [g3]); rfl, hB.out⟩
          · go_wp2_with fail
            go_ret
            exact ⟨by (try rw [g1]); (try rw [g2]); (try rw [g3]); rfl, hB.out⟩


theorem refP (x y : Int) (hx : Whole x) (hy : Whole y) (w : World) : Calls Try.prog 41 #[.int .i64 x, .int .i64 y] w fun e w' => e = .returned (.tuple #[.int .i64 (plV x y), .int .i64 (plE x y)]) ∧ Below w.heap.size w w' := refPlus_any x y hx hy w
end Go.Proofs.Ytebdlmjpgohngaa
