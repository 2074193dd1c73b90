/-
  CUT: the chapter's example; the document's own parts; the statement on cuts. Condition: a number of things of 64 bits with a sign.
-/
import Derived.Test.YtebdlmjpgohngaaShC
namespace Go.Proofs.Ytebdlmjpgohngaa
open Go.RowKit

theorem fixed_any (w : World) : Calls Try.prog 9 #[] w fun e w' => e = .returned (.bool true) ∧ Go.RowKit.Below w.heap.size w w' := by
  have hC := cut_any 7 3 (by decide) w
  rw [show partsK 7 3 = 3 from rfl, show spanL (cutF (7 : Int).toNat (3 : Int).toNat) 3 = [0, 3, 3, 5, 5, 7] from by decide] at hC
  go_enter Try.func9, Try.ntmps9
  go_wp2_with fail
  refine hC.mono ?_
  rintro e w1 ⟨v, ⟨rfl, hv⟩, hb⟩
  obtain ⟨-, ⟨-, h0⟩ | ⟨g, cap, rfl, -, -, -, hl⟩⟩ := hv.lst
  · exact absurd h0 (by decide)
  have c0 : w1.cell? ⟨g, 0, none⟩ = some (.int .i64 0) := hl.cell 0 (by decide)
  have c1 : w1.cell? ⟨g, 1, none⟩ = some (.int .i64 3) := hl.cell 1 (by decide)
  have c2 : w1.cell? ⟨g, 2, none⟩ = some (.int .i64 3) := hl.cell 2 (by decide)
  have c3 : w1.cell? ⟨g, 3, none⟩ = some (.int .i64 5) := hl.cell 3 (by decide)
  have c4 : w1.cell? ⟨g, 4, none⟩ = some (.int .i64 5) := hl.cell 4 (by decide)
  have c5 : w1.cell? ⟨g, 5, none⟩ = some (.int .i64 7) := hl.cell 5 (by decide)
  clear hC hl hv
  go_wp2_with fail
  go_ret
  exact ⟨rfl, hb⟩

/-- An append of a span onto a row of the call's own. -/
theorem app_p {w : World} {ops : Array Oper} {rest : List Oper} {o : Oper} {a : Act} {Q : Exit → Act → World → Prop} (hw : Region.wanted o (yielded ops a.tmps) = true) (s x : Operand)
    (ho : o.op = .call { callee := .builtin .append, args := #[s, x], argTypes := #[22, 22] }) (B : Nat) (hB : B ≤ w.heap.size) (v : Value) (n : Nat) (l : List Int) (hs : a.eval s = v) (hown : OwnP w B v n l)
    (D c : Nat) (p q : Int) (hx : a.eval x = .slice (some ⟨D, 0, none⟩) 1 c) (c0 : w.cell? ⟨D, 0, none⟩ = some (.int .i64 p)) (c1 : w.cell? ⟨D, 1, none⟩ = some (.int .i64 q)) (hm : n ≤ 1000)
    (h : ∀ g cap w', OwnP w' B (.slice (some ⟨g, 0, none⟩) (n + 1) cap) (n + 1) (l ++ [p, q]) → Go.RowKit.Below B w w' → wpList Try.prog ops Q rest (a.put o.dst (.slice (some ⟨g, 0, none⟩) (n + 1) cap)) w') : wpList Try.prog ops Q (o :: rest) a w := by
  obtain ⟨i0, hi, hz0, hz1, hz2⟩ := info_parts infoP
  refine wpList_step fun KK hK => ?_
  rw [if_pos hw]
  refine wp_append_own w s x 22 ho B 25 i0 _ 2 16 Try.underlying22 hi hz0 hz1 hz2 rfl (by decide) v _ _ hs hown ⟨D, 0, none⟩ 1 c [.int .i64 p, .int .i64 q] hx rfl ?_ (by simp [Value.oneCell']) (by unfold maxLen; omega) (by omega) hB ?_
  · intro j u hu
    match j with
    | 0 => simp at hu; subst hu; exact c0
    | 1 => simp at hu; subst hu; exact c1
    | j + 2 => simp at hu
  · intro v' w' h2 h3 h4
    obtain ⟨g, cap, rfl⟩ := ownsRow_succ h2
    refine hK _ _ (h g cap w' ?_ ((Go.RowKit.Below.refl B w).grown h3 hB (fun g hg => (World.ownsRow.lt hown g hg).1)))
    unfold OwnP
    rw [List.map_append]; exact h2

set_option maxRecDepth 20000 in
set_option maxHeartbeats 1000000 in
theorem refCut_some (m p : Nat) (hm : m < 9223372036854775808) (hp1 : 1 ≤ p) (hp2 : p ≤ 64) (w : World) :
    Calls Try.prog 8 #[.int .i64 (m : Int), .int .i64 (p : Int)] w fun e w' =>
      ∃ v, (e = .returned v ∧ OwnP w' w.heap.size v p (spanL (cutF m p) p)) ∧ Go.RowKit.Below w.heap.size w w' := by
  have d1 : decide ((m : Int) < 0) = false := decide_eq_false (by omega)
  have d2 : decide ((p : Int) < 1) = false := decide_eq_false (by omega)
  have d3 : decide (64 < (p : Int)) = false := decide_eq_false (by omega)
  have hpz : ¬ (p : Int) = 0 := by omega
  obtain ⟨q, hq⟩ : ∃ q : Nat, m / p = q := ⟨_, rfl⟩
  obtain ⟨r, hr⟩ : ∃ r : Nat, m % p = r := ⟨_, rfl⟩
  have hquo : Int.tdiv (m : Int) (p : Int) = (q : Int) := by rw [← hq]; rfl
  have hqm : q ≤ m := by rw [← hq]; exact Nat.div_le_self _ _
  have hmul : m = q * p + r := by rw [← hq, ← hr, Nat.mul_comm]; exact (Nat.div_add_mod m p).symm
  have hwq : wrap64 (q : Int) = (q : Int) := wrap_in _ (by omega) (by omega)
  have hwp : wrap64 ((q : Int) * (p : Int)) = ((q * p : Nat) : Int) := by rw [← Int.natCast_mul]; exact wrap_in _ (by omega) (by omega)
  have hwr : wrap64 ((m : Int) - ((q * p : Nat) : Int)) = (r : Int) := by rw [wrap_in _ (by omega) (by omega)]; omega
  have HS : Hid (∀ i, i < p → cutF m p (i + 1) = cutF m p i + q + (if i < r then 1 else 0)) := fun i hi => by rw [← hq, ← hr]; exact cutF_step m p i hi
  have HL : Hid (∀ i, cutF m p i ≤ m) := fun i => cutF_le m p (by omega) i
  have H0 : Hid (cutF m p 0 = 0) := cutF_zero m p
  have HM := Lib.hid hm
  have HP := Lib.hid (And.intro hp1 hp2)
  have HWQ := Lib.hid hwq
  have HWP := Lib.hid hwp
  have HWR := Lib.hid hwr
  clear hm hp1 hp2 hqm hq hr hmul hwq hwp hwr
  generalize q * p = qp at *
  generalize cutF m p = f at *
  go_enter Try.func8, Try.ntmps8
  go_wp2_with fail
  go_loopw [5, 6, 7] (fun v fr i wr => ∃ (t g cap : Nat), t ≤ p ∧ i = .int .i64 (t : Int) ∧ fr = .int .i64 (f t : Int) ∧ v = .slice (some ⟨g, 0, none⟩) t cap ∧ OwnP wr w.heap.size (.slice (some ⟨g, 0, none⟩) t cap) t (spanL f t) ∧ Go.RowKit.Below w.heap.size w wr) (fun _ _ i _ => p - (intOf i).toNat)
  case atStart => exact ⟨0, w.heap.size, 0, Nat.zero_le _, rfl, by rw [H0.out]; rfl, rfl, OwnP.start w _ (Nat.le_refl _), (Go.RowKit.Below.refl _ w).alloc (Nat.le_refl _) _⟩
  case round =>
    obtain ⟨t, g, cap, ht, rfl, rfl, rfl, hown, hB⟩ := hrel
    by_cases hlt : t < p
    · have hlt2 : (t : Int) < (p : Int) := by omega
      have HT := Lib.hid hlt
      have HB := Lib.hid hB
      have HO := Lib.hid hown
      have hstep := HS.out t hlt
      have hft := HL.out (t + 1)
      have WT := Lib.hid (wrap_in ((t : Int) + 1) (by omega) (by have := HP.out; omega))
      by_cases hm : t < r
      · have hm2 : (t : Int) < (r : Int) := by omega
        rw [if_pos hm] at hstep
        have w1 : wrap64 ((q : Int) + 1) = (q : Int) + 1 := wrap_in _ (by omega) (by have := HM.out; omega)
        have w2 : wrap64 ((f t : Int) + ((q : Int) + 1)) = (f (t + 1) : Int) := by rw [wrap_in _ (by omega) (by have := HM.out; omega)]; omega
        have W2 := Lib.hid w2
        have hwq := HWQ.out
        have hwp := HWP.out
        have hwr := HWR.out
        clear hm hlt ht hstep hft hown hB
        go_wp2_with (at_builtin; refine app_p rfl _ _ rfl w.heap.size (Nat.le_trans HB.out.size (by simp)) (.slice (some ⟨g, 0, none⟩) t cap) t (spanL f t) rfl (HO.out.below ((Go.RowKit.Below.refl _ wr).alloc (Nat.le_refl _) _)) wr.heap.size 1 (f t : Int) (f (t + 1) : Int) rfl (by simp [go_sem]) (by simp [go_sem]) (Nat.le_trans (Nat.le_of_lt HT.out) (Nat.le_trans HP.out.2 (by decide))) ?_)
        intro g' cap' w' hown' hb'
        clear w1 w2 hwq hwp hwr
        go_wp2_with fail
        go_roundw
        case rel => exact ⟨t + 1, g', cap', HT.out, by rw [WT.out]; rfl, by rw [W2.out], rfl, by rw [spanL_succ]; exact hown', (HB.out.alloc HB.out.size _).trans hb'⟩
        case measure => rw [WT.out]; have := HT.out; have := HP.out; simp [intOf]; omega
      · have hm2 : ¬ (t : Int) < (r : Int) := by omega
        rw [if_neg hm, Nat.add_zero] at hstep
        have w2 : wrap64 ((f t : Int) + (q : Int)) = (f (t + 1) : Int) := by rw [wrap_in _ (by omega) (by have := HM.out; omega)]; omega
        have W2 := Lib.hid w2
        have hwq := HWQ.out
        have hwp := HWP.out
        have hwr := HWR.out
        clear hm hlt ht hstep hft hown hB
        go_wp2_with (at_builtin; refine app_p rfl _ _ rfl w.heap.size (Nat.le_trans HB.out.size (by simp)) (.slice (some ⟨g, 0, none⟩) t cap) t (spanL f t) rfl (HO.out.below ((Go.RowKit.Below.refl _ wr).alloc (Nat.le_refl _) _)) wr.heap.size 1 (f t : Int) (f (t + 1) : Int) rfl (by simp [go_sem]) (by simp [go_sem]) (Nat.le_trans (Nat.le_of_lt HT.out) (Nat.le_trans HP.out.2 (by decide))) ?_)
        intro g' cap' w' hown' hb'
        clear w2 hwq hwp hwr
        go_wp2_with fail
        go_roundw
        case rel => exact ⟨t + 1, g', cap', HT.out, by rw [WT.out]; rfl, by rw [W2.out], rfl, by rw [spanL_succ]; exact hown', (HB.out.alloc HB.out.size _).trans hb'⟩
        case measure => rw [WT.out]; have := HT.out; have := HP.out; simp [intOf]; omega
    · have hlt2 : ¬ (t : Int) < (p : Int) := by omega
      obtain rfl : t = p := by omega
      clear hlt ht
      go_wp2_with fail
      go_ret
      exact ⟨⟨_, rfl, hown⟩, hB⟩

set_option maxHeartbeats 1000000 in
theorem refCut_none (m p : Int) (h : m < 0 ∨ p < 1 ∨ 64 < p) (w : World) :
    Calls Try.prog 8 #[.int .i64 m, .int .i64 p] w fun e w' =>
      ∃ v, (e = .returned v ∧ OwnP w' w.heap.size v 0 []) ∧ Go.RowKit.Below w.heap.size w w' := by
  have b0 : Go.RowKit.Below w.heap.size w (w.alloc (.cells #[] 25)) := (Go.RowKit.Below.refl _ w).alloc (Nat.le_refl _) _
  have o0 := OwnP.start w w.heap.size (Nat.le_refl _)
  by_cases h1 : m < 0
  · have d1 : decide (m < 0) = true := decide_eq_true h1
    clear h h1
    go_enter Try.func8, Try.ntmps8
    go_wp2_with fail
    go_ret
    exact ⟨_, ⟨rfl, o0⟩, b0⟩
  · have d1 : decide (m < 0) = false := decide_eq_false h1
    by_cases h2 : p < 1
    · have d2 : decide (p < 1) = true := decide_eq_true h2
      clear h h1 h2
      go_enter Try.func8, Try.ntmps8
      go_wp2_with fail
      go_ret
      exact ⟨_, ⟨rfl, o0⟩, b0⟩
    · have d2 : decide (p < 1) = false := decide_eq_false h2
      have d3 : decide (64 < p) = true := decide_eq_true (by omega)
      clear h h1 h2
      go_enter Try.func8, Try.ntmps8
      go_wp2_with fail
      go_ret
      exact ⟨_, ⟨rfl, o0⟩, b0⟩

/-- The document's parts. -/
theorem refCut_any (m p : Int) (hm : m < 9223372036854775808) (w : World) :
    Calls Try.prog 8 #[.int .i64 m, .int .i64 p] w fun e w' =>
      ∃ v, (e = .returned v ∧ OwnP w' w.heap.size v (partsK m p) (spanL (cutF m.toNat p.toNat) (partsK m p))) ∧ Go.RowKit.Below w.heap.size w w' := by
  by_cases h : m < 0 ∨ p < 1 ∨ 64 < p
  · rw [show partsK m p = 0 from if_pos h]; exact refCut_none m p h w
  · obtain ⟨m', rfl⟩ : ∃ m' : Nat, m = (m' : Int) := ⟨m.toNat, by omega⟩
    obtain ⟨p', rfl⟩ : ∃ p' : Nat, p = (p' : Int) := ⟨p.toNat, by omega⟩
    rw [show partsK (m' : Int) (p' : Int) = p' by unfold partsK; rw [if_neg h]; rfl]
    exact refCut_some m' p' (by omega) (by omega) (by omega) w
end Go.Proofs.Ytebdlmjpgohngaa
