/-
  THE ITERATOR of shard: spans, and the function that it hands back: the parts come one by one, in order, whatever the loop's body. Condition: a number of things of 64 bits with a sign.
-/
import Derived.Test.YtebdlmjpgohngaaShA
import Derived.RangeFuncNested
import Derived.RangeFuncBox
import Derived.RangeFuncBound
import Derived.RangeFuncCalls
import Derived.RangeFuncLeaves
import Derived.Shelf.Abstract
import Derived.Shelf.RegionOpen
import Derived.OwnWalkIn
import Derived.TacticsInMore
import Derived.LoopNIn
import Derived.LoopIn
import Derived.Maps.AppendAt
import Derived.Sort.QuietIn
namespace Go.Proofs.Ytebdlmjpgohngaa
open Go.RowKit Go.Shelf

attribute [local go_sem] Oper.semAt_some

theorem spans_in (n : Nat) (m p : Int) (w : World) :
    CallsIn Fence.wide n Try.prog 20 #[.int .i64 m, .int .i64 p] w fun e w' => e = .returned (.func (.func 34) #[] #[.pointer (some ⟨w.heap.size, 0, none⟩), .pointer (some ⟨w.heap.size + 1, 0, none⟩)]) ∧
      w' = (w.alloc (.cells #[.int .i64 m] 3)).alloc (.cells #[.int .i64 p] 3) := by
  refine callsIn_of_wp Try.func20 rfl trivial ?_ rfl
  simp only [Try.ntmps20, List.size_toArray, List.length_cons, List.length_nil, Nat.reduceAdd, Nat.reduceSub, Array.replicate_succ, Array.replicate_zero, List.push_toArray, List.append_toArray, List.nil_append, List.cons_append]
  gi_wp2
  go_ret
  exact ⟨rfl, rfl⟩

/-- A part, as it is handed on. -/
def spanV (n p i : Nat) : Value := .agg #[.int .i64 (cutF n p i : Int), .int .i64 (cutF n p (i + 1) : Int)]

theorem wrap_in (x : Int) (h1 : -9223372036854775808 ≤ x) (h2 : x < 9223372036854775808) : wrap64 x = x := by unfold wrap64; omega
theorem range_pre {t p : Nat} (h : t ≤ p) : List.range t <+: List.range p := by
  rw [show p = t + (p - t) by omega, List.range_add]; exact List.prefix_append _ _

/-- No parts. -/
theorem none_in (k : Nat) (l Bn Bp : Nat) (m p : Int) (h : m < 0 ∨ p < 1 ∨ 64 < p) (J Jx : List Nat → World → Prop)
    (W : World) (hBn : W.cell? ⟨Bn, 0, none⟩ = some (.int .i64 m)) (hBp : W.cell? ⟨Bp, 0, none⟩ = some (.int .i64 p)) (h0 : J [] W) :
    CallsIn Fence.wide k Try.prog 34 #[.func (.yield l) #[] #[], .pointer (some ⟨Bn, 0, none⟩), .pointer (some ⟨Bp, 0, none⟩)] W fun e W' => (∃ v, e = .returned v) ∧
      ((∃ ys, ys = List.range (partsK m p) ∧ J ys W') ∨ (∃ pre, pre <+: List.range (partsK m p) ∧ Jx pre W')) := by
  have HE : Hid (partsK m p = 0) := if_pos h
  refine callsIn_wide.2 ?_
  by_cases hm : m < 0
  · have hd : decide (m < 0) = true := decide_eq_true hm
    clear hm h
    go_enter Try.func34, Try.ntmps34
    go_wp2_with fail
    go_returns
    exact ⟨⟨_, rfl⟩, .inl ⟨[], by rw [HE.out]; rfl, h0⟩⟩
  · have hp := may_p p
    rw [decide_eq_false (show ¬ (1 ≤ p ∧ p ≤ 64) by omega)] at hp
    have hd : decide (m < 0) = false := decide_eq_false hm
    clear hm h
    go_enter Try.func34, Try.ntmps34
    go_wp2_with fail
    refine (hp _).mono ?_
    rintro e w' ⟨rfl, rfl⟩
    go_wp2_with fail
    go_returns
    exact ⟨⟨_, rfl⟩, .inl ⟨[], by rw [HE.out]; rfl, h0⟩⟩

set_option maxRecDepth 100000 in
set_option maxHeartbeats 2000000 in
theorem some_in (k : Nat) (hk : 1 ≤ k) (l Bn Bp m p : Nat) (hm : m < 9223372036854775808) (hp1 : 1 ≤ p) (hp2 : p ≤ 64) (J Jx : List Nat → World → Prop)
    (hY : ∀ pre x W1, J pre W1 → pre.length < 64 → YieldAt Fence.wide (k - 1) Try.prog l #[spanV m p x] W1 fun e W' =>
      (e = .returned (.bool true) ∧ J (pre ++ [x]) W' ∧ True) ∨ (e = .returned (.bool false) ∧ Jx (pre ++ [x]) W'))
    (W : World) (hJ : AbidesFrom W.heap.size J) (hBn : W.cell? ⟨Bn, 0, none⟩ = some (.int .i64 (m : Int))) (hBp : W.cell? ⟨Bp, 0, none⟩ = some (.int .i64 (p : Int))) (h0 : J [] W) :
    CallsIn Fence.wide k Try.prog 34 #[.func (.yield l) #[] #[], .pointer (some ⟨Bn, 0, none⟩), .pointer (some ⟨Bp, 0, none⟩)] W fun e W' => (∃ v, e = .returned v) ∧
      ((∃ ys, ys = List.range p ∧ J ys W') ∨ (∃ pre, pre <+: List.range p ∧ Jx pre W')) := by
  have hp := may_p p
  rw [decide_eq_true (show 1 ≤ (p : Int) ∧ (p : Int) ≤ 64 by omega)] at hp
  have hd : decide ((m : Int) < 0) = false := decide_eq_false (by omega)
  have hpz : ¬ (p : Int) = 0 := by omega
  obtain ⟨q, hq⟩ : ∃ q : Nat, m / p = q := ⟨_, rfl⟩
  obtain ⟨r, hr⟩ : ∃ r : Nat, m % p = r := ⟨_, rfl⟩
  have hquo : Int.tdiv (m : Int) (p : Int) = (q : Int) := by rw [← hq]; rfl
  have hrem : Int.tmod (m : Int) (p : Int) = (r : Int) := by rw [← hr]; rfl
  have hqm : q ≤ m := by rw [← hq]; exact Nat.div_le_self _ _
  have hrm : r < p := by rw [← hr]; exact Nat.mod_lt _ (by omega)
  have hwq : wrap64 (q : Int) = (q : Int) := by unfold wrap64; omega
  have hwr : wrap64 (r : Int) = (r : Int) := by unfold wrap64; omega
  have HS : Hid (∀ i, i < p → cutF m p (i + 1) = cutF m p i + q + (if i < r then 1 else 0)) := fun i hi => by rw [← hq, ← hr]; exact cutF_step m p i hi
  have HL : Hid (∀ i, cutF m p i ≤ m) := fun i => cutF_le m p (by omega) i
  have H0 : Hid (cutF m p 0 = 0) := cutF_zero m p
  have HM := Lib.hid hm
  have HP := Lib.hid (And.intro hp1 hp2)
  have HY := Lib.hid hY
  unfold spanV at HY
  generalize hcf : cutF m p = f at *
  clear hY hm hp1 hp2 hqm hrm hq hr hcf
  refine callsIn_of_wp Try.func34 rfl trivial ?_ rfl
  simp only [Try.ntmps34, List.size_toArray, List.length_cons, List.length_nil, Nat.reduceAdd, Nat.reduceSub, Array.replicate_succ, Array.replicate_zero, List.push_toArray, List.append_toArray, List.nil_append, List.cons_append]
  gi_wp2_with (refine ⟨trivial, ?_⟩; gi_at_call 26; refine (callsIn_wide.2 (hp _)).mono ?_; rintro e w' ⟨rfl, rfl⟩)
  gi_quiet (fail)
  gi_wp2
  rw [hwq]
  clear hd hpz hquo hrem hwq hwr hp hBn hBp
  have hJ1 : J [] (W.drewN nq) := hJ _ _ _ none h0 ⟨rfl, rfl, rfl, Nat.le_refl _, fun _ _ _ => rfl⟩ (fun r e => by cases e)
  clear h0
  generalize W.drewN nq = W1 at *
  gi_loopw [23, 6] (fun c fr wr => ∃ t : Nat, t ≤ p ∧ c = .int .i64 (t : Int) ∧ fr = .int .i64 (f t : Int) ∧ J (List.range t) wr) (fun c _ _ => p - (intOf c).toNat)
  case atStart => exact ⟨0, Nat.zero_le _, rfl, by rw [H0.out]; rfl, hJ1⟩
  case round =>
    obtain ⟨t, ht, rfl, rfl, hJt⟩ := hrel
    by_cases hlt : t < p
    · have hlt2 : (t : Int) < (p : Int) := by omega
      have HT := Lib.hid hlt
      have hlen : (List.range t).length < 64 := by have := HP.out; simp; omega
      have hstep := HS.out t hlt
      have hft := HL.out (t + 1)
      obtain ⟨fn, tmps, assign, body, hy, hR⟩ := HY.out (List.range t) t wr hJt hlen
      by_cases hm : t < r
      · have hm2 : (t : Int) < (r : Int) := by omega
        rw [if_pos hm] at hstep
        have e1 : ((f (t + 1) : Nat) : Int) = (f t : Int) + (q : Int) + 1 := by omega
        have w1 := wrap_in ((f t : Int) + (q : Int)) (by omega) (by have := HM.out; omega)
        have w2 := wrap_in ((f t : Int) + (q : Int) + 1) (by omega) (by have := HM.out; omega)
        have WT := Lib.hid (wrap_in ((t : Int) + 1) (by omega) (by have := HP.out; omega))
        have HE := Lib.hid e1
        rw [e1] at hy
        clear hm hlt ht hlen hstep hft hJt e1
        gi_wp2
        refine hR.mono ?_
        rintro e W3 (⟨rfl, hJ3, -⟩ | ⟨rfl, hJx3⟩)
        · clear hy hR
          gi_wp2
          clear w1 w2
          go_roundw
          case rel => exact ⟨t + 1, HT.out, by rw [WT.out]; rfl, by rw [HE.out], by rw [List.range_succ]; exact hJ3⟩
          case measure => rw [WT.out]; have := HT.out; have := HP.out; simp [intOf]; omega
        · clear hy hR
          gi_wp2
          refine bodyPost_ret (results_none rfl _ _ _) rfl ?_
          exact ⟨⟨_, rfl⟩, .inr ⟨_, by rw [← List.range_succ]; exact range_pre HT.out, hJx3⟩⟩
      · have hm2 : ¬ (t : Int) < (r : Int) := by omega
        rw [if_neg hm, Nat.add_zero] at hstep
        have e1 : ((f (t + 1) : Nat) : Int) = (f t : Int) + (q : Int) := by omega
        have w1 := wrap_in ((f t : Int) + (q : Int)) (by omega) (by have := HM.out; omega)
        have WT := Lib.hid (wrap_in ((t : Int) + 1) (by omega) (by have := HP.out; omega))
        have HE := Lib.hid e1
        rw [e1] at hy
        clear hm hlt ht hlen hstep hft hJt e1
        gi_wp2
        refine hR.mono ?_
        rintro e W3 (⟨rfl, hJ3, -⟩ | ⟨rfl, hJx3⟩)
        · clear hy hR
          gi_wp2
          clear w1
          go_roundw
          case rel => exact ⟨t + 1, HT.out, by rw [WT.out]; rfl, by rw [HE.out], by rw [List.range_succ]; exact hJ3⟩
          case measure => rw [WT.out]; have := HT.out; have := HP.out; simp [intOf]; omega
        · clear hy hR
          gi_wp2
          refine bodyPost_ret (results_none rfl _ _ _) rfl ?_
          exact ⟨⟨_, rfl⟩, .inr ⟨_, by rw [← List.range_succ]; exact range_pre HT.out, hJx3⟩⟩
    · have hlt2 : ¬ (t : Int) < (p : Int) := by omega
      have HE : Hid (t = p) := by show _ = _; omega
      clear hlt ht
      gi_wp2
      go_end0
      exact ⟨⟨_, rfl⟩, .inl (by rw [← HE.out]; exact hJt)⟩

/-- WHAT spans HANDS BACK HANDS THE PARTS ON, one by one, in order; or the first ones of them, where a round has said 'no more'. -/
theorem spans_stops (k : Nat) (hk : 1 ≤ k) (Bn Bp : Nat) (m p : Int) (hm : m < 9223372036854775808)
    (w : World) (hBn : w.cell? ⟨Bn, 0, none⟩ = some (.int .i64 m)) (hBp : w.cell? ⟨Bp, 0, none⟩ = some (.int .i64 p)) (l1 : Bn < w.heap.size) (l2 : Bp < w.heap.size) :
    SeqStopsK Fence.wide k Try.prog 34 #[.pointer (some ⟨Bn, 0, none⟩), .pointer (some ⟨Bp, 0, none⟩)] (fun x : Nat => #[spanV m.toNat p.toNat x]) (fun _ _ => True) (fun ys => ys = List.range (partsK m p)) (fun pre => pre <+: List.range (partsK m p)) 64 w := fun l J Jx W hW hJ _ hY h0 => by
  have a1 := (hW.cell (p := ⟨Bn, 0, none⟩) l1).trans hBn
  have a2 := (hW.cell (p := ⟨Bp, 0, none⟩) l2).trans hBp
  by_cases h : m < 0 ∨ p < 1 ∨ 64 < p
  · exact none_in k l Bn Bp m p h J Jx W a1 a2 h0
  · obtain ⟨m', rfl⟩ : ∃ m' : Nat, m = (m' : Int) := ⟨m.toNat, by omega⟩
    obtain ⟨p', rfl⟩ : ∃ p' : Nat, p = (p' : Int) := ⟨p.toNat, by omega⟩
    rw [show partsK (m' : Int) (p' : Int) = p' by unfold partsK; rw [if_neg h]; rfl]
    exact some_in k hk l Bn Bp m' p' (by omega) (by omega) (by omega) J Jx hY W hJ a1 a2 h0
end Go.Proofs.Ytebdlmjpgohngaa
