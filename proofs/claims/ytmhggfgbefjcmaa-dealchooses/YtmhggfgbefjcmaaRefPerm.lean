/-
  THE DOCUMENT'S OWN PERMUTATION: it answers the row, how many are taken and the error as the draws make them. Conditions: no more than 300 things; the numbers are at least 0 and below 2^64.
-/
import Derived.Test.YtmhggfgbefjcmaaRefRow
import Derived.Test.YtmhggfgbefjcmaaRefBelow
namespace Go.Proofs.Ytmhggfgbefjcmaa
open Go.RowKit

theorem deals_step (xs B : Nat → Int) (next : List Int → Nat → Nat → List Int) (t j : Nat) (hj : j < t) (k : Nat) (l : List Int) (y : Int) (k' : Nat) (er : Int) (hd : draw xs (B j) k = (y, k', er)) : deals xs B next (t - j) j k l = if er = 0 then deals xs B next (t - (j + 1)) (j + 1) k' (next l j y.toNat) else (l, k', er) := by
  have e : deals xs B next ((t - (j + 1)) + 1) j k l = if (draw xs (B j) k).2.2 = 0 then deals xs B next (t - (j + 1)) (j + 1) (draw xs (B j) k).2.1 (next l j (draw xs (B j) k).1.toNat) else (l, (draw xs (B j) k).2.1, (draw xs (B j) k).2.2) := rfl
  rw [show t - j = (t - (j + 1)) + 1 by omega, e, hd]

/-- One draw more: what comes of it. -/
theorem one_more (xs B : Nat → Int) (next : List Int → Nat → Nat → List Int) (t j : Nat) (hj : j < t) (k : Nat) (l : List Int) (D : List Int × Nat × Int) (hD : D = deals xs B next (t - j) j k l) (c : Int) (hc : B j = c) (h0 : 0 < c) :
    ∃ (x k' : Nat) (er : Int), draw xs c k = ((x : Int), k', er) ∧ k ≤ k' ∧ k' ≤ k + 64 ∧ (x : Int) < c ∧ (er = 0 → D = deals xs B next (t - (j + 1)) (j + 1) k' (next l j x)) ∧ (¬ er = 0 → D = (l, k', er)) := by
  obtain ⟨y, k', er, hd⟩ : ∃ y k' er, draw xs c k = (y, k', er) := ⟨_, _, _, rfl⟩
  have h := draw_in xs c h0 k
  rw [hd] at h
  simp only at h
  have hs := deals_step xs B next t j hj k l y k' er (by rw [hc]; exact hd)
  refine ⟨y.toNat, k', er, ?_, h.1, h.2.1, by omega, fun he => ?_, fun he => ?_⟩
  · rw [hd, show ((y.toNat : Nat) : Int) = y by omega]
  · rw [hD, hs, if_pos he]
  · rw [hD, hs, if_neg he]

theorem refBelow_at (a : Option Addr) (cap : Nat) (l : List Int) (hl : All64 l) (hlen : l.length ≤ 1000000) (t : Nat) (ht : t ≤ 1000000) (n : Int) (h0 : 0 ≤ n) (h1 : n < 18446744073709551616) (w : World) (hr : HoldsRow w a l) (y : Int) (t' : Nat) (er : Int) (hd : draw (nums l) n t = (y, t', er)) :
    Calls Try.prog 27 #[.slice a l.length cap, .int .i64 t, .int .u64 n] w fun e w' => (∃ m : Nat, t' = t + m ∧ e = .returned (.tuple #[.int .u64 y, .int .i64 m, .int .i64 er])) ∧ w = w' := by
  have := refBelow_any a cap l hl hlen t ht n h0 h1 w hr
  rw [hd] at this
  exact this

/-- A call has answered a row, how many were taken, and an error. -/
def Told3 (w : World) (r : List Int) (k : Nat) (er : Int) (e : Ending) : Prop := ∃ x c, e = .returned (.tuple #[.slice x r.length c, .int .i64 (k : Int), .int .i64 er]) ∧ HoldsI w x r
theorem Told3.none (w : World) (k : Nat) (er : Int) : Told3 w [] k er (.returned (.tuple #[.slice Option.none 0 0, .int .i64 (k : Int), .int .i64 er])) := ⟨_, _, rfl, .inl rfl⟩
theorem Told3.some {w : World} {g n cap : Nat} {r : List Int} (h : Ints g r w) (hn : r.length = n) (k : Nat) (er : Int) : Told3 w r k er (.returned (.tuple #[.slice (Option.some ⟨g, 0, Option.none⟩) n cap, .int .i64 (k : Int), .int .i64 er])) := ⟨_, cap, by rw [hn], h.holds⟩

theorem told_mk {q : List Int} {k : Nat} {er : Int} (h : ¬ er = 0) : told (q, k, er) = ([], k, er) := told_no (d := (q, k, er)) h

set_option maxHeartbeats 1000000 in
theorem refPerm_any (a : Option Addr) (cap : Nat) (l : List Int) (hl : All64 l) (hlen : l.length ≤ 500) (n : Int) (hn : n ≤ 300 ∨ 1048576 < n) (w : World) (hr : HoldsRow w a l) (r : List Int) (k' : Nat) (e' : Int) (hR : permR (nums l) n 0 = (r, k', e')) :
    Calls Try.prog 12 #[.slice a l.length cap, .int .i64 n] w fun e w' => Told3 w' r k' e' e ∧ Below w.heap.size w w' := by
  by_cases hin : 0 ≤ n ∧ n ≤ 1048576
  · obtain ⟨m, rfl⟩ : ∃ m : Nat, n = m := ⟨n.toNat, by omega⟩
    have hm : m ≤ 300 := by omega
    have hR2 : told (permTo (nums l) m 0) = (r, k', e') := by rw [← hR]; unfold permR; rw [if_pos hin]; rfl
    have HR := Lib.hid hR2
    have g1 : ¬ (m : Int) < 0 := by omega
    have g2 : ¬ (1048576 : Int) < m := by omega
    clear hR hR2 hin hn
    go_enter Try.func12, Try.ntmps12
    go_wp2_with fail
    refine (row_any m hm w).mono ?_
    rintro e w1 ⟨⟨g, cp, rfl, hg, hI⟩, hB1⟩
    go_wp2_with fail
    go_loopw [8, 9] (fun s i wr => ∃ (z : Int) (j k : Nat) (q : List Int), z = (m : Int) - 1 - j ∧ j ≤ m - 1 ∧ k ≤ 64 * j ∧ i = .int .i64 z ∧ s = .int .i64 k ∧ q.length = m ∧ Ints g q wr ∧ Below w.heap.size w wr ∧ Hid (permTo (nums l) m 0 = deals (nums l) (fun i => (m : Int) - i) (fun l i x => swapL l (m - 1 - i) x) (m - 1 - j) j k q)) (fun _ i _ => (intOf i).toNat)
    case atStart => exact ⟨_, 0, 0, upto m, by omega, by omega, by omega, rfl, rfl, upto_len m, hI, hB1, rfl⟩
    case round =>
      clear hI hB1
      obtain ⟨z, j, k, q, hz, hj, hk, rfl, rfl, hq, hI, hB, HD⟩ := hrel
      by_cases hlt : j < m - 1
      · obtain ⟨i, rfl⟩ : ∃ i : Nat, z = i := ⟨z.toNat, by omega⟩
        have hi : i = m - 1 - j := by omega
        have h1 : (1 : Int) ≤ (i : Int) := by omega
        obtain ⟨x, kk, er, hd, hk1, hk2, hx, HN0, HN1⟩ := one_more (nums l) (fun i => (m : Int) - i) (fun l i x => swapL l (m - 1 - i) x) (m - 1) j hlt k q _ HD.out ((i : Int) + 1) (by show (m : Int) - j = _; omega) (by omega)
        have hbel := refBelow_at a cap l hl (by omega) k (by omega) ((i : Int) + 1) (by omega) (by omega) wr (hr.below hB) _ _ _ hd
        simp only [← hi] at HN0
        have HN0 := Lib.hid HN0
        have HN1 := Lib.hid HN1
        clear hd
        have hxm : x < m := by omega
        have him : i < m := by omega
        have HZ := Lib.hid hz
        clear HD hz hi
        go_wp2_with fail
        refine hbel.mono ?_
        rintro e w2 ⟨⟨mm, hkk, rfl⟩, rfl⟩
        subst hkk
        clear hbel
        by_cases he : er = 0
        · subst he
          have HN2 : Hid (permTo (nums l) m 0 = deals (nums l) (fun i => (m : Int) - i) (fun l i x => swapL l (m - 1 - i) x) (m - 1 - (j + 1)) (j + 1) (k + mm) (swapL q i x)) := HN0.out rfl
          clear HN0 HN1
          obtain ⟨A, HA⟩ : ∃ A, Hid (q.getD i 0 = A) := ⟨_, rfl⟩
          obtain ⟨C, HC⟩ : ∃ C, Hid (q.getD x 0 = C) := ⟨_, rfl⟩
          have ci := hI.cell i (by omega)
          have cx := hI.cell x (by omega)
          have fi := hI.frozen i (by omega)
          have fx := hI.frozen x (by omega)
          rw [HA.out] at ci
          rw [HC.out] at cx
          have HS := Lib.hid ((hI.set i C (by omega)).set x A (by simp; omega))
          have HB := Lib.hid ((But.setCell g i wr (.int .i64 C)).trans (But.setCell g x _ (.int .i64 A)))
          obtain ⟨v, cv⟩ : ∃ v, (wr.setCell ⟨g, i, none⟩ (.int .i64 C)).cell? ⟨g, x, none⟩ = some v := ⟨_, (hI.set i C (by omega)).cell x (by simp; omega)⟩
          have HW : Hid (swapL q i x = (q.set i C).set x A) := by show _ = _; unfold swapL; rw [HA.out, HC.out]
          have HB0 := Lib.hid hB
          clear hI hB HA HC
          go_wp2_with fail
          go_roundw
          case rel => exact ⟨(i : Int) - 1, j + 1, k + mm, swapL q i x, by have := HZ.out; omega, by omega, by omega, by go_num, by go_num, by rw [swapL_len]; exact hq, by rw [HW.out]; exact HS.out, HB0.out.trans (HB.out.below hg (by have := HB0.out.size; omega)), HN2⟩
          case measure => simp [intOf]; omega
        · have het : (er == 0) = false := by simpa using he
          have hR3 : (([] : List Int), k + mm, er) = (r, k', e') := by rw [← HR.out, HN1.out he, told_mk he]
          obtain ⟨rfl, rfl, rfl⟩ : [] = r ∧ k + mm = k' ∧ er = e' := by simpa using hR3
          clear HN0 HN1
          go_wp2_with fail
          go_returns
          have ht := Told3.none wr (k + mm) er
          rw [show ((k + mm : Nat) : Int) = (k : Int) + mm by omega] at ht
          exact ⟨ht, hB⟩
      · have hj2 : j = m - 1 := by omega
        have h1 : ¬ (1 : Int) ≤ z := by omega
        clear hz
        have HN2 : Hid (permTo (nums l) m 0 = (q, k, 0)) := by
          show _ = _
          rw [HD.out, hj2, Nat.sub_self]; rfl
        have hR3 : (q, k, (0 : Int)) = (r, k', e') := by rw [← HR.out, HN2.out, told_ok (d := (q, k, (0 : Int))) rfl]
        obtain ⟨rfl, rfl, rfl⟩ : q = r ∧ k = k' ∧ 0 = e' := by simpa using hR3
        clear HD hj2
        go_wp2_with fail
        go_returns
        exact ⟨Told3.some hI hq _ _, hB⟩
  · have hR2 : (([] : List Int), 0, (1 : Int)) = (r, k', e') := by rw [← hR]; unfold permR; rw [if_neg hin]
    obtain ⟨rfl, rfl, rfl⟩ : [] = r ∧ 0 = k' ∧ 1 = e' := by simpa using hR2
    by_cases h0 : n < 0
    · go_enter Try.func12, Try.ntmps12
      go_wp2_with fail
      go_returns
      exact ⟨Told3.none _ 0 _, Below.refl _ _⟩
    · have h1 : 1048576 < n := by omega
      go_enter Try.func12, Try.ntmps12
      go_wp2_with fail
      go_returns
      exact ⟨Told3.none _ 0 _, Below.refl _ _⟩
end Go.Proofs.Ytmhggfgbefjcmaa
