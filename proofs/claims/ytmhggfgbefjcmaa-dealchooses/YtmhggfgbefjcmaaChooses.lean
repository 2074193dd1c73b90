/-
  THE DOCUMENT'S OWN CHOICE, and DealChooses' walk: for every list of numbers, every n and k the law answers true and turns no memory that was there. Conditions: the numbers are at least 0 and below 2^64.
-/
import Derived.Test.YtmhggfgbefjcmaaPerms
import Derived.Test.YtmhggfgbefjcmaaSorted
namespace Go.Proofs.Ytmhggfgbefjcmaa
open Go.RowKit

theorem chosen_mk {t : Nat} {q : List Int} {k : Nat} {er : Int} (h : ¬ er = 0) : chosen t (q, k, er) = ([], k, er) := if_neg h
theorem chosen_ok {t : Nat} {q : List Int} {k : Nat} : chosen t (q, k, 0) = (sortI (q.take t), k, 0) := if_pos rfl

set_option maxHeartbeats 1000000 in
theorem refChoose_any (a : Option Addr) (cap : Nat) (l : List Int) (hl : All64 l) (hlen : l.length ≤ 500) (n t : Int) (hn : n ≤ 300 ∨ 1048576 < n) (w : World) (hr : HoldsRow w a l) (r : List Int) (k' : Nat) (e' : Int) (hR : chooseR (nums l) n t 0 = (r, k', e')) :
    Calls Try.prog 15 #[.slice a l.length cap, .int .i64 n, .int .i64 t] w fun e w' => Told3 w' r k' e' e ∧ Below w.heap.size w w' := by
  by_cases hin : 0 ≤ n ∧ n ≤ 1048576 ∧ 0 ≤ t ∧ t ≤ n
  · obtain ⟨m, rfl⟩ : ∃ m : Nat, n = m := ⟨n.toNat, by omega⟩
    obtain ⟨c, rfl⟩ : ∃ c : Nat, t = c := ⟨t.toNat, by omega⟩
    have hm : m ≤ 300 := by omega
    have hc : c ≤ m := by omega
    have hR2 : chosen c (chooseTo (nums l) m c 0) = (r, k', e') := by rw [← hR]; unfold chooseR; rw [if_pos hin]; rfl
    have HR := Lib.hid hR2
    have g1 : ¬ (m : Int) < 0 := by omega
    have g2 : ¬ (1048576 : Int) < m := by omega
    have g3 : ¬ (c : Int) < 0 := by omega
    have g4 : ¬ (m : Int) < (c : Int) := by omega
    clear hR hR2 hin hn
    go_enter Try.func15, Try.ntmps15
    go_wp2_with fail
    refine (row_cap m hm w).mono ?_
    rintro e w1 ⟨⟨g, cp, hcp, rfl, hg, hI⟩, hB1⟩
    go_wp2_with fail
    go_loopw [10, 11] (fun s i wr => ∃ (j k : Nat) (q : List Int), j ≤ c ∧ k ≤ 64 * j ∧ i = .int .i64 j ∧ s = .int .i64 k ∧ q.length = m ∧ Ints g q wr ∧ Below w.heap.size w wr ∧ Hid (chooseTo (nums l) m c 0 = deals (nums l) (fun i => (m : Int) - i) (fun l i x => swapL l i (i + x)) (c - j) j k q)) (fun _ i _ => c - (intOf i).toNat)
    case atStart => exact ⟨0, 0, upto m, by omega, by omega, rfl, rfl, upto_len m, hI, hB1, rfl⟩
    case round =>
      clear hI hB1
      obtain ⟨j, k, q, hj, hk, rfl, rfl, hq, hI, hB, HD⟩ := hrel
      by_cases hlt : j < c
      · obtain ⟨x, kk, er, hd, hk1, hk2, hx, HN0, HN1⟩ := one_more (nums l) (fun i => (m : Int) - i) (fun l i x => swapL l i (i + x)) c j hlt k q _ HD.out ((m : Int) - j) rfl (by omega)
        have hbel := refBelow_at a cap l hl (by omega) k (by omega) ((m : Int) - j) (by omega) (by omega) wr (hr.below hB) _ _ _ hd
        have HN0 := Lib.hid HN0
        have HN1 := Lib.hid HN1
        have hxm : j + x < m := by omega
        have hjm : j < m := by omega
        clear hd HD
        go_wp2_with fail
        refine hbel.mono ?_
        rintro e w2 ⟨⟨mm, hkk, rfl⟩, rfl⟩
        subst hkk
        clear hbel
        by_cases he : er = 0
        · subst he
          have HN2 : Hid (chooseTo (nums l) m c 0 = deals (nums l) (fun i => (m : Int) - i) (fun l i x => swapL l i (i + x)) (c - (j + 1)) (j + 1) (k + mm) (swapL q j (j + x))) := HN0.out rfl
          clear HN0 HN1
          obtain ⟨A, HA⟩ : ∃ A, Hid (q.getD j 0 = A) := ⟨_, rfl⟩
          obtain ⟨C, HC⟩ : ∃ C, Hid (q.getD (j + x) 0 = C) := ⟨_, rfl⟩
          have ci := hI.cell j (by omega)
          have cx := hI.cell (j + x) (by omega)
          have fi := hI.frozen j (by omega)
          have fx := hI.frozen (j + x) (by omega)
          rw [HA.out] at ci
          rw [HC.out] at cx
          have HS := Lib.hid ((hI.set j C (by omega)).set (j + x) A (by simp; omega))
          have HB := Lib.hid ((But.setCell g j wr (.int .i64 C)).trans (But.setCell g (j + x) _ (.int .i64 A)))
          obtain ⟨v, cv⟩ : ∃ v, (wr.setCell ⟨g, j, none⟩ (.int .i64 C)).cell? ⟨g, j + x, none⟩ = some v := ⟨_, (hI.set j C (by omega)).cell (j + x) (by simp; omega)⟩
          have HW : Hid (swapL q j (j + x) = (q.set j C).set (j + x) A) := by show _ = _; unfold swapL; rw [HA.out, HC.out]
          have HB0 := Lib.hid hB
          clear hI hB HA HC
          go_wp2_with fail
          go_roundw
          case rel => exact ⟨j + 1, k + mm, swapL q j (j + x), by omega, by omega, by go_num, by go_num, by rw [swapL_len]; exact hq, by rw [HW.out]; exact HS.out, HB0.out.trans (HB.out.below hg (by have := HB0.out.size; omega)), HN2⟩
          case measure => simp [intOf]; omega
        · have het : (er == 0) = false := by simpa using he
          have hR3 : (([] : List Int), k + mm, er) = (r, k', e') := by rw [← HR.out, HN1.out he, chosen_mk he]
          obtain ⟨rfl, rfl, rfl⟩ : [] = r ∧ k + mm = k' ∧ er = e' := by simpa using hR3
          clear HN0 HN1
          go_wp2_with fail
          go_returns
          have ht := Told3.none wr (k + mm) er
          rw [show ((k + mm : Nat) : Int) = (k : Int) + mm by omega] at ht
          exact ⟨ht, hB⟩
      · have hj2 : j = c := by omega
        have HN2 : Hid (chooseTo (nums l) m c 0 = (q, k, 0)) := by
          show _ = _
          rw [HD.out, hj2, Nat.sub_self]; rfl
        have hR3 : (sortI (q.take c), k, (0 : Int)) = (r, k', e') := by rw [← HR.out, HN2.out, chosen_ok]
        obtain ⟨rfl, rfl, rfl⟩ : sortI (q.take c) = r ∧ k = k' ∧ 0 = e' := by simpa using hR3
        have hjc : ¬ (j : Int) < (c : Int) := by omega
        have hso := sorted_any (some ⟨g, 0, none⟩) c cp (q.take c) (by simp; omega) (by omega) wr (hI.take c).holds
        have htl : (sortI (q.take c)).length = c := by rw [sortI_len]; simp; omega
        clear HD hj2 hI hR3
        go_wp2_with fail
        refine hso.mono ?_
        rintro e w2 ⟨⟨g2, c2, rfl, hI2⟩, hB2⟩
        have b2 := hB.trans (hB2.mono hB.size)
        clear hso hB hB2
        go_wp2_with fail
        go_returns
        exact ⟨Told3.some hI2 htl _ _, b2⟩
  · have hR2 : (([] : List Int), 0, (1 : Int)) = (r, k', e') := by rw [← hR]; unfold chooseR; rw [if_neg hin]
    obtain ⟨rfl, rfl, rfl⟩ : [] = r ∧ 0 = k' ∧ 1 = e' := by simpa using hR2
    by_cases h0 : n < 0
    · go_enter Try.func15, Try.ntmps15
      go_wp2_with fail
      go_returns
      exact ⟨Told3.none _ 0 _, Below.refl _ _⟩
    · by_cases h1 : 1048576 < n
      · go_enter Try.func15, Try.ntmps15
        go_wp2_with fail
        go_returns
        exact ⟨Told3.none _ 0 _, Below.refl _ _⟩
      · by_cases h2 : t < 0
        · go_enter Try.func15, Try.ntmps15
          go_wp2_with fail
          go_returns
          exact ⟨Told3.none _ 0 _, Below.refl _ _⟩
        · have h4 : n < t := by omega
          go_enter Try.func15, Try.ntmps15
          go_wp2_with fail
          go_returns
          exact ⟨Told3.none _ 0 _, Below.refl _ _⟩

theorem chooseR_len (xs : Nat → Int) (n t : Int) (k : Nat) : (chooseR xs n t k).1.length ≤ 1048576 := by
  unfold chooseR
  split
  · have h : (chooseTo xs n.toNat t.toNat k).1.length ≤ 1048576 := by
      unfold chooseTo
      rw [deals_len _ _ _ (fun l i x => swapL_len _ _ _), upto_len]
      omega
    generalize chooseTo xs n.toNat t.toNat k = d at *
    unfold chosen
    split
    · show (sortI (d.1.take t.toNat)).length ≤ 1048576
      rw [sortI_len]; simp; omega
    · exact Nat.zero_le _
  · exact Nat.zero_le _

set_option maxHeartbeats 1000000 in
theorem chooses_great (a : Option Addr) (len cap : Nat) (n k0 : Int) (h : greatB len n = true) (w : World) :
    Calls Try.prog 4 #[.slice a len cap, .int .i64 n, .int .i64 k0] w fun e w' => e = .returned (.bool true) ∧ Below w.heap.size w w' := by
  go_enter Try.func4, Try.ntmps4
  go_wp2_with fail
  refine (great_any a len cap n _).mono ?_
  rintro e w1 ⟨rfl, rfl⟩
  rw [h]
  go_wp2_with fail
  refine (fixed_any _).mono ?_
  rintro e w1 ⟨rfl, b1⟩
  go_wp2_with fail
  go_ret
  exact ⟨rfl, b1⟩

set_option maxHeartbeats 1000000 in
theorem chooses_any (a : Option Addr) (cap : Nat) (l : List Int) (hl : All64 l) (n k0 : Int) (h : greatB l.length n = false) (w : World) (hr : HoldsRow w a l) :
    Calls Try.prog 4 #[.slice a l.length cap, .int .i64 n, .int .i64 k0] w fun e w' => e = .returned (.bool true) ∧ Below w.heap.size w w' := by
  obtain ⟨hlen, hn⟩ : l.length ≤ 500 ∧ (n ≤ 300 ∨ 1048576 < n) := by
    unfold greatB at h
    simp at h
    omega
  have hb := chooseR_len (nums l) n k0 0
  obtain ⟨r, k', e', hR⟩ : ∃ r k' e', chooseR (nums l) n k0 0 = (r, k', e') := ⟨_, _, _, rfl⟩
  rw [hR] at hb
  have HR := Lib.hid hR
  clear hR
  go_enter Try.func4, Try.ntmps4
  go_wp2_with fail
  refine (great_any a l.length cap n _).mono ?_
  rintro e w1 ⟨rfl, rfl⟩
  rw [h]
  go_wp2_with fail
  refine (choose_list _ _ _ l hl n k0 0 (by decide) _ (ListAt.made w a cap l hr) r k' e' HR.out).mono ?_
  rintro e w1 ⟨⟨x1, q1, rfl, r1⟩, l1, hB1⟩
  have b1 := hB1.past1
  have hr1 := hr.below b1
  clear hB1
  go_wp2_with fail
  refine (refChoose_any a cap l hl hlen n k0 hn w1 hr1 r k' e' HR.out).mono ?_
  rintro e w2 ⟨⟨x2, q2, rfl, r2⟩, b2⟩
  have r1 := r1.below b2
  have l1 := l1.below b2
  have b2 := b1.trans (b2.mono b1.size)
  clear b1
  go_wp2_with fail
  refine (fixed_any _).mono ?_
  rintro e w3 ⟨rfl, b3⟩
  have r1 := r1.below b3
  have r2 := r2.below b3
  have l1 := l1.below b3
  have b3 := b2.trans (b3.mono b2.size)
  clear b2
  go_wp2_with fail
  refine (same_any _ _ _ _ r r hb hb _ r1 r2).mono ?_
  rintro e w4 ⟨rfl, b4⟩
  rw [decide_eq_true (rfl : r = r)]
  have c1 := (l1.below b4).c1
  have b4 := b3.trans (b4.mono b3.size)
  clear b3 l1 r1 r2
  go_wp2_with fail
  go_ret
  exact ⟨rfl, b4⟩
end Go.Proofs.Ytmhggfgbefjcmaa
