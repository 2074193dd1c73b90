/-
  THE DOCUMENT'S OWN WEIGHTS, and DealDeals' walk: for every list of numbers and every n the law answers true and turns no memory that was there. Conditions: the numbers are at least 0 and below 2^64.
-/
import Derived.Test.YtmhggfgbefjcmaaPerms
namespace Go.Proofs.Ytmhggfgbefjcmaa
open Go.RowKit

set_option maxHeartbeats 1000000 in
theorem refDeal_any (a : Option Addr) (cap : Nat) (l : List Int) (hl : All64 l) (hlen : l.length ≤ 500) (n : Int) (hn : n ≤ 300 ∨ 1048576 < n) (w : World) (hr : HoldsRow w a l) (r : List Int) (k' : Nat) (e' : Int) (hR : dealR (nums l) n 0 = (r, k', e')) :
    Calls Try.prog 17 #[.slice a l.length cap, .int .i64 n] w fun e w' => Told3 w' r k' e' e ∧ Below w.heap.size w w' := by
  by_cases hin : 0 ≤ n ∧ n ≤ 1048576
  · obtain ⟨m, rfl⟩ : ∃ m : Nat, n = m := ⟨n.toNat, by omega⟩
    have hm : m ≤ 300 := by omega
    have hR2 : told (dealTo (nums l) m 0) = (r, k', e') := by rw [← hR]; unfold dealR; rw [if_pos hin]; rfl
    have HR := Lib.hid hR2
    have g1 : ¬ (m : Int) < 0 := by omega
    have g2 : ¬ (1048576 : Int) < m := by omega
    clear hR hR2 hin hn
    have hmk := run_made w m (by omega)
    have HI := Lib.hid (Ints.made w (List.replicate m 0))
    have HB := Lib.hid ((Below.refl w.heap.size w).alloc (Nat.le_refl _) (.cells ((List.replicate m (0 : Int)).map (Value.int .i64)).toArray 3))
    generalize (Obj.cells ((List.replicate m (0 : Int)).map (Value.int .i64)).toArray 3) = ob at *
    go_enter Try.func17, Try.ntmps17
    go_wp2_with fail
    go_loopw [8, 9] (fun s i wr => ∃ (j k : Nat) (q : List Int), j ≤ m ∧ k ≤ 64 * j ∧ i = .int .i64 j ∧ s = .int .i64 k ∧ q.length = m ∧ Small q j ∧ Ints w.heap.size q wr ∧ Below w.heap.size w wr ∧ Hid (dealTo (nums l) m 0 = deals (nums l) (fun _ => (m : Int)) (fun l _ x => addOne l x) (m - j) j k q)) (fun _ i _ => m - (intOf i).toNat)
    case atStart => exact ⟨0, 0, List.replicate m 0, by omega, by omega, rfl, rfl, by simp, Small.start m, HI.out, HB.out, rfl⟩
    case round =>
      obtain ⟨j, k, q, hj, hk, rfl, rfl, hq, hsm, hI, hB, HD⟩ := hrel
      by_cases hlt : j < m
      · obtain ⟨x, kk, er, hd, hk1, hk2, hx, HN0, HN1⟩ := one_more (nums l) (fun _ => (m : Int)) (fun l _ x => addOne l x) m j hlt k q _ HD.out (m : Int) rfl (by omega)
        have hbel := refBelow_at a cap l hl (by omega) k (by omega) (m : Int) (by omega) (by omega) wr (hr.below hB) _ _ _ hd
        have HN0 := Lib.hid HN0
        have HN1 := Lib.hid HN1
        have hxm : x < m := by omega
        clear hd HD
        go_wp2_with fail
        refine hbel.mono ?_
        rintro e w2 ⟨⟨mm, hkk, rfl⟩, rfl⟩
        subst hkk
        clear hbel
        by_cases he : er = 0
        · subst he
          have HN2 : Hid (dealTo (nums l) m 0 = deals (nums l) (fun _ => (m : Int)) (fun l _ x => addOne l x) (m - (j + 1)) (j + 1) (k + mm) (addOne q x)) := HN0.out rfl
          clear HN0 HN1
          have hb1 := hsm x
          have hs2 := Lib.hid (hsm.next x)
          have cx := hI.cell x (by omega)
          have fx := hI.frozen x (by omega)
          have HS := Lib.hid (hI.set x (q.getD x 0 + 1) (by omega))
          have HB2 := Lib.hid (But.setCell w.heap.size x wr (.int .i64 (q.getD x 0 + 1)))
          have HA : Hid (addOne q x = q.set x (q.getD x 0 + 1)) := rfl
          have HB0 := Lib.hid hB
          generalize q.getD x 0 = y at *
          clear hI hB hsm
          go_wp2_with fail
          go_roundw
          case rel => exact ⟨j + 1, k + mm, addOne q x, by omega, by omega, by go_num, by go_num, by rw [addOne_len]; exact hq, hs2.out, by rw [HA.out]; exact HS.out, HB0.out.trans (HB2.out.below (Nat.le_refl _) (by have := HB0.out.size; omega)), HN2⟩
          case measure => simp [intOf]; omega
        · have het : (er == 0) = false := by simpa using he
          have hR3 : (([] : List Int), k + mm, er) = (r, k', e') := by rw [← HR.out, HN1.out he, told_mk he]
          obtain ⟨rfl, rfl, rfl⟩ : [] = r ∧ k + mm = k' ∧ er = e' := by simpa using hR3
          clear HN0 HN1
          go_wp2_with fail
          go_returns
          have ht := Told3.none wr (k + mm) er
          rw [show ((k + mm : Nat) : Int) = (k : Int) + mm by omega] at ht
          exact ⟨ht, hB⟩
      · have hj2 : j = m := by omega
        have HN2 : Hid (dealTo (nums l) m 0 = (q, k, 0)) := by
          show _ = _
          rw [HD.out, hj2, Nat.sub_self]; rfl
        have hR3 : (q, k, (0 : Int)) = (r, k', e') := by rw [← HR.out, HN2.out, told_ok (d := (q, k, (0 : Int))) rfl]
        obtain ⟨rfl, rfl, rfl⟩ : q = r ∧ k = k' ∧ 0 = e' := by simpa using hR3
        have h1 : ¬ (j : Int) < m := by omega
        clear HD hj2
        go_wp2_with fail
        go_returns
        exact ⟨Told3.some hI hq _ _, hB⟩
  · have hR2 : (([] : List Int), 0, (1 : Int)) = (r, k', e') := by rw [← hR]; unfold dealR; rw [if_neg hin]
    obtain ⟨rfl, rfl, rfl⟩ : [] = r ∧ 0 = k' ∧ 1 = e' := by simpa using hR2
    by_cases h0 : n < 0
    · go_enter Try.func17, Try.ntmps17
      go_wp2_with fail
      go_returns
      exact ⟨Told3.none _ 0 _, Below.refl _ _⟩
    · have h1 : 1048576 < n := by omega
      go_enter Try.func17, Try.ntmps17
      go_wp2_with fail
      go_returns
      exact ⟨Told3.none _ 0 _, Below.refl _ _⟩

theorem dealR_len (xs : Nat → Int) (n : Int) (k : Nat) : (dealR xs n k).1.length ≤ 1048576 := by
  unfold dealR
  split
  · refine Nat.le_trans (told_len _) ?_
    unfold dealTo
    rw [deals_len _ _ _ (fun l i x => addOne_len _ _), List.length_replicate]
    omega
  · exact Nat.zero_le _

set_option maxHeartbeats 1000000 in
theorem deals_great (a : Option Addr) (len cap : Nat) (n : Int) (h : greatB len n = true) (w : World) :
    Calls Try.prog 5 #[.slice a len cap, .int .i64 n] w fun e w' => e = .returned (.bool true) ∧ Below w.heap.size w w' := by
  go_enter Try.func5, Try.ntmps5
  go_wp2_with fail
  refine (great_any a len cap n _).mono ?_
  rintro e w1 ⟨rfl, rfl⟩
  rw [h]
  go_wp2_with fail
  refine (fixed_any _).mono ?_
  rintro e w1 ⟨rfl, b1⟩
  go_wp2_with fail
  go_ret
  exact ⟨rfl, b1⟩

set_option maxHeartbeats 1000000 in
theorem deals_any (a : Option Addr) (cap : Nat) (l : List Int) (hl : All64 l) (n : Int) (h : greatB l.length n = false) (w : World) (hr : HoldsRow w a l) :
    Calls Try.prog 5 #[.slice a l.length cap, .int .i64 n] w fun e w' => e = .returned (.bool true) ∧ Below w.heap.size w w' := by
  obtain ⟨hlen, hn⟩ : l.length ≤ 500 ∧ (n ≤ 300 ∨ 1048576 < n) := by
    unfold greatB at h
    simp at h
    omega
  have hb := dealR_len (nums l) n 0
  obtain ⟨r, k', e', hR⟩ : ∃ r k' e', dealR (nums l) n 0 = (r, k', e') := ⟨_, _, _, rfl⟩
  rw [hR] at hb
  have HR := Lib.hid hR
  clear hR
  go_enter Try.func5, Try.ntmps5
  go_wp2_with fail
  refine (great_any a l.length cap n _).mono ?_
  rintro e w1 ⟨rfl, rfl⟩
  rw [h]
  go_wp2_with fail
  refine (deal_list _ _ _ l hl n 0 (by decide) _ (ListAt.made w a cap l hr) r k' e' HR.out).mono ?_
  rintro e w1 ⟨⟨x1, q1, rfl, r1⟩, l1, hB1⟩
  have b1 := hB1.past1
  have hr1 := hr.below b1
  clear hB1
  go_wp2_with fail
  refine (refDeal_any a cap l hl hlen n hn w1 hr1 r k' e' HR.out).mono ?_
  rintro e w2 ⟨⟨x2, q2, rfl, r2⟩, b2⟩
  have r1 := r1.below b2
  have l1 := l1.below b2
  have b2 := b1.trans (b2.mono b1.size)
  clear b1
  go_wp2_with fail
  refine (fixed_any _).mono ?_
  rintro e w3 ⟨rfl, b3⟩
  have r1 := r1.below b3
  have r2 := r2.below b3
  have l1 := l1.below b3
  have b3 := b2.trans (b3.mono b2.size)
  clear b2
  go_wp2_with fail
  refine (same_any _ _ _ _ r r hb hb _ r1 r2).mono ?_
  rintro e w4 ⟨rfl, b4⟩
  rw [decide_eq_true (rfl : r = r)]
  have c1 := (l1.below b4).c1
  have b4 := b3.trans (b4.mono b3.size)
  clear b3 l1 r1 r2
  go_wp2_with fail
  go_ret
  exact ⟨rfl, b4⟩
end Go.Proofs.Ytmhggfgbefjcmaa
