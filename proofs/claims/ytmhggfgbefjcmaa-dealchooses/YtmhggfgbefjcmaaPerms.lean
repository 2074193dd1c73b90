/-
  DealPerms' walk: for every list of numbers and every n the law answers true and turns no memory that was there. Conditions: the numbers are at least 0 and below 2^64.
-/
import Derived.Test.YtmhggfgbefjcmaaRefPerm
namespace Go.Proofs.Ytmhggfgbefjcmaa
open Go.RowKit

/-- Is that more than is gone through? -/
def greatB (len : Nat) (n : Int) : Bool := decide (500 < len) || (decide (300 < n) && decide (n ≤ 1048576))

theorem great_any (a : Option Addr) (len cap : Nat) (n : Int) (w : World) :
    Calls Try.prog 9 #[.slice a len cap, .int .i64 n] w fun e w' => e = .returned (.bool (greatB len n)) ∧ w = w' := by
  by_cases h1 : 500 < len
  · have hg : greatB len n = true := by unfold greatB; rw [decide_eq_true h1]; rfl
    go_enter Try.func9, Try.ntmps9
    go_wp2
    go_ret
    exact ⟨rfl, rfl⟩
  · by_cases h2 : 300 < n
    · by_cases h3 : n ≤ 1048576
      · have hg : greatB len n = true := by unfold greatB; rw [decide_eq_true h2, decide_eq_true h3]; simp
        go_enter Try.func9, Try.ntmps9
        go_wp2
        go_ret
        exact ⟨congrArg (fun b => Ending.returned (.bool b)) hg.symm, rfl⟩
      · have hg : greatB len n = false := by unfold greatB; rw [decide_eq_false h1, decide_eq_false h3]; simp
        go_enter Try.func9, Try.ntmps9
        go_wp2
        go_ret
        exact ⟨congrArg (fun b => Ending.returned (.bool b)) (decide_eq_false (by omega)), rfl⟩
    · have hg : greatB len n = false := by unfold greatB; rw [decide_eq_false h1, decide_eq_false h2]; simp
      go_enter Try.func9, Try.ntmps9
      go_wp2
      go_ret
      exact ⟨congrArg (fun b => Ending.returned (.bool b)) (decide_eq_false (by omega)), rfl⟩

theorem deals_len (xs B : Nat → Int) (next : List Int → Nat → Nat → List Int) (hn : ∀ l i x, (next l i x).length = l.length) : ∀ f i k l, (deals xs B next f i k l).1.length = l.length := by
  intro f
  induction f with
  | zero => intro i k l; rfl
  | succ f ih =>
    intro i k l
    unfold deals
    split
    · rw [ih, hn]
    · rfl
theorem told_len (d : List Int × Nat × Int) : (told d).1.length ≤ d.1.length := by
  unfold told
  split
  · exact Nat.le_refl _
  · exact Nat.zero_le _
theorem permR_len (xs : Nat → Int) (n : Int) (k : Nat) : (permR xs n k).1.length ≤ 1048576 := by
  unfold permR
  split
  · refine Nat.le_trans (told_len _) ?_
    unfold permTo
    rw [deals_len _ _ _ (fun l i x => swapL_len _ _ _), upto_len]
    omega
  · exact Nat.zero_le _

set_option maxHeartbeats 1000000 in
theorem perms_great (a : Option Addr) (len cap : Nat) (n : Int) (h : greatB len n = true) (w : World) :
    Calls Try.prog 3 #[.slice a len cap, .int .i64 n] w fun e w' => e = .returned (.bool true) ∧ Below w.heap.size w w' := by
  go_enter Try.func3, Try.ntmps3
  go_wp2_with fail
  refine (great_any a len cap n _).mono ?_
  rintro e w1 ⟨rfl, rfl⟩
  rw [h]
  go_wp2_with fail
  refine (fixed_any _).mono ?_
  rintro e w1 ⟨rfl, b1⟩
  go_wp2_with fail
  go_ret
  exact ⟨rfl, b1⟩

set_option maxHeartbeats 1000000 in
theorem perms_any (a : Option Addr) (cap : Nat) (l : List Int) (hl : All64 l) (n : Int) (h : greatB l.length n = false) (w : World) (hr : HoldsRow w a l) :
    Calls Try.prog 3 #[.slice a l.length cap, .int .i64 n] w fun e w' => e = .returned (.bool true) ∧ Below w.heap.size w w' := by
  obtain ⟨hlen, hn⟩ : l.length ≤ 500 ∧ (n ≤ 300 ∨ 1048576 < n) := by
    unfold greatB at h
    simp at h
    omega
  have hb := permR_len (nums l) n 0
  obtain ⟨r, k', e', hR⟩ : ∃ r k' e', permR (nums l) n 0 = (r, k', e') := ⟨_, _, _, rfl⟩
  rw [hR] at hb
  have HR := Lib.hid hR
  clear hR
  go_enter Try.func3, Try.ntmps3
  go_wp2_with fail
  refine (great_any a l.length cap n _).mono ?_
  rintro e w1 ⟨rfl, rfl⟩
  rw [h]
  go_wp2_with fail
  refine (perm_list _ _ _ l hl n 0 (by decide) _ (ListAt.made w a cap l hr) r k' e' HR.out).mono ?_
  rintro e w1 ⟨⟨x1, q1, rfl, r1⟩, l1, hB1⟩
  have b1 := hB1.past1
  have hr1 := hr.below b1
  clear hB1
  go_wp2_with fail
  refine (refPerm_any a cap l hl hlen n hn w1 hr1 r k' e' HR.out).mono ?_
  rintro e w2 ⟨⟨x2, q2, rfl, r2⟩, b2⟩
  have r1 := r1.below b2
  have l1 := l1.below b2
  have b2 := b1.trans (b2.mono b1.size)
  clear b1
  go_wp2_with fail
  refine (fixed_any _).mono ?_
  rintro e w3 ⟨rfl, b3⟩
  have r1 := r1.below b3
  have r2 := r2.below b3
  have l1 := l1.below b3
  have b3 := b2.trans (b3.mono b2.size)
  clear b2
  go_wp2_with fail
  refine (same_any _ _ _ _ r r hb hb _ r1 r2).mono ?_
  rintro e w4 ⟨rfl, b4⟩
  rw [decide_eq_true (rfl : r = r)]
  have c1 := (l1.below b4).c1
  have b4 := b3.trans (b4.mono b3.size)
  clear b3 l1 r1 r2
  go_wp2_with fail
  go_ret
  exact ⟨rfl, b4⟩
end Go.Proofs.Ytmhggfgbefjcmaa
