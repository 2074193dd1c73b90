/-
  drawEach: it draws one behind the other, below the bounds that it is handed, does with each what it is handed, and ends with the first draw that fails. Conditions: the source, the bounds and what is done are told by contracts; no more than 2^20 draws.
-/
import Derived.Test.YtmhggfgbefjcmaaDealFns
import Derived.Test.YtmhggfgbefjcmaaFairNum
namespace Go.Proofs.Ytmhggfgbefjcmaa
open Go.RowKit

/-- What comes of draws: the row, where the source stands then, the error. -/
def deals (xs : Nat → Int) (B : Nat → Int) (next : List Int → Nat → Nat → List Int) : Nat → Nat → Nat → List Int → List Int × Nat × Int
  | 0, _, k, l => (l, k, 0)
  | f + 1, i, k, l => if (draw xs (B i) k).2.2 = 0 then deals xs B next f (i + 1) (draw xs (B i) k).2.1 (next l i (draw xs (B i) k).1.toNat) else (l, (draw xs (B i) k).2.1, (draw xs (B i) k).2.2)

theorem drawTo_in (xs : Nat → Int) (n : Int) (hn : 0 < n) : ∀ f k, k ≤ (drawTo xs n f k).2.1 ∧ (drawTo xs n f k).2.1 ≤ k + f ∧ 0 ≤ (drawTo xs n f k).1 ∧ (drawTo xs n f k).1 < n ∧ ((drawTo xs n f k).2.2 = 0 ∨ (drawTo xs n f k).2.2 = 7) := by
  intro f
  induction f with
  | zero => intro k; exact ⟨Nat.le_refl _, Nat.le_refl _, Int.le_refl _, hn, .inr rfl⟩
  | succ f ih =>
    intro k
    unfold drawTo
    split
    · exact ⟨by simp, by show k + 1 ≤ k + (f + 1); omega, Int.emod_nonneg _ (by omega), Int.emod_lt_of_pos _ hn, .inl rfl⟩
    · obtain ⟨a, b, c⟩ := ih (k + 1)
      exact ⟨by omega, by omega, c⟩
theorem draw_in (xs : Nat → Int) (n : Int) (hn : 0 < n) (k : Nat) : k ≤ (draw xs n k).2.1 ∧ (draw xs n k).2.1 ≤ k + 64 ∧ 0 ≤ (draw xs n k).1 ∧ (draw xs n k).1 < n ∧ ((draw xs n k).2.2 = 0 ∨ (draw xs n k).2.2 = 7) := by
  unfold draw
  rw [if_neg (by omega)]
  exact drawTo_in xs n hn 64 k

set_option maxHeartbeats 1000000 in
theorem each_any (T : TypeId) (v : Value) (K b top : Nat) (S : Nat → World → Prop) (xs : Nat → Int) (hs : Src T v K b top S xs)
    (B : Nat → Int) (next : List Int → Nat → Nat → List Int) (I : Nat → Nat → List Int → World → Prop) (FB FD : Nat) (cb : Value) (cd : Array Value)
    (tm : Int) (t : Nat) (ht : tm = t ∨ (tm = -1 ∧ t = 0)) (ht2 : t ≤ 1048576) (k0 : Nat) (hk0 : k0 + 64 * t ≤ top)
    (hIS : ∀ i k l w, I i k l w → S k w) (hIn : ∀ i k k' l w w', I i k l w → S k' w' → But b w w' → I i k' l w')
    (hBb : ∀ i, i < t → 0 < B i ∧ B i ≤ 1048576)
    (eB : ∀ i w, (callFunc FB #[.int .i64 i, cb]).run Try.prog w = .ok (.enter FB #[.int .i64 i, cb]) w)
    (eD : ∀ i x w, (callFunc FD (#[.int .i64 i, .int .i64 x] ++ cd)).run Try.prog w = .ok (.enter FD (#[.int .i64 i, .int .i64 x] ++ cd)) w)
    (hB : ∀ (i : Nat) k l w, i < t → I i k l w → Calls Try.prog FB #[.int .i64 (i : Int), cb] w fun e w' => e = .returned (.int .i64 (B i)) ∧ w = w')
    (hD : ∀ (i x : Nat) k l w, i < t → (x : Int) < B i → I i k l w → Calls Try.prog FD (#[.int .i64 (i : Int), .int .i64 (x : Int)] ++ cd) w fun e w' => e = .returned (.tuple #[]) ∧ I (i + 1) k (next l i x) w')
    (l0 : List Int) (w : World) (h0 : I 0 k0 l0 w) :
    Calls Try.prog 22 #[.iface T v, .int .i64 tm, .func (.func FB) #[] #[cb], .func (.func FD) #[] cd] w fun e w' => e = .returned (.int .i64 (deals xs B next t 0 k0 l0).2.2) ∧ ∃ j, j ≤ t ∧ I j (deals xs B next t 0 k0 l0).2.1 (deals xs B next t 0 k0 l0).1 w' := by
  go_enter Try.func22, Try.ntmps22
  go_wp2_with fail
  go_loopw [13] (fun i wr => ∃ (j k : Nat) (l : List Int), j ≤ t ∧ k ≤ k0 + 64 * j ∧ i = .int .i64 j ∧ I j k l wr ∧ Hid (deals xs B next t 0 k0 l0 = deals xs B next (t - j) j k l)) (fun i _ => t - (intOf i).toNat)
  case atStart => exact ⟨0, k0, l0, by omega, by omega, rfl, h0, rfl⟩
  case round =>
    obtain ⟨j, k, l, hj, hk, rfl, hI, HD⟩ := hrel
    by_cases hlt : j < t
    · have htm : (j : Int) < tm := by omega
      have hb := hBb j hlt
      have hd := draw_in xs (B j) hb.1 k
      have hcB := hB j k l wr hlt hI
      have hbel := below_any T v K b top S xs hs (B j) (by omega) (by omega) k wr (by omega) (hIS _ _ _ _ hI)
      have HN : Hid (deals xs B next (t - j) j k l = if (draw xs (B j) k).2.2 = 0 then deals xs B next (t - (j + 1)) (j + 1) (draw xs (B j) k).2.1 (next l j (draw xs (B j) k).1.toNat) else (l, (draw xs (B j) k).2.1, (draw xs (B j) k).2.2)) := by
        show _ = _
        rw [show t - j = (t - (j + 1)) + 1 by omega]; rfl
      generalize (draw xs (B j) k).2.2 = er at *
      generalize (draw xs (B j) k).2.1 = k' at *
      generalize (draw xs (B j) k).1 = y at *
      obtain ⟨x, rfl⟩ : ∃ x : Nat, y = x := ⟨y.toNat, by omega⟩
      have hcD := fun w' => hD j x k' l w' hlt hd.2.2.2.1
      have hIn' := hIn j k k' l wr
      generalize B j = bj at *
      clear hB hD hBb hs
      go_wp2_with fail
      refine hcB.mono ?_
      rintro e w1 ⟨rfl, rfl⟩
      go_wp2_with fail
      refine hbel.mono ?_
      rintro e w2 ⟨rfl, hS2, hB2⟩
      have hI2 := hIn' w2 hI hS2 hB2
      clear hcB hbel hI hS2 hB2 hIn'
      by_cases he : er = 0
      · subst he
        have HN2 : Hid (deals xs B next t 0 k0 l0 = deals xs B next (t - (j + 1)) (j + 1) k' (next l j x)) := HD.out.trans HN.out
        clear HD HN
        go_wp2_with fail
        refine (hcD w2 hI2).mono ?_
        rintro e w3 ⟨rfl, hI3⟩
        clear hI2 hcD
        go_wp2_with fail
        go_roundw
        case rel => exact ⟨j + 1, k', next l j x, by omega, by omega, by go_num, hI3, HN2⟩
        case measure => simp [intOf]; omega
      · have hen : (er == 0) = false := by simpa using he
        have HN2 : Hid (deals xs B next t 0 k0 l0 = (l, k', er)) := HD.out.trans (HN.out.trans (if_neg he))
        clear HD HN
        go_wp2_with fail
        go_ret
        refine ⟨?_, ?_⟩
        · rw [HN2.out]; rfl
        · rw [HN2.out]; exact ⟨j, hj, hI2⟩
    · have hj2 : j = t := by omega
      have htm : ¬ (j : Int) < tm := by omega
      have HN2 : Hid (deals xs B next t 0 k0 l0 = (l, k, 0)) := by
        show _ = _
        rw [HD.out, hj2, Nat.sub_self]; rfl
      clear HD
      go_wp2_with fail
      go_ret
      refine ⟨?_, ?_⟩
      · rw [HN2.out]; rfl
      · rw [HN2.out]; exact ⟨j, hj, hI⟩
end Go.Proofs.Ytmhggfgbefjcmaa
