/-
  THE DOCUMENT's Turn: the matrix with a column turned, cell by cell; or why not. Condition: at most 2^20 cells and numbers.
-/
import Derived.Test.YtjaogmbeoldefaaBinV
namespace Go.Proofs.Ytjaogmbeoldefaa
open Go.RowKit

theorem turn_at {C : List Int} {r q j jj i : Nat} {p : List Int} (hC : r * q = C.length) (hjj : jj < q) (hi : i < r) (kx : Nat) (hk : if jj = j then p.getD i 0 = (kx : Int) else kx = i) : (turnL C r j p).getD (jj * r + i) 0 = C.getD (jj * r + kx) 0 := by
  have hlt := (idx_lt hC hi hjj).1
  unfold turnL
  rw [turnTo_at _ _ _ _ _ hlt]
  by_cases e : jj = j
  · subst e
    rw [if_pos rfl] at hk
    rw [if_pos (by omega), show jj * r + i - jj * r = i by omega, hk, Int.toNat_natCast]
  · rw [if_neg e] at hk
    rw [if_neg (fun h => ?_), hk]
    rcases Nat.lt_or_ge jj j with h2 | h2
    · have := Nat.mul_le_mul_right r (show jj + 1 ≤ j by omega)
      rw [Nat.add_mul, Nat.one_mul] at this
      omega
    · have := Nat.mul_le_mul_right r (show j + 1 ≤ jj by omega)
      rw [Nat.add_mul, Nat.one_mul] at this
      omega
theorem take_step {D : List Int} {t : Nat} (h : t < D.length) : D.take (t + 1) = D.take t ++ [D.getD t 0] := by
  rw [List.take_add_one, List.getElem?_eq_getElem h]
  simp [List.getD_eq_getElem?_getD, h]

set_option maxRecDepth 20000 in
set_option maxHeartbeats 2000000 in
theorem refTurn_no (r q x : Int) (a aP : Option Addr) (n c nP cP : Nat) (p : List Int) (hP : p.length = nP) (hPb : nP ≤ 1048576) (h : ¬ MayTurn r q x n p) (w : World) (hp : HoldsE KN w aP p) :
    Calls Try.prog 25 #[mx r q (.slice a n c), .int .i64 x, .slice aP nP cP] w fun e w' => NoTurn e ∧ Below w.heap.size w w' := by
  have HB1 := lay3_below w r q (.slice a n c)
  have HM1 := lay3_m w r q (.slice a n c)
  have HB2 := lay3_below (lay3 w r q (.slice a n c)) 0 0 (.slice none 0 0)
  have HM2 := lay3_m (lay3 w r q (.slice a n c)) 0 0 (.slice none 0 0)
  have hs1 := lay3_size w r q (.slice a n c)
  have HM := HM1.on HB2
  have HB := HB1.trans (HB2.mono HB1.size)
  rw [hs1] at HM2
  clear HB1 HM1 HB2 hs1
  unfold mx at *
  go_enter Try.func25, Try.ntmps25
  go_wp2_with fail
  change Calls _ _ _ (lay3 (lay3 w r q (.slice a n c)) 0 0 (.slice none 0 0)) _
  generalize lay3 (lay3 w r q (.slice a n c)) 0 0 (.slice none 0 0) = w0 at *
  obtain ⟨N, hN⟩ : ∃ N, w.heap.size = N := ⟨_, rfl⟩
  have HNN := Lib.hid hN
  rw [hN] at HM HM2 ⊢
  have hNw : w.heap.size ≤ N := Nat.le_of_eq hN
  clear hN
  have c2 := refRightM_any r q a n c w0
  unfold mx at c2
  have hp0 := hp.below HB
  have hr : fitB r q n = false ∨ fitB r q n = true ∧ (x < 0 ∨ ¬ x < 0 ∧ (x ≥ q ∨ ¬ x ≥ q ∧ permB p r = false)) := by
    cases hf : fitB r q n with
    | false => exact .inl rfl
    | true =>
      refine .inr ⟨rfl, ?_⟩
      by_cases h1 : x < 0
      · exact .inl h1
      · refine .inr ⟨h1, ?_⟩
        by_cases h2 : x ≥ q
        · exact .inl h2
        · refine .inr ⟨h2, ?_⟩
          cases hg : permB p r with
          | false => rfl
          | true => exact absurd ⟨⟨by omega, by omega⟩, hf, hg⟩ h
  have HR := Lib.hid hr
  clear h hr
  cases hf : fitB r q n with
  | false =>
    rw [hf] at c2
    have m0 := HM.c0
    have m1 := HM.c1
    have m2 := HM.c2
    refine c2.mono ?_
    rintro e w1 ⟨rfl, b1⟩
    have n0 := HM2.on b1
    have n0' := n0
    have HB1 := Lib.hid (HB.trans (b1.mono HB.size))
    clear b1 c2 m0 m1 m2 hp hp0 HM HB hf hP hPb
    obtain ⟨hlt, d0, d1, d2, f0, f1, f2⟩ := n0
    go_wp2_with fail
    change bodyPost _ _ _ _ _ (put3 w1 (N + 1) 0 0 (.slice none 0 0))
    obtain ⟨k1, k2⟩ := put3_facts n0' 0 0 (.slice none 0 0)
    have HB2 := HB1.out.trans (k2.below (by omega) HB1.out.size)
    obtain ⟨_, j0, j1, j2, _, _, _⟩ := k1
    generalize put3 w1 (N + 1) 0 0 (.slice none 0 0) = w9 at *
    refine bodyPost_ret (v := .tuple #[mx 0 0 (.slice none 0 0), .int .i64 8]) (by simp [mx, results, Try.results25, go_sem, j0, j1, j2]) rfl ?_
    exact ⟨rfl, HB2⟩
  | true =>
    rw [hf] at c2
    have HR2 : Hid (x < 0 ∨ ¬ x < 0 ∧ (x ≥ q ∨ ¬ x ≥ q ∧ permB p r = false)) := by
      rcases HR.out with h | h
      · rw [hf] at h; cases h
      · exact h.2
    refine c2.mono ?_
    rintro e w1 ⟨rfl, b1⟩
    have hM1 := HM.on b1
    have n0 := HM2.on b1
    have n0' := n0
    have HB1 := Lib.hid (HB.trans (b1.mono HB.size))
    have hp1 := hp0.below b1
    have m0 := hM1.c0
    have m1 := hM1.c1
    have m2 := hM1.c2
    clear b1 c2 hp hp0 HM HM2 HB hf HR
    rcases HR2.out with h1 | ⟨h1, h2 | ⟨h2, h3⟩⟩
    · have g1 : decide (x < 0) = true := decide_eq_true h1
      clear h1 HR2 hP hPb hp1
      obtain ⟨hlt, d0, d1, d2, f0, f1, f2⟩ := n0
      go_wp2_with fail
      change bodyPost _ _ _ _ _ (put3 w1 (N + 1) 0 0 (.slice none 0 0))
      obtain ⟨k1, k2⟩ := put3_facts n0' 0 0 (.slice none 0 0)
      have HB2 := HB1.out.trans (k2.below (by omega) HB1.out.size)
      obtain ⟨_, j0, j1, j2, _, _, _⟩ := k1
      generalize put3 w1 (N + 1) 0 0 (.slice none 0 0) = w9 at *
      refine bodyPost_ret (v := .tuple #[mx 0 0 (.slice none 0 0), .int .i64 8]) (by simp [mx, results, Try.results25, go_sem, j0, j1, j2]) rfl ?_
      exact ⟨rfl, HB2⟩
    · have g1 : decide (x < 0) = false := decide_eq_false h1
      have g2 : decide (x ≥ q) = true := decide_eq_true h2
      clear h1 h2 HR2 hP hPb hp1
      obtain ⟨hlt, d0, d1, d2, f0, f1, f2⟩ := n0
      go_wp2_with fail
      change bodyPost _ _ _ _ _ (put3 w1 (N + 1) 0 0 (.slice none 0 0))
      obtain ⟨k1, k2⟩ := put3_facts n0' 0 0 (.slice none 0 0)
      have HB2 := HB1.out.trans (k2.below (by omega) HB1.out.size)
      obtain ⟨_, j0, j1, j2, _, _, _⟩ := k1
      generalize put3 w1 (N + 1) 0 0 (.slice none 0 0) = w9 at *
      refine bodyPost_ret (v := .tuple #[mx 0 0 (.slice none 0 0), .int .i64 8]) (by simp [mx, results, Try.results25, go_sem, j0, j1, j2]) rfl ?_
      exact ⟨rfl, HB2⟩
    · have g1 : decide (x < 0) = false := decide_eq_false h1
      have g2 : decide (x ≥ q) = false := decide_eq_false h2
      have c3 := refPermutes_any aP nP cP p hP hPb r w1 hp1
      rw [h3] at c3
      clear h1 h2 h3 HR2 hP hPb hp1
      obtain ⟨hlt, d0, d1, d2, f0, f1, f2⟩ := n0
      go_wp2_with fail
      refine c3.mono ?_
      rintro e w2 ⟨rfl, rfl⟩
      go_wp2_with fail
      change bodyPost _ _ _ _ _ (put3 w1 (N + 1) 0 0 (.slice none 0 0))
      obtain ⟨k1, k2⟩ := put3_facts n0' 0 0 (.slice none 0 0)
      have HB2 := HB1.out.trans (k2.below (by omega) HB1.out.size)
      obtain ⟨_, j0, j1, j2, _, _, _⟩ := k1
      generalize put3 w1 (N + 1) 0 0 (.slice none 0 0) = w9 at *
      refine bodyPost_ret (v := .tuple #[mx 0 0 (.slice none 0 0), .int .i64 8]) (by simp [mx, results, Try.results25, go_sem, j0, j1, j2]) rfl ?_
      exact ⟨rfl, HB2⟩
end Go.Proofs.Ytjaogmbeoldefaa
