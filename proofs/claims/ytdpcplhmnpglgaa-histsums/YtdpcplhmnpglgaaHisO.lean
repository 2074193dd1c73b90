/-
  HISTOGRAMS: what is merged does not hang on the order; what parts come to. No program.
-/
import Derived.Test.YtdpcplhmnpglgaaHisN
namespace Go.Proofs.Ytdpcplhmnpglgaa
open Go.RowKit

theorem plV_comm (x y : Int) : plV x y = plV y x := by unfold plV; rw [Int.add_comm]
theorem plE_comm (x y : Int) : plE x y = plE y x := by unfold plE; rw [Int.add_comm]
theorem likeD_comm (a b : HD) : likeD a b = likeD b a := by
  have key : ∀ a b : HD, likeD a b = true → likeD b a = true := by
    intro a b h
    obtain ⟨h1, h2, h3, h4, h5⟩ := likeD_true h
    simp [likeD, h1, h2, h3, h4, h5]
  cases h : likeD a b
  · cases h' : likeD b a
    · rfl
    · rw [key _ _ h'] at h; cases h
  · exact (key _ _ h).symm
theorem like_len {a b : HD} (h : likeD a b = true) : a.lc.length = b.lc.length ∧ a.lm.length = b.lm.length := by
  obtain ⟨h1, h2, h3, h4, h5⟩ := likeD_true h
  obtain ⟨_, q1, q2⟩ := rightD_true h1
  obtain ⟨_, q3, q4⟩ := rightD_true h2
  rw [h3, h4, h5] at q1 q2
  omega
theorem mmV_plus (X Y : Nat → Int) (i : Nat) : mmV plV plV plV X Y i = plV (X i) (Y i) := by unfold mmV; split; rfl; split <;> rfl
theorem ec_comm {a b : HD} (h : a.lc.length = b.lc.length) : plusW.ec a b = plusW.ec b a := by
  unfold Ways.ec
  rw [h]
  exact firstE_congr fun i _ => plE_comm _ _
theorem em_comm {a b : HD} (h : a.lm.length = b.lm.length) : plusW.em a b = plusW.em b a := by
  unfold Ways.em
  rw [h]
  refine firstE_congr fun i _ => ?_
  show or3 (plE _ _) (plE _ _) (plE _ _) = or3 (plE _ _) (plE _ _) (plE _ _)
  rw [plE_comm, plE_comm (a.lm.getD (i * 3 + 1) 0), plE_comm (a.lm.getD (i * 3 + 2) 0)]
theorem lc_comm {a b : HD} (h : a.lc.length = b.lc.length) : plusW.lc a b = plusW.lc b a := by
  unfold Ways.lc
  rw [h]
  exact mapN_congr fun i _ => plV_comm _ _
theorem lm_comm {a b : HD} (h : a.lm.length = b.lm.length) : plusW.lm a b = plusW.lm b a := by
  unfold Ways.lm
  rw [h]
  refine mapN_congr fun i _ => ?_
  show mmV plV plV plV _ _ i = mmV plV plV plV _ _ i
  rw [mmV_plus, mmV_plus, plV_comm]
theorem bothE_comm (a b : HD) : bothE plusW a b = bothE plusW b a := by
  unfold bothE
  rw [likeD_comm b a]
  cases h : likeD a b
  · rfl
  · obtain ⟨l1, l2⟩ := like_len h
    rw [ec_comm l1, em_comm l2]
theorem bothE_like {W : Ways} {a b : HD} (h : bothE W a b = 0) : likeD a b = true ∧ W.ec a b = 0 ∧ W.em a b = 0 := by
  unfold bothE at h
  cases hl : likeD a b
  · rw [hl] at h; simp at h
  · rw [hl] at h
    simp only [Bool.true_eq_false, if_false] at h
    by_cases h1 : W.ec a b = 0
    · rw [if_pos h1] at h
      exact ⟨rfl, h1, h⟩
    · rw [if_neg h1] at h
      exact absurd h h1
theorem bothD_comm (a b : HD) : bothD plusW a b = bothD plusW b a := by
  unfold bothD
  rw [bothE_comm b a]
  by_cases h : bothE plusW a b = 0
  · rw [if_pos h, if_pos h]
    obtain ⟨hl, _, _⟩ := bothE_like h
    obtain ⟨l1, l2⟩ := like_len hl
    obtain ⟨_, _, h3, h4, h5⟩ := likeD_true hl
    rw [lc_comm l1, lm_comm l2, h3, h4, h5]
  · rw [if_neg h, if_neg h]
theorem both_len (W : Ways) (a b : HD) : (bothD W a b).lc.length ≤ a.lc.length ∧ (bothD W a b).lm.length ≤ a.lm.length := by
  unfold bothD
  split
  · exact ⟨by show (W.lc a b).length ≤ _; unfold Ways.lc; rw [mapN_len]; exact Nat.le_refl _, by show (W.lm a b).length ≤ _; unfold Ways.lm; rw [mapN_len]; exact Nat.le_refl _⟩
  · exact ⟨Nat.zero_le _, Nat.zero_le _⟩

/-- What two come to, number by number. -/
theorem plE_sum {x y : Int} (h : plE x y = 0) : plV x y = x + y := fitV_yes (fitE_in h)
theorem both_c {a b : HD} (h : bothE plusW a b = 0) : (bothD plusW a b).lc.length = a.lc.length ∧ a.lc.length = b.lc.length ∧ ∀ i, i < a.lc.length → (bothD plusW a b).lc.getD i 0 = a.lc.getD i 0 + b.lc.getD i 0 := by
  obtain ⟨hl, h1, h2⟩ := bothE_like h
  obtain ⟨l1, l2⟩ := like_len hl
  have e : bothD plusW a b = ⟨a.k, a.b, a.c, plusW.lc a b, plusW.lm a b⟩ := if_pos h
  rw [e]
  refine ⟨mapN_len _ _, l1, fun i hi => ?_⟩
  show (mapN _ _).getD i 0 = _
  rw [mapN_get _ hi]
  exact plE_sum (firstE_zero.1 h1 i hi)
theorem both_m {a b : HD} (h : bothE plusW a b = 0) : (bothD plusW a b).lm.length = a.lm.length ∧ a.lm.length = b.lm.length ∧ ∀ i, i < a.lm.length → (bothD plusW a b).lm.getD i 0 = a.lm.getD i 0 + b.lm.getD i 0 := by
  obtain ⟨hl, h1, h2⟩ := bothE_like h
  obtain ⟨l1, l2⟩ := like_len hl
  have e : bothD plusW a b = ⟨a.k, a.b, a.c, plusW.lc a b, plusW.lm a b⟩ := if_pos h
  have h3 : a.lm.length % 3 = 0 := by
    obtain ⟨q1, _⟩ := likeD_true hl
    have := (rightD_true q1).2.2
    omega
  rw [e]
  refine ⟨mapN_len _ _, l2, fun i hi => ?_⟩
  show (mapN _ _).getD i 0 = _
  rw [mapN_get _ hi]
  show mmV plV plV plV _ _ i = _
  rw [mmV_plus]
  have := firstE_zero.1 h2 (i / 3) (by omega)
  obtain ⟨e0, e1, e2⟩ := or3_zero.1 this
  have : i = i / 3 * 3 ∨ i = i / 3 * 3 + 1 ∨ i = i / 3 * 3 + 2 := by omega
  rcases this with q | q | q
  · rw [← q] at e0; exact plE_sum e0
  · rw [← q] at e1; exact plE_sum e1
  · rw [← q] at e2; exact plE_sum e2
theorem both_head {a b : HD} (h : bothE plusW a b = 0) : (bothD plusW a b).k = a.k ∧ (bothD plusW a b).b = a.b ∧ (bothD plusW a b).c = a.c := by
  have e : bothD plusW a b = ⟨a.k, a.b, a.c, plusW.lc a b, plusW.lm a b⟩ := if_pos h
  rw [e]
  exact ⟨rfl, rfl, rfl⟩
theorem HD.ext' {a b : HD} (h1 : a.k = b.k) (h2 : a.b = b.b) (h3 : a.c = b.c) (h4 : a.lc = b.lc) (h5 : a.lm = b.lm) : a = b := by
  cases a; cases b; simp_all
theorem both_turns {a b c : HD} (h1 : bothE plusW a b = 0) (h2 : bothE plusW (bothD plusW a b) c = 0) (h3 : bothE plusW b c = 0) (h4 : bothE plusW a (bothD plusW b c) = 0) :
    bothD plusW (bothD plusW a b) c = bothD plusW a (bothD plusW b c) := by
  obtain ⟨a1, a2, a3⟩ := both_c h1
  obtain ⟨b1, b2, b3⟩ := both_c h2
  obtain ⟨c1, c2, c3⟩ := both_c h3
  obtain ⟨d1, d2, d3⟩ := both_c h4
  obtain ⟨A1, A2, A3⟩ := both_m h1
  obtain ⟨B1, B2, B3⟩ := both_m h2
  obtain ⟨C1, C2, C3⟩ := both_m h3
  obtain ⟨D1, D2, D3⟩ := both_m h4
  obtain ⟨p1, p2, p3⟩ := both_head h1
  obtain ⟨q1, q2, q3⟩ := both_head h2
  obtain ⟨r1, r2, r3⟩ := both_head h4
  refine HD.ext' (by rw [q1, p1, r1]) (by rw [q2, p2, r2]) (by rw [q3, p3, r3]) (ext_getD (by omega) fun i hi => ?_) (ext_getD (by omega) fun i hi => ?_)
  · rw [b3 i (by omega), a3 i (by omega), d3 i (by omega), c3 i (by omega), Int.add_assoc]
  · rw [B3 i (by omega), A3 i (by omega), D3 i (by omega), C3 i (by omega), Int.add_assoc]
end Go.Proofs.Ytdpcplhmnpglgaa
