/-
  ConfigFirst, the numbers: a config's first so many fields, and another one's for the rest: what is wrong with it. No condition.
-/
import Derived.Test.YtbmbgfmhejahjaaEndsW
namespace Go.Proofs.Ytbmbgfmhejahjaa
open Go.RowKit

/-- The first so many fields may be. -/
def okT (k c b t d l p : Int) : Nat → Prop
  | 0 => True
  | 1 => 0 ≤ k ∧ k ≤ 1
  | 2 => (0 ≤ k ∧ k ≤ 1) ∧ cLo k ≤ c ∧ c ≤ cHi k
  | 3 => ((0 ≤ k ∧ k ≤ 1) ∧ cLo k ≤ c ∧ c ≤ cHi k) ∧ 2 ≤ b ∧ b ≤ 256
  | 4 => (((0 ≤ k ∧ k ≤ 1) ∧ cLo k ≤ c ∧ c ≤ cHi k) ∧ 2 ≤ b ∧ b ≤ 256) ∧ 1 ≤ t ∧ t ≤ 4096
  | 5 => ((((0 ≤ k ∧ k ≤ 1) ∧ cLo k ≤ c ∧ c ≤ cHi k) ∧ 2 ≤ b ∧ b ≤ 256) ∧ 1 ≤ t ∧ t ≤ 4096) ∧ 0 ≤ d ∧ d ≤ 32
  | 6 => (((((0 ≤ k ∧ k ≤ 1) ∧ cLo k ≤ c ∧ c ≤ cHi k) ∧ 2 ≤ b ∧ b ≤ 256) ∧ 1 ≤ t ∧ t ≤ 4096) ∧ 0 ≤ d ∧ d ≤ 32) ∧ 1 ≤ l ∧ l ≤ 1048576
  | _ => ((((((0 ≤ k ∧ k ≤ 1) ∧ cLo k ≤ c ∧ c ≤ cHi k) ∧ 2 ≤ b ∧ b ≤ 256) ∧ 1 ≤ t ∧ t ≤ 4096) ∧ 0 ≤ d ∧ d ≤ 32) ∧ 1 ≤ l ∧ l ≤ 1048576) ∧ 1 ≤ p ∧ p ≤ 1024

/-- One config's fields up to the place i, laid in the first j rounds, another one's for the rest. -/
def mx (i j : Nat) (f g : Nat → Int) (t : Nat) : Int := if t < j ∧ t ≤ i then f t else g t
/-- What is wrong with that. -/
def mchk (i : Nat) (f g : Nat → Int) : Int := chk (mx i 7 f g 0) (mx i 7 f g 1) (mx i 7 f g 2) (mx i 7 f g 3) (mx i 7 f g 4) (mx i 7 f g 5) (mx i 7 f g 6)

theorem okT_all {k c b t d l p : Int} (h : okT k c b t d l p 7) : chk k c b t d l p = 0 := by
  simp only [okT] at h
  obtain ⟨⟨⟨⟨⟨⟨⟨h1, h2⟩, h3, h4⟩, h5, h6⟩, h7, h8⟩, h9, h10⟩, h11, h12⟩, h13, h14⟩ := h
  unfold chk st
  repeat' (first | rfl | (rw [if_neg (by omega)]))

theorem st_up {n lo hi ab : Int} (hab : ab ≠ 0) : st n lo hi ab 0 = 0 ↔ lo ≤ n ∧ n ≤ hi := by
  unfold st
  constructor
  · intro h
    split at h
    · omega
    · split at h
      · exact absurd h hab
      · omega
  · intro h
    rw [if_neg (by omega), if_neg (by omega)]
theorem st_in {n lo hi ab r : Int} (h : lo ≤ n ∧ n ≤ hi) : st n lo hi ab r = r := by
  unfold st
  rw [if_neg (by omega), if_neg (by omega)]
theorem st_no {n lo hi ab r : Int} (h : st n lo hi ab 0 ≠ 0) : st n lo hi ab r = st n lo hi ab 0 := by
  unfold st at *
  split
  · rfl
  · split
    · rfl
    · rename_i h1 h2
      rw [if_neg h1, if_neg h2] at h
      exact absurd rfl h
theorem cAb_ne (k : Int) : cAb k ≠ 0 := by unfold cAb; split <;> decide

theorem mchk_step (k c b t d l p k' c' b' t' d' l' p' : Int) (hg : chk k' c' b' t' d' l' p' = 0) (i : Nat) (hi : i < 7) (ok : okT k c b t d l p i) :
    ((0 < i ∨ ¬ (k = 0 ∨ k = 1)) → mchk i (nf k c b t d l p) (nf k' c' b' t' d' l' p') ≠ 0 → chk k c b t d l p = mchk i (nf k c b t d l p) (nf k' c' b' t' d' l' p')) ∧
    ((mchk i (nf k c b t d l p) (nf k' c' b' t' d' l' p') = 0 ∨ (i = 0 ∧ (k = 0 ∨ k = 1))) → okT k c b t d l p (i + 1)) := by
  obtain ⟨g0, g1, g2, g3, g4, g5, g6, g7, g8, g9, g10⟩ := chk_ok hg
  have ab := cAb_ne k
  match i, hi with
  | 0, _ =>
    constructor
    · intro h hne
      have hk : ¬ (0 ≤ k ∧ k ≤ 1) := by omega
      simp only [mchk, mx, nf, chk]
      unfold st
      by_cases h0 : k < 0
      · simp [h0]
      · have h1 : 1 < k := by omega
        simp [h0, h1]
    · intro h
      rcases h with h | h
      · simp only [mchk, mx, nf, chk] at h
        obtain ⟨a1, a2, _⟩ := st_ok (by decide) h
        exact ⟨by simpa using a1, by simpa using a2⟩
      · simp only [okT]; omega
  | 1, _ =>
    have e : mchk 1 (nf k c b t d l p) (nf k' c' b' t' d' l' p') = st c (cLo k) (cHi k) (cAb k) 0 := by
      simp only [mchk, mx, nf, chk]
      simp only [okT] at ok
      simp
      rw [st_in (n := k) (by omega), st_in (n := b') (by omega), st_in (n := t') (by omega), st_in (n := d') (by omega), st_in (n := l') (by omega), st_in (n := p') (by omega)]
    have e2 : chk k c b t d l p = st c (cLo k) (cHi k) (cAb k) (st b 2 256 4 (st t 1 4096 4 (st d 0 32 4 (st l 1 1048576 4 (st p 1 1024 4 0))))) := by
      simp only [okT] at ok
      unfold chk
      rw [st_in (n := k) (by omega)]
    rw [e, e2]
    refine ⟨fun _ hne => st_no hne, fun h => ?_⟩
    rcases h with h | ⟨h, _⟩
    · exact ⟨ok, (st_up ab).1 h⟩
    · omega
  | 2, _ =>
    have e : mchk 2 (nf k c b t d l p) (nf k' c' b' t' d' l' p') = st b 2 256 4 0 := by
      simp only [mchk, mx, nf, chk]
      simp only [okT] at ok
      simp
      rw [st_in (n := k) (by omega), st_in (n := c) (by omega), st_in (n := t') (by omega), st_in (n := d') (by omega), st_in (n := l') (by omega), st_in (n := p') (by omega)]
    have e2 : chk k c b t d l p = st b 2 256 4 (st t 1 4096 4 (st d 0 32 4 (st l 1 1048576 4 (st p 1 1024 4 0)))) := by
      simp only [okT] at ok
      unfold chk
      rw [st_in (n := k) (by omega), st_in (n := c) (by omega)]
    rw [e, e2]
    refine ⟨fun _ hne => st_no hne, fun h => ?_⟩
    rcases h with h | ⟨h, _⟩
    · exact ⟨ok, (st_up (by decide)).1 h⟩
    · omega
  | 3, _ =>
    have e : mchk 3 (nf k c b t d l p) (nf k' c' b' t' d' l' p') = st t 1 4096 4 0 := by
      simp only [mchk, mx, nf, chk]
      simp only [okT] at ok
      simp
      rw [st_in (n := k) (by omega), st_in (n := c) (by omega), st_in (n := b) (by omega), st_in (n := d') (by omega), st_in (n := l') (by omega), st_in (n := p') (by omega)]
    have e2 : chk k c b t d l p = st t 1 4096 4 (st d 0 32 4 (st l 1 1048576 4 (st p 1 1024 4 0))) := by
      simp only [okT] at ok
      unfold chk
      rw [st_in (n := k) (by omega), st_in (n := c) (by omega), st_in (n := b) (by omega)]
    rw [e, e2]
    refine ⟨fun _ hne => st_no hne, fun h => ?_⟩
    rcases h with h | ⟨h, _⟩
    · exact ⟨ok, (st_up (by decide)).1 h⟩
    · omega
  | 4, _ =>
    have e : mchk 4 (nf k c b t d l p) (nf k' c' b' t' d' l' p') = st d 0 32 4 0 := by
      simp only [mchk, mx, nf, chk]
      simp only [okT] at ok
      simp
      rw [st_in (n := k) (by omega), st_in (n := c) (by omega), st_in (n := b) (by omega), st_in (n := t) (by omega), st_in (n := l') (by omega), st_in (n := p') (by omega)]
    have e2 : chk k c b t d l p = st d 0 32 4 (st l 1 1048576 4 (st p 1 1024 4 0)) := by
      simp only [okT] at ok
      unfold chk
      rw [st_in (n := k) (by omega), st_in (n := c) (by omega), st_in (n := b) (by omega), st_in (n := t) (by omega)]
    rw [e, e2]
    refine ⟨fun _ hne => st_no hne, fun h => ?_⟩
    rcases h with h | ⟨h, _⟩
    · exact ⟨ok, (st_up (by decide)).1 h⟩
    · omega
  | 5, _ =>
    have e : mchk 5 (nf k c b t d l p) (nf k' c' b' t' d' l' p') = st l 1 1048576 4 0 := by
      simp only [mchk, mx, nf, chk]
      simp only [okT] at ok
      simp
      rw [st_in (n := k) (by omega), st_in (n := c) (by omega), st_in (n := b) (by omega), st_in (n := t) (by omega), st_in (n := d) (by omega), st_in (n := p') (by omega)]
    have e2 : chk k c b t d l p = st l 1 1048576 4 (st p 1 1024 4 0) := by
      simp only [okT] at ok
      unfold chk
      rw [st_in (n := k) (by omega), st_in (n := c) (by omega), st_in (n := b) (by omega), st_in (n := t) (by omega), st_in (n := d) (by omega)]
    rw [e, e2]
    refine ⟨fun _ hne => st_no hne, fun h => ?_⟩
    rcases h with h | ⟨h, _⟩
    · exact ⟨ok, (st_up (by decide)).1 h⟩
    · omega
  | 6, _ =>
    have e : mchk 6 (nf k c b t d l p) (nf k' c' b' t' d' l' p') = st p 1 1024 4 0 := by
      simp only [mchk, mx, nf, chk]
      simp only [okT] at ok
      simp
      rw [st_in (n := k) (by omega), st_in (n := c) (by omega), st_in (n := b) (by omega), st_in (n := t) (by omega), st_in (n := d) (by omega), st_in (n := l) (by omega)]
    have e2 : chk k c b t d l p = st p 1 1024 4 0 := by
      simp only [okT] at ok
      unfold chk
      rw [st_in (n := k) (by omega), st_in (n := c) (by omega), st_in (n := b) (by omega), st_in (n := t) (by omega), st_in (n := d) (by omega), st_in (n := l) (by omega)]
    rw [e, e2]
    refine ⟨fun _ hne => st_no hne, fun h => ?_⟩
    rcases h with h | ⟨h, _⟩
    · exact ⟨ok, (st_up (by decide)).1 h⟩
    · omega
  | n + 7, h => omega
end Go.Proofs.Ytbmbgfmhejahjaa
