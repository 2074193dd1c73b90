/-
  DatasetParts: the two walks that come before the columns: too great a dataset, and a shape that isn't kept. Conditions: numbers of 64 bits.
-/
import Derived.Test.YtbmbgfmhejahjaaRowD
import Derived.Test.YtbmbgfmhejahjaaColumn
import Derived.Test.YtbmbgfmhejahjaaCutsW
import Derived.Test.YtbmbgfmhejahjaaDFix
namespace Go.Proofs.Ytbmbgfmhejahjaa
open Go.RowKit

set_option maxRecDepth 20000 in
set_option maxHeartbeats 4000000 in
theorem parts_great (k c b t d l p r q x : Int) (aV aT : Option Addr) (nV cV nT cT : Nat) (hgr : 500 < nV ∨ 200 < nT) (w : World) :
    Calls Try.prog 6 #[ds k c b t d l p r q (.slice aV nV cV) (.slice aT nT cT), .int .i64 x] w fun e w' => e = .returned (.bool true) ∧ Below w.heap.size w w' := by
  have hg := great_any k c b t d l p r q aV aT nV cV nT cT
  have D0 := lay_dat w 27 k c b t d l p r q (.slice aV nV cV) (.slice aT nT cT)
  have b0 := lay_below w 27 k c b t d l p r q (.slice aV nV cV) (.slice aT nT cT)
  unfold ds at hg ⊢
  go_enter Try.func6, Try.ntmps6
  go_wp2_with fail
  change Calls Try.prog _ _ (lay w 27 k c b t d l p r q (.slice aV nV cV) (.slice aT nT cT)) _
  generalize lay w 27 k c b t d l p r q (.slice aV nV cV) (.slice aT nT cT) = w0 at *
  refine (hg _).mono ?_
  rintro e w1 ⟨rfl, b1⟩
  have bb := b0.trans (b1.mono b0.size)
  rw [decide_eq_true hgr]
  clear hg D0 b0 b1 hgr
  go_wp2_with fail
  refine (fixed_any _).mono ?_
  rintro e w2 ⟨rfl, b2⟩
  have HB := Lib.hid (bb.trans (b2.mono bb.size))
  clear bb b2
  go_wp2_with fail
  go_ret
  exact ⟨rfl, HB.out⟩

set_option maxRecDepth 20000 in
set_option maxHeartbeats 8000000 in
theorem parts_wrong (k c b t d l p r q x : Int) (aV aT : Option Addr) (nV cV nT cT : Nat) (V T : List Int) (hVl : V.length = nV) (hTl : T.length = nT) (hTc : aT = none → cT = 0) (hr : -9223372036854775808 ≤ r ∧ r ≤ 9223372036854775807) (hq : -9223372036854775808 ≤ q ∧ q ≤ 9223372036854775807) (hgr : ¬ (500 < nV ∨ 200 < nT)) (hs : r < 0 ∨ q < 0 ∨ r > 1000 ∨ q > 1000 ∨ ¬ (nV : Int) = r * q) (w : World) (hV0 : HoldsE KU w aV V) (hT0 : HoldsE K64 w aT T) :
    Calls Try.prog 6 #[ds k c b t d l p r q (.slice aV nV cV) (.slice aT nT cT), .int .i64 x] w fun e w' => e = .returned (.bool true) ∧ Below w.heap.size w w' := by
  have hg := great_any k c b t d l p r q aV aT nV cV nT cT
  have D0 := lay_dat w 27 k c b t d l p r q (.slice aV nV cV) (.slice aT nT cT)
  have b0 := lay_below w 27 k c b t d l p r q (.slice aV nV cV) (.slice aT nT cT)
  have hVb := hV0.below b0
  have hTb := hT0.below b0
  have hfl := fun W h1 h2 => pfull_any k c b t d l p r q aV aT nV cV nT cT V T hVl hTl (by omega) (by omega) hTc W h1 h2
  unfold ds at hg hfl ⊢
  go_enter Try.func6, Try.ntmps6
  go_wp2_with fail
  change Calls Try.prog _ _ (lay w 27 k c b t d l p r q (.slice aV nV cV) (.slice aT nT cT)) _
  generalize lay w 27 k c b t d l p r q (.slice aV nV cV) (.slice aT nT cT) = w0 at *
  obtain ⟨N, hN⟩ : ∃ N, w.heap.size = N := ⟨_, rfl⟩
  have HN := Lib.hid hN
  rw [hN] at D0 ⊢
  clear hN hV0 hT0
  refine (hg _).mono ?_
  rintro e w1 ⟨rfl, b1⟩
  have D1 := D0.below b1 D0.lt
  have bb := b0.trans (b1.mono b0.size)
  have hf1 := hfl _ (hVb.below b1) (hTb.below b1)
  rw [decide_eq_false hgr]
  obtain ⟨c0, c1, c2, c3, c4, c5, c6, c7, c8, c9, c10⟩ := D1.cells
  have HG := Lib.hid (And.intro hgr (And.intro hVl (And.intro hr hq)))
  have HS := Lib.hid hs
  clear hg D0 b0 b1 hVb hTb hfl hgr hs hTl hVl hr hq
  go_wp2_with fail
  refine hf1.mono ?_
  rintro e w2 ⟨⟨v, xT, rfl, ov, ot⟩, b2⟩
  have bb2 := bb.trans (b2.mono bb.size)
  have D2 := D1.below b2 D1.lt
  clear hf1 bb b2 D1 c0 c1 c2 c3 c4 c5 c6 c7 c8 c9 c10
  obtain ⟨av, cv, rfl, hav, _, _, hov⟩ := ov.holds
  obtain ⟨at2, ct, rfl, _⟩ := ot.holds
  clear ot
  obtain ⟨nT2, hnT2⟩ : ∃ nT2, T.length = nT2 := ⟨_, rfl⟩
  rw [hnT2]
  clear hnT2
  have b3 := lay_below w2 36 k c b t d l p r q (.slice av (bitsOf V).length cv) (.slice at2 nT2 ct)
  have D3 := D2.below b3 D2.lt
  have E3 := lay_dat w2 36 k c b t d l p r q (.slice av (bitsOf V).length cv) (.slice at2 nT2 ct)
  have bb3 := bb2.trans (b3.mono bb2.size)
  have c7 := D3.c 7 (by decide)
  have c8 := D3.c 8 (by decide)
  have c9 := D3.c 9 (by decide)
  replace c7 : (lay w2 36 k c b t d l p r q (.slice av (bitsOf V).length cv) (.slice at2 nT2 ct)).cell? ⟨N, 7, none⟩ = some (.int .i64 r) := c7
  replace c8 : (lay w2 36 k c b t d l p r q (.slice av (bitsOf V).length cv) (.slice at2 nT2 ct)).cell? ⟨N, 8, none⟩ = some (.int .i64 q) := c8
  replace c9 : (lay w2 36 k c b t d l p r q (.slice av (bitsOf V).length cv) (.slice at2 nT2 ct)).cell? ⟨N, 9, none⟩ = some (.slice aV nV cV) := c9
  have hno1 : ∀ (h : fullB r q nV = false) W, _ := fun h W => column_no k c b t d l p r q x av (bitsOf V).length cv (.slice at2 nT2 ct) HG.out.2.2.1 HG.out.2.2.2 (by rw [bitsOf_len]; have := HG.out; omega) (.inr (.inr (by rw [bitsOf_len, HG.out.2.1]; exact h))) W
  have hno2 : ∀ (h : fullB r q nV = false) W, _ := fun h W => row_no k c b t d l p r q x av (bitsOf V).length cv (.slice at2 nT2 ct) HG.out.2.2.1 HG.out.2.2.2 (by rw [bitsOf_len]; have := HG.out; omega) (.inr (.inr (by rw [bitsOf_len, HG.out.2.1]; exact h))) W
  unfold ds at hno1 hno2
  obtain ⟨nB, hnB⟩ : ∃ nB, (bitsOf V).length = nB := ⟨_, rfl⟩
  rw [hnB] at b3 D3 E3 bb3 c7 c8 c9 hno1 hno2 ⊢
  clear ov hov hnB b3 bb2 D2 hav
  unfold lay at c7 c8 c9
  have hs := HS.out
  by_cases hR0 : r < 0
  · by_cases hQ1 : q > 1000
    · have g1 : decide (r < 0) = true := decide_eq_true (by omega)
      have g2 : decide (r > 1000) = false := decide_eq_false (by omega)
      have g3 : decide (q > 1000) = true := decide_eq_true (by omega)
      clear hs hR0 hQ1
      clear hno1 hno2 E3
      go_wp2_with fail
      refine (fixed_any (lay w2 36 k c b t d l p r q (.slice av nB cv) (.slice at2 nT2 ct))).mono ?_
      rintro e w4 ⟨rfl, b4⟩
      have D4 := D3.below b4 D3.lt
      have HB := Lib.hid (bb3.trans (b4.mono bb3.size))
      have c7' : w4.cell? ⟨N, 7, none⟩ = some (.int .i64 r) := D4.c 7 (by decide)
      have c8' : w4.cell? ⟨N, 8, none⟩ = some (.int .i64 q) := D4.c 8 (by decide)
      clear D3 D4 bb3 b4 c7 c8 c9
      go_wp2_with fail
      go_ret
      exact ⟨rfl, HB.out⟩
    · have g1 : decide (r < 0) = true := decide_eq_true (by omega)
      have g2 : decide (r > 1000) = false := decide_eq_false (by omega)
      have g3 : decide (q > 1000) = false := decide_eq_false (by omega)
      have hfb : fullB r q nV = false := decide_eq_false (by rintro ⟨h1, h2, h3⟩; omega)
      clear hs hR0 hQ1
      have hno1 := hno1 hfb
      have hno2 := hno2 hfb
      clear hfb
      go_wp2_with fail
      refine (fixed_any (lay w2 36 k c b t d l p r q (.slice av nB cv) (.slice at2 nT2 ct))).mono ?_
      rintro e w4 ⟨rfl, b4⟩
      have D4 := D3.below b4 D3.lt
      have E4 := E3.below b4 E3.lt
      have bb4 := bb3.trans (b4.mono bb3.size)
      have c7' : w4.cell? ⟨N, 7, none⟩ = some (.int .i64 r) := D4.c 7 (by decide)
      have c8' : w4.cell? ⟨N, 8, none⟩ = some (.int .i64 q) := D4.c 8 (by decide)
      obtain ⟨e0, e1, e2, e3, e4, e5, e6, e7, e8, e9, e10⟩ := E4.cells
      clear D3 D4 E3 bb3 b4 c7 c8 c9
      go_wp2_with fail
      refine (hno1 w4).mono ?_
      rintro e w5 ⟨rfl, b5⟩
      have E5 := E4.below b5 E4.lt
      have bb5 := bb4.trans (b5.mono bb4.size)
      clear e0 e1 e2 e3 e4 e5 e6 e7 e8 e9 e10 c7' c8' bb4 b5 E4
      obtain ⟨e0, e1, e2, e3, e4, e5, e6, e7, e8, e9, e10⟩ := E5.cells
      go_wp2_with fail
      refine (hno2 w5).mono ?_
      rintro e w6 ⟨rfl, b6⟩
      have HB := Lib.hid (bb5.trans (b6.mono bb5.size))
      clear bb5 b6 E5 e0 e1 e2 e3 e4 e5 e6 e7 e8 e9 e10
      go_wp2_with fail
      go_ret
      exact ⟨rfl, HB.out⟩
  by_cases hQ0 : q < 0
  · by_cases hR1 : r > 1000
    · have g1 : decide (r < 0) = false := decide_eq_false (by omega)
      have g2 : decide (q < 0) = true := decide_eq_true (by omega)
      have g3 : decide (r > 1000) = true := decide_eq_true (by omega)
      have g4 : decide (q > 1000) = false := decide_eq_false (by omega)
      clear hs hR0 hQ0 hR1
      clear hno1 hno2 E3
      go_wp2_with fail
      refine (fixed_any (lay w2 36 k c b t d l p r q (.slice av nB cv) (.slice at2 nT2 ct))).mono ?_
      rintro e w4 ⟨rfl, b4⟩
      have D4 := D3.below b4 D3.lt
      have HB := Lib.hid (bb3.trans (b4.mono bb3.size))
      have c7' : w4.cell? ⟨N, 7, none⟩ = some (.int .i64 r) := D4.c 7 (by decide)
      have c8' : w4.cell? ⟨N, 8, none⟩ = some (.int .i64 q) := D4.c 8 (by decide)
      clear D3 D4 bb3 b4 c7 c8 c9
      go_wp2_with fail
      go_ret
      exact ⟨rfl, HB.out⟩
    · have g1 : decide (r < 0) = false := decide_eq_false (by omega)
      have g2 : decide (q < 0) = true := decide_eq_true (by omega)
      have g3 : decide (r > 1000) = false := decide_eq_false (by omega)
      have g4 : decide (q > 1000) = false := decide_eq_false (by omega)
      have hfb : fullB r q nV = false := decide_eq_false (by rintro ⟨h1, h2, h3⟩; omega)
      clear hs hR0 hQ0 hR1
      have hno1 := hno1 hfb
      have hno2 := hno2 hfb
      clear hfb
      go_wp2_with fail
      refine (fixed_any (lay w2 36 k c b t d l p r q (.slice av nB cv) (.slice at2 nT2 ct))).mono ?_
      rintro e w4 ⟨rfl, b4⟩
      have D4 := D3.below b4 D3.lt
      have E4 := E3.below b4 E3.lt
      have bb4 := bb3.trans (b4.mono bb3.size)
      have c7' : w4.cell? ⟨N, 7, none⟩ = some (.int .i64 r) := D4.c 7 (by decide)
      have c8' : w4.cell? ⟨N, 8, none⟩ = some (.int .i64 q) := D4.c 8 (by decide)
      obtain ⟨e0, e1, e2, e3, e4, e5, e6, e7, e8, e9, e10⟩ := E4.cells
      clear D3 D4 E3 bb3 b4 c7 c8 c9
      go_wp2_with fail
      refine (hno1 w4).mono ?_
      rintro e w5 ⟨rfl, b5⟩
      have E5 := E4.below b5 E4.lt
      have bb5 := bb4.trans (b5.mono bb4.size)
      clear e0 e1 e2 e3 e4 e5 e6 e7 e8 e9 e10 c7' c8' bb4 b5 E4
      obtain ⟨e0, e1, e2, e3, e4, e5, e6, e7, e8, e9, e10⟩ := E5.cells
      go_wp2_with fail
      refine (hno2 w5).mono ?_
      rintro e w6 ⟨rfl, b6⟩
      have HB := Lib.hid (bb5.trans (b6.mono bb5.size))
      clear bb5 b6 E5 e0 e1 e2 e3 e4 e5 e6 e7 e8 e9 e10
      go_wp2_with fail
      go_ret
      exact ⟨rfl, HB.out⟩
  by_cases hR1 : r > 1000
  · have g1 : decide (r < 0) = false := decide_eq_false (by omega)
    have g2 : decide (q < 0) = false := decide_eq_false (by omega)
    have g3 : decide (r > 1000) = true := decide_eq_true (by omega)
    clear hs hR0 hQ0 hR1
    clear hno1 hno2 E3
    go_wp2_with fail
    refine (fixed_any (lay w2 36 k c b t d l p r q (.slice av nB cv) (.slice at2 nT2 ct))).mono ?_
    rintro e w4 ⟨rfl, b4⟩
    have D4 := D3.below b4 D3.lt
    have HB := Lib.hid (bb3.trans (b4.mono bb3.size))
    have c7' : w4.cell? ⟨N, 7, none⟩ = some (.int .i64 r) := D4.c 7 (by decide)
    have c8' : w4.cell? ⟨N, 8, none⟩ = some (.int .i64 q) := D4.c 8 (by decide)
    clear D3 D4 bb3 b4 c7 c8 c9
    go_wp2_with fail
    go_ret
    exact ⟨rfl, HB.out⟩
  by_cases hQ1 : q > 1000
  · have g1 : decide (r < 0) = false := decide_eq_false (by omega)
    have g2 : decide (q < 0) = false := decide_eq_false (by omega)
    have g3 : decide (r > 1000) = false := decide_eq_false (by omega)
    have g4 : decide (q > 1000) = true := decide_eq_true (by omega)
    clear hs hR0 hQ0 hR1 hQ1
    clear hno1 hno2 E3
    go_wp2_with fail
    refine (fixed_any (lay w2 36 k c b t d l p r q (.slice av nB cv) (.slice at2 nT2 ct))).mono ?_
    rintro e w4 ⟨rfl, b4⟩
    have D4 := D3.below b4 D3.lt
    have HB := Lib.hid (bb3.trans (b4.mono bb3.size))
    have c7' : w4.cell? ⟨N, 7, none⟩ = some (.int .i64 r) := D4.c 7 (by decide)
    have c8' : w4.cell? ⟨N, 8, none⟩ = some (.int .i64 q) := D4.c 8 (by decide)
    clear D3 D4 bb3 b4 c7 c8 c9
    go_wp2_with fail
    go_ret
    exact ⟨rfl, HB.out⟩
  have hn : ¬ (nV : Int) = r * q := by rcases hs with h | h | h | h | h; exact absurd h hR0; exact absurd h hQ0; exact absurd h hR1; exact absurd h hQ1; exact h
  have hm1 : r * q ≤ 1000000 := Int.le_trans (Int.mul_le_mul (show r ≤ 1000 by omega) (show q ≤ 1000 by omega) (by omega) (by omega)) (by decide)
  have hm0 : 0 ≤ r * q := Int.mul_nonneg (by omega) (by omega)
  have hw : wrap64 (r * q) = r * q := by unfold wrap64; omega
  have gn : ((nV : Int) != r * q) = true := by simpa using hn
  have g1 : decide (r < 0) = false := decide_eq_false (by omega)
  have g2 : decide (q < 0) = false := decide_eq_false (by omega)
  have g3 : decide (r > 1000) = false := decide_eq_false (by omega)
  have g4 : decide (q > 1000) = false := decide_eq_false (by omega)
  have hfb : fullB r q nV = false := decide_eq_false (by rintro ⟨h1, h2, h3⟩; exact hn h3.symm)
  clear hs hR0 hQ0 hR1 hQ1 hn hm0 hm1
  have hno1 := hno1 hfb
  have hno2 := hno2 hfb
  clear hfb
  go_wp2_with fail
  refine (fixed_any (lay w2 36 k c b t d l p r q (.slice av nB cv) (.slice at2 nT2 ct))).mono ?_
  rintro e w4 ⟨rfl, b4⟩
  have D4 := D3.below b4 D3.lt
  have E4 := E3.below b4 E3.lt
  have bb4 := bb3.trans (b4.mono bb3.size)
  have c7' : w4.cell? ⟨N, 7, none⟩ = some (.int .i64 r) := D4.c 7 (by decide)
  have c8' : w4.cell? ⟨N, 8, none⟩ = some (.int .i64 q) := D4.c 8 (by decide)
  obtain ⟨e0, e1, e2, e3, e4, e5, e6, e7, e8, e9, e10⟩ := E4.cells
  clear D3 D4 E3 bb3 b4 c7 c8 c9
  go_wp2_with fail
  refine (hno1 w4).mono ?_
  rintro e w5 ⟨rfl, b5⟩
  have E5 := E4.below b5 E4.lt
  have bb5 := bb4.trans (b5.mono bb4.size)
  clear e0 e1 e2 e3 e4 e5 e6 e7 e8 e9 e10 c7' c8' bb4 b5 E4
  obtain ⟨e0, e1, e2, e3, e4, e5, e6, e7, e8, e9, e10⟩ := E5.cells
  go_wp2_with fail
  refine (hno2 w5).mono ?_
  rintro e w6 ⟨rfl, b6⟩
  have HB := Lib.hid (bb5.trans (b6.mono bb5.size))
  clear bb5 b6 E5 e0 e1 e2 e3 e4 e5 e6 e7 e8 e9 e10
  go_wp2_with fail
  go_ret
  exact ⟨rfl, HB.out⟩
end Go.Proofs.Ytbmbgfmhejahjaa
