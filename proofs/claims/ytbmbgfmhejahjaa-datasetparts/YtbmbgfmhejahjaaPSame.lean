/-
  THE DOCUMENT's: whether a target may be; two datasets that are the same. Conditions: at most 2^20 elements.
-/
import Derived.Test.YtbmbgfmhejahjaaPFull
import Derived.Laws.StructEq
namespace Go.Proofs.Ytbmbgfmhejahjaa
open Go.RowKit

set_option maxHeartbeats 1000000 in
theorem target_any (k c b t d l p x : Int) (hk : (k = 0 ∧ 2 ≤ c ∧ c ≤ 256) ∨ (k = 1 ∧ c = 0)) (w : World) :
    Calls Try.prog 35 #[cf k c b t d l p, .int .i64 x] w fun e w' => e = .returned (.int .i64 (eT k c x)) ∧ Below w.heap.size w w' := by
  have hb := fun o => (Below.refl w.heap.size w).alloc (Nat.le_refl _) o
  unfold cf
  rcases hk with ⟨rfl, h2, h3⟩ | ⟨rfl, rfl⟩
  · by_cases h1 : x < 0
    · have HE : Hid (eT 0 c x = 5) := by show _ = _; unfold eT eL; rw [if_neg (by decide), if_pos h1]
      have g1 : decide (x < 0) = true := by simpa using h1
      go_enter Try.func35, Try.ntmps35
      go_wp2
      go_ret
      exact ⟨by rw [HE.out]; rfl, hb _⟩
    · have g1 : decide (x < 0) = false := by simpa using h1
      by_cases h4 : 255 < x
      · have HE : Hid (eT 0 c x = 5) := by show _ = _; unfold eT eL; rw [if_neg (by decide), if_neg h1, if_pos (by omega)]
        have g2 : decide (x > 255) = true := by simpa using h4
        go_enter Try.func35, Try.ntmps35
        go_wp2
        go_ret
        exact ⟨by rw [HE.out]; rfl, hb _⟩
      · have g2 : decide (x > 255) = false := by simpa using h4
        have hw : wrap64 x = x := by unfold wrap64; omega
        by_cases h5 : c ≤ x
        · have HE : Hid (eT 0 c x = 5) := by show _ = _; unfold eT eL; rw [if_neg (by decide), if_neg h1, if_pos h5]
          have g3 : decide (x ≥ c) = true := by simpa using h5
          go_enter Try.func35, Try.ntmps35
          go_wp2
          go_ret
          exact ⟨by rw [HE.out]; rfl, hb _⟩
        · have HE : Hid (eT 0 c x = 0) := by show _ = _; unfold eT eL; rw [if_neg (by decide), if_neg h1, if_neg h5]
          have g3 : decide (x ≥ c) = false := by simpa using h5
          go_enter Try.func35, Try.ntmps35
          go_wp2
          go_ret
          exact ⟨by rw [HE.out]; rfl, hb _⟩
  · by_cases h1 : x < -1048576
    · have HE : Hid (eT 1 0 x = 4) := by show _ = _; unfold eT eM; rw [if_pos rfl, if_pos h1]
      have g1 : decide (x < -1048576) = true := by simpa using h1
      go_enter Try.func35, Try.ntmps35
      go_wp2
      go_ret
      exact ⟨by rw [HE.out]; rfl, hb _⟩
    · have g1 : decide (x < -1048576) = false := by simpa using h1
      by_cases h4 : 1048576 < x
      · have HE : Hid (eT 1 0 x = 4) := by show _ = _; unfold eT eM; rw [if_pos rfl, if_neg h1, if_pos h4]
        have g2 : decide (x > 1048576) = true := by simpa using h4
        go_enter Try.func35, Try.ntmps35
        go_wp2
        go_ret
        exact ⟨by rw [HE.out]; rfl, hb _⟩
      · have HE : Hid (eT 1 0 x = 0) := by show _ = _; unfold eT eM; rw [if_pos rfl, if_neg h1, if_neg h4]
        have g2 : decide (x > 1048576) = false := by simpa using h4
        go_enter Try.func35, Try.ntmps35
        go_wp2
        go_ret
        exact ⟨by rw [HE.out]; rfl, hb _⟩

theorem HoldsE.at {α : Type} {K : Kind α} {w : World} {a : Option Addr} {l : List α} (h : HoldsE K w a l) {n : Nat} (hn : n < l.length) : ∃ g off, a = some ⟨g, off, none⟩ ∧ g < w.heap.size ∧ ∀ j, j < l.length → w.cell? ⟨g, off + j, none⟩ = some (K.enc (l.getD j K.z)) := by
  rcases h with rfl | h
  · simp at hn
  · exact h

set_option maxRecDepth 20000 in
set_option maxHeartbeats 8000000 in
theorem psame_any (k c b t d l p r q : Int) (aV aT aU aS : Option Addr) (nV cV nT cT cU cS : Nat) (V T : List Int) (hVl : V.length = nV) (hTl : T.length = nT) (hn : nV ≤ 1048576) (hn2 : nT ≤ 1048576) (w : World) (hV : HoldsE KU w aV V) (hT : HoldsE K64 w aT T) (hU : HoldsE KU w aU V) (hS : HoldsE K64 w aS T) :
    Calls Try.prog 13 #[ds k c b t d l p r q (.slice aV nV cV) (.slice aT nT cT), ds k c b t d l p r q (.slice aU nV cU) (.slice aS nT cS)] w fun e w' => e = .returned (.bool true) ∧ Below w.heap.size w w' := by
  have D0 := lay_dat w 27 k c b t d l p r q (.slice aV nV cV) (.slice aT nT cT)
  have b0 := lay_below w 27 k c b t d l p r q (.slice aV nV cV) (.slice aT nT cT)
  have z0 := lay_size w 27 k c b t d l p r q (.slice aV nV cV) (.slice aT nT cT)
  unfold ds
  go_enter Try.func13, Try.ntmps13
  go_upto_region 1 with fail
  change Code.wp _ _ _ _ (lay (lay w 27 k c b t d l p r q (.slice aV nV cV) (.slice aT nT cT)) 27 k c b t d l p r q (.slice aU nV cU) (.slice aS nT cS))
  generalize lay w 27 k c b t d l p r q (.slice aV nV cV) (.slice aT nT cT) = w00 at *
  have E0 := lay_dat w00 27 k c b t d l p r q (.slice aU nV cU) (.slice aS nT cS)
  have b1 := lay_below w00 27 k c b t d l p r q (.slice aU nV cU) (.slice aS nT cS)
  have D1 := D0.below b1 D0.lt
  have bb := b0.trans (b1.mono b0.size)
  rw [z0] at E0
  generalize lay w00 27 k c b t d l p r q (.slice aU nV cU) (.slice aS nT cS) = w0 at *
  obtain ⟨N, hN⟩ : ∃ N, w.heap.size = N := ⟨_, rfl⟩
  have HN := Lib.hid hN
  rw [hN] at D1 E0 ⊢
  have HVL := Lib.hid (And.intro hVl hTl)
  clear hN D0 b0 b1 z0 hVl hTl
  obtain ⟨c0, c1, c2, c3, c4, c5, c6, c7, c8, c9, c10⟩ := D1.cells
  obtain ⟨x0, x1, x2, x3, x4, x5, x6, x7, x8, x9, x10⟩ := E0.cells
  go_wp2_with fail
  clear c0 c1 c2 c3 c4 c5 c6 c7 c8 c9 c10 x0 x1 x2 x3 x4 x5 x6 x7 x8 x9 x10
  go_loopw [5] (fun v wr => ∃ j : Nat, v = .int .i64 (j : Int) ∧ j ≤ nV ∧ Dat N (dv k c b t d l p r q (.slice aV nV cV) (.slice aT nT cT)) wr ∧ Dat (N + 1) (dv k c b t d l p r q (.slice aU nV cU) (.slice aS nT cS)) wr ∧ Below w.heap.size w wr) (fun v _ => nV - (intOf v).toNat)
  case atStart => exact ⟨0, rfl, by omega, D1, E0, bb⟩
  case round =>
    obtain ⟨j, rfl, hj, D, E, bel⟩ := hrel
    clear D1 E0 bb
    have c9 : wr.cell? ⟨N, 9, none⟩ = some (.slice aV nV cV) := D.c 9 (by decide)
    have x9 : wr.cell? ⟨N + 1, 9, none⟩ = some (.slice aU nV cU) := E.c 9 (by decide)
    by_cases hlt : j < nV
    · have hl0 : j < V.length := by rw [HVL.out.1]; exact hlt
      obtain ⟨g, off, rfl, hg, hrow⟩ := hV.at hl0
      obtain ⟨g2, off2, rfl, hg2, hrow2⟩ := hU.at hl0
      obtain ⟨y, HY⟩ : ∃ y, Hid (V.getD j 0 = y) := ⟨_, rfl⟩
      have e1 : wr.cell? ⟨g, off + j, none⟩ = some (.int .u64 y) := by rw [← HY.out]; exact (bel.cell (by exact hg)).trans (hrow j hl0)
      have e2 : wr.cell? ⟨g2, off2 + j, none⟩ = some (.int .u64 y) := by rw [← HY.out]; exact (bel.cell (by exact hg2)).trans (hrow2 j hl0)
      have i1 : (j : Int) < (nV : Int) := by omega
      have i0 : (0 : Int) ≤ (j : Int) := by omega
      have HF : Hid (∀ n, Dat N (dv k c b t d l p r q (.slice (some ⟨g, off, none⟩) nV cV) (.slice aT nT cT)) (wr.drewN n) ∧ Dat (N + 1) (dv k c b t d l p r q (.slice (some ⟨g2, off2, none⟩) nV cU) (.slice aS nT cS)) (wr.drewN n) ∧ Below w.heap.size w (wr.drewN n)) := fun n => ⟨D.drewN n, E.drewN n, ⟨bel.os, bel.tape, bel.output, bel.size, bel.block⟩⟩
      clear hV hU hrow hrow2 D E bel hl0
      go_wp2_with fail
      go_quiet (fail)
      go_wp2_with fail
      go_roundw
      case rel => exact ⟨j + 1, by go_num, by omega, (HF.out _).1, (HF.out _).2.1, (HF.out _).2.2⟩
      case measure => simp [intOf]; omega
    · have i1 : ¬ (j : Int) < (nV : Int) := by omega
      clear hV hU
      go_wp2_with fail
      clear c9 x9
      go_loopw [6] (fun v wz => ∃ i : Nat, v = .int .i64 (i : Int) ∧ i ≤ nT ∧ Dat N (dv k c b t d l p r q (.slice aV nV cV) (.slice aT nT cT)) wz ∧ Dat (N + 1) (dv k c b t d l p r q (.slice aU nV cU) (.slice aS nT cS)) wz ∧ Below w.heap.size w wz) (fun v _ => nT - (intOf v).toNat)
      case atStart => exact ⟨0, rfl, by omega, D, E, bel⟩
      case round =>
        obtain ⟨i, rfl, hi, D2, E2, bel2⟩ := hrel
        clear D E bel
        have c10 : wr.cell? ⟨N, 10, none⟩ = some (.slice aT nT cT) := D2.c 10 (by decide)
        have x10 : wr.cell? ⟨N + 1, 10, none⟩ = some (.slice aS nT cS) := E2.c 10 (by decide)
        by_cases hlt2 : i < nT
        · have hl0 : i < T.length := by rw [HVL.out.2]; exact hlt2
          obtain ⟨g, off, rfl, hg, hrow⟩ := hT.at hl0
          obtain ⟨g2, off2, rfl, hg2, hrow2⟩ := hS.at hl0
          obtain ⟨y, HY⟩ : ∃ y, Hid (T.getD i 0 = y) := ⟨_, rfl⟩
          have e1 : wr.cell? ⟨g, off + i, none⟩ = some (.int .i64 y) := by rw [← HY.out]; exact (bel2.cell (by exact hg)).trans (hrow i hl0)
          have e2 : wr.cell? ⟨g2, off2 + i, none⟩ = some (.int .i64 y) := by rw [← HY.out]; exact (bel2.cell (by exact hg2)).trans (hrow2 i hl0)
          have i2 : (i : Int) < (nT : Int) := by omega
          have i0 : (0 : Int) ≤ (i : Int) := by omega
          have HF : Hid (∀ n, Dat N (dv k c b t d l p r q (.slice aV nV cV) (.slice (some ⟨g, off, none⟩) nT cT)) (wr.drewN n) ∧ Dat (N + 1) (dv k c b t d l p r q (.slice aU nV cU) (.slice (some ⟨g2, off2, none⟩) nT cS)) (wr.drewN n) ∧ Below w.heap.size w (wr.drewN n)) := fun n => ⟨D2.drewN n, E2.drewN n, ⟨bel2.os, bel2.tape, bel2.output, bel2.size, bel2.block⟩⟩
          clear hT hS hrow hrow2 D2 E2 bel2 hl0 hlt
          go_wp2_with fail
          go_quiet (fail)
          go_wp2_with fail
          go_roundw
          case rel => exact ⟨i + 1, by go_num, by omega, (HF.out _).1, (HF.out _).2.1, (HF.out _).2.2⟩
          case measure => simp [intOf]; omega
        · have i2 : ¬ (i : Int) < (nT : Int) := by omega
          go_wp2_with fail
          go_ret
          exact ⟨rfl, bel2⟩
end Go.Proofs.Ytbmbgfmhejahjaa
