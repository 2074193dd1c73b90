/-
  HISTOGRAMS: sums of bins: one bin more. Conditions: each number is of 64 bits with a sign; no more than 2^20 of them.
-/
import Derived.Test.YtdpcplhmnpglgaaHisN
namespace Go.Proofs.Ytdpcplhmnpglgaa
open Go.RowKit

/-- A row of sums, and a bin's numbers more: the error; what they are then. -/
def stE (wd : Nat) (x s : List Int) (bin : Nat) : Int := firstE (fun j => plE (s.getD j 0) (x.getD (bin * wd + j) 0)) wd
def stL (wd : Nat) (x s : List Int) (bin : Nat) : List Int := mapN (fun j => plV (s.getD j 0) (x.getD (bin * wd + j) 0)) wd
/-- So many bins more. -/
def runS (wd : Nat) (x : List Int) : Nat → Nat → List Int → List Int × Int
  | 0, _, s => (s, 0)
  | n + 1, bin, s => if stE wd x s bin = 0 then runS wd x n (bin + 1) (stL wd x s bin) else ([], stE wd x s bin)
theorem stL_len (wd : Nat) (x s : List Int) (bin : Nat) : (stL wd x s bin).length = wd := mapN_len _ _
theorem stL_whole (wd : Nat) (x s : List Int) (bin : Nat) : Wholes (stL wd x s bin) := by
  intro j hj
  rw [stL_len] at hj
  unfold stL
  rw [mapN_get _ hj]
  exact fitV_whole _
theorem or3_first (f : Nat → Int) : or3 (f 0) (f 1) (f 2) = firstE f 3 := by
  simp only [firstE, if_true]
  unfold or3
  by_cases h0 : f 0 = 0
  · rw [if_pos h0, if_neg (by omega)]
    by_cases h1 : f 1 = 0
    · rw [if_pos h1, if_neg (by omega)]
    · rw [if_neg h1, if_pos h1]
  · rw [if_neg h0, if_pos h0, if_neg h0]

/-- What a bin more leaves in a row of sums. -/
def BinP (g wd : Nat) (x s : List Int) (bin : Nat) (w : World) (e : Ending) (w' : World) : Prop :=
  e = .returned (.int .i64 (stE wd x s bin)) ∧ (stE wd x s bin = 0 → Lst KL g 0 (stL wd x s bin) w') ∧ But g w w'

set_option maxHeartbeats 1000000 in
theorem addBin_0 (gC gA n bin nc cc nm cm : Nat) (b c : Int) (lc s : List Int) (ac am : Option Addr) (w0 w : World) (hc : c = (n : Int)) (hn0 : 0 < n) (hn : n ≤ 256) (hlc : lc.length = nc) (hbin : bin * n + n ≤ nc) (hcc : nc ≤ cc) (hnc : nc ≤ 65792)
    (hh : HoldsE KL w0 ac lc) (hw : Below w0.heap.size w0 w) (hg : w0.heap.size ≤ gC) (wl : Wholes lc) (ws : Wholes s) (hs : s.length = n) (hL : Lst KL gC 0 s w) :
    Calls Try.prog 41 #[.slice (some ⟨gC, 0, none⟩) n n, .slice (some ⟨gA, 0, none⟩) 1 1, .agg #[.int .i64 0, .int .i64 b, .int .i64 c, .slice ac nc cc, .slice am nm cm], .int .i64 (bin : Int)] w fun e w' => BinP gC n lc s bin w e w' := by
  subst hc
  obtain ⟨g, o, rfl, hgl, cX⟩ := hh.cells (by omega)
  obtain ⟨pn, hpn⟩ : ∃ pn, bin * n = pn := ⟨_, rfl⟩
  have hw1 : wrap64 ((bin : Int) * (n : Int)) = (pn : Int) := by
    have : (bin : Int) * (n : Int) = (pn : Int) := by rw [← hpn]; simp
    rw [this]
    unfold wrap64; omega
  have HW1 := Lib.hid hw1
  clear hw1
  have f1 : pn + n ≤ nc := by omega
  have f2 : g ≠ gC := by omega
  have f3 : n ≤ nc - pn := by omega
  have f4 : n ≤ 1048576 := by omega
  have f5 := hw.size
  have HX : Hid (∀ w', Below w.heap.size w w' → Calls Try.prog 29 #[.slice (some ⟨gC, 0, none⟩) n n, .slice (some ⟨gC, 0, none⟩) n n, .slice (some ⟨g, o + pn, none⟩) (nc - pn) (cc - pn), .func (.func 30) #[] #[]] w' fun e w'' =>
      CombP (fun j => plE (s.getD j 0) (lc.getD (pn + j) 0)) (fun j => plV (s.getD j 0) (lc.getD (pn + j) 0)) gC 0 n s w' e w'') := by
    intro w' hb
    have hL' := hL.below hb hL.lt
    have x1 : ∀ j, j < n → w'.cell? ⟨gC, 0 + j, none⟩ = some (.int .i64 (s.getD j 0)) := fun j hj => hL'.cell j (by rw [hs]; exact hj)
    have x2 : ∀ j, j < n → w'.cell? ⟨g, o + pn + j, none⟩ = some (.int .i64 (lc.getD (pn + j) 0)) := by
      intro j hj
      rw [Nat.add_assoc]
      exact (hb.cell (by exact Nat.lt_of_lt_of_le hgl f5)).trans ((hw.cell (by exact hgl)).trans (cX (pn + j) (by omega)))
    have x3 : ∀ j, j < n → Whole (s.getD j 0) := fun j hj => ws j (by rw [hs]; exact hj)
    have x4 : ∀ j, j < n → Whole (lc.getD (pn + j) 0) := fun j hj => wl _ (by omega)
    have x5 : g < w'.heap.size := Nat.lt_of_lt_of_le (Nat.lt_of_lt_of_le hgl f5) hb.size
    clear cX hh hpn hbin
    exact combL_any 30 plV plE way_plus gC 0 gC 0 g (o + pn) n n n n (nc - pn) (cc - pn) s _ _ hs f4 (Nat.le_refl _) f3 w' hL' x1 x5 x2 (.inr rfl) f2 x3 x4
  have HF : Hid (∀ (W' : World), Below w.heap.size w W' → ∀ e w', CombP (fun j => plE (s.getD j 0) (lc.getD (pn + j) 0)) (fun j => plV (s.getD j 0) (lc.getD (pn + j) 0)) gC 0 n s W' e w' → BinP gC n lc s bin w e w') := by
    rintro W' hb e w' ⟨k, err, rfl, hran, hL3, hB, hO⟩
    have he : err = stE n lc s bin := by rw [hran.first]; unfold stE; rw [hpn]
    refine ⟨by rw [he], fun h0 => ?_, (But.of_below hb).trans hB⟩
    rw [← he] at h0
    subst h0
    obtain rfl : k = n := hran.whole
    rw [mixL_all _ _ hs] at hL3
    unfold stL
    rw [hpn]
    exact hL3
  have HB : Hid (Below w.heap.size w (w.alloc (.cells #[.int .i64 0, .int .i64 b, .int .i64 n, .slice (some ⟨g, o, none⟩) nc cc, .slice am nm cm] 29))) := alloc_below _ _
  have q1 : (pn : Int) ≤ (nc : Int) := by omega
  have q2 : ¬ (cc = pn) := by omega
  have q3 : pn ≤ nc := by omega
  have hw1 := HW1.out
  clear hpn hn0 hn hlc hbin hcc hnc hh hw hg wl ws hs hL cX hgl f1 f2 f3 f4 f5
  go_enter Try.func41, Try.ntmps41
  go_wp2_with fail
  refine (HX.out _ HB.out).mono ?_
  intro e w' hC
  have HR := Lib.hid (HF.out _ HB.out e w' hC)
  obtain ⟨he, _⟩ := HR.out
  subst he
  clear hC
  go_wp2_with fail
  go_ret
  exact HR.out

set_option maxHeartbeats 1000000 in
theorem addBin_1 (gA bin nc cc nm cm : Nat) (b c : Int) (lm s : List Int) (ac am : Option Addr) (a : Option Addr) (p q : Nat) (w0 w : World) (hlm : lm.length = nm * 3) (hbin : bin < nm) (hcm : nm ≤ cm)
    (hh : HoldsE KL w0 am lm) (hw : Below w0.heap.size w0 w) (hg : w0.heap.size ≤ gA) (wl : Wholes lm) (ws : Wholes s) (hs : s.length = 3) (hL : Lst KL gA 0 s w) :
    Calls Try.prog 41 #[.slice a p q, .slice (some ⟨gA, 0, none⟩) 1 1, .agg #[.int .i64 1, .int .i64 b, .int .i64 c, .slice ac nc cc, .slice am nm cm], .int .i64 (bin : Int)] w fun e w' => BinP gA 3 lm s bin w e w' := by
  obtain ⟨g, o, rfl, hgl, cX⟩ := hh.cells (by omega)
  have HX : Hid (∀ w', Below w.heap.size w w' → Calls Try.prog 43 #[.slice (some ⟨gA, 0, none⟩) 1 1, .slice (some ⟨gA, 0, none⟩) 1 1, .slice (some ⟨g, o + bin * 3, none⟩) (nm - bin) (cm - bin), .func (.func 35) #[] #[]] w' fun e w'' =>
      CombM (mmE plE plE plE (fun j => s.getD j 0) (fun j => lm.getD (bin * 3 + j) 0)) (mmV plV plV plV (fun j => s.getD j 0) (fun j => lm.getD (bin * 3 + j) 0)) gA 0 1 s w' e w'') := by
    intro w' hb
    have hL' := hL.below hb hL.lt
    refine combM_any 35 plV plV plV plE plE plE way_mplus gA 0 gA 0 g (o + bin * 3) 1 1 1 1 (nm - bin) (cm - bin) s (fun j => s.getD j 0) (fun j => lm.getD (bin * 3 + j) 0) (by omega) (by omega) (Nat.le_refl _) (by omega) w' hL' hL'.lt (fun j hj => hL'.cell j (by omega)) (Nat.lt_of_lt_of_le (Nat.lt_of_lt_of_le hgl hw.size) hb.size) (fun j hj => ?_) (.inr rfl) (by omega) (fun j hj => ws j (by omega)) (fun j hj => wl _ (by omega))
    rw [Nat.add_assoc]
    exact (hb.cell (by have := hw.size; show g < _; omega)).trans ((hw.cell (by exact hgl)).trans (cX (bin * 3 + j) (by omega)))
  have HF : Hid (∀ (W' : World), Below w.heap.size w W' → ∀ e w', CombM (mmE plE plE plE (fun j => s.getD j 0) (fun j => lm.getD (bin * 3 + j) 0)) (mmV plV plV plV (fun j => s.getD j 0) (fun j => lm.getD (bin * 3 + j) 0)) gA 0 1 s W' e w' → BinP gA 3 lm s bin w e w') := by
    rintro W' hb e w' ⟨k, err, rfl, hran, hL3, hB, hO⟩
    have he : err = stE 3 lm s bin := by
      rw [hran.first]
      show (if (0 : Int) = 0 then mmE plE plE plE _ _ 0 else 0) = _
      rw [if_pos rfl]
      exact or3_first (fun j => plE (s.getD j 0) (lm.getD (bin * 3 + j) 0))
    refine ⟨by rw [he], fun h0 => ?_, (But.of_below hb).trans hB⟩
    rw [← he] at h0
    subst h0
    obtain rfl : k = 1 := hran.whole
    rw [mixL_all _ _ (show s.length = 1 * 3 by omega)] at hL3
    have e : stL 3 lm s bin = mapN (mmV plV plV plV (fun j => s.getD j 0) (fun j => lm.getD (bin * 3 + j) 0)) (1 * 3) := by
      unfold stL
      refine mapN_congr fun i hi => ?_
      unfold mmV; split; rfl; split <;> rfl
    rw [e]
    exact hL3
  have HB : Hid (Below w.heap.size w (w.alloc (.cells #[.int .i64 1, .int .i64 b, .int .i64 c, .slice ac nc cc, .slice (some ⟨g, o, none⟩) nm cm] 29))) := alloc_below _ _
  have q1 : (bin : Int) ≤ (nm : Int) := by omega
  have q2 : ¬ (cm = bin) := by omega
  have q3 : bin ≤ nm := by omega
  clear hlm hbin hcm hh hw hg wl ws hs hL cX hgl
  go_enter Try.func41, Try.ntmps41
  go_wp2_with fail
  refine (HX.out _ HB.out).mono ?_
  intro e w' hC
  have HR := Lib.hid (HF.out _ HB.out e w' hC)
  obtain ⟨he, _⟩ := HR.out
  subst he
  clear hC
  go_wp2_with fail
  go_ret
  exact HR.out
end Go.Proofs.Ytdpcplhmnpglgaa
