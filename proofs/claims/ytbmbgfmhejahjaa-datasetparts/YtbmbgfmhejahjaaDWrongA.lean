/-
  DATASETS: wrong: the first thing that is wrong with a dataset. Conditions: rows and columns are of 64 bits with a sign; at most 2^20 values and targets; values of 64 bits.
-/
import Derived.Test.YtbmbgfmhejahjaaDFull
namespace Go.Proofs.Ytbmbgfmhejahjaa
open Go.RowKit

/-- The first error, or the second one. -/
def orE (a b : Int) : Int := if a = 0 then b else a
theorem orE_0 {a b : Int} (h : a = 0) : orE a b = b := if_pos h
theorem orE_1 {a b : Int} (h : a ≠ 0) : orE a b = a := if_neg h
/-- Its shape is right. -/
def shp (r q : Int) (nV nT : Nat) : Prop := r ≤ 16777216 ∧ q ≤ 16777216 ∧ fullB r q nV = true ∧ (nT : Int) = r
/-- What is wrong with a dataset. -/
def eB (k c b t d l p r q : Int) (V : List Nat) (T : List Int) : Int := orE (chk k c b t d l p) (orE (eR r) (orE (eC r q) (orE (eI eV V) (eI (eT k c) T))))
instance (r q : Int) (nV nT : Nat) : Decidable (shp r q nV nT) := by unfold shp; infer_instance
def eD (k c b t d l p r q : Int) (V : List Nat) (T : List Int) : Int := if shp r q V.length T.length then eB k c b t d l p r q V T else 8

set_option maxHeartbeats 4000000 in
theorem wrong_any (k c b t d l p r q : Int) (aV aT : Option Addr) (nV cV nT cT : Nat) (V : List Nat) (T : List Int) (hVl : V.length = nV) (hTl : T.length = nT) (hr : -9223372036854775808 ≤ r ∧ r ≤ 9223372036854775807) (hq : -9223372036854775808 ≤ q ∧ q ≤ 9223372036854775807) (hn : nV ≤ 1048576) (hn2 : nT ≤ 1048576)
    (h64 : ∀ b ∈ V, b < 18446744073709551616) (w : World) (hV : HoldsE KF w aV V) (hT : HoldsE K64 w aT T) :
    Calls Try.prog 22 #[ds k c b t d l p r q (.slice aV nV cV) (.slice aT nT cT)] w fun e w' => e = .returned (.int .i64 (eD k c b t d l p r q V T)) ∧ Below w.heap.size w w' := by
  have D0 := lay_dat w 36 k c b t d l p r q (.slice aV nV cV) (.slice aT nT cT)
  have b0 := lay_below w 36 k c b t d l p r q (.slice aV nV cV) (.slice aT nT cT)
  have hk := check_any k c b t d l p
  have ht := wt_any k c b t d l p
  have hwt := fun W h => wrongT_any k c b t d l p aT nT cT T hTl hn2 W h
  have hwv := fun W h => wrongV_any aV nV cV V hVl hn h64 W h
  unfold cf at hk ht hwt
  have hf := full_any k c b t d l p r q aV nV cV (.slice aT nT cT) hr hq hn
  have HD : Hid (eD k c b t d l p r q V T = if shp r q nV nT then eB k c b t d l p r q V T else 8) := by show _ = _; unfold eD; rw [hVl, hTl]
  obtain ⟨E, hE⟩ : ∃ E, eD k c b t d l p r q V T = E := ⟨_, rfl⟩
  have HEE := Lib.hid hE
  rw [hE] at HD ⊢
  clear hE
  unfold ds at *
  by_cases ho : q ≤ r
  all_goals (
    by_cases h1 : 16777216 < r ∨ 16777216 < q
    · have HE : Hid (E = 8) := HD.out.trans <| if_neg (fun h => by have := h.1; have := h.2.1; omega)
      have HB := Lib.hid b0
      (first | (have g1 : 16777216 < r := by omega) | (have g1 : 16777216 < q := by omega))
      clear hr hq D0 hf b0 h1
      go_enter Try.func22, Try.ntmps22
      go_wp2_with fail
      go_ret
      exact ⟨by rw [HE.out]; rfl, HB.out⟩
    have g1 : ¬ 16777216 < r := by omega
    have g2 : ¬ 16777216 < q := by omega
    go_enter Try.func22, Try.ntmps22
    go_wp2_with fail
    change Calls Try.prog _ _ (lay w 36 k c b t d l p r q (.slice aV nV cV) (.slice aT nT cT)) _
    clear ho
    generalize lay w 36 k c b t d l p r q (.slice aV nV cV) (.slice aT nT cT) = w0 at *
    obtain ⟨N, hN⟩ : ∃ N, w.heap.size = N := ⟨_, rfl⟩
    have HN := Lib.hid hN
    rw [hN] at D0 ⊢
    clear hN
    refine (hf _).mono ?_
    rintro e w1 ⟨rfl, b1⟩
    have D1 := D0.below b1 D0.lt
    have bb := b0.trans (b1.mono b0.size)
    have hV1 := (hV.below b0).below b1
    have hT1 := (hT.below b0).below b1
    clear hf b0 b1 D0 hV hT hVl hTl h64
    by_cases h2 : fullB r q nV = true
    case neg =>
      have HE : Hid (E = 8) := HD.out.trans <| if_neg (fun h => h2 h.2.2.1)
      have g3 : fullB r q nV = false := by simpa using h2
      rw [g3]
      go_wp2_with fail
      go_ret
      exact ⟨by rw [HE.out]; rfl, bb⟩
    case pos =>
    obtain ⟨c0, c1, c2, c3, c4, c5, c6, c7, c8, c9, c10⟩ := D1.cells
    by_cases h3 : (nT : Int) = r
    case neg =>
      have HE : Hid (E = 8) := HD.out.trans <| if_neg (fun h => h3 h.2.2.2)
      have g3 : ((nT : Int) != r) = true := by simpa using h3
      rw [h2]
      go_wp2_with fail
      go_ret
      exact ⟨by rw [HE.out]; rfl, bb⟩
    case pos =>
    have HE : Hid (E = eB k c b t d l p r q V T) := HD.out.trans <| if_pos ⟨by omega, by omega, h2, h3⟩
    have g3 : ((nT : Int) != r) = false := by simpa using h3
    have hq0 : 0 ≤ q := by have := of_decide_eq_true h2; omega
    have hr0 : 0 ≤ r := by have := of_decide_eq_true h2; omega
    rw [h2]
    clear h2 h3 hr hq g1 g2 HD HEE
    go_wp2_with fail
    refine (hk _).mono ?_
    rintro e w2 ⟨rfl, b2⟩
    have D2 := D1.below b2 D1.lt
    have hV2 := hV1.below b2
    have hT2 := hT1.below b2
    have bb2 := bb.trans (b2.mono bb.size)
    clear D1 hV1 hT1 b2 bb c0 c1 c2 c3 c4 c5 c6 c7 c8 c9 c10
    obtain ⟨c0, c1, c2, c3, c4, c5, c6, c7, c8, c9, c10⟩ := D2.cells
    by_cases hz : chk k c b t d l p = 0
    case neg =>
      have HE2 : Hid (E = chk k c b t d l p) := HE.out.trans (orE_1 hz)
      have g : (chk k c b t d l p != 0) = true := by simpa using hz
      have HB := Lib.hid bb2
      clear hz HE
      generalize chk k c b t d l p = y at *
      go_wp2_with fail
      go_ret
      exact ⟨by rw [HE2.out]; rfl, HB.out⟩
    case pos =>
    have HN2 : Hid (E = orE (eR r) (orE (eC r q) (orE (eI eV V) (eI (eT k c) T)))) := HE.out.trans (orE_0 hz)
    have hok := Lib.hid (chk_ok hz)
    rw [hz]
    clear hz hk HE
    go_wp2_with fail
    refine (rows_any r _).mono ?_
    rintro e w3 ⟨rfl, rfl⟩
    by_cases hz : eR r = 0
    case neg =>
      have HE2 : Hid (E = eR r) := HN2.out.trans (orE_1 hz)
      have g : (eR r != 0) = true := by simpa using hz
      have HB := Lib.hid bb2
      clear hz HN2
      generalize eR r = y at *
      go_wp2_with fail
      go_ret
      exact ⟨by rw [HE2.out]; rfl, HB.out⟩
    case pos =>
    have HN3 : Hid (E = orE (eC r q) (orE (eI eV V) (eI (eT k c) T))) := HN2.out.trans (orE_0 hz)
    have hr1 : r ≤ 1048576 := by have h := hz; unfold eR at h; split at h <;> (try split at h) <;> omega
    rw [hz]
    clear hz HN2
    go_wp2_with fail
    refine (cols_any r q hr0 hr1 hq0 _).mono ?_
    rintro e w3 ⟨rfl, rfl⟩
    by_cases hz : eC r q = 0
    case neg =>
      have HE2 : Hid (E = eC r q) := HN3.out.trans (orE_1 hz)
      have g : (eC r q != 0) = true := by simpa using hz
      have HB := Lib.hid bb2
      clear hz HN3
      generalize eC r q = y at *
      go_wp2_with fail
      go_ret
      exact ⟨by rw [HE2.out]; rfl, HB.out⟩
    case pos =>
    have HN4 : Hid (E = orE (eI eV V) (eI (eT k c) T)) := HN3.out.trans (orE_0 hz)
    rw [hz]
    clear hz HN3
    go_wp2_with fail
    refine (hwv _ hV2).mono ?_
    rintro e w3 ⟨rfl, rfl⟩
    by_cases hz : eI eV V = 0
    case neg =>
      have HE2 : Hid (E = eI eV V) := HN4.out.trans (orE_1 hz)
      have g : (eI eV V != 0) = true := by simpa using hz
      have HB := Lib.hid bb2
      clear hz HN4
      generalize eI eV V = y at *
      go_wp2_with fail
      go_ret
      exact ⟨by rw [HE2.out]; rfl, HB.out⟩
    case pos =>
    have HN5 : Hid (E = eI (eT k c) T) := HN4.out.trans (orE_0 hz)
    rw [hz]
    clear hz HN4
    go_wp2_with fail
    have D3 := D2.drew
    have hT3 : HoldsE K64 w3.drew aT T := hT2
    have bb3 := bb2.drew
    have cc : Below w3.heap.size w3 w3.drew := ⟨rfl, rfl, rfl, Nat.le_refl _, fun _ _ => rfl⟩
    clear hV2 hT2 bb2 cc c0 c1 c2 c3 c4 c5 c6 c7 c8 c9 c10 hwv hr0 hr1 hq0
    go_region_held3 (fun W => W.cell? ⟨N, 0, none⟩ = some (.int .i64 k) ∧ W.cell? ⟨N, 1, none⟩ = some (.int .i64 c) ∧ W.cell? ⟨N, 2, none⟩ = some (.int .i64 b) ∧ W.cell? ⟨N, 3, none⟩ = some (.int .i64 t) ∧ W.cell? ⟨N, 4, none⟩ = some (.int .i64 d) ∧ W.cell? ⟨N, 5, none⟩ = some (.int .i64 l) ∧ W.cell? ⟨N, 6, none⟩ = some (.int .i64 p) ∧ W.cell? ⟨N, 7, none⟩ = some (.int .i64 r) ∧ W.cell? ⟨N, 8, none⟩ = some (.int .i64 q) ∧ W.cell? ⟨N, 9, none⟩ = some (.slice aV nV cV) ∧ W.cell? ⟨N, 10, none⟩ = some (.slice aT nT cT))
      (first | exact D3.cells | exact D2.cells)
      (first
      | (go_at_call 44
         refine (ht _).mono ?_
         rintro _ w4 ⟨rfl, b4⟩
         replace D3 := D3.below b4 D3.lt
         replace hT3 := hT3.below b4
         replace bb3 := bb3.trans (b4.mono bb3.size)
         clear b4)
      | (go_at_call 43
         refine (hwt _ hT3).mono ?_
         rintro _ w5 ⟨rfl, b5⟩
         replace D3 := D3.below b5 D3.lt
         replace bb3 := bb3.trans (b5.mono bb3.size)
         clear b5))
    have HB := Lib.hid bb3
    clear bb3 D3 D2 hT3 ht hwt
    go_wp2_with fail
    go_ret
    exact ⟨by rw [HN5.out]; rfl, HB.out⟩)
end Go.Proofs.Ytbmbgfmhejahjaa
