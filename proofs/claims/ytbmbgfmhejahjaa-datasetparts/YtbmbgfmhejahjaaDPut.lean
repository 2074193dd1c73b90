/-
  DATASETS: Put: a dataset's bytes, or why it has none. Conditions: at most 1000 values and targets; values of 64 bits; rows and columns of 64 bits with a sign.
-/
import Derived.Test.YtbmbgfmhejahjaaDBytes
namespace Go.Proofs.Ytbmbgfmhejahjaa
open Go.RowKit

theorem orE_zero {a b : Int} (h : orE a b = 0) : a = 0 ∧ b = 0 := by
  unfold orE at h
  split at h
  · exact ⟨by assumption, h⟩
  · contradiction
theorem eD_ok {k c b t d l p r q : Int} {V : List Nat} {T : List Int} (h : eD k c b t d l p r q V T = 0) : shp r q V.length T.length ∧ chk k c b t d l p = 0 ∧ eR r = 0 ∧ eC r q = 0 ∧ eI eV V = 0 ∧ eI (eT k c) T = 0 := by
  unfold eD at h
  split at h
  · rename_i hs
    obtain ⟨h1, h⟩ := orE_zero h
    obtain ⟨h2, h⟩ := orE_zero h
    obtain ⟨h3, h⟩ := orE_zero h
    obtain ⟨h4, h⟩ := orE_zero h
    exact ⟨hs, h1, h2, h3, h4, h⟩
  · exact absurd h (by decide)

/-- What Put answers. -/
def PutA (w w' : World) (v : Value) (k c b t d l p r q : Int) (V : List Nat) (T : List Int) : Prop := (eD k c b t d l p r q V T = 0 → Own KB w' w.heap.size v (dsb k c b t d l p r q V T)) ∧ (eD k c b t d l p r q V T ≠ 0 → v = .slice none 0 0)

set_option maxHeartbeats 4000000 in
theorem dput_any (k c b t d l p r q : Int) (aV aT : Option Addr) (nV cV nT cT : Nat) (V : List Nat) (T : List Int) (hVl : V.length = nV) (hTl : T.length = nT) (hr : -9223372036854775808 ≤ r ∧ r ≤ 9223372036854775807) (hq : -9223372036854775808 ≤ q ∧ q ≤ 9223372036854775807) (hn : nV ≤ 1000) (hn2 : nT ≤ 1000)
    (h64 : ∀ b ∈ V, b < 18446744073709551616) (w : World) (hV : HoldsE KF w aV V) (hT : HoldsE K64 w aT T) :
    Calls Try.prog 9 #[ds k c b t d l p r q (.slice aV nV cV) (.slice aT nT cT)] w fun e w' => ∃ v, e = .returned (.tuple #[v, .int .i64 (eD k c b t d l p r q V T)]) ∧ PutA w w' v k c b t d l p r q V T ∧ Below w.heap.size w w' := by
  have D0 := lay_dat w 36 k c b t d l p r q (.slice aV nV cV) (.slice aT nT cT)
  have b0 := lay_below w 36 k c b t d l p r q (.slice aV nV cV) (.slice aT nT cT)
  have hw := wrong_any k c b t d l p r q aV aT nV cV nT cT V T hVl hTl hr hq (by omega) (by omega) h64 _ (hV.below b0) (hT.below b0)
  have hb := fun hz W h1 h2 => dbytes_any k c b t d l p r q aV aT nV cV nT cT V T hVl hTl hn hn2 hz W h1 h2
  have HP : Hid (∀ w' v, (eD k c b t d l p r q V T = 0 → Own KB w' w.heap.size v (dsb k c b t d l p r q V T)) → (eD k c b t d l p r q V T ≠ 0 → v = .slice none 0 0) → PutA w w' v k c b t d l p r q V T) := fun _ _ h1 h2 => ⟨h1, h2⟩
  unfold ds at *
  go_enter Try.func9, Try.ntmps9
  go_wp2_with fail
  change Calls Try.prog _ _ (lay w 36 k c b t d l p r q (.slice aV nV cV) (.slice aT nT cT)) _
  generalize lay w 36 k c b t d l p r q (.slice aV nV cV) (.slice aT nT cT) = w0 at *
  obtain ⟨N, hN⟩ : ∃ N, w.heap.size = N := ⟨_, rfl⟩
  have HN := Lib.hid hN
  rw [hN] at D0 ⊢
  clear hN
  refine hw.mono ?_
  rintro e w1 ⟨rfl, b1⟩
  have D1 := D0.below b1 D0.lt
  have hV1 := (hV.below b0).below b1
  have hT1 := (hT.below b0).below b1
  have bb := b0.trans (b1.mono b0.size)
  clear hw D0 b0 b1 hV hT h64 hVl hTl
  by_cases hz : eD k c b t d l p r q V T = 0
  · have HZ := Lib.hid hz
    have hb1 := hb (eD_ok hz).2.1 _ hV1 hT1
    rw [hz]
    clear hz hb hV1 hT1
    obtain ⟨c0, c1, c2, c3, c4, c5, c6, c7, c8, c9, c10⟩ := D1.cells
    go_wp2_with fail
    refine hb1.mono ?_
    rintro e w2 ⟨v, rfl, own, b2⟩
    have HB := Lib.hid (bb.trans (b2.mono bb.size))
    have HO := Lib.hid (own.base bb.size)
    clear hb1 own b2 bb D1 c0 c1 c2 c3 c4 c5 c6 c7 c8 c9 c10
    go_wp2_with fail
    go_returns
    exact ⟨v, by rw [HZ.out]; rfl, HP.out _ _ (fun _ => HO.out) (fun h => absurd HZ.out h), HB.out⟩
  · have g : (eD k c b t d l p r q V T != 0) = true := by simpa using hz
    have HZ := Lib.hid hz
    have HB := Lib.hid bb
    clear hz hb hV1 hT1 bb D1
    obtain ⟨E, hE⟩ : ∃ E, eD k c b t d l p r q V T = E := ⟨_, rfl⟩
    have HE := Lib.hid hE
    rw [hE] at g ⊢
    clear hE
    go_wp2_with fail
    go_returns
    exact ⟨_, by rw [HE.out]; rfl, HP.out _ _ (fun h => absurd h HZ.out) (fun _ => rfl), HB.out⟩
end Go.Proofs.Ytbmbgfmhejahjaa
