/-
  DATASETS: Get: the dataset of bytes, if nothing is left, or why they are none. Condition: no more than 10000 bytes.
-/
import Derived.Test.YtbmbgfmhejahjaaDTaken
namespace Go.Proofs.Ytbmbgfmhejahjaa
open Go.RowKit

/-- How many bytes a dataset has. -/
def gS (l : List UInt8) : Nat := 24 + 8 * (gr l * gq l) + 8 * gr l
/-- What is told of bytes. -/
def fuE (l : List UInt8) : Int := orE (gtE l) (if l.length ≤ gS l then 0 else 3)
/-- Its values, its targets. -/
def gVs (l : List UInt8) : List Nat := itL (l.drop 24) (gr l * gq l)
def gTs (l : List UInt8) : List Int := tL (l.drop (24 + 8 * (gr l * gq l))) (gr l)
/-- The dataset's cells. -/
def gD (l : List UInt8) (V T : Value) : Nat → Value := dv (gc l 0) (gc l 1) (gc l 2) (gc l 3) (gc l 4) (gc l 5) (gc l 6) (gr l : Int) (gq l : Int) V T
def gDv (l : List UInt8) (V T : Value) : Value := ds (gc l 0) (gc l 1) (gc l 2) (gc l 3) (gc l 4) (gc l 5) (gc l 6) (gr l : Int) (gq l : Int) V T

/-- What the function that is tried leaves. -/
def GfP (V : Nat) (w : World) (l : List UInt8) (l' : List UInt8) (e : Int) (w2 : World) : Prop :=
  e = gtE l ∧ (gtE l = 0 → l' = l.drop (gS l) ∧ ∃ v t, Dat V (gD l v t) w2 ∧ Own KF w2 (w.heap.size + 1) v (gVs l) ∧ Own K64 w2 (w.heap.size + 1) t (gTs l)) ∧ Buts (fun k => k = V) w w2

set_option maxHeartbeats 2000000 in
theorem getF_any (V : Nat) (w : World) (f : Nat → Value) (hV : Dat V f w) (l : List UInt8) (hm : l.length ≤ 10000) :
    Tried w 29 #[.pointer (some ⟨V, 0, none⟩)] l (GfP V w l) := by
  intro R w1 rd bel
  have lo := rd.lo
  have hiR := rd.hi
  have lV := hV.lt
  have hV1 := hV.below bel lV
  have h1 := taken_any _ _ R l hm w1 rd
  clear hV rd
  show Calls Try.prog _ #[.pointer (some ⟨R, 0, none⟩), .pointer (some ⟨V, 0, none⟩)] _ _
  go_enter Try.func29, Try.ntmps29
  go_wp2_with fail
  refine h1.mono ?_
  rintro x w2 ⟨l', hx, rd2, hb2⟩
  rcases hx with ⟨hz, rfl, v, t, rfl, ov, ot⟩ | ⟨hz, rfl⟩
  · have hV2 := hV1.but hb2 (by omega)
    obtain ⟨av, nv, cv, rfl⟩ : ∃ a n c, v = .slice a n c := by obtain ⟨a, c, h, _⟩ := ov.holds; exact ⟨a, _, c, h⟩
    obtain ⟨at', nt, ct, rfl⟩ : ∃ a n c, t = .slice a n c := by obtain ⟨a, c, h, _⟩ := ot.holds; exact ⟨a, _, c, h⟩
    obtain ⟨sv, sb⟩ := put11_facts (gc l 0) (gc l 1) (gc l 2) (gc l 3) (gc l 4) (gc l 5) (gc l 6) (gr l : Int) (gq l : Int) (.slice av nv cv) (.slice at' nt ct) hV2
    rw [hz] at rd2
    have rd3 := rd2.but sb (.inl (by omega))
    have fr : Buts (fun k => k = R ∨ k = V) w1 (put11 w2 V (gc l 0) (gc l 1) (gc l 2) (gc l 3) (gc l 4) (gc l 5) (gc l 6) (gr l : Int) (gq l : Int) (.slice av nv cv) (.slice at' nt ct)) := ((Buts.refl _ w1).but hb2 (.inl (.inl rfl))).but sb (.inl (.inr rfl))
    have ov3 := (ov.but sb (by omega)).base (show w.heap.size + 1 ≤ w1.heap.size by omega)
    have ot3 := (ot.but sb (by omega)).base (show w.heap.size + 1 ≤ w1.heap.size by omega)
    have x0 := hV2.c 0 (by decide)
    have x1 := hV2.c 1 (by decide)
    have x2 := hV2.c 2 (by decide)
    have x3 := hV2.c 3 (by decide)
    have x4 := hV2.c 4 (by decide)
    have x5 := hV2.c 5 (by decide)
    have x6 := hV2.c 6 (by decide)
    have x7 := hV2.c 7 (by decide)
    have x8 := hV2.c 8 (by decide)
    have x9 := hV2.c 9 (by decide)
    have x10 := hV2.c 10 (by decide)
    obtain ⟨y0, y1, y2, y3, y4, y5, y6, y7, y8, y9, y10⟩ := hV2.frs
    have HF := Lib.hid (And.intro fr (And.intro rd3 (And.intro sv (And.intro ov3 ot3))))
    have HZ := Lib.hid hz
    clear h1 hV1 rd2 hb2 hV2 sv sb rd3 fr hz ov ot ov3 ot3
    unfold ds
    go_wp2_with fail
    go_end0
    obtain ⟨fr, rd3, sv, ov3, ot3⟩ := HF.out
    exact ⟨l.drop (24 + 8 * (gr l * gq l) + 8 * gr l), 0, .inl ⟨rfl, rfl⟩, rd3, Tried.frame fr (by rintro k rfl; exact lV), HZ.out.symm, fun _ => ⟨rfl, _, _, sv, ov3, ot3⟩, Tried.whole bel fr (by omega)⟩
  · have fr : Buts (fun k => k = R ∨ k = V) w1 w2 := (Buts.refl _ w1).but hb2 (.inl (.inl rfl))
    exact ⟨rfl, l', gtE l, .inr rfl, rd2, Tried.frame fr (by rintro k rfl; exact lV), rfl, fun h => absurd h hz, Tried.whole bel fr (by omega)⟩

theorem entersG (x : Value) (cap : Array Value) (w : World) : (callFunc 29 (#[x] ++ cap)).run Try.prog w = .ok (.enter 29 (#[x] ++ cap)) w := by
  simp [go_sem]

/-- What Get answers. -/
def GetA (w w' : World) (l : List UInt8) (x : Ending) : Prop :=
  (fuE l = 0 ∧ ∃ V T, x = .returned (.tuple #[gDv l V T, .int .i64 0]) ∧ Own KF w' w.heap.size V (gVs l) ∧ Own K64 w' w.heap.size T (gTs l)) ∨ (fuE l ≠ 0 ∧ x = .returned (.tuple #[ds 0 0 0 0 0 0 0 0 0 (.slice none 0 0) (.slice none 0 0), .int .i64 (fuE l)]))

set_option maxHeartbeats 4000000 in
theorem dget_any (a : Option Addr) (n c : Nat) (l : List UInt8) (hl : l.length = n) (hm : n ≤ 10000) (ha : a = none → c = 0) (w : World) (h : HoldsE KB w a l) :
    Calls Try.prog 12 #[.slice a n c] w fun e w' => GetA w w' l e ∧ Below w.heap.size w w' := by
  have hmf : ∀ (fn : Fn) (first cap : Array Value) (w : World), (Instr.makeFunc fn first cap).run Try.prog w = .ok (.func fn first cap) w := fun _ _ _ _ => rfl
  have D0 := lay_dat w 36 0 0 0 0 0 0 0 0 0 (.slice none 0 0) (.slice none 0 0)
  have b0 := lay_below w 36 0 0 0 0 0 0 0 0 0 (.slice none 0 0) (.slice none 0 0)
  have z0 := lay_size w 36 0 0 0 0 0 0 0 0 0 (.slice none 0 0) (.slice none 0 0)
  have h0 := h.below b0
  go_enter Try.func12, Try.ntmps12
  go_wp2_with fail
  change Calls Try.prog _ _ (lay (lay w 36 0 0 0 0 0 0 0 0 0 (.slice none 0 0) (.slice none 0 0)) 36 0 0 0 0 0 0 0 0 0 (.slice none 0 0) (.slice none 0 0)) _
  generalize lay w 36 0 0 0 0 0 0 0 0 0 (.slice none 0 0) (.slice none 0 0) = w0 at *
  have E0 := lay_dat w0 36 0 0 0 0 0 0 0 0 0 (.slice none 0 0) (.slice none 0 0)
  have b1 := lay_below w0 36 0 0 0 0 0 0 0 0 0 (.slice none 0 0) (.slice none 0 0)
  have z1 := lay_size w0 36 0 0 0 0 0 0 0 0 0 (.slice none 0 0) (.slice none 0 0)
  have h1 := h0.below b1
  have D1 := D0.below b1 D0.lt
  have bb := b0.trans (b1.mono b0.size)
  rw [z0] at E0
  generalize lay w0 36 0 0 0 0 0 0 0 0 0 (.slice none 0 0) (.slice none 0 0) = W at *
  have tr := try_any 29 #[.pointer (some ⟨w.heap.size + 1, 0, none⟩)] a n c l hl (by omega) ha _ h1 (fun x w => entersG x _ w) _ (getF_any _ _ _ E0 l (by omega))
  obtain ⟨X, hX⟩ : ∃ X, w.heap.size = X := ⟨_, rfl⟩
  have HX := Lib.hid hX
  have zW : W.heap.size = X + 2 := by omega
  rw [hX] at E0 D1 tr ⊢
  clear hX D0 b0 b1 z0 z1 h0 h1 h
  refine tr.mono ?_
  clear tr
  rintro x w5 ⟨l', e, w4, rfl, ⟨rfl, p2, f4⟩, hb⟩
  have HE : Hid (endE l' (gtE l) = fuE l) := by
    show _ = _
    unfold fuE
    by_cases hz : gtE l = 0
    · obtain ⟨rfl, _⟩ := p2 hz
      unfold endE
      rw [if_pos hz, orE_0 hz, List.length_drop]
      by_cases h5 : l.length ≤ gS l
      · rw [if_pos h5, if_pos (by omega)]
      · rw [if_neg h5, if_neg (by omega)]
    · unfold endE
      rw [if_neg hz, orE_1 hz]
  rw [HE.out]
  have D5 := (D1.buts f4 (by omega)).but hb (by omega)
  have b5 : Below w.heap.size w w5 := (f4.but hb (.inr (Nat.le_refl _))).onto bb (by have := HX.out; omega) (by rintro k rfl; have := HX.out; omega)
  by_cases ht : fuE l = 0
  · obtain ⟨hz, -⟩ := orE_zero ht
    obtain ⟨_, v, t, sv, ov, ot⟩ := p2 hz
    obtain ⟨av, nv, cv, rfl⟩ : ∃ a n c, v = .slice a n c := by obtain ⟨a, c, h, _⟩ := ov.holds; exact ⟨a, _, c, h⟩
    obtain ⟨at', nt, ct, rfl⟩ : ∃ a n c, t = .slice a n c := by obtain ⟨a, c, h, _⟩ := ot.holds; exact ⟨a, _, c, h⟩
    have E5 := sv.but hb (by omega)
    obtain ⟨c0, c1, c2, c3, c4, c5, c6, c7, c8, c9, c10⟩ := E5.cells
    obtain ⟨x0, x1, x2, x3, x4, x5, x6, x7, x8, x9, x10⟩ := D5.cells
    obtain ⟨y0, y1, y2, y3, y4, y5, y6, y7, y8, y9, y10⟩ := D5.frs
    obtain ⟨fv, fb⟩ := put11_facts (gc l 0) (gc l 1) (gc l 2) (gc l 3) (gc l 4) (gc l 5) (gc l 6) (gr l : Int) (gq l : Int) (.slice av nv cv) (.slice at' nt ct) D5
    have ov6 := (((ov.but hb (by omega)).but fb (by omega)).base (show w.heap.size ≤ _ by have := HX.out; omega))
    have ot6 := (((ot.but hb (by omega)).but fb (by omega)).base (show w.heap.size ≤ _ by have := HX.out; omega))
    have HB := Lib.hid (b5.trans (fb.below (by have := HX.out; omega) b5.size))
    have HT := Lib.hid (And.intro ht (And.intro ov6 ot6))
    rw [ht]
    clear ht hz p2 f4 hb E0 D1 bb sv ov ot E5 D5 b5 HE zW ov6 ot6 fb
    go_wp2_with fail
    change bodyPost _ _ _ _ _ (put11 w5 X (gc l 0) (gc l 1) (gc l 2) (gc l 3) (gc l 4) (gc l 5) (gc l 6) (gr l : Int) (gq l : Int) (.slice av nv cv) (.slice at' nt ct))
    clear c0 c1 c2 c3 c4 c5 c6 c7 c8 c9 c10 x0 x1 x2 x3 x4 x5 x6 x7 x8 x9 x10 y0 y1 y2 y3 y4 y5 y6 y7 y8 y9 y10
    generalize put11 w5 X (gc l 0) (gc l 1) (gc l 2) (gc l 3) (gc l 4) (gc l 5) (gc l 6) (gr l : Int) (gq l : Int) (.slice av nv cv) (.slice at' nt ct) = w6 at *
    obtain ⟨c0, c1, c2, c3, c4, c5, c6, c7, c8, c9, c10⟩ := fv.cells
    refine bodyPost_ret (v := .tuple #[gDv l (.slice av nv cv) (.slice at' nt ct), .int .i64 0]) (by simp [gDv, ds, results, Try.results12, go_sem, c0, c1, c2, c3, c4, c5, c6, c7, c8, c9, c10]) rfl ?_
    exact ⟨.inl ⟨HT.out.1, _, _, rfl, HT.out.2.1, HT.out.2.2⟩, HB.out⟩
  · have g5 : (fuE l != 0) = true := by simpa using ht
    obtain ⟨x0, x1, x2, x3, x4, x5, x6, x7, x8, x9, x10⟩ := D5.cells
    obtain ⟨y0, y1, y2, y3, y4, y5, y6, y7, y8, y9, y10⟩ := D5.frs
    obtain ⟨fv, fb⟩ := put11_facts 0 0 0 0 0 0 0 0 0 (.slice none 0 0) (.slice none 0 0) D5
    have HB := Lib.hid (b5.trans (fb.below (by have := HX.out; omega) b5.size))
    have HT := Lib.hid ht
    clear ht p2 f4 hb E0 D1 bb D5 b5 HE zW fb
    generalize hte : fuE l = te at *
    have HTE := Lib.hid hte
    clear hte
    go_wp2_with fail
    change bodyPost _ _ _ _ _ (put11 w5 X 0 0 0 0 0 0 0 0 0 (.slice none 0 0) (.slice none 0 0))
    clear x0 x1 x2 x3 x4 x5 x6 x7 x8 x9 x10 y0 y1 y2 y3 y4 y5 y6 y7 y8 y9 y10
    generalize put11 w5 X 0 0 0 0 0 0 0 0 0 (.slice none 0 0) (.slice none 0 0) = w6 at *
    obtain ⟨c0, c1, c2, c3, c4, c5, c6, c7, c8, c9, c10⟩ := fv.cells
    refine bodyPost_ret (v := .tuple #[ds 0 0 0 0 0 0 0 0 0 (.slice none 0 0) (.slice none 0 0), .int .i64 te]) (by simp [ds, results, Try.results12, go_sem, c0, c1, c2, c3, c4, c5, c6, c7, c8, c9, c10]) rfl ?_
    exact ⟨.inr ⟨by rw [HTE.out]; exact HT.out, by rw [HTE.out]⟩, HB.out⟩
end Go.Proofs.Ytbmbgfmhejahjaa
