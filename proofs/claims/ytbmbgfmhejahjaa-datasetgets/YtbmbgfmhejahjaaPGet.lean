/-
  THE DOCUMENT's Get: the dataset of a text, or what is wrong with it. Condition: at most 10000 bytes.
-/
import Derived.Test.YtbmbgfmhejahjaaPGet0
namespace Go.Proofs.Ytbmbgfmhejahjaa
open Go.RowKit

/-- What the document's Get answers. -/
def PGetA (w w' : World) (l : List UInt8) (x : Ending) : Prop :=
  (fuE l = 0 ∧ ∃ V T, x = .returned (.tuple #[gDv l V T, .int .i64 0]) ∧ Own KU w' w.heap.size V (nums (gVs l)) ∧ Own K64 w' w.heap.size T (gTs l)) ∨ (fuE l ≠ 0 ∧ x = .returned (.tuple #[ds 0 0 0 0 0 0 0 0 0 (.slice none 0 0) (.slice none 0 0), .int .i64 (fuE l)]))
/-- What the loops keep. -/
structure GS (N Z Y : Nat) (k c b t d lf p r q : Int) (v u : Value) (w0 w : World) : Prop where
  x : Dat N (dv 0 0 0 0 0 0 0 0 0 (.slice none 0 0) (.slice none 0 0)) w
  z : Seven Z (nf k c b t d lf p) w
  y : Dat Y (dv k c b t d lf p r q v u) w
  bel : Below w0.heap.size w0 w
section
variable {N Z Y : Nat} {k c b t d lf p r q : Int} {v u v2 : Value} {w0 w w' : World}
theorem GS.over {D : Nat} (h : GS N Z Y k c b t d lf p r q v u w0 w) (hb : Below D w w') (h0 : w0.heap.size ≤ D) (h1 : N < D) (h2 : Z < D) (h3 : Y < D) : GS N Z Y k c b t d lf p r q v u w0 w' :=
  ⟨h.x.below hb h1, h.z.below hb h2, h.y.below hb h3, h.bel.trans (hb.mono h0)⟩
theorem GS.set9 (h : GS N Z Y k c b t d lf p r q v u w0 w) (h0 : w0.heap.size ≤ Y) (h1 : N ≠ Y) (h2 : Z ≠ Y) : GS N Z Y k c b t d lf p r q v2 u w0 (w.setCell ⟨Y, 9, none⟩ v2) :=
  ⟨h.x.but (But.setCell Y 9 w v2) h1, h.z.but (But.setCell Y 9 w v2) h2, h.y.set 9 v2 (by decide) (dv9 k c b t d lf p r q v u v2), h.bel.trans ((But.setCell Y 9 w v2).below h0 h.bel.size)⟩
theorem GS.set10 (h : GS N Z Y k c b t d lf p r q v u w0 w) (h0 : w0.heap.size ≤ Y) (h1 : N ≠ Y) (h2 : Z ≠ Y) : GS N Z Y k c b t d lf p r q v v2 w0 (w.setCell ⟨Y, 10, none⟩ v2) :=
  ⟨h.x.but (But.setCell Y 10 w v2) h1, h.z.but (But.setCell Y 10 w v2) h2, (h.y.set 10 v2 (by decide) (g := upd _ 10 v2) (fun _ => rfl)).ext (fun j hj => dv10 k c b t d lf p r q v u v2 j hj), h.bel.trans ((But.setCell Y 10 w v2).below h0 h.bel.size)⟩
end
theorem wrap_u64_small (m : Nat) (h : m < 18446744073709551616) : IntKind.u64.wrap (m : Int) = m := by rw [IntKind.wrap_u64]; omega
theorem mul_small {r q : Nat} (h1 : r ≤ 1048576) (h2 : q < 65536) : r * q < 68719476736 + 1 := by
  have := Nat.mul_le_mul h1 (Nat.le_of_lt h2)
  omega
theorem wrap_m (m : Nat) (h : m < 68719476737) : IntKind.u64.wrap (m : Int) = m := wrap_u64_small m (by omega)
theorem wrap64_m (m : Nat) (h : m ≤ 16777216) : wrap64 (m : Int) = m := by unfold wrap64; omega

theorem gtA (r : Nat) (h : 1048576 < r) : decide ((r : Int) > 1048576) = true := decide_eq_true (by omega)
theorem gtA' (r : Nat) (h : ¬ 1048576 < r) : decide ((r : Int) > 1048576) = false := decide_eq_false (by omega)
theorem gtB (r : Nat) (h : 1024 < r) : decide ((r : Int) > 1024) = true := decide_eq_true (by omega)
theorem gtB' (r : Nat) (h : ¬ 1024 < r) : decide ((r : Int) > 1024) = false := decide_eq_false (by omega)
theorem gtC (r : Nat) (h : 16777216 < r) : decide ((r : Int) > 16777216) = true := decide_eq_true (by omega)
theorem gtC' (r : Nat) (h : ¬ 16777216 < r) : decide ((r : Int) > 16777216) = false := decide_eq_false (by omega)
theorem beqZ (r : Nat) (h : r = 0) : ((r : Int) == 0) = true := by simp; exact h
theorem beqZ' (r : Nat) (h : ¬ r = 0) : ((r : Int) == 0) = false := by simp; exact h
theorem eR_4 (r : Nat) (h1 : 1048576 < r) : eR (r : Int) = 4 := by unfold eR; rw [if_neg (by omega), if_pos (by omega)]
theorem eR_0 (r : Nat) (h0 : ¬ r = 0) (h1 : ¬ 1048576 < r) : eR (r : Int) = 0 := by unfold eR; rw [if_neg (by omega), if_neg (by omega)]
theorem eC_4 (r q : Nat) (h1 : 1024 < q) : eC (r : Int) (q : Int) = 4 := by unfold eC; rw [if_neg (by omega), if_pos (by omega)]
theorem eC_4' (r q m : Nat) (h0 : ¬ q = 0) (h1 : ¬ 1024 < q) (hm : r * q = m) (h2 : 16777216 < m) : eC (r : Int) (q : Int) = 4 := by
  unfold eC; rw [← Int.natCast_mul, hm, if_neg (by omega), if_neg (by omega), if_pos (by omega)]
theorem eC_0 (r q m : Nat) (h0 : ¬ q = 0) (h1 : ¬ 1024 < q) (hm : r * q = m) (h2 : ¬ 16777216 < m) : eC (r : Int) (q : Int) = 0 := by
  unfold eC; rw [← Int.natCast_mul, hm, if_neg (by omega), if_neg (by omega), if_neg (by omega)]
theorem wrap_u64_m (r q m : Nat) (hr : r ≤ 1048576) (hq : q < 65536) (hm : r * q = m) : IntKind.u64.wrap ((r : Int) * (q : Int)) = (m : Int) := by
  rw [← Int.natCast_mul, hm]; exact wrap_m m (by rw [← hm]; exact mul_small hr hq)
theorem wrap64_m' (r q m : Nat) (hm : r * q = m) (h2 : ¬ 16777216 < m) : wrap64 ((r : Int) * (q : Int)) = (m : Int) := by
  rw [← Int.natCast_mul, hm]; exact wrap64_m m (by omega)
theorem lt_cast {j m : Nat} (h : j < m) : (j : Int) < (m : Int) := Int.ofNat_lt.2 h
theorem nlt_cast {j m : Nat} (h : ¬ j < m) : ¬ (j : Int) < (m : Int) := fun k => h (Int.ofNat_lt.1 k)
theorem step_A {A j n : Nat} (h : A = 24 + 8 * j ∧ A ≤ n) (h8 : ¬ n < A + 8) : A + 8 = 24 + 8 * (j + 1) ∧ A + 8 ≤ n := by omega
theorem len_A {L n A j : Nat} (hL : L = n - 24) (h : A = 24 + 8 * j ∧ A ≤ n) : L - 8 * j = n - A := by omega
theorem j_small {A j n : Nat} (h : A = 24 + 8 * j ∧ A ≤ n) (hn : n ≤ 10000) : j ≤ 10000 := by omega
theorem room_app {x j : Nat} (h : x = j) (hj : j ≤ 10000) : x + 1 ≤ 1048576 := by omega
theorem step_w {j m : Nat} (h : j < m) (hm : m ≤ 16777216) : wrap64 ((j : Int) + 1) = ((j + 1 : Nat) : Int) := by unfold wrap64; omega
theorem meas_lt {j m : Nat} (h : j < m) (hm : m ≤ 16777216) : m - (intOf (Value.int IntKind.i64 (wrap64 ((j : Int) + 1)))).toNat < m - (intOf (Value.int IntKind.i64 (j : Int))).toNat := by
  rw [step_w h hm]; simp [intOf]; omega
theorem len_T {L n A j i : Nat} (hL : L = n - (24 + 8 * j)) (h : A = 24 + 8 * j + 8 * i ∧ A ≤ n) : L - 8 * i = n - A := by omega
theorem not_short {L n A : Nat} (hL : L = n - A) (h8 : ¬ n < A + 8) : ¬ L < 8 := by omega
theorem i_small {A j i n : Nat} (h : A = 24 + 8 * j + 8 * i ∧ A ≤ n) (hn : n ≤ 10000) : i ≤ 10000 := by omega
theorem step_T {A j i n : Nat} (h : A = 24 + 8 * j + 8 * i ∧ A ≤ n) (h8 : ¬ n < A + 8) : A + 8 = 24 + 8 * j + 8 * (i + 1) ∧ A + 8 ≤ n := by omega
theorem big_n {n : Nat} (hn : n ≤ 10000) : n ≤ 1048576 := by omega

set_option maxRecDepth 20000 in
set_option maxHeartbeats 16000000 in
theorem pget_any (l : List UInt8) (hl : l.length ≤ 10000) (w : World) :
    Calls Try.prog 15 #[.string (sb l)] w fun e w' => PGetA w w' l e ∧ Below w.heap.size w w' := by
  have HF : Hid (∀ w' E, E ≠ 0 → fuE l = E → PGetA w w' l (.returned (.tuple #[ds 0 0 0 0 0 0 0 0 0 (.slice none 0 0) (.slice none 0 0), .int .i64 E]))) := fun w' E h1 h2 => .inr ⟨by rw [h2]; exact h1, by rw [h2]⟩
  have HF2 : Hid (∀ w' E, E ≠ 0 → gtE l = E → PGetA w w' l (.returned (.tuple #[ds 0 0 0 0 0 0 0 0 0 (.slice none 0 0) (.slice none 0 0), .int .i64 E]))) := fun w' E h1 h2 => HF.out w' E h1 (by unfold fuE; rw [h2, orE_1 h1])
  have HOK : Hid (∀ w' V T, fuE l = 0 → Own KU w' w.heap.size V (nums (gVs l)) → Own K64 w' w.heap.size T (gTs l) → PGetA w w' l (.returned (.tuple #[gDv l V T, .int .i64 0]))) := fun w' V T h1 h2 h3 => .inl ⟨h1, V, T, rfl, h2, h3⟩
  have X0 := lay_dat w 27 0 0 0 0 0 0 0 0 0 (.slice none 0 0) (.slice none 0 0)
  have bel0 := lay_below w 27 0 0 0 0 0 0 0 0 0 (.slice none 0 0) (.slice none 0 0)
  have hs := sb_size l
  go_enter Try.func15, Try.ntmps15
  go_upto_region 1 with fail
  change Code.wp _ _ _ _ (lay w 27 0 0 0 0 0 0 0 0 0 (.slice none 0 0) (.slice none 0 0))
  generalize lay w 27 0 0 0 0 0 0 0 0 0 (.slice none 0 0) (.slice none 0 0) = w0 at *
  obtain ⟨N, hN⟩ : ∃ N, w.heap.size = N := ⟨_, rfl⟩
  have HN := Lib.hid hN
  rw [hN] at X0 ⊢
  clear hN
  by_cases h4 : l.length < 4
  · have HE : Hid (gtE l = 2) := if_pos h4
    have g : ((sb l).size : Int) < 4 := by omega
    clear h4
    obtain ⟨x0, x1, x2, x3, x4, x5, x6, x7, x8, x9, x10⟩ := X0.cells
    obtain ⟨y0, y1, y2, y3, y4, y5, y6, y7, y8, y9, y10⟩ := X0.frs
    obtain ⟨fv, fb⟩ := put11_facts 0 0 0 0 0 0 0 0 0 (.slice none 0 0) (.slice none 0 0) X0
    have HB := Lib.hid (bel0.trans (fb.below (Nat.le_of_eq HN.out) bel0.size))
    clear X0 bel0 fb 
    go_wp2_with fail
    change bodyPost _ _ _ _ _ (put11 w0 N 0 0 0 0 0 0 0 0 0 (.slice none 0 0) (.slice none 0 0))
    clear x0 x1 x2 x3 x4 x5 x6 x7 x8 x9 x10 y0 y1 y2 y3 y4 y5 y6 y7 y8 y9 y10
    generalize put11 w0 N 0 0 0 0 0 0 0 0 0 (.slice none 0 0) (.slice none 0 0) = w99 at *
    obtain ⟨c0, c1, c2, c3, c4, c5, c6, c7, c8, c9, c10⟩ := fv.cells
    refine bodyPost_ret (v := .tuple #[ds 0 0 0 0 0 0 0 0 0 (.slice none 0 0) (.slice none 0 0), .int .i64 2]) (by simp [ds, results, Try.results15, go_sem, c0, c1, c2, c3, c4, c5, c6, c7, c8, c9, c10]) rfl ?_
    exact ⟨HF2.out _ 2 (by decide) HE.out, HB.out⟩
  have HE1 : Hid (gtE l = if l.take 4 = hB then gE2 l else 3) := if_neg h4
  have g : ¬ ((sb l).size : Int) < 4 := by omega
  have hst : ∀ w : World, (Instr.slice 9 (.string (sb l)) none (some (.int .i64 4)) none).run Try.prog w = .ok (.string (sb (l.take 4))) w := fun w => sb_take l 4 w (by omega)
  have hsd : ∀ w : World, (Instr.slice 9 (.string (sb l)) (some (.int .i64 4)) none none).run Try.prog w = .ok (.string (sb (l.drop 4))) w := fun w => sb_drop l 4 w (by omega)
  have HS := Lib.hid hs
  clear h4 hs
  by_cases hm : l.take 4 = hB
  case neg =>
    have HE : Hid (gtE l = 3) := HE1.out.trans (if_neg hm)
    have g2 : ((sb (l.take 4)).toList == [72, 79, 82, 78]) = false := by rw [sb_toList]; exact beq_false_of_ne hm
    clear hm
    obtain ⟨x0, x1, x2, x3, x4, x5, x6, x7, x8, x9, x10⟩ := X0.cells
    obtain ⟨y0, y1, y2, y3, y4, y5, y6, y7, y8, y9, y10⟩ := X0.frs
    obtain ⟨fv, fb⟩ := put11_facts 0 0 0 0 0 0 0 0 0 (.slice none 0 0) (.slice none 0 0) X0
    have HB := Lib.hid (bel0.trans (fb.below (Nat.le_of_eq HN.out) bel0.size))
    clear X0 bel0 fb 
    go_wp2_with fail
    change bodyPost _ _ _ _ _ (put11 w0 N 0 0 0 0 0 0 0 0 0 (.slice none 0 0) (.slice none 0 0))
    clear x0 x1 x2 x3 x4 x5 x6 x7 x8 x9 x10 y0 y1 y2 y3 y4 y5 y6 y7 y8 y9 y10
    generalize put11 w0 N 0 0 0 0 0 0 0 0 0 (.slice none 0 0) (.slice none 0 0) = w99 at *
    obtain ⟨c0, c1, c2, c3, c4, c5, c6, c7, c8, c9, c10⟩ := fv.cells
    refine bodyPost_ret (v := .tuple #[ds 0 0 0 0 0 0 0 0 0 (.slice none 0 0) (.slice none 0 0), .int .i64 3]) (by simp [ds, results, Try.results15, go_sem, c0, c1, c2, c3, c4, c5, c6, c7, c8, c9, c10]) rfl ?_
    exact ⟨HF2.out _ 3 (by decide) HE.out, HB.out⟩
  case pos =>
  have HE2 : Hid (gtE l = gE2 l) := HE1.out.trans (if_pos hm)
  have g2 : ((sb (l.take 4)).toList == [72, 79, 82, 78]) = true := by rw [sb_toList, hm]; rfl
  clear hm HE1
  by_cases h18 : l.length < 18
  case pos =>
    have HE : Hid (gtE l = 2) := HE2.out.trans (if_pos h18)
    have hg := refCGet_short (l.drop 4) (by rw [List.length_drop]; omega) w0
    unfold cf at hg
    clear h18
    go_wp2_with fail
    refine hg.mono ?_
    rintro e w1 ⟨rfl, b1⟩
    have b2 := zerW_below w1 23
    have X2 := (X0.below b1 X0.lt).below b2 (X0.below b1 X0.lt).lt
    have bel2 := (bel0.trans (b1.mono bel0.size)).trans (b2.mono (bel0.trans (b1.mono bel0.size)).size)
    clear b1 b2 X0 bel0 hg
    go_upto_region 6 with fail
    change Code.wp _ _ _ _ (zerW w1 23)
    generalize zerW w1 23 = w2 at *
    obtain ⟨x0, x1, x2, x3, x4, x5, x6, x7, x8, x9, x10⟩ := X2.cells
    obtain ⟨y0, y1, y2, y3, y4, y5, y6, y7, y8, y9, y10⟩ := X2.frs
    obtain ⟨fv, fb⟩ := put11_facts 0 0 0 0 0 0 0 0 0 (.slice none 0 0) (.slice none 0 0) X2
    have HB := Lib.hid (bel2.trans (fb.below (Nat.le_of_eq HN.out) bel2.size))
    clear X2 bel2 fb 
    go_wp2_with fail
    change bodyPost _ _ _ _ _ (put11 w2 N 0 0 0 0 0 0 0 0 0 (.slice none 0 0) (.slice none 0 0))
    clear x0 x1 x2 x3 x4 x5 x6 x7 x8 x9 x10 y0 y1 y2 y3 y4 y5 y6 y7 y8 y9 y10
    generalize put11 w2 N 0 0 0 0 0 0 0 0 0 (.slice none 0 0) (.slice none 0 0) = w99 at *
    obtain ⟨c0, c1, c2, c3, c4, c5, c6, c7, c8, c9, c10⟩ := fv.cells
    refine bodyPost_ret (v := .tuple #[ds 0 0 0 0 0 0 0 0 0 (.slice none 0 0) (.slice none 0 0), .int .i64 2]) (by simp [ds, results, Try.results15, go_sem, c0, c1, c2, c3, c4, c5, c6, c7, c8, c9, c10]) rfl ?_
    exact ⟨HF2.out _ 2 (by decide) HE.out, HB.out⟩
  case neg =>
  have HE3 : Hid (gtE l = orE (gE (l.drop 4)) (gE3 l)) := HE2.out.trans (if_neg h18)
  have hg := refCGet_any (l.drop 4) (by rw [List.length_drop]; omega) (by rw [List.length_drop]; omega) w0
  clear HE2
  by_cases hz : gE (l.drop 4) = 0
  case neg =>
    have HE : Hid (gtE l = gE (l.drop 4)) := HE3.out.trans (orE_1 hz)
    rw [show gV (l.drop 4) = cf 0 0 0 0 0 0 0 from if_neg hz] at hg
    unfold cf at hg
    have g3 : (gE (l.drop 4) != 0) = true := by simpa using hz
    have HZ := Lib.hid hz
    clear hz h18
    generalize gE (l.drop 4) = E at *
    go_wp2_with fail
    refine hg.mono ?_
    rintro e w1 ⟨rfl, b1⟩
    have b2 := zerW_below w1 23
    have X2 := (X0.below b1 X0.lt).below b2 (X0.below b1 X0.lt).lt
    have bel2 := (bel0.trans (b1.mono bel0.size)).trans (b2.mono (bel0.trans (b1.mono bel0.size)).size)
    clear b1 b2 X0 bel0 hg
    go_upto_region 6 with fail
    change Code.wp _ _ _ _ (zerW w1 23)
    generalize zerW w1 23 = w2 at *
    obtain ⟨x0, x1, x2, x3, x4, x5, x6, x7, x8, x9, x10⟩ := X2.cells
    obtain ⟨y0, y1, y2, y3, y4, y5, y6, y7, y8, y9, y10⟩ := X2.frs
    obtain ⟨fv, fb⟩ := put11_facts 0 0 0 0 0 0 0 0 0 (.slice none 0 0) (.slice none 0 0) X2
    have HB := Lib.hid (bel2.trans (fb.below (Nat.le_of_eq HN.out) bel2.size))
    clear X2 bel2 fb 
    go_wp2_with fail
    change bodyPost _ _ _ _ _ (put11 w2 N 0 0 0 0 0 0 0 0 0 (.slice none 0 0) (.slice none 0 0))
    clear x0 x1 x2 x3 x4 x5 x6 x7 x8 x9 x10 y0 y1 y2 y3 y4 y5 y6 y7 y8 y9 y10
    generalize put11 w2 N 0 0 0 0 0 0 0 0 0 (.slice none 0 0) (.slice none 0 0) = w99 at *
    obtain ⟨c0, c1, c2, c3, c4, c5, c6, c7, c8, c9, c10⟩ := fv.cells
    refine bodyPost_ret (v := .tuple #[ds 0 0 0 0 0 0 0 0 0 (.slice none 0 0) (.slice none 0 0), .int .i64 E]) (by simp [ds, results, Try.results15, go_sem, c0, c1, c2, c3, c4, c5, c6, c7, c8, c9, c10]) rfl ?_
    exact ⟨HF2.out _ E HZ.out HE.out, HB.out⟩
  case pos =>
  have HE4 : Hid (gtE l = gE3 l) := HE3.out.trans (orE_0 hz)
  have hck : chk (gN (l.drop 4) 0) (gN (l.drop 4) 1) (gN (l.drop 4) 2) (gN (l.drop 4) 3) (gN (l.drop 4) 4) (gN (l.drop 4) 5) (gN (l.drop 4) 6) = 0 := hz
  rw [show gV (l.drop 4) = cf (gN (l.drop 4) 0) (gN (l.drop 4) 1) (gN (l.drop 4) 2) (gN (l.drop 4) 3) (gN (l.drop 4) 4) (gN (l.drop 4) 5) (gN (l.drop 4) 6) from if_pos hz, hz] at hg
  clear hz HE3
  generalize hg0 : gN (l.drop 4) 0 = k at *
  have N0 : Hid (gc l 0 = k) := hg0
  clear hg0
  generalize hg1 : gN (l.drop 4) 1 = c at *
  have N1 : Hid (gc l 1 = c) := hg1
  clear hg1
  generalize hg2 : gN (l.drop 4) 2 = b at *
  have N2 : Hid (gc l 2 = b) := hg2
  clear hg2
  generalize hg3 : gN (l.drop 4) 3 = t at *
  have N3 : Hid (gc l 3 = t) := hg3
  clear hg3
  generalize hg4 : gN (l.drop 4) 4 = d at *
  have N4 : Hid (gc l 4 = d) := hg4
  clear hg4
  generalize hg5 : gN (l.drop 4) 5 = lf at *
  have N5 : Hid (gc l 5 = lf) := hg5
  clear hg5
  generalize hg6 : gN (l.drop 4) 6 = p at *
  have N6 : Hid (gc l 6 = p) := hg6
  clear hg6
  have hk := (chk_ok hck).1
  have HLl := Lib.hid hl
  clear hck hl
  unfold cf at hg
  go_wp2_with fail
  refine hg.mono ?_
  rintro e w1 ⟨rfl, b1⟩
  have X1 := X0.below b1 X0.lt
  have bel1 := bel0.trans (b1.mono bel0.size)
  clear hg b1 X0 bel0 g g2 hst hsd
  have Z2 := Seven.new k c b t d lf p w1 23
  have b2 := (Below.refl w1.heap.size w1).alloc (Nat.le_refl _) (.cells #[.int .i64 k, .int .i64 c, .int .i64 b, .int .i64 t, .int .i64 d, .int .i64 lf, .int .i64 p] 23)
  have X2 := X1.below b2 X1.lt
  have bel2 := bel1.trans (b2.mono bel1.size)
  have Y3 := lay_dat (w1.alloc (.cells #[.int .i64 k, .int .i64 c, .int .i64 b, .int .i64 t, .int .i64 d, .int .i64 lf, .int .i64 p] 23)) 27 k c b t d lf p 0 0 (.slice none 0 0) (.slice none 0 0)
  have b3 := lay_below (w1.alloc (.cells #[.int .i64 k, .int .i64 c, .int .i64 b, .int .i64 t, .int .i64 d, .int .i64 lf, .int .i64 p] 23)) 27 k c b t d lf p 0 0 (.slice none 0 0) (.slice none 0 0)
  have z3 : (w1.alloc (.cells #[.int .i64 k, .int .i64 c, .int .i64 b, .int .i64 t, .int .i64 d, .int .i64 lf, .int .i64 p] 23)).heap.size = w1.heap.size + 1 := by simp
  have G3 : GS N w1.heap.size (w1.alloc (.cells #[.int .i64 k, .int .i64 c, .int .i64 b, .int .i64 t, .int .i64 d, .int .i64 lf, .int .i64 p] 23)).heap.size k c b t d lf p 0 0 (.slice none 0 0) (.slice none 0 0) w (lay (w1.alloc (.cells #[.int .i64 k, .int .i64 c, .int .i64 b, .int .i64 t, .int .i64 d, .int .i64 lf, .int .i64 p] 23)) 27 k c b t d lf p 0 0 (.slice none 0 0) (.slice none 0 0)) :=
    ⟨X2.below b3 X2.lt, Z2.below b3 Z2.1, Y3, bel2.trans (b3.mono bel2.size)⟩
  rw [z3] at G3
  have hNZ : N < w1.heap.size := X1.lt
  clear X1 bel1 Z2 b2 X2 bel2 Y3 b3 z3
  go_wp2_with fail
  change Calls Try.prog _ _ (lay (w1.alloc (.cells #[.int .i64 k, .int .i64 c, .int .i64 b, .int .i64 t, .int .i64 d, .int .i64 lf, .int .i64 p] 23)) 27 k c b t d lf p 0 0 (.slice none 0 0) (.slice none 0 0)) _
  generalize lay (w1.alloc (.cells #[.int .i64 k, .int .i64 c, .int .i64 b, .int .i64 t, .int .i64 d, .int .i64 lf, .int .i64 p] 23)) 27 k c b t d lf p 0 0 (.slice none 0 0) (.slice none 0 0) = w3 at *
  generalize w1.heap.size = Z at *
  obtain ⟨Y, hY⟩ : ∃ Y, Z + 1 = Y := ⟨_, rfl⟩
  have hZY : Z < Y := by rw [← hY]; exact Nat.lt_succ_self Z
  have hNY : N < Y := Nat.lt_trans hNZ hZY
  rw [hY] at G3 ⊢
  clear hY
  have hwY : w.heap.size ≤ Y := by rw [HN.out]; exact Nat.le_of_lt hNY
  by_cases h22 : l.length < 22
  case pos =>
    have HE : Hid (gtE l = 2) := HE4.out.trans (if_pos h22)
    have n2 : Calls Try.prog 32 #[.string (sb l), .int .i64 18, .int .i64 4] w3 fun e w' => e = .returned (.tuple #[.int .u64 0, .int .i64 18, .bool false]) ∧ w' = w3 := refGet_none l 18 4 (by omega) h22 (by have := HLl.out; omega) w3
    refine n2.mono ?_
    rintro e w4 ⟨rfl, rfl⟩
    have X4 := G3.x
    have bel4 := G3.bel
    clear n2 G3 h22 h18
    obtain ⟨x0, x1, x2, x3, x4, x5, x6, x7, x8, x9, x10⟩ := X4.cells
    obtain ⟨y0, y1, y2, y3, y4, y5, y6, y7, y8, y9, y10⟩ := X4.frs
    obtain ⟨fv, fb⟩ := put11_facts 0 0 0 0 0 0 0 0 0 (.slice none 0 0) (.slice none 0 0) X4
    have HB := Lib.hid (bel4.trans (fb.below (Nat.le_of_eq HN.out) bel4.size))
    clear X4 bel4 fb 
    go_wp2_with fail
    change bodyPost _ _ _ _ _ (put11 w4 N 0 0 0 0 0 0 0 0 0 (.slice none 0 0) (.slice none 0 0))
    clear x0 x1 x2 x3 x4 x5 x6 x7 x8 x9 x10 y0 y1 y2 y3 y4 y5 y6 y7 y8 y9 y10
    generalize put11 w4 N 0 0 0 0 0 0 0 0 0 (.slice none 0 0) (.slice none 0 0) = w99 at *
    obtain ⟨c0, c1, c2, c3, c4, c5, c6, c7, c8, c9, c10⟩ := fv.cells
    refine bodyPost_ret (v := .tuple #[ds 0 0 0 0 0 0 0 0 0 (.slice none 0 0) (.slice none 0 0), .int .i64 2]) (by simp [ds, results, Try.results15, go_sem, c0, c1, c2, c3, c4, c5, c6, c7, c8, c9, c10]) rfl ?_
    exact ⟨HF2.out _ 2 (by decide) HE.out, HB.out⟩
  case neg =>
  have HE5 : Hid (gtE l = orE (eR (gr l)) (gE4 l)) := HE4.out.trans (if_neg h22)
  have n2 : Calls Try.prog 32 #[.string (sb l), .int .i64 18, .int .i64 4] w3 fun e w' => e = .returned (.tuple #[.int .u64 (num ((l.drop 18).take 4) : Int), .int .i64 22, .bool true]) ∧ w' = w3 := refGet_some l 18 4 (by show 22 ≤ _; omega) (by have := HLl.out; omega) w3
  have hr32 := num_small (l.drop 18) 4 (by decide)
  have HGR : Hid (gr l = num ((l.drop 18).take 4)) := rfl
  generalize num ((l.drop 18).take 4) = r at *
  rw [HGR.out] at HE5
  refine n2.mono ?_
  rintro e w4 ⟨rfl, rfl⟩
  clear n2 HE4 h18
  by_cases hr0 : r = 0
  case pos =>
    have HE : Hid (gtE l = 3) := HE5.out.trans (by rw [hr0]; rfl)
    have g3 := beqZ r hr0
    have X4 := G3.x
    have bel4 := G3.bel
    clear G3 hr0
    obtain ⟨x0, x1, x2, x3, x4, x5, x6, x7, x8, x9, x10⟩ := X4.cells
    obtain ⟨y0, y1, y2, y3, y4, y5, y6, y7, y8, y9, y10⟩ := X4.frs
    obtain ⟨fv, fb⟩ := put11_facts 0 0 0 0 0 0 0 0 0 (.slice none 0 0) (.slice none 0 0) X4
    have HB := Lib.hid (bel4.trans (fb.below (Nat.le_of_eq HN.out) bel4.size))
    clear X4 bel4 fb 
    go_wp2_with fail
    change bodyPost _ _ _ _ _ (put11 w4 N 0 0 0 0 0 0 0 0 0 (.slice none 0 0) (.slice none 0 0))
    clear x0 x1 x2 x3 x4 x5 x6 x7 x8 x9 x10 y0 y1 y2 y3 y4 y5 y6 y7 y8 y9 y10
    generalize put11 w4 N 0 0 0 0 0 0 0 0 0 (.slice none 0 0) (.slice none 0 0) = w99 at *
    obtain ⟨c0, c1, c2, c3, c4, c5, c6, c7, c8, c9, c10⟩ := fv.cells
    refine bodyPost_ret (v := .tuple #[ds 0 0 0 0 0 0 0 0 0 (.slice none 0 0) (.slice none 0 0), .int .i64 3]) (by simp [ds, results, Try.results15, go_sem, c0, c1, c2, c3, c4, c5, c6, c7, c8, c9, c10]) rfl ?_
    exact ⟨HF2.out _ 3 (by decide) HE.out, HB.out⟩
  case neg =>
  have g3 := beqZ' r hr0
  by_cases hr1 : 1048576 < r
  case pos =>
    have HE : Hid (gtE l = 4) := HE5.out.trans (by rw [eR_4 r hr1]; rfl)
    have g4 := gtA r hr1
    have X4 := G3.x
    have bel4 := G3.bel
    clear G3 hr1 hr0
    obtain ⟨x0, x1, x2, x3, x4, x5, x6, x7, x8, x9, x10⟩ := X4.cells
    obtain ⟨y0, y1, y2, y3, y4, y5, y6, y7, y8, y9, y10⟩ := X4.frs
    obtain ⟨fv, fb⟩ := put11_facts 0 0 0 0 0 0 0 0 0 (.slice none 0 0) (.slice none 0 0) X4
    have HB := Lib.hid (bel4.trans (fb.below (Nat.le_of_eq HN.out) bel4.size))
    clear X4 bel4 fb 
    go_wp2_with fail
    change bodyPost _ _ _ _ _ (put11 w4 N 0 0 0 0 0 0 0 0 0 (.slice none 0 0) (.slice none 0 0))
    clear x0 x1 x2 x3 x4 x5 x6 x7 x8 x9 x10 y0 y1 y2 y3 y4 y5 y6 y7 y8 y9 y10
    generalize put11 w4 N 0 0 0 0 0 0 0 0 0 (.slice none 0 0) (.slice none 0 0) = w99 at *
    obtain ⟨c0, c1, c2, c3, c4, c5, c6, c7, c8, c9, c10⟩ := fv.cells
    refine bodyPost_ret (v := .tuple #[ds 0 0 0 0 0 0 0 0 0 (.slice none 0 0) (.slice none 0 0), .int .i64 4]) (by simp [ds, results, Try.results15, go_sem, c0, c1, c2, c3, c4, c5, c6, c7, c8, c9, c10]) rfl ?_
    exact ⟨HF2.out _ 4 (by decide) HE.out, HB.out⟩
  case neg =>
  have g4 := gtA' r hr1
  have HE6 : Hid (gtE l = gE4 l) := HE5.out.trans (orE_0 (eR_0 r hr0 hr1))
  have hrl : r ≤ 1048576 := Nat.le_of_not_lt hr1
  clear HE5 hr0 hr1
  by_cases h24 : l.length < 24
  case pos =>
    have HE : Hid (gtE l = 2) := HE6.out.trans (if_pos h24)
    have n2 : Calls Try.prog 32 #[.string (sb l), .int .i64 22, .int .i64 2] w4 fun e w' => e = .returned (.tuple #[.int .u64 0, .int .i64 22, .bool false]) ∧ w' = w4 := refGet_none l 22 2 (by omega) h24 (by have := HLl.out; omega) w4
    clear h24 h22
    go_wp2_with fail
    refine n2.mono ?_
    rintro e w5 ⟨rfl, rfl⟩
    have X4 := G3.x
    have bel4 := G3.bel
    clear n2 G3
    obtain ⟨x0, x1, x2, x3, x4, x5, x6, x7, x8, x9, x10⟩ := X4.cells
    obtain ⟨y0, y1, y2, y3, y4, y5, y6, y7, y8, y9, y10⟩ := X4.frs
    obtain ⟨fv, fb⟩ := put11_facts 0 0 0 0 0 0 0 0 0 (.slice none 0 0) (.slice none 0 0) X4
    have HB := Lib.hid (bel4.trans (fb.below (Nat.le_of_eq HN.out) bel4.size))
    clear X4 bel4 fb 
    go_wp2_with fail
    change bodyPost _ _ _ _ _ (put11 w5 N 0 0 0 0 0 0 0 0 0 (.slice none 0 0) (.slice none 0 0))
    clear x0 x1 x2 x3 x4 x5 x6 x7 x8 x9 x10 y0 y1 y2 y3 y4 y5 y6 y7 y8 y9 y10
    generalize put11 w5 N 0 0 0 0 0 0 0 0 0 (.slice none 0 0) (.slice none 0 0) = w99 at *
    obtain ⟨c0, c1, c2, c3, c4, c5, c6, c7, c8, c9, c10⟩ := fv.cells
    refine bodyPost_ret (v := .tuple #[ds 0 0 0 0 0 0 0 0 0 (.slice none 0 0) (.slice none 0 0), .int .i64 2]) (by simp [ds, results, Try.results15, go_sem, c0, c1, c2, c3, c4, c5, c6, c7, c8, c9, c10]) rfl ?_
    exact ⟨HF2.out _ 2 (by decide) HE.out, HB.out⟩
  case neg =>
  have HE7 : Hid (gtE l = orE (eC (gr l) (gq l)) (gE5 l)) := HE6.out.trans (if_neg h24)
  have n2 : Calls Try.prog 32 #[.string (sb l), .int .i64 22, .int .i64 2] w4 fun e w' => e = .returned (.tuple #[.int .u64 (num ((l.drop 22).take 2) : Int), .int .i64 24, .bool true]) ∧ w' = w4 := refGet_some l 22 2 (by show 24 ≤ _; omega) (by have := HLl.out; omega) w4
  have hq16 := num_two (l.drop 22)
  have HGQ : Hid (gq l = num ((l.drop 22).take 2)) := rfl
  generalize num ((l.drop 22).take 2) = q at *
  rw [HGR.out, HGQ.out] at HE7
  have hl24 : 24 ≤ l.length := by omega
  clear h24 h22 HE6
  go_wp2_with fail
  refine n2.mono ?_
  rintro e w5 ⟨rfl, rfl⟩
  clear n2 g3 g4
  by_cases hq0 : q = 0
  case pos =>
    have HE : Hid (gtE l = 3) := HE7.out.trans (by rw [hq0]; rfl)
    have g5 := beqZ q hq0
    have X4 := G3.x
    have bel4 := G3.bel
    clear G3 hq0
    obtain ⟨x0, x1, x2, x3, x4, x5, x6, x7, x8, x9, x10⟩ := X4.cells
    obtain ⟨y0, y1, y2, y3, y4, y5, y6, y7, y8, y9, y10⟩ := X4.frs
    obtain ⟨fv, fb⟩ := put11_facts 0 0 0 0 0 0 0 0 0 (.slice none 0 0) (.slice none 0 0) X4
    have HB := Lib.hid (bel4.trans (fb.below (Nat.le_of_eq HN.out) bel4.size))
    clear X4 bel4 fb 
    go_wp2_with fail
    change bodyPost _ _ _ _ _ (put11 w5 N 0 0 0 0 0 0 0 0 0 (.slice none 0 0) (.slice none 0 0))
    clear x0 x1 x2 x3 x4 x5 x6 x7 x8 x9 x10 y0 y1 y2 y3 y4 y5 y6 y7 y8 y9 y10
    generalize put11 w5 N 0 0 0 0 0 0 0 0 0 (.slice none 0 0) (.slice none 0 0) = w99 at *
    obtain ⟨c0, c1, c2, c3, c4, c5, c6, c7, c8, c9, c10⟩ := fv.cells
    refine bodyPost_ret (v := .tuple #[ds 0 0 0 0 0 0 0 0 0 (.slice none 0 0) (.slice none 0 0), .int .i64 3]) (by simp [ds, results, Try.results15, go_sem, c0, c1, c2, c3, c4, c5, c6, c7, c8, c9, c10]) rfl ?_
    exact ⟨HF2.out _ 3 (by decide) HE.out, HB.out⟩
  case neg =>
  have g5 := beqZ' q hq0
  by_cases hq1 : 1024 < q
  case pos =>
    have HE : Hid (gtE l = 4) := HE7.out.trans (by rw [eC_4 r q hq1]; rfl)
    have g6 := gtB q hq1
    have X4 := G3.x
    have bel4 := G3.bel
    clear G3 hq1 hq0
    obtain ⟨x0, x1, x2, x3, x4, x5, x6, x7, x8, x9, x10⟩ := X4.cells
    obtain ⟨y0, y1, y2, y3, y4, y5, y6, y7, y8, y9, y10⟩ := X4.frs
    obtain ⟨fv, fb⟩ := put11_facts 0 0 0 0 0 0 0 0 0 (.slice none 0 0) (.slice none 0 0) X4
    have HB := Lib.hid (bel4.trans (fb.below (Nat.le_of_eq HN.out) bel4.size))
    clear X4 bel4 fb 
    go_wp2_with fail
    change bodyPost _ _ _ _ _ (put11 w5 N 0 0 0 0 0 0 0 0 0 (.slice none 0 0) (.slice none 0 0))
    clear x0 x1 x2 x3 x4 x5 x6 x7 x8 x9 x10 y0 y1 y2 y3 y4 y5 y6 y7 y8 y9 y10
    generalize put11 w5 N 0 0 0 0 0 0 0 0 0 (.slice none 0 0) (.slice none 0 0) = w99 at *
    obtain ⟨c0, c1, c2, c3, c4, c5, c6, c7, c8, c9, c10⟩ := fv.cells
    refine bodyPost_ret (v := .tuple #[ds 0 0 0 0 0 0 0 0 0 (.slice none 0 0) (.slice none 0 0), .int .i64 4]) (by simp [ds, results, Try.results15, go_sem, c0, c1, c2, c3, c4, c5, c6, c7, c8, c9, c10]) rfl ?_
    exact ⟨HF2.out _ 4 (by decide) HE.out, HB.out⟩
  case neg =>
  have g6 := gtB' q hq1
  obtain ⟨m, hm⟩ : ∃ m, r * q = m := ⟨_, rfl⟩
  have HM := Lib.hid hm
  have wu := wrap_u64_m r q m hrl hq16 hm
  by_cases hm1 : 16777216 < m
  case pos =>
    have HE : Hid (gtE l = 4) := HE7.out.trans (by rw [eC_4' r q m hq0 hq1 hm hm1]; rfl)
    have g7 := gtC m hm1
    have X4 := G3.x
    have bel4 := G3.bel
    clear G3 hq1 hq0 hm hm1
    obtain ⟨x0, x1, x2, x3, x4, x5, x6, x7, x8, x9, x10⟩ := X4.cells
    obtain ⟨y0, y1, y2, y3, y4, y5, y6, y7, y8, y9, y10⟩ := X4.frs
    obtain ⟨fv, fb⟩ := put11_facts 0 0 0 0 0 0 0 0 0 (.slice none 0 0) (.slice none 0 0) X4
    have HB := Lib.hid (bel4.trans (fb.below (Nat.le_of_eq HN.out) bel4.size))
    clear X4 bel4 fb 
    go_wp2_with fail
    change bodyPost _ _ _ _ _ (put11 w5 N 0 0 0 0 0 0 0 0 0 (.slice none 0 0) (.slice none 0 0))
    clear x0 x1 x2 x3 x4 x5 x6 x7 x8 x9 x10 y0 y1 y2 y3 y4 y5 y6 y7 y8 y9 y10
    generalize put11 w5 N 0 0 0 0 0 0 0 0 0 (.slice none 0 0) (.slice none 0 0) = w99 at *
    obtain ⟨c0, c1, c2, c3, c4, c5, c6, c7, c8, c9, c10⟩ := fv.cells
    refine bodyPost_ret (v := .tuple #[ds 0 0 0 0 0 0 0 0 0 (.slice none 0 0) (.slice none 0 0), .int .i64 4]) (by simp [ds, results, Try.results15, go_sem, c0, c1, c2, c3, c4, c5, c6, c7, c8, c9, c10]) rfl ?_
    exact ⟨HF2.out _ 4 (by decide) HE.out, HB.out⟩
  case neg =>
  have g7 := gtC' m hm1
  have HE8 : Hid (gtE l = gE5 l) := HE7.out.trans (orE_0 (eC_0 r q m hq0 hq1 hm hm1))
  have HE9 : Hid (gtE l = orE (itE eV (l.drop 24) m) (itE (eW k c) (l.drop (24 + 8 * m)) r)) := by
    show _ = _
    rw [HE8.out]
    unfold gE5
    rw [HGR.out, HGQ.out, N0.out, N1.out, hm]
  have wm := wrap64_m' r q m hm hm1
  have wr' := wrap_small r hr32
  have wq' := wrap_small q (Nat.lt_trans hq16 (by decide))
  have G5 : GS N Z Y k c b t d lf p (r : Int) (q : Int) (.slice none 0 0) (.slice none 0 0) w ((w5.setCell ⟨Y, 7, none⟩ (.int .i64 (r : Int))).setCell ⟨Y, 8, none⟩ (.int .i64 (q : Int))) := by
    have bA := But.setCell Y 7 w5 (.int .i64 (r : Int))
    have bB := But.setCell Y 8 (w5.setCell ⟨Y, 7, none⟩ (.int .i64 (r : Int))) (.int .i64 (q : Int))
    have yA := G3.y.set 7 (.int .i64 (r : Int)) (by decide) (dv7 k c b t d lf p 0 0 (r : Int) (.slice none 0 0) (.slice none 0 0))
    have yB := yA.set 8 (.int .i64 (q : Int)) (by decide) (dv8 k c b t d lf p (r : Int) 0 (q : Int) (.slice none 0 0) (.slice none 0 0))
    exact ⟨(G3.x.but bA (Nat.ne_of_lt hNY)).but bB (Nat.ne_of_lt hNY), (G3.z.but bA (Nat.ne_of_lt hZY)).but bB (Nat.ne_of_lt hZY), yB, (G3.bel.trans (bA.below hwY G3.bel.size)).trans (bB.below hwY (G3.bel.trans (bA.below hwY G3.bel.size)).size)⟩
  have c7 : w5.cell? ⟨Y, 7, none⟩ = some (.int .i64 0) := G3.y.c 7 (by decide)
  have c8 : w5.cell? ⟨Y, 8, none⟩ = some (.int .i64 0) := G3.y.c 8 (by decide)
  have f7 := G3.y.fr 7 (by decide)
  have f8 := G3.y.fr 8 (by decide)
  have HKK := Lib.hid hk
  have HMB := Lib.hid (Nat.le_of_not_lt hm1)
  have HRL := Lib.hid hrl
  have HLL := Lib.hid hl24
  have HNN := Lib.hid (And.intro hNZ (And.intro hZY (And.intro hNY hwY)))
  clear HE7 HE8 G3 hm hq0 hq1 hm1 hk hrl hl24 hr32 hq16 hNZ hZY hNY hwY
  go_wp2_with fail
  generalize (w5.setCell ⟨Y, 7, none⟩ (.int .i64 (r : Int))).setCell ⟨Y, 8, none⟩ (.int .i64 (q : Int)) = w6 at *
  clear c7 c8 f7 f8 g5 g6 g7 wu wr' wq'
  obtain ⟨hNZ, hZY, hNY, hwY⟩ := HNN.out
  have E6 : Y < w6.heap.size := G5.y.lt
  obtain ⟨D, hD⟩ : ∃ D, w6.heap.size = D := ⟨_, rfl⟩
  have hYD : Hid (Y < D) := by show Y < D; rw [← hD]; exact E6
  have hDw : D ≤ w6.heap.size := Nat.le_of_eq hD.symm
  have hwD : Hid (w.heap.size ≤ D) := Nat.le_trans hwY (Nat.le_of_lt hYD.out)
  have hND : Hid (N < D) := Nat.lt_trans hNY hYD.out
  have hZD : Hid (Z < D) := Nat.lt_trans hZY hYD.out
  have hNe := Nat.ne_of_lt hNY
  have hZe := Nat.ne_of_lt hZY
  have HWY := Lib.hid hwY
  clear hNZ hZY hNY hwY HNN
  obtain ⟨L, hL⟩ : ∃ L, l.drop 24 = L := ⟨_, rfl⟩
  have HL24 := Lib.hid hL
  have HLlen : Hid (L.length = l.length - 24) := by show _ = _; rw [← hL, List.length_drop]
  have HGV : Hid (gVs l = itL L m) := by show _ = _; unfold gVs; rw [HGR.out, HGQ.out, HM.out, hL]
  rw [hL] at HE9
  clear hL hD E6
  go_loopw [8, 11] (fun v8 v11 wr => ∃ (j A : Nat) (a : Option Addr) (mm cc : Nat), v8 = .int .i64 (A : Int) ∧ v11 = .int .i64 (j : Int) ∧ j ≤ m ∧ Hid (A = 24 + 8 * j ∧ A ≤ l.length) ∧ GS N Z Y k c b t d lf p (r : Int) (q : Int) (.slice a mm cc) (.slice none 0 0) w wr ∧ Own KU wr D (.slice a mm cc) (nums (itL L j)) ∧ D ≤ wr.heap.size ∧ Hid (itE eV L m = itE eV (L.drop (8 * j)) (m - j))) (fun _ v11 _ => m - (intOf v11).toNat)
  case atStart => exact ⟨0, 24, none, 0, 0, rfl, rfl, Nat.zero_le m, ⟨rfl, HLL.out⟩, G5, Own.nil _ _, hDw, rfl⟩
  case round =>
    obtain ⟨j, A, a, mm, cc, rfl, rfl, hj, HA, G, own, hsz, HE⟩ := hrel
    clear G5 hDw
    have y7 : wr.cell? ⟨Y, 7, none⟩ = some (.int .i64 (r : Int)) := G.y.c 7 (by decide)
    have y8 : wr.cell? ⟨Y, 8, none⟩ = some (.int .i64 (q : Int)) := G.y.c 8 (by decide)
    by_cases hlt : j < m
    · have i1 := lt_cast hlt
      have HS := Lib.hid (itE_step eV L m j hlt HE.out)
      have hLd : (L.drop (8 * j)).length = l.length - A := by rw [List.length_drop]; exact len_A HLlen.out HA.out
      by_cases h8 : l.length < A + 8
      · have HE2 : Hid (gtE l = 2) := HE9.out.trans (by rw [HS.out, if_pos (by rw [hLd]; exact Nat.sub_lt_left_of_lt_add HA.out.2 h8)]; rfl)
        have n2 : Calls Try.prog 32 #[.string (sb l), .int .i64 (A : Int), .int .i64 8] wr fun e w' => e = .returned (.tuple #[.int .u64 0, .int .i64 (A : Int), .bool false]) ∧ w' = wr := refGet_none l A 8 HA.out.2 h8 (big_n HLl.out) wr
        clear HE HS hLd h8 own hlt
        go_wp2_with fail
        refine n2.mono ?_
        rintro e w7 ⟨rfl, rfl⟩
        have X4 := G.x
        have bel4 := G.bel
        clear n2 G y7 y8
        obtain ⟨x0, x1, x2, x3, x4, x5, x6, x7, x8, x9, x10⟩ := X4.cells
        obtain ⟨y0, y1, y2, y3, y4, y5, y6, y7, y8, y9, y10⟩ := X4.frs
        obtain ⟨fv, fb⟩ := put11_facts 0 0 0 0 0 0 0 0 0 (.slice none 0 0) (.slice none 0 0) X4
        have HB := Lib.hid (bel4.trans (fb.below (Nat.le_of_eq HN.out) bel4.size))
        clear X4 bel4 fb 
        go_wp2_with fail
        change bodyPost _ _ _ _ _ (put11 w7 N 0 0 0 0 0 0 0 0 0 (.slice none 0 0) (.slice none 0 0))
        clear x0 x1 x2 x3 x4 x5 x6 x7 x8 x9 x10 y0 y1 y2 y3 y4 y5 y6 y7 y8 y9 y10
        generalize put11 w7 N 0 0 0 0 0 0 0 0 0 (.slice none 0 0) (.slice none 0 0) = w99 at *
        obtain ⟨c0, c1, c2, c3, c4, c5, c6, c7, c8, c9, c10⟩ := fv.cells
        refine bodyPost_ret (v := .tuple #[ds 0 0 0 0 0 0 0 0 0 (.slice none 0 0) (.slice none 0 0), .int .i64 2]) (by simp [ds, results, Try.results15, go_sem, c0, c1, c2, c3, c4, c5, c6, c7, c8, c9, c10]) rfl ?_
        exact ⟨HF2.out _ 2 (by decide) HE2.out, HB.out⟩
      · have n2 : Calls Try.prog 32 #[.string (sb l), .int .i64 (A : Int), .int .i64 8] wr fun e w' => e = .returned (.tuple #[.int .u64 (num ((L.drop (8 * j)).take 8) : Int), .int .i64 ((A + 8 : Nat) : Int), .bool true]) ∧ w' = wr := by
          have e : l.drop A = L.drop (8 * j) := by rw [← HL24.out, List.drop_drop, HA.out.1]
          rw [← e]
          exact refGet_some l A 8 (Nat.le_of_not_lt h8) (big_n HLl.out) wr
        have HS2 : Hid (itE eV L m = orE (eV (num ((L.drop (8 * j)).take 8))) (itE eV (L.drop (8 * (j + 1))) (m - (j + 1)))) := HS.out.trans (if_neg (fun h => h8 (by rw [hLd] at h; have h9 := HA.out.2; clear HE HS hLd HE9 i1 hlt HM HGR HGQ HGV; omega)))
        have hx := num8_lt (L.drop (8 * j))
        have hres : Hid (nums (itL L (j + 1)) = nums (itL L j) ++ [((num ((L.drop (8 * j)).take 8) : Nat) : Int)]) := by show _ = _; simp [itL, nums]
        have hjl : Hid ((nums (itL L j)).length = j ∧ j ≤ 10000) := ⟨by rw [nums_len, itL_len], j_small HA.out HLl.out⟩
        obtain ⟨A2, hA2⟩ : ∃ A2, A + 8 = A2 := ⟨_, rfl⟩
        have HA2 : Hid (A2 = 24 + 8 * (j + 1) ∧ A2 ≤ l.length) := by rw [← hA2]; exact step_A HA.out h8
        rw [hA2] at n2
        clear HE HS hLd h8 hA2 HA
        generalize num ((L.drop (8 * j)).take 8) = x at *
        go_wp2_with fail
        refine n2.mono ?_
        rintro e w7 ⟨rfl, rfl⟩
        clear n2 y7 y8
        have hbt := refBits_any x hx
        by_cases hz : cln x = x
        case neg =>
          have HE2 : Hid (gtE l = 3) := HE9.out.trans (by have e : eV x = 3 := if_neg hz
                                                          rw [HS2.out, e]; rfl)
          have gb : ((cln x : Int) != (x : Int)) = true := by simp; omega
          have X4 := G.x
          have bel4 := G.bel
          clear hz own HS2 hres hlt G
          generalize cln x = z at *
          obtain ⟨x0, x1, x2, x3, x4, x5, x6, x7, x8, x9, x10⟩ := X4.cells
          obtain ⟨y0, y1, y2, y3, y4, y5, y6, y7, y8, y9, y10⟩ := X4.frs
          obtain ⟨fv, fb⟩ := put11_facts 0 0 0 0 0 0 0 0 0 (.slice none 0 0) (.slice none 0 0) X4
          have HB := Lib.hid (bel4.trans (fb.below (Nat.le_of_eq HN.out) bel4.size))
          clear X4 bel4 fb 
          go_wp2_with (first | (go_at_call 33; refine (hbt _).mono ?_; rintro e w9 ⟨rfl, rfl⟩) | simp only [fromb] | fail)
          change bodyPost _ _ _ _ _ (put11 w7 N 0 0 0 0 0 0 0 0 0 (.slice none 0 0) (.slice none 0 0))
          clear x0 x1 x2 x3 x4 x5 x6 x7 x8 x9 x10 y0 y1 y2 y3 y4 y5 y6 y7 y8 y9 y10
          generalize put11 w7 N 0 0 0 0 0 0 0 0 0 (.slice none 0 0) (.slice none 0 0) = w99 at *
          obtain ⟨c0, c1, c2, c3, c4, c5, c6, c7, c8, c9, c10⟩ := fv.cells
          refine bodyPost_ret (v := .tuple #[ds 0 0 0 0 0 0 0 0 0 (.slice none 0 0) (.slice none 0 0), .int .i64 3]) (by simp [ds, results, Try.results15, go_sem, c0, c1, c2, c3, c4, c5, c6, c7, c8, c9, c10]) rfl ?_
          exact ⟨HF2.out _ 3 (by decide) HE2.out, HB.out⟩
        case pos =>
        have HE2 : Hid (itE eV L m = itE eV (L.drop (8 * (j + 1))) (m - (j + 1))) := HS2.out.trans (orE_0 (show eV x = 0 from if_pos hz))
        rw [hz] at hbt
        have gb : ((x : Int) != (x : Int)) = false := by simp
        have y9 : w7.cell? ⟨Y, 9, none⟩ = some (.slice a mm cc) := G.y.c 9 (by decide)
        have b8 := (Below.refl w7.heap.size w7).alloc (Nat.le_refl _) (.cells #[.int .u64 (x : Int)] 52)
        have cam : CameE KU (w7.alloc (.cells #[.int .u64 (x : Int)] 52)) (some ⟨w7.heap.size, 0, none⟩) 1 [(x : Int)] := CameE.new (K := KU) _
        have own8 := own.alloc (.cells #[.int .u64 (x : Int)] 52)
        have G8 := G.over b8 (Nat.le_trans hwD.out hsz) (Nat.lt_of_lt_of_le hND.out hsz) (Nat.lt_of_lt_of_le hZD.out hsz) (Nat.lt_of_lt_of_le hYD.out hsz)
        have hs8 := Nat.le_trans hsz b8.size
        clear hz HS2 own G b8 hsz
        go_wp2_with (first | (go_at_call 33; refine (hbt _).mono ?_; rintro e w' ⟨rfl, rfl⟩) | simp only [fromb] | (at_builtin; refine app_own okU rfl _ _ rfl D hs8 _ _ rfl own8 _ 1 1 [(x : Int)] rfl cam (room_app hjl.out.1 hjl.out.2) ?_) | fail)
        intro v9 w9 own9 b9
        obtain ⟨a9, m9, c9, rfl⟩ : ∃ a n c, v9 = .slice a n c := by obtain ⟨a, c, h, _⟩ := own9.holds; exact ⟨a, _, c, h⟩
        have G9 := G8.over b9 hwD.out hND.out hZD.out hYD.out
        have hs9 := Nat.le_trans hs8 b9.size
        have q9 := G9.y.c 9 (by decide)
        have q9f := G9.y.fr 9 (by decide)
        have HG := Lib.hid (G9.set9 (v2 := .slice a9 m9 c9) HWY.out hNe hZe)
        have HO : Hid (Own KU (w9.setCell ⟨Y, 9, none⟩ (.slice a9 m9 c9)) D (.slice a9 m9 c9) (nums (itL L (j + 1)))) := by
          show Own KU _ _ _ _
          rw [hres.out]
          exact own9.but (But.setCell Y 9 w9 _) hYD.out
        have HSZ : Hid (D ≤ (w9.setCell ⟨Y, 9, none⟩ (.slice a9 m9 c9)).heap.size) := (But.setCell Y 9 w9 (.slice a9 m9 c9)).size |> Nat.le_trans hs9
        clear G8 G9 own8 own9 b9 cam hs8 hs9 y9 hbt hres
        go_wp2_with fail
        go_roundw
        case rel => exact ⟨j + 1, A2, a9, m9, c9, rfl, congrArg (Value.int .i64) (step_w hlt HMB.out), hlt, HA2, HG.out, HO.out, HSZ.out, HE2⟩
        case measure => exact meas_lt hlt HMB.out
    · have i1 := nlt_cast hlt
      obtain rfl : j = m := Nat.le_antisymm hj (Nat.le_of_not_lt hlt)
      have HEv : Hid (itE eV L j = 0) := by show _ = _; rw [HE.out, Nat.sub_self]; rfl
      have HE10 : Hid (gtE l = itE (eW k c) (l.drop (24 + 8 * j)) r) := HE9.out.trans (orE_0 HEv.out)
      obtain ⟨LT, hLT⟩ : ∃ LT, l.drop (24 + 8 * j) = LT := ⟨_, rfl⟩
      have HLT := Lib.hid hLT
      have HTlen : Hid (LT.length = l.length - (24 + 8 * j)) := by show _ = _; rw [← hLT, List.length_drop]
      have HGT : Hid (gTs l = tL LT r) := by show _ = _; unfold gTs; rw [HGR.out, HGQ.out, HM.out, hLT]
      rw [hLT] at HE10
      have HOV : Hid (Own KU wr D (.slice a mm cc) (nums (gVs l))) := by show Own KU _ _ _ _; rw [HGV.out]; exact own
      have HA0 : Hid (A = 24 + 8 * j + 8 * 0 ∧ A ≤ l.length) := HA.out
      clear hLT HE9 HEv HE own HGV HA hlt hj
      go_wp2_with fail
      clear y7 y8
      obtain ⟨wS, rfl⟩ : ∃ wS, wS = wr := ⟨_, rfl⟩
      obtain ⟨D2, hD2⟩ : ∃ D2, wS.heap.size = D2 := ⟨_, rfl⟩
      have HD2 := Lib.hid hD2
      have hDD : Hid (D ≤ D2) := by show D ≤ D2; rw [← hD2]; exact hsz
      have hwE := Lib.hid (Nat.le_trans hwD.out hDD.out)
      have hNE := Lib.hid (Nat.lt_of_lt_of_le hND.out hDD.out)
      have hZE := Lib.hid (Nat.lt_of_lt_of_le hZD.out hDD.out)
      have hYE := Lib.hid (Nat.lt_of_lt_of_le hYD.out hDD.out)
      have hsE : D2 ≤ wS.heap.size := Nat.le_of_eq hD2.symm
      clear hD2
      go_loopw [8, 15] (fun v8 v15 wr => ∃ (i A : Nat) (a2 : Option Addr) (m2 cc2 : Nat), v8 = .int .i64 (A : Int) ∧ v15 = .int .i64 (i : Int) ∧ i ≤ r ∧ Hid (A = 24 + 8 * j + 8 * i ∧ A ≤ l.length) ∧ GS N Z Y k c b t d lf p (r : Int) (q : Int) (.slice a mm cc) (.slice a2 m2 cc2) w wr ∧ Hid (But Y wS wr) ∧ Own K64 wr D2 (.slice a2 m2 cc2) (tL LT i) ∧ D2 ≤ wr.heap.size ∧ Hid (itE (eW k c) LT r = itE (eW k c) (LT.drop (8 * i)) (r - i))) (fun _ v15 _ => r - (intOf v15).toNat)
      case atStart => exact ⟨0, A, none, 0, 0, rfl, rfl, Nat.zero_le r, HA0, G, But.refl _ _, Own.nil _ _, hsE, rfl⟩
      case round =>
        obtain ⟨i, A, a2, m2, cc2, rfl, rfl, hi, HA, G2, HV2, own, hsz2, HE⟩ := hrel
        clear G hsz HA0 hsE
        have y7 : wr.cell? ⟨Y, 7, none⟩ = some (.int .i64 (r : Int)) := G2.y.c 7 (by decide)
        by_cases hlt : i < r
        · have i1 := lt_cast hlt
          have HS := Lib.hid (itE_step (eW k c) LT r i hlt HE.out)
          have hLd : (LT.drop (8 * i)).length = l.length - A := by rw [List.length_drop]; exact len_T HTlen.out HA.out
          by_cases h8 : l.length < A + 8
          · have HE2 : Hid (gtE l = 2) := HE10.out.trans (by rw [HS.out, if_pos (by rw [hLd]; exact Nat.sub_lt_left_of_lt_add HA.out.2 h8)])
            have n2 : Calls Try.prog 32 #[.string (sb l), .int .i64 (A : Int), .int .i64 8] wr fun e w' => e = .returned (.tuple #[.int .u64 0, .int .i64 (A : Int), .bool false]) ∧ w' = wr := refGet_none l A 8 HA.out.2 h8 (big_n HLl.out) wr
            clear HE HS hLd h8 own hlt HV2
            go_wp2_with fail
            refine n2.mono ?_
            rintro e w7 ⟨rfl, rfl⟩
            have X4 := G2.x
            have bel4 := G2.bel
            clear n2 G2 y7
            obtain ⟨x0, x1, x2, x3, x4, x5, x6, x7, x8, x9, x10⟩ := X4.cells
            obtain ⟨y0, y1, y2, y3, y4, y5, y6, y7, y8, y9, y10⟩ := X4.frs
            obtain ⟨fv, fb⟩ := put11_facts 0 0 0 0 0 0 0 0 0 (.slice none 0 0) (.slice none 0 0) X4
            have HB := Lib.hid (bel4.trans (fb.below (Nat.le_of_eq HN.out) bel4.size))
            clear X4 bel4 fb 
            go_wp2_with fail
            change bodyPost _ _ _ _ _ (put11 w7 N 0 0 0 0 0 0 0 0 0 (.slice none 0 0) (.slice none 0 0))
            clear x0 x1 x2 x3 x4 x5 x6 x7 x8 x9 x10 y0 y1 y2 y3 y4 y5 y6 y7 y8 y9 y10
            generalize put11 w7 N 0 0 0 0 0 0 0 0 0 (.slice none 0 0) (.slice none 0 0) = w99 at *
            obtain ⟨c0, c1, c2, c3, c4, c5, c6, c7, c8, c9, c10⟩ := fv.cells
            refine bodyPost_ret (v := .tuple #[ds 0 0 0 0 0 0 0 0 0 (.slice none 0 0) (.slice none 0 0), .int .i64 2]) (by simp [ds, results, Try.results15, go_sem, c0, c1, c2, c3, c4, c5, c6, c7, c8, c9, c10]) rfl ?_
            exact ⟨HF2.out _ 2 (by decide) HE2.out, HB.out⟩
          · have n2 : Calls Try.prog 32 #[.string (sb l), .int .i64 (A : Int), .int .i64 8] wr fun e w' => e = .returned (.tuple #[.int .u64 (num ((LT.drop (8 * i)).take 8) : Int), .int .i64 ((A + 8 : Nat) : Int), .bool true]) ∧ w' = wr := by
              have e : l.drop A = LT.drop (8 * i) := by rw [← HLT.out, List.drop_drop, HA.out.1]
              rw [← e]
              exact refGet_some l A 8 (Nat.le_of_not_lt h8) (big_n HLl.out) wr
            have HS2 : Hid (itE (eW k c) LT r = orE (eT k c (wrap64 (num ((LT.drop (8 * i)).take 8) : Int))) (itE (eW k c) (LT.drop (8 * (i + 1))) (r - (i + 1)))) := HS.out.trans (if_neg (not_short hLd h8))
            have hres : Hid (tL LT (i + 1) = tL LT i ++ [wrap64 (num ((LT.drop (8 * i)).take 8) : Int)]) := tL_succ LT i
            have hjl : Hid ((tL LT i).length = i ∧ i ≤ 10000) := ⟨tL_len LT i, i_small HA.out HLl.out⟩
            obtain ⟨A2, hA2⟩ : ∃ A2, A + 8 = A2 := ⟨_, rfl⟩
            have HA2 : Hid (A2 = 24 + 8 * j + 8 * (i + 1) ∧ A2 ≤ l.length) := by rw [← hA2]; exact step_T HA.out h8
            rw [hA2] at n2
            clear HE HS hLd h8 hA2 HA
            have htg := target_any k c b t d lf p (wrap64 (num ((LT.drop (8 * i)).take 8) : Int)) HKK.out
            unfold cf at htg
            generalize num ((LT.drop (8 * i)).take 8) = x at *
            obtain ⟨e0, e1, e2, e3, e4, e5, e6⟩ := G2.z.cells
            go_wp2_with fail
            refine n2.mono ?_
            rintro e w7 ⟨rfl, rfl⟩
            clear n2 y7
            go_wp2_with fail
            refine (htg _).mono ?_
            rintro e w8 ⟨rfl, b8⟩
            have G8 := G2.over b8 (Nat.le_trans hwE.out hsz2) (Nat.lt_of_lt_of_le hNE.out hsz2) (Nat.lt_of_lt_of_le hZE.out hsz2) (Nat.lt_of_lt_of_le hYE.out hsz2)
            have own8 := own.below b8
            have HV8 := Lib.hid (HV2.out.trans (But.of_below b8))
            have hs8 := Nat.le_trans hsz2 b8.size
            clear G2 own HV2 hsz2 b8 htg e0 e1 e2 e3 e4 e5 e6
            by_cases hz : eT k c (wrap64 (x : Int)) = 0
            case neg =>
              have HE2 : Hid (gtE l = eT k c (wrap64 (x : Int))) := HE10.out.trans (HS2.out.trans (orE_1 hz))
              have gb : (eT k c (wrap64 (x : Int)) != 0) = true := by simpa using hz
              have HZ := Lib.hid hz
              have X4 := G8.x
              have bel4 := G8.bel
              clear hz own8 HV8 HS2 hres hlt G8 hs8
              generalize eT k c (wrap64 (x : Int)) = E at *
              obtain ⟨x0, x1, x2, x3, x4, x5, x6, x7, x8, x9, x10⟩ := X4.cells
              obtain ⟨y0, y1, y2, y3, y4, y5, y6, y7, y8, y9, y10⟩ := X4.frs
              obtain ⟨fv, fb⟩ := put11_facts 0 0 0 0 0 0 0 0 0 (.slice none 0 0) (.slice none 0 0) X4
              have HB := Lib.hid (bel4.trans (fb.below (Nat.le_of_eq HN.out) bel4.size))
              clear X4 bel4 fb 
              go_wp2_with fail
              change bodyPost _ _ _ _ _ (put11 w8 N 0 0 0 0 0 0 0 0 0 (.slice none 0 0) (.slice none 0 0))
              clear x0 x1 x2 x3 x4 x5 x6 x7 x8 x9 x10 y0 y1 y2 y3 y4 y5 y6 y7 y8 y9 y10
              generalize put11 w8 N 0 0 0 0 0 0 0 0 0 (.slice none 0 0) (.slice none 0 0) = w99 at *
              obtain ⟨c0, c1, c2, c3, c4, c5, c6, c7, c8, c9, c10⟩ := fv.cells
              refine bodyPost_ret (v := .tuple #[ds 0 0 0 0 0 0 0 0 0 (.slice none 0 0) (.slice none 0 0), .int .i64 E]) (by simp [ds, results, Try.results15, go_sem, c0, c1, c2, c3, c4, c5, c6, c7, c8, c9, c10]) rfl ?_
              exact ⟨HF2.out _ E HZ.out HE2.out, HB.out⟩
            case pos =>
            have HE2 : Hid (itE (eW k c) LT r = itE (eW k c) (LT.drop (8 * (i + 1))) (r - (i + 1))) := HS2.out.trans (orE_0 hz)
            rw [hz]
            have y10 : w8.cell? ⟨Y, 10, none⟩ = some (.slice a2 m2 cc2) := G8.y.c 10 (by decide)
            have b9 := (Below.refl w8.heap.size w8).alloc (Nat.le_refl _) (.cells #[.int .i64 (wrap64 (x : Int))] 2)
            have cam : CameE K64 (w8.alloc (.cells #[.int .i64 (wrap64 (x : Int))] 2)) (some ⟨w8.heap.size, 0, none⟩) 1 [wrap64 (x : Int)] := CameE.new (K := K64) _
            have own9 := own8.alloc (.cells #[.int .i64 (wrap64 (x : Int))] 2)
            have HV9 := Lib.hid (HV8.out.trans (But.of_below b9))
            have G9 := G8.over b9 (Nat.le_trans hwE.out hs8) (Nat.lt_of_lt_of_le hNE.out hs8) (Nat.lt_of_lt_of_le hZE.out hs8) (Nat.lt_of_lt_of_le hYE.out hs8)
            have hs9 := Nat.le_trans hs8 b9.size
            clear hz HS2 own8 HV8 G8 b9 hs8
            generalize wrap64 (x : Int) = xw at *
            go_wp2_with (first | (at_builtin; refine app_own ok64 rfl _ _ rfl D2 hs9 _ _ rfl own9 _ 1 1 [xw] rfl cam (room_app hjl.out.1 hjl.out.2) ?_) | fail)
            intro v10 w10 own10 b10
            obtain ⟨a10, m10, c10, rfl⟩ : ∃ a n c, v10 = .slice a n c := by obtain ⟨a, c, h, _⟩ := own10.holds; exact ⟨a, _, c, h⟩
            have G10 := G9.over b10 hwE.out hNE.out hZE.out hYE.out
            have hs10 := Nat.le_trans hs9 b10.size
            have q10 := G10.y.c 10 (by decide)
            have q10f := G10.y.fr 10 (by decide)
            have HG := Lib.hid (G10.set10 (v2 := .slice a10 m10 c10) HWY.out hNe hZe)
            have HO : Hid (Own K64 (w10.setCell ⟨Y, 10, none⟩ (.slice a10 m10 c10)) D2 (.slice a10 m10 c10) (tL LT (i + 1))) := by
              show Own K64 _ _ _ _
              rw [hres.out]
              exact own10.but (But.setCell Y 10 w10 _) hYE.out
            have HV10 := Lib.hid ((HV9.out.over b10 (Nat.le_of_eq HD2.out)).trans (But.setCell Y 10 w10 (.slice a10 m10 c10)))
            have HSZ : Hid (D2 ≤ (w10.setCell ⟨Y, 10, none⟩ (.slice a10 m10 c10)).heap.size) := (But.setCell Y 10 w10 (.slice a10 m10 c10)).size |> Nat.le_trans hs10
            clear G9 G10 own9 own10 b10 cam hs9 hs10 y10 hres HV9
            go_wp2_with fail
            go_roundw
            case rel => exact ⟨i + 1, A2, a10, m10, c10, rfl, congrArg (Value.int .i64) (step_w hlt (Nat.le_trans HRL.out (by decide))), hlt, HA2, HG.out, HV10.out, HO.out, HSZ.out, HE2⟩
            case measure => exact meas_lt hlt (Nat.le_trans HRL.out (by decide))
        · have i1 := nlt_cast hlt
          obtain rfl : i = r := Nat.le_antisymm hi (Nat.le_of_not_lt hlt)
          have HEt : Hid (gtE l = 0) := by show _ = _; rw [HE10.out, HE.out, Nat.sub_self]; rfl
          have HAS : Hid (A = gS l) := by show _ = _; unfold gS; rw [HGR.out, HGQ.out, HM.out]; exact HA.out.1
          clear HE HE10 hlt hi
          by_cases hend : A < l.length
          · have HE3 : Hid (fuE l = 3) := by show _ = _; unfold fuE; rw [orE_0 HEt.out, if_neg (by rw [← HAS.out]; exact Nat.not_le_of_lt hend)]
            have ge : (A : Int) < ((sb l).size : Int) := by rw [HS.out]; exact Int.ofNat_lt.2 hend
            have X4 := G2.x
            have bel4 := G2.bel
            clear G2 own HV2 hsz2 hend HEt HAS
            obtain ⟨x0, x1, x2, x3, x4, x5, x6, x7, x8, x9, x10⟩ := X4.cells
            obtain ⟨y0, y1, y2, y3, y4, y5, y6, y7, y8, y9, y10⟩ := X4.frs
            obtain ⟨fv, fb⟩ := put11_facts 0 0 0 0 0 0 0 0 0 (.slice none 0 0) (.slice none 0 0) X4
            have HB := Lib.hid (bel4.trans (fb.below (Nat.le_of_eq HN.out) bel4.size))
            clear X4 bel4 fb 
            go_wp2_with fail
            change bodyPost _ _ _ _ _ (put11 wr N 0 0 0 0 0 0 0 0 0 (.slice none 0 0) (.slice none 0 0))
            clear x0 x1 x2 x3 x4 x5 x6 x7 x8 x9 x10 y0 y1 y2 y3 y4 y5 y6 y7 y8 y9 y10
            generalize put11 wr N 0 0 0 0 0 0 0 0 0 (.slice none 0 0) (.slice none 0 0) = w99 at *
            obtain ⟨c0, c1, c2, c3, c4, c5, c6, c7, c8, c9, c10⟩ := fv.cells
            refine bodyPost_ret (v := .tuple #[ds 0 0 0 0 0 0 0 0 0 (.slice none 0 0) (.slice none 0 0), .int .i64 3]) (by simp [ds, results, Try.results15, go_sem, c0, c1, c2, c3, c4, c5, c6, c7, c8, c9, c10]) rfl ?_
            exact ⟨HF.out _ 3 (by decide) HE3.out, HB.out⟩
          · have HE3 : Hid (fuE l = 0) := by show _ = _; unfold fuE; rw [orE_0 HEt.out, if_pos (by rw [← HAS.out]; exact Nat.le_of_not_lt hend)]
            have ge : ¬ (A : Int) < ((sb l).size : Int) := by rw [HS.out]; exact fun h => hend (Int.ofNat_lt.1 h)
            clear y7
            have ownV := HOV.out.but HV2.out hYD.out
            obtain ⟨c0, c1, c2, c3, c4, c5, c6, c7, c8, c9, c10⟩ := G2.y.cells
            obtain ⟨x0, x1, x2, x3, x4, x5, x6, x7, x8, x9, x10⟩ := G2.x.cells
            obtain ⟨y0, y1, y2, y3, y4, y5, y6, y7, y8, y9, y10⟩ := G2.x.frs
            obtain ⟨fv, fb⟩ := put11_facts k c b t d lf p (i : Int) (q : Int) (.slice a mm cc) (.slice a2 m2 cc2) G2.x
            have HB := Lib.hid (G2.bel.trans (fb.below (Nat.le_of_eq HN.out) G2.bel.size))
            have HOO := Lib.hid (HOK.out (put11 wr N k c b t d lf p (i : Int) (q : Int) (.slice a mm cc) (.slice a2 m2 cc2)) (.slice a mm cc) (.slice a2 m2 cc2) HE3.out ((ownV.but fb hND.out).base hwD.out) (by rw [HGT.out]; exact (own.but fb hNE.out).base hwE.out))
            clear G2 own ownV HV2 HOV fb hend HEt HAS HE3 hsz2
            go_wp2_with fail
            change bodyPost _ _ _ _ _ (put11 wr N k c b t d lf p (i : Int) (q : Int) (.slice a mm cc) (.slice a2 m2 cc2))
            clear c0 c1 c2 c3 c4 c5 c6 c7 c8 c9 c10 x0 x1 x2 x3 x4 x5 x6 x7 x8 x9 x10 y0 y1 y2 y3 y4 y5 y6 y7 y8 y9 y10
            generalize put11 wr N k c b t d lf p (i : Int) (q : Int) (.slice a mm cc) (.slice a2 m2 cc2) = w99 at *
            obtain ⟨c0, c1, c2, c3, c4, c5, c6, c7, c8, c9, c10⟩ := fv.cells
            refine bodyPost_ret (v := .tuple #[ds k c b t d lf p (i : Int) (q : Int) (.slice a mm cc) (.slice a2 m2 cc2), .int .i64 0]) (by simp [ds, results, Try.results15, go_sem, c0, c1, c2, c3, c4, c5, c6, c7, c8, c9, c10]) rfl ?_
            have hoo := HOO.out
            unfold gDv at hoo
            rw [N0.out, N1.out, N2.out, N3.out, N4.out, N5.out, N6.out, HGR.out, HGQ.out] at hoo
            exact ⟨hoo, HB.out⟩
end Go.Proofs.Ytbmbgfmhejahjaa
