/-
  DATASETS: taken: the dataset of a reader's next bytes, looked at from the first byte on. Conditions: the reader has not failed; no more than 10000 bytes.
-/
import Derived.Test.YtbmbgfmhejahjaaItems
import Derived.Test.YtbmbgfmhejahjaaCNum
import Derived.Test.YtbmbgfmhejahjaaByHand
namespace Go.Proofs.Ytbmbgfmhejahjaa
open Go.RowKit

def gr (l : List UInt8) : Nat := num ((l.drop 18).take 4)
def gq (l : List UInt8) : Nat := num ((l.drop 22).take 2)
def gc (l : List UInt8) (j : Nat) : Int := gN (l.drop 4) j
def gE5 (l : List UInt8) : Int := orE (itE eV (l.drop 24) (gr l * gq l)) (itE (eW (gc l 0) (gc l 1)) (l.drop (24 + 8 * (gr l * gq l))) (gr l))
def gE4 (l : List UInt8) : Int := if l.length < 24 then 2 else orE (eC (gr l) (gq l)) (gE5 l)
def gE3 (l : List UInt8) : Int := if l.length < 22 then 2 else orE (eR (gr l)) (gE4 l)
def gE2 (l : List UInt8) : Int := if l.length < 18 then 2 else orE (gE (l.drop 4)) (gE3 l)
/-- How a dataset's bytes are wrong. -/
def gtE (l : List UInt8) : Int := if l.length < 4 then 2 else if l.take 4 = hB then gE2 l else 3
theorem sb_toList (l : List UInt8) : (sb l).toList = l := ByteArray.toList_mk l
theorem num_small (l : List UInt8) (n : Nat) (h : n ≤ 4) : num (l.take n) < 4294967296 := by
  have h1 := num_lt (l.take n)
  have h2 : 256 ^ (l.take n).length ≤ 256 ^ 4 := Nat.pow_le_pow_right (by decide) (Nat.le_trans (List.length_take_le _ _) h)
  have : (256 : Nat) ^ 4 = 4294967296 := by decide
  omega
theorem num_two (l : List UInt8) : num (l.take 2) < 65536 := by
  have h1 := num_lt (l.take 2)
  have h2 : 256 ^ (l.take 2).length ≤ 256 ^ 2 := Nat.pow_le_pow_right (by decide) (List.length_take_le _ _)
  have : (256 : Nat) ^ 2 = 65536 := by decide
  omega
theorem dv7 (k c b t d l p r q r' : Int) (V T : Value) : ∀ j, dv k c b t d l p r' q V T j = if j = 7 then .int .i64 r' else dv k c b t d l p r q V T j
  | 0 => rfl | 1 => rfl | 2 => rfl | 3 => rfl | 4 => rfl | 5 => rfl | 6 => rfl | 7 => rfl | 8 => rfl | 9 => rfl | _ + 10 => (if_neg (by omega)).symm
theorem dv8 (k c b t d l p r q q' : Int) (V T : Value) : ∀ j, dv k c b t d l p r q' V T j = if j = 8 then .int .i64 q' else dv k c b t d l p r q V T j
  | 0 => rfl | 1 => rfl | 2 => rfl | 3 => rfl | 4 => rfl | 5 => rfl | 6 => rfl | 7 => rfl | 8 => rfl | 9 => rfl | _ + 10 => (if_neg (by omega)).symm
theorem dv9 (k c b t d l p r q : Int) (V T V' : Value) : ∀ j, dv k c b t d l p r q V' T j = if j = 9 then V' else dv k c b t d l p r q V T j
  | 0 => rfl | 1 => rfl | 2 => rfl | 3 => rfl | 4 => rfl | 5 => rfl | 6 => rfl | 7 => rfl | 8 => rfl | 9 => rfl | _ + 10 => (if_neg (by omega)).symm
theorem dv10 (k c b t d l p r q : Int) (V T T' : Value) : ∀ j, j < 11 → dv k c b t d l p r q V T' j = if j = 10 then T' else dv k c b t d l p r q V T j
  | 0, _ => rfl | 1, _ => rfl | 2, _ => rfl | 3, _ => rfl | 4, _ => rfl | 5, _ => rfl | 6, _ => rfl | 7, _ => rfl | 8, _ => rfl | 9, _ => rfl | 10, _ => rfl | n + 11, h => absurd h (by omega)
theorem Dat.ext {N : Nat} {f g : Nat → Value} {w : World} (h : Dat N f w) (e : ∀ j, j < 11 → g j = f j) : Dat N g w := ⟨h.lt, fun j hj => (h.c j hj).trans (by rw [e j hj]), h.fr⟩
theorem wrap_small (n : Nat) (h : n < 4294967296) : wrap64 (n : Int) = n := by unfold wrap64; omega
theorem drop_room {l : List UInt8} (n m k : Nat) (h : ¬ l.length < k) (e : k = n + m) : m ≤ (l.drop n).length := by rw [List.length_drop]; omega
theorem drop_short {l : List UInt8} (n m k : Nat) (h : l.length < k) (h0 : 0 < m) (e : k = n + m) : (l.drop n).length < m := by rw [List.length_drop]; omega
theorem drop_le {l : List UInt8} (n : Nat) (h : l.length ≤ 10000) : (l.drop n).length ≤ 10000 := by rw [List.length_drop]; omega
theorem drop_big {l : List UInt8} (n : Nat) (h : l.length ≤ 10000) : (l.drop n).length ≤ 1048576 := by rw [List.length_drop]; omega
theorem nat_small {r : Nat} (h : (r : Int) ≤ 1048576) : r ≤ 1073741824 := by omega
theorem mul_le {r q : Nat} (h : (r : Int) * (q : Int) ≤ 16777216) : r * q ≤ 1073741824 := by
  have : ((r * q : Nat) : Int) ≤ 16777216 := by rw [Int.natCast_mul]; exact h
  omega
theorem wrap_mul {r q : Nat} (h : (r : Int) * (q : Int) ≤ 16777216) : wrap64 ((r : Int) * (q : Int)) = ((r * q : Nat) : Int) := by
  rw [← Int.natCast_mul] at h ⊢
  unfold wrap64; omega
theorem ten {N : Nat} {k c b t d l p r q : Int} {V T : Value} {w : World} (h : Dat N (dv k c b t d l p r q V T) w) : w.cell? ⟨N, 0, none⟩ = some (.int .i64 k) ∧ w.cell? ⟨N, 1, none⟩ = some (.int .i64 c) ∧ w.cell? ⟨N, 2, none⟩ = some (.int .i64 b) ∧ w.cell? ⟨N, 3, none⟩ = some (.int .i64 t) ∧ w.cell? ⟨N, 4, none⟩ = some (.int .i64 d) ∧ w.cell? ⟨N, 5, none⟩ = some (.int .i64 l) ∧ w.cell? ⟨N, 6, none⟩ = some (.int .i64 p) ∧ w.cell? ⟨N, 7, none⟩ = some (.int .i64 r) ∧ w.cell? ⟨N, 8, none⟩ = some (.int .i64 q) ∧ w.cell? ⟨N, 9, none⟩ = some V :=
  ⟨h.c 0 (by decide), h.c 1 (by decide), h.c 2 (by decide), h.c 3 (by decide), h.c 4 (by decide), h.c 5 (by decide), h.c 6 (by decide), h.c 7 (by decide), h.c 8 (by decide), h.c 9 (by decide)⟩
theorem eR_le {r : Int} (h : eR r = 0) : r ≤ 1048576 := by unfold eR at h; split at h <;> (try split at h) <;> omega
theorem eC_le {r q : Int} (h : eC r q = 0) : q ≤ 1024 ∧ r * q ≤ 16777216 := by unfold eC at h; split at h <;> (try split at h) <;> (try split at h) <;> omega

/-- What taken leaves. -/
def TkP (B C R : Nat) (w : World) (l : List UInt8) (x : Ending) (w' : World) : Prop :=
  ∃ l', ((gtE l = 0 ∧ l' = l.drop (24 + 8 * (gr l * gq l) + 8 * gr l) ∧ ∃ V T, x = .returned (ds (gc l 0) (gc l 1) (gc l 2) (gc l 3) (gc l 4) (gc l 5) (gc l 6) (gr l : Int) (gq l : Int) V T) ∧ Own KF w' w.heap.size V (itL (l.drop 24) (gr l * gq l)) ∧ Own K64 w' w.heap.size T (tL (l.drop (24 + 8 * (gr l * gq l))) (gr l))) ∨ (gtE l ≠ 0 ∧ x = .panicked (thrown R))) ∧ Rd B C R l' (gtE l) w' ∧ But R w w'

set_option maxRecDepth 20000 in
set_option maxHeartbeats 8000000 in
theorem taken_any (B C R : Nat) (l : List UInt8) (hl : l.length ≤ 10000) (w : World) (h : Rd B C R l 0 w) :
    Calls Try.prog 30 #[.pointer (some ⟨R, 0, none⟩)] w fun x w' => TkP B C R w l x w' := by
  have HF : Hid (∀ w' l' e, e ≠ 0 → gtE l = e → Rd B C R l' e w' → But R w w' → TkP B C R w l (.panicked (thrown R)) w') :=
    fun w' l' e h1 h2 h3 h4 => ⟨l', .inr ⟨by rw [h2]; exact h1, rfl⟩, by rw [h2]; exact h3, h4⟩
  have HO : Hid (∀ w' V T, gtE l = 0 → Rd B C R (l.drop (24 + 8 * (gr l * gq l) + 8 * gr l)) 0 w' → But R w w' → Own KF w' w.heap.size V (itL (l.drop 24) (gr l * gq l)) → Own K64 w' w.heap.size T (tL (l.drop (24 + 8 * (gr l * gq l))) (gr l)) → TkP B C R w l (.returned (ds (gc l 0) (gc l 1) (gc l 2) (gc l 3) (gc l 4) (gc l 5) (gc l 6) (gr l : Int) (gq l : Int) V T)) w') :=
    fun w' V T h1 h2 h3 h4 h5 => ⟨_, .inl ⟨h1, rfl, V, T, rfl, h4, h5⟩, by rw [h1]; exact h2, h3⟩
  have D0 := lay_dat w 36 0 0 0 0 0 0 0 0 0 (.slice none 0 0) (.slice none 0 0)
  have b0 := lay_below w 36 0 0 0 0 0 0 0 0 0 (.slice none 0 0) (.slice none 0 0)
  have r0 := h.below b0 h.top
  have bu0 := But.of_below (b := R) b0
  have top := h.top
  have hR := h.hi
  go_enter Try.func30, Try.ntmps30
  by_cases h4 : l.length < 4
  · have HE : Hid (gtE l = 2) := if_pos h4
    have n1 := number_none B C R l 4 h4 _ r0
    clear h r0 D0 b0
    go_wp2_with fail
    refine n1.mono ?_
    rintro x w1 ⟨rfl, rd, hb⟩
    exact ⟨rfl, HF.out _ _ 2 (by decide) HE.out rd (bu0.trans hb)⟩
  have HE1 : Hid (gtE l = if l.take 4 = hB then gE2 l else 3) := if_neg h4
  have n1 := number_some B C R l 4 (by show 4 ≤ _; omega) _ r0 (by omega)
  rw [show cnt 4 = 4 from rfl] at n1
  have hbt := bts_num (l.take 4)
  have h4l : (l.take 4).length = 4 := by rw [List.length_take]; omega
  rw [h4l] at hbt
  clear h r0
  go_wp2_with fail
  refine n1.mono ?_
  rintro x w1 ⟨rfl, r1, b1⟩
  have bu1 := bu0.trans b1
  have D1 := D0.but b1 (by omega)
  have z1 := b1.size
  clear n1 bu0 b1 D0
  have p1 := put_any 4 none 0 0 [] rfl (by decide) (fun _ => rfl) (num (l.take 4)) w1 (.inl rfl)
  rw [List.nil_append, show cnt 4 = 4 from rfl, hbt] at p1
  clear hbt
  go_wp2_with fail
  refine p1.mono ?_
  rintro x w2 ⟨v2, rfl, own2, b2⟩
  have bu2 := bu1.trans (But.of_below b2)
  have r2 := r1.below b2 r1.top
  have D2 := D1.below b2 D1.lt
  obtain ⟨a2, c2, rfl, _, _, _, ho2⟩ := own2.holds
  have hst := run_str w2 a2 4 c2 (l.take 4) h4l ho2
  have hsl := sb_toList (l.take 4)
  rw [h4l]
  clear p1 own2 ho2 D1 r1 bu1 b2 z1
  by_cases hm : l.take 4 = hB
  case neg =>
    have HE : Hid (gtE l = 3) := HE1.out.trans (if_neg hm)
    have g : ((sb (l.take 4)).toList == [72, 79, 82, 78]) = false := by rw [hsl]; exact beq_false_of_ne hm
    have hf := fail_any B C R (l.drop 4) 3 w2 r2
    rw [show failE 3 = 3 from rfl] at hf
    clear hm hsl D2 r2
    go_wp2_with fail
    refine hf.mono ?_
    rintro x w3 ⟨rfl, rd, hb⟩
    exact ⟨rfl, HF.out _ _ 3 (by decide) HE.out rd (bu2.trans hb)⟩
  case pos =>
  have HE2 : Hid (gtE l = gE2 l) := HE1.out.trans (if_pos hm)
  have g : ((sb (l.take 4)).toList == [72, 79, 82, 78]) = true := by rw [hsl, hm]; rfl
  clear hm hsl HE1 h4l
  go_wp2_with fail
  clear hst g
  by_cases h18 : l.length < 18
  case pos =>
    have HE : Hid (gtE l = 2) := HE2.out.trans (if_pos h18)
    have hg := get_short B C R (l.drop 4) (by rw [List.length_drop]; omega) w2 r2
    refine hg.mono ?_
    rintro x w3 ⟨rfl, rd, hb⟩
    exact ⟨rfl, HF.out _ _ 2 (by decide) HE.out rd (bu2.trans hb)⟩
  case neg =>
  have HE3 : Hid (gtE l = orE (gE (l.drop 4)) (gE3 l)) := HE2.out.trans (if_neg h18)
  have hg := get_any B C R (l.drop 4) (by rw [List.length_drop]; omega) (by rw [List.length_drop]; omega) w2 r2
  rw [List.drop_drop] at hg
  refine hg.mono ?_
  rintro x w3 ⟨hx, r3, b3⟩
  have bu3 := bu2.trans b3
  have D3 := D2.but b3 (by omega)
  clear hg bu2 b3 D2 r2 HE2
  rcases hx with ⟨hz, rfl⟩ | ⟨hz, rfl⟩
  case inr =>
    exact ⟨rfl, HF.out _ _ _ hz (HE3.out.trans (orE_1 hz)) r3 bu3⟩
  have HE4 : Hid (gtE l = gE3 l) := HE3.out.trans (orE_0 hz)
  rw [hz] at r3
  change Rd B C R (l.drop 18) 0 w3 at r3
  have HZ := Lib.hid hz
  clear hz HE3
  unfold cf
  generalize hg0 : gN (l.drop 4) 0 = k at *
  have N0 : Hid (gc l 0 = k) := hg0
  clear hg0
  generalize hg1 : gN (l.drop 4) 1 = c at *
  have N1 : Hid (gc l 1 = c) := hg1
  clear hg1
  generalize hg2 : gN (l.drop 4) 2 = b at *
  have N2 : Hid (gc l 2 = b) := hg2
  clear hg2
  generalize hg3 : gN (l.drop 4) 3 = t at *
  have N3 : Hid (gc l 3 = t) := hg3
  clear hg3
  generalize hg4 : gN (l.drop 4) 4 = d at *
  have N4 : Hid (gc l 4 = d) := hg4
  clear hg4
  generalize hg5 : gN (l.drop 4) 5 = lf at *
  have N5 : Hid (gc l 5 = lf) := hg5
  clear hg5
  generalize hg6 : gN (l.drop 4) 6 = p at *
  have N6 : Hid (gc l 6 = p) := hg6
  clear hg6
  have D4 := lay_dat w3 36 k c b t d lf p 0 0 (.slice none 0 0) (.slice none 0 0)
  have b4 := lay_below w3 36 k c b t d lf p 0 0 (.slice none 0 0) (.slice none 0 0)
  have X4 := D3.below b4 D3.lt
  have hXY : w.heap.size < w3.heap.size := D3.lt
  have r4 := r3.below b4 r3.top
  have bu4 := bu3.trans (But.of_below b4)
  obtain ⟨Y, hY⟩ : ∃ Y, w3.heap.size = Y := ⟨_, rfl⟩
  have htY : C ≤ Y := by rw [← hY]; exact r3.top
  have hYR : Y ≠ R := Nat.ne_of_gt (Nat.lt_of_lt_of_le hR htY)
  have hXR : w.heap.size ≠ R := Nat.ne_of_gt (Nat.lt_of_lt_of_le hR top)
  go_wp2_with fail
  change Calls Try.prog _ _ (lay w3 36 k c b t d lf p 0 0 (.slice none 0 0) (.slice none 0 0)) _
  generalize lay w3 36 k c b t d lf p 0 0 (.slice none 0 0) (.slice none 0 0) = w4 at *
  clear D3 b4 r3 bu3
  rw [hY] at D4 hXY
  clear hY
  have hXn : w.heap.size ≠ Y := Nat.ne_of_lt hXY
  have hXl : w.heap.size ≤ Y := Nat.le_of_lt hXY
  have HLl := Lib.hid hl
  have HTR := Lib.hid (And.intro top hR)
  clear hl top hR hXY
  by_cases h22 : l.length < 22
  case pos =>
    have HE : Hid (gtE l = 2) := HE4.out.trans (if_pos h22)
    have n2 := number_none B C R (l.drop 18) 4 (drop_short 18 4 22 h22 (by decide) rfl) w4 r4
    refine n2.mono ?_
    rintro x w5 ⟨rfl, rd, hb⟩
    exact ⟨rfl, HF.out _ _ 2 (by decide) HE.out rd (bu4.trans hb)⟩
  case neg =>
  have HE5 : Hid (gtE l = orE (eR (gr l)) (gE4 l)) := HE4.out.trans (if_neg h22)
  have n2 := number_some B C R (l.drop 18) 4 (drop_room 18 4 22 h22 rfl) w4 r4 (drop_big 18 HLl.out)
  rw [show cnt 4 = 4 from rfl, List.drop_drop, show 18 + 4 = 22 from rfl] at n2
  have hr32 := num_small (l.drop 18) 4 (by decide)
  have HGR : Hid (gr l = num ((l.drop 18).take 4)) := rfl
  generalize num ((l.drop 18).take 4) = r at *
  rw [HGR.out] at HE5
  refine n2.mono ?_
  rintro x w5 ⟨rfl, r5, b5⟩
  have D5 := D4.but b5 hYR
  have X5 := X4.but b5 hXR
  have bu5 := bu4.trans b5
  clear n2 D4 X4 bu4 b5 r4 HE4
  have D6 := D5.set 7 (.int .i64 (r : Int)) (by decide) (dv7 k c b t d lf p 0 0 (r : Int) (.slice none 0 0) (.slice none 0 0))
  have bs := But.setCell Y 7 w5 (.int .i64 (r : Int))
  have X6 := X5.but bs hXn
  have r6 := r5.but bs (.inr htY)
  have bu6 := bu5.onto bs hXl
  have c7 := D5.c 7 (by decide)
  have f7 := D5.fr 7 (by decide)
  have c67 := D6.c 7 (by decide)
  have wz := wrap_small r hr32
  clear bs X5 r5 bu5
  go_wp2_with fail
  generalize w5.setCell ⟨Y, 7, none⟩ (.int .i64 (r : Int)) = w6 at *
  refine (rows_any (r : Int) _).mono ?_
  rintro x w7 ⟨rfl, rfl⟩
  clear D5 c7 f7 c67
  by_cases hz : eR (r : Int) = 0
  case neg =>
    have fo := failIf_no B C R _ _ hz w7 r6
    go_wp2_with fail
    refine fo.mono ?_
    rintro x w8 ⟨rfl, rd, hb⟩
    exact ⟨rfl, HF.out _ _ _ hz (HE5.out.trans (orE_1 hz)) rd (bu6.trans hb)⟩
  have HE6 : Hid (gtE l = gE4 l) := HE5.out.trans (orE_0 hz)
  have hrl := eR_le hz
  have fo := failIf_ok R w7
  rw [hz]
  clear hz HE5
  go_wp2_with fail
  refine fo.mono ?_
  rintro x w8 ⟨rfl, rfl⟩
  clear fo
  by_cases h24 : l.length < 24
  case pos =>
    have HE : Hid (gtE l = 2) := HE6.out.trans (if_pos h24)
    have n2 := number_none B C R (l.drop 22) 2 (drop_short 22 2 24 h24 (by decide) rfl) w8 r6
    go_wp2_with fail
    refine n2.mono ?_
    rintro x w9 ⟨rfl, rd, hb⟩
    exact ⟨rfl, HF.out _ _ 2 (by decide) HE.out rd (bu6.trans hb)⟩
  case neg =>
  have HE7 : Hid (gtE l = orE (eC (gr l) (gq l)) (gE5 l)) := HE6.out.trans (if_neg h24)
  have n2 := number_some B C R (l.drop 22) 2 (drop_room 22 2 24 h24 rfl) w8 r6 (drop_big 22 HLl.out)
  rw [show cnt 2 = 2 from rfl, List.drop_drop, show 22 + 2 = 24 from rfl] at n2
  have hq16 := num_two (l.drop 22)
  have HGQ : Hid (gq l = num ((l.drop 22).take 2)) := rfl
  generalize num ((l.drop 22).take 2) = q at *
  rw [HGR.out, HGQ.out] at HE7
  go_wp2_with fail
  refine n2.mono ?_
  rintro x w9 ⟨rfl, r9, b9⟩
  have D9 := D6.but b9 hYR
  have X9 := X6.but b9 hXR
  have bu9 := bu6.trans b9
  clear n2 D6 X6 bu6 b9 r6 HE6
  have D10 := D9.set 8 (.int .i64 (q : Int)) (by decide) (dv8 k c b t d lf p (r : Int) 0 (q : Int) (.slice none 0 0) (.slice none 0 0))
  have bs := But.setCell Y 8 w9 (.int .i64 (q : Int))
  have X10 := X9.but bs hXn
  have r10 := r9.but bs (.inr htY)
  have bu10 := bu9.onto bs hXl
  have c8 := D9.c 8 (by decide)
  have f8 := D9.fr 8 (by decide)
  have c107 := D10.c 7 (by decide)
  have c108 := D10.c 8 (by decide)
  have wq := wrap_small q (Nat.lt_trans hq16 (by decide))
  clear bs X9 r9 bu9
  have hco := cols_any (r : Int) (q : Int) (Int.natCast_nonneg r) hrl (Int.natCast_nonneg q)
  go_wp2_with fail
  generalize w9.setCell ⟨Y, 8, none⟩ (.int .i64 (q : Int)) = w10 at *
  refine (hco _).mono ?_
  rintro x w11 ⟨rfl, rfl⟩
  clear D9 c8 f8 c107 c108 hco
  by_cases hz : eC (r : Int) (q : Int) = 0
  case neg =>
    have fo := failIf_no B C R _ _ hz w11 r10
    go_wp2_with fail
    refine fo.mono ?_
    rintro x w8 ⟨rfl, rd, hb⟩
    exact ⟨rfl, HF.out _ _ _ hz (HE7.out.trans (orE_1 hz)) rd (bu10.trans hb)⟩
  have HE8 : Hid (gtE l = gE5 l) := HE7.out.trans (orE_0 hz)
  have hcl := eC_le hz
  have fo := failIf_ok R w11
  rw [hz]
  clear hz HE7
  go_wp2_with fail
  refine fo.mono ?_
  rintro x w12 ⟨rfl, rfl⟩
  clear fo
  obtain ⟨m, hm⟩ : ∃ m, r * q = m := ⟨_, rfl⟩
  have HM := Lib.hid hm
  have hmm : m ≤ 1073741824 := by rw [← hm]; exact mul_le hcl.2
  have wrq : wrap64 ((r : Int) * (q : Int)) = (m : Int) := by rw [← hm]; exact wrap_mul hcl.2
  have HE9 : Hid (gtE l = orE (itE eV (l.drop 24) m) (itE (eW k c) (l.drop (24 + 8 * m)) r)) := by
    show _ = _
    rw [HE8.out, ← hm]
    unfold gE5
    rw [HGR.out, HGQ.out, N0.out, N1.out]
  have hrn := nat_small hrl
  clear hm hcl hrl HE8
  have hmf : ∀ (fn : Fn) (first cap : Array Value) (w : World), (Instr.makeFunc fn first cap).run Try.prog w = .ok (.func fn first cap) w := fun _ _ _ _ => rfl
  have it := itemsV_any B C R m (l.drop 24) (drop_le 24 HLl.out) hmm w12 r10
  have c107 : w12.cell? ⟨Y, 7, none⟩ = some (.int .i64 (r : Int)) := D10.c 7 (by decide)
  have c108 : w12.cell? ⟨Y, 8, none⟩ = some (.int .i64 (q : Int)) := D10.c 8 (by decide)
  go_wp2_with fail
  refine it.mono ?_
  rintro x w13 ⟨l', hx, r13, b13⟩
  rcases hx with ⟨he, rfl, V, rfl, own13⟩ | ⟨he, rfl⟩
  case inr =>
    exact ⟨rfl, HF.out _ _ _ he (HE9.out.trans (orE_1 he)) r13 (bu10.trans b13)⟩
  have HE10 : Hid (gtE l = itE (eW k c) (l.drop (24 + 8 * m)) r) := HE9.out.trans (orE_0 he)
  rw [he, List.drop_drop] at r13
  have lt10 := D10.lt
  have szw := bu10.size
  have D13 := D10.but b13 hYR
  have X13 := X10.but b13 hXR
  have bu13 := bu10.trans b13
  obtain ⟨aV, nV, cV, rfl⟩ : ∃ a n c, V = .slice a n c := by
    obtain ⟨a, c, h, _⟩ := own13.holds
    exact ⟨a, _, c, h⟩
  obtain ⟨E, hE⟩ : ∃ E, w12.heap.size = E := ⟨_, rfl⟩
  rw [hE] at own13 lt10 szw
  clear it r10 D10 X10 bu10 b13 HE9 he c107 c108 hE hmm wrq
  have D14 := D13.set 9 (.slice aV nV cV) (by decide) (dv9 k c b t d lf p (r : Int) (q : Int) (.slice none 0 0) (.slice none 0 0) (.slice aV nV cV))
  have bs := But.setCell Y 9 w13 (.slice aV nV cV)
  have X14 := X13.but bs hXn
  have r14 := r13.but bs (.inr htY)
  have bu14 := bu13.onto bs hXl
  have own14 := own13.but bs lt10
  have c9 := D13.c 9 (by decide)
  have f9 := D13.fr 9 (by decide)
  clear bs X13 r13 bu13 own13
  go_wp2_with fail
  generalize w13.setCell ⟨Y, 9, none⟩ (.slice aV nV cV) = w14 at *
  clear D13 c9 f9
  have ht := wt_any k c b t d lf p
  have hit := fun W h => itemsT_any k c b t d lf p B C R r (l.drop (24 + 8 * m)) (drop_le _ HLl.out) hrn W h
  unfold cf at ht hit
  have D15 := D14.drew
  have X15 := X14.drew
  have r15 := r14.drew
  have bu15 := bu14.drew
  have own15 := own14.drew
  clear D14 X14 r14 bu14 own14
  refine wp_region_held_drew (S := (fun W => W.cell? ⟨Y, 0, none⟩ = some (.int .i64 k) ∧ W.cell? ⟨Y, 1, none⟩ = some (.int .i64 c) ∧ W.cell? ⟨Y, 2, none⟩ = some (.int .i64 b) ∧ W.cell? ⟨Y, 3, none⟩ = some (.int .i64 t) ∧ W.cell? ⟨Y, 4, none⟩ = some (.int .i64 d) ∧ W.cell? ⟨Y, 5, none⟩ = some (.int .i64 lf) ∧ W.cell? ⟨Y, 6, none⟩ = some (.int .i64 p) ∧ W.cell? ⟨Y, 7, none⟩ = some (.int .i64 (r : Int)) ∧ W.cell? ⟨Y, 8, none⟩ = some (.int .i64 (q : Int)) ∧ W.cell? ⟨Y, 9, none⟩ = some (.slice aV nV cV))) (by kernel_rfl) (by first | exact ten D15 | exact ten T16) (fun hHeld => ?_)
  refine takeQ (i := 0) (v := ?_) rfl (by kernel_rfl) (by kernel_rfl) (by kernel_rfl) (fun _ _ _ h => h) (by rfl) hHeld ?_ ?_
  rotate_left
  · (intro w' hSw; (try dsimp only at hSw); go_simp <;> (with_reducible rfl))
  try simp only [Act.put, List.setIfInBounds_toArray, List.set_cons_zero, List.set_cons_succ]
  refine takeQ (i := 1) (v := ?_) rfl (by kernel_rfl) (by kernel_rfl) (by kernel_rfl) (fun _ _ _ h => h) (by rfl) hHeld ?_ ?_
  rotate_left
  · (intro w' hSw; (try dsimp only at hSw); go_simp <;> (with_reducible rfl))
  try simp only [Act.put, List.setIfInBounds_toArray, List.set_cons_zero, List.set_cons_succ]
  refine takeQ (i := 2) (v := ?_) rfl (by kernel_rfl) (by kernel_rfl) (by kernel_rfl) (fun _ _ _ h => h) (by rfl) hHeld ?_ ?_
  rotate_left
  · (intro w' hSw; (try dsimp only at hSw); go_simp <;> (with_reducible rfl))
  try simp only [Act.put, List.setIfInBounds_toArray, List.set_cons_zero, List.set_cons_succ]
  refine takeQ (i := 3) (v := ?_) rfl (by kernel_rfl) (by kernel_rfl) (by kernel_rfl) (fun _ _ _ h => h) (by rfl) hHeld ?_ ?_
  rotate_left
  · (intro w' hSw; (try dsimp only at hSw); go_simp <;> (with_reducible rfl))
  try simp only [Act.put, List.setIfInBounds_toArray, List.set_cons_zero, List.set_cons_succ]
  refine takeQ (i := 4) (v := ?_) rfl (by kernel_rfl) (by kernel_rfl) (by kernel_rfl) (fun _ _ _ h => h) (by rfl) hHeld ?_ ?_
  rotate_left
  · (intro w' hSw; (try dsimp only at hSw); go_simp <;> (with_reducible rfl))
  try simp only [Act.put, List.setIfInBounds_toArray, List.set_cons_zero, List.set_cons_succ]
  refine takeQ (i := 5) (v := ?_) rfl (by kernel_rfl) (by kernel_rfl) (by kernel_rfl) (fun _ _ _ h => h) (by rfl) hHeld ?_ ?_
  rotate_left
  · (intro w' hSw; (try dsimp only at hSw); go_simp <;> (with_reducible rfl))
  try simp only [Act.put, List.setIfInBounds_toArray, List.set_cons_zero, List.set_cons_succ]
  refine takeQ (i := 6) (v := ?_) rfl (by kernel_rfl) (by kernel_rfl) (by kernel_rfl) (fun _ _ _ h => h) (by rfl) hHeld ?_ ?_
  rotate_left
  · (intro w' hSw; (try dsimp only at hSw); go_simp <;> (with_reducible rfl))
  try simp only [Act.put, List.setIfInBounds_toArray, List.set_cons_zero, List.set_cons_succ]
  refine callL (i := 7) (by kernel_rfl) rfl (by rfl) (fun K hK => ?_)
  go_simp
  refine (ht _).mono ?_
  rintro _ w15 ⟨rfl, b15⟩
  replace r15 := r15.below b15 r15.top
  replace X15 := X15.below b15 X15.lt
  replace D15 := D15.below b15 D15.lt
  replace bu15 := bu15.trans (But.of_below b15)
  replace own15 := own15.below b15
  clear b15
  try dsimp only
  refine hK.out _ _ (by first | exact ten D15 | exact ten T16) (fun hHeld => ?_)
  clear hK K
  try simp only [Act.put, List.setIfInBounds_toArray, List.set_cons_zero, List.set_cons_succ]
  refine callL (i := 8) (by kernel_rfl) rfl (by rfl) (fun K hK => ?_)
  go_simp
  refine (hit _ r15).mono ?_
  rintro x w16 ⟨l', hx, r16, b16⟩
  rcases hx with ⟨he, rfl, T, rfl, own16⟩ | ⟨he, rfl⟩
  rotate_left
  · exact ⟨rfl, HF.out _ _ _ he (HE10.out.trans rfl) r16 (bu15.trans b16)⟩
  obtain ⟨aT, nT, cT, rfl⟩ : ∃ a n c, T = .slice a n c := (by obtain ⟨a, c, h, _⟩ := own16.holds; exact ⟨a, _, c, h⟩)
  have HE11 : Hid (gtE l = 0) := HE10.out.trans he
  rw [he, List.drop_drop] at r16
  have ltY := D15.lt
  have szF := bu15.size
  replace X15 := X15.but b16 hXR
  replace D15 := D15.but b16 hYR
  replace bu15 := bu15.trans b16
  replace own15 := own15.but b16 (Nat.lt_of_lt_of_le HTR.out.2 (Nat.le_trans HTR.out.1 szw))
  have c10 := D15.c 10 (by decide)
  have f10 := D15.fr 10 (by decide)
  have T16 : Dat Y (dv k c b t d lf p (r : Int) (q : Int) (.slice aV nV cV) (.slice aT nT cT)) (w16.setCell ⟨Y, 10, none⟩ (.slice aT nT cT)) := (D15.set 10 (.slice aT nT cT) (by decide) (g := upd _ 10 (.slice aT nT cT)) (fun _ => rfl)).ext (fun j hj => dv10 k c b t d lf p (r : Int) (q : Int) (.slice aV nV cV) (.slice none 0 0) (.slice aT nT cT) j hj)
  try dsimp only
  refine hK.out _ _ (by first | exact ten D15 | exact ten T16) (fun hHeld => ?_)
  clear hK K
  try simp only [Act.put, List.setIfInBounds_toArray, List.set_cons_zero, List.set_cons_succ]
  refine callL (i := 9) (by kernel_rfl) rfl (by rfl) (fun K hK => ?_)
  go_simp
  try dsimp only
  refine hK.out _ _ (by first | exact ten D15 | exact ten T16) (fun hHeld => ?_)
  clear hK K
  try simp only [Act.put, List.setIfInBounds_toArray, List.set_cons_zero, List.set_cons_succ]
  refine callL (i := 10) (by kernel_rfl) rfl (by rfl) (fun K hK => ?_)
  go_simp
  try dsimp only
  refine hK.out _ _ (by first | exact ten D15 | exact ten T16) (fun hHeld => ?_)
  clear hK K
  try simp only [Act.put, List.setIfInBounds_toArray, List.set_cons_zero, List.set_cons_succ]
  refine wpAnyH_done (by kernel_rfl) ?_ _
  have bs := But.setCell Y 10 w16 (.slice aT nT cT)
  have X16 := X15.but bs hXn
  have r17 := r16.but bs (.inr htY)
  have bu17 := bu15.onto bs hXl
  have ownV := own15.but bs lt10
  have ownT := own16.but bs ltY
  generalize w16.setCell ⟨Y, 10, none⟩ (.slice aT nT cT) = w17 at *
  clear bs r16 bu15 own15 own16 D15 X15 c10 f10
  obtain ⟨c0, c1, c2', c3, c4, c5, c6, c7, c8, c9, c10⟩ := T16.cells
  obtain ⟨x0, x1, x2, x3, x4, x5, x6, x7, x8, x9, x10⟩ := X16.cells
  obtain ⟨y0, y1, y2, y3, y4, y5, y6, y7, y8, y9, y10⟩ := X16.frs
  obtain ⟨fv, fb⟩ := put11_facts k c b t d lf p (r : Int) (q : Int) (.slice aV nV cV) (.slice aT nT cT) X16
  have hXE : w.heap.size < E := Nat.lt_trans (Nat.lt_of_le_of_ne hXl hXn) lt10
  have HFIN := Lib.hid (HO.out _ (.slice aV nV cV) (.slice aT nT cT) HE11.out (by rw [HGR.out, HGQ.out, HM.out]; exact r17.but fb (.inr HTR.out.1)) (bu17.onto fb (Nat.le_refl _)) (by rw [HGR.out, HGQ.out, HM.out]; exact (ownV.but fb hXE).base szw) (by rw [HGR.out, HGQ.out, HM.out]; exact (ownT.but fb (Nat.lt_trans (Nat.lt_of_le_of_ne hXl hXn) ltY)).base szF))
  clear r17 bu17 ownV ownT fb X16 T16 HE11
  go_wp2_with fail
  change bodyPost _ _ _ _ _ (put11 w17 w.heap.size k c b t d lf p (r : Int) (q : Int) (.slice aV nV cV) (.slice aT nT cT))
  clear c0 c1 c2' c3 c4 c5 c6 c7 c8 c9 c10 x0 x1 x2 x3 x4 x5 x6 x7 x8 x9 x10 y0 y1 y2 y3 y4 y5 y6 y7 y8 y9 y10
  generalize put11 w17 w.heap.size k c b t d lf p (r : Int) (q : Int) (.slice aV nV cV) (.slice aT nT cT) = w18 at *
  obtain ⟨c0, c1, c2', c3, c4, c5, c6, c7, c8, c9, c10⟩ := fv.cells
  refine bodyPost_ret (v := ds k c b t d lf p (r : Int) (q : Int) (.slice aV nV cV) (.slice aT nT cT)) (by simp [ds, results, Try.results30, go_sem, c0, c1, c2', c3, c4, c5, c6, c7, c8, c9, c10]) rfl ?_
  have hfin := HFIN.out
  rw [N0.out, N1.out, N2.out, N3.out, N4.out, N5.out, N6.out, HGR.out, HGQ.out] at hfin
  exact hfin
end Go.Proofs.Ytbmbgfmhejahjaa
