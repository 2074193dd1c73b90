/-
  DATASETS: the bytes of a dataset whose config may be. Conditions: at most 500 rows of eight bytes each of values, 700 of targets.
-/
import Derived.Test.YtbmbgfmhejahjaaDWrongA
import Derived.Test.YtbmbgfmhejahjaaGrowLay
import Derived.Lib.SmallJoins
namespace Go.Proofs.Ytbmbgfmhejahjaa
open Go.RowKit

def hB : List UInt8 := [72, 79, 82, 78]
/-- Values' bytes. -/
def vB (V : List Nat) : List UInt8 := V.flatMap fun b => bts b 8
/-- Targets' bytes. -/
def tB (T : List Int) : List UInt8 := T.flatMap fun x => bts (u64 x) 8
/-- What stands ahead of these. -/
def hd (k c b t d l p r q : Int) : List UInt8 := hB ++ cb k c b t d l p ++ bts (u64 r) 4 ++ bts (u64 q) 2
/-- A dataset's bytes. -/
def dsb (k c b t d l p r q : Int) (V : List Nat) (T : List Int) : List UInt8 := hd k c b t d l p r q ++ vB V ++ tB T
theorem vB_len (V : List Nat) : (vB V).length = 8 * V.length := by
  induction V with
  | nil => rfl
  | cons x V ih => simp [vB, bts_len] at ih ⊢; omega
theorem tB_len (T : List Int) : (tB T).length = 8 * T.length := by
  induction T with
  | nil => rfl
  | cons x V ih => simp [tB, bts_len] at ih ⊢; omega
theorem hd_len (k c b t d l p r q : Int) : (hd k c b t d l p r q).length = 24 := by simp [hd, hB, cb_len, bts_len]
theorem dsb_len (k c b t d l p r q : Int) (V : List Nat) (T : List Int) : (dsb k c b t d l p r q V T).length = 24 + 8 * V.length + 8 * T.length := by
  simp only [dsb, List.length_append, hd_len, vB_len, tB_len]
theorem vB_step (V : List Nat) (j : Nat) (h : j < V.length) : vB (V.take (j + 1)) = vB (V.take j) ++ bts (V.getD j 0) 8 := by
  have e : V.take (j + 1) = V.take j ++ [V.getD j 0] := by rw [List.take_add_one, List.getElem?_eq_getElem h]; simp [List.getD_eq_getElem?_getD, h]
  rw [e, vB, List.flatMap_append, List.flatMap_cons, List.flatMap_nil, List.append_nil]
  rfl
theorem tB_step (V : List Int) (j : Nat) (h : j < V.length) : tB (V.take (j + 1)) = tB (V.take j) ++ bts (u64 (V.getD j 0)) 8 := by
  have e : V.take (j + 1) = V.take j ++ [V.getD j 0] := by rw [List.take_add_one, List.getElem?_eq_getElem h]; simp [List.getD_eq_getElem?_getD, h]
  rw [e, tB, List.flatMap_append, List.flatMap_cons, List.flatMap_nil, List.append_nil]
  rfl
theorem vB_le (V : List Nat) (j : Nat) : (vB (V.take j)).length ≤ 8 * V.length := by rw [vB_len, List.length_take]; omega
theorem tB_le (V : List Int) (j : Nat) : (tB (V.take j)).length ≤ 8 * V.length := by rw [tB_len, List.length_take]; omega

theorem Own.base {α : Type} {K : Kind α} {w : World} {B C : Nat} {v : Value} {l : List α} (h : Own K w B v l) (hc : C ≤ B) : Own K w C v l := by
  obtain ⟨h1, ⟨rfl, h0⟩ | ⟨g, cap, cur, rfl, hB, hg, hc, hm, hs, ht⟩⟩ := h
  · exact ⟨h1, .inl ⟨rfl, h0⟩⟩
  · exact ⟨h1, .inr ⟨g, cap, cur, rfl, by omega, hg, hc, hm, hs, ht⟩⟩
theorem holdsHB (w : World) (n : Nat) (hn : n = w.heap.size) : HoldsE KB (w.alloc (.cells #[.int .u8 72, .int .u8 79, .int .u8 82, .int .u8 78] 5 (4, 5))) (some ⟨n, 0, none⟩) hB := by
  refine .inr ⟨n, 0, rfl, by simp [hn], fun j hj => ?_⟩
  rw [Nat.zero_add, Go.Joins.cell_alloc_mark_at w _ _ _ n j hn]
  match j, hj with
  | 0, _ => rfl
  | 1, _ => rfl
  | 2, _ => rfl
  | 3, _ => rfl

set_option maxRecDepth 20000 in
set_option maxHeartbeats 4000000 in
theorem dbytes_any (k c b t d l p r q : Int) (aV aT : Option Addr) (nV cV nT cT : Nat) (V : List Nat) (T : List Int) (hVl : V.length = nV) (hTl : T.length = nT) (hn : nV ≤ 1000) (hn2 : nT ≤ 1000)
    (hz : chk k c b t d l p = 0) (w : World) (hV : HoldsE KF w aV V) (hT : HoldsE K64 w aT T) :
    Calls Try.prog 23 #[ds k c b t d l p r q (.slice aV nV cV) (.slice aT nT cT)] w fun e w' => ∃ v, e = .returned v ∧ Own KB w' w.heap.size v (dsb k c b t d l p r q V T) ∧ Below w.heap.size w w' := by
  have D0 := lay_dat w 36 k c b t d l p r q (.slice aV nV cV) (.slice aT nT cT)
  have b0 := lay_below w 36 k c b t d l p r q (.slice aV nV cV) (.slice aT nT cT)
  have z0 := lay_size w 36 k c b t d l p r q (.slice aV nV cV) (.slice aT nT cT)
  have pp := fun W A (h : HoldsE KB W A hB) (hA : A = none → 4 = 0) => cput_any A 4 4 hB rfl (by decide) hA k c b t d l p W h
  have HC : Hid (cbs k c b t d l p = cb k c b t d l p) := if_pos hz
  rw [HC.out] at pp
  have HBL := Lib.hid (cb_len k c b t d l p)
  unfold ds
  unfold cf at pp
  clear hz HC
  have hcv : (convert 30 30 (.slice (some ⟨w.heap.size + 1, 0, none⟩) 4 4)).run Try.prog ((w.alloc (.cells #[.int .i64 k, .int .i64 c, .int .i64 b, .int .i64 t, .int .i64 d, .int .i64 l, .int .i64 p, .int .i64 r, .int .i64 q, .slice aV nV cV, .slice aT nT cT] 36)).alloc (.cells #[.int .u8 72, .int .u8 79, .int .u8 82, .int .u8 78] 5)) = .ok (.slice (some ⟨w.heap.size + 1, 0, none⟩) 4 4) ((w.alloc (.cells #[.int .i64 k, .int .i64 c, .int .i64 b, .int .i64 t, .int .i64 d, .int .i64 l, .int .i64 p, .int .i64 r, .int .i64 q, .slice aV nV cV, .slice aT nT cT] 36)).alloc (.cells #[.int .u8 72, .int .u8 79, .int .u8 82, .int .u8 78] 5 (4, 5))) :=
    Go.Joins.run_convert_bytes_const_at (lay w 36 k c b t d l p r q (.slice aV nV cV) (.slice aT nT cT)) _ _ #[.int .u8 72, .int .u8 79, .int .u8 82, .int .u8 78] 4 4 _ (by omega) Try.underlying30 Try.underlying5
  go_enter Try.func23, Try.ntmps23
  go_wp2_with fail
  change Calls Try.prog _ _ ((lay w 36 k c b t d l p r q (.slice aV nV cV) (.slice aT nT cT)).alloc (.cells #[.int .u8 72, .int .u8 79, .int .u8 82, .int .u8 78] 5 (4, 5))) _
  clear hcv
  generalize lay w 36 k c b t d l p r q (.slice aV nV cV) (.slice aT nT cT) = w0 at *
  have b1 := (Below.refl w0.heap.size w0).alloc (Nat.le_refl _) (.cells #[.int .u8 72, .int .u8 79, .int .u8 82, .int .u8 78] 5 (4, 5))
  have h1 := holdsHB w0 (w.heap.size + 1) (by omega)
  have D1 := D0.below b1 D0.lt
  have bb1 := b0.trans (b1.mono b0.size)
  generalize w0.alloc (.cells #[.int .u8 72, .int .u8 79, .int .u8 82, .int .u8 78] 5 (4, 5)) = w1 at *
  obtain ⟨N, hN⟩ : ∃ N, w.heap.size = N := ⟨_, rfl⟩
  have HN := Lib.hid hN
  rw [hN] at D1 h1 ⊢
  clear hN b0 b1 D0 z0
  refine (pp _ _ h1 (fun h => by cases h)).mono ?_
  rintro e w2 ⟨v2, rfl, ta, b2⟩
  obtain ⟨a2, c2, rfl, hA2, ho2⟩ := ta
  have D2 := D1.below b2 D1.lt
  have bb2 := bb1.trans (b2.mono bb1.size)
  obtain ⟨H1, hH1⟩ : ∃ H, hB ++ cb k c b t d l p = H := ⟨_, rfl⟩
  rw [hH1] at ho2
  have HH1 := Lib.hid hH1
  have l1 : H1.length = 18 := by rw [← hH1, List.length_append, HBL.out]; rfl
  rw [hH1, l1]
  clear pp h1 D1 b2 bb1 hH1
  obtain ⟨c0, c1, c2', c3, c4, c5, c6, c7, c8, c9, c10⟩ := D2.cells
  have p1 := put_any 4 a2 18 c2 H1 l1 (by omega) hA2 (u64 r) w2 ho2
  rw [u64_int, show cnt 4 = 4 from rfl] at p1
  clear ho2
  go_wp2_with fail
  refine p1.mono ?_
  rintro e w3 ⟨v3, rfl, own3, b3⟩
  have D3 := D2.below b3 D2.lt
  have bb3 := bb2.trans (b3.mono bb2.size)
  obtain ⟨H2, hH2⟩ : ∃ H, H1 ++ bts (u64 r) 4 = H := ⟨_, rfl⟩
  rw [hH2] at own3
  have HH2 := Lib.hid hH2
  have l2 : H2.length = 22 := by rw [← hH2, List.length_append, bts_len, l1]
  clear p1 D2 b3 bb2 hH2 c0 c1 c2' c3 c4 c5 c6 c7 c8 c9 c10
  obtain ⟨a3, c3', rfl, hA3, _, _, ho3⟩ := own3.holds
  rw [l2]
  obtain ⟨c0, c1, c2', c3, c4, c5, c6, c7, c8, c9, c10⟩ := D3.cells
  have p2 := put_any 2 a3 22 c3' H2 l2 (by omega) hA3 (u64 q) w3 ho3
  rw [u64_int, show cnt 2 = 2 from rfl] at p2
  clear ho3 own3
  go_wp2_with fail
  refine p2.mono ?_
  rintro e w4 ⟨v4, rfl, own4, b4⟩
  have D4 := D3.below b4 D3.lt
  have bb4 := bb3.trans (b4.mono bb3.size)
  have HH3 : Hid (H2 ++ bts (u64 q) 2 = hd k c b t d l p r q) := by show _ = _; rw [← HH2.out, ← HH1.out]; rfl
  rw [HH3.out] at own4
  have HL := Lib.hid (hd_len k c b t d l p r q)
  obtain ⟨B, hB⟩ : ∃ B, w3.heap.size = B := ⟨_, rfl⟩
  have hwB : w.heap.size ≤ B := by rw [← hB]; exact bb3.size
  have hB4 : B ≤ w4.heap.size := by rw [← hB]; exact b4.size
  rw [hB] at own4
  obtain ⟨H, hH⟩ : ∃ H, hd k c b t d l p r q = H := ⟨_, rfl⟩
  rw [hH] at own4 HL
  have HH := Lib.hid hH
  have hNB : N < B := by rw [← hB]; exact D3.lt
  clear p2 D3 b4 bb3 hH hB HH1 HH2 HH3 l1 l2 HBL c0 c1 c2' c3 c4 c5 c6 c7 c8 c9 c10
  obtain ⟨c0, c1, c2', c3, c4, c5, c6, c7, c8, c9, c10⟩ := D4.cells
  have gr := grow_any B (8 * (nV + nT)) v4 H w4 own4 hB4 (by rw [HL.out]; omega)
  go_wp2_with fail
  refine gr.mono ?_
  rintro e w5 ⟨v5, rfl, own5, b5⟩
  have D5 := D4.below b5 D4.lt
  have bb5 := bb4.trans (b5.mono bb4.size)
  have hB5 : B ≤ w5.heap.size := Nat.le_trans hB4 b5.size
  clear gr D4 b5 bb4 own4 hB4 c0 c1 c2' c3 c4 c5 c6 c7 c8 c9 c10
  obtain ⟨c0, c1, c2', c3, c4, c5, c6, c7, c8, c9, c10⟩ := D5.cells
  go_wp2_with fail
  clear c0 c1 c2' c3 c4 c5 c6 c7 c8 c9 c10
  go_loopw [37, 4] (fun v37 v4 wr => ∃ j : Nat, j ≤ nV ∧ v37 = .int .i64 (j : Int) ∧ Own KB wr B v4 (H ++ vB (V.take j)) ∧ Dat N (dv k c b t d l p r q (.slice aV nV cV) (.slice aT nT cT)) wr ∧ B ≤ wr.heap.size ∧ Below w.heap.size w wr) (fun v37 _ _ => nV - (intOf v37).toNat)
  case atStart => exact ⟨0, by omega, rfl, by simpa [vB] using own5, D5, hB5, bb5⟩
  case round =>
    obtain ⟨j, hj, rfl, own, D, hB, bel⟩ := hrel
    clear own5 D5 hB5 bb5
    by_cases hlt : j < nV
    · obtain ⟨ga, off, rfl, hga, hrow⟩ : ∃ g off, aV = some ⟨g, off, none⟩ ∧ g < w.heap.size ∧ ∀ j, j < V.length → w.cell? ⟨g, off + j, none⟩ = some (.float .f64 (V.getD j 0)) := by
        rcases hV with rfl | h'
        · simp at hVl; omega
        · exact h'
      have HT := Lib.hid (vB_step V j (by omega))
      have cx := (bel.cell (by exact hga)).trans (hrow j (by omega))
      obtain ⟨x, HX⟩ : ∃ x, Hid (V.getD j 0 = x) := ⟨_, rfl⟩
      rw [HX.out] at cx HT
      have pv := putValue_any none 0 0 [] rfl (by decide) (fun _ => rfl) x wr (.inl rfl)
      rw [List.nil_append] at pv
      have hll : (H ++ vB (V.take j)).length ≤ 24 + 8 * nV := by rw [List.length_append, HL.out]; have := vB_le V j; omega
      have i1 : (j : Int) < (nV : Int) := by omega
      clear hV hrow hT hTl
      go_wp2_with fail
      refine pv.mono ?_
      rintro e w6 ⟨v6, rfl, own6, b6⟩
      replace own := own.below b6
      have D6 := D.below b6 D.lt
      have bel6 := bel.trans (b6.mono bel.size)
      have hB6 : B ≤ w6.heap.size := Nat.le_trans hB b6.size
      obtain ⟨a6, c6, rfl, cam⟩ := own6.tale.came (by rw [bts_len]; decide)
      have l8 : (bts x 8).length = 8 := bts_len x 8
      rw [l8] at cam ⊢
      clear pv D b6 bel own6 hB cx
      go_wp2_with (at_builtin; refine app_own okB rfl _ _ rfl B hB6 _ _ rfl own a6 8 c6 _ rfl cam (by rw [l8]; omega) ?_)
      intro v7 w7 own7 b7
      have HD := Lib.hid (D6.below b7 hNB)
      have HB := Lib.hid (bel6.trans (b7.mono hwB))
      have hB7 : B ≤ w7.heap.size := Nat.le_trans hB6 b7.size
      have HO : Hid (Own KB w7 B v7 (H ++ vB (V.take (j + 1)))) := by
        show Own KB w7 B v7 _
        rw [HT.out]; first | exact own7 | (rw [← List.append_assoc]; exact own7)
      clear own cam own7 b7 D6 bel6 HT hll l8
      go_wp2_with fail
      go_roundw
      case rel => exact ⟨j + 1, by omega, by go_num, HO.out, HD.out, hB7, HB.out⟩
      case measure => simp [intOf]; omega
    · have i1 : ¬ (j : Int) < (nV : Int) := by omega
      obtain rfl : j = nV := by omega
      rw [List.take_of_length_le (by omega)] at own
      obtain ⟨H2, hH2⟩ : ∃ H2, H ++ vB V = H2 := ⟨_, rfl⟩
      have HH2 := Lib.hid hH2
      have HL2 : Hid (H2.length = 24 + 8 * j) := by show _ = _; rw [← hH2, List.length_append, HL.out, vB_len]; omega
      rw [hH2] at own
      clear hH2 HL hV hlt
      obtain ⟨c0, c1, c2', c3, c4, c5, c6, c7, c8, c9, c10⟩ := D.cells
      go_wp2_with fail
      clear c0 c1 c2' c3 c4 c5 c6 c7 c8 c9 c10
      go_loopw [49, 4] (fun v49 v4 wz => ∃ i : Nat, i ≤ nT ∧ v49 = .int .i64 (i : Int) ∧ Own KB wz B v4 (H2 ++ tB (T.take i)) ∧ B ≤ wz.heap.size ∧ Below w.heap.size w wz) (fun v49 _ _ => nT - (intOf v49).toNat)
      case atStart => exact ⟨0, by omega, rfl, by simpa [tB] using own, hB, bel⟩
      case round =>
        obtain ⟨i, hi, rfl, own2, hB2, bel2⟩ := hrel
        clear own D hB bel
        by_cases hlt : i < nT
        · obtain ⟨ga, off, rfl, hga, hrow⟩ : ∃ g off, aT = some ⟨g, off, none⟩ ∧ g < w.heap.size ∧ ∀ j, j < T.length → w.cell? ⟨g, off + j, none⟩ = some (.int .i64 (T.getD j 0)) := by
            rcases hT with rfl | h'
            · simp at hTl; omega
            · exact h'
          have HT := Lib.hid (tB_step T i (by omega))
          have cx := (bel2.cell (by exact hga)).trans (hrow i (by omega))
          obtain ⟨x, HX⟩ : ∃ x, Hid (T.getD i 0 = x) := ⟨_, rfl⟩
          rw [HX.out] at cx HT
          have pv := putWhole_any none 0 0 [] rfl (by decide) (fun _ => rfl) (u64 x) x (u64_int x).symm wr (.inl rfl)
          rw [List.nil_append] at pv
          have hll : (H2 ++ tB (T.take i)).length ≤ 24 + 8 * j + 8 * nT := by rw [List.length_append, HL2.out]; have := tB_le T i; omega
          have i2 : (i : Int) < (nT : Int) := by omega
          clear hT hrow
          go_wp2_with fail
          refine pv.mono ?_
          rintro e w6 ⟨v6, rfl, own6, b6⟩
          replace own2 := own2.below b6
          have bel6 := bel2.trans (b6.mono bel2.size)
          have hB6 : B ≤ w6.heap.size := Nat.le_trans hB2 b6.size
          obtain ⟨a6, c6, rfl, cam⟩ := own6.tale.came (by rw [bts_len]; decide)
          have l8 : (bts (u64 x) 8).length = 8 := bts_len _ 8
          rw [l8] at cam ⊢
          clear pv b6 bel2 own6 hB2 cx
          go_wp2_with (at_builtin; refine app_own okB rfl _ _ rfl B hB6 _ _ rfl own2 a6 8 c6 _ rfl cam (by rw [l8]; omega) ?_)
          intro v7 w7 own7 b7
          have HB := Lib.hid (bel6.trans (b7.mono hwB))
          have hB7 : B ≤ w7.heap.size := Nat.le_trans hB6 b7.size
          have HO : Hid (Own KB w7 B v7 (H2 ++ tB (T.take (i + 1)))) := by
            show Own KB w7 B v7 _
            rw [HT.out]; first | exact own7 | (rw [← List.append_assoc]; exact own7)
          clear own2 cam own7 b7 bel6 HT hll l8
          go_wp2_with fail
          go_roundw
          case rel => exact ⟨i + 1, by omega, by go_num, HO.out, hB7, HB.out⟩
          case measure => simp [intOf]; omega
        · have i2 : ¬ (i : Int) < (nT : Int) := by omega
          rw [List.take_of_length_le (by omega)] at own2
          have HO : Hid (Own KB wr B u4 (dsb k c b t d l p r q V T)) := by
            show Own KB wr B u4 _
            unfold dsb
            rw [HH.out, HH2.out]; exact own2
          go_wp2_with fail
          go_ret
          exact ⟨_, rfl, HO.out.base hwB, bel2⟩
end Go.Proofs.Ytbmbgfmhejahjaa
