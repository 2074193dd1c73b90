/-
  ShardSame: in however many parts, the histogram of rows whose weights and targets are within the limits is the same, by the program. Conditions: targets, weights, rows of 64 bits with a sign; cells of 16 bits.
-/
import Derived.Test.YtebdlmjpgohngaaShR
import Derived.Test.YtebdlmjpgohngaaMgD
namespace Go.Proofs.Ytebdlmjpgohngaa
open Go.RowKit

/-- A row that is within the limits. -/
def OkR (s : SD) (x : Int) : Prop := 0 ≤ x ∧ x < (s.T.length : Int) ∧ x < (s.W.length : Int) ∧ 0 ≤ s.W.getD x.toNat 0 ∧ s.W.getD x.toNat 0 ≤ 1048576 ∧ -1048576 ≤ s.T.getD x.toNat 0 ∧ s.T.getD x.toNat 0 ≤ 1048576
theorem wsum_take {v : Int → Int} {rows : List Int} {j : Nat} (hj : j < rows.length) : wsum v (rows.take (j + 1)) = wsum v (rows.take j) + v (rows.getD j 0) := by
  rw [List.take_succ_eq_append_getElem hj, wsum_append]
  simp [wsum, List.getD_eq_getElem?_getD, hj]
theorem wsum_room {s : SD} : ∀ {rows : List Int}, (∀ x ∈ rows, OkR s x) → 0 ≤ wsum (fun x => s.W.getD x.toNat 0) rows ∧ wsum (fun x => s.W.getD x.toNat 0) rows ≤ rows.length * 1048576
  | [], _ => by simp [wsum]
  | x :: r, h => by
    rw [wsum_cons]
    obtain ⟨-, -, -, h1, h2, -⟩ := h x (by simp)
    have h3 := wsum_room (s := s) (rows := r) fun y hy => h y (by simp [hy])
    simp only [List.length_cons]
    push_cast
    omega

set_option maxRecDepth 20000 in
set_option maxHeartbeats 8000000 in
theorem sameS_walk (s : SD) (aC aT aW aR : Option Addr) (cC cT cW nR cR : Nat) (col p : Int) (pa : Nat) (rows : List Int) (hnR : rows.length = nR) (w : World) (hC : HoldsE KW w aC s.C) (hT : HoldsE KL w aT s.T) (hW : HoldsE KN w aW s.W) (h16 : In16 s.C) (wT : Wholes s.T) (wW : Wholes s.W) (hrow : HoldsE KN w aR rows) (wR : Wholes rows) (hcap : nR ≤ cR) (hnone : aR = none → cR = 0) :
    Calls Try.prog 6 #[.agg (smpA s.k s.c s.b s.t s.d s.l s.p s.r s.q (.slice aC s.C.length cC) (.slice aT s.T.length cT) (.slice aW s.W.length cW)), .agg #[.int .i64 col, .slice aR nR cR, .int .i64 p], .int .u8 (pa : Int)] w fun e w' => e = .returned (.bool true) ∧ Below w.heap.size w w' := by
  have hg := fun w1 => greatS_any s.k s.c s.b s.t s.d s.l s.p s.r s.q aC aT aW s.C.length cC s.T.length cT s.W.length cW w1
  obtain ⟨gr, hgr⟩ : ∃ gr, decide (600 < s.C.length ∨ 200 < s.T.length ∨ 200 < s.W.length) = gr := ⟨_, rfl⟩
  rw [hgr] at hg
  obtain ⟨kk, hkk⟩ : ∃ kk, pa % 64 = kk := ⟨_, rfl⟩
  obtain ⟨k1, hk1⟩ : ∃ k1, kk + 1 = k1 := ⟨_, rfl⟩
  have hrem : Int.tmod (pa : Int) 64 = (kk : Int) := by rw [← hkk]; rfl
  have hk64 : 1 ≤ k1 ∧ k1 ≤ 64 := by omega
  have HWK := Lib.hid (wrap_in (kk : Int) (by omega) (by omega))
  have hw1 : wrap64 (1 + (kk : Int)) = (k1 : Int) := by rw [wrap_in _ (by omega) (by omega)]; omega
  have HH : Hid (gr = false → nR ≤ 100 → (∀ x ∈ rows, OkR s x) → wsum (fun x => s.W.getD x.toNat 0) rows ≤ 1048576 → ∃ D E, Few D ∧ (∀ w1, Below w.heap.size w w1 →
      Calls Try.prog 12 #[.agg (smpA s.k s.c s.b s.t s.d s.l s.p s.r s.q (.slice aC s.C.length cC) (.slice aT s.T.length cT) (.slice aW s.W.length cW)), .int .i64 col, .slice aR nR cR] w1 fun e w' => Made D E w1 e w') ∧ (∀ w1, Below w.heap.size w w1 →
      Calls Try.prog 14 #[.agg (smpA s.k s.c s.b s.t s.d s.l s.p s.r s.q (.slice aC s.C.length cC) (.slice aT s.T.length cT) (.slice aW s.W.length cW)), .int .i64 col, .slice aR nR cR, .int .i64 (k1 : Int)] w1 fun e w' => Made D E w1 e w')) := by
    intro h1 h2 h3 h4
    rw [h1] at hgr
    have hgr := of_decide_eq_false hgr
    have hS : HoldsS s aC aT aW w := ⟨hC, hT, hW, h16, wT, wW, by omega⟩
    refine ⟨(histF s col rows).1, (histF s col rows).2, few_hist s col rows, fun w1 hb => hist_any s aC aT aW aR cC cT cW nR cR col rows hnR (by omega) w1 (hS.below hb) (hrow.below hb), fun w1 hb => ?_⟩
    have := parts_any s aC aT aW aR cC cT cW nR cR col rows (k1 : Int) hnR (by omega) w1 (hS.below hb) (hrow.below hb) hcap hnone
    rw [parts_same s col rows k1 hk64.1 hk64.2 (fun x hx => by obtain ⟨a1, a2, -, a3, -, a4, a5⟩ := h3 x hx; exact ⟨a1, a2, a3, a4, a5⟩) h4] at this
    exact this
  have HOK : Hid (∀ x, OkR s x ↔ 0 ≤ x ∧ x < (s.T.length : Int) ∧ x < (s.W.length : Int) ∧ 0 ≤ s.W.getD x.toNat 0 ∧ s.W.getD x.toNat 0 ≤ 1048576 ∧ -1048576 ≤ s.T.getD x.toNat 0 ∧ s.T.getD x.toNat 0 ≤ 1048576) := fun x => Iff.rfl
  have HRM : Hid (∀ A : List Int, (∀ x ∈ A, OkR s x) → 0 ≤ wsum (fun x => s.W.getD x.toNat 0) A ∧ wsum (fun x => s.W.getD x.toNat 0) A ≤ A.length * 1048576) := fun A h => wsum_room h
  have HNR := Lib.hid hnR
  have HROW := Lib.hid hrow
  have HWR := Lib.hid wR
  have HT := Lib.hid hT
  have HW := Lib.hid hW
  have HWT := Lib.hid wT
  have HWW := Lib.hid wW
  obtain ⟨OK, hOK⟩ : ∃ OK, OkR s = OK := ⟨_, rfl⟩
  rw [hOK] at HH HOK HRM
  clear hrow wR hT hW wT wW hgr hkk hk1 hk64 hOK hnR hcap hnone hC h16
  obtain ⟨k, c, b, t, d', l, q0, r, q, C, T, W⟩ := s
  simp only at *
  obtain ⟨nT, hnT⟩ : ∃ n, T.length = n := ⟨_, rfl⟩
  obtain ⟨nW, hnW⟩ : ∃ n, W.length = n := ⟨_, rfl⟩
  have HTL := Lib.hid hnT
  have HWL := Lib.hid hnW
  rw [hnT, hnW] at hg HH HOK ⊢
  clear hnT hnW
  generalize C.length = nC at *
  obtain ⟨vv, hvv⟩ : ∃ vv : Int → Int, (fun x : Int => W.getD x.toNat 0) = vv := ⟨_, rfl⟩
  have HVV : Hid (∀ x, W.getD x.toNat 0 = vv x) := fun x => by rw [← hvv]
  obtain ⟨tv, htv⟩ : ∃ tv : Int → Int, (fun x : Int => T.getD x.toNat 0) = tv := ⟨_, rfl⟩
  have HTV : Hid (∀ x, T.getD x.toNat 0 = tv x) := fun x => by rw [← htv]
  rw [hvv] at HH HRM
  have HOK2 : Hid (∀ x, OK x ↔ 0 ≤ x ∧ x < (nT : Int) ∧ x < (nW : Int) ∧ 0 ≤ vv x ∧ vv x ≤ 1048576 ∧ -1048576 ≤ tv x ∧ tv x ≤ 1048576) := fun x => by rw [← HVV.out x, ← HTV.out x]; exact HOK.out x
  clear hvv htv HOK
  have hL := lay_two w (smpA k c b t d' l q0 r q (.slice aC nC cC) (.slice aT nT cT) (.slice aW nW cW)) #[.int .i64 col, .slice aR nR cR, .int .i64 p]
  obtain ⟨w2, hw2⟩ : ∃ w2, (w.alloc (.cells (smpA k c b t d' l q0 r q (.slice aC nC cC) (.slice aT nT cT) (.slice aW nW cW)) 38)).alloc (.cells #[.int .i64 col, .slice aR nR cR, .int .i64 p] 40) = w2 := ⟨_, rfl⟩
  rw [hw2] at hL
  have HX := Lib.hid hL.1
  have HA := Lib.hid hL.2.1
  have HB := Lib.hid hL.2.2
  clear hL
  unfold smpA at hw2 hg HH ⊢
  go_enter Try.func6, Try.ntmps6
  go_upto_region 1 with fail
  clear hw2
  go_cut [33] (fun s33 wx => ∃ g : Bool, s33 = .bool g ∧ (g = false → gr = false ∧ nR ≤ 100) ∧ Below w2.heap.size w2 wx)
  case first =>
    clear HH
    obtain ⟨⟨c0, c1, c2, c3, c4, c5, c6⟩, ⟨c7, c8, c9⟩, cT', cW'⟩ := HX.out.cells
    have HGR : Hid (gr = false ∨ gr = true) := by cases gr <;> simp [Hid]
    by_cases hgr : gr = true
    · subst hgr
      go_wp2_with fail
      refine (hg _).mono ?_
      rintro e w3 ⟨rfl, b3⟩
      go_wp2_with fail
      go_meet
      exact ⟨true, rfl, fun h => (by cases h), b3⟩
    · obtain rfl : gr = false := by simpa using hgr
      by_cases hm : 100 < nR
      · have i1 : (100 : Int) < (nR : Int) := by omega
        clear hm
        go_wp2_with fail
        refine (hg _).mono ?_
        rintro e w3 ⟨rfl, b3⟩
        obtain ⟨-, a1, -⟩ := (HA.out.on b3).cells
        clear c0 c1 c2 c3 c4 c5 c6 c7 c8 c9 cT' cW'
        go_wp2_with fail
        go_meet
        exact ⟨true, rfl, fun h => (by cases h), b3⟩
      · have i1 : ¬ (100 : Int) < (nR : Int) := by omega
        have HM : Hid (nR ≤ 100) := by show _ ≤ _; omega
        clear hm
        by_cases hb : 20 < b
        · go_wp2_with fail
          refine (hg _).mono ?_
          rintro e w3 ⟨rfl, b3⟩
          obtain ⟨-, a1, -⟩ := (HA.out.on b3).cells
          clear c0 c1 c2 c3 c4 c5 c6 c7 c8 c9 cT' cW'
          obtain ⟨⟨c0, c1, c2, c3, c4, c5, c6⟩, -⟩ := (HX.out.on b3).cells
          go_wp2_with fail
          go_meet
          exact ⟨true, rfl, fun h => (by cases h), b3⟩
        · go_wp2_with fail
          refine (hg _).mono ?_
          rintro e w3 ⟨rfl, b3⟩
          obtain ⟨-, a1, -⟩ := (HA.out.on b3).cells
          clear c0 c1 c2 c3 c4 c5 c6 c7 c8 c9 cT' cW'
          obtain ⟨⟨c0, c1, c2, c3, c4, c5, c6⟩, -⟩ := (HX.out.on b3).cells
          have e1 : decide (20 < b) = false := decide_eq_false (by omega)
          clear hb
          go_wp2_with fail
          go_meet
          exact ⟨_, rfl, fun _ => ⟨by first | trivial | rfl, HM.out⟩, b3⟩
  case rest =>
    obtain ⟨g, rfl, hgf, hB⟩ := hcut
    obtain ⟨wq, rfl⟩ : ∃ wq, wq = wc := ⟨_, rfl⟩
    replace HX := Lib.hid (HX.out.on hB)
    replace HA := Lib.hid (HA.out.on hB)
    replace HB := Lib.hid (HB.out.trans (hB.mono HB.out.size))
    clear hB hg
    cases g
    · obtain ⟨hg1, hg2⟩ := hgf rfl
      have HG1 := Lib.hid hg1
      have HG2 := Lib.hid hg2
      clear hgf hg1 hg2
      obtain ⟨a0, a1, a2⟩ := HA.out.cells
      have H0 : Hid (∀ x ∈ rows.take 0, OK x) := fun x h => by simp at h
      have hz : (0 : Int) = wsum vv (rows.take 0) := by simp [wsum]
      have HZ := Lib.hid hz
      clear hz
      go_wp2_with fail
      clear a0 a1 a2
      go_loopw [7, 38] (fun sv iv wr => ∃ (j : Nat) (tot : Int), j ≤ nR ∧ sv = .int .i64 tot ∧ iv = .int .i64 (j : Int) ∧ Hid (tot = wsum vv (rows.take j)) ∧ Hid (∀ x ∈ rows.take j, OK x) ∧ Hid (wr = wq)) (fun _ iv _ => nR - (intOf iv).toNat)
      case atStart => exact ⟨0, 0, Nat.zero_le _, rfl, rfl, HZ.out, H0.out, rfl⟩
      case round =>
        clear H0 HZ
        obtain ⟨j, tot, ht, rfl, rfl, HTOT, HO, HWX⟩ := hrel
        by_cases hlt : j < nR
        · have hlt2 : (j : Int) < (nR : Int) := by omega
          have HT2 := Lib.hid hlt
          have HNX := Lib.hid (next_num hlt (by have := HG2.out; omega))
          have hjr : j < rows.length := by have := HNR.out; omega
          have hX := HX.out
          have hBB := HB.out
          rw [← HWX.out] at hX hBB
          obtain ⟨gR, oR, rfl, lgR, fR⟩ := HROW.out.at (n := j) hjr
          have f0 := (hBB.cell (by exact lgR)).trans (fR j hjr)
          change wr.cell? ⟨gR, oR + j, none⟩ = some (.int .i64 (rows.getD j 0)) at f0
          have hwr := HWR.out j hjr
          have hst := wsum_take (v := vv) hjr
          have htk : ∀ y, y ∈ rows.take (j + 1) → y ∈ rows.take j ∨ y = rows.getD j 0 := by
            intro y hy
            rw [List.take_succ_eq_append_getElem hjr] at hy
            rcases List.mem_append.1 hy with h | h
            · exact .inl h
            · right; rw [List.mem_singleton.1 h]; simp [List.getD_eq_getElem?_getD, hjr]
          have HTK : Hid (∀ y, y ∈ rows.take (j + 1) → y ∈ rows.take j ∨ y = rows.getD j 0) := htk
          have HST := Lib.hid hst
          have hrm := HRM.out (rows.take j) HO.out
          rw [← HTOT.out] at hrm
          have hln : (rows.take j).length = j := by simp; omega
          rw [hln] at hrm
          have HRMJ := Lib.hid hrm
          generalize rows.getD j 0 = x at *
          have HWX0 := Lib.hid hwr
          clear hst hlt ht lgR fR hjr htk hrm hln hwr
          go_upto_region 7 with fail
          go_cut [89] (fun s89 wy => ∃ g : Bool, s89 = .bool g ∧ (g = false → OK x) ∧ wy = wr)
          case first =>
            obtain ⟨-, -, cT', cW'⟩ := hX.cells
            have HIFF := Lib.hid (HOK2.out x)
            by_cases h1 : x < 0
            · have t1 : decide (x < 0) = true := decide_eq_true h1
              clear h1
              go_wp2_with fail
              go_meet
              exact ⟨true, rfl, fun h => (by cases h), rfl⟩
            · obtain ⟨i, rfl⟩ : ∃ i : Nat, x = (i : Int) := ⟨x.toNat, by omega⟩
              by_cases h2 : nT ≤ i
              · have t2 : decide ((nT : Int) ≤ (i : Int)) = true := decide_eq_true (by omega)
                have t2' : decide (nT ≤ i) = true := decide_eq_true h2
                clear h1 h2
                go_wp2_with fail
                go_meet
                exact ⟨true, rfl, fun h => (by cases h), rfl⟩
              · have t2 : decide ((nT : Int) ≤ (i : Int)) = false := decide_eq_false (by omega)
                have t2' : decide (nT ≤ i) = false := decide_eq_false h2
                by_cases h3 : nW ≤ i
                · have t3 : decide ((nW : Int) ≤ (i : Int)) = true := decide_eq_true (by omega)
                  have t3' : decide (nW ≤ i) = true := decide_eq_true h3
                  clear h1 h2 h3
                  go_wp2_with fail
                  go_meet
                  exact ⟨true, rfl, fun h => (by cases h), rfl⟩
                · have t3 : decide ((nW : Int) ≤ (i : Int)) = false := decide_eq_false (by omega)
                  have t3' : decide (nW ≤ i) = false := decide_eq_false h3
                  have hiT : i < T.length := by have := HTL.out; omega
                  have hiW : i < W.length := by have := HWL.out; omega
                  have HIN : Hid (i < nT ∧ i < nW) := by show _ ∧ _; omega
                  obtain ⟨gT, oT, rfl, lgT, fT⟩ := HT.out.at (n := i) hiT
                  obtain ⟨gW, oW, rfl, lgW, fW⟩ := HW.out.at (n := i) hiW
                  have f1 := (hBB.cell (by exact lgT)).trans (fT i hiT)
                  have f2 := (hBB.cell (by exact lgW)).trans (fW i hiW)
                  have x1 := HTV.out (i : Int)
                  have x2 := HVV.out (i : Int)
                  rw [Int.toNat_natCast] at x1 x2
                  change wr.cell? ⟨gT, oT + i, none⟩ = some (.int .i64 (T.getD i 0)) at f1
                  change wr.cell? ⟨gW, oW + i, none⟩ = some (.int .i64 (W.getD i 0)) at f2
                  rw [x1] at f1
                  rw [x2] at f2
                  have i2 : (i : Int) < (nT : Int) := by omega
                  have i3 : (i : Int) < (nW : Int) := by omega
                  clear h1 h2 h3 hiT hiW lgT fT lgW fW x1 x2
                  generalize vv (i : Int) = y at *
                  generalize tv (i : Int) = z at *
                  by_cases h4 : y < 0
                  · have t4 : decide (y < 0) = true := decide_eq_true h4
                    clear h4
                    go_wp2_with fail
                    go_meet
                    exact ⟨true, rfl, fun h => (by cases h), rfl⟩
                  · have t4 : decide (y < 0) = false := decide_eq_false h4
                    by_cases h5 : 1048576 < y
                    · have t5 : decide (1048576 < y) = true := decide_eq_true h5
                      clear h4 h5
                      go_wp2_with fail
                      go_meet
                      exact ⟨true, rfl, fun h => (by cases h), rfl⟩
                    · have t5 : decide (1048576 < y) = false := decide_eq_false h5
                      by_cases h6 : 1048576 < z
                      · have t6 : decide (1048576 < z) = true := decide_eq_true h6
                        clear h4 h5 h6
                        go_wp2_with fail
                        go_meet
                        exact ⟨true, rfl, fun h => (by cases h), rfl⟩
                      · have t6 : decide (1048576 < z) = false := decide_eq_false h6
                        by_cases h7 : z < -1048576
                        · have t7 : decide (z < -1048576) = true := decide_eq_true h7
                          clear h4 h5 h6 h7
                          go_wp2_with fail
                          go_meet
                          exact ⟨true, rfl, fun h => (by cases h), rfl⟩
                        · have t7 : decide (z < -1048576) = false := decide_eq_false h7
                          have HOKX : Hid (OK (i : Int)) := HIFF.out.2 (by have := HIN.out; omega)
                          clear h4 h5 h6 h7
                          go_wp2_with fail
                          go_meet
                          exact ⟨false, rfl, fun _ => HOKX.out, rfl⟩
          case rest =>
            obtain ⟨g, rfl, hgx, rfl⟩ := hcut
            cases g
            · have hox := hgx rfl
              have hoo := (HOK2.out x).1 hox
              obtain ⟨i, rfl⟩ : ∃ i : Nat, x = (i : Int) := ⟨x.toNat, by omega⟩
              have HO2 : Hid (∀ y ∈ rows.take (j + 1), OK y) := fun y hy => by
                rcases HTK.out y hy with h | h
                · exact HO.out y h
                · rw [h]; exact hox
              have hiW : i < W.length := by have := HWL.out; omega
              obtain ⟨gW, oW, rfl, lgW, fW⟩ := HW.out.at (n := i) hiW
              have f2 := (hBB.cell (by exact lgW)).trans (fW i hiW)
              have x2 := HVV.out (i : Int)
              rw [Int.toNat_natCast] at x2
              change World.cell? _ ⟨gW, oW + i, none⟩ = some (.int .i64 (W.getD i 0)) at f2
              rw [x2] at f2
              have i3 : (i : Int) < (nW : Int) := by omega
              have hsum : wrap64 (tot + vv (i : Int)) = wsum vv (rows.take (j + 1)) := by
                rw [wrap_in _ (by have := HRMJ.out; have := HG2.out; have := HT2.out; omega) (by have := HRMJ.out; have := HG2.out; have := HT2.out; omega), HST.out, ← HTOT.out]
              have HSUM := Lib.hid hsum
              obtain ⟨-, -, -, cW'⟩ := hX.cells
              clear hox hoo hgx hiW lgW fW x2 hsum
              generalize vv (i : Int) = y at *
              go_wp2_with fail
              go_roundw
              case rel => exact ⟨j + 1, _, HT2.out, rfl, congrArg (Value.int .i64) HNX.out.1, HSUM.out, HO2.out, HWX.out⟩
              case measure => exact HNX.out.2
            · clear hgx HH
              go_wp2_with fail
              refine (fixed_any _).mono ?_
              rintro e w4 ⟨rfl, b4⟩
              go_wp2_with fail
              go_ret
              exact ⟨rfl, hBB.trans (b4.mono hBB.size)⟩
        · have hlt2 : ¬ (j : Int) < (nR : Int) := by omega
          obtain rfl : j = nR := by omega
          have htk : rows.take j = rows := List.take_of_length_le (by have := HNR.out; omega)
          rw [htk] at HTOT HO
          obtain rfl := HWX.out
          clear hlt ht htk HWX
          by_cases hbig : 1048576 < tot
          · have t1 : decide (1048576 < tot) = true := decide_eq_true hbig
            clear hbig HH
            go_wp2_with fail
            refine (fixed_any _).mono ?_
            rintro e w4 ⟨rfl, b4⟩
            go_wp2_with fail
            go_ret
            exact ⟨rfl, HB.out.trans (b4.mono HB.out.size)⟩
          · have t1 : decide (1048576 < tot) = false := decide_eq_false hbig
            obtain ⟨D, E, hf, hh1, hh2⟩ := HH.out HG1.out HG2.out HO.out (by rw [← HTOT.out]; omega)
            have HF := Lib.hid hf
            have HH1 : Hid (∀ w1 (hb : Below w.heap.size w w1), Calls _ _ _ w1 fun e w' => Made D E w1 e w') := hh1
            have HH2 : Hid (∀ w1 (hb : Below w.heap.size w w1), Calls _ _ _ w1 fun e w' => Made D E w1 e w') := hh2
            clear hbig HH hf hh1 hh2 HTOT HO
            obtain ⟨⟨c0, c1, c2, c3, c4, c5, c6⟩, ⟨c7, c8, c9⟩, cT', cW'⟩ := HX.out.cells
            obtain ⟨a0, a1, a2⟩ := HA.out.cells
            go_wp2_with fail
            refine (HH1.out _ HB.out).mono ?_
            rintro e v1 ⟨u1, rfl, ⟨x1, n1, k1', y1, m1, l1, rfl, hR1, -⟩, b1⟩
            clear c0 c1 c2 c3 c4 c5 c6 c7 c8 c9 cT' cW' a0 a1 a2
            go_upto_region 14 with fail
            obtain ⟨W1, hW1⟩ : ∃ W, v1.alloc (.cells #[.int .i64 D.k, .int .i64 D.b, .int .i64 D.c, .slice x1 n1 k1', .slice y1 m1 l1] 45) = W := ⟨_, rfl⟩
            have hV1 : VarH v1.heap.size D.k D.b D.c (.slice x1 n1 k1') (.slice y1 m1 l1) W1 := by rw [← hW1]; exact VarH.new _ _ _ _ _ _ _
            have bb1 : Below v1.heap.size v1 W1 := by rw [← hW1]; exact alloc_below _ _
            rw [hW1]
            have R1 := Lib.hid (hR1.below bb1)
            have bt1 := b1.trans (bb1.mono b1.size)
            obtain ⟨o1, ho1⟩ : ∃ o, v1.heap.size = o := ⟨_, rfl⟩
            rw [ho1] at hV1 ⊢
            have HV1 := Lib.hid hV1
            replace HX := Lib.hid (HX.out.on bt1)
            replace HA := Lib.hid (HA.out.on bt1)
            replace HB := Lib.hid (HB.out.trans (bt1.mono HB.out.size))
            clear hV1 hR1 bb1 b1 bt1 ho1 hW1
            obtain ⟨⟨c0, c1, c2, c3, c4, c5, c6⟩, ⟨c7, c8, c9⟩, cT', cW'⟩ := HX.out.cells
            obtain ⟨a0, a1, a2⟩ := HA.out.cells
            go_wp2_with fail
            rw [HWK.out, hw1]
            refine (HH2.out _ HB.out).mono ?_
            rintro e v2 ⟨u2, rfl, ⟨x2, n2, k2', y2, m2, l2, rfl, hR2, -⟩, b2⟩
            clear c0 c1 c2 c3 c4 c5 c6 c7 c8 c9 cT' cW' a0 a1 a2
            go_upto_region 15 with fail
            obtain ⟨W2, hW2⟩ : ∃ W, v2.alloc (.cells #[.int .i64 D.k, .int .i64 D.b, .int .i64 D.c, .slice x2 n2 k2', .slice y2 m2 l2] 45) = W := ⟨_, rfl⟩
            have hV2 : VarH v2.heap.size D.k D.b D.c (.slice x2 n2 k2') (.slice y2 m2 l2) W2 := by rw [← hW2]; exact VarH.new _ _ _ _ _ _ _
            have bb2 : Below v2.heap.size v2 W2 := by rw [← hW2]; exact alloc_below _ _
            rw [hW2]
            have R2 := Lib.hid (hR2.below bb2)
            have bt2 := b2.trans (bb2.mono b2.size)
            obtain ⟨o2, ho2⟩ : ∃ o, v2.heap.size = o := ⟨_, rfl⟩
            rw [ho2] at hV2 ⊢
            have HV2 := Lib.hid hV2
            replace HX := Lib.hid (HX.out.on bt2)
            replace HA := Lib.hid (HA.out.on bt2)
            replace HB := Lib.hid (HB.out.trans (bt2.mono HB.out.size))
            replace HV1 := Lib.hid (HV1.out.below bt2 HV1.out.lt)
            replace R1 := Lib.hid (R1.out.below bt2)
            clear hV2 hR2 bb2 b2 bt2 ho2 hW2
            have e1 : (E == E) = true := by simp
            obtain ⟨v0, v1', v2', v3, v4⟩ := HV1.out.five
            obtain ⟨z0, z1, z2, z3, z4⟩ := HV2.out.five
            go_wp2_with fail
            refine (fixed_any _).mono ?_
            rintro e w8 ⟨rfl, b8⟩
            replace HV1 := Lib.hid (HV1.out.below b8 HV1.out.lt)
            replace HV2 := Lib.hid (HV2.out.below b8 HV2.out.lt)
            replace R1 := Lib.hid (R1.out.below b8)
            replace R2 := Lib.hid (R2.out.below b8)
            replace HB := Lib.hid (HB.out.trans (b8.mono HB.out.size))
            clear v0 v1' v2' v3 v4 z0 z1 z2 z3 z4 b8
            obtain ⟨v0, v1', v2', v3, v4⟩ := HV1.out.five
            obtain ⟨z0, z1, z2, z3, z4⟩ := HV2.out.five
            have hsm := fun w9 (b9 : Below _ _ w9) => same_self13 D x1 y1 x2 y2 n1 k1' m1 l1 n2 k2' m2 l2 w9 (R1.out.below b9) (R2.out.below b9) HF.out
            go_wp2_with fail
            refine (hsm _ (Below.refl _ _)).mono ?_
            rintro e w9 ⟨rfl, b9⟩
            go_wp2_with fail
            go_ret
            exact ⟨rfl, HB.out.trans (b9.mono HB.out.size)⟩
    · clear HH hgf
      go_wp2_with fail
      refine (fixed_any _).mono ?_
      rintro e w4 ⟨rfl, b4⟩
      go_wp2_with fail
      go_ret
      exact ⟨rfl, HB.out.trans (b4.mono HB.out.size)⟩
end Go.Proofs.Ytebdlmjpgohngaa
