/-
  THE DOCUMENT's Put: a dataset's bytes, those that would be, read; or why it has none. Conditions: at most 500 values, 200 targets; values of 64 bits.
-/
import Derived.Test.YtbmbgfmhejahjaaPGet
import Derived.Test.YtbmbgfmhejahjaaRefCPut
namespace Go.Proofs.Ytbmbgfmhejahjaa
open Go.RowKit

/-- The text that is answered. -/
def pS (k c b t d l p r q : Int) (V : List Nat) (T : List Int) : List UInt8 := if eD k c b t d l p r q V T = 0 then dsb k c b t d l p r q V T else []
theorem fu_all {k c b t d lf p : Int} {r q : Nat} {V : List Nat} {T : List Int} (hc : chk k c b t d lf p = 0) (hr : r < 4294967296) (hq : r = 0 ∨ q < 65536) (hV : V.length = r * q) (hT : T.length = r) (h64 : ∀ x ∈ V, x < 18446744073709551616) (ht : In64s T) :
    fuE (dsb k c b t d lf p r q V T) = orE (eR r) (orE (eC r q) (orE (eI eV V) (eI (eT k c) T))) := by
  have g := gt_all hc hr hq hV hT h64 ht []
  rw [List.append_nil] at g
  unfold fuE
  rw [g]
  by_cases hz : orE (eR r) (orE (eC r q) (orE (eI eV V) (eI (eT k c) T))) = 0
  · have e1 := (orE_zero hz).1
    have hq2 : q < 65536 := by
      rcases hq with h0 | h
      · rw [h0] at e1; exact absurd e1 (by decide)
      · exact h
    obtain ⟨gs, _⟩ := g_all hc hr hq2 hV hT h64 ht []
    rw [List.append_nil] at gs
    rw [hz, orE_0 rfl, gs, if_pos (Nat.le_refl _)]
  · rw [orE_1 hz]
theorem pS_0 {k c b t d l p r q : Int} {V : List Nat} {T : List Int} (h : eD k c b t d l p r q V T ≠ 0) : pS k c b t d l p r q V T = [] := if_neg h
theorem wrap64_mul (r q : Int) (h0 : 0 ≤ r) (h1 : r ≤ 16777216) (h2 : 0 ≤ q) (h3 : q ≤ 16777216) : wrap64 (r * q) = r * q := by
  have m0 : 0 ≤ r * q := Int.mul_nonneg h0 h2
  have m1 : r * q ≤ 16777216 * 16777216 := Int.mul_le_mul h1 h3 h2 (by decide)
  generalize r * q = m at *
  unfold wrap64
  omega
theorem eD_8 {k c b t d l p r q : Int} {V : List Nat} {T : List Int} (h : ¬ shp r q V.length T.length) : eD k c b t d l p r q V T = 8 := if_neg h
theorem getD_bits (V : List Int) (j : Nat) (hj : j < V.length) : (bitsOf V).getD j 0 = (V.getD j 0).toNat := by simp [bitsOf, List.getD_eq_getElem?_getD, hj]
theorem string_room (l : List UInt8) (x : Nat) (h : l.length ≤ 10000) : ¬ 9223372036854775807 < (sb l).size + (sb (bts x 8)).size := by rw [sb_size, sb_size, bts_len]; omega

set_option maxRecDepth 20000 in
set_option maxHeartbeats 16000000 in
theorem pput_any (k c b t d l p r q : Int) (aV aT : Option Addr) (nV cV nT cT : Nat) (V T : List Int) (hVl : V.length = nV) (hTl : T.length = nT) (hn : nV ≤ 500) (hn2 : nT ≤ 200)
    (h64 : ∀ z ∈ V, 0 ≤ z ∧ z < 18446744073709551616) (ht : In64s T) (w : World) (hV0 : HoldsE KU w aV V) (hT0 : HoldsE K64 w aT T) :
    Calls Try.prog 11 #[ds k c b t d l p r q (.slice aV nV cV) (.slice aT nT cT)] w fun e w' => e = .returned (.tuple #[.string (sb (pS k c b t d l p r q (bitsOf V) T)), .int .i64 (eD k c b t d l p r q (bitsOf V) T)]) ∧ Below w.heap.size w w' := by
  have HA : Hid (∀ E, E ≠ 0 → eD k c b t d l p r q (bitsOf V) T = E → Value.tuple #[.string (sb []), .int .i64 E] = .tuple #[.string (sb (pS k c b t d l p r q (bitsOf V) T)), .int .i64 (eD k c b t d l p r q (bitsOf V) T)]) := fun E h1 h2 => by rw [pS_0 (by rw [h2]; exact h1), h2]
  have HSH : Hid (¬ shp r q nV nT → eD k c b t d l p r q (bitsOf V) T = 8) := fun h => eD_8 (by rw [bitsOf_len, hVl, hTl]; exact h)
  have hck := refCheck_any k c b t d l p
  have D0 := lay_dat w 27 k c b t d l p r q (.slice aV nV cV) (.slice aT nT cT)
  have b0 := lay_below w 27 k c b t d l p r q (.slice aV nV cV) (.slice aT nT cT)
  have HVL := Lib.hid hVl
  have HTL := Lib.hid hTl
  unfold ds
  unfold cf at hck
  clear hVl hTl
  go_enter Try.func11, Try.ntmps11
  go_upto_region 1 with fail
  change Code.wp _ _ _ _ (lay w 27 k c b t d l p r q (.slice aV nV cV) (.slice aT nT cT))
  have hV1 := hV0.below b0
  have hT1 := hT0.below b0
  generalize lay w 27 k c b t d l p r q (.slice aV nV cV) (.slice aT nT cT) = w0 at *
  obtain ⟨N, hN⟩ : ∃ N, w.heap.size = N := ⟨_, rfl⟩
  have HN := Lib.hid hN
  rw [hN] at D0 ⊢
  clear hN hV0 hT0
  obtain ⟨c0, c1, c2, c3, c4, c5, c6, c7, c8, c9, c10⟩ := D0.cells
  by_cases s1 : r < 0
  · have HE : Hid (eD k c b t d l p r q (bitsOf V) T = 8) := HSH.out (fun h => by have := of_decide_eq_true h.2.2.1; omega)
    go_wp2_with fail
    go_returns
    exact ⟨congrArg Ending.returned (HA.out 8 (by decide) HE.out), b0⟩
  by_cases s2 : 16777216 < r
  · have HE : Hid (eD k c b t d l p r q (bitsOf V) T = 8) := HSH.out (fun h => by have := h.1; omega)
    go_wp2_with fail
    go_returns
    exact ⟨congrArg Ending.returned (HA.out 8 (by decide) HE.out), b0⟩
  by_cases s3 : q < 0
  · have HE : Hid (eD k c b t d l p r q (bitsOf V) T = 8) := HSH.out (fun h => by have := of_decide_eq_true h.2.2.1; omega)
    go_wp2_with fail
    go_returns
    exact ⟨congrArg Ending.returned (HA.out 8 (by decide) HE.out), b0⟩
  by_cases s4 : 16777216 < q
  · have HE : Hid (eD k c b t d l p r q (bitsOf V) T = 8) := HSH.out (fun h => by have := h.2.1; omega)
    go_wp2_with fail
    go_returns
    exact ⟨congrArg Ending.returned (HA.out 8 (by decide) HE.out), b0⟩
  have hwm := wrap64_mul r q (by omega) (by omega) (by omega) (by omega)
  by_cases s5 : (nV : Int) = r * q
  case neg =>
    have HE : Hid (eD k c b t d l p r q (bitsOf V) T = 8) := HSH.out (fun h => by have := (of_decide_eq_true h.2.2.1).2.2; omega)
    have g5 : ((nV : Int) != r * q) = true := by simpa using s5
    clear s5
    go_wp2_with fail
    go_returns
    exact ⟨congrArg Ending.returned (HA.out 8 (by decide) HE.out), b0⟩
  have g5 : ((nV : Int) != r * q) = false := by simpa using s5
  by_cases s6 : (nT : Int) = r
  case neg =>
    have HE : Hid (eD k c b t d l p r q (bitsOf V) T = 8) := HSH.out (fun h => s6 h.2.2.2)
    have g6 : ((nT : Int) != r) = true := by simpa using s6
    clear s6 s5
    go_wp2_with fail
    go_returns
    exact ⟨congrArg Ending.returned (HA.out 8 (by decide) HE.out), b0⟩
  have g6 : ((nT : Int) != r) = false := by simpa using s6
  have HE : Hid (eD k c b t d l p r q (bitsOf V) T = eB k c b t d l p r q (bitsOf V) T) := by
    show _ = _
    unfold eD
    rw [if_pos (by rw [bitsOf_len, HVL.out, HTL.out]; exact ⟨by omega, by omega, decide_eq_true ⟨by omega, by omega, s5.symm⟩, s6⟩)]
  have HR := Lib.hid (And.intro s1 (And.intro s2 (And.intro s3 (And.intro s4 (And.intro s5 (And.intro s6 (And.intro hn hn2)))))))
  clear HSH
  go_wp2_with fail
  refine (hck _).mono ?_
  rintro e w1 ⟨rfl, b1⟩
  clear s1 s2 s3 s4
  have D1 := D0.below b1 D0.lt
  have bb1 := b0.trans (b1.mono b0.size)
  have hV2 := hV1.below b1
  have hT2 := hT1.below b1
  clear hck D0 b0 b1 hV1 hT1 c0 c1 c2 c3 c4 c5 c6 c7 c8 c9 c10 g5 g6 hwm s5 s6 hn hn2
  by_cases hz : chk k c b t d l p = 0
  case neg =>
    have g : (chk k c b t d l p != 0) = true := by simpa using hz
    have HE2 : Hid (eD k c b t d l p r q (bitsOf V) T = chk k c b t d l p) := HE.out.trans (orE_1 hz)
    have HZ := Lib.hid hz
    clear hz
    generalize chk k c b t d l p = E at *
    go_wp2_with fail
    go_returns
    exact ⟨congrArg Ending.returned (HA.out E HZ.out HE2.out), bb1⟩
  have HE2 : Hid (eD k c b t d l p r q (bitsOf V) T = orE (eR r) (orE (eC r q) (orE (eI eV (bitsOf V)) (eI (eT k c) T)))) := HE.out.trans (orE_0 hz)
  have HZ := Lib.hid hz
  rw [hz]
  obtain ⟨c0, c1, c2, c3, c4, c5, c6, c7, c8, c9, c10⟩ := D1.cells
  clear hz HE
  by_cases r1 : 1048576 < r
  · have HE3 : Hid (eD k c b t d l p r q (bitsOf V) T = 4) := HE2.out.trans (by
      have e : eR r = 4 := by unfold eR; rw [if_neg (by omega), if_pos r1]
      rw [e]; rfl)
    have g : decide (r > 1048576) = true := decide_eq_true r1
    clear r1
    go_wp2_with fail
    go_returns
    exact ⟨congrArg Ending.returned (HA.out 4 (by decide) HE3.out), bb1⟩
  have g : decide (r > 1048576) = false := decide_eq_false r1
  by_cases rq : 0 < r ∧ 1024 < q
  · have HE3 : Hid (eD k c b t d l p r q (bitsOf V) T = 4) := HE2.out.trans (by
      have e : eR r = 0 := by unfold eR; rw [if_neg (by omega), if_neg r1]
      have e2 : eC r q = 4 := by unfold eC; rw [if_neg (by omega), if_pos rq.2]
      rw [e, e2]; rfl)
    have g2 : decide (r > 0) = true := decide_eq_true rq.1
    have g3 : decide (q > 1024) = true := decide_eq_true rq.2
    clear r1 rq
    go_wp2_with fail
    go_returns
    exact ⟨congrArg Ending.returned (HA.out 4 (by decide) HE3.out), bb1⟩
  have HQ : Hid (¬ 1048576 < r ∧ ¬ (0 < r ∧ 1024 < q)) := ⟨r1, rq⟩
  have hcp := refCPut_any k c b t d l p
  have hcb : cbs k c b t d l p = cb k c b t d l p := if_pos HZ.out
  rw [hcb] at hcp
  have p4 := refPut_any 4 (u64 r) (by have := u64_int r; rw [IntKind.wrap_u64] at this; omega)
  have p2 := refPut_any 2 (u64 q) (by have := u64_int q; rw [IntKind.wrap_u64] at this; omega)
  rw [u64_int, show cnt 4 = 4 from rfl] at p4
  rw [u64_int, show cnt 2 = 2 from rfl] at p2
  have z1 : (sb (cb k c b t d l p)).size = 14 := by rw [sb_size, cb_len]
  have z2 : (sb (bts (u64 r) 4)).size = 4 := by rw [sb_size, bts_len]
  have z3 : (sb (bts (u64 q) 2)).size = 2 := by rw [sb_size, bts_len]
  have HH : Hid (sb (hd k c b t d l p r q) = (⟨#[72, 79, 82, 78]⟩ : ByteArray) ++ sb (cb k c b t d l p) ++ sb (bts (u64 r) 4) ++ sb (bts (u64 q) 2)) := by
    show _ = _
    unfold hd
    rw [← sb_append, ← sb_append, ← sb_append]
    rfl
  unfold cf at hcp
  generalize sb (cb k c b t d l p) = S1 at *
  generalize sb (bts (u64 r) 4) = S2 at *
  generalize sb (bts (u64 q) 2) = S3 at *
  have n1 : ¬ 9223372036854775807 < 4 + S1.size := by omega
  have n2 : ¬ 9223372036854775807 < 4 + S1.size + S2.size := by omega
  have n3 : ¬ 9223372036854775807 < 4 + S1.size + S2.size + S3.size := by omega
  clear z1 z2 z3 hcb
  rcases Decidable.em (0 < r) with hrz | hrz
  all_goals (
    (first | (have g2 : decide (r > 0) = true := decide_eq_true hrz) | (have g2 : decide (r > 0) = false := decide_eq_false hrz))
    (try (have g3 : decide (q > 1024) = false := decide_eq_false (fun h => rq ⟨hrz, h⟩)))
    clear hrz r1 rq
    go_wp2_with fail
    have D2 := D1.drew
    have bb2 := bb1.drew
    have hV3 : HoldsE KU w1.drew aV V := hV2
    have hT3 : HoldsE K64 w1.drew aT T := hT2
    clear c0 c1 c2 c3 c4 c5 c6 c7 c8 c9 c10 hV2 hT2 bb1
    go_region_held3 (fun W => W.cell? ⟨N, 0, none⟩ = some (.int .i64 k) ∧ W.cell? ⟨N, 1, none⟩ = some (.int .i64 c) ∧ W.cell? ⟨N, 2, none⟩ = some (.int .i64 b) ∧ W.cell? ⟨N, 3, none⟩ = some (.int .i64 t) ∧ W.cell? ⟨N, 4, none⟩ = some (.int .i64 d) ∧ W.cell? ⟨N, 5, none⟩ = some (.int .i64 l) ∧ W.cell? ⟨N, 6, none⟩ = some (.int .i64 p) ∧ W.cell? ⟨N, 7, none⟩ = some (.int .i64 r) ∧ W.cell? ⟨N, 8, none⟩ = some (.int .i64 q) ∧ W.cell? ⟨N, 9, none⟩ = some (.slice aV nV cV) ∧ W.cell? ⟨N, 10, none⟩ = some (.slice aT nT cT))
      (first | exact D2.cells | exact D1.cells)
      (first
      | (go_at_call 26; refine (hcp _).mono ?_; rintro _ w' ⟨rfl, cc⟩; replace D2 := D2.below cc D2.lt; replace hV3 := hV3.below cc; replace hT3 := hT3.below cc; replace bb2 := bb2.trans (cc.mono bb2.size); clear cc hcp)
      | (go_at_call 27; refine (p4 _).mono ?_; rintro _ w' ⟨rfl, cc⟩; replace D2 := D2.below cc D2.lt; replace hV3 := hV3.below cc; replace hT3 := hT3.below cc; replace bb2 := bb2.trans (cc.mono bb2.size); clear cc p4)
      | (go_at_call 27; refine (p2 _).mono ?_; rintro _ w' ⟨rfl, cc⟩; replace D2 := D2.below cc D2.lt; replace hV3 := hV3.below cc; replace hT3 := hT3.below cc; replace bb2 := bb2.trans (cc.mono bb2.size); clear cc p2))
    clear D1 n1 n2 n3 g g2
    have HST : Hid (hd k c b t d l p r q = hd k c b t d l p r q ++ vB ((bitsOf V).take 0)) := by show _ = _; simp [vB]
    rw [← HH.out]
    obtain ⟨H, hH⟩ : ∃ H, hd k c b t d l p r q = H := ⟨_, rfl⟩
    have HHD := Lib.hid hH
    have HHL : Hid (H.length = 24) := by show _ = _; rw [← hH]; exact hd_len _ _ _ _ _ _ _ _ _
    rw [hH] at HST ⊢
    clear hH HH
    go_wp2_with fail
    go_loopw [5, 6] (fun v5 v6 wr => ∃ j : Nat, v6 = .int .i64 (j : Int) ∧ j ≤ nV ∧ v5 = .string (sb (H ++ vB ((bitsOf V).take j))) ∧ Dat N (dv k c b t d l p r q (.slice aV nV cV) (.slice aT nT cT)) wr ∧ Below w.heap.size w wr ∧ Hid (HoldsE KU wr aV V ∧ HoldsE K64 wr aT T)) (fun _ v6 _ => nV - (intOf v6).toNat)
    case atStart => exact ⟨0, rfl, Nat.zero_le _, by rw [← HST.out], D2, bb2, ⟨hV3, hT3⟩⟩
    case round =>
      obtain ⟨j, rfl, hj, rfl, D, bel, HVT⟩ := hrel
      clear D2 bb2 hV3 hT3
      have c9 : wr.cell? ⟨N, 9, none⟩ = some (.slice aV nV cV) := D.c 9 (by decide)
      by_cases hlt : j < nV
      · have hl0 : j < V.length := by rw [HVL.out]; exact hlt
        obtain ⟨ga, off, rfl, hg, hrow⟩ := HVT.out.1.at hl0
        have hz64 := h64 (V.getD j 0) (by rw [List.getD_eq_getElem?_getD, List.getElem?_eq_getElem hl0]; exact List.getElem_mem _)
        have cx : wr.cell? ⟨ga, off + j, none⟩ = some (.int .u64 (V.getD j 0)) := hrow j hl0
        have HS := Lib.hid (vB_step (bitsOf V) j (by rw [bitsOf_len]; exact hl0))
        rw [getD_bits V j hl0] at HS
        generalize V.getD j 0 = z at *
        obtain ⟨x, rfl⟩ := Int.eq_ofNat_of_zero_le hz64.1
        have pp := refPut_any 8 x (Int.ofNat_lt.1 hz64.2) wr
        rw [show cnt 8 = 8 from rfl] at pp
        rw [Int.toNat_natCast] at HS
        have hn3 := string_room (H ++ vB ((bitsOf V).take j)) x (by rw [List.length_append, HHL.out]; have := vB_le (bitsOf V) j; rw [bitsOf_len] at this; have := HVL.out; have := HR.out.2.2.2.2.2.2.1; omega)
        have HA2 : Hid (sb (H ++ vB ((bitsOf V).take (j + 1))) = sb (H ++ vB ((bitsOf V).take j)) ++ sb (bts x 8)) := by show _ = _; rw [HS.out, ← List.append_assoc, ← sb_append]
        have i1 := lt_cast hlt
        clear hrow hl0 hz64 HS
        generalize sb (H ++ vB ((bitsOf V).take j)) = X1 at *
        generalize sb (bts x 8) = X2 at *
        go_wp2_with fail
        refine pp.mono ?_
        rintro e w5 ⟨rfl, b5⟩
        have HD := Lib.hid (D.below b5 D.lt)
        have HB := Lib.hid (bel.trans (b5.mono bel.size))
        have HVT2 := Lib.hid (And.intro (HVT.out.1.below b5) (HVT.out.2.below b5))
        clear pp D bel b5 HVT cx c9
        go_wp2_with fail
        go_roundw
        case rel => exact ⟨j + 1, congrArg (Value.int .i64) (step_w hlt (Nat.le_trans HR.out.2.2.2.2.2.2.1 (by decide))), hlt, by rw [HA2.out], HD.out, HB.out, HVT2.out⟩
        case measure => exact meas_lt hlt (Nat.le_trans HR.out.2.2.2.2.2.2.1 (by decide))
      · have i1 := nlt_cast hlt
        obtain rfl : j = nV := Nat.le_antisymm hj (Nat.le_of_not_lt hlt)
        rw [List.take_of_length_le (by rw [bitsOf_len, HVL.out]; exact Nat.le_refl _)]
        obtain ⟨H2, hH2⟩ : ∃ H2, H ++ vB (bitsOf V) = H2 := ⟨_, rfl⟩
        have HH2 := Lib.hid hH2
        have HL2 : Hid (H2.length = 24 + 8 * j) := by show _ = _; rw [← hH2, List.length_append, HHL.out, vB_len, bitsOf_len, HVL.out]
        rw [hH2]
        clear hH2 hlt
        go_wp2_with fail
        clear c9
        go_loopw [5, 7] (fun v5 v7 wz => ∃ i : Nat, v7 = .int .i64 (i : Int) ∧ i ≤ nT ∧ v5 = .string (sb (H2 ++ tB (T.take i))) ∧ Dat N (dv k c b t d l p r q (.slice aV j cV) (.slice aT nT cT)) wz ∧ Below w.heap.size w wz ∧ Hid (HoldsE K64 wz aT T)) (fun _ v7 _ => nT - (intOf v7).toNat)
        case atStart => exact ⟨0, rfl, Nat.zero_le _, by simp [tB], D, bel, HVT.out.2⟩
        case round =>
          obtain ⟨i, rfl, hi, rfl, D3, bel3, HT3⟩ := hrel
          clear D bel HVT
          have c10 : wr.cell? ⟨N, 10, none⟩ = some (.slice aT nT cT) := D3.c 10 (by decide)
          by_cases hlt : i < nT
          · have hl0 : i < T.length := by rw [HTL.out]; exact hlt
            obtain ⟨ga, off, rfl, hg, hrow⟩ := HT3.out.at hl0
            have cx : wr.cell? ⟨ga, off + i, none⟩ = some (.int .i64 (T.getD i 0)) := hrow i hl0
            have HS := Lib.hid (tB_step T i hl0)
            generalize T.getD i 0 = z at *
            have pp := refPut_any 8 (u64 z) (by have := u64_int z; rw [IntKind.wrap_u64] at this; omega) wr
            rw [u64_int, show cnt 8 = 8 from rfl] at pp
            have hn3 := string_room (H2 ++ tB (T.take i)) (u64 z) (by rw [List.length_append, HL2.out]; have := tB_le T i; have := HTL.out; have := HR.out.2.2.2.2.2.2; omega)
            have HA2 : Hid (sb (H2 ++ tB (T.take (i + 1))) = sb (H2 ++ tB (T.take i)) ++ sb (bts (u64 z) 8)) := by show _ = _; rw [HS.out, ← List.append_assoc, ← sb_append]
            have i2 := lt_cast hlt
            clear hrow hl0 HS
            generalize sb (H2 ++ tB (T.take i)) = X1 at *
            generalize sb (bts (u64 z) 8) = X2 at *
            go_wp2_with fail
            refine pp.mono ?_
            rintro e w5 ⟨rfl, b5⟩
            have HD := Lib.hid (D3.below b5 D3.lt)
            have HB := Lib.hid (bel3.trans (b5.mono bel3.size))
            have HVT2 := Lib.hid (HT3.out.below b5)
            clear pp D3 bel3 b5 HT3 cx c10
            go_wp2_with fail
            go_roundw
            case rel => exact ⟨i + 1, congrArg (Value.int .i64) (step_w hlt (Nat.le_trans HR.out.2.2.2.2.2.2.2 (by decide))), hlt, by rw [HA2.out], HD.out, HB.out, HVT2.out⟩
            case measure => exact meas_lt hlt (Nat.le_trans HR.out.2.2.2.2.2.2.2 (by decide))
          · have i2 := nlt_cast hlt
            obtain rfl : i = nT := Nat.le_antisymm hi (Nat.le_of_not_lt hlt)
            rw [List.take_of_length_le (by rw [HTL.out]; exact Nat.le_refl _)]
            have HDS : Hid (H2 ++ tB T = dsb k c b t d l p r q (bitsOf V) T) := by show _ = _; unfold dsb; rw [HHD.out, HH2.out]
            rw [HDS.out]
            have hpg := pget_any (dsb k c b t d l p r q (bitsOf V) T) (by rw [dsb_len, bitsOf_len, HVL.out, HTL.out]; have := HR.out.2.2.2.2.2.2; omega) wr
            have HFU : Hid (fuE (dsb k c b t d l p r q (bitsOf V) T) = eD k c b t d l p r q (bitsOf V) T) := by
              show _ = _
              obtain ⟨t1, t2, t3, t4, t5, t6, t7, t8⟩ := HR.out
              rw [HE2.out]
              have hr0 : 0 ≤ r := by omega
              have hq0 : 0 ≤ q := by omega
              have hQ := HQ.out
              have ha := HVL.out
              have hb := HTL.out
              have hzz := HZ.out
              clear HE2 HA HQ HR
              obtain ⟨rn, rfl⟩ := Int.eq_ofNat_of_zero_le hr0
              obtain ⟨qn, rfl⟩ := Int.eq_ofNat_of_zero_le hq0
              exact fu_all hzz (by omega) (by omega) (by rw [bitsOf_len, ha]; rw [← Int.natCast_mul] at t5; omega) (by rw [hb]; omega) (bits64_of h64) ht
            have hp2 : Calls Try.prog 15 #[.string (sb (dsb k c b t d l p r q (bitsOf V) T))] wr fun e w' => (∃ v, e = .returned (.tuple #[v, .int .i64 (eD k c b t d l p r q (bitsOf V) T)])) ∧ Below wr.heap.size wr w' := by
              refine hpg.mono ?_
              rintro e w' ⟨h, hb⟩
              refine ⟨?_, hb⟩
              rcases h with ⟨h0, v, x, rfl, _, _⟩ | ⟨h0, rfl⟩
              · exact ⟨_, by rw [← HFU.out, h0]⟩
              · exact ⟨_, by rw [← HFU.out]⟩
            clear hpg D3 HT3 hlt
            by_cases hfin : eD k c b t d l p r q (bitsOf V) T = 0
            · have HSS : Hid (sb (dsb k c b t d l p r q (bitsOf V) T) = sb (pS k c b t d l p r q (bitsOf V) T)) := by show _ = _; unfold pS; rw [if_pos hfin]
              have HF0 := Lib.hid hfin
              rw [hfin] at hp2
              clear hfin
              generalize sb (dsb k c b t d l p r q (bitsOf V) T) = SX at *
              go_wp2_with fail
              refine hp2.mono ?_
              rintro e w6 ⟨⟨v, rfl⟩, b6⟩
              have HB := Lib.hid (bel3.trans (b6.mono bel3.size))
              clear hp2 b6 bel3
              go_wp2_with fail
              go_returns
              exact ⟨by rw [HF0.out, ← HSS.out]; rfl, HB.out⟩
            · have HF0 := Lib.hid hfin
              have gE' : (eD k c b t d l p r q (bitsOf V) T != 0) = true := by simpa using hfin
              have HFIN := Lib.hid (HA.out _ hfin rfl)
              clear hfin HA HE2 HFU HDS
              generalize sb (dsb k c b t d l p r q (bitsOf V) T) = SX at *
              generalize hEE : eD k c b t d l p r q (bitsOf V) T = EE at *
              have HEE := Lib.hid hEE
              clear hEE
              go_wp2_with fail
              refine hp2.mono ?_
              rintro e w6 ⟨⟨v, rfl⟩, b6⟩
              have HB := Lib.hid (bel3.trans (b6.mono bel3.size))
              clear hp2 b6 bel3
              go_wp2_with fail
              go_returns
              refine ⟨?_, HB.out⟩
              rw [HEE.out]
              exact congrArg Ending.returned HFIN.out)
end Go.Proofs.Ytbmbgfmhejahjaa
