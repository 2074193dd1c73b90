/-
  DatasetPuts: the law's walk. Condition: numbers of 64 bits.
-/
import Derived.Test.YtbmbgfmhejahjaaPPut
import Derived.Test.YtbmbgfmhejahjaaCutsW
import Derived.Test.YtbmbgfmhejahjaaByHand
namespace Go.Proofs.Ytbmbgfmhejahjaa
open Go.RowKit

theorem nums_bits (V : List Int) (h : ∀ z ∈ V, 0 ≤ z ∧ z < 18446744073709551616) : nums (bitsOf V) = V := by
  induction V with
  | nil => rfl
  | cons z V ih =>
    have e := ih (fun y hy => h y (List.mem_cons_of_mem _ hy))
    have hz := (h z List.mem_cons_self).1
    show ((z.toNat : Nat) : Int) :: nums (bitsOf V) = z :: V
    rw [e, Int.toNat_of_nonneg hz]
/-- What is told of what Put answers, read. -/
theorem fu_right {k c b t d lf p r q : Int} {V : List Nat} {T : List Int} (h : eD k c b t d lf p r q V T = 0) (h64 : ∀ x ∈ V, x < 18446744073709551616) (ht : In64s T) :
    fuE (dsb k c b t d lf p r q V T) = 0 ∧ gVs (dsb k c b t d lf p r q V T) = V ∧ gTs (dsb k c b t d lf p r q V T) = T ∧ ∀ v x, gDv (dsb k c b t d lf p r q V T) v x = ds k c b t d lf p r q v x := by
  obtain ⟨⟨_, _, hf, hT⟩, hc, e1, e2, e3, e4⟩ := eD_ok h
  obtain ⟨hr0, hq0, hV⟩ := of_decide_eq_true hf
  obtain ⟨r, rfl⟩ := Int.eq_ofNat_of_zero_le hr0
  obtain ⟨q, rfl⟩ := Int.eq_ofNat_of_zero_le hq0
  have l1 := eR_le e1
  have l2 := (eC_le e2).1
  have hVn : V.length = r * q := by rw [← Int.natCast_mul] at hV; omega
  have hTn : T.length = r := by omega
  have hr : r < 4294967296 := by omega
  have hq : q < 65536 := by omega
  have g := fu_all hc hr (.inr hq) hVn hTn h64 ht
  rw [orE_0 e1, orE_0 e2, orE_0 e3, e4] at g
  obtain ⟨_, g2, g3, g4⟩ := g_all hc hr hq hVn hTn h64 ht []
  rw [List.append_nil] at g2 g3 g4
  exact ⟨g, g2, g3, g4⟩

/-- What the walk keeps. -/
structure PuS (N Y : Nat) (f1 f2 : Nat → Value) (A1 A2 A3 A4 : Option Addr) (V : List Int) (T : List Int) (w0 w : World) : Prop where
  a : Dat N f1 w
  b : Dat Y f2 w
  u : HoldsE KU w A1 V
  s : HoldsE K64 w A2 T
  v : HoldsE KF w A3 (bitsOf V)
  t : HoldsE K64 w A4 T
  bel : Below w0.heap.size w0 w
theorem PuS.below {N Y : Nat} {f1 f2 : Nat → Value} {A1 A2 A3 A4 : Option Addr} {V : List Int} {T : List Int} {w0 w w' : World} (h : PuS N Y f1 f2 A1 A2 A3 A4 V T w0 w) (c : Below w.heap.size w w') : PuS N Y f1 f2 A1 A2 A3 A4 V T w0 w' :=
  ⟨h.a.below c h.a.lt, h.b.below c h.b.lt, h.u.below c, h.s.below c, h.v.below c, h.t.below c, h.bel.trans (c.mono h.bel.size)⟩

set_option maxRecDepth 20000 in
set_option maxHeartbeats 8000000 in
theorem puts_any (k c b t d l p r q : Int) (aV aT : Option Addr) (nV cV nT cT : Nat) (V T : List Int) (hVl : V.length = nV) (hTl : T.length = nT) (hTc : aT = none → cT = 0) (hr : -9223372036854775808 ≤ r ∧ r ≤ 9223372036854775807) (hq : -9223372036854775808 ≤ q ∧ q ≤ 9223372036854775807)
    (h64 : ∀ z ∈ V, 0 ≤ z ∧ z < 18446744073709551616) (ht : In64s T) (w : World) (hV0 : HoldsE KU w aV V) (hT0 : HoldsE K64 w aT T) :
    Calls Try.prog 3 #[ds k c b t d l p r q (.slice aV nV cV) (.slice aT nT cT)] w fun e w' => e = .returned (.bool true) ∧ Below w.heap.size w w' := by
  have hg := great_any k c b t d l p r q aV aT nV cV nT cT
  have D0 := lay_dat w 27 k c b t d l p r q (.slice aV nV cV) (.slice aT nT cT)
  have b0 := lay_below w 27 k c b t d l p r q (.slice aV nV cV) (.slice aT nT cT)
  have hVb := hV0.below b0
  have hTb := hT0.below b0
  have hfl := fun hn hn2 W h1 h2 => pfull_any k c b t d l p r q aV aT nV cV nT cT V T hVl hTl hn hn2 hTc W h1 h2
  have hpp := fun hn hn2 W h1 h2 => pput_any k c b t d l p r q aV aT nV cV nT cT V T hVl hTl hn hn2 h64 ht W h1 h2
  unfold ds at hg hfl hpp ⊢
  go_enter Try.func3, Try.ntmps3
  go_wp2_with fail
  change Calls Try.prog _ _ (lay w 27 k c b t d l p r q (.slice aV nV cV) (.slice aT nT cT)) _
  generalize lay w 27 k c b t d l p r q (.slice aV nV cV) (.slice aT nT cT) = w0 at *
  obtain ⟨N, hN⟩ : ∃ N, w.heap.size = N := ⟨_, rfl⟩
  have HN := Lib.hid hN
  rw [hN] at D0 ⊢
  clear hN hV0 hT0
  refine (hg _).mono ?_
  rintro e w1 ⟨rfl, b1⟩
  have D1 := D0.below b1 D0.lt
  have bb := b0.trans (b1.mono b0.size)
  have hV1 := hVb.below b1
  have hT1 := hTb.below b1
  clear hg D0 b0 b1 hVb hTb
  by_cases hgr : 500 < nV ∨ 200 < nT
  · rw [decide_eq_true hgr]
    clear hgr hfl hpp hV1 hT1
    go_wp2_with fail
    refine (fixed_any _).mono ?_
    rintro e w2 ⟨rfl, b2⟩
    have HB := Lib.hid (bb.trans (b2.mono bb.size))
    clear bb b2 D1
    go_wp2_with fail
    go_ret
    exact ⟨rfl, HB.out⟩
  rw [decide_eq_false hgr]
  obtain ⟨c0, c1, c2, c3, c4, c5, c6, c7, c8, c9, c10⟩ := D1.cells
  have hf1 := hfl (by omega) (by omega) _ hV1 hT1
  have hpp1 := hpp (by omega) (by omega)
  have HG := Lib.hid hgr
  clear hfl hpp hgr
  go_wp2_with fail
  refine hf1.mono ?_
  rintro e w2 ⟨⟨v, xT, rfl, ov, ot⟩, b2⟩
  have bb2 := bb.trans (b2.mono bb.size)
  have D2 := D1.below b2 D1.lt
  have hV2 := hV1.below b2
  have hT2 := hT1.below b2
  have HTL := Lib.hid hTl
  have HVL := Lib.hid hVl
  clear hTl hVl
  obtain ⟨av, cv, rfl, hav, _, _, hov⟩ := ov.holds
  obtain ⟨at2, ct, rfl, hat, _, _, hot⟩ := ot.holds
  have hp := dput_any k c b t d l p r q av at2 (bitsOf V).length cv T.length ct (bitsOf V) T rfl rfl hr hq (by rw [bitsOf_len]; have := HG.out; have := HVL.out; omega) (by have := HG.out; have := HTL.out; omega) (bits64_of h64) w2 hov hot
  unfold ds at hp
  clear hf1 bb b2 ov ot D1 c0 c1 c2 c3 c4 c5 c6 c7 c8 c9 c10 hov hot hV1 hT1
  go_wp2_with fail
  refine hp.mono ?_
  rintro e w3 ⟨vb, rfl, hput, b3⟩
  have bb3 := bb2.trans (b3.mono bb2.size)
  have D3 := D2.below b3 D2.lt
  have hV3 := hV2.below b3
  have hT3 := hT2.below b3
  obtain ⟨ab, nb, cb, hvb, hnb, hab, hhb⟩ : ∃ ab nb cb, vb = .slice ab nb cb ∧ (pS k c b t d l p r q (bitsOf V) T).length = nb ∧ (ab = none → cb = 0) ∧ HoldsE KB w3 ab (pS k c b t d l p r q (bitsOf V) T) := by
    by_cases hz : eD k c b t d l p r q (bitsOf V) T = 0
    · obtain ⟨a, cp, h1, h2, _, _, h3⟩ := (hput.1 hz).holds
      have e : pS k c b t d l p r q (bitsOf V) T = dsb k c b t d l p r q (bitsOf V) T := if_pos hz
      rw [e]
      exact ⟨a, _, cp, h1, rfl, h2, h3⟩
    · rw [pS_0 hz]
      exact ⟨none, 0, 0, hput.2 hz, rfl, fun _ => rfl, .inl rfl⟩
  subst hvb
  obtain ⟨c0, c1, c2, c3, c4, c5, c6, c7, c8, c9, c10⟩ := D3.cells
  have hpp2 := hpp1 w3 hV3 hT3
  obtain ⟨E, hE⟩ : ∃ E, eD k c b t d l p r q (bitsOf V) T = E := ⟨_, rfl⟩
  have HE := Lib.hid hE
  rw [hE] at hpp2 ⊢
  clear hp bb2 hput b3 D2 hV2 hT2 hpp1 hE
  go_wp2_with fail
  refine hpp2.mono ?_
  rintro e w4 ⟨rfl, b4⟩
  have bb4 := bb3.trans (b4.mono bb3.size)
  have D4 := D3.below b4 D3.lt
  have hV4 := hV3.below b4
  have hT4 := hT3.below b4
  have hb4 := hhb.below b4
  have k2 := run_str w4 ab nb cb _ hnb hb4
  have qs : ((sb (pS k c b t d l p r q (bitsOf V) T)).toList == (sb (pS k c b t d l p r q (bitsOf V) T)).toList) = true := beq_self_eq_true _
  have HNB := Lib.hid hnb
  have HAB := Lib.hid hab
  obtain ⟨SX, hSX⟩ : ∃ SX, sb (pS k c b t d l p r q (bitsOf V) T) = SX := ⟨_, rfl⟩
  rw [hSX] at k2 qs ⊢
  clear hpp2 bb3 b4 D3 hV3 hT3 hhb hnb hab c0 c1 c2 c3 c4 c5 c6 c7 c8 c9 c10 hSX
  by_cases hz : E = 0
  case neg =>
    have g : (E != 0) = true := by simpa using hz
    clear hz hb4
    go_wp2_with fail
    refine (fixed_any _).mono ?_
    rintro e w5 ⟨rfl, b5⟩
    have HB := Lib.hid (bb4.trans (b5.mono bb4.size))
    clear bb4 b5 D4 k2 qs
    go_wp2_with fail
    go_ret
    exact ⟨rfl, HB.out⟩
  case pos =>
  have hz0 : eD k c b t d l p r q (bitsOf V) T = 0 := HE.out.trans hz
  have hpS : pS k c b t d l p r q (bitsOf V) T = dsb k c b t d l p r q (bitsOf V) T := if_pos hz0
  obtain ⟨u1, u2, u3, u4⟩ := fu_right hz0 (bits64_of h64) ht
  rw [hpS] at hb4
  have HNB2 := HNB.out
  rw [hpS] at HNB2
  have hgt := dget_any ab nb cb (dsb k c b t d l p r q (bitsOf V) T) HNB2 (by rw [← HNB2, dsb_len, bitsOf_len]; have := HG.out; have := HVL.out; have := HTL.out; omega) HAB.out w4 hb4
  have hgt2 : Calls Try.prog 12 #[.slice ab nb cb] w4 fun e w' => (∃ v x, e = .returned (.tuple #[ds k c b t d l p r q v x, .int .i64 0]) ∧ Own KF w' w4.heap.size v (bitsOf V) ∧ Own K64 w' w4.heap.size x T) ∧ Below w4.heap.size w4 w' := by
    refine hgt.mono ?_
    rintro e w' ⟨h, hb⟩
    refine ⟨?_, hb⟩
    rcases h with ⟨_, v, x, rfl, h1, h2⟩ | ⟨h0, _⟩
    · rw [u2] at h1
      rw [u3] at h2
      exact ⟨v, x, by rw [u4], h1, h2⟩
    · exact absurd u1 h0
  subst hz
  clear hgt u1 u2 u3 u4 hpS HNB2 hz0 hb4 HE
  go_wp2_with fail
  refine hgt2.mono ?_
  rintro e w5 ⟨⟨v, x, rfl, ov, ot⟩, b5⟩
  obtain ⟨A3, c3, rfl, _, _, _, h3⟩ := ov.holds
  obtain ⟨A4, c4, rfl, _, _, _, h4⟩ := ot.holds
  rw [bitsOf_len, HVL.out, HTL.out]
  have D5 := D4.below b5 D4.lt
  have hV5 := hV4.below b5
  have hT5 := hT4.below b5
  have bb5 := bb4.trans (b5.mono bb4.size)
  have P6 := lay_dat w5 36 k c b t d l p r q (.slice A3 nV c3) (.slice A4 nT c4)
  have b6 := lay_below w5 36 k c b t d l p r q (.slice A3 nV c3) (.slice A4 nT c4)
  have q6 : PuS N w5.heap.size (dv k c b t d l p r q (.slice aV nV cV) (.slice aT nT cT)) (dv k c b t d l p r q (.slice A3 nV c3) (.slice A4 nT c4)) aV aT A3 A4 V T w (lay w5 36 k c b t d l p r q (.slice A3 nV c3) (.slice A4 nT c4)) :=
    ⟨D5.below b6 D5.lt, P6, hV5.below b6, hT5.below b6, h3.below b6, h4.below b6, bb5.trans (b6.mono bb5.size)⟩
  clear hgt2 ov ot h3 h4 D4 D5 hV4 hV5 hT4 hT5 bb4 bb5 b5 P6 b6 k2 qs
  unfold ds
  go_upto_region 10 with fail
  change Code.wp _ _ _ _ (lay w5 36 k c b t d l p r q (.slice A3 nV c3) (.slice A4 nT c4))
  generalize lay w5 36 k c b t d l p r q (.slice A3 nV c3) (.slice A4 nT c4) = w6 at *
  generalize w5.heap.size = Y at *
  have Q := q6.below (Below.refl _ _).drew
  have hof := fun W hh => pof_any k c b t d l p r q A3 A4 nV c3 nT c4 (bitsOf V) ((bitsOf_len V).trans HVL.out) (by have := HG.out; omega) W hh
  have hsm := fun aU cU W x1 x2 x3 x4 => psame_any k c b t d l p r q aU A4 aV aT nV cU nT c4 cV cT V T HVL.out HTL.out (by have := HG.out; omega) (by have := HG.out; omega) W x1 x2 x3 x4
  unfold ds at hof hsm
  have HNM := Lib.hid (nums_bits V h64)
  clear q6
  refine wp_region_held_drew (S := (fun W => (W.cell? ⟨N, 0, none⟩ = some (.int .i64 k) ∧ W.cell? ⟨N, 1, none⟩ = some (.int .i64 c) ∧ W.cell? ⟨N, 2, none⟩ = some (.int .i64 b) ∧ W.cell? ⟨N, 3, none⟩ = some (.int .i64 t) ∧ W.cell? ⟨N, 4, none⟩ = some (.int .i64 d) ∧ W.cell? ⟨N, 5, none⟩ = some (.int .i64 l) ∧ W.cell? ⟨N, 6, none⟩ = some (.int .i64 p) ∧ W.cell? ⟨N, 7, none⟩ = some (.int .i64 r) ∧ W.cell? ⟨N, 8, none⟩ = some (.int .i64 q) ∧ W.cell? ⟨N, 9, none⟩ = some (.slice aV nV cV) ∧ W.cell? ⟨N, 10, none⟩ = some (.slice aT nT cT)) ∧ W.cell? ⟨Y, 0, none⟩ = some (.int .i64 k) ∧ W.cell? ⟨Y, 1, none⟩ = some (.int .i64 c) ∧ W.cell? ⟨Y, 2, none⟩ = some (.int .i64 b) ∧ W.cell? ⟨Y, 3, none⟩ = some (.int .i64 t) ∧ W.cell? ⟨Y, 4, none⟩ = some (.int .i64 d) ∧ W.cell? ⟨Y, 5, none⟩ = some (.int .i64 l) ∧ W.cell? ⟨Y, 6, none⟩ = some (.int .i64 p) ∧ W.cell? ⟨Y, 7, none⟩ = some (.int .i64 r) ∧ W.cell? ⟨Y, 8, none⟩ = some (.int .i64 q) ∧ W.cell? ⟨Y, 9, none⟩ = some (.slice A3 nV c3) ∧ W.cell? ⟨Y, 10, none⟩ = some (.slice A4 nT c4))) (by kernel_rfl) (And.intro Q.a.cells Q.b.cells) (fun hHeld => ?_)
  refine callL (i := 0) (by kernel_rfl) rfl (by rfl) (fun K hK => ?_)
  go_simp
  refine (fixed_any _).mono ?_
  rintro _ w7 ⟨rfl, b7⟩
  replace Q := Q.below b7
  clear b7
  try dsimp only
  refine hK.out _ _ (And.intro Q.a.cells Q.b.cells) (fun hHeld => ?_)
  clear hK K
  try simp only [Act.put, List.setIfInBounds_toArray, List.set_cons_zero, List.set_cons_succ]
  refine takeQ (i := 1) (v := ?_) rfl (by kernel_rfl) (by kernel_rfl) (by kernel_rfl) (fun _ _ _ h => h) (by rfl) hHeld ?_ ?_
  rotate_left
  · (intro w' hSw; (try dsimp only at hSw); go_simp <;> (with_reducible rfl))
  try simp only [Act.put, List.setIfInBounds_toArray, List.set_cons_zero, List.set_cons_succ]
  refine takeQ (i := 2) (v := ?_) rfl (by kernel_rfl) (by kernel_rfl) (by kernel_rfl) (fun _ _ _ h => h) (by rfl) hHeld ?_ ?_
  rotate_left
  · (intro w' hSw; (try dsimp only at hSw); go_simp <;> (with_reducible rfl))
  try simp only [Act.put, List.setIfInBounds_toArray, List.set_cons_zero, List.set_cons_succ]
  refine takeQ (i := 3) (v := ?_) rfl (by kernel_rfl) (by kernel_rfl) (by kernel_rfl) (fun _ _ _ h => h) (by rfl) hHeld ?_ ?_
  rotate_left
  · (intro w' hSw; (try dsimp only at hSw); go_simp <;> (with_reducible rfl))
  try simp only [Act.put, List.setIfInBounds_toArray, List.set_cons_zero, List.set_cons_succ]
  refine takeQ (i := 4) (v := ?_) rfl (by kernel_rfl) (by kernel_rfl) (by kernel_rfl) (fun _ _ _ h => h) (by rfl) hHeld ?_ ?_
  rotate_left
  · (intro w' hSw; (try dsimp only at hSw); go_simp <;> (with_reducible rfl))
  try simp only [Act.put, List.setIfInBounds_toArray, List.set_cons_zero, List.set_cons_succ]
  refine takeQ (i := 5) (v := ?_) rfl (by kernel_rfl) (by kernel_rfl) (by kernel_rfl) (fun _ _ _ h => h) (by rfl) hHeld ?_ ?_
  rotate_left
  · (intro w' hSw; (try dsimp only at hSw); go_simp <;> (with_reducible rfl))
  try simp only [Act.put, List.setIfInBounds_toArray, List.set_cons_zero, List.set_cons_succ]
  refine takeQ (i := 6) (v := ?_) rfl (by kernel_rfl) (by kernel_rfl) (by kernel_rfl) (fun _ _ _ h => h) (by rfl) hHeld ?_ ?_
  rotate_left
  · (intro w' hSw; (try dsimp only at hSw); go_simp <;> (with_reducible rfl))
  try simp only [Act.put, List.setIfInBounds_toArray, List.set_cons_zero, List.set_cons_succ]
  refine takeQ (i := 8) (v := ?_) rfl (by kernel_rfl) (by kernel_rfl) (by kernel_rfl) (fun _ _ _ h => h) (by rfl) hHeld ?_ ?_
  rotate_left
  · (intro w' hSw; (try dsimp only at hSw); go_simp <;> (with_reducible rfl))
  try simp only [Act.put, List.setIfInBounds_toArray, List.set_cons_zero, List.set_cons_succ]
  refine callL (i := 7) (by kernel_rfl) rfl (by rfl) (fun K hK => ?_)
  go_simp
  refine (hof _ Q.v).mono ?_
  rintro _ w8 ⟨⟨v5, rfl, o5⟩, b8⟩
  replace Q := Q.below b8
  rw [HNM.out] at o5
  obtain ⟨A5, c5, rfl, _, _, _, h5⟩ := o5.holds
  rw [HVL.out]
  clear b8 o5
  try dsimp only
  refine hK.out _ _ (And.intro Q.a.cells Q.b.cells) (fun hHeld => ?_)
  clear hK K
  try simp only [Act.put, List.setIfInBounds_toArray, List.set_cons_zero, List.set_cons_succ]
  refine callL (i := 9) (by kernel_rfl) rfl (by rfl) (fun K hK => ?_)
  go_simp
  refine (hsm A5 c5 _ h5 Q.t Q.u Q.s).mono ?_
  rintro _ w9 ⟨rfl, b9⟩
  replace Q := Q.below b9
  clear b9
  try dsimp only
  refine hK.out _ _ (And.intro Q.a.cells Q.b.cells) (fun hHeld => ?_)
  clear hK K
  try simp only [Act.put, List.setIfInBounds_toArray, List.set_cons_zero, List.set_cons_succ]
  refine takeQ (i := 10) (v := ?_) rfl (by kernel_rfl) (by kernel_rfl) (by kernel_rfl) (fun _ _ _ h => h) (by rfl) hHeld ?_ ?_
  rotate_left
  · (intro w' hSw; (try dsimp only at hSw); go_simp <;> (with_reducible rfl))
  try simp only [Act.put, List.setIfInBounds_toArray, List.set_cons_zero, List.set_cons_succ]
  refine takeQ (i := 11) (v := ?_) rfl (by kernel_rfl) (by kernel_rfl) (by kernel_rfl) (fun _ _ _ h => h) (by rfl) hHeld ?_ ?_
  rotate_left
  · (intro w' hSw; (try dsimp only at hSw); go_simp <;> (with_reducible rfl))
  try simp only [Act.put, List.setIfInBounds_toArray, List.set_cons_zero, List.set_cons_succ]
  refine wpAnyH_done (by kernel_rfl) ?_ _
  have HB := Lib.hid Q.bel
  clear Q hHeld hof hsm
  go_wp2_with fail
  go_ret
  exact ⟨rfl, HB.out⟩
end Go.Proofs.Ytbmbgfmhejahjaa
