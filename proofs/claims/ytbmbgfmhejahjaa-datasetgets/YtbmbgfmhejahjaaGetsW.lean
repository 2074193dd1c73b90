/-
  DatasetGets: the law's walk. Condition: what the slice leads to are bytes.
-/
import Derived.Test.YtbmbgfmhejahjaaPGet
import Derived.Test.YtbmbgfmhejahjaaGetsN
import Derived.Test.YtbmbgfmhejahjaaByHand
namespace Go.Proofs.Ytbmbgfmhejahjaa
open Go.RowKit

/-- What is answered: the dataset's, or nothing. -/
def aK (l : List UInt8) (j : Nat) : Int := if fuE l = 0 then gc l j else 0
def aR (l : List UInt8) : Int := if fuE l = 0 then (gr l : Int) else 0
def aQ (l : List UInt8) : Int := if fuE l = 0 then (gq l : Int) else 0
def aV (l : List UInt8) : List Nat := if fuE l = 0 then gVs l else []
def aT (l : List UInt8) : List Int := if fuE l = 0 then gTs l else []
theorem GetA.all {w w' : World} {l : List UInt8} {x : Ending} (h : GetA w w' l x) : ∃ v t, x = .returned (.tuple #[ds (aK l 0) (aK l 1) (aK l 2) (aK l 3) (aK l 4) (aK l 5) (aK l 6) (aR l) (aQ l) v t, .int .i64 (fuE l)]) ∧ Own KF w' w.heap.size v (aV l) ∧ Own K64 w' w.heap.size t (aT l) := by
  unfold aK aR aQ aV aT
  rcases h with ⟨hz, V, T, rfl, h1, h2⟩ | ⟨hz, rfl⟩
  · exact ⟨V, T, by simp only [hz, if_true]; rfl, by rw [if_pos hz]; exact h1, by rw [if_pos hz]; exact h2⟩
  · exact ⟨.slice none 0 0, .slice none 0 0, by simp only [if_neg hz], by rw [if_neg hz]; exact Own.nil _ _, by rw [if_neg hz]; exact Own.nil _ _⟩
theorem PGetA.all {w w' : World} {l : List UInt8} {x : Ending} (h : PGetA w w' l x) : ∃ v t, x = .returned (.tuple #[ds (aK l 0) (aK l 1) (aK l 2) (aK l 3) (aK l 4) (aK l 5) (aK l 6) (aR l) (aQ l) v t, .int .i64 (fuE l)]) ∧ Own KU w' w.heap.size v (nums (aV l)) ∧ Own K64 w' w.heap.size t (aT l) := by
  unfold aK aR aQ aV aT
  rcases h with ⟨hz, V, T, rfl, h1, h2⟩ | ⟨hz, rfl⟩
  · exact ⟨V, T, by simp only [hz, if_true]; rfl, by rw [if_pos hz]; exact h1, by rw [if_pos hz]; exact h2⟩
  · exact ⟨.slice none 0 0, .slice none 0 0, by simp only [if_neg hz], by rw [if_neg hz]; exact Own.nil _ _, by rw [if_neg hz]; exact Own.nil _ _⟩
theorem aV_small {l : List UInt8} (hl : l.length ≤ 5000) : (aV l).length ≤ 1000 ∧ (aT l).length ≤ 1000 := by
  unfold aV aT
  by_cases h : fuE l = 0
  · rw [if_pos h, if_pos h]; exact gVs_small (fu_parts h).1 hl
  · rw [if_neg h, if_neg h]; exact ⟨Nat.zero_le _, Nat.zero_le _⟩

/-- What the walk keeps. -/
structure GtS (Y1 Y2 : Nat) (f1 f2 : Nat → Value) (A1 A2 A3 A4 A5 : Option Addr) (V : List Nat) (T : List Int) (x : List UInt8) (w0 w : World) : Prop where
  a : Dat Y1 f1 w
  b : Dat Y2 f2 w
  v : HoldsE KF w A1 V
  t : HoldsE K64 w A2 T
  u : HoldsE KU w A3 (nums V)
  s : HoldsE K64 w A4 T
  x : HoldsE KB w A5 x
  bel : Below w0.heap.size w0 w
theorem GtS.below {Y1 Y2 : Nat} {f1 f2 : Nat → Value} {A1 A2 A3 A4 A5 : Option Addr} {V : List Nat} {T : List Int} {x : List UInt8} {w0 w w' : World} (h : GtS Y1 Y2 f1 f2 A1 A2 A3 A4 A5 V T x w0 w) (c : Below w.heap.size w w') : GtS Y1 Y2 f1 f2 A1 A2 A3 A4 A5 V T x w0 w' :=
  ⟨h.a.below c h.a.lt, h.b.below c h.b.lt, h.v.below c, h.t.below c, h.u.below c, h.s.below c, h.x.below c, h.bel.trans (c.mono h.bel.size)⟩

set_option maxRecDepth 20000 in
set_option maxHeartbeats 8000000 in
theorem gets_any (A : Option Addr) (n cap : Nat) (hA : A = none → cap = 0) (l : List UInt8) (hl : l.length = n) (w : World) (h : HoldsE KB w A l) :
    Calls Try.prog 4 #[.slice A n cap] w fun e w' => e = .returned (.bool true) ∧ Below w.heap.size w w' := by
  by_cases hgt : 5000 < n
  · have g : (5000 : Int) < (n : Int) := by omega
    clear hl h hA
    go_enter Try.func4, Try.ntmps4
    go_wp2_with fail
    refine (fixed_any _).mono ?_
    rintro e w2 ⟨rfl, b2⟩
    have HB := Lib.hid b2
    clear b2
    go_wp2_with fail
    go_ret
    exact ⟨rfl, HB.out⟩
  have g : ¬ (5000 : Int) < (n : Int) := by omega
  have hgA := dget_any A n cap l hl (by omega) hA w h
  have hpg := pget_any l (by omega)
  obtain ⟨hsV, hsT⟩ := aV_small (l := l) (by omega)
  have hmk : ∀ w0, HoldsE KB w0 A l → (convert 30 9 (.slice A n cap)).run Try.prog w0 = .ok (.string (sb l)) w0 := fun w0 h0 => run_str w0 A n cap l hl h0
  have HL := Lib.hid hl
  have HGT := Lib.hid hgt
  clear hl hgt hA
  go_enter Try.func4, Try.ntmps4
  go_wp2_with fail
  refine hgA.mono ?_
  rintro e w1 ⟨hga, b1⟩
  obtain ⟨v, t, rfl, ov, ot⟩ := hga.all
  obtain ⟨A1, c1, rfl, h1n, _, _, h1⟩ := ov.holds
  obtain ⟨A2, c2, rfl, h2n, _, _, h2⟩ := ot.holds
  have hx1 := h.below b1
  obtain ⟨V, hV⟩ : ∃ V, aV l = V := ⟨_, rfl⟩
  obtain ⟨T, hT⟩ : ∃ T, aT l = T := ⟨_, rfl⟩
  have HV := Lib.hid hV
  have HT := Lib.hid hT
  rw [hV] at h1 hsV
  rw [hT] at h2 hsT
  rw [hV, hT]
  clear hV hT hga ov ot hgA h
  obtain ⟨k, hk⟩ : ∃ z, aK l 0 = z := ⟨_, rfl⟩
  obtain ⟨c, hc⟩ : ∃ z, aK l 1 = z := ⟨_, rfl⟩
  obtain ⟨b, hb⟩ : ∃ z, aK l 2 = z := ⟨_, rfl⟩
  obtain ⟨t, ht⟩ : ∃ z, aK l 3 = z := ⟨_, rfl⟩
  obtain ⟨d, hd⟩ : ∃ z, aK l 4 = z := ⟨_, rfl⟩
  obtain ⟨lf, hlf⟩ : ∃ z, aK l 5 = z := ⟨_, rfl⟩
  obtain ⟨p, hp⟩ : ∃ z, aK l 6 = z := ⟨_, rfl⟩
  obtain ⟨r, hr⟩ : ∃ z, aR l = z := ⟨_, rfl⟩
  obtain ⟨q, hq⟩ : ∃ z, aQ l = z := ⟨_, rfl⟩
  rw [hk, hc, hb, ht, hd, hlf, hp, hr, hq]
  have Hk := Lib.hid hk
  have Hc := Lib.hid hc
  have Hb := Lib.hid hb
  have Ht := Lib.hid ht
  have Hd := Lib.hid hd
  have Hlf := Lib.hid hlf
  have Hp := Lib.hid hp
  have Hr := Lib.hid hr
  have Hq := Lib.hid hq
  clear hk hc hb ht hd hlf hp hr hq
  have E2 := lay_dat w1 36 k c b t d lf p r q (.slice A1 V.length c1) (.slice A2 T.length c2)
  have b2 := lay_below w1 36 k c b t d lf p r q (.slice A1 V.length c1) (.slice A2 T.length c2)
  have h12 := h1.below b2
  have h22 := h2.below b2
  have hx2 := hx1.below b2
  have bb2 := b1.trans (b2.mono b1.size)
  have hst := hmk _ hx2
  unfold ds
  obtain ⟨nV, hnV⟩ : ∃ z, V.length = z := ⟨_, rfl⟩
  obtain ⟨nT, hnT⟩ : ∃ z, T.length = z := ⟨_, rfl⟩
  have HNV := Lib.hid hnV
  have HNT := Lib.hid hnT
  rw [hnV, hnT] at E2 h12 h22 hx2 bb2 hst
  rw [hnV, hnT]
  rw [hnV] at hsV
  rw [hnT] at hsT
  clear hnV hnT b1 b2 h1 h2 hx1
  have hst : (convert 30 9 (.slice A n cap)).run Try.prog (w1.alloc (.cells #[.int .i64 k, .int .i64 c, .int .i64 b, .int .i64 t, .int .i64 d, .int .i64 lf, .int .i64 p, .int .i64 r, .int .i64 q, .slice A1 nV c1, .slice A2 nT c2] 36)) = .ok (.string (sb l)) (w1.alloc (.cells #[.int .i64 k, .int .i64 c, .int .i64 b, .int .i64 t, .int .i64 d, .int .i64 lf, .int .i64 p, .int .i64 r, .int .i64 q, .slice A1 nV c1, .slice A2 nT c2] 36)) := hst
  go_wp2_with fail
  change Calls Try.prog _ _ (lay w1 36 k c b t d lf p r q (.slice A1 nV c1) (.slice A2 nT c2)) _
  clear hst
  generalize lay w1 36 k c b t d lf p r q (.slice A1 nV c1) (.slice A2 nT c2) = w2 at *
  generalize w1.heap.size = Y1 at *
  refine (hpg w2).mono ?_
  rintro e w3 ⟨hpa, b3⟩
  obtain ⟨v, t2, rfl, ov, ot⟩ := hpa.all
  obtain ⟨A3, c3, rfl, h3n, _, _, h3⟩ := ov.holds
  obtain ⟨A4, c4, rfl, h4n, _, _, h4⟩ := ot.holds
  rw [HV.out] at h3
  rw [HT.out] at h4
  rw [nums_len, HV.out, HT.out, HNV.out, HNT.out, Hk.out, Hc.out, Hb.out, Ht.out, Hd.out, Hlf.out, Hp.out, Hr.out, Hq.out]
  have E3 := E2.below b3 E2.lt
  have h13 := h12.below b3
  have h23 := h22.below b3
  have hx3 := hx2.below b3
  have bb3 := bb2.trans (b3.mono bb2.size)
  clear hpg hpa ov ot E2 h12 h22 hx2 bb2 b3
  have P4 := lay_dat w3 27 k c b t d lf p r q (.slice A3 nV c3) (.slice A4 nT c4)
  have b4 := lay_below w3 27 k c b t d lf p r q (.slice A3 nV c3) (.slice A4 nT c4)
  have q4 : GtS Y1 w3.heap.size (dv k c b t d lf p r q (.slice A1 nV c1) (.slice A2 nT c2)) (dv k c b t d lf p r q (.slice A3 nV c3) (.slice A4 nT c4)) A1 A2 A3 A4 A V T l w (lay w3 27 k c b t d lf p r q (.slice A3 nV c3) (.slice A4 nT c4)) :=
    ⟨E3.below b4 E3.lt, P4, h13.below b4, h23.below b4, h3.below b4, h4.below b4, hx3.below b4, bb3.trans (b4.mono bb3.size)⟩
  clear E3 h13 h23 h3 h4 hx3 bb3 P4 b4
  unfold ds
  obtain ⟨E, hE⟩ : ∃ z, fuE l = z := ⟨_, rfl⟩
  have HE := Lib.hid hE
  rw [hE]
  clear hE
  go_upto_region 5 with fail
  change Code.wp _ _ _ _ (lay w3 27 k c b t d lf p r q (.slice A3 nV c3) (.slice A4 nT c4))
  generalize lay w3 27 k c b t d lf p r q (.slice A3 nV c3) (.slice A4 nT c4) = w4 at *
  generalize w3.heap.size = Y2 at *
  have Q := q4.below (Below.refl _ _).drew
  have hof := fun W hh => pof_any k c b t d lf p r q A1 A2 nV c1 nT c2 V HNV.out (Nat.le_trans hsV (by decide)) W hh
  have hsm := fun aU cU W x1 x2 x3 x4 => psame_any k c b t d lf p r q aU A2 A3 A4 nV cU nT c2 c3 c4 (nums V) T ((nums_len V).trans HNV.out) HNT.out (Nat.le_trans hsV (by decide)) (Nat.le_trans hsT (by decide)) W x1 x2 x3 x4
  unfold ds at hof hsm
  have ge : (E != E) = false := by simp
  have HQ4 := Lib.hid q4
  have HSS := Lib.hid (And.intro hsV hsT)
  clear q4 hsV hsT
  refine wp_region_held_drew (S := (fun W => (W.cell? ⟨Y1, 0, none⟩ = some (.int .i64 k) ∧ W.cell? ⟨Y1, 1, none⟩ = some (.int .i64 c) ∧ W.cell? ⟨Y1, 2, none⟩ = some (.int .i64 b) ∧ W.cell? ⟨Y1, 3, none⟩ = some (.int .i64 t) ∧ W.cell? ⟨Y1, 4, none⟩ = some (.int .i64 d) ∧ W.cell? ⟨Y1, 5, none⟩ = some (.int .i64 lf) ∧ W.cell? ⟨Y1, 6, none⟩ = some (.int .i64 p) ∧ W.cell? ⟨Y1, 7, none⟩ = some (.int .i64 r) ∧ W.cell? ⟨Y1, 8, none⟩ = some (.int .i64 q) ∧ W.cell? ⟨Y1, 9, none⟩ = some (.slice A1 nV c1) ∧ W.cell? ⟨Y1, 10, none⟩ = some (.slice A2 nT c2)) ∧ W.cell? ⟨Y2, 0, none⟩ = some (.int .i64 k) ∧ W.cell? ⟨Y2, 1, none⟩ = some (.int .i64 c) ∧ W.cell? ⟨Y2, 2, none⟩ = some (.int .i64 b) ∧ W.cell? ⟨Y2, 3, none⟩ = some (.int .i64 t) ∧ W.cell? ⟨Y2, 4, none⟩ = some (.int .i64 d) ∧ W.cell? ⟨Y2, 5, none⟩ = some (.int .i64 lf) ∧ W.cell? ⟨Y2, 6, none⟩ = some (.int .i64 p) ∧ W.cell? ⟨Y2, 7, none⟩ = some (.int .i64 r) ∧ W.cell? ⟨Y2, 8, none⟩ = some (.int .i64 q) ∧ W.cell? ⟨Y2, 9, none⟩ = some (.slice A3 nV c3) ∧ W.cell? ⟨Y2, 10, none⟩ = some (.slice A4 nT c4))) (by kernel_rfl) (And.intro Q.a.cells Q.b.cells) (fun hHeld => ?_)
  refine takeQ (i := 0) (v := ?_) rfl (by kernel_rfl) (by kernel_rfl) (by kernel_rfl) (fun _ _ _ h => h) (by rfl) hHeld ?_ ?_
  rotate_left
  · (intro w' hSw; (try dsimp only at hSw); go_simp <;> (with_reducible rfl))
  try simp only [Act.put, List.setIfInBounds_toArray, List.set_cons_zero, List.set_cons_succ]
  refine takeQ (i := 1) (v := ?_) rfl (by kernel_rfl) (by kernel_rfl) (by kernel_rfl) (fun _ _ _ h => h) (by rfl) hHeld ?_ ?_
  rotate_left
  · (intro w' hSw; (try dsimp only at hSw); go_simp <;> (with_reducible rfl))
  try simp only [Act.put, List.setIfInBounds_toArray, List.set_cons_zero, List.set_cons_succ]
  refine takeQ (i := 2) (v := ?_) rfl (by kernel_rfl) (by kernel_rfl) (by kernel_rfl) (fun _ _ _ h => h) (by rfl) hHeld ?_ ?_
  rotate_left
  · (intro w' hSw; (try dsimp only at hSw); go_simp <;> (with_reducible rfl))
  try simp only [Act.put, List.setIfInBounds_toArray, List.set_cons_zero, List.set_cons_succ]
  refine takeQ (i := 3) (v := ?_) rfl (by kernel_rfl) (by kernel_rfl) (by kernel_rfl) (fun _ _ _ h => h) (by rfl) hHeld ?_ ?_
  rotate_left
  · (intro w' hSw; (try dsimp only at hSw); go_simp <;> (with_reducible rfl))
  try simp only [Act.put, List.setIfInBounds_toArray, List.set_cons_zero, List.set_cons_succ]
  refine takeQ (i := 4) (v := ?_) rfl (by kernel_rfl) (by kernel_rfl) (by kernel_rfl) (fun _ _ _ h => h) (by rfl) hHeld ?_ ?_
  rotate_left
  · (intro w' hSw; (try dsimp only at hSw); go_simp <;> (with_reducible rfl))
  try simp only [Act.put, List.setIfInBounds_toArray, List.set_cons_zero, List.set_cons_succ]
  refine takeQ (i := 6) (v := ?_) rfl (by kernel_rfl) (by kernel_rfl) (by kernel_rfl) (fun _ _ _ h => h) (by rfl) hHeld ?_ ?_
  rotate_left
  · (intro w' hSw; (try dsimp only at hSw); go_simp <;> (with_reducible rfl))
  try simp only [Act.put, List.setIfInBounds_toArray, List.set_cons_zero, List.set_cons_succ]
  refine callL (i := 5) (by kernel_rfl) rfl (by rfl) (fun K hK => ?_)
  go_simp
  refine (hof _ Q.v).mono ?_
  rintro _ w5 ⟨⟨v5, rfl, o5⟩, b5⟩
  replace Q := Q.below b5
  obtain ⟨A5, c5, rfl, _, _, _, h5⟩ := o5.holds
  rw [nums_len, HNV.out]
  clear b5 o5
  try dsimp only
  refine hK.out _ _ (And.intro Q.a.cells Q.b.cells) (fun hHeld => ?_)
  clear hK K
  try simp only [Act.put, List.setIfInBounds_toArray, List.set_cons_zero, List.set_cons_succ]
  refine callL (i := 7) (by kernel_rfl) rfl (by rfl) (fun K hK => ?_)
  go_simp
  refine (hsm A5 c5 _ h5 Q.t Q.u Q.s).mono ?_
  rintro _ w6 ⟨rfl, b6⟩
  replace Q := Q.below b6
  clear b6
  try dsimp only
  refine hK.out _ _ (And.intro Q.a.cells Q.b.cells) (fun hHeld => ?_)
  clear hK K
  try simp only [Act.put, List.setIfInBounds_toArray, List.set_cons_zero, List.set_cons_succ]
  refine takeQ (i := 8) (v := ?_) rfl (by kernel_rfl) (by kernel_rfl) (by kernel_rfl) (fun _ _ _ h => h) (by rfl) hHeld ?_ ?_
  rotate_left
  · (intro w' hSw; (try dsimp only at hSw); go_simp <;> (with_reducible rfl))
  try simp only [Act.put, List.setIfInBounds_toArray, List.set_cons_zero, List.set_cons_succ]
  refine takeQ (i := 9) (v := ?_) rfl (by kernel_rfl) (by kernel_rfl) (by kernel_rfl) (fun _ _ _ h => h) (by rfl) hHeld ?_ ?_
  rotate_left
  · (intro w' hSw; (try dsimp only at hSw); go_simp <;> (with_reducible rfl))
  try simp only [Act.put, List.setIfInBounds_toArray, List.set_cons_zero, List.set_cons_succ]
  refine wpAnyH_done (by kernel_rfl) ?_ _
  clear hHeld hof hsm HQ4 ge
  by_cases hz : E = 0
  case neg =>
    have g5 : (E != 0) = true := by simpa using hz
    have bel := Q.bel
    clear Q hz
    go_wp2_with fail
    refine (fixed_any _).mono ?_
    rintro e w7 ⟨rfl, b7⟩
    have HB := Lib.hid (bel.trans (b7.mono bel.size))
    clear bel b7
    go_wp2_with fail
    go_ret
    exact ⟨rfl, HB.out⟩
  case pos =>
  have hf : fuE l = 0 := HE.out.trans hz
  have gt := fu_parts hf
  have e1 : eD k c b t d lf p r q V T = 0 := by
    rw [← Hk.out, ← Hc.out, ← Hb.out, ← Ht.out, ← Hd.out, ← Hlf.out, ← Hp.out, ← Hr.out, ← Hq.out, ← HV.out, ← HT.out]
    unfold aK aR aQ aV aT
    simp only [hf, if_true]
    exact g_ok gt.1
  have e2 : dsb k c b t d lf p r q V T = l := by
    rw [← Hk.out, ← Hc.out, ← Hb.out, ← Ht.out, ← Hd.out, ← Hlf.out, ← Hp.out, ← Hr.out, ← Hq.out, ← HV.out, ← HT.out]
    unfold aK aR aQ aV aT
    simp only [hf, if_true]
    exact g_bytes gt.1 gt.2
  have er : r = (gr l : Int) := by rw [← Hr.out]; exact if_pos hf
  have eq : q = (gq l : Int) := by rw [← Hq.out]; exact if_pos hf
  have e3 : ∀ z ∈ V, z < 18446744073709551616 := by rw [← HV.out]; unfold aV; rw [if_pos hf]; exact gVs_lt l
  have hp := dput_any k c b t d lf p r q A1 A2 nV c1 nT c2 V T HNV.out HNT.out (by rw [er]; exact (gr_small l).1) (by rw [eq]; exact (gr_small l).2) HSS.out.1 HSS.out.2 e3 w6 Q.v Q.t
  have hp2 : Calls Try.prog 9 #[ds k c b t d lf p r q (.slice A1 nV c1) (.slice A2 nT c2)] w6 fun e w' => ∃ v, e = .returned (.tuple #[v, .int .i64 0]) ∧ Own KB w' w6.heap.size v l ∧ Below w6.heap.size w6 w' := by
    refine hp.mono ?_
    rintro e w' ⟨v, rfl, hput, hb⟩
    exact ⟨v, by rw [e1], by have := hput.1 e1; rw [e2] at this; exact this, hb⟩
  have E0 : E = 0 := hz
  clear hp e1 e2 er eq e3 gt hf hz
  subst E0
  unfold ds at hp2
  have hx6 := Q.x
  have bel := Q.bel
  obtain ⟨c0, c1', c2', c3', c4', c5', c6, c7, c8, c9, c10⟩ := Q.a.cells
  clear Q
  go_wp2_with fail
  refine hp2.mono ?_
  rintro e w7 ⟨vb, rfl, ob, b7⟩
  obtain ⟨a7, cp7, rfl, hn7, _, _, h7⟩ := ob.holds
  have hx7 := hx6.below b7
  have bel7 := bel.trans (b7.mono bel.size)
  rw [HL.out]
  clear hp2 ob b7 hx6 bel c0 c1' c2' c3' c4' c5' c6 c7 c8 c9 c10
  go_wp2_with fail
  refine (fixed_any _).mono ?_
  rintro e w8 ⟨rfl, b8⟩
  have k1 := hmk w8 (hx7.below b8)
  have k2 := run_str w8 a7 n cp7 l HL.out (h7.below b8)
  have HB := Lib.hid (bel7.trans (b8.mono bel7.size))
  have qs : ((sb l).toList == (sb l).toList) = true := beq_self_eq_true _
  clear b8 bel7 hx7 h7 hmk
  generalize sb l = SX at *
  go_wp2_with fail
  go_ret
  exact ⟨rfl, HB.out⟩
end Go.Proofs.Ytbmbgfmhejahjaa
